import PyProof.Rows.All
import Wide.All
import OpenK.AllK
import Wide.FinOn
import Lean
import PyProof.EqAt
import PyProof.EqKinds
import PyProof.TupleCall
import PySem.Challenge.RW_beatplans_k64_things_that_are_no_papers
noncomputable section
set_option compiler.extract_closed false
set_option Elab.async false
set_option linter.all false
set_option maxRecDepth 100000
set_option maxHeartbeats 8000000
open List renaming all_cons → Ybl, any_cons → Ybz, append_assoc → YcT, append_nil → Ycq, cons_append → Ygk, contains_cons → Yby, dropLast_eq_take → Yfb, drop_eq_getElem_cons → Ybk, drop_length → Ycz, drop_zero → Yds, eraseIdxIfInBounds_toArray → YdZ, eraseIdx_cons_succ → YeS, ext_getElem → Ygj, filterMap_cons → YbJ, filterMap_nil → YfP, filter_append → YbQ, filter_cons_of_neg → YeR, filter_cons_of_pos → Yc0, find? → YeM, find?_cons → Ya2, findIdx?_cons → YcJ, flatten_cons → Ybr, foldl → YdY, foldl_append → YdX, foldl_cons → Yeo, getD → YbL, getD_eq_getElem?_getD → YaD, getElem?_append_left → Ybj, getElem?_append_right → Yb8, getElem?_eq_getElem → Yad, getElem?_eq_none → Yb1, getElem?_map → Yav, getElem?_range → Ydy, getElem?_replicate → YeQ, getElem?_set_ne → YaS, getElem?_set_self → Ybi, getElem_mem → YaQ, getElem_of_mem → Ydx, length_append → Yaw, length_cons → YaT, length_drop → Ygi, length_map → Yaa, length_nil → YcE, length_range → Yf3, length_replicate → Ydc, length_set → YcD, length_singleton → YaW, length_take → Yea, length_zip → Yen, lookup → Ybt, lookup_cons → YaZ, map_append → YaL, map_congr_left → YfB, map_cons → YaM, map_fst_zip → Ygh, map_nil → Yd5, mem_append_left → Ya8, mem_append_right → YaN, mem_cons → Yau, mem_cons_of_mem → Yal, mem_cons_self → Yat, mem_of_find?_eq_some → YeA, mem_of_getElem? → Yaq, mem_of_mem_drop → Yfr, mem_of_mem_take → Yfq, mem_or_eq_of_mem_set → Ycj, nil_append → YbG, nodup_nil → Yez, not_mem_nil → Yam, of_mem_zip → Ydb, range → YaC, range_succ → YbF, replicate → Yab, replicate_succ → YaX, set_comm → YdR, set_cons_succ → YdQ, size_toArray → Yak, sum_cons → YcZ, take_length → Ybg, take_of_length_le → Ye5, take_sublist → Yf2, take_succ → Ybq, zip_cons_cons → YdP
open PySem.W renaming BT → Ycr, Frag → Yac, OpenLaw → Yd2, WalkO → Ygg, boot_heap → YbW, boot_o_0 → Ycg, boot_o_1 → YbH, boot_o_10 → YbV, boot_o_2 → Ycf, boot_o_3 → Yfy, boot_o_4 → Yce, boot_o_5 → Ycd, boot_o_6 → Ycc, boot_o_7 → Ycb, boot_o_8 → Yca, boot_o_9 → Yb9, callWith_K → Yfa, cellsFrom_some → YcV, codeIn → Ybx, codeRec_of → Ye9, findIn → YcG, fnOf → Yba, instObj → Yd1, keepIn → Ybc, kia_one → Ybd, kitOne → Yda, kitx_dict → Yfo, kitx_list → Yfn, lookIn → Yeh, methodObj → YdH, mg_of → YcP, nsIn → Ybf, piece_app → YdG, piecesOf → YdT, plainGet → Yfx, segRunT → Yd0, segRun_of → YdF, specialIn → Yfm, topRun → Yf0, topStub → YfN
open PySem renaming Arguments → Ygl, Comprehension → Ydl, DictEntry → Yej, ExcBaseFacts → YeB, FuncData → Ydk, NameKind → YbE, Operator → YdO, PassesOwn → Yc9, Spec → YaH, StoreFacts → Yc8, assignEach → Ya4, assignInOrder → Yde, attributeBase → Yck, behindInMarks → Yef, binaryOp → Ybh, bindName → YcC, bootBuiltins → YbN, builtinLookup_eq_fast → YbC, builtinsNs → YdM, call → YfM, call_meets → YbY, cellsFrom → Ybm, checkBuiltinCall → Ydm, codeAny_call_builtin → YdS, codeAny_call_function → Yge, codeAny_mono → YdE, compTurn → YdL, compareOp → YaV, concat_meets → Ygd, excClassObj → YcO, foldedForSure → YfK, foldedSetIterable → Yay, inplaceOp → Yee, isInstance → Yfv, keywordEach → Ye0, lastMarks → Ygc, letOwnedTupleGo → YcN, lookupAlong_cons → YeF, mainGlobals → YaF, mem_of_lookup → YaE, newFunctionEnv → Yfi, noFill_tuple_add → YeE, noteFrame → Ygb, post_val_or_str → YdD, pushCells → YeZ, repr_of_reads' → Yfh, seqIndex? → Yed, seqIndex_neg → Yga, seqSlot_of → YfZ, seq_tuple_add → YfJ, setFlight → Yec, sizeLine → Yai, sizeLine_eq → YbP, sliceBounds → YcM, starEach → YaA, strLen_append → YfI, swappedStores → Ya0, swapsWith → YbU, swapsWithSole → Ybb, sysModules → Ya9, treeTable → Yc7, tupleKind → YeY, tupleKind_room_in1 → YcY, typeIs_int → Yes, typeIs_str → Yer, typeLookup → Ya3, typeLookup_eq → YfH, typeLookup_type → Ycu, wpAny_Call_Name_kw → Yb6, wpAny_binaryOp_repeat_ref → Yfg, wpAny_bind → Yae, wpAny_bindName → Yc2, wpAny_callSpecial?_slot → Ydd, wpAny_call_entry → YeD, wpAny_comprehension_free → Yfu, wpAny_execs_cons → YcF, wpAny_execs_nil → YcL, wpAny_field → YcB, wpAny_getItem_str_slice → Yct, wpAny_holding → Ybo, wpAny_isSubtype_exc → YbO, wpAny_letOwnedTupleGo_enum → Ye8, wpAny_loadPart_at → YaB, wpAny_mono → YaY, wpAny_mroOf_exc → YeX, wpAny_newFunctionEnv_cells → Ye7, wpAny_newObj_type → Ybv, wpAny_passesOwn → Ych, wpAny_pure → Yap, wpAny_pyIter_enum → Yc6, wpAny_pyIter_list → YcA, wpAny_pyIter_tuple → Yeb, wpAny_pyNext_enum_endD → YfW, wpAny_pyNext_enum_itemD → YfG, wpAny_pyNext_list_end → Yf9, wpAny_pyNext_list_item → YfV, wpAny_rule → Yeq, wpAny_setField → Yc1, wpAny_standAt → Ybn, wpAny_truthy_bool → Ybe, wpAny_typeOf → Yex
open PySem.Heap renaming SameBut → Ycw, get?_none_of_le → Ydp, get?_push_at → Yf5, get?_push_ne → Yf4, get?_push_of_some → Yaf, get?_push_size → Yax, get?_update_ne → YfC, get?_update_other → Yc5, get?_update_self → Yb2, lt_size → Yan, size_push → Ycv
open Nat renaming add_le_add → YeL, add_le_add_left → YdJ, add_le_add_right → YfA, add_zero → Ydh, le_of_eq → Yd9, le_of_lt → Ycp, le_refl → Yah, le_succ → YdI, le_trans → Yag, lt_irrefl → Ya6, lt_of_le_of_lt → YbB, lt_of_lt_of_le → Yas, lt_succ_of_lt → Yd4, lt_trans → Ydg, mul_comm → YcK, mul_le_mul → Ydw, mul_le_mul_right → Ydr, ne_of_lt → Yaz, not_lt_zero → Ycs, succ_le_succ → Ycm, zero_add → YbI, zero_le → YaP
open Bool renaming and_eq_true → Yao, and_false → YeC, eq_iff_iff → Ybu, false_eq_true → YbA, false_ne_true → Yaj, false_or → YeV, not_eq_true' → Ybs, not_not → Yff, or_eq_true → Yb4, or_true → Ycx
open Option.some renaming inj → Yar, injEq → YeJ
open Int renaming emod_add_mul_ediv → Yft, emod_lt_of_pos → YdV, emod_nonneg → Ydj, eq_ofNat_of_zero_le → YaG, le_ediv_iff_mul_le → Yfc, le_refl → YcH, le_trans → Ydi, natCast_nonneg → YdU, toNat_natCast → Ya7, toNat_of_nonneg → YfQ
open PySem.PyData renaming canLayAll0 → YaR, depthAll → YaI, eqv → YaJ, eqvAll → Yb0, int → Yfz, showable → Yc4, showableAll → Yfp, shown → Ycl, shownAll → YbT
open PySem.NameKind renaming cell → YaK, free → YaO
open PySem.W.Fast renaming te10110043849684766642 → YbZ, te14364793385576792824 → YaU, te5923862056798008813 → Yc3
open List.cons renaming inj → Ya1, injEq → Yfs
open PySem.Value renaming bool → Yey, builtin → YcU, int → Yeg, none → YbD, ref → Ya5, str → Ye1
open PyProof.Rows renaming assignInOrder_cons → Yb7, assignInOrder_nil → Yet, boot_isinstance → Ydq, callWith_type1 → Ybp, slot_tuple_getitem → Ybw, subscriptTail_builtinR → YfX
open PySem.Obj renaming data_mapFields → Yf1, isFreed_of_fields → Ydf, mapFields → YbK, mapSeq → Yd3
open True renaming intro → YbM
open PySem.Builtin.Slice renaming sliceAdjust → Ycy, sliceApplied → YdC, slicePlaces → YbR
open PySem.Str renaming empty → Yfk, join → YbS, ofString → Yco
open Array renaming append_assoc → YfF, find?_toList → YdK, getElem?_setIfInBounds_self_of_lt → YbX, getElem?_toList → Ye6, length_toList → Ydu, size_append → YfU
open PySem.Builtin.Tuple renaming tupleExact → Yb3, tupleIsExact → YdB, tupleItemsOf → YdA, tupleTooMany → Ydz
open PySem.Builtin.List renaming listTooLong → Yb5
open PySem.Builtin.Str renaming occurrences → Yci
open Sum.inr renaming injEq → Ycn
open PySem.F renaming args_object_init_2 → Yf6, args_tuple_add_2 → YcI, args_tuple_mul_2 → Yd6, entry_enumerate_new → YfS, entry_tuple_add → YcR, entry_tuple_mul → Yei, newCall_enumerate_1 → YfR, plainAttrs_list → YcQ, slot_int_rmul → Ydt, slot_tuple_add → YcW, slot_tuple_iterator_next → YeT, slot_tuple_mul → Yew, typeCall_enumerate_1 → YfD
open False renaming elim → YcS
open PySem.Around renaming in1_units → YcX, under → YeW
open PySem.W.Hook renaming obs → Ydo, val → Ydn
open PySem.Paired renaming length → Ydv
open Option renaming getD_none → YfO, isSome_map → YdN, map → Yeu, map_eq_none_iff → YeK, none_or → Yem, some_or → Yel
open PySem.Builtin.Range renaming rangeSize → YdW
open Classical renaming byContradiction → Yd7
open PySem.Txt renaming slice → Yfj, slice_le → Yd8
open PySem.AutoSeq1 renaming wpAny_loadPart' → Yek
open PySem.Calls renaming Name_function_global → Yep, callWith_builtin → YeU, spliced_cons → YfE
open List.Pairwise renaming nil → Yev
open PySem.StrLaws renaming glued_eq_join → YeG
open PySem.SeqAt.EqAt renaming int_str → YeI, str_int → YeH
open PySem.ScopeKind renaming function → YeN
open PySem.Draws renaming list → YeO
open PySem.Manifest renaming signature? → YeP
open Sum.inl renaming inj → Ye2
open PySem.PyData.list renaming inj → Ye3
open PySem.PassesOwn renaming looking → Ye4
open PySem.Flow renaming next → Yfd
open PySem.Code renaming isFrame → Yfe, quiet_builtin → YfT
open PySem.SeqAt renaming EqAt → YfL, in_listAt → Ygf, in_tupleAt → YfY, notIn_listAt → Yfw, notIn_tupleAt → Yfl
open PySem.Builtin.SmallTypes renaming nextOf → Yf8, stopIteration → Yf7
namespace L2
open PySem PySem.Spec PyProof.Rows

abbrev Key:=Sum Int Str
noncomputable def jgY  : Key->Value->Bool
 |.inl k,v=>Value.isInt k v
 |.inr x,v=>Value.isStrOf x v
noncomputable def keyH  (w:World):Key->Int
 |.inl k=>hashInt k
 |.inr x=>hashStr w x
def jaw  : ∀{k } {v },jgY k v=true->(∃i t,k=Sum.inl i/\v=Yeg i t)\/(∃x t,k=Sum.inr x/\v=Ye1 x t)
 |.inl i,v,h=>by
  obtain⟨t,e⟩:=Value.isInt_shape (k:=i) (v:=v) h;exact .inl ⟨i,t,rfl,e⟩
 |.inr x,v,h=>by
  obtain⟨t,e⟩:=Value.isStrOf_shape (x:=x) (v:=v) h;exact .inr ⟨x,t,rfl,e⟩
def jh0   i t:jgY (.inl i) (.int i t)=true:=by simp[jgY,Value.isInt]
def jhZ   x t:jgY (.inr x) (.str x t)=true:=by simp[jgY,Value.isStrOf]
def jnr   a b:decide ((Sum.inl a:Key)=Sum.inl b)=(a==b):=by
 by_cases e:a=b
 ·subst e;simp
 ·have h:¬(Sum.inl a:Key)=Sum.inl b:=λq=>e (Ye2 q);rw[decide_eq_false h];exact(beq_eq_false_iff_ne.mpr e).symm
def jno   a b:decide ((Sum.inr a:Key)=Sum.inr b)=decide (a=b):=by
 by_cases e:a=b
 ·subst e;simp
 ·have h:¬(Sum.inr a:Key)=Sum.inr b:=λq=>e (Sum.inr.inj q);rw[decide_eq_false h,decide_eq_false e]
def jnq   a b:decide ((Sum.inl a:Key)=Sum.inr b)=false:=decide_eq_false (λq=>nomatch q)
def jnp   a b:decide ((Sum.inr a:Key)=Sum.inl b)=false:=decide_eq_false (λq=>nomatch q)

def jay   prog w:PySem.KeyKind prog w Key where
 is:=jgY
 hash:=keyH w
 inj:=λv a b ha hb=>by
  rcases jaw ha with⟨i,t,rfl,rfl⟩|⟨x,t,rfl,rfl⟩
  ·rcases jaw hb with⟨j,u,rfl,e⟩|⟨y,u,rfl,e⟩
   ·injection e with e1 _;rw[e1]
   ·exact nomatch e
  ·rcases jaw hb with⟨j,u,rfl,e⟩|⟨y,u,rfl,e⟩
   ·exact nomatch e
   ·injection e with e1 _;rw[e1]
 byValue:=λk v h=>by
  rcases jaw h with⟨i,t,rfl,rfl⟩|⟨x,t,rfl,rfl⟩<;>rfl
 pyHash:=λhv h=>by
  rcases jaw hv with⟨i,t,rfl,rfl⟩|⟨x,t,rfl,rfl⟩
  ·exact wpAny_pyHash_int h
  ·exact wpAny_pyHash_str h
 eqBool:=λhu hv h=>by
  rcases jaw hu with⟨i,t,rfl,rfl⟩|⟨x,t,rfl,rfl⟩
  ·rcases jaw hv with⟨j,u,rfl,rfl⟩|⟨y,u,rfl,rfl⟩
   ·rw[jnr]at h;exact wpAny_eqBool_int h
   ·rw[jnq]at h;exact YeI i t y u _ _ _ _ h
  ·rcases jaw hv with⟨j,u,rfl,rfl⟩|⟨y,u,rfl,rfl⟩
   ·rw[jnp]at h;exact YeH x t j u _ _ _ _ h
   ·rw[jno]at h;exact wpAny_eqBool_str h
 «strs»:=λk x t v h=>by
  rcases jaw h with⟨i,u,rfl,e⟩|⟨y,u,rfl,e⟩
  ·exact nomatch e
  ·injection e with e1 _
   subst e1
   cases v<;>rfl

def jft   prog w i t:(jay prog w).is (.inl i) (.int i t)=true:=jh0 i t
def jfs   prog w x t:(jay prog w).is (.inr x) (.str x t)=true:=jhZ x t

inductive V where
 |non|bl (b:Bool)|int (i:Int)|str (x:Str)|byt (b:Array UInt8)|flt (b:UInt64)|ref (a:Addr)|ty (n:String)
 deriving DecidableEq

def RelV  : V->Value->Prop
 |.non,u=>u=YbD
 |.bl b,u=>u=Yey b
 |.int i,u=>∃t,u=Yeg i t
 |.str x,u=>∃t,u=Ye1 x t
 |.byt b,u=>∃t,u=Value.bytes b t
 |.flt b,u=>∃t,u=Value.float b t
 |.ref a,u=>u=Ya5 a
 |.ty n,u=>u=Value.type n

abbrev Vals  : List V->List Value->Prop:=Paired RelV
def Vals.length    (r:Vals xs us):xs.length=us.length:=Ydv r
theorem Vals.get  : ∀{xs } {us } {i:Nat} {x },Vals xs us->xs[i]?=some x->∃u,us[i]?=some u/\RelV x u
 |_,_,_,_,.nil,e=>by simp at e
 |_,_,0,_,.cons r _,e=>by simp at e;subst e;exact⟨_,rfl,r⟩
 |_,_,i+1,x,.cons _ t,e=>by
  obtain⟨u,h1,h2⟩:=Vals.get (i:=i) (x:=x) t (by simpa using e)
  exact⟨u,by simpa using h1,h2⟩
theorem Vals.set    (r:RelV x u):∀{xs } {us } i ,Vals xs us->Vals (xs.set i x) (us.set i u)
 |_,_,_,.nil=>.nil
 |_,_,0,.cons _ t=>.cons r t
 |_,_,i+1,.cons q t=>.cons q (Vals.set r i t)
theorem Vals.append  : ∀{xs ys } {us ws },Vals xs us->Vals ys ws->Vals (xs++ys) (us++ws)
 |_,_,_,_,.nil,s=>s
 |_,_,_,_,.cons r t,s=>.cons r (Vals.append t s)
theorem Vals.take  : ∀{xs } {us } n ,Vals xs us->Vals (xs.take n) (us.take n)
 |_,_,0,_=>.nil
 |_,_,_+1,.nil=>.nil
 |_,_,n+1,.cons r t=>.cons r (Vals.take n t)
theorem Vals.drop  : ∀{xs } {us } n ,Vals xs us->Vals (xs.drop n) (us.drop n)
 |_,_,0,r=>r
 |_,_,_+1,.nil=>.nil
 |_,_,n+1,.cons _ t=>Vals.drop n t
def RelO  : Option V->Option Value->Prop
 |some v,some u=>RelV v u
 |none,none=>True
 |_,_=>False
def KV  {κ:Type}:List (κ×V)->List (κ×Value)->Prop:=Paired λ(p:κ×V) (q:κ×Value)=>p.1=q.1/\RelV p.2 q.2

noncomputable def kV  : Key->V
 |.inl i=>.int i
 |.inr x=>.str x

inductive HO where
 |lst (xs:List V)
 |tup (xs:List V)
 |dK (kvs:List (Key×V))|dT (kvs:List (List Key×V))
 |set (S:Int->Bool) (n:Nat)
 |ins (C dx:Addr) (fs:List (Str×V))
 |own (x:Addr)
 |xd (fs:List (Str×V))
 |met (f x:Addr)
 |rng (lo hi:Int)
 |frz (o:Obj) (u:HO)
 |tbl (ps:Array Value)
 |ext (φ:Heap->Prop)

abbrev Hp:=Addr->Option HO
noncomputable def upd  (H:Hp)(a:Addr)(o:HO):Hp:=λb=>if b=a then some o else H b
def jai     : upd H a o a=some o:=by unfold upd;rw[if_pos rfl]
def jac     (h:b≠a):upd H a o b=H b:=by unfold upd;rw[if_neg h]
def jpx  {H:Hp}(h:H a=some o)(h':H b=some u)(d:o≠u):a≠b:=by
 intro e;subst e;rw[h]at h';exact d (Yar h')
def jah  {H:Hp}(h:H a=some o)(h':H b=none):a≠b:=by
 intro e;subst e;rw[h]at h';cases h'

def TupD  (h:Heap)(a:Addr)(items:Array Value):Prop:=∃o,h.get? a=some o/\o.cls=.type "tuple" /\ ∃n,o.data=.seq items n/\o.dict=none
def TupD.tup     (x:TupD h a items):IsTup h a items:=let ⟨o,e,c,n,d,_⟩:=x;⟨o,e,c,n,d⟩
def TupD.new  (h:Heap) items:TupD (h.push { cls:=.type "tuple",data:=.seq items }) h.objs.size items:=⟨_,Yax _ rfl,rfl,_,rfl,rfl⟩
section
variable (P:Program)(w:World)
def jaB (H:Hp)(h:Heap)(a:Addr):HO->Prop
 |.lst xs=>xs.length<=Yai/\∃(its:List Value) (n:Nat),Vals xs its/\h.get? a=some { cls:=.type "list",data:=.seq its.toArray n }
 |.tup xs=>xs.length<=Yai/\∃its:List Value,Vals xs its/\TupD h a its.toArray
 |.dK kvs=>kvs.length<=Yai/\(a==Ya9)=false/\∃vs,KV kvs vs/\h.DictOf (jay P w) a vs
 |.dT kvs=>kvs.length<=Yai/\(a==Ya9)=false/\∃xs:List (List Key×Addr×Value),
   Paired (λ(p:List Key×V) (q:List Key×Addr×Value)=>p.1=q.1/\H q.2.1=some (.tup (p.1.map kV))/\RelV p.2 q.2.2) kvs xs/\
   ∃o es ep,h.get? a=some o/\o.ExactDict/\o.data=.dict es ep/\es.toList=xs.map (entryOfKey (YeY (jay P w)))/\(xs.map (·.1)).Nodup
 |.set S n=>h.SetOf (intKind P w) a S n
 |.ins C dx fs=>H dx=some (.own a)/\fs.length<=1000/\dx≠a/\h.get? a=some (Yd1 C dx)/\
   ∃mA,h.Ns1 dx mA/\(∀f,RelO (fs.lookup f) (mA f))/\PySem.Within mA (fs.map (·.1))
 |.own _=>∃o,h.get? a=some o
 |.xd fs=>∃mA,h.Ns1 a mA/\∀f,RelO (fs.lookup f) (mA f)
 |.rng lo hi=>∃t u v,h.get? a=some { cls:=.type "range",data:=.fields #[.int lo t,.int hi u,.int 1 v] }
 |.frz o u=>h.get? a=some o/\jaB H h a u
 |.tbl ps=>h.get? a=some { cls:=.none,data:=.fields ps }
 |.met f x=>h.get? a=some (YdH (.ref f) (.ref x))
 |.ext φ=>φ h/\(∃o,h.get? a=some o)/\∀h1 h2:Heap,φ h1->(∀o,h1.get? a=some o->h2.get? a=some o)->φ h2
def HOk (H:Hp)(h:Heap):Prop:=∀a o,H a=some o->jaB P w H h a o
end


theorem jaB.lt  (x:jaB P w H h a o):a<h.objs.size:=by
 cases o with
 |lst xs=>obtain⟨_,_,_,_,e⟩:=x;exact Yan e
 |tup xs=>obtain⟨_,_,_,p⟩:=x;exact p.tup.lt
 |dK kvs=>obtain⟨_,_,_,_,o,_,_,e,_⟩:=x;exact Yan e
 |dT kvs=>obtain⟨_,_,_,_,o,_,_,e,_⟩:=x;exact Yan e
 |set S n=>obtain⟨o,_,_,_,e,_⟩:=x;exact Yan e
 |ins C dx fs=>obtain⟨_,_,_,e,_⟩:=x;exact Yan e
 |own y=>obtain⟨_,e⟩:=x;exact Yan e
 |xd fs=>obtain⟨_,⟨_,_,_,e,_⟩,_⟩:=x;exact Yan e
 |rng lo hi=>obtain⟨_,_,_,e⟩:=x;exact Yan e
 |frz ob u=>obtain⟨e,_⟩:=x;exact Yan e
 |tbl ps=>exact Yan (show h.get? a=some _ from x)
 |met f y=>exact Yan (show h.get? a=some _ from x)
 |ext φ=>obtain⟨_,⟨_,e⟩,_⟩:=x;exact Yan e
theorem Paired.mapP    : ∀{l₁ } {l₂ },Paired F l₁ l₂->(∀a b,F a b->G a b)->Paired G l₁ l₂
 |_,_,.nil,_=>.nil
 |_,_,.cons r t,f=>.cons (f _ _ r) (Paired.mapP t f)
def jaB.stay  (x:jaB P w H h a o)(k:∀b u,(b=a\/H b=some (.own a))->h.get? b=some u->h'.get? b=some u)
  (ho:∀b,H b=some (.own a)->H' b=some (.own a)) (ht:∀b xs,H b=some (.tup xs)->H' b=some (.tup xs)):jaB P w H' h' a o:=by
 induction o with
 |lst xs=>obtain⟨z,its,n,r,e⟩:=x;exact⟨z,its,n,r,k _ _ (.inl rfl) e⟩
 |tup xs=>obtain⟨z,its,r,ob,e,c⟩:=x;exact⟨z,its,r,ob,k _ _ (.inl rfl) e,c⟩
 |dK kvs=>obtain⟨z,y,vs,r,ob,es,ep,e,c⟩:=x;exact⟨z,y,vs,r,ob,es,ep,k _ _ (.inl rfl) e,c⟩
 |dT kvs=>
  obtain⟨z,y,xs,r,ob,es,ep,e,c⟩:=x;exact⟨z,y,xs,Paired.mapP r λp q z=>⟨z.1,ht _ _ z.2.1,z.2.2⟩,ob,es,ep,k _ _ (.inl rfl) e,c⟩
 |set S n=>obtain⟨ob,es,ep,t,e,c⟩:=x;exact⟨ob,es,ep,t,k _ _ (.inl rfl) e,c⟩
 |ins C dx fs=>
  obtain⟨d,z,ne,e,mA,⟨od,es,ep,e2,c⟩,r⟩:=x;exact⟨ho _ d,z,ne,k _ _ (.inl rfl) e,mA,⟨od,es,ep,k _ _ (.inr d) e2,c⟩,r⟩
 |own y=>obtain⟨ob,e⟩:=x;exact⟨ob,k _ _ (.inl rfl) e⟩
 |xd fs=>obtain⟨mA,⟨od,es,ep,e,c⟩,r⟩:=x;exact⟨mA,⟨od,es,ep,k _ _ (.inl rfl) e,c⟩,r⟩
 |rng lo hi=>obtain⟨t,u,v,e⟩:=x;exact⟨t,u,v,k _ _ (.inl rfl) e⟩
 |frz ob u ih=>obtain⟨e,q⟩:=x;exact⟨k _ _ (.inl rfl) e,ih q⟩
 |tbl ps=>
  have e:h.get? a=some { cls:=.none,data:=.fields ps }:=x;show h'.get? a=some { cls:=.none,data:=.fields ps };exact k a _ (.inl rfl) e
 |met f y=>
  have e:h.get? a=some (YdH (.ref f) (.ref y)):=x;show h'.get? a=some (YdH (.ref f) (.ref y));exact k a _ (.inl rfl) e
 |ext φ=>obtain⟨p,⟨o,e⟩,st⟩:=x;exact⟨st _ _ p λo q=>k _ _ (.inl rfl) q,⟨o,k _ _ (.inl rfl) e⟩,st⟩
def HOk.lt  (x:HOk P w H h)(e:H a=some o):a<h.objs.size:=(x a o e).lt
def HOk.fresh  {a: Addr}(x:HOk P w H h)(e:h.objs.size<=a):H a=none:=by
 cases q:H a with
 |none=>rfl
 |some u=>exact absurd (Yas (x.lt q) e) (Ya6 _)
def HOk.kept  (x:HOk P w H h)(k:∀b u,h.get? b=some u->h'.get? b=some u):HOk P w H h':=λa o e=>
 (x a o e).stay (λb u _ q=>k b u q) (λ_ q=>q) λ_ _ q=>q
def HOk.laid  {a: Addr}(x:HOk P w H h)(k:∀b u,h.get? b=some u->h'.get? b=some u)(hp:h.objs.size<=a)(new:jaB P w (upd H a o) h' a o):HOk P w (upd H a o) h':=λb u e=>by
 have hn:=x.fresh hp;by_cases hb:b=a
 ·subst hb;rw[jai]at e;cases e;exact new
 ·rw[jac hb]at e;exact(x b u e).stay (λc v _ q=>k c v q) (λc q=>by rw[jac (jah q hn)];exact q) λc xs q=>by rw[jac (jah q hn)];exact q

def Rd  (H:Hp)(a:Addr)(u:HO):Prop:=H a=some u\/∃o,H a=some (.frz o u)
def Rd.ok        (r:Rd H a u)(x:HOk P w H h):jaB P w H h a u:=by
 rcases r with r|⟨o,r⟩
 ·exact x a u r
 ·obtain⟨_,q⟩:=x a _ r;exact q
def Mut  : Option HO->Prop
 |some (.lst _)=>True
 |some (.dK _)=>True
 |some (.dT _)=>True
 |some (.set _ _)=>True
 |some (.ins _ _ _)=>True
 |some (.ext _)=>True
 |_=>False

def HOk.write  (ok:HOk P w H h)(mu:Mut (H x))(he:e=x\/H e=some (.own x))(k:∀b u,b≠e->h.get? b=some u->h'.get? b=some u)(heo:∃u,h'.get? e=some u)
  (new:jaB P w (upd H x o') h' x o'):HOk P w (upd H x o') h':=λb u q=>by
 have nown:∀c y,H c=some (.own y)->c≠x:=λc y r z=>by subst z;rw[r]at mu;exact mu
 have ntup:∀c xs,H c=some (.tup xs)->c≠x:=λc xs r z=>by subst z;rw[r]at mu;exact mu
 by_cases hb:b=x
 ·subst hb;rw[jai]at q;cases q;exact new
 ·rw[jac hb]at q;by_cases hbe:b=e
  ·have q':H b=some (.own x):=by
    rcases he with z|z
    ·exact absurd (hbe.trans z) hb
    ·rw[hbe];exact z
   rw[q]at q';cases q';obtain⟨v,hv⟩:=heo;exact⟨v,by rw[hbe];exact hv⟩
  ·refine(ok b u q).stay (λc v hc r=>k c v ?_ r) (λc r=>by rw[jac (nown c b r)];exact r) λc xs r=>by rw[jac (ntup c xs r)];exact r
   rcases hc with rfl|hc
   ·exact hbe
   ·rintro rfl;rcases he with z|z
    ·exact nown c b hc z
    ·rw[hc]at z;cases z;exact hb rfl

structure Un (fs ex:List Addr)(H H':Hp)(h h':Heap):Prop where
 keep:∀b o,h.get? b=some o->H b=none->b∉fs->b∉ex->h'.get? b=some o
 slot:∀b o,h.get? b=some o->H b=none->b∈fs->b∉ex->∃sl,h'.get? b=some { o with slots:=sl }
 free:∀b o,h.get? b=some o->H b=none->b∉ex->H' b=none
 there:∀b o,h.get? b=some o->b∉ex->∃o',h'.get? b=some o'
 tups:∀b xs,H b=some (.tup xs)->H' b=some (.tup xs)
 frzs:∀b o u,H b=some (.frz o u)->H' b=some (.frz o u)
 tbls:∀b ps,H b=some (.tbl ps)->∃more,H' b=some (.tbl (ps++more))

def Un.any  {H1: Hp}(u:Un fs ex H H1 h h1)(q:h.get? b=some ob)(n:H b=none)(hx:b∉ex):∃sl,h1.get? b=some { ob with slots:=sl }:=by
 by_cases hb:b∈fs
 ·exact u.slot b ob q n hb hx
 ·exact⟨ob.slots,u.keep b ob q n hb hx⟩
def Un.trans  {H1: Hp}{H2: Hp}(a:Un fs ex H H1 h h1)(b:Un fs ex H1 H2 h1 h2):Un fs ex H H2 h h2 where
 keep:=λc ob q n hc hx=>b.keep c ob (a.keep c ob q n hc hx) (a.free c ob q n hx) hc hx
 slot:=λc ob q n hc hx=>by
  obtain⟨sl,e1⟩:=a.slot c ob q n hc hx;obtain⟨sl',e2⟩:=b.slot c _ e1 (a.free c ob q n hx) hc hx;exact⟨sl',e2⟩
 free:=λc ob q n hx=>by
  obtain⟨o',e1⟩:=a.there c ob q hx;exact b.free c o' e1 (a.free c ob q n hx) hx
 there:=λc ob q hx=>by
  obtain⟨o',e1⟩:=a.there c ob q hx;exact b.there c o' e1 hx
 tups:=λc xs q=>b.tups c xs (a.tups c xs q)
 frzs:=λc ob xs q=>b.frzs c ob xs (a.frzs c ob xs q)
 tbls:=λc ps q=>by
  obtain⟨m1,e1⟩:=a.tbls c ps q;obtain⟨m2,e2⟩:=b.tbls c _ e1;exact⟨m1++m2,by rw[e2,YfF]⟩
def Un.kept  (k:∀b u,h.get? b=some u->h'.get? b=some u):Un fs ex H H h h':=
 ⟨λb ob q _ _ _=>k b ob q,λb ob q _ _ _=>⟨ob.slots,k b ob q⟩,λ_ _ _ n _=>n,λb ob q _=>⟨ob,k b ob q⟩,λ_ _ q=>q,λ_ _ _ q=>q,λ_ ps q=>⟨#[],by rw[q];simp⟩⟩
def Un.refl  : Un fs ex H H h h:=Un.kept λ_ _ q=>q
def Un.laid  {h: Heap}{a: Addr}(k:∀b u,h.get? b=some u->h'.get? b=some u)(hp:h.objs.size<=a)(hn:H a=none):Un fs ex H (upd H a o) h h' where
 keep:=λb u q _ _ _=>k b u q
 slot:=λb u q _ _ _=>⟨u.slots,k b u q⟩
 free:=λb u q n _=>by rw[jac (Yaz (Yas (Yan q) hp))];exact n
 there:=λb u q _=>⟨u,k b u q⟩
 tups:=λb xs q=>by rw[jac (jah q hn)];exact q
 frzs:=λb u xs q=>by rw[jac (jah q hn)];exact q
 tbls:=λb ps q=>⟨#[],by rw[jac (jah q hn),q];simp⟩
def Un.write  (mu:Mut (H x))(he:e=x\/H e=some (.own x))(k:∀b u,b≠e->h.get? b=some u->h'.get? b=some u)(heo:∃u,h'.get? e=some u):Un fs ex H (upd H x o) h h':=by
 have hx:∀b,H b=none->b≠x:=λb n z=>by subst z;rw[n]at mu;exact mu
 have hb:∀b,H b=none->b≠e:=λb n z=>by
  subst z;rcases he with r|r
  ·exact hx b n r
  ·rw[n]at r;cases r
 have hm:∀b u,H b=some u->¬Mut (some u)->b≠x:=λb u q nm z=>by subst z;rw[q]at mu;exact nm mu
 refine⟨λb u q n _ _=>k b u (hb b n) q,λb u q n _ _=>⟨u.slots,k b u (hb b n) q⟩,λb u q n _=>by rw[jac (hx b n)];exact n,λb u q _=>?_,
  λb xs q=>by rw[jac (hm b _ q λz=>z)];exact q,λb u xs q=>by rw[jac (hm b _ q λz=>z)];exact q,λb ps q=>⟨#[],by rw[jac (hm b _ q λz=>z),q];simp⟩⟩
 by_cases hbe:b=e
 ·subst hbe;exact heo
 ·exact⟨u,k b u hbe q⟩

noncomputable def trk  (h:Heap)(H:Hp):List Addr:=(YaC h.objs.size).filter λa=>(H a).isSome
def hidT  (h:Heap)(H:Hp):Heap:=PySem.W.hideAll h (trk h H)
def jia  (h:Heap) H:(hidT h H).objs.size=h.objs.size:=PySem.W.hideAll_size _ _
def jem      (e:h.get? b=some o)(n:H b=none):(hidT h H).get? b=some o:=
 PySem.W.hideAll_get _ e λhm=>by
  have q:(H b).isSome=true:=(List.mem_filter.mp hm).2;rw[n]at q;simp at q
def jlf      (e:(hidT h H).get? b=some o):h.get? b=some o/\H b=none:=by
 have e':h.get? b=some o:=PySem.W.of_hideAll (trk h H) e;refine⟨e',?_⟩;cases q:H b with
 |none=>rfl
 |some x=>
  have hm:b∈trk h H:=List.mem_filter.mpr ⟨List.mem_range.mpr (Yan e'),by simp[q]⟩
  have z:(hidT h H).get? b=none:=PySem.W.hideAll_none (trk h H) hm;rw[z]at e;cases e

noncomputable def jlO  (g h:Heap)(L:Addr):List (Addr×Obj):=(YaC h.objs.size).filterMap λa=>if a=L\/(g.get? a).isSome=true then none else (h.get? a).map λo=>(a,o)
def rest  (g h:Heap)(L d:Addr):List (Addr×Obj):=(jlO g h L).filter λp=>decide (p.1≠d)

structure Mod (K:Yac)(mg:Str->Option Value)(base:Heap):Prop where
 kin:K.In base
 glob:base.Ns YaF mg
 blt:∃mb,base.Ns YdM mb/\∀x:Str,x ≠ "__name__" -> mb x=YbN x
 nolimit:base.NoLimit
 sys:∃o,K.lookup Ya9=some o/\o.cls=.type "dict"

structure Cx where
 prog:Program
 w:World
 K:Yac
 mg:Str->Option Value
 base:Heap
 A:Around
 N:List Str
 s₀:Shared
 H₀:Hp
 env:Env
 outer:List Env
 stack:List Env
 ex:List Addr
 fn:Str->Bool
 calm:Bool
 pn:List (Addr×Obj)
 xe:Value->Shared->Prop
noncomputable def frs  (l:List Env):List Addr:=l.filterMap (·.frame)
abbrev Cx.fs  (X:Cx):List Addr:=frs X.outer

def Vis  (sc:Scope)(x:Str):Prop:=sc.names.lookup x=some .local\/sc.names.lookup x=some .cell\/sc.names.lookup x=some .free
def Loc  (sc:Scope)(x:Str):Prop:=sc.names.lookup x=some .local\/sc.names.lookup x=some .cell
def Look  (env:Env)(h:Heap)(m:Str->Option Value)(x:Str)(u:Value):Prop:=
 (env.kindOf x=some .local/\m x=some u)\/((env.kindOf x=some .cell\/env.kindOf x=some .free)/\∃c,env.cells.lookup x=some c/\h.IsCell c (some u))

structure Cx.Ok (X:Cx):Prop where
 mod:Mod X.K X.mg X.base
 kind:X.env.scope.kind=.function
 glob:X.env.globals=YaF
 blt:X.env.builtins=YdM
 above:X.s₀.heap.objs.size<=X.env.locals
 inj:∀x y c,X.env.cells.lookup x=some c->X.env.cells.lookup y=some c->x=y
 has:∀x,(X.env.kindOf x=some .cell\/X.env.kindOf x=some .free)->∃c,X.env.cells.lookup x=some c
 cab:∀x c,X.fn x=true->X.env.cells.lookup x=some c->X.s₀.heap.objs.size<=c
 hd:X.calm=true->X.A.handled=none
 frames:X.A.frames=some X.stack
 stk:X.stack=X.outer\/(X.stack=X.env::X.outer/\X.env.frame=some X.env.locals)
 exf:∀b∈X.ex,b≠X.env.locals/\∀x c,X.env.cells.lookup x=some c->c≠b
 bs:∀b o,X.base.get? b=some o->X.s₀.heap.get? b=some o/\X.H₀ b=none
 bsz:X.base.objs.size<=X.s₀.heap.objs.size
 noex:∀b o,X.base.get? b=some o->b∉X.ex
 exfs:∀b∈X.ex,b∉X.fs
 funs:X.s₀.heap.FunFrames X.base X.outer
 frf:∀b∈X.fs,X.H₀ b=none

structure Inv (X:Cx)(pins:List (Addr×Obj))(σ:List (Option V))(H:Hp)(s:Shared):Prop where
 ok:X.Ok
 os:s.os=X.s₀.os
 bare:AllBare s.gens
 base:Un X.fs X.ex X.H₀ H X.s₀.heap s.heap
 loc:∃m,s.heap.Ns X.env.locals m/\∀(i:Nat) (x:Str) (v:V),X.N[i]?=some x->σ[i]?=some (some v)->Vis X.env.scope x->∃u,RelV v u/\Look X.env s.heap m x u
 cell:∀x c,X.env.cells.lookup x=some c->∃v,s.heap.IsCell c v
 free:H X.env.locals=none
 freeC:∀x c,X.env.cells.lookup x=some c->H c=none
 pin:∀p∈X.pn++pins,s.heap.get? p.1=some p.2/\H p.1=none/\p.1≠X.env.locals/\p.1∉X.fs/\∀v,p.2.data≠.cell v
 hok:HOk X.prog X.w H s.heap
 len:σ.length=X.N.length

section
variable {X:Cx}{pins:List (Addr×Obj)}{σ:List (Option V)}{H H':Hp}{s:Shared}{h':Heap}

def Cx.Ok.nofr  (ok:X.Ok)(e:X.base.get? b=some o):b∉X.fs:=λhb=>by
 have:=(ok.funs.mem hb).1;rw[e]at this;cases this
def Inv.bs  (I:Inv X pins σ H s):∀b o,X.base.get? b=some o->s.heap.get? b=some o/\H b=none:=λb o e=>
 ⟨I.base.keep b o (I.ok.bs b o e).1 (I.ok.bs b o e).2 (I.ok.nofr e) (I.ok.noex b o e),I.base.free b o (I.ok.bs b o e).1 (I.ok.bs b o e).2 (I.ok.noex b o e)⟩
def Inv.bk  (I:Inv X pins σ H s):∀b o,X.base.get? b=some o->s.heap.get? b=some o:=λb o e=>(I.bs b o e).1
def Inv.mod  (I:Inv X pins σ H s):Mod X.K X.mg X.base:=I.ok.mod
def Inv.kIn  (I:Inv X pins σ H s):X.K.In s.heap:=I.ok.mod.kin.keeps I.bk
def Inv.lt  (I:Inv X pins σ H s):X.env.locals<s.heap.objs.size:=let ⟨_,hn,_⟩:=I.loc;hn.lt
def Inv.sz  (I:Inv X pins σ H s):X.s₀.heap.objs.size<=s.heap.objs.size:=Yag I.ok.above (Ycp I.lt)
def Inv.nofs  (I:Inv X pins σ H s){a:Addr}(h:s.heap.objs.size<=a):a∉X.fs:=λhb=>by
 obtain⟨_,o,ho,_⟩:=I.ok.funs.mem hb;exact absurd (Yas (Yan ho) (Yag I.sz h)) (Ya6 _)
def Inv.cne  (I:Inv X pins σ H s):∀x c,X.env.cells.lookup x=some c->c≠X.env.locals:=λx c e z=>by
 obtain⟨v,o,ho,hd⟩:=I.cell x c e;obtain⟨m,⟨o',es,ep,ho',hd',_⟩,_⟩:=I.loc;rw[z,ho']at ho;cases ho;rw[hd']at hd;cases hd
theorem Inv.funs  (I:Inv X pins σ H s):s.heap.FunFrames X.base X.outer:=by
 have all:∀(l:List Env),(∀b∈frs l,b∈X.fs)->X.s₀.heap.FunFrames X.base l->s.heap.FunFrames X.base l:=by
  intro l
  induction l with
  |nil=>intro _ _;trivial
  |cons env r ih=>
   intro hs hl;obtain⟨hk,⟨L,o,hf,hn,ho,hd⟩,hr⟩:=hl;have hL:L∈X.fs:=hs L (by unfold frs;rw[YbJ,hf];exact Yat)
   obtain⟨sl,e⟩:=I.base.slot L o ho (I.ok.frf L hL) hL λz=>I.ok.exfs L z hL;exact⟨hk,⟨L,_,hf,hn,e,hd⟩,ih (λb hb=>hs b (by unfold frs;rw[YbJ,hf];exact Yal _ hb)) hr⟩
 exact all X.outer (λ_ hb=>hb) I.ok.funs

def Inv.stack  (I:Inv X pins σ H s):s.heap.FunFrames X.base X.stack:=by
 rcases I.ok.stk with e|⟨e,hf⟩
 ·rw[e];exact I.funs
 ·rw[e];obtain⟨m,hn,_⟩:=I.loc;refine .cons (by rw[I.ok.kind];decide) hf hn ?_ I.funs
  exact Ydp (Yag I.ok.bsz I.ok.above)
def Inv.stkSub  (I:Inv X pins σ H s):∀b∈frs X.stack,b∈X.env.locals::X.fs:=λb hb=>by
 rcases I.ok.stk with e|⟨e,hf⟩
 ·rw[e]at hb;exact Yal _ hb
 ·rw[e]at hb;unfold frs at hb;rw[YbJ,hf]at hb;exact hb
def Inv.stkFree  (I:Inv X pins σ H s):∀b∈frs X.stack,H b=none:=λb hb=>by
 rcases Yau.mp (I.stkSub b hb)with e|hb
 ·rw[e];exact I.free
 ·obtain⟨_,o,ho,_⟩:=I.ok.funs.mem hb;exact I.base.free b o ho (I.ok.frf b hb) λz=>I.ok.exfs b z hb

def Inv.step     {ch:List Addr}(I:Inv X pins σ H s)
  (hch:∀b∈ch,(b∈X.ex\/X.s₀.heap.objs.size<=b)/\b≠X.env.locals/\(∀x c,X.env.cells.lookup x=some c->c≠b)/\∀p∈X.pn++pins,p.1≠b)
  (keep:∀b o,b≠X.env.locals->b∉X.fs->b∉ch->s.heap.get? b=some o->H b=none->h'.get? b=some o)
  (slot:∀b o,b≠X.env.locals->b∈X.fs->b∉ch->s.heap.get? b=some o->H b=none->∃sl,h'.get? b=some { o with slots:=sl }) (free:∀b o,b∉ch->s.heap.get? b=some o->H b=none->H' b=none)
  (there:∀b o,b∉ch->s.heap.get? b=some o->∃o',h'.get? b=some o')
  (tups:∀b xs,H b=some (.tup xs)->H' b=some (.tup xs)) (frzs:∀b o u,H b=some (.frz o u)->H' b=some (.frz o u)) (tbls:∀b ps,H b=some (.tbl ps)->∃more,H' b=some (.tbl (ps++more)))
  (ns:∀m,s.heap.Ns X.env.locals m->h'.Ns X.env.locals m) (hok:HOk X.prog X.w H' h') (hg:AllBare g') :
  Inv X pins σ H' { s with heap:=h',gens:=g',drawn:=d',toks:=t' }:=by
 have neL:∀b o,X.s₀.heap.get? b=some o->b≠X.env.locals:=λb o e=>Yaz (Yas (Yan e) I.ok.above);have neC:∀b o,X.s₀.heap.get? b=some o->b∉X.ex->b∉ch:=λb o e hx hb=>by
  rcases(hch b hb).1 with z|z
  ·exact hx z
  ·exact absurd (Yas (Yan e) z) (Ya6 _)
 have cellK:∀x c,X.env.cells.lookup x=some c->∀v,s.heap.IsCell c v->h'.IsCell c v:=λx c e v ⟨o,ho,hd⟩=>by
  have nch:c∉ch:=λz=>(hch c z).2.2.1 x c e rfl;by_cases hc:c∈X.fs
  ·obtain⟨sl,q⟩:=slot c o (I.cne x c e) hc nch ho (I.freeC x c e);exact⟨_,q,hd⟩
  ·exact⟨o,keep c o (I.cne x c e) hc nch ho (I.freeC x c e),hd⟩
 refine⟨I.ok,I.os,hg,⟨λb o e n hb hx=>?_,λb o e n hb hx=>?_,λb o e n hx=>?_,λb o e hx=>?_,λb xs e=>tups b xs (I.base.tups b xs e),λb o xs e=>frzs b o xs (I.base.frzs b o xs e),λb ps e=>?_⟩,?_,λx c e=>?_,?_,λx c e=>?_,λp hp=>?_,hok,I.len⟩
 ·exact keep b o (neL b o e) hb (neC b o e hx) (I.base.keep b o e n hb hx) (I.base.free b o e n hx)
 ·obtain⟨sl,e1⟩:=I.base.slot b o e n hb hx;obtain⟨sl',e2⟩:=slot b _ (neL b o e) hb (neC b o e hx) e1 (I.base.free b o e n hx);exact⟨sl',e2⟩
 ·obtain⟨o',e1⟩:=I.base.there b o e hx;exact free b o' (neC b o e hx) e1 (I.base.free b o e n hx)
 ·obtain⟨o',e1⟩:=I.base.there b o e hx;exact there b o' (neC b o e hx) e1
 ·obtain⟨m1,e1⟩:=I.base.tbls b ps e;obtain⟨m2,e2⟩:=tbls b _ e1;exact⟨m1++m2,by rw[e2,YfF]⟩
 ·obtain⟨m,hn,hl⟩:=I.loc;refine⟨m,ns m hn,λi x v e1 e2 e3=>?_⟩;obtain⟨u,r,l⟩:=hl i x v e1 e2 e3;refine⟨u,r,?_⟩;rcases l with l|⟨k,c,e,z⟩
  ·exact .inl l
  ·exact .inr ⟨k,c,e,cellK x c e _ z⟩
 ·obtain⟨v,z⟩:=I.cell x c e;exact⟨v,cellK x c e v z⟩
 ·obtain⟨m,⟨o,_,_,ho,_⟩,_⟩:=I.loc;exact free _ o (λz=>(hch _ z).2.1 rfl) ho I.free
 ·obtain⟨v,o,ho,hd⟩:=I.cell x c e;exact free c o (λz=>(hch c z).2.2.1 x c e rfl) ho (I.freeC x c e)
 ·obtain⟨e,n,ne,nf,d⟩:=I.pin p hp;have nch:p.1∉ch:=λz=>(hch p.1 z).2.2.2 p hp rfl;exact⟨keep p.1 p.2 ne nf nch e n,free p.1 p.2 nch e n,ne,nf,d⟩
def Inv.un   (I:Inv X pins σ H s)(u:Un X.fs [] H H' s.heap h')(hok:HOk X.prog X.w H' h'):Inv X pins σ H' { s with heap:=h',toks:=t' }:=by
 obtain⟨m,⟨o,es,ep,ho,r⟩,_⟩:=id I.loc;obtain⟨sl,hL⟩:=u.any ho I.free (by simp)
 exact I.step (g':=s.gens) (d':=s.drawn) (ch:=[]) (λ_ z=>nomatch z) (λb o _ hb _ e n=>u.keep b o e n hb (by simp)) (λb o _ hb _ e n=>u.slot b o e n hb (by simp)) (λb o _ e n=>u.free b o e n (by simp)) (λb o _ e=>u.there b o e (by simp)) u.tups u.frzs u.tbls (λm' hm=>by
  obtain⟨o',es',ep',ho',r'⟩:=hm;rw[ho]at ho';cases ho';exact⟨_,es',ep',hL,r'⟩) hok I.bare
def Inv.call      (I:Inv X pins σ H s)(u:Un (frs X.stack) ch H H' s.heap h')(hok:HOk X.prog X.w H' h')(hg:AllBare g')
  (hch:∀b∈ch,(b∈X.ex\/X.s₀.heap.objs.size<=b)/\b≠X.env.locals/\(∀x c,X.env.cells.lookup x=some c->c≠b)/\∀p∈X.pn++pins,p.1≠b) :
  Inv X pins σ H' { s with heap:=h',gens:=g',drawn:=d',toks:=t' }:=by
 obtain⟨m,⟨o,es,ep,ho,r⟩,_⟩:=id I.loc;obtain⟨sl,hL⟩:=u.any ho I.free λz=>(hch _ z).2.1 rfl;exact I.step (ch:=ch) hch (λb o hL hb hc e n=>u.keep b o e n (λz=>(Yau.mp (I.stkSub b z)).elim hL hb) hc) (λb o _ _ hc e n=>u.any e n hc) (λb o hc e n=>u.free b o e n hc) (λb o hc e=>u.there b o e hc) u.tups u.frzs u.tbls (λm' hm=>by
  obtain⟨o',es',ep',ho',r'⟩:=hm;rw[ho]at ho';cases ho';exact⟨_,es',ep',hL,r'⟩) hok hg
def Inv.turned    (I:Inv X pins σ H s)(k:∀b o,b≠it->s.heap.get? b=some o->h'.get? b=some o)(hn:H it=none)(hL:it≠X.env.locals)
  (h1:it∈X.ex\/X.s₀.heap.objs.size<=it) (h2:∀x c,X.env.cells.lookup x=some c->c≠it) (h3:∀p∈X.pn++pins,p.1≠it):Inv X pins σ H { s with heap:=h',toks:=t' }:=by
 have nit:∀b u,H b=some u->b≠it:=λb u e z=>by rw[z,hn]at e;cases e
 refine I.step (g':=s.gens) (d':=s.drawn) (ch:=[it]) (λb hb=>?_) (λb o _ _ hc e _=>k b o (λz=>hc (by simp[z])) e) (λb o _ _ hc e _=>⟨o.slots,k b o (λz=>hc (by simp[z])) e⟩) (λ_ _ _ _ n=>n)
  (λb o hc e=>⟨o,k b o (λz=>hc (by simp[z])) e⟩) (λ_ _ e=>e) (λ_ _ _ e=>e) (λb ps e=>⟨#[],by rw[e];simp⟩) (λm hm=>?_) (λb u e=>?_) I.bare
 ·have e:b=it:=by simpa using hb
  subst e;exact⟨h1,hL,h2,h3⟩
 ·obtain⟨o,es,ep,ho,r⟩:=hm;exact⟨o,es,ep,k _ o (Ne.symm hL) ho,r⟩
 ·refine(I.hok b u e).stay (λc v hc q=>k c v ?_ q) (λ_ q=>q) λ_ _ q=>q;rcases hc with z|z
  ·rw[z];exact nit b u e
  ·exact nit c _ z
def Inv.tok  (I:Inv X pins σ H s) t:Inv X pins σ H { s with toks:=t }:=I.un (h':=s.heap) (t':=t) Un.refl I.hok
def Inv.kept   (I:Inv X pins σ H s)(k:∀b u,s.heap.get? b=some u->h'.get? b=some u):Inv X pins σ H { s with heap:=h',toks:=t' }:=I.un (Un.kept k) (I.hok.kept k)
def Inv.laid  {a:Addr}(I:Inv X pins σ H s)(k:∀b u,s.heap.get? b=some u->h'.get? b=some u)(hp:s.heap.objs.size<=a)(new:jaB X.prog X.w (upd H a o) h' a o) :
  Inv X pins σ (upd H a o) { s with heap:=h',toks:=t' }:=I.un (Un.laid k hp (I.hok.fresh hp)) (I.hok.laid k hp new)
def Inv.write     (I:Inv X pins σ H s)(mu:Mut (H x))(he:e=x\/H e=some (.own x))(k:∀b u,b≠e->s.heap.get? b=some u->h'.get? b=some u)(heo:∃u,h'.get? e=some u)
  (new:jaB X.prog X.w (upd H x o) h' x o):Inv X pins σ (upd H x o) { s with heap:=h',toks:=t' }:=I.un (Un.write mu he k heo) (I.hok.write mu he k heo new)
def Inv.pins_of  {pins':List (Addr×Obj)}(I:Inv X pins σ H s)(h:∀p∈pins',s.heap.get? p.1=some p.2/\H p.1=none/\p.1≠X.env.locals/\p.1∉X.fs/\∀v,p.2.data≠.cell v):Inv X pins' σ H s:=
 ⟨I.ok,I.os,I.bare,I.base,I.loc,I.cell,I.free,I.freeC,λp hp=>(List.mem_append.mp hp).elim (λz=>I.pin p (Ya8 _ z)) (h p),I.hok,I.len⟩

def jej  {N:List Str}(hN:N.Nodup){i j:Nat}(a:N[i]?=some x)(b:N[j]?=some x):i=j:=by
 obtain⟨h1,e1⟩:=List.getElem?_eq_some_iff.mp a;obtain⟨h2,e2⟩:=List.getElem?_eq_some_iff.mp b;exact(List.getElem_inj hN).mp (e1.trans e2.symm)

section
variable {M:Model}{A:Around}{E:Value->Shared->Prop}{i:Nat}{x:Str}{v:V}{u:Value}{Q:Unit->Shared->Prop}
def jeC (I:Inv X pins σ H s)(hN:X.N.Nodup)(hi:X.N[i]?=some x)(hx:Loc X.env.scope x)(r:RelV v u)
  (h:∀s',Inv X pins (σ.set i (some v)) H s'->(∃a,Ycw a s.heap s'.heap/\(a=X.env.locals\/X.env.cells.lookup x=some a))->Q () s') (hf:X.fn x=true\/X.env.scope.names.lookup x=some .local:=by first|exact .inl rfl|exact .inr rfl|assumption):wpAny M A (storeName X.env x u) Q E s:=by
 obtain⟨m,hn,hl⟩:=id I.loc;have hcls:(X.env.scope.kind == .class||(X.env.scope.kind == .module&&X.env.locals != X.env.globals))=false:=by rw[I.ok.kind];rfl
 have hiσ:i<σ.length:=by rw[I.len];exact(List.getElem?_eq_some_iff.mp hi).1
 have cne:=I.cne;have tracked:∀{a:Addr} {h':Heap},(∃o,s.heap.get? a=some o/\H a=none)->Ycw a s.heap h'->HOk X.prog X.w H h':=λ{a h'} ha hs b ob e=>by
  obtain⟨_,_,hfree⟩:=ha;refine(I.hok b ob e).stay (λc w' hc q=>(hs.2 c ?_).trans q) (λ_ q=>q) λ_ _ q=>q;rintro rfl;rcases hc with rfl|hc
  ·rw[hfree]at e;cases e
  ·rw[hfree]at hc;cases hc
 rcases hx with hk|hk
 ·refine wpAny_storeName_local hk hn (λh' hn' hs=>?_) hcls;obtain⟨oL,_,_,hoL,_⟩:=id hn;refine h _ ⟨I.ok,I.os,I.bare,⟨λb o e n hb hx=>?_,λb o e n hb hx=>?_,I.base.free,λb o e hx=>?_,I.base.tups,I.base.frzs,I.base.tbls⟩,⟨_,hn',λj y v' e1 e2 e3=>?_⟩,λy c e=>?_,I.free,I.freeC,λp hp=>?_,tracked ⟨oL,hoL,I.free⟩ hs,by simpa using I.len⟩ ⟨_,hs,.inl rfl⟩
  ·exact(hs.2 b (Yaz (Yas (Yan e) I.ok.above))).trans (I.base.keep b o e n hb hx)
  ·obtain⟨sl,e1⟩:=I.base.slot b o e n hb hx;exact⟨sl,(hs.2 b (Yaz (Yas (Yan e) I.ok.above))).trans e1⟩
  ·obtain⟨o',e1⟩:=I.base.there b o e hx;exact⟨o',(hs.2 b (Yaz (Yas (Yan e) I.ok.above))).trans e1⟩
  ·by_cases hj:j=i
   ·subst hj;rw[hi]at e1;cases e1;rw[Ybi hiσ]at e2;cases e2;exact⟨u,r,.inl ⟨hk,by simp⟩⟩
   ·rw[YaS (Ne.symm hj)]at e2;obtain⟨u',r',q⟩:=hl j y v' e1 e2 e3;refine⟨u',r',?_⟩;rcases q with⟨k,e⟩|⟨k,c,e,z⟩
    ·refine .inl ⟨k,?_⟩;have:y≠x:=λe=>hj (jej hN e1 (e ▸ hi));simp[this,e]
    ·exact .inr ⟨k,c,e,z.sameBut hs (cne y c e)⟩
  ·obtain⟨w',z⟩:=I.cell y c e;exact⟨w',z.sameBut hs (cne y c e)⟩
  ·obtain⟨e,n,ne,nf,d⟩:=I.pin p hp;exact⟨(hs.2 p.1 ne).trans e,n,ne,nf,d⟩
 ·have hfn:X.fn x=true:=by
   rcases hf with z|z
   ·exact z
   ·rw[z]at hk;cases hk
  obtain⟨c,hc⟩:=I.ok.has x (.inl hk);obtain⟨w',z⟩:=I.cell x c hc;refine wpAny_storeName_cell I.ok.kind hk hc z (λh' hc' hs=>?_);obtain⟨oc,hoc,hocd⟩:=id z;refine h { s with heap:=h' } ⟨I.ok,I.os,I.bare,⟨λb o e n hb hx=>?_,λb o e n hb hx=>?_,I.base.free,λb o e hx=>?_,I.base.tups,I.base.frzs,I.base.tbls⟩,⟨m,hn.sameBut hs (Ne.symm (cne x c hc)),λj y v' e1 e2 e3=>?_⟩,λy c' e=>?_,I.free,I.freeC,λp hp=>?_,tracked ⟨oc,hoc,I.freeC x c hc⟩ hs,by simpa using I.len⟩ ⟨c,hs,.inr hc⟩
  ·exact(hs.2 b (Yaz (Yas (Yan e) (I.ok.cab x c hfn hc)))).trans (I.base.keep b o e n hb hx)
  ·obtain⟨sl,e1⟩:=I.base.slot b o e n hb hx;exact⟨sl,(hs.2 b (Yaz (Yas (Yan e) (I.ok.cab x c hfn hc)))).trans e1⟩
  ·obtain⟨o',e1⟩:=I.base.there b o e hx;exact⟨o',(hs.2 b (Yaz (Yas (Yan e) (I.ok.cab x c hfn hc)))).trans e1⟩
  ·by_cases hj:j=i
   ·subst hj;rw[hi]at e1;cases e1;rw[Ybi hiσ]at e2;cases e2;exact⟨u,r,.inr ⟨.inl hk,c,hc,hc'⟩⟩
   ·rw[YaS (Ne.symm hj)]at e2;obtain⟨u',r',q⟩:=hl j y v' e1 e2 e3;refine⟨u',r',?_⟩;rcases q with q|⟨k,c',e,z'⟩
    ·exact .inl q
    ·refine .inr ⟨k,c',e,z'.sameBut hs ?_⟩;rintro rfl;exact hj (jej hN e1 (I.ok.inj _ _ _ e hc ▸ hi))
  ·by_cases hcc:c'=c
   ·subst hcc;exact⟨_,hc'⟩
   ·obtain⟨w2,z2⟩:=I.cell y c' e;exact⟨w2,z2.sameBut hs hcc⟩
  ·obtain⟨e,n,ne,nf,d⟩:=I.pin p hp;refine⟨(hs.2 p.1 ?_).trans e,n,ne,nf,d⟩;intro q;rw[q,hoc]at e;have q':oc=p.2:=Yar e;exact d w' (by rw[<- q'];exact hocd)
def jaZ (I:Inv X pins σ H s)(hN:X.N.Nodup)(hi:X.N[i]?=some x)(hx:Loc X.env.scope x)(r:RelV v u)
  (h:∀s',Inv X pins (σ.set i (some v)) H s'->Q () s') (hf:X.fn x=true\/X.env.scope.names.lookup x=some .local:=by first|exact .inl rfl|exact .inr rfl|assumption):wpAny M A (storeName X.env x u) Q E s:=
 jeC I hN hi hx r (λs' I' _=>h s' I') hf
end
def Inv.call'    (I:Inv X pins σ H s)(ho:s'.os=s.os)(u:Un (frs X.stack) ch H H' s.heap s'.heap)(hok:HOk X.prog X.w H' s'.heap)(hg:AllBare s'.gens)
  (hch:∀b∈ch,(b∈X.ex\/X.s₀.heap.objs.size<=b)/\b≠X.env.locals/\(∀x c,X.env.cells.lookup x=some c->c≠b)/\∀p∈X.pn++pins,p.1≠b):Inv X pins σ H' s':=by
 obtain⟨h',g',d',t',o'⟩:=s';have e:o'=s.os:=ho;subst e;exact I.call (g':=g') (t':=t') (d':=d') u hok hg hch
end

abbrev XK:=Value->Option Addr->Hp->Prop
abbrev St:=List (Option V)
abbrev VK:=V->Hp->Prop
abbrev TE:=St->Hp->VK->Prop
abbrev TT:=St->Hp->(Bool->Hp->Prop)->Prop
abbrev TA:=St->Hp->(List V->Hp->Prop)->Prop
structure Ends where
 nx:St->Hp->Prop
 rt:VK
 bk:St->Hp->Prop:=λ_ _=>False
 ct:St->Hp->Prop:=λ_ _=>False
abbrev TS:=Ends->St->Hp->Prop

def EP  (X:Cx)(pins:List (Addr×Obj))(σ:St)(Q:VK)(u:Value)(s':Shared):Prop:=∃v H',Inv X pins σ H' s'/\RelV v u/\Q v H'
def TP  (X:Cx)(pins:List (Addr×Obj))(σ:St)(Q:Bool->Hp->Prop)(b:Bool)(s':Shared):Prop:=∃H',Inv X pins σ H' s'/\Q b H'
def AP  (X:Cx)(pins:List (Addr×Obj))(σ:St)(Q:List V->Hp->Prop)(us:List Value)(s':Shared):Prop:=∃vs H',Inv X pins σ H' s'/\Vals vs us/\Q vs H'
def SP  (X:Cx)(pins:List (Addr×Obj))(D:Ends)(f:Flow)(s':Shared):Prop:=
 match f with
 |.next=>∃σ' H',Inv X pins σ' H' s'/\D.nx σ' H'
 |.brk=>∃σ' H',Inv X pins σ' H' s'/\D.bk σ' H'
 |.cont=>∃σ' H',Inv X pins σ' H' s'/\D.ct σ' H'
 |.ret u=>∃v σ' H',Inv X pins σ' H' s'/\RelV v u/\D.rt v H'

def PE  (X:Cx)(e:Expr)(t:TE):Prop:=
 ∀(pins:List (Addr×Obj)) (s:Shared) (σ:St) (H:Hp) (Q:VK),Inv X pins σ H s->t σ H Q->wpAny (model X.prog X.w) X.A (eval e X.env) (EP X pins σ Q) X.xe s
def PT  (X:Cx)(e:Expr)(t:TT):Prop:=
 ∀(pins:List (Addr×Obj)) (s:Shared) (σ:St) (H:Hp) (Q:Bool->Hp->Prop),Inv X pins σ H s->t σ H Q->wpAny (model X.prog X.w) X.A (isTrue e X.env (eval e X.env)) (TP X pins σ Q) X.xe s
def PW  (X:Cx)(e:Expr)(t:TT):Prop:=
 ∀(whole:Sem Value) (pins:List (Addr×Obj)) (s:Shared) (σ:St) (H:Hp) (Q:Bool->Hp->Prop),Inv X pins σ H s->t σ H Q->wpAny (model X.prog X.w) X.A (isTrue e X.env whole) (TP X pins σ Q) X.xe s
def PW.pt     (h:PW X e t):PT X e t:=h _
def PA  (X:Cx)(es:List Expr)(t:TA):Prop:=
 ∀(pos:Pos) (pins:List (Addr×Obj)) (s:Shared) (σ:St) (H:Hp) (Q:List V->Hp->Prop),Inv X pins σ H s->t σ H Q->wpAny (model X.prog X.w) X.A (spliced (backTo pos (YaA es X.env))) (AP X pins σ Q) X.xe s
def PS  (X:Cx)(st:Stmt)(t:TS):Prop:=
 ∀(pins:List (Addr×Obj)) (s:Shared) (σ:St) (H:Hp) (D:Ends),Inv X pins σ H s->t D σ H->wpAny (model X.prog X.w) X.A (exec st X.env) (SP X pins D) X.xe s
def PSs  (X:Cx)(st:List Stmt)(t:TS):Prop:=
 ∀(pins:List (Addr×Obj)) (s:Shared) (σ:St) (H:Hp) (D:Ends),Inv X pins σ H s->t D σ H->wpAny (model X.prog X.w) X.A (execs st X.env) (SP X pins D) X.xe s
def thn    {Q Q':α->Shared->Prop}(h:wpAny M A t Q E s)(hQ:∀a s,Q a s->Q' a s):wpAny M A t Q' E s:=YaY h hQ λ_ _ x=>x
section
variable {X:Cx}

def tVar  (i:Nat):TE:=λσ H Q=>∃v,σ[i]?=some (some v)/\Q v H
def tC  (v:V):TE:=λ_ H Q=>Q v H
def jb0 {i:Nat}{x:Str}{pos:Pos}(hN:X.N[i]?=some x)(hv:Vis X.env.scope x)(hd:(x==("__debug__" : Str))=false:=by decide)(hcd:(x==("__classdict__" : Str))=false:=by decide):PE X (.Name x pos) (tVar i):=by
 intro pins s σ H Q I h;obtain⟨v,e,h⟩:=h;obtain⟨m,hn,hl⟩:=I.loc;obtain⟨u,r,l⟩:=hl i x v hN e hv;have fin:EP X pins σ Q u s:=⟨v,H,I,r,h⟩;rcases l with⟨hk,hm⟩|⟨hk,c,hc,hcell⟩
 ·exact wpAny_Name (wpAny_loadName_local I.ok.kind hk hn hm fin) hd
 ·rcases hk with hk|hk
  ·exact wpAny_Name (wpAny_loadName_cell I.ok.kind hk hc hcell fin) hd
  ·exact wpAny_Name (wpAny_loadName_free I.ok.kind hk hc hcell fin hcd) hd
def jmQ   : PE X (.Constant (.int i) j pos) (tC (.int i)):=λ_ _ _ H _ I h=>wpAny_Constant_int ⟨.int i,H,I.tok _,⟨_,rfl⟩,h⟩
def jmR   : PE X (.Constant (.bool b) j pos) (tC (.bl b)):=λ_ _ _ H _ I h=>Constant_bool ⟨.bl b,H,I,rfl,h⟩
def jmO   : PE X (.Constant .none j pos) (tC .non):=λ_ _ _ H _ I h=>Constant_none ⟨.non,H,I,rfl,h⟩
def jjS   : PE X (.Constant (.str x) j pos) (tC (.str x)):=λ_ _ _ H _ I h=>Calls.Constant_str ⟨.str x,H,I.tok _,⟨_,rfl⟩,h⟩

def Gl  (X:Cx)(x:Str):Prop:=X.env.kindOf x=some .globalImplicit
section
variable {E:Value->Shared->Prop}{pins:List (Addr×Obj)}{s:Shared}{σ:St}{H:Hp}{x:Str}{u:Value}{pos:Pos}{Q:Value->Shared->Prop}
def jdd (I:Inv X pins σ H s)(hg:Gl X x)(hm:X.mg x=some u)(h:Q u s)
  (hd:(x==("__debug__" : Str))=false:=by decide):wpAny (model X.prog X.w) X.A (eval (.Name x pos) X.env) Q E s:=
 Yep I.ok.kind hg (Calls.loadGlobal_global (by rw[I.ok.glob];exact I.mod.glob.keeps I.bk) hm h) hd
def jde (I:Inv X pins σ H s)(hg:Gl X x)(hm:X.mg x=none)(hv:YbN x=some u)(h:Q u s)
  (hn:x ≠ "__name__" := by decide) (hd:(x==("__debug__" : Str))=false:=by decide):wpAny (model X.prog X.w) X.A (eval (.Name x pos) X.env) Q E s:=by
 obtain⟨mb,h1,h2⟩:=I.mod.blt;exact Yep I.ok.kind hg (Calls.loadGlobal_builtin (by rw[I.ok.glob];exact I.mod.glob.keeps I.bk) hm (by rw[I.ok.blt];exact h1.keeps I.bk) ((h2 x hn).trans hv) h) hd
end
section
variable {x:Str}{v:V}{u:Value}{pos:Pos}
def jhF (hg:Gl X x)(hm:X.mg x=some u)(r:RelV v u)(hd:(x==("__debug__" : Str))=false:=by decide):PE X (.Name x pos) (tC v):=
 λ_ _ _ H _ I h=>jdd I hg hm ⟨v,H,I,r,h⟩ hd
def jhG (hg:Gl X x)(hm:X.mg x=none)(hv:YbN x=some u)(r:RelV v u)(hn:x ≠ "__name__" := by decide)(hd:(x==("__debug__" : Str))=false:=by decide):PE X (.Name x pos) (tC v):=
 λ_ _ _ H _ I h=>jde I hg hm hv ⟨v,H,I,r,h⟩ hn hd

end
variable {a b:Expr}{ta tb:TE}{pos:Pos}
def tB  (t:TE):TT:=λσ H Q=>t σ H λx H1=>∃c,x=.bl c/\Q c H1
def jmx {e:Expr}{t:TE}(h:PE X e t)(he:∀whole,isTrue e X.env whole=(do let v <- whole;standAt e.pos;holding [v] (truthy v)):=by intro _;rfl):PT X e (tB t):=by
 intro pins s σ H Q I hw;refine isTrue_plain (thn (h pins s σ H _ I hw) λv s1 ⟨x,H1,I1,r1,q1⟩=>?_) (he _);obtain⟨d,rfl,q⟩:=q1;cases r1;exact Ybe ⟨H1,I1,q⟩

def tAnd  (t u:TT):TT:=λσ H Q=>t σ H λc H1=>if c=true then u σ H1 Q else Q false H1
def tOr  (t u:TT):TT:=λσ H Q=>t σ H λc H1=>if c=true then Q true H1 else u σ H1 Q
def tNot  (t:TT):TT:=λσ H Q=>t σ H λc H1=>Q (!c) H1
def pw_and1  (ha:PT X a tA):PW X (.BoolOp .And [a] pos) tA:=by
 intro wh pins s σ H Q I h;refine isTrue_and (thn (ha pins s σ H Q I h) λc s1 e=>?_);cases c with
 |true=>exact isTrue_and_nil e
 |false=>exact e
def pw_or1  (ha:PT X a tA):PW X (.BoolOp .Or [a] pos) tA:=by
 intro wh pins s σ H Q I h;refine isTrue_or (thn (ha pins s σ H Q I h) λc s1 e=>?_);cases c with
 |false=>exact isTrue_or_nil e
 |true=>exact e
def pw_and  {rest: List Expr}(ha:PT X a tA)(hb:PW X (.BoolOp .And (b::rest) pos) tB'):PW X (.BoolOp .And (a::b::rest) pos) (tAnd tA tB'):=by
 intro wh pins s σ H Q I h;refine isTrue_and (thn (ha pins s σ H _ I h) λc s1 ⟨H1,I1,q1⟩=>?_);cases c with
 |true=>exact hb wh pins s1 σ H1 Q I1 q1
 |false=>exact⟨H1,I1,q1⟩
def pw_or  {rest: List Expr}(ha:PT X a tA)(hb:PW X (.BoolOp .Or (b::rest) pos) tB'):PW X (.BoolOp .Or (a::b::rest) pos) (tOr tA tB'):=by
 intro wh pins s σ H Q I h;refine isTrue_or (thn (ha pins s σ H _ I h) λc s1 ⟨H1,I1,q1⟩=>?_);cases c with
 |true=>exact⟨H1,I1,q1⟩
 |false=>exact hb wh pins s1 σ H1 Q I1 q1
def jjP  (ha:PT X a tA):PT X (.UnaryOp .Not a pos) (tNot tA):=by
 intro pins s σ H Q I h;exact isTrue_not (ha pins s σ H (λc H1=>Q (!c) H1) I h)
def jo5  (ta tb:TE):TE:=λσ H Q=>ta σ H λx H1=>∃c,x=.bl c/\if c=true then tb σ H1 Q else Q (.bl false) H1
def tOrV  (ta tb:TE):TE:=λσ H Q=>ta σ H λx H1=>∃c,x=.bl c/\if c=true then Q (.bl true) H1 else tb σ H1 Q
def joZ  (ta:TE):TE:=λσ H Q=>ta σ H λx H1=>∃c,x=.bl c/\Q (.bl (!c)) H1
def jgf    (h:PE X a t):PE X (.BoolOp op [a] pos) t:=λpins s σ H Q I hw=>BoolOp_one (h pins s σ H Q I hw)
def jmS  {rest: List Expr}(ha:PE X a ta)(hb:PE X (.BoolOp .And (b::rest) pos) tb):PE X (.BoolOp .And (a::b::rest) pos) (jo5 ta tb):=by
 intro pins s σ H Q I h;refine BoolOp_and (thn (ha pins s σ H _ I h) λv s1 ⟨x,H1,I1,r1,q1⟩=>?_);obtain⟨c,rfl,q1⟩:=q1;cases r1;refine Ybe ?_;cases c with
 |true=>exact hb pins s1 σ H1 Q I1 q1
 |false=>exact⟨.bl false,H1,I1,rfl,q1⟩
def jpn  {rest: List Expr}(ha:PE X a ta)(hb:PE X (.BoolOp .Or (b::rest) pos) tb):PE X (.BoolOp .Or (a::b::rest) pos) (tOrV ta tb):=by
 intro pins s σ H Q I h;refine BoolOp_or (thn (ha pins s σ H _ I h) λv s1 ⟨x,H1,I1,r1,q1⟩=>?_);obtain⟨c,rfl,q1⟩:=q1;cases r1;refine Ybe ?_;cases c with
 |false=>exact hb pins s1 σ H1 Q I1 q1
 |true=>exact⟨.bl true,H1,I1,rfl,q1⟩
def jmN  (ha:PE X a ta):PE X (.UnaryOp .Not a pos) (joZ ta):=by
 intro pins s σ H Q I h;refine UnaryOp_ (thn (ha pins s σ H _ I h) λv s1 ⟨x,H1,I1,r1,q1⟩=>?_);obtain⟨c,rfl,q1⟩:=q1;cases r1;exact not_of (Ybe ⟨.bl (!c),H1,I1,rfl,q1⟩)
end

def SqL  (K:Yac)(H:Hp)(a:Addr)(xs:List V):Prop:=
 Rd H a (.lst xs)\/
  ∃(o:Obj) (its:Array Value) (n:Nat),K.lookup a=some o/\o.cls=.type "list" /\ o.dict=none/\o.data=.seq its n/\its.size<=Yai/\Vals xs its.toList
def SqT  (K:Yac)(H:Hp)(a:Addr)(xs:List V):Prop:=
 Rd H a (.tup xs)\/
  ∃(o:Obj) (its:Array Value) (n:Nat),K.lookup a=some o/\o.cls=.type "tuple" /\ o.data=.seq its n/\its.size<=Yai/\Vals xs its.toList
noncomputable def absV  : Value->Option V
 |.none=>some .non
 |.bool b=>some (.bl b)
 |.int i _=>some (.int i)
 |.str x _=>some (.str x)
 |.bytes b _=>some (.byt b)
 |.float b _=>some (.flt b)
 |.ref a=>some (.ref a)
 |.type n=>some (.ty n)
 |_=>none
def RelV.abs    (r:RelV x u):absV u=some x:=by
 cases x with
 |non=>cases r;rfl
 |bl _=>cases r;rfl
 |int _=>obtain⟨t,rfl⟩:=r;rfl
 |str _=>obtain⟨t,rfl⟩:=r;rfl
 |byt _=>obtain⟨t,rfl⟩:=r;rfl
 |flt _=>obtain⟨t,rfl⟩:=r;rfl
 |ref _=>cases r;rfl
 |ty _=>cases r;rfl
def RelV.inj    (r:RelV x u)(q:RelV y u):x=y:=Yar (r.abs.symm.trans q.abs)
theorem Vals.inj  : ∀{xs ys } {us },Vals xs us->Vals ys us->xs=ys
 |_,_,_,.nil,.nil=>rfl
 |_,_,_,.cons r t,.cons r' t'=>by rw[r.inj r',Vals.inj t t']

def SqL.of  {K:Yac}(h:H a=some (.lst xs)):SqL K H a xs:=.inl (.inl h)
def SqT.of  {K:Yac}(h:H a=some (.tup xs)):SqT K H a xs:=.inl (.inl h)
def Inv.list  {σ: St}(I:Inv X pins σ H s)(h:SqL X.K H a xs):∃its ,Vals xs its/\PlainL s.heap a its.toArray/\xs.length<=Yai:=by
 rcases h with h|⟨o,its,n,hk,hc,hd,hs,hz,r⟩
 ·obtain⟨z,its,n,r,e⟩:=h.ok I.hok;exact⟨its,r,⟨_,n,e,rfl,rfl,rfl⟩,z⟩
 ·refine⟨its.toList,r,⟨o,n,I.kIn a o hk,hc,hd,by simpa using hs⟩,?_⟩
  have e:=r.length;simp only[Ydu]at e
  lia
def Inv.tuple  {σ: St}(I:Inv X pins σ H s)(h:SqT X.K H a xs):∃its ,Vals xs its/\IsTup s.heap a its.toArray/\xs.length<=Yai:=by
 rcases h with h|⟨o,its,n,hk,hc,hs,hz,r⟩
 ·obtain⟨z,its,r,p⟩:=h.ok I.hok;exact⟨its,r,p.tup,z⟩
 ·refine⟨its.toList,r,⟨o,I.kIn a o hk,hc,n,by simpa using hs⟩,?_⟩
  have e:=r.length;simp only[Ydu]at e
  lia
def Inv.list_inj  {σ: St}(I:Inv X pins σ H s)(h:SqL X.K H a xs)(h':SqL X.K H a ys):xs=ys:=by
 obtain⟨its,r,⟨o,n,e,_,_,d⟩,_⟩:=I.list h;obtain⟨its',r',⟨o',n',e',_,_,d'⟩,_⟩:=I.list h';rw[e]at e';cases e';rw[d]at d';injection d' with d1 _
 have:its=its':=by simpa using congrArg Array.toList d1
 subst this;exact r.inj r'
def Inv.tuple_inj  {σ: St}(I:Inv X pins σ H s)(h:SqT X.K H a xs)(h':SqT X.K H a ys):xs=ys:=by
 obtain⟨its,r,⟨o,e,_,n,d⟩,_⟩:=I.tuple h;obtain⟨its',r',⟨o',e',_,n',d'⟩,_⟩:=I.tuple h';rw[e]at e';cases e';rw[d]at d';injection d' with d1 _
 have:its=its':=by simpa using congrArg Array.toList d1
 subst this;exact r.inj r'

noncomputable abbrev Cx.wish  (X:Cx)(E:Value->Shared->Prop):Cx:={ X with xe:=E }
abbrev Cx.nox  (X:Cx):Cx:=X.wish λ_ _=>False
def Cx.Ok.wish  {X:Cx}(ok:X.Ok) E:(X.wish E).Ok:=
 ⟨ok.mod,ok.kind,ok.glob,ok.blt,ok.above,ok.inj,ok.has,ok.cab,ok.hd,ok.frames,ok.stk,ok.exf,ok.bs,ok.bsz,ok.noex,ok.exfs,ok.funs,ok.frf⟩
def Cx.Ok.unwish  {X:Cx}(ok:(X.wish E).Ok):X.Ok:=
 ⟨ok.mod,ok.kind,ok.glob,ok.blt,ok.above,ok.inj,ok.has,ok.cab,ok.hd,ok.frames,ok.stk,ok.exf,ok.bs,ok.bsz,ok.noex,ok.exfs,ok.funs,ok.frf⟩

def Inv.wish  {σ: St}(I:Inv X pins σ H s) E:Inv (X.wish E) pins σ H s:=⟨I.ok.wish E,I.os,I.bare,I.base,I.loc,I.cell,I.free,I.freeC,I.pin,I.hok,I.len⟩
def Inv.unwish  {σ: St}(I:Inv (X.wish E) pins σ H s):Inv X pins σ H s:=⟨I.ok.unwish,I.os,I.bare,I.base,I.loc,I.cell,I.free,I.freeC,I.pin,I.hok,I.len⟩
theorem SP.unwish     (h:SP (X.wish E) pins D f s'):SP X pins D f s':=by
 cases f with
 |next=>obtain⟨σ',H',I,q⟩:=h;exact⟨σ',H',I.unwish,q⟩
 |brk=>obtain⟨σ',H',I,q⟩:=h;exact⟨σ',H',I.unwish,q⟩
 |cont=>obtain⟨σ',H',I,q⟩:=h;exact⟨σ',H',I.unwish,q⟩
 |ret u=>obtain⟨v,σ',H',I,r,q⟩:=h;exact⟨v,σ',H',I.unwish,r,q⟩

section
variable {X:Cx}{st:Stmt}{rest:List Stmt}{t u:TS}{e:Expr}{te:TE}{pos:Pos}
def jo1  : TS:=λD σ H=>D.nx σ H
def tSeq  (t u:TS):TS:=λD σ H=>t { D with nx:=u D } σ H
def jfl  : PSs X [] jo1:=λ_ _ σ H _ I h=>YcL ⟨σ,H,I,h⟩
def jd8  (h1:PS X st t)(h2:PSs X rest u):PSs X (st::rest) (tSeq t u):=by
 intro pins s σ H D I h;refine YcF (thn (h1 pins s σ H { D with nx:=u D } I h) λf s1 q=>?_)
 cases f with
 |next=>
  obtain⟨σ',H',I',q⟩:=q;exact h2 pins s1 σ' H' D I' q
 |ret v=>exact q
 |brk=>exact q
 |cont=>exact q
def jkM  (h1:PS X st t):PSs X [st] t:=by
 intro pins s σ H D I h;refine YcF (thn (h1 pins s σ H D I h) λf s1 q=>?_);cases f with
 |next=>exact YcL q
 |ret v=>exact q
 |brk=>exact q
 |cont=>exact q
def Inv.quiet   {σ:St}(I:Inv X pins σ H s):interactive X.env=false:=by simp[interactive,I.ok.kind]
def jo2  (te:TE):TS:=λD σ H=>te σ H λ_ H1=>D.nx σ H1
def jkP (he:PE X e te)(hs:YbU e none pos.line X.env=pure false:=by rfl):PS X (.Expr e pos) (jo2 te):=by
 intro pins s σ H D I h;exact wpAny_Expr_any (thn (he pins s σ H _ I h) λv s1 ⟨x,H1,I1,r1,q1⟩=>⟨σ,H1,I1,q1⟩) I.quiet hs
def tRet  (te:TE):TS:=λD σ H=>te σ H D.rt
def jmB  (he:PE X e te):PS X (.Return (some e) pos) (tRet te):=by
 intro pins s σ H D I h;exact wpAny_Return_some (thn (he pins s σ H _ I h) λv s1 ⟨x,H1,I1,r1,q1⟩=>⟨x,σ,H1,I1,r1,q1⟩)
def tIfS  (c:TT)(t u:TS):TS:=λD σ H=>c σ H λb H1=>if b=true then t D σ H1 else u D σ H1
def jmE     (hc:PT X c tc)(ha:PSs X a t)(hb:PSs X b u):PS X (.If c a b pos) (tIfS tc t u):=by
 intro pins s σ H D I h;refine wpAny_If (thn (hc pins s σ H _ I h) λd s1 ⟨H1,I1,q1⟩=>?_);cases d with
 |true=>exact ha pins s1 σ H1 D I1 q1
 |false=>exact hb pins s1 σ H1 D I1 q1
end

abbrev TG:=V->St->Hp->(St->Hp->Prop)->Prop
abbrev TGs:=List V->St->Hp->(St->Hp->Prop)->Prop
def PG  (X:Cx)(target:Expr)(t:TG):Prop:=
 ∀(pins:List (Addr×Obj)) (s:Shared) (σ:St) (H:Hp) (v:V) (u:Value) (Q:St->Hp->Prop),Inv X pins σ H s->RelV v u->t v σ H Q->
  wpAny (model X.prog X.w) X.A (assign target X.env u) (λ_ s'=>∃σ' H',Inv X pins σ' H' s'/\Q σ' H') X.xe s
def PGs  (X:Cx)(ts:List Expr)(t:TGs):Prop:=
 ∀(pins:List (Addr×Obj)) (s:Shared) (σ:St) (H:Hp) (vs:List V) (us:List Value) (Q:St->Hp->Prop),Inv X pins σ H s->Vals vs us->t vs σ H Q->
  wpAny (model X.prog X.w) X.A (Yde ((Ya4 ts X.env).map (·.2)) us) (λ_ s'=>∃σ' H',Inv X pins σ' H' s'/\Q σ' H') X.xe s
abbrev TSet:=V->V->V->Hp->(Hp->Prop)->Prop
def PSet  (X:Cx)(t:TSet):Prop:=
 ∀(pins:List (Addr×Obj)) (s:Shared) (σ:St) (H:Hp) (o i v:V) (ov iv u:Value) (Q:Hp->Prop),Inv X pins σ H s->RelV o ov->RelV i iv->RelV v u->t o i v H Q->
  wpAny (model X.prog X.w) X.A (setItem ov iv u) (λ_ s'=>∃H',Inv X pins σ H' s'/\Q H') X.xe s
abbrev TIp:=V->V->Hp->VK->Prop
def PIp  (X:Cx)(op:YdO)(t:TIp):Prop:=
 ∀(pins:List (Addr×Obj)) (s:Shared) (σ:St) (H:Hp) (x y:V) (v u:Value) (Q:VK),Inv X pins σ H s->RelV x v->RelV y u->t x y H Q->
  wpAny (model X.prog X.w) X.A (Yee op v u) (EP X pins σ Q) X.xe s
section
variable {X:Cx}{pos:Pos}
def jg3  (i:Nat):TG:=λv σ H Q=>Q (σ.set i (some v)) H
def jfm {i:Nat}{x:Str}(hN:X.N.Nodup)(hi:X.N[i]?=some x)(hx:Loc X.env.scope x)(hf:X.fn x=true\/X.env.scope.names.lookup x=some .local:=by first|exact .inl rfl|exact .inr rfl|assumption):PG X (.Name x pos) (jg3 i):=by
 intro pins s σ H v u Q I r h;exact wpAny_assign_Name (jaZ I hN hi hx r (λs' I'=>⟨_,H,I',h⟩) hf)
def gNil  : TGs:=λvs σ H Q=>vs=[]/\Q σ H
def jpI  (t:TG)(u:TGs):TGs:=λvs σ H Q=>∃v r,vs=v::r/\t v σ H λσ' H'=>u r σ' H' Q
def jkY  : PGs X [] gNil:=by
 intro pins s σ H vs us Q I r h;obtain⟨e,h⟩:=h;subst e;cases r;exact Yet ⟨σ,H,I,h⟩
def ji1 {e:Expr}{es:List Expr}{t:TG}{u:TGs}(h1:PG X e t)(h2:PGs X es u)
  (hs:(Ya4 (e::es) X.env).map (·.2)=assign e X.env::(Ya4 es X.env).map (·.2):=by rfl):PGs X (e::es) (jpI t u):=by
 intro pins s σ H vs us Q I r h;obtain⟨v,vr,e1,h⟩:=h;subst e1;cases r with
 |cons r rr=>
  rw[hs];refine Yb7 (thn (h1 pins s σ H _ _ _ I r h) λ_ s1 ⟨σ1,H1,I1,q1⟩=>?_);exact h2 pins s1 σ1 H1 _ _ Q I1 rr q1
def gTup  (K:Yac)(n:Nat)(t:TGs):TG:=λv σ H Q=>∃a xs,v=.ref a/\SqT K H a xs/\xs.length=n/\t xs σ H Q
def jmJ {es:List Expr}{k:Nat}{t:TGs}{n:Nat}(hc:X.calm=true)(h:PGs X es t)
  (hn:(Ya4 es X.env).length=n:=by rfl) (hst:(Ya4 es X.env).findIdx? (·.1)=none:=by rfl):PG X (.Tuple es k pos) (gTup X.K n t):=by
 intro pins s σ H v u Q I r hw;obtain⟨a,xs,e1,hq,hl,hw⟩:=hw;subst e1;cases r;obtain⟨its,rv,ht,hz⟩:=I.tuple hq;refine assign_Tuple_tuple (I.ok.hd hc) ht (by simp[hn,<- hl,rv.length]) hst λh' hx=>?_
 have I1:Inv X pins σ H { s with heap:=h' }:=I.kept (t':=s.toks) λb o e=>hx b o (Yaz (Yan e)) e
 exact h pins _ σ H xs _ Q I1 (by simpa using rv) hw
def gSub  (to ti:TE)(t:TSet):TG:=λv σ H Q=>to σ H λo H1=>ti σ H1 λi H2=>t o i v H2 λH3=>Q σ H3
def jmK {o i:Expr}{to ti:TE}{t:TSet}(ho:PE X o to)(hi:PE X i ti)(hs:PSet X t)
  (ha:∀v,assign (.Subscript o i pos) X.env v=(do
   let ov <- holding [v] (eval o X.env)
   let iv <- holding [v,ov] (eval i X.env)
   standAt pos
   holding [v,ov,iv] (setItem ov iv v)
   release [v,ov,iv] []):=by intro _;rfl):PG X (.Subscript o i pos) (gSub to ti t):=by
 intro pins s σ H v u Q I r h;rw[ha];refine Yae (Ybo (thn (ho pins s σ H _ I h) λov s1 ⟨x,H1,I1,r1,q1⟩=>?_));refine Yae (Ybo (thn (hi pins s1 σ H1 _ I1 q1) λiv s2 ⟨y,H2,I2,r2,q2⟩=>?_));refine Yae (Ybn (Yae (Ybo (thn (hs pins s2 σ H2 x y v ov iv u _ I2 r1 r2 r q2) λ_ s3 ⟨H3,I3,q3⟩=>?_))));exact wpAny_release ⟨σ,H3,I3,q3⟩
def tAsg  (te:TE)(g:TG):TS:=λD σ H=>te σ H λx H1=>g x σ H1 D.nx
def jgc {tg e:Expr}{te:TE}{g:TG}(he:PE X e te)(hg:PG X tg g)(hs:Ybb [tg] e pos.line X.env=pure false:=by rfl)(hw:Ya0 [tg] e X.env=pure none:=by rfl)
  (h1:(Ya4 [tg] X.env).map (·.2)=[assign tg X.env]:=by rfl):PS X (.Assign [tg] e pos) (tAsg te g):=by
 intro pins s σ H D I h;refine wpAny_Assign_stores (thn (he pins s σ H _ I h) λv s1 ⟨x,H1,I1,r1,q1⟩=>?_) hs hw;rw[h1];exact thn (hg pins s1 σ H1 x v _ I1 r1 q1) λ_ s2 q=>q
def tPar  (i j:Nat)(ta:TA):TS:=λD σ H=>ta σ H λvs H1=>∃v w,vs=[v,w]/\D.nx ((σ.set i (some v)).set j (some w)) H1
def jmC {i j:Nat}{x y:Str}{a b:Expr}{ta:TA}{px py pt:Pos}{kt k2 pt2}(hc:X.calm=true)(hN:X.N.Nodup)(hi:X.N[i]?=some x)(hj:X.N[j]?=some y)(hij:i≠j)
  (hx:X.env.scope.names.lookup x=some .local) (hy:X.env.scope.names.lookup y=some .local) (ha:PA X [a,b] ta)
  (hw:Ya0 [.Tuple [.Name x px,.Name y py] kt pt] (.Tuple [a,b] k2 pt2) X.env=pure (some [x,y]))
  (hs:Ybb [.Tuple [.Name x px,.Name y py] kt pt] (.Tuple [a,b] k2 pt2) pos.line X.env=pure false:=by rfl) :
  PS X (.Assign [.Tuple [.Name x px,.Name y py] kt pt] (.Tuple [a,b] k2 pt2) pos) (tPar i j ta):=by
 intro pins s σ H D I h;rw[exec_Assign_arm];refine Yae (Ybn ?_);rw[hs];refine Yae (Yap ?_);rw[if_neg (by decide)]
 refine Yae (Tuple_ (thn (ha _ pins s σ H _ I h) λus s1 ⟨vs,H1,I1,r1,q1⟩=>?_));obtain⟨v,w,e1,q1⟩:=q1;subst e1;obtain⟨u1,u2,rfl,rv,rw'⟩:∃u1 u2,us=[u1,u2]/\RelV v u1/\RelV w u2:=by
  cases r1 with
  |cons p q=>
   cases q with
   |cons p' q'=>
    cases q';exact⟨_,_,rfl,p,p'⟩
 refine Ybv ?_ (by show 2<=Yai;decide)
 have I2:Inv X pins σ H1 { s1 with heap:=s1.heap.push { cls:=.type "tuple",data:=.seq [u1,u2].toArray } }:=I1.kept (t':=s1.toks) λb o e=>Yaf _ e
 rw[hw];refine Yae (Yap ?_);show wpAny (model X.prog X.w) X.A (do rule "assign.swapped-stores";let items <- unpackItems (.ref s1.heap.objs.size) 2 none;Yde [λv=>YcC X.env y v,λv=>YcC X.env x v] items.reverse;pure Yfd) _ _ _
 refine Yae (Yeq (Yae (unpackItems_tuple (items:=#[u1,u2]) (I.ok.hd hc) (IsTup.new s1.heap _) λh' hx'=>?_)));have I3:=I2.kept (h':=h') (t':=s1.toks) λb o e=>hx' b o (Yaz (Yan e)) e;show wpAny _ _ (Yde [λv=>YcC X.env y v,λv=>YcC X.env x v] [u2,u1] >>= λ_=>pure Yfd) _ _ _
 refine Yae (Yb7 (Yc2 (jaZ I3 hN hj (.inl hy) rw' (λs2 I4=>?_) (.inr hy))));refine Yb7 (Yc2 (jaZ I4 hN hi (.inl hx) rv (λs3 I5=>Yet (Yap ?_)) (.inr hx)));rw[YdR _ _ (Ne.symm hij)]at I5;exact⟨_,H1,I5,q1⟩
def tAug  (i:Nat)(te:TE)(ti:TIp):TS:=λD σ H=>∃x,σ[i]?=some (some x)/\te σ H λy H1=>ti x y H1 λz H2=>D.nx (σ.set i (some z)) H2
def jmG {i:Nat}{x:Str}{e:Expr}{te:TE}{op:YdO}{ti:TIp}{pos':Pos}(hN:X.N.Nodup)(hi:X.N[i]?=some x)(hx:Loc X.env.scope x)(he:PE X e te)(ho:PIp X op ti)(hf:X.fn x=true\/X.env.scope.names.lookup x=some .local:=by first|exact .inl rfl|exact .inr rfl|assumption) :
  PS X (.AugAssign (.Name x pos') op e pos) (tAug i te ti):=by
 intro pins s σ H D I h;obtain⟨v,e1,h⟩:=h;obtain⟨m,hn,hl⟩:=I.loc;have vis:Vis X.env.scope x:=by rcases hx with k|k;exact .inl k;exact .inr (.inl k)
 obtain⟨u,r,l⟩:=hl i x v hi e1 vis;refine wpAny_AugAssign_Name ?_;have go:wpAny (model X.prog X.w) X.A (eval e X.env) (λw s₂=>wpAny (model X.prog X.w) X.A (Yee op u w) (λr s₃=>wpAny (model X.prog X.w) X.A (storeName X.env x r) (λ_=>SP X pins D .next) X.xe s₃) X.xe s₂) X.xe s:=by
  refine thn (he pins s σ H _ I h) λw s1 ⟨y,H1,I1,r1,q1⟩=>?_;refine thn (ho pins s1 σ H1 v y u w _ I1 r r1 q1) λz s2 ⟨zv,H2,I2,r2,q2⟩=>?_;exact jaZ I2 hN hi hx r2 (λs3 I3=>⟨_,H2,I3,q2⟩) hf
 rcases l with⟨hk,hm⟩|⟨hk,c,hc,hcell⟩
 ·exact wpAny_loadName_local I.ok.kind hk hn hm go
 ·rcases hk with hk|hk
  ·exact wpAny_loadName_cell I.ok.kind hk hc hcell go
  ·rcases hx with k|k
   ·have:X.env.scope.names.lookup x=some .free:=hk;rw[k]at this;cases this
   ·have:X.env.scope.names.lookup x=some .free:=hk;rw[k]at this;cases this
def PGet  (X:Cx)(t:V->V->Hp->VK->Prop):Prop:=
 ∀(pins:List (Addr×Obj)) (s:Shared) (σ:St) (H:Hp) (o i:V) (ov iv:Value) (Q:VK),Inv X pins σ H s->RelV o ov->RelV i iv->t o i H Q->
  wpAny (model X.prog X.w) X.A (getItem ov iv) (EP X pins σ Q) X.xe s
end


def jl6  (c:TT)(tb:TS):TS:=λD σ H=>∃W:Nat->St->Hp->Prop,(∃m,W m σ H)/\∀m σ H,W m σ H->
 c σ H λb H1=>if b=true then ∃N:St->Hp->Prop,(∀σ' H',N σ' H'->∃m',m'<m/\W m' σ' H')/\tb { D with nx:=N,ct:=N,bk:=D.nx } σ H1 else D.nx σ H1
def jiW      (hp:Yc9 (model X.prog X.w) X.A X.env X.xe)(hc:PT X c tc)(hb:PSs X body tb):PS X (.While c body [] pos) (jl6 tc tb):=by
 intro pins s σ H D I h;obtain⟨W,⟨m0,w0⟩,turn⟩:=h;refine wpAny_While (codeAny_whileLoop (λn s'=>∃σ' H',Inv X pins σ' H' s'/\W n σ' H') ?_ m0 ⟨σ,H,I,w0⟩);rintro n s1 ⟨σ1,H1,I1,w1⟩;refine Ych hp (thn (hc pins s1 σ1 H1 _ I1 (turn n σ1 H1 w1)) λb s2 ⟨H2,I2,q2⟩=>?_);cases b with
 |true=>
  obtain⟨N,hN,q2⟩:=q2;rw[if_pos rfl];refine Ych hp (thn (hb pins s2 σ1 H2 _ I2 q2) λf s3 q3=>?_);cases f with
  |next=>
   obtain⟨σ3,H3,I3,n3⟩:=q3;obtain⟨m',hm,w3⟩:=hN σ3 H3 n3;exact⟨m',hm,σ3,H3,I3,w3⟩
  |cont=>
   obtain⟨σ3,H3,I3,n3⟩:=q3;obtain⟨m',hm,w3⟩:=hN σ3 H3 n3;exact⟨m',hm,σ3,H3,I3,w3⟩
  |brk=>exact q3
  |ret v=>exact q3
 |false=>
  rw[if_neg Yaj];exact YcL ⟨σ1,H2,I2,q2⟩

structure It where
 go:Nat->Hp->Prop
 yld:Nat->Hp->V->Hp->Prop
 stop:Nat->Hp->Prop
def FpOk  (X:Cx)(pins:List (Addr×Obj))(H:Hp)(b:Addr):Prop:=
 H b=none/\b≠X.env.locals/\b∉X.fs/\(b∈X.ex\/X.s₀.heap.objs.size<=b)/\(∀x c,X.env.cells.lookup x=some c->c≠b)/\∀p∈X.pn++pins,p.1≠b
def Inv.fpOk    {σ:St}{b:Addr}(I:Inv X pins σ H s)(hb:s.heap.objs.size<=b)(hn:H' b=none):FpOk X pins H' b:=by
 refine⟨hn,Nat.ne_of_gt (Yas I.lt hb),I.nofs hb,.inr (Yag I.sz hb),λx c e z=>?_,λp hp z=>?_⟩
 ·obtain⟨v,q⟩:=I.cell x c e;exact absurd (Yas q.lt (by rw[z];exact hb)) (Ya6 _)
 ·exact absurd (Yas (Yan (I.pin p hp).1) (by rw[z];exact hb)) (Ya6 _)
structure Turn (P:Program)(w:World)(K:Yac)(tg:Expr)(J:It)(fp:List Addr)(it:Addr)(tn:Nat->Heap->Prop):Prop where
 mem:it∈fp
 obj:∀i h,tn i h->∀b∈fp,∃o,h.get? b=some o/\∀v,o.data≠.cell v
 keep:∀i h h',tn i h->(∀b∈fp,∀o,h.get? b=some o->h'.get? b=some o)->tn i h'
 item:∀(X:Cx),X.prog=P->X.w=w->X.K=K->X.calm=true->∀(i:Nat) (pins:List (Addr×Obj)) (s:Shared) (σ:St) (H:Hp) (E:Value->Shared->Prop),Inv X pins σ H s->(∀b∈fp,FpOk X pins H b)->tn i s.heap->J.go i H->
  wpAny (model P w) X.A (pyNext (.ref it)) (λr s1=>∃u,r=some u/\
   wpAny (model P w) X.A (YcN tg (.ref it) u) (λ_ s2=>∃x H',Inv X pins σ H' s2/\RelV x u/\J.yld i H x H'/\tn (i+1) s2.heap/\∀b∈fp,H' b=none) E s1) E s
 done:∀(X:Cx),X.prog=P->X.w=w->X.K=K->X.calm=true->∀(i:Nat) (pins:List (Addr×Obj)) (s:Shared) (σ:St) (H:Hp) (E:Value->Shared->Prop),Inv X pins σ H s->(∀b∈fp,FpOk X pins H b)->tn i s.heap->J.stop i H->
  wpAny (model P w) X.A (pyNext (.ref it)) (λr s1=>r=none/\Inv X pins σ H s1) E s
 self:∀(A:Around) (i:Nat) (s:Shared) (Q:Value->Shared->Prop) (E:Value->Shared->Prop),tn i s.heap->Q (.ref it) s->wpAny (model P w) A (pyIter (.ref it)) Q E s
abbrev TI:=St->Hp->(It->Hp->Prop)->Prop
def PIE  (X:Cx)(pins:List (Addr×Obj))(σ:St)(tg:Expr)(R:It->Hp->Prop)(itv:Value)(s2:Shared):Prop:=
 ∃(it:Addr) (fp:List Addr) (tn:Nat->Heap->Prop) (J:It) (H':Hp),itv=.ref it/\Inv X pins σ H' s2/\Turn X.prog X.w X.K tg J fp it tn/\tn 0 s2.heap/\(∀b∈fp,FpOk X pins H' b)/\R J H'
def PI  (X:Cx)(tg iter:Expr)(wi:TI):Prop:=
 ∀(pins:List (Addr×Obj)) (s:Shared) (σ:St) (H:Hp) (R:It->Hp->Prop),Inv X pins σ H s->wi σ H R->
  wpAny (model X.prog X.w) X.A (eval iter X.env) (λv s1=>wpAny (model X.prog X.w) X.A (pyIter v) (PIE X pins σ tg R) X.xe s1) X.xe s

def jjh             (ho : s.heap.get? it = some o)(hc : o.cls = .type n)(hd : o.data = .fields vs)
    (hn : ["enumerate", "zip", "dict_itemiterator", "dict_reverseitemiterator", "odict_iterator", "itertools.zip_longest", "itertools.pairwise"].contains n = false) (hQ : Q () s) : wpAny M A (YcN tg (.ref it) u) Q E s := by
  unfold YcN
  cases tg <;> first
    | exact Yap hQ
    | (cases u <;> first
        | exact Yap hQ
        | (refine Yae (wpAny_load ho ?_)
           rw [hc, hd]
           show wpAny M A (if (["enumerate", "zip", "dict_itemiterator", "dict_reverseitemiterator", "odict_iterator", "itertools.zip_longest", "itertools.pairwise"].contains n && vs[0]? == some (rawInt _)) = true then _ else _) Q E s
           rw [if_neg (by intro h; rw [hn, Bool.false_and] at h; cases h)]
           exact Yap hQ))

noncomputable def Itl  (K:Yac)(a:Addr):It:=
 ⟨λi H=>∃xs x,SqL K H a xs/\xs[i]?=some x,λi H x H'=>H'=H/\∀xs,SqL K H a xs->xs[i]?=some x,λi H=>∃xs,SqL K H a xs/\xs.length<=i⟩
noncomputable def Itt  (K:Yac)(a:Addr):It:=
 ⟨λi H=>∃xs x,SqT K H a xs/\xs[i]?=some x,λi H x H'=>H'=H/\∀xs,SqT K H a xs->xs[i]?=some x,λi H=>∃xs,SqT K H a xs/\xs.length<=i⟩
noncomputable def Itr  (lo:Int)(n:Nat):It:=⟨λi _=>i<n,λi H x H'=>H'=H/\x=.int (lo+i),λi _=>n<=i⟩
def jhi    {K:Yac} a it:Turn P w K tg (Itl K a) [it] it (λi h=>h.IsListIter it a i) where
 mem:=by simp
 obj:=λi h st b hb=>by
  have e:b=it:=by simpa using hb
  subst e;obtain⟨o,e,c,d⟩:=st;exact⟨o,e,λv z=>by rw[d]at z;cases z⟩
 keep:=λi h h' st k=>st.at λo e=>k it (by simp) o e
 item:=by
  intro X hP hw hK hc i pins s σ H E I hf st hg;subst hP hw hK;obtain⟨xs,x,hq,hx⟩:=hg;obtain⟨its,rv,p,hz⟩:=I.list hq;obtain⟨u,hu,ru⟩:=rv.get hx;obtain⟨f0,f1,f2,f3,f4,f5⟩:=hf it (by simp)
  refine YfV st p.isList (x:=u) (by simpa using hu) λh' st' sb=>?_
  have I1:Inv X pins σ H { s with heap:=h' }:=I.turned (t':=s.toks) (λb o hb e=>(sb.2 b hb).trans e) f0 f1 f3 f4 f5
  obtain⟨o,e,c,d⟩:=id st';exact⟨u,rfl,jjh (s:={ s with heap:=h' }) e c d (by decide) ⟨x,H,I1,ru,⟨rfl,λys hy=>by rw[I.list_inj hy hq];exact hx⟩,st',λb hb=>(hf b hb).1⟩⟩
 done:=by
  intro X hP hw hK hc i pins s σ H E I hf st hg;subst hP hw hK;obtain⟨xs,hq,hx⟩:=hg;obtain⟨its,rv,p,hz⟩:=I.list hq;obtain⟨f0,f1,f2,f3,f4,f5⟩:=hf it (by simp)
  have hl:=rv.length;exact Yf9 (I.ok.hd hc) st p.isList (by simp;lia) λh' eb=>⟨rfl,I.turned (t':=s.toks) (λb o hb e=>eb b o hb e) f0 f1 f3 f4 f5⟩
 self:=λ_ _ _ _ _ st h=>wpAny_pyIter_listiter st h
def jgI    {K:Yac} a it:Turn P w K tg (Itt K a) [it] it (λi h=>h.IsTupleIter it a i) where
 mem:=by simp
 obj:=λi h st b hb=>by
  have e:b=it:=by simpa using hb
  subst e;obtain⟨o,e,c,d⟩:=st;exact⟨o,e,λv z=>by rw[d]at z;cases z⟩
 keep:=λi h h' st k=>st.at λo e=>k it (by simp) o e
 item:=by
  intro X hP hw hK hc i pins s σ H E I hf st hg;subst hP hw hK;obtain⟨xs,x,hq,hx⟩:=hg;obtain⟨its,rv,p,hz⟩:=I.tuple hq;obtain⟨u,hu,ru⟩:=rv.get hx;obtain⟨f0,f1,f2,f3,f4,f5⟩:=hf it (by simp)
  refine wpAny_pyNext_tuple_item st (show s.heap.IsTuple a its.toArray from p) (x:=u) (by simpa using hu) λh' st' sb=>?_
  have I1:Inv X pins σ H { s with heap:=h' }:=I.turned (t':=s.toks) (λb o hb e=>(sb.2 b hb).trans e) f0 f1 f3 f4 f5
  obtain⟨o,e,c,d⟩:=id st';exact⟨u,rfl,jjh (s:={ s with heap:=h' }) e c d (by decide) ⟨x,H,I1,ru,⟨rfl,λys hy=>by rw[I.tuple_inj hy hq];exact hx⟩,st',λb hb=>(hf b hb).1⟩⟩
 done:=by
  intro X hP hw hK hc i pins s σ H E I hf st hg;subst hP hw hK;obtain⟨xs,hq,hx⟩:=hg;obtain⟨its,rv,p,hz⟩:=I.tuple hq;obtain⟨f0,f1,f2,f3,f4,f5⟩:=hf it (by simp)
  have hl:=rv.length;exact wpAny_pyNext_tuple_end (I.ok.hd hc) st (show s.heap.IsTuple a its.toArray from p) (by simp;lia) λh' eb=>⟨rfl,I.turned (t':=s.toks) (λb o hb e=>eb b o hb e) f0 f1 f3 f4 f5⟩
 self:=λ_ _ _ _ _ st h=>wpAny_pyIter_tupleiter st h
def jgJ    {K:Yac} it lo n:Turn P w K tg (Itr lo n) [it] it (λi h=>IsRangeIter h it (lo+(i:Nat)*1) ((n:Int)-(i:Nat)) 1) where
 mem:=by simp
 obj:=λi h st b hb=>by
  have e:b=it:=by simpa using hb
  subst e;exact⟨_,st,λv z=>by
   have z':Data.fields _=Data.cell v:=z;cases z'⟩
 keep:=λi h h' st k=>k it (by simp) _ st
 item:=by
  intro X hP hw hK hc i pins s σ H E I hf st hg;subst hP hw hK;obtain⟨f0,f1,f2,f3,f4,f5⟩:=hf it (by simp)
  have W:=Walks.range (prog:=X.prog) (w:=X.w) (I.ok.hd hc) it lo 1 n;refine W.item i s _ _ hg st λv h' tk hv st' kk=>?_;obtain⟨t,rfl⟩:=hv;have I1:Inv X pins σ H { s with heap:=h',toks:=tk }:=I.turned (λb o hb e=>kk b o (by simpa using hb) e) f0 f1 f3 f4 f5
  refine⟨_,rfl,jjh (s:={ s with heap:=h',toks:=tk }) (n := "range_iterator") st' rfl rfl (by decide) ⟨.int (lo+i),H,I1,⟨t,?_⟩,⟨rfl,rfl⟩,st',λb hb=>(hf b hb).1⟩⟩
  rw[Int.mul_one]
 done:=by
  intro X hP hw hK hc i pins s σ H E I hf st hg;subst hP hw hK;obtain⟨f0,f1,f2,f3,f4,f5⟩:=hf it (by simp)
  exact wpAny_pyNext_range_end (I.ok.hd hc) st (by have:n<=i:=hg;lia) λh' eb=>⟨rfl,I.turned (t':=s.toks) (λb o hb e=>eb b o hb e) f0 f1 f3 f4 f5⟩
 self:=λ_ _ _ _ _ st h=>wpAny_pyIter_rangeiter st h
section
variable {X:Cx}{tg:Expr}
def jiR   {σ:St}{lo hi:Int}(I:Inv X pins σ H s)(h1:-(2 ^ 62)<=lo)(h2:lo<2 ^ 62)(h3:-(2 ^ 62)<=hi)(h4:hi<2 ^ 62)
  (q:R (Itr lo (hi-lo).toNat) H):wpAny (model X.prog X.w) X.A (pyIter (.ref s.heap.objs.size)) (PIE X pins σ tg R) E { s with heap:=s.heap.push { cls:=.type "range",data:=.fields #[.int lo t,.int hi u,.int 1 v] },toks:=tk }:=by
 refine wpAny_pyIter_range (IsRange.new ..) (small_one h1 h2 h3 h4) ?_;have I1:Inv X pins σ H { s with heap:=s.heap.push { cls:=.type "range",data:=.fields #[.int lo t,.int hi u,.int 1 v] },toks:=tk }:=I.kept λb o e=>Yaf _ e
 refine⟨(s.heap.push { cls:=.type "range",data:=.fields #[.int lo t,.int hi u,.int 1 v] }).objs.size,[(s.heap.push { cls:=.type "range",data:=.fields #[.int lo t,.int hi u,.int 1 v] }).objs.size],_,_,H,rfl,
  I1.kept (t':=tk) λb o e=>Yaf _ e,jgJ _ lo (hi-lo).toNat,?_,λb hb=>?_,q⟩
 ·have e1:lo+((0:Nat):Int)*1=lo:=by simp
  have e2:(((hi-lo).toNat:Nat):Int)-((0:Nat):Int)=YdW lo hi 1:=by rw[rangeSize_one];split<;>lia
  show IsRangeIter _ _ (lo+((0:Nat):Int)*1) ((((hi-lo).toNat:Nat):Int)-((0:Nat):Int)) 1;rw[e1,e2];exact Yax _ rfl
 ·have e:b=(s.heap.push { cls:=.type "range",data:=.fields #[.int lo t,.int hi u,.int 1 v] }).objs.size:=by simpa using hb
  subst e;exact I1.fpOk (Yah _) (I1.hok.fresh (Yah _))
def jpF  (ta:TA):TI:=λσ H R=>ta σ H λvs H1=>∃j:Int,vs=[.int j]/\-(2 ^ 62)<=j/\j<2 ^ 62/\R (Itr 0 j.toNat) H1
def jhD {a:Expr}{ta:TA}{p pos:Pos}(hg:Gl X "range")(hm:X.mg "range" = none)(ha:PA X [a] ta)(hs:YaA [a] X.env=[(false,eval a X.env)]:=by rfl):PI X tg (.Call (.Name "range" p) [a] [] pos) (jpF ta):=by
 intro pins s σ H R I h;refine Call_ (jde I hg hm boot_range (Ybp (thn (ha pos pins s σ H _ I h) λus s1 ⟨vs,H1,I1,r1,q1⟩=>?_) hs rfl));obtain⟨j,e,q1,q2,q⟩:=q1;subst e;cases r1 with
 |cons r rr=>
  cases rr;obtain⟨t,rfl⟩:=r;exact call_range_1 (jiR I1 (by lia) (by lia) q1 q2 (by simpa using q))
def tFor  (wi:TI)(g:TG)(tb:TS):TS:=λD σ H=>wi σ H λJ H1=>∃W:Nat->Nat->St->Hp->Prop,(∃m,W 0 m σ H1)/\∀i m σ H,W i m σ H->
 (J.stop i H/\D.nx σ H)\/(J.go i H/\∃N:St->Hp->Prop,(∀σ' H',N σ' H'->∃m',m'<m/\W (i+1) m' σ' H')/\∀x H',J.yld i H x H'->g x σ H' λσ2 H2=>tb { D with nx:=N,ct:=N,bk:=D.nx } σ2 H2)
noncomputable def jeH  (fp:List Addr)(h:Heap):List (Addr×Obj):=fp.filterMap λb=>(h.get? b).map λo=>(b,o)
def jbA      (hb:b∈fp)(e:h.get? b=some o):(b,o)∈jeH fp h:=List.mem_filterMap.mpr ⟨b,hb,by rw[e];rfl⟩
def jhO     (hp:p∈jeH fp h):p.1∈fp/\h.get? p.1=some p.2:=by
 obtain⟨b,hb,e⟩:=List.mem_filterMap.mp hp;cases q:h.get? b with
 |none=>rw[q]at e;cases e
 |some o=>
  rw[q]at e;have e':(b,o)=p:=Yar e;subst e';exact⟨hb,q⟩
def Inv.pinned   {σ:St}(I:Inv X pins σ H s)(hf:∀b∈fp,FpOk X pins H b)(ho:∀b∈fp,∃o,s.heap.get? b=some o/\∀v,o.data≠.cell v):Inv X (pins++jeH fp s.heap) σ H s:=
 I.pins_of λp hp=>(List.mem_append.mp hp).elim (λz=>I.pin p (YaN _ z)) λz=>by
  obtain⟨hb,e⟩:=jhO z;obtain⟨f0,f1,f2,_⟩:=hf p.1 hb;obtain⟨o,e',d⟩:=ho p.1 hb;rw[e]at e';cases e';exact⟨e,f0,f1,f2,d⟩
def Inv.unpinned   {σ:St}(I:Inv X (pins++pl) σ H s):Inv X pins σ H s:=I.pins_of λp hp=>I.pin p (YaN _ (Ya8 _ hp))
def jmF {iter:Expr}{body:List Stmt}{wi:TI}{g:TG}{tb:TS}{pos:Pos}(hp:Yc9 (model X.prog X.w) X.A X.env X.xe)(hc:X.calm=true)(hi:PI X tg iter wi)(hg:PG X tg g)(hb:PSs X body tb)
  (hs:∀x,Yay iter X.env x=pure x:=by intro _;rfl):PS X (.For tg iter body [] pos) (tFor wi g tb):=by
 intro pins s σ H D I h;refine wpAny_For (thn (hi pins s σ H _ I h) λv s1 h1=>thn h1 λitv s2 h2=>?_) hs;obtain⟨it,fp,tn,J,H2,e,I2,T,st2,f2,W,⟨m0,w0⟩,turn⟩:=h2;subst e;have stat:∀{H':Hp},(∀b∈fp,H' b=none)->∀b∈fp,FpOk X pins H' b:=λhn b hb=>⟨hn b hb,(f2 b hb).2⟩;refine codeAny_forLoop_any (λn s'=>∃i σ' H',Inv X pins σ' H' s'/\tn i s'.heap/\(∀b∈fp,H' b=none)/\W i n σ' H') ?_ m0 ⟨0,σ,H2,I2,st2,λb hb=>(f2 b hb).1,w0⟩;rintro n s3 ⟨i,σ3,H3,I3,st3,fr3,w3⟩;rcases turn i n σ3 H3 w3 with⟨stop,qn⟩|⟨go,N,hN,step⟩
 ·refine Ych hp (thn (T.done X rfl rfl rfl hc i pins s3 σ3 H3 X.xe I3 (stat fr3) st3 stop) λr s4 ⟨hr,I4⟩=>?_);subst hr;exact YcL ⟨σ3,H3,I4,qn⟩
 ·refine Ych hp (thn (T.item X rfl rfl rfl hc i pins s3 σ3 H3 X.xe I3 (stat fr3) st3 go) λr s4 ⟨u,hr,h4⟩=>?_);subst hr;refine Ych hp (thn h4 λ_ s5 ⟨x,H5,I5,r5,y5,st5,fr5⟩=>?_);have I5':=I5.pinned (stat fr5) (T.obj _ _ st5);refine Ych hp (thn (hg _ s5 σ3 H5 x u _ I5' r5 (step x H5 y5)) λ_ s6 ⟨σ6,H6,I6,q6⟩=>?_);refine Ych hp (thn (hb _ s6 σ6 H6 _ I6 q6) λf s7 q7=>?_);have again:∀{σ7:St} {H7:Hp},Inv X (pins++jeH fp s5.heap) σ7 H7 s7->N σ7 H7->∃m,m<n/\∃i σ' H',Inv X pins σ' H' s7/\tn i s7.heap/\(∀b∈fp,H' b=none)/\W i m σ' H':=λ{σ7 H7} I7 n7=>by
   obtain⟨m',hm,w7⟩:=hN σ7 H7 n7;refine⟨m',hm,i+1,σ7,H7,I7.unpinned,T.keep _ _ _ st5 λb hb o e=>(I7.pin (b,o) (YaN _ (YaN _ (jbA hb e)))).1,λb hb=>?_,w7⟩;obtain⟨o,e,d⟩:=T.obj _ _ st5 b hb;exact(I7.pin (b,o) (YaN _ (YaN _ (jbA hb e)))).2.1
  cases f with
  |next=>obtain⟨σ7,H7,I7,n7⟩:=q7;exact again I7 n7
  |cont=>obtain⟨σ7,H7,I7,n7⟩:=q7;exact again I7 n7
  |brk=>obtain⟨σ7,H7,I7,q7⟩:=q7;exact⟨σ7,H7,I7.unpinned,q7⟩
  |ret v=>obtain⟨x7,σ7,H7,I7,r7,q7⟩:=q7;exact⟨x7,σ7,H7,I7.unpinned,r7,q7⟩
end


abbrev R2:=V->V->Hp->VK->Prop
def OpR  (X:Cx)(f:Value->Value->Sem Value)(r:R2):Prop:=
 ∀(pins:List (Addr×Obj)) (s:Shared) (σ:St) (H:Hp) (x y:V) (v u:Value) (Q:VK),Inv X pins σ H s->RelV x v->RelV y u->r x y H Q->
  wpAny (model X.prog X.w) X.A (f v u) (EP X pins σ Q) X.xe s
def UnR  (X:Cx)(f:Value->Sem Value)(r:V->Hp->VK->Prop):Prop:=
 ∀(pins:List (Addr×Obj)) (s:Shared) (σ:St) (H:Hp) (x:V) (v:Value) (Q:VK),Inv X pins σ H s->RelV x v->r x H Q->
  wpAny (model X.prog X.w) X.A (f v) (EP X pins σ Q) X.xe s
def jaX  (X:Cx)(f:Value)(r:List V->Hp->VK->Prop):Prop:=
 ∀(pins:List (Addr×Obj)) (s:Shared) (σ:St) (H:Hp) (xs:List V) (us:List Value) (Q:VK),Inv X pins σ H s->Vals xs us->r xs H Q->
  wpAny (model X.prog X.w) X.A (call f us) (EP X pins σ Q) X.xe s
def TruR  (X:Cx)(r:V->Hp->(Bool->Hp->Prop)->Prop):Prop:=
 ∀(pins:List (Addr×Obj)) (s:Shared) (σ:St) (H:Hp) (x:V) (v:Value) (Q:Bool->Hp->Prop),Inv X pins σ H s->RelV x v->r x H Q->
  wpAny (model X.prog X.w) X.A (truthy v) (TP X pins σ Q) X.xe s

def tOp  (r:R2)(ta tb:TE):TE:=λσ H Q=>ta σ H λx H1=>tb σ H1 λy H2=>r x y H2 Q
def tUn  (r:V->Hp->VK->Prop)(ta:TE):TE:=λσ H Q=>ta σ H λx H1=>r x H1 Q
def rI  (C:Int->Int->Prop)(g:Int->Int->V):R2:=λx y H Q=>∃i j,x=.int i/\y=.int j/\C i j/\Q (g i j) H
def rI0  (g:Int->Int->V):R2:=λx y H Q=>∃i j,x=.int i/\y=.int j/\Q (g i j) H
def rU  (g:Int->V):V->Hp->VK->Prop:=λx H Q=>∃i,x=.int i/\Q (g i) H


def binT  (ha:PE X a ta)(hb:PE X b tb){σ:St}{R:V->V->Hp->Prop}(I:Inv X pins σ H s)
  (h:ta σ H λx H1=>tb σ H1 λy H2=>R x y H2) {f:Value->Value->Sem Value}
  (hf:∀v u s2 x y H2,Inv X pins σ H2 s2->RelV x v->RelV y u->R x y H2->wpAny (model X.prog X.w) X.A (f v u) Q X.xe s2) :
  wpAny (model X.prog X.w) X.A (eval a X.env) (λv s₁=>wpAny (model X.prog X.w) X.A (eval b X.env) (λu s₂=>wpAny (model X.prog X.w) X.A (f v u) Q X.xe s₂) X.xe s₁) X.xe s:=by
 refine thn (ha pins s σ H _ I h) λv s1 ⟨x,H1,I1,r1,q1⟩=>?_;refine thn (hb pins s1 σ H1 _ I1 q1) λu s2 ⟨y,H2,I2,r2,q2⟩=>?_;exact hf v u s2 x y H2 I2 r1 r2 q2

def jpo    (ho:OpR X (Ybh op) r)(ha:PE X a ta)(hb:PE X b tb):PE X (.BinOp a op b pos) (tOp r ta tb):=by
 intro pins s σ H Q I h;exact wpAny_BinOp (binT ha hb I h λv u s2 x y H2 I2 rx ry q=>ho pins s2 σ H2 x y v u Q I2 rx ry q)
def jpm    (ho:UnR X (unaryOp op) r)(ha:PE X a ta):PE X (.UnaryOp op a pos) (tUn r ta):=by
 intro pins s σ H Q I h;exact UnaryOp_ (thn (ha pins s σ H _ I h) λv s1 ⟨x,H1,I1,r1,q1⟩=>ho pins s1 σ H1 x v Q I1 r1 q1)
def opI    {g:Int->Int->Int}
  (rule:∀i j t u (s:Shared) Q E ,C i j->Q (.int (g i j) s.toks) { s with toks:=s.toks+1 }->wpAny (model X.prog X.w) X.A (f (.int i t) (.int j u)) Q E s) :
  OpR X f (rI C λi j=>.int (g i j)):=by
 intro pins s σ H x y v u Q I rx ry h;obtain⟨i,j,rfl,rfl,hc,q⟩:=h;obtain⟨t,rfl⟩:=rx;obtain⟨t',rfl⟩:=ry;exact rule i j t t' s _ _ hc ⟨.int (g i j),H,I.tok _,⟨_,rfl⟩,q⟩
def opI0   {g:Int->Int->Int}
  (rule:∀i j t u (s:Shared) Q E ,Q (.int (g i j) s.toks) { s with toks:=s.toks+1 }->wpAny (model X.prog X.w) X.A (f (.int i t) (.int j u)) Q E s) :
  OpR X f (rI0 λi j=>.int (g i j)):=by
 intro pins s σ H x y v u Q I rx ry h;obtain⟨i,j,rfl,rfl,q⟩:=h;obtain⟨t,rfl⟩:=rx;obtain⟨t',rfl⟩:=ry;exact rule i j t t' s _ _ ⟨.int (g i j),H,I.tok _,⟨_,rfl⟩,q⟩
def opB0   {g:Int->Int->Bool}
  (rule:∀i j t u s Q E ,Q (.bool (g i j)) s->wpAny (model X.prog X.w) X.A (f (.int i t) (.int j u)) Q E s) :
  OpR X f (rI0 λi j=>.bl (g i j)):=by
 intro pins s σ H x y v u Q I rx ry h;obtain⟨i,j,rfl,rfl,q⟩:=h;obtain⟨t,rfl⟩:=rx;obtain⟨t',rfl⟩:=ry;exact rule i j t t' s _ _ ⟨.bl (g i j),H,I,rfl,q⟩

def CDiv  (i j:Int):Prop:=0<j/\j<1073741824
def CPow  (i j:Int):Prop:=0<=j/\j<=1000000/\i.natAbs<2 ^ 64
def CMul  (i j:Int):Prop:=(-(2 ^ 64)<i/\i<2 ^ 64)\/(-(2 ^ 64)<j/\j<2 ^ 64)
def CMul.ok   (h:CMul i j):IntMulOk i j:=by
 rcases h with⟨h1,h2⟩|⟨h1,h2⟩
 ·exact .of_left (intBits_le_64 h1 h2)
 ·exact .of_right (intBits_le_64 h1 h2)
def jna  : OpR X (Ybh .Add) (rI0 λi j=>.int (i+j)):=opI0 λ_ _ _ _ _ _ _ q=>add_int q
def jm0  : OpR X (Ybh .Sub) (rI0 λi j=>.int (i-j)):=opI0 λ_ _ _ _ _ _ _ q=>sub_int q
def jm4  : OpR X (Ybh .Mult) (rI CMul λi j=>.int (i*j)):=opI λ_ _ _ _ _ _ _ hc q=>mul_int q hc.ok
def jk8  : OpR X (Ybh .FloorDiv) (rI CDiv λi j=>.int (i/j)):=opI λi j _ _ _ _ _ hc q=>by
 have h1:(0:Int)<j:=hc.1;have h2:j<1073741824:=hc.2;exact floordiv_int (by lia) (by rw[Int.fdiv_eq_ediv_of_nonneg i (by lia)];exact q) (.inl (PyProof.noPylong_small (by lia)))
def jm5  : OpR X (Ybh .Mod) (rI (λ_ j=>0<j) λi j=>.int (i%j)):=opI λi j _ _ _ _ _ hc q=>by
 have h1:(0:Int)<j:=hc;exact mod_int' (by lia) (by rw[Int.fmod_eq_emod_of_nonneg i (by lia)];exact q)
def jm2  : OpR X (Ybh .Pow) (rI CPow λi j=>.int (i ^ j.toNat)):=opI λ_ _ _ _ _ _ _ hc q=>pow_int_small hc.1 hc.2.1 hc.2.2 q
def jlu  : OpR X (Yee .Add) (rI0 λi j=>.int (i+j)):=opI0 λ_ _ _ _ _ _ _ q=>iadd_int q
def jls  : OpR X (Yee .Sub) (rI0 λi j=>.int (i-j)):=opI0 λ_ _ _ _ _ _ _ q=>isub_int q
def jlt  : OpR X (Yee .Mult) (rI CMul λi j=>.int (i*j)):=opI λ_ _ _ _ _ _ _ hc q=>imul_int q hc.ok
def unI   {g:Int->Int}
  (rule:∀i t (s:Shared) Q E ,Q (.int (g i) s.toks) { s with toks:=s.toks+1 }->wpAny (model X.prog X.w) X.A (f (.int i t)) Q E s) :
  UnR X f (rU λi=>.int (g i)):=by
 intro pins s σ H x v Q I rx h;obtain⟨i,rfl,q⟩:=h;obtain⟨t,rfl⟩:=rx;exact rule i t s _ _ ⟨.int (g i),H,I.tok _,⟨_,rfl⟩,q⟩
def jlS  : UnR X (unaryOp .USub) (rU λi=>.int (-i)):=unI λ_ _ _ _ _ q=>neg_int q

noncomputable def scal  : V->V->Bool
 |.non,.non=>true|.non,.int _=>true|.int _,.non=>true|.non,.bl _=>true|.bl _,.non=>true|.non,.str _=>true|.str _,.non=>true
 |.int _,.int _=>true|.bl _,.bl _=>true|.str _,.str _=>true|.byt _,.byt _=>true
 |.int _,.str _=>true|.str _,.int _=>true|.bl _,.str _=>true|.str _,.bl _=>true
 |_,_=>false
def rEq  : R2:=λx y H Q=>scal x y=true/\Q (.bl (decide (x=y))) H
def rNe  : R2:=λx y H Q=>scal x y=true/\Q (.bl (!decide (x=y))) H

def jik   : decide (V.int i=V.int j)=(i==j):=by
 rw[Ybu];simp
def jkj   : decide (V.bl i=V.bl j)=(i==j):=by
 rw[Ybu];simp
def jij   : decide (V.str i=V.str j)=(i==j):=by
 rw[Ybu];simp
def jil   : decide (V.byt i=V.byt j)=(i.toList==j.toList):=by
 rw[Ybu];cases i;cases j;simp

section
variable {X:Cx}{a b c:Expr}{ta tb tc:TE}{pos:Pos}
def jan   {σ:St}(I:Inv X pins σ H s)(q:Q (.bl k) H)(e:k=k'):EP X pins σ Q (.bool k') s:=by
 subst e;exact⟨.bl k,H,I,rfl,q⟩
def jpw  : OpR X (YaV .Eq) rEq:=by
 intro pins s σ H x y v u Q I rx ry h;obtain⟨hs,q⟩:=h;cases x with
 |non=>
  cases rx;cases y with
  |non=>cases ry;exact PySem.EqNone.eq_none_none (jan I q (by simp))
  |bl j=>cases ry;exact PySem.EqNone.eq_none_bool (jan I q (by simp))
  |int j=>obtain⟨t',rfl⟩:=ry;exact PySem.EqNone.eq_none_int (jan I q (by simp))
  |str j=>obtain⟨t',rfl⟩:=ry;exact PySem.EqNone.eq_none_str (jan I q (by simp))
  |_=>exact absurd (show false=true from hs) Yaj
 |bl i=>
  cases rx;cases y with
  |non=>cases ry;exact PySem.EqNone.eq_bool_none (jan I q (by simp))
  |bl j=>cases ry;exact eq_bool (jan I q jkj)
  |str j=>obtain⟨t',rfl⟩:=ry;exact PySem.EqMixed.eq_bool_str (jan I q (by simp))
  |_=>exact absurd (show false=true from hs) Yaj
 |int i=>
  obtain⟨t,rfl⟩:=rx;cases y with
  |non=>cases ry;exact PySem.EqNone.eq_int_none (jan I q (by simp))
  |int j=>obtain⟨t',rfl⟩:=ry;exact eq_int (jan I q jik)
  |str j=>obtain⟨t',rfl⟩:=ry;exact PySem.EqMixed.eq_int_str (jan I q (by simp))
  |_=>exact absurd (show false=true from hs) Yaj
 |str i=>
  obtain⟨t,rfl⟩:=rx;cases y with
  |non=>cases ry;exact PySem.EqNone.eq_str_none (jan I q (by simp))
  |bl j=>cases ry;exact PySem.EqMixed.eq_str_bool (jan I q (by simp))
  |int j=>obtain⟨t',rfl⟩:=ry;exact PySem.EqMixed.eq_str_int (jan I q (by simp))
  |str j=>obtain⟨t',rfl⟩:=ry;exact eq_str (jan I q jij)
  |_=>exact absurd (show false=true from hs) Yaj
 |byt i=>
  obtain⟨t,rfl⟩:=rx;cases y with
  |byt j=>obtain⟨t',rfl⟩:=ry;exact PySem.W.eq_bytes (jan I q jil)
  |_=>exact absurd (show false=true from hs) Yaj
 |_=>cases y<;>exact absurd (show false=true from hs) Yaj
def jpr  : OpR X (YaV .NotEq) rNe:=by
 intro pins s σ H x y v u Q I rx ry h;obtain⟨hs,q⟩:=h;cases x with
 |non=>
  cases rx;cases y with
  |non=>cases ry;exact PySem.EqNone.ne_none_none (jan I q (by simp))
  |bl j=>cases ry;exact PySem.EqNone.ne_none_bool (jan I q (by simp))
  |int j=>obtain⟨t',rfl⟩:=ry;exact PySem.EqNone.ne_none_int (jan I q (by simp))
  |str j=>obtain⟨t',rfl⟩:=ry;exact PySem.EqNone.ne_none_str (jan I q (by simp))
  |_=>exact absurd (show false=true from hs) Yaj
 |bl i=>
  cases rx;cases y with
  |non=>cases ry;exact PySem.EqNone.ne_bool_none (jan I q (by simp))
  |bl j=>cases ry;exact ne_bool (jan I q (congrArg not jkj))
  |str j=>obtain⟨t',rfl⟩:=ry;exact PySem.EqMixed.ne_bool_str (jan I q (by simp))
  |_=>exact absurd (show false=true from hs) Yaj
 |int i=>
  obtain⟨t,rfl⟩:=rx;cases y with
  |non=>cases ry;exact PySem.EqNone.ne_int_none (jan I q (by simp))
  |int j=>obtain⟨t',rfl⟩:=ry;exact ne_int (jan I q (congrArg not jik))
  |str j=>obtain⟨t',rfl⟩:=ry;exact PySem.EqMixed.ne_int_str (jan I q (by simp))
  |_=>exact absurd (show false=true from hs) Yaj
 |str i=>
  obtain⟨t,rfl⟩:=rx;cases y with
  |non=>cases ry;exact PySem.EqNone.ne_str_none (jan I q (by simp))
  |bl j=>cases ry;exact PySem.EqMixed.ne_str_bool (jan I q (by simp))
  |int j=>obtain⟨t',rfl⟩:=ry;exact PySem.EqMixed.ne_str_int (jan I q (by simp))
  |str j=>obtain⟨t',rfl⟩:=ry;exact ne_str (jan I q (congrArg not jij))
  |_=>exact absurd (show false=true from hs) Yaj
 |byt i=>
  obtain⟨t,rfl⟩:=rx;cases y with
  |byt j=>obtain⟨t',rfl⟩:=ry;exact PySem.W.ne_bytes (jan I q (congrArg not jil))
  |_=>exact absurd (show false=true from hs) Yaj
 |_=>cases y<;>exact absurd (show false=true from hs) Yaj

def jps  : OpR X (YaV .Lt) (rI0 λi j=>.bl (decide (i<j))):=opB0 λ_ _ _ _ _ _ _ q=>lt_int q
def jpt  : OpR X (YaV .LtE) (rI0 λi j=>.bl (decide (i<=j))):=opB0 λ_ _ _ _ _ _ _ q=>le_int q
def jpu  : OpR X (YaV .Gt) (rI0 λi j=>.bl (decide (j<i))):=opB0 λ_ _ _ _ _ _ _ q=>gt_int q
def jpv  : OpR X (YaV .GtE) (rI0 λi j=>.bl (decide (j<=i))):=opB0 λ_ _ _ _ _ _ _ q=>ge_int q
def jhJ  : OpR X (YaV .In) (λx y H Q=>∃i j,x=.str i/\y=.str j/\Q (.bl (!(Yci j i 0 j.length 1).isEmpty)) H):=by
 intro pins s σ H x y v u Q I rx ry h;obtain⟨i,j,rfl,rfl,q⟩:=h;obtain⟨t,rfl⟩:=rx;obtain⟨t',rfl⟩:=ry;exact in_str (jan I q rfl)

def jeJ  : OpR X (YaV .NotIn) (λx y H Q=>∃i j,x=.str i/\y=.str j/\Q (.bl (!(!(Yci j i 0 j.length 1).isEmpty))) H):=by
 intro pins s σ H x y v u Q I rx ry h;obtain⟨i,j,rfl,rfl,q⟩:=h;obtain⟨t,rfl⟩:=rx;obtain⟨t',rfl⟩:=ry;exact notIn_str (jan I q rfl)
def OpR.or    (h:OpR X f r)(h':OpR X f r'):OpR X f (λx y H Q=>r x y H Q\/r' x y H Q):=by
 intro pins s σ H x y v u Q I rx ry q;rcases q with q|q
 ·exact h pins s σ H x y v u Q I rx ry q
 ·exact h' pins s σ H x y v u Q I rx ry q

def jk1    (ho:OpR X (YaV op) r)(ha:PE X a ta)(hb:PE X b tb)(hm:Yef op b=false):PE X (.Compare a [op] [b] pos) (tOp r ta tb):=by
 intro pins s σ H Q I h;exact wpAny_Compare1 (binT ha hb I h λv u s2 x y H2 I2 rx ry q=>ho pins s2 σ H2 x y v u Q I2 rx ry q) hm
def jl7  (t:TE):TT:=λσ H Q=>t σ H λx H'=>∃k,x=.bl k/\Q k H'
def jkL    (ho:OpR X (YaV op) r)(ha:PE X a ta)(hb:PE X b tb)(hm:Yef op b=false):PT X (.Compare a [op] [b] pos) (jl7 (tOp r ta tb)):=by
 intro pins s σ H Q I h;refine wpAny_isTrue_Compare1 (thn (ha pins s σ H _ I h) λv s1 ⟨x,H1,I1,r1,q1⟩=>thn (hb pins s1 σ H1 _ I1 q1) λu s2 ⟨y,H2,I2,r2,q2⟩=>
  thn (ho pins s2 σ H2 x y v u _ I2 r1 r2 q2) λc s3 ⟨z,H3,I3,r3,k,e,q3⟩=>?_) hm
 subst e;cases r3;exact Ybe ⟨H3,I3,q3⟩
def jjK  (r r':R2)(ta tb tc:TE):TE:=λσ H Q=>ta σ H λx H1=>tb σ H1 λy H2=>r x y H2 λz H3=>∃k,z=.bl k/\
 (if k=true then tc σ H3 λw' H4=>r' y w' H4 Q else Q (.bl false) H3)
section
variable {op op':CmpOp}{r r':R2}
def ji5 (ho:OpR X (YaV op) r)(ho':OpR X (YaV op') r')(ha:PE X a ta)(hb:PE X b tb)(hc:PE X c tc)
  (hm:Ygc [op,op'] [b,c]=false:=by with_unfolding_all rfl):PE X (.Compare a [op,op'] [b,c] pos) (jjK r r' ta tb tc):=by
 intro pins s σ H Q I h;refine Compare_chain (thn (ha pins s σ H _ I h) λv s1 ⟨x,H1,I1,r1,q1⟩=>chain_link (thn (hb pins s1 σ H1 _ I1 q1) λu s2 ⟨y,H2,I2,r2,q2⟩=>
  thn (ho pins s2 σ H2 x y v u _ I2 r1 r2 q2) λd s3 ⟨z,H3,I3,r3,k,e,q3⟩=>?_)) hm
 subst e;cases r3;refine Ybe ?_;cases k with
 |false=>exact ite_ff ⟨.bl false,H3,I3,rfl,q3⟩
 |true=>exact ite_tt (chain_last (thn (hc pins s3 σ H3 _ I3 q3) λw' s4 ⟨z',H4,I4,r4,q4⟩=>ho' pins s4 σ H4 y z' u w' Q I4 r2 r4 q4))
def jiV (ho:OpR X (YaV op) r)(ho':OpR X (YaV op') r')(ha:PE X a ta)(hb:PE X b tb)(hc:PE X c tc)
  (hm:Ygc [op,op'] [b,c]=false:=by with_unfolding_all rfl):PT X (.Compare a [op,op'] [b,c] pos) (jl7 (jjK r r' ta tb tc)):=by
 intro pins s σ H Q I h;refine isTrue_chain (thn (ha pins s σ H _ I h) λv s1 ⟨x,H1,I1,r1,q1⟩=>test_link (thn (hb pins s1 σ H1 _ I1 q1) λu s2 ⟨y,H2,I2,r2,q2⟩=>
  thn (ho pins s2 σ H2 x y v u _ I2 r1 r2 q2) λd s3 ⟨z,H3,I3,r3,k,e,q3⟩=>?_)) hm
 subst e;cases r3;refine Ybe ?_;cases k with
 |false=>
  obtain⟨k',e',q'⟩:=q3;cases e';exact ite_ff ⟨H3,I3,q'⟩
 |true=>
  refine ite_tt (test_last (thn (hc pins s3 σ H3 _ I3 q3) λw' s4 ⟨z',H4,I4,r4,q4⟩=>thn (ho' pins s4 σ H4 y z' u w' _ I4 r2 r4 q4) λd' s5 ⟨z2,H5,I5,r5,k2,e2,q5⟩=>?_));subst e2;cases r5;exact Ybe ⟨H5,I5,q5⟩

end
def TruV  (K:Yac)(x:V)(H:Hp)(k:Bool):Prop:=
 match x with
 |.non=>k=false
 |.bl b=>k=b
 |.int i=>k=(i != 0)
 |.str y=>y.length<=Yai/\k=((y.length:Int) != 0)
 |.byt y=>y.size<=Yai/\k=((y.size:Int) != 0)
 |.ref p=>(∃xs,SqL K H p xs/\k = !xs.isEmpty)\/(∃xs,SqT K H p xs/\k = !xs.isEmpty)\/∃kvs,H p=some (.dK kvs)/\k = !kvs.isEmpty
 |_=>False
def jg1     (r:KV kvs vs):(!vs.isEmpty) = !kvs.isEmpty:=by
 cases r<;>rfl
def jdN    (r:Vals xs its):(!its.toArray.isEmpty) = !xs.isEmpty:=by
 cases r<;>simp
def jdK  : (Yai:Nat)<2 ^ 63:=by rw[YbP];decide
def jf0  : TruR X (λx H Q=>∃k,TruV X.K x H k/\Q k H):=by
 intro pins s σ H x v Q I rx h;obtain⟨k,e,q⟩:=h;have hl:=jdK;have hs:Yai=16777216:=YbP;cases x with
 |non=>
  cases rx;have e':k=false:=e;subst e';exact truthy_none ⟨H,I,q⟩
 |bl b=>
  cases rx;have e':k=b:=e;subst e';exact Ybe ⟨H,I,q⟩
 |int i=>
  obtain⟨t,rfl⟩:=rx;have e':k=(i != 0):=e;subst e';exact PySem.P.truthy_int ⟨H,I,q⟩
 |str y=>
  obtain⟨t,rfl⟩:=rx;obtain⟨hy,e'⟩:y.length<=Yai/\k=((y.length:Int) != 0):=e;subst e';exact PySem.P.truthy_str (by lia) ⟨H,I.tok _,q⟩
 |byt y=>
  obtain⟨t,rfl⟩:=rx;obtain⟨hy,e'⟩:y.size<=Yai/\k=((y.size:Int) != 0):=e;subst e';exact PySem.W.truthy_bytes (by lia) ⟨H,I.tok _,q⟩
 |ref p=>
  cases rx;have e':(∃xs,SqL X.K H p xs/\k = !xs.isEmpty)\/(∃xs,SqT X.K H p xs/\k = !xs.isEmpty)\/∃kvs,H p=some (.dK kvs)/\k = !kvs.isEmpty:=e;rcases e' with⟨xs,hx,e'⟩|⟨xs,hx,e'⟩|⟨kvs,hx,e'⟩
  ·subst e';obtain⟨its,r,pl,hz⟩:=I.list hx;have hlen:=r.length;exact wpAny_truthy_list pl.isList (by simp only[Yak];lia) ⟨H,I.tok _,by rw[jdN r];exact q⟩
  ·subst e';obtain⟨its,r,pl,hz⟩:=I.tuple hx;have hlen:=r.length;exact truthy_tuple pl (by simp only[Yak];lia) ⟨H,I.tok _,by rw[jdN r];exact q⟩
  ·subst e';obtain⟨hz,hS,vs,r,m⟩:kvs.length<=Yai/\(p==Ya9)=false/\∃vs,KV kvs vs/\s.heap.DictOf (jay X.prog X.w) p vs:=I.hok p _ hx;have hlen:kvs.length=vs.length:=Ydv r;exact wpAny_truthy_dict hS m (by lia) ⟨H,I.tok _,by rw[jg1 r];exact q⟩
 |_=>exact(show False from e).elim
def jiU  (ha:PE X a ta)(he:∀whole,isTrue a X.env whole=(do let v <- whole;standAt a.pos;holding [v] (truthy v))) :
  PT X a (λσ H Q=>ta σ H λx H'=>∃k,TruV X.K x H' k/\Q k H'):=by
 intro pins s σ H Q I h;exact isTrue_plain (thn (ha pins s σ H _ I h) λv s1 ⟨x,H1,I1,r1,q1⟩=>jf0 pins s1 σ H1 x v Q I1 r1 q1) (he _)

def jgS  : OpR X (Ybh .Add) (λx y H Q=>∃i j,x=.str i/\y=.str j/\i.length+j.length<=Yai/\Q (.str (i++j)) H):=by
 intro pins s σ H x y v u Q I rx ry h;obtain⟨i,j,rfl,rfl,hz,q⟩:=h;obtain⟨t,rfl⟩:=rx;obtain⟨t',rfl⟩:=ry;exact add_str (λt' tk=>⟨.str (i++j),H,I.tok _,⟨_,rfl⟩,q⟩) hz
def jfz  : OpR X (Yee .Add) (λx y H Q=>∃i j,x=.str i/\y=.str j/\i.length+j.length<=Yai/\Q (.str (i++j)) H):=by
 intro pins s σ H x y v u Q I rx ry h;obtain⟨i,j,rfl,rfl,hz,q⟩:=h;obtain⟨t,rfl⟩:=rx;obtain⟨t',rfl⟩:=ry;exact iadd_str (λt' tk=>⟨.str (i++j),H,I.tok _,⟨_,rfl⟩,q⟩) hz
def jcQ    (r:Vals [x] us):∃u,us=[u]/\RelV x u:=by
 cases r with
 |cons r1 r2=>cases r2;exact⟨_,rfl,r1⟩
def jlR    (r:Vals [x,y] us):∃u w',us=[u,w']/\RelV x u/\RelV y w':=by
 cases r with
 |cons r1 r2=>
  cases r2 with
  |cons r3 r4=>cases r4;exact⟨_,_,rfl,r1,r3⟩
def jiw  (hc:X.calm=true):jaX X (.builtin "max") (λxs H Q=>∃i j,xs=[.int i,.int j]/\Q (.int (if j>i then j else i)) H):=by
 intro pins s σ H xs us Q I r h;obtain⟨i,j,rfl,q⟩:=h;obtain⟨u,w',rfl,⟨t,rfl⟩,⟨t',rfl⟩⟩:=jlR r;refine max_two_ints (I.ok.hd hc) λh' tk k=>⟨_,H,I.kept k,?_,q⟩;by_cases hj:j>i
 ·rw[if_pos hj,if_pos hj];exact⟨_,rfl⟩
 ·rw[if_neg hj,if_neg hj];exact⟨_,rfl⟩
def jiv  (hc:X.calm=true):jaX X (.builtin "min") (λxs H Q=>∃i j,xs=[.int i,.int j]/\Q (.int (if j<i then j else i)) H):=by
 intro pins s σ H xs us Q I r h;obtain⟨i,j,rfl,q⟩:=h;obtain⟨u,w',rfl,⟨t,rfl⟩,⟨t',rfl⟩⟩:=jlR r;refine min_two_ints (I.ok.hd hc) λh' tk k=>⟨_,H,I.kept k,?_,q⟩;by_cases hj:j<i
 ·rw[if_pos hj,if_pos hj];exact⟨_,rfl⟩
 ·rw[if_neg hj,if_neg hj];exact⟨_,rfl⟩
def jiC  : jaX X (.type "int") (λxs H Q=>(∃i,xs=[.int i]/\Q (.int i) H)\/∃k,xs=[.bl k]/\Q (.int (if k then 1 else 0)) H):=by
 intro pins s σ H xs us Q I r h;rcases h with⟨i,rfl,q⟩|⟨k,rfl,q⟩
 ·obtain⟨u,rfl,t,rfl⟩:=jcQ r;exact call_int_int ⟨.int i,H,I,⟨_,rfl⟩,q⟩
 ·obtain⟨u,rfl,r1⟩:=jcQ r;cases r1;exact call_int_bool ⟨.int (if k then 1 else 0),H,I.tok _,⟨_,rfl⟩,q⟩
def LenV  (K:Yac)(x:V)(H:Hp)(n:Nat):Prop:=
 match x with
 |.str y=>y.length<=Yai/\n=y.length
 |.byt y=>y.size<=Yai/\n=y.size
 |.ref p=>(∃xs,SqL K H p xs/\n=xs.length)\/∃xs,SqT K H p xs/\n=xs.length
 |_=>False
def jjs  : jaX X (.builtin "len") (λxs H Q=>∃x n,xs=[x]/\LenV X.K x H n/\Q (.int n) H):=by
 intro pins s σ H xs us Q I r h;obtain⟨x,n,rfl,e,q⟩:=h;obtain⟨u,rfl,rx⟩:=jcQ r;have hl:=jdK;have hs:Yai=16777216:=YbP;cases x with
 |str y=>
  obtain⟨t,rfl⟩:=rx;obtain⟨hy,e'⟩:y.length<=Yai/\n=y.length:=e;subst e';exact len_str (by lia) ⟨.int _,H,I.tok _,⟨_,rfl⟩,q⟩
 |byt y=>
  obtain⟨t,rfl⟩:=rx;obtain⟨hy,e'⟩:y.size<=Yai/\n=y.size:=e;subst e';exact PySem.W.len_bytes (by lia) ⟨.int _,H,I.tok _,⟨_,rfl⟩,q⟩
 |ref p=>
  cases rx;have e':(∃xs,SqL X.K H p xs/\n=xs.length)\/∃xs,SqT X.K H p xs/\n=xs.length:=e;rcases e' with⟨xs,hx,e'⟩|⟨xs,hx,e'⟩
  ·subst e';obtain⟨its,r',pl,hz⟩:=I.list hx;have hlen:=r'.length;exact Calls.call_len_list pl.isList (by simp only[Yak];lia) ⟨.int xs.length,H,I.tok _,⟨_,by simp only[Yak];rw[hlen]⟩,q⟩
  ·subst e';obtain⟨its,r',pl,hz⟩:=I.tuple hx;have hlen:=r'.length;exact len_tuple pl (by simp only[Yak];lia) ⟨.int xs.length,H,I.tok _,⟨_,by simp only[Yak];rw[hlen]⟩,q⟩
 |_=>exact(show False from e).elim
end

structure ObjM (h:Heap)(x dx C:Addr)(mA:Str->Option Value):Prop where
 obj:h.get? x=some (Yd1 C dx)
 ns:h.Ns1 dx mA
 ne:dx≠x

def jhW  {h:Heap}(n:h.Ns1 dx mA):∃od,h.get? dx=some od/\∀name,Yeh name od=some (mA name):=by
 obtain⟨o,es,ep,ho,hd,hk,_,hm⟩:=n;refine⟨o,ho,λname=>?_⟩;have e:=hm name;unfold nsFind findBy at e;rw[<- YdK]at e;unfold Yeh;rw[hd];dsimp only;split
 ·rename_i y q;rw[q]at e;exact congrArg some e
 ·rename_i q;rw[q]at e;have a:es.toList.any (·.refKey)=false:=by
   rw[List.any_eq_false];intro y hy;obtain⟨z,t,hkey⟩:=hk y (Array.mem_toList_iff.mp hy);simp[Yej.refKey,hkey]
  have a':¬es.toList.any (·.refKey)=true:=by rw[a];exact Yaj
  rw[if_neg a'];exact congrArg some e

def ObjM.look     (I:ObjM h x dx C mA):∃od,PySem.W.InstAt h x (Yd1 C dx) C (some od)/\∀name,Yeh name od=some (mA name):=
 let ⟨od,ho,hl⟩:=jhW I.ns
 ⟨od,⟨I.obj,rfl,rfl,ho⟩,hl⟩



noncomputable def putF  (f:Str)(v:V):List (Str×V)->List (Str×V)
 |[]=>[(f,v)]
 |(g,x)::r=>if g=f then (g,v)::r else (g,x)::putF f v r
theorem jdc   f g v:∀fs ,(putF f v fs).lookup g=if g=f then some v else fs.lookup g
 |[]=>by
  show Ybt g [(f,v)]=_;by_cases h:g=f
  ·have hb:(g==f)=true:=beq_iff_eq.mpr h;simp only[Ybt,hb,if_pos h]
  ·have hb:(g==f)=false:=beq_eq_false_iff_ne.mpr h;simp only[Ybt,hb,if_neg h]
 |(k,x)::r=>by
  have ih:=jdc f g v r;rw[show putF f v ((k,x)::r)=(if k=f then (k,v)::r else (k,x)::putF f v r)from rfl]
  by_cases hk:k=f
  ·rw[if_pos hk];by_cases h:g=k
   ·have hb:(g==k)=true:=beq_iff_eq.mpr h;simp only[Ybt,hb,if_pos (h.trans hk)]
   ·have hb:(g==k)=false:=beq_eq_false_iff_ne.mpr h;simp only[Ybt,hb,if_neg (λe:g=f=>h (e.trans hk.symm))]
  ·rw[if_neg hk];by_cases h:g=k
   ·have hb:(g==k)=true:=beq_iff_eq.mpr h;simp only[Ybt,hb,if_neg (λe:g=f=>hk (h.symm.trans e))]
   ·have hb:(g==k)=false:=beq_eq_false_iff_ne.mpr h;simp only[Ybt,hb];exact ih
def RelO.some_of    (r:RelO (some v) o):∃u,o=some u/\RelV v u:=by
 cases o with
 |none=>exact(show False from r).elim
 |some u=>exact⟨u,rfl,r⟩
def RelO.none_of   (r:RelO none o):o=none:=by
 cases o with
 |none=>rfl
 |some u=>exact(show False from r).elim

def jlv  (hok:HOk P w H h)(e:H a=some (.ins C dx fs)):∃mA,ObjM h a dx C mA/\(∀f,RelO (fs.lookup f) (mA f))/\PySem.Within mA (fs.map (·.1))/\fs.length<=1000/\H dx=some (.own a):=by
 obtain⟨d,z,ne,ob,mA,n,r,q⟩:=(show jaB P w H h a (.ins C dx fs)from hok a _ e);exact⟨mA,⟨ob,n,ne⟩,r,q,z,d⟩

structure Cls (K:Yac)(C:Addr):Prop where
 pg:Yfx K C Yfk=true
 hd:PySem.W.hasDictIn K C=true
 po:PySem.W.plainOver K C=true
 sa:YcG K (.ref C) "__setattr__" = some (some (.builtin "object.__setattr__"))
def Cls.get  {K:Yac}(c:Cls K C) f:Yfx K C f=true:=c.pg
structure Con (K:Yac)(C:Addr)(f:Str)(v:V)(u:Value):Prop where
 at_:YcG K (.ref C) f=some (some u)
 rel:RelV v u
 get:Yfm K u "__get__" = some none
 cp:PySem.W.copiedNames.contains f=false
structure Meth (K:Yac)(C:Addr)(m:Str)(f:Addr):Prop where
 at_:YcG K (.ref C) m=some (some (.ref f))
 fn:PySem.W.isFn K (.ref f)=true
 kp:Ybc K (.ref f)=true


def jlM          (hb:Yck e f env (eval e env)=eval e env)
  (h:wpAny (model prog w) A (eval e env) (λo s₁=>wpAny (model prog w) A (getAttr o f true) Q E s₁) E s):wpAny (model prog w) A (eval (.Attribute e f pos) env) Q E s:=
 Attribute_any_ h (by rw[arm_eval_Attribute,hb])



section
variable {X:Cx}{pins:List (Addr×Obj)}{σ:St}{H:Hp}{s:Shared}{A:Around}{E:Value->Shared->Prop}{Q:Value->Shared->Prop}{c:Value}{b:Bool}
inductive TyOf (K:Yac)(H:Hp):V->Value->Prop where
 |non:TyOf K H .non (.type "NoneType")
 |bl (x:Bool):TyOf K H (.bl x) (.type "bool")
 |int (i:Int):TyOf K H (.int i) (.type "int")
 |str (x:Str):TyOf K H (.str x) (.type "str")
 |flt (x:UInt64):TyOf K H (.flt x) (.type "float")
 |lst {a:Addr} {xs:List V} (e:H a=some (.lst xs)):TyOf K H (.ref a) (.type "list")
 |frz {a:Addr} {o:Obj} {xs:List V} (e:H a=some (.frz o (.lst xs))):TyOf K H (.ref a) (.type "list")
 |tup {a:Addr} {xs:List V} (e:H a=some (.tup xs)):TyOf K H (.ref a) (.type "tuple")
 |dK {a:Addr} {kvs:List (Key×V)} (e:H a=some (.dK kvs)):TyOf K H (.ref a) (.type "dict")
 |dT {a:Addr} {kvs:List (List Key×V)} (e:H a=some (.dT kvs)):TyOf K H (.ref a) (.type "dict")
 |ins {a C dx:Addr} {fs:List (Str×V)} (e:H a=some (.ins C dx fs)) (cl:Cls K C) (ha:YcG K (.ref C) "__class__" = some (some (.builtin "object.__class__")))
   (hn:Yfm K (.builtin "object.__class__") "__get__" = some (some (.builtin "getset_descriptor.__get__"))) (htk:PySem.W.takesIn K (.builtin "object.__class__")=some true)
   (hm:PySem.W.mroIn K C (.type "object")=some true):TyOf K H (.ref a) (.ref C)
def jh3    (I:Inv X pins σ H s)(rx:RelV x u)(ty:TyOf X.K H x t)(e:Yda X.K t c=some b)(h:∀tk,Q (.bool b) { s with toks:=tk }) :
  wpAny (model X.prog X.w) A (call (.builtin "isinstance") [u,c]) Q E s:=by
 cases ty with
 |non=>cases(show u=YbD from rx);exact Ybd PySem.W.kitx_none I.kIn YbM e (λz=>nomatch z) h
 |bl y=>cases(show u=Yey y from rx);exact Ybd PySem.W.kitx_bool I.kIn YbM e (λz=>nomatch z) h
 |int i=>obtain⟨t,q⟩:=(show ∃t,u=Yeg i t from rx);cases q;exact Ybd PySem.W.kitx_int I.kIn YbM e (λz=>nomatch z) h
 |str y=>obtain⟨t,q⟩:=(show ∃t,u=Ye1 y t from rx);cases q;exact Ybd PySem.W.kitx_str I.kIn YbM e (λz=>nomatch z) h
 |flt y=>obtain⟨t,q⟩:=(show ∃t,u=Value.float y t from rx);cases q;exact Ybd PySem.W.kitx_float I.kIn YbM e (λz=>nomatch z) h
 |@lst a xs ea=>
  cases(show u=Ya5 a from rx);obtain⟨_,_,n,_,h1⟩:=(show jaB X.prog X.w H s.heap a (.lst xs)from I.hok a _ ea);exact Ybd Yfn I.kIn ⟨_,h1,rfl⟩ e (λz=>nomatch z) h
 |@frz a ob xs ea=>
  cases(show u=Ya5 a from rx);obtain⟨_,_,_,n,_,h1⟩:=(show jaB X.prog X.w H s.heap a (.frz ob (.lst xs))from I.hok a _ ea);exact Ybd Yfn I.kIn ⟨_,h1,rfl⟩ e (λz=>nomatch z) h
 |@tup a xs ea=>
  cases(show u=Ya5 a from rx);obtain⟨_,_,_,p⟩:=(show jaB X.prog X.w H s.heap a (.tup xs)from I.hok a _ ea);obtain⟨o,h1,h2,_⟩:=p;exact Ybd PySem.W.kitx_tuple I.kIn ⟨o,h1,h2⟩ e (λz=>nomatch z) h
 |@dK a kvs ea=>
  cases(show u=Ya5 a from rx);obtain⟨_,_,vs,_,p⟩:=(show jaB X.prog X.w H s.heap a (.dK kvs)from I.hok a _ ea);obtain⟨o,es,ep,h1,h2,_⟩:=p;exact Ybd Yfo I.kIn ⟨o,h1,h2.1⟩ e (λz=>nomatch z) h
 |@dT a kvs ea=>
  cases(show u=Ya5 a from rx);obtain⟨_,_,xs,_,o,es,ep,h1,h2,_⟩:=(show jaB X.prog X.w H s.heap a (.dT kvs)from I.hok a _ ea);exact Ybd Yfo I.kIn ⟨o,h1,h2.1⟩ e (λz=>nomatch z) h
 |@ins a C dx fs ea cl ha hn htk hm=>
  cases(show u=Ya5 a from rx);obtain⟨mA,O,_⟩:=jlv I.hok ea;obtain⟨od,J,_⟩:=O.look;exact Ybd (PySem.W.kitx_own (cl.get _) cl.hd ha hn htk hm) I.kIn J e (λz=>nomatch z) h
end

structure Room (k:Nat)(A:Around):Prop where
 hd:A.handled=none
 dp:A.depth+k+20<recursionLimit
 un:A.units+8*k+200<cLine
 gd:A.guards=some []
def Room.mono    (r:Room k A)(h:j<=k):Room j A:=⟨r.hd,by have:=r.dp;lia,by have:=r.un;lia,r.gd⟩
def Room.deeper    (r:Room (k+1) A) env:Room k (A.deeper env):=
 ⟨r.hd,by have:=r.dp;show A.depth+1+k+20<_;lia,by have:=r.un;show A.units+3+8*k+200<_;lia,r.gd⟩
def jgW  {A:Around}:(A.under (.builtin "type.__call__" ⟨.ref C::us,kw⟩)).depth=A.depth+1:=by
 first|rfl|simp[YeW,Code.weight,Code.isCreation,Code.isGuard,Code.isCaller,Code.frames,Yfe,guardIds]
def jgV  {A:Around}:(A.under (.builtin "type.__call__" ⟨.ref C::us,kw⟩)).units=A.units+1:=by
 first|rfl|simp[YeW,Code.cUnits,Code.frames,Yfe]
def Room.make    (r:Room (k+1) A) C us kw:Room k (A.under (.builtin "type.__call__" ⟨.ref C::us,kw⟩)):=
 ⟨r.hd,by have:=r.dp;rw[jgW];lia,by have:=r.un;rw[jgV];lia,r.gd⟩
def Room.depth    (r:Room k A):A.depth<recursionLimit:=by have:=r.dp;lia
def Room.units    (r:Room k A):A.units+64<cLine:=by have:=r.un;lia
def Room.units0    (r:Room k A):A.units<cLine:=by have:=r.un;lia

def tNil  : TA:=λ_ H Q=>Q [] H
def jo4  (ta:TE)(tr:TA):TA:=λσ H Q=>ta σ H λx H1=>tr σ H1 λxs H2=>Q (x::xs) H2
section
variable {X:Cx}{e:Expr}{es:List Expr}{te:TE}{t:TA}{pos:Pos}
def jdD  : PA X [] tNil:=λ_ _ _ _ H Q I h=>Calls.spliced_nil ⟨[],H,I,.nil,h⟩
def jbd (ha:PE X e te)(hr:PA X es t)(hs:YaA (e::es) X.env=(false,eval e X.env)::YaA es X.env:=by rfl):PA X (e::es) (jo4 te t):=by
 intro pos pins s σ H Q I h;rw[hs];show wpAny _ _ (spliced ((false,eval e X.env)::backTo pos (YaA es X.env))) _ _ s;refine YfE (thn (ha pins s σ H _ I h) λu s1 ⟨x,H1,I1,r1,q1⟩=>?_);exact thn (hr pos pins s1 σ H1 _ I1 q1) λus s2 ⟨xs,H2,I2,r2,q2⟩=>⟨x::xs,H2,I2,.cons r1 r2,q2⟩

def tTup  (t:TA):TE:=λσ H Q=>t σ H λxs H1=>xs.length<=Yai/\∀p,H1 p=none->Q (.ref p) (upd H1 p (.tup xs))
def tLst  (t:TA):TE:=λσ H Q=>t σ H λxs H1=>xs.length<=Yai/\∀p,H1 p=none->Q (.ref p) (upd H1 p (.lst xs))
def jhE   (h:PA X es t):PE X (.Tuple es x1 pos) (tTup t):=by
 intro pins s σ H Q I hq;refine wpAny_Tuple_spliced (thn (h pos pins s σ H _ I hq) λus s1 ⟨xs,H1,I1,r,z,q⟩=>⟨by rw[<- r.length];exact z,?_⟩)
 have hf:H1 s1.heap.objs.size=none:=I1.hok.fresh (Yah _);refine⟨.ref s1.heap.objs.size,upd H1 s1.heap.objs.size (.tup xs),I1.laid (t':=s1.toks) (λb u e=>Yaf _ e) (Yah _) ?_,rfl,q _ hf⟩;exact⟨z,us,r,⟨_,Yax _ rfl,rfl,_,rfl,rfl⟩⟩
def jjT  (h:PA X es t):PE X (.List es pos) (tLst t):=by
 intro pins s σ H Q I hq;refine wpAny_List_spliced (thn (h pos pins s σ H _ I hq) λus s1 ⟨xs,H1,I1,r,z,q⟩=>⟨by rw[<- r.length];exact z,?_⟩)
 have hf:H1 s1.heap.objs.size=none:=I1.hok.fresh (Yah _);refine⟨.ref s1.heap.objs.size,upd H1 s1.heap.objs.size (.lst xs),I1.laid (t':=s1.toks) (λb u e=>Yaf _ e) (Yah _) ?_,rfl,q _ hf⟩;exact⟨z,us,0,r,Yax _ rfl⟩
end

abbrev Sp:=List V->Hp->VK->XK->Prop
abbrev CXT:=List Env->Hp->Shared->XK->Value->Shared->Prop

structure Env0 (P:Program)(w:World)(K:Yac)(mg:Str->Option Value)(base:Heap)(A:Around)(outer:List Env)(s:Shared)(H:Hp):Prop where
 frames:A.frames=some outer
 mod:Mod K mg base
 bs:∀b o,base.get? b=some o->s.heap.get? b=some o/\H b=none
 bsz:base.objs.size<=s.heap.objs.size
 funs:s.heap.FunFrames base outer
 frf:∀b∈frs outer,H b=none
 hok:HOk P w H s.heap
 bare:AllBare s.gens
def CE  (outer:List Env)(P:Program)(w:World)(H:Hp)(s:Shared)(Q:VK)(u:Value)(s':Shared):Prop:=
 ∃v H',s'.os=s.os/\AllBare s'.gens/\Un (frs outer) [] H H' s.heap s'.heap/\HOk P w H' s'.heap/\RelV v u/\Q v H'
def CR  (CX:CXT)(outer:List Env)(P:Program)(w:World)(H:Hp)(s:Shared)(Q:VK)(E:XK)(r:Result)(s':Shared):Prop:=
 match r with
 |.ok (.ret u)=>CE outer P w H s Q u s'
 |.ok _=>False
 |.error e=>CX outer H s E e s'
structure FnOk (P:Program)(w:World)(K:Yac)(mg:Str->Option Value)(base:Heap)(CX:CXT)(k:Nat)(f:Addr)(fd:Ydk)(ps:List Str)(sp:Sp):Prop where
 len:∀vs H Q E,sp vs H Q E->vs.length=ps.length
 run:∀(A:Around) (outer:List Env) (s:Shared) (H:Hp) (args:Args) (us:List Value) (vs:List V) (Q:VK) (E:XK),Room k A->Env0 P w K mg base A outer s H->BindsTo s fd args (ps.zip us)->Vals vs us->sp vs H Q E->
  codeAny (model P w) A (.call (.ref f) args) (CR CX outer P w H s Q E) s
def Env0.make    {K:Yac}(e:Env0 P w K mg base A outer s H) C us kw :
  Env0 P w K mg base (A.under (.builtin "type.__call__" ⟨.ref C::us,kw⟩)) outer s H:=⟨by first|exact e.frames|(simpa[YeW,Code.envs,Yfe,pushEnvs]using e.frames),e.mod,e.bs,e.bsz,e.funs,e.frf,e.hok,e.bare⟩

def Inv.env0  {σ: St}(I:Inv X pins σ H s):Env0 X.prog X.w X.K X.mg X.base X.A X.stack s H:=
 ⟨I.ok.frames,I.ok.mod,I.bs,Yag I.ok.bsz I.sz,I.stack,I.stkFree,I.hok,I.bare⟩
def Inv.after  {σ: St}(I:Inv X pins σ H s)(h:CE X.stack X.prog X.w H s Q u s'):EP X pins σ Q u s':=by
 obtain⟨v,H',os,bare,un,hok,r,q⟩:=h;obtain⟨hh,g,d,t,os'⟩:=s';obtain rfl:os'=s.os:=os;exact⟨v,H',I.call (h':=hh) (g':=g) (d':=d) (t':=t) (ch:=[]) un hok bare (λb z=>absurd z (by simp)),r,q⟩

def Binds  (K:Yac)(fd:Ydk)(ps:List Str)(ds:List Value):Prop:=
 ∀(s:Shared) (us:List Value),K.In s.heap->(us++ds).length=ps.length->BindsTo s fd ⟨us,[]⟩ (ps.zip (us++ds))
def Binds.all  {K:Yac}(h:∀us ,us.length=ps.length->bindArgs fd ⟨us,[]⟩=pure (ps.zip us)):Binds K fd ps []:=λs us _ hl=>by
 rw[Ycq]at hl ⊢;exact .of_eq (h us hl)

section
variable {X:Cx}{CX:CXT}{k:Nat}{f C:Addr}{fd:Ydk}{ps:List Str}{sp:Sp}{dvs:List V}{ds:List Value}{E:XK}{x m:Str}{p pos apos:Pos}{e o:Expr}{es:List Expr}{ta:TE}{t:TA}

structure Mk (K:Yac)(C f:Addr):Prop where
 makes:PySem.W.makesIn K C=true
 init:YcG K (.ref C) "__init__" = some (some (.ref f))
 fn:PySem.W.isFn K (.ref f)=true
 kp:Ybc K (.ref C)=true

end

def PK  (X:Cx)(kws:List Keyword)(t:TA):Prop:=
 ∀(pos:Pos) (pins:List (Addr×Obj)) (s:Shared) (σ:St) (H:Hp) (Q:List V->Hp->Prop),Inv X pins σ H s->t σ H Q->wpAny (model X.prog X.w) X.A (evalAll ((backToKw pos (Ye0 kws X.env)).map (·.2))) (AP X pins σ Q) X.xe s
section
variable {X:Cx}{CX:CXT}{k:Nat}{f C:Addr}{fd:Ydk}{ps ks:List Str}{sp:Sp}{E:XK}{x m:Str}{p pos apos kpos:Pos}{e o:Expr}{es:List Expr}{kws:List Keyword}{te ta:TE}{t tk:TA}{nm:Option Str}
def pk_nil  : PK X [] tNil:=λ_ _ _ _ H Q I h=>wpAny_evalAll_nil ⟨[],H,I,.nil,h⟩
structure KBinds (K:Yac)(fd:Ydk)(ps ks:List Str)(g:List Value->List Value->List Value)(gV:List V->List V->List V):Prop where
 to:∀(s:Shared) (us ws:List Value),K.In s.heap->(g us ws).length=ps.length->BindsTo s fd ⟨us,ks.zip ws⟩ (ps.zip (g us ws))
 rel:∀{vs:List V} {us:List Value} {zs:List V} {ws:List Value},Vals vs us->Vals zs ws->Vals (gV vs zs) (g us ws)

end

structure FnScope (N P:List Str)(sc:Scope):Prop where
 kind:sc.kind=.function
 co:sc.isCoroutine=false
 gen:sc.isGenerator=false
 nd:N.Nodup
 pre:N.take P.length=P
 par:∀x∈P,sc.names.lookup x=some .local\/sc.names.lookup x=some .cell
 nofree:∀y∈sc.names,y.2≠.free

theorem je8  {kindOf:Str->Option YbE}:∀{binds } {m },(∀v,(x,v)∉binds)->bindL kindOf binds m x=m x
 |[],_,_=>rfl
 |(n,v)::r,m,h=>by
  unfold bindL;rw[je8 λw hw=>h w (Yal _ hw)];split
  ·have:x≠n:=by rintro rfl;exact h v Yat
   simp[this]
  ·rfl
theorem jfa  {kindOf:Str->Option YbE}:∀{binds } {m },(∀v,(x,v)∉binds)->bindC kindOf binds m x=m x
 |[],_,_=>rfl
 |(n,v)::r,m,h=>by
  unfold bindC;rw[jfa λw hw=>h w (Yal _ hw)];split
  ·rfl
  ·have:x≠n:=by rintro rfl;exact h v Yat
   simp[this]
theorem je9  {kindOf:Str->Option YbE}:∀{P:List Str} {vs } {i:Nat} {m },P.Nodup->P[i]?=some x->vs[i]?=some v->kindOf x=some .local->
  bindL kindOf (P.zip vs) m x=some v
 |[],_,_,_,_,h,_,_=>by simp at h
 |_::_,[],_,_,_,_,h,_=>by simp at h
 |p::P,w::vs,0,m,nd,h1,h2,hk=>by
  simp at h1 h2;subst h1;subst h2;show bindL kindOf ((p,w)::P.zip vs) m p=_;unfold bindL;rw[je8 λv hv=>(List.nodup_cons.mp nd).1 (Ydb hv).1,if_pos hk];simp
 |p::P,w::vs,i+1,m,nd,h1,h2,hk=>by
  show bindL kindOf ((p,w)::P.zip vs) m x=_;unfold bindL;exact je9 (i:=i) (List.nodup_cons.mp nd).2 (by simpa using h1) (by simpa using h2) hk
theorem jfb  {kindOf:Str->Option YbE}:∀{P:List Str} {vs } {i:Nat} {m },P.Nodup->P[i]?=some x->vs[i]?=some v->kindOf x≠some .local->
  bindC kindOf (P.zip vs) m x=some v
 |[],_,_,_,_,h,_,_=>by simp at h
 |_::_,[],_,_,_,_,h,_=>by simp at h
 |p::P,w::vs,0,m,nd,h1,h2,hk=>by
  simp at h1 h2;subst h1;subst h2;show bindC kindOf ((p,w)::P.zip vs) m p=_;unfold bindC;rw[jfa λv hv=>(List.nodup_cons.mp nd).1 (Ydb hv).1,if_neg hk];simp
 |p::P,w::vs,i+1,m,nd,h1,h2,hk=>by
  show bindC kindOf ((p,w)::P.zip vs) m x=_;unfold bindC;exact jfb (i:=i) (List.nodup_cons.mp nd).2 (by simpa using h1) (by simpa using h2) hk

noncomputable def start  (N:List Str)(vs:List V):St:=vs.map some++Yab (N.length-vs.length) none

noncomputable def cxOf  (CX:CXT)(P:Program)(w:World)(K:Yac)(mg:Str->Option Value)(base:Heap)(N:List Str)(qual:Str)(scope:Scope)(f:Addr)(cd:Value)(A:Around)(outer:List Env)(s:Shared)(H:Hp)(E:XK):Cx where
 prog:=P
 w:=w
 K:=K
 mg:=mg
 base:=base
 A:=A.deeper (envOfC qual scope s.heap.objs.size f cd)
 N:=N
 s₀:=s
 H₀:=H
 env:=envOfC qual scope s.heap.objs.size f cd
 outer:=outer
 stack:=envOfC qual scope s.heap.objs.size f cd::outer
 ex:=[]
 calm:=true
 fn:=λ_=>true
 pn:=[]
 xe:=λe s'=>wpAny (model P w) (A.deeper (envOfC qual scope s.heap.objs.size f cd)) (leaving (envOfC qual scope s.heap.objs.size f cd) e) (λ_ s''=>CX outer H s E e s'') (λe' s''=>CX outer H s E e' s'') s'

def jeq  {sc:Scope}(h:sc.names.lookup x=some .cell):∃c,(Ybm n sc.names []).lookup x=some c:=by
 have q:=YcV sc.names n [] (.inl h);exact Option.isSome_iff_exists.mp q

def jeX     {K:Yac} 
  (S:FnScope N ps scope) (hd:A.handled=none) (e0:Env0 P w K mg base A outer s H) (hl:vs.length=ps.length) (r:Vals vs us)
  (x:InCallC s s.heap.objs.size (bindL (envOfC qual scope s.heap.objs.size f cd).kindOf (ps.zip us) λ_=>none) (Ybm (s.heap.objs.size+1) scope.names []) (bindC (envOfC qual scope s.heap.objs.size f cd).kindOf (ps.zip us) λ_=>none) s1) :
  Inv (cxOf CX P w K mg base N qual scope f cd A outer s H E) [] (start N vs) H s1:=by
 have hpl:ps.length<=N.length:=by have:=congrArg List.length S.pre;rw[Yea]at this;lia
 obtain⟨h1,tk,rfl,hk⟩:=x.done;have noA:∀b:Addr,b∉(cxOf CX P w K mg base N qual scope f cd A outer s H E).ex:=λb z=>absurd (show b∈([]:List Addr)from z) (by simp)
 refine⟨⟨e0.mod,S.kind,rfl,rfl,Yah _,λy z c h1 h2=>?_,λy hy=>?_,λy c _ h=>?_,λ_=>hd,Around.frames_deeper e0.frames,.inr ⟨rfl,rfl⟩,λb z=>absurd z (noA b),e0.bs,e0.bsz,λb _ _=>noA b,λb z=>absurd z (noA b),e0.funs,e0.frf⟩,
  rfl,e0.bare,Un.kept hk,⟨_,x.toInCall.ns,λi y v h1 h2 h3=>?_⟩,λy c h=>⟨_,x.cell y c h⟩,e0.hok.fresh (Yah _),λy c h=>?_,λp hp=>absurd (show p∈([]:List (Addr×Obj))from hp) (by simp),e0.hok.kept hk,?_⟩
 ·exact name_of_addr x.apart (YaE h1) (YaE h2)
 ·have hy:scope.names.lookup y=some .cell\/scope.names.lookup y=some .free:=hy;rcases hy with hy|hy
  ·exact jeq hy
  ·exact absurd rfl (S.nofree _ (YaE hy))
 ·exact Ycp (x.above y c (YaE h))
 ·have hi:i<vs.length:=by
   unfold start at h2;by_cases hi:i<vs.length
   ·exact hi
   ·rw[Yb8 (by simpa using hi)]at h2
    rw[YeQ]at h2;split at h2<;>cases h2
  have ha:vs[i]?=some v:=by
   unfold start at h2;rw[Ybj (by simpa using hi),Yav]at h2
   cases e:vs[i]? with
   |none=>rw[e]at h2;cases h2
   |some a=>rw[e]at h2;cases h2;rfl
  obtain⟨u,hu,rv⟩:=r.get ha;have hp:ps[i]?=some y:=by
   rw[<- S.pre,List.getElem?_take_of_lt (by lia)];exact h1
  have ndP:ps.Nodup:=by rw[<- S.pre];exact S.nd.sublist (Yf2 _ _)
  refine⟨u,rv,?_⟩;rcases S.par y (Yaq hp)with k|k
  ·exact .inl ⟨k,je9 ndP hp hu k⟩
  ·obtain⟨c,e⟩:=jeq (n:=s.heap.objs.size+1) k;refine .inr ⟨.inl k,c,e,?_⟩;have q:=x.cell y c e;rw[jfb ndP hp hu (by show scope.names.lookup y≠_;rw[k];decide)]at q
   exact q
 ·exact e0.hok.fresh (Ycp (x.above y c (YaE h)))
 ·unfold start;show _=N.length;rw[Yaw,Yaa,Ydc]
  lia

def jpL     {K : Yac}{dV kV doc pm cdv ct oc : Value} 
       (lk : K.lookup f = some ⟨oc, od, .func (Yba name qual params body scope dV kV doc pm an cdv ct), osl⟩) (hcd : Ybx K cdv qual = true) (S : FnScope N ps scope)
    (len : ∀ vs H Q E, sp vs H Q E -> vs.length = ps.length)
    (hbody : ∀ (A : Around) outer (s : Shared) H (vs : List V) Q E , Room k (A.deeper (envOfC qual scope s.heap.objs.size f cdv)) -> sp vs H Q E ->
      ∃ t, PSs (cxOf CX P w K mg base N qual scope f cdv A outer s H E) body t /\ t { nx := λ_ H' => Q .non H', rt := Q } (start N vs) H) :
    FnOk P w K mg base CX (k + 1) f (Yba name qual params body scope dV kV doc pm an cdv ct) ps sp := by
  refine ⟨len, λA outer s H args us vs Q E hr e0 hb r hsp => ?_⟩
  have hl := len _ _ _ _ hsp
  have KX : K.In s.heap := e0.mod.kin.keeps λb o e => (e0.bs b o e).1
  have lim : s.heap.NoLimit := e0.mod.nolimit.keeps λb o e => (e0.bs b o e).1
  have hkind : ∀ y ∈ ps.zip us, scope.names.lookup y.1 = some .local \/ (scope.names.lookup y.1 = some .cell /\ ((Ybm (s.heap.objs.size + 1) scope.names []).lookup y.1).isSome = true) := λ⟨n, v⟩ hy => by
    rcases S.par n (Ydb hy).1 with q | q
    · exact .inl q
    · exact .inr ⟨q, YcV _ _ _ (.inl q)⟩
  refine Yge hr.depth (KX _ _ lk) rfl S.co S.gen rfl (Ye9 KX hcd) (hb _ _ _ _ ?_)
  refine Ye7 S.kind hkind λenv he s1 x => ?_
  subst he
  refine ⟨lim.keeps x.toInCall.keep, codeAny_func ?_⟩
  obtain ⟨t, ht, hq⟩ := hbody A outer s H vs Q E (hr.deeper _) hsp
  have I : Inv (cxOf CX P w K mg base N qual scope f cdv A outer s H E) [] (start N vs) H s1 := jeX S hr.hd e0 hl r x
  refine YaY (ht [] s1 (start N vs) H _ I hq) (λfl s' hs => ?_) λe s' hs => hs
  have fin : ∀ {σ' : St} {H' : Hp} {v : V} {u : Value}, Inv (cxOf CX P w K mg base N qual scope f cdv A outer s H E) [] σ' H' s' -> RelV v u -> Q v H' -> CE outer P w H s Q u s' :=
    λ{σ' H' v u} J rv q => ⟨v, H', J.os, J.bare, J.base, J.hok, rv, q⟩
  cases fl with
  | ret u =>
    obtain ⟨v, σ', H', J, rv, q⟩ := hs
    exact fin J rv q
  | next =>
    obtain ⟨σ', H', J, q⟩ := hs
    exact fin (v := V.non) (u := YbD) J rfl q
  | brk =>
    obtain ⟨_, _, _, q⟩ := hs
    exact YcS q
  | cont =>
    obtain ⟨_, _, _, q⟩ := hs
    exact YcS q
section
variable {X:Cx}{x:Str}{p pos:Pos}{e:Expr}{es:List Expr}{t:TA}{id T:String}{r:List V->Hp->VK->Prop}

def tCB  (r:List V->Hp->VK->Prop)(t:TA):TE:=λσ H Q=>t σ H λvs H1=>r vs H1 Q
def jcL (hc:jaX X (.builtin id) r)(hg:Gl X x)(hm:X.mg x=none)(hv:YbN x=some (.builtin id))(ha:PA X (e::es) t)(hn:x ≠ "__name__" := by decide)(hdb:(x==("__debug__" : Str))=false:=by decide)
  (he:YaA (e::es) X.env=(false,eval e X.env)::YaA es X.env:=by rfl) (hpl:(backTo pos (YaA es X.env)).any (·.1)=false:=by rfl):PE X (.Call (.Name x p) (e::es) [] pos) (tCB r t):=by
 intro pins s σ H Q I h;refine Yb6 (jde I hg hm hv ?_ hn hdb);exact PyProof.Rows.callWith_builtin1 (thn (ha pos pins s σ H _ I h) λus s1 ⟨vs,H1,I1,r1,q1⟩=>hc pins s1 σ H1 vs us Q I1 r1 q1) he hpl
def jc0 (hc:jaX X (.type T) r)(hg:Gl X x)(hm:X.mg x=none)(hv:YbN x=some (.type T))(ha:PA X (e::es) t)(hn:x ≠ "__name__" := by decide)(hdb:(x==("__debug__" : Str))=false:=by decide)
  (he:YaA (e::es) X.env=(false,eval e X.env)::YaA es X.env:=by rfl) (hpl:(backTo pos (YaA es X.env)).any (·.1)=false:=by rfl):PE X (.Call (.Name x p) (e::es) [] pos) (tCB r t):=by
 intro pins s σ H Q I h;refine Yb6 (jde I hg hm hv ?_ hn hdb);exact Ybp (thn (ha pos pins s σ H _ I h) λus s1 ⟨vs,H1,I1,r1,q1⟩=>hc pins s1 σ H1 vs us Q I1 r1 q1) he hpl
end
end L2

namespace HT
open PySem PyProof.Rows

noncomputable def lexLt  : List Int->List Int->Bool
 |[],[]=>false
 |[],_::_=>true
 |_::_,[]=>false
 |x::xs,y::ys=>if x=y then lexLt xs ys else decide (x<y)
section
open PySem.SeqAt
open PySem.AutoSeq1 (wpAny_loadPart')
open PySem.MeetsSeq PySem.MeetsSeq2 PySem.MeetsSeq3

end


def cat_tup     (ht:IsTup s.heap t vs.toArray)(hb:IsTup s.heap b ws.toArray)(hv:vs≠[])
  (h1:ws=[]->Q (.ref t) s) (h2:ws≠[]->Q (.ref s.heap.objs.size) { s with heap:=s.heap.push { cls:=.type "tuple",data:=.seq (vs++ws).toArray } })
  (hsz:vs.length+ws.length<=Yai):wpAny (model prog w) A (Ybh .Add (.ref t) (.ref b)) Q E s:=by
 obtain⟨⟨cls,dd,data,sl⟩,ho,hc,n,hd⟩:=id ht;obtain⟨⟨cls2,dd2,data2,sl2⟩,ho2,hc2,n2,hd2⟩:=id hb;simp only at hc hd hc2 hd2;subst hc hd hc2 hd2;have e:vs.toArray++ws.toArray=(vs++ws).toArray:=by simp
 by_cases hw:ws=[]
 ·exact Ygd ⟨_,ho,rfl⟩ ⟨_,ho2,rfl⟩ YeE YfJ YcW YcR (YcI _ _)
   (tuple_addW1 t b vs.toArray ws.toArray n n2 dd dd2 sl sl2 (by simpa using hv) (by simp[hw])) ⟨ho,ho2,h1 hw⟩
 ·refine Ygd ⟨_,ho,rfl⟩ ⟨_,ho2,rfl⟩ YeE YfJ YcW YcR (YcI _ _)
   (tuple_addW2 t b vs.toArray ws.toArray n n2 dd dd2 sl sl2 (by simpa using hv) (by simpa using hw) (by rw[Yak,Yak];exact hsz)) ⟨ho,ho2,?_⟩
  rw[e];exact h2 hw

noncomputable def sIx  (n d:Nat):Option Int->Nat
 |none=>d
 |some v=>if v<0 then (v+(n:Int)).toNat else min v.toNat n
def sIx_none   n d:sIx n d none=d:=rfl
def sIx_nat  (n d k:Nat):sIx n d (some (k:Int))=min k n:=by
 show(if (k:Int)<0 then ((k:Int)+(n:Int)).toNat else min (k:Int).toNat n)=min k n
 rw[if_neg (by lia),Ya7]
def jmn   n d (hd:d<=n) o:sIx n d o<=n:=by
 cases o with
 |none=>exact hd
 |some v=>
  show(if v<0 then (v+(n:Int)).toNat else min v.toNat n)<=n
  by_cases hv:v<0
  ·rw[if_pos hv];lia
  ·rw[if_neg hv];exact Nat.min_le_right _ _
def jit   v (n d:Nat):(if v<0 then max (v+(n:Int)) 0 else min v (n:Int))=((sIx n d (some v):Nat):Int):=by
 show(if v<0 then max (v+(n:Int)) 0 else min v (n:Int))=(((if v<0 then (v+(n:Int)).toNat else min v.toNat n):Nat):Int)
 by_cases hv:v<0
 ·simp only[if_pos hv];lia
 ·simp only[if_neg hv];lia
def jha   lo hi (n:Nat):Ycy lo hi 1 (n:Int)=(((sIx n 0 lo:Nat):Int),((sIx n n hi:Nat):Int)):=by
 have h1:¬((1:Int)<0):=by lia
 unfold Ycy;simp only[h1,if_false];refine Prod.ext ?_ ?_
 ·cases lo with
  |none=>rfl
  |some v=>exact jit v n 0
 ·cases hi with
  |none=>rfl
  |some v=>exact jit v n n
def jgQ  (i j:Nat):YbR (i:Int) (j:Int) 1=j-i:=by
 unfold YbR;have h1:(1:Int)>0:=by lia
 simp only[h1,if_true,Int.ediv_one];split<;>lia
def jdB     (p:IsPart v o)(h:Q o s):wpAny (model prog w) A (Builtin.Slice.slicePartIndex v) Q E s:=by
 cases p with
 |none=>exact slicePart_none h
 |int i t=>exact slicePart_int h
def jbl    {lo hi:Option Int}{n:Nat}(hs:s.heap.IsSliceOf sl vl vu .none)(pl:IsPart vl lo)(pu:IsPart vu hi)
  (h:Q (((sIx n 0 lo:Nat):Int),1,sIx n n hi-sIx n 0 lo) s):wpAny (model prog w) A (YdC (.ref sl) (pure (n:Int))) Q E s:=by
 obtain⟨os,hos,hcs,hds⟩:=id hs;unfold YdC Builtin.Slice.sliceFields;refine Yae (Yae (YcB hos hds (x:=vl) rfl (Yae (YcB hos hds (x:=vu) rfl (Yae (YcB hos hds (x:=.none) rfl (Yap ?_)))))));refine Yae (slicePart_none ?_);show wpAny _ _ (if ((1:Int)==0)=true then _ else _) _ _ s
 rw[if_neg (by decide)]
 refine Yae (jdB pl (Yae (jdB pu (Yae (Yap ?_)))));show wpAny _ _ (match Ycy lo hi 1 (n:Int)with|(lo,hi)=>pure (lo,(1:Int),YbR lo hi 1)) _ _ s
 rw[jha lo hi n];show wpAny _ _ (pure (((sIx n 0 lo:Nat):Int),(1:Int),YbR ((sIx n 0 lo:Nat):Int) ((sIx n n hi:Nat):Int) 1)) _ _ s;rw[jgQ];exact Yap h
def jiZ  (xs:Array Value)(i k:Nat):((YaC k).filterMap λ(m:Nat)=>xs[((i:Int)+(m:Int)*1).toNat]?).toArray=((xs.toList.drop i).take k).toArray:=by
 have e:(λ(m:Nat)=>xs[((i:Int)+(m:Int)*1).toNat]?)=λm=>xs[i+m]?:=by
  funext m;have:((i:Int)+(m:Int)*1).toNat=i+m:=by lia
  rw[this]
 rw[e];have:=pick_run xs i k;rw[List.filterMap_map]at this;have e2:((λx=>xs[x]?) ∘ λx=>i+x)=λm=>xs[i+m]?:=rfl;rw[e2]at this;rw[this]

def getItem_tuple_cut     {lo hi:Option Int}(ht:IsTup s.heap t items)(hs:s.heap.IsSliceOf sl vl vu .none)(pl:IsPart vl lo)(pu:IsPart vu hi)
  (hw:¬(sIx items.size 0 lo=0/\sIx items.size items.size hi=items.size))
  (h:Q (.ref s.heap.objs.size) { s with heap:=s.heap.push { cls:=.type "tuple",data:=.seq ((items.toList.drop (sIx items.size 0 lo)).take (sIx items.size items.size hi-sIx items.size 0 lo)).toArray } })
  (hsz:items.size<=Yai):wpAny (model prog w) A (getItem (.ref t) (.ref sl)) Q E s:=by
 have htake:sizeOk (.seq ((items.toList.drop (sIx items.size 0 lo)).take (sIx items.size items.size hi-sIx items.size 0 lo)).toArray):=by
  show((items.toList.drop (sIx items.size 0 lo)).take (sIx items.size items.size hi-sIx items.size 0 lo)).toArray.size<=Yai;rw[Yak,Yea,Ygi,Ydu]
  lia
 have hj:sIx items.size items.size hi<=items.size:=jmn _ _ (Yah _) hi;obtain⟨os,hos,hcs,hds⟩:=id hs;have hTs:s.TypeIs (.ref sl) "slice" := ⟨os,hos,hcs⟩;unfold getItem
 try with_reducible refine Ybo ?_
 first|refine Yae (Yap ?_)|skip
 refine Yae (wpAny_sequenceKey ht.typeIs (by decide) ?_)
 refine Yae (Ydd (name:=Yco "__getitem__") ht.typeIs Ybw
  (YeD Ybw ht.typeIs entry_tuple_getitem ?_ (args_tuple_getitem _ _)))
 show wpAny _ _ (YdA (.ref t) >>= _) _ _ s;refine Yae (tupleItemsOf_ ht ?_);refine Yae (Yex hTs ?_);rw[if_pos (by decide)]
 refine Yae (jbl hs pl pu ?_);have hno:¬((((sIx items.size 0 lo:Nat):Int)==0&&(1:Int)==1&&(sIx items.size items.size hi-sIx items.size 0 lo)==items.size)=true):=by
  intro q;rw[Yao,Yao]at q;have q1:((sIx items.size 0 lo:Nat):Int)=0:=eq_of_beq q.1.1;have q2:sIx items.size items.size hi-sIx items.size 0 lo=items.size:=eq_of_beq q.2;exact hw ⟨by lia,by lia⟩
 show wpAny _ _ (if (((sIx items.size 0 lo:Nat):Int)==0&&(1:Int)==1&&(sIx items.size items.size hi-sIx items.size 0 lo)==items.size)=true then _ else _) _ _ s
 rw[if_neg hno,jiZ]
 first
  |exact Yae (m:=Yb3 _) (Ybv (Yap ⟨_,rfl,Yap h⟩) htake)
  |exact Yae (m:=Yb3 _) (Ybv (Yae (Yap (Yap ⟨_,rfl,Yap h⟩))) htake)
  |exact Yae (Yae (m:=Yb3 _) (Ybv (Yap (Yap ⟨_,rfl,Yap h⟩)) htake))
  |exact Yae (Yae (m:=Yb3 _) (Ybv (Yap ⟨_,rfl,Yap h⟩) htake))
end HT

namespace L2
open PySem PySem.Spec PyProof.Rows

abbrev TO:=St->Hp->(Option Int->Hp->Prop)->Prop
def PO  (X:Cx)(e:Option Expr)(t:TO):Prop:=
 ∀(pins:List (Addr×Obj)) (s:Shared) (σ:St) (H:Hp) (Q:Option Int->Hp->Prop),Inv X pins σ H s->t σ H Q->
  wpAny (model X.prog X.w) X.A (evalPart e X.env) (λu s'=>∃o H',Inv X pins σ H' s'/\IsPart u o/\Q o H') X.xe s
def jkv  : TO:=λ_ H Q=>Q none H
def joX  (t:TE):TO:=λσ H Q=>t σ H λx H1=>∃i,x=.int i/\Q (some i) H1


def jkT  : PO X none jkv:=by
 intro pins s σ H Q I h;rw[evalPart_none];exact Yap ⟨none,H,I,.none,h⟩
def jkS  (h:PE X e te):PO X (some e) (joX te):=by
 intro pins s σ H Q I hw;rw[evalPart_some];refine thn (h pins s σ H _ I hw) λu s1 ⟨x,H1,I1,r1,q1⟩=>?_;obtain⟨i,rfl,q⟩:=q1;obtain⟨t,rfl⟩:=r1;exact⟨some i,H1,I1,.int i t,q⟩

def SlR  (X:Cx)(r:V->Option Int->Option Int->Hp->VK->Prop):Prop:=
 ∀(pins:List (Addr×Obj)) (s:Shared) (σ:St) (H:Hp) (x:V) (v vl vu:Value) (lo hi:Option Int) (sl:Addr) (Q:VK),Inv X pins σ H s->RelV x v->s.heap.IsSliceOf sl vl vu .none->IsPart vl lo->IsPart vu hi->r x lo hi H Q->
  ∃T id,Ya3 (.type T) "__getitem__" = pure (some (.builtin id))/\s.TypeIs v T/\wpAny (model X.prog X.w) X.A (getItem v (.ref sl)) (EP X pins σ Q) X.xe s
def SlR.or   (h:SlR X r)(h':SlR X r'):SlR X (λx lo hi H Q=>r x lo hi H Q\/r' x lo hi H Q):=by
 intro pins s σ H x v vl vu lo hi sl Q I rx hs pl pu q;rcases q with q|q
 ·exact h pins s σ H x v vl vu lo hi sl Q I rx hs pl pu q
 ·exact h' pins s σ H x v vl vu lo hi sl Q I rx hs pl pu q
def tSl  (r:V->Option Int->Option Int->Hp->VK->Prop)(te:TE)(tl th:TO):TE:=λσ H Q=>te σ H λx H1=>tl σ H1 λl H2=>th σ H2 λu H3=>r x l u H3 Q
def ji2  {lo: Option Expr}(hr:SlR X r)(he:PE X e te)(hl:PO X lo tl)(hu:PO X hi th):PE X (.Subscript e (.Slice lo hi none p2) pos) (tSl r te tl th):=by
 intro pins s σ H Q I h;refine Subscript_ (thn (he pins s σ H _ I h) λv s1 ⟨x,H1,I1,r1,q1⟩=>?_);refine wpAny_Slice (thn (hl pins s1 σ H1 _ I1 q1) λvl s2 ⟨l,H2,I2,pl,q2⟩=>thn (hu pins s2 σ H2 _ I2 q2) λvu s3 ⟨u,H3,I3,pu,q3⟩=>?_);rw[evalPart_none];refine Yap ?_;have I4:Inv X pins σ H3 { s3 with heap:=s3.heap.push { cls:=.type "slice",data:=.fields #[vl,vu,.none] } }:=I3.kept (t':=s3.toks) λb ob q=>Yaf _ q
 obtain⟨T,id,hT,ht,hg⟩:=hr pins { s3 with heap:=s3.heap.push { cls:=.type "slice",data:=.fields #[vl,vu,.none] } } σ H3 x v vl vu l u s3.heap.objs.size Q I4 r1 (Heap.IsSliceOf.new ..) pl pu q3;show wpAny (model X.prog X.w) X.A (subscriptTail e (.Slice lo hi none p2) v (.ref s3.heap.objs.size)) (EP X pins σ Q) X.xe { s3 with heap:=s3.heap.push { cls:=.type "slice",data:=.fields #[vl,vu,.none] } }
 exact tail_any (ops:=[.ref s3.heap.objs.size,v]) ht hT hg (by with_unfolding_all rfl)

def cutV  (xs:List V)(lo hi:Option Int):List V:=(xs.drop (HT.sIx xs.length 0 lo)).take (HT.sIx xs.length xs.length hi-HT.sIx xs.length 0 lo)
def jdt  (xs:List V) lo hi:(cutV xs lo hi).length<=xs.length:=by
 unfold cutV;rw[Yea,Ygi]
 lia
def rSlT  (K:Yac):V->Option Int->Option Int->Hp->VK->Prop:=λx lo hi H Q=>∃a xs,x=.ref a/\SqT K H a xs/\
 ¬(HT.sIx xs.length 0 lo=0/\HT.sIx xs.length xs.length hi=xs.length)/\∀p,H p=none->Q (.ref p) (upd H p (.tup (cutV xs lo hi)))
def jmf  : SlR X (rSlT X.K):=by
 intro pins s σ H x v vl vu lo hi sl Q I rx hs pl pu h;obtain⟨a,xs,rfl,hx,hw,q⟩:=h;cases rx;obtain⟨its,r,ht,hz⟩:=I.tuple hx;have hlen:its.toArray.size=xs.length:=by rw[Yak];exact r.length.symm
 refine⟨"tuple",_,Ybw.lookup,ht.typeIs,?_⟩;refine HT.getItem_tuple_cut ht hs pl pu (by rw[hlen];exact hw) ?_ (by rw[hlen];exact hz)
 rw[hlen];refine⟨.ref s.heap.objs.size,_,I.laid (t':=s.toks) (o:=.tup (cutV xs lo hi)) (λb ob q=>Yaf _ q) (Yah _) ?_,rfl,q _ (I.hok.fresh (Yah _))⟩;exact⟨Yag (jdt xs lo hi) hz,_,(r.drop (HT.sIx xs.length 0 lo)).take (HT.sIx xs.length xs.length hi-HT.sIx xs.length 0 lo),TupD.new _ _⟩

def jph  (K:Yac):R2:=λx y H Q=>∃a b xs ys,x=.ref a/\y=.ref b/\SqT K H a xs/\SqT K H b ys/\xs≠[]/\xs.length+ys.length<=Yai/\
 (ys=[]->Q (.ref a) H)/\(ys≠[]->∀p,H p=none->Q (.ref p) (upd H p (.tup (xs++ys))))
def Vals.nil_iff    (r:Vals xs us):us=[]↔xs=[]:=by
 cases r with
 |nil=>simp
 |cons _ _=>simp
def jk9  : OpR X (Ybh .Add) (jph X.K):=by
 intro pins s σ H x y v u Q I rx ry h;obtain⟨a,b,xs,ys,rfl,rfl,ha,hb,hx,hz,q1,q2⟩:=h;cases rx;cases ry;obtain⟨its,r1,p1,_⟩:=I.tuple ha;obtain⟨its2,r2,p2,_⟩:=I.tuple hb;refine HT.cat_tup p1 p2 (λz=>hx (r1.nil_iff.mp z)) (λz=>⟨.ref a,H,I,rfl,q1 (r2.nil_iff.mp z)⟩) (λz=>?_) (by rw[<- r1.length,<- r2.length];exact hz)
 refine⟨.ref s.heap.objs.size,_,I.laid (t':=s.toks) (o:=.tup (xs++ys)) (λb ob q=>Yaf _ q) (Yah _) ?_,rfl,q2 (λw=>z (r2.nil_iff.mpr w)) _ (I.hok.fresh (Yah _))⟩;exact⟨by rw[Yaw];exact hz,_,r1.append r2,TupD.new _ _⟩

noncomputable def ixN  (n:Nat)(i:Int):Option Nat:=if 0<=i then (if i<n then some i.toNat else none) else if -(n:Int)<=i then some (i+n).toNat else none
def atI  {α:Type}(xs:List α)(i:Int):Option α:=(ixN xs.length i).bind λj=>xs[j]?
def jh1     (h:ixN n i=some j):Yed i n=some j/\j<n/\-(n:Int)<=i/\i<n:=by
 unfold ixN at h;by_cases h0:0<=i
 ·rw[if_pos h0]at h;by_cases h1:i<n
  ·rw[if_pos h1]at h;have e:i.toNat=j:=Yar h;exact⟨by rw[seqIndex_of h0 h1,e],by lia,by lia,h1⟩
  ·rw[if_neg h1]at h;cases h
 ·rw[if_neg h0]at h;by_cases h1:-(n:Int)<=i
  ·rw[if_pos h1]at h;have e:(i+n).toNat=j:=Yar h;exact⟨by rw[Yga (by lia) h1,e],by lia,h1,by lia⟩
  ·rw[if_neg h1]at h;cases h
def jfP      (h:atI xs i=some v):∃j,Yed i xs.length=some j/\xs[j]?=some v/\j<xs.length/\-(xs.length:Int)<=i/\i<xs.length:=by
 unfold atI at h;cases e:ixN xs.length i with
 |none=>rw[e]at h;cases h
 |some j=>
  rw[e]at h;obtain⟨h1,h2,h3,h4⟩:=jh1 e;exact⟨j,h1,h,h2,h3,h4⟩
def jby    {j:Nat}{v:α}(h:xs[j]?=some v):atI xs (j:Int)=some v:=by
 have hj:j<xs.length:=(List.getElem?_eq_some_iff.mp h).1;have e:ixN xs.length (j:Int)=some j:=by
  unfold ixN;rw[if_pos (by lia),if_pos (by lia)];simp
 unfold atI;rw[e];exact h
def jfS  (b:Expr):Prop:=∀o i,subscripted b false o i=operate [o,i] (getItem o i)
def IxR  (X:Cx)(r:R2):Prop:=
 ∀(value slice:Expr) (pins:List (Addr×Obj)) (s:Shared) (σ:St) (H:Hp) (x y:V) (v u:Value) (Q:VK),Inv X pins σ H s->RelV x v->RelV y u->r x y H Q->
  subscripted slice false v u=operate [v,u] (getItem v u)->wpAny (model X.prog X.w) X.A (subscriptTail value slice v u) (EP X pins σ Q) X.xe s
def MtR  (X:Cx)(id:String)(r:V->List V->Hp->VK->Prop):Prop:=
 ∀(pins:List (Addr×Obj)) (s:Shared) (σ:St) (H:Hp) (x:V) (xs:List V) (v:Value) (us:List Value) (Q:VK),Inv X pins σ H s->RelV x v->Vals xs us->r x xs H Q->
  wpAny (model X.prog X.w) X.A (call (.builtin id) (v::us)) (EP X pins σ Q) X.xe s

def IxR.or   (h:IxR X r)(h':IxR X r'):IxR X (λx y H Q=>r x y H Q\/r' x y H Q):=by
 intro value slice pins s σ H x y v u Q I rx ry q hs;rcases q with q|q
 ·exact h value slice pins s σ H x y v u Q I rx ry q hs
 ·exact h' value slice pins s σ H x y v u Q I rx ry q hs
def MtR.or  {id:String}(h:MtR X id r)(h':MtR X id r'):MtR X id (λx xs H Q=>r x xs H Q\/r' x xs H Q):=by
 intro pins s σ H x xs v us Q I rx rs q;rcases q with q|q
 ·exact h pins s σ H x xs v us Q I rx rs q
 ·exact h' pins s σ H x xs v us Q I rx rs q
def jpq   (hr:IxR X r)(ha:PE X a ta)(hb:PE X b tb)(hs:jfS b):PE X (.Subscript a b pos) (tOp r ta tb):=by
 intro pins s σ H Q I h;exact Subscript_ (binT ha hb I h λv u s2 x y H2 I2 rx ry q=>hr a b pins s2 σ H2 x y v u Q I2 rx ry q (hs _ _))

def rIxL  (K:Yac):R2:=λx y H Q=>∃p xs i v,x=.ref p/\y=.int i/\SqL K H p xs/\atI xs i=some v/\Q v H
def rIxT  (K:Yac):R2:=λx y H Q=>∃p xs i v,x=.ref p/\y=.int i/\SqT K H p xs/\atI xs i=some v/\Q v H
def rIxS  : R2:=λx y H Q=>∃z i c,x=.str z/\y=.int i/\z.length<=Yai/\atI z.cps.toList i=some c/\Q (.str ⟨#[c]⟩) H
def jlp  : IxR X (rIxL X.K):=by
 intro value slice pins s σ H x y v u Q I rx ry h hs;obtain⟨p,xs,i,z,rfl,rfl,hq,he,q⟩:=h;cases rx;obtain⟨t,rfl⟩:=ry;obtain⟨its,r,pl,hz⟩:=I.list hq;obtain⟨j,h1,h2,h3,h4,h5⟩:=jfP he;obtain⟨w,ew,rw'⟩:=r.get h2;have hl:=r.length;have hn:=jdK;have fin:EP X pins σ Q w s:=⟨z,H,I,rw',q⟩;by_cases h0:0<=i
 ·have hj:i.toNat=j:=by
   rw[seqIndex_of h0 h5]at h1;exact Yar h1
  exact item_listR pl.isList h0 (by lia) (by rw[hj];simpa using ew) fin hs
 ·have hj:(i+(its.toArray.size:Int)).toNat=j:=by
   rw[Yga (by lia) h4]at h1
   rw[Yak,<- hl];exact Yar h1
  exact YfX (x:=w) pl.isList.typeIs slot_list_getitem.lookup
   (wpAny_getItem_list_neg (Q:=λr s'=>r=w/\EP X pins σ Q r s') pl.isList (by lia) (by rw[Yak]<;>lia) (by lia) (by rw[hj];simpa using ew) ⟨rfl,fin⟩) hs
def jnv  : IxR X (rIxT X.K):=by
 intro value slice pins s σ H x y v u Q I rx ry h hs;obtain⟨p,xs,i,z,rfl,rfl,hq,he,q⟩:=h;cases rx;obtain⟨t,rfl⟩:=ry;obtain⟨its,r,pl,hz⟩:=I.tuple hq;obtain⟨j,h1,h2,h3,h4,h5⟩:=jfP he;obtain⟨w,ew,rw'⟩:=r.get h2;have hl:=r.length;have hn:=jdK;have fin:EP X pins σ Q w s:=⟨z,H,I,rw',q⟩;exact YfX (x:=w) pl.typeIs slot_tuple_getitem.lookup
  (getItem_tuple (j:=j) (Q:=λr s'=>r=w/\EP X pins σ Q r s') pl (by lia) (by lia) (by rw[Yak,<- hl];exact h1) (by simpa using ew) ⟨rfl,fin⟩) hs
def jnw  : IxR X rIxS:=by
 intro value slice pins s σ H x y v u Q I rx ry h hs;obtain⟨z,i,c,rfl,rfl,hz,he,q⟩:=h;obtain⟨t,rfl⟩:=rx;obtain⟨t',rfl⟩:=ry;obtain⟨j,h1,h2,h3,h4,h5⟩:=jfP he;have hl:z.cps.toList.length=z.length:=by simp[Str.length]
 rw[hl]at h1 h4 h5;have hn:=jdK;exact tail_any (Yer s z t) slot_str_getitem.lookup (getItem_str (c:=c) (by
  have e1:decide (i < -(2 ^ 63:Int))=false:=decide_eq_false (by lia)
  have e2:decide (i ≥ 2 ^ 63)=false:=decide_eq_false (by lia)
  rw[e1,e2,Bool.or_false]) (by rw[h1];simpa using h2) ⟨.str ⟨#[c]⟩,H,I.tok _,⟨_,rfl⟩,q⟩) hs
def rIx  (K:Yac):R2:=λx y H Q=>rIxL K x y H Q\/rIxT K x y H Q\/rIxS x y H Q
def jnx  : IxR X (rIx X.K):=jlp.or (jnv.or jnw)

def jgU  (its:List Value)(n j:Nat) u:Yd3 (·.setIfInBounds j u) { cls:=.type "list",data:=.seq its.toArray n }={ cls:=.type "list",data:=.seq (its.set j u).toArray n }:=by
 simp[Yd3]
def Inv.lst   {σ:St}(I:Inv X pins σ H s)(h:H p=some (.lst xs)) :
  ∃(its:List Value) (n:Nat),Vals xs its/\s.heap.get? p=some { cls:=.type "list",data:=.seq its.toArray n }/\xs.length<=Yai:=by
 obtain⟨z,its,n,r,e⟩:=I.hok p _ h;exact⟨its,n,r,e,z⟩
def Inv.lstUpd   {σ:St}{its its':List Value}(I:Inv X pins σ H s)(h:H p=some (.lst xs))
  (ho:s.heap.get? p=some { cls:=.type "list",data:=.seq its.toArray n }) (hf:f { cls:=.type "list",data:=.seq its.toArray n }={ cls:=.type "list",data:=.seq its'.toArray n' }) (r:Vals ys its') (hz:ys.length<=Yai) t :
  Inv X pins σ (upd H p (.lst ys)) { s with heap:=s.heap.update p f,toks:=t }:=by
 have e:(s.heap.update p f).get? p=some { cls:=.type "list",data:=.seq its'.toArray n' }:=by
  rw[Yb2 f ho (by rw[hf]<;>rfl),hf]
 refine I.write (x:=p) (e:=p) (by rw[h];trivial) (.inl rfl) (λb u hb q=>(Yc5 _ _ (Ne.symm hb)).trans q) ⟨_,e⟩ ?_
 exact⟨hz,its',n',r,e⟩
def jmt  : V->V->V->Hp->(Hp->Prop)->Prop:=λo i v H Q=>∃p xs k j,o=.ref p/\i=.int k/\H p=some (.lst xs)/\ixN xs.length k=some j/\Q (upd H p (.lst (xs.set j v)))
def jiM  : PSet X jmt:=by
 intro pins s σ H o i v ov iv u Q I ro ri rv h;obtain⟨p,xs,k,j,rfl,rfl,hp,hj,q⟩:=h;cases ro;obtain⟨t,rfl⟩:=ri;obtain⟨its,n,r,ho,hz⟩:=I.lst hp;obtain⟨h1,h2,h3,h4⟩:=jh1 hj;have hl:=r.length;have hn:=jdK;have I':Inv X pins σ (upd H p (.lst (xs.set j v))) { s with heap:=s.heap.update p (Yd3 (·.setIfInBounds j u)) }:=
  I.lstUpd hp ho (jgU its n j u) (r.set rv j) (by rw[YcD];exact hz) s.toks
 by_cases h0:0<=k
 ·have hk:k.toNat=j:=by
   rw[seqIndex_of h0 h4]at h1;exact Yar h1
  exact PySem.W.ki_setAt ho h0 (by lia) (by rw[Yak,<- hl];exact h4) (by rw[hk];exact⟨_,I',q⟩)
 ·have hk:(k+(its.toArray.size:Int)).toNat=j:=by
   rw[Yga (by lia) h3]at h1
   rw[Yak,<- hl];exact Yar h1
  exact PySem.W.ki_setBack ho (by lia) (by rw[Yak,<- hl];exact h3) (by lia) (by rw[hk];exact⟨_,I',q⟩)

def jeD   lo hi n:(YcM lo hi none n).1=((HT.sIx n 0 lo:Nat):Int)/\(YcM lo hi none n).2.1=((HT.sIx n n hi:Nat):Int)/\(YcM lo hi none n).2.2=1:=by
 refine⟨?_,?_,rfl⟩
 ·cases lo with
  |none=>simp[YcM,HT.sIx]
  |some i=>
   simp only[YcM,HT.sIx,YfO,show(1:Int)>0 by decide,if_true]
   by_cases h:i<0
   ·simp only[h,if_true]<;>lia
   ·simp only[h,if_false]<;>lia
 ·cases hi with
  |none=>simp[YcM,HT.sIx]
  |some i=>
   simp only[YcM,HT.sIx,YfO,show(1:Int)>0 by decide,if_true]
   by_cases h:i<0
   ·simp only[h,if_true]<;>lia
   ·simp only[h,if_false]<;>lia
def jd7  (its:List Value) lo hi:slicePick its.toArray lo hi none=((its.drop (HT.sIx its.length 0 lo)).take (HT.sIx its.length its.length hi-HT.sIx its.length 0 lo)).toArray:=by
 obtain⟨h1,h2,h3⟩:=jeD lo hi its.toArray.size;unfold slicePick;rw[h1,h2,h3];simp only[sliceRange_one,pick_run,Yak]<;>rfl
def rSlL  (K:Yac):V->Option Int->Option Int->Hp->VK->Prop:=λx lo hi H Q=>∃a xs,x=.ref a/\SqL K H a xs/\∀p,H p=none->Q (.ref p) (upd H p (.lst (cutV xs lo hi)))
def jkB  : SlR X (rSlL X.K):=by
 intro pins s σ H x v vl vu lo hi sl Q I rx hs pl pu h;obtain⟨a,xs,rfl,hx,q⟩:=h;cases rx;obtain⟨its,r,ht,hz⟩:=I.list hx;have hlen:=r.length;refine⟨"list",_,slot_list_getitem.lookup,ht.isList.typeIs,?_⟩;refine wpAny_getItem_list_slice ht.isList hs pl pu .none (by simp) ?_ (by rw[Yak]<;>lia)
 rw[jd7,<- hlen];refine⟨.ref s.heap.objs.size,_,I.laid (t':=s.toks) (o:=.lst (cutV xs lo hi)) (λb ob q=>Yaf _ q) (Yah _) ?_,rfl,q _ (I.hok.fresh (Yah _))⟩;exact⟨Yag (jdt xs lo hi) hz,_,0,(r.drop (HT.sIx xs.length 0 lo)).take (HT.sIx xs.length xs.length hi-HT.sIx xs.length 0 lo),Yax _ rfl⟩

noncomputable def jcG  : V->Bool
 |.non=>true
 |.bl _=>true
 |.int _=>true
 |.str _=>true
 |_=>false
noncomputable def eqV  : V->V->Bool
 |.non,.non=>true
 |.bl a,.bl b=>a==b
 |.bl a,.int b=>(if a then 1 else 0)==b
 |.int a,.bl b=>a==(if b then 1 else 0)
 |.int a,.int b=>a==b
 |.str a,.str b=>a==b
 |_,_=>false
def jnR      (ry:RelV y u)(rx:RelV x v)(fy:jcG y=true)(fx:jcG x=true):YfL A s u v (eqV y x):=by
 cases y with
 |non=>
  cases ry;cases x with
  |non=>cases rx;exact YfL.same _
  |bl b=>cases rx;exact YfL.none_bool b
  |int b=>obtain⟨t,rfl⟩:=rx;exact YfL.none_int b t
  |str b=>obtain⟨t,rfl⟩:=rx;exact YfL.none_str b t
  |_=>exact absurd (show false=true from fx) Yaj
 |bl a=>
  cases ry;cases x with
  |non=>cases rx;exact YfL.bool_none a
  |bl b=>cases rx;exact YfL.bool_bool a b
  |int b=>obtain⟨t,rfl⟩:=rx;exact YfL.bool_int a b t
  |str b=>obtain⟨t,rfl⟩:=rx;exact YfL.bool_str a b t
  |_=>exact absurd (show false=true from fx) Yaj
 |int a=>
  obtain⟨t',rfl⟩:=ry;cases x with
  |non=>cases rx;exact YfL.int_none a t'
  |bl b=>cases rx;exact YfL.int_bool a t' b
  |int b=>obtain⟨t,rfl⟩:=rx;exact YfL.int_int a t' b t
  |str b=>obtain⟨t,rfl⟩:=rx;exact YeI a t' b t
  |_=>exact absurd (show false=true from fx) Yaj
 |str a=>
  obtain⟨t',rfl⟩:=ry;cases x with
  |non=>cases rx;exact YfL.str_none a t'
  |bl b=>cases rx;exact YfL.str_bool a t' b
  |int b=>obtain⟨t,rfl⟩:=rx;exact YeH a t' b t
  |str b=>obtain⟨t,rfl⟩:=rx;exact YfL.str_str a t' b t
  |_=>exact absurd (show false=true from fx) Yaj
 |_=>exact absurd (show false=true from fy) Yaj
def eqU  (x:V)(u:Value):Bool:=match u with
 |.none=>eqV .non x
 |.bool b=>eqV (.bl b) x
 |.int i _=>eqV (.int i) x
 |.str z _=>eqV (.str z) x
 |_=>false
def jkg    (r:RelV y u)(f:jcG y=true):eqU x u=eqV y x:=by
 cases y with
 |non=>cases r;rfl
 |bl b=>cases r;rfl
 |int i=>obtain⟨t,rfl⟩:=r;rfl
 |str z=>obtain⟨t,rfl⟩:=r;rfl
 |_=>exact absurd (show false=true from f) Yaj
theorem jdv   : ∀{xs } {us },Vals xs us->xs.all jcG=true->us.any (eqU x)=xs.any λy=>eqV y x
 |_,_,.nil,_=>rfl
 |y::xs,u::us,.cons r t,f=>by
  rw[Ybl,Yao]at f;rw[Ybz,Ybz,jkg r f.1,jdv t f.2]
theorem jb3      (rx:RelV x v)(fx:jcG x=true):∀{xs } {us },Vals xs us->xs.all jcG=true->∀u∈us,YfL A s u v (eqU x u)
 |_,_,.nil,_=>λu hu=>by cases hu
 |y::xs,u::us,.cons r t,f=>λu' hu=>by
  rw[Ybl,Yao]at f;rcases Yau.mp hu with rfl|hu
  ·rw[jkg r f.1];exact jnR r rx f.1 fx
  ·exact jb3 rx fx t f.2 u' hu
def inV  (x:V)(xs:List V):Bool:=xs.any λy=>eqV y x
def rIn  (K:Yac)(neg:Bool):R2:=λx y H Q=>∃p xs,y=.ref p/\(SqL K H p xs\/SqT K H p xs)/\jcG x=true/\xs.all jcG=true/\Q (.bl (if neg then !inV x xs else inV x xs)) H
def jhK  : OpR X (YaV .In) (rIn X.K false):=by
 intro pins s σ H x y v u Q I rx ry h;obtain⟨p,xs,rfl,hq,fx,fs,q⟩:=h;cases ry;rcases hq with hq|hq
 ·obtain⟨its,r,pl,hz⟩:=I.list hq;refine Ygf (eqU x) pl.isList (λw hw=>jb3 rx fx r fs w (by simpa using hw)) ⟨.bl _,H,I,rfl,?_⟩
  rw[show its.toArray.any (eqU x)=its.any (eqU x) by simp,jdv r fs]
  exact q
 ·obtain⟨its,r,pl,hz⟩:=I.tuple hq;refine YfY (eqU x) pl (λw hw=>jb3 rx fx r fs w (by simpa using hw)) ⟨.bl _,H,I,rfl,?_⟩
  rw[show its.toArray.any (eqU x)=its.any (eqU x) by simp,jdv r fs]
  exact q
def jeK  : OpR X (YaV .NotIn) (rIn X.K true):=by
 intro pins s σ H x y v u Q I rx ry h;obtain⟨p,xs,rfl,hq,fx,fs,q⟩:=h;cases ry;rcases hq with hq|hq
 ·obtain⟨its,r,pl,hz⟩:=I.list hq;refine Yfw (eqU x) pl.isList (λw hw=>jb3 rx fx r fs w (by simpa using hw)) ⟨.bl _,H,I,rfl,?_⟩
  rw[show its.toArray.any (eqU x)=its.any (eqU x) by simp,jdv r fs]
  exact q
 ·obtain⟨its,r,pl,hz⟩:=I.tuple hq;refine Yfl (eqU x) pl (λw hw=>jb3 rx fx r fs w (by simpa using hw)) ⟨.bl _,H,I,rfl,?_⟩
  rw[show its.toArray.any (eqU x)=its.any (eqU x) by simp,jdv r fs]
  exact q
def jaX.or    (h:jaX X f r)(h':jaX X f r'):jaX X f (λxs H Q=>r xs H Q\/r' xs H Q):=by
 intro pins s σ H xs us Q I rs q;rcases q with q|q
 ·exact h pins s σ H xs us Q I rs q
 ·exact h' pins s σ H xs us Q I rs q
def je7  : jaX X (.type "list") (λxs H Q=>∃p ys,xs=[.ref p]/\(SqL X.K H p ys\/SqT X.K H p ys)/\∀l,H l=none->Q (.ref l) (upd H l (.lst ys))):=by
 intro pins s σ H xs us Q I r h;obtain⟨p,ys,rfl,hq,q⟩:=h;obtain⟨u,rfl,rx⟩:=jcQ r;cases rx;have fin:∀(its:List Value),Vals ys its->ys.length<=Yai->∀(h':Heap) (c':Nat),(∀b o',s.heap.get? b=some o'->h'.get? b=some o')->
   h'.get? s.heap.objs.size=some { cls:=.type "list",dict:=none,data:=.seq its.toArray c',slots:=#[] }->EP X pins σ Q (.ref s.heap.objs.size) { s with heap:=h' }:=λits r' hz h' c' kp e=>
  ⟨.ref s.heap.objs.size,_,I.laid (t':=s.toks) kp (Yah _) (show jaB X.prog X.w _ h' _ (.lst ys)from⟨hz,its,c',r',e⟩),rfl,q _ (I.hok.fresh (Yah _))⟩
 rcases hq with hq|hq
 ·obtain⟨its,r',pl,hz⟩:=I.list hq;have hlen:=r'.length;obtain⟨o,ho,hc,n,hd⟩:=pl.isList;exact call_list_seq p (.inl rfl) ho hc hd (λh' c' kp e=>fin its r' hz h' c' kp e) (by simp only[Yak]<;>lia)
 ·obtain⟨its,r',pl,hz⟩:=I.tuple hq;have hlen:=r'.length;obtain⟨o,ho,hc,n,hd⟩:=pl;exact call_list_seq p (.inr rfl) ho hc hd (λh' c' kp e=>fin its r' hz h' c' kp e) (by simp only[Yak]<;>lia)
def jer  : jaX X (.type "tuple") (λxs H Q=>∃p ys,xs=[.ref p]/\((SqL X.K H p ys/\∀l,H l=none->Q (.ref l) (upd H l (.tup ys)))\/(SqT X.K H p ys/\Q (.ref p) H))):=by
 intro pins s σ H xs us Q I r h;obtain⟨p,ys,rfl,h⟩:=h;obtain⟨u,rfl,rx⟩:=jcQ r;cases rx;rcases h with⟨hq,q⟩|⟨hq,q⟩
 ·obtain⟨its,r',pl,hz⟩:=I.list hq;have hlen:=r'.length;refine call_tuple_list pl.isList (λh' kp=>?_) (by simp only[Yak]<;>lia)
  have I1:Inv X pins σ H { s with heap:=h' }:=I.kept (t':=s.toks) kp
  have I2:Inv X pins σ (upd H h'.objs.size (.tup ys)) { s with heap:=h'.push { cls:=.type "tuple",data:=.seq its.toArray } }:=
   I1.laid (t':=s.toks) (λb o e=>Yaf _ e) (Yah _) (show jaB X.prog X.w _ _ _ (.tup ys)from⟨hz,its,r',TupD.new _ _⟩)
  exact⟨.ref h'.objs.size,_,I2,rfl,q _ (I1.hok.fresh (Yah _))⟩
 ·obtain⟨its,r',pl,hz⟩:=I.tuple hq;exact call_tuple_same pl ⟨.ref p,H,I,rfl,q⟩

def tyV  (K:Yac)(T:String)(x:V)(H:Hp):Prop:=match x with
 |.str _=>T = "str"
 |.int _=>T = "int"
 |.ref p=>(T = "list" /\ ∃xs,SqL K H p xs)\/(T = "tuple" /\ ∃o,K.lookup p=some o/\o.cls=.type "tuple" /\ o.dict=none)\/
   (T = "dict" /\ ((∃kvs,H p=some (.dK kvs))\/∃kvs,H p=some (.dT kvs)))\/(T = "set" /\ ∃S n,H p=some (.set S n))\/(T = "tuple" /\ ∃xs,H p=some (.tup xs))
 |_=>False
def jjz   {σ:St}(I:Inv X pins σ H s)(r:RelV x v)(ty:tyV X.K T x H) :
  s.TypeIs v T/\∀a,v=.ref a->∃ob,s.heap.get? a=some ob/\ob.dict=none:=by
 cases x with
 |str z=>
  obtain⟨t,rfl⟩:=r;cases(show T = "str" from ty);exact⟨Yer s z t,λ_ e=>nomatch e⟩
 |int i=>
  obtain⟨t,rfl⟩:=r;cases(show T = "int" from ty);exact⟨Yes s i t,λ_ e=>nomatch e⟩
 |ref p=>
  cases r;rcases ty with⟨rfl,xs,hq⟩|⟨rfl,o,hk,hc,hd⟩|⟨rfl,hk⟩|⟨rfl,S,n,hk⟩|⟨rfl,xs,hk⟩
  ·obtain⟨its,_,pl,_⟩:=I.list hq;refine⟨pl.isList.typeIs,λa e=>?_⟩;cases e;obtain⟨o,n,e,c,hd,_⟩:=pl;exact⟨o,e,hd⟩
  ·refine⟨⟨o,I.kIn p o hk,hc⟩,λa e=>?_⟩;cases e;exact⟨o,I.kIn _ o hk,hd⟩
  ·have z:∃o,s.heap.get? p=some o/\o.ExactDict:=by
    rcases hk with⟨kvs,hk⟩|⟨kvs,hk⟩
    ·obtain⟨_,_,_,_,o,_,_,e,ex,_⟩:=I.hok p _ hk;exact⟨o,e,ex⟩
    ·obtain⟨_,_,_,_,o,_,_,e,ex,_⟩:=I.hok p _ hk;exact⟨o,e,ex⟩
   obtain⟨o,e,ex⟩:=z;refine⟨⟨o,e,ex.1⟩,λa e2=>?_⟩;cases e2;exact⟨o,e,ex.2.1⟩
  ·obtain⟨o,_,_,_,e,ex,_⟩:=I.hok p _ hk;refine⟨⟨o,e,ex.1⟩,λa e2=>?_⟩;cases e2;exact⟨o,e,ex.2.1⟩
  ·obtain⟨_,its,r,o,e,c,n,d,hd⟩:=(show jaB X.prog X.w H s.heap p (.tup xs)from I.hok p _ hk);refine⟨⟨o,e,c⟩,λa e2=>?_⟩;cases e2;exact⟨o,e,hd⟩
 |_=>exact YcS ty


def MtM  (X:Cx)(id:String)(r:V->List V->Hp->VK->Prop):Prop:=
 ∀(pins:List (Addr×Obj)) (s:Shared) (σ:St) (H:Hp) (x:V) (xs:List V) (v:Value) (us:List Value) (Q:VK),Inv X pins σ H s->RelV x v->Vals xs us->r x xs H Q->
  wpAny (model X.prog X.w) X.A (call (.builtin id) (v::us)) (EP X pins σ Q) X.xe s

def Vals.one  : ∀{x } {us },Vals [x] us->∃u,us=[u]/\RelV x u
 |_,_,.cons r .nil=>⟨_,rfl,r⟩
def Vals.two  : ∀{x y } {us },Vals [x,y] us->∃u v,us=[u,v]/\RelV x u/\RelV y v
 |_,_,_,.cons r (.cons q .nil)=>⟨_,_,rfl,r,q⟩
def Vals.zero  : ∀{us },Vals [] us->us=[]
 |_,.nil=>rfl
theorem Vals.dropLast    (h:Vals xs us):Vals xs.dropLast us.dropLast:=by
 induction h with
 |nil=>exact .nil
 |cons r t ih=>
  cases t with
  |nil=>exact .nil
  |cons q t'=>exact .cons r ih
theorem Vals.eraseIdx  : ∀{xs } {us } i ,Vals xs us->Vals (xs.eraseIdx i) (us.eraseIdx i)
 |_,_,_,.nil=>.nil
 |_,_,0,.cons _ t=>t
 |_,_,i+1,.cons r t=>.cons r (Vals.eraseIdx i t)
theorem Vals.rep    (h:Vals xs us):∀k ,Vals (Yab k xs).flatten (Yab k us).flatten
 |0=>.nil
 |k+1=>by
  rw[YaX,YaX,Ybr,Ybr];exact Vals.append h (Vals.rep h k)
def jg4  {α:Type}(l:List α):l.eraseIdx (l.length-1)=l.dropLast:=by
 induction l with
 |nil=>rfl
 |cons a r ih=>
  cases r with
  |nil=>rfl
  |cons b r=>
   have e:(a::b::r).length-1=((b::r).length-1)+1:=by
    have h1:(a::b::r).length=r.length+2:=rfl;have h2:(b::r).length=r.length+1:=rfl
    lia
   rw[e,YeS,ih]
   all_goals rfl
theorem jeT  {α:Type}:∀(l:List α) i ,(l.eraseIdx i).length<=l.length
 |[],_=>Yah _
 |_::_,0=>YdI _
 |_::r,i+1=>Ycm (jeT r i)
theorem jdh  (its:List Value):∀k (acc:List Value),
  YdY (λx1 x2=>x1++x2) acc.toArray (Yab k its.toArray)=(acc++(Yab k its).flatten).toArray
 |0,acc=>by simp
 |k+1,acc=>by
  have e:acc.toArray++its.toArray=(acc++its).toArray:=by simp
  have e2:(acc++its)++(Yab k its).flatten=acc++(Yab (k+1) its).flatten:=by
   rw[YaX,Ybr,YcT]
  rw[<- e2,<- jdh its k (acc++its),<- e,YaX,Yeo]


def Inv.lset  {σ: St}{its its':List Value}(I:Inv X pins σ H s)(hH:H l=some (.lst xs))
  (e:s.heap.get? l=some { cls:=.type "list",data:=.seq its.toArray n }) (hf:f its.toArray=its'.toArray) (hv:Vals ys its') (hz:ys.length<=Yai) :
  Inv X pins σ (upd H l (.lst ys)) { s with heap:=s.heap.update l (Yd3 f),toks:=t' }:=by
 have q:=PySem.IsL.update e f;rw[hf]at q;refine I.write (x:=l) (e:=l) (by rw[hH];exact trivial) (.inl rfl) (λb' u hb hu=>(Yc5 s.heap (Yd3 f) (Ne.symm hb)).trans hu) ⟨_,q⟩ ?_
 exact⟨hz,its',_,hv,q⟩
def Inv.lnew  {σ: St}(I:Inv X pins σ H s)(hv:Vals ys its)(hz:ys.length<=Yai) :
  Inv X pins σ (upd H s.heap.objs.size (.lst ys)) { s with heap:=s.heap.push { cls:=.type "list",data:=.seq its.toArray },toks:=t' }:=
 I.laid (λ_ _ q=>Yaf _ q) (Yah _) ⟨hz,its,0,hv,Yax _ rfl⟩
def Inv.fresh  {σ: St}(I:Inv X pins σ H s):H s.heap.objs.size=none:=I.hok.fresh (Yah _)
def Inv.lstM  {σ: St}(I:Inv X pins σ H s)(hH:H l=some (.lst xs)):xs.length<=Yai/\∃(its:List Value) (n:Nat),Vals xs its/\xs.length=its.length/\s.heap.get? l=some { cls:=.type "list",data:=.seq its.toArray n }:=by
 obtain⟨z,its,n,r,e⟩:=I.hok l _ hH;exact⟨z,its,n,r,r.length,e⟩

def jgj   (h:n<=Yai):Yb5 n=false:=by
 unfold Yb5;exact decide_eq_false (by lia)


def jkK  : V->List V->Hp->VK->Prop:=λx vs H Q=>∃l xs y,x=.ref l/\vs=[y]/\H l=some (.lst xs)/\xs.length<Yai/\Q .non (upd H l (.lst (xs++[y])))
def jeP  : MtM X "list.append" jkK:=by
 intro pins s σ H x vs v us Q I rx rv h;obtain⟨l,xs,y,rfl,rfl,hH,hz,q⟩:=h;cases rx;obtain⟨u,rfl,ru⟩:=rv.one;obtain⟨z,its,n,r,hl,e⟩:=I.lstM hH;refine YbY F.slot_list_append ⟨_,e,rfl⟩ F.entry_list_append (F.args_list_append_2 _ _) (PySem.list_append l its.toArray n u (by rw[Yak];lia)) ⟨e,?_⟩
 refine⟨.non,_,I.lset (its':=its++[u]) hH e (by simp) (r.append (.cons ru .nil)) ?_,rfl,q⟩
 rw[Yaw,YaW]
 lia

def jkJ  : V->List V->Hp->VK->Prop:=λx vs H Q=>∃l b xs zs,x=.ref l/\vs=[.ref b]/\H l=some (.lst xs)/\H b=some (.lst zs)/\xs.length+zs.length<=Yai/\Q .non (upd H l (.lst (xs++zs)))
def jhU  : MtM X "list.extend" jkJ:=by
 intro pins s σ H x vs v us Q I rx rv h;obtain⟨l,b,xs,zs,rfl,rfl,hH,hB,hz,q⟩:=h;cases rx;obtain⟨u,rfl,ru⟩:=rv.one;cases ru;obtain⟨z,its,n,r,hl,e⟩:=I.lstM hH;obtain⟨z2,its2,n2,r2,hl2,e2⟩:=I.lstM hB;have hsz:its.toArray.size+its2.toArray.size<=Yai:=by rw[Yak,Yak];lia
 have hlong:¬(!its.toArray.isEmpty&&Yb5 (its.toArray.size+its2.toArray.size))=true:=by
  rw[jgj hsz,YeC];exact Yaj
 refine YbY F.slot_list_extend ⟨_,e,rfl⟩ F.entry_list_extend (F.args_list_extend_2 _ _)
  (AutoSeq1.list_extend_list_list_0 l its.toArray n b its2.toArray n2 hlong (by rw[Yak];lia) (by lia)) ⟨e,e2,?_⟩
 refine⟨.non,_,I.lset (its':=its++its2) hH e (by simp) (r.append r2) ?_,rfl,q⟩
 rw[Yaw]
 lia

def rPop  : V->List V->Hp->VK->Prop:=λx vs H Q=>∃l xs y,x=.ref l/\vs=[]/\H l=some (.lst xs)/\xs[xs.length-1]?=some y/\Q y (upd H l (.lst xs.dropLast))
def mt_pop  : MtM X "list.pop" rPop:=by
 intro pins s σ H x vs v us Q I rx rv h;obtain⟨l,xs,y,rfl,rfl,hH,hy,q⟩:=h;cases rx;have hus:=rv.zero;subst hus;obtain⟨z,its,n,r,hl,e⟩:=I.lstM hH;obtain⟨u,hu,ru⟩:=r.get hy;have hy':its.toArray[its.toArray.size-1]?=some u:=by
  show its.toArray[its.length-1]?=some u;rw[<- Ye6,<- hl];exact hu
 refine YbY F.slot_list_pop ⟨_,e,rfl⟩ F.entry_list_pop (F.args_list_pop_1 _) (MeetsSeq.list_pop_last l its.toArray n u hy' (by rw[Yak];lia)) ⟨e,?_⟩
 refine⟨y,_,I.lset (its':=its.dropLast) hH e ?_ r.dropLast ?_,ru,q⟩
 ·show its.toArray.eraseIdxIfInBounds (its.toArray.size-1)=its.dropLast.toArray;rw[Yak,YdZ,jg4]
 ·rw[List.length_dropLast]
  lia

def jmv  : V->List V->Hp->VK->Prop:=λx vs H Q=>∃l xs i k y,x=.ref l/\vs=[.int i]/\H l=some (.lst xs)/\-(2 ^ 63)<=i/\i<2 ^ 63/\Yed i xs.length=some k/\xs[k]?=some y/\Q y (upd H l (.lst (xs.eraseIdx k)))
def jjc  : MtM X "list.pop" jmv:=by
 intro pins s σ H x vs v us Q I rx rv h;obtain⟨l,xs,i,k,y,rfl,rfl,hH,h1,h2,hk,hy,q⟩:=h;cases rx;obtain⟨u,rfl,ru⟩:=rv.one;obtain⟨t,rfl⟩:=ru;obtain⟨z,its,n,r,hl,e⟩:=I.lstM hH;obtain⟨w,hw,rw'⟩:=r.get hy;refine YbY F.slot_list_pop ⟨_,e,rfl⟩ F.entry_list_pop (F.args_list_pop_2 _ _)
  (MeetsSeq.list_pop_at l its.toArray n i t k w (fitsIndex_both h1 h2) (by rw[Yak,<- hl];exact hk) (by rw[<- Ye6];exact hw) (by rw[Yak];lia)) ⟨e,?_⟩
 refine⟨y,_,I.lset (its':=its.eraseIdx k) hH e ?_ (r.eraseIdx k) ?_,rw',q⟩
 ·show its.toArray.eraseIdxIfInBounds k=(its.eraseIdx k).toArray;rw[YdZ]
 ·have:=jeT xs k
  lia

def rCat  : R2:=λx y H Q=>∃l b xs zs,x=.ref l/\y=.ref b/\H l=some (.lst xs)/\H b=some (.lst zs)/\xs.length+zs.length<=Yai/\∀p,H p=none->Q (.ref p) (upd H p (.lst (xs++zs)))
def jm9  : OpR X (Ybh .Add) rCat:=by
 intro pins s σ H x y v u Q I rx ry h;obtain⟨l,b,xs,zs,rfl,rfl,hH,hB,hz,q⟩:=h;cases rx;cases ry;obtain⟨z,its,n,r,hl,e⟩:=I.lstM hH;obtain⟨z2,its2,n2,r2,hl2,e2⟩:=I.lstM hB;refine PySem.P.add_list e e2 ?_ (by rw[Yak,Yak];lia)
 have ea:its.toArray++its2.toArray=(its++its2).toArray:=by simp
 rw[ea];exact⟨.ref _,_,I.lnew (t':=s.toks) (r.append r2) (by rw[Yaw];lia),rfl,q _ I.fresh⟩
def rRep  : R2:=λx y H Q=>∃l k xs,x=.ref l/\y=.int k/\H l=some (.lst xs)/\-(2 ^ 63)<=k/\k<2 ^ 63/\xs.length*k.toNat<=Yai/\
 ∀p,H p=none->Q (.ref p) (upd H p (.lst (Yab k.toNat xs).flatten))
def jek  {α:Type}(xs:List α) k:(Yab k xs).flatten.length=k*xs.length:=by
 induction k with
 |zero=>simp
 |succ k ih=>rw[YaX,Ybr,Yaw,ih,Nat.succ_mul,Nat.add_comm]
def jm1  : OpR X (Ybh .Mult) rRep:=by
 intro pins s σ H x y v u Q I rx ry h;obtain⟨l,k,xs,rfl,rfl,hH,h1,h2,hz,q⟩:=h;cases rx;obtain⟨t,rfl⟩:=ry;obtain⟨z,its,n,r,hl,e⟩:=I.lstM hH;have hlen:its.toArray.size*k.toNat<=Yai:=by rw[Yak,<- hl];exact hz
 have hcap:¬its.toArray.size*k.toNat>(2 ^ 63-1)/8:=by
  have:(Yai:Nat)<=(2 ^ 63-1)/8:=by decide
  lia
 have hfit:¬(!Builtin.List.listFitsIndex k)=true:=by
  rw[fitsIndex_both h1 h2];exact Yaj
 have hlong:¬Yb5 (its.toArray.size*k.toNat)=true:=by
  rw[jgj hlen];exact Yaj
 have hnew:YdY (λx1 x2=>x1++x2) #[] (Yab (if its.toArray.isEmpty=true then 0 else k.toNat) its.toArray)=(Yab k.toNat its).flatten.toArray:=by
  have f0:∀m:Nat,YdY (λx1 x2=>x1++x2) #[] (Yab m its.toArray)=(Yab m its).flatten.toArray:=λm=>by
   have:=jdh its m [];rw[YbG]at this;exact this
  rw[f0];cases its with
  |nil=>simp
  |cons a r'=>rw[if_neg (by simp)]
 refine Yfg (T := "list") (U := "int") (by decide) ⟨_,e,rfl⟩ (λs'=>Yes s' k t) noFill_list_mul F.fills_int_mul Ydt repeat_list F.slot_int_index.lookup
  (YbY Ydt (Yes s k t) F.entry_int_rmul (F.args_int_rmul_2 _ _) (int___rmul___int_list k t l its.toArray n)
   ⟨e,rfl,⟨_,e,rfl⟩,YbY F.slot_list_mul ⟨_,e,rfl⟩ F.entry_list_mul (F.args_list_mul_2 _ _) (AutoListH.list___mul___list_int_3 l its.toArray n k t hfit hcap hlong) ⟨e,?_⟩⟩)
 rw[hnew];exact⟨.ref _,_,I.lnew (t':=s.toks) (r.rep k.toNat) (by rw[jek,YcK];exact hz),rfl,q _ I.fresh⟩






section
variable {κ:Type}[DecidableEq κ]
noncomputable def valV (kvs:List (κ×V))(k:κ):Option V:=(kvs.find? λkv=>decide (kv.1=k)).map (·.2)
noncomputable def putK (kvs:List (κ×V))(k:κ)(v:V):List (κ×V):=
 if (kvs.any λkv=>decide (kv.1=k))=true then kvs.map (λkv=>if kv.1=k then (kv.1,v) else kv) else kvs++[(k,v)]
noncomputable def jqY (kvs:List (κ×V))(k:κ):List (κ×V):=kvs.filter λkv=>decide (kv.1≠k)

def jcH    {k:κ}(e:p.1=k):valV (p::r) k=some p.2:=by simp[valV,Ya2,e]
def jcI    {k:κ}(e:¬p.1=k):valV (p::r) k=valV r k:=by simp[valV,Ya2,e]
theorem jfV  (k:κ):∀kvs ,(kvs.any λkv=>decide (kv.1=k))=(valV kvs k).isSome
 |[]=>rfl
 |p::r=>by
  rw[Ybz];by_cases e:p.1=k
  ·simp only[jcH e,decide_eq_true e,Bool.true_or,Option.isSome_some]
  ·rw[jcI e,decide_eq_false e,YeV];exact jfV k r
def jbU  (kvs:List (κ×V)) k v:(putK kvs k v).length<=kvs.length+1:=by
 unfold putK;split
 ·rw[Yaa];lia
 ·rw[Yaw,YaT,YcE];lia
def RelO.isSome_eq    (r:RelO o u):o.isSome=u.isSome:=by
 cases o with
 |none=>cases u with
  |none=>rfl
  |some _=>exact(show False from r).elim
 |some _=>cases u with
  |none=>exact(show False from r).elim
  |some _=>rfl
def KV.val    (r:KV kvs vs)(k:κ):RelO (valV kvs k) (valueAt vs k):=by
 unfold KV at r
 induction r with
 |nil=>exact YbM
 |@cons p q ps qs h t ih=>
  obtain⟨h1,h2⟩:=h;by_cases e:p.1=k
  ·have e':q.1=k:=h1.symm.trans e;have b:valueAt (q::qs) k=some q.2:=by simp[valueAt,Ya2,e']
   rw[jcH e,b];exact h2
  ·have e':¬q.1=k:=λz=>e (h1.trans z);have b:valueAt (q::qs) k=valueAt qs k:=by simp[valueAt,Ya2,e']
   rw[jcI e,b];exact ih
theorem KV.any    (r:KV kvs vs)(k:κ):(kvs.any λkv=>decide (kv.1=k))=vs.any λkv=>decide (kv.1=k):=by
 unfold KV at r
 induction r with
 |nil=>rfl
 |cons h t ih=>rw[Ybz,Ybz,ih,h.1]
def KV.repl    (r:KV kvs vs)(k:κ)(ry:RelV y u) :
  KV (kvs.map λkv=>if kv.1=k then (kv.1,y) else kv) (vs.map λkv=>if kv.1=k then (kv.1,u) else kv):=by
 unfold KV at r ⊢
 induction r with
 |nil=>exact .nil
 |@cons p q ps qs h t ih=>
  rw[YaM,YaM];refine .cons ?_ ih;obtain⟨h1,h2⟩:=h;by_cases e:p.1=k
  ·rw[if_pos e,if_pos (h1.symm.trans e)];exact⟨h1,ry⟩
  ·rw[if_neg e,if_neg (λz=>e (h1.trans z))];exact⟨h1,h2⟩
def KV.put    (r:KV kvs vs)(k:κ)(ry:RelV y u):KV (putK kvs k y) (stored vs k u):=by
 unfold putK stored;rw[r.any k];by_cases e:(vs.any λkv=>decide (kv.1=k))=true
 ·rw[if_pos e,if_pos e];exact r.repl k ry
 ·rw[if_neg e,if_neg e];exact Paired.snoc r ⟨rfl,ry⟩
def KV.length {kvs:List (κ×V)}{vs:List (κ×Value)}(r:KV kvs vs):kvs.length=vs.length:=Ydv r
end

def jgZ      (r:RelV (kV k) u):(jay P w).is k u=true:=by
 cases k with
 |inl i=>obtain⟨t,e⟩:=(show ∃t,u=Yeg i t from r);subst e;exact jft P w i t
 |inr x=>obtain⟨t,e⟩:=(show ∃t,u=Ye1 x t from r);subst e;exact jfs P w x t
theorem jeW    : ∀{ks } {us },Vals (ks.map kV) us->ItemsAre (jay P w) ks us
 |[],_,r=>by rw[Yd5]at r;cases r;exact .nil
 |k::ks,_,r=>by
  rw[YaM]at r;cases r with
  |cons h t=>exact .cons (jgZ h) (jeW t)

abbrev KT  (H:Hp):List (List Key×V)->List (List Key×Addr×Value)->Prop:=Paired λp q=>p.1=q.1/\H q.2.1=some (.tup (p.1.map kV))/\RelV p.2 q.2.2
def KT.val     (r:KT H kvs xs) k:RelO (valV kvs k) ((atKey xs k).map (·.2)):=by
 induction r with
 |nil=>exact YbM
 |@cons p q ps qs h t ih=>
  obtain⟨h1,_,h2⟩:=h;by_cases e:p.1=k
  ·have e':q.1=k:=h1.symm.trans e;have b:atKey (q::qs) k=some q.2:=by simp[atKey,Ya2,e']
   rw[jcH e,b];exact h2
  ·have e':¬q.1=k:=λz=>e (h1.trans z);have b:atKey (q::qs) k=atKey qs k:=by simp[atKey,Ya2,e']
   rw[jcI e,b];exact ih
def KT.repl     (r:KT H kvs xs) k (ry:RelV y u) :
  KT H (kvs.map λkv=>if kv.1=k then (kv.1,y) else kv) (xs.map (putAt k u)):=by
 induction r with
 |nil=>exact .nil
 |@cons p q ps qs h t ih=>
  rw[YaM,YaM];refine .cons ?_ ih;obtain⟨h1,h2,h3⟩:=h;unfold putAt;by_cases e:p.1=k
  ·rw[if_pos e,if_pos (h1.symm.trans e)];exact⟨h1,h2,ry⟩
  ·rw[if_neg e,if_neg (λz=>e (h1.trans z))];exact⟨h1,h2,h3⟩
def KT.put     (r:KT H kvs xs)(k:List Key)(hb:H b=some (.tup (k.map kV)))(ry:RelV y u) :
  KT H (putK kvs k y) (storedH xs k b u):=by
 have e:(kvs.any λkv=>decide (kv.1=k))=(atKey xs k).isSome:=by
  rw[jfV,(r.val k).isSome_eq,YdN]
 unfold putK storedH;rw[e];by_cases q:(atKey xs k).isSome=true
 ·rw[if_pos q,if_pos q];exact r.repl k ry
 ·rw[if_neg q,if_neg q];exact Paired.snoc r ⟨rfl,hb,ry⟩
def KT.keeps     (r:KT H kvs xs)(ht:∀b ys,H b=some (.tup ys)->H' b=some (.tup ys)):KT H' kvs xs:=
 Paired.mapP r λ_ _ z=>⟨z.1,ht _ _ z.2.1,z.2.2⟩


def jms   (ok:HOk P w H h)(e:Rd H a u):jaB P w H h a u:=e.ok ok
def jg5   (ok:HOk P w H h)(e:Rd H a (.dK kvs)):kvs.length<=Yai/\(a==Ya9)=false/\∃vs,KV kvs vs/\h.DictOf (jay P w) a vs:=
 show jaB P w H h a (.dK kvs)from jms ok e
def jnU   (ok:HOk P w H h)(e:H a=some (.dK kvs)):kvs.length<=Yai/\(a==Ya9)=false/\∃vs,KV kvs vs/\h.DictOf (jay P w) a vs:=jg5 ok (.inl e)
def jeV   (ok:HOk P w H h)(e:H a=some (.tup (ks.map kV))):(YeY (jay P w)).is h ks a:=by
 obtain⟨_,its,r,o,h1,h2,n,h3,_⟩:=(show jaB P w H h a (.tup (ks.map kV))from ok a _ e);exact⟨o,its.toArray,n,h1,h2,h3,by simpa using jeW r⟩
def jii   (ok:HOk P w H h)(e:Rd H a (.dT kvs)):kvs.length<=Yai/\(a==Ya9)=false/\
  ∃xs,KT H kvs xs/\h.DictOfH (YeY (jay P w)) a xs:=by
 obtain⟨z,y,xs,r,o,es,ep,h1,h2,h3,h4,h5⟩:=(show jaB P w H h a (.dT kvs)from jms ok e);refine⟨z,y,xs,r,o,es,ep,h1,h2,h3,h4,λx hx=>?_,h5⟩;have all:∀{l:List (List Key×V)} {m:List (List Key×Addr×Value)},KT H l m->∀x∈m,(YeY (jay P w)).is h x.1 x.2.1:=by
  intro l m q
  induction q with
  |nil=>intro x hx;exact nomatch hx
  |@cons p q ps qs hq t ih=>
   intro x hx;rcases Yau.mp hx with e|hx
   ·subst e;exact jeV ok (by rw[<- hq.1];exact hq.2.1)
   ·exact ih x hx
 exact all r x hx
def jpN   (ok:HOk P w H h)(e:H a=some (.dT kvs)):kvs.length<=Yai/\(a==Ya9)=false/\
  ∃xs,KT H kvs xs/\h.DictOfH (YeY (jay P w)) a xs:=jii ok (.inl e)

def DGet  (H:Hp)(a:Addr)(y:V)(r:Option V):Prop:=
 (∃kvs k,Rd H a (.dK kvs)/\y=kV k/\r=valV kvs k)\/∃kvs k b,Rd H a (.dT kvs)/\y=.ref b/\H b=some (.tup (k.map kV))/\r=valV kvs k
def DPut  (H:Hp)(a:Addr)(y v:V)(H':Hp):Prop:=
 (∃kvs k,H a=some (.dK kvs)/\y=kV k/\kvs.length<Yai/\H'=upd H a (.dK (putK kvs k v)))\/
 ∃kvs k b,H a=some (.dT kvs)/\y=.ref b/\H b=some (.tup (k.map kV))/\kvs.length<Yai/\H'=upd H a (.dT (putK kvs k v))
def DGet.k     {k:Key}(e:H a=some (.dK kvs)):DGet H a (kV k) (valV kvs k):=.inl ⟨kvs,k,.inl e,rfl,rfl⟩
def DGet.t     {k:List Key}(e:H a=some (.dT kvs))(eb:H b=some (.tup (k.map kV))):DGet H a (.ref b) (valV kvs k):=.inr ⟨kvs,k,b,.inl e,rfl,eb,rfl⟩
def DPut.k     {k:Key}(e:H a=some (.dK kvs))(hl:kvs.length<Yai):DPut H a (kV k) v (upd H a (.dK (putK kvs k v))):=.inl ⟨kvs,k,e,rfl,hl,rfl⟩
def DPut.t     {k:List Key}(e:H a=some (.dT kvs))(eb:H b=some (.tup (k.map kV)))(hl:kvs.length<Yai) :
  DPut H a (.ref b) v (upd H a (.dT (putK kvs k v))):=.inr ⟨kvs,k,b,e,rfl,eb,hl,rfl⟩


def Inv.big  {σ: St}(I:Inv X pins σ H s):Ya9<s.heap.objs.size:=by
 have h:YaF<s.heap.objs.size:=(I.mod.glob.keeps I.bk).lt;exact Ydg (by decide) h

def jin  {σ: St}(hu:A.units+1<cLine)(I:Inv X pins σ H s)(g:DGet H a y (some v))(ry:RelV y u)(h:∀w' s',Inv X pins σ H s'->RelV v w'->Q w' s') :
  wpAny (model X.prog X.w) A (getItem (.ref a) u) Q E s:=by
 rcases g with⟨kvs,k,e,ey,l⟩|⟨kvs,k,b,e,ey,eb,l⟩
 ·subst ey;obtain⟨z,hd,vs,rel,dd⟩:=jg5 I.hok e;obtain⟨w',hw,rw'⟩:=RelO.some_of (v:=v) (o:=valueAt vs k) (by rw[l];exact rel.val k)
  exact wpAny_getItem_of (jgZ ry) dd.mapOf hw (h w' _ (I.tok _) rw')
 ·subst ey;cases(show u=Ya5 b from ry);obtain⟨z,hd,xs,rel,dd⟩:=jii I.hok e;obtain⟨w',hw,rw'⟩:=RelO.some_of (v:=v) (o:=(atKey xs k).map (·.2)) (by rw[l];exact rel.val k)
  obtain⟨p,hp,hp2⟩:=Option.map_eq_some_iff.mp hw;refine wpAny_getItem_heap (YcY hu) (jeV I.hok eb) dd hp ?_;rw[hp2];exact h w' _ (I.tok _) rw'
def d_in  {σ: St}(hu:A.units+1<cLine)(I:Inv X pins σ H s)(g:DGet H a y o)(ry:RelV y u)(h:∀s',Inv X pins σ H s'->Q (.bool o.isSome) s') :
  wpAny (model X.prog X.w) A (YaV .In u (.ref a)) Q E s:=by
 rcases g with⟨kvs,k,e,ey,l⟩|⟨kvs,k,b,e,ey,eb,l⟩
 ·subst ey;obtain⟨z,hd,vs,rel,dd⟩:=jg5 I.hok e;refine wpAny_in_of (jgZ ry) hd dd.mapOf ?_;rw[<- (rel.val k).isSome_eq,<- l];exact h _ (I.tok _)
 ·subst ey;cases(show u=Ya5 b from ry);obtain⟨z,hd,xs,rel,dd⟩:=jii I.hok e;refine wpAny_in_heap (YcY hu) (jeV I.hok eb) hd dd ?_;have q:=(rel.val k).isSome_eq;rw[YdN]at q;rw[<- q,<- l];exact h _ (I.tok _)
def jlH  {σ: St}(hu:A.units+1<cLine)(I:Inv X pins σ H s)(g:DGet H a y o)(ry:RelV y u)(h:∀s',Inv X pins σ H s'->Q (.bool (!o.isSome)) s') :
  wpAny (model X.prog X.w) A (YaV .NotIn u (.ref a)) Q E s:=by
 rcases g with⟨kvs,k,e,ey,l⟩|⟨kvs,k,b,e,ey,eb,l⟩
 ·subst ey;obtain⟨z,hd,vs,rel,dd⟩:=jg5 I.hok e;refine wpAny_notIn_of (jgZ ry) hd dd.mapOf ?_;rw[<- (rel.val k).isSome_eq,<- l];exact h _ (I.tok _)
 ·subst ey;cases(show u=Ya5 b from ry);obtain⟨z,hd,xs,rel,dd⟩:=jii I.hok e;refine wpAny_notIn_heap (YcY hu) (jeV I.hok eb) hd dd ?_;have q:=(rel.val k).isSome_eq;rw[YdN]at q;rw[<- q,<- l];exact h _ (I.tok _)
def jfJ  {σ: St}(I:Inv X pins σ H s)(mu:Mut (H a))(hs:Ycw a s.heap h')(he:∃q,h'.get? a=some q)(new:jaB X.prog X.w (upd H a ob) h' a ob) :
  Inv X pins σ (upd H a ob) { s with heap:=h',toks:=t' }:=
 I.write (x:=a) (e:=a) mu (.inl rfl) (λb q hb z=>(hs.2 b hb).trans z) he new
def jki        (z:kvs.length<=Yai)(hd:(a==Ya9)=false)(rel:KV kvs vs)(dd:h'.DictOf (jay P w) a vs) :
  jaB P w H' h' a (.dK kvs):=⟨z,hd,vs,rel,dd⟩
def jim  {σ: St}(hu:A.units+1<cLine)(I:Inv X pins σ H s)(g:DPut H a y v H')(ry:RelV y u)(rv:RelV v r)(h:∀s',Inv X pins σ H' s'->Q () s') :
  wpAny (model X.prog X.w) A (setItem (.ref a) u r) Q E s:=by
 rcases g with⟨kvs,k,e,ey,l,eH⟩|⟨kvs,k,b,e,ey,eb,l,eH⟩
 ·subst ey eH;obtain⟨z,hd,vs,rel,dd⟩:=jnU I.hok e;have hz:vs.length<=Yai:=by rw[<- rel.length];exact z
  have hl:(putK kvs k v).length<=Yai:=by have:=jbU kvs k v;lia
  refine wpAny_setItem_pairs (hsz:=hz) (jgZ ry) dd λh' dd' hs=>h _ ?_;have he:∃q,h'.get? a=some q:=let ⟨q,_,_,hq,_⟩:=dd';⟨q,hq⟩
  exact jfJ I (by rw[e];exact YbM) hs he (jki hl hd (rel.put k rv) dd')
 ·subst ey eH;cases(show u=Ya5 b from ry);obtain⟨z,hd,xs,rel,dd⟩:=jpN I.hok e;have hz:xs.length<=Yai:=by rw[<- Ydv rel];exact z
  have hl:(putK kvs k v).length<=Yai:=by have:=jbU kvs k v;lia
  refine wpAny_setItem_heap (hsz:=hz) (YcY hu) (jeV I.hok eb) dd λh' dd' hs=>h _ ?_;obtain⟨q,es,ep,hq,h2,h3,h4,_,h5⟩:=dd';refine jfJ I (by rw[e];exact YbM) hs ⟨q,hq⟩ ⟨hl,hd,_,(rel.put k eb rv).keeps λc ys ec=>?_,q,es,ep,hq,h2,h3,h4,h5⟩
  rw[jac (jpx ec e (λz=>nomatch z))];exact ec


def jpO  {σ: St}(I:Inv X pins σ H s)(e:Rd H a (.dK kvs))(h:∀t s',Inv X pins σ H s'->Q (.int kvs.length t) s'):wpAny (model X.prog X.w) A (call (.builtin "len") [.ref a]) Q E s:=by
 obtain⟨z,hd,vs,rel,dd⟩:=jg5 I.hok e;refine call_len_dict hd dd (by rw[<- rel.length];rw[YbP]at z;lia) ?_
 rw[<- rel.length];exact h _ _ (I.tok _)

def jfI    {σ:St}(I:Inv X pins σ H s)(g:DGet H a y o):s.TypeIs (.ref a) "dict" := by
 rcases g with⟨kvs,k,e,_,_⟩|⟨kvs,k,b,e,_,_,_⟩
 ·obtain⟨_,_,vs,_,dd⟩:=jg5 I.hok e;exact dd.typeIs
 ·obtain⟨_,_,xs,_,dd⟩:=jii I.hok e;exact dd.typeIs


def jgA     (h:Heap)(hb:Ya9<h.objs.size):jaB P w H (h.push { cls:=.type "dict",data:=.dict #[] }) h.objs.size (.dK []):=
 ⟨YaP _,beq_eq_false_iff_ne.mpr (Ne.symm (Yaz hb)),[],.nil,Heap.DictOf.new h⟩
def jjm     (h:Heap)(hb:Ya9<h.objs.size):jaB P w H (h.push { cls:=.type "dict",data:=.dict #[] }) h.objs.size (.dT []):=
 ⟨YaP _,beq_eq_false_iff_ne.mpr (Ne.symm (Yaz hb)),[],.nil,_,#[],0,Yax _ rfl,⟨rfl,rfl,rfl⟩,rfl,rfl,Yez⟩
def jl9  : TE:=λ_ H Q=>∀p,H p=none->Q (.ref p) (upd H p (.dK []))
def jl8  : TE:=λ_ H Q=>∀p,H p=none->Q (.ref p) (upd H p (.dT []))

def ji4  : PE X (.Dict [] [] pos) jl9:=λpins s σ H Q I h=>
 wpAny_Dict_empty ⟨.ref s.heap.objs.size,_,I.laid (a:=s.heap.objs.size) (o:=.dK []) (t':=s.toks) (λ_ _ q=>Yaf _ q) (Yah _) (jgA s.heap I.big),rfl,h _ (I.hok.fresh (Yah _))⟩
def ji3  : PE X (.Dict [] [] pos) jl8:=λpins s σ H Q I h=>
 wpAny_Dict_empty ⟨.ref s.heap.objs.size,_,I.laid (a:=s.heap.objs.size) (o:=.dT []) (t':=s.toks) (λ_ _ q=>Yaf _ q) (Yah _) (jjm s.heap I.big),rfl,h _ (I.hok.fresh (Yah _))⟩

def jf3  : List (TE×TE)->St->Hp->(List (V×V)->Hp->Prop)->Prop
 |[],_,H,Q=>Q [] H
 |(tk,tv)::r,σ,H,Q=>tk σ H λx H1=>tv σ H1 λy H2=>jf3 r σ H2 λps H3=>Q ((x,y)::ps) H3
abbrev VV  : List (V×V)->List (Value×Value)->Prop:=Paired λp q=>RelV p.1 q.1/\RelV p.2 q.2
def PPs  (X:Cx)(pos:Pos)(keys:List (Option Expr))(values:List Expr)(trs:List (TE×TE)):Prop:=
 ∀(pins:List (Addr×Obj)) (s:Shared) (σ:St) (H:Hp) (Q:List (V×V)->Hp->Prop),Inv X pins σ H s->jf3 trs σ H Q->
  wpAny (model X.prog X.w) X.A (evalPairs (pairTrees keys values X.env pos)) (λvs s'=>∃ps H',Inv X pins σ H' s'/\VV ps vs/\Q ps H') X.xe s
def jkR    : PPs X pos [] [] []:=λpins s σ H Q I h=>pairTrees_nil_walk ⟨[],H,I,.nil,h⟩
def jiY         (hk:PE X k tk)(hv:PE X v tv)(hr:PPs X pos ks vs trs) :
  PPs X pos (some k::ks) (v::vs) ((tk,tv)::trs):=λpins s σ H Q I h=>
 pairTrees_cons_walk (thn (hk pins s σ H _ I h) λu s1 ⟨x,H1,I1,rx,q1⟩=>thn (hv pins s1 σ H1 _ I1 q1) λw2 s2 ⟨y,H2,I2,ry,q2⟩=>
  thn (hr pins s2 σ H2 _ I2 q2) λws s3 ⟨ps,H3,I3,rel,q3⟩=>⟨(x,y)::ps,H3,I3,.cons ⟨rx,ry⟩ rel,q3⟩)

def jda  (kvs more:List (Key×V)):List (Key×V):=more.foldl (λacc kv=>putK acc kv.1 kv.2) kvs
def KV.merge  : ∀{more } {rs } {kvs } {vs },KV more rs->KV kvs vs->KV (jda kvs more) (merged vs rs):=by
 intro more rs kvs vs r;unfold KV at r
 induction r generalizing kvs vs with
 |nil=>intro q;exact q
 |@cons p q ps qs h t ih=>
  intro r0;have e:KV (putK kvs p.1 p.2) (stored vs q.1 q.2):=by
   have:=r0.put p.1 h.2;rw[<- h.1];exact this
  exact ih e
theorem jb6  : ∀(more kvs:List (Key×V)),(jda kvs more).length<=kvs.length+more.length
 |[],kvs=>by show kvs.length<=kvs.length+0;lia
 |p::r,kvs=>by
  have h1:=jb6 r (putK kvs p.1 p.2);have h2:=jbU kvs p.1 p.2;show(jda (putK kvs p.1 p.2) r).length<=_;rw[YaT];lia
theorem jd0    : ∀{kvs } {ws },VV (kvs.map λkv=>(kV kv.1,kv.2)) ws->∃rs,Carries (jay P w) ws rs/\KV kvs rs
 |[],_,r=>by rw[Yd5]at r;cases r;exact⟨[],YbM,.nil⟩
 |p::kvs,_,r=>by
  rw[YaM]at r;cases r with
  |@cons a b as bs h t=>
   obtain⟨rs,c,q⟩:=jd0 (P:=P) (w:=w) t;obtain⟨b1,b2⟩:=b;exact⟨(p.1,b2)::rs,⟨jgZ h.1,rfl,c⟩,.cons ⟨rfl,h.2⟩ q⟩
def jo3  (trs:List (TE×TE)):TE:=λσ H Q=>∀p,H p=none->jf3 trs σ (upd H p (.dK [])) λps H2=>H2 p=some (.dK [])/\∃kvs:List (Key×V),ps=kvs.map (λkv=>(kV kv.1,kv.2))/\kvs.length<=15/\Q (.ref p) (upd H2 p (.dK (jda [] kvs)))
def jk0       (h:PPs X pos keys values trs)(hall:keys.all (·.isSome)=true)(hl:keys.length=values.length)(h0:keys≠[])
  (h15:keys.length<=15):PE X (.Dict keys values pos) (jo3 trs):=by
 intro pins s σ H Q I q;have hn:=I.hok.fresh (Yah s.heap.objs.size);have I1:=I.laid (a:=s.heap.objs.size) (o:=.dK []) (h':=s.heap.push { cls:=.type "dict",data:=.dict #[] }) (t':=s.toks) (λ_ _ q=>Yaf _ q) (Yah _) (jgA s.heap I.big);refine wpAny_Dict_walk (knd:=jay X.prog X.w) hall hl h0 h15 (thn (h pins _ σ _ _ I1 (q _ hn)) λws s2 ⟨ps,H2,I2,rel,e,kvs,ep,lk,q2⟩=>?_);subst ep;obtain⟨rs,c,rk⟩:=jd0 (P:=X.prog) (w:=X.w) rel;obtain⟨z,hd,vs0,r0,dd⟩:=jnU I2.hok e;cases r0;refine⟨rs,c,dd,λh' dd' hs=>⟨.ref s.heap.objs.size,_,?_,rfl,q2⟩⟩;have hz:(jda [] kvs).length<=Yai:=by
  have h1:=jb6 kvs [];rw[YcE]at h1;rw[YbP];lia
 have he:∃q,h'.get? s.heap.objs.size=some q:=let ⟨q,_,_,hq,_⟩:=dd';⟨q,hq⟩
 exact jfJ I2 (by rw[e];exact YbM) hs he (jki hz hd (rk.merge .nil) dd')

structure M1 (X:Cx)(o:Expr)(m:Str)(apos:Pos)(e:Expr)(cpos:Pos):Prop where
 base:Yck o m X.env (eval o X.env)=eval o X.env
 few:((backTo cpos (YaA [e] X.env)).all (λx=>!x.1)&&(backToKw cpos (Ye0 [] X.env)).all (λx=>x.1.isSome)
  && decide (([e]:List Expr).length+([]:List Keyword).length+(if ([]:List Keyword).isEmpty then 0 else 1)<30))=true
 line:(apos.endLine==cpos.line)=true
 trees:backTo cpos (YaA [e] X.env)=[(false,eval e X.env)]
structure M2 (X:Cx)(o:Expr)(m:Str)(apos:Pos)(e f:Expr)(cpos:Pos):Prop where
 base:Yck o m X.env (eval o X.env)=eval o X.env
 few:((backTo cpos (YaA [e,f] X.env)).all (λx=>!x.1)&&(backToKw cpos (Ye0 [] X.env)).all (λx=>x.1.isSome)
  && decide (([e,f]:List Expr).length+([]:List Keyword).length+(if ([]:List Keyword).isEmpty then 0 else 1)<30))=true
 line:(apos.endLine==cpos.line)=true
 trees:backTo cpos (YaA [e,f] X.env)=[(false,eval e X.env),(false,eval f X.env)]








end L2

namespace Att
open PySem PySem.W PySem.Calls PyProof.Rows

def jdg    : ∀(ns:List Int) vs ,WellAll P h vs (ns.map WData.int)->IntsAre vs ns:=by
 intro ns
 induction ns with
 |nil=>
  intro vs w;rw[Yd5]at w;cases w;exact .nil
 |cons n ns ih=>
  intro vs w;rw[YaM]at w;cases w with
  |cons a b=>
   cases a;exact .cons _ _ (ih _ b)

def jhv  {l:OpenLaw}(hn:l.most=some n) 
  (hpre:l.row.toRowW.claim.pre args=true) (hwl:WellAll P h vals args) :
  ∃a vs ns,vals=[Ya5 a]/\args=[WData.list (ns.map WData.int)]/\h.get? a=some { cls:=.type "list",data:=.seq vs.toArray }/\IntsAre vs ns/\ns.length<=n:=by
 have hsh:WShape.hasAll [] args [.list .int]=true:=(pre_splitW hpre).1;have hc:l.pre.holds [] { args:=args }=true:=(pre_splitW hpre).2;obtain⟨d,r,rfl,h1,h2⟩:=hasAllW_cons hsh;obtain rfl:=hasAllW_nil h2;obtain⟨xs,rfl,h3⟩:=hasW_list h1;obtain⟨ns,rfl⟩:=items_int h3;have hlen:ns.length<=n:=by
  unfold OpenLaw.pre at hc;have h4:(WTm.not (.lt (.lit (.int (n:Int))) (.len (.arg 0)))).holds [] { args:=[.list (ns.map .int)] }=true:=by
   have h4:=(holds_andW hc).1;rw[hn]at h4;exact h4
  have h5:=condW_of h4 (w_not (w_lt w_lit (w_len_list (w_arg rfl))));rw[Yaa]at h5;refine Nat.le_of_not_lt λq=>?_;have q':(n:Int)<((ns.length:Nat):Int):=by lia
  first
   |(rw[decide_eq_true q']at h5;exact absurd h5 (by decide))
   |(simp at h5;lia)
 cases hwl with
 |cons w1 w2=>
  cases w2;cases w1 with
  |list ho hall=>exact⟨_,_,ns,rfl,rfl,ho,jdg ns _ hall,hlen⟩

def jhC  (l:OpenLaw) args:l.row.toRowW.claim.post args (.bool true) args=true:=
 postW_of (r:=l.row.toRowW) (X:=(true==true))
  (show WShape.has [] (.bool true) .bool=true by first|rfl|decide|simp[WShape.has,WShape.arms,WShape.armsAll])
  (show(WTm.eq .res (.lit (.bool true))).value [] { args:=args,res:=some (.bool true),after:=args }=some (.bool (true==true))from w_eq_bool (w_res rfl) w_lit) rfl

def attach_call  {l:OpenLaw} 
  (hn:l.most=some n) (hdf:d.params.defaults=[])
  (call:∀(w:World) (s₀ s₁:Shared) mg mb fa (o:Obj) pm cd doc a (vs:List Value) (ns:List Int),
   Ground q loose [] XP w s₀ mg mb s₁.heap->YP w s₁.heap->
   s₁.heap.get? fa=some o->o.data=.func (docDef d.name d.params d.body d.scope pm cd doc)->s₁.heap.CodeRec cd d.name->mg d.name=some (.ref fa)->
   s₁.heap.get? a=some { cls:=.type "list",data:=.seq vs.toArray }->IntsAre vs ns->ns.length<=n->s₁.gens=#[]->
   codeAny (model l.prog w) callerA (.call (.ref fa) ⟨[.ref a],[]⟩) (λr s'=>r=.ok (.ret (.bool true))/\OldK s₁.heap s'.heap/\s'.os=s₁.os/\AllBare s'.gens) s₁) :
  WalkO q loose XP YP l.row.toRowW d [] (λf vs=>YfM f vs):=by
 intro w s₀ s₁ mg mb G Y fa o pm cd doc dV kV ho hd hcd hD hmg hg args vals as hpre hlay hrd hwl hlo;obtain rfl:dV=.none:=Dflts.none hD hdf;obtain rfl:kV=.none:=Dflts.noKw hD;obtain⟨a,vs,ns,rfl,rfl,hobj,hints,hlen⟩:=jhv hn hpre hwl;refine enter_call (YdE (call w s₀ s₁ mg mb fa o pm cd doc a vs ns G Y ho (fd_plain hd) hcd hmg hobj hints hlen hg) λr s' hq=>?_);obtain⟨rfl,h2,h3,h4⟩:=hq;exact⟨.inl ⟨.bool true,.bool true,[],rfl,λ_=>rfl,.bool true,jhC l _,λ_=>⟨Yev,λ_ hm=>(nomatch hm)⟩⟩,h2,h3,h4⟩


end Att

namespace L2
open PySem PySem.Spec PyProof.Rows

theorem jex  : ∀{vs } {ns },IntsAre vs ns->Vals (ns.map V.int) vs
 |_,_,.nil=>.nil
 |_,_,.cons n t h=>.cons ⟨t,rfl⟩ (jex h)



noncomputable def jaD  (s:Stmt)(j:Nat):Stmt:=match s with
 |.ClassDef _ _ _ body _ _ _ _ _ _ _=>body.getD j (.Pass ⟨0,0,0,0⟩)
 |_=>.Pass ⟨0,0,0,0⟩
def ja7  (s:Stmt):Ygl:=match s with
 |.FunctionDef _ a _ _ _ _ _ _ _ _=>a
 |_=>{ posonlyargs:=[],args:=[],vararg:=none,kwonlyargs:=[],kw_defaults:=[],kwarg:=none,defaults:=[] }
def jam  (s:Stmt):List Stmt:=match s with
 |.FunctionDef _ _ b _ _ _ _ _ _ _=>b
 |_=>[]
def jaf  (s:Stmt):Scope:=match s with
 |.FunctionDef _ _ _ _ _ _ sc _ _ _=>sc
 |_=>{ kind:=.function,names:=[],isGenerator:=false,isCoroutine:=false }

abbrev CX0  : CXT:=λ_ _ _ _ _ _=>False
abbrev E0  : XK:=λ_ _ _=>False
structure Fun (K:Yac)(x qual:Str)(st:Stmt)(f:Addr)(fd:Ydk):Prop where
 ex:∃(oc:Value) (od:Option Addr) (kV doc pm:Value) (an:Option Addr) (cdv ct:Value) (osl:Array (Option Value)),
  fd=Yba x qual (ja7 st) (jam st) (jaf st) .none kV doc pm an cdv ct/\K.lookup f=some ⟨oc,od,.func fd,osl⟩/\Ybx K cdv qual=true
 kp:Ybc K (.ref f)=true

def Fun.binds  {K: Yac}{st:Stmt}(F:Fun K x qual st f fd)
  (h:∀kV doc pm an cdv ct (us:List Value),us.length=ps.length->bindArgs (Yba x qual (ja7 st) (jam st) (jaf st) .none kV doc pm an cdv ct) ⟨us,[]⟩=pure (ps.zip us)):Binds K fd ps []:=by
 obtain⟨oc,od,kV,doc,pm,an,cdv,ct,osl,rfl,lk,hcd⟩:=F.ex;exact .all (h kV doc pm an cdv ct)
def jic  {K: Yac}{st:Stmt}{kV doc pm cdv ct:Value}(l:K.lookup f=some ⟨oc,od,.func (Yba x qual (ja7 st) (jam st) (jaf st) .none kV doc pm an cdv ct),osl⟩)
  (c:Ybx K cdv qual=true) (k:Ybc K (.ref f)=true):Fun K x qual st f (Yba x qual (ja7 st) (jam st) (jaf st) .none kV doc pm an cdv ct):=⟨⟨oc,od,kV,doc,pm,an,cdv,ct,osl,rfl,l,c⟩,k⟩
def jpG    (hr:Room k A):A.units+1<cLine:=YbB (YdJ (by decide:1<=64) _) hr.units


def iteF  {A B:Prop}(h:B):if false=true then A else B:=by
 rw[if_neg Yaj];exact h
def iteT  {A B:Prop}(h:A):if true=true then A else B:=by
 rw[if_pos rfl];exact h
def Same  (H H':Hp):Prop:=∀b o,H b=some o->H' b=some o

def jiy  : jaX X (.builtin "len") (λxs H Q=>∃a kvs,xs=[V.ref a]/\H a=some (.dK kvs)/\Q (.int kvs.length) H):=by
 intro pins s σ H xs us Q I r h;obtain⟨a,kvs,rfl,ha,q⟩:=h;obtain⟨u,rfl,ru⟩:=jcQ r;cases ru;exact jpO I (.inl ha) λt s' I'=>⟨.int kvs.length,H,I',⟨t,rfl⟩,q⟩
section
variable {κ:Type}[DecidableEq κ]
end
end L2

namespace L2
open PySem PySem.Spec PyProof.Rows


noncomputable def jea  (env:Env)(ifs:List Expr):Sem Bool:=forIn ifs true λc r=>ite (r=true) (isTrue c env (eval c env) >>= λb=>pure (.yield b)) (pure (.yield r))
def jbQ  (ip:Pos)(tg:Expr)(ifs:List Expr)(it:Value)(env:Env)(em:Sem Unit)(next:Code):Sem Fin:=
 standAt ip >>= λ_=>pyNext it >>= λr=>match r with
  |none=>pure (.done .next)
  |some v=>YcN tg it v >>= λ_=>assign tg env v >>= λ_=>jea env ifs >>= λok=>ite (ok=true) (em >>= λ_=>again next) (again next)
def jku  (M:Model)(A:Around)(tg:Expr)(ifs:List Expr)(it:Value)(env:Env)(em:Sem Unit)(fin:Shared->Prop)(less:Shared->Prop):Option Value->Shared->Prop
 |none,s=>fin s
 |some v,s=>wpAny M A (YcN tg it v) (λ_ s=>wpAny M A (assign tg env v) (λ_ s=>wpAny M A (jea env ifs) (λok s=>if ok=true then wpAny M A em (λ_ s=>less s) (λ_ _=>False) s else less s) (λ_ _=>False) s) (λ_ _=>False) s) (λ_ _=>False) s
def je5             (I : Nat -> Shared -> Prop)
    (hct : YdL (.ListComp elt gens scope pos) dp it acc env = jbQ ip target ifs it env em (.compLoop (.ListComp elt gens scope pos) dp it acc env))
    (turn : ∀ k t, I k t -> wpAny (model prog w) A (pyNext it) (jku (model prog w) A target ifs it env em (R (.ok .next)) λt => ∃ m, m < k /\ I m t) (λ_ _ => False) t)
     n (h : I n s) : codeAny (model prog w) A (.compLoop (.ListComp elt gens scope pos) dp it acc env) R s := by
  have no : ∀ {Z : Value -> Shared -> Prop} (e : Value) (t : Shared), False -> Z e t := λ_ _ f => f.elim
  refine codeAny_loop rfl I (λk t hk => wpAny_noted (m := YdL (.ListComp elt gens scope pos) dp it acc env) (hct ▸ ?_)) n h
  refine Yae (Ybn (Yae (YaY (turn k t hk) (λr t1 p => ?_) no)))
  match r, p with
  | none, p => exact Yap p
  | some v, p =>
    refine Yae (YaY p (λ_ t2 p => Yae (YaY p (λ_ t3 p => Yae (YaY p (λok t4 p => ?_) no)) no)) no)
    match ok, p with
    | false, p => exact Yap ⟨rfl, p⟩
    | true, p => exact Yae (YaY p (λ_ t5 p => Yap ⟨rfl, p⟩) no)
def jbw         
  (h0:codeAny (model prog w) A (.compLoop (.ListComp elt [g1,⟨t2,i2,f2,0⟩] scope pos) 1 it acc env) R s)
  (h:wpAny (model prog w) A (pyIter it) (λit' s'=>codeAny (model prog w) A (.compLoop (.ListComp elt [g1,⟨t2,i2,f2,0⟩] scope pos) 1 it' acc env) R s') (notedBy (model prog w) A env λx s'=>R (.error x) s') s) :
  codeAny (model prog w) A (.compStart (.ListComp elt [g1,⟨t2,i2,f2,0⟩] scope pos) 1 it acc env) R s:=by
 refine codeAny_of_tree (wpAny_notedAt (m:=compStart (.ListComp elt [g1,⟨t2,i2,f2,0⟩] scope pos) 1 it acc env) ?_);unfold compStart;refine Yae (m:=ask) (wpAny_askSetting (wpAny_ite ?_));split
 ·exact Yae (Yap (Yap ⟨rfl,h0⟩))
 ·exact Yae (Yeq (Yae (m:=standAt i2.pos) (Ybn (Yae (thn h λit' s' p=>Yap ⟨rfl,p⟩)))))

theorem jbx  (env:Env):∀(names:List (Str×YbE)) acc ,(∀y∈names,y.2=.free->∃c,env.cells.lookup y.1=some c)->
  ∃cl ,(forIn names acc (λ(y:Str×YbE) cs=>(if (y.2==YaO)=true then (do let c <- cellOf env y.1;pure (ForInStep.yield ((y.1,c)::cs))) else pure (ForInStep.yield cs):Sem (ForInStep (List (Str×Addr))))):Sem (List (Str×Addr)))=pure cl/\
   (∀x c,(x,c)∈cl->(x,c)∈acc\/(env.cells.lookup x=some c/\(x,YaO)∈names))/\(∀p∈acc,p∈cl)/\(∀y∈names,y.2=.free->∃c,(y.1,c)∈cl)
 |[],acc,_=>⟨acc,rfl,λ_ _ h=>.inl h,λ_ h=>h,λ_ h=>nomatch h⟩
 |(n,k)::r,acc,h=>by
  by_cases hk:k=.free
  ·subst hk;obtain⟨c,hc⟩:=h (n,.free) Yat rfl;obtain⟨cl,e,h1,h2,h3⟩:=jbx env r ((n,c)::acc) λy hy=>h y (Yal _ hy);refine⟨cl,?_,λx d hd=>?_,λp hp=>h2 p (Yal _ hp),λy hy hf=>?_⟩
   ·rw[List.forIn_cons];have:(cellOf env n:Sem Addr)=pure c:=by unfold cellOf;rw[hc]
    simp only[beq_self_eq_true,if_true,this,pure_bind];exact e
   ·rcases h1 x d hd with z|⟨z,z'⟩
    ·rcases Yau.mp z with z|z
     ·cases z;exact .inr ⟨hc,Yat⟩
     ·exact .inl z
    ·exact .inr ⟨z,Yal _ z'⟩
   ·rcases Yau.mp hy with z|z
    ·subst z;exact⟨c,h2 _ Yat⟩
    ·exact h3 y z hf
  ·obtain⟨cl,e,h1,h2,h3⟩:=jbx env r acc λy hy=>h y (Yal _ hy);have hb:(k==YaO)=false:=by simpa using hk
   refine⟨cl,?_,λx d hd=>?_,h2,λy hy hf=>?_⟩
   ·rw[List.forIn_cons];simp only[hb,YbA,if_false,pure_bind];exact e
   ·rcases h1 x d hd with z|⟨z,z'⟩
    ·exact .inl z
    ·exact .inr ⟨z,Yal _ z'⟩
   ·rcases Yau.mp hy with z|z
    ·subst z;exact absurd hf hk
    ·exact h3 y z hf
theorem jb5  {β:Type}:∀{l:List (Str×β)} {x } {c },(x,c)∈l->∃d,l.lookup x=some d/\(x,d)∈l
 |(n,k)::r,x,c,h=>by
  cases hx:x==n with
  |true=>
   refine⟨k,by simp only[YaZ,hx],?_⟩
   rw[eq_of_beq hx];exact Yat
  |false=>
   rcases Yau.mp h with z|z
   ·cases z;simp at hx
   ·obtain⟨d,e,m⟩:=jb5 z;exact⟨d,by simp only[YaZ,hx];exact e,Yal _ m⟩
def jdZ    (h:∀y∈scope.names,y.2=.free->∃c,env.cells.lookup y.1=some c) :
  ∃cl ,closureFor scope env=pure cl/\(∀x c,cl.lookup x=some c->env.cells.lookup x=some c)/\(∀y∈scope.names,y.2=.free->∃c,cl.lookup y.1=some c):=by
 obtain⟨cl,e,h1,_,h3⟩:=jbx env scope.names [] h;refine⟨cl,?_,λx c hx=>?_,λy hy hf=>?_⟩
 ·unfold closureFor;rw[<- e];simp only[bind_pure]
 ·rcases h1 x c (YaE hx)with z|⟨z,_⟩
  ·exact nomatch z
  ·exact z
 ·obtain⟨c,hc⟩:=h3 y hy hf;obtain⟨d,e,_⟩:=jb5 hc;exact⟨d,e⟩

noncomputable def jad  (X:Cx)(N:List Str)(scope:Scope)(cl:List (Str×Addr))(C:Addr)(s₀:Shared)(H₀:Hp)(fp:List Addr):Cx where
 prog:=X.prog
 w:=X.w
 K:=X.K
 mg:=X.mg
 base:=X.base
 A:=X.A
 N:=N
 s₀:=s₀
 H₀:=H₀
 env:=compEnvC scope cl C X.env
 outer:=X.stack
 stack:=X.stack
 ex:=fp
 fn:=λx=>scope.names.lookup x==some .cell
 calm:=X.calm
 pn:=[]
 xe:=λ_ _=>False

noncomputable def cOk  (oN:List Str)(on:List (Str×YbE))(N:List Str)(pick:List (Option Nat))(scope:Scope):Bool:=
 decide (scope.kind=.function)&&scope.names.all (λy=>y.2 != .cell||scope.names.lookup y.1==some .cell)&&scope.names.all (λy=>y.2 != .local||scope.names.lookup y.1==some .local)
  && scope.names.all (λy=>y.2 != .free||(scope.names.lookup y.1==some .free&&(on.lookup y.1==some .cell||on.lookup y.1==some .free)))
  && pick.length==N.length&&(N.zip pick).all (λp=>match p.2 with|none=>true|some j=>oN[j]?==some p.1&&scope.names.lookup p.1==some .free)

structure CScope (X:Cx)(N:List Str)(pick:List (Option Nat))(scope:Scope):Prop where
 kind:scope.kind=.function
 cells:∀y∈scope.names,y.2=.cell->scope.names.lookup y.1=some .cell
 names:∀y∈scope.names,y.2=.local->scope.names.lookup y.1=some .local
 fre:∀y∈scope.names,y.2=.free->scope.names.lookup y.1=some .free/\(X.env.kindOf y.1=some .cell\/X.env.kindOf y.1=some .free)
 len:pick.length=N.length
 caps:∀(i j:Nat) (x:Str),N[i]?=some x->pick[i]?=some (some j)->X.N[j]?=some x/\scope.names.lookup x=some .free
theorem jcy  (f:Str->YbE->YbE):∀(names:List (Str×YbE)) x ,(names.map λy=>(y.1,f y.1 y.2)).lookup x=(names.lookup x).map (f x)
 |[],_=>rfl
 |(n,k)::r,x=>by
  rw[YaM,YaZ,YaZ,jcy f r x];by_cases e:x=n
  ·subst e;rw[beq_self_eq_true];rfl
  ·rw[beq_false_of_ne e]
noncomputable def jj4  (env:Env)(n:Str)(k:YbE):YbE:=if (k==YaO&&env.scope.kind == .function&&env.kindOf n==some .cell) then .cell else k
def jbY (env:Env)(names:List (Str×YbE))(x:Str) :
  (names.map λ(n,k)=>if (k==YaO&&env.scope.kind == .function&&env.kindOf n==some .cell) then (n,YaK) else (n,k)).lookup x=(names.lookup x).map (jj4 env x):=by
 rw[<- jcy (jj4 env)];congr 2;funext y;show ite _ _ _=(y.1,ite _ _ _);split<;>rfl
def jaV {env:Env}{names:List (Str×YbE)}{x:Str}(h:names.lookup x=some .free) :
  (names.map λ(n,k)=>if (k==YaO&&env.scope.kind == .function&&env.kindOf n==some .cell) then (n,YaK) else (n,k)).lookup x=some .cell\/
  (names.map λ(n,k)=>if (k==YaO&&env.scope.kind == .function&&env.kindOf n==some .cell) then (n,YaK) else (n,k)).lookup x=some .free:=by
 rw[jbY,h];show some (ite _ _ _)=_\/some (ite _ _ _)=_;split
 ·exact .inl rfl
 ·exact .inr rfl
def jaA {env:Env}{q:YbE}(hq:q≠.free){names:List (Str×YbE)}{x:Str}(h:names.lookup x=some q) :
  (names.map λ(n,k)=>if (k==YaO&&env.scope.kind == .function&&env.kindOf n==some .cell) then (n,YaK) else (n,k)).lookup x=some q:=by
 rw[jbY,h];show some (ite _ _ _)=_;rw[beq_false_of_ne hq];rfl
theorem jbo {env:Env}:∀{names:List (Str×YbE)} {x:Str},
  ((names.map λ(n,k)=>if (k==YaO&&env.scope.kind == .function&&env.kindOf n==some .cell) then (n,YaK) else (n,k)).lookup x=some .cell\/
  (names.map λ(n,k)=>if (k==YaO&&env.scope.kind == .function&&env.kindOf n==some .cell) then (n,YaK) else (n,k)).lookup x=some .free)->(x,YaO)∈names\/(x,YaK)∈names
 |[],_,h=>by simp at h
 |(n,k)::r,x,h=>by
  have ih:_->_:=@jbo env r x;have h':Ybt x ((if (k==YaO&&env.scope.kind == .function&&env.kindOf n==some .cell)=true then (n,YaK) else (n,k))::r.map λ(n,k)=>if (k==YaO&&env.scope.kind == .function&&env.kindOf n==some .cell) then (n,YaK) else (n,k))=some .cell\/Ybt x ((if (k==YaO&&env.scope.kind == .function&&env.kindOf n==some .cell)=true then (n,YaK) else (n,k))::r.map λ(n,k)=>if (k==YaO&&env.scope.kind == .function&&env.kindOf n==some .cell) then (n,YaK) else (n,k))=some .free:=h
  by_cases hk:k=.free
  ·cases hx:x==n with
   |true=>rw[eq_of_beq hx,hk];exact .inl Yat
   |false=>
    refine(ih ?_).imp (Yal _) (Yal _);by_cases hcc:(k==YaO&&env.scope.kind == .function&&env.kindOf n==some .cell)=true
    ·rw[if_pos hcc]at h';simpa only[YaZ,hx]using h'
    ·rw[if_neg hcc]at h';simpa only[YaZ,hx]using h'
  ·have hb:(k==YaO)=false:=by simpa using hk
   rw[if_neg (by simp[hb])]at h'
   cases hx:x==n with
   |true=>
    simp only[YaZ,hx]at h';rcases h' with z|z
    ·rw[eq_of_beq hx,Yar z];exact .inr Yat
    ·exact absurd (Yar z) hk
   |false=>exact(ih (by simpa only[YaZ,hx]using h')).imp (Yal _) (Yal _)

theorem jaE  : ∀names n acc ,Ybm n names acc=Ybm n names []++acc
 |[],_,_=>rfl
 |(x,k)::r,n,acc=>by
  unfold Ybm;split
  ·rw[jaE r (n+1) ((x,n)::acc),jaE r (n+1) [(x,n)],YcT];rfl
  ·exact jaE r n acc
theorem jaR  : ∀names n {x } {c },(x,c)∈Ybm n names []->(x,YaK)∈names
 |[],_,_,_,h=>nomatch h
 |(y,k)::r,n,x,c,h=>by
  unfold Ybm at h;split at h
  ·rename_i hk;rw[jaE]at h;rcases List.mem_append.mp h with h|h
   ·exact Yal _ (jaR r _ h)
   ·have e:(x,c)=(y,n):=by simpa using h
    cases e;rw[eq_of_beq hk];exact Yat
  ·exact Yal _ (jaR r _ h)
theorem jdJ  {β:Type}:∀(l m:List (Str×β)) x ,(l++m).lookup x=(l.lookup x).or (m.lookup x)
 |[],_,_=>by simp
 |(n,k)::r,m,x=>by
  rw[Ygk,YaZ,YaZ];cases hx:x==n with
  |true=>simp
  |false=>exact jdJ r m x
structure BCells (scope:Scope)(cl cs:List (Str×Addr))(lo:Nat)(h:Heap):Prop where
 lk:∀x c,cs.lookup x=some c->((x,YaK)∈scope.names/\lo<c/\h.IsCell c none)\/((x,YaK)∉scope.names/\cl.lookup x=some c)
 own:∀x,scope.names.lookup x=some .cell->∃c,cs.lookup x=some c/\lo<c
 old:∀x c,(x,YaK)∉scope.names->cl.lookup x=some c->cs.lookup x=some c
 inj:∀x y c,cs.lookup x=some c->cs.lookup y=some c->lo<c->x=y
def jiD   {cl:List (Str×Addr)}{lo:Nat}(hl:h.objs.size=lo+1)(S:∀y∈scope.names,y.2=.cell->scope.names.lookup y.1=some .cell)(hcl:∀x c,cl.lookup x=some c->c<=lo):BCells scope cl (Ybm (lo+1) scope.names cl) lo (YeZ h scope.names):=by
 have ok:=cellsFrom_ok scope.names h (lo+1) [] ⟨λ_ _ hm=>(nomatch hm),Yev⟩ (by lia)
 rw[hl]at ok;have look:∀x,(Ybm (lo+1) scope.names cl).lookup x=((Ybm (lo+1) scope.names []).lookup x).or (cl.lookup x):=λx=>by rw[jaE,jdJ]
 have own:∀x,(x,YaK)∈scope.names->∃c,(Ybm (lo+1) scope.names []).lookup x=some c:=λx hx=>jeq (S _ hx rfl);refine⟨λx c e=>?_,λx hx=>?_,λx c hx hc=>?_,λx y c e1 e2 hc=>?_⟩
 ·rw[look]at e;by_cases hx:(x,YaK)∈scope.names
  ·obtain⟨c',e'⟩:=own x hx;rw[e',Yel]at e;have e:c'=c:=Yar e;subst e;obtain⟨z1,z2⟩:=ok.empty x c' (YaE e');exact .inl ⟨hx,z2,z1⟩
  ·cases q:(Ybm (lo+1) scope.names []).lookup x with
   |some c'=>exact absurd (jaR _ _ (YaE q)) hx
   |none=>rw[q,Yem]at e;exact .inr ⟨hx,e⟩
 ·obtain⟨c,e⟩:=own x (YaE hx);exact⟨c,by rw[look,e,Yel],(ok.empty x c (YaE e)).2⟩
 ·rw[look];cases q:(Ybm (lo+1) scope.names []).lookup x with
  |some c'=>exact absurd (jaR _ _ (YaE q)) hx
  |none=>rw[Yem];exact hc
 ·rw[look]at e1 e2;have new:∀x,((Ybm (lo+1) scope.names []).lookup x).or (cl.lookup x)=some c->(Ybm (lo+1) scope.names []).lookup x=some c:=λx e=>by
   cases q:(Ybm (lo+1) scope.names []).lookup x with
   |some c'=>rw[q,Yel]at e;exact e
   |none=>
    rw[q,Yem]at e;exact absurd (Yas hc (hcl x c e)) (Ya6 _)
  exact name_of_addr ok.apart (YaE (new x e1)) (YaE (new y e2))
def jbX           
  (hQ:Q (newEnv scope s.heap.objs.size globals (Ybm (s.heap.objs.size+1) scope.names cl) qual none .none (some env) YdM) { s with heap:=YeZ (s.heap.push { cls:=.type "dict",data:=.dict #[] }) scope.names }) :
  wpAny M A (Yfi scope globals cl [] qual none .none (some env)) Q E s:=by
 have sz:(s.heap.push { cls:=.type "dict",data:=.dict #[] }).objs.size=s.heap.objs.size+1:=Ycv ..;unfold Yfi;rw[if_pos (by rfl)]
 refine Yae (wpAny_alloc (Yae (wpAny_layCells _ (λx k c=>by by_cases e:(k==YaK)=true<;>simp[e]) _ _ _ _ ?_)))
 rw[show Heap.objs (Shared.heap _)=(s.heap.push { cls:=.type "dict",data:=.dict #[] }).objs from rfl,sz];exact Yae (Yap (Yap hQ))


def glc   (h:scope.names.lookup x=some .globalImplicit):Gl (jad X N scope cl C s₀ H₀ fp) x:=jaA (by decide) h

def PIfs  (X:Cx)(ifs:List Expr)(t:TT):Prop:=
 ∀(pins:List (Addr×Obj)) (s:Shared) (σ:St) (H:Hp) (Q:Bool->Hp->Prop),Inv X pins σ H s->t σ H Q->
  wpAny (model X.prog X.w) X.A (jea X.env ifs) (TP X pins σ Q) X.xe s
def jo0  : TT:=λ_ H Q=>Q true H
def jkX   : PIfs X [] jo0:=λ_ _ _ H _ I h=>wpAny_tests_nil ⟨H,I,h⟩
def jkW     (h:PT X c t):PIfs X [c] t:=λpins s σ H Q I q=>wpAny_tests_one (h pins s σ H Q I q)

abbrev TEm:=St->List V->Hp->(St->List V->Hp->Prop)->Prop
def jgG  (J:It)(g:TG)(tt:TT)(tem:TEm)(QQ:St->List V->Hp->Prop)(τ0:St)(ys0:List V)(H1:Hp):Prop:=∃W:Nat->Nat->St->List V->Hp->Prop,
 (∃m,W 0 m τ0 ys0 H1)/\∀i m τ ys H,W i m τ ys H->
  (J.stop i H/\QQ τ ys H)\/(J.go i H/\∀x H',J.yld i H x H'->g x τ H' λτ2 H2=>tt τ2 H2 λb H3=>if b=true then tem τ2 ys H3 λτ3 ys' H4=>∃m',m'<m/\W (i+1) m' τ3 ys' H4
   else ∃m',m'<m/\W (i+1) m' τ2 ys H3)
def emA  (te:TE)(D:Addr):TEm:=λτ ys H Q=>te τ H λv H4=>H4 D=some (.lst ys)/\ys.length<Yai/\Q τ (ys++[v]) (upd H4 D (.lst (ys++[v])))
def em2  (wi:TI)(g:TG)(tt:TT)(te:TE)(D:Addr):TEm:=λτ ys H Q=>wi τ H λJ H1=>jgG J g tt (emA te D) Q τ ys H1
def LcGG  (J:It)(g:TG)(tt:TT)(tem:Addr->TEm)(D:Addr)(τ0:St)(Q:VK)(H1:Hp):Prop:=jgG J g tt (tem D) (λ_ _ H=>Q (.ref D) H) τ0 [] (upd H1 D (.lst []))
def PEm  (Y:Cx)(em:Sem Unit)(tem:TEm):Prop:=∀(pins:List (Addr×Obj)) (s:Shared) (τ:St) (ys:List V) (H:Hp) (Q:St->List V->Hp->Prop),Inv Y pins τ H s->tem τ ys H Q->
 wpAny (model Y.prog Y.w) Y.A em (λ_ s'=>∃τ' ys' H',Inv Y pins τ' H' s'/\Q τ' ys' H') Y.xe s
def tLcG  (pick:List (Option Nat))(wi:TI)(g:TG)(tt:TT)(tem:Addr->TEm):TE:=λσ H Q=>wi σ H λJ H1=>∀D,H1 D=none->LcGG J g tt tem D (pick.map λo=>o.bind λj=>(σ[j]?).join) Q H1
abbrev tLc  (pick:List (Option Nat))(wi:TI)(g:TG)(tt:TT)(te:TE):TE:=tLcG pick wi g tt (emA te)
abbrev tLc2  (pick:List (Option Nat))(wi:TI)(g:TG)(tt:TT)(wi2:TI)(g2:TG)(tt2:TT)(te:TE):TE:=tLcG pick wi g tt (em2 wi2 g2 tt2 te)

section
variable {X:Cx}{N:List Str}{pick:List (Option Nat)}{scope:Scope}{pins:List (Addr×Obj)}{σ:St}{s s3:Shared}{H H3:Hp}

def jg6  {cl cs:List (Str×Addr)}{fp:List Addr}(S:CScope X N pick scope)(I3:Inv X pins σ H3 s3)(hf:∀b∈fp,FpOk X pins H3 b)(hlt:∀b∈fp,b<s3.heap.objs.size)
  (c1:∀x c,cl.lookup x=some c->X.env.cells.lookup x=some c) (c2:∀y∈scope.names,y.2=.free->∃c,cl.lookup y.1=some c) (B:BCells scope cl cs s3.heap.objs.size h₁)
  (hns:h₁.Ns s3.heap.objs.size mB) (hk:∀b o,s3.heap.get? b=some o->h₁.get? b=some o) :
  Inv (jad X N scope cs s3.heap.objs.size s3 H3 fp) [] (pick.map λo=>o.bind λj=>(σ[j]?).join) H3 { s3 with heap:=h₁,toks:=tk }:=by
 have fsub:∀b∈frs X.stack,b∈X.env.locals::X.fs:=I3.stkSub;have oc:∀x c,cs.lookup x=some c->X.env.cells.lookup x=some c\/s3.heap.objs.size<c:=λx c e=>by
  rcases B.lk x c e with⟨_,z,_⟩|⟨_,z⟩
  ·exact .inr z
  ·exact .inl (c1 x c z)
 have has:∀x,((x,YaO)∈scope.names\/(x,YaK)∈scope.names)->∃c,cs.lookup x=some c:=λx hx=>by
  by_cases hc:(x,YaK)∈scope.names
  ·obtain⟨c,e,_⟩:=B.own x (S.cells _ hc rfl);exact⟨c,e⟩
  ·rcases hx with hx|hx
   ·obtain⟨c,e⟩:=c2 _ hx rfl;exact⟨c,B.old x c hc e⟩
   ·exact absurd hx hc
 refine⟨⟨I3.ok.mod,S.kind,I3.ok.glob,I3.ok.blt,Yah _,λx y c e1 e2=>?_,λx hx=>has x (jbo hx),λx c z e=>?_,I3.ok.hd,I3.ok.frames,.inl rfl,λb hb=>⟨Yaz (hlt b hb),λx c e=>?_⟩,
   I3.bs,Yag I3.ok.bsz I3.sz,λb o e hb=>?_,λb hb hm=>?_,I3.stack,I3.stkFree⟩,
  rfl,I3.bare,Un.kept hk,⟨_,hns,λi x v e1 e2 e3=>?_⟩,λx c e=>?_,I3.hok.fresh (Yah _),λx c e=>?_,λp hp=>absurd (show p∈([]:List (Addr×Obj))from hp) (by simp),I3.hok.kept hk,?_⟩
 ·by_cases hc:s3.heap.objs.size<c
  ·exact B.inj x y c e1 e2 hc
  ·exact I3.ok.inj x y c ((oc x c e1).resolve_right hc) ((oc y c e2).resolve_right hc)
 ·have z':scope.names.lookup x=some .cell:=eq_of_beq z;rcases B.lk x c e with⟨_,y,_⟩|⟨y,_⟩
  ·exact Ycp y
  ·exact absurd (YaE z') y
 ·rcases oc x c e with z|z
  ·exact(hf b hb).2.2.2.2.1 x c z
  ·intro q;rw[q]at z;exact absurd (Ydg z (hlt b hb)) (Ya6 _)
 ·rcases(hf b hb).2.2.2.1 with z|z
  ·exact I3.ok.noex b o e z
  ·exact absurd (Yas (Yan e) (Yag I3.ok.bsz z)) (Ya6 _)
 ·rcases Yau.mp (fsub b hm)with z|z
  ·exact(hf b hb).2.1 z
  ·exact(hf b hb).2.2.1 z
 ·-- a captured name
  have e2':∃j,pick[i]?=some (some j)/\σ[j]?=some (some v):=by
   rw[Yav]at e2;cases q:pick[i]? with
   |none=>rw[q]at e2;cases e2
   |some o=>
    rw[q]at e2;cases o with
    |none=>simp at e2
    |some j=>
     simp at e2;refine⟨j,rfl,?_⟩;cases q2:σ[j]? with
     |none=>rw[q2]at e2;cases e2
     |some w'=>rw[q2]at e2;simp at e2;rw[e2]
  obtain⟨j,ej,ev⟩:=e2';obtain⟨hN,hfr⟩:=S.caps i j x e1 ej;have hmem:(x,YaO)∈scope.names:=YaE hfr;have hnc:(x,YaK)∉scope.names:=λz=>by
   have:=S.cells _ z rfl;rw[hfr]at this;cases this
  obtain⟨_,hkind⟩:=S.fre _ hmem rfl;obtain⟨m,hn,hl⟩:=I3.loc;obtain⟨u,r,l⟩:=hl j x v hN ev (hkind.elim (λz=>.inr (.inl z)) λz=>.inr (.inr z));refine⟨u,r,.inr ⟨?_,?_⟩⟩
  ·exact jaV (env:=X.env) hfr
  ·obtain⟨c,hc⟩:=c2 _ hmem rfl;have hc':=c1 _ _ hc;rcases l with⟨z,_⟩|⟨_,c',e,o,ho,hd⟩
   ·rcases hkind with y|y
    ·rw[y]at z;cases z
    ·rw[y]at z;cases z
   ·have:c'=c:=by rw[hc']at e;exact(Yar e).symm
    subst this;exact⟨c',B.old x c' hnc hc,o,hk _ _ ho,hd⟩
 ·rcases B.lk x c e with⟨_,_,z⟩|⟨_,z⟩
  ·exact⟨none,z⟩
  ·obtain⟨v,o,ho,hd⟩:=I3.cell x c (c1 x c z);exact⟨v,o,hk _ _ ho,hd⟩
 ·rcases oc x c e with z|z
  ·exact I3.freeC x c z
  ·exact I3.hok.fresh (Ycp z)
 ·rw[Yaa];exact S.len

def jjp     {τ:St}(I3:Inv X pins σ H3 s3)(hf:∀b∈fp,FpOk X pins H3 b)(J:Inv (jad X N scope cl C s3 H3 fp) pins' τ H' s') :
  Inv X pins σ H' s':=I3.call' J.os J.base J.hok J.bare λb hb=>⟨(hf b hb).2.2.2.1,(hf b hb).2.1,(hf b hb).2.2.2.2.1,(hf b hb).2.2.2.2.2⟩

def jhV                  {τ0:St} 
  (yc:Y.calm=true) (yxe:Y.xe=λ_ _=>False)
  (hct:YdL (.ListComp elt gens scope pos) dp (.ref it) acc Y.env=jbQ ip tg ifs (.ref it) Y.env em (.compLoop (.ListComp elt gens scope pos) dp (.ref it) acc Y.env))
  (yg:PG Y tg g) (yi:PIfs Y ifs tt) (ym:PEm Y em tem) (J0:Inv Y pins τ0 H s) (T:Turn Y.prog Y.w Y.K tg J fp it tn) (t0:tn 0 s.heap) (f0:∀b∈fp,FpOk Y pins H b) (hW:jgG J g tt tem QQ τ0 ys0 H) :
  codeAny (model Y.prog Y.w) Y.A (.compLoop (.ListComp elt gens scope pos) dp (.ref it) acc Y.env) (λr s'=>r=.ok .next/\∃τ' ys' H',Inv Y pins τ' H' s'/\QQ τ' ys' H') s:=by
 obtain⟨W,⟨m0,w0⟩,turn⟩:=hW;have stat:∀{H':Hp},(∀b∈fp,H' b=none)->∀b∈fp,FpOk Y pins H' b:=λhn b hb=>⟨hn b hb,(f0 b hb).2⟩;refine je5 (λn s'=>∃i τ ys H',Inv Y pins τ H' s'/\tn i s'.heap/\(∀b∈fp,H' b=none)/\W i n τ ys H') hct ?_ m0 ⟨0,_,ys0,_,J0,t0,λb hb=>(f0 b hb).1,w0⟩;rintro n s4 ⟨i,τ,ys,H4,J4,t4,fr4,w4⟩;rcases turn i n τ ys H4 w4 with⟨stop,q⟩|⟨go,step⟩
 ·refine YaY (T.done Y rfl rfl rfl yc i pins s4 τ H4 (λ_ _=>False) J4 (stat fr4) t4 stop) (λr s5 ⟨hr,J5⟩=>?_) λ_ _ f=>f;subst hr;exact⟨rfl,τ,ys,H4,J5,q⟩
 ·refine YaY (T.item Y rfl rfl rfl yc i pins s4 τ H4 (λ_ _=>False) J4 (stat fr4) t4 go) (λr s5 ⟨u,hr,h5⟩=>?_) λ_ _ f=>f;subst hr;refine YaY h5 (λ_ s6 ⟨x,H6,J6,r6,y6,t6,fr6⟩=>?_) λ_ _ f=>f;have J6':=J6.pinned (stat fr6) (T.obj _ _ t6);have ag:=yg _ s6 τ H6 x u _ J6' r6 (step x H6 y6);rw[yxe]at ag;refine YaY ag (λ_ s7 ⟨τ7,H7,J7,q7⟩=>?_) λ_ _ f=>f;have ai:=yi _ s7 τ7 H7 _ J7 q7;rw[yxe]at ai;refine YaY ai (λok s8 ⟨H8,J8,q8⟩=>?_) λ_ _ f=>f;have again:∀{τ9:St} {H9:Hp} {s9:Shared} {zs:List V},Inv Y (pins++jeH fp s6.heap) τ9 H9 s9->(∃m',m'<n/\W (i+1) m' τ9 zs H9)->∃m,m<n/\∃i τ ys H',Inv Y pins τ H' s9/\tn i s9.heap/\(∀b∈fp,H' b=none)/\W i m τ ys H':=λ{τ9 H9 s9 zs} J9 ⟨m',hm,w9⟩=>by
   refine⟨m',hm,i+1,τ9,zs,H9,J9.unpinned,T.keep _ _ _ t6 λb hb o e=>(J9.pin (b,o) (YaN _ (YaN _ (jbA hb e)))).1,λb hb=>?_,w9⟩;obtain⟨o,e,d⟩:=T.obj _ _ t6 b hb;exact(J9.pin (b,o) (YaN _ (YaN _ (jbA hb e)))).2.1
  cases ok with
  |false=>exact again J8 q8
  |true=>
   have am:=ym _ s8 τ7 ys H8 _ J8 q8;rw[yxe]at am;exact YaY am (λ_ s9 ⟨τ9,zs,H9,J9,q9⟩=>again J9 q9) λ_ _ f=>f
def jif      (yxe:Y.xe=λ_ _=>False)(he:PE Y elt te):PEm Y (do let _ <- call (.builtin "list.append") [.ref D,<- eval elt Y.env]) (emA te D):=by
 intro pins s τ ys H Q J q;have ae:=he _ s τ H _ J q;refine Yae (YaY ae (λv s9 ⟨z,H9,J9,r9,hD9,hz9,q9⟩=>?_) λ_ _ f=>f);have aa:=jeP (X:=Y) _ s9 τ H9 (.ref D) [z] (.ref D) [v] (λx H'=>H'=upd H9 D (.lst (ys++[z]))) J9 rfl (.cons r9 .nil) ⟨_,ys,z,rfl,rfl,hD9,hz9,rfl⟩;refine Yae (YaY aa (λ_ s10 ⟨_,H10,J10,_,e10⟩=>?_) λ_ _ f=>f);subst e10;exact Yap ⟨τ,_,_,J10,q9⟩
def jkh            (yc:Y.calm=true)(yxe:Y.xe=λ_ _=>False)(hw:PI Y t2 i2 wi)(hg:PG Y t2 g)(hi:PIfs Y f2 tt)(he:PE Y elt te)
  (hs:∀x,Yay i2 Y.env x=pure x) :
  PEm Y (do
   let x <- eval i2 Y.env
   standAt i2.pos
   let x <- Yay i2 Y.env x
   let _ <- runOwn (.compStart (.ListComp elt [g1,⟨t2,i2,f2,0⟩] scope pos) 1 (<- holding [x] (pyIter x)) (.ref D) Y.env) Y.env) (em2 wi g tt te D):=by
 intro pins s τ ys H Q J q;refine Yae (thn (hw pins s τ H _ J q) λv s1 h1=>Yae (Ybn (Yae (wpAny_of_eq (hs v) (Yae (Ybo (thn h1 λitv s2 h2=>?_)))))));obtain⟨it,fp,tn,J2,H2,e,I2,T,st2,f2',hW⟩:=h2;subst e;have lp:=jhV (s:=s2) (acc:=.ref D) (em:=do let _ <- call (.builtin "list.append") [.ref D,<- eval elt Y.env]) (gens:=[g1,⟨t2,i2,f2,0⟩]) (dp:=1) (ip:=i2.pos) (pos:=pos) (scope:=scope) (elt:=elt) (ifs:=f2) yc yxe rfl hg hi (jif yxe he) I2 T st2 f2' hW
 refine Yae (wpAny_runOwn (YdE (jbw lp (T.self _ 0 _ _ _ st2 lp)) λr s3 ⟨hr,τ',ys',H',I',q'⟩=>?_));subst hr;exact Yap ⟨τ',ys',H',I',q'⟩
def jgl {tg iter elt:Expr}{ifs:List Expr}{rest:List Ydl}{pos:Pos}{g:TG}{tt:TT}{tem:Addr->TEm}{em:Addr->Env->Sem Unit}{J:It}{fp:List Addr}{it:Addr}{tn:Nat->Heap->Prop}{cl:List (Str×Addr)}{Q:VK}{E:Value->Shared->Prop}{RR:Value->Addr->Result->Shared->Prop}
  (hc:X.calm=true) (S:CScope X N pick scope) (c1:∀x c,cl.lookup x=some c->X.env.cells.lookup x=some c) (c2:∀y∈scope.names,y.2=.free->∃c,cl.lookup y.1=some c)
  (hg:∀cl C s₀ H₀ fp,PG (jad X N scope cl C s₀ H₀ fp) tg g) (hi:∀cl C s₀ H₀ fp,PIfs (jad X N scope cl C s₀ H₀ fp) ifs tt) (he:∀D cl C s₀ H₀ fp,PEm (jad X N scope cl C s₀ H₀ fp) (em D (jad X N scope cl C s₀ H₀ fp).env) (tem D))
  (hct:∀(it:Value) (D:Addr) (env:Env),YdL (.ListComp elt (⟨tg,iter,ifs,0⟩::rest) scope pos) 0 it (.ref D) env=jbQ iter.pos tg ifs it env (em D env) (.compLoop (.ListComp elt (⟨tg,iter,ifs,0⟩::rest) scope pos) 0 it (.ref D) env))
  (I2:Inv X pins σ H s) (T:Turn X.prog X.w X.K tg J fp it tn) (st:tn 0 s.heap) (hf:∀b∈fp,FpOk X pins H b)
  (hW:∀D,H D=none->LcGG J g tt tem D (pick.map λo=>o.bind λj=>(σ[j]?).join) Q H)
  (hRR:∀D C H' s',Inv X pins σ H' s'->(∃m,s'.heap.Ns C m)->FpOk X pins H' C->Q (.ref D) H'->RR (.ref D) C (.ok .next) s') :
  wpAny (model X.prog X.w) X.A (newList []) (λacc s₃=>wpAny (model X.prog X.w) X.A (Yfi scope X.env.globals cl [] X.env.qual none .none (some X.env)) (λcenv s₄=>
   codeAny (model X.prog X.w) X.A (.compStart (.ListComp elt (⟨tg,iter,ifs,0⟩::rest) scope pos) 0 (.ref it) acc { cenv with scope:=relabel scope X.env }) (RR acc cenv.locals) s₄) E s₃) E s:=by
 have hD:H s.heap.objs.size=none:=I2.hok.fresh (Yah _);have hlt:∀b∈fp,b<s.heap.objs.size:=λb hb=>let ⟨o,e,_⟩:=T.obj _ _ st b hb;Yan e
 refine Ybv (jbX ?_);have I3:Inv X pins σ (upd H s.heap.objs.size (.lst [])) { s with heap:=s.heap.push { cls:=.type "list",dict:=none,data:=.seq ([]:List Value).toArray } }:=
  I2.laid (t':=s.toks) (λb u e=>Yaf _ e) (Yah _) ⟨YaP _,[],0,.nil,Yax _ rfl⟩
 generalize hs3:({ s with heap:=s.heap.push { cls:=.type "list",dict:=none,data:=.seq ([]:List Value).toArray } }:Shared)=s3 at I3 ⊢
 have hsz:s3.heap.objs.size=s.heap.objs.size+1:=by rw[<- hs3];exact Ycv ..
 have hf3:∀b∈fp,FpOk X pins (upd H s.heap.objs.size (.lst [])) b:=λb hb=>⟨by rw[jac (Yaz (hlt b hb))];exact(hf b hb).1,(hf b hb).2⟩
 have hsz':(s3.heap.push { cls:=.type "dict",data:=.dict #[] }).objs.size=s3.heap.objs.size+1:=Ycv ..;have hk:∀b o,s3.heap.get? b=some o->(YeZ (s3.heap.push { cls:=.type "dict",data:=.dict #[] }) scope.names).get? b=some o:=λb o e=>pushCells_keeps _ _ b o (Yaf _ e);have hns₁:(YeZ (s3.heap.push { cls:=.type "dict",data:=.dict #[] }) scope.names).Ns s3.heap.objs.size λ_=>none:=(Heap.Ns.new s3.heap (.type "dict")).keeps (pushCells_keeps _ _);have B:=jiD (cl:=cl) hsz' S.cells λx c e=>by
  obtain⟨v,z⟩:=I3.cell x c (c1 x c e);exact Ycp z.lt
 generalize YeZ (s3.heap.push { cls:=.type "dict",data:=.dict #[] }) scope.names=h₁ at hk hns₁ B ⊢;generalize Ybm (s3.heap.objs.size+1) scope.names cl=cs at B ⊢;have c1':∀x c,cs.lookup x=some c->X.env.cells.lookup x=some c\/s3.heap.objs.size<c:=λx c e=>by
  rcases B.lk x c e with⟨_,z,_⟩|⟨_,z⟩
  ·exact .inr z
  ·exact .inl (c1 x c z)
 have st1:tn 0 h₁:=T.keep _ _ _ st λb _ o e=>hk b o (by rw[<- hs3];exact Yaf _ e)
 have IY:Inv (jad X N scope cs s3.heap.objs.size s3 (upd H s.heap.objs.size (.lst [])) fp) [] (pick.map λo=>o.bind λj=>(σ[j]?).join) (upd H s.heap.objs.size (.lst [])) { s3 with heap:=h₁ }:=
  jg6 (tk:=s3.toks) S I3 hf3 (λb hb=>Yas (hlt b hb) (by lia)) c1 c2 B hns₁ hk
 generalize hY:jad X N scope cs s3.heap.objs.size s3 (upd H s.heap.objs.size (.lst [])) fp=Y at IY;have yg:PG Y tg g:=hY ▸ hg _ _ _ _ _;have yi:PIfs Y ifs tt:=hY ▸ hi _ _ _ _ _;have ye:PEm Y (em s.heap.objs.size Y.env) (tem s.heap.objs.size):=hY ▸ he _ _ _ _ _ _;have yprog:Y.prog=X.prog:=by rw[<- hY];rfl
 have yw:Y.w=X.w:=by rw[<- hY];rfl
 have yK:Y.K=X.K:=by rw[<- hY];rfl
 have yA:Y.A=X.A:=by rw[<- hY];rfl
 have yc:Y.calm=true:=by rw[<- hY];exact hc
 have yenv:Y.env=compEnvC scope cs s3.heap.objs.size X.env:=by rw[<- hY];rfl
 have yex:∀b,b∈Y.ex↔b∈fp:=λb=>by rw[<- hY];rfl
 have yxe:Y.xe=λ_ _=>False:=by rw[<- hY];rfl
 have ypn:Y.pn=[]:=by rw[<- hY];rfl
 have yfs:∀b,b∈Y.fs->b∈X.env.locals::X.fs:=λb hb=>I3.stkSub b (by rw[<- hY]at hb;exact hb)
 have stat:∀{H':Hp},(∀b∈fp,H' b=none)->∀b∈fp,FpOk Y [] H' b:=λhn b hb=>by
  refine⟨hn b hb,?_,λhm=>?_,.inl ((yex b).mpr hb),λx c e=>?_,λp hp=>?_⟩
  ·rw[yenv];show b≠s3.heap.objs.size;exact Yaz (Yas (hlt b hb) (by lia))
  ·rcases Yau.mp (yfs b hm)with z|z
   ·exact(hf b hb).2.1 z
   ·exact(hf b hb).2.2.1 z
  ·rw[yenv]at e;rcases c1' x c e with z|z
   ·exact(hf b hb).2.2.2.2.1 x c z
   ·intro q;rw[q]at z;exact absurd (Ydg z (Yas (hlt b hb) (by lia))) (Ya6 _)
  ·rw[ypn]at hp;simp at hp
 have fin:∀{τ:St} {H':Hp} {s':Shared},Inv Y [] τ H' s'->Q (.ref s.heap.objs.size) H'->RR (.ref s.heap.objs.size) s3.heap.objs.size (.ok .next) s':=λ{τ H' s'} J q=>by
  have fr:H' s3.heap.objs.size=none:=by have:=J.free;rw[yenv]at this;exact this
  obtain⟨m,hn,_⟩:=J.loc;rw[yenv]at hn;exact hRR _ _ H' s' (jjp I3 hf3 (hY ▸ J)) ⟨m,hn⟩ (I3.fpOk (Yah _) fr) q
 have hn:∀b∈fp,upd H s.heap.objs.size (.lst []) b=none:=λb hb=>(hf3 b hb).1;have lp:=jhV (pins:=[]) (s:={ s3 with heap:=h₁ }) (acc:=.ref s.heap.objs.size) (ifs:=ifs) (em:=em s.heap.objs.size Y.env) yc yxe (hct (.ref it) s.heap.objs.size Y.env) yg yi ye IY (by rw[yprog,yw,yK];exact T) st1 (stat hn) (hW _ hD)
 rw[yprog,yw,yA,yenv]at lp;have lp:=YdE lp (R':=RR (.ref s.heap.objs.size) s3.heap.objs.size) λr s' ⟨hr,τ',ys',H',I',q'⟩=>by subst hr;exact fin I' q'
 show codeAny (model X.prog X.w) X.A (.compStart (.ListComp elt (⟨tg,iter,ifs,0⟩::rest) scope pos) 0 (.ref it) (.ref s.heap.objs.size) (compEnvC scope cs s3.heap.objs.size X.env)) (RR (.ref s.heap.objs.size) s3.heap.objs.size) _;exact codeAny_compStart_list lp (T.self _ 0 _ _ _ st1 lp)

def jfY       it D env:YdL (.ListComp elt [⟨tg,iter,ifs,0⟩,⟨t2,i2,f2,0⟩] scope pos) 0 it (.ref D) env=jbQ iter.pos tg ifs it env (eval i2 env >>= λx=>standAt i2.pos >>= λ_=>Yay i2 env x >>= λx=>holding [x] (pyIter x) >>= λi=>runOwn (.compStart (.ListComp elt [⟨tg,iter,ifs,0⟩,⟨t2,i2,f2,0⟩] scope pos) 1 i (.ref D) env) env >>= λ_=>pure ()) (.compLoop (.ListComp elt [⟨tg,iter,ifs,0⟩,⟨t2,i2,f2,0⟩] scope pos) 0 it (.ref D) env):=by
 unfold YdL jbQ jea;simp only[bind_assoc];rfl
section
variable {tg iter elt:Expr}{ifs:List Expr}
def jjU {pos:Pos}{wi:TI}{g:TG}{tt:TT}{rest:List Ydl}{tem:Addr->TEm}{em:Addr->Env->Sem Unit}(hc:X.calm=true)(S:CScope X N pick scope)(hw:PI X tg iter wi)
  (hg:∀cl C s₀ H₀ fp,PG (jad X N scope cl C s₀ H₀ fp) tg g) (hi:∀cl C s₀ H₀ fp,PIfs (jad X N scope cl C s₀ H₀ fp) ifs tt) (he:∀D cl C s₀ H₀ fp,PEm (jad X N scope cl C s₀ H₀ fp) (em D (jad X N scope cl C s₀ H₀ fp).env) (tem D))
  (hct:∀(it:Value) (D:Addr) (env:Env),YdL (.ListComp elt (⟨tg,iter,ifs,0⟩::rest) scope pos) 0 it (.ref D) env=jbQ iter.pos tg ifs it env (em D env) (.compLoop (.ListComp elt (⟨tg,iter,ifs,0⟩::rest) scope pos) 0 it (.ref D) env))
  (hs:∀x,Yay iter X.env x=pure x:=by intro _;rfl):PE X (.ListComp elt (⟨tg,iter,ifs,0⟩::rest) scope pos) (tLcG pick wi g tt tem):=by
 intro pins s σ H Q I h;obtain⟨cl,hclos,c1,c2⟩:=jdZ (scope:=scope) (env:=X.env) λy hy hf=>I.ok.has _ (S.fre y hy hf).2;rw[eval_ListComp];refine Yfu (use:=none) rfl hs hclos S.kind S.names (thn (hw pins s σ H _ I h) λv s1 h1=>thn h1 λitv s2 h2=>?_);obtain⟨it,fp,tn,J,H2,e,I2,T,st2,f2,hW⟩:=h2;subst e;refine jgl (RR:=λacc C=>compPost (model X.prog X.w) X.A X.xe none (EP X pins σ Q) acc C) hc S c1 c2 hg hi he hct I2 T st2 f2 hW λD C H' s' J' ⟨m,hn⟩ fC q=>?_;refine⟨m,hn,λh' hs'=>⟨.ref D,H',?_,rfl,q⟩⟩;exact J'.turned (t':=s'.toks) (it:=C) (λb o hb e=>hs'.extBut b o hb e) fC.1 fC.2.1 fC.2.2.2.1 fC.2.2.2.2.1 fC.2.2.2.2.2

def jjQ {pos py spos:Pos}{wi:TI}{g:TG}{tt:TT}{rest:List Ydl}{tem:Addr->TEm}{em:Addr->Env->Sem Unit}{i:Nat}{y:Str}(hN:X.N.Nodup)(hi':X.N[i]?=some y)(hy:X.env.scope.names.lookup y=some .local)(hc:X.calm=true)(S:CScope X N pick scope)(hw:PI X tg iter wi)
  (hg:∀cl C s₀ H₀ fp,PG (jad X N scope cl C s₀ H₀ fp) tg g) (hi:∀cl C s₀ H₀ fp,PIfs (jad X N scope cl C s₀ H₀ fp) ifs tt) (he:∀D cl C s₀ H₀ fp,PEm (jad X N scope cl C s₀ H₀ fp) (em D (jad X N scope cl C s₀ H₀ fp).env) (tem D))
  (hct:∀(it:Value) (D:Addr) (env:Env),YdL (.ListComp elt (⟨tg,iter,ifs,0⟩::rest) scope pos) 0 it (.ref D) env=jbQ iter.pos tg ifs it env (em D env) (.compLoop (.ListComp elt (⟨tg,iter,ifs,0⟩::rest) scope pos) 0 it (.ref D) env))
  (hsw:YbU (.ListComp elt (⟨tg,iter,ifs,0⟩::rest) scope pos) (some (.Name y py)) spos.line X.env=pure true) (hs:∀x,Yay iter X.env x=pure x:=by intro _;rfl) :
  PS X (.Assign [.Name y py] (.ListComp elt (⟨tg,iter,ifs,0⟩::rest) scope pos) spos) (tAsg (tLcG pick wi g tt tem) (jg3 i)):=by
 intro pins s σ H D0 I h;obtain⟨cl,hclos,c1,c2⟩:=jdZ (scope:=scope) (env:=X.env) λy hy hf=>I.ok.has _ (S.fre y hy hf).2;rw[exec_Assign_Name_used _ _ _ _ hsw];refine Yae (Ybn (Yae ?_));show wpAny _ _ (do let _ <- comprehension (.ListComp elt (⟨tg,iter,ifs,0⟩::rest) scope pos) scope X.env _ (newList []) false (eval iter X.env) (some (assign (.Name y py) X.env))) _ _ s
 refine Yae (thn (Yfu (use:=some (assign (.Name y py) X.env)) (Q:=λ_ s'=>SP X pins D0 .next s') rfl hs hclos S.kind S.names
  (thn (hw pins s σ H _ I h) λv s1 h1=>thn h1 λitv s2 h2=>?_)) λ_ s' hq=>Yap (Yap hq))
 obtain⟨it,fp,tn,J,H2,e,I2,T,st2,f2,hW⟩:=h2;subst e;refine jgl (Q:=λx H1=>jg3 i x σ H1 D0.nx) (RR:=λacc C=>compPost (model X.prog X.w) X.A X.xe (some (assign (.Name y py) X.env)) (λ_ s'=>SP X pins D0 .next s') acc C) hc S c1 c2 hg hi he hct I2 T st2 f2 hW λD C H' s' J' ⟨m,hn⟩ fC q=>?_
 show wpAny _ _ (assign (.Name y py) X.env (.ref D)) _ _ _;refine wpAny_assign_Name (jeC (v:=.ref D) J' hN hi' (.inl hy) rfl (λs'' J'' ⟨a,sb,ha⟩=>?_) (.inr hy));have hne:C≠a:=by
  rcases ha with z|z
  ·rw[z];exact fC.2.1
  ·exact λe=>fC.2.2.2.2.1 y a z e.symm
 refine⟨m,hn.sameBut sb hne,λh' hs'=>?_⟩;refine⟨_,H',J''.turned (t':=s''.toks) (it:=C) (λb o hb e=>hs'.extBut b o hb e) fC.1 fC.2.1 fC.2.2.2.1 fC.2.2.2.2.1 fC.2.2.2.2.2,q⟩
def jpp {pos:Pos}{wi:TI}{g:TG}{tt:TT}{te:TE}(hc:X.calm=true)(S:CScope X N pick scope)(hw:PI X tg iter wi)
  (hg:∀cl C s₀ H₀ fp,PG (jad X N scope cl C s₀ H₀ fp) tg g) (hi:∀cl C s₀ H₀ fp,PIfs (jad X N scope cl C s₀ H₀ fp) ifs tt) (he:∀cl C s₀ H₀ fp,PE (jad X N scope cl C s₀ H₀ fp) elt te)
  (hs:∀x,Yay iter X.env x=pure x:=by intro _;rfl):PE X (.ListComp elt [⟨tg,iter,ifs,0⟩] scope pos) (tLc pick wi g tt te):=
 jjU (em:=λD env=>do let _ <- call (.builtin "list.append") [.ref D,<- eval elt env]) (rest:=[]) hc S hw hg hi (λD cl C s₀ H₀ fp=>jif rfl (he cl C s₀ H₀ fp)) (λ_ _ _=>rfl) hs
def jmP {pos:Pos}{wi:TI}{g:TG}{tt:TT}{te:TE}{t2 i2:Expr}{f2:List Expr}{wi2:TI}{g2:TG}{tt2:TT}(hc:X.calm=true)(S:CScope X N pick scope)(hw:PI X tg iter wi)
  (hg:∀cl C s₀ H₀ fp,PG (jad X N scope cl C s₀ H₀ fp) tg g) (hi:∀cl C s₀ H₀ fp,PIfs (jad X N scope cl C s₀ H₀ fp) ifs tt) (he:∀cl C s₀ H₀ fp,PE (jad X N scope cl C s₀ H₀ fp) elt te)
  (hw2:∀cl C s₀ H₀ fp,PI (jad X N scope cl C s₀ H₀ fp) t2 i2 wi2) (hg2:∀cl C s₀ H₀ fp,PG (jad X N scope cl C s₀ H₀ fp) t2 g2) (hi2:∀cl C s₀ H₀ fp,PIfs (jad X N scope cl C s₀ H₀ fp) f2 tt2) (hs2:∀(env:Env) x,Yay i2 env x=pure x)
  (hs:∀x,Yay iter X.env x=pure x:=by intro _;rfl):PE X (.ListComp elt [⟨tg,iter,ifs,0⟩,⟨t2,i2,f2,0⟩] scope pos) (tLc2 pick wi g tt wi2 g2 tt2 te):=
 jjU (em:=(λD env=>do
   let x <- eval i2 env
   standAt i2.pos
   let x <- Yay i2 env x
   let _ <- runOwn (.compStart (.ListComp elt [⟨tg,iter,ifs,0⟩,⟨t2,i2,f2,0⟩] scope pos) 1 (<- holding [x] (pyIter x)) (.ref D) env) env)) (rest:=[⟨t2,i2,f2,0⟩]) hc S hw hg hi (λD cl C s₀ H₀ fp=>jkh hc rfl (hw2 cl C s₀ H₀ fp) (hg2 cl C s₀ H₀ fp) (hi2 cl C s₀ H₀ fp) (he cl C s₀ H₀ fp) (hs2 _)) jfY hs
def jpj {pos:Pos}{wi:TI}{g:TG}{tt:TT}{te:TE}{py spos:Pos}{i:Nat}{y:Str}(hN:X.N.Nodup)(hi':X.N[i]?=some y)(hy:X.env.scope.names.lookup y=some .local)(hc:X.calm=true)(S:CScope X N pick scope)(hw:PI X tg iter wi)
  (hg:∀cl C s₀ H₀ fp,PG (jad X N scope cl C s₀ H₀ fp) tg g) (hi:∀cl C s₀ H₀ fp,PIfs (jad X N scope cl C s₀ H₀ fp) ifs tt) (he:∀cl C s₀ H₀ fp,PE (jad X N scope cl C s₀ H₀ fp) elt te)
  (hsw:YbU (.ListComp elt [⟨tg,iter,ifs,0⟩] scope pos) (some (.Name y py)) spos.line X.env=pure true) (hs:∀x,Yay iter X.env x=pure x:=by intro _;rfl):PS X (.Assign [.Name y py] (.ListComp elt [⟨tg,iter,ifs,0⟩] scope pos) spos) (tAsg (tLc pick wi g tt te) (jg3 i)):=
 jjQ (em:=λD env=>do let _ <- call (.builtin "list.append") [.ref D,<- eval elt env]) (rest:=[]) hN hi' hy hc S hw hg hi (λD cl C s₀ H₀ fp=>jif rfl (he cl C s₀ H₀ fp)) (λ_ _ _=>rfl) hsw hs
def jmD {pos:Pos}{wi:TI}{g:TG}{tt:TT}{te:TE}{t2 i2:Expr}{f2:List Expr}{wi2:TI}{g2:TG}{tt2:TT}{py spos:Pos}{i:Nat}{y:Str}(hN:X.N.Nodup)(hi':X.N[i]?=some y)(hy:X.env.scope.names.lookup y=some .local)(hc:X.calm=true)(S:CScope X N pick scope)(hw:PI X tg iter wi)
  (hg:∀cl C s₀ H₀ fp,PG (jad X N scope cl C s₀ H₀ fp) tg g) (hi:∀cl C s₀ H₀ fp,PIfs (jad X N scope cl C s₀ H₀ fp) ifs tt) (he:∀cl C s₀ H₀ fp,PE (jad X N scope cl C s₀ H₀ fp) elt te)
  (hw2:∀cl C s₀ H₀ fp,PI (jad X N scope cl C s₀ H₀ fp) t2 i2 wi2) (hg2:∀cl C s₀ H₀ fp,PG (jad X N scope cl C s₀ H₀ fp) t2 g2) (hi2:∀cl C s₀ H₀ fp,PIfs (jad X N scope cl C s₀ H₀ fp) f2 tt2) (hs2:∀(env:Env) x,Yay i2 env x=pure x)
  (hsw:YbU (.ListComp elt [⟨tg,iter,ifs,0⟩,⟨t2,i2,f2,0⟩] scope pos) (some (.Name y py)) spos.line X.env=pure true) (hs:∀x,Yay iter X.env x=pure x:=by intro _;rfl):PS X (.Assign [.Name y py] (.ListComp elt [⟨tg,iter,ifs,0⟩,⟨t2,i2,f2,0⟩] scope pos) spos) (tAsg (tLc2 pick wi g tt wi2 g2 tt2 te) (jg3 i)):=
 jjQ (em:=(λD env=>do
   let x <- eval i2 env
   standAt i2.pos
   let x <- Yay i2 env x
   let _ <- runOwn (.compStart (.ListComp elt [⟨tg,iter,ifs,0⟩,⟨t2,i2,f2,0⟩] scope pos) 1 (<- holding [x] (pyIter x)) (.ref D) env) env)) (rest:=[⟨t2,i2,f2,0⟩]) hN hi' hy hc S hw hg hi (λD cl C s₀ H₀ fp=>jkh hc rfl (hw2 cl C s₀ H₀ fp) (hg2 cl C s₀ H₀ fp) (hi2 cl C s₀ H₀ fp) (he cl C s₀ H₀ fp) (hs2 _)) jfY hsw hs
end
end

mutual
inductive DV (K:Yac)(H:Hp):V->PyData->Prop
 |non:DV K H .non .none
 |bl (b:Bool):DV K H (.bl b) (.bool b)
 |int (i:Int):DV K H (.int i) (.int i)
 |str (x:Str):DV K H (.str x) (.str x)
 |tup {a:Addr} {xs:List V} {ds:List PyData}:SqT K H a xs->DVs K H xs ds->DV K H (.ref a) (.tuple ds)
 |lst {a:Addr} {xs:List V} {ds:List PyData}:Rd H a (.lst xs)->DVs K H xs ds->DV K H (.ref a) (.list ds)
 |dic {a:Addr}:H a=some (.dK [])->DV K H (.ref a) (.dict [])
inductive DVs (K:Yac)(H:Hp):List V->List PyData->Prop
 |nil:DVs K H [] []
 |cons {x:V} {d:PyData} {xs:List V} {ds:List PyData}:DV K H x d->DVs K H xs ds->DVs K H (x::xs) (d::ds)
end

mutual
noncomputable def noL:PyData->Bool
 |.list _=>false
 |.tuple xs=>noLs xs
 |.dict _=>false
 |.none|.bool _|.int _|.str _=>true
noncomputable def noLs:List PyData->Bool
 |[]=>true
 |x::r=>noL x&&noLs r
end

def TK  (H H':Hp):Prop:=∀b xs,H b=some (.tup xs)->H' b=some (.tup xs)

def Inv.noSys    {σ:St}(I:Inv X pins σ H s)(h:s.heap.get? a=some o)(c:o.cls=.type "list"):Ya9≠a:=λe=>by
 obtain⟨o',l,c'⟩:=I.mod.sys;have:=I.kIn _ _ l;rw[e,h]at this;cases this;rw[c]at c';exact absurd c' (by decide)
mutual
theorem DV.reads2 {X:Cx}{pins:List (Addr×Obj)}{σ:St}{H:Hp}{s:Shared}(I:Inv X pins σ H s):∀{x:V} {d:PyData} {u:Value},DV X.K H x d->RelV x u->∃as,Reads s.heap u d as/\Ya9∉as
 |_,_,_,.non,r=>by cases r;exact⟨_,.none,by simp⟩
 |_,_,_,.bl b,r=>by cases r;exact⟨_,.bool b,by simp⟩
 |_,_,_,.int i,r=>by obtain⟨t,rfl⟩:=r;exact⟨_,.int i t,by simp⟩
 |_,_,_,.str x,r=>by obtain⟨t,rfl⟩:=r;exact⟨_,.str x t,by simp⟩
 |_,_,_,.tup e h,r=>by
  cases r
  obtain⟨its,rv,⟨o,ho,hc,n,hd⟩,_⟩:=I.tuple e
  obtain⟨as,q,z⟩:=DVs.reads2 I h rv
  exact⟨_,.tuple ho hc hd q,z⟩
 |_,_,_,@DV.lst _ _ a _ _ e h,r=>by
  cases r
  obtain⟨its,rv,⟨o,n,ho,hc,_,hd⟩,_⟩:=I.list (.inl e)
  obtain⟨as,q,z⟩:=DVs.reads2 I h rv
  refine⟨_,.list ho hc hd q,λhm=>?_⟩
  rcases Yau.mp hm with hm|hm
  ·exact I.noSys ho hc hm
  ·exact z hm
 |_,_,_,@DV.dic _ _ a e,r=>by
  cases r
  obtain⟨_,hS,vs,kv,o,es,ep,ho,hx,hd,_,hp,_⟩:([]:List (Key×V)).length<=Yai/\(a==Ya9)=false/\∃vs,KV [] vs/\s.heap.DictOf (jay X.prog X.w) a vs:=I.hok a _ e
  have e0:es.toList=[]:=by
   cases kv
   revert hp
   cases es.toList with
   |nil=>exact λ_=>rfl
   |cons x r=>exact λhp=>(nomatch hp)
  refine⟨_,.dict (kvs:=[]) (as:=[]) (bs:=[]) ho hx.1 hd (by rw[e0];exact .nil) (by rw[e0];exact .nil),λhm=>?_⟩
  have:Ya9=a:=by simpa using hm
  rw[<- this]at hS
  exact absurd hS (by simp)
theorem DVs.reads2 {X:Cx}{pins:List (Addr×Obj)}{σ:St}{H:Hp}{s:Shared}(I:Inv X pins σ H s):∀{xs:List V} {ds:List PyData} {us:List Value},DVs X.K H xs ds->Vals xs us->∃as,ReadsAll s.heap us ds as/\Ya9∉as
 |_,_,_,.nil,r=>by cases r;exact⟨_,.nil,by simp⟩
 |_,_,_,.cons a b,r=>by
  cases r with
  |cons r rr=>
   obtain⟨as,q,z⟩:=DV.reads2 I a r
   obtain⟨bs,q',z'⟩:=DVs.reads2 I b rr
   exact⟨_,.cons q q',by rw[List.mem_append,not_or];exact⟨z,z'⟩⟩
end
def DV.reads {X:Cx}{pins:List (Addr×Obj)}{σ:St}{H:Hp}{s:Shared}(I:Inv X pins σ H s){x:V}{d:PyData}{u:Value}(h:DV X.K H x d)(r:RelV x u):∃as,Reads s.heap u d as:=let ⟨as,q,_⟩:=DV.reads2 I h r;⟨as,q⟩
def DVs.reads    {σ:St}(I:Inv X pins σ H s)(h:DVs X.K H xs ds)(r:Vals xs us):∃as,ReadsAll s.heap us ds as:=let ⟨as,q,_⟩:=DVs.reads2 I h r;⟨as,q⟩

structure Fits (n k:Nat)(d:PyData):Prop where
 sh:d.showable=true
 ln:d.shown.length<=n
 dp:d.depth<=k
def Fits.mono    (h:Fits n k d)(h1:n<=n')(h2:k<=k'):Fits n' k' d:=⟨h.sh,Yag h.ln h1,Yag h.dp h2⟩
def Fits.non  : Fits 4 0 .none:=⟨rfl,by decide +kernel,Yah _⟩
def Fits.bl   b:Fits 5 0 (.bool b):=⟨rfl,by cases b<;>decide +kernel,Yah _⟩
def Fits.str    (h:x.length<=m)(hc:∀c∈x.cps.toList,c<16 ^ 8):Fits (10*m+2) 0 (.str x):=by
 refine⟨rfl,?_,Yah _⟩;simp only[Ycl];exact Yag (StrLaws.reprText_len x hc) (by lia)
def jge    (h:∀t∈ts,t.length<=n):piled ts<=ts.length*(n+2):=by
 induction ts with
 |nil=>simp[piled]
 |cons t r ih=>
  have h1:=h t Yat;have h2:=ih λq hq=>h q (Yal _ hq);rw[piled_cons,YaT,Nat.add_mul]
  lia
theorem jbn  : ∀{ds } {t },t∈YbT ds->∃d∈ds,t=d.shown
 |[],_,h=>by simp[YbT]at h
 |d::r,t,h=>by
  simp only[YbT,Yau]at h;rcases h with h|h
  ·exact⟨d,Yat,h⟩
  ·obtain⟨e,he,q⟩:=jbn h;exact⟨e,Yal _ he,q⟩
theorem jaU  : ∀ds ,(YbT ds).length=ds.length
 |[]=>rfl
 |_::r=>by simp[YbT,jaU r]
def jln   ts:(YbS ", " ts).length<=piled ts:=by
 rcases Classical.em (ts=[])with rfl|hz
 ·exact YaP _
 ·exact Nat.le_of_add_right_le (Yd9 (join_length_add ts hz))
def jey    (h:∀t∈ts,t.length<=n):(tupleText ts).length<=ts.length*(n+2)+3:=by
 have hp:=Yag (jln ts) (jge h);have two:∀b:Bool,((((if b=true then ",)" else ")"):String):Str)).length<=2:=by decide
 have z:=two (ts.length==1);have one:(("(" : String):Str).length=1:=rfl
 simp only[tupleText,YfI]at z ⊢
 lia
theorem jcV  : ∀ts k (acc:Str),(textFrom k acc ts).length<=acc.length+piled ts
 |[],_,_=>Yah _
 |t::r,k,acc=>by
  have two:(((if k>0 then ", " else "" : String):Str)).length<=2:=by split<;>decide
  have ih:=jcV r (k+1) (acc++(if k>0 then ", " else "" : String)++t)
  simp only[YfI]at ih;rw[piled_cons];exact Yag ih (by lia)
def jfu    (h:∀t∈ts,t.length<=n):(listText ts).length<=ts.length*(n+2)+3:=by
 have hp:=Yag (jcV ts 0 "[") (YdJ (jge h) _)
 have one:(("[" : String):Str).length=1/\(("]" : String):Str).length=1:=⟨rfl,rfl⟩;simp only[listText,YfI]
 lia
theorem ja5  : ∀{ds },(∀d∈ds,d.showable=true)->Yfp ds=true
 |[],_=>rfl
 |d::r,h=>by simp[Yfp,h d Yat,ja5 λq hq=>h q (Yal _ hq)]
theorem jbV  : ∀{ds } {k },(∀d∈ds,d.depth<=k)->YaI ds<=k
 |[],_,_=>YaP _
 |d::r,k,h=>by
  simp only[YaI];exact Nat.max_le.mpr ⟨h d Yat,jbV λq hq=>h q (Yal _ hq)⟩
def Fits.tup    (h:∀d∈ds,Fits n k d):Fits (ds.length*(n+2)+3) (k+1) (.tuple ds):=by
 refine⟨?_,?_,?_⟩
 ·simp only[Yc4];exact ja5 λd hd=>(h d hd).sh
 ·simp only[Ycl];have:=jey (ts:=YbT ds) (n:=n) λt ht=>by obtain⟨d,hd,e⟩:=jbn ht;rw[e];exact(h d hd).ln
  rw[jaU]at this;exact this
 ·simp only[PyData.depth];exact Ycm (jbV λd hd=>(h d hd).dp)
def Fits.lst    (h:∀d∈ds,Fits n k d):Fits (ds.length*(n+2)+3) (k+1) (.list ds):=by
 refine⟨?_,?_,?_⟩
 ·simp only[Yc4];exact ja5 λd hd=>(h d hd).sh
 ·simp only[Ycl];have:=jfu (ts:=YbT ds) (n:=n) λt ht=>by obtain⟨d,hd,e⟩:=jbn ht;rw[e];exact(h d hd).ln
  rw[jaU]at this;exact this
 ·simp only[PyData.depth];exact Ycm (jbV λd hd=>(h d hd).dp)
def Fits.tupLe    (hl:ds.length<=m)(h:∀d∈ds,Fits n k d)(hN:m*(n+2)+3<=N):Fits N (k+1) (.tuple ds):=
 (Fits.tup h).mono (Yag (YfA (Ydr _ hl) _) hN) (Yah _)
def Fits.lstLe    (hl:ds.length<=m)(h:∀d∈ds,Fits n k d)(hN:m*(n+2)+3<=N):Fits N (k+1) (.list ds):=
 (Fits.lst h).mono (Yag (YfA (Ydr _ hl) _) hN) (Yah _)

def jpd  (K:Yac):List V->Hp->VK->Prop:=λxs H Q=>∃x d,xs=[x]/\DV K H x d/\Fits 16000000 60 d/\Q (.str d.shown) H
def jg7    (hr:Room k X.A):jaX X (.builtin "repr") (jpd X.K):=by
 intro pins s σ H xs us Q I r h;obtain⟨x,d,rfl,dv,ft,q⟩:=h;obtain⟨u,rfl,ru⟩:=jcQ r;have hu:=hr.un;have done:∀(h':Heap) (u':Tok) (tk:Nat),(∀b o,s.heap.get? b=some o->h'.get? b=some o)->EP X pins σ Q (.str d.shown u') { s with heap:=h',toks:=tk }:=λh' u' tk hk=>
  ⟨.str d.shown,H,I.kept (t':=tk) hk,⟨u',rfl⟩,q⟩
 have hz:d.shown.length<=Yai:=Yag ft.ln (by decide)
 cases dv with
 |non=>cases ru;exact P.repr_of_none (done _ _ _ λ_ _ e=>e)
 |bl b=>cases ru;exact P.repr_of_bool (by have:=done s.heap s.toks (s.toks+1) λ_ _ e=>e;simp only[Ycl]at this;exact this)
 |int i=>
  obtain⟨t,rfl⟩:=ru;refine P.repr_of_int (by simpa[Yc4]using ft.sh) ?_
  have:=done s.heap s.toks (s.toks+1) λ_ _ e=>e;simp only[Ycl]at this;exact this
 |str x=>
  obtain⟨t,rfl⟩:=ru;simp only[Ycl]at hz;refine P.repr_of_str ?_ hz;have:=done s.heap s.toks (s.toks+1) λ_ _ e=>e;simp only[Ycl]at this;exact this
 |@tup a xs ds e hd=>
  obtain⟨as,rd,hsy⟩:=DV.reads2 I (DV.tup e hd) ru;cases ru;exact Yfh rd ft.sh (λ_=>hsy) hr.gd (by have:=ft.dp;lia) (λ_ _ e=>e) (λh' u' tk hk=>done h' u' tk hk) hz
 |@lst a xs ds e hd=>
  obtain⟨as,rd,hsy⟩:=DV.reads2 I (DV.lst e hd) ru;cases ru;exact Yfh rd ft.sh (λ_=>hsy) hr.gd (by have:=ft.dp;lia) (λ_ _ e=>e) (λh' u' tk hk=>done h' u' tk hk) hz
 |@dic a e=>
  obtain⟨as,rd,hsy⟩:=DV.reads2 I (DV.dic e) ru;cases ru;exact Yfh rd ft.sh (λ_=>hsy) hr.gd (by have:=ft.dp;lia) (λ_ _ e=>e) (λh' u' tk hk=>done h' u' tk hk) hz

def Sm  (f:Addr)(H H':Hp):Prop:=∀b o,b≠f->H b=some o->H' b=some o
def LcW  (n k:Nat)(caps:St)(Pv:Nat->List V->Hp->Prop):Nat->Nat->St->List V->Hp->Prop:=λi m τ ys H=>m=n-i/\i<=n/\(∃os:St,os.length=k/\τ=os++caps)/\Pv i ys H
def LcN  (D:Addr)(n k:Nat)(caps:St)(Pv:Nat->List V->Hp->Prop)(i:Nat)(ys:List V)(τ:St)(v:V)(H:Hp):Prop:=
 H D=some (.lst ys)/\ys.length<Yai/\∃m',m'<n-i/\LcW n k caps Pv (i+1) m' τ (ys++[v]) (upd H D (.lst (ys++[v])))
def LcS  (n k:Nat)(caps:St)(Pv:Nat->List V->Hp->Prop)(i:Nat)(ys:List V)(τ:St)(H:Hp):Prop:=∃m',m'<n-i/\LcW n k caps Pv (i+1) m' τ ys H







end L2
namespace HT
open PySem PySem.Spec PyProof.Rows

def getItem_tuple_all     {lo hi:Option Int}(ht:IsTup s.heap t items)(hs:s.heap.IsSliceOf sl vl vu .none)(pl:IsPart vl lo)(pu:IsPart vu hi)
  (hw:sIx items.size 0 lo=0/\sIx items.size items.size hi=items.size) (h:Q (.ref t) s):wpAny (model prog w) A (getItem (.ref t) (.ref sl)) Q E s:=by
 obtain⟨os,hos,hcs,hds⟩:=id hs;have hTs:s.TypeIs (.ref sl) "slice" := ⟨os,hos,hcs⟩;unfold getItem
 try with_reducible refine Ybo ?_
 first|refine Yae (Yap ?_)|skip
 refine Yae (wpAny_sequenceKey ht.typeIs (by decide) ?_)
 refine Yae (Ydd (name:=Yco "__getitem__") ht.typeIs Ybw
  (YeD Ybw ht.typeIs entry_tuple_getitem ?_ (args_tuple_getitem _ _)))
 show wpAny _ _ (YdA (.ref t) >>= _) _ _ s;refine Yae (tupleItemsOf_ ht ?_);refine Yae (Yex hTs ?_);rw[if_pos (by decide)]
 refine Yae (jbl hs pl pu ?_);have hyes:((((sIx items.size 0 lo:Nat):Int)==0&&(1:Int)==1&&(sIx items.size items.size hi-sIx items.size 0 lo)==items.size)=true):=by
  rw[hw.1,hw.2];simp
 show wpAny _ _ (if (((sIx items.size 0 lo:Nat):Int)==0&&(1:Int)==1&&(sIx items.size items.size hi-sIx items.size 0 lo)==items.size)=true then _ else _) _ _ s
 rw[if_pos hyes];refine Yae (m:=YdB (.ref t)) ?_;unfold YdB;refine Yae (Yex ht.typeIs (Yap ?_));rw[if_pos (by decide)]
 exact Yae (Yeq (Yap ⟨_,rfl,Yap h⟩))
end HT
namespace L2
open PySem PySem.Spec PyProof.Rows

def rSlW  (K:Yac):V->Option Int->Option Int->Hp->VK->Prop:=λx lo hi H Q=>∃a xs,x=.ref a/\SqT K H a xs/\
 (HT.sIx xs.length 0 lo=0/\HT.sIx xs.length xs.length hi=xs.length)/\Q (.ref a) H
def jkz  : SlR X (rSlW X.K):=by
 intro pins s σ H x v vl vu lo hi sl Q I rx hs pl pu h;obtain⟨a,xs,rfl,hx,hw,q⟩:=h;cases rx;obtain⟨its,r,ht,hz⟩:=I.tuple hx;have hlen:its.toArray.size=xs.length:=by rw[Yak];exact r.length.symm
 refine⟨"tuple",_,Ybw.lookup,ht.typeIs,?_⟩;exact HT.getItem_tuple_all ht hs pl pu (by rw[hlen];exact hw) ⟨.ref a,H,I,rfl,q⟩
def jkA  : SlR X (λx lo hi H Q=>rSlT X.K x lo hi H Q\/rSlW X.K x lo hi H Q):=SlR.or jmf jkz
theorem jcP  : ∀(xs:List V) (us:List Value),xs.length=us.length->(∀(i:Nat) x u ,xs[i]?=some x->us[i]?=some u->RelV x u)->Vals xs us
 |[],[],_,_=>.nil
 |x::xs,u::us,h,g=>.cons (g 0 x u rfl rfl) (jcP xs us (by simpa using h) λi y z hy hz=>g (i+1) y z (by simpa using hy) (by simpa using hz))
 |[],_::_,h,_=>by simp at h
 |_::_,[],h,_=>by simp at h
def jiJ  (ta:TA):TE:=λσ H Q=>ta σ H λvs H1=>∃j:Int,vs=[.int j]/\0<=j/\j<=1000000/\∀l,H1 l=none->Q (.ref l) (upd H1 l (.lst ((YaC j.toNat).map λk:Nat=>V.int (k:Int))))
section
variable {X:Cx}
def jeI {a:Expr}{ta:TA}{p p2 pos pos2:Pos}(hc:X.calm=true)(hgl:Gl X "list")(hml:X.mg "list" = none)(hgr:Gl X "range")(hmr:X.mg "range" = none)(ha:PA X [a] ta)(hs:YaA [a] X.env=[(false,eval a X.env)]:=by rfl)
  (hs2:YaA [.Call (.Name "range" p2) [a] [] pos2] X.env=[(false,eval (.Call (.Name "range" p2) [a] [] pos2) X.env)]:=by rfl):PE X (.Call (.Name "list" p) [.Call (.Name "range" p2) [a] [] pos2] [] pos) (jiJ ta):=by
 intro pins s σ H Q I h;refine Yb6 (jde I hgl hml boot_list ?_ (by decide) (by decide))
 refine Ybp ?_ hs2 rfl;rw[hs2];refine YfE (rest:=[]) ?_;refine Call_ (jde I hgr hmr boot_range (Ybp (thn (ha pos2 pins s σ H _ I h) λus s1 ⟨vs,H1,I1,r1,q1⟩=>?_) hs rfl));obtain⟨j,e,h0,h1,q⟩:=q1;subst e;cases r1 with
 |cons r rr=>
  cases rr;obtain⟨t,rfl⟩:=r;refine call_range_1 ?_;refine Yap ?_;have I2:Inv X pins σ H1 { s1 with heap:=s1.heap.push { cls:=.type "range",data:=.fields #[.int 0 s1.toks,.int j t,.int 1 (s1.toks+1)] },toks:=s1.toks+1+1 }:=I1.kept λb o e=>Yaf _ e
  have hn:YdW 0 j 1=(j.toNat:Nat):=by rw[rangeSize_one];split<;>lia
  refine call_list_range (I2.ok.hd hc) (IsRange.new ..) (small_one (by lia) (by lia) (by lia) (by lia)) hn (by lia) λh' tk acc' c' hk hS' hacc=>?_
  have hv:Vals ((YaC j.toNat).map λk:Nat=>V.int (k:Int)) acc'.toList:=jcP _ _ (by simp[hacc.1]) λi x u hx hu=>by
   have hi:i<j.toNat:=by
    have:=(List.getElem?_eq_some_iff.mp hx).1;simpa using this
   rw[Yav,Ydy hi]at hx;obtain⟨tk',e⟩:=hacc.2 i u (by simpa using hu)
   cases hx;exact⟨tk',by rw[e];congr 1;lia⟩
  have hz:((YaC j.toNat).map λk:Nat=>V.int (k:Int)).length<=Yai:=by
   rw[Yaa,Yf3];exact Yag (show j.toNat<=1000000 by lia) (by decide)
  refine⟨.ref _,_,I2.laid (t':=tk) (o:=.lst ((YaC j.toNat).map λk:Nat=>V.int (k:Int))) hk (Yah _) ?_,rfl,q _ (I2.hok.fresh (Yah _))⟩;exact⟨hz,_,c',hv,hS'⟩
end
end L2
namespace HT
open PySem PySem.Spec PyProof.Rows

end HT
namespace L2
open PySem PySem.Spec PyProof.Rows


end L2

namespace L2
open PySem PySem.Spec PyProof.Rows
section
variable {X:Cx}{pos:Pos}
def joY  (i j l:Nat)(ta:TA):TS:=λD σ H=>ta σ H λvs H1=>∃v w z,vs=[v,w,z]/\D.nx (((σ.set l (some z)).set j (some w)).set i (some v)) H1
def jkN {i j l:Nat}{x y z:Str}{a b c:Expr}{ta:TA}{px py pz pt:Pos}{kt k2 pt2}(hc:X.calm=true)(hN:X.N.Nodup)(hi:X.N[i]?=some x)(hj:X.N[j]?=some y)(hl:X.N[l]?=some z)
  (hx:X.env.scope.names.lookup x=some .local) (hy:X.env.scope.names.lookup y=some .local) (hz:X.env.scope.names.lookup z=some .local) (ha:PA X [a,b,c] ta)
  (hw:Ya0 [.Tuple [.Name x px,.Name y py,.Name z pz] kt pt] (.Tuple [a,b,c] k2 pt2) X.env=pure (some [x,y,z]))
  (hs:Ybb [.Tuple [.Name x px,.Name y py,.Name z pz] kt pt] (.Tuple [a,b,c] k2 pt2) pos.line X.env=pure false:=by rfl) :
  PS X (.Assign [.Tuple [.Name x px,.Name y py,.Name z pz] kt pt] (.Tuple [a,b,c] k2 pt2) pos) (joY i j l ta):=by
 intro pins s σ H D I h;rw[exec_Assign_arm];refine Yae (Ybn ?_);rw[hs];refine Yae (Yap ?_);rw[if_neg (by decide)]
 refine Yae (Tuple_ (thn (ha _ pins s σ H _ I h) λus s1 ⟨vs,H1,I1,r1,q1⟩=>?_));obtain⟨v,w,o,e1,q1⟩:=q1;subst e1;obtain⟨u1,u2,u3,rfl,rv,rw',ro⟩:∃u1 u2 u3,us=[u1,u2,u3]/\RelV v u1/\RelV w u2/\RelV o u3:=by
  cases r1 with
  |cons p q=>
   cases q with
   |cons p' q'=>
    cases q' with
    |cons p2 q2=>
     cases q2;exact⟨_,_,_,rfl,p,p',p2⟩
 refine Ybv ?_ (by show 3<=Yai;decide)
 have I2:Inv X pins σ H1 { s1 with heap:=s1.heap.push { cls:=.type "tuple",data:=.seq [u1,u2,u3].toArray } }:=I1.kept (t':=s1.toks) λb o e=>Yaf _ e
 rw[hw];refine Yae (Yap ?_);show wpAny (model X.prog X.w) X.A (do rule "assign.swapped-stores";let items <- unpackItems (.ref s1.heap.objs.size) 3 none;Yde [λv=>YcC X.env z v,λv=>YcC X.env y v,λv=>YcC X.env x v] items.reverse;pure Yfd) _ _ _
 refine Yae (Yeq (Yae (unpackItems_tuple (items:=#[u1,u2,u3]) (I.ok.hd hc) (IsTup.new s1.heap _) λh' hx'=>?_)));have I3:=I2.kept (h':=h') (t':=s1.toks) λb o e=>hx' b o (Yaz (Yan e)) e;show wpAny _ _ (Yde [λv=>YcC X.env z v,λv=>YcC X.env y v,λv=>YcC X.env x v] [u3,u2,u1] >>= λ_=>pure Yfd) _ _ _
 refine Yae (Yb7 (Yc2 (jaZ I3 hN hl (.inl hz) ro (λs2 I4=>?_) (.inr hz))));refine Yb7 (Yc2 (jaZ I4 hN hj (.inl hy) rw' (λs3 I5=>?_) (.inr hy)));refine Yb7 (Yc2 (jaZ I5 hN hi (.inl hx) rv (λs4 I6=>Yet (Yap ?_)) (.inr hx)));exact⟨_,H1,I6,q1⟩
def jpi  (K:Yac):R2:=λx y H Q=>∃a b xs ys,x=.ref a/\y=.ref b/\SqT K H a xs/\SqT K H b ys/\xs.length+ys.length<=Yai/\
 (xs=[]->Q (.ref b) H)/\(xs≠[]->ys=[]->Q (.ref a) H)/\(xs≠[]->ys≠[]->∀p,H p=none->Q (.ref p) (upd H p (.tup (xs++ys))))
def jla  : OpR X (Ybh .Add) (jpi X.K):=by
 intro pins s σ H x y v u Q I rx ry h;obtain⟨a,b,xs,ys,rfl,rfl,ha,hb,hz,q0,q1,q2⟩:=h;by_cases hx:xs=[]
 ·cases rx;cases ry;obtain⟨its,r1,p1,_⟩:=I.tuple ha;obtain⟨its2,r2,p2,_⟩:=I.tuple hb;have hv:its=[]:=r1.nil_iff.mpr hx;subst hv;obtain⟨⟨cls,dd,data,sl⟩,ho,hc,n,hd⟩:=id p1;obtain⟨⟨cls2,dd2,data2,sl2⟩,ho2,hc2,n2,hd2⟩:=id p2;simp only at hc hd hc2 hd2;subst hc hd hc2 hd2;exact Ygd ⟨_,ho,rfl⟩ ⟨_,ho2,rfl⟩ YeE YfJ YcW YcR (YcI _ _)
   (tuple_addW0 a b _ its2.toArray n n2 dd dd2 sl sl2 rfl) ⟨ho,ho2,⟨.ref b,H,I,rfl,q0 hx⟩⟩
 ·exact jk9 pins s σ H _ _ _ _ Q I rx ry ⟨a,b,xs,ys,rfl,rfl,ha,hb,hx,hz,q1 hx,q2 hx⟩
def jgR   (hr:Room k X.A):OpR X (YaV .Eq) (λx y H Q=>∃a b xs,x=.ref a/\y=.ref b/\SqT X.K H a xs/\SqT X.K H b []/\Q (.bl xs.isEmpty) H):=by
 intro pins s σ H x y v u Q I rx ry h;obtain⟨a,b,xs,rfl,rfl,ha,hb,q⟩:=h;cases rx;cases ry;obtain⟨its,rv,pa,_⟩:=I.tuple ha;obtain⟨its2,rv2,pb,_⟩:=I.tuple hb;cases rv2;have hu:X.A.units<cLine:=hr.units0;have e:((YaC (min its.toArray.size ([]:List Value).toArray.size)).all (λ_=>true)&&its.toArray.size==([]:List Value).toArray.size)=xs.isEmpty:=by
  cases rv<;>simp
 refine EqBoolInt.of_rc (SeqAt.RcAt.tuples (e:=λ_=>true) (show s.heap.IsTuple a its.toArray from pa) (show s.heap.IsTuple b ([]:List Value).toArray from pb) hu λj _ h2=>?_) ?_
 ·simp at h2
 ·rw[e];exact⟨.bl xs.isEmpty,H,I,rfl,q⟩
end

theorem jcO  : ∀{ys } {us },Vals (ys.map V.str) us->StrsAre us ys
 |[],_,.nil=>.nil
 |y::r,_,.cons ⟨t,e⟩ q=>by subst e;exact .cons y t (jcO q)

def jpg  (K:Yac):V->List V->Hp->VK->Prop:=λx vs H Q=>∃(z:Str) (p:Addr) (ys:List Str),x=.str z/\vs=[.ref p]/\(SqL K H p (ys.map V.str)\/SqT K H p (ys.map V.str))/\z.length<=16/\(ys.map (·.length)).sum+ys.length<=1048576/\Q (.str (YbS z ys)) H
def mt_join  : MtR X "str.join" (jpg X.K):=by
 intro pins s σ H x vs v us Q I rx rv h;obtain⟨z,p,ys,rfl,rfl,hq,h1,h2,q⟩:=h;obtain⟨t,rfl⟩:=rx;obtain⟨u,rfl,ru⟩:=Vals.one rv;cases ru;rcases hq with hq|hq
 ·obtain⟨its,r',pl,hz⟩:=I.list hq;exact join_listW pl.isList (by simpa using jcO r') h1 h2 λt' k=>⟨.str (YbS z ys),H,I.tok k,⟨t',by rw[<- YeG];rfl⟩,q⟩
 ·obtain⟨its,r',pl,hz⟩:=I.tuple hq;exact join_tupleW pl (by simpa using jcO r') h1 h2 λt' k=>⟨.str (YbS z ys),H,I.tok k,⟨t',by rw[<- YeG];rfl⟩,q⟩

def jdw  : ∀ts c ,c∈(YbS "" ts).cps.toList↔∃t∈ts,c∈t.cps.toList:=λts c=>by
 rw[mem_join];constructor
 ·rintro(h|⟨_,h⟩)
  ·exact h
  ·exact absurd h (by show ¬c∈(([]:List Nat));simp)
 ·exact .inl
theorem jbK  : ∀(ts:List Str),(∀t∈ts,t.length=1)->(YbS "" ts).length=ts.length
 |[],_=>rfl
 |[x],h=>h x (by simp)
 |x::y::r,h=>by
  have ih:=jbK (y::r) λt ht=>h t (Yal _ ht);have h1:=h x (by simp)
  show(x ++ "" ++ YbS "" (y::r)).length=_;have e:(x ++ "" ++ YbS "" (y::r)).length=x.length+(YbS "" (y::r)).length:=by
   show(x.cps++("" : Str).cps++(YbS "" (y::r)).cps).size=_;rw[YfU,YfU];show x.cps.size+0+_=_;rfl
  rw[e,ih,h1,YaT,YaT,YaT]
  lia

def jmw  (K:Yac)(neg:Bool):R2:=λx y H Q=>∃d e,DV K H x d/\DV K H y e/\d.canLay0=true/\e.canLay0=true/\d.depth<=100/\Q (.bl (if neg then !PyData.eqv d e else YaJ d e)) H
def jm3   (hr:Room k X.A):OpR X (YaV .NotEq) (jmw X.K true):=by
 intro pins s σ H x y v u Q I rx ry h;obtain⟨d,e,hd,he,c1,c2,hk,q⟩:=h;obtain⟨as,ra⟩:=hd.reads I rx;obtain⟨bs,rb⟩:=he.reads I ry;exact SeqAt.compareNe_reads ra rb c1 c2 (by have:=hr.un;lia) ⟨.bl _,H,I,rfl,q⟩
def jm7   (hr:Room k X.A):OpR X (YaV .Eq) (jmw X.K false):=by
 intro pins s σ H x y v u Q I rx ry h;obtain⟨d,e,hd,he,c1,c2,hk,q⟩:=h;obtain⟨as,ra⟩:=hd.reads I rx;obtain⟨bs,rb⟩:=he.reads I ry;exact SeqAt.compareEq_reads ra rb c1 c2 (by have:=hr.un;lia) ⟨.bl _,H,I,rfl,q⟩

mutual
noncomputable def noB:PyData->Bool
 |.none=>true
 |.bool _=>false
 |.int _=>true
 |.str _=>true
 |.list ds=>noBs ds
 |.tuple ds=>noBs ds
 |.dict _=>false
noncomputable def noBs:List PyData->Bool
 |[]=>true
 |d::r=>noB d&&noBs r
end
mutual
theorem jke:∀{d e:PyData},noB d=true->noB e=true->YaJ d e=true->d=e
 |.none,.none,_,_,_=>rfl
 |.int i,.int j,_,_,h=>by rw[YaJ]at h;rw[eq_of_beq h]
 |.str i,.str j,_,_,h=>by rw[YaJ]at h;rw[eq_of_beq h]
 |.list xs,.list ys,h1,h2,h=>by rw[YaJ]at h;rw[noB]at h1 h2;rw[jfH h1 h2 h]
 |.tuple xs,.tuple ys,h1,h2,h=>by rw[YaJ]at h;rw[noB]at h1 h2;rw[jfH h1 h2 h]
 |.bool _,_,h,_,_=>by rw[noB]at h;cases h
 |.dict _,_,h,_,_=>by rw[noB]at h;cases h
 |.none,.bool _,_,h,_|.int _,.bool _,_,h,_|.str _,.bool _,_,h,_|.list _,.bool _,_,h,_|.tuple _,.bool _,_,h,_=>by rw[noB]at h;cases h
 |.none,.dict _,_,h,_|.int _,.dict _,_,h,_|.str _,.dict _,_,h,_|.list _,.dict _,_,h,_|.tuple _,.dict _,_,h,_=>by rw[noB]at h;cases h
 |.none,.int _,_,_,h|.none,.str _,_,_,h|.none,.list _,_,_,h|.none,.tuple _,_,_,h=>by rw[YaJ]at h;cases h
 |.int _,.none,_,_,h|.int _,.str _,_,_,h|.int _,.list _,_,_,h|.int _,.tuple _,_,_,h=>by rw[YaJ]at h;cases h
 |.str _,.none,_,_,h|.str _,.int _,_,_,h|.str _,.list _,_,_,h|.str _,.tuple _,_,_,h=>by rw[YaJ]at h;cases h
 |.list _,.none,_,_,h|.list _,.int _,_,_,h|.list _,.str _,_,_,h|.list _,.tuple _,_,_,h=>by rw[YaJ]at h;cases h
 |.tuple _,.none,_,_,h|.tuple _,.int _,_,_,h|.tuple _,.str _,_,_,h|.tuple _,.list _,_,_,h=>by rw[YaJ]at h;cases h
theorem jfH:∀{ds es:List PyData},noBs ds=true->noBs es=true->Yb0 ds es=true->ds=es
 |[],[],_,_,_=>rfl
 |d::r,e::q,h1,h2,h=>by
  rw[noBs,Yao]at h1 h2
  rw[Yb0,Yao]at h
  rw[jke h1.1 h2.1 h.1,jfH h1.2 h2.2 h.2]
 |[],_::_,_,_,h=>by rw[Yb0]at h;cases h
 |_::_,[],_,_,h=>by rw[Yb0]at h;cases h
end


def jdQ  (ds:List PyData):Yb0 ds []=ds.isEmpty:=by
 cases ds<;>rfl
def jcF  : fillsNumberSlot (.type "tuple") "mul" = pure false:=
 PySem.fillsNumberSlot_seq (id := "tuple.__mul__") (r:=some (.builtin "tuple.__rmul__")) Yew.lookup (by decide +kernel) F.slot_tuple_rmul.lookup (by decide +kernel)
def jeF  : seqRepeat? (.type "tuple")=pure (some (.builtin "tuple.__mul__")):=by
 unfold seqRepeat?;rw[YfZ (T := "tuple") (name := "__mul__") (id := "tuple.__mul__") Yew.lookup (by decide +kernel),YfZ (T := "tuple") (name := "__rmul__") (id := "tuple.__rmul__") F.slot_tuple_rmul.lookup (by decide +kernel)]
 rfl
def jdx   a (t:Tok) l items (n:Nat) dd sl :
  Meets (Builtin.«int.__rmul__» ⟨[.int a t,.ref l],[]⟩) (λ_ R s=>s.heap.get? l=some { cls:=.type "tuple",dict:=dd,data:=.seq items n,slots:=sl }/\R (.ok (.ret Value.notImplemented)) s):=
 .of_wp λprog w A R s h=>by obtain⟨hp,g,d,tk,os⟩:=s;obtain⟨hl,h⟩:=h;wp_walk;exact⟨_,rfl,h⟩
def jgL   l (items:Array Value)(n:Nat) dd sl (x:Int)(t:Tok)(hx:2<=x)(hx2:x<2 ^ 62)(h0:items.isEmpty=false)(hsz:items.size*x.toNat<=Yai) :
  Meets (Builtin.«tuple.__mul__» ⟨[.ref l,.int x t],[]⟩)
   (λA R s=>s.heap.get? l=some { cls:=.type "tuple",dict:=dd,data:=.seq items n,slots:=sl }/\R (.ok (.ret (.ref s.heap.objs.size))) { s with heap:=s.heap.push { cls:=.type "tuple",data:=.seq ((Yab x.toNat items).foldl (·++·) #[]) } }):=
 .of_wp λprog w A R s h=>by
  obtain⟨hp,g,d,tk,os⟩:=s;obtain⟨hl,h⟩:=h;have c1:(decide (x < -2 ^ 63)||decide (x ≥ 2 ^ 63))=false:=by simp;lia
  have c2:(items.isEmpty||x==1)=false:=by rw[h0];simp;lia
  have c3:(decide (x<=0)||items.isEmpty)=false:=by rw[h0];simp;lia
  have hz:(items.size:Int)*x=((items.size*x.toNat:Nat):Int):=by rw[Int.natCast_mul,YfQ (by lia)]
  have h63:(Yai:Nat)<=(2 ^ 63-1)/8:=by decide
  wp_walk using wpAny_loadPart' hl
  simp only[c1,YbA,if_false]
  wp_walk using wpAny_loadPart' hl
  simp only[c2,c3,YbA,if_false];rw[if_neg (by rw[hz];lia)]
  have c4:Ydz ((items.size:Int)*x)=false:=by
   rw[hz];unfold Ydz;exact decide_eq_false (by lia)
  simp only[c4,YbA,if_false];have hs:(YdY (λx1 x2=>x1++x2) #[] (Yab x.toNat items)).size<=Yai:=by
   rw[AutoListH.size_joined];simp only[Yak,YcE,YbI];rw[YcK];exact hsz
  revert hs h;generalize YdY (λx1 x2=>x1++x2) #[] (Yab x.toNat items)=G;intro h hs
  wp_walk
  exact⟨_,rfl,h⟩
def jgN   l (items:Array Value)(n:Nat) dd sl t (h0:items.isEmpty=false) :
  Meets (Builtin.«tuple.__mul__» ⟨[.ref l,.int 0 t],[]⟩)
   (λA R s=>s.heap.get? l=some { cls:=.type "tuple",dict:=dd,data:=.seq items n,slots:=sl }/\R (.ok (.ret (.ref s.heap.objs.size))) { s with heap:=s.heap.push { cls:=.type "tuple",data:=.seq #[] } }):=
 .of_wp λprog w A R s h=>by
  obtain⟨hp,g,d,tk,os⟩:=s;obtain⟨hl,h⟩:=h;have c2:(items.isEmpty||(0:Int)==1)=false:=by rw[h0];rfl
  wp_walk using wpAny_loadPart' hl
  exact⟨_,rfl,h⟩
def jgM   l items (n:Nat) dd sl t :
  Meets (Builtin.«tuple.__mul__» ⟨[.ref l,.int 1 t],[]⟩)
   (λA R s=>s.heap.get? l=some { cls:=.type "tuple",dict:=dd,data:=.seq items n,slots:=sl }/\R (.ok (.ret (.ref l))) s):=
 .of_wp λprog w A R s h=>by
  obtain⟨hp,g,d,tk,os⟩:=s;obtain⟨hl,h⟩:=h;have c1:(decide ((1:Int) < -2 ^ 63)||decide ((1:Int) ≥ 2 ^ 63))=false:=by decide
  have c2:(items.isEmpty||(1:Int)==1)=true:=by simp
  wp_walk using wpAny_loadPart' hl
  exact⟨_,rfl,h⟩

def jpe  (K:Yac):R2:=λx y H Q=>∃l k xs,x=.ref l/\y=.int k/\SqT K H l xs/\xs≠[]/\0<=k/\k<2 ^ 62/\xs.length*k.toNat<=Yai/\(k=1->Q (.ref l) H)/\(k≠1->∀p,H p=none->Q (.ref p) (upd H p (.tup (Yab k.toNat xs).flatten)))
def jk6  : OpR X (Ybh .Mult) (jpe X.K):=by
 intro pins s σ H x y v u Q I rx ry h;obtain⟨l,k,xs,rfl,rfl,hH,h0,h1,h2,hz,q1,q2⟩:=h;cases rx;obtain⟨t,rfl⟩:=ry;obtain⟨its,r,pl,_⟩:=I.tuple hH;have hl:=r.length;obtain⟨⟨cls,dd,data,sl⟩,e,hc,n,hd⟩:=id pl;simp only at hc hd;subst hc hd;have hne:its≠[]:=λz=>h0 (r.nil_iff.mp z);refine Yfg (T := "tuple") (U := "int") (by decide) ⟨_,e,rfl⟩ (λs'=>Yes s' k t) jcF F.fills_int_mul Ydt jeF F.slot_int_index.lookup
  (YbY Ydt (Yes s k t) F.entry_int_rmul (F.args_int_rmul_2 _ _) (jdx k t l its.toArray n dd sl) ⟨e,rfl,⟨_,e,rfl⟩,?_⟩)
 by_cases hk:k=1
 ·subst hk;exact YbY Yew ⟨_,e,rfl⟩ Yei (Yd6 _ _) (jgM l its.toArray n dd sl t) ⟨e,⟨.ref l,H,I,rfl,q1 rfl⟩⟩
 ·by_cases hk0:k=0
  ·subst hk0;refine YbY Yew ⟨_,e,rfl⟩ Yei (Yd6 _ _) (jgN l its.toArray n dd sl t (by simpa using hne)) ⟨e,?_⟩
   refine⟨.ref s.heap.objs.size,_,I.laid (t':=s.toks) (o:=.tup []) (λb ob q=>Yaf _ q) (Yah _) ?_,rfl,q2 hk _ (I.hok.fresh (Yah _))⟩;exact⟨YaP _,[],.nil,TupD.new _ _⟩
  refine YbY Yew ⟨_,e,rfl⟩ Yei (Yd6 _ _) (jgL l its.toArray n dd sl k t (by lia) h2 (by simpa using hne) (by rw[Yak,<- hl];exact hz)) ⟨e,?_⟩
  have f0:=jdh its k.toNat [];rw[YbG]at f0;rw[f0];refine⟨.ref s.heap.objs.size,_,I.laid (t':=s.toks) (o:=.tup (Yab k.toNat xs).flatten) (λb ob q=>Yaf _ q) (Yah _) ?_,rfl,q2 hk _ (I.hok.fresh (Yah _))⟩;exact⟨by rw[jek,YcK];exact hz,_,r.rep k.toNat,TupD.new _ _⟩
noncomputable def repS  (x:Str)(k:Nat):Str:=⟨(Yab k x.cps.toList).flatten.toArray⟩
def jpf  : R2:=λx y H Q=>∃z k,x=.str z/\y=.int k/\0<=k/\k<1000/\z.length<=1000/\Q (.str (repS z k.toNat)) H
theorem jgu  (x:Array Nat):∀k (a:List Nat),((Yab k x).foldl (·++·) a.toArray)=(a++(Yab k x.toList).flatten).toArray
 |0,a=>by simp
 |k+1,a=>by
  rw[YaX,Yeo,show a.toArray++x=(a++x.toList).toArray by simp,jgu x k]
  simp[YaX]
def jk7  : OpR X (Ybh .Mult) jpf:=by
 intro pins s σ H x y v u Q I rx ry h;obtain⟨z,k,rfl,rfl,h0,h1,hz,q⟩:=h;obtain⟨t,rfl⟩:=rx;obtain⟨t',rfl⟩:=ry;have hl:z.length*k.toNat<=1000000:=Yag (Ydw hz (show k.toNat<=1000 by lia)) (by decide)
 refine P.mul_str (by simp;lia) (λh2 _=>?_) (λh2 _=>?_) ?_
 ·have:((2:Int) ^ 63-1)/k ≥ 1000:=by
   refine(Yfc (by lia)).mpr ?_
   lia
  lia
 ·exact decide_eq_false (by
   have:(1000000:Nat)<=Yai:=by decide
   lia)
 ·split
  ·have e:repS z k.toNat=Yfk:=by rw[show k.toNat=0 by lia];rfl
   rw[e]at q;exact⟨by decide,.str _,H,I.tok _,⟨_,rfl⟩,q⟩
  ·split
   ·rename_i h2 h3;have e:repS z k.toNat=z:=by
     rw[Yb4,beq_iff_eq,beq_iff_eq]at h3;unfold repS;rcases h3 with h3|h3
     ·subst h3;simp
     ·have:z.cps.toList=[]:=by
       have:z.cps.size=0:=h3;simpa using this
      obtain⟨c⟩:=z;simp only at this ⊢;have hc:c=#[]:=by simpa using this
      subst hc;simp
    rw[e]at q;exact⟨.str _,H,I,⟨_,rfl⟩,q⟩
   ·have e:(Yab k.toNat z.cps).foldl (·++·) #[]=(Yab k.toNat z.cps.toList).flatten.toArray:=by
     have:=jgu z.cps k.toNat [];simpa using this
    refine⟨?_,.str _,H,I.tok _,⟨_,rfl⟩,?_⟩
    ·rw[e];show(Yab k.toNat z.cps.toList).flatten.toArray.size<=Yai;rw[Yak,jek,YcK];exact Yag hl (by decide)
    ·rw[e];exact q
theorem jdz  : ∀{bs:List Bool} {us } {i:Nat} {v },Vals (bs.map V.bl) us->us[i]?=some v->∃b,bs[i]?=some b/\v=.bool b
 |b::r,_,0,v,.cons e q,h=>by
  cases e;exact⟨b,rfl,(Yar h).symm⟩
 |b::r,_,i+1,v,.cons e q,h=>jdz (bs:=r) (i:=i) q (by simpa using h)
 |[],_,i,v,.nil,h=>by simp at h
def jg8    {σ:St}{bs:List Bool}(hc:X.calm=true)(I:Inv X pins σ H s)(hq:SqL X.K H p (bs.map V.bl)) d :
  ∃its fp wr P S,s.heap.IsList p its/\Walks X.prog X.w X.A.in1 s.heap.objs.size fp wr bs.length P S/\S 0 (s.heap.push ⟨.type "list_iterator",none,.fields #[.ref p,.int 0 0],#[]⟩)/\TruthOf X.prog X.w X.A.in1 P (λi=>(bs[i]?).getD d)/\
   ∀h':Heap,(∀b o,b∉wr->(s.heap.push ⟨.type "list_iterator",none,.fields #[.ref p,.int 0 0],#[]⟩).get? b=some o->h'.get? b=some o)->∀b o,s.heap.get? b=some o->h'.get? b=some o:=by
 obtain⟨its,r',pl,-⟩:=I.list hq;have n:its.toArray.size=bs.length:=by simpa using r'.length.symm
 obtain⟨o,ho,-⟩:=id pl.isList;have W:=Walks.list (prog:=X.prog) (w:=X.w) (A:=X.A.in1) (I.ok.hd hc) s.heap.objs.size p (Yaz (Yan ho)) its.toArray;rw[n]at W;refine⟨its.toArray,_,_,_,_,pl.isList,W,⟨⟨_,Yax _ rfl,rfl,rfl⟩,pl.isList.push _⟩,λi v t Q E hP hQ=>?_,λh' hk b o e=>hk b o (λm=>?_) (Yaf _ e)⟩
 ·obtain⟨b,e,rfl⟩:=jdz (i:=i) (v:=v) r' (by simpa using hP)
  exact Ybe (by simpa only[e,Option.getD]using hQ)
 ·exact absurd (Yan e) (by rw[List.mem_singleton.mp m];exact Ya6 _)

end L2

namespace L2
open PySem PySem.Spec PyProof.Rows
open Sem (wp)
open AutoSeq1 (wpAny_loadPart')

def jfZ      (hh:A.handled=none)(hit:s.heap.IsTupleIter it t i)(ht:s.heap.IsTuple t items)
  (more:∀x h',items[i]?=some x->h'.IsTupleIter it t (i+1)->Ycw it s.heap h'->Q x { s with heap:=h' })
  (stop:items[i]?=none->∀h' e,Heap.ExtBut it s.heap h'->(∃o,h'.get? e=some o/\o.cls=.type "StopIteration")->E (.ref e) { s with heap:=h' }) :
  wpAny (model prog w) A (Yf8 (.ref it)) Q E s:=by
 have ty:=hit.typeIs;rcases hit with⟨⟨c,dc,dt,sl⟩,ho,e1,e2⟩;rcases ht with⟨⟨c',dc',dt',sl'⟩,hl,-,n,e4⟩;dsimp only at e1 e2 e4;subst e1 e2 e4;have up:∀f:Array Value->Array Value,Ycw it s.heap (s.heap.update it (YbK f)):=λf=>Ycw.update ..;have got:∀f:Array Value->Array Value,(s.heap.update it (YbK f)).get? it=some ⟨.type "tuple_iterator",dc,.fields (f #[.ref t,.int i 0]),sl⟩:=λf=>Yb2 _ ho rfl;refine Yae (Ydd (name:=Yco "__next__") ty YeT (YeD YeT ty F.entry_tuple_iterator_next ?_ (F.args_tuple_iterator_next_1 _)))
 wp_walk using Yek ho,Yek hl
 rw[Ya7];cases hx:items[i]? with
 |some x=>exact Yae (Yc1 ho rfl (Nat.lt_succ_self 1) (Yap ⟨x,rfl,Yap (more x _ hx ⟨_,got _,rfl,rfl⟩ (up _))⟩))
 |none=>
  refine Yae (Yeq (Yae (Yc1 ho rfl (Nat.zero_lt_succ 1) ?_)));unfold Yf7
  wp_walk
  exact wpAny_raiseNew_none hh (stop hx _ _ (((up _).extBut.push _).push _) ⟨_,Yax _ rfl,rfl⟩)
def je1     (hh:A.handled=none) it t (hne:t≠it)(items:Array Value) :
  Draws prog w A it [it,t] items.size (λi v=>items[i]?=some v) (λi h=>h.IsTupleIter it t i/\h.IsTuple t items):=by
 refine⟨λi h st=>?_,λi h h' st hk=>?_,λi s Q E hi st hQ=>?_,λs Q E st hE=>?_⟩
 ·rcases st.1 with⟨o,ho,-⟩;exact⟨o,ho⟩
 ·rcases st with⟨⟨o,ho,r⟩,⟨u,hu,q⟩⟩;exact⟨⟨o,hk it (by simp) o ho,r⟩,⟨u,hk t (by simp) u hu,q⟩⟩
 ·refine jfZ hh st.1 st.2 (λx h' e hit sb=>hQ x h' s.toks e ⟨hit,st.2.extBut sb.extBut hne⟩ sb) λz=>?_;exact absurd (Array.getElem?_eq_none_iff.mp z) (by lia)
 ·refine jfZ hh st.1 st.2 (λx h' e=>?_) λ_=>hE;exact absurd (Array.getElem?_eq_some_iff.mp e).1 (Ya6 _)
def jiT    {x:α}(h:∀y,Q y s):wpAny M A (pure x) Q E s:=Yap (h x)
def jb4   v ob :
  Meets (Builtin.«enumerate.__new__» ⟨[.type "enumerate",v],[]⟩) (λ_ R s=>(∀prog w A Q E ,Q (.ref s.heap.objs.size) { s with heap:=s.heap.push ob }->wpAny (model prog w) A (pyIter v) Q E s)/\
   R (.ok (.ret (.ref (s.heap.push ob).objs.size))) { s with heap:=(s.heap.push ob).push ⟨.type "enumerate",none,.fields #[.none,.bool false,.ref s.heap.objs.size,rawInt 0,.none,.none],#[]⟩ }):=
 .of_wp λprog w A R s h=>by
  rcases s with⟨hp,g,d,tk,os⟩;rcases h with⟨hi,h⟩;have hsub:=sub_enumerate
  wp_walk
  refine wpAny_stack_any λst=>jiT λb=>?_;cases b<;>(wp_walk using hi prog w;exact⟨_,rfl,h⟩)
def jet  {s: Shared}(hL:s.heap.IsTuple l items)
  (h:∀h',IsEnum h' (s.heap.objs.size+1) s.heap.objs.size 0 .none->h'.IsTupleIter s.heap.objs.size l 0->(∀b o,s.heap.get? b=some o->h'.get? b=some o)->Q (.ref (s.heap.objs.size+1)) { s with heap:=h' }) :
  wpAny (model prog w) A (call (.type "enumerate") [.ref l]) Q E s:=by
 have at2:∀(p:Heap) (n:Nat) (o:Obj),p.objs.size=n->o.isFreed=false->(p.push o).get? n=some o:=λp n o e f=>by
  subst e;exact Yax p f
 have sz:=λo=>Ycv s.heap o;refine callType_new F.called_enumerate (by decide) (YfD _) (YfR _) (λobj=>Yf6 obj _) YfS (jb4 (.ref l) _) ⟨λ_ _ _ _ _ q=>Yeb hL q,?_⟩
 rw[sz];have he:=at2 _ _ ⟨.type "enumerate",none,.fields #[.none,.bool false,.ref s.heap.objs.size,rawInt 0,.none,.none],#[]⟩ (sz ⟨.type "tuple_iterator",none,.fields #[.ref l,.int 0 0],#[]⟩) rfl;exact⟨⟨_,he,rfl⟩,h _ he ⟨_,Yaf _ (at2 _ _ _ rfl rfl),rfl,rfl⟩ λb o x=>Yaf _ (Yaf _ x)⟩

def jhh  {σ: St}(I:Inv X pins σ H s)(k:∀b o,b≠e->b≠it->s.heap.get? b=some o->h'.get? b=some o)(fe:FpOk X pins H e)(fi:FpOk X pins H it):Inv X pins σ H { s with heap:=h',toks:=t' }:=by
 obtain⟨e0,e1,_,e3,e4,e5⟩:=fe;obtain⟨i0,i1,_,i3,i4,i5⟩:=fi;have ne:∀b u,H b=some u->b≠e:=λb u q z=>by rw[z,e0]at q;cases q
 have ni:∀b u,H b=some u->b≠it:=λb u q z=>by rw[z,i0]at q;cases q
 have kk:∀b o,b∉[e,it]->s.heap.get? b=some o->h'.get? b=some o:=λb o hc q=>k b o (λz=>hc (by simp[z])) (λz=>hc (by simp[z])) q
 refine I.step (g':=s.gens) (d':=s.drawn) (ch:=[e,it]) (λb hb=>?_) (λb o _ _ hc q _=>kk b o hc q) (λb o _ _ hc q _=>⟨o.slots,kk b o hc q⟩) (λ_ _ _ _ n=>n)
  (λb o hc q=>⟨o,kk b o hc q⟩) (λ_ _ q=>q) (λ_ _ _ q=>q) (λb ps q=>⟨#[],by rw[q];simp⟩) (λm hm=>?_) (λb u q=>?_) I.bare
 ·simp only[Yau,Yam,or_false]at hb;rcases hb with rfl|rfl
  ·exact⟨e3,e1,e4,e5⟩
  ·exact⟨i3,i1,i4,i5⟩
 ·obtain⟨o,es,ep,ho,r⟩:=hm;exact⟨o,es,ep,k _ o (Ne.symm e1) (Ne.symm i1) ho,r⟩
 ·refine(I.hok b u q).stay (λc v hc y=>k c v ?_ ?_ y) (λ_ y=>y) λ_ _ y=>y
  ·rcases hc with z|z
   ·rw[z];exact ne b u q
   ·exact ne c _ z
  ·rcases hc with z|z
   ·rw[z];exact ni b u q
   ·exact ni c _ z
def Ite  (_K:Yac)(a:Addr):It:=
 ⟨λi H=>∃xs x,H a=some (.tup xs)/\xs[i]?=some x,λi H y H'=>∃xs x p,H a=some (.tup xs)/\xs[i]?=some x/\y=.ref p/\H p=none/\H'=upd H p (.tup [.int (i:Int),x]),λi H=>∃xs,H a=some (.tup xs)/\xs.length=i⟩
def jhj    {K:Yac} a e it (hei:e≠it)(hae:a≠e)(hai:a≠it) :
  Turn P w K (.Tuple elts x1 pos) (Ite K a) [e,it] e (λi h=>(∃old,IsEnum h e it (i:Int) old)/\h.IsTupleIter it a i) where
 mem:=by simp
 obj:=λi h st b hb=>by
  obtain⟨⟨old,he⟩,o,ho,c,d⟩:=st;simp only[Yau,Yam,or_false]at hb;rcases hb with rfl|rfl
  ·exact⟨_,he,λv z=>nomatch z⟩
  ·exact⟨o,ho,λv z=>by rw[d]at z;cases z⟩
 keep:=λi h h' st k=>by
  obtain⟨⟨old,he⟩,o,ho,r⟩:=st;exact⟨⟨old,k e (by simp) _ he⟩,o,k it (by simp) _ ho,r⟩
 item:=by
  intro X hP hw hK hc i pins s σ H E I hf st hg;subst hP hw hK;obtain⟨xs,x,hq,hx⟩:=hg;obtain⟨its,rv,p,hz⟩:=I.tuple (SqT.of hq);obtain⟨u,hu,ru⟩:=rv.get hx;obtain⟨⟨old,he⟩,hit⟩:=st;have hlt:i<its.toArray.size:=by
   have:=(List.getElem?_eq_some_iff.mp hu).1;simpa using this
  refine YfG (je1 (A:=X.A.in1) (I.ok.hd hc) it a hai its.toArray) he ⟨hit,p⟩ hlt hei (by simp;exact⟨hei,Ne.symm hae⟩) λx' h' tk hP ho hs' hT hsz hk=>?_
  refine⟨_,rfl,Ye8 ho λh2 he2 hs2=>?_⟩;have ex:x'=u:=by
   have:its.toArray[i]?=some u:=by simpa using hu
   exact Yar (hP.symm.trans this)
  subst ex;have hfr:H s.heap.objs.size=none:=I.hok.fresh (Yah _);have hen:e≠s.heap.objs.size:=Yaz (Yan he);have hin:it≠s.heap.objs.size:=by obtain⟨o,ho',_⟩:=hit;exact Yaz (Yan ho')
  have I1:Inv X pins σ (upd H s.heap.objs.size (.tup [.int (i:Int),x])) { s with heap:=s.heap.push { cls:=.type "tuple",data:=.seq #[.int i tk,x'] },toks:=tk+1 }:=by
   refine I.laid (λb o y=>Yaf _ y) (Yah _) ⟨by show 2<=Yai;decide,[.int i tk,x'],.cons ⟨tk,rfl⟩ (.cons ru .nil),TupD.new _ _⟩
  have fpU:∀b,b≠s.heap.objs.size->FpOk X pins H b->FpOk X pins (upd H s.heap.objs.size (.tup [.int (i:Int),x])) b:=λb hb f=>⟨by rw[jac hb];exact f.1,f.2⟩
  have kk:∀b o,b≠e->b≠it->(s.heap.push { cls:=.type "tuple",data:=.seq #[.int i tk,x'] }).get? b=some o->h2.get? b=some o:=λb o be bi y=>by
   have step:h'.get? b=some o:=by
    by_cases hb:b=s.heap.objs.size
    ·subst hb;rw[hT];exact(Yax s.heap (o:={ cls:=.type "tuple",data:=.seq #[.int i tk,x'] }) rfl).symm.trans y
    ·rw[Yf4 _ _ _ hb]at y;exact hk b o be bi y
   exact(hs2.2 b be).trans step
  have I2:Inv X pins σ (upd H s.heap.objs.size (.tup [.int (i:Int),x])) { s with heap:=h2,toks:=tk+1 }:=
   jhh (s:={ s with heap:=s.heap.push { cls:=.type "tuple",data:=.seq #[.int i tk,x'] },toks:=tk+1 }) (h':=h2) (t':=tk+1) (e:=e) (it:=it) I1 kk (fpU e hen (hf e (by simp))) (fpU it hin (hf it (by simp)))
  refine⟨.ref s.heap.objs.size,_,I2,rfl,⟨xs,x,_,hq,hx,rfl,hfr,rfl⟩,⟨⟨_,by simpa using he2⟩,?_⟩,λb hb=>?_⟩
  ·obtain⟨o,ho',r⟩:=hs'.1;exact⟨o,(hs2.2 it (Ne.symm hei)).trans ho',r⟩
  ·simp only[Yau,Yam,or_false]at hb;rcases hb with rfl|rfl
   ·rw[jac hen];exact(hf _ (by simp)).1
   ·rw[jac hin];exact(hf _ (by simp)).1
 done:=by
  intro X hP hw hK hc i pins s σ H E I hf st hg;subst hP hw hK;obtain⟨xs,hq,hx⟩:=hg;obtain⟨its,rv,p,hz⟩:=I.tuple (SqT.of hq);obtain⟨⟨old,he⟩,hit⟩:=st;have hl:its.toArray.size=i:=by rw[Yak,<- rv.length];exact hx
  refine YfW (je1 (A:=X.A.in1) (I.ok.hd hc) it a hai its.toArray) he ⟨by rw[hl];exact hit,p⟩ λh' eb=>⟨rfl,?_⟩
  obtain⟨f0,f1,f2,f3,f4,f5⟩:=hf it (by simp)
  exact I.turned (t':=s.toks) (λb o hb y=>eb b o hb y) f0 f1 f3 f4 f5
 self:=λA i s Q E st h=>by
  obtain⟨⟨old,he⟩,_⟩:=st;exact Yc6 he h

end L2

namespace L2
open PySem PySem.Spec PyProof.Rows

def jfM  : jaX X (.builtin "isinstance") (λxs H Q=>∃(x:V) (c:String) (t:Value) (b:Bool),xs=[x,.ty c]/\TyOf X.K H x t/\Yda X.K t (.type c)=some b/\Q (.bl b) H):=by
 intro pins s σ H xs us Q I r h;obtain⟨x,c,t,b,rfl,ty,e,q⟩:=h;obtain⟨u,v,rfl,ru,rv⟩:=Vals.two r;cases rv;exact jh3 I ru ty e λtk=>⟨.bl b,H,I.tok tk,rfl,q⟩



def jn3  (ks:List (List Int)):Nat:=argBest (λi j=>HT.lexLt (ks.getD i []) (ks.getD j [])) (ks.length-1)

def jfU    (r:Vals vs us){i:Nat}(h:us[i]?=some u):∃v,vs[i]?=some v/\RelV v u:=by
 induction r generalizing i with
 |nil=>cases h
 |cons a r ih=>
  cases i with
  |zero=>exact⟨_,rfl,by cases h;exact a⟩
  |succ i=>exact ih h
end L2

namespace L2
open PySem PySem.Spec PyProof.Rows PySem.W
section
variable {n:Nat}{lt:Nat->Nat->Bool}{cmp:Nat->Nat->(Bool->Shared->Prop)->Shared->Prop}{s:Shared}
structure Asks (n:Nat)(lt:Nat->Nat->Bool)(cmp:Nat->Nat->(Bool->Shared->Prop)->Shared->Prop)(s:Shared):Prop where
 ask:∀i j C,i<n->j<n->C (lt i j) s->cmp i j C s
 tr:∀i j k,i<n->j<n->k<n->lt i j=true->lt j k=true->lt i k=true
 tot:∀i j,i<n->j<n->i≠j->lt i j=true\/lt j i=true
 ir:∀i,i<n->lt i i=false
noncomputable def gD  (p:Array Nat)(k:Nat):Nat:=p.getD k 0
structure Arr (n:Nat)(p:Array Nat):Prop where
 z:p.size=n
 b:∀i,i<n->gD p i<n
 inj:∀i j,i<n->j<n->gD p i=gD p j->i=j
 pm:p.toList.Perm (YaC n)
def Asc  (lt:Nat->Nat->Bool)(p:Array Nat)(m:Nat):Prop:=∀i,i+1<m->lt (gD p i) (gD p (i+1))=true
end
end L2

namespace L2
open PySem PySem.Spec PyProof.Rows PySem.W
open PySem.AutoSeq1 (wpAny_loadPart')
open PySem.MeetsSeq PySem.MeetsSeq2 PySem.MeetsSeq3
end L2

namespace L2
open PySem PySem.Spec PyProof.Rows PySem.W


section
variable {ρ:Keyed->Int}
def Srt  (ρ:Keyed->Int)(l:List Keyed):Prop:=l.Pairwise λx y=>ρ x<=ρ y
structure Mg (ρ:Keyed->Int)(a b out xs ys:List Keyed):Prop where
 sx:Srt ρ (out++xs)
 sy:Srt ρ (out++ys)
 pm:(out++xs++ys).Perm (a++b)

end

abbrev T2:=Option (Array Keyed)×Array Keyed×Nat×Nat×Nat×Nat×Nat
abbrev T1:=Option (Array Keyed)×Array Keyed×Nat×Nat×Nat×Nat
structure Fr (st st':SortSt):Prop where
 k:kindOf st'=kindOf st
 a:arrOf st'=arrOf st
 p:pendingOf st'=pendingOf st
 f:failedOf st'=failedOf st
def Fin2  (ρ:Keyed->Int)(a b zs:Array Keyed):Prop:=Srt ρ zs.toList/\zs.toList.Perm (a.toList++b.toList)
structure Two2 (S:Keyed->Prop)(ρ:Keyed->Int)(a b:Array Keyed):Prop where
 sa:∀(i:Nat) (x:Keyed),a[i]?=some x->S x
 sb:∀(i:Nat) (x:Keyed),b[i]?=some x->S x
 oa:Srt ρ a.toList
 ob:Srt ρ b.toList
 last:∀x,a[a.size-1]?=some x->∀y∈b.toList,ρ y<=ρ x
 first:∀y,b[0]?=some y->∀x∈a.toList,ρ y<=ρ x
 na:0<a.size
 nb:0<b.size
structure Lo (ρ:Keyed->Int)(a b out:Array Keyed)(ia ib:Nat):Prop where
 m:Mg ρ a.toList b.toList out.toList (a.toList.drop ia) (b.toList.drop ib)
 ia:ia+1<a.size
 ib:ib<b.size

section
variable {prog:Program}{w:World}{A:Around}{E:Value->Shared->Prop}{s:Shared}{κ:SortKind}{S:Keyed->Prop}{ρ:Keyed->Int}{a b out:Array Keyed}{ia ib g ac bc m:Nat}{st0 st:SortSt}{Q:ForInStep T2->SortSt->Prop}
structure Out2 (ρ:Keyed->Int)(a b:Array Keyed)(st0:SortSt)(m:Nat)(Q:ForInStep T2->SortSt->Prop):Prop where
 fin:∀zs d st',Fr st0 st'->Fin2 ρ a b zs->Q (.done (some zs,d)) st'
 go:∀out ia ib g ac bc st',Fr st0 st'->Lo ρ a b out ia ib->m<=ia+ib->Q (.done (none,out,ia,ib,g,ac,bc)) st'/\Q (.yield (none,out,ia,ib,g,ac,bc)) st'
end
abbrev H2:=Option (Array Keyed)×Nat×Nat×Array Keyed×Nat×Nat×Nat
abbrev H1:=Option (Array Keyed)×Nat×Nat×Array Keyed×Nat×Nat
structure Mh (ρ:Keyed->Int)(a b xs ys o:List Keyed):Prop where
 sx:Srt ρ (xs++o)
 sy:Srt ρ (ys++o)
 pm:(xs++ys++o).Perm (a++b)


structure Hi (ρ:Keyed->Int)(a b out:Array Keyed)(na nb:Nat):Prop where
 m:Mh ρ a.toList b.toList (a.toList.take na) (b.toList.take nb) out.toList.reverse
 a0:0<na
 b1:1<nb
 la:na<=a.size
 lb:nb<=b.size

section
variable {prog:Program}{w:World}{A:Around}{E:Value->Shared->Prop}{s:Shared}{κ:SortKind}{S:Keyed->Prop}{ρ:Keyed->Int}{a b out:Array Keyed}{na nb g ac bc m:Nat}{st0 st:SortSt}{Q:ForInStep H2->SortSt->Prop}
structure Oh2 (ρ:Keyed->Int)(a b:Array Keyed)(st0:SortSt)(m:Nat)(Q:ForInStep H2->SortSt->Prop):Prop where
 fin:∀zs d st',Fr st0 st'->Fin2 ρ a b zs->Q (.done (some zs,d)) st'
 go:∀na nb out g ac bc st',Fr st0 st'->Hi ρ a b out na nb->na+nb<=m->Q (.done (none,na,nb,out,g,ac,bc)) st'/\Q (.yield (none,na,nb,out,g,ac,bc)) st'
end

section
variable {prog:Program}{w:World}{A:Around}{E:Value->Shared->Prop}{s:Shared}{κ:SortKind}{S:Keyed->Prop}{ρ:Keyed->Int}
structure Base2 (κ:SortKind)(S:Keyed->Prop)(st:SortSt):Prop where
 k:kindOf st=κ
 f:failedOf st=none
 S:∀x∈(arrOf st).toList,S x
end
noncomputable def kk  (ρ:Keyed->Int)(xs:Array Keyed)(i:Nat):Int:=match xs[i]? with
 |some x=>ρ x
 |none=>0
def Up2  (ρ:Keyed->Int)(xs:Array Keyed)(l h:Nat):Prop:=∀i j,l<=i->i<=j->j<h->kk ρ xs i<=kk ρ xs j
structure Ch (l:Nat)(st st':SortSt):Prop where
 e:st'=setArr st (arrOf st')
 pm:(arrOf st').Perm (arrOf st)
 pre:∀i,i<l->(arrOf st')[i]?=(arrOf st)[i]?

noncomputable def starts  : Nat->List (List Keyed)->List (Nat×Nat)
 |_,[]=>[]
 |b,r::rs=>(b,r.length)::starts (b+r.length) rs
noncomputable abbrev prd  (p:Nat×Nat×Nat):Nat×Nat:=(p.1,p.2.1)
structure Rws (ρ:Keyed->Int)(st:SortSt)(rs:List (List Keyed))(rest:List Keyed):Prop where
 ar:(arrOf st).toList=rs.flatten++rest
 pd:(pendingOf st).toList.map prd=starts 0 rs
 ok:∀r∈rs,r≠[]/\Srt ρ r






section
variable {X:Cx}
def rInD  (X:Cx)(neg:Bool):R2:=λx y H Q=>∃(p:Addr) (vs:List V) (d:PyData) (ds:List PyData),y=.ref p/\(SqL X.K H p vs\/SqT X.K H p vs)/\DV X.K H x d/\DVs X.K H vs ds/\d.canLay0=true/\d.depth<=100/\(∀e∈ds,e.canLay0=true)/\Q (.bl (if neg then !(ds.any λe=>YaJ e d) else ds.any λe=>YaJ e d)) H
open Classical in
noncomputable def eD (h:Heap)(d:PyData)(w:Value):Bool:=decide (∃e as,e.canLay0=true/\Reads h w e as/\YaJ e d=true)
open Classical in
def jnS {h:Heap}{d e:PyData}{w:Value}{as:List Addr}(r:Reads h w e as)(c:e.canLay0=true):eD h d w=YaJ e d:=by
 unfold eD;cases q:YaJ e d with
 |true=>exact decide_eq_true ⟨e,as,c,r,q⟩
 |false=>
  refine decide_eq_false λ⟨e',as',c',r',q'⟩=>?_;rw[SeqAt.Reads.unique e' e w as' as c' r' r,q]at q';cases q'
theorem jh7 {h:Heap}{d:PyData}:∀{us:List Value} {ds:List PyData} {as:List Addr},ReadsAll h us ds as->(∀e∈ds,e.canLay0=true)->us.any (eD h d)=(ds.any λe=>YaJ e d)/\∀w∈us,∃e as,e.canLay0=true/\Reads h w e as
 |_,_,_,.nil,_=>⟨rfl,λw hw=>by simp at hw⟩
 |_,_,_,.cons r rs,c=>by
  obtain⟨h1,h2⟩:=jh7 (d:=d) rs λe he=>c e (Yal _ he);refine⟨by rw[Ybz,Ybz,h1,jnS r (c _ Yat)],λw hw=>?_⟩
  rcases Yau.mp hw with rfl|hw
  ·exact⟨_,_,c _ Yat,r⟩
  ·exact h2 w hw
def jgt   {σ:St}(hu:A.units+100<cLine)(I:Inv X pins σ H s)(rx:RelV x u)(hd:DV X.K H x d)(c:d.canLay0=true)(hp:d.depth<=100)(r:Vals vs its)(hv:DVs X.K H vs ds)(cs:∀e∈ds,e.canLay0=true) :
  (∀w,w∈its->YfL A s w u (eD s.heap d w))/\its.any (eD s.heap d)=ds.any λe=>YaJ e d:=by
 obtain⟨as,ra⟩:=DVs.reads I hv r;obtain⟨bs,rb⟩:=DV.reads I hd rx;obtain⟨h1,h2⟩:=jh7 (d:=d) ra cs;refine⟨λw hw=>?_,h1⟩;obtain⟨e,as',ce,re⟩:=h2 w hw;rw[jnS re ce];exact SeqAt.eqAt_reads _ _ A s _ _ _ _ re rb ce c (YbB (YdJ (Yag (Nat.min_le_right _ _) hp) _) hu)
def jm6   (hr:Room k X.A):OpR X (YaV .In) (rInD X false):=by
 intro pins s σ H x y v u Q I rx ry h;obtain⟨p,vs,d,ds,rfl,hq,hd,hv,c,hp,cs,q⟩:=h;cases ry;rcases hq with hq|hq
 ·obtain⟨its,r,pl,hz⟩:=I.list hq;obtain⟨h1,h2⟩:=jgt (A:=X.A.in1) (by have:=hr.un;rw[YcX];lia) I rx hd c hp r hv cs
  refine Ygf (eD s.heap d) pl.isList (λw hw=>h1 w (by simpa using hw)) ⟨.bl _,H,I,rfl,?_⟩
  rw[show its.toArray.any (eD s.heap d)=its.any (eD s.heap d) by simp,h2]
  exact q
 ·obtain⟨its,r,pl,hz⟩:=I.tuple hq;obtain⟨h1,h2⟩:=jgt (A:=X.A.in1) (by have:=hr.un;rw[YcX];lia) I rx hd c hp r hv cs
  refine YfY (eD s.heap d) pl (λw hw=>h1 w (by simpa using hw)) ⟨.bl _,H,I,rfl,?_⟩
  rw[show its.toArray.any (eD s.heap d)=its.any (eD s.heap d) by simp,h2]
  exact q
def jhH   (hr:Room k X.A):OpR X (YaV .NotIn) (rInD X true):=by
 intro pins s σ H x y v u Q I rx ry h;obtain⟨p,vs,d,ds,rfl,hq,hd,hv,c,hp,cs,q⟩:=h;cases ry;rcases hq with hq|hq
 ·obtain⟨its,r,pl,hz⟩:=I.list hq;obtain⟨h1,h2⟩:=jgt (A:=X.A.in1) (by have:=hr.un;rw[YcX];lia) I rx hd c hp r hv cs
  refine Yfw (eD s.heap d) pl.isList (λw hw=>h1 w (by simpa using hw)) ⟨.bl _,H,I,rfl,?_⟩
  rw[show its.toArray.any (eD s.heap d)=its.any (eD s.heap d) by simp,h2]
  exact q
 ·obtain⟨its,r,pl,hz⟩:=I.tuple hq;obtain⟨h1,h2⟩:=jgt (A:=X.A.in1) (by have:=hr.un;rw[YcX];lia) I rx hd c hp r hv cs
  refine Yfl (eD s.heap d) pl (λw hw=>h1 w (by simpa using hw)) ⟨.bl _,H,I,rfl,?_⟩
  rw[show its.toArray.any (eD s.heap d)=its.any (eD s.heap d) by simp,h2]
  exact q
end

theorem jkd   bt:∀k,argBest bt k<=k
 |0=>Yah _
 |k+1=>by
  have:=jkd bt k;show(if bt (k+1) (argBest bt k) then k+1 else argBest bt k)<=k+1
  split<;>lia
theorem jfE  (val:Nat->Int):∀k j,j<=k->val j<=val (argBest (λi j=>decide (val j<val i)) k)
 |0,j,h=>by rw[show j=0 by lia];exact YcH _
 |k+1,j,h=>by
  show val j<=val (if decide (val (argBest (λi j=>decide (val j<val i)) k)<val (k+1))=true then k+1 else argBest (λi j=>decide (val j<val i)) k)
  by_cases c:val (argBest (λi j=>decide (val j<val i)) k)<val (k+1)
  ·rw[if_pos (by simpa using c)]
   by_cases e:j=k+1
   ·rw[e];exact YcH _
   ·have:=jfE val k j (by lia);lia
  ·rw[if_neg (by simpa using c)]
   by_cases e:j=k+1
   ·rw[e];lia
   ·exact jfE val k j (by lia)
def jix  (hc:X.calm=true):jaX X (.builtin "max") (λxs H Q=>∃(p:Addr) (ns:List Int),xs=[.ref p]/\(SqL X.K H p (ns.map V.int)\/SqT X.K H p (ns.map V.int))/\ns≠[]/\∀z∈ns,(∀y∈ns,y<=z)->Q (.int z) H):=by
 intro pins s σ H xs us Q I r h;obtain⟨p,ns,rfl,hq,hn,q⟩:=h;obtain⟨u,rfl,rx⟩:=jcQ r;cases rx;have hn0:0<ns.length:=List.length_pos_iff.mpr hn;have fin:∀{its:List Value} {h':Heap} {tk:Nat},Vals (ns.map V.int) its->∀v,its[argBest (λi j=>decide (ns.getD j 0<ns.getD i 0)) (its.toArray.size-1)]?=some v->(∀b o,s.heap.get? b=some o->h'.get? b=some o)->EP X pins σ Q v { s with heap:=h',toks:=tk }:=λ{its h' tk} r v hv k=>by
  have il:=r.length;rw[Yaa]at il;obtain⟨x,ex,rx⟩:=jfU r hv;rw[Yak,<- il]at ex;have hb:=jkd (λi j=>decide (ns.getD j 0<ns.getD i 0)) (ns.length-1);obtain⟨m,hm⟩:∃m,m=argBest (λi j=>decide (ns.getD j 0<ns.getD i 0)) (ns.length-1):=⟨_,rfl⟩;rw[<- hm]at ex hb;have hml:m<ns.length:=by lia
  rw[Yav,Yad hml]at ex;have ex:=Yar ex;subst ex;refine⟨_,H,I.kept k,rx,q _ (YaQ hml) λy hy=>?_⟩;obtain⟨j,hj,rfl⟩:=Ydx hy;have:=jfE (λi=>ns.getD i 0) (ns.length-1) j (by lia)
  rw[<- hm]at this;simpa[YbL,hj,hml]using this
 have val:∀{its:List Value},Vals (ns.map V.int) its->∀i v,its[i]?=some v->∃t,v=Yeg (ns.getD i 0) t:=λ{its} r i v e=>by
  obtain⟨x,ex,rx⟩:=jfU r e;rw[Yav]at ex;cases en:ns[i]? with
  |none=>rw[en]at ex;cases ex
  |some n=>
   rw[en]at ex;cases ex;obtain⟨t,rfl⟩:=rx;exact⟨t,by rw[YaD,en];rfl⟩
 have kp:∀{h':Heap} {o0:Obj},(∀b o,b∉[s.heap.objs.size]->(s.heap.push o0).get? b=some o->h'.get? b=some o)->∀b o,s.heap.get? b=some o->h'.get? b=some o:=λhk b x e=>hk b x (λhm=>by rw[List.mem_singleton.mp hm]at e;exact Ya6 _ (Yan e)) (Yaf _ e)
 have bd:∀{o0:Obj},p<s.heap.objs.size->∀b∈[s.heap.objs.size,p],b<(s.heap.push o0).objs.size:=λ{o0} hlt b hb=>by
  rw[Ycv];rcases Yau.mp hb with rfl|hb
  ·exact Nat.lt_succ_self _
  ·rw[List.mem_singleton.mp hb];exact Yd4 hlt
 rcases hq with hq|hq
 ·obtain⟨its,r,pl,hz⟩:=I.list hq;have il:=r.length;rw[Yaa]at il;have hL:=pl.isList;have hlt:p<s.heap.objs.size:=by obtain⟨_,e,_⟩:=hL;exact Yan e
  refine call_max_walk (YcA hL ?_);exact⟨s.heap.objs.size,[s.heap.objs.size,p],[s.heap.objs.size],its.toArray.size,_,_,_,rfl,Walks.list (A:=X.A.in1) (I.ok.hd hc) _ p (Yaz hlt) its.toArray,⟨⟨_,Yax _ rfl,rfl,rfl⟩,hL.push _⟩,bd hlt,by rw[Yak];lia,
   CmpOf.ints_gt (λi=>ns.getD i 0) (λi v e=>val r i v (by simpa using e)),λv h' tk hv hk=>fin r v (by simpa using hv) (kp hk)⟩
 ·obtain⟨its,r,pl,hz⟩:=I.tuple hq;have il:=r.length;rw[Yaa]at il;have hlt:p<s.heap.objs.size:=by obtain⟨_,e,_⟩:=pl;exact Yan e
  refine call_max_walk (Yeb pl ?_);exact⟨s.heap.objs.size,[s.heap.objs.size,p],[s.heap.objs.size],its.toArray.size,_,_,_,rfl,Walks.tuple (A:=X.A.in1) (I.ok.hd hc) _ p (Yaz hlt) its.toArray,⟨⟨_,Yax _ rfl,rfl,rfl⟩,pl.push _⟩,bd hlt,by rw[Yak];lia,
   CmpOf.ints_gt (λi=>ns.getD i 0) (λi v e=>val r i v (by simpa using e)),λv h' tk hv hk=>fin r v (by simpa using hv) (kp hk)⟩
end L2

namespace L2
open PySem PySem.Spec PyProof.Rows




end L2

namespace L2
open PySem PySem.Spec PyProof.Rows PySem.SeqAt PySem.MeetsSeq
def jbD   l es (n:Nat) dd sl b u :
  Meets (Builtin.«dict.__eq__» ⟨[.ref l,.str b u],[]⟩) (λ_ R s=>s.heap.get? l=some { cls:=.type "dict",dict:=dd,data:=.dict es n,slots:=sl }/\R (.ok (.ret .notImplemented)) s):=
 .of_wp λprog w A R s h=>by obtain⟨hp,g,d,tk,os⟩:=s;obtain⟨hl,h⟩:=h;have f1:=F.sub_str_dict;wp_walk using wpAny_loadPart' hl;exact⟨_,rfl,h⟩
def jbB   b u l es (n:Nat) dd sl :
  Meets (Builtin.«str.__eq__» ⟨[.str b u,.ref l],[]⟩) (λ_ R s=>s.heap.get? l=some { cls:=.type "dict",dict:=dd,data:=.dict es n,slots:=sl }/\R (.ok (.ret .notImplemented)) s):=
 .of_wp λprog w A R s h=>by obtain⟨hp,g,d,tk,os⟩:=s;obtain⟨hl,h⟩:=h;wp_walk using wpAny_loadPart' hl,wpAny_load hl;exact⟨_,rfl,h⟩

def jfk         b u (ho:s.heap.get? l=some o)(hc:o.cls=.type "dict")(hd:o.data=.dict es n)(hu:A.units<cLine):RcAt A s (.ref l) (.str b u) false:=λprog w E Q h=>by
 obtain⟨cls,dd,data,sl⟩:=o;simp only at hc hd;subst hc hd;exact rc_eq_decline_or (k:=false) ⟨_,ho,rfl⟩ (Yer s b u) (by decide) F.sub_str_dict F.slot_dict_eq F.slot_str_eq_refl
  (λ_ hq=>YbY F.slot_dict_eq ⟨_,ho,rfl⟩ F.entry_dict_eq (F.args_dict_eq_2 _ _) (jbD l es n dd sl b u) ⟨ho,hq⟩)
  (λ_ hq=>YbY F.slot_str_eq_refl (Yer s b u) F.entry_str_eq (F.args_str_eq_2 _ _) (jbB b u l es n dd sl) ⟨ho,hq⟩)
  (λ_ hq=>wpAny_of_eq (rfl:isSame (.ref l) (.str b u)=pure false) hq) (.inr hu) h
def jiS  : R2:=λx y H Q=>∃a z kvs,x=.ref a/\y=.str z/\H a=some (.dK kvs)/\Q (.bl false) H
def jec   (hr:Room k X.A):OpR X (YaV .Eq) jiS:=by
 intro pins s σ H x y v u Q I rx ry h;obtain⟨a,z,kvs,rfl,rfl,ha,q⟩:=h;cases rx;obtain⟨t,rfl⟩:=ry;obtain⟨_,_,vs,_,o,es,ep,ho,hx,hd,_⟩:kvs.length<=Yai/\(a==Ya9)=false/\∃vs,KV kvs vs/\s.heap.DictOf (jay X.prog X.w) a vs:=I.hok a _ ha;exact jfk z t ho hx.1 hd (by have:=hr.un;lia) X.prog X.w X.xe _ ⟨.bl false,H,I,rfl,q⟩
def rSlS  : V->Option Int->Option Int->Hp->VK->Prop:=λx lo hi H Q=>∃z,x=.str z/\z.length<=Yai/\Q (.str (Yfj z lo hi)) H

def jmg  : SlR X rSlS:=by
 intro pins s σ H x v vl vu lo hi sl Q I rx hs pl pu h;obtain⟨z,rfl,hz,q⟩:=h;obtain⟨t,rfl⟩:=rx;refine⟨"str",_,F.slot_str_getitem.lookup,Yer _ _ _,?_⟩;obtain⟨o,ho,hc,hd⟩:=hs;have fin:∀t' k,EP X pins σ Q (.str (Yfj z lo hi) t') { s with toks:=k }:=λt' k=>⟨.str _,H,I.tok _,⟨_,rfl⟩,q⟩
 cases pl with
 |none=>
  cases pu with
  |none=>exact Yct (l:=none) (u:=none) (st:=none) ⟨o,ho,hc,hd⟩ rfl (YdD ⟨Yag (Yd8 z _ _) hz,fin⟩)
  |int j uj=>exact Yct (l:=none) (u:=some (j,uj)) (st:=none) ⟨o,ho,hc,hd⟩ rfl (YdD ⟨Yag (Yd8 z _ _) hz,fin⟩)
 |int i ui=>
  cases pu with
  |none=>exact Yct (l:=some (i,ui)) (u:=none) (st:=none) ⟨o,ho,hc,hd⟩ rfl (YdD ⟨Yag (Yd8 z _ _) hz,fin⟩)
  |int j uj=>exact Yct (l:=some (i,ui)) (u:=some (j,uj)) (st:=none) ⟨o,ho,hc,hd⟩ rfl (YdD ⟨Yag (Yd8 z _ _) hz,fin⟩)
def jlb  : OpR X (Ybh .Add) (λx y H Q=>∃b j,x=.bl b/\y=.int j/\Q (.int ((if b=true then (1:Int) else 0)+j)) H):=by
 intro pins s σ H x y v u Q I rx ry h;obtain⟨b,j,rfl,rfl,q⟩:=h;cases rx;obtain⟨t,rfl⟩:=ry;exact PySem.IntBool.add_bool_int ⟨.int _,H,I.tok _,⟨_,rfl⟩,q⟩
def jk5  : OpR X (Ybh .Sub) (λx y H Q=>(∃b j,x=.bl b/\y=.int j/\Q (.int ((if b=true then (1:Int) else 0)-j)) H)\/∃i b,x=.int i/\y=.bl b/\Q (.int (i-if b=true then (1:Int) else 0)) H):=by
 intro pins s σ H x y v u Q I rx ry h;rcases h with⟨b,j,rfl,rfl,q⟩|⟨i,b,rfl,rfl,q⟩
 ·cases rx;obtain⟨t,rfl⟩:=ry;exact PySem.IntBool.sub_bool_int ⟨.int _,H,I.tok _,⟨_,rfl⟩,q⟩
 ·cases ry;obtain⟨t,rfl⟩:=rx;exact PySem.IntBool.sub_int_bool ⟨.int _,H,I.tok _,⟨_,rfl⟩,q⟩
def jkI  (K:Yac):R2:=λx y H Q=>∃a z xs,x=.ref a/\y=.str z/\(SqT K H a xs\/SqL K H a xs)/\Q (.bl false) H
def jeL   (hr:Room k X.A):OpR X (YaV .Eq) (jkI X.K):=by
 intro pins s σ H x y v u Q I rx ry h;obtain⟨a,z,xs,rfl,rfl,ha,q⟩:=h;cases rx;obtain⟨t,rfl⟩:=ry;have hu:X.A.units<cLine:=hr.units0;rcases ha with ha|ha
 ·obtain⟨its,rv,pa,_⟩:=I.tuple ha;exact SeqAt.RcAt.tuple_str z t (show s.heap.IsTuple a its.toArray from pa) hu X.prog X.w X.xe _ ⟨.bl false,H,I,rfl,q⟩
 ·obtain⟨its,rv,pa,_⟩:=I.list ha;exact SeqAt.RcAt.list_str z t pa.isList hu X.prog X.w X.xe _ ⟨.bl false,H,I,rfl,q⟩
end L2

namespace L2
open PySem PySem.Spec PyProof.Rows
open AutoSeq1 (wpAny_loadPart')


end L2

namespace L2
open PySem PySem.Spec PyProof.Rows PySem.W
structure Lies (lo:Nat)(pn:List (Addr×Obj))(H:Hp)(h:Heap)(e:Addr)(cls:Value)(dx:Option Addr):Prop where
 ob:∃oe vs,h.get? e=some oe/\oe.cls=cls/\oe.dict=dx/\oe.data=.fields vs/\
  (vs[1]?=some .none\/∃T oT ts,vs[1]?=some (.ref T)/\T≠e/\h.get? T=some oT/\oT.data=.fields ts/\ts[3]?=some .none/\H T=none/\lo<=T/\∀p∈pn,p.1≠T)
 hn:H e=none
 le:lo<=e
 pn:∀p∈pn,p.1≠e

def jbZ  {h:Heap} i x (ho:h.get? a=some o)(hd:o.data=.fields vs) :
  (∃o',(h.update a (YbK (·.setIfInBounds i x))).get? a=some o'/\o'.cls=o.cls/\o'.dict=o.dict/\o'.data=.fields (vs.setIfInBounds i x))/\∀b,b≠a->(h.update a (YbK (·.setIfInBounds i x))).get? b=h.get? b:=by
 have z:=Yf1 hd (·.setIfInBounds i x);refine⟨⟨_,Yb2 _ ho (Ydf z),Obj.cls_mapFields _ _,?_,z⟩,λb hb=>Yc5 _ _ (Ne.symm hb)⟩;unfold YbK;split<;>rfl
def jgx  {s: Shared} 
  (hfr:A.frames=some (env::outer)) (hl:s.heap.FunFrames base (env::outer)) (hf:env.frame=some L) (he:s.heap.get? e=some oe) (hd:oe.data=.fields vs) (hsz:1<vs.size)
  (h:∀(h':Heap) (T:Addr) (oe' oT:Obj) vs' ts ,(∀b o,b∉frs (env::outer)->b≠e->s.heap.get? b=some o->h'.get? b=some o)->(∀b o,b∈frs (env::outer)->b≠e->s.heap.get? b=some o->∃sl,h'.get? b=some { o with slots:=sl })->
   s.heap.objs.size<=T->h'.get? e=some oe'->oe'.cls=oe.cls->oe'.dict=oe.dict->oe'.data=.fields vs'->vs'[1]?=some (.ref T)->h'.get? T=some oT->oT.data=.fields ts->ts[3]?=some .none->Q () { s with heap:=h' }) :
  wpAny M A (do let a <- frameOf env;let pl <- entryPlaceOf L had;let b <- EntryCells.newEntry head a .none (rawInt L) .none pl;setField (.ref e) 1 b) (λ_ s'=>wpAny M A (Yec (.ref e) none) Q E s') E s:=by
 have out:e∉frs (env::outer):=λm=>by
  rcases hl.mem m with⟨-,o,ho,no⟩;exact no vs (by rw[<- hd,Yar (he.symm.trans ho)])
 refine Yae (wpAny_frameOf_fun hfr hl hf λh1 fs=>Yae (wpAny_entryPlaceOf λpl hpl=>Yae (Ybv ?_ (hpl.sizeOk5 _ _ _ _ _))));have n3:3<([head,.ref L,.none,rawInt L,.none]++(if pl.isEmpty then Yab 6 YbD else pl)).toArray.size:=by
  rw[Yak,Yaw];exact Nat.lt_add_right _ (Nat.lt_of_sub_pos (Nat.zero_lt_succ 1))
 generalize eot:(⟨.type "traceback",none,.fields ([head,.ref L,.none,rawInt L,.none]++(if pl.isEmpty then Yab 6 YbD else pl)).toArray,#[]⟩:Obj)=ot
 have dt:ot.data=.fields ([head,.ref L,.none,rawInt L,.none]++(if pl.isEmpty then Yab 6 YbD else pl)).toArray:=by rw[<- eot]
 have g1:h1.get? e=some oe:=by rw[fs.2.1 e out,he]
 have new:=Yax h1 (Ydf dt);have ne:h1.objs.size≠e:=λz=>Ya6 _ (z ▸ Yan g1);obtain⟨⟨o2,g2,c2,d2,v2⟩,r2⟩:=jbZ 1 (.ref h1.objs.size) (Yaf ot g1) hd;have g2':=(r2 _ ne).trans new;obtain⟨⟨o3,g3,c3,d3,v3⟩,r3⟩:=jbZ 3 .none g2' dt;refine Yc1 (Yaf ot g1) hd hsz (Yae (YcB g2 v2 (YbX hsz) ?_));rw[if_pos (by rfl)]
 refine Yc1 g2' dt n3 ?_;have keep:∀b o,b≠e->h1.get? b=some o->_:=λb o hb g=>(r3 b (Yaz (Yan g))).trans ((r2 b hb).trans (Yaf ot g));refine h _ h1.objs.size o2 o3 _ _ (λb o hb hbe g=>keep b o hbe (by rw[fs.2.1 b hb,g])) (λb o _ hbe g=>?_) (Yd9 fs.1.symm) ((r3 e (Ne.symm ne)).trans g2) c2 d2 v2 (YbX hsz) g3 v3 (YbX n3)
 rcases fs.2.2 b o g with⟨sl,q⟩;exact⟨sl,keep b _ hbe q⟩

def Inv.left  {σ: St}{ch:List Addr}(I:Inv X pins σ H s)(hH:∀b∈ch,H b=none)(hlo:∀b∈ch,X.s₀.heap.objs.size<=b)(hd:∀b∈ch,∃o vs,s.heap.get? b=some o/\o.data=.fields vs)(hp:∀b∈ch,∀p∈X.pn++pins,p.1≠b)
  (k:∀b o,b∉frs X.stack->b∉ch->s.heap.get? b=some o->h'.get? b=some o) (sl:∀b o,b∈frs X.stack->b∉ch->s.heap.get? b=some o->∃t,h'.get? b=some { o with slots:=t }):Inv X pins σ H { s with heap:=h' }:=by
 have u:Un (frs X.stack) ch H H s.heap h':=by
  refine⟨λb o e _ hb hc=>k b o hb hc e,λb o e _ hb hc=>sl b o hb hc e,λ_ _ _ n _=>n,λb o e hc=>?_,λ_ _ e=>e,λ_ _ _ e=>e,λb ps e=>⟨#[],by rw[e];simp⟩⟩
  by_cases hb:b∈frs X.stack
  ·obtain⟨t,q⟩:=sl b o hb hc e;exact⟨_,q⟩
  ·exact⟨o,k b o hb hc e⟩
 have tr:∀b u,H b=some u->b∉frs X.stack/\b∉ch:=λb u e=>⟨λz=>(by rw[I.stkFree b z]at e;cases e),λz=>(by rw[hH b z]at e;cases e)⟩
 have hok:HOk X.prog X.w H h':=λa o e=>(I.hok a o e).stay (λb v hb q=>by
  rcases hb with z|z
  ·subst z;exact k b v (tr b _ e).1 (tr b _ e).2 q
  ·exact k b v (tr b _ z).1 (tr b _ z).2 q) (λ_ q=>q) λ_ _ q=>q
 refine I.call (g':=s.gens) (d':=s.drawn) (t':=s.toks) u hok I.bare λb hb=>⟨.inr (hlo b hb),λz=>?_,λx c e z=>?_,hp b hb⟩
 ·obtain⟨o,vs,g,d⟩:=hd b hb;obtain⟨m,⟨o',_,_,ho,r⟩,_⟩:=I.loc;rw[z,ho]at g;cases g;have:=r.1;rw[this]at d;cases d
 ·obtain⟨o,vs,g,d⟩:=hd b hb;obtain⟨v,o',ho,hc⟩:=I.cell x c e;rw[z,g]at ho;cases ho;rw[d]at hc;cases hc
def jj2  {σ: St}(I:Inv X [] σ H s)(hst:X.stack=X.env::X.outer)(hf:X.env.frame=some X.env.locals)
  (l:Lies X.s₀.heap.objs.size X.pn H s.heap ea cls dx) (q:∀h',Inv X [] σ H { s with heap:=h' }->Lies X.s₀.heap.objs.size X.pn H h' ea cls dx->Q () { s with heap:=h' }):wpAny M X.A (Ygb (.ref ea) X.env) (λ_ s'=>wpAny M X.A (Yec (.ref ea) none) Q E s') E s:=by
 obtain⟨oe,vs,he,hc,hdx,hd,ht⟩:=l.ob;have hfr:X.A.frames=some (X.env::X.outer):=by rw[<- hst];exact I.ok.frames
 have hl:s.heap.FunFrames X.base (X.env::X.outer):=by rw[<- hst];exact I.stack
 have pe:∀p∈X.pn++[],p.1≠ea:=λp hp=>l.pn p (by simpa using hp)
 unfold Ygb;simp only[hf];rcases ht with h1|⟨T,oT,ts,h1,hTe,hT,hdT,h3,nT,lT,pT⟩
 ·refine Yae (YcB he hd h1 ?_);rw[if_neg (by decide)]
  refine jgx hfr hl hf he hd (Array.getElem?_eq_some_iff.mp h1).1 λh' T' oe' oT' vs' ts' k sl zT g1 c1 c2 c3 c4 g2 c5 c6=>?_;rw[<- hst]at k sl;have J:Inv X [] σ H { s with heap:=h' }:=I.left (ch:=[ea]) (λb hb=>by rw[List.mem_singleton.mp hb];exact l.hn) (λb hb=>by rw[List.mem_singleton.mp hb];exact l.le) (λb hb=>by rw[List.mem_singleton.mp hb];exact⟨oe,vs,he,hd⟩) (λb hb=>by rw[List.mem_singleton.mp hb];exact pe)
   (λb o hb hc e=>k b o hb (λz=>hc (by simp[z])) e) λb o hb hc e=>sl b o hb (λz=>hc (by simp[z])) e
  refine q h' J ⟨⟨oe',vs',g1,c1.trans hc,c2.trans hdx,c3,.inr ⟨T',oT',ts',c4,?_,g2,c5,c6,I.hok.fresh zT,Yag I.sz zT,λp hp z=>?_⟩⟩,l.hn,l.le,l.pn⟩
  ·exact λz=>absurd (Yan he) (Nat.not_lt.mpr (z ▸ zT))
  ·exact absurd (Yan (I.pin p (by simpa using hp)).1) (Nat.not_lt.mpr (z ▸ zT))
 ·have old:(YbD==rawInt X.env.locals)=false:=rfl;refine Yae (YcB he hd h1 ?_);rw[if_pos (by rfl)]
  refine Yae (YcB hT hdT h3 ?_);rw[old,if_neg Yaj];refine Yae (Yc1 hT hdT (Array.getElem?_eq_some_iff.mp h3).1 ?_);have other:=(jbZ 3 .none hT hdT).2;have I1:Inv X [] σ H { s with heap:=s.heap.update T (YbK (·.setIfInBounds 3 YbD)) }:=I.left (ch:=[T]) (λb hb=>by rw[List.mem_singleton.mp hb];exact nT) (λb hb=>by rw[List.mem_singleton.mp hb];exact lT) (λb hb=>by rw[List.mem_singleton.mp hb];exact⟨oT,ts,hT,hdT⟩) (λb hb p hp=>by rw[List.mem_singleton.mp hb];exact pT p (by simpa using hp))
   (λb o _ hc e=>(other b (by simpa using hc)).trans e) λb o _ hc e=>⟨o.slots,(other b (by simpa using hc)).trans e⟩
  have he1:=(other ea (Ne.symm hTe)).trans he;have hl1:(s.heap.update T (YbK (·.setIfInBounds 3 YbD))).FunFrames X.base (X.env::X.outer):=by rw[<- hst];exact I1.stack
  refine jgx (s:={ s with heap:=s.heap.update T (YbK (·.setIfInBounds 3 YbD)) }) hfr hl1 hf he1 hd (Array.getElem?_eq_some_iff.mp h1).1 λh' T' oe' oT' vs' ts' k sl zT g1 c1 c2 c3 c4 g2 c5 c6=>?_
  rw[<- hst]at k sl;have J:Inv X [] σ H { s with heap:=h' }:=Inv.left (s:={ s with heap:=s.heap.update T (YbK (·.setIfInBounds 3 YbD)) }) (ch:=[ea]) I1 (λb hb=>by rw[List.mem_singleton.mp hb];exact l.hn) (λb hb=>by rw[List.mem_singleton.mp hb];exact l.le) (λb hb=>by rw[List.mem_singleton.mp hb];exact⟨oe,vs,he1,hd⟩) (λb hb=>by rw[List.mem_singleton.mp hb];exact pe)
   (λb o hb hc e=>k b o hb (λz=>hc (by simp[z])) e) λb o hb hc e=>sl b o hb (λz=>hc (by simp[z])) e
  refine q h' J ⟨⟨oe',vs',g1,c1.trans hc,c2.trans hdx,c3,.inr ⟨T',oT',ts',c4,?_,g2,c5,c6,I1.hok.fresh zT,Yag I1.sz zT,λp hp z=>?_⟩⟩,l.hn,l.le,l.pn⟩
  ·exact λz=>absurd (Yan he1) (Nat.not_lt.mpr (z ▸ zT))
  ·exact absurd (Yan (I1.pin p (by simpa using hp)).1) (Nat.not_lt.mpr (z ▸ zT))
def CX1  (P:Program)(w:World):CXT:=λouter H s E e s'=>∃(ea:Addr) (H':Hp) (cls:Value) (dx:Option Addr),e=.ref ea/\s'.os=s.os/\AllBare s'.gens/\Un (frs outer) [] H H' s.heap s'.heap/\HOk P w H' s'.heap/\Lies s.heap.objs.size [] H' s'.heap ea cls dx/\E cls dx H'

def CX1.back  {σ: St}(I:Inv X pins σ H s)(h:CX1 X.prog X.w X.stack H s E e s'):∃(ea:Addr) (H':Hp) (cls:Value) (dx:Option Addr),e=.ref ea/\Inv X pins σ H' s'/\Lies X.s₀.heap.objs.size X.pn H' s'.heap ea cls dx/\E cls dx H':=by
 obtain⟨ea,H',cls,dx,rfl,os,bare,un,hok,l,q⟩:=h;have pn:∀b,s.heap.objs.size<=b->∀p∈X.pn,p.1≠b:=λb hb p hp z=>absurd (Yan (I.pin p (Ya8 _ hp)).1) (Nat.not_lt.mpr (z ▸ hb));refine⟨ea,H',cls,dx,rfl,I.call' (ch:=[]) os un hok bare (λb z=>absurd z (by simp)),⟨?_,l.hn,Yag I.sz l.le,pn ea l.le⟩,q⟩
 obtain⟨oe,vs,he,hc,hdx,hd,ht⟩:=l.ob;refine⟨oe,vs,he,hc,hdx,hd,ht.imp id ?_⟩;rintro⟨T,oT,ts,h1,h2,h3,h4,h5,h6,h7,_⟩;exact⟨T,oT,ts,h1,h2,h3,h4,h5,h6,Yag I.sz h7,pn T h7⟩
end L2

namespace L2
open PySem PySem.Spec PyProof.Rows PySem.W
open Builtin Builtin.ObjectAttr
section
variable {M:Model}{A:Around}{E:Value->Shared->Prop}{h:Heap}{g:Array GenState}{d:Drawn}{t:Nat}{os:OsState}
variable {nm q:Str}{C N D:Addr}{bs bmB:List Value}{hdct:Bool}{sn:List Str}{sub:List Value}{ab:Bool}{col:Option Bool}{dd:Option Addr}{k0 k1 k2 k3 k5:Option Value}{B newId:String}{mN mD:Str->Option Value}{name:Str}
structure Two (h:Heap)(C N D:Addr)(mN mD:Str->Option Value)(bmB:List Value)(newId:String):Prop where
 cls:∃nm q bs sn sub ab col dd k0 k1 k2 k3 k5,h.get? C=some (YcO nm q C N bs (.ref D::bmB) true sn sub ab col dd k0 k1 k2 k3 k5 newId)
 ns:h.Ns N mN
 low:∃c0 dd cd sl,h.get? D=some { cls:=c0,dict:=dd,data:=.cls cd,slots:=sl }/\h.Ns cd.ns mD
def Two.keeps  {h':Heap}(T:Two h C N D mN mD bmB newId)(k:∀b o,h.get? b=some o->h'.get? b=some o):Two h' C N D mN mD bmB newId:=by
 obtain⟨⟨nm,q,bs,sn,sub,ab,col,dd,k0,k1,k2,k3,k5,e⟩,n,c0,dd',cd,sl,e2,n2⟩:=T;exact⟨⟨nm,q,bs,sn,sub,ab,col,dd,k0,k1,k2,k3,k5,k _ _ e⟩,n.keeps k,c0,dd',cd,sl,k _ _ e2,n2.keeps k⟩
def Two.look    (T:Two h C N D mN mD bmB newId)(hB:Ya3 (.type B) name=pure y)(hm:mroOf (.type B)=pure bmB)(hN:mN name=none)(hD:mD name=none)(hq:Q y ⟨h,g,d,t,os⟩) :
  wpAny M A (Ya3 (.ref C) name) Q E ⟨h,g,d,t,os⟩:=by
 obtain⟨⟨nm,q,bs,sn,sub,ab,col,dd,k0,k1,k2,k3,k5,e⟩,n,c0,dd',cd,sl,e2,n2⟩:=T;have hr:lookupAlong bmB name=pure y:=by rw[YfH,hm]at hB;exact hB
 rw[YfH];refine Yae (YeX e ?_);rw[YeF];refine Yae (wpAny_classOwn_exc e n ?_);rw[hN];show wpAny M A (lookupAlong (.ref D::bmB) name) Q E _;rw[YeF];refine Yae (wpAny_classOwn_cls e2 n2 ?_);rw[hD];show wpAny M A (lookupAlong bmB name) Q E _;rw[hr];exact Yap hq
def Two.own    (T:Two h C N D mN mD bmB newId)(hN:mN name=some v)(hq:Q (some v) ⟨h,g,d,t,os⟩):wpAny M A (Ya3 (.ref C) name) Q E ⟨h,g,d,t,os⟩:=by
 obtain⟨⟨nm,q,bs,sn,sub,ab,col,dd,k0,k1,k2,k3,k5,e⟩,n,_⟩:=T;rw[YfH];refine Yae (YeX e ?_);rw[YeF];refine Yae (wpAny_classOwn_exc e n ?_);rw[hN];exact Yap hq
end
section
variable {prog:Program}{w:World}{A:Around}{E:Value->Shared->Prop}{h:Heap}{g:Array GenState}{d:Drawn}{t:Nat}{os:OsState}
variable {C N D x:Addr}{bmB:List Value}{B newId sa owner:String}{mN mD mA:Str->Option Value}{name:Str}{v:Value}
def Two.check      (T:Two h C N D mN mD bmB newId)(SF:Yc8 B bmB sa owner)(hx:h.get? x=some o)(hc:o.cls=.ref C)(hq:Q () ⟨h,g,d,t,os⟩) :
  wpAny M A (Ydm sa ⟨[.ref x,nameV,v],[]⟩) Q E ⟨h,g,d,t,os⟩:=by
 obtain⟨⟨nm,q,bs,sn,sub,ab,col,dd,k0,k1,k2,k3,k5,e⟩,_⟩:=T;have hb:(Ya5 C::.ref D::bmB).contains (.type owner)=true:=by rw[Yby,Yby,SF.hasOwner,Ycx,Ycx]
 have fin:wpAny M A (match YeP sa with|some sig=>Bind.checkArgs sa sig ⟨[.ref x,nameV,v],[]⟩|_=>pure ()) Q E ⟨h,g,d,t,os⟩:=by
  have ok:=SF.args (.ref x) nameV v;unfold argsOk at ok;generalize YeP sa=z at ok ⊢;cases z with
  |some sig=>exact wpAny_of_eq ok hq
  |none=>exact Yap hq
 unfold Ydm;rw[SF.kind,SF.split];refine Yae (m:=Yfv _ _) ?_;unfold Yfv
 repeat (first|(with_reducible refine YaB hx ?_;rw[hc])|(with_reducible refine YbO e ?_;rw[hb])|wp_step)
 exact fin
def Two.tail  (T:Two h C N D mN mD bmB newId)(hD:mD "__init__" = none):OwnTail h bmB (.ref D::bmB):=by
 obtain⟨_,_,c0,dd',cd,sl,e2,n2⟩:=T;exact .own e2 n2 hD .base
def Two.made   {rest:List Value}{Q:Fin->Shared->Prop}(T:Two h C N D mN mD bmB newId)(F:YeB B newId initId bmB)(hD:mD "__init__" = none)(hi:mN "__init__" = some (.ref fI))(hfI:h.get? fI=some oI)(hfc:oI.cls=.type "function")(hr:rest.length<=Yai)
  (hq:∀h' e,Heap.MadeExcOf h h' e (.ref C) rest->h.objs.size<=e->wpAny (model prog w) A (call (.ref fI) (.ref e::rest)) (λr s'=>r=.none/\Q (.done (.ret (.ref e))) s') E ⟨h',g,d,t,os⟩) :
  wpAny (model prog w) A (Builtin.«type.__call__» ⟨.ref C::rest,[]⟩) Q E ⟨h,g,d,t,os⟩:=by
 have tl:=T.tail hD;obtain⟨nm,q,bs,sn,sub,ab,col,dd,k0,k1,k2,k3,k5,e⟩:=T.cls
 repeat (first|with_reducible refine YaB e ?_|with_reducible refine wpAny_madeBy_exc e ?_|wp_step)
 refine codeAny_call_builtin_code (YfT _ F.quiet) (wpAny_check_new_subT F tl e (codeAny_exc_new_subT F tl e ?_ hr));show wpAny _ _ _ _ _ _;generalize hh:(h.push { cls:=.type "tuple",data:=.seq rest.toArray }).push { cls:=.ref C,data:=.fields #[.ref h.objs.size,.none,.none,.none,.bool false,.none] }=h1;have k:∀b o,h.get? b=some o->h1.get? b=some o:=λb o z=>by rw[<- hh];exact Yaf _ (Yaf _ z)
 have T1:=T.keeps k;have g1:h1.get? (h.objs.size+1)=some { cls:=.ref C,data:=.fields #[.ref h.objs.size,.none,.none,.none,.bool false,.none] }:=by rw[<- hh];heap_get
 have g2:h1.get? h.objs.size=some { cls:=.type "tuple",data:=.seq rest.toArray }:=by rw[<- hh];exact Yaf _ (Yf5 rfl rfl)
 have hc:(Ya5 C::.ref D::bmB).contains (.ref C)=true:=by simp
 have e1:=k _ _ e;unfold Yfv
 repeat (first|with_reducible refine YaB g1 ?_|(with_reducible refine YbO e1 ?_;rw[hc])|wp_step)
 show wpAny _ _ (Ya3 (.ref C) _) _ _ _;refine T1.own hi ?_;refine Ybo (Yae ?_);unfold bindSpecial;refine Yae (Yex (T := "function") ⟨_,k _ _ hfI,hfc⟩ ?_);rw[if_pos (by decide)]
 refine Yap (Yae (YaY (hq _ (h.objs.size+1) ⟨k,Ydp (YdI _),h.objs.size,g1,Ydp (Yah _),g2⟩ (YdI _)) (λr s' z=>?_) λ_ _ z=>z));obtain⟨rfl,z⟩:=z
 wp_walk
 exact z
def Two.make   {rest:List Value}{Q:Value->Shared->Prop}(T:Two h C N D mN mD bmB newId)(F:YeB B newId initId bmB)(hD:mD "__init__" = none)(hi:mN "__init__" = some (.ref fI))(hfI:h.get? fI=some oI)(hfc:oI.cls=.type "function")(hr:rest.length<=Yai)
  (hq:∀h' e,Heap.MadeExcOf h h' e (.ref C) rest->h.objs.size<=e->wpAny (model prog w) (A.under (.builtin "type.__call__" ⟨.ref C::rest,[]⟩)) (call (.ref fI) (.ref e::rest)) (λr s'=>r=.none/\Q (.ref e) s') E ⟨h',g,d,t,os⟩) :
  wpAny (model prog w) A (call (.ref C) rest) Q E ⟨h,g,d,t,os⟩:=by
 obtain⟨nm,q,bs,sn,sub,ab,col,dd,k0,k1,k2,k3,k5,e⟩:=T.cls;have f1:=tc_lookup;have f2:=tc_bind (.ref C);have ty:(⟨h,g,d,t,os⟩:Shared).TypeIs (.ref C) "type" := ⟨_,e,rfl⟩;refine wpAny_call (codeAny_of_tree ?_);show wpAny _ _ (callAny (.ref C) _) _ _ _
 repeat (any_goals (first|assumption|with_reducible refine YaB e ?_|wp_step))
 refine⟨rfl,codeAny_call_builtin_at (YfT _ (by decide +kernel)) entry_typeCall (wpAny_check_type_call_sub e (T.made (hr:=hr) F hD hi hfI hfc λh' e' hm hz=>?_))⟩
 exact hq h' e' hm hz
structure Reads (B:String)(bmB:List Value):Prop where
 ga:Slot B "__getattribute__" "BaseException.__getattribute__"
 mro:mroOf (.type B)=pure bmB
 no:Ya3 (.type B) "__getattr__" = pure none
 has:bmB.contains (.type "BaseException")=true
def Two.gaCheck      (T:Two h C N D mN mD bmB newId)(R:Reads B bmB)(hx:h.get? x=some o)(hc:o.cls=.ref C)(hq:Q () ⟨h,g,d,t,os⟩) :
  wpAny M A (Ydm "BaseException.__getattribute__" ⟨[.ref x,nameV],[]⟩) Q E ⟨h,g,d,t,os⟩:=by
 obtain⟨nm,q,bs,sn,sub,ab,col,dd,k0,k1,k2,k3,k5,e⟩:=T.cls;have c1:builtinKind "BaseException.__getattribute__" = some .slot:=by decide +kernel
 have c2:splitId "BaseException.__getattribute__" = some ("BaseException", "__getattribute__"):=by decide +kernel
 have hb:(Ya5 C::.ref D::bmB).contains (.type "BaseException")=true:=by rw[Yby,Yby,R.has,Ycx,Ycx]
 have ha:=F.args_bexc_ga (.ref x) nameV;simp only[Ydm,c1,c2];refine Yae ?_;unfold Yfv
 repeat (first|(with_reducible refine YaB hx ?_;rw[hc])|(with_reducible refine YbO e ?_;rw[hb])|wp_step)
 exact hq
def Two.gaEntry      (T:Two h C N D mN mD bmB newId)(R:Reads B bmB)(hx:h.get? x=some o)(hc:o.cls=.ref C)(hnc:∀c,o.data≠.cls c)(hd:o.dict=some dx)(hns:h.Ns dx mA)(hv:mA name=some v)
  (hB:Ya3 (.type B) name=pure none) (n1:mN name=none) (n2:mD name=none) (hq:Q (.done (.ret v)) ⟨h,g,d,t,os⟩) :
  wpAny (model prog w) A (Builtin.«object.__getattribute__» ⟨[.ref x,.str name tk],[]⟩) Q E ⟨h,g,d,t,os⟩:=by
 obtain⟨nm,q,bs,sn,sub,ab,col,dd,k0,k1,k2,k3,k5,e⟩:=T.cls;unfold Builtin.«object.__getattribute__»
 repeat (first|(with_reducible refine YaB hx ?_;rw[hc])|(with_reducible refine T.look hB R.mro n1 n2 ?_)|wp_step)
 split
 ·rename_i c z;exact absurd z (hnc c)
 unfold instanceDict
 repeat (first|(with_reducible refine YaB hx ?_;rw[hc])|with_reducible refine YaB e ?_|wp_step)
 rw[hd]
 repeat (first|(with_reducible refine wpAny_nsGet hns ?_;rw[hv])|wp_step)
 exact hq
def Two.get      (T:Two h C N D mN mD bmB newId)(R:Reads B bmB)(hx:h.get? x=some o)(hc:o.cls=.ref C)(hnc:∀c,o.data≠.cls c)(hd:o.dict=some dx)(hns:h.Ns dx mA)(hv:mA name=some v)(hh:handedOut v=pure v)
  (hB:Ya3 (.type B) name=pure none) (g1:mN "__getattribute__" = none) (g2:mD "__getattribute__" = none) (a1:mN "__getattr__" = none) (a2:mD "__getattr__" = none) (n1:mN name=none) (n2:mD name=none) (hq:Q v ⟨h,g,d,t+1,os⟩) :
  wpAny (model prog w) A (getAttr (.ref x) name expr) Q E ⟨h,g,d,t,os⟩:=by
 have f3:=R.ga.bind (.ref x);have c0:(expr&&onTheHeap (YcU "BaseException.__getattribute__"))=false:=by cases expr<;>rfl
 have c2:(YcU "BaseException.__getattribute__" == YcU "object.__getattribute__")=false:=by decide +kernel
 have c1:(onTheHeap (Ya5 C)&&YcU "BaseException.__getattribute__" == YcU "object.__getattribute__")=false:=by rw[c2];rfl
 unfold getAttr
 repeat (any_goals (first|assumption|(with_reducible refine YaB hx ?_;rw[hc])|(with_reducible refine T.look R.ga.lookup R.mro g1 g2 ?_)|(with_reducible refine T.look R.no R.mro a1 a2 ?_)|wp_step))
 refine YdS R.ga.plain F.entry_bexc_ga (T.gaCheck R hx hc (T.gaEntry R hx hc hnc hd hns hv hB n1 n2 ?_))
 repeat (any_goals (first|assumption|wp_step))
 all_goals first|exact hq|(rw[hh];exact Yap hq)|skip
def jeY {M:Model}{s:Shared}{dx:Addr}{tk:Tok}{mB:Str->Option Value}{ns:List Str}{Q:Fin->Shared->Prop}(n1:s.heap.Ns1 dx mB)(hw:Within mB ns)(hl:ns.length<Yai)
  (hq:∀h' tk',h'.Ns1 dx (λy=>if y=name then some v else mB y)->Ycw dx s.heap h'->Q (.done (.ret .none)) { s with heap:=h',toks:=tk' }) :
  wpAny M A (storeInDict dx (.str name tk) name v) Q E s:=by
 refine Yae (m:=newKeyGuard _ _ _) (Yap (Yae (wpAny_nsSet1 n1 λh' n2 sb=>?_)));rcases n2.count (Within.cons name v hw)with⟨o,es,ep,ho,hd,le⟩;have room:es.size<=Yai:=Yag le (by rw[YaT];exact hl)
 refine Yae (wpAny_lookBehind ho (hd ▸ pastItsLine_dict (Nat.le_succ_of_le room)) ?_);exact Yap (hq h' _ n2 sb)
def Two.put     {ns:List Str}(T:Two h C N D mN mD bmB newId)(SF:Yc8 B bmB sa owner)(n1:mN name=none)(n2:mD name=none)(hB:Ya3 (.type B) name=pure none)(hx:h.get? x=some o)(hc:o.cls=.ref C)(hnc:∀c,o.data≠.cls c)
  (hd:(o.dict=none/\∀n,mA n=none)\/∃dx,o.dict=some dx/\dx≠x/\h.Ns1 dx mA) (hw:Within mA ns) (hl:ns.length<Yai)
  (hq:∀h' tk' dx,(o.dict=some dx\/(o.dict=none/\dx=h.objs.size))->dx≠x->h'.get? x=some { o with dict:=some dx }->h'.Ns1 dx (λy=>if y=name then some v else mA y)->(∀b u,b≠x->b≠dx->h.get? b=some u->h'.get? b=some u)->Q (.done (.ret .none)) ⟨h',g,d,tk',os⟩) :
  wpAny (model prog w) A (Builtin.«object.__setattr__» ⟨[.ref x,.str name tk,v],[]⟩) Q E ⟨h,g,d,t,os⟩:=by
 obtain⟨nm,q,bs,sn,sub,ab,col,dd,k0,k1,k2,k3,k5,e⟩:=T.cls;have ps:=SF.passes (.ref x);unfold Builtin.«object.__setattr__»
 repeat (first|rw[refuse_eq]|(rw[refuseLoop_ref,refuseLoop_ref,ps])|(with_reducible refine YaB hx ?_;rw[hc])|with_reducible refine YeX e ?_|(with_reducible refine T.look hB SF.mro n1 n2 ?_)|with_reducible refine YaB e ?_|wp_step)
 rcases hd with⟨dn,ma⟩|⟨dx,de,dne,dns⟩
 ·rw[dn,if_neg (by simp[typeHasDict])]
  split
  ·rename_i z;cases z
  split
  ·rename_i c z;exact absurd z (hnc c)
  ·have xs:x≠h.objs.size:=Yaz (Yan hx);have x1:=Yaf { cls:=.type "dict",data:=.dict #[] } hx;refine Yae (wpAny_alloc' (Yae (wpAny_update' x1 (Yap ?_))));have fr:({ cls:=o.cls,dict:=some h.objs.size,data:=o.data,slots:=o.slots }:Obj).isFreed=false:=by
    have:=(Heap.get?_some_iff.mp hx).2;obtain⟨c1,c2,c3,c4⟩:=o;cases c3<;>first|rfl|exact this
   have x2:=Yb2 (λo=>({ cls:=o.cls,dict:=some h.objs.size,data:=o.data,slots:=o.slots }:Obj)) x1 fr;have d2:((h.push { cls:=.type "dict",data:=.dict #[] }).update x λo=>{ cls:=o.cls,dict:=some h.objs.size,data:=o.data,slots:=o.slots }).get? h.objs.size=some { cls:=.type "dict",data:=.dict #[] }:=(YfC _ _ _ _ xs.symm).trans (Yf5 rfl rfl);have k2:∀b u,b≠x->h.get? b=some u->((h.push { cls:=.type "dict",data:=.dict #[] }).update x λo=>{ cls:=o.cls,dict:=some h.objs.size,data:=o.data,slots:=o.slots }).get? b=some u:=λb u z e=>(YfC _ _ _ _ z).trans (Yaf _ e);generalize ((h.push { cls:=.type "dict",data:=.dict #[] }).update x λo=>{ cls:=o.cls,dict:=some h.objs.size,data:=o.data,slots:=o.slots })=h2 at x2 d2 k2 ⊢;have nd:h2.Ns h.objs.size (λ_=>none):=⟨_,#[],_,d2,rfl,λe he=>absurd he (by simp),λ_=>rfl⟩
   refine jeY (Heap.Ns1.of_empty nd) Within.nil (Nat.zero_lt_of_lt hl) λh' tk' hn' hs=>?_;refine hq h' tk' h.objs.size (.inr ⟨dn,rfl⟩) xs.symm ((hs.2 x xs).trans x2) ?_ λb u z1 z2 z=>(hs.2 b z2).trans (k2 b u z1 z);obtain⟨o',es,ep,e1,e2,e3,eu,e4⟩:=hn';exact⟨o',es,ep,e1,e2,e3,eu,λy=>by rw[e4 y];by_cases hy:y=name<;>simp[hy,ma]⟩
 ·rw[de];refine Yap (jeY dns hw hl λh' tk' hn' hs=>?_);refine hq h' tk' dx (.inl de) dne ?_ hn' λb u z1 z2 z=>(hs.2 b z2).trans z;rw[hs.2 x dne.symm,hx,<- de]
def Two.set    {ns:List Str}(T:Two h C N D mN mD bmB newId)(SF:Yc8 B bmB sa owner)(s1:mN "__setattr__" = none)(s2:mD "__setattr__" = none)(n1:mN name=none)(n2:mD name=none)(hB:Ya3 (.type B) name=pure none)(hx:h.get? x=some o)(hc:o.cls=.ref C)(hnc:∀c,o.data≠.cls c)
  (hd:(o.dict=none/\∀n,mA n=none)\/∃dx,o.dict=some dx/\dx≠x/\h.Ns1 dx mA) (hw:Within mA ns) (hl:ns.length<Yai)
  (hq:∀h' tk' dx,(o.dict=some dx\/(o.dict=none/\dx=h.objs.size))->dx≠x->h'.get? x=some { o with dict:=some dx }->h'.Ns1 dx (λy=>if y=name then some v else mA y)->(∀b u,b≠x->b≠dx->h.get? b=some u->h'.get? b=some u)->Q () ⟨h',g,d,tk',os⟩) :
  wpAny (model prog w) A (setAttr (.ref x) name v) Q E ⟨h,g,d,t,os⟩:=by
 have f3:=SF.slot.bind (.ref x);unfold setAttr callSpecial? specialOf
 repeat (any_goals (first|assumption|(with_reducible refine YaB hx ?_;rw[hc])|(with_reducible refine T.look SF.slot.lookup SF.mro s1 s2 ?_)|wp_step))
 refine YdS SF.slot.plain SF.entry (T.check SF hx hc (T.put SF n1 n2 hB hx hc hnc hd hw hl λh' tk' dx z1 z2 z3 z4 z5=>?_))
 repeat (any_goals (first|assumption|wp_step))
 exact hq h' tk' dx z1 z2 z3 z4 z5
end
def jbm  : Reads "ValueError" [.type "ValueError",.type "Exception",.type "BaseException",.type "object"] where
 ga:=.of (owner := "BaseException") (n := "__getattribute__") (by rw[Ycu,YbC];kernel_rfl) (by decide +kernel) (by decide +kernel) (by decide +kernel)
  (by first|exact .inl (by decide +kernel)|exact .inr (by decide +kernel)) (by rw[isSubtype_type];kernel_rfl)
 mro:=by kernel_rfl
 no:=by rw[Ycu,YbC];kernel_rfl
 has:=by decide

def Inv.sooner  {σ: St}(I:Inv X pins σ H s)(k:∀b o,sb.heap.get? b=some o->X.s₀.heap.get? b=some o)(ho:sb.os=X.s₀.os)(hz:sb.heap.objs.size<=X.s₀.heap.objs.size)(hb:∀b o,X.base.get? b=some o->sb.heap.get? b=some o/\X.H₀ b=none)(hbz:X.base.objs.size<=sb.heap.objs.size)(hf:sb.heap.FunFrames X.base X.outer) :
  Inv { X with s₀:=sb } pins σ H s:=by
 refine⟨⟨I.ok.mod,I.ok.kind,I.ok.glob,I.ok.blt,Yag hz I.ok.above,I.ok.inj,I.ok.has,λx c h e=>Yag hz (I.ok.cab x c h e),I.ok.hd,I.ok.frames,I.ok.stk,I.ok.exf,hb,hbz,I.ok.noex,I.ok.exfs,hf,I.ok.frf⟩,I.os.trans ho.symm,I.bare,(Un.kept k).trans I.base,I.loc,I.cell,I.free,I.freeC,I.pin,I.hok,I.len⟩
def Inv.xput  {σ: St}{e dx:Addr}(I:Inv X pins σ H s)(hH:H e=none)(hlo:X.s₀.heap.objs.size<=e)(ge:s.heap.get? e=some oe)(gd:oe.data=.fields vs)(hp:∀p∈X.pn++pins,p.1≠e)
  (hdx:s.heap.objs.size<=dx\/∃fs0,H dx=some (.xd fs0)) (k:∀b u,b≠e->b≠dx->s.heap.get? b=some u->h'.get? b=some u) (new:jaB X.prog X.w (upd H dx (.xd fs)) h' dx (.xd fs)):Inv X pins σ (upd H dx (.xd fs)) { s with heap:=h',toks:=t' }:=by
 have nt:∀b o,s.heap.get? b=some o->H b=none->b≠dx:=λb o g n z=>by
  rcases hdx with q|⟨fs0,q⟩
  ·rw[z]at g;exact absurd (Yan g) (Nat.not_lt.mpr q)
  ·rw[z,q]at n;cases n
 have ne:∀b u,H b=some u->b≠e:=λb u g z=>by rw[z,hH]at g;cases g
 have nx:∀b u,H b=some u->(∀f0,u≠.xd f0)->b≠dx:=λb u g hu z=>by
  rcases hdx with q|⟨fs0,q⟩
  ·rw[z,I.hok.fresh q]at g;cases g
  ·rw[z,q]at g;cases g;exact hu fs0 rfl
 obtain⟨od,god⟩:∃o,h'.get? dx=some o:=by obtain⟨_,⟨o,_,_,z,_⟩,_⟩:=new;exact⟨o,z⟩
 obtain⟨m0,⟨oL,esL,epL,gL,rL⟩,hLk⟩:=id I.loc;have hLe:X.env.locals≠e:=λz=>by
  rw[z,ge]at gL;cases gL;have:=rL.1;rw[gd]at this;cases this
 refine I.step (g':=s.gens) (d':=s.drawn) (ch:=[e]) (λb hb=>?_) (λb o _ _ hc g n=>k b o (λz=>hc (by simp[z])) (nt b o g n) g) (λb o _ _ hc g n=>⟨o.slots,k b o (λz=>hc (by simp[z])) (nt b o g n) g⟩) (λb o _ g n=>by rw[jac (nt b o g n)];exact n)
  (λb o hc g=>?_) (λb ys g=>by rw[jac (nx b _ g λ_ z=>nomatch z)];exact g) (λb o u g=>by rw[jac (nx b _ g λ_ z=>nomatch z)];exact g) (λb ps g=>⟨#[],by rw[jac (nx b _ g λ_ z=>nomatch z),g];simp⟩) (λm hm=>?_) (λa o g=>?_) I.bare
 ·have z:b=e:=by simpa using hb
  subst z;refine⟨.inr hlo,Ne.symm hLe,λx c q z=>?_,hp⟩;obtain⟨v,o',ho,hc⟩:=I.cell x c q;rw[z,ge]at ho;cases ho;rw[gd]at hc;cases hc
 ·by_cases z:b=dx
  ·exact⟨od,z ▸ god⟩
  ·exact⟨o,k b o (λz=>hc (by simp[z])) z g⟩
 ·obtain⟨o,es,ep,ho,r⟩:=hm;exact⟨o,es,ep,k _ o hLe (nt _ o ho I.free) ho,r⟩
 ·by_cases z:a=dx
  ·subst z;rw[jai]at g;cases g;exact new
  ·rw[jac z]at g;refine(I.hok a o g).stay (λb v hb q=>?_) (λb q=>by rw[jac (nx b _ q λ_ z=>nomatch z)];exact q) λb ys q=>by rw[jac (nx b _ q λ_ z=>nomatch z)];exact q
   rcases hb with z'|z'
   ·subst z';exact k b v (ne b _ g) z q
   ·exact k b v (ne b _ z') (nx b _ z' λ_ z=>nomatch z) q
theorem jeR   : ∀{fs:List (Str×V)},g∉fs.map (·.1)->fs.lookup g=none
 |[],_=>rfl
 |(a,v)::r,h=>by
  rw[YaZ];have:(g==a)=false:=by
   rw[beq_eq_false_iff_ne];exact λz=>h (by rw[z];simp)
  rw[this];exact jeR λz=>h (by simp at z ⊢;exact .inr z)
def xset  {σ: St}(I:Inv X pins σ H s)(T:Two s.heap C N D mN mD bmB newId)(SF:Yc8 B bmB sa owner)
  (s1:mN "__setattr__" = none) (s2:mD "__setattr__" = none) (n1:mN f=none) (n2:mD f=none) (hB:Ya3 (.type B) f=pure none) (hH:H e=none) (hlo:X.s₀.heap.objs.size<=e) (ge:s.heap.get? e=some oe) (hc:oe.cls=.ref C) (gd:oe.data=.fields vs) (hp:∀p∈X.pn++pins,p.1≠e)
  (hd:(oe.dict=none/\fs=[])\/∃dx,oe.dict=some dx/\H dx=some (.xd fs)) (hl:fs.length<1000) (ru:RelV v u)
  (q:∀s' dx,Inv X pins σ (upd H dx (.xd (putF f v fs))) s'->s'.heap.get? e=some { oe with dict:=some dx }->(∀b u,b≠e->b≠dx->s.heap.get? b=some u->s'.heap.get? b=some u)->(oe.dict=some dx\/(oe.dict=none/\H dx=none))->Q () s') :
  wpAny (model X.prog X.w) A (setAttr (.ref e) f u) Q E s:=by
 have nc:∀c,oe.data≠.cls c:=λc z=>by rw[gd]at z;cases z
 have fin:∀(mA:Str->Option Value) (h':Heap) (tk:Nat) (dx:Addr),(∀g,RelO (fs.lookup g) (mA g))->(s.heap.objs.size<=dx\/∃fs0,H dx=some (.xd fs0))->(oe.dict=some dx\/(oe.dict=none/\H dx=none))->h'.get? e=some { oe with dict:=some dx }->h'.Ns1 dx (λy=>if y=f then some u else mA y)->(∀b u,b≠e->b≠dx->s.heap.get? b=some u->h'.get? b=some u)->Q () { s with heap:=h',toks:=tk }:=λmA h' tk dx r z0 z1 z2 z3 z4=>by
  refine q _ dx (I.xput hH hlo ge gd hp z0 z4 ⟨_,z3,λg=>?_⟩) z2 z4 z1;rw[jdc];by_cases hg:g=f
  ·rw[if_pos hg,if_pos hg];exact ru
  ·rw[if_neg hg,if_neg hg];exact r g
 obtain⟨hh,gg,dr,tk,os⟩:=s;rcases hd with⟨dn,rfl⟩|⟨dx,de,hx⟩
 ·refine T.set (mA:=λ_=>none) (ns:=[]) SF s1 s2 n1 n2 hB ge hc nc (.inl ⟨dn,λ_=>rfl⟩) Within.nil (by rw[YbP];decide) λh' tk' dx z1 z2 z3 z4 z5=>?_
  rcases z1 with z1|⟨_,rfl⟩
  ·rw[dn]at z1;cases z1
  ·exact fin (λ_=>none) h' tk' _ (λg=>YbM) (.inl (Yah _)) (.inr ⟨dn,I.hok.fresh (Yah _)⟩) z3 z4 z5
 ·obtain⟨mA,n,r⟩:=(show jaB X.prog X.w H hh dx (.xd fs)from I.hok dx _ hx);refine T.set (mA:=mA) (ns:=fs.map (·.1)) SF s1 s2 n1 n2 hB ge hc nc (.inr ⟨dx,de,λz=>(by rw[z,hH]at hx;cases hx),n⟩) (λg hg=>?_) (by rw[Yaa,YbP];lia) λh' tk' dx' z1 z2 z3 z4 z5=>?_
  ·refine Yd7 λz=>hg ?_;have:=r g;rw[jeR z]at this;exact RelO.none_of this
  ·rcases z1 with z1|⟨z1,_⟩
   ·have z:dx'=dx:=by rw[de]at z1;exact(Yar z1).symm
    subst z;exact fin _ h' tk' _ r (.inr ⟨fs,hx⟩) (.inl de) z3 z4 z5
   ·rw[de]at z1;cases z1
def xstep  {σ: St}{C N D e:Addr}{f self a:Str}{v:V}{vs:Array Value}{i j:Nat}(I:Inv X [(e,oe)] σ H s)(hpn:X.pn=[])(T:Two X.base C N D mN mD bmB newId)(SF:Yc8 B bmB sa owner)
  (s1:mN "__setattr__" = none) (s2:mD "__setattr__" = none) (n1:mN f=none) (n2:mD f=none) (hB:Ya3 (.type B) f=pure none) (hlo:X.s₀.heap.objs.size<=e) (hc:oe.cls=.ref C) (gd:oe.data=.fields vs) (hd:(oe.dict=none/\fs=[])\/∃dx,oe.dict=some dx/\H dx=some (.xd fs)) (hl:fs.length<1000)
  (hs:PE X (.Name self p1) (tVar i)) (ha:PE X (.Name a p3) (tVar j)) (hi:σ[i]?=some (some (.ref e))) (hj:σ[j]?=some (some v)) (hsw:YbU (.Name a p3) (some (.Attribute (.Name self p1) f p2)) pos.line X.env=pure false)
  (q:∀s' dx,Inv X [(e,{ oe with dict:=some dx })] σ (upd H dx (.xd (putF f v fs))) s'->(oe.dict=some dx\/(oe.dict=none/\H dx=none))->Q .next s') :
  wpAny (model X.prog X.w) X.A (exec (.Assign [.Attribute (.Name self p1) f p2] (.Name a p3) pos) X.env) Q X.xe s:=by
 refine plainObj_wpAny_Assign_Attribute (thn (ha _ s σ H (λy H1=>y=v/\H1=H) I ⟨v,hj,rfl,rfl⟩) λu s3 ⟨y,H1,I1,ry,hy,hH1⟩=>?_) hsw;subst hy;subst hH1;refine thn (hs _ s3 σ H1 (λz H2=>z=.ref e/\H2=H1) I1 ⟨_,hi,rfl,rfl⟩) λov s4 ⟨z,H2,I2,rz,hz,hH2⟩=>?_;subst hz;subst hH2;obtain rfl:ov=Ya5 e:=rz;obtain⟨ge,hH,hL,hfs,hcl⟩:=I2.pin (e,oe) (by simp)
 have J:Inv X [] σ H2 s4:=I2.pins_of λp hp=>absurd hp (by simp)
 refine xset J (T.keeps I2.bk) SF s1 s2 n1 n2 hB hH hlo ge hc gd (λp hp=>by rw[hpn]at hp;simp at hp) hd hl ry λs5 dx J5 g5 k5 z5=>?_
 refine q s5 dx (J5.pins_of λp hp=>?_) z5;obtain rfl:p=(e,{ oe with dict:=some dx }):=by simpa using hp
 refine⟨g5,?_,hL,hfs,λv z=>hcl v z⟩;show upd H2 dx _ e=none;rw[jac,hH];rintro rfl;rcases z5 with z5|z5
 ·rcases hd with⟨w0,_⟩|⟨dx',w1,w2⟩
  ·rw[w0]at z5;cases z5
  ·rw[w1]at z5;cases z5;rw[hH]at w2;cases w2
 ·have:=J5.free;obtain⟨_,_,_⟩:=J5.hok e _ jai;rename_i mA n r;obtain⟨o',es,ep,g',d',_⟩:=n;rw[g5]at g';cases g';rw[show({ oe with dict:=some e }:Obj).data=oe.data from rfl,gd]at d';cases d'
def jje {CX:CXT}{P:Program}{w:World}{K:Yac}{mg:Str->Option Value}{base:Heap}{k:Nat}{f:Addr}{name qual:Str}{params:Ygl}{body:List Stmt}{scope:Scope}{dV kV doc pm cdv ct oc:Value}{an od:Option Addr}{osl:Array (Option Value)}{N ps:List Str}
  {A:Around} {outer:List Env} {s sb:Shared} {H:Hp} {E:XK} {args:Args} {us:List Value} {vs:List V} {e:Addr} {oe:Obj} {R:Result->Shared->Prop}
  (lk:K.lookup f=some ⟨oc,od,.func (Yba name qual params body scope dV kV doc pm an cdv ct),osl⟩) (hcd:Ybx K cdv qual=true) (S:FnScope N ps scope) (hr:Room (k+1) A) (e0:Env0 P w K mg base A outer s H)
  (hb:BindsTo s (Yba name qual params body scope dV kV doc pm an cdv ct) args (ps.zip us)) (r:Vals vs us) (hl:vs.length=ps.length) (ge:s.heap.get? e=some oe) (hH:H e=none) (hnc:∀v,oe.data≠.cell v) (hfr:e∉frs outer)
  (kb:∀b o,sb.heap.get? b=some o->s.heap.get? b=some o) (hos:sb.os=s.os) (hz:sb.heap.objs.size<=s.heap.objs.size) (hbs:∀b o,base.get? b=some o->sb.heap.get? b=some o/\H b=none) (hbz:base.objs.size<=sb.heap.objs.size) (hfn:sb.heap.FunFrames base outer)
  (hbody:∀s1,Inv { cxOf CX P w K mg base N qual scope f cdv A outer s H E with s₀:=sb } [(e,oe)] (start N vs) H s1->wpAny (model P w) (A.deeper (envOfC qual scope s.heap.objs.size f cdv)) (execs body (envOfC qual scope s.heap.objs.size f cdv)) (λfl s'=>fl=.next/\R (.ok (.ret .none)) s') (λ_ _=>False) s1) :
  codeAny (model P w) A (.call (.ref f) args) R s:=by
 have KX:K.In s.heap:=e0.mod.kin.keeps λb o z=>(e0.bs b o z).1;have lim:s.heap.NoLimit:=e0.mod.nolimit.keeps λb o z=>(e0.bs b o z).1;have kind:∀y∈ps.zip us,scope.names.lookup y.1=some .local\/(scope.names.lookup y.1=some .cell/\((Ybm (s.heap.objs.size+1) scope.names []).lookup y.1).isSome=true):=λ⟨n,v⟩ hy=>by
  rcases S.par n (Ydb hy).1 with q|q
  ·exact .inl q
  ·exact .inr ⟨q,YcV _ _ _ (.inl q)⟩
 refine Yge hr.depth (KX _ _ lk) rfl S.co S.gen rfl (Ye9 KX hcd) (hb _ _ _ _ ?_);refine Ye7 S.kind kind λenv he s1 x=>?_;subst he;refine⟨lim.keeps x.toInCall.keep,codeAny_func ?_⟩;have I:Inv (cxOf CX P w K mg base N qual scope f cdv A outer s H E) [] (start N vs) H s1:=jeX S hr.hd e0 hl r x;have I1:Inv { cxOf CX P w K mg base N qual scope f cdv A outer s H E with s₀:=sb } [] (start N vs) H s1:=I.sooner kb hos hz hbs hbz hfn
 have I2:Inv { cxOf CX P w K mg base N qual scope f cdv A outer s H E with s₀:=sb } [(e,oe)] (start N vs) H s1:=I1.pins_of λp hp=>by
  obtain rfl:p=(e,oe):=by simpa using hp
  exact⟨x.toInCall.keep _ _ ge,hH,Yaz (Yan ge),hfr,hnc⟩
 refine YaY (hbody s1 I2) (λfl s' ⟨z,h⟩=>?_) λ_ _ z=>z.elim;subst z;exact h

def jfe  (X:Cx)(C:Addr)(s:Shared)(H:Hp)(Nm:List Str)(qual:Str)(scope:Scope)(fI:Addr)(cdv:Value)(body:List Stmt)(vs:List V)(fs:List (Str×V)):Prop:=
 ∀(A':Around) (sM s1:Shared) (e t:Addr),Inv { cxOf (CX1 X.prog X.w) X.prog X.w X.K X.mg X.base Nm qual scope fI cdv A' X.stack sM H (λ_ _ _=>False)with s₀:=s } [(e,{ cls:=.ref C,data:=.fields #[.ref t,.none,.none,.none,.bool false,.none] })] (start Nm (.ref e::vs)) H s1->s.heap.objs.size<=e->
  wpAny (model X.prog X.w) (A'.deeper (envOfC qual scope sM.heap.objs.size fI cdv)) (execs body (envOfC qual scope sM.heap.objs.size fI cdv)) (λfl s'=>fl=.next/\∃dx,H dx=none/\Inv { cxOf (CX1 X.prog X.w) X.prog X.w X.K X.mg X.base Nm qual scope fI cdv A' X.stack sM H (λ_ _ _=>False)with s₀:=s } [(e,{ cls:=.ref C,dict:=some dx,data:=.fields #[.ref t,.none,.none,.none,.bool false,.none] })] (start Nm (.ref e::vs)) (upd H dx (.xd fs)) s') (λ_ _=>False) s1
def xmake  {σ: St}{dV kV doc pm cdv ct:Value} 
  (I:Inv X pins σ H s) (T:Two X.base C N D mN mD bmB newId) (F:YeB B newId initId bmB) (hD:mD "__init__" = none) (hi:mN "__init__" = some (.ref fI)) (lk:X.K.lookup fI=some ⟨.type "function",od,.func (Yba name qual params body scope dV kV doc pm an cdv ct),osl⟩) (hcd:Ybx X.K cdv qual=true) (S:FnScope Nm ps scope) (hr:Room (k+2) X.A)
  (hb:Binds X.K (Yba name qual params body scope dV kV doc pm an cdv ct) ps []) (r:Vals vs us) (hl:vs.length+1=ps.length) (hz:us.length<=Yai) (hbody:jfe X C s H Nm qual scope fI cdv body vs fs)
  (q:∀e dx s',H dx=none->Inv X pins σ (upd H dx (.xd fs)) s'->Lies X.s₀.heap.objs.size X.pn (upd H dx (.xd fs)) s'.heap e (.ref C) (some dx)->(∃t,s'.heap.get? e=some { cls:=.ref C,dict:=some dx,data:=.fields #[.ref t,.none,.none,.none,.bool false,.none] })->Q (.ref e) s'):wpAny (model X.prog X.w) X.A (call (.ref C) us) Q X.xe s:=by
 obtain⟨hh,gg,dr,tk,os⟩:=s;have I0:=I;refine(T.keeps I.bk).make F hD hi (I.kIn _ _ lk) rfl hz λh' e hm he=>?_;obtain⟨t,ge,_,_⟩:=hm.there;have e0:=I.env0.make C us [];have e1:Env0 X.prog X.w X.K X.mg X.base (X.A.under (.builtin "type.__call__" ⟨.ref C::us,[]⟩)) X.stack ⟨h',gg,dr,tk,os⟩ H:=⟨e0.frames,e0.mod,λb o z=>⟨hm.keeps _ _ (e0.bs b o z).1,(e0.bs b o z).2⟩,Yag e0.bsz (Ycp (YbB he (Yan ge))),e0.funs.of_keeps λb o z _=>⟨o,hm.keeps _ _ z,rfl⟩,e0.frf,e0.hok.kept hm.keeps,e0.bare⟩;have hH:H e=none:=I.hok.fresh he;refine wpAny_call ?_;refine jje (k:=k) (CX:=CX1 X.prog X.w) (E:=λ_ _ _=>False) (sb:=⟨hh,gg,dr,tk,os⟩) (us:=.ref e::us) (vs:=.ref e::vs) lk hcd S (hr.make C us []) e1 ?_ (.cons rfl r) (by simpa using hl) ge hH (λv z=>by cases z) (λz=>?_) hm.keeps rfl (Ycp (YbB he (Yan ge))) e0.bs e0.bsz e0.funs λs1 J=>?_
 ·have:=hb ⟨h',gg,dr,tk,os⟩ (.ref e::us) (e1.mod.kin.keeps λb o z=>(e1.bs b o z).1) (by simp;have:=r.length;lia)
  simpa using this
 ·obtain⟨_,o,ho,_⟩:=e0.funs.mem z;exact absurd (Yan ho) (Nat.not_lt.mpr he)
 ·refine YaY (hbody _ _ s1 e t J he) (λfl s' ⟨z,dx,hdx,J'⟩=>⟨z,rfl,?_⟩) λ_ _ z=>z;have Ix:Inv X pins σ (upd H dx (.xd fs)) s':=I.call' (ch:=[]) J'.os J'.base J'.hok J'.bare λb z=>absurd z (by simp)
  obtain⟨g1,g2,_⟩:=J'.pin _ (YaN _ (List.mem_singleton.mpr rfl));refine q e dx s' hdx Ix ⟨⟨_,_,g1,rfl,rfl,rfl,.inl rfl⟩,g2,Yag I.sz he,λp hp z=>?_⟩ ⟨t,g1⟩;exact absurd (Yan (I.pin p (Ya8 _ hp)).1) (Nat.not_lt.mpr (z ▸ he))

def jpE  {pos: Pos}{v: V}(T:Two X.base C N D mN mD bmB newId)(SF:Yc8 B bmB sa owner)(s1:mN "__setattr__" = none)(s2:mD "__setattr__" = none)(n1:mN f=none)(n2:mD f=none)(hB:Ya3 (.type B) f=pure none)
  (h0:Vis scope self) (h1:Vis scope a) (d0:(self==("__debug__" : Str))=false) (d1:(a==("__debug__" : Str))=false) (c0:(self==("__classdict__" : Str))=false) (c1:(a==("__classdict__" : Str))=false)
  (sw:∀env,YbU (.Name a p3) (some (.Attribute (.Name self p1) f p2)) pos.line env=pure false) :
  jfe X C s H [self,a] qual scope fI cdv [.Assign [.Attribute (.Name self p1) f p2] (.Name a p3) pos] [v] [(f,v)]:=by
 intro A' sM s1' e t J he;have J':=J.wish λ_ _=>False;refine YcF (xstep (X:=Cx.wish _ λ_ _=>False) (i:=0) (j:=1) (fs:=[]) J' rfl T SF s1 s2 n1 n2 hB he rfl rfl (.inl ⟨rfl,rfl⟩) (by decide) (jb0 rfl h0 d0 c0) (jb0 rfl h1 d1 c1) rfl rfl (sw _) λs' dx K z=>?_)
 refine Yap ⟨rfl,dx,?_,K.unwish⟩;rcases z with z|z
 ·cases z
 ·exact z.2
def jpD  {a2: Str}{scope: Scope}{cdv: Value}{p1: Pos}{p2: Pos}{p3: Pos}{pos: Pos}{q1: Pos}{q2: Pos}{q3: Pos}{qos: Pos}{v: V}{v2: V}(T:Two X.base C N D mN mD bmB newId)(SF:Yc8 B bmB sa owner)(s1:mN "__setattr__" = none)(s2:mD "__setattr__" = none)(n1:mN f=none)(n2:mD f=none)(hB:Ya3 (.type B) f=pure none)(m1:mN f2=none)(m2:mD f2=none)(hB2:Ya3 (.type B) f2=pure none)(hne:f≠f2)
  (h0:Vis scope self) (h1:Vis scope a) (h2:Vis scope a2) (d0:(self==("__debug__" : Str))=false) (d1:(a==("__debug__" : Str))=false) (d2:(a2==("__debug__" : Str))=false) (c0:(self==("__classdict__" : Str))=false) (c1:(a==("__classdict__" : Str))=false) (c2:(a2==("__classdict__" : Str))=false)
  (sw:∀env,YbU (.Name a p3) (some (.Attribute (.Name self p1) f p2)) pos.line env=pure false) (sw2:∀env,YbU (.Name a2 q3) (some (.Attribute (.Name self q1) f2 q2)) qos.line env=pure false) :
  jfe X C s H [self,a,a2] qual scope fI cdv [.Assign [.Attribute (.Name self p1) f p2] (.Name a p3) pos,.Assign [.Attribute (.Name self q1) f2 q2] (.Name a2 q3) qos] [v,v2] [(f,v),(f2,v2)]:=by
 intro A' sM s1' e t J he;have J':=J.wish λ_ _=>False;refine YcF (xstep (X:=Cx.wish _ λ_ _=>False) (i:=0) (j:=1) (fs:=[]) J' rfl T SF s1 s2 n1 n2 hB he rfl rfl (.inl ⟨rfl,rfl⟩) (by decide) (jb0 rfl h0 d0 c0) (jb0 rfl h1 d1 c1) rfl rfl (sw _) λs' dx K z=>?_)
 have hn:H dx=none:=by
  rcases z with z|z
  ·cases z
  ·exact z.2
 refine YcF (xstep (X:=Cx.wish _ λ_ _=>False) (i:=0) (j:=2) (fs:=[(f,v)]) K rfl T SF s1 s2 m1 m2 hB2 he rfl rfl (.inr ⟨dx,rfl,jai⟩) (by simp) (jb0 rfl h0 d0 c0) (jb0 rfl h2 d2 c2) rfl rfl (sw2 _) λs'' dx' K2 z2=>?_)
 have e1:dx'=dx:=by
  rcases z2 with z2|z2
  ·exact(Yar z2).symm
  ·exact nomatch z2.1
 subst e1;have K3:=K2.unwish;have e2:putF f2 v2 [(f,v)]=[(f,v),(f2,v2)]:=by show(if f=f2 then _ else _)=_;rw[if_neg hne];rfl
 have e3:upd (upd H dx' (.xd (putF f v []))) dx' (.xd (putF f2 v2 [(f,v)]))=upd H dx' (.xd [(f,v),(f2,v2)]):=by
  rw[e2];funext b;by_cases hb:b=dx'
  ·rw[hb,jai,jai]
  ·rw[jac hb,jac hb,jac hb]
 rw[e3]at K3;exact Yap ⟨rfl,dx',hn,K3⟩

def Two.raise     (hbase:bmB.contains (.type "BaseException")=true)(hh:A.handled=none)
  (h:wpAny M A x (λv s1=>∃e t dx,v=.ref e/\Two s1.heap C N D mN mD bmB newId/\s1.heap.get? e=some { cls:=.ref C,dict:=some dx,data:=.fields #[.ref t,.none,.none,.none,.bool false,.none] }/\E (.ref e) s1) E s):wpAny M A (raiseStmt env (some x) none) Q E s:=by
 have hb:(Ya5 C::.ref D::bmB).contains (.type "BaseException")=true:=by rw[Yby,Yby,hbase,Ycx,Ycx]
 unfold raiseStmt;refine Yae (YaY h (λv s1 h1=>?_) λ_ _ z=>z);obtain⟨e,t,dx,rfl,T,he,hE⟩:=h1;obtain⟨nm,q,bs,sn,sub,ab,col,dd,k0,k1,k2,k3,k5,hC⟩:=T.cls;obtain⟨hp,g,d,tk,os⟩:=s1
 repeat (first|with_reducible refine YaB he ?_|with_reducible refine YaB hC ?_|(with_reducible refine YbO hC ?_;rw[hb])|wp_step)
 exact wpAny_raiseNew_none hh hE
def jjJ  (X:Cx)(C:Addr)(n:Nat)(mk:List V->List (Str×V))(t:TA):TS:=λ_ σ H=>t σ H λvs H1=>vs.length=n/\∀(pins:List (Addr×Obj)) (e dx:Addr) (s':Shared),H1 dx=none->Inv X pins σ (upd H1 dx (.xd (mk vs))) s'->Lies X.s₀.heap.objs.size X.pn (upd H1 dx (.xd (mk vs))) s'.heap e (.ref C) (some dx)->X.xe (.ref e) s'
def jiX {X:Cx}{C N D fI:Addr}{bmB:List Value}{B newId initId:String}{mN mD:Str->Option Value}{k:Nat}{name qual x:Str}{params:Ygl}{body:List Stmt}{scope:Scope}{dV kV doc pm cdv ct:Value}{an od:Option Addr}{osl:Array (Option Value)}{Nm ps:List Str}{mk:List V->List (Str×V)}{t:TA}{a0:Expr}{as:List Expr}{p cpos pos:Pos}{n:Nat}
  (T:Two X.base C N D mN mD bmB newId) (F:YeB B newId initId bmB) (hD:mD "__init__" = none) (hi:mN "__init__" = some (.ref fI)) (lk:X.K.lookup fI=some ⟨.type "function",od,.func (Yba name qual params body scope dV kV doc pm an cdv ct),osl⟩) (hcd:Ybx X.K cdv qual=true) (S:FnScope Nm ps scope) (hr:Room (k+2) X.A)
  (hb:Binds X.K (Yba name qual params body scope dV kV doc pm an cdv ct) ps []) (hn:n+1=ps.length) (hn8:n<=8) (hbase:bmB.contains (.type "BaseException")=true) (hg:Gl X x) (hm:X.mg x=some (.ref C)) (hk:Ybc X.K (.ref C)=true) (ha:PA X (a0::as) t) (hbody:∀(vs:List V) (s:Shared) (H:Hp),vs.length=n->jfe X C s H Nm qual scope fI cdv body vs (mk vs))
  (hdb:(x==("__debug__" : Str))=false:=by decide) (he:YaA (a0::as) X.env=(false,eval a0 X.env)::YaA as X.env:=by rfl) (hpl:(backTo cpos (YaA as X.env)).any (·.1)=false:=by rfl) :
  PS X (.Raise (some (.Call (.Name x p) (a0::as) [] cpos)) none pos) (jjJ X C n mk t):=by
 intro pins s σ H D0 I h;have go:wpAny (model X.prog X.w) X.A (eval (.Call (.Name x p) (a0::as) [] cpos) X.env) (λv s1=>∃e t dx,v=.ref e/\Two s1.heap C N D mN mD bmB newId/\s1.heap.get? e=some { cls:=.ref C,dict:=some dx,data:=.fields #[.ref t,.none,.none,.none,.bool false,.none] }/\X.xe (.ref e) s1) X.xe s:=by
  refine Yb6 (jdd I hg hm ?_ hdb);refine Yfa (h₀:=X.base) I.ok.mod.kin hk (thn (ha cpos pins s σ H _ I h) λus s1 ⟨vs,H1,I1,r,hl,q⟩=>⟨I1.kIn,?_⟩) he hpl;refine xmake (k:=k) I1 T F hD hi lk hcd S hr hb r (by lia) (by have:=r.length;rw[YbP,YbG];lia) (hbody vs s1 H1 hl) λe dx s' z1 J l ⟨t',g⟩=>?_
  exact⟨e,t',dx,rfl,T.keeps J.bk,g,q pins e dx s' z1 J l⟩
 rw[arm_exec_Raise]
 first
  |exact Yae (Ybn (Two.raise hbase hr.hd (Yae (YaY go (λv s1 z=>Yae (Ybn (Yap z))) λ_ _ z=>z))))
  |(simp only[evalOpt,Yeu];exact Yae (Ybn (Two.raise hbase hr.hd (Yae (YaY go (λv s1 z=>Yae (Ybn (Yap z))) λ_ _ z=>z)))))
def jhR    {σ:St}(I:Inv X pins σ H s)(hN:X.N.Nodup)(hi:X.N[i]?=some x)(hk:X.env.scope.names.lookup x=some .local)
  (h:∀s',Inv X pins (σ.set i none) H s'->Q () s'):wpAny M A (do YcC X.env x .none;unbindBehindTheSuite X.env x pos) Q E s:=by
 obtain⟨m,hn,hl⟩:=id I.loc;have hcls:(X.env.scope.kind == .class||(X.env.scope.kind == .module&&X.env.locals != X.env.globals))=false:=by rw[I.ok.kind];rfl
 have hiσ:i<σ.length:=by rw[I.len];exact(List.getElem?_eq_some_iff.mp hi).1
 have cne:=I.cne;refine wpAny_nameGoes_keeps hk hn hcls λh' v hn' hs=>?_;have lt0:∀b o,X.s₀.heap.get? b=some o->b≠X.env.locals:=λb o e=>Yaz (Yas (Yan e) I.ok.above);have tr:HOk X.prog X.w H h':=λb ob e=>by
  refine(I.hok b ob e).stay (λc w' hc q=>(hs.2 c ?_).trans q) (λ_ q=>q) λ_ _ q=>q;rintro rfl;rcases hc with rfl|hc
  ·rw[I.free]at e;cases e
  ·rw[I.free]at hc;cases hc
 refine h _ ⟨I.ok,I.os,I.bare,⟨λb o e n hb hx=>(hs.2 b (lt0 b o e)).trans (I.base.keep b o e n hb hx),λb o e n hb hx=>?_,I.base.free,λb o e hx=>?_,I.base.tups,I.base.frzs,I.base.tbls⟩,⟨_,hn',λj y v' e1 e2 e3=>?_⟩,λy c e=>?_,I.free,I.freeC,λp hp=>?_,tr,by simpa using I.len⟩
 ·obtain⟨sl,e1⟩:=I.base.slot b o e n hb hx;exact⟨sl,(hs.2 b (lt0 b o e)).trans e1⟩
 ·obtain⟨o',e1⟩:=I.base.there b o e hx;exact⟨o',(hs.2 b (lt0 b o e)).trans e1⟩
 ·by_cases hj:j=i
  ·subst hj;rw[Ybi hiσ]at e2;cases e2
  ·rw[YaS (Ne.symm hj)]at e2;have hy:y≠x:=λz=>hj (jej hN e1 (z ▸ hi));obtain⟨u,r,l⟩:=hl j y v' e1 e2 e3;refine⟨u,r,l.imp (λz=>⟨z.1,by show(if y=x then v else m y)=some u;rw[if_neg hy];exact z.2⟩) λz=>⟨z.1,?_⟩⟩
   obtain⟨c,ec,o,ho,hd⟩:=z.2;exact⟨c,ec,o,(hs.2 c (cne y c ec)).trans ho,hd⟩
 ·obtain⟨w',o,ho,hd⟩:=I.cell y c e;exact⟨w',o,(hs.2 c (cne y c e)).trans ho,hd⟩
 ·obtain⟨p1,p2,p3,p4⟩:=I.pin p hp;exact⟨(hs.2 p.1 p3).trans p1,p2,p3,p4⟩
end L2

namespace L2
open PySem PySem.Spec PyProof.Rows PySem.W

def jfG  {os: OsState}{sub: List Value}(hC:h.get? C=some (YcO nm q C N bs bm hdct sn sub ab col dd k0 k1 k2 k3 k5 newId))(hD:h.get? D=some (YcO nm' q' D ND bs' bm' hdct' sn' sub' ab' col' dd' l0 l1 l2 l3 l5 newId'))(he:h.get? e=some oe)(hcls:oe.cls=.ref C)(hb:bm'.contains (.type "BaseException")=true)
  (hq:Q ((Ya5 C::bm).contains (.ref D)) ⟨h,g,d,t,os⟩):wpAny M A (excMatches (.ref e) (.ref D)) Q E ⟨h,g,d,t,os⟩:=by
 have hB:(Ya5 D::bm').contains (.type "BaseException")=true:=by rw[Yby,hb,Ycx]
 have f:=tc_notTuple;obtain⟨b,eb⟩:∃b,b=(Ya5 C::bm).contains (.ref D):=⟨_,rfl⟩;rw[<- eb]at hq;unfold excMatches
 repeat (first|(with_reducible refine YaB he ?_;rw[hcls])|with_reducible refine YaB hD ?_|(with_reducible refine YbO hD ?_;rw[hB])|(with_reducible refine YbO hC ?_;rw[<- eb])|wp_step)
 cases b with
 |true=>wp_walk;exact hq
 |false=>wp_walk;exact hq

def je0  {σ: St}(I:Inv X [] σ H s)(l:Lies X.s₀.heap.objs.size X.pn H s.heap ea cls dx)
  (q:∀h',Inv X [] σ H { s with heap:=h' }->Lies X.s₀.heap.objs.size X.pn H h' ea cls dx->Q () { s with heap:=h' }):wpAny M A (Yec (.ref ea) none) Q E s:=by
 obtain⟨oe,vs,he,hc,hdx,hd,ht⟩:=l.ob;rcases ht with h1|⟨T,oT,ts,h1,hTe,hT,hdT,h3,nT,lT,pT⟩
 ·unfold Yec;refine Yae (YcB he hd h1 ?_);rw[if_neg (by decide)]
  exact Yap (q s.heap I l)
 ·have sz:=(Array.getElem?_eq_some_iff.mp h3).1;refine wpAny_setFlight_none he hd h1 hT hdT sz ?_;have other:=(jbZ 3 .none hT hdT).2;have d3:=Yf1 hdT (·.setIfInBounds 3 YbD);refine q _ (I.left (ch:=[T]) (λb hb=>by rw[List.mem_singleton.mp hb];exact nT) (λb hb=>by rw[List.mem_singleton.mp hb];exact lT) (λb hb=>by rw[List.mem_singleton.mp hb];exact⟨oT,ts,hT,hdT⟩) (λb hb p hp=>by rw[List.mem_singleton.mp hb];exact pT p (by simpa using hp))
   (λb o _ hc e=>(other b (by simpa using hc)).trans e) λb o _ hc e=>⟨o.slots,(other b (by simpa using hc)).trans e⟩) ⟨⟨oe,vs,(other ea (Ne.symm hTe)).trans he,hc,hdx,hd,.inr ⟨T,_,_,h1,hTe,Yb2 _ hT (Ydf d3),d3,by simp[sz],nT,lT,pT⟩⟩,l.hn,l.le,l.pn⟩
noncomputable def Cx.tryC  (X:Cx)(pins:List (Addr×Obj))(xe:Value->Shared->Prop):Cx:={ X with pn:=X.pn++pins,xe:=xe }
def Inv.tryIn  {σ: St}(I:Inv X pins σ H s):Inv (X.tryC pins xe) [] σ H s:=
 ⟨⟨I.ok.mod,I.ok.kind,I.ok.glob,I.ok.blt,I.ok.above,I.ok.inj,I.ok.has,I.ok.cab,I.ok.hd,I.ok.frames,I.ok.stk,I.ok.exf,I.ok.bs,I.ok.bsz,I.ok.noex,I.ok.exfs,I.ok.funs,I.ok.frf⟩,I.os,I.bare,I.base,I.loc,I.cell,I.free,I.freeC,λp hp=>I.pin p (by simpa[Cx.tryC]using hp),I.hok,I.len⟩
def Inv.tryOut  {σ: St}(I:Inv (X.tryC pins xe) pins' σ H s):Inv X pins σ H s:=
 ⟨⟨I.ok.mod,I.ok.kind,I.ok.glob,I.ok.blt,I.ok.above,I.ok.inj,I.ok.has,I.ok.cab,I.ok.hd,I.ok.frames,I.ok.stk,I.ok.exf,I.ok.bs,I.ok.bsz,I.ok.noex,I.ok.exfs,I.ok.funs,I.ok.frf⟩,I.os,I.bare,I.base,I.loc,I.cell,I.free,I.freeC,λp hp=>I.pin p (by simp only[Cx.tryC];exact Ya8 _ hp),I.hok,I.len⟩
noncomputable def Cx.inH  (X:Cx)(e:Value)(p:List (Addr×Obj)):Cx:={ X with A:=X.A.mark (some e),calm:=false,pn:=X.pn++p,xe:=λ_ _=>False }
def Inv.hIn  {σ: St}(I:Inv X [] σ H s)(hp:∀q∈p,s.heap.get? q.1=some q.2/\H q.1=none/\q.1≠X.env.locals/\q.1∉X.fs/\∀v,q.2.data≠.cell v):Inv (X.inH e p) [] σ H s:=
 ⟨⟨I.ok.mod,I.ok.kind,I.ok.glob,I.ok.blt,I.ok.above,I.ok.inj,I.ok.has,I.ok.cab,(λz=>(nomatch z)),I.ok.frames,I.ok.stk,I.ok.exf,I.ok.bs,I.ok.bsz,I.ok.noex,I.ok.exfs,I.ok.funs,I.ok.frf⟩,I.os,I.bare,I.base,I.loc,I.cell,I.free,I.freeC,
  λq hq=>by
   have:q∈X.pn++p:=by simpa[Cx.inH]using hq
   rcases List.mem_append.mp this with z|z
   ·exact I.pin q (Ya8 _ z)
   ·exact hp q z,I.hok,I.len⟩
def Inv.hOut  {σ: St}(ok:X.Ok)(I:Inv (X.inH e p) pins' σ H s):Inv X [] σ H s:=
 ⟨ok,I.os,I.bare,I.base,I.loc,I.cell,I.free,I.freeC,λq hq=>I.pin q (by simp only[Cx.inH];rw[Ycq]at hq;exact Ya8 _ (Ya8 _ hq)),I.hok,I.len⟩
def Lies.pinned  {σ: St}(I:Inv X [] σ H s)(l:Lies X.s₀.heap.objs.size X.pn H s.heap ea cls dx):∃oe,s.heap.get? ea=some oe/\oe.cls=cls/\oe.dict=dx/\(∃vs,oe.data=.fields vs)/\
  ∀q∈[(ea,oe)],s.heap.get? q.1=some q.2/\H q.1=none/\q.1≠X.env.locals/\q.1∉X.fs/\∀v,q.2.data≠.cell v:=by
 obtain⟨oe,vs,he,hc,hdx,hd,_⟩:=l.ob;refine⟨oe,he,hc,hdx,⟨vs,hd⟩,λq hq=>?_⟩;rw[List.mem_singleton.mp hq];refine⟨he,l.hn,λz=>?_,λz=>?_,λv z=>by rw[show(ea,oe).2.data=oe.data from rfl,hd]at z;cases z⟩
 ·obtain⟨m,⟨o,es,ep,ho,hdd,_⟩,_⟩:=I.loc;rw[<- z,he]at ho;cases ho;rw[hd]at hdd;cases hdd
 ·obtain⟨_,o,ho,_⟩:=I.ok.funs.mem z;exact absurd (Yan ho) (Nat.not_lt.mpr l.le)
def XL  (M:Model)(A:Around)(env:Env)(R:Value->Shared->Prop):Value->Shared->Prop:=λe s'=>wpAny M A (Ygb e env) (λ_ s''=>wpAny M A (Yec e none) (λ_ s3=>R e s3) R s'') R s'
def jpl      : Yc9 M A env (XL M A env R):=Ye4

abbrev cx1  (P:Program)(w:World)(K:Yac)(mg:Str->Option Value)(base:Heap)(N:List Str)(qual:Str)(scope:Scope)(f:Addr)(cd:Value)(A:Around)(outer:List Env)(s:Shared)(H:Hp)(E:XK):Cx:=
 (cxOf (CX1 P w) P w K mg base N qual scope f cd A outer s H E).wish (XL (model P w) (A.deeper (envOfC qual scope s.heap.objs.size f cd)) (envOfC qual scope s.heap.objs.size f cd) λe s'=>CX1 P w outer H s E e s')
def Fun.okX  {K: Yac}{st:Stmt}(F:Fun K x qual st f fd)(S:FnScope N ps (jaf st))(len:∀vs H Q E,sp vs H Q E->vs.length=ps.length)
  (hbody:∀cdv (A:Around) outer (s:Shared) H (vs:List V) Q E ,Room k (A.deeper (envOfC qual (jaf st) s.heap.objs.size f cdv))->sp vs H Q E->
   ∃t,PSs (cx1 P w K mg base N qual (jaf st) f cdv A outer s H E) (jam st) t/\t { nx:=λ_ H'=>Q .non H',rt:=Q } (start N vs) H):FnOk P w K mg base (CX1 P w) (k+1) f fd ps sp:=by
 obtain⟨oc,od,kV,doc,pm,an,cdv,ct,osl,rfl,lk,hcd⟩:=F.ex;refine jpL lk hcd S len λA outer s H vs Q E hr hsp=>?_;obtain⟨t,h,q⟩:=hbody cdv A outer s H vs Q E hr hsp;refine⟨t,λpins s1 σ H1 D I hw=>?_,q⟩;refine YaY (h pins s1 σ H1 D (I.wish _) hw) (λ_ _ q=>q.unwish) λe s' z=>?_;show wpAny _ _ (leaving _ e) _ _ s';unfold leaving;exact Yae z
def CX1.out1  {K: Yac}{σ:St} 
  (I:Inv (cx1 P w K mg base N qual scope f cd A outer s H E) pins σ H' s') (l:Lies s.heap.objs.size [] H' s'.heap ea cls dx) (q:E cls dx H'):(cx1 P w K mg base N qual scope f cd A outer s H E).xe (.ref ea) s':=by
 have I0:Inv (cxOf (CX1 P w) P w K mg base N qual scope f cd A outer s H E) [] σ H' s':=I.unwish.pins_of λp hp=>absurd hp (by simp)
 refine jj2 (X:=cxOf (CX1 P w) P w K mg base N qual scope f cd A outer s H E) (E:=λe s'=>CX1 P w outer H s E e s') I0 rfl rfl l λh' J l'=>?_;exact⟨ea,H',cls,dx,rfl,J.os,J.bare,J.base,J.hok,l',q⟩
end L2

namespace L2
open PySem PySem.Spec PyProof.Rows PySem.W
open Builtin Builtin.ObjectAttr
def jdy  : Ya3 (.type "ValueError") "__class__" = pure (some (.builtin "object.__class__")):=by rw[Ycu,YbC];kernel_rfl
def jnK  : Ya3 (.type "getset_descriptor") "__get__" = pure (some (.builtin "getset_descriptor.__get__")):=by rw[Ycu,YbC];kernel_rfl
def jnI  : Ya3 (.type "getset_descriptor") "__set__" = pure (some (.builtin "getset_descriptor.__set__")):=by rw[Ycu,YbC];kernel_rfl
def jib  : builtinKind "object.__class__" = some .getset:=by decide +kernel
noncomputable abbrev bmV  : List Value:=[.type "ValueError",.type "Exception",.type "BaseException",.type "object"]

def Two.gaClass  {os: OsState}{K:Frag}(hK:K.In h)(hm:mroIn K C (.type "object")=some true)(T:Two h C N D mN mD bmB newId)(R:Reads B bmB)(hx:h.get? x=some o)(hc:o.cls=.ref C)(hnc:notCls o=true)(hdx:o.dict=some dx)(hod:h.get? dx=some od)
  (hB:Ya3 (.type B) "__class__" = pure (some (.builtin "object.__class__"))) (n1:mN "__class__" = none) (n2:mD "__class__" = none) (hq:Q (.done (.ret (.ref C))) ⟨h,g,d,t,os⟩) :
  wpAny (model prog w) A (Builtin.«object.__getattribute__» ⟨[.ref x,.str "__class__" tk],[]⟩) Q E ⟨h,g,d,t,os⟩:=by
 obtain⟨nm,q,bs,sn,sub,ab,col,dd,k0,k1,k2,k3,k5,e⟩:=T.cls;unfold Builtin.«object.__getattribute__»
 repeat (first|(with_reducible refine YaB hx ?_;rw[hc])|(with_reducible refine T.look hB R.mro n1 n2 ?_)|wp_step)
 rw[jib];dsimp only;rw[jnK]
 repeat (first|(with_reducible refine YaB hx ?_;rw[hc])|wp_step)
 rw[jib];dsimp only;rw[jnI]
 repeat (first|(with_reducible refine YaB hx ?_;rw[hc])|wp_step)
 refine PySem.W.class_get (K:=K) hK (ox:=o) (od:=some od) ⟨hx,hc,hnc,by rw[hdx];exact hod⟩ hm ?_
 exact Yap hq
def Two.cattr  {os: OsState}{K:Frag}(hK:K.In h)(hm:mroIn K C (.type "object")=some true)(T:Two h C N D mN mD bmB newId)(R:Reads B bmB)(hx:h.get? x=some o)(hc:o.cls=.ref C)(hnc:notCls o=true)(hdx:o.dict=some dx)(hod:h.get? dx=some od)
  (hB:Ya3 (.type B) "__class__" = pure (some (.builtin "object.__class__"))) (g1:mN "__getattribute__" = none) (g2:mD "__getattribute__" = none) (a1:mN "__getattr__" = none) (a2:mD "__getattr__" = none) (n1:mN "__class__" = none) (n2:mD "__class__" = none) (hq:Q (some (.ref C)) ⟨h,g,d,t+1,os⟩) :
  wpAny (model prog w) A (getAttr? (.ref x) "__class__") Q E ⟨h,g,d,t,os⟩:=by
 have f3:=R.ga.bind (.ref x);unfold getAttr? getAttrBy? getAttrBy
 repeat (any_goals (first|assumption|(with_reducible refine YaB hx ?_;rw[hc])|(with_reducible refine T.look R.ga.lookup R.mro g1 g2 ?_)|(with_reducible refine T.look R.no R.mro a1 a2 ?_)|wp_step))
 refine YdS R.ga.plain F.entry_bexc_ga (T.gaCheck R hx hc (T.gaClass hK hm R hx hc hnc hdx hod hB n1 n2 ?_))
 repeat (any_goals (first|assumption|wp_step))
noncomputable def jgp  : List Yej->Option (List Str)
 |[]=>some []
 |e::r=>match e.key,jgp r with
  |.str x _,some l=>some (x::l)
  |_,_=>none
def jdM  (K:Frag)(N:Addr):Option (List Str):=match K.lookup N with
 |some ⟨_,_,.dict es _,_⟩=>jgp es.toList
 |_=>none
theorem jdL  : ∀{es } {ks },jgp es=some ks->(∀e∈es,∃n t,e.key=.str n t)/\∀x,x∉ks->es.find? (λe=>e.key.isStr x)=none
 |[],_,_=>⟨λ_ h=>absurd h (by simp),λ_ _=>rfl⟩
 |e::r,ks,h=>by
  unfold jgp at h;split at h
  ·rename_i x t l hk hr;cases h;obtain⟨h1,h2⟩:=jdL hr;refine⟨λe' he=>?_,λy hy=>?_⟩
   ·rcases Yau.mp he with rfl|he
    ·exact⟨_,_,hk⟩
    ·exact h1 e' he
   ·have hn:y≠x:=λz=>hy (by simp[z])
    have:e.key.isStr y=false:=by rw[hk];simp[Value.isStr,Ne.symm hn]
    rw[Ya2,this];exact h2 y λz=>hy (by simp[z])
  ·cases h
def jnb  {K:Frag}(e:jdM K N=some ks):∃m ,(∀h,K.In h->h.Ns N m)/\(∀x,x∉ks->m x=none)/\∀x v,nsIn K N x=some (some v)->m x=some v:=by
 unfold jdM at e;split at e
 ·rename_i c dd es ep sl lk;obtain⟨h1,h2⟩:=jdL e;refine⟨nsFind es,λh hK=>⟨_,es,ep,hK _ _ lk,rfl,λe he=>h1 e (by simpa using he),λ_=>rfl⟩,λx hx=>?_,λx v hv=>?_⟩
  ·unfold nsFind findBy;rw[<- YdK,h2 x hx];rfl
  ·unfold nsIn at hv;rw[lk]at hv;dsimp only at hv;unfold nsFind findBy;rw[<- YdK];split at hv
   ·rename_i e' he';rw[he'];cases hv;rfl
   ·split at hv<;>cases hv
 ·cases e
noncomputable def offN  : List Str:=["__setattr__", "__getattribute__", "__getattr__", "__class__", "word", "at", "row"]
structure XBase (K:Frag)(mg:Str->Option Value)(D:Addr)(mD:Str->Option Value):Prop where
 m:mg "PlanError" = some (.ref D)
 kp:keepIn K (.ref D)=true
 lk:∃q ND bs hd sn sub ab col dd k0 k1 k2 k3 k5 nid,K.lookup D=some (YcO "PlanError" q D ND bs bmV hd sn sub ab col dd k0 k1 k2 k3 k5 nid)/\∀h,K.In h->h.Ns ND mD
 no:∀y∈offN,mD y=none
 ni:mD "__init__" = none
structure XCls (K:Frag)(mg:Str->Option Value)(x:Str)(fs:List Str)(C:Addr):Prop where
 m:mg x=some (.ref C)
 kp:keepIn K (.ref C)=true
 ex:∃(D N fI:Addr) (mN mD:Str->Option Value),XBase K mg D mD/\(∃q bs sn sub ab col dd k0 k1 k2 k3 k5,K.lookup C=some (YcO x q C N bs (.ref D::bmV) true sn sub ab col dd k0 k1 k2 k3 k5 "ValueError.__new__"))/\(∀h,K.In h->h.Ns N mN)/\(∀y∈offN,mN y=none)/\
  mN "__init__" = some (.ref fI)/\∃(st:Stmt) (qual:Str) (fd:Ydk),L2.Fun K "__init__" qual st fI fd/\(∃od osl,K.lookup fI=some ⟨.type "function",od,.func fd,osl⟩)/\FnScope ("self" :: fs) ("self" :: fs) (jaf st)/\Binds K fd ("self" :: fs) []/\(∀y∈(("self" : Str)::fs),(jaf st).names.lookup y=some .local)/\
  ((∃f p1 p2 p3 pos,fs=[f]/\jam st=[.Assign [.Attribute (.Name "self" p1) f p2] (.Name f p3) pos])\/∃f f2 p1 p2 p3 pos q1 q2 q3 qos,fs=[f,f2]/\f≠f2/\jam st=[.Assign [.Attribute (.Name "self" p1) f p2] (.Name f p3) pos,.Assign [.Attribute (.Name "self" q1) f2 q2] (.Name f2 q3) qos])
def XBase.get  {K:Frag}(B:XBase K mg D mD)(hK:K.In h):∃c0 dd cd sl,h.get? D=some { cls:=c0,dict:=dd,data:=.cls cd,slots:=sl }/\h.Ns cd.ns mD:=by
 obtain⟨q,ND,bs,hd,sn,sub,ab,col,dd,k0,k1,k2,k3,k5,nid,lk,n⟩:=B.lk;exact⟨_,_,_,_,hK _ _ lk,n h hK⟩

def XCls.name  {K: Frag}(c:XCls K mg x fs C):∃cd,clsIn K C=some cd/\cd.name=x/\typeIn K (.ref C)=some (.type "type")/\∃D mD,XBase K mg D mD/\cd.mro=.ref C::.ref D::bmV:=by
 obtain⟨D,N,fI,mN,mD,B,⟨q,bs,sn,sub,ab,col,dd,k0,k1,k2,k3,k5,lk⟩,_⟩:=c.ex;refine⟨_,by unfold clsIn;rw[lk],rfl,by show Yeu (λx=>x.cls) (Ybt _ K)=_;rw[lk];rfl,D,mD,B,rfl⟩
def XBase.nm  {K: Frag}(B:XBase K mg D mD):∃cd,clsIn K D=some cd/\cd.name = "PlanError" /\ typeIn K (.ref D)=some (.type "type"):=by
 obtain⟨q,ND,bs,hd,sn,sub,ab,col,dd,k0,k1,k2,k3,k5,nid,lk,n⟩:=B.lk;exact⟨_,by unfold clsIn;rw[lk],rfl,by show Yeu (λx=>x.cls) (Ybt _ K)=_;rw[lk];rfl⟩
def jhY  {K: Frag}(c:XCls K mg x fs C)(c':XCls K mg x' fs' C')(hp:x' ≠ "PlanError"):kitOne K (.ref C) (.ref C')=some (decide (x=x')):=by
 obtain⟨cd,h1,h2,h3,D,mD,B,hm⟩:=c.name;obtain⟨cd',h1',h2',h3',_⟩:=c'.name;unfold kitOne;by_cases e:C=C'
 ·subst e;rw[h1]at h1';cases h1';rw[if_pos (by simp),<- h2,<- h2']
  simp
 ·have hx:x≠x':=λz=>by
   subst z;have:=c.m.symm.trans c'.m;simp at this;exact e this
  rw[if_neg (by simpa using e)]
  unfold kitCls subIn mroIn;dsimp only;rw[h1',h3',h1];have hD:D≠C':=λz=>by
   subst z;obtain⟨cd2,g1,g2,_⟩:=B.nm;rw[h1']at g1;cases g1;exact hp (h2'.symm.trans g2)
  simp[hm,hx,Ne.symm e,Ne.symm hD]
def jnn  {K: Frag}(c:XCls K mg x fs C):kitOne K (.ref C) (.type "ValueError")=some true:=by
 obtain⟨cd,h1,h2,h3,D,mD,B,hm⟩:=c.name;unfold kitOne;rw[if_neg (by simp)]
 unfold kitCls subIn mroIn;dsimp only;rw[if_pos (by decide +kernel),h1]
 simp[hm]
def jkb  : ∀f∈[("word" : Str), "at", "row"],Ya3 (.type "ValueError") f=pure none:=by
 intro f hf;simp only[Yau,Yam,or_false]at hf;rcases hf with rfl|rfl|rfl<;>(rw[Ycu,YbC];kernel_rfl)
noncomputable def fldN  : List Str:=["word", "at", "row"]
def jfD  : ∀f∈fldN,f∈offN:=by decide
section
variable {K:Frag}{mg:Str->Option Value}{x:Str}{fs:List Str}{C:Addr}
structure XPin (X:Cx)(ea C dx:Addr):Prop where
 ex:∃oe vs,(ea,oe)∈X.pn/\oe.cls=.ref C/\oe.dict=some dx/\oe.data=.fields vs
def Inv.xobj    {σ:St}(I:Inv X pins σ H s)(p:XPin X ea C dx)(hl:H dx=some (.xd l)) :
  ∃oe vs od mA,s.heap.get? ea=some oe/\oe.cls=.ref C/\oe.dict=some dx/\oe.data=.fields vs/\s.heap.get? dx=some od/\s.heap.Ns dx mA/\∀f,RelO (l.lookup f) (mA f):=by
 obtain⟨oe,vs,hp,h1,h2,h3⟩:=p.ex;obtain⟨mA,n,r⟩:=(show jaB X.prog X.w H s.heap dx (.xd l)from I.hok dx _ hl);obtain⟨od,es,ep,g,gd,sk,_,nf⟩:=n;exact⟨oe,vs,od,mA,(I.pin _ (Ya8 _ hp)).1,h1,h2,h3,g,⟨od,es,ep,g,gd,sk,nf⟩,r⟩
def XCls.two  (c:XCls K mg x fs C)(hK:K.In h):∃N D mN mD,Two h C N D mN mD bmV "ValueError.__new__" /\ (∀y∈offN,mN y=none/\mD y=none)/\mroIn K C (.type "object")=some true:=by
 obtain⟨D,N,fI,mN,mD,B,⟨q,bs,sn,sub,ab,col,dd,k0,k1,k2,k3,k5,lk⟩,hn,ho,_⟩:=c.ex;refine⟨N,D,mN,mD,⟨⟨_,_,_,_,_,_,_,_,_,_,_,_,_,hK _ _ lk⟩,hn h hK,B.get hK⟩,λy hy=>⟨ho y hy,B.no y hy⟩,?_⟩;unfold mroIn clsIn;rw[lk];simp
def jel  (c:XCls K mg x fs C)(h1:oe.cls=.ref C)(h2:oe.dict=some dx)(h3:oe.data=.fields vs):KitX K (.ref ea) (.ref C) (λh=>h.get? ea=some oe/\h.get? dx=some od):=by
 have hnc:notCls oe=true:=by unfold notCls;rw[h3]
 refine⟨λM h hK hh=>?_,λM h hK hh=>?_,λh tp dd its n sl hK ht=>?_,λ{prog w A E Q s} hK hh hq=>?_⟩
 ·intro A Q E s k q;obtain⟨hp,g,d,t,os⟩:=s;have g1:=k _ _ hh.1;show wpAny M A (typeOf (.ref ea)) Q E _;unfold typeOf
  repeat (first|(with_reducible refine YaB g1 ?_;rw[h1])|wp_step)
  exact q
 ·intro A Q E s k q;obtain⟨hp,g,d,t,os⟩:=s;obtain⟨D,N,fI,mN,mD,B,⟨q',bs,sn,sub,ab,col,dd,k0,k1,k2,k3,k5,lk⟩,_⟩:=c.ex;have g1:=k _ _ (hK _ _ lk);unfold isType
  repeat (first|with_reducible refine YaB g1 ?_|wp_step)
  exact q
 ·obtain⟨D,N,fI,mN,mD,B,⟨q',bs,sn,sub,ab,col,dd',k0,k1,k2,k3,k5,lk⟩,_⟩:=c.ex;have g1:=hK _ _ lk;by_cases z:C=tp
  ·subst z;rw[ht]at g1;simp at g1
  ·simpa using z
 ·obtain⟨hp,g,d,t,os⟩:=s;obtain⟨N,D,mN,mD,T,off,hm⟩:=c.two hK;have o1:=off "__getattribute__" (by decide)
  have o2:=off "__getattr__" (by decide)
  have o3:=off "__class__" (by decide)
  exact T.cattr hK hm jbm hh.1 h1 hnc h2 hh.2 jdy o1.1 o1.2 o2.1 o2.2 o3.1 o3.2 hq
end
section
variable {X:Cx}{mg:Str->Option Value}{x:Str}{fs:List Str}{C ea dx:Addr}
def jiB     (c:XCls X.K mg x fs C)(c':XCls X.K mg x' fs' C')(hp:x' ≠ "PlanError")(p:XPin X ea C dx):jaX X (.builtin "isinstance") (λxs H Q=>xs=[.ref ea,.ref C']/\(∃l,H dx=some (.xd l))/\Q (.bl (decide (x=x'))) H):=by
 intro pins s σ H xs us Q I r h;obtain⟨rfl,⟨l,hl⟩,q⟩:=h;obtain⟨u,v,rfl,ru,rv⟩:=Vals.two r;cases ru;cases rv;obtain⟨oe,vs,od,mA,g1,g2,g3,g4,g5,_⟩:=I.xobj p hl;exact kia_one (jel c g2 g3 g4) I.kIn ⟨g1,g5⟩ (jhY c c' hp) (λz=>(nomatch z)) λtk=>⟨.bl _,H,I.tok tk,rfl,q⟩
def jiz  (c:XCls X.K mg x fs C)(p:XPin X ea C dx):jaX X (.builtin "isinstance") (λxs H Q=>xs=[.ref ea,.ty "ValueError"]/\(∃l,H dx=some (.xd l))/\Q (.bl true) H):=by
 intro pins s σ H xs us Q I r h;obtain⟨rfl,⟨l,hl⟩,q⟩:=h;obtain⟨u,v,rfl,ru,rv⟩:=Vals.two r;cases ru;cases rv;obtain⟨oe,vs,od,mA,g1,g2,g3,g4,g5,_⟩:=I.xobj p hl;exact kia_one (jel c g2 g3 g4) I.kIn ⟨g1,g5⟩ (jnn c) (λz=>(nomatch z)) λtk=>⟨.bl true,H,I.tok tk,rfl,q⟩
inductive XMany (X:Cx)(mg:Str->Option Value):List Str->List Addr->Prop
 |nil:XMany X mg [] []
 |cons {x:Str} {fs:List Str} {C:Addr} {xs:List Str} {Cs:List Addr}:XCls X.K mg x fs C->x ≠ "PlanError" -> XMany X mg xs Cs->XMany X mg (x::xs) (C::Cs)
theorem jgo  (c:XCls X.K mg x fs C):∀{xs } {Cs },XMany X mg xs Cs->kitAny X.K (.ref C) (Cs.map .ref)=some (xs.contains x)
 |_,_,.nil=>rfl
 |_,_,.cons (x:=x') (C:=C') c' hp r=>by
  have h1:=jhY c c' hp;have h2:=jgo c r;by_cases e:x=x'
  ·subst e;simp only[YaM,kitAny];rw[h1];simp
  ·simp only[YaM,kitAny];rw[h1,h2];simp[e]
def jiA    (c:XCls X.K mg x fs C)(cs:XMany X mg xs Cs)(p:XPin X ea C dx):jaX X (.builtin "isinstance") (λas H Q=>∃tp,as=[.ref ea,.ref tp]/\H tp=some (.tup (Cs.map .ref))/\(∃l,H dx=some (.xd l))/\Q (.bl (xs.contains x)) H):=by
 intro pins s σ H as us Q I r h;obtain⟨tp,rfl,ht,⟨l,hl⟩,q⟩:=h;obtain⟨u,v,rfl,ru,rv⟩:=Vals.two r;cases ru;cases rv;obtain⟨oe,vs,od,mA,g1,g2,g3,g4,g5,_⟩:=I.xobj p hl;obtain⟨z,us,ru,o,t1,t2,t3,t4,t5⟩:=(show jaB X.prog X.w H s.heap tp (.tup (Cs.map .ref))from I.hok tp _ ht);have hus:us=Cs.map .ref:=by
  clear ht t4 z t5 t1 t2;generalize Cs=Ds at ru
  induction Ds generalizing us with
  |nil=>cases ru;rfl
  |cons a r ih=>
   cases ru with
   |cons h1 h2=>cases h1;rw[ih _ h2];rfl
 subst hus;have hk:=jgo c cs;obtain⟨oc,od',dt,sl⟩:=o;obtain rfl:oc=Value.type "tuple" := t2;obtain rfl:dt=Data.seq (List.map Ya5 Cs).toArray t3:=t4;exact kia_tup (jel c g2 g3 g4) I.kIn ⟨g1,g5⟩ t1 hk (λz=>(nomatch z)) λtk=>⟨.bl _,H,I.tok tk,rfl,q⟩
def jfB    (r:RelV v u):handedOut u=pure u:=by
 cases v with
 |non=>cases r;rfl
 |bl _=>cases r;rfl
 |int _=>obtain⟨_,rfl⟩:=r;rfl
 |str _=>obtain⟨_,rfl⟩:=r;rfl
 |byt _=>obtain⟨_,rfl⟩:=r;rfl
 |flt _=>obtain⟨_,rfl⟩:=r;rfl
 |ref _=>cases r;rfl
 |ty _=>cases r;rfl
def jkZ      (c:XCls X.K mg x fs C)(p:XPin X ea C dx)(hf:f∈fldN)(he:PE X e te)(hb:Yck e f X.env (eval e X.env)=eval e X.env) :
  PE X (.Attribute e f pos) (λσ H Q=>te σ H λv H1=>v=.ref ea/\∃l u,H1 dx=some (.xd l)/\l.lookup f=some u/\Q u H1):=by
 intro pins s σ H Q I h;refine jlM hb (thn (he pins s σ H _ I h) λu s1 ⟨v,H1,I1,rv,ev,l,w,hl,hlk,q⟩=>?_);subst ev;cases rv;obtain⟨oe,vs,od,mA,g1,g2,g3,g4,g5,g6,g7⟩:=I1.xobj p hl;obtain⟨N,D,mN,mD,T,off,hm⟩:=c.two I1.kIn;obtain⟨u',hu,ru⟩:=RelO.some_of (v:=w) (o:=mA f) (by rw[<- hlk];exact g7 f)
 have o1:=off "__getattribute__" (by decide)
 have o2:=off "__getattr__" (by decide)
 have o3:=off f (jfD f hf);obtain⟨hp,gg,d,t,os⟩:=s1;exact T.get jbm g1 g2 (λcd z=>by rw[g4]at z;cases z) g3 g6 hu (jfB ru) (jkb f hf) o1.1 o1.2 o2.1 o2.2 o3.1 o3.2 ⟨w,H1,I1.tok _,ru,q⟩
def jhB       (c:XCls X.K mg x fs C)(hfs:∀f∈fs,f∈fldN)(hr:Room (k+2) X.A)(hg:Gl X x)(hmg:X.mg x=some (.ref C))(ha:PA X (a0::as) t)
  (hdb:(x==("__debug__" : Str))=false) (he:YaA (a0::as) X.env=(false,eval a0 X.env)::YaA as X.env) (hpl:(backTo cpos (YaA as X.env)).any (·.1)=false) :
  PS X (.Raise (some (.Call (.Name x p) (a0::as) [] cpos)) none pos) (jjJ X C fs.length (λvs=>fs.zip vs) t):=by
 intro pins s σ H D0 I h;have hK:X.K.In X.base:=I.ok.mod.kin;obtain⟨D,N,fI,mN,mD,B,⟨q,bs,sn,sub,ab,col,dd,k0,k1,k2,k3,k5,lk⟩,hn,ho,hi,st,qual,fd,F0,⟨od,osl,lkI⟩,S,hb,hloc,hbody⟩:=c.ex;obtain⟨oc,od',kV,doc,pm,an,cdv,ct,osl',rfl,lkI',hcd⟩:=F0.ex;have T:Two X.base C N D mN mD bmV "ValueError.__new__" := ⟨⟨_,_,_,_,_,_,_,_,_,_,_,_,_,hK _ _ lk⟩,hn _ hK,B.get hK⟩;have set0:mN "__setattr__" = none/\mD "__setattr__" = none:=⟨ho _ (by decide),B.no _ (by decide)⟩
 have fd0:∀f∈fs,mN f=none/\mD f=none/\Ya3 (.type "ValueError") f=pure none:=λf hf=>⟨ho _ (jfD f (hfs f hf)),B.no _ (jfD f (hfs f hf)),jkb f (hfs f hf)⟩;have nm:∀f∈fldN,(f==("__debug__" : Str))=false/\(f==("__classdict__" : Str))=false:=by decide
 have go:∀(vs:List V) (s:Shared) (H:Hp),vs.length=fs.length->jfe X C s H (("self" : Str)::fs) qual (jaf st) fI cdv (jam st) vs (fs.zip vs):=by
  intro vs s H hl;rcases hbody with⟨f,p1,p2,p3,pos,rfl,hbd⟩|⟨f,f2,p1,p2,p3,pos,q1,q2,q3,qos,rfl,hne,hbd⟩
  ·rw[hbd];obtain⟨v,rfl⟩:∃v,vs=[v]:=by
    match vs,hl with
    |[v],_=>exact⟨v,rfl⟩
   have a1:=fd0 f (by simp)
   have b1:=nm f (hfs f (by simp))
   exact jpE T F.store_ValueError set0.1 set0.2 a1.1 a1.2.1 a1.2.2 (.inl (hloc _ (by simp))) (.inl (hloc _ (by simp))) (by decide) b1.1 (by decide) b1.2 (λ_=>rfl)
  ·rw[hbd];obtain⟨v,v2,rfl⟩:∃v v2,vs=[v,v2]:=by
    match vs,hl with
    |[v,v2],_=>exact⟨v,v2,rfl⟩
   have a1:=fd0 f (by simp)
   have a2:=fd0 f2 (by simp)
   have b1:=nm f (hfs f (by simp))
   have b2:=nm f2 (hfs f2 (by simp))
   exact jpD T F.store_ValueError set0.1 set0.2 a1.1 a1.2.1 a1.2.2 a2.1 a2.2.1 a2.2.2 hne (.inl (hloc _ (by simp))) (.inl (hloc _ (by simp))) (.inl (hloc _ (by simp))) (by decide) b1.1 b2.1 (by decide) b1.2 b2.2 (λ_=>rfl) (λ_=>rfl)
 have hn8:fs.length<=8:=by
  rcases hbody with⟨f,p1,p2,p3,pos,rfl,hbd⟩|⟨f,f2,p1,p2,p3,pos,q1,q2,q3,qos,rfl,hne,hbd⟩<;>simp
 exact jiX T F.excBase_ValueError B.ni hi lkI hcd S hr hb (by simp) hn8 (by decide) hg hmg c.kp ha go hdb he hpl pins s σ H D0 I h
def jgT          (c:XCls X.K mg x fs C)(B':XBase X.K mg D' mD')(hK:X.K.In s.heap)(he:s.heap.get? ea=some oe)(hcls:oe.cls=.ref C)
  (hq:Q true s):wpAny M A (excMatches (.ref ea) (.ref D')) Q E s:=by
 obtain⟨D,N,fI,mN,mD,B,⟨q,bs,sn,sub,ab,col,dd,k0,k1,k2,k3,k5,lk⟩,_⟩:=c.ex;have e:D=D':=by have:=B.m.symm.trans B'.m;simpa using this
 subst e;obtain⟨q,ND,bs,hd,sn,sub,ab,col,dd,k0,k1,k2,k3,k5,nid,lk2,n⟩:=B.lk;obtain⟨h,g,d,t,os⟩:=s;refine jfG (hK _ _ lk) (hK _ _ lk2) he hcls (by decide) ?_
 have e:(Ya5 C::.ref D::bmV).contains (.ref D)=true:=by simp
 rw[e];exact hq
end
end L2

namespace L2
open PySem PySem.Spec PyProof.Rows

end L2

namespace L2
open PySem PySem.Spec PyProof.Rows

end L2

namespace L2
open PySem PySem.Spec PyProof.Rows PySem.W
structure CloScope (N P:List Str)(sc:Scope):Prop where
 kind:sc.kind=.function
 co:sc.isCoroutine=false
 gen:sc.isGenerator=false
 nd:N.Nodup
 pre:N.take P.length=P
 par:∀x∈P,sc.names.lookup x=some .local
 nocell:∀y∈sc.names,y.2≠.cell
 frees:∀x,(x,YaO)∈sc.names->sc.names.lookup x=some .free

def jqU  (o:Obj)(q:Str):Prop:=∃vs t,o.data=.fields vs/\vs[1]?=some (.str q t)
noncomputable abbrev frzC  (o:Obj):HO:=.frz o (.ext λ_=>True)
def joc  (H:Hp)(P:Addr)(pos:Pos)(q:Str):Prop:=
 H P=some (.tbl #[])\/∃c oc,H P=some (.tbl #[rawInt pos.line,rawInt pos.col,.ref c])/\H c=some (frzC oc)/\jqU oc q
def BmAt  (mg:Str->Option Value)(base:Heap):Prop:=∃bm ob,mg "__builtins__" = some (.ref bm)/\bm≠YdM/\base.get? bm=some ob/\ob.cls=.type "module" /\ ob.dict=some YdM/\ob.data=.plain

def jjw  (tb:List Addr)(H:Hp):Prop:=∀b,if b∈tb then H b=some (.tbl #[]) else H b=none\/∃o xs,H b=some (.frz o (.lst xs))
def law_callT    {K:Yac}{CX:CXT}{k:Nat}{x:Str}{sp:Sp} 
  (hKl:(K.all λp=>p.2.cls != .type "list")=true) (htb:∀b∈tb,s₁.heap.get? b=some (tabObj #[])/\isCodeTable s₁.heap b/\K.lookup b=none) (hbm:BmAt mg s₁.heap)
  (KX:K.In s₁.heap) (hsys:∃o,K.lookup Ya9=some o/\o.cls=.type "dict") (hns:s₁.heap.Ns YaF mg) (hb:s₁.heap.Ns YdM mb) (hbb:∀x:Str,x ≠ "__name__" -> mb x=YbN x) (hlim:s₁.heap.NoLimit) (hg:s₁.gens=#[])
  (ha:s₁.heap.get? a=some { cls:=.type "list",data:=.seq vs.toArray }) (hi:IntsAre vs ns) (hl:ns.length<=Yai) (hr:Room k callerA)
  (F:∀base ,K.In base->base.Ns YaF mg->BmAt mg base->FnOk P w K mg base CX k fa fd [x] sp) (hbind:∀(s:Shared) u ,BindsTo s fd ⟨[u],[]⟩ [(x,u)])
  (hsp:∀H (o:Obj),jjw tb H->H a=some (.frz o (.lst (ns.map V.int)))->sp [.ref a] H (λv _=>v=.bl true) λ_ _ _=>False)
  (hCX:∀H e s',CX [] H s₁ (λ_ _ _=>False) e s'->False) :
  codeAny (model P w) callerA (.call (.ref fa) ⟨[.ref a],[]⟩) (λr s'=>r=.ok (.ret (.bool true))/\OldK s₁.heap s'.heap/\s'.os=s₁.os/\AllBare s'.gens) s₁:=by
 have ka:K.lookup a=none:=by
  cases hk:K.lookup a with
  |none=>rfl
  |some o=>
   have e:=KX a o hk;rw[ha]at e;cases e;have:=List.all_eq_true.mp hKl (a,_) (mem_of_lookupK hk);simp at this
 let oa:Obj:={ cls:=.type "list",data:=.seq vs.toArray }
 have hat:a∉tb:=λz=>by
  have e:=(htb a z).1;rw[ha]at e;cases e
 obtain⟨H,hH⟩:∃H:Hp,H=λb=>if b∈tb then some (.tbl #[]) else if b=a then some (.frz oa (.lst (ns.map V.int))) else none:=⟨_,rfl⟩
 have H1:∀{b},b∈tb->H b=some (.tbl #[]):=λhb=>by rw[hH];exact if_pos hb
 have H2:H a=some (.frz oa (.lst (ns.map V.int))):=by
  rw[hH];show(if a∈tb then _ else if a=a then _ else _)=_
  rw[if_neg hat,if_pos rfl]
 have H3:∀{b},b∉tb->b≠a->H b=none:=λ{b} h1 h2=>by
  rw[hH];show(if b∈tb then _ else if b=a then _ else _)=_
  rw[if_neg h1,if_neg h2]
 clear hH;have free:∀{b:Addr} {o:Obj},s₁.heap.get? b=some o->o.cls≠.none->(∀xs n,o.data≠.seq xs n)->H b=none:=λ{b o} e h1 h2=>by
  refine H3 (λz=>?_) λz=>?_
  ·have e2:=(htb b z).1;rw[e]at e2;cases e2;exact h1 rfl
  ·rw[z,ha]at e;cases e;exact h2 _ _ rfl
 have hok:HOk P w H s₁.heap:=λb u e=>by
  by_cases h1:b∈tb
  ·rw[H1 h1]at e;cases e;exact(htb b h1).1
  ·by_cases h2:b=a
   ·subst h2;rw[H2]at e;cases e;exact⟨ha,by rw[Yaa];exact hl,vs,_,jex hi,ha⟩
   ·rw[H3 h1 h2]at e;cases e
 have nsK:∀{b:Addr} {m:Str->Option Value},s₁.heap.Ns b m->(hidT s₁.heap H).Ns b m:=λ{b m} ⟨o,es,ep,e,d,r⟩=>by
  refine⟨o,es,ep,jem e (H3 (λz=>?_) λz=>?_),d,r⟩
  ·have e2:=(htb b z).1;rw[e]at e2;cases e2;cases d
  ·rw[z,ha]at e;cases e;cases d
 have hKb:K.In (hidT s₁.heap H):=λb o e=>jem (KX b o e) (H3 (λz=>by rw[(htb b z).2.2]at e;cases e) λz=>by rw[z,ka]at e;cases e)
 have hM:Mod K mg (hidT s₁.heap H):=⟨hKb,nsK hns,⟨mb,nsK hb,hbb⟩,let ⟨mc,h1,h2⟩:=hlim;⟨mc,nsK h1,h2⟩,hsys⟩
 have hBb:BmAt mg (hidT s₁.heap H):=by
  obtain⟨bm,ob,b1,b2,b3,b4,b5,b6⟩:=hbm;exact⟨bm,ob,b1,b2,jem b3 (free b3 (by rw[b4];nofun) (by rw[b6];nofun)),b4,b5,b6⟩
 have e0:Env0 P w K mg (hidT s₁.heap H) callerA [] s₁ H:=⟨rfl,hM,λb o e=>jlf e,Yd9 (jia _ _),trivial,λb hb=>(nomatch hb),hok,.of_eq hg⟩;have only:jjw tb H:=λb=>by
  by_cases h1:b∈tb
  ·rw[if_pos h1];exact H1 h1
  ·rw[if_neg h1];by_cases h2:b=a
   ·subst h2;exact .inr ⟨_,_,H2⟩
   ·exact .inl (H3 h1 h2)
 refine YdE ((F _ hKb (nsK hns) hBb).run callerA [] s₁ H ⟨[.ref a],[]⟩ [.ref a] [.ref a] _ _ hr e0 (hbind s₁ (.ref a)) (.cons rfl .nil) (hsp H oa only H2)) λr s' h=>?_
 match r,h with
 |.error e,h=>exact(hCX H e s' h).elim
 |.ok (.ret u),h=>
  obtain⟨v,H',os,bare,un,hok',r',q⟩:=h;have q':v=.bl true:=q;subst q';obtain rfl:u=Yey true:=r';refine⟨rfl,⟨λb o e=>?_,λb o e=>un.there b o e (by simp)⟩,os,bare⟩
  by_cases h1:b∈tb
  ·obtain⟨e1,ht,_⟩:=htb b h1;rw[e]at e1;cases e1;obtain⟨more,e2⟩:=un.tbls b _ (H1 h1);exact .inr (.inl ⟨ht,rfl,#[],more,rfl,hok' b _ e2⟩)
  ·by_cases h2:b=a
   ·subst h2;obtain⟨e2,_⟩:=hok' b _ (un.frzs b _ _ H2);rw[ha]at e;cases e;exact .inl e2
   ·exact .inl (un.keep b o e (H3 h1 h2) (by intro z;exact(nomatch z)) (by simp))
def walk_ofT  {l:Yd2}{K:Params->Yac}{CX:World->CXT}{sp:World->Sp}{tbs:List (Str×Addr×Addr)}
  (hKl:∀w:World,((K w.params).all λp=>p.2.cls != .type "list")=true) (htb:∀(w:World),∀t∈tbs,(∃dr,(recsOf q).find? (λe=>e.name==t.1)=some dr)/\tabIn (K w.params) t.1=some (t.2.1,t.2.2)/\(K w.params).lookup t.2.2=none)
  (hn:l.most=some n) (hn2:n<=Yai) (hdf:d.params.defaults=[]) (hr:Room k callerA)
  (hY:∀(w:World) (h:Heap),YP w h->(K w.params).In h) (hsy:∀w:World,∃o,(K w.params).lookup Ya9=some o/\o.cls=.type "dict")
  (F:∀(w:World) mg fa (h:Heap),(K w.params).In h->h.Ns YaF mg->mg d.name=some (.ref fa)->
   ∃fd ,(∀(s:Shared) u ,BindsTo s fd ⟨[u],[]⟩ [(x,u)])/\
    ∀base ,(K w.params).In base->base.Ns YaF mg->BmAt mg base->FnOk l.prog w (K w.params) mg base (CX w) k fa fd [x] (sp w))
  (hsp:∀(w:World) H (o:Obj) a (ns:List Int),ns.length<=n->jjw (tbs.map (·.2.2)) H->H a=some (.frz o (.lst (ns.map V.int)))->sp w [.ref a] H (λv _=>v=.bl true) λ_ _ _=>False)
  (hCX:∀(w:World) H (s:Shared) (e:Value) s' ,CX w [] H s (λ_ _ _=>False) e s'->False) :
  Ygg q loose XP YP l.row.toRowW d [] (λf vs=>YfM f vs):=by
 refine Att.attach_call hn hdf λw s₀ s₁ mg mb fa o pm cd doc a vs ns G Y ho hd hcd hmg hobj hints hlen hg=>?_;have kx:=hY w _ Y;obtain⟨fd,hb,hF⟩:=F w mg fa _ kx G.T.g hmg;refine law_callT (tb:=tbs.map (·.2.2)) (hKl w) (λb hb=>?_) ?_ kx (hsy w) G.T.g G.T.b G.T.builtins G.T.nolimit hg hobj hints (Yag hlen hn2) hr hF hb (λH o hO hS=>hsp w H o a ns hlen hO hS) λH e s'=>hCX w H s₁ e s'
 ·obtain⟨t,ht,rfl⟩:=List.mem_map.mp hb;obtain⟨⟨dr,h1⟩,h2,h3⟩:=htb w t ht;obtain⟨c1,c2⟩:=tab_of G.T kx h1 h2;exact⟨c2,(c1.tab c2).isCodeTable,h3⟩
 ·obtain⟨bm,ob,b1,b2,b3,b4,b5,b6⟩:=G.T.bmain;exact⟨bm,ob,b1,b2,b3,b4,b5,b6⟩
end L2

namespace L2
open PySem PySem.Spec PyProof.Rows
open Sem (wp)
open AutoSeq1 (wpAny_loadPart')

def jeu  {s: Shared}(hL:s.heap.IsList l items)
  (h:∀h',IsEnum h' (s.heap.objs.size+1) s.heap.objs.size 0 .none->h'.IsListIter s.heap.objs.size l 0->(∀b o,s.heap.get? b=some o->h'.get? b=some o)->Q (.ref (s.heap.objs.size+1)) { s with heap:=h' }) :
  wpAny (model prog w) A (call (.type "enumerate") [.ref l]) Q E s:=by
 have at2:∀(p:Heap) (n:Nat) (o:Obj),p.objs.size=n->o.isFreed=false->(p.push o).get? n=some o:=λp n o e f=>by
  subst e;exact Yax p f
 have sz:=λo=>Ycv s.heap o;refine callType_new F.called_enumerate (by decide) (YfD _) (YfR _) (λobj=>Yf6 obj _) YfS (jb4 (.ref l) _) ⟨λ_ _ _ _ _ q=>YcA hL q,?_⟩
 rw[sz];have he:=at2 _ _ ⟨.type "enumerate",none,.fields #[.none,.bool false,.ref s.heap.objs.size,rawInt 0,.none,.none],#[]⟩ (sz ⟨.type "list_iterator",none,.fields #[.ref l,.int 0 0],#[]⟩) rfl;exact⟨⟨_,he,rfl⟩,h _ he ⟨_,Yaf _ (at2 _ _ _ rfl rfl),rfl,rfl⟩ λb o x=>Yaf _ (Yaf _ x)⟩

def Itf  (K:Yac)(a:Addr):It:=
 ⟨λi H=>∃xs x,SqL K H a xs/\xs[i]?=some x,λi H y H'=>∃x p,(∀xs,SqL K H a xs->xs[i]?=some x)/\y=.ref p/\H p=none/\H'=upd H p (.tup [.int (i:Int),x]),λi H=>∃xs,SqL K H a xs/\xs.length=i⟩
def jgK    {K:Yac} a e it (hei:e≠it)(hae:a≠e)(hai:a≠it) :
  Turn P w K (.Tuple elts x1 pos) (Itf K a) [e,it] e (λi h=>(∃old,IsEnum h e it (i:Int) old)/\h.IsListIter it a i) where
 mem:=by simp
 obj:=λi h st b hb=>by
  obtain⟨⟨old,he⟩,o,ho,c,d⟩:=st;simp only[Yau,Yam,or_false]at hb;rcases hb with rfl|rfl
  ·exact⟨_,he,λv z=>nomatch z⟩
  ·exact⟨o,ho,λv z=>by rw[d]at z;cases z⟩
 keep:=λi h h' st k=>by
  obtain⟨⟨old,he⟩,o,ho,r⟩:=st;exact⟨⟨old,k e (by simp) _ he⟩,o,k it (by simp) _ ho,r⟩
 item:=by
  intro X hP hw hK hc i pins s σ H E I hf st hg;subst hP hw hK;obtain⟨xs,x,hq,hx⟩:=hg;obtain⟨its,rv,p,hz⟩:=I.list hq;obtain⟨u,hu,ru⟩:=rv.get hx;obtain⟨⟨old,he⟩,hit⟩:=st;have hlt:i<its.toArray.size:=by
   have:=(List.getElem?_eq_some_iff.mp hu).1;simpa using this
  refine YfG (YeO (A:=X.A.in1) (I.ok.hd hc) it a hai its.toArray) he ⟨hit,p.isList⟩ hlt hei (by simp;exact⟨hei,Ne.symm hae⟩) λx' h' tk hP ho hs' hT hsz hk=>?_
  refine⟨_,rfl,Ye8 ho λh2 he2 hs2=>?_⟩;have ex:x'=u:=by
   have:its.toArray[i]?=some u:=by simpa using hu
   exact Yar (hP.symm.trans this)
  subst ex;have hfr:H s.heap.objs.size=none:=I.hok.fresh (Yah _);have hen:e≠s.heap.objs.size:=Yaz (Yan he);have hin:it≠s.heap.objs.size:=by obtain⟨o,ho',_⟩:=hit;exact Yaz (Yan ho')
  have I1:Inv X pins σ (upd H s.heap.objs.size (.tup [.int (i:Int),x])) { s with heap:=s.heap.push { cls:=.type "tuple",data:=.seq #[.int i tk,x'] },toks:=tk+1 }:=by
   refine I.laid (λb o y=>Yaf _ y) (Yah _) ⟨by show 2<=Yai;decide,[.int i tk,x'],.cons ⟨tk,rfl⟩ (.cons ru .nil),TupD.new _ _⟩
  have fpU:∀b,b≠s.heap.objs.size->FpOk X pins H b->FpOk X pins (upd H s.heap.objs.size (.tup [.int (i:Int),x])) b:=λb hb f=>⟨by rw[jac hb];exact f.1,f.2⟩
  have kk:∀b o,b≠e->b≠it->(s.heap.push { cls:=.type "tuple",data:=.seq #[.int i tk,x'] }).get? b=some o->h2.get? b=some o:=λb o be bi y=>by
   have step:h'.get? b=some o:=by
    by_cases hb:b=s.heap.objs.size
    ·subst hb;rw[hT];exact(Yax s.heap (o:={ cls:=.type "tuple",data:=.seq #[.int i tk,x'] }) rfl).symm.trans y
    ·rw[Yf4 _ _ _ hb]at y;exact hk b o be bi y
   exact(hs2.2 b be).trans step
  have I2:Inv X pins σ (upd H s.heap.objs.size (.tup [.int (i:Int),x])) { s with heap:=h2,toks:=tk+1 }:=
   jhh (s:={ s with heap:=s.heap.push { cls:=.type "tuple",data:=.seq #[.int i tk,x'] },toks:=tk+1 }) (h':=h2) (t':=tk+1) (e:=e) (it:=it) I1 kk (fpU e hen (hf e (by simp))) (fpU it hin (hf it (by simp)))
  refine⟨.ref s.heap.objs.size,_,I2,rfl,⟨x,_,λys hy=>by rw[I.list_inj hy hq];exact hx,rfl,hfr,rfl⟩,⟨⟨_,by simpa using he2⟩,?_⟩,λb hb=>?_⟩
  ·obtain⟨o,ho',r⟩:=hs'.1;exact⟨o,(hs2.2 it (Ne.symm hei)).trans ho',r⟩
  ·simp only[Yau,Yam,or_false]at hb;rcases hb with rfl|rfl
   ·rw[jac hen];exact(hf _ (by simp)).1
   ·rw[jac hin];exact(hf _ (by simp)).1
 done:=by
  intro X hP hw hK hc i pins s σ H E I hf st hg;subst hP hw hK;obtain⟨xs,hq,hx⟩:=hg;obtain⟨its,rv,p,hz⟩:=I.list hq;obtain⟨⟨old,he⟩,hit⟩:=st;have hl:its.toArray.size=i:=by rw[Yak,<- rv.length];exact hx
  refine YfW (YeO (A:=X.A.in1) (I.ok.hd hc) it a hai its.toArray) he ⟨by rw[hl];exact hit,p.isList⟩ λh' eb=>⟨rfl,?_⟩
  obtain⟨f0,f1,f2,f3,f4,f5⟩:=hf it (by simp)
  exact I.turned (t':=s.toks) (λb o hb y=>eb b o hb y) f0 f1 f3 f4 f5
 self:=λA i s Q E st h=>by
  obtain⟨⟨old,he⟩,_⟩:=st;exact Yc6 he h
section
variable {X:Cx}
def jnF  (K:Yac)(ta:TA):TI:=λσ H R=>ta σ H λvs H1=>∃a,vs=[.ref a]/\(((∃xs,H1 a=some (.tup xs))/\R (Ite K a) H1)\/((∃xs,SqL K H1 a xs)/\R (Itf K a) H1))
def ji0 {l:Expr}{ta:TA}{p pos tpos:Pos}{elts:List Expr}{x1}(hg:Gl X "enumerate")(hm:X.mg "enumerate" = none)(ha:PA X [l] ta)(hs:YaA [l] X.env=[(false,eval l X.env)]:=by rfl) :
  PI X (.Tuple elts x1 tpos) (.Call (.Name "enumerate" p) [l] [] pos) (jnF X.K ta):=by
 intro pins s σ H R I h;refine Call_ (jde I hg hm boot_enumerate (Ybp (thn (ha pos pins s σ H _ I h) λus s1 ⟨vs,H1,I1,r1,q1⟩=>?_) hs rfl));obtain⟨a,e,q⟩:=q1;subst e;obtain⟨u,rfl,rx⟩:=jcQ r1;cases rx;have fp:∀b∈[s1.heap.objs.size+1,s1.heap.objs.size],FpOk X pins H1 b:=λb hb=>by
  simp only[Yau,Yam,or_false]at hb;rcases hb with rfl|rfl
  ·exact I1.fpOk (YdI _) (I1.hok.fresh (YdI _))
  ·exact I1.fpOk (Yah _) (I1.hok.fresh (Yah _))
 rcases q with⟨⟨xs,hq⟩,q⟩|⟨⟨xs,hq⟩,q⟩
 ·obtain⟨its,rv,t,hz⟩:=I1.tuple (SqT.of hq);have hlt:a<s1.heap.objs.size:=by obtain⟨o,ho,_⟩:=t;exact Yan ho
  exact jet (items:=its.toArray) t λh' he hit hk=>Yc6 he ⟨_,_,_,_,H1,rfl,I1.kept (t':=s1.toks) hk,jhj a _ _ (Nat.succ_ne_self _) (Yaz (Yd4 hlt)) (Yaz hlt),⟨⟨_,he⟩,hit⟩,fp,q⟩
 ·obtain⟨its,rv,t,hz⟩:=I1.list hq;have hlt:a<s1.heap.objs.size:=by obtain⟨o,ho,_⟩:=t.isList;exact Yan ho
  exact jeu (items:=its.toArray) t.isList λh' he hit hk=>Yc6 he ⟨_,_,_,_,H1,rfl,I1.kept (t':=s1.toks) hk,jgK a _ _ (Nat.succ_ne_self _) (Yaz (Yd4 hlt)) (Yaz hlt),⟨⟨_,he⟩,hit⟩,fp,q⟩
end
end L2

namespace L2
open PySem PySem.Spec PyProof.Rows
section
variable {X:Cx}
def jhI  : OpR X (YaV .LtE) (λx y H Q=>∃i j,x=.str i/\y=.str j/\Q (.bl (!decide (j.cps.toList<i.cps.toList))) H):=by
 intro pins s σ H x y v u Q I rx ry h;obtain⟨i,j,rfl,rfl,q⟩:=h;obtain⟨t,rfl⟩:=rx;obtain⟨t',rfl⟩:=ry;exact PySem.P.le_str (jan I q rfl)
def jes  : jaX X (.type "int") (λxs H Q=>∃z n,xs=[.str z]/\PySem.intText? z=some n/\z.length<=640/\Q (.int n) H):=by
 intro pins s σ H xs us Q I r h;obtain⟨z,n,rfl,h1,h2,q⟩:=h;obtain⟨u,rfl,rx⟩:=jcQ r;obtain⟨t,rfl⟩:=rx;exact PySem.W.KIN.call_text h1 h2 ⟨.int n,H,I.tok _,⟨_,rfl⟩,q⟩
noncomputable def Its  (x:Str):It:=⟨λi _=>i<x.cps.size,λi H y H'=>H'=H/\∃c,x.cps[i]?=some c/\y=.str ⟨#[c]⟩,λi _=>x.cps.size<=i⟩
def jiI    {K:Yac} x t it:Turn P w K tg (Its x) [it] it (λi h=>h.IsStrIter it "str_ascii_iterator" x t i) where
 mem:=by simp
 obj:=λi h st b hb=>by
  obtain rfl:b=it:=by simpa using hb
  obtain⟨o,e,c,d⟩:=st;exact⟨o,e,λv z=>by rw[d]at z;cases z⟩
 keep:=λi h h' st k=>let ⟨o,e,r⟩:=st;⟨o,k it (by simp) o e,r⟩
 item:=by
  intro X hP hw hK hc i pins s σ H E I hf st hg;subst hP hw hK;obtain⟨f0,f1,f2,f3,f4,f5⟩:=hf it (by simp)
  have hg:i<x.cps.size:=hg;have hx:x.cps[i]?=some x.cps[i]:=by simp[hg]
  refine wpAny_pyNext_ascii_item st hx λh' st' sb=>?_;have I1:Inv X pins σ H { s with heap:=h',toks:=s.toks+1 }:=I.turned (t':=s.toks+1) (λb o hb e=>(sb.2 b hb).trans e) f0 f1 f3 f4 f5
  obtain⟨o,e,c,d⟩:=id st';exact⟨_,rfl,jjh (s:={ s with heap:=h',toks:=s.toks+1 }) e c d (by decide) ⟨.str ⟨#[x.cps[i]]⟩,H,I1,⟨_,rfl⟩,⟨rfl,_,hx,rfl⟩,st',λb hb=>(hf b hb).1⟩⟩
 done:=by
  intro X hP hw hK hc i pins s σ H E I hf st hg;subst hP hw hK;obtain⟨f0,f1,f2,f3,f4,f5⟩:=hf it (by simp)
  have hg:x.cps.size<=i:=hg;exact wpAny_pyNext_ascii_end (I.ok.hd hc) st (by simpa using hg) λh' eb=>⟨rfl,I.turned (t':=s.toks) (λb o hb e=>eb b o hb e) f0 f1 f3 f4 f5⟩
 self:=λ_ _ _ _ _ st h=>wpAny_pyIter_striter_ascii st h
def iStr  (tl:TE):TI:=λσ H R=>tl σ H λx H1=>∃z:Str,x=.str z/\z.cps.all (·< 128)=true/\R (Its z) H1
def jmH    (hl:PE X l tl):PI X tg l (iStr tl):=by
 intro pins s σ H R I h;refine thn (hl pins s σ H _ I h) λv s1 ⟨x,H1,I1,r1,z,e,ha,q⟩=>?_;subst e;obtain⟨t,rfl⟩:=r1;refine wpAny_pyIter_ascii ha ?_;refine⟨s1.heap.objs.size,[s1.heap.objs.size],_,_,H1,rfl,I1.kept (t':=s1.toks) λb o e=>Yaf _ e,jiI z t _,⟨_,Yax _ rfl,rfl,rfl⟩,λb hb=>?_,q⟩;obtain rfl:b=s1.heap.objs.size:=by simpa using hb
 exact I1.fpOk (Yah _) (I1.hok.fresh (Yah _))
abbrev TF:=St->Hp->(List Str->Hp->Prop)->Prop
noncomputable def cats  (out:Str)(ys:List Str):Str:=ys.foldl (·++·) out
def PJ  (X:Cx)(vs:List Expr)(t:TF):Prop:=
 ∀(out:Str) (pins:List (Addr×Obj)) (s:Shared) (σ:St) (H:Hp) (Q:VK),out.length+10000*vs.length<=Yai->Inv X pins σ H s->t σ H (λys H1=>Q (.str (cats out ys)) H1)->wpAny (model X.prog X.w) X.A (joinParts out (evalEach vs X.env)) (EP X pins σ Q) X.xe s
theorem jgz        (hne:a≠it):∀m i (s:Shared) Q ,s.heap.IsListIter it a i->s.heap.IsList a its->i+m<=its.size->
  (∀h',h'.IsListIter it a (i+m)->Ycw it s.heap h'->Q ((its.toList.drop i).take m) { s with heap:=h' })->wpAny (model prog w) A (draw (.ref it) m) Q E s
 |0,i,s,Q,hit,_,_,q=>Yap (by simpa using q s.heap hit (Ycw.refl ..))
 |m+1,i,s,Q,hit,hl,hle,q=>by
  have hi:i<its.size:=by lia
  show wpAny _ _ (pyNext (.ref it) >>= _) Q E s;refine Yae (YfV hit hl (x:=its[i]) (by simp[hi]) λh1 hit1 sb1=>?_)
  refine Yae (Ybo (jgz hne m (i+1) _ _ hit1 (hl.extBut sb1.extBut hne) (by lia) λh2 hit2 sb2=>Yap ?_))
  have e:its.toList.drop i=its[i]::its.toList.drop (i+1):=by simp[Ybk,hi]
  have r:=q h2 (by rw[show i+(m+1)=i+1+m by lia];exact hit2) (sb1.trans sb2)
  rw[e,List.take_succ_cons]at r;exact r
def gLst  (K:Yac)(n:Nat)(t:TGs):TG:=λv σ H Q=>∃a xs,v=.ref a/\SqL K H a xs/\xs.length=n/\t xs σ H Q
def jmL {es:List Expr}{k n:Nat}{pos:Pos}{t:TGs}(hc:X.calm=true)(h:PGs X es t)
  (hn:(Ya4 es X.env).length=n:=by rfl) (hst:(Ya4 es X.env).findIdx? (·.1)=none:=by rfl):PG X (.Tuple es k pos) (gLst X.K n t):=by
 intro pins s σ H v u Q I r hw;obtain⟨a,xs,rfl,hq,hl,hw⟩:=hw;cases r;obtain⟨its,rv,hp,hz⟩:=I.list hq;have hL:=hp.isList;have hlt:a≠s.heap.objs.size:=by obtain⟨o,ho,_⟩:=hL;exact Yaz (Yan ho)
 have sz:its.toArray.size=n:=by rw[Yak,<- rv.length];exact hl
 rw[assign_Tuple];refine Yae (Ybn ?_);unfold unpack;rw[hn,hst];refine Yae (Ybo ?_);unfold unpackItems;refine Yae ?_;unfold notIterableAtAll;refine Yae (wpAny_specialOf hL.typeIs slot_list_iter.lookup ?_);refine Yap ?_;simp only[YbA,if_false];refine Yae (Ybo (YcA hL ?_));refine Yae (Ybo (jgz hlt n 0 _ _ ⟨_,Yax _ rfl,rfl,rfl⟩ (hL.push _) (by lia) λh1 hit1 sb1=>?_))
 have hall:List.take n (List.drop 0 its.toArray.toList)=its:=by
  rw[Yds];exact Ye5 (by simp;rw[<- rv.length];lia)
 rw[hall];have hil:its.length=n:=by rw[<- rv.length];exact hl
 rw[if_neg (by lia)]
 have hL1:h1.IsList a its.toArray:=(hL.push _).extBut sb1.extBut hlt;refine Yae (Ybo (Yf9 (I.ok.hd hc) hit1 hL1 (by simp;lia) λh2 eb=>?_))
 simp only[Option.isSome_none,YbA,if_false];refine Yap ?_;have I1:Inv X pins σ H { s with heap:=h2 }:=I.kept (t':=s.toks) λb o e=>eb b o (Yaz (Yan e)) (sb1.extBut b o (Yaz (Yan e)) (Yaf _ e))
 exact h pins _ σ H xs _ Q I1 rv hw
end
end L2

namespace L2
open PySem PySem.Spec PyProof.Rows Builtin Builtin.Str

end L2

namespace L2
open PySem PySem.Spec PyProof.Rows
section
variable {prog:Program}{w:World}{K:Type}[DecidableEq K]{knd:KeyKind prog w K}{A:Around}{E:Value->Shared->Prop}{s:Shared}
end



end L2

namespace L2
open PySem PySem.Spec PyProof.Rows
open Sem (wp)
structure Zs (h:Heap)(n a1 a2 k:Nat)(f0:Value):Prop where
 z:IsZip h (n+4) (n+2) (n+3) f0
 i:IsPair h (n+2) (.ref n) (.ref (n+1))
 o:∃p q,IsPair h (n+3) p q
 i1:h.IsTupleIter n a1 k
 i2:h.IsTupleIter (n+1) a2 k


end L2

namespace Z
open PySem L2
inductive U where
 |non|bl (b:Bool)|int (i:Int)|str (x:Str)|tup (xs:List U)|loc (a:Addr)|fn (n:Nat)|ty (n:String)
 |exc (c:Nat) (fs:List U)|own (n:Nat)|clo (n:Nat) (cs:List U)
inductive MO where
 |lst (xs:List U)|fro (xs:List U)|dK (kvs:List (Key×U))|dT (kvs:List (List Key×U))|frd (o:Obj) (kvs:List (List Key×U))|frk (o:Obj) (kvs:List (Key×U))
abbrev Gp:=Addr->Option MO
noncomputable def gup  (G:Gp)(a:Addr)(o:MO):Gp:=λb=>if b=a then some o else G b
structure New (G:Gp)(p:Addr)(o:MO)(G':Gp):Prop where
 no:G p=none
 eq:G'=gup G p o
structure Put (G:Gp)(a:Addr)(o:MO)(G':Gp):Prop where
 eq:G'=gup G a o
structure XV where
 c:Nat
 fs:List U
abbrev Sg:=List (Option U)
abbrev K1:=U->Gp->Prop
abbrev KX:=XV->Gp->Prop
def newO  (G:Gp)(o:MO)(Q:K1):Prop:=∀p G',New G p o G'->Q (.loc p) G'
def putO  (G:Gp)(a:Addr)(o:MO)(Q:Gp->Prop):Prop:=∀G',Put G a o G'->Q G'
def newO.at     (h:newO G o Q):∀p,G p=none->Q (.loc p) (gup G p o):=λp hp=>h p _ ⟨hp,rfl⟩
def putO.at      (h:putO G a o Q):Q (gup G a o):=h _ ⟨rfl⟩
structure En where
 nx:Sg->Gp->Prop
 rt:K1
 ex:XV->Sg->Gp->Prop
noncomputable def lsG  (G:Gp)(a:Addr):Option (List U):=match G a with
 |some (.lst xs)=>some xs
 |some (.fro xs)=>some xs
 |_=>none
noncomputable def kU  : U->Option Key
 |.int i=>some (.inl i)
 |.str x=>some (.inr x)
 |_=>none
noncomputable def kUs  : List U->Option (List Key)
 |[]=>some []
 |u::r=>match kU u,kUs r with
  |some k,some ks=>some (k::ks)
  |_,_=>none
noncomputable def Ku  : Key->U
 |.inl i=>.int i
 |.inr x=>.str x
section
variable {κ α:Type}[DecidableEq κ]
noncomputable def dGet (kvs:List (κ×α))(k:κ):Option α:=(kvs.find? λkv=>decide (kv.1=k)).map (·.2)
noncomputable def dPut (kvs:List (κ×α))(k:κ)(v:α):List (κ×α):=
 if (kvs.any λkv=>decide (kv.1=k))=true then kvs.map (λkv=>if kv.1=k then (kv.1,v) else kv) else kvs++[(k,v)]
def jds (more:List (κ×α)):List (κ×α):=more.foldl (λacc kv=>dPut acc kv.1 kv.2) []
end
def cut  {α:Type}(xs:List α)(lo hi:Option Int):List α:=(xs.drop (HT.sIx xs.length 0 lo)).take (HT.sIx xs.length xs.length hi-HT.sIx xs.length 0 lo)
mutual
inductive DU (G:Gp):U->PyData->Prop
 |non:DU G .non .none
 |bl (b:Bool):DU G (.bl b) (.bool b)
 |int (i:Int):DU G (.int i) (.int i)
 |str (x:Str):DU G (.str x) (.str x)
 |tup {us:List U} {ds:List PyData}:DUs G us ds->DU G (.tup us) (.tuple ds)
 |lst {a:Addr} {us:List U} {ds:List PyData}:lsG G a=some us->DUs G us ds->DU G (.loc a) (.list ds)
 |dic {a:Addr}:G a=some (.dK [])->DU G (.loc a) (.dict [])
inductive DUs (G:Gp):List U->List PyData->Prop
 |nil:DUs G [] []
 |cons {u:U} {d:PyData} {us:List U} {ds:List PyData}:DU G u d->DUs G us ds->DUs G (u::us) (d::ds)
end
def addU  : U->U->Gp->K1->Prop
 |.int i,.int j,G,Q=>Q (.int (i+j)) G
 |.str x,.str y,G,Q=>x.length+y.length<=Yai/\Q (.str (x++y)) G
 |.tup xs,.tup ys,G,Q=>xs.length+ys.length<=Yai/\Q (.tup (xs++ys)) G
 |.loc a,.loc b,G,Q=>∃xs ys,G a=some (.lst xs)/\G b=some (.lst ys)/\xs.length+ys.length<=Yai/\newO G (.lst (xs++ys)) Q
 |.bl b,.int j,G,Q=>Q (.int ((if b=true then (1:Int) else 0)+j)) G
 |_,_,_,_=>False
def subU  : U->U->Gp->K1->Prop
 |.int i,.int j,G,Q=>Q (.int (i-j)) G
 |.bl b,.int j,G,Q=>Q (.int ((if b=true then (1:Int) else 0)-j)) G
 |.int i,.bl b,G,Q=>Q (.int (i-if b=true then (1:Int) else 0)) G
 |_,_,_,_=>False
def mulU  : U->U->Gp->K1->Prop
 |.int i,.int j,G,Q=>CMul i j/\Q (.int (i*j)) G
 |.loc a,.int k,G,Q=>∃xs,G a=some (.lst xs)/\-(2 ^ 63)<=k/\k<2 ^ 63/\xs.length*k.toNat<=Yai/\newO G (.lst (Yab k.toNat xs).flatten) Q
 |.tup xs,.int k,G,Q=>xs≠[]/\0<=k/\k<2 ^ 62/\xs.length*k.toNat<=Yai/\Q (.tup (Yab k.toNat xs).flatten) G
 |.str z,.int k,G,Q=>0<=k/\k<1000/\z.length<=1000/\Q (.str (repS z k.toNat)) G
 |_,_,_,_=>False
def jlD  : U->U->Gp->K1->Prop
 |.int i,.int j,G,Q=>0<j/\j<1073741824/\Q (.int (i/j)) G
 |_,_,_,_=>False
def modU  : U->U->Gp->K1->Prop
 |.int i,.int j,G,Q=>0<j/\Q (.int (i%j)) G
 |_,_,_,_=>False
def powU  : U->U->Gp->K1->Prop
 |.int i,.int j,G,Q=>CPow i j/\Q (.int (i ^ j.toNat)) G
 |_,_,_,_=>False
def binU  : YdO->U->U->Gp->K1->Prop
 |.Add=>addU
 |.Sub=>subU
 |.Mult=>mulU
 |.FloorDiv=>jlD
 |.Mod=>modU
 |.Pow=>powU
 |_=>λ_ _ _ _=>False
def jh8  : YdO->U->U->Gp->K1->Prop
 |.Add,.int i,.int j,G,Q=>Q (.int (i+j)) G
 |.Add,.str x,.str y,G,Q=>x.length+y.length<=Yai/\Q (.str (x++y)) G
 |.Sub,.int i,.int j,G,Q=>Q (.int (i-j)) G
 |.Mult,.int i,.int j,G,Q=>CMul i j/\Q (.int (i*j)) G
 |_,_,_,_,_=>False
def negU  : U->Gp->K1->Prop
 |.int i,G,Q=>Q (.int (-i)) G
 |_,_,_=>False
def Small  (d:PyData):Prop:=d.canLay0=true/\d.depth<=100
noncomputable def eqU  : U->U->Gp->(Bool->Prop)->Prop
 |.non,.non,_,k=>k true
 |.non,.bl _,_,k=>k false
 |.non,.int _,_,k=>k false
 |.non,.str _,_,k=>k false
 |.bl _,.non,_,k=>k false
 |.bl a,.bl b,_,k=>k (decide (a=b))
 |.bl _,.str _,_,k=>k false
 |.int _,.non,_,k=>k false
 |.int i,.int j,_,k=>k (decide (i=j))
 |.int _,.str _,_,k=>k false
 |.str _,.non,_,k=>k false
 |.str _,.bl _,_,k=>k false
 |.str _,.int _,_,k=>k false
 |.str x,.str y,_,k=>k (decide (x=y))
 |x,y,G,k=>∃d e,DU G x d/\DU G y e/\Small d/\Small e/\k (YaJ d e)
def eqQ  : U->U->Gp->(Bool->Prop)->Prop
 |.loc a,.str y,G,k=>(∃kvs,G a=some (.dK kvs)/\k false)\/(∃xs,G a=some (.lst xs)/\k false)\/eqU (.loc a) (.str y) G k
 |.tup xs,.tup [],_,k=>k xs.isEmpty
 |.tup _,.str _,_,k=>k false
 |x,y,G,k=>eqU x y G k
noncomputable def flat  : U->Bool
 |.non|.bl _|.int _|.str _=>true
 |_=>false
noncomputable def eqF  : U->U->Bool
 |.non,.non=>true
 |.bl a,.bl b=>a==b
 |.bl a,.int b=>(if a then 1 else 0)==b
 |.int a,.bl b=>a==(if b then 1 else 0)
 |.int a,.int b=>a==b
 |.str a,.str b=>a==b
 |_,_=>false
def inU  : U->U->Gp->(Bool->Prop)->Prop
 |.str x,.str y,_,k=>k (!(Yci y x 0 y.length 1).isEmpty)
 |.tup xs,.tup ys,G,k=>∃d ds,DU G (.tup xs) d/\DUs G ys ds/\Small d/\(∀e∈ds,Small e)/\k (ds.any λe=>YaJ e d)
 |x,.tup ys,_,k=>flat x=true/\ys.all flat=true/\k (ys.any λy=>eqF y x)
 |x,.loc a,G,k=>match G a with
  |some (.lst ys)=>(flat x=true/\ys.all flat=true/\k (ys.any λy=>eqF y x))\/
    ∃d ds,DU G x d/\DUs G ys ds/\Small d/\(∀e∈ds,Small e)/\k (ds.any λe=>YaJ e d)
  |some (.fro ys)=>flat x=true/\ys.all flat=true/\k (ys.any λy=>eqF y x)
  |some (.dK kvs)=>match kU x with
   |some y=>k (dGet kvs y).isSome
   |none=>False
  |some (.dT kvs)=>match x with
   |.tup xs=>match kUs xs with
    |some y=>k (dGet kvs y).isSome
    |none=>False
   |_=>False
  |some (.frk _ kvs)=>match kU x with
   |some y=>k (dGet kvs y).isSome
   |none=>False
  |_=>False
 |_,_,_,_=>False
def ordU  : CmpOp->U->U->(Bool->Prop)->Prop
 |.Lt,.int i,.int j,k=>k (decide (i<j))
 |.LtE,.int i,.int j,k=>k (decide (i<=j))
 |.LtE,.str x,.str y,k=>k (!decide (y.cps.toList<x.cps.toList))
 |.Gt,.int i,.int j,k=>k (decide (j<i))
 |.GtE,.int i,.int j,k=>k (decide (j<=i))
 |_,_,_,_=>False
def cmpU  : CmpOp->U->U->Gp->(Bool->Prop)->Prop
 |.Eq,x,y,G,k=>eqQ x y G k
 |.NotEq,x,y,G,k=>eqU x y G λb=>k (!b)
 |.Is,_,_,_,_=>False
 |.IsNot,_,_,_,_=>False
 |.In,x,y,G,k=>inU x y G k
 |.NotIn,x,y,G,k=>inU x y G λb=>k (!b)
 |o,x,y,_,k=>ordU o x y k
def truU  : U->Gp->(Bool->Prop)->Prop
 |.non,_,k=>k false
 |.bl b,_,k=>k b
 |.int i,_,k=>k (i != 0)
 |.str x,_,k=>x.length<=Yai/\k ((x.length:Int) != 0)
 |.tup xs,_,k=>k (!xs.isEmpty)
 |.loc a,G,k=>match G a with
  |some (.lst xs)=>k (!xs.isEmpty)
  |some (.fro xs)=>k (!xs.isEmpty)
  |some (.dK kvs)=>k (!kvs.isEmpty)
  |_=>False
 |_,_,_=>False
def ixU  : U->U->Gp->K1->Prop
 |.tup xs,.int i,G,Q=>match atI xs i with
  |some u=>Q u G
  |none=>False
 |.str x,.int i,G,Q=>x.length<=Yai/\match atI x.cps.toList i with
  |some c=>Q (.str ⟨#[c]⟩) G
  |none=>False
 |.loc a,y,G,Q=>match G a with
  |some (.lst xs)=>(match y with|.int i=>(match atI xs i with|some u=>Q u G|none=>False)|_=>False)
  |some (.fro xs)=>(match y with|.int i=>(match atI xs i with|some u=>Q u G|none=>False)|_=>False)
  |some (.dK kvs)=>(match kU y with|some k=>(match dGet kvs k with|some u=>Q u G|none=>False)|none=>False)
  |some (.dT kvs)=>(match y with|.tup ys=>(match kUs ys with|some k=>(match dGet kvs k with|some u=>Q u G|none=>False)|none=>False)|_=>False)
  |some (.frk _ kvs)=>(match kU y with|some k=>(match dGet kvs k with|some u=>Q u G|none=>False)|none=>False)
  |_=>False
 |_,_,_,_=>False
def slU  : U->Option Int->Option Int->Gp->K1->Prop
 |.tup xs,lo,hi,G,Q=>Q (.tup (cut xs lo hi)) G
 |.str x,lo,hi,G,Q=>x.length<=Yai/\Q (.str (Yfj x lo hi)) G
 |.loc a,lo,hi,G,Q=>match lsG G a with
  |some xs=>newO G (.lst (cut xs lo hi)) Q
  |none=>False
 |_,_,_,_,_=>False
def revU  : U->U->Gp->K1->Prop
 |.tup xs,.int i,G,Q=>i=-1/\Q (.tup xs.reverse) G
 |.loc a,.int i,G,Q=>match lsG G a with
  |some xs=>(i=1\/i=-1)/\newO G (.lst (if i=1 then xs else xs.reverse)) Q
  |none=>False
 |_,_,_,_=>False
def jpB  : U->U->Gp->K1->Prop
 |.loc a,.int i,G,Q=>(match G a with
  |some (.lst xs)=>0<=i/\(match xs[i.toNat]? with|some u=>Q u G|none=>False)
  |_=>False)
 |_,_,_,_=>False
def setU  : U->U->U->Gp->(Gp->Prop)->Prop
 |.loc a,y,v,G,Q=>match G a with
  |some (.lst xs)=>(match y with|.int i=>(match ixN xs.length i with|some j=>putO G a (.lst (xs.set j v)) Q|none=>False)|_=>False)
  |some (.dK kvs)=>(match kU y with|some k=>kvs.length<Yai/\putO G a (.dK (dPut kvs k v)) Q|none=>False)
  |some (.dT kvs)=>(match y with|.tup ys=>(match kUs ys with|some k=>kvs.length<Yai/\putO G a (.dT (dPut kvs k v)) Q|none=>False)|_=>False)
  |_=>False
 |_,_,_,_,_=>False
inductive Blt|len|repr|min|max|sum|all|any|sorted|int|str|isi
 deriving DecidableEq
inductive Mth|append|extend|insert|pop|reverse|index|join|get|split|setd
 deriving DecidableEq
noncomputable def jh5  : List U->Option (List Int)
 |[]=>some []
 |.int i::r=>(match jh5 r with|some l=>some (i::l)|none=>none)
 |_=>none
noncomputable def jeB  : List U->Option (List Str)
 |[]=>some []
 |.str x::r=>(match jeB r with|some l=>some (x::l)|none=>none)
 |_=>none
noncomputable def jdu  : List U->Option (List Bool)
 |[]=>some []
 |.bl x::r=>(match jdu r with|some l=>some (x::l)|none=>none)
 |_=>none
noncomputable def tyN  : U->Gp->Option String
 |.non,_=>some "NoneType"
 |.bl _,_=>some "bool"
 |.int _,_=>some "int"
 |.str _,_=>some "str"
 |.tup _,_=>some "tuple"
 |.loc a,G=>match G a with
  |some (.lst _)=>some "list"
  |some (.dK _)=>some "dict"
  |some (.dT _)=>some "dict"
  |_=>none
 |_,_=>none
def isiU  (x:U)(G:Gp)(t:String):Option Bool:=match tyN x G with
 |some n=>if t∈["bool", "int", "str", "list", "tuple", "dict"] then some (n==t||(n == "bool" && t == "int")) else none
 |none=>none
def lenU  : List U->Gp->K1->Prop
 |[.tup xs],G,Q=>Q (.int xs.length) G
 |[.str x],G,Q=>x.length<=Yai/\Q (.int x.length) G
 |[.loc a],G,Q=>(match G a with
  |some (.lst xs)=>Q (.int xs.length) G
  |some (.fro xs)=>Q (.int xs.length) G
  |some (.dK kvs)=>Q (.int kvs.length) G
  |_=>False)
 |_,_,_=>False
def jhA  : List U->Gp->K1->Prop
 |[u],G,Q=>∃d,DU G u d/\Fits 16000000 60 d/\Q (.str d.shown) G
 |_,_,_=>False
def minU  : List U->Gp->K1->Prop
 |[.int i,.int j],G,Q=>Q (.int (if j<i then j else i)) G
 |_,_,_=>False
def jjd  (xs:List U)(G:Gp)(Q:K1):Prop:=match jh5 xs with
 |some ns=>ns≠[]/\∀z∈ns,(∀y∈ns,y<=z)->Q (.int z) G
 |none=>False
def maxU  : List U->Gp->K1->Prop
 |[.int i,.int j],G,Q=>Q (.int (if j>i then j else i)) G
 |[.loc a],G,Q=>(match G a with
  |some (.lst xs)=>jjd xs G Q
  |_=>False)
 |[.tup xs],G,Q=>jjd xs G Q
 |_,_,_=>False
def allU  : List U->Gp->K1->Prop
 |[.loc a],G,Q=>(match G a with
  |some (.lst xs)=>(match jdu xs with|some bs=>Q (.bl (bs.all id)) G|none=>False)
  |_=>False)
 |_,_,_=>False
def intU  : List U->Gp->K1->Prop
 |[.int i],G,Q=>Q (.int i) G
 |[.bl b],G,Q=>Q (.int (if b then 1 else 0)) G
 |[.str z],G,Q=>∃n,PySem.intText? z=some n/\z.length<=640/\Q (.int n) G
 |_,_,_=>False
def jg0  : List U->Gp->K1->Prop
 |[x,.ty t],G,Q=>(match isiU x G t with|some b=>Q (.bl b) G|none=>False)
 |_,_,_=>False
def mkDU  : U->Gp->K1->Prop
 |.loc a,G,Q=>(match G a with
  |some (.dK kvs)=>∃ns:List Int,kvs.map (·.1)=ns.map (λz=>(Sum.inl z:Key))/\newO G (.lst (ns.map .int)) Q
  |_=>False)
 |_,_,_=>False
def jo6  : U->Gp->K1->Prop
 |.tup us,G,Q=>∃ns:List Int,us=ns.map .int/\ns.length<64/\∀ms:List Int,ms.Pairwise (·< ·)->(∀z,z∈ms↔z∈ns)->newO G (.lst (ms.map .int)) Q
 |_,_,_=>False
def jpy  : U->Gp->K1->Prop
 |.loc a,G,Q=>(match G a with
  |some (.lst us)=>∃ks:List (List Int),(us=ks.map (λk=>U.tup (k.map .int))\/∃ns:List Int,us=ns.map .int/\ks=ns.map λn=>[n])/\(us=[]->Q .non G)/\∀u,us[jn3 ks]?=some u->Q u G
  |_=>False)
 |_,_,_=>False
def jpz  : U->Gp->K1->Prop
 |.loc a,G,Q=>(match G a with
  |some (.lst us)=>∃ns:List Int,us=ns.map .int/\(ns=[]->Q (.int 0) G)/\∀z∈ns,(∀y∈ns,y<=z)->Q (.int z) G
  |_=>False)
 |_,_,_=>False
def bltU  : Blt->List U->Gp->K1->Prop
 |.len=>lenU
 |.repr=>jhA
 |.min=>minU
 |.max=>maxU
 |.sum=>λ_ _ _=>False
 |.all=>allU
 |.any=>λ_ _ _=>False
 |.sorted=>λ_ _ _=>False
 |.int=>intU
 |.str=>λ_ _ _=>False
 |.isi=>jg0
def jfQ  : U->List U->Gp->K1->Prop
 |.loc a,[v],G,Q=>(match G a with
  |some (.lst xs)=>xs.length<Yai/\putO G a (.lst (xs++[v])) (Q .non)
  |_=>False)
 |_,_,_,_=>False
def jfF  : U->List U->Gp->K1->Prop
 |.loc a,[.loc b],G,Q=>(match G a,G b with
  |some (.lst xs),some (.lst ys)=>xs.length+ys.length<=Yai/\putO G a (.lst (xs++ys)) (Q .non)
  |_,_=>False)
 |_,_,_,_=>False
def popU  : U->List U->Gp->K1->Prop
 |.loc a,[],G,Q=>(match G a with
  |some (.lst xs)=>(match xs[xs.length-1]? with|some v=>putO G a (.lst xs.dropLast) (Q v)|none=>False)
  |_=>False)
 |.loc a,[.int i],G,Q=>(match G a with
  |some (.lst xs)=>-(2 ^ 63)<=i/\i<2 ^ 63/\(match Yed i xs.length with
   |some k=>(match xs[k]? with|some v=>putO G a (.lst (xs.eraseIdx k)) (Q v)|none=>False)
   |none=>False)
  |_=>False)
 |_,_,_,_=>False
def jlo  : U->List U->Gp->K1->Prop
 |.str z,[.tup xs],G,Q=>(match jeB xs with|some ys=>z.length<=16/\(ys.map (·.length)).sum+ys.length<=1048576/\Q (.str (YbS z ys)) G|none=>False)
 |.str z,[.loc a],G,Q=>(match G a with
  |some (.lst xs)=>(match jeB xs with|some ys=>z.length<=16/\(ys.map (·.length)).sum+ys.length<=1048576/\Q (.str (YbS z ys)) G|none=>False)
  |_=>False)
 |_,_,_,_=>False
def ja6  : Mth->U->List U->Gp->K1->Prop
 |.append=>jfQ
 |.extend=>jfF
 |.insert=>λ_ _ _ _=>False
 |.pop=>popU
 |.reverse=>λ_ _ _ _=>False
 |.index=>λ_ _ _ _=>False
 |.join=>jlo
 |.get=>λ_ _ _ _=>False
 |.split=>λ_ _ _ _=>False
 |.setd=>λ_ _ _ _=>False
noncomputable def mtU  : Mth->U->Gp->Option (String×String)
 |.append,x,G=>(match x with|.loc a=>(match G a with|some (.lst _)=>some ("list", "list.append")|_=>none)|_=>none)
 |.extend,x,G=>(match x with|.loc a=>(match G a with|some (.lst _)=>some ("list", "list.extend")|_=>none)|_=>none)
 |.insert,_,_=>none
 |.pop,x,G=>(match x with|.loc a=>(match G a with|some (.lst _)=>some ("list", "list.pop")|_=>none)|_=>none)
 |.reverse,_,_=>none
 |.index,_,_=>none
 |.join,x,_=>(match x with|.str _=>some ("str", "str.join")|_=>none)
 |.get,_,_=>none
 |.split,_,_=>none
 |.setd,_,_=>none
noncomputable def clsA  : List (Str×List Str):=[("PlanError",[]),("NoPaper",["word", "at"]),("TooMany",["word"]),("NoRing",["word"]),("NoText",["row", "word"]),("NoRow",["row"])]
def clsN  (c:Nat):Str:=(clsA.getD c ("",[])).1
def clsF  (c:Nat):List Str:=(clsA.getD c ("",[])).2
inductive HL where
 |is1 (c:Nat)|isi (cs:List Nat)|isiV|v (i:Nat)
inductive HA where
 |str (x:Str)|att (f:Str)
inductive HV where
 |cond (k:Bool) (a:Bool×HL) (as:List (Bool×HL))|one (a:HA)|bl (b:Bool)|tup (as:List HA)|lst (as:List HA)
inductive HS where
 |asg (i:Nat) (e:HV)|ifa (k:Bool) (a:Bool×HL) (as:List (Bool×HL)) (i:Nat) (e:HV)
section
variable (x:XV)
noncomputable def litH (ς:Sg):HL->Option Bool
 |.is1 c=>some (decide (x.c=c))
 |.isi cs=>some (cs.contains x.c)
 |.isiV=>some true
 |.v i=>match ς[i]? with
  |some (some (.bl b))=>some b
  |_=>none
def lit1 (ς:Sg)(p:Bool×HL):Option Bool:=match litH x ς p.2 with
 |some b=>some (if p.1=true then !b else b)
 |none=>none
noncomputable def jbW (ς:Sg)(k:Bool):Bool×HL->List (Bool×HL)->Option Bool
 |a,[]=>lit1 x ς a
 |a,b::r=>match lit1 x ς a with
  |some t=>if t=k then jbW ς k b r else some t
  |none=>none
def atH:HA->Option U
 |.str y=>some (.str y)
 |.att f=>((clsF x.c).zip x.fs).lookup f
noncomputable def atsH:List HA->Option (List U)
 |[]=>some []
 |a::r=>match atH x a,atsH r with
  |some u,some us=>some (u::us)
  |_,_=>none
def hvH (ς:Sg):HV->Gp->K1->Prop
 |.cond k a as,G,Q=>match jbW x ς k a as with
  |some b=>Q (.bl b) G
  |none=>False
 |.one a,G,Q=>match atH x a with
  |some u=>Q u G
  |none=>False
 |.bl b,G,Q=>Q (.bl b) G
 |.tup as,G,Q=>match atsH x as with
  |some us=>Q (.tup us) G
  |none=>False
 |.lst as,G,Q=>match atsH x as with
  |some us=>newO G (.lst us) Q
  |none=>False
def hsH:List HS->Sg->Gp->(Sg->Gp->Prop)->Prop
 |[],ς,G,k=>k ς G
 |.asg i e::r,ς,G,k=>hvH x ς e G λu G1=>hsH r (ς.set i (some u)) G1 k
 |.ifa q a as i e::r,ς,G,k=>match jbW x ς q a as with
  |some true=>hvH x ς e G λu G1=>hsH r (ς.set i (some u)) G1 k
  |some false=>hsH r ς G k
  |none=>False
end
mutual
inductive E where
 |v (i:Nat)|non|bl (b:Bool)|int (i:Int)|str (x:Str)|g (n:Nat)
 |bin (o:YdO) (a b:E)|neg (a:E)|not (a:E)|bop (k:Bool) (a:E) (es:Es)
 |cmp (o:CmpOp) (a b:E)|cmp2 (o p:CmpOp) (a b c:E)|ife (c a b:E)
 |tup (es:Es)|lst (es:Es)|dic (es:Es)|dicT
 |ix (a b:E)|sl (a:E) (lo hi:Eo)|rev (a st:E)
 |call (n:Nat) (es:Es)|app (i:Nat) (es:Es)|blt (b:Blt) (es:Es)|meth (m:Mth) (o:E) (es:Es)
 |ty (n:String)
 |lc (pick:List (Option Nat)) (t:Tg) (it:It) (ifs:Es) (e:E)|lc2 (pick:List (Option Nat)) (t:Tg) (it:It) (ifs:Es) (t2:Tg) (it2:It) (ifs2:Es) (e:E)|mkL (e:E)|mkT (e:E)|rngL (a:E)|rngT (a:E)|rngL2 (a b:E)|minD (e:E)|maxD (e:E)|mkD (e:E)|sset (e:E)|fst (es:Es)|lrp (e:E) (i:Nat) (y a b:Str) (es:Es)
inductive Eo where
 |no|so (e:E)
inductive Es where
 |nil|cons (e:E) (es:Es)
inductive Tg where
 |n (i:Nat)|t (ts:Tgs)
inductive Tgs where
 |nil|cons (t:Tg) (ts:Tgs)
inductive It where
 |e (e:E)|r1 (e:E)|r2 (a b:E)|enum (e:E)|dk (e:E)|s (e:E)|dv (e:E)|di (e:E)|zp (a b:E)
end
mutual
inductive S where
 |pass|expr (e:E)|asg (t:Tg) (e:E)|asgC (i:Nat) (e:E)|unp (ts:Tgs) (e:E)|setS (o i e:E)|par (is:List Nat) (es:Es)|aug (i:Nat) (o:YdO) (e:E)|augS (o i:E) (p:YdO) (e:E)
 |ite (c:E) (a b:Ss)|fr (t:Tg) (it:It) (b:Ss)|wh (c:E) (b:Ss)|ret (e:E)|retN
 |never|raise (c:Nat) (es:Es)|tr (b:Ss) (c:Nat) (n:Nat) (h:List HS)
inductive Ss where
 |nil|cons (s:S) (ss:Ss)
end
mutual
noncomputable def tgU:Tg->U->Sg->(Sg->Prop)->Prop
 |.n i,u,ς,k=>k (ς.set i (some u))
 |.t ts,u,ς,k=>match u with
  |.tup us=>tgsU ts us ς k
  |_=>False
noncomputable def tgsU:Tgs->List U->Sg->(Sg->Prop)->Prop
 |.nil,us,ς,k=>us=[]/\k ς
 |.cons t ts,us,ς,k=>match us with
  |[]=>False
  |u::r=>tgU t u ς λς'=>tgsU ts r ς' k
end
abbrev Cl:=Nat->List U->Gp->K1->KX->Prop
def slot  (ς:Sg)(i:Nat)(k:U->Prop):Prop:=match ς[i]? with
 |some (some u)=>k u
 |_=>False
noncomputable def jbc  (pick:List (Option Nat))(ς:Sg):Sg:=pick.map λo=>o.bind λj=>(ς[j]?).join
def jb9  (ok:Gp->Prop)(b:U->Gp->(Option U->Gp->Prop)->Prop):List U->List U->Gp->(List U->Gp->Prop)->Prop
 |[],acc,G,k=>ok G/\k acc G
 |x::xs,acc,G,k=>ok G/\b x G λo G'=>jb9 ok b xs (match o with|some u=>acc++[u]|none=>acc) G' k
def jfK  (ok:Gp->Prop)(b:U->List U->Gp->(List U->Gp->Prop)->Prop):List U->List U->Gp->(List U->Gp->Prop)->Prop
 |[],acc,G,k=>ok G/\k acc G
 |x::xs,acc,G,k=>ok G/\b x acc G λacc' G'=>jfK ok b xs acc' G' k
def forL  (ok:Gp->Prop)(b:U->Sg->Gp->(Sg->Gp->Prop)->Prop):List U->Sg->Gp->(Sg->Gp->Prop)->Prop
 |[],ς,G,k=>ok G/\k ς G
 |x::xs,ς,G,k=>ok G/\b x ς G λς' G'=>forL ok b xs ς' G' k
noncomputable def rngU  (i:Int)(n:Nat):List U:=(YaC n).map λk:Nat=>.int (i+k)
noncomputable def jcp  : Nat->List U->List U
 |_,[]=>[]
 |n,u::r=>.tup [.int n,u]::jcp (n+1) r
def itU  : U->Gp->(List U->(Gp->Prop)->Prop)->Prop
 |.tup xs,_,k=>k xs λ_=>True
 |.loc a,G,k=>match lsG G a with
  |some xs=>k xs λG'=>lsG G' a=some xs
  |none=>False
 |_,_,_=>False
def enI  : U->Gp->(List U->(Gp->Prop)->Prop)->Prop
 |.tup xs,_,k=>k (jcp 0 xs) λ_=>True
 |.loc a,G,k=>match lsG G a with
  |some xs=>k (jcp 0 xs) λG'=>lsG G' a=some xs
  |none=>False
 |_,_,_=>False
def jlQ  : U->Gp->(List U->(Gp->Prop)->Gp->Prop)->Prop
 |.loc a,G,Q=>match G a with
  |some (.dT kvs)=>∀o G',Put G a (.frd o kvs) G'->Q (kvs.map λp=>.tup (p.1.map Ku)) (λG'=>G' a=some (.frd o kvs)) G'
  |_=>False
 |_,_,_=>False
def jnG  (f:List (Key×U)->List U):U->Gp->(List U->(Gp->Prop)->Gp->Prop)->Prop
 |.loc a,G,Q=>match G a with
  |some (.dK kvs)=>∀o G',Put G a (.frk o kvs) G'->Q (f kvs) (λG'=>G' a=some (.frk o kvs)) G'
  |some (.frk o kvs)=>Q (f kvs) (λG'=>G' a=some (.frk o kvs)) G
  |_=>False
 |_,_,_=>False
noncomputable def joC  (kvs:List (Key×U)):List U:=kvs.map (·.2)
def jnA  (kvs:List (Key×U)):List U:=kvs.map λp=>.tup [Ku p.1,p.2]
def zipU  : U->U->(List U->Prop)->Prop
 |.tup xs,.tup ys,k=>k ((xs.zip ys).map λp=>.tup [p.1,p.2])
 |_,_,_=>False
def sgU  : U->(List U->Prop)->Prop
 |.str z,k=>z.cps.all (·< 128)=true/\k (z.cps.toList.map λc=>.str ⟨#[c]⟩)
 |_,_=>False
def fpU  : U->(Str->Prop)->Prop
 |.str z,k=>z.length<=10000/\k z
 |.int i,k=>i.natAbs.log2<1920/\k (toString i:String)
 |_,_=>False
def repU  (y b:Str):U->(Str->Str->Prop)->Prop
 |.str z,k=>y.length+z.length<=Yai/\z.length+b.length<=Yai/\∀w:Str,w.length<=z.length+b.length->(∀c∈w.cps.toList,c∈z.cps.toList\/c∈b.cps.toList)->k (y++z) w
 |_,_=>False
def unpU  (ts:Tgs):U->Gp->Sg->(Sg->Prop)->Prop
 |.loc a,G,ς,k=>match lsG G a with
  |some us=>tgsU ts us ς k
  |none=>False
 |_,_,_,_=>False
def glU  (gs:List U)(n:Nat)(k:U->Prop):Prop:=match gs[n]? with
 |some u=>k u
 |none=>False
abbrev UE:=Sg->Gp->K1->KX->Prop
abbrev UT:=Sg->Gp->(Bool->Gp->Prop)->KX->Prop
abbrev UA:=Sg->Gp->(List U->Gp->Prop)->KX->Prop
def truT  (t:UE):UT:=λς G Q X=>t ς G (λx G1=>truU x G1 λb=>Q b G1) X
noncomputable abbrev tp  (t:UE):UE×UT:=(t,truT t)
noncomputable def comb  : Bool->UE×UT->UE×UT->UE×UT
 |true,p,q=>(λς G Q X=>p.1 ς G (λx G1=>truU x G1 λc=>if c=true then q.1 ς G1 Q X else Q x G1) X,λς G Q X=>p.2 ς G (λc G1=>if c=true then q.2 ς G1 Q X else Q false G1) X)
 |false,p,q=>(λς G Q X=>p.1 ς G (λx G1=>truU x G1 λc=>if c=true then Q x G1 else q.1 ς G1 Q X) X,λς G Q X=>p.2 ς G (λc G1=>if c=true then Q true G1 else q.2 ς G1 Q X) X)
section
variable (gs:List U)(Δ:Cl)
mutual
noncomputable def den:E->UE×UT
 |.v i=>tp λς G Q _=>slot ς i λu=>Q u G
 |.non=>tp λ_ G Q _=>Q .non G
 |.bl b=>tp λ_ G Q _=>Q (.bl b) G
 |.int i=>tp λ_ G Q _=>Q (.int i) G
 |.str x=>tp λ_ G Q _=>Q (.str x) G
 |.g n=>tp λ_ G Q _=>glU gs n λu=>Q u G
 |.bin o a b=>tp λς G Q X=>(den a).1 ς G (λx G1=>(den b).1 ς G1 (λy G2=>binU o x y G2 Q) X) X
 |.neg a=>tp λς G Q X=>(den a).1 ς G (λx G1=>negU x G1 Q) X
 |.not a=>(λς G Q X=>(den a).1 ς G (λx G1=>truU x G1 λb=>Q (.bl (!b)) G1) X,
   λς G Q X=>(den a).2 ς G (λb G1=>Q (!b) G1) X)
 |.bop k a es=>denB k (den a) es
 |.cmp o a b=>tp λς G Q X=>(den a).1 ς G (λx G1=>(den b).1 ς G1 (λy G2=>cmpU o x y G2 λc=>Q (.bl c) G2) X) X
 |.cmp2 o p a b c=>tp λς G Q X=>(den a).1 ς G (λx G1=>(den b).1 ς G1 (λy G2=>cmpU o x y G2 λt=>if t=true then (den c).1 ς G2 (λz G3=>cmpU p y z G3 λt'=>Q (.bl t') G3) X else Q (.bl false) G2) X) X
 |.ife c a b=>(λς G Q X=>(den c).2 ς G (λt G1=>if t=true then (den a).1 ς G1 Q X else (den b).1 ς G1 Q X) X,
   λς G Q X=>(den c).2 ς G (λt G1=>if t=true then (den a).2 ς G1 Q X else (den b).2 ς G1 Q X) X)
 |.tup es=>tp λς G Q X=>jaO es ς G (λus G1=>us.length<=Yai/\Q (.tup us) G1) X
 |.lst es=>tp λς G Q X=>jaO es ς G (λus G1=>us.length<=Yai/\newO G1 (.lst us) Q) X
 |.dic es=>tp λς G Q X=>denD es ς G (λkvs G1=>kvs.length<=15/\newO G1 (.dK (jds kvs)) Q) X
 |.dicT=>tp λ_ G Q _=>newO G (.dT []) Q
 |.ix a b=>tp λς G Q X=>(den a).1 ς G (λx G1=>(den b).1 ς G1 (λy G2=>ixU x y G2 Q) X) X
 |.sl a lo hi=>tp λς G Q X=>(den a).1 ς G (λx G1=>denO lo ς G1 (λl G2=>denO hi ς G2 (λh G3=>slU x l h G3 Q) X) X) X
 |.rev a b=>tp λς G Q X=>(den a).1 ς G (λx G1=>(den b).1 ς G1 (λy G2=>revU x y G2 Q) X) X
 |.call n es=>tp λς G Q X=>jaO es ς G (λus G1=>Δ n us G1 Q X) X
 |.app _ _=>tp λ_ _ _ _=>False
 |.blt b es=>tp λς G Q X=>jaO es ς G (λus G1=>bltU b us G1 Q) X
 |.meth m o es=>tp λς G Q X=>(den o).1 ς G (λx G1=>match mtU m x G1 with
   |some _=>jaO es ς G1 (λus G2=>ja6 m x us G2 Q) X
   |none=>False) X
 |.ty n=>tp λ_ G Q _=>Q (.ty n) G
 |.lc pick t it ifs e=>tp λς G Q X=>denI it ς G (λxs ok G1=>xs.length<=Yai/\jb9 ok (λx G2 k=>tgU t x (jbc pick ς) λτ=>denC ifs τ G2 (λb G3=>if b=true then (den e).1 τ G3 (λu G4=>k (some u) G4) (λ_ _=>False) else k none G3)) xs [] G1
   λus G5=>newO G5 (.lst us) Q) X
 |.lc2 pick t it ifs t2 it2 ifs2 e=>tp λς G Q X=>denI it ς G (λxs ok G1=>jfK ok (λx acc G2 k=>tgU t x (jbc pick ς) λτ=>denC ifs τ G2 (λb G3=>if b=true then denI it2 τ G3 (λys ok2 G4=>acc.length+ys.length<=Yai/\jb9 ok2 (λy G5 k5=>tgU t2 y τ λτ'=>denC ifs2 τ' G5 (λb2 G6=>if b2=true then (den e).1 τ' G6 (λu G7=>k5 (some u) G7) (λ_ _=>False) else k5 none G6)) ys acc G4 k) (λ_ _=>False) else k acc G3)) xs [] G1
   λus G5=>newO G5 (.lst us) Q) X
 |.sset e=>tp λς G Q X=>(den e).1 ς G (λx G1=>jo6 x G1 Q) X
 |.fst es=>tp λς G Q X=>denF es ς G (λzs G1=>Q (.str (L2.cats Yfk zs)) G1) X
 |.lrp e i y _ b es=>tp λς G Q X=>(den e).1 ς G (λx G1=>slot ς i λu=>repU y b u λz w=>jaO es ς G1 (λus G2=>(x::.str z::.str w::us).length<=Yai/\newO G2 (.lst (x::.str z::.str w::us)) Q) X) X
 |.mkD e=>tp λς G Q X=>(den e).1 ς G (λx G1=>mkDU x G1 Q) X
 |.maxD e=>tp λς G Q X=>(den e).1 ς G (λx G1=>jpz x G1 Q) X
 |.minD e=>tp λς G Q X=>(den e).1 ς G (λx G1=>jpy x G1 Q) X
 |.mkL e=>tp λς G Q X=>(den e).1 ς G (λx G1=>itU x G1 λxs _=>newO G1 (.lst xs) Q) X
 |.mkT e=>tp λς G Q X=>(den e).1 ς G (λx G1=>itU x G1 λxs _=>Q (.tup xs) G1) X
 |.rngL e=>tp λς G Q X=>(den e).1 ς G (λx G1=>match x with
   |.int j=>0<=j/\j<=1000000/\newO G1 (.lst (rngU 0 j.toNat)) Q
   |_=>False) X
 |.rngT e=>tp λς G Q X=>(den e).1 ς G (λx G1=>match x with
   |.int j=>0<=j/\j<=1000000/\Q (.tup (rngU 0 j.toNat)) G1
   |_=>False) X
 |.rngL2 a b=>tp λς G Q X=>(den a).1 ς G (λx G1=>(den b).1 ς G1 (λy G2=>match x,y with
   |.int i,.int j=>0<=i/\i<=j/\j<=1000000000/\j-i<=1000000/\newO G2 (.lst (rngU i (j-i).toNat)) Q
   |_,_=>False) X) X
noncomputable def denB (k:Bool)(p:UE×UT):Es->UE×UT
 |.nil=>p
 |.cons e es=>comb k p (denB k (den e) es)
noncomputable def denC:Es->Sg->Gp->(Bool->Gp->Prop)->Prop
 |.nil,_,G,Q=>Q true G
 |.cons e es,ς,G,Q=>(den e).2 ς G (λb G1=>if b=true then denC es ς G1 Q else Q false G1) (λ_ _=>False)
noncomputable def denO:Eo->Sg->Gp->(Option Int->Gp->Prop)->KX->Prop
 |.no,_,G,Q,_=>Q none G
 |.so e,ς,G,Q,X=>(den e).1 ς G (λx G1=>match x with|.int i=>Q (some i) G1|_=>False) X
noncomputable def jaO:Es->Sg->Gp->(List U->Gp->Prop)->KX->Prop
 |.nil,_,G,Q,_=>Q [] G
 |.cons e es,ς,G,Q,X=>(den e).1 ς G (λx G1=>jaO es ς G1 (λxs G2=>Q (x::xs) G2) X) X
noncomputable def denF:Es->Sg->Gp->(List Str->Gp->Prop)->KX->Prop
 |.nil,_,G,Q,_=>Q [] G
 |.cons e es,ς,G,Q,X=>(den e).1 ς G (λx G1=>fpU x λz=>denF es ς G1 (λzs G2=>Q (z::zs) G2) X) X
noncomputable def denD:Es->Sg->Gp->(List (Key×U)->Gp->Prop)->KX->Prop
 |.nil,_,G,Q,_=>Q [] G
 |.cons e (.cons f es),ς,G,Q,X=>(den e).1 ς G (λx G1=>(den f).1 ς G1 (λy G2=>match kU x with
   |some k=>denD es ς G2 (λkvs G3=>Q ((k,y)::kvs) G3) X
   |none=>False) X) X
 |.cons _ .nil,_,_,_,_=>False
noncomputable def denI:It->Sg->Gp->(List U->(Gp->Prop)->Gp->Prop)->KX->Prop
 |.e e,ς,G,Q,X=>(den e).1 ς G (λx G1=>itU x G1 λxs ok=>Q xs ok G1) X
 |.r1 e,ς,G,Q,X=>(den e).1 ς G (λx G1=>match x with
   |.int j=>-(2 ^ 62)<=j/\j<2 ^ 62/\Q (rngU 0 j.toNat) (λ_=>True) G1
   |_=>False) X
 |.r2 a b,ς,G,Q,X=>(den a).1 ς G (λx G1=>(den b).1 ς G1 (λy G2=>match x,y with
   |.int i,.int j=>-(2 ^ 62)<=i/\i<2 ^ 62/\-(2 ^ 62)<=j/\j<2 ^ 62/\Q (rngU i (j-i).toNat) (λ_=>True) G2
   |_,_=>False) X) X
 |.enum e,ς,G,Q,X=>(den e).1 ς G (λx G1=>enI x G1 λxs ok=>Q xs ok G1) X
 |.dk e,ς,G,Q,X=>(den e).1 ς G (λx G1=>jlQ x G1 Q) X
 |.s e,ς,G,Q,X=>(den e).1 ς G (λx G1=>sgU x λxs=>Q xs (λ_=>True) G1) X
 |.dv e,ς,G,Q,X=>(den e).1 ς G (λx G1=>jnG joC x G1 Q) X
 |.di e,ς,G,Q,X=>(den e).1 ς G (λx G1=>jnG jnA x G1 Q) X
 |.zp a b,ς,G,Q,X=>(den a).1 ς G (λx G1=>(den b).1 ς G1 (λy G2=>zipU x y λxs=>Q xs (λ_=>True) G2) X) X
end
def denE (e:E):UE:=(den gs Δ e).1
def denT (e:E):UT:=(den gs Δ e).2
mutual
noncomputable def denS:S->En->Sg->Gp->Prop
 |.pass,D,ς,G=>D.nx ς G
 |.expr e,D,ς,G=>denE gs Δ e ς G (λ_ G1=>D.nx ς G1) λx G1=>D.ex x ς G1
 |.asg t e,D,ς,G=>denE gs Δ e ς G (λu G1=>tgU t u ς λς'=>D.nx ς' G1) λx G1=>D.ex x ς G1
 |.asgC i e,D,ς,G=>denE gs Δ e ς G (λu G1=>D.nx (ς.set i (some u)) G1) λx G1=>D.ex x ς G1
 |.unp ts e,D,ς,G=>denE gs Δ e ς G (λu G1=>unpU ts u G1 ς λς'=>D.nx ς' G1) λx G1=>D.ex x ς G1
 |.setS o i e,D,ς,G=>denE gs Δ e ς G (λv G1=>denE gs Δ o ς G1 (λx G2=>denE gs Δ i ς G2 (λy G3=>setU x y v G3 λG4=>D.nx ς G4) λx G1=>D.ex x ς G1) λx G1=>D.ex x ς G1) λx G1=>D.ex x ς G1
 |.par is es,D,ς,G=>jaO gs Δ es ς G (λus G1=>us.length=is.length/\D.nx ((is.zip us).foldl (λs p=>s.set p.1 (some p.2)) ς) G1) λx G1=>D.ex x ς G1
 |.aug i o e,D,ς,G=>slot ς i λx=>denE gs Δ e ς G (λy G1=>jh8 o x y G1 λz G2=>D.nx (ς.set i (some z)) G2) λx G1=>D.ex x ς G1
 |.augS o i p e,D,ς,G=>denE gs Δ o ς G (λx G1=>denE gs Δ i ς G1 (λy G2=>jpB x y G2 λa G3=>denE gs Δ e ς G3 (λb G4=>jh8 p a b G4 λz G5=>setU x y z G5 λG6=>D.nx ς G6) λx G1=>D.ex x ς G1) λx G1=>D.ex x ς G1) λx G1=>D.ex x ς G1
 |.ite c a b,D,ς,G=>denT gs Δ c ς G (λt G1=>if t=true then jas a D ς G1 else jas b D ς G1) λx G1=>D.ex x ς G1
 |.fr t it b,D,ς,G=>denI gs Δ it ς G (λxs ok G1=>forL ok (λx ς1 G2 k=>tgU t x ς1 λς2=>jas b { D with nx:=k } ς2 G2) xs ς G1 D.nx) λx G1=>D.ex x ς G1
 |.wh c b,D,ς,G=>∃W:Nat->Sg->Gp->Prop,(∃m,W m ς G)/\∀m ς1 G1,W m ς1 G1->
   denT gs Δ c ς1 G1 (λt G2=>if t=true then jas b { D with nx:=λς' G'=>∃m',m'<m/\W m' ς' G' } ς1 G2 else D.nx ς1 G2) λx G1=>D.ex x ς1 G1
 |.ret e,D,ς,G=>denE gs Δ e ς G D.rt λx G1=>D.ex x ς G1
 |.retN,D,_,G=>D.rt .non G
 |.never,_,_,_=>False
 |.raise c es,D,ς,G=>jaO gs Δ es ς G (λus G1=>us.length=(clsF c).length/\D.ex ⟨c,us⟩ ς G1) λx G1=>D.ex x ς G1
 |.tr b c n h,D,ς,G=>jas b { D with ex:=λx ς1 G1=>(c=0\/x.c=c)/\hsH x h (ς1.set n none) G1 λς2 G2=>D.nx (ς2.set n none) G2 } ς G
noncomputable def jas:Ss->En->Sg->Gp->Prop
 |.nil,D,ς,G=>D.nx ς G
 |.cons s ss,D,ς,G=>denS s { D with nx:=λς' G'=>jas ss D ς' G' } ς G
end
end
structure Fun where
 name:Str
 ps:List Str
 N:List Str
 body:Ss
structure Nst where
 P:Addr
 ff:Nat
 vi:Nat
 fi:Nat
 caps:List Nat
 wi:Nat
 fni:Nat
 least:Int
 wn:Str
 fn:Str
 at':Str
structure Tab where
 funs:List Fun
 gs:List U
 gn:List Str:=[]
 cs:List Nat:=[]
 vf:List Fun:=[]
 ns:List (Nat×Nst):=[]
noncomputable def jaj  (n:Nat)(us:List U):Sg:=us.map some++Yab (n-us.length) none
def jab  (T:Tab):Nat->Cl
 |0,_,_,_,_,_=>False
 |k+1,n,us,G,Q,X=>match (T.funs++T.vf)[n]? with
  |some d=>us.length=d.ps.length/\jas T.gs (jab T k) d.body ⟨λ_ G'=>Q .non G',Q,λx _ G'=>X x G'⟩ (jaj d.N.length us) G
  |none=>False
mutual
noncomputable def RU (K:Yac)(H:Hp):U->V->Prop
 |.non,v=>v=.non
 |.bl b,v=>v=.bl b
 |.int i,v=>v=.int i
 |.str x,v=>v=.str x
 |.tup xs,v=>∃a vs,v=.ref a/\H a=some (.tup vs)/\RUs K H xs vs
 |.loc a,v=>v=.ref a
 |.fn _,_=>False
 |.ty n,v=>v=.ty n
 |.exc _ _,_=>False
 |.own _,_=>False
 |.clo _ _,_=>False
noncomputable def RUs (K:Yac)(H:Hp):List U->List V->Prop
 |[],vs=>vs=[]
 |u::us,vs=>∃v vr,vs=v::vr/\RU K H u v/\RUs K H us vr
end
def RKs  {κ:Type}(K:Yac)(H:Hp):List (κ×U)->List (κ×V)->Prop
 |[],l=>l=[]
 |(k,u)::r,l=>∃v l',l=(k,v)::l'/\RU K H u v/\RKs K H r l'
def MOk  (K:Yac)(H:Hp)(a:Addr):MO->Prop
 |.lst us=>∃vs,H a=some (.lst vs)/\RUs K H us vs
 |.fro us=>∃o vs,H a=some (.frz o (.lst vs))/\RUs K H us vs
 |.dK kvs=>∃l,H a=some (.dK l)/\RKs K H kvs l
 |.dT kvs=>∃l,H a=some (.dT l)/\RKs K H kvs l
 |.frd o kvs=>∃l,H a=some (.frz o (.dT l))/\RKs K H kvs l
 |.frk o kvs=>∃l,H a=some (.frz o (.dK l))/\RKs K H kvs l
noncomputable def tabs  : List (Addr×Pos×Str):=[]
def jfd  (H:Hp):Prop:=∀t∈tabs,joc H t.1 t.2.1 t.2.2
structure HR (K:Yac)(H:Hp)(G:Gp):Prop where
 mo:∀a o,G a=some o->MOk K H a o
 tab:jfd H
instance {K:Yac} {H:Hp} {G:Gp}:CoeFun (HR K H G) λ_=>∀a o,G a=some o->MOk K H a o:=⟨HR.mo⟩
noncomputable def noTb  : HO->Bool
 |.tbl _=>false
 |_=>true
structure Fr (H:Hp)(G:Gp)(H':Hp)(G':Gp):Prop where
 go:∀a o,H a=some o->G a=none->(nt:noTb o=true:=by rfl)->H' a=some o/\G' a=none
instance {H H':Hp} {G G':Gp}:CoeFun (Fr H G H' G') λ_=>∀a o,H a=some o->G a=none->(nt:noTb o=true:=by rfl)->H' a=some o/\G' a=none:=⟨@Fr.go H G H' G'⟩
def SR  (K:Yac)(H:Hp)(ς:Sg)(σ:St):Prop:=ς.length=σ.length/\∀(i:Nat) (u:U),ς[i]?=some (some u)->∃v,σ[i]?=some (some v)/\RU K H u v
section
variable {K:Yac}{H H' H1 H2:Hp}{G G' G1 G2:Gp}
def Fr.refl   H G:Fr H G H G:=⟨λ_ _ h g _=>⟨h,g⟩⟩
def Fr.trans  (a:Fr H G H1 G1)(b:Fr H1 G1 H2 G2):Fr H G H2 G2:=⟨λc o h g nt=>let ⟨h1,g1⟩:=a c o h g nt;b c o h1 g1 nt⟩
structure TS (H H':Hp):Prop where
 tup:∀a xs,H a=some (.tup xs)->H' a=some (.tup xs)
 cod:∀a o,H a=some (frzC o)->H' a=some (frzC o)
instance:CoeFun (TS H H') λ_=>∀a xs,H a=some (.tup xs)->H' a=some (.tup xs):=⟨TS.tup⟩
def TS.trans  (a:TS H H1)(b:TS H1 H2):TS H H2:=⟨λc xs h=>b.tup c xs (a.tup c xs h),λc o h=>b.cod c o (a.cod c o h)⟩
mutual
theorem RU.ts (t:TS H H'):∀{u:U} {v:V},RU K H u v->RU K H' u v
 |.non,_,h=>h
 |.bl _,_,h=>h
 |.int _,_,h=>h
 |.str _,_,h=>h
 |.tup xs,_,h=>by
  obtain⟨a,vs,e,q,r⟩:=h
  exact⟨a,vs,e,t _ _ q,RUs.ts t r⟩
 |.loc _,_,h=>h
 |.fn _,_,h=>h
 |.ty _,_,h=>h
 |.exc _ _,_,h=>h
 |.own _,_,h=>h
 |.clo _ _,_,h=>h
theorem RUs.ts (t:TS H H'):∀{us:List U} {vs:List V},RUs K H us vs->RUs K H' us vs
 |[],_,h=>h
 |_::_,_,h=>by
  obtain⟨v,vr,e,r,rs⟩:=h
  exact⟨v,vr,e,RU.ts t r,RUs.ts t rs⟩
end
theorem RKs.ts   (t:TS H H'):∀{kvs:List (κ×U)} {l },RKs K H kvs l->RKs K H' kvs l
 |[],_,h=>h
 |(_,_)::_,_,h=>by
  obtain⟨v,l',e,r,rs⟩:=h;exact⟨v,l',e,r.ts t,RKs.ts t rs⟩
def SR.ts    (t:TS H H')(h:SR K H ς σ):SR K H' ς σ:=⟨h.1,λi u e=>let ⟨v,e1,r⟩:=h.2 i u e;⟨v,e1,r.ts t⟩⟩
def HR.tupNone  (h:HR K H G)(e:H a=some (.tup xs)):G a=none:=by
 cases q:G a with
 |none=>rfl
 |some o=>
  have m:=h a o q;cases o with
  |lst us=>obtain⟨_,e2,_⟩:=m;rw[e]at e2;cases e2
  |fro us=>obtain⟨_,_,e2,_⟩:=m;rw[e]at e2;cases e2
  |dK us=>obtain⟨_,e2,_⟩:=m;rw[e]at e2;cases e2
  |dT us=>obtain⟨_,e2,_⟩:=m;rw[e]at e2;cases e2
  |frd _ us=>obtain⟨_,e2,_⟩:=m;rw[e]at e2;cases e2
  |frk _ us=>obtain⟨_,e2,_⟩:=m;rw[e]at e2;cases e2
def HR.codNone  (h:HR K H G)(e:H a=some (frzC ob)):G a=none:=by
 cases q:G a with
 |none=>rfl
 |some o=>
  have m:=h a o q;cases o with
  |lst us=>obtain⟨_,e2,_⟩:=m;rw[e]at e2;cases e2
  |fro us=>obtain⟨_,_,e2,_⟩:=m;rw[e]at e2;cases e2
  |dK us=>obtain⟨_,e2,_⟩:=m;rw[e]at e2;cases e2
  |dT us=>obtain⟨_,e2,_⟩:=m;rw[e]at e2;cases e2
  |frd _ us=>obtain⟨_,e2,_⟩:=m;rw[e]at e2;cases e2
  |frk _ us=>obtain⟨_,e2,_⟩:=m;rw[e]at e2;cases e2
def HR.tblNone  (h:HR K H G)(e:H a=some (.tbl ps)):G a=none:=by
 cases q:G a with
 |none=>rfl
 |some o=>
  have m:=h a o q;cases o with
  |lst us=>obtain⟨_,e2,_⟩:=m;rw[e]at e2;cases e2
  |fro us=>obtain⟨_,_,e2,_⟩:=m;rw[e]at e2;cases e2
  |dK us=>obtain⟨_,e2,_⟩:=m;rw[e]at e2;cases e2
  |dT us=>obtain⟨_,e2,_⟩:=m;rw[e]at e2;cases e2
  |frd _ us=>obtain⟨_,e2,_⟩:=m;rw[e]at e2;cases e2
  |frk _ us=>obtain⟨_,e2,_⟩:=m;rw[e]at e2;cases e2
def Fr.ts  (f:Fr H G H' G')(h:HR K H G):TS H H':=⟨λa xs e=>(f a _ e (h.tupNone e)).1,λa o e=>(f a _ e (h.codNone e)).1⟩
def jfd.upd  (h:jfd H)(h1:∀ps,H p≠some (.tbl ps))(h2:∀ob,H p≠some (frzC ob)):jfd (L2.upd H p o):=λt ht=>by
 rcases h t ht with e|⟨c,oc,e1,e2,q⟩
 ·exact .inl (by rw[jac (λz=>h1 _ (z ▸ e))];exact e)
 ·exact .inr ⟨c,oc,by rw[jac (λz=>h1 _ (z ▸ e1))];exact e1,by rw[jac (λz=>h2 _ (z ▸ e2))];exact e2,q⟩
def jfd.new  (h:jfd H)(e:H p=none):jfd (L2.upd H p o):=h.upd (λps z=>by rw[e]at z;cases z) λob z=>by rw[e]at z;cases z
def HR.tabW  (h:HR K H G){mo:MO}(g:G p=some mo):jfd (L2.upd H p o):=h.tab.upd (λps z=>by rw[h.tblNone z]at g;cases g) λob z=>by rw[h.codNone z]at g;cases g
def MOk.there    (m:MOk K H a o):∃ho,H a=some ho:=by
 cases o with
 |lst _=>obtain⟨_,e,_⟩:=m;exact⟨_,e⟩
 |fro _=>obtain⟨_,_,e,_⟩:=m;exact⟨_,e⟩
 |dK _=>obtain⟨_,e,_⟩:=m;exact⟨_,e⟩
 |dT _=>obtain⟨_,e,_⟩:=m;exact⟨_,e⟩
 |frd _ _=>obtain⟨_,e,_⟩:=m;exact⟨_,e⟩
 |frk _ _=>obtain⟨_,e,_⟩:=m;exact⟨_,e⟩
def MOk.keep    (m:MOk K H a o)(e:H' a=H a)(t:TS H H'):MOk K H' a o:=by
 cases o with
 |lst _=>obtain⟨vs,q,r⟩:=m;exact⟨vs,e.trans q,r.ts t⟩
 |fro _=>obtain⟨ob,vs,q,r⟩:=m;exact⟨ob,vs,e.trans q,r.ts t⟩
 |dK _=>obtain⟨l,q,r⟩:=m;exact⟨l,e.trans q,r.ts t⟩
 |dT _=>obtain⟨l,q,r⟩:=m;exact⟨l,e.trans q,r.ts t⟩
 |frd _ _=>obtain⟨l,q,r⟩:=m;exact⟨l,e.trans q,r.ts t⟩
 |frk _ _=>obtain⟨l,q,r⟩:=m;exact⟨l,e.trans q,r.ts t⟩
def HR.nope  (h:HR K H G)(e:H a=none):G a=none:=by
 cases q:G a with
 |none=>rfl
 |some o=>
  obtain⟨_,e2⟩:=(h a o q).there;rw[e]at e2;cases e2
def jap    : gup G a o a=some o:=by unfold gup;rw[if_pos rfl]
def jaW    (h:b≠a):gup G a o b=G b:=by unfold gup;rw[if_neg h]
def TS.new    (e:H p=none):TS H (upd H p o):=⟨λa xs h=>by rw[jac (jah h e)];exact h,λa ob h=>by rw[jac (jah h e)];exact h⟩
def HR.newT  (h:HR K H G)(e:H p=none):HR K (upd H p (.tup xs)) G:=⟨λa o q=>by
 have m:=h a o q;obtain⟨ho,e2⟩:=m.there;exact m.keep (jac (jah e2 e)) (TS.new e),h.tab.new e⟩
def Fr.new    (e:H p=none):Fr H G (upd H p o) G:=⟨λa ob h g _=>⟨by rw[jac (jah h e)];exact h,g⟩⟩
def HR.newO  (h:HR K H G){mo:MO}(e:H p=none)(m:MOk K (upd H p o) p mo):HR K (upd H p o) (gup G p mo):=⟨λa ob q=>by
 by_cases z:a=p
 ·subst z;rw[jap]at q;cases q;exact m
 ·rw[jaW z]at q;exact(h a ob q).keep (jac z) (TS.new e),h.tab.new e⟩
def Fr.newO     (e:H p=none):Fr H G (upd H p o) (gup G p mo):=⟨λa ob h g _=>by
 have z:a≠p:=jah h e;exact⟨by rw[jac z];exact h,by rw[jaW z];exact g⟩⟩
def TS.write  (h:HR K H G)(g:G p=some mo):TS H (upd H p o):=⟨λa xs e=>by
 have z:a≠p:=λz=>by subst z;rw[h.tupNone e]at g;cases g
 rw[jac z];exact e,λa ob e=>by
 have z:a≠p:=λz=>by subst z;rw[h.codNone e]at g;cases g
 rw[jac z];exact e⟩
def HR.write  (h:HR K H G){mo mo':MO}(g:G p=some mo)(m:MOk K (upd H p o) p mo'):HR K (upd H p o) (gup G p mo'):=⟨λa ob q=>by
 by_cases z:a=p
 ·subst z;rw[jap]at q;cases q;exact m
 ·rw[jaW z]at q;exact(h a ob q).keep (jac z) (TS.write h g),h.tabW g⟩
def Fr.write     (g:G p=some mo):Fr H G (upd H p o) (gup G p mo'):=⟨λa ob h n _=>by
 have z:a≠p:=λz=>by subst z;rw[n]at g;cases g
 exact⟨by rw[jac z];exact h,by rw[jaW z];exact n⟩⟩
theorem RUs.length  : ∀{us } {vs },RUs K H us vs->us.length=vs.length
 |[],_,h=>by cases h;rfl
 |_::_,_,h=>by
  obtain⟨v,vr,rfl,_,rs⟩:=h;simp[rs.length]
theorem RUs.append  : ∀{us ws } {vs xs },RUs K H us vs->RUs K H ws xs->RUs K H (us++ws) (vs++xs)
 |[],_,_,_,h,h'=>by cases h;exact h'
 |_::_,_,_,_,h,h'=>by
  obtain⟨v,vr,rfl,r,rs⟩:=h;exact⟨v,vr++_,rfl,r,rs.append h'⟩
theorem RUs.get  : ∀{us } {vs } {i:Nat} {u },RUs K H us vs->us[i]?=some u->∃v,vs[i]?=some v/\RU K H u v
 |[],_,_,_,_,e=>by simp at e
 |_::_,_,0,_,h,e=>by
  obtain⟨v,vr,rfl,r,_⟩:=h;simp at e;subst e;exact⟨v,rfl,r⟩
 |_::_,_,i+1,_,h,e=>by
  obtain⟨v,vr,rfl,_,rs⟩:=h;obtain⟨w,h1,h2⟩:=rs.get (i:=i) (by simpa using e)
  exact⟨w,by simpa using h1,h2⟩
theorem RUs.take  : ∀{us } {vs } n ,RUs K H us vs->RUs K H (us.take n) (vs.take n)
 |_,_,0,_=>rfl
 |[],_,_+1,h=>by cases h;rfl
 |_::_,_,n+1,h=>by
  obtain⟨v,vr,rfl,r,rs⟩:=h;exact⟨v,vr.take n,rfl,r,rs.take n⟩
theorem RUs.drop  : ∀{us } {vs } n ,RUs K H us vs->RUs K H (us.drop n) (vs.drop n)
 |_,_,0,h=>h
 |[],_,_+1,h=>by cases h;rfl
 |_::_,_,n+1,h=>by
  obtain⟨v,vr,rfl,_,rs⟩:=h;exact rs.drop n
theorem RUs.set    (r:RU K H u v):∀{us } {vs } i ,RUs K H us vs->RUs K H (us.set i u) (vs.set i v)
 |[],_,_,h=>by cases h;rfl
 |_::_,_,0,h=>by
  obtain⟨w,vr,rfl,_,rs⟩:=h;exact⟨v,vr,rfl,r,rs⟩
 |_::_,_,i+1,h=>by
  obtain⟨w,vr,rfl,q,rs⟩:=h;exact⟨w,vr.set i v,rfl,q,rs.set r i⟩
theorem RUs.rep    (h:RUs K H us vs):∀k ,RUs K H (Yab k us).flatten (Yab k vs).flatten
 |0=>rfl
 |k+1=>by
  rw[YaX,YaX,Ybr,Ybr];exact h.append (h.rep k)
theorem RUs.erase  : ∀{us } {vs } i ,RUs K H us vs->RUs K H (us.eraseIdx i) (vs.eraseIdx i)
 |[],_,_,h=>by cases h;rfl
 |_::_,_,0,h=>by
  obtain⟨v,vr,rfl,_,rs⟩:=h;exact rs
 |_::_,_,i+1,h=>by
  obtain⟨v,vr,rfl,r,rs⟩:=h;exact⟨v,_,rfl,r,rs.erase i⟩
def RUs.dropLast    (h:RUs K H us vs):RUs K H us.dropLast vs.dropLast:=by
 rw[Yfb,Yfb,h.length];exact h.take _
theorem RUs.atI {us:List U}{vs:List V}{i:Int}{u:U}(h:RUs K H us vs)(e:atI us i=some u):∃v,L2.atI vs i=some v/\RU K H u v:=by
 unfold L2.atI at e ⊢;rw[h.length]at e;cases q:ixN vs.length i with
 |none=>rw[q]at e;cases e
 |some j=>
  rw[q]at e;exact h.get e
def RUs.cut    (h:RUs K H us vs) lo hi:RUs K H (Z.cut us lo hi) (cutV vs lo hi):=by
 unfold Z.cut cutV;rw[h.length];exact(h.drop _).take _
theorem RUs.isEmpty    (h:RUs K H us vs):us.isEmpty=vs.isEmpty:=by
 cases us with
 |nil=>cases h;rfl
 |cons u us=>obtain⟨v,vr,rfl,_⟩:=h;rfl
theorem RUs.ints  : ∀{us } {vs } {ns },RUs K H us vs->jh5 us=some ns->vs=ns.map V.int
 |[],_,_,h,e=>by cases h;cases e;rfl
 |u::us,_,ns,h,e=>by
  obtain⟨v,vr,rfl,r,rs⟩:=h;cases u with
  |int i=>
   cases r;rw[jh5]at e;cases q:jh5 us with
   |none=>rw[q]at e;cases e
   |some l=>rw[q]at e;cases e;rw[rs.ints q];rfl
  |_=>cases e
theorem RUs.strs  : ∀{us } {vs } {ns },RUs K H us vs->jeB us=some ns->vs=ns.map V.str
 |[],_,_,h,e=>by cases h;cases e;rfl
 |u::us,_,ns,h,e=>by
  obtain⟨v,vr,rfl,r,rs⟩:=h;cases u with
  |str i=>
   cases r;rw[jeB]at e;cases q:jeB us with
   |none=>rw[q]at e;cases e
   |some l=>rw[q]at e;cases e;rw[rs.strs q];rfl
  |_=>cases e
theorem RUs.bools  : ∀{us } {vs } {ns },RUs K H us vs->jdu us=some ns->vs=ns.map V.bl
 |[],_,_,h,e=>by cases h;cases e;rfl
 |u::us,_,ns,h,e=>by
  obtain⟨v,vr,rfl,r,rs⟩:=h;cases u with
  |bl i=>
   cases r;rw[jdu]at e;cases q:jdu us with
   |none=>rw[q]at e;cases e
   |some l=>rw[q]at e;cases e;rw[rs.bools q];rfl
  |_=>cases e
def HR.lst  (h:HR K H G)(e:G a=some (.lst us)):∃vs,H a=some (.lst vs)/\RUs K H us vs:=h a _ e
def HR.ls  (h:HR K H G)(e:lsG G a=some us):∃vs,SqL K H a vs/\RUs K H us vs:=by
 unfold lsG at e;split at e
 ·rename_i xs q;cases e;obtain⟨vs,q2,r⟩:=h a _ q;exact⟨vs,.inl (.inl q2),r⟩
 ·rename_i xs q;cases e;obtain⟨o,vs,q2,r⟩:=h a _ q;exact⟨vs,.inl (.inr ⟨o,q2⟩),r⟩
 ·cases e
def HR.rd  (h:HR K H G)(e:lsG G a=some us):∃vs,Rd H a (.lst vs)/\RUs K H us vs:=by
 unfold lsG at e;split at e
 ·rename_i xs q;cases e;obtain⟨vs,q2,r⟩:=h a _ q;exact⟨vs,.inl q2,r⟩
 ·rename_i xs q;cases e;obtain⟨o,vs,q2,r⟩:=h a _ q;exact⟨vs,.inr ⟨o,q2⟩,r⟩
 ·cases e
end
mutual
theorem DU.dv {K:Yac}{H:Hp}{G:Gp}(h:HR K H G):∀{u:U} {d:PyData} {v:V},DU G u d->RU K H u v->DV K H v d
 |_,_,_,.non,r=>by cases r;exact .non
 |_,_,_,.bl b,r=>by cases r;exact .bl b
 |_,_,_,.int i,r=>by cases r;exact .int i
 |_,_,_,.str x,r=>by cases r;exact .str x
 |_,_,_,.tup q,r=>by
  obtain⟨a,vs,rfl,s,rs⟩:=r
  exact .tup (.of s) (DUs.dv h q rs)
 |_,_,_,.lst e q,r=>by
  cases r
  obtain⟨vs,s,rs⟩:=h.rd e
  exact .lst s (DUs.dv h q rs)
 |_,_,_,.dic e,r=>by
  cases r
  obtain⟨l,q,rs⟩:=h _ _ e
  cases rs
  exact .dic q
theorem DUs.dv {K:Yac}{H:Hp}{G:Gp}(h:HR K H G):∀{us:List U} {ds:List PyData} {vs:List V},DUs G us ds->RUs K H us vs->DVs K H vs ds
 |_,_,_,.nil,r=>by cases r;exact .nil
 |_,_,_,.cons a b,r=>by
  obtain⟨v,vr,rfl,r1,rs⟩:=r
  exact .cons (DU.dv h a r1) (DUs.dv h b rs)
end
end Z

namespace L2
open PySem
def PE.imp     (h:PE X e t)(i:∀σ H Q,t' σ H Q->t σ H Q):PE X e t':=λpins s σ H Q I q=>h pins s σ H Q I (i σ H Q q)
def PT.imp     (h:PT X e t)(i:∀σ H Q,t' σ H Q->t σ H Q):PT X e t':=λpins s σ H Q I q=>h pins s σ H Q I (i σ H Q q)
def PW.imp     (h:PW X e t)(i:∀σ H Q,t' σ H Q->t σ H Q):PW X e t':=λw pins s σ H Q I q=>h w pins s σ H Q I (i σ H Q q)
def PA.imp     (h:PA X e t)(i:∀σ H Q,t' σ H Q->t σ H Q):PA X e t':=λpos pins s σ H Q I q=>h pos pins s σ H Q I (i σ H Q q)
def PO.imp     (h:PO X e t)(i:∀σ H Q,t' σ H Q->t σ H Q):PO X e t':=λpins s σ H Q I q=>h pins s σ H Q I (i σ H Q q)
def PS.imp     (h:PS X e t)(i:∀D σ H,t' D σ H->t D σ H):PS X e t':=λpins s σ H D I q=>h pins s σ H D I (i D σ H q)
def PSs.imp     (h:PSs X e t)(i:∀D σ H,t' D σ H->t D σ H):PSs X e t':=λpins s σ H D I q=>h pins s σ H D I (i D σ H q)
end L2
namespace Z
open PySem L2
noncomputable def gK  (K:Yac):Str->Option Value:=λx=>(Ybf K YaF x).join
def XD  (K:Yac)(H:Hp)(C dx:Addr)(x:XV):Prop:=1<=x.c/\x.c<6/\XCls K (gK K) (clsN x.c) (clsF x.c) C/\∃l,H dx=some (.xd l)/\l.map (·.1)=clsF x.c/\RUs K H x.fs (l.map (·.2))
def XAt  (X:Cx)(H:Hp)(s:Shared)(e:Value)(x:XV):Prop:=∃ea C dx,e=.ref ea/\Lies X.s₀.heap.objs.size X.pn H s.heap ea (.ref C) (some dx)/\XD X.K H C dx x
section
variable (X:Cx)
def LX (σ:St)(H:Hp)(G:Gp)(E:KX):Prop:=∀(pins:List (Addr×Obj)) (e:Value) (s':Shared) (x:XV) (G':Gp) (H':Hp),Inv X pins σ H' s'->XAt X H' s' e x->HR X.K H' G'->Fr H G H' G'->E x G'->X.xe e s'
def LV (H:Hp)(G:Gp)(Q:K1)(Q0:VK):Prop:=∀w v G' H',RU X.K H' w v->HR X.K H' G'->Fr H G H' G'->Q w G'->Q0 v H'
def lE (t:UE):TE:=λσ H Q0=>∃ς G Q E,SR X.K H ς σ/\HR X.K H G/\t ς G Q E/\LV X H G Q Q0/\LX X σ H G E
def lT (t:UT):TT:=λσ H Q0=>∃ς G Q E,SR X.K H ς σ/\HR X.K H G/\t ς G Q E/\(∀b G' H',HR X.K H' G'->Fr H G H' G'->Q b G'->Q0 b H')/\LX X σ H G E
def lA (t:UA):TA:=λσ H Q0=>∃ς G Q E,SR X.K H ς σ/\HR X.K H G/\t ς G Q E/\(∀ws vs G' H',RUs X.K H' ws vs->HR X.K H' G'->Fr H G H' G'->Q ws G'->Q0 vs H')/\LX X σ H G E
def lO (t:Sg->Gp->(Option Int->Gp->Prop)->KX->Prop):TO:=λσ H Q0=>∃ς G Q E,SR X.K H ς σ/\HR X.K H G/\t ς G Q E/\(∀o G' H',HR X.K H' G'->Fr H G H' G'->Q o G'->Q0 o H')/\LX X σ H G E
end

def LX.fr  {H1: Hp}{E:KX}(h:LX X σ H G E)(f:Fr H G H1 G1):LX X σ H1 G1 E:=λpins e s' x G' H' I a hr f' q=>h pins e s' x G' H' I a hr (f.trans f') q
def LV.fr  {H1: Hp}(h:LV X H G Q Q0)(f:Fr H G H1 G1):LV X H1 G1 Q Q0:=λw v G' H' r hr f' q=>h w v G' H' r hr (f.trans f') q
def LV.here    (h:LV X H G Q Q0)(r:RU X.K H w v)(hr:HR X.K H G)(q:Q w G):Q0 v H:=h w v G H r hr (Fr.refl _ _) q
def LV.bl    (h:LV X H G Q Q0)(hr:HR X.K H G)(q:Q (.bl b) G):Q0 (.bl b) H:=h.here (w:=.bl b) rfl hr q
def LV.int    (h:LV X H G Q Q0)(hr:HR X.K H G)(q:Q (.int b) G):Q0 (.int b) H:=h.here (w:=.int b) rfl hr q
def LV.str    (h:LV X H G Q Q0)(hr:HR X.K H G)(q:Q (.str b) G):Q0 (.str b) H:=h.here (w:=.str b) rfl hr q
def LV.tup    (h:LV X H G Q Q0)(e:H p=none)(r:RUs X.K H us vs)(hr:HR X.K H G)(q:Q (.tup us) G):Q0 (.ref p) (upd H p (.tup vs)):=
 h (.tup us) (.ref p) G _ ⟨p,vs,rfl,jai,r.ts (TS.new e)⟩ (hr.newT e) (Fr.new e) q
def LV.lst    (h:LV X H G Q Q0)(e:H p=none)(r:RUs X.K H us vs)(hr:HR X.K H G)(q:newO G (.lst us) Q):Q0 (.ref p) (upd H p (.lst vs)):=
 h (.loc p) (.ref p) _ _ rfl (hr.newO (mo:=.lst us) e ⟨vs,jai,r.ts (TS.new e)⟩) (Fr.newO e) (q.at p (hr.nope e))
def LV.wl    (h:LV X H G Q Q0)(g:G p=some mo)(r:RUs X.K H us vs)(hr:HR X.K H G)(rw':RU X.K H w v)(q:putO G p (.lst us) (Q w)):Q0 v (upd H p (.lst vs)):=
 h w v _ _ (rw'.ts (TS.write hr g)) (hr.write (mo':=.lst us) g ⟨vs,jai,r.ts (TS.write hr g)⟩) (Fr.write g) q.at

def lE.two  {R:V->V->Hp->Prop}{k:U->U->Gp->K1->Prop}(h:lE X (λς G Q E=>ta ς G (λx G1=>tb ς G1 (λy G2=>k x y G2 Q) E) E) σ H Q0)
  (f:∀x y v v' G H' Q,RU X.K H' x v->RU X.K H' y v'->HR X.K H' G->k x y G Q->LV X H' G Q Q0->R v v' H'):lE X ta σ H λv H1=>lE X tb σ H1 λv' H2=>R v v' H2:=by
 obtain⟨ς,G,Q,E,hς,hG,h,lv,lx⟩:=h;refine⟨ς,G,_,E,hς,hG,h,λx v G1 H1 rx hG1 f1 h1=>?_,lx⟩;refine⟨ς,G1,_,E,hς.ts (f1.ts hG),hG1,h1,λy v' G2 H2 ry hG2 f2 h2=>?_,lx.fr f1⟩;exact f x y v v' G2 H2 Q (rx.ts (f2.ts hG1)) ry hG2 h2 (lv.fr (f1.trans f2))
def lE.one  {R:V->Hp->Prop}{k:U->Gp->K1->Prop}(h:lE X (λς G Q E=>ta ς G (λx G1=>k x G1 Q) E) σ H Q0)
  (f:∀x v G H' Q,RU X.K H' x v->HR X.K H' G->k x G Q->LV X H' G Q Q0->R v H'):lE X ta σ H R:=by
 obtain⟨ς,G,Q,E,hς,hG,h,lv,lx⟩:=h;exact⟨ς,G,_,E,hς,hG,h,λx v G1 H1 rx hG1 f1 h1=>f x v G1 H1 Q rx hG1 h1 (lv.fr f1),lx⟩
def lE.many    {k:List U->Gp->K1->Prop}(h:lE X (λς G Q E=>ta ς G (λx G1=>k x G1 Q) E) σ H Q0)
  (f:∀x v G H' Q,RUs X.K H' x v->HR X.K H' G->k x G Q->LV X H' G Q Q0->R v H'):lA X ta σ H R:=by
 obtain⟨ς,G,Q,E,hς,hG,h,lv,lx⟩:=h;exact⟨ς,G,_,E,hς,hG,h,λx v G1 H1 rx hG1 f1 h1=>f x v G1 H1 Q rx hG1 h1 (lv.fr f1),lx⟩

def joE    (hN:X.N[i]?=some x)(hv:Vis X.env.scope x)(hd:(x==("__debug__" : Str))=false)(hcd:(x==("__classdict__" : Str))=false):PE X (.Name x pos) (lE X λς G Q _=>slot ς i λu=>Q u G):=by
 refine(jb0 hN hv hd hcd).imp λσ H Q0 h=>?_;obtain⟨ς,G,Q,E,hς,hG,h,lv,_⟩:=h;unfold slot at h;split at h
 ·rename_i u e;obtain⟨v,e1,r⟩:=hς.2 i u e;exact⟨v,e1,lv.here r hG h⟩
 ·exact h.elim
def jce     (h:PE X e (tC v))(r:∀H,RU X.K H u v):PE X e (lE X λ_ G Q _=>Q u G):=
 h.imp λ_ _ _ ⟨_,_,_,_,_,hG,q,lv,_⟩=>lv.here (r _) hG q
def OpU  (X:Cx)(f:Value->Value->Sem Value)(b:U->U->Gp->K1->Prop):Prop:=
 ∃r:R2,OpR X f r/\∀x y v v' G H Q Q0,RU X.K H x v->RU X.K H y v'->HR X.K H G->b x y G Q->LV X H G Q Q0->r v v' H Q0

def joT    (ho:OpU X (Ybh o) k)(ha:PE X a (lE X ta))(hb:PE X b (lE X tb)) :
  PE X (.BinOp a o b pos) (lE X λς G Q E=>ta ς G (λx G1=>tb ς G1 (λy G2=>k x y G2 Q) E) E):=by
 obtain⟨r,h1,h2⟩:=ho;exact(jpo h1 ha hb).imp λσ H Q0 h=>lE.two h λx y v v' G H' Q rx ry hG q lv=>h2 x y v v' G H' Q Q0 rx ry hG q lv
def jmZ  : OpU X (Ybh .Add) addU:=by
 refine⟨_,jna.or (jgS.or ((jla (X:=X)).or (jm9.or jlb))),?_⟩;intro x y v v' G H Q Q0 rx ry hG h lv;cases x<;>try exact h.elim
 ·cases y<;>try exact h.elim
  cases rx;cases ry;exact .inr (.inr (.inr (.inr ⟨_,_,rfl,rfl,lv.int hG h⟩)))
 ·cases y<;>try exact h.elim
  cases rx;cases ry;exact .inl ⟨_,_,rfl,rfl,lv.int hG h⟩
 ·cases y<;>try exact h.elim
  cases rx;cases ry;exact .inr (.inl ⟨_,_,rfl,rfl,h.1,lv.str hG h.2⟩)
 ·cases y<;>try exact h.elim
  rename_i xs ys;obtain⟨a,vs,rfl,s1,r1⟩:=rx;obtain⟨b,ws,rfl,s2,r2⟩:=ry;obtain⟨hl,q⟩:=h;refine .inr (.inr (.inl ⟨a,b,vs,ws,rfl,rfl,.of s1,.of s2,by rw[<- r1.length,<- r2.length];exact hl,λz=>?_,λ_ z=>?_,λ_ _ p hp=>?_⟩))
  ·have:xs=[]:=by have:=r1.length;rw[z]at this;simpa using this
   subst this;exact lv.here (w:=.tup ys) ⟨b,ws,rfl,s2,r2⟩ hG q
  ·have:ys=[]:=by have:=r2.length;rw[z]at this;simpa using this
   subst this;rw[Ycq]at q;exact lv.here (w:=.tup xs) ⟨a,vs,rfl,s1,r1⟩ hG q
  ·exact lv.tup hp (r1.append r2) hG q
 ·cases y<;>try exact h.elim
  cases rx;cases ry;obtain⟨xs,ys,g1,g2,hl,q⟩:=h;obtain⟨vs,e1,r1⟩:=hG.lst g1;obtain⟨ws,e2,r2⟩:=hG.lst g2;exact .inr (.inr (.inr (.inl ⟨_,_,vs,ws,rfl,rfl,e1,e2,by rw[<- r1.length,<- r2.length];exact hl,λp hp=>lv.lst hp (r1.append r2) hG q⟩)))
def jmU  : OpU X (Ybh .Sub) subU:=by
 refine⟨_,jm0.or (jk5 (X:=X)),?_⟩;intro x y v v' G H Q Q0 rx ry hG h lv;unfold subU at h;split at h
 ·cases rx;cases ry;exact .inl ⟨_,_,rfl,rfl,lv.int hG h⟩
 ·cases rx;cases ry;exact .inr (.inl ⟨_,_,rfl,rfl,lv.int hG h⟩)
 ·cases rx;cases ry;exact .inr (.inr ⟨_,_,rfl,rfl,lv.int hG h⟩)
 ·exact h.elim
def jmW  : OpU X (Ybh .Mult) mulU:=by
 refine⟨_,jm4.or (jm1.or ((jk6 (X:=X)).or jk7)),?_⟩;intro x y v v' G H Q Q0 rx ry hG h lv;unfold mulU at h;split at h
 ·cases rx;cases ry;exact .inl ⟨_,_,rfl,rfl,h.1,lv.int hG h.2⟩
 ·cases rx;cases ry;obtain⟨xs,g1,h1,h2,hl,q⟩:=h;obtain⟨vs,e1,r1⟩:=hG.lst g1;exact .inr (.inl ⟨_,_,vs,rfl,rfl,e1,h1,h2,by rw[<- r1.length];exact hl,λp hp=>lv.lst hp (r1.rep _) hG q⟩)
 ·rename_i xs k;obtain⟨a,vs,rfl,s1,r1⟩:=rx;cases ry;obtain⟨h0,h1,h2,hl,q⟩:=h;refine .inr (.inr (.inl ⟨a,k,vs,rfl,rfl,.of s1,?_,h1,h2,by rw[<- r1.length];exact hl,λz=>?_,λ_ p hp=>lv.tup hp (r1.rep _) hG q⟩))
  ·intro z;subst z;exact h0 (by have:=r1.length;simpa using this)
  ·subst z;have e:(Yab (Int.toNat 1) xs).flatten=xs:=by simp
   rw[e]at q;exact lv.here (w:=.tup xs) ⟨a,vs,rfl,s1,r1⟩ hG q
 ·cases rx;cases ry;exact .inr (.inr (.inr ⟨_,_,rfl,rfl,h.1,h.2.1,h.2.2.1,lv.str hG h.2.2.2⟩))
 ·exact h.elim
def jk4  : OpU X (Ybh .FloorDiv) jlD:=by
 refine⟨_,jk8,?_⟩;intro x y v v' G H Q Q0 rx ry hG h lv;unfold jlD at h;split at h
 ·cases rx;cases ry;exact⟨_,_,rfl,rfl,⟨h.1,h.2.1⟩,lv.int hG h.2.2⟩
 ·exact h.elim
def jmX  : OpU X (Ybh .Mod) modU:=by
 refine⟨_,jm5,?_⟩;intro x y v v' G H Q Q0 rx ry hG h lv;unfold modU at h;split at h
 ·cases rx;cases ry;exact⟨_,_,rfl,rfl,h.1,lv.int hG h.2⟩
 ·exact h.elim
def jmV  : OpU X (Ybh .Pow) powU:=by
 refine⟨_,jm2,?_⟩;intro x y v v' G H Q Q0 rx ry hG h lv;unfold powU at h;split at h
 ·cases rx;cases ry;exact⟨_,_,rfl,rfl,h.1,lv.int hG h.2⟩
 ·exact h.elim
def jmY   o:OpU X (Ybh o) (binU o):=by
 cases o with
 |Add=>exact jmZ
 |Sub=>exact jmU
 |Mult=>exact jmW
 |FloorDiv=>exact jk4
 |Mod=>exact jmX
 |Pow=>exact jmV
 |_=>exact⟨λ_ _ _ _=>False,λ_ _ _ _ _ _ _ _ _ _ _ _ h=>h.elim,λ_ _ _ _ _ _ _ _ _ _ _ h _=>h⟩
def joL  (ha:PE X a (lE X ta)):PE X (.UnaryOp .USub a pos) (lE X λς G Q E=>ta ς G (λx G1=>negU x G1 Q) E):=by
 refine(jpm jlS ha).imp λσ H Q0 h=>lE.one h λx v G H' Q rx hG q lv=>?_;unfold negU at q;split at q
 ·cases rx;exact⟨_,rfl,lv.int hG q⟩
 ·exact q.elim
def CmU  (X:Cx)(o:CmpOp):Prop:=
 ∃r:R2,OpR X (YaV o) r/\∀x y v v' G H (k:Bool->Prop) (Q0:VK),RU X.K H x v->RU X.K H y v'->HR X.K H G->cmpU o x y G k->(∀c,k c->Q0 (.bl c) H)->r v v' H Q0

def jkf  {X: Cx}(rx:RU X.K H x v)(ry:RU X.K H y v')(hG:HR X.K H G)(h:eqU x y G k) :
  (scal v v'=true/\k (decide (v=v')))\/∃d e,DV X.K H v d/\DV X.K H v' e/\d.canLay0=true/\e.canLay0=true/\d.depth<=100/\k (YaJ d e):=by
 have g:(∃d e,DU G x d/\DU G y e/\Small d/\Small e/\k (YaJ d e))->(scal v v'=true/\k (decide (v=v')))\/∃d e,DV X.K H v d/\DV X.K H v' e/\d.canLay0=true/\e.canLay0=true/\d.depth<=100/\k (YaJ d e):=
  λ⟨d,e,h1,h2,⟨s1,s2⟩,⟨s3,_⟩,q⟩=>.inr ⟨d,e,h1.dv hG rx,h2.dv hG ry,s1,s3,s2,q⟩
 have e:∀{p:Prop} [Decidable p],¬p->k false->k (decide p):=λn q=>by rw[decide_eq_false n];exact q
 cases x<;>try exact g h
 all_goals
  cases y<;>first
   |exact g h
   |(cases rx;cases ry;exact .inl ⟨rfl,e (λz=>V.noConfusion z) h⟩)
   |(cases rx;cases ry;exact .inl ⟨rfl,by simp only[V.bl.injEq,V.int.injEq,V.str.injEq];exact h⟩)
def jhw      (r:RUs K H us vs):vs.isEmpty=us.isEmpty:=by
 have:=r.length;cases us<;>cases vs<;>first|rfl|cases this
def jlG  {X: Cx}(rx:RU X.K H x v)(ry:RU X.K H y v')(hG:HR X.K H G)(h:eqQ x y G k):eqU x y G k\/(∃a z kvs,v=.ref a/\v'=.str z/\H a=some (.dK kvs)/\k false)\/(∃a b xs,v=.ref a/\v'=.ref b/\SqT X.K H a xs/\SqT X.K H b []/\k xs.isEmpty)\/∃a z xs,v=.ref a/\v'=.str z/\(SqT X.K H a xs\/SqL X.K H a xs)/\k false:=by
 unfold eqQ at h;split at h
 ·rcases h with⟨kvs,g,q⟩|⟨xs,g,q⟩|h
  ·cases rx;cases ry;obtain⟨l,e,rs⟩:=hG _ _ g;exact .inr (.inl ⟨_,_,l,rfl,rfl,e,q⟩)
  ·cases rx;cases ry;obtain⟨vs,e,rs⟩:=hG.lst g;exact .inr (.inr (.inr ⟨_,_,vs,rfl,rfl,.inr (.of e),q⟩))
  ·exact .inl h
 ·obtain⟨a,vs,rfl,s1,r1⟩:=rx;obtain⟨b,ws,rfl,s2,r2⟩:=ry;cases r2;refine .inr (.inr (.inl ⟨a,b,vs,rfl,rfl,.of s1,.of s2,?_⟩));rw[jhw r1];exact h
 ·obtain⟨a,vs,rfl,s1,r1⟩:=rx;cases ry;exact .inr (.inr (.inr ⟨a,_,vs,rfl,rfl,.inl (.of s1),h⟩))
 ·exact .inl h
def jfw       (r:RU K H x v)(e:kU x=some k):v=kV k:=by
 cases x with
 |int i=>cases r;cases e;rfl
 |str i=>cases r;cases e;rfl
 |_=>cases e
theorem jgq    : ∀{xs } {vs } {ks },RUs K H xs vs->kUs xs=some ks->vs=ks.map kV
 |[],_,_,r,e=>by cases r;cases e;rfl
 |x::xs,_,ks,r,e=>by
  obtain⟨v,vr,rfl,r1,rs⟩:=r;rw[kUs]at e;cases h1:kU x with
  |none=>rw[h1]at e;cases e
  |some k=>
   cases h2:kUs xs with
   |none=>rw[h1,h2]at e;cases e
   |some l=>
    rw[h1,h2]at e;cases e;rw[jfw r1 h1,jgq rs h2];rfl
def jep      (r:RU K H x v)(e:flat x=true):jcG v=true:=by
 cases x<;>first|(cases r;rfl)|exact absurd (show false=true from e) (by decide)
theorem jcN    : ∀{xs } {vs },RUs K H xs vs->xs.all flat=true->vs.all jcG=true
 |[],_,r,_=>by cases r;rfl
 |x::xs,_,r,e=>by
  obtain⟨v,vr,rfl,r1,rs⟩:=r;rw[Ybl,Yao]at e;rw[Ybl,jep r1 e.1,jcN rs e.2];rfl
def jnQ      (r:RU K H x v)(r':RU K H y v')(e:flat x=true)(e':flat y=true):eqV v v'=eqF x y:=by
 cases x<;>first|(exact absurd (show false=true from e) (by decide))|(cases y<;>first|(exact absurd (show false=true from e') (by decide))|(cases r;cases r';rfl))
theorem jgF      (r:RU K H x v)(e:flat x=true):∀{xs } {vs },RUs K H xs vs->xs.all flat=true->inV v vs=xs.any λy=>eqF y x
 |[],_,rs,_=>by cases rs;rfl
 |y::xs,_,rs,e'=>by
  obtain⟨v',vr,rfl,r1,rs⟩:=rs;rw[Ybl,Yao]at e';have ih:=jgF r e rs e'.2;unfold inV at ih ⊢;rw[Ybz,Ybz,jnQ r1 r e'.1 e,ih]
theorem jcR {κ:Type}[DecidableEq κ]{K:Yac}{H:Hp}(k:κ):∀{kvs:List (κ×U)} {l:List (κ×V)},RKs K H kvs l->match dGet kvs k with|some u=>∃v,valV l k=some v/\RU K H u v|none=>valV l k=none
 |[],_,r=>by cases r;exact rfl
 |(k',u)::kvs,_,r=>by
  obtain⟨v,l',rfl,r1,rs⟩:=r;by_cases e:k'=k
  ·subst e;have:dGet ((k',u)::kvs) k'=some u:=by simp[dGet,Ya2]
   rw[this];exact⟨v,jcH rfl,r1⟩
  ·have:dGet ((k',u)::kvs) k=dGet kvs k:=by simp[dGet,Ya2,e]
   rw[this,jcI (p:=(k',v)) e];exact jcR k rs
def jdf   [DecidableEq κ](k:κ)(r:RKs K H kvs l):(valV l k).isSome=(dGet kvs k).isSome:=by
 have:=jcR k r;cases e:dGet kvs k with
 |none=>rw[e]at this;rw[show valV l k=none from this];rfl
 |some u=>rw[e]at this;obtain⟨v,h,_⟩:=this;rw[h];rfl
def rDIn  (neg:Bool):R2:=λx y H Q=>∃a o,y=.ref a/\DGet H a x o/\Q (.bl (if neg then !o.isSome else o.isSome)) H
def jm8  (hu:X.A.units+1<cLine):OpR X (YaV .In) (rDIn false):=by
 intro pins s σ H x y v u Q I rx ry h;obtain⟨a,o,rfl,g,q⟩:=h;cases ry;exact d_in hu I g rx λs' I'=>⟨.bl o.isSome,H,I',rfl,q⟩
def jhL  (hu:X.A.units+1<cLine):OpR X (YaV .NotIn) (rDIn true):=by
 intro pins s σ H x y v u Q I rx ry h;obtain⟨a,o,rfl,g,q⟩:=h;cases ry;exact jlH hu I g rx λs' I'=>⟨.bl (!o.isSome),H,I',rfl,q⟩
def jj8  {X: Cx}(rx:RU X.K H x v)(ry:RU X.K H y v')(hG:HR X.K H G)(h:inU x y G k) :
  (∃i j,v=.str i/\v'=.str j/\k (!(Yci j i 0 j.length 1).isEmpty))\/(∃p xs,v'=.ref p/\(SqL X.K H p xs\/SqT X.K H p xs)/\jcG v=true/\xs.all jcG=true/\k (inV v xs))\/
   (∃a o,v'=.ref a/\DGet H a v o/\k o.isSome)\/∃(p:Addr) (vs:List V) (d:PyData) (ds:List PyData),v'=.ref p/\(SqL X.K H p vs\/SqT X.K H p vs)/\DV X.K H v d/\DVs X.K H vs ds/\d.canLay0=true/\d.depth<=100/\(∀e∈ds,e.canLay0=true)/\k (ds.any λe=>YaJ e d):=by
 unfold inU at h;split at h
 ·cases rx;cases ry;exact .inl ⟨_,_,rfl,rfl,h⟩
 ·obtain⟨a,vs,rfl,e,rs⟩:=ry;obtain⟨d,ds,hd,hds,sd,sds,q⟩:=h;exact .inr (.inr (.inr ⟨a,vs,d,ds,rfl,.inr (.of e),hd.dv hG rx,hds.dv hG rs,sd.1,sd.2,λe he=>(sds e he).1,q⟩))
 ·obtain⟨a,vs,rfl,e,rs⟩:=ry;obtain⟨f1,f2,q⟩:=h;exact .inr (.inl ⟨a,vs,rfl,.inr (.of e),jep rx f1,jcN rs f2,by rw[jgF rx f1 rs f2];exact q⟩)
 ·cases ry;rename_i a;split at h
  ·rename_i ys g;obtain⟨vs,e,rs⟩:=hG.lst g;rcases h with⟨f1,f2,q⟩|⟨d,ds,hd,hds,sd,sds,q⟩
   ·exact .inr (.inl ⟨a,vs,rfl,.inl (.of e),jep rx f1,jcN rs f2,by rw[jgF rx f1 rs f2];exact q⟩)
   ·exact .inr (.inr (.inr ⟨a,vs,d,ds,rfl,.inl (.of e),hd.dv hG rx,hds.dv hG rs,sd.1,sd.2,λe he=>(sds e he).1,q⟩))
  ·rename_i ys g;obtain⟨ob,vs,e,rs⟩:=hG a _ g;obtain⟨f1,f2,q⟩:=h;exact .inr (.inl ⟨a,vs,rfl,.inl (.inl (.inr ⟨ob,e⟩)),jep rx f1,jcN rs f2,by rw[jgF rx f1 rs f2];exact q⟩)
  ·rename_i kvs g;obtain⟨l,e,rs⟩:=hG a _ g;split at h
   ·rename_i y ek;have:=jfw rx ek;subst this;exact .inr (.inr (.inl ⟨a,_,rfl,DGet.k e,by rw[jdf y rs];exact h⟩))
   ·exact h.elim
  ·rename_i kvs g;obtain⟨l,e,rs⟩:=hG a _ g;split at h
   ·rename_i xs;obtain⟨b,vs,rfl,eb,rb⟩:=rx;split at h
    ·rename_i y ek;have:=jgq rb ek;subst this;exact .inr (.inr (.inl ⟨a,_,rfl,DGet.t e eb,by rw[jdf y rs];exact h⟩))
    ·exact h.elim
   ·exact h.elim
  ·rename_i o kvs g;obtain⟨l,e,rs⟩:=hG a _ g;split at h
   ·rename_i y ek;have:=jfw rx ek;subst this;exact .inr (.inr (.inl ⟨a,_,rfl,.inl ⟨l,y,.inr ⟨o,e⟩,rfl,rfl⟩,by rw[jdf y rs];exact h⟩))
   ·exact h.elim
  ·exact h.elim
 ·exact h.elim
def jeb     (h:ordU o x y k):(∃i j,x=.int i/\y=.int j)\/(o=.LtE/\∃i j,x=.str i/\y=.str j):=by
 unfold ordU at h;split at h<;>first|exact .inl ⟨_,_,rfl,rfl⟩|exact .inr ⟨rfl,_,_,rfl,rfl⟩|exact h.elim
def jdY   (hr:Room k X.A) o:CmU X o:=by
 have hu:X.A.units+1<cLine:=by have:=hr.un;lia
 cases o with
 |Eq=>
  refine⟨_,jpw.or ((jm7 hr).or ((jec hr).or ((jgR hr).or (jeL hr)))),λx y v v' G H k Q0 rx ry hG h q=>?_⟩;rcases jlG rx ry hG h with h|⟨a,z,kvs,h1,h2,h3,h4⟩|⟨a,b,xs,h1,h2,h3,h4,h5⟩|⟨a,z,xs,h1,h2,h3,h4⟩
  ·rcases jkf rx ry hG h with⟨h1,h2⟩|⟨d,e,h1,h2,h3,h4,h5,h6⟩
   ·exact .inl ⟨h1,q _ h2⟩
   ·exact .inr (.inl ⟨d,e,h1,h2,h3,h4,h5,q _ h6⟩)
  ·exact .inr (.inr (.inl ⟨a,z,kvs,h1,h2,h3,q _ h4⟩))
  ·exact .inr (.inr (.inr (.inl ⟨a,b,xs,h1,h2,h3,h4,q _ h5⟩)))
  ·exact .inr (.inr (.inr (.inr ⟨a,z,xs,h1,h2,h3,q _ h4⟩)))
 |NotEq=>
  refine⟨_,jpr.or (jm3 hr),λx y v v' G H k Q0 rx ry hG h q=>?_⟩;rcases jkf rx ry hG h with⟨h1,h2⟩|⟨d,e,h1,h2,h3,h4,h5,h6⟩
  ·exact .inl ⟨h1,q _ h2⟩
  ·exact .inr ⟨d,e,h1,h2,h3,h4,h5,q _ h6⟩
 |Is=>exact⟨λ_ _ _ _=>False,λ_ _ _ _ _ _ _ _ _ _ _ _ h=>h.elim,λ_ _ _ _ _ _ _ _ _ _ _ h _=>h.elim⟩
 |IsNot=>exact⟨λ_ _ _ _=>False,λ_ _ _ _ _ _ _ _ _ _ _ _ h=>h.elim,λ_ _ _ _ _ _ _ _ _ _ _ h _=>h.elim⟩
 |In=>
  refine⟨_,jhJ.or ((jhK (X:=X)).or ((jm8 hu).or (jm6 hr))),λx y v v' G H k Q0 rx ry hG h q=>?_⟩;rcases jj8 rx ry hG h with⟨i,j,h1,h2,h3⟩|⟨p,xs,h1,h2,h3,h4,h5⟩|⟨a,o,h1,h2,h3⟩|⟨p,vs,d,ds,h1,h2,h3,h4,h5,h6,h7,h8⟩
  ·exact .inl ⟨i,j,h1,h2,q _ h3⟩
  ·exact .inr (.inl ⟨p,xs,h1,h2,h3,h4,q _ h5⟩)
  ·exact .inr (.inr (.inl ⟨a,o,h1,h2,q _ h3⟩))
  ·exact .inr (.inr (.inr ⟨p,vs,d,ds,h1,h2,h3,h4,h5,h6,h7,q _ h8⟩))
 |NotIn=>
  refine⟨_,jeJ.or ((jeK (X:=X)).or ((jhL hu).or (jhH hr))),λx y v v' G H k Q0 rx ry hG h q=>?_⟩;rcases jj8 rx ry hG h with⟨i,j,h1,h2,h3⟩|⟨p,xs,h1,h2,h3,h4,h5⟩|⟨a,o,h1,h2,h3⟩|⟨p,vs,d,ds,h1,h2,h3,h4,h5,h6,h7,h8⟩
  ·exact .inl ⟨i,j,h1,h2,q _ h3⟩
  ·exact .inr (.inl ⟨p,xs,h1,h2,h3,h4,q _ h5⟩)
  ·exact .inr (.inr (.inl ⟨a,o,h1,h2,q _ h3⟩))
  ·exact .inr (.inr (.inr ⟨p,vs,d,ds,h1,h2,h3,h4,h5,h6,h7,q _ h8⟩))
 |Lt=>
  refine⟨_,jps,λx y v v' G H k Q0 rx ry hG h q=>?_⟩;obtain⟨i,j,rfl,rfl⟩|⟨z,_⟩:=jeb h
  rotate_left
  ·cases z
  cases rx;cases ry;exact⟨_,_,rfl,rfl,q _ h⟩
 |LtE=>
  refine⟨_,jpt.or jhI,λx y v v' G H k Q0 rx ry hG h q=>?_⟩;obtain⟨i,j,rfl,rfl⟩|⟨_,i,j,rfl,rfl⟩:=jeb h
  ·cases rx;cases ry;exact .inl ⟨_,_,rfl,rfl,q _ h⟩
  ·cases rx;cases ry;exact .inr ⟨_,_,rfl,rfl,q _ h⟩
 |Gt=>
  refine⟨_,jpu,λx y v v' G H k Q0 rx ry hG h q=>?_⟩;obtain⟨i,j,rfl,rfl⟩|⟨z,_⟩:=jeb h
  rotate_left
  ·cases z
  cases rx;cases ry;exact⟨_,_,rfl,rfl,q _ h⟩
 |GtE=>
  refine⟨_,jpv,λx y v v' G H k Q0 rx ry hG h q=>?_⟩;obtain⟨i,j,rfl,rfl⟩|⟨z,_⟩:=jeb h
  rotate_left
  ·cases z
  cases rx;cases ry;exact⟨_,_,rfl,rfl,q _ h⟩

def joR   (ho:CmU X o)(ha:PE X a (lE X ta))(hb:PE X b (lE X tb))(hm:Yef o b=false) :
  PE X (.Compare a [o] [b] pos) (lE X λς G Q E=>ta ς G (λx G1=>tb ς G1 (λy G2=>cmpU o x y G2 λc=>Q (.bl c) G2) E) E):=by
 obtain⟨r,h1,h2⟩:=ho;exact(jk1 h1 ha hb hm).imp λσ H Q0 h=>lE.two h λx y v v' G H' Q rx ry hG q lv=>h2 x y v v' G H' _ Q0 rx ry hG q λc q=>lv.bl hG q
def jl0   (ho:CmU X o)(ho':CmU X o')(ha:PE X a (lE X ta))(hb:PE X b (lE X tb))(hc:PE X c (lE X tc))(hm:Ygc [o,o'] [b,c]=false) :
  PE X (.Compare a [o,o'] [b,c] pos) (lE X λς G Q E=>ta ς G (λx G1=>tb ς G1 (λy G2=>cmpU o x y G2 λt=>if t=true then tc ς G2 (λz G3=>cmpU o' y z G3 λt'=>Q (.bl t') G3) E else Q (.bl false) G2) E) E):=by
 obtain⟨r,h1,h2⟩:=ho;obtain⟨r',h1',h2'⟩:=ho';refine(ji5 h1 h1' ha hb hc hm).imp λσ H Q0 h=>?_;obtain⟨ς,G,Q,E,hς,hG,h,lv,lx⟩:=h;refine⟨ς,G,_,E,hς,hG,h,λx v G1 H1 rx hG1 f1 h1=>?_,lx⟩;refine⟨ς,G1,_,E,hς.ts (f1.ts hG),hG1,h1,λy v' G2 H2 ry hG2 f2 h3=>?_,lx.fr f1⟩;refine h2 x y v v' G2 H2 _ _ (rx.ts (f2.ts hG1)) ry hG2 h3 λt q=>⟨t,rfl,?_⟩;cases t with
 |false=>
  rw[if_neg Yaj]at q ⊢;exact(lv.fr (f1.trans f2)).bl hG2 q
 |true=>
  rw[if_pos rfl]at q ⊢;refine⟨ς,G2,_,E,(hς.ts (f1.ts hG)).ts (f2.ts hG1),hG2,q,λz v3 G3 H3 rz hG3 f3 h4=>?_,lx.fr (f1.trans f2)⟩;exact h2' y z v' v3 G3 H3 _ Q0 (ry.ts (f3.ts hG2)) rz hG3 h4 λc q=>(lv.fr ((f1.trans f2).trans f3)).bl hG3 q
def jd4  {X: Cx}(rx:RU X.K H x v)(hG:HR X.K H G)(h:truU x G k):∃b,TruV X.K v H b/\k b:=by
 unfold truU at h;split at h
 ·cases rx;exact⟨_,rfl,h⟩
 ·cases rx;exact⟨_,rfl,h⟩
 ·cases rx;exact⟨_,rfl,h⟩
 ·cases rx;exact⟨_,⟨h.1,rfl⟩,h.2⟩
 ·obtain⟨a,vs,rfl,e,rs⟩:=rx;exact⟨_,.inr (.inl ⟨vs,.of e,rfl⟩),by rw[<- rs.isEmpty];exact h⟩
 ·cases rx;split at h
  ·rename_i g;obtain⟨vs,e,rs⟩:=hG.lst g;exact⟨_,.inl ⟨vs,.of e,rfl⟩,by rw[<- rs.isEmpty];exact h⟩
  ·rename_i g;obtain⟨ob,vs,e,rs⟩:=hG _ _ g;exact⟨_,.inl ⟨vs,.inl (.inr ⟨ob,e⟩),rfl⟩,by rw[<- rs.isEmpty];exact h⟩
  ·rename_i kvs g;obtain⟨l,e,rs⟩:=hG _ _ g;refine⟨_,.inr (.inr ⟨l,e,rfl⟩),?_⟩;cases kvs with
   |nil=>cases rs;exact h
   |cons p r=>obtain⟨v,l',rfl,_⟩:=rs;exact h
  ·exact h.elim
 ·exact h.elim
def joI  (ha:PE X a (lE X ta))(he:∀whole,isTrue a X.env whole=(do let v <- whole;standAt a.pos;holding [v] (truthy v))):PT X a (lT X λς G Q E=>ta ς G (λx G1=>truU x G1 λb=>Q b G1) E):=by
 refine(jiU ha he).imp λσ H Q0 h=>?_;obtain⟨ς,G,Q,E,hς,hG,h,lv,lx⟩:=h;refine⟨ς,G,_,E,hς,hG,h,λx v G1 H1 rx hG1 f1 h1=>?_,lx⟩;obtain⟨b,h2,h3⟩:=jd4 rx hG1 h1;exact⟨b,h2,lv b G1 H1 hG1 f1 h3⟩
def jlZ   (ho:CmU X o)(ha:PE X a (lE X ta))(hb:PE X b (lE X tb))(hm:Yef o b=false) :
  PT X (.Compare a [o] [b] pos) (lT X λς G Q E=>ta ς G (λx G1=>tb ς G1 (λy G2=>cmpU o x y G2 λc=>truU (.bl c) G2 λc=>Q c G2) E) E):=by
 obtain⟨r,h1,h2⟩:=ho;refine(jkL h1 ha hb hm).imp λσ H Q0 h=>?_;obtain⟨ς,G,Q,E,hς,hG,h,lv,lx⟩:=h;refine⟨ς,G,_,E,hς,hG,h,λx v G1 H1 rx hG1 f1 h1=>?_,lx⟩;refine⟨ς,G1,_,E,hς.ts (f1.ts hG),hG1,h1,λy v' G2 H2 ry hG2 f2 h3=>?_,lx.fr f1⟩;exact h2 x y v v' G2 H2 _ _ (rx.ts (f2.ts hG1)) ry hG2 h3 λt q=>⟨t,rfl,lv t G2 H2 hG2 (f1.trans f2) q⟩
def jkr   (ho:CmU X o)(ho':CmU X o')(ha:PE X a (lE X ta))(hb:PE X b (lE X tb))(hc:PE X c (lE X tc))(hm:Ygc [o,o'] [b,c]=false) :
  PT X (.Compare a [o,o'] [b,c] pos) (lT X λς G Q E=>ta ς G (λx G1=>tb ς G1 (λy G2=>cmpU o x y G2 λt=>if t=true then tc ς G2 (λz G3=>cmpU o' y z G3 λt'=>truU (.bl t') G3 λc=>Q c G3) E else truU (.bl false) G2 λc=>Q c G2) E) E):=by
 obtain⟨r,h1,h2⟩:=ho;obtain⟨r',h1',h2'⟩:=ho';refine(jiV h1 h1' ha hb hc hm).imp λσ H Q0 h=>?_;obtain⟨ς,G,Q,E,hς,hG,h,lv,lx⟩:=h;refine⟨ς,G,_,E,hς,hG,h,λx v G1 H1 rx hG1 f1 h1=>?_,lx⟩;refine⟨ς,G1,_,E,hς.ts (f1.ts hG),hG1,h1,λy v' G2 H2 ry hG2 f2 h3=>?_,lx.fr f1⟩;refine h2 x y v v' G2 H2 _ _ (rx.ts (f2.ts hG1)) ry hG2 h3 λt q=>⟨t,rfl,?_⟩;cases t with
 |false=>
  rw[if_neg Yaj]at q ⊢;exact⟨false,rfl,lv false G2 H2 hG2 (f1.trans f2) q⟩
 |true=>
  rw[if_pos rfl]at q ⊢;refine⟨ς,G2,_,E,(hς.ts (f1.ts hG)).ts (f2.ts hG1),hG2,q,λz v3 G3 H3 rz hG3 f3 h4=>?_,lx.fr (f1.trans f2)⟩;exact h2' y z v' v3 G3 H3 _ _ (ry.ts (f3.ts hG2)) rz hG3 h4 λc q=>⟨c,rfl,lv c G3 H3 hG3 ((f1.trans f2).trans f3) q⟩
def jk2  {rest:List Expr}(ha:PE X a sa)(hb:PE X (.BoolOp .And (b::rest) pos) sb):PE X (.BoolOp .And (a::b::rest) pos) (λσ H Q=>sa σ H λx H1=>∃k,TruV X.K x H1 k/\if k=true then sb σ H1 Q else Q x H1):=by
 intro pins s σ H Q I h;refine PyProof.Rows.BoolOp_and (thn (ha pins s σ H _ I h) λv s1 ⟨x,H1,I1,r1,k,hk,q1⟩=>?_);refine thn (jf0 pins s1 σ H1 x v (λc H2=>c=k/\H2=H1) I1 r1 ⟨k,hk,rfl,rfl⟩) λc s2 ⟨H2,I2,e1,e2⟩=>?_;subst e1 e2;cases c with
 |true=>exact hb pins s2 σ H2 Q I2 q1
 |false=>exact⟨x,H2,I2,r1,q1⟩
def jmM  {rest:List Expr}(ha:PE X a sa)(hb:PE X (.BoolOp .Or (b::rest) pos) sb):PE X (.BoolOp .Or (a::b::rest) pos) (λσ H Q=>sa σ H λx H1=>∃k,TruV X.K x H1 k/\if k=true then Q x H1 else sb σ H1 Q):=by
 intro pins s σ H Q I h;refine PyProof.Rows.BoolOp_or (thn (ha pins s σ H _ I h) λv s1 ⟨x,H1,I1,r1,k,hk,q1⟩=>?_);refine thn (jf0 pins s1 σ H1 x v (λc H2=>c=k/\H2=H1) I1 r1 ⟨k,hk,rfl,rfl⟩) λc s2 ⟨H2,I2,e1,e2⟩=>?_;subst e1 e2;cases c with
 |true=>exact⟨x,H2,I2,r1,q1⟩
 |false=>exact hb pins s2 σ H2 Q I2 q1
def joU  {rest:List Expr}(ha:PE X a (lE X ta))(hb:PE X (.BoolOp .And (b::rest) pos) (lE X tb)):PE X (.BoolOp .And (a::b::rest) pos) (lE X λς G Q E=>ta ς G (λx G1=>truU x G1 λc=>if c=true then tb ς G1 Q E else Q x G1) E):=by
 refine(jk2 ha hb).imp λσ H Q0 h=>?_;obtain⟨ς,G,Q,E,hς,hG,h,lv,lx⟩:=h;refine⟨ς,G,_,E,hς,hG,h,λx v G1 H1 rx hG1 f1 h1=>?_,lx⟩;obtain⟨k,h2,h3⟩:=jd4 rx hG1 h1;refine⟨k,h2,?_⟩;cases k with
 |true=>rw[if_pos rfl]at h3 ⊢;exact⟨ς,G1,Q,E,hς.ts (f1.ts hG),hG1,h3,lv.fr f1,lx.fr f1⟩
 |false=>rw[if_neg Yaj]at h3 ⊢;exact(lv.fr f1).here rx hG1 h3
def u_or  {rest:List Expr}(ha:PE X a (lE X ta))(hb:PE X (.BoolOp .Or (b::rest) pos) (lE X tb)):PE X (.BoolOp .Or (a::b::rest) pos) (lE X λς G Q E=>ta ς G (λx G1=>truU x G1 λc=>if c=true then Q x G1 else tb ς G1 Q E) E):=by
 refine(jmM ha hb).imp λσ H Q0 h=>?_;obtain⟨ς,G,Q,E,hς,hG,h,lv,lx⟩:=h;refine⟨ς,G,_,E,hς,hG,h,λx v G1 H1 rx hG1 f1 h1=>?_,lx⟩;obtain⟨k,h2,h3⟩:=jd4 rx hG1 h1;refine⟨k,h2,?_⟩;cases k with
 |true=>rw[if_pos rfl]at h3 ⊢;exact(lv.fr f1).here rx hG1 h3
 |false=>rw[if_neg Yaj]at h3 ⊢;exact⟨ς,G1,Q,E,hς.ts (f1.ts hG),hG1,h3,lv.fr f1,lx.fr f1⟩
def joK  (ha:PE X a (lE X ta)):PE X (.UnaryOp .Not a pos) (lE X λς G Q E=>ta ς G (λx G1=>truU x G1 λb=>Q (.bl (!b)) G1) E):=by
 intro pins s σ H Q0 I h;obtain⟨ς,G,Q,E,hς,hG,h,lv,lx⟩:=h;refine PyProof.Rows.UnaryOp_ (thn (ha pins s σ H (λv H1=>∃k,TruV X.K v H1 k/\Q0 (.bl (!k)) H1) I ⟨ς,G,_,E,hς,hG,h,λx v G1 H1 rx hG1 f1 h1=>?_,lx⟩) λv s1 ⟨x,H1,I1,r1,k,hk,q1⟩=>?_)
 ·obtain⟨k,h2,h3⟩:=jd4 rx hG1 h1;exact⟨k,h2,(lv.fr f1).bl hG1 h3⟩
 ·refine PyProof.Rows.not_of (thn (jf0 pins s1 σ H1 x v (λc H2=>c=k/\H2=H1) I1 r1 ⟨k,hk,rfl,rfl⟩) λc s2 ⟨H2,I2,e1,e2⟩=>?_);subst e1 e2;exact⟨.bl (!c),H2,I2,rfl,q1⟩
def jlU  (ha:PT X a (lT X tA)):PT X (.UnaryOp .Not a pos) (lT X λς G Q E=>tA ς G (λb G1=>Q (!b) G1) E):=by
 refine(jjP ha).imp λσ H Q0 h=>?_;obtain⟨ς,G,Q,E,hς,hG,h,lv,lx⟩:=h;exact⟨ς,G,_,E,hς,hG,h,λb G1 H1 hG1 f1 h1=>lv (!b) G1 H1 hG1 f1 h1,lx⟩
def jl2  {tB: UT}{rest:List Expr}(ha:PT X a (lT X tA))(hb:PW X (.BoolOp .And (b::rest) pos) (lT X tB)):PW X (.BoolOp .And (a::b::rest) pos) (lT X λς G Q E=>tA ς G (λc G1=>if c=true then tB ς G1 Q E else Q false G1) E):=by
 refine(pw_and ha hb).imp λσ H Q0 h=>?_;obtain⟨ς,G,Q,E,hς,hG,h,lv,lx⟩:=h;refine⟨ς,G,_,E,hς,hG,h,λc G1 H1 hG1 f1 h1=>?_,lx⟩;cases c with
 |false=>rw[if_neg Yaj]at h1 ⊢;exact lv false G1 H1 hG1 f1 h1
 |true=>rw[if_pos rfl]at h1 ⊢;exact⟨ς,G1,Q,E,hς.ts (f1.ts hG),hG1,h1,λb G2 H2 hG2 f2 h2=>lv b G2 H2 hG2 (f1.trans f2) h2,lx.fr f1⟩
def joJ  {tB: UT}{rest:List Expr}(ha:PT X a (lT X tA))(hb:PW X (.BoolOp .Or (b::rest) pos) (lT X tB)):PW X (.BoolOp .Or (a::b::rest) pos) (lT X λς G Q E=>tA ς G (λc G1=>if c=true then Q true G1 else tB ς G1 Q E) E):=by
 refine(pw_or ha hb).imp λσ H Q0 h=>?_;obtain⟨ς,G,Q,E,hς,hG,h,lv,lx⟩:=h;refine⟨ς,G,_,E,hς,hG,h,λc G1 H1 hG1 f1 h1=>?_,lx⟩;cases c with
 |true=>rw[if_pos rfl]at h1 ⊢;exact lv true G1 H1 hG1 f1 h1
 |false=>rw[if_neg Yaj]at h1 ⊢;exact⟨ς,G1,Q,E,hς.ts (f1.ts hG),hG1,h1,λb G2 H2 hG2 f2 h2=>lv b G2 H2 hG2 (f1.trans f2) h2,lx.fr f1⟩
end Z

namespace L2
open PySem PySem.Spec PyProof.Rows

end L2
namespace Z
open PySem L2
section
variable {X:Cx}{pos:Pos}{a b e:Expr}{es:List Expr}{ta tb te:UE}{ts:UA}
def jgH  : PA X [] (lA X λ_ G Q _=>Q [] G):=by
 refine jdD.imp λσ H Q0 h=>?_;obtain⟨ς,G,Q,E,hς,hG,h,lv,lx⟩:=h;exact lv [] [] G H rfl hG (Fr.refl _ _) h
def jdA  (ha:PE X e (lE X te))(hr:PA X es (lA X ts))(hs:YaA (e::es) X.env=(false,eval e X.env)::YaA es X.env):PA X (e::es) (lA X λς G Q E=>te ς G (λx G1=>ts ς G1 (λxs G2=>Q (x::xs) G2) E) E):=by
 refine(jbd ha hr hs).imp λσ H Q0 h=>?_;obtain⟨ς,G,Q,E,hς,hG,h,lv,lx⟩:=h;refine⟨ς,G,_,E,hς,hG,h,λx v G1 H1 rx hG1 f1 h1=>?_,lx⟩;refine⟨ς,G1,_,E,hς.ts (f1.ts hG),hG1,h1,λxs vs G2 H2 rxs hG2 f2 h2=>?_,lx.fr f1⟩;exact lv (x::xs) (v::vs) G2 H2 ⟨v,vs,rfl,rx.ts (f2.ts hG1),rxs⟩ hG2 (f1.trans f2) h2
def joF   (h:PA X es (lA X ts)):PE X (.Tuple es k pos) (lE X λς G Q E=>ts ς G (λus G1=>us.length<=Yai/\Q (.tup us) G1) E):=
 (jhE h).imp λσ H Q0 h=>lE.many h λus vs G H' Q r hG q lv=>⟨by rw[<- r.length];exact q.1,λp hp=>lv.tup hp r hG q.2⟩
def joO  (h:PA X es (lA X ts)):PE X (.List es pos) (lE X λς G Q E=>ts ς G (λus G1=>us.length<=Yai/\newO G1 (.lst us) Q) E):=
 (jjT h).imp λσ H Q0 h=>lE.many h λus vs G H' Q r hG q lv=>⟨by rw[<- r.length];exact q.1,λp hp=>lv.lst hp r hG q.2⟩
def rDix  : R2:=λx y H Q=>∃a v,x=.ref a/\DGet H a y (some v)/\Q v H
def jlq  (hu:X.A.units+1<cLine):IxR X rDix:=by
 intro value slice pins s σ H x y v u Q I rx ry h hs;obtain⟨a,w,rfl,g,q⟩:=h;cases rx;exact PyProof.Rows.tail_any (jfI I g) PySem.F.slot_dict_getitem.lookup (jin hu I g ry λw' s3 I3 rw'=>⟨w,H,I3,rw',q⟩) hs
def jj5 {H:Hp}{G:Gp}{y:U}{v':V}{Q:K1}{Q0:VK}{a:Addr}{xs:List U}{vs:List V}(h:match y with|.int i=>(match atI xs i with|some u=>Q u G|none=>False)|_=>False)
  (ry:RU X.K H y v') (hG:HR X.K H G) (lv:LV X H G Q Q0) (sq:SqL X.K H a vs) (rs:RUs X.K H xs vs):rIx X.K (.ref a) v' H Q0:=by
 cases y with
 |int i=>
  cases ry;dsimp only at h;split at h
  ·rename_i u e;obtain⟨w,e2,r⟩:=rs.atI e;exact .inl ⟨_,vs,_,w,rfl,rfl,sq,e2,lv.here r hG h⟩
  ·exact h.elim
 |_=>exact h.elim
def jny        (rx:RU X.K H x v)(ry:RU X.K H y v')(hG:HR X.K H G)(h:ixU x y G Q)(lv:LV X H G Q Q0):rIx X.K v v' H Q0\/rDix v v' H Q0:=by
 unfold ixU at h;split at h
 ·obtain⟨a,vs,rfl,e,rs⟩:=rx;cases ry;split at h
  ·rename_i u e1;obtain⟨w,e2,r⟩:=rs.atI e1;exact .inl (.inr (.inl ⟨a,vs,_,w,rfl,rfl,.of e,e2,lv.here r hG h⟩))
  ·exact h.elim
 ·cases rx;cases ry;obtain⟨h1,h⟩:=h;split at h
  ·rename_i c e1;exact .inl (.inr (.inr ⟨_,_,c,rfl,rfl,h1,e1,lv.str hG h⟩))
  ·exact h.elim
 ·cases rx;split at h
  ·rename_i g;obtain⟨vs,e,rs⟩:=hG.lst g;exact .inl (jj5 h ry hG lv (.of e) rs)
  ·rename_i g;obtain⟨ob,vs,e,rs⟩:=hG _ _ g;exact .inl (jj5 h ry hG lv (.inl (.inr ⟨ob,e⟩)) rs)
  ·rename_i kvs g;obtain⟨l,e,rs⟩:=hG _ _ g;split at h
   ·rename_i k ek;have:=jfw ry ek;subst this;split at h
    ·rename_i u eu;have:=jcR k rs;rw[eu]at this;obtain⟨w,e2,r⟩:=this;exact .inr ⟨_,w,rfl,by rw[<- e2];exact DGet.k e,lv.here r hG h⟩
    ·exact h.elim
   ·exact h.elim
  ·rename_i kvs g;obtain⟨l,e,rs⟩:=hG _ _ g;split at h
   ·rename_i ys;obtain⟨b,bs,rfl,eb,rb⟩:=ry;split at h
    ·rename_i k ek;have:=jgq rb ek;subst this;split at h
     ·rename_i u eu;have:=jcR k rs;rw[eu]at this;obtain⟨w,e2,r⟩:=this;exact .inr ⟨_,w,rfl,by rw[<- e2];exact DGet.t e eb,lv.here r hG h⟩
     ·exact h.elim
    ·exact h.elim
   ·exact h.elim
  ·rename_i o kvs g;obtain⟨l,e,rs⟩:=hG _ _ g;split at h
   ·rename_i k ek;have:=jfw ry ek;subst this;split at h
    ·rename_i u eu;have:=jcR k rs;rw[eu]at this;obtain⟨w,e2,r⟩:=this;exact .inr ⟨_,w,rfl,by rw[<- e2];exact .inl ⟨l,k,.inr ⟨o,e⟩,rfl,rfl⟩,lv.here r hG h⟩
    ·exact h.elim
   ·exact h.elim
  ·exact h.elim
 ·exact h.elim
def u_ix  (hu:X.A.units+1<cLine)(ha:PE X a (lE X ta))(hb:PE X b (lE X tb))(hs:jfS b):PE X (.Subscript a b pos) (lE X λς G Q E=>ta ς G (λx G1=>tb ς G1 (λy G2=>ixU x y G2 Q) E) E):=
 (jpq ((jnx (X:=X)).or (jlq hu)) ha hb hs).imp λσ H Q0 h=>lE.two h λx y v v' G H' Q rx ry hG q lv=>jny rx ry hG q lv
def u_no  : PO X none (lO X λ_ G Q _=>Q none G):=jkT.imp λσ H Q0 h=>by
 obtain⟨ς,G,Q,E,hς,hG,h,lv,lx⟩:=h;exact lv none G H hG (Fr.refl _ _) h
def u_so (ha:PE X e (lE X te)):PO X (some e) (lO X λς G Q E=>te ς G (λx G1=>match x with|.int i=>Q (some i) G1|_=>False) E):=(jkS ha).imp λσ H Q0 h=>by
 obtain⟨ς,G,Q,E,hς,hG,h,lv,lx⟩:=h;refine⟨ς,G,_,E,hς,hG,h,λx v G1 H1 rx hG1 f1 h1=>?_,lx⟩;dsimp only at h1;split at h1
 ·cases rx;exact⟨_,rfl,lv _ G1 H1 hG1 f1 h1⟩
 ·exact h1.elim
def u_sl     (ha:PE X e (lE X te))(hl:PO X lo (lO X tl))(hh:PO X hi (lO X th)) :
  PE X (.Subscript e (.Slice lo hi none p2) pos) (lE X λς G Q E=>te ς G (λx G1=>tl ς G1 (λl G2=>th ς G2 (λh G3=>slU x l h G3 Q) E) E) E):=by
 refine(ji2 (SlR.or (jkA (X:=X)) (SlR.or jkB jmg)) ha hl hh).imp λσ H Q0 h=>?_;obtain⟨ς,G,Q,E,hς,hG,h,lv,lx⟩:=h;refine⟨ς,G,_,E,hς,hG,h,λx v G1 H1 rx hG1 f1 h1=>?_,lx⟩;refine⟨ς,G1,_,E,hς.ts (f1.ts hG),hG1,h1,λl G2 H2 hG2 f2 h2=>?_,lx.fr f1⟩;refine⟨ς,G2,_,E,(hς.ts (f1.ts hG)).ts (f2.ts hG1),hG2,h2,λu G3 H3 hG3 f3 h3=>?_,lx.fr (f1.trans f2)⟩;have lv3:=lv.fr ((f1.trans f2).trans f3);have rx3:=rx.ts ((f2.ts hG1).trans (f3.ts hG2));unfold slU at h3;split at h3
 ·obtain⟨a,vs,rfl,ea,rs⟩:=rx3;by_cases z:HT.sIx vs.length 0 l=0/\HT.sIx vs.length vs.length u=vs.length
  ·refine .inl (.inr ⟨a,vs,rfl,.of ea,z,?_⟩);refine lv3.here (w:=.tup _) ⟨a,vs,rfl,ea,?_⟩ hG3 h3;have e2:cutV vs l u=vs:=by unfold cutV;rw[z.1,z.2];simp
   have:=rs.cut l u;rw[e2]at this;exact this
  ·exact .inl (.inl ⟨a,vs,rfl,.of ea,z,λp hp=>lv3.tup hp (rs.cut l u) hG3 h3⟩)
 ·cases rx3;exact .inr (.inr ⟨_,rfl,h3.1,lv3.str hG3 h3.2⟩)
 ·cases rx3;split at h3
  ·rename_i us eu;obtain⟨vs,sq,rs⟩:=hG3.ls eu;exact .inr (.inl ⟨_,vs,rfl,sq,λp hp=>lv3.lst hp (rs.cut l u) hG3 h3⟩)
  ·exact h3.elim
 ·exact h3.elim
end
end Z

namespace L2
open PySem PySem.Spec PyProof.Rows

def jjt  (hc:X.calm=true):jaX X (.builtin "all") (λxs H Q=>∃(p:Addr) (bs:List Bool),xs=[.ref p]/\SqL X.K H p (bs.map V.bl)/\Q (.bl (bs.all id)) H):=by
 rintro pins s σ H xs us Q I r ⟨p,bs,rfl,hq,q⟩;obtain⟨u,rfl,rx⟩:=jcQ r;cases rx;obtain⟨its,fp,wr,P,S,hl,W,st,tr,kp⟩:=jg8 hc I hq true;exact call_all_walk (YcA hl ⟨_,fp,wr,_,P,S,_,rfl,W,st,tr,λh' tk hk=>⟨.bl _,H,I.kept (kp h' hk),congrArg Yey (LSm.range_all bs),q⟩⟩)
end L2
namespace Z
open PySem L2
noncomputable def bltN  : Blt->Str
 |.len => "len" |.repr => "repr" |.min => "min" |.max => "max" |.sum => "sum" |.all => "all" |.any => "any" |.sorted => "sorted" |.int => "int" |.str => "str" |.isi => "isinstance"
noncomputable def bltV  : Blt->Value
 |.len=>.builtin "len" |.repr=>.builtin "repr" |.min=>.builtin "min" |.max=>.builtin "max" |.sum=>.builtin "sum" |.all=>.builtin "all" |.any=>.builtin "any" |.sorted=>.builtin "sorted" |.int=>.type "int" |.str=>.type "str" |.isi=>.builtin "isinstance"

def RUs.one      (r:RUs K H [u] vs):∃v,vs=[v]/\RU K H u v:=by
 obtain⟨v,vr,rfl,r1,rs⟩:=r;cases rs;exact⟨v,rfl,r1⟩
def RUs.two      (r:RUs K H [u,w] vs):∃v v',vs=[v,v']/\RU K H u v/\RU K H w v':=by
 obtain⟨v,vr,rfl,r1,rs⟩:=r;obtain⟨v',rfl,r2⟩:=rs.one;exact⟨v,v',rfl,r1,r2⟩
def jlm   K:∀t∈["NoneType", "bool", "int", "str", "list", "tuple", "dict"],∀c∈["bool", "int", "str", "list", "tuple", "dict"],Yda K (.type t) (.type c)=some (t==c||(t == "bool" && c == "int")):=by
 simp only[List.forall_mem_cons,Yam,false_implies,implies_true,and_true];refine⟨?_,?_,?_,?_,?_,?_,?_⟩<;>refine⟨?_,?_,?_,?_,?_,?_⟩<;>rfl
def jkt     (h:tyN x G=some n):n∈["NoneType", "bool", "int", "str", "list", "tuple", "dict"]:=by
 unfold tyN at h;split at h<;>first|(cases h;decide)|(split at h<;>first|(cases h;decide)|cases h)|cases h
def jlr  {X: Cx}(r:RU X.K H x v)(hG:HR X.K H G)(h:isiU x G t=some b):∃tv,TyOf X.K H v tv/\Yda X.K tv (.type t)=some b:=by
 unfold isiU at h;split at h
 ·rename_i n en;split at h
  ·rename_i ht;cases h;refine⟨.type n,?_,jlm X.K n (jkt en) t ht⟩;unfold tyN at en;split at en
   ·cases en;cases r;exact .non
   ·cases en;cases r;exact .bl _
   ·cases en;cases r;exact .int _
   ·cases en;cases r;exact .str _
   ·cases en;obtain⟨a,ws,rfl,e,_⟩:=r;exact .tup e
   ·cases r;split at en
    ·rename_i g;cases en;obtain⟨ws,e,_⟩:=hG.lst g;exact .lst e
    ·rename_i g;cases en;obtain⟨ws,e,_⟩:=hG _ _ g;exact .dK e
    ·rename_i g;cases en;obtain⟨ws,e,_⟩:=hG _ _ g;exact .dT e
    ·cases en
   ·cases en
  ·cases h
 ·cases h
def BlU  (X:Cx)(b:Blt):Prop:=∃r,jaX X (bltV b) r/\∀us vs G H Q Q0,RUs X.K H us vs->HR X.K H G->bltU b us G Q->LV X H G Q Q0->r vs H Q0
def jn0   (hr:Room k X.A)(hc:X.calm=true) b:BlU X b:=by
 cases b with
 |len=>
  refine⟨_,jaX.or (jjs (X:=X)) jiy,λus vs G H Q Q0 r hG h lv=>?_⟩
  change lenU us G Q at h
  unfold lenU at h;split at h<;>first|exact h.elim|skip
  ·obtain⟨v,rfl,r1⟩:=r.one;obtain⟨a,ws,rfl,e,rs⟩:=r1;exact .inl ⟨_,_,rfl,.inr ⟨ws,.of e,rfl⟩,by rw[<- rs.length];exact lv.int hG h⟩
  ·obtain⟨v,rfl,r1⟩:=r.one;cases r1;exact .inl ⟨_,_,rfl,⟨h.1,rfl⟩,lv.int hG h.2⟩
  ·obtain⟨v,rfl,r1⟩:=r.one;cases r1;split at h
   ·rename_i g;obtain⟨ws,e,rs⟩:=hG.lst g;exact .inl ⟨_,_,rfl,.inl ⟨ws,.of e,rfl⟩,by rw[<- rs.length];exact lv.int hG h⟩
   ·rename_i g;obtain⟨ob,ws,e,rs⟩:=hG _ _ g;exact .inl ⟨_,_,rfl,.inl ⟨ws,.inl (.inr ⟨ob,e⟩),rfl⟩,by rw[<- rs.length];exact lv.int hG h⟩
   ·rename_i kvs g;obtain⟨l,e,rs⟩:=hG _ _ g;refine .inr ⟨_,l,rfl,e,?_⟩;have:∀{kvs:List (Key×U)} {l:List (Key×V)},RKs X.K H kvs l->kvs.length=l.length:=by
     intro kvs
     induction kvs with
     |nil=>intro l r;cases r;rfl
     |cons p q ih=>intro l r;obtain⟨v,l',rfl,_,rs⟩:=r;simp[ih rs]
    rw[<- this rs];exact lv.int hG h
   ·exact h.elim
 |repr=>
  refine⟨_,jg7 hr,λus vs G H Q Q0 r hG h lv=>?_⟩
  change jhA us G Q at h
  unfold jhA at h;split at h<;>first|exact h.elim|skip
  obtain⟨v,rfl,r1⟩:=r.one;obtain⟨d,h1,h2,h3⟩:=h;exact⟨v,d,rfl,h1.dv hG r1,h2,lv.str hG h3⟩
 |min=>
  refine⟨_,jiv hc,λus vs G H Q Q0 r hG h lv=>?_⟩
  change minU us G Q at h
  unfold minU at h;split at h<;>first|exact h.elim|skip
  obtain⟨v,v',rfl,r1,r2⟩:=r.two;cases r1;cases r2;exact⟨_,_,rfl,lv.int hG h⟩
 |max=>
  refine⟨_,(jiw hc).or (jix hc),λus vs G H Q Q0 r hG h lv=>?_⟩
  change maxU us G Q at h
  unfold maxU at h;split at h<;>first|exact h.elim|skip
  ·obtain⟨v,v',rfl,r1,r2⟩:=r.two;cases r1;cases r2;exact .inl ⟨_,_,rfl,lv.int hG h⟩
  ·obtain⟨v,rfl,r1⟩:=r.one;cases r1;split at h
   ·rename_i g;obtain⟨ws,e,rs⟩:=hG.lst g;unfold jjd at h;split at h
    ·rename_i ns en;have:=rs.ints en;subst this;exact .inr ⟨_,ns,rfl,.inl (.of e),h.1,λz hz hy=>lv.int hG (h.2 z hz hy)⟩
    ·exact h.elim
   ·exact h.elim
  ·obtain⟨v,rfl,r1⟩:=r.one;obtain⟨a,ws,rfl,e,rs⟩:=r1;unfold jjd at h;split at h
   ·rename_i ns en;have:=rs.ints en;subst this;exact .inr ⟨_,ns,rfl,.inr (.of e),h.1,λz hz hy=>lv.int hG (h.2 z hz hy)⟩
   ·exact h.elim
 |sum=>exact⟨λ_ _ _=>False,λ_ _ _ _ _ _ _ _ _ h=>h.elim,λ_ _ _ _ _ _ _ _ h _=>h.elim⟩
 |any=>exact⟨λ_ _ _=>False,λ_ _ _ _ _ _ _ _ _ h=>h.elim,λ_ _ _ _ _ _ _ _ h _=>h.elim⟩
 |all=>
  refine⟨_,jjt hc,λus vs G H Q Q0 r hG h lv=>?_⟩
  change allU us G Q at h
  unfold allU at h;split at h<;>first|exact h.elim|skip
  obtain⟨v,rfl,r1⟩:=r.one;cases r1;split at h
  ·rename_i g;obtain⟨ws,e,rs⟩:=hG.lst g;split at h
   ·rename_i ns en;have:=rs.bools en;subst this;exact⟨_,ns,rfl,.of e,lv.bl hG h⟩
   ·exact h.elim
  ·exact h.elim
 |sorted=>exact⟨λ_ _ _=>False,λ_ _ _ _ _ _ _ _ _ h=>h.elim,λ_ _ _ _ _ _ _ _ h _=>h.elim⟩
 |int=>
  refine⟨_,jiC.or jes,λus vs G H Q Q0 r hG h lv=>?_⟩
  change intU us G Q at h
  unfold intU at h;split at h<;>first|exact h.elim|skip
  ·obtain⟨v,rfl,r1⟩:=r.one;cases r1;exact .inl (.inl ⟨_,rfl,lv.int hG h⟩)
  ·obtain⟨v,rfl,r1⟩:=r.one;cases r1;exact .inl (.inr ⟨_,rfl,lv.int hG h⟩)
  ·obtain⟨v,rfl,r1⟩:=r.one;cases r1;obtain⟨n,h1,h2,h⟩:=h;exact .inr ⟨_,n,rfl,h1,h2,lv.int hG h⟩
 |str=>exact⟨λ_ _ _=>False,λ_ _ _ _ _ _ _ _ _ h=>h.elim,λ_ _ _ _ _ _ _ _ h _=>h.elim⟩
 |isi=>
  refine⟨_,jfM,λus vs G H Q Q0 r hG h lv=>?_⟩
  change jg0 us G Q at h
  unfold jg0 at h;split at h<;>first|exact h.elim|skip
  rename_i t;obtain⟨v,v',rfl,r1,r2⟩:=r.two;cases r2;split at h
  ·rename_i b eb;obtain⟨tv,h1,h2⟩:=jlr r1 hG eb;exact⟨v,t,tv,b,rfl,h1,h2,lv.bl hG h⟩
  ·exact h.elim
def jju   b:YbN (bltN b)=some (bltV b):=by
 cases b with
 |len=>exact PySem.boot_len
 |repr=>exact(by with_unfolding_all rfl)
 |min=>exact PyProof.Rows.boot_min
 |max=>exact PyProof.Rows.boot_max
 |sum=>exact PyProof.Rows.boot_sum
 |any=>exact PyProof.Rows.boot_any
 |all=>exact PyProof.Rows.boot_all
 |sorted=>exact PyProof.Rows.boot_sorted
 |int=>exact PyProof.Rows.boot_int
 |str=>exact PyProof.Rows.boot_str
 |isi=>exact Ydq
def jn1   b:bltN b ≠ "__name__" /\ (bltN b==("__debug__" : Str))=false:=by cases b<;>decide
def joS       (hb:BlU X b)(hg:Gl X (bltN b))(hm:X.mg (bltN b)=none)(ha:PA X (e::es) (lA X ts))
  (he:YaA (e::es) X.env=(false,eval e X.env)::YaA es X.env) (hpl:(backTo pos (YaA es X.env)).any (·.1)=false) :
  PE X (.Call (.Name (bltN b) p) (e::es) [] pos) (lE X λς G Q E=>ts ς G (λus G1=>bltU b us G1 Q) E):=by
 obtain⟨r,h1,h2⟩:=hb;have fin:∀σ H Q0,lE X (λς G Q E=>ts ς G (λus G1=>bltU b us G1 Q) E) σ H Q0->tCB r (lA X ts) σ H Q0:=λσ H Q0 h=>lE.many h λus vs G H' Q rs hG q lv=>h2 us vs G H' Q Q0 rs hG q lv;have hv:=jju b;obtain⟨n1,n2⟩:=jn1 b;cases b
 all_goals first
  |exact(jcL h1 hg hm hv ha n1 n2 he hpl).imp fin
  |exact(jc0 h1 hg hm hv ha n1 n2 he hpl).imp fin
noncomputable def mthN  : Mth->Str
 |.append => "append" |.extend => "extend" |.insert => "insert" |.pop => "pop" |.reverse => "reverse" |.index => "index" |.join => "join" |.get => "get" |.split => "split" |.setd => "setdefault"
section
variable {X:Cx}
def RUs.mk        (r:RU K H u v)(rs:RUs K H us vs):RUs K H (u::us) (v::vs):=⟨v,vs,rfl,r,rs⟩
structure MtK (X:Cx)(m:Mth)(T id:String):Prop where
 pa:PlainAttrs T
 sl:Slot T (mthN m) id
 ty:typeOf (.builtin id)=pure (.type "method_descriptor")
def MtU  (X:Cx)(m:Mth):Prop:=∀x G1 T id,mtU m x G1=some (T,id)->MtK X m T id/\(∀v H1,RU X.K H1 x v->HR X.K H1 G1->tyV X.K T v H1)/\
 ∃r,MtR X id r/\∀us v vs G H Q Q0,RU X.K H x v->RUs X.K H us vs->HR X.K H G->ja6 m x us G Q->LV X H G Q Q0->r v vs H Q0
def jhf     (g:G a=some (.lst us)):∀v H1,RU X.K H1 (.loc a) v->HR X.K H1 G->tyV X.K "list" v H1:=λv H1 r hG=>by
 cases r;obtain⟨vs,e,_⟩:=hG.lst g;exact .inl ⟨rfl,vs,.of e⟩
def jhT  : MtU X .append:=by
 intro x G1 T id h;dsimp only[mtU]at h;split at h<;>first|contradiction|skip
 split at h
 ·rename_i g;cases h;refine⟨⟨YcQ,PySem.F.slot_list_append,PySem.F.type_list_append⟩,jhf g,_,jeP,λus v vs G H Q Q0 rx rs hG h lv=>?_⟩;cases rx;dsimp only[ja6]at h;unfold jfQ at h;split at h<;>first|exact h.elim|skip
  rename_i e2;cases e2;split at h
  ·rename_i g2;obtain⟨ws,e,r⟩:=hG.lst g2;obtain⟨y,rfl,ry⟩:=rs.one;refine⟨_,ws,y,rfl,rfl,e,by rw[<- r.length];exact h.1,?_⟩
   exact lv.wl g2 (r.append (RUs.mk (us:=[]) (vs:=[]) ry rfl)) hG (w:=.non) rfl h.2
  ·exact h.elim
 ·cases h
def jhS  : MtU X .extend:=by
 intro x G1 T id h;dsimp only[mtU]at h;split at h<;>first|contradiction|skip
 split at h
 ·rename_i g;cases h;refine⟨⟨YcQ,PySem.F.slot_list_extend,PySem.F.type_list_extend⟩,jhf g,_,jhU,λus v vs G H Q Q0 rx rs hG h lv=>?_⟩;cases rx;dsimp only[ja6]at h;unfold jfF at h;split at h<;>first|exact h.elim|skip
  rename_i e2;cases e2;split at h
  ·rename_i g2 g3;obtain⟨ws,e,r⟩:=hG.lst g2;obtain⟨zs,e',r'⟩:=hG.lst g3;obtain⟨y,rfl,ry⟩:=rs.one;cases ry;refine⟨_,_,ws,zs,rfl,rfl,e,e',by rw[<- r.length,<- r'.length];exact h.1,?_⟩
   exact lv.wl g2 (r.append r') hG (w:=.non) rfl h.2
  ·exact h.elim
 ·cases h
def jnd  : MtU X .pop:=by
 intro x G1 T id h;dsimp only[mtU]at h;split at h<;>first|contradiction|skip
 split at h
 ·rename_i g;cases h;refine⟨⟨YcQ,PySem.F.slot_list_pop,PySem.F.type_list_pop⟩,jhf g,_,MtR.or (mt_pop (X:=X)) jjc,λus v vs G H Q Q0 rx rs hG h lv=>?_⟩;cases rx;dsimp only[ja6]at h;unfold popU at h;split at h<;>first|exact h.elim|skip
  ·rename_i e2;cases e2;split at h
   ·rename_i g2;obtain⟨ws,e,r⟩:=hG.lst g2;cases rs;split at h
    ·rename_i u eu;obtain⟨y,ey,ry⟩:=r.get eu;rw[r.length]at ey;exact .inl ⟨_,ws,y,rfl,rfl,e,ey,lv.wl g2 r.dropLast hG ry h⟩
    ·exact h.elim
   ·exact h.elim
  ·rename_i e2;cases e2;split at h
   ·rename_i g2;obtain⟨ws,e,r⟩:=hG.lst g2;obtain⟨y,rfl,ry⟩:=rs.one;cases ry;obtain⟨h1,h2,h⟩:=h;split at h
    ·rename_i k ek;split at h
     ·rename_i u eu;obtain⟨y,ey,ry⟩:=r.get eu;exact .inr ⟨_,ws,_,k,y,rfl,rfl,e,h1,h2,by rw[<- r.length];exact ek,ey,lv.wl g2 (r.erase k) hG ry h⟩
     ·exact h.elim
    ·exact h.elim
   ·exact h.elim
 ·cases h
def jlh  : MtU X .join:=by
 intro x G1 T id h;dsimp only[mtU]at h;split at h<;>first|contradiction|skip
 cases h;refine⟨⟨PySem.F.plainAttrs_str,PySem.F.slot_str_join,PySem.F.type_str_join⟩,λv H1 r hG=>by cases r;rfl,_,mt_join,λus v vs G H Q Q0 rx rs hG h lv=>?_⟩
 cases rx;dsimp only[ja6]at h;unfold jlo at h;split at h<;>first|exact h.elim|skip
 ·rename_i e2;cases e2;obtain⟨y,rfl,ry⟩:=rs.one;obtain⟨a,ws,rfl,e,r⟩:=ry;split at h
  ·rename_i ys ey;have:=r.strs ey;subst this;exact⟨_,a,ys,rfl,rfl,.inr (.of e),h.1,h.2.1,lv.str hG h.2.2⟩
  ·exact h.elim
 ·rename_i e2;cases e2;obtain⟨y,rfl,ry⟩:=rs.one;cases ry;split at h
  ·rename_i g2;obtain⟨ws,e,r⟩:=hG.lst g2;split at h
   ·rename_i ys ey;have:=r.strs ey;subst this;exact⟨_,_,ys,rfl,rfl,.inl (.of e),h.1,h.2.1,lv.str hG h.2.2⟩
   ·exact h.elim
  ·exact h.elim
def RKs.put   [DecidableEq κ](r:RU K H u v):∀{kvs } {l:List (κ×V)},RKs K H kvs l->RKs K H (dPut kvs k u) (putK l k v):=by
 intro kvs l h;have any:∀{kvs:List (κ×U)} {l:List (κ×V)},RKs K H kvs l->(kvs.any λkv=>decide (kv.1=k))=l.any λkv=>decide (kv.1=k):=by
  intro kvs
  induction kvs with
  |nil=>intro l h;cases h;rfl
  |cons p q ih=>intro l h;obtain⟨w,l',rfl,_,rs⟩:=h;simp only[Ybz];rw[ih rs]
 have repl:∀{kvs:List (κ×U)} {l:List (κ×V)},RKs K H kvs l->RKs K H (kvs.map λkv=>if kv.1=k then (kv.1,u) else kv) (l.map λkv=>if kv.1=k then (kv.1,v) else kv):=by
  intro kvs
  induction kvs with
  |nil=>intro l h;cases h;rfl
  |cons p q ih=>
   intro l h;obtain⟨k',u'⟩:=p;obtain⟨w,l',rfl,rw',rs⟩:=h;simp only[YaM];by_cases e:k'=k
   ·rw[if_pos e,if_pos e];exact⟨v,_,rfl,r,ih rs⟩
   ·rw[if_neg e,if_neg e];exact⟨w,_,rfl,rw',ih rs⟩
 have snoc:∀{kvs:List (κ×U)} {l:List (κ×V)},RKs K H kvs l->RKs K H (kvs++[(k,u)]) (l++[(k,v)]):=by
  intro kvs
  induction kvs with
  |nil=>intro l h;cases h;exact⟨v,[],rfl,r,rfl⟩
  |cons p q ih=>intro l h;obtain⟨k',u'⟩:=p;obtain⟨w,l',rfl,rw',rs⟩:=h;exact⟨w,_,rfl,rw',ih rs⟩
 unfold dPut putK;rw[any h];split
 ·exact repl h
 ·exact snoc h
theorem RKs.length     : ∀{kvs:List (κ×U)} {l },RKs K H kvs l->kvs.length=l.length
 |[],_,h=>by cases h;rfl
 |(_,_)::_,_,h=>by obtain⟨v,l',rfl,_,rs⟩:=h;simp[rs.length]
def jjZ   m:MtU X m:=by
 cases m with
 |append=>exact jhT
 |extend=>exact jhS
 |insert=>intro x G1 T id h;cases h
 |pop=>exact jnd
 |reverse=>intro x G1 T id h;cases h
 |index=>intro x G1 T id h;cases h
 |join=>exact jlh
 |split=>intro x G1 T id h;cases h
 |setd=>intro x G1 T id h;cases h
 |get=>intro x G1 T id h;unfold mtU at h;split at h<;>contradiction
variable {m:Mth}{o e:Expr}{es:List Expr}{to:UE}{ts:UA}{apos cpos:Pos}
def jlV (hm:MtU X m)(ho:PE X o (lE X to))(ha:PA X (e::es) (lA X ts))(hbase:Yck o (mthN m) X.env (eval o X.env)=eval o X.env)
  (hfew:((backTo cpos (YaA (e::es) X.env)).all (λx=>!x.1)&&(backToKw cpos (Ye0 [] X.env)).all (λx=>x.1.isSome)
   && decide ((e::es).length+([]:List Keyword).length+(if ([]:List Keyword).isEmpty then 0 else 1)<30))=true)
  (hline:(apos.endLine==cpos.line)=true) (hs:YaA (e::es) X.env=(false,eval e X.env)::YaA es X.env) (hplain:(backTo cpos (YaA es X.env)).any (·.1)=false) :
  PE X (.Call (.Attribute o (mthN m) apos) (e::es) [] cpos) (lE X λς G Q E=>to ς G (λx G1=>match mtU m x G1 with|some _=>ts ς G1 (λus G2=>ja6 m x us G2 Q) E|none=>False) E):=by
 intro pins s σ H Q0 I h;obtain⟨ς,G,Q,E,hς,hG,h,lv,lx⟩:=h;refine PySem.wpAny_Call_method_late hbase hfew hline rfl (thn (ho pins s σ H (λv H1=>∃x G1 T id,RU X.K H1 x v/\HR X.K H1 G1/\Fr H G H1 G1/\mtU m x G1=some (T,id)/\ts ς G1 (λus G2=>ja6 m x us G2 Q) E) I
  ⟨ς,G,_,E,hς,hG,h,λx v G1 H1 rx hG1 f1 h1=>?_,lx⟩) λv s1 ⟨xv,H1,I1,r1,x,G1,T,id,rx,hG1,f1,em,h1⟩=>?_)
 ·dsimp only at h1;split at h1
  ·rename_i p ep;exact⟨x,G1,p.1,p.2,rx,hG1,f1,ep,h1⟩
  ·exact h1.elim
 ·obtain⟨k,hty,r,hr1,hr2⟩:=hm x G1 T id em;obtain⟨t1,t2⟩:=jjz I1 r1 (hty xv H1 rx hG1);refine⟨T,id,k.pa,k.sl,k.ty,t1,t2,?_⟩;have hA:=ha cpos pins s1 σ H1 (λvs H2=>∃us G2,RUs X.K H2 us vs/\HR X.K H2 G2/\Fr H1 G1 H2 G2/\ja6 m x us G2 Q) I1 ⟨ς,G1,_,E,hς.ts (f1.ts hG),hG1,h1,λus vs G2 H2 rs hG2 f2 h2=>⟨us,G2,rs,hG2,f2,h2⟩,lx.fr f1⟩;rw[hs]at hA ⊢;refine YeU (by show(false||(backTo cpos (YaA es X.env)).any (·.1))=false;rw[hplain]<;>rfl) (Calls.evalArgs_plain ?_)
  exact thn hA λus s2 ⟨vs,H2,I2,r2,ws,G2,rs,hG2,f2,h2⟩=>hr1 pins s2 σ H2 xv vs v us Q0 I2 r1 r2 (hr2 ws xv vs G2 H2 Q Q0 (rx.ts (f2.ts hG1)) rs hG2 h2 (lv.fr (f1.trans f2)))
def jkq (hm:MtU X m)(ho:PE X o (lE X to))(hbase:Yck o (mthN m) X.env (eval o X.env)=eval o X.env)(hline:(apos.endLine==cpos.line)=true) :
  PE X (.Call (.Attribute o (mthN m) apos) [] [] cpos) (lE X λς G Q E=>to ς G (λx G1=>match mtU m x G1 with|some _=>ja6 m x [] G1 Q|none=>False) E):=by
 intro pins s σ H Q0 I h;obtain⟨ς,G,Q,E,hς,hG,h,lv,lx⟩:=h;refine PySem.wpAny_Call_method0_late hbase hline (thn (ho pins s σ H (λv H1=>∃x G1 T id,RU X.K H1 x v/\HR X.K H1 G1/\Fr H G H1 G1/\mtU m x G1=some (T,id)/\ja6 m x [] G1 Q) I
  ⟨ς,G,_,E,hς,hG,h,λx v G1 H1 rx hG1 f1 h1=>?_,lx⟩) λv s1 ⟨xv,H1,I1,r1,x,G1,T,id,rx,hG1,f1,em,h1⟩=>?_)
 ·dsimp only at h1;split at h1
  ·rename_i p ep;exact⟨x,G1,p.1,p.2,rx,hG1,f1,ep,h1⟩
  ·exact h1.elim
 ·obtain⟨k,hty,r,hr1,hr2⟩:=hm x G1 T id em;obtain⟨t1,t2⟩:=jjz I1 r1 (hty xv H1 rx hG1);exact⟨T,id,k.pa,k.sl,k.ty,t1,t2,YeU rfl (PySem.evalArgs_none (hr1 pins s1 σ H1 xv [] v [] Q0 I1 r1 .nil (hr2 [] xv [] G1 H1 Q Q0 rx rfl hG1 h1 (lv.fr f1))))⟩
end
end Z

namespace L2
open PySem PySem.Spec PyProof.Rows

def iSeq  (K:Yac)(tl:TE):TI:=λσ H R=>tl σ H λx H1=>∃a,x=.ref a/\(((∃xs,SqL K H1 a xs)/\R (Itl K a) H1)\/((∃xs,SqT K H1 a xs)/\R (Itt K a) H1))
def jmI    (hl:PE X l tl):PI X tg l (iSeq X.K tl):=by
 intro pins s σ H R I h;refine thn (hl pins s σ H _ I h) λv s1 ⟨x,H1,I1,r1,q1⟩=>?_;obtain⟨a,e,⟨⟨xs,hq⟩,q⟩|⟨⟨xs,hq⟩,q⟩⟩:=q1
 ·subst e;cases r1;obtain⟨its,rv,p,hz⟩:=I1.list hq;refine YcA p.isList ?_;refine⟨s1.heap.objs.size,[s1.heap.objs.size],_,_,H1,rfl,I1.kept (t':=s1.toks) λb o e=>Yaf _ e,jhi a _,⟨_,Yax _ rfl,rfl,rfl⟩,λb hb=>?_,q⟩;have e:b=s1.heap.objs.size:=by simpa using hb
  subst e;exact I1.fpOk (Yah _) (I1.hok.fresh (Yah _))
 ·subst e;cases r1;obtain⟨its,rv,p,hz⟩:=I1.tuple hq;refine Yeb (show s1.heap.IsTuple a its.toArray from p) ?_;refine⟨s1.heap.objs.size,[s1.heap.objs.size],_,_,H1,rfl,I1.kept (t':=s1.toks) λb o e=>Yaf _ e,jgI a _,⟨_,Yax _ rfl,rfl,rfl⟩,λb hb=>?_,q⟩;have e:b=s1.heap.objs.size:=by simpa using hb
  subst e;exact I1.fpOk (Yah _) (I1.hok.fresh (Yah _))
def PI.imp    (h:PI X tg iter t)(i:∀σ H R,t' σ H R->t σ H R):PI X tg iter t':=λpins s σ H R I q=>h pins s σ H R I (i σ H R q)
def PG.imp    (h:PG X target t)(i:∀v σ H Q,t' v σ H Q->t v σ H Q):PG X target t':=λpins s σ H v u Q I r q=>h pins s σ H v u Q I r (i v σ H Q q)
def PGs.imp    (h:PGs X ts t)(i:∀v σ H Q,t' v σ H Q->t v σ H Q):PGs X ts t':=λpins s σ H v u Q I r q=>h pins s σ H v u Q I r (i v σ H Q q)
def PIfs.imp    (h:PIfs X ifs t)(i:∀σ H Q,t' σ H Q->t σ H Q):PIfs X ifs t':=λpins s σ H Q I q=>h pins s σ H Q I (i σ H Q q)
end L2
namespace Z
open PySem L2
abbrev UI:=Sg->Gp->(List U->(Gp->Prop)->Gp->Prop)->KX->Prop
def jfR  (K:Yac)(J:L2.It)(H:Hp)(G:Gp)(xs:List U)(ok:Gp->Prop):Prop:=∀i H' G',TS H H'->HR K H' G'->ok G'->
 (∀u,xs[i]?=some u->J.go i H'/\∀v H'',J.yld i H' v H''->RU K H'' u v/\HR K H'' G'/\Fr H' G' H'' G')/\(i=xs.length->J.stop i H')
def jfR.mono    {H H2:Hp}(h:jfR K J H G xs ok)(t:TS H H2):jfR K J H2 G2 xs ok:=λi H' G' t'=>h i H' G' (t.trans t')
section
variable (X:Cx)
def lI (t:UI):TI:=λσ H R=>∃ς G Q E,SR X.K H ς σ/\HR X.K H G/\t ς G Q E/\(∀xs ok G' H' J,HR X.K H' G'->Fr H G H' G'->jfR X.K J H' G' xs ok->Q xs ok G'->R J H')/\LX X σ H G E
def lG (K:Yac)(t:U->Sg->(Sg->Prop)->Prop):TG:=λv σ H Q0=>∃u ς k,RU K H u v/\SR K H ς σ/\t u ς k/\∀ς' σ',SR K H ς' σ'->k ς'->Q0 σ' H
def lGs  (K:Yac)(t:List U->Sg->(Sg->Prop)->Prop):TGs:=λvs σ H Q0=>∃us ς k,RUs K H us vs/\SR K H ς σ/\t us ς k/\∀ς' σ',SR K H ς' σ'->k ς'->Q0 σ' H
end
section
variable {X:Cx}{tg:Expr}{pos:Pos}{te ta tb:UE}
def u_ie   (hl:PE X l (lE X te)):PI X tg l (lI X λς G Q E=>te ς G (λx G1=>itU x G1 λxs ok=>Q xs ok G1) E):=by
 refine(jmI hl).imp λσ H R h=>?_;obtain⟨ς,G,Q,E,hς,hG,h,lv,lx⟩:=h;refine⟨ς,G,_,E,hς,hG,h,λx v G1 H1 rx hG1 f1 h1=>?_,lx⟩;dsimp only at h1;unfold itU at h1;split at h1
 ·obtain⟨a,vs,rfl,ea,rs⟩:=rx;refine⟨a,rfl,.inr ⟨⟨vs,.of ea⟩,lv _ _ _ H1 _ hG1 f1 (λi H' G' f hr _=>?_) h1⟩⟩;have e':H' a=some (.tup vs):=f a _ ea;refine⟨λu eu=>?_,λe=>⟨vs,.of e',by rw[e,rs.length];exact Yah _⟩⟩
  obtain⟨w,ew,rw'⟩:=rs.get eu;refine⟨⟨vs,w,.of e',ew⟩,λv H'' y=>?_⟩;obtain⟨rfl,y⟩:=y;have:=y vs (.of e');rw[ew]at this;cases this;exact⟨rw'.ts f,hr,Fr.refl _ _⟩
 ·cases rx;rename_i a;split at h1
  ·rename_i us eu;obtain⟨vs,sq,rs⟩:=hG1.ls eu;refine⟨_,rfl,.inl ⟨⟨vs,sq⟩,lv _ _ _ H1 _ hG1 f1 (λi H' G' f hr ok=>?_) h1⟩⟩;obtain⟨vs',sq',rs'⟩:=hr.ls ok;refine⟨λu eu=>?_,λe=>⟨vs',sq',by rw[e,rs'.length];exact Yah _⟩⟩
   obtain⟨w,ew,rw'⟩:=rs'.get eu;refine⟨⟨vs',w,sq',ew⟩,λv H'' y=>?_⟩;obtain⟨rfl,y⟩:=y;have:=y vs' sq';rw[ew]at this;cases this;exact⟨rw',hr,Fr.refl _ _⟩
  ·exact h1.elim
 ·exact h1.elim
def jiQ      lo n:jfR K (Itr lo n) H G (rngU lo n) λ_=>True:=by
 intro i H' G' f hr _;have hl:(rngU lo n).length=n:=by simp[rngU]
 refine⟨λu eu=>?_,λe=>by rw[hl]at e;exact Yd9 e.symm⟩
 have hi:i<n:=by have:=(List.getElem?_eq_some_iff.mp eu).1;lia
 refine⟨hi,λv H'' y=>?_⟩;obtain⟨rfl,rfl⟩:=y;have:(rngU lo n)[i]?=some (.int (lo+i)):=by simp[rngU,Yav,Ydy hi]
 rw[this]at eu;cases eu;exact⟨rfl,hr,Fr.refl _ _⟩
def u_r1 {a:Expr}{p:Pos}(hg:Gl X "range")(hm:X.mg "range" = none)(ha:PE X a (lE X ta))(hs:YaA [a] X.env=[(false,eval a X.env)]):PI X tg (.Call (.Name "range" p) [a] [] pos) (lI X λς G Q E=>ta ς G (λx G1=>match x with
   |.int j=>-(2 ^ 62)<=j/\j<2 ^ 62/\Q (rngU 0 j.toNat) (λ_=>True) G1
   |_=>False) E):=by
 refine(jhD hg hm (jdA ha jgH hs) hs).imp λσ H R h=>?_;obtain⟨ς,G,Q,E,hς,hG,h,lv,lx⟩:=h;refine⟨ς,G,λus G1=>match us with|[x]=>(match x with|.int j=>-(2 ^ 62)<=j/\j<2 ^ 62/\Q (rngU 0 j.toNat) (λ_=>True) G1|_=>False)|_=>False,E,hς,hG,h,λus vs G1 H1 rs hG1 f1 h1=>?_,lx⟩
 dsimp only at h1;split at h1
 ·obtain⟨v,rfl,r⟩:=rs.one;split at h1
  ·cases r;exact⟨_,rfl,h1.1,h1.2.1,lv _ _ G1 H1 _ hG1 f1 (jiQ 0 _) h1.2.2⟩
  ·exact h1.elim
 ·exact h1.elim
theorem jbg  : ∀{n i } {xs } {u:U},(jcp n xs)[i]?=some u->∃x,xs[i]?=some x/\u=.tup [.int ((n+i:Nat):Int),x]
 |_,_,[],_,h=>by simp[jcp]at h
 |n,0,x::xs,_,h=>by
  simp[jcp]at h;exact⟨x,rfl,h.symm⟩
 |n,i+1,_::xs,_,h=>by
  obtain⟨x,e1,e2⟩:=jbg (n:=n+1) (i:=i) (xs:=xs) (by simpa[jcp]using h)
  exact⟨x,by simpa using e1,by rw[e2];congr 3;lia⟩
theorem ja0  : ∀n (xs:List U),(jcp n xs).length=xs.length
 |_,[]=>rfl
 |n,_::xs=>by simp[jcp,ja0 (n+1) xs]
def jlW      (hg:Gl X "enumerate")(hm:X.mg "enumerate" = none)(ha:PE X l (lE X ta))(hs:YaA [l] X.env=[(false,eval l X.env)]) :
  PI X (.Tuple elts x1 tpos) (.Call (.Name "enumerate" p) [l] [] pos) (lI X λς G Q E=>ta ς G (λx G1=>enI x G1 λxs ok=>Q xs ok G1) E):=by
 refine(ji0 hg hm (jdA ha jgH hs) hs).imp λσ H R h=>?_;obtain⟨ς,G,Q,E,hς,hG,h,lv,lx⟩:=h;refine⟨ς,G,λus G1=>match us with|[x]=>enI x G1 λxs ok=>Q xs ok G1|_=>False,E,hς,hG,h,λus vs G1 H1 rs hG1 f1 h1=>?_,lx⟩
 dsimp only at h1;split at h1
 ·obtain⟨v,rfl,r⟩:=rs.one;unfold enI at h1;split at h1
  ·obtain⟨a,ws,rfl,ea,rr⟩:=r;refine⟨a,rfl,.inl ⟨⟨ws,ea⟩,lv _ _ _ H1 _ hG1 f1 (λi H' G' f hr _=>?_) h1⟩⟩;have e':H' a=some (.tup ws):=f a _ ea;refine⟨λu eu=>?_,λe=>⟨ws,e',by rw[e,ja0,rr.length]⟩⟩
   obtain⟨x,ex,rfl⟩:=jbg eu;obtain⟨w,ew,rw'⟩:=rr.get ex;refine⟨⟨ws,w,e',ew⟩,λv H'' y=>?_⟩;obtain⟨ys,z,q,hq,hz,rfl,hn,rfl⟩:=y;rw[e']at hq;cases hq;rw[ew]at hz;cases hz;refine⟨⟨q,_,rfl,jai,⟨_,_,rfl,by rw[YbI];rfl,⟨_,_,rfl,(rw'.ts f).ts (TS.new hn),rfl⟩⟩⟩,hr.newT hn,Fr.new hn⟩
  ·cases r;split at h1
   ·rename_i us eu;obtain⟨vs,sq,rs⟩:=hG1.ls eu;refine⟨_,rfl,.inr ⟨⟨vs,sq⟩,lv _ _ _ H1 _ hG1 f1 (λi H' G' f hr ok=>?_) h1⟩⟩;obtain⟨vs',sq',rr⟩:=hr.ls ok;refine⟨λu eu=>?_,λe=>⟨vs',sq',by rw[e,ja0,rr.length]⟩⟩
    obtain⟨x,ex,rfl⟩:=jbg eu;obtain⟨w,ew,rw'⟩:=rr.get ex;refine⟨⟨vs',w,sq',ew⟩,λv H'' y=>?_⟩;obtain⟨z,q,hz,rfl,hn,rfl⟩:=y;have hz:=hz vs' sq';rw[ew]at hz;cases hz;refine⟨⟨q,_,rfl,jai,⟨_,_,rfl,by rw[YbI];rfl,⟨_,_,rfl,rw'.ts (TS.new hn),rfl⟩⟩⟩,hr.newT hn,Fr.new hn⟩
   ·exact h1.elim
  ·exact h1.elim
 ·exact h1.elim
def u_is   (hl:PE X l (lE X te)):PI X tg l (lI X λς G Q E=>te ς G (λx G1=>sgU x λxs=>Q xs (λ_=>True) G1) E):=by
 refine(jmH hl).imp λσ H R h=>?_;obtain⟨ς,G,Q,E,hς,hG,h,lv,lx⟩:=h;refine⟨ς,G,_,E,hς,hG,h,λx v G1 H1 rx hG1 f1 h1=>?_,lx⟩;cases x with
 |str z=>
  cases rx;obtain⟨ha,h1⟩:=h1;refine⟨z,rfl,ha,lv _ _ _ H1 _ hG1 f1 (λi H' G' f hr _=>⟨λu eu=>?_,λe=>?_⟩) h1⟩
  ·rw[Yav]at eu;cases ec:z.cps.toList[i]? with
   |none=>rw[ec]at eu;cases eu
   |some c=>
    rw[ec]at eu;cases eu;have ec':z.cps[i]?=some c:=by simpa using ec
    refine⟨(Array.getElem?_eq_some_iff.mp ec').1,λv H'' y=>?_⟩;obtain⟨rfl,d,ed,rfl⟩:=y;rw[ec']at ed;cases ed;exact⟨rfl,hr,Fr.refl _ _⟩
  ·rw[e];simp[Its]
 |_=>exact h1.elim
def SR.set        (h:SR K H ς σ)(r:RU K H u v) i:SR K H (ς.set i (some u)) (σ.set i (some v)):=by
 refine⟨by simp[h.1],λj w e=>?_⟩
 by_cases hj:j=i
 ·subst hj;by_cases hl:j<ς.length
  ·rw[Ybi hl]at e;cases e;exact⟨v,Ybi (by rw[<- h.1];exact hl),r⟩
  ·rw[Yb1 (by simp;lia)]at e
   cases e
 ·rw[YaS (Ne.symm hj)]at e ⊢;exact h.2 j w e
def u_tn    (hN:X.N.Nodup)(hi:X.N[i]?=some x)(hx:Loc X.env.scope x)(hf:X.fn x=true\/X.env.scope.names.lookup x=some .local):PG X (.Name x pos) (lG X.K (tgU (.n i))):=by
 refine(jfm hN hi hx hf).imp λv σ H Q h=>?_;obtain⟨u,ς,k,r,hς,h,q⟩:=h;exact q _ _ (hς.set r i) h
def u_tt {es:List Expr}{k n:Nat}{ts:Tgs}(hc:X.calm=true)(h:PGs X es (lGs X.K (tgsU ts)))(hn:(Ya4 es X.env).length=n)(hst:(Ya4 es X.env).findIdx? (·.1)=none)(hl:∀us ς k,tgsU ts us ς k->us.length=n) :
  PG X (.Tuple es k pos) (lG X.K (tgU (.t ts))):=by
 refine(jmJ hc h hn hst).imp λv σ H Q h=>?_;obtain⟨u,ς,k,r,hς,h,q⟩:=h;cases u with
 |tup us=>
  obtain⟨a,vs,rfl,e,rs⟩:=r;have h':tgsU ts us ς k:=h;exact⟨a,vs,rfl,.of e,by rw[<- rs.length];exact hl _ _ _ h',us,ς,k,rs,hς,h',q⟩
 |_=>exact h.elim
def joG  : PGs X [] (lGs X.K (tgsU .nil)):=by
 refine jkY.imp λvs σ H Q h=>?_;obtain⟨us,ς,k,r,hς,h,q⟩:=h;obtain⟨rfl,h⟩:=h;cases r;exact⟨rfl,q _ _ hς h⟩
def joH {e:Expr}{es:List Expr}{t:Tg}{ts:Tgs}(h1:PG X e (lG X.K (tgU t)))(h2:PGs X es (lGs X.K (tgsU ts)))(hs:(Ya4 (e::es) X.env).map (·.2)=assign e X.env::(Ya4 es X.env).map (·.2)) :
  PGs X (e::es) (lGs X.K (tgsU (.cons t ts))):=by
 refine(ji1 h1 h2 hs).imp λvs σ H Q h=>?_;obtain⟨us,ς,k,r,hς,h,q⟩:=h;cases us with
 |nil=>exact h.elim
 |cons u us=>
  obtain⟨v,vr,rfl,r1,rs⟩:=r;exact⟨v,vr,rfl,u,ς,_,r1,hς,h,λς' σ' hs' h'=>⟨us,ς',k,rs,hs',h',q⟩⟩
end
def lE0  (K:Yac)(t:UE):TE:=λτ H Q0=>∃ς G Q,SR K H ς τ/\HR K H G/\t ς G Q (λ_ _=>False)/\∀w v G' H',RU K H' w v->HR K H' G'->Fr H G H' G'->Q w G'->Q0 v H'
def lT0  (K:Yac)(t:Sg->Gp->(Bool->Gp->Prop)->Prop):TT:=λτ H Q0=>∃ς G Q,SR K H ς τ/\HR K H G/\t ς G Q/\∀b G' H',HR K H' G'->Fr H G H' G'->Q b G'->Q0 b H'
def LX.no      : LX X σ H G λ_ _=>False:=λ_ _ _ _ _ _ _ _ _ _ h=>h.elim
def lE0.of     (h:PE X e (lE X t)):PE X e (lE0 X.K t):=h.imp λσ H Q0 ⟨ς,G,Q,h1,h2,h3,h4⟩=>⟨ς,G,Q,_,h1,h2,h3,h4,LX.no⟩
def lT0.of     (h:PT X e (lT X t)):PT X e (lT0 X.K λς G Q=>t ς G Q λ_ _=>False):=h.imp λσ H Q0 ⟨ς,G,Q,h1,h2,h3,h4⟩=>⟨ς,G,Q,_,h1,h2,h3,h4,LX.no⟩
mutual
noncomputable def tgS:Tg->List Nat
 |.n i=>[i]
 |.t ts=>tgsS ts
noncomputable def tgsS:Tgs->List Nat
 |.nil=>[]
 |.cons t ts=>tgS t++tgsS ts
end
def Ext  (ς0 ς:Sg):Prop:=ς0.length=ς.length/\∀(j:Nat) (w:U),ς0[j]?=some (some w)->ς[j]?=some (some w)
mutual
theorem jhn {ς0:Sg}:∀{t:Tg} {u:U} {ς:Sg} {k:Sg->Prop},(∀i∈tgS t,∀w,ς0[i]?≠some (some w))->Ext ς0 ς->tgU t u ς k->tgU t u ς λς'=>k ς'/\Ext ς0 ς'
 |.n i,u,ς,k,hf,he,h=>by
  refine⟨h,by simp[he.1],λj w e=>?_⟩
  have hj:j≠i:=λz=>hf i (by simp[tgS]) w (z ▸ e)
  rw[YaS (Ne.symm hj)]
  exact he.2 j w e
 |.t ts,u,ς,k,hf,he,h=>by
  cases u with
  |tup us=>exact jhl (ts:=ts) (us:=us) (λi hi=>hf i hi) he h
  |_=>exact h
theorem jhl {ς0:Sg}:∀{ts:Tgs} {us:List U} {ς:Sg} {k:Sg->Prop},(∀i∈tgsS ts,∀w,ς0[i]?≠some (some w))->Ext ς0 ς->tgsU ts us ς k->tgsU ts us ς λς'=>k ς'/\Ext ς0 ς'
 |.nil,us,ς,k,_,he,h=>⟨h.1,h.2,he⟩
 |.cons t ts,us,ς,k,hf,he,h=>by
  cases us with
  |nil=>exact h
  |cons u r=>
   have:=jhn (t:=t) (u:=u) (λi hi=>hf i (by simp[tgsS,hi])) he h
   refine jcU this λς' ⟨h1,h2⟩=>jhl (λi hi=>hf i (by simp[tgsS,hi])) h2 h1
theorem jcU:∀{t:Tg} {u:U} {ς:Sg} {k k':Sg->Prop},tgU t u ς k->(∀ς,k ς->k' ς)->tgU t u ς k'
 |.n _,_,_,_,_,h,i=>i _ h
 |.t ts,u,ς,_,_,h,i=>by
  cases u with
  |tup us=>exact jf1 (ts:=ts) (us:=us) h i
  |_=>exact h
theorem jf1:∀{ts:Tgs} {us:List U} {ς:Sg} {k k':Sg->Prop},tgsU ts us ς k->(∀ς,k ς->k' ς)->tgsU ts us ς k'
 |.nil,_,_,_,_,h,i=>⟨h.1,i _ h.2⟩
 |.cons t ts,us,ς,_,_,h,i=>by
  cases us with
  |nil=>exact h
  |cons u r=>exact jcU (t:=t) h λς' h'=>jf1 h' i
end
def SR.ext      (h:SR K H ς σ)(e:Ext ς0 ς):SR K H ς0 σ:=⟨e.1.trans h.1,λi u q=>h.2 i u (e.2 i u q)⟩
theorem SR.pick      (h:SR K H ς σ)(pick:List (Option Nat)):SR K H (jbc pick ς) (pick.map λo=>o.bind λj=>(σ[j]?).join):=by
 refine⟨by simp[jbc],λi u e=>?_⟩
 unfold jbc at e;rw[Yav]at e ⊢;cases q:pick[i]? with
 |none=>rw[q]at e;cases e
 |some o=>
  rw[q]at e;cases o with
  |none=>simp at e
  |some j=>
   simp only[Option.map_some,Option.bind_some,YeJ]at e ⊢;have e':ς[j]?=some (some u):=by
    cases z:ς[j]? with
    |none=>rw[z]at e;cases e
    |some w=>rw[z]at e;simp at e;rw[e]
   obtain⟨v,ev,r⟩:=h.2 j u e';exact⟨v,by rw[ev];rfl,r⟩

def HR.newH  (h:HR K H G)(e:H p=none):HR K (upd H p o) G:=⟨λa ob q=>by
 have m:=h a ob q;obtain⟨ho,e2⟩:=m.there;exact m.keep (jac (jah e2 e)) (TS.new e),h.tab.new e⟩
def TS.hid     (e:H p=some (.lst ys)):TS H (upd H p o):=⟨λa xs h=>by
 have:a≠p:=λz=>by subst z;rw[e]at h;cases h
 rw[jac this];exact h,λa ob h=>by
 have:a≠p:=λz=>by subst z;rw[e]at h;cases h
 rw[jac this];exact h⟩
def HR.hid  (h:HR K H G)(e:H p=some (.lst ys))(g:G p=none):HR K (upd H p o) G:=⟨λa ob q=>by
 have:a≠p:=λz=>by subst z;rw[g]at q;cases q
 exact(h a ob q).keep (jac this) (TS.hid e),h.tab.upd (λps z=>by rw[e]at z;cases z) λob z=>by rw[e]at z;cases z⟩
def HR.know  (h:HR K H G)(e:H p=some (.lst ys))(r:RUs K H us ys):HR K H (gup G p (.lst us)):=⟨λa ob q=>by
 by_cases z:a=p
 ·subst z;rw[jap]at q;cases q;exact⟨ys,e,r⟩
 ·rw[jaW z]at q;exact h a ob q,h.tab⟩
section
variable {X:Cx}{pick:List (Option Nat)}{ti:UI}{t:Tg}{tc:Sg->Gp->(Bool->Gp->Prop)->Prop}{te:UE}{σ:St}{H:Hp}{Q0:VK}
abbrev lcD  (pick:List (Option Nat))(ti:UI)(t:Tg)(tc:Sg->Gp->(Bool->Gp->Prop)->Prop)(te:UE):UE:=λς G Q E=>ti ς G (λxs ok G1=>xs.length<=Yai/\jb9 ok (λx G2 k=>tgU t x (jbc pick ς) λτ=>tc τ G2 (λb G3=>if b=true then te τ G3 (λu G4=>k (some u) G4) (λ_ _=>False) else k none G3)) xs [] G1
   λus G5=>newO G5 (.lst us) Q) E
structure FrX (D:Addr)(H:Hp)(G:Gp)(H':Hp)(G':Gp):Prop where
 go:∀a o,a≠D->H a=some o->G a=none->(nt:noTb o=true:=by rfl)->H' a=some o/\G' a=none
instance {D:Addr} {H H':Hp} {G G':Gp}:CoeFun (FrX D H G H' G') λ_=>∀a o,a≠D->H a=some o->G a=none->(nt:noTb o=true:=by rfl)->H' a=some o/\G' a=none:=⟨@FrX.go D H G H' G'⟩
def jj1     {H1:Hp}{kk:List U->Gp->Prop}{QQ:St->List V->Hp->Prop}
  (free:∀i∈tgS t,∀w,τu[i]?≠some (some w)) (wk:jfR X.K J H1 G1 xs ok) (hG1:HR X.K H1 G1) (eD1:H1 D=some (.lst ys0)) (gD1:G1 D=none) (ra1:RUs X.K H1 acc0 ys0) (sr1:SR X.K H1 τu τ0) (hl:acc0.length+xs.length<=Yai)
  (h1:jb9 ok (λx G2 k=>tgU t x τu λτ=>tc τ G2 (λb G3=>if b=true then te τ G3 (λu G4=>k (some u) G4) (λ_ _=>False) else k none G3)) xs acc0 G1 kk)
  (fin:∀τ' acc' ys' G' H',SR X.K H' τu τ'->HR X.K H' G'->FrX D H1 G1 H' G'->H' D=some (.lst ys')->G' D=none->RUs X.K H' acc' ys'->kk acc' G'->QQ τ' ys' H') :
  jgG J (lG X.K (tgU t)) (lT0 X.K tc) (emA (lE0 X.K te) D) QQ τ0 ys0 H1:=by
 refine⟨λi m τ ys H'=>m=xs.length-i/\i<=xs.length/\∃acc G',SR X.K H' τu τ/\HR X.K H' G'/\FrX D H1 G1 H' G'/\H' D=some (.lst ys)/\G' D=none/\RUs X.K H' acc ys/\acc.length<=acc0.length+i/\
  jb9 ok (λx G2 k=>tgU t x τu λτ=>tc τ G2 (λb G3=>if b=true then te τ G3 (λu G4=>k (some u) G4) (λ_ _=>False) else k none G3)) (xs.drop i) acc G' kk,⟨xs.length,by simp,YaP _,acc0,G1,sr1,hG1,⟨λ_ _ _ a b _=>⟨a,b⟩⟩,eD1,gD1,ra1,by lia,by simpa using h1⟩,?_⟩
 rintro i m τ ys H' ⟨rfl,hi,acc,G',sr,hr,f,eD,gD',ra,hal,hc⟩;have ts:TS H1 H':=⟨λa zs e=>(f a _ (λz=>by rw[z,eD1]at e;cases e) e (hG1.tupNone e)).1,λa zs e=>(f a _ (λz=>by rw[z,eD1]at e;cases e) e (hG1.codNone e)).1⟩
 by_cases hlt:i<xs.length
 ·rw[Ybk hlt]at hc;obtain⟨hok,hb⟩:=hc;obtain⟨w1,_⟩:=wk i H' G' ts hr hok;obtain⟨go,yl⟩:=w1 xs[i] (by simp[hlt])
  refine .inr ⟨go,λv H'' y=>?_⟩;obtain⟨rx,hr2,f2⟩:=yl v H'' y;have sr2:=sr.ts (f2.ts hr);refine⟨xs[i],τu,_,rx,sr2,jhn free ⟨rfl,λ_ _ e=>e⟩ hb,λτv σ' hs' ⟨hk,he⟩=>?_⟩;refine⟨τv,G',_,hs',hr2,hk,λb G3 H3 hr3 f3 h3=>?_⟩;have f13:FrX D H1 G1 H3 G3:=⟨λa o n h g nt=>let ⟨a1,a2⟩:=f a o n h g nt;let ⟨b1,b2⟩:=f2 a o a1 a2 nt;f3 a o b1 b2 nt⟩
  have hs3:SR X.K H3 τu σ':=(hs'.ext he).ts (f3.ts hr2);obtain⟨eD2,gD2⟩:=f2 D _ eD gD';obtain⟨eD3,gD3⟩:=f3 D _ eD2 gD2;have ra3:=(ra.ts (f2.ts hr)).ts (f3.ts hr2);cases b with
  |false=>
   rw[if_neg Yaj]at h3;dsimp only;rw[if_neg Yaj];exact⟨xs.length-(i+1),by lia,rfl,hlt,acc,G3,hs3,hr3,f13,eD3,gD3,ra3,by lia,h3⟩
  |true=>
   rw[if_pos rfl]at h3;dsimp only;rw[if_pos rfl];refine⟨τv,G3,_,hs'.ts (f3.ts hr2),hr3,h3,λu v G4 H4 ru hr4 f4 h4=>?_⟩;obtain⟨eD4,gD4⟩:=f4 D _ eD3 gD3;have ra4:=ra3.ts (f4.ts hr3);have tsn:=TS.hid (o:=.lst (ys++[v])) eD4;refine⟨eD4,by rw[<- ra.length];lia,xs.length-(i+1),by lia,rfl,hlt,acc++[u],G4,(hs3.ts (f4.ts hr3)).ts tsn,hr4.hid eD4 gD4,?_,jai,gD4,(ra4.append (RUs.mk (us:=[]) (vs:=[]) ru rfl)).ts tsn,by simp;lia,h4⟩
   refine⟨λa o n ha ga nt=>?_⟩;obtain⟨x1,x2⟩:=f13 a o n ha ga nt;obtain⟨y1,y2⟩:=f4 a o x1 x2 nt;exact⟨by rw[jac n];exact y1,y2⟩
 ·have e:i=xs.length:=by lia
  subst e;rw[Ycz]at hc;obtain⟨hok,q⟩:=hc;obtain⟨_,w2⟩:=wk xs.length H' G' ts hr hok;exact .inl ⟨w2 rfl,fin τ acc ys G' H' sr hr f eD gD' ra q⟩
def jcZ  {is:List Nat}(hp:is.all (λi=>(pick[i]?).join.isNone)=true) ς:∀i∈is,∀w,(jbc pick ς)[i]?≠some (some w):=λi hi w e=>by
 have:=List.all_eq_true.mp hp i hi;unfold jbc at e;rw[Yav]at e;cases q:pick[i]? with
 |none=>rw[q]at e;cases e
 |some o=>
  rw[q]at e this;cases o with
  |none=>simp at e
  |some j=>simp at this
def jj3  (hp:(tgS t).all (λi=>(pick[i]?).join.isNone)=true)(h:lE X (lcD pick ti t tc te) σ H Q0):tLc pick (lI X ti) (lG X.K (tgU t)) (lT0 X.K tc) (lE0 X.K te) σ H Q0:=by
 obtain⟨ς,G,Q,E,hς,hG,h,lv,lx⟩:=h;refine⟨ς,G,_,E,hς,hG,h,λxs ok G1 H1 J hG1 f1 wk h1=>?_,lx⟩;obtain⟨hl,h1⟩:=h1;intro D hD;refine jj1 (acc0:=[]) (jcZ hp ς) (wk.mono (TS.new hD)) (hG1.newH hD) jai (hG1.nope hD) rfl (((hς.ts (f1.ts hG)).ts (TS.new hD)).pick pick) (by simpa using hl) h1 λτ' acc' ys' G' H' sr hr f eD gD' ra q=>?_
 refine lv (.loc D) (.ref D) _ H' rfl (hr.know eD ra) ?_ (q.at D gD');refine⟨λa o ha ga nt=>?_⟩;obtain⟨x1,x2⟩:=f1 a o ha ga nt;obtain⟨y1,y2⟩:=f a o (jah x1 hD) (by rw[jac (jah x1 hD)];exact x1) x2 nt
 exact⟨y1,by rw[jaW (jah x1 hD)];exact y2⟩
def lI0  (K:Yac)(t:UI):TI:=λσ H R=>∃ς G Q,SR K H ς σ/\HR K H G/\t ς G Q (λ_ _=>False)/\∀xs ok G' H' J,HR K H' G'->Fr H G H' G'->jfR K J H' G' xs ok->Q xs ok G'->R J H'
def lI0.of    {t:UI}(h:PI X tg e (lI X t)):PI X tg e (lI0 X.K t):=h.imp λσ H R ⟨ς,G,Q,h1,h2,h3,h4⟩=>⟨ς,G,Q,_,h1,h2,h3,h4,LX.no⟩
mutual
theorem jhm {is:List Nat}:∀{t:Tg} {u:U} {ς:Sg} {k:Sg->Prop},(∀i∈is,i∉tgS t)->(∀i∈is,∀w,ς[i]?≠some (some w))->tgU t u ς k->tgU t u ς λς'=>k ς'/\∀i∈is,∀w,ς'[i]?≠some (some w)
 |.n j,u,ς,k,hf,he,h=>by
  refine⟨h,λi hi w e=>?_⟩
  have hj:i≠j:=λz=>hf i hi (by simp[tgS,z])
  rw[YaS (Ne.symm hj)]at e
  exact he i hi w e
 |.t ts,u,ς,k,hf,he,h=>by
  cases u with
  |tup us=>exact jf2 (ts:=ts) (us:=us) (λi hi=>hf i hi) he h
  |_=>exact h
theorem jf2 {is:List Nat}:∀{ts:Tgs} {us:List U} {ς:Sg} {k:Sg->Prop},(∀i∈is,i∉tgsS ts)->(∀i∈is,∀w,ς[i]?≠some (some w))->tgsU ts us ς k->tgsU ts us ς λς'=>k ς'/\∀i∈is,∀w,ς'[i]?≠some (some w)
 |.nil,us,ς,k,_,he,h=>⟨h.1,h.2,he⟩
 |.cons t ts,us,ς,k,hf,he,h=>by
  cases us with
  |nil=>exact h
  |cons u r=>
   have:=jhm (t:=t) (u:=u) (λi hi z=>hf i hi (by simp[tgsS,z])) he h
   refine jcU this λς' ⟨h1,h2⟩=>jf2 (λi hi z=>hf i hi (by simp[tgsS,z])) h2 h1
end
abbrev lc2D  (pick:List (Option Nat))(ti:UI)(t:Tg)(tc:Sg->Gp->(Bool->Gp->Prop)->Prop)(ti2:UI)(t2:Tg)(tc2:Sg->Gp->(Bool->Gp->Prop)->Prop)(te:UE):UE:=λς G Q E=>ti ς G (λxs ok G1=>jfK ok (λx acc G2 k=>tgU t x (jbc pick ς) λτ=>tc τ G2 (λb G3=>if b=true then ti2 τ G3 (λys ok2 G4=>acc.length+ys.length<=Yai/\jb9 ok2 (λy G5 k5=>tgU t2 y τ λτ'=>tc2 τ' G5 (λb2 G6=>if b2=true then te τ' G6 (λu G7=>k5 (some u) G7) (λ_ _=>False) else k5 none G6)) ys acc G4 k) (λ_ _=>False) else k acc G3)) xs [] G1
   λus G5=>newO G5 (.lst us) Q) E
def jhX     (hp:(tgS t).all (λi=>(pick[i]?).join.isNone)=true)(hp2:(tgS t2).all (λi=>(pick[i]?).join.isNone)=true)(hp3:(tgS t2).all (λi=>!(tgS t).contains i)=true)(h:lE X (lc2D pick ti t tc ti2 t2 tc2 te) σ H Q0) :
  tLc2 pick (lI X ti) (lG X.K (tgU t)) (lT0 X.K tc) (lI0 X.K ti2) (lG X.K (tgU t2)) (lT0 X.K tc2) (lE0 X.K te) σ H Q0:=by
 obtain⟨ς,G,Q,E,hς,hG,h,lv,lx⟩:=h;refine⟨ς,G,_,E,hς,hG,h,λxs ok G1 H1 J hG1 f1 wk h1=>?_,lx⟩;intro D hD;have free:=jcZ hp ς;have free2:=jcZ hp2 ς;have dis:∀i∈tgS t2,i∉tgS t:=λi hi=>by simpa using List.all_eq_true.mp hp3 i hi
 refine⟨λi m τ ys H'=>m=xs.length-i/\i<=xs.length/\∃acc G',SR X.K H' (jbc pick ς) τ/\HR X.K H' G'/\Fr H1 G1 H' G'/\H' D=some (.lst ys)/\G' D=none/\RUs X.K H' acc ys/\
  jfK ok (λx acc G2 k=>tgU t x (jbc pick ς) λτ=>tc τ G2 (λb G3=>if b=true then ti2 τ G3 (λys ok2 G4=>acc.length+ys.length<=Yai/\jb9 ok2 (λy G5 k5=>tgU t2 y τ λτ'=>tc2 τ' G5 (λb2 G6=>if b2=true then te τ' G6 (λu G7=>k5 (some u) G7) (λ_ _=>False) else k5 none G6)) ys acc G4 k) (λ_ _=>False) else k acc G3)) (xs.drop i) acc G' λus G5=>newO G5 (.lst us) Q,
  ⟨xs.length,by simp,YaP _,[],G1,((hς.ts (f1.ts hG)).ts (TS.new hD)).pick pick,hG1.newH hD,Fr.new hD,jai,hG1.nope hD,rfl,by simpa using h1⟩,?_⟩
 rintro i m τ ys H' ⟨rfl,hi,acc,G',sr,hr,f,eD,gD',ra,hc⟩;by_cases hlt:i<xs.length
 ·rw[Ybk hlt]at hc;obtain⟨hok,hb⟩:=hc;obtain⟨w1,_⟩:=wk i H' G' (f.ts hG1) hr hok;obtain⟨go,yl⟩:=w1 xs[i] (by simp[hlt])
  refine .inr ⟨go,λv H'' y=>?_⟩;obtain⟨rx,hr2,f2⟩:=yl v H'' y;have sr2:=sr.ts (f2.ts hr);refine⟨xs[i],jbc pick ς,_,rx,sr2,jhm dis free2 (jhn free ⟨rfl,λ_ _ e=>e⟩ hb),λτu σ' hs' ⟨⟨hk,he⟩,hfr⟩=>?_⟩;refine⟨τu,G',_,hs',hr2,hk,λb G3 H3 hr3 f3 h3=>?_⟩;have f13:Fr H1 G1 H3 G3:=(f.trans f2).trans f3;have hs3:SR X.K H3 τu σ':=hs'.ts (f3.ts hr2);obtain⟨eD2,gD2⟩:=f2 D _ eD gD';obtain⟨eD3,gD3⟩:=f3 D _ eD2 gD2;have ra3:=(ra.ts (f2.ts hr)).ts (f3.ts hr2);cases b with
  |false=>
   rw[if_neg Yaj]at h3;dsimp only;rw[if_neg Yaj];exact⟨xs.length-(i+1),by lia,rfl,hlt,acc,G3,hs3.ext he,hr3,f13,eD3,gD3,ra3,h3⟩
  |true=>
   rw[if_pos rfl]at h3;dsimp only;rw[if_pos rfl];refine⟨τu,G3,_,hs3,hr3,h3,λzs ok2 G4 H4 J2 hr4 f4 wk2 h4=>?_⟩;obtain⟨hl4,h4⟩:=h4;obtain⟨eD4,gD4⟩:=f4 D _ eD3 gD3;refine jj1 hfr wk2 hr4 eD4 gD4 (ra3.ts (f4.ts hr3)) (hs3.ts (f4.ts hr3)) hl4 h4 λτ' acc' ys' G5 H5 sr5 hr5 f5 eD5 gD5 ra5 q5=>?_;refine⟨xs.length-(i+1),by lia,rfl,hlt,acc',G5,sr5.ext he,hr5,⟨λa o ha ga nt=>?_⟩,eD5,gD5,ra5,q5⟩
   obtain⟨x1,x2⟩:=(f13.trans f4) a o ha ga nt;exact f5 a o (jah ha hD) x1 x2 nt
 ·have e:i=xs.length:=by lia
  subst e;rw[Ycz]at hc;obtain⟨hok,q⟩:=hc;obtain⟨_,w2⟩:=wk xs.length H' G' (f.ts hG1) hr hok;refine .inl ⟨w2 rfl,lv (.loc D) (.ref D) _ H' rfl (hr.know eD ra) ?_ (q.at D gD')⟩;refine⟨λa o ha ga nt=>?_⟩;obtain⟨x1,x2⟩:=f1 a o ha ga nt;obtain⟨y1,y2⟩:=f a o x1 x2 nt;exact⟨y1,by rw[jaW (jah x1 hD)];exact y2⟩

def u_lc  (hc:X.calm=true)(S:CScope X N pick scope)(hw:PI X tg iter (lI X ti))(hp:(tgS t).all (λi=>(pick[i]?).join.isNone)=true)
  (hg:∀cl C s₀ H₀ fp,PG (jad X N scope cl C s₀ H₀ fp) tg (lG X.K (tgU t))) (hi:∀cl C s₀ H₀ fp,PIfs (jad X N scope cl C s₀ H₀ fp) ifs (lT0 X.K tc)) (he:∀cl C s₀ H₀ fp,PE (jad X N scope cl C s₀ H₀ fp) elt (lE0 X.K te))
  (hs:∀x,Yay iter X.env x=pure x):PE X (.ListComp elt [⟨tg,iter,ifs,0⟩] scope pos) (lE X (lcD pick ti t tc te)):=
 (jpp hc S hw hg hi he hs).imp λ_ _ _ h=>jj3 hp h
def joP       (hc:X.calm=true)(S:CScope X N pick scope)(hw:PI X tg iter (lI X ti))(hp:(tgS t).all (λi=>(pick[i]?).join.isNone)=true)(hp2:(tgS t2).all (λi=>(pick[i]?).join.isNone)=true)(hp3:(tgS t2).all (λi=>!(tgS t).contains i)=true)
  (hg:∀cl C s₀ H₀ fp,PG (jad X N scope cl C s₀ H₀ fp) tg (lG X.K (tgU t))) (hi:∀cl C s₀ H₀ fp,PIfs (jad X N scope cl C s₀ H₀ fp) ifs (lT0 X.K tc)) (he:∀cl C s₀ H₀ fp,PE (jad X N scope cl C s₀ H₀ fp) elt (lE0 X.K te))
  (hw2:∀cl C s₀ H₀ fp,PI (jad X N scope cl C s₀ H₀ fp) tg2 i2 (lI0 X.K ti2)) (hg2:∀cl C s₀ H₀ fp,PG (jad X N scope cl C s₀ H₀ fp) tg2 (lG X.K (tgU t2))) (hi2:∀cl C s₀ H₀ fp,PIfs (jad X N scope cl C s₀ H₀ fp) f2 (lT0 X.K tc2)) (hs2:∀env x,Yay i2 env x=pure x)
  (hs:∀x,Yay iter X.env x=pure x):PE X (.ListComp elt [⟨tg,iter,ifs,0⟩,⟨tg2,i2,f2,0⟩] scope pos) (lE X (lc2D pick ti t tc ti2 t2 tc2 te)):=
 (jmP hc S hw hg hi he hw2 hg2 hi2 hs2 hs).imp λ_ _ _ h=>jhX hp hp2 hp3 h
end
section
variable {X:Cx}{e:Expr}{te ta tb:UE}{p pos:Pos}
def joN  (hg:Gl X "list")(hm:X.mg "list" = none)(ha:PE X e (lE X te))(he:YaA [e] X.env=[(false,eval e X.env)]) :
  PE X (.Call (.Name "list" p) [e] [] pos) (lE X λς G Q E=>te ς G (λx G1=>itU x G1 λxs _=>newO G1 (.lst xs) Q) E):=by
 refine(jc0 (je7 (X:=X)) hg hm PyProof.Rows.boot_list (jdA ha jgH he) (by decide) (by decide) he rfl).imp λσ H Q0 h=>?_
 obtain⟨ς,G,Q,E,hς,hG,h,lv,lx⟩:=h;refine⟨ς,G,λus G1=>match us with|[x]=>(itU x G1 λxs _=>newO G1 (.lst xs) Q)|_=>False,E,hς,hG,h,λus vs G1 H1 rs hG1 f1 h1=>?_,lx⟩
 dsimp only at h1;split at h1
 ·obtain⟨v,rfl,r⟩:=rs.one;unfold itU at h1;split at h1
  ·obtain⟨a,ws,rfl,ea,rr⟩:=r;exact⟨a,ws,rfl,.inr (.of ea),λl hl=>(lv.fr f1).lst hl rr hG1 h1⟩
  ·cases r;split at h1
   ·rename_i us eu;obtain⟨ws,sq,rr⟩:=hG1.ls eu;exact⟨_,ws,rfl,.inl sq,λl hl=>(lv.fr f1).lst hl rr hG1 h1⟩
   ·exact h1.elim
  ·exact h1.elim
 ·exact h1.elim
def joM  (hg:Gl X "tuple")(hm:X.mg "tuple" = none)(ha:PE X e (lE X te))(he:YaA [e] X.env=[(false,eval e X.env)]) :
  PE X (.Call (.Name "tuple" p) [e] [] pos) (lE X λς G Q E=>te ς G (λx G1=>itU x G1 λxs _=>Q (.tup xs) G1) E):=by
 refine(jc0 (jer (X:=X)) hg hm PyProof.Rows.boot_tuple (jdA ha jgH he) (by decide) (by decide) he rfl).imp λσ H Q0 h=>?_
 obtain⟨ς,G,Q,E,hς,hG,h,lv,lx⟩:=h;refine⟨ς,G,λus G1=>match us with|[x]=>(itU x G1 λxs _=>Q (.tup xs) G1)|_=>False,E,hς,hG,h,λus vs G1 H1 rs hG1 f1 h1=>?_,lx⟩
 dsimp only at h1;split at h1
 ·obtain⟨v,rfl,r⟩:=rs.one;unfold itU at h1;split at h1
  ·obtain⟨a,ws,rfl,ea,rr⟩:=r;exact⟨a,ws,rfl,.inr ⟨.of ea,(lv.fr f1).here (w:=.tup _) ⟨a,ws,rfl,ea,rr⟩ hG1 h1⟩⟩
  ·cases r;split at h1
   ·rename_i us eu;obtain⟨ws,sq,rr⟩:=hG1.ls eu;exact⟨_,ws,rfl,.inl ⟨sq,λl hl=>(lv.fr f1).tup hl rr hG1 h1⟩⟩
   ·exact h1.elim
  ·exact h1.elim
 ·exact h1.elim
def jkH     i n:RUs K H (rngU i n) ((YaC n).map λk:Nat=>V.int (i+(k:Int))):=by
 unfold rngU
 induction (YaC n)with
 |nil=>rfl
 |cons a r ih=>exact⟨_,_,rfl,rfl,ih⟩
def jlT {p2 pos2:Pos}{a:Expr}(hc:X.calm=true)(hgl:Gl X "list")(hml:X.mg "list" = none)(hgr:Gl X "range")(hmr:X.mg "range" = none)(ha:PE X a (lE X ta))(hs:YaA [a] X.env=[(false,eval a X.env)])
  (hs2:YaA [.Call (.Name "range" p2) [a] [] pos2] X.env=[(false,eval (.Call (.Name "range" p2) [a] [] pos2) X.env)]) :
  PE X (.Call (.Name "list" p) [.Call (.Name "range" p2) [a] [] pos2] [] pos) (lE X λς G Q E=>ta ς G (λx G1=>match x with
   |.int j=>0<=j/\j<=1000000/\newO G1 (.lst (rngU 0 j.toNat)) Q
   |_=>False) E):=by
 refine(jeI hc hgl hml hgr hmr (jdA ha jgH hs) hs hs2).imp λσ H Q0 h=>?_;obtain⟨ς,G,Q,E,hς,hG,h,lv,lx⟩:=h;refine⟨ς,G,λus G1=>match us with|[x]=>(match x with|.int j=>0<=j/\j<=1000000/\newO G1 (.lst (rngU 0 j.toNat)) Q|_=>False)|_=>False,E,hς,hG,h,λus vs G1 H1 rs hG1 f1 h1=>?_,lx⟩
 dsimp only at h1;split at h1
 ·obtain⟨v,rfl,r⟩:=rs.one;split at h1
  ·rename_i j;cases r;refine⟨_,rfl,h1.1,h1.2.1,λl hl=>?_⟩;have:=jkH (K:=X.K) (H:=H1) 0 j.toNat;simp only[Int.zero_add]at this;exact(lv.fr f1).lst hl this hG1 h1.2.2
  ·exact h1.elim
 ·exact h1.elim
def u_ty    (hg:Gl X x)(hm:X.mg x=none)(hv:YbN x=some (.type n))(hn:x ≠ "__name__")(hd:(x==("__debug__" : Str))=false):PE X (.Name x pos) (lE X λ_ G Q _=>Q (.ty n) G):=
 jce (u:=.ty n) (jhG (v:=.ty n) hg hm hv rfl hn hd) λ_=>rfl
def u_gl      (hg:Gl X x)(hm:X.mg x=some w)(r:RelV v w)(hr:∀H,RU X.K H u v)(hd:(x==("__debug__" : Str))=false):PE X (.Name x pos) (lE X λ_ G Q _=>Q u G):=
 jce (jhF hg hm r hd) hr
def jlX  : PE X (.Dict [] [] pos) (lE X λ_ G Q _=>newO G (.dT []) Q):=by
 refine ji3.imp λσ H Q0 h p hp=>?_;obtain⟨ς,G,Q,E,hς,hG,h,lv,lx⟩:=h;exact lv (.loc p) (.ref p) _ _ rfl (hG.newO (mo:=.dT []) hp ⟨[],jai,rfl⟩) (Fr.newO hp) (h.at p (hG.nope hp))
def jlY  : PE X (.Dict [] [] pos) (lE X λ_ G Q _=>newO G (.dK []) Q):=by
 refine ji4.imp λσ H Q0 h p hp=>?_;obtain⟨ς,G,Q,E,hς,hG,h,lv,lx⟩:=h;exact lv (.loc p) (.ref p) _ _ rfl (hG.newO (mo:=.dK []) hp ⟨[],jai,rfl⟩) (Fr.newO hp) (h.at p (hG.nope hp))
theorem RKs.merge    : ∀{more } {m },RKs K H more m->∀{kvs } {l },RKs K H kvs l->RKs K H (more.foldl (λacc kv=>dPut acc kv.1 kv.2) kvs) (jda l m)
 |[],_,h,_,_,h'=>by cases h;exact h'
 |(k,u)::more,_,h,_,_,h'=>by
  obtain⟨v,l',rfl,r,rs⟩:=h;exact RKs.merge rs (h'.put r)
def lD  (X:Cx)(t:Sg->Gp->(List (Key×U)->Gp->Prop)->KX->Prop)(trs:List (TE×TE)):Prop:=
 ∀σ H ς G Q E (Q0:List (V×V)->Hp->Prop),SR X.K H ς σ->HR X.K H G->t ς G Q E->LX X σ H G E->
  (∀kvs (l:List (Key×V)) G' H',RKs X.K H' kvs l->HR X.K H' G'->Fr H G H' G'->Q kvs G'->Q0 (l.map λkv=>(kV kv.1,kv.2)) H')->jf3 trs σ H Q0
def joQ      (hp:PPs X pos keys values trs)(hd:lD X t trs)(hall:keys.all (·.isSome)=true)(hl:keys.length=values.length)(h0:keys≠[])
  (h15:keys.length<=15):PE X (.Dict keys values pos) (lE X λς G Q E=>t ς G (λkvs G1=>kvs.length<=15/\newO G1 (.dK (jds kvs)) Q) E):=by
 refine(jk0 hp hall hl h0 h15).imp λσ H Q0 h p hp=>?_;obtain⟨ς,G,Q,E,hς,hG,h,lv,lx⟩:=h;have gp:=hG.nope hp;refine hd σ _ ς G _ E _ (hς.ts (TS.new hp)) (hG.newH hp) h (lx.fr (Fr.new hp)) λkvs l G' H' r hG' f q=>?_;obtain⟨e,g⟩:=f p _ jai gp;refine⟨e,l,rfl,by rw[<- r.length];exact q.1,?_⟩
 have ts:TS H' (upd H' p (.dK (jda [] l))):=⟨λa xs h=>by
  have:a≠p:=λz=>by subst z;rw[e]at h;cases h
  rw[jac this];exact h,λa xs h=>by
  have:a≠p:=λz=>by subst z;rw[e]at h;cases h
  rw[jac this];exact h⟩
 refine lv (.loc p) (.ref p) (gup G' p (.dK (jds kvs))) _ rfl ⟨λa ob z=>?_,hG'.tab.upd (λps z=>by rw[e]at z;cases z) λob z=>by rw[e]at z;cases z⟩ ⟨λa o ha ga nt=>?_⟩ (q.2.at p g)
 ·by_cases ea:a=p
  ·subst ea;rw[jap]at z;cases z;exact⟨_,jai,(RKs.merge r (kvs:=[]) (l:=[]) rfl).ts ts⟩
  ·rw[jaW ea]at z;exact(hG' a ob z).keep (jac ea) ts
 ·have ea:a≠p:=jah ha hp;obtain⟨x1,x2⟩:=f a o (by rw[jac ea];exact ha) ga nt
  exact⟨by rw[jac ea];exact x1,by rw[jaW ea];exact x2⟩
def jnk  : lD X (λ_ G Q _=>Q [] G) []:=λσ H ς G Q E Q0 hς hG h lx q=>q [] [] G H rfl hG (Fr.refl _ _) h
def jlk {tk tv:UE}{t:Sg->Gp->(List (Key×U)->Gp->Prop)->KX->Prop}{trs:List (TE×TE)}(hr:lD X t trs):lD X (λς G Q E=>tk ς G (λx G1=>tv ς G1 (λy G2=>match kU x with
   |some k=>t ς G2 (λkvs G3=>Q ((k,y)::kvs) G3) E
   |none=>False) E) E) ((lE X tk,lE X tv)::trs):=by
 intro σ H ς G Q E Q0 hς hG h lx q;refine⟨ς,G,_,E,hς,hG,h,λx v G1 H1 rx hG1 f1 h1=>?_,lx⟩;refine⟨ς,G1,_,E,hς.ts (f1.ts hG),hG1,h1,λy v' G2 H2 ry hG2 f2 h2=>?_,lx.fr f1⟩;dsimp only at h2;split at h2
 ·rename_i k ek;have:=jfw rx ek;subst this;refine hr σ H2 ς G2 _ E _ ((hς.ts (f1.ts hG)).ts (f2.ts hG1)) hG2 h2 (lx.fr (f1.trans f2)) λkvs l G3 H3 r hG3 f3 h3=>?_;exact q ((k,y)::kvs) ((k,v')::l) G3 H3 ⟨v',l,rfl,ry.ts (f3.ts hG2),r⟩ hG3 ((f1.trans f2).trans f3) h3
 ·exact h2.elim
end
end Z

namespace L2
open PySem
end L2
namespace Z
open PySem L2
structure LD (X:Cx)(H:Hp)(G:Gp)(De:En)(D:Ends):Prop where
 nx:∀ς' σ' G' H',SR X.K H' ς' σ'->HR X.K H' G'->Fr H G H' G'->De.nx ς' G'->D.nx σ' H'
 rt:∀w v G' H',RU X.K H' w v->HR X.K H' G'->Fr H G H' G'->De.rt w G'->D.rt v H'
 ex:∀(pins:List (Addr×Obj)) (e:Value) (s':Shared) (x:XV) ς' σ' G' H',Inv X pins σ' H' s'->SR X.K H' ς' σ'->XAt X H' s' e x->HR X.K H' G'->Fr H G H' G'->De.ex x ς' G'->X.xe e s'
abbrev US:=En->Sg->Gp->Prop
def lS  (X:Cx)(t:US):L2.TS:=λD σ H=>∃De ς G,SR X.K H ς σ/\HR X.K H G/\t De ς G/\LD X H G De D

def LD.fr  {H1: Hp}(h:LD X H G De D)(f:Fr H G H1 G1):LD X H1 G1 De D:=
 ⟨λς' σ' G' H' a b c=>h.nx ς' σ' G' H' a b (f.trans c),λw v G' H' a b c=>h.rt w v G' H' a b (f.trans c),λpins e s' x ς' σ' G' H' i a b c d=>h.ex pins e s' x ς' σ' G' H' i a b c (f.trans d)⟩
def LD.lx  (h:LD X H G De D)(hς:SR X.K H ς σ)(hG:HR X.K H G):LX X σ H G λx G1=>De.ex x ς G1:=λpins e s' x G' H' I a hr f q=>h.ex pins e s' x ς σ G' H' I (hς.ts (f.ts hG)) a hr f q
def LD.here  (h:LD X H G De D)(hς:SR X.K H ς σ)(hG:HR X.K H G)(q:De.nx ς G):D.nx σ H:=h.nx ς σ G H hς hG (Fr.refl _ _) q
def LD.with    (h:LD X H G De D)(hn:∀ς' σ' G' H',SR X.K H' ς' σ'->HR X.K H' G'->Fr H G H' G'->k ς' G'->D'.nx σ' H')(hr:D'.rt=D.rt):LD X H G { De with nx:=k } D':=
 ⟨hn,λw v G' H' a b c d=>by rw[hr];exact h.rt w v G' H' a b c d,h.ex⟩
section
variable {X:Cx}{st:Stmt}{rest:List Stmt}{pos:Pos}{e:Expr}{te:UE}{t u:US}
def s_nil  : PSs X [] (lS X λD ς G=>D.nx ς G):=jfl.imp λD σ H ⟨De,ς,G,hς,hG,h,ld⟩=>ld.here hς hG h
def s_cons  (h1:PS X st (lS X t))(h2:PSs X rest (lS X u)):PSs X (st::rest) (lS X λD ς G=>t { D with nx:=λς' G'=>u D ς' G' } ς G):=by
 refine(jd8 h1 h2).imp λD σ H ⟨De,ς,G,hς,hG,h,ld⟩=>?_;exact⟨_,ς,G,hς,hG,h,ld.with (λς' σ' G' H' a b c d=>⟨De,ς',G',a,b,d,ld.fr c⟩) rfl⟩
def s_expr  (he:PE X e (lE X te))(hs:YbU e none pos.line X.env=pure false):PS X (.Expr e pos) (lS X λD ς G=>te ς G (λ_ G1=>D.nx ς G1) λx G1=>D.ex x ς G1):=
 (jkP he hs).imp λD σ H ⟨De,ς,G,hς,hG,h,ld⟩=>⟨ς,G,_,_,hς,hG,h,λw v G' H' _ hr f q=>ld.nx ς σ G' H' (hς.ts (f.ts hG)) hr f q,ld.lx hς hG⟩
def s_ret  (he:PE X e (lE X te)):PS X (.Return (some e) pos) (lS X λD ς G=>te ς G D.rt λx G1=>D.ex x ς G1):=
 (jmB he).imp λD σ H ⟨De,ς,G,hς,hG,h,ld⟩=>⟨ς,G,_,_,hς,hG,h,λw v G' H' r hr f q=>ld.rt w v G' H' r hr f q,ld.lx hς hG⟩
def s_if     (hc:PT X c (lT X tc))(ha:PSs X a (lS X t))(hb:PSs X b (lS X u)):PS X (.If c a b pos) (lS X λD ς G=>tc ς G (λx G1=>if x=true then t D ς G1 else u D ς G1) λx G1=>D.ex x ς G1):=by
 refine(jmE hc ha hb).imp λD σ H ⟨De,ς,G,hς,hG,h,ld⟩=>⟨ς,G,_,_,hς,hG,h,λb G' H' hr f q=>?_,ld.lx hς hG⟩;cases b with
 |true=>rw[if_pos rfl]at q ⊢;exact⟨De,ς,G',hς.ts (f.ts hG),hr,q,ld.fr f⟩
 |false=>rw[if_neg Yaj]at q ⊢;exact⟨De,ς,G',hς.ts (f.ts hG),hr,q,ld.fr f⟩
def jlN      (h:lS X (λD ς G=>te ς G (λu G1=>tgU g u ς λς'=>D.nx ς' G1) λx G1=>D.ex x ς G1) D σ H) :
  lE X te σ H λx H1=>lG X.K (tgU g) x σ H1 D.nx:=by
 obtain⟨De,ς,G,hς,hG,h,ld⟩:=h;exact⟨ς,G,_,_,hς,hG,h,λw v G' H' r hr f q=>⟨w,ς,_,r,hς.ts (f.ts hG),q,λς' σ' hs hk=>ld.nx ς' σ' G' H' hs hr f hk⟩,ld.lx hς hG⟩
def s_unp {ts:Tgs}{es:List Expr}{k n:Nat}{p:Pos}(hc:X.calm=true)(he:PE X e (lE X te))(hg:PGs X es (lGs X.K (tgsU ts)))(hn:(Ya4 es X.env).length=n)(hst:(Ya4 es X.env).findIdx? (·.1)=none)(hl:∀us ς k,tgsU ts us ς k->us.length=n)
  (hs:Ybb [.Tuple es k p] e pos.line X.env=pure false) (hw:Ya0 [.Tuple es k p] e X.env=pure none) (h1:(Ya4 [.Tuple es k p] X.env).map (·.2)=[assign (.Tuple es k p) X.env]) :
  PS X (.Assign [.Tuple es k p] e pos) (lS X λD ς G=>te ς G (λu G1=>unpU ts u G1 ς λς'=>D.nx ς' G1) λx G1=>D.ex x ς G1):=by
 refine(jgc he (jmL hc hg hn hst) hs hw h1).imp λD σ H h=>?_;obtain⟨De,ς,G,hς,hG,h,ld⟩:=h;refine⟨ς,G,_,_,hς,hG,h,λw v G' H' r hr f q=>?_,ld.lx hς hG⟩;cases w with
 |loc a=>
  cases r;unfold unpU at q;dsimp only at q;split at q
  ·rename_i us eu;obtain⟨vs,sq,rs⟩:=hr.ls eu;exact⟨a,vs,rfl,sq,by rw[<- rs.length];exact hl _ _ _ q,us,ς,_,rs,hς.ts (f.ts hG),q,λς' σ' hs hk=>ld.nx ς' σ' G' H' hs hr f hk⟩
  ·exact q.elim
 |_=>exact q.elim
def s_asg {tg:Expr}{g:Tg}(he:PE X e (lE X te))(hg:PG X tg (lG X.K (tgU g)))(hs:Ybb [tg] e pos.line X.env=pure false)(hw:Ya0 [tg] e X.env=pure none)
  (h1:(Ya4 [tg] X.env).map (·.2)=[assign tg X.env]):PS X (.Assign [tg] e pos) (lS X λD ς G=>te ς G (λu G1=>tgU g u ς λς'=>D.nx ς' G1) λx G1=>D.ex x ς G1):=
 (jgc he hg hs hw h1).imp λ_ _ _ h=>jlN h
def s_lc            
  (hN:X.N.Nodup) (hi':X.N[i]?=some y) (hy:X.env.scope.names.lookup y=some .local) (hc:X.calm=true) (S:CScope X N pick scope) (hw:PI X tg iter (lI X ti)) (hp:(tgS g).all (λi=>(pick[i]?).join.isNone)=true)
  (hg:∀cl C s₀ H₀ fp,PG (jad X N scope cl C s₀ H₀ fp) tg (lG X.K (tgU g))) (hi:∀cl C s₀ H₀ fp,PIfs (jad X N scope cl C s₀ H₀ fp) ifs (lT0 X.K tc)) (he:∀cl C s₀ H₀ fp,PE (jad X N scope cl C s₀ H₀ fp) elt (lE0 X.K te))
  (hsw:YbU (.ListComp elt [⟨tg,iter,ifs,0⟩] scope pos) (some (.Name y py)) spos.line X.env=pure true) (hs:∀x,Yay iter X.env x=pure x) :
  PS X (.Assign [.Name y py] (.ListComp elt [⟨tg,iter,ifs,0⟩] scope pos) spos) (lS X λD ς G=>lcD pick ti g tc te ς G (λu G1=>tgU (.n i) u ς λς'=>D.nx ς' G1) λx G1=>D.ex x ς G1):=by
 refine(jpj hN hi' hy hc S hw hg hi he hsw hs).imp λD σ H h=>?_;obtain⟨De,ς,G,hς,hG,h,ld⟩:=h;exact jj3 hp ⟨ς,G,_,_,hς,hG,h,λw v G' H' r hr f q=>ld.nx _ _ G' H' ((hς.ts (f.ts hG)).set r i) hr f q,ld.lx hς hG⟩
def s_lc2                 
  (hN:X.N.Nodup) (hi':X.N[i]?=some y) (hy:X.env.scope.names.lookup y=some .local) (hc:X.calm=true) (S:CScope X N pick scope) (hw:PI X tg iter (lI X ti)) (hp:(tgS g).all (λi=>(pick[i]?).join.isNone)=true)
  (hp2:(tgS t2).all (λi=>(pick[i]?).join.isNone)=true) (hp3:(tgS t2).all (λi=>!(tgS g).contains i)=true)
  (hg:∀cl C s₀ H₀ fp,PG (jad X N scope cl C s₀ H₀ fp) tg (lG X.K (tgU g))) (hi:∀cl C s₀ H₀ fp,PIfs (jad X N scope cl C s₀ H₀ fp) ifs (lT0 X.K tc)) (he:∀cl C s₀ H₀ fp,PE (jad X N scope cl C s₀ H₀ fp) elt (lE0 X.K te))
  (hw2:∀cl C s₀ H₀ fp,PI (jad X N scope cl C s₀ H₀ fp) tg2 i2 (lI0 X.K ti2)) (hg2:∀cl C s₀ H₀ fp,PG (jad X N scope cl C s₀ H₀ fp) tg2 (lG X.K (tgU t2))) (hi2:∀cl C s₀ H₀ fp,PIfs (jad X N scope cl C s₀ H₀ fp) f2 (lT0 X.K tc2)) (hs2:∀(env:Env) x,Yay i2 env x=pure x)
  (hsw:YbU (.ListComp elt [⟨tg,iter,ifs,0⟩,⟨tg2,i2,f2,0⟩] scope pos) (some (.Name y py)) spos.line X.env=pure true) (hs:∀x,Yay iter X.env x=pure x) :
  PS X (.Assign [.Name y py] (.ListComp elt [⟨tg,iter,ifs,0⟩,⟨tg2,i2,f2,0⟩] scope pos) spos) (lS X λD ς G=>lc2D pick ti g tc ti2 t2 tc2 te ς G (λu G1=>tgU (.n i) u ς λς'=>D.nx ς' G1) λx G1=>D.ex x ς G1):=by
 refine(jmD hN hi' hy hc S hw hg hi he hw2 hg2 hi2 hs2 hsw hs).imp λD σ H h=>?_;obtain⟨De,ς,G,hς,hG,h,ld⟩:=h;exact jhX hp hp2 hp3 ⟨ς,G,_,_,hς,hG,h,λw v G' H' r hr f q=>ld.nx _ _ G' H' ((hς.ts (f.ts hG)).set r i) hr f q,ld.lx hς hG⟩
def jmu  : TSet:=λo i v H Q=>∃a H',o=.ref a/\DPut H a i v H'/\Q H'
def jiN  (hu:X.A.units+1<cLine):PSet X jmu:=by
 intro pins s σ H o i v ov iv u Q I ro ri rv h;obtain⟨a,H',rfl,g,q⟩:=h;cases ro;exact jim hu I g ri rv λs' I'=>⟨H',I',q⟩
def _root_.L2.PSet.or {t t':TSet}(h:PSet X t)(h':PSet X t'):PSet X λo i v H Q=>t o i v H Q\/t' o i v H Q:=by
 intro pins s σ H o i v ov iv u Q I ro ri rv q;rcases q with q|q
 ·exact h pins s σ H o i v ov iv u Q I ro ri rv q
 ·exact h' pins s σ H o i v ov iv u Q I ro ri rv q
def jkC       {Q0:Hp->Prop}(rx:RU X.K H x v)(ry:RU X.K H y v')(rw':RU X.K H w v'')(hG:HR X.K H G)(h:setU x y w G k)
  (q:∀G' H',HR X.K H' G'->Fr H G H' G'->k G'->Q0 H'):jmt v v' v'' H Q0\/jmu v v' v'' H Q0:=by
 cases x with
 |loc a=>
  cases rx;unfold setU at h;dsimp only at h;split at h
  ·rename_i xs g;obtain⟨vs,e,rs⟩:=hG.lst g;cases y with
   |int i=>
    cases ry;dsimp only at h;split at h
    ·rename_i j ej;refine .inl ⟨a,vs,i,j,rfl,rfl,e,by rw[<- rs.length];exact ej,?_⟩
     exact q _ _ (hG.write (mo':=.lst (xs.set j w)) g ⟨_,jai,(rs.set rw' j).ts (TS.write hG g)⟩) (Fr.write g) h.at
    ·exact h.elim
   |_=>exact h.elim
  ·rename_i kvs g;obtain⟨l,e,rs⟩:=hG a _ g;split at h
   ·rename_i k' ek;have:=jfw ry ek;subst this;refine .inr ⟨a,_,rfl,DPut.k e (by rw[<- rs.length];exact h.1),?_⟩
    exact q _ _ (hG.write (mo':=.dK (dPut kvs k' w)) g ⟨_,jai,(rs.put rw').ts (TS.write hG g)⟩) (Fr.write g) h.2.at
   ·exact h.elim
  ·rename_i kvs g;obtain⟨l,e,rs⟩:=hG a _ g;cases y with
   |tup ys=>
    obtain⟨b,ws,rfl,eb,rb⟩:=ry;dsimp only at h;split at h
    ·rename_i k' ek;have:=jgq rb ek;subst this;refine .inr ⟨a,_,rfl,DPut.t e eb (by rw[<- rs.length];exact h.1),?_⟩
     exact q _ _ (hG.write (mo':=.dT (dPut kvs k' w)) g ⟨_,jai,(rs.put rw').ts (TS.write hG g)⟩) (Fr.write g) h.2.at
    ·exact h.elim
   |_=>exact h.elim
  ·exact h.elim
 |_=>exact h.elim
def s_set {o i:Expr}{to ti:UE}{tpos:Pos}(hu:X.A.units+1<cLine)(he:PE X e (lE X te))(ho:PE X o (lE X to))(hi:PE X i (lE X ti))(hs:Ybb [.Subscript o i tpos] e pos.line X.env=pure false)(hw:Ya0 [.Subscript o i tpos] e X.env=pure none)
  (h1:(Ya4 [.Subscript o i tpos] X.env).map (·.2)=[assign (.Subscript o i tpos) X.env]) (ha:∀v,assign (.Subscript o i tpos) X.env v=(do
   let ov <- holding [v] (eval o X.env)
   let iv <- holding [v,ov] (eval i X.env)
   standAt tpos
   holding [v,ov,iv] (setItem ov iv v)
   release [v,ov,iv] [])):PS X (.Assign [.Subscript o i tpos] e pos) (lS X λD ς G=>te ς G (λv G1=>to ς G1 (λx G2=>ti ς G2 (λy G3=>setU x y v G3 λG4=>D.nx ς G4) λx G1=>D.ex x ς G1) λx G1=>D.ex x ς G1) λx G1=>D.ex x ς G1):=by
 refine(jgc he (jmK ho hi (PSet.or jiM (jiN hu)) ha) hs hw h1).imp λD σ H ⟨De,ς,G,hς,hG,h,ld⟩=>?_;refine⟨ς,G,_,_,hς,hG,h,λw v G1 H1 rw' hG1 f1 h1=>?_,ld.lx hς hG⟩;have hς1:=hς.ts (f1.ts hG);refine⟨ς,G1,_,_,hς1,hG1,h1,λx vx G2 H2 rx hG2 f2 h2=>?_,(ld.fr f1).lx hς1 hG1⟩;have hς2:=hς1.ts (f2.ts hG1);refine⟨ς,G2,_,_,hς2,hG2,h2,λy vy G3 H3 ry hG3 f3 h3=>?_,(ld.fr (f1.trans f2)).lx hς2 hG2⟩;have hς3:=hς2.ts (f3.ts hG2);exact jkC (rx.ts (f3.ts hG2)) ry ((rw'.ts (f2.ts hG1)).ts (f3.ts hG2)) hG3 h3 λG' H' hr f q=>ld.nx ς σ G' H' (hς3.ts (f.ts hG3)) hr (((f1.trans f2).trans f3).trans f) q
def IpU  (X:Cx)(o:YdO):Prop:=∃r:TIp,PIp X o r/\∀x y v v' G H Q Q0,RU X.K H x v->RU X.K H y v'->HR X.K H G->jh8 o x y G Q->LV X H G Q Q0->r v v' H Q0
def jnC   o:IpU X o:=by
 cases o with
 |Add=>
  refine⟨_,(OpR.or (jlu (X:=X)) jfz),λx y v v' G H Q Q0 rx ry hG h lv=>?_⟩;cases x<;>try exact h.elim
  ·cases y<;>try exact h.elim
   cases rx;cases ry;exact .inl ⟨_,_,rfl,rfl,lv.int hG h⟩
  ·cases y<;>try exact h.elim
   cases rx;cases ry;exact .inr ⟨_,_,rfl,rfl,h.1,lv.str hG h.2⟩
 |Sub=>
  refine⟨_,jls (X:=X),λx y v v' G H Q Q0 rx ry hG h lv=>?_⟩;cases x<;>try exact h.elim
  cases y<;>try exact h.elim
  cases rx;cases ry;exact⟨_,_,rfl,rfl,lv.int hG h⟩
 |Mult=>
  refine⟨_,jlt (X:=X),λx y v v' G H Q Q0 rx ry hG h lv=>?_⟩;cases x<;>try exact h.elim
  cases y<;>try exact h.elim
  cases rx;cases ry;exact⟨_,_,rfl,rfl,h.1,lv.int hG h.2⟩
 |_=>exact⟨λ_ _ _ _=>False,λ_ _ _ _ _ _ _ _ _ _ _ _ h=>h.elim,λ_ _ _ _ _ _ _ _ _ _ _ h _=>h.elim⟩
def s_aug      (hN:X.N.Nodup)(hi:X.N[i]?=some x)(hx:Loc X.env.scope x)(hf:X.fn x=true\/X.env.scope.names.lookup x=some .local)(he:PE X e (lE X te)) :
  PS X (.AugAssign (.Name x pos') o e pos) (lS X λD ς G=>slot ς i λx=>te ς G (λy G1=>jh8 o x y G1 λz G2=>D.nx (ς.set i (some z)) G2) λx G1=>D.ex x ς G1):=by
 obtain⟨r,h1,h2⟩:=jnC (X:=X) o;refine(jmG hN hi hx he h1 hf).imp λD σ H ⟨De,ς,G,hς,hG,h,ld⟩=>?_;dsimp only at h;unfold slot at h;split at h
 ·rename_i u eu;obtain⟨v,ev,ru⟩:=hς.2 i u eu;refine⟨v,ev,ς,G,_,_,hς,hG,h,λy vy G1 H1 ry hG1 f1 h1=>?_,ld.lx hς hG⟩;exact h2 u y v vy G1 H1 _ _ (ru.ts (f1.ts hG)) ry hG1 h1 λw vw G2 H2 rw' hr2 f2 q=>ld.nx _ _ G2 H2 (((hς.ts (f1.ts hG)).ts (f2.ts hG1)).set rw' i) hr2 (f1.trans f2) q
 ·exact h.elim
def _root_.L2.PGet.or {t t':V->V->Hp->VK->Prop}(h:PGet X t)(h':PGet X t'):PGet X λo i H Q=>t o i H Q\/t' o i H Q:=by
 intro pins s σ H o i ov iv Q I ro ri q;rcases q with q|q
 ·exact h pins s σ H o i ov iv Q I ro ri q
 ·exact h' pins s σ H o i ov iv Q I ro ri q
def s_par2        (hc:X.calm=true)(hN:X.N.Nodup)(hi:X.N[i]?=some x)(hj:X.N[j]?=some y)(hij:i≠j)
  (hx:X.env.scope.names.lookup x=some .local) (hy:X.env.scope.names.lookup y=some .local) (ha:PA X [a,b] (lA X ts))
  (hw:Ya0 [.Tuple [.Name x px,.Name y py] kt pt] (.Tuple [a,b] k2 pt2) X.env=pure (some [x,y])) (hs:Ybb [.Tuple [.Name x px,.Name y py] kt pt] (.Tuple [a,b] k2 pt2) pos.line X.env=pure false) :
  PS X (.Assign [.Tuple [.Name x px,.Name y py] kt pt] (.Tuple [a,b] k2 pt2) pos) (lS X λD ς G=>ts ς G (λus G1=>us.length=[i,j].length/\D.nx (([i,j].zip us).foldl (λs p=>s.set p.1 (some p.2)) ς) G1) λx G1=>D.ex x ς G1):=by
 refine(jmC hc hN hi hj hij hx hy ha hw hs).imp λD σ H ⟨De,ς,G,hς,hG,h,ld⟩=>?_;refine⟨ς,G,_,_,hς,hG,h,λus vs G1 H1 rs hG1 f1 h1=>?_,ld.lx hς hG⟩;obtain⟨h1,h2⟩:=h1
 match us,h1,h2,rs with
 |[u,w],_,h2,rs=>
  obtain⟨v,v',rfl,r1,r2⟩:=rs.two;exact⟨v,v',rfl,ld.nx _ _ G1 H1 (((hς.ts (f1.ts hG)).set r1 i).set r2 j) hG1 f1 h2⟩
def s_par3        (hc:X.calm=true)(hN:X.N.Nodup)(hi:X.N[i]?=some x)(hj:X.N[j]?=some y)(hl:X.N[l]?=some z)(hij:i≠j)(hil:i≠l)(hjl:j≠l)
  (hx:X.env.scope.names.lookup x=some .local) (hy:X.env.scope.names.lookup y=some .local) (hz:X.env.scope.names.lookup z=some .local) (ha:PA X [a,b,c] (lA X ts))
  (hw:Ya0 [.Tuple [.Name x px,.Name y py,.Name z pz] kt pt] (.Tuple [a,b,c] k2 pt2) X.env=pure (some [x,y,z])) (hs:Ybb [.Tuple [.Name x px,.Name y py,.Name z pz] kt pt] (.Tuple [a,b,c] k2 pt2) pos.line X.env=pure false) :
  PS X (.Assign [.Tuple [.Name x px,.Name y py,.Name z pz] kt pt] (.Tuple [a,b,c] k2 pt2) pos) (lS X λD ς G=>ts ς G (λus G1=>us.length=[i,j,l].length/\D.nx (([i,j,l].zip us).foldl (λs p=>s.set p.1 (some p.2)) ς) G1) λx G1=>D.ex x ς G1):=by
 refine(jkN hc hN hi hj hl hx hy hz ha hw hs).imp λD σ H ⟨De,ς,G,hς,hG,h,ld⟩=>?_;refine⟨ς,G,_,_,hς,hG,h,λus vs G1 H1 rs hG1 f1 h1=>?_,ld.lx hς hG⟩;obtain⟨h1,h2⟩:=h1
 match us,h1,h2,rs with
 |[u,w,q],_,h2,rs=>
  obtain⟨v,vr,rfl,r1,rs⟩:=rs;obtain⟨v',v'',rfl,r2,r3⟩:=rs.two;refine⟨v,v',v'',rfl,?_⟩;rw[YdR _ _ (Ne.symm hjl),YdR _ _ (Ne.symm hil),YdR _ _ (Ne.symm hij)];exact ld.nx _ _ G1 H1 ((((hς.ts (f1.ts hG)).set r1 i).set r2 j).set r3 l) hG1 f1 h2
def s_for       (hp:Yc9 (model X.prog X.w) X.A X.env X.xe)(hc:X.calm=true)(hi:PI X tg iter (lI X ti))(hg:PG X tg (lG X.K (tgU g)))(hb:PSs X body (lS X tb))
  (hs:∀x,Yay iter X.env x=pure x):PS X (.For tg iter body [] pos) (lS X λD ς G=>ti ς G (λxs ok G1=>forL ok (λx ς1 G2 k=>tgU g x ς1 λς2=>tb { D with nx:=k } ς2 G2) xs ς G1 D.nx) λx G1=>D.ex x ς G1):=by
 refine(jmF hp hc hi hg hb hs).imp λD σ H ⟨De,ς,G,hς,hG,h,ld⟩=>?_;refine⟨ς,G,_,_,hς,hG,h,λxs ok G1 H1 J hG1 f1 wk h1=>?_,ld.lx hς hG⟩;refine⟨λi m σ' H'=>m=xs.length-i/\i<=xs.length/\∃ς' G',SR X.K H' ς' σ'/\HR X.K H' G'/\Fr H1 G1 H' G'/\forL ok (λx ς1 G2 k=>tgU g x ς1 λς2=>tb { De with nx:=k } ς2 G2) (xs.drop i) ς' G' De.nx,⟨xs.length,by simp,YaP _,ς,G1,hς.ts (f1.ts hG),hG1,Fr.refl _ _,by simpa using h1⟩,?_⟩
 rintro i m σ' H' ⟨rfl,hi',ς',G',sr,hr,f,hc'⟩;by_cases hlt:i<xs.length
 ·rw[Ybk hlt]at hc';obtain⟨hok,hb'⟩:=hc';obtain⟨w1,_⟩:=wk i H' G' (f.ts hG1) hr hok;obtain⟨go,yl⟩:=w1 xs[i] (by simp[hlt])
  refine .inr ⟨go,λσ2 H2=>∃ς2 G2,SR X.K H2 ς2 σ2/\HR X.K H2 G2/\Fr H1 G1 H2 G2/\forL ok (λx ς1 G2 k=>tgU g x ς1 λς2=>tb { De with nx:=k } ς2 G2) (xs.drop (i+1)) ς2 G2 De.nx,λσ2 H2 q=>⟨xs.length-(i+1),by lia,rfl,hlt,q⟩,λv H'' y=>?_⟩
  obtain⟨rx,hr2,f2⟩:=yl v H'' y;refine⟨xs[i],ς',_,rx,sr.ts (f2.ts hr),hb',λς2 σ2 hs2 hk=>?_⟩;have f3:=(f1.trans f).trans f2;refine⟨_,ς2,G',hs2,hr2,hk,(ld.fr f3).with (λς3 σ3 G3 H3 a b c d=>⟨ς3,G3,a,b,(f.trans f2).trans c,d⟩) rfl⟩
 ·have e:i=xs.length:=by lia
  subst e;rw[Ycz]at hc';obtain⟨hok,q⟩:=hc';exact .inl ⟨(wk xs.length H' G' (f.ts hG1) hr hok).2 rfl,ld.nx ς' σ' G' H' sr hr (f1.trans f) q⟩
def s_wh      (hp:Yc9 (model X.prog X.w) X.A X.env X.xe)(hc:PT X c (lT X tc))(hb:PSs X body (lS X tb)) :
  PS X (.While c body [] pos) (lS X λD ς G=>∃W:Nat->Sg->Gp->Prop,(∃m,W m ς G)/\∀m ς1 G1,W m ς1 G1->
   tc ς1 G1 (λt G2=>if t=true then tb { D with nx:=λς' G'=>∃m',m'<m/\W m' ς' G' } ς1 G2 else D.nx ς1 G2) λx G1=>D.ex x ς1 G1):=by
 refine(jiW hp hc hb).imp λD σ H ⟨De,ς,G,hς,hG,h,ld⟩=>?_;obtain⟨W,⟨m0,w0⟩,turn⟩:=h;refine⟨λm σ' H'=>∃ς' G',SR X.K H' ς' σ'/\HR X.K H' G'/\Fr H G H' G'/\W m ς' G',⟨m0,ς,G,hς,hG,Fr.refl _ _,w0⟩,?_⟩;rintro m σ' H' ⟨ς',G',sr,hr,f,w⟩;refine⟨ς',G',_,_,sr,hr,turn m ς' G' w,λb G2 H2 hr2 f2 q=>?_,(ld.fr f).lx sr hr⟩;cases b with
 |true=>
  rw[if_pos rfl]at q ⊢;refine⟨λσ3 H3=>∃ς3 G3,SR X.K H3 ς3 σ3/\HR X.K H3 G3/\Fr H G H3 G3/\∃m',m'<m/\W m' ς3 G3,λσ3 H3 ⟨ς3,G3,a,b,c,m',hm,w'⟩=>⟨m',hm,ς3,G3,a,b,c,w'⟩,?_⟩;exact⟨_,ς',G2,sr.ts (f2.ts hr),hr2,q,(ld.fr (f.trans f2)).with (λς3 σ3 G3 H3 a b c d=>⟨ς3,G3,a,b,(f.trans f2).trans c,d⟩) rfl⟩
 |false=>
  rw[if_neg Yaj]at q ⊢;exact ld.nx ς' σ' G2 H2 (sr.ts (f2.ts hr)) hr2 (f.trans f2) q
end
structure Ctx where
 N:List Str
 sc:List (Str×YbE)
noncomputable def kd  (c:Ctx)(x:Str)(k:YbE):Bool:=c.sc.lookup x==some k
def glo  (c:Ctx)(x:Str):Bool:=kd c x .globalImplicit && !(x==("__debug__" : Str))
noncomputable def nm1  : Expr->List Str
 |.Name x _=>[x]
 |_=>[]
def nm2  : Expr->List Str
 |.Tuple es _ _=>es.flatMap nm1
 |e=>nm1 e
def jfi  : Expr->List Str
 |.Tuple es _ _=>es.flatMap nm2
 |e=>nm1 e
noncomputable def jhg  : List String:=["bool", "int", "str", "list", "tuple", "dict"]
def cOkS  (c:Ctx)(N:List Str)(pick:List (Option Nat))(scope:Scope):Bool:=
 decide (scope.kind=.function)&&scope.names.all (λy=>y.2 != .cell||scope.names.lookup y.1==some .cell)&&scope.names.all (λy=>y.2 != .local||scope.names.lookup y.1==some .local)
  && scope.names.all (λy=>y.2 != .free||(scope.names.lookup y.1==some .free&&(kd c y.1 .cell||kd c y.1 .free)))
  && pick.length==N.length&&(N.zip pick).all (λp=>match p.2 with|none=>true|some j=>c.N[j]?==some p.1&&scope.names.lookup p.1==some .free)&&decide N.Nodup
noncomputable def jjX  : Expr->Bool
 |.Call (.Name _ _) [] [] _=>false
 |_=>true
noncomputable def e0  : Expr:=.Name "" ⟨0,0,0,0⟩
def hd  : List Expr->Expr
 |[]=>e0
 |e::_=>e
def c0  : Expr->Expr
 |.BinOp l _ _ _=>l
 |.UnaryOp _ x _=>x
 |.IfExp t _ _ _=>t
 |.Compare l _ _ _=>l
 |.Subscript v _ _=>v
 |.Attribute v _ _=>v
 |.Call f _ _ _=>f
 |.ListComp e _ _ _=>e
 |.FormattedValue v _ _ _=>v
 |_=>e0
def c1  : Expr->Expr
 |.BinOp _ _ r _=>r
 |.IfExp _ b _ _=>b
 |.Subscript _ s _=>s
 |_=>e0
def c2  : Expr->Expr
 |.IfExp _ _ b _=>b
 |_=>e0
noncomputable def cl  : Expr->List Expr
 |.BoolOp _ vs _=>vs
 |.Compare _ _ vs _=>vs
 |.Call _ vs _ _=>vs
 |.List vs _=>vs
 |.Tuple vs _ _=>vs
 |.Dict _ vs _=>vs
 |.JoinedStr vs _=>vs
 |_=>[]
def kw0  : Expr->Keyword
 |.Call _ _ (k::_) _=>k
 |_=>⟨none,e0,⟨0,0,0,0⟩⟩
noncomputable def kk  : Expr->Nat
 |.Constant _ k _=>k
 |.Tuple _ k _=>k
 |_=>0
def oe  : Option Expr->Expr
 |some e=>e
 |none=>e0
def dk  : Expr->List Expr
 |.Dict ks _ _=>ks.map oe
 |_=>[]
def gen1  : Expr->Ydl
 |.ListComp _ (g::_) _ _=>g
 |_=>⟨e0,e0,[],0⟩
def gen2  : Expr->Ydl
 |.ListComp _ (_::g::_) _ _=>g
 |_=>⟨e0,e0,[],0⟩
noncomputable def scp  : Expr->Scope
 |.ListComp _ _ s _=>s
 |_=>⟨.module,[],false,false,[]⟩
def s0  : Expr->Expr
 |.Slice (some e) _ _ _=>e
 |_=>e0
def s1  : Expr->Expr
 |.Slice _ (some e) _ _=>e
 |_=>e0
def s2  : Expr->Expr
 |.Slice _ _ (some e) _=>e
 |_=>e0
noncomputable def nmA  (c:Ctx)(i:Nat):Str:=c.N.getD i ""
noncomputable def boU  : Bool->PySem.BoolOp
 |true=>.And
 |false=>.Or
def lh1  (h:Expr):Expr:=hd (cl h).tail
def lh2  (h:Expr):Expr:=hd (cl h).tail.tail
noncomputable def jaY  : Es->Nat
 |.nil=>0
 |.cons _ es=>jaY es+1
noncomputable def jez  : Tgs->Nat
 |.nil=>0
 |.cons _ ts=>jez ts+1
noncomputable def isT  : Tg->Bool
 |.t _=>true
 |.n _=>false
noncomputable def isLc  : E->Bool
 |.lc ..=>true
 |.lc2 ..=>true
 |_=>false
def cc  (c:Ctx)(pick:List (Option Nat))(h:Expr):Ctx:=⟨jfi (gen1 h).target++(pick.filterMap id).filterMap (λj=>c.N[j]?),(scp h).names⟩
def cc2  (c:Ctx)(pick:List (Option Nat))(h:Expr):Ctx:=⟨jfi (gen1 h).target++jfi (gen2 h).target++(pick.filterMap id).filterMap (λj=>c.N[j]?),(scp h).names⟩
mutual
noncomputable def unTg (c:Ctx):Tg->Expr->Expr
 |.n i,h=>.Name (nmA c i) h.pos
 |.t ts,h=>.Tuple (jd3 c ts (cl h)) (kk h) h.pos
noncomputable def jd3 (c:Ctx):Tgs->List Expr->List Expr
 |.nil,_=>[]
 |.cons t ts,hs=>unTg c t (hd hs)::jd3 c ts hs.tail
end
def okN  (c:Ctx)(i:Nat):Bool:=decide (i<c.N.length)&&(kd c (nmA c i) .local||kd c (nmA c i) .cell)
mutual
noncomputable def okTg (c:Ctx):Tg->Bool
 |.n i=>okN c i
 |.t ts=>jja c ts
noncomputable def jja (c:Ctx):Tgs->Bool
 |.nil=>true
 |.cons t ts=>okTg c t&&jja c ts
end
section
variable (T:Tab)
noncomputable def fnN (n:Nat):Str:=match T.funs[n]? with
 |some d=>d.name
 |none => ""
mutual
noncomputable def unE (c:Ctx):E->Expr->Expr
 |.v i,h=>.Name (nmA c i) h.pos
 |.non,h=>.Constant .none (kk h) h.pos
 |.bl b,h=>.Constant (.bool b) (kk h) h.pos
 |.int i,h=>.Constant (.int i) (kk h) h.pos
 |.str x,h=>.Constant (.str x) (kk h) h.pos
 |.g n,h=>.Name (T.gn.getD n "") h.pos
 |.ty n,h=>.Name (Yco n) h.pos
 |.bin o a b,h=>.BinOp (unE c a (c0 h)) o (unE c b (c1 h)) h.pos
 |.neg a,h=>.UnaryOp .USub (unE c a (c0 h)) h.pos
 |.not a,h=>.UnaryOp .Not (unE c a (c0 h)) h.pos
 |.bop k a es,h=>.BoolOp (boU k) (unE c a (hd (cl h))::unEs c es (cl h).tail) h.pos
 |.cmp o a b,h=>.Compare (unE c a (c0 h)) [o] [unE c b (hd (cl h))] h.pos
 |.cmp2 o p a b d,h=>.Compare (unE c a (c0 h)) [o,p] [unE c b (hd (cl h)),unE c d (hd (cl h).tail)] h.pos
 |.ife t a b,h=>.IfExp (unE c t (c0 h)) (unE c a (c1 h)) (unE c b (c2 h)) h.pos
 |.tup es,h=>.Tuple (unEs c es (cl h)) (kk h) h.pos
 |.lst es,h=>.List (unEs c es (cl h)) h.pos
 |.dic es,h=>.Dict (unK c es (dk h)) (unV c es (cl h)) h.pos
 |.dicT,h=>.Dict [] [] h.pos
 |.ix a b,h=>.Subscript (unE c a (c0 h)) (unE c b (c1 h)) h.pos
 |.sl a lo hi,h=>.Subscript (unE c a (c0 h)) (.Slice (unO c lo (s0 (c1 h))) (unO c hi (s1 (c1 h))) none (c1 h).pos) h.pos
 |.rev a b,h=>.Subscript (unE c a (c0 h)) (.Slice none none (some (unE c b (s2 (c1 h)))) (c1 h).pos) h.pos
 |.call n es,h=>.Call (.Name (fnN T n) (c0 h).pos) (unEs c es (cl h)) [] h.pos
 |.app i es,h=>.Call (.Name (nmA c i) (c0 h).pos) (unEs c es (cl h)) [] h.pos
 |.blt b es,h=>.Call (.Name (bltN b) (c0 h).pos) (unEs c es (cl h)) [] h.pos
 |.meth m o es,h=>.Call (.Attribute (unE c o (c0 (c0 h))) (mthN m) (c0 h).pos) (unEs c es (cl h)) [] h.pos
 |.lc pick t it ifs d,h=>.ListComp (unE (cc c pick h) d (c0 h)) [⟨unTg (cc c pick h) t (gen1 h).target,unI c it (gen1 h).iter,unEs (cc c pick h) ifs (gen1 h).ifs,0⟩] (scp h) h.pos
 |.lc2 pick t it ifs t2 it2 ifs2 d,h=>.ListComp (unE (cc2 c pick h) d (c0 h)) [⟨unTg (cc2 c pick h) t (gen1 h).target,unI c it (gen1 h).iter,unEs (cc2 c pick h) ifs (gen1 h).ifs,0⟩,⟨unTg (cc2 c pick h) t2 (gen2 h).target,unI (cc2 c pick h) it2 (gen2 h).iter,unEs (cc2 c pick h) ifs2 (gen2 h).ifs,0⟩] (scp h) h.pos
 |.fst es,h=>.JoinedStr (unF c es (cl h)) h.pos
 |.lrp d i y a b es,h=>.List (unE c d (hd (cl h))::.BinOp (.Constant (.str y) (kk (c0 (lh1 h))) (c0 (lh1 h)).pos) .Add (.Name (nmA c i) (c1 (lh1 h)).pos) (lh1 h).pos::
   .Call (.Attribute (.Name (nmA c i) (c0 (c0 (lh2 h))).pos) "replace" (c0 (lh2 h)).pos) [.Constant (.str a) (kk (hd (cl (lh2 h)))) (hd (cl (lh2 h))).pos,.Constant (.str b) (kk (lh1 (lh2 h))) (lh1 (lh2 h)).pos,.Constant (.int 1) (kk (lh2 (lh2 h))) (lh2 (lh2 h)).pos] [] (lh2 h).pos::unEs c es (cl h).tail.tail.tail) h.pos
 |.sset d,h=>.Call (.Name "sorted" (c0 h).pos) [.Call (.Name "set" (c0 (hd (cl h))).pos) [unE c d (hd (cl (hd (cl h))))] [] (hd (cl h)).pos] [] h.pos
 |.mkD d,h=>.Call (.Name "list" (c0 h).pos) [unE c d (hd (cl h))] [] h.pos
 |.maxD d,h=>.Call (.Name "max" (c0 h).pos) [unE c d (hd (cl h))] [⟨some "default",.Constant (.int 0) (kk (kw0 h).value) (kw0 h).value.pos,(kw0 h).pos⟩] h.pos
 |.minD d,h=>.Call (.Name "min" (c0 h).pos) [unE c d (hd (cl h))] [⟨some "default",.Constant .none (kk (kw0 h).value) (kw0 h).value.pos,(kw0 h).pos⟩] h.pos
 |.mkL d,h=>.Call (.Name "list" (c0 h).pos) [unE c d (hd (cl h))] [] h.pos
 |.mkT d,h=>.Call (.Name "tuple" (c0 h).pos) [unE c d (hd (cl h))] [] h.pos
 |.rngL d,h=>.Call (.Name "list" (c0 h).pos) [.Call (.Name "range" (c0 (hd (cl h))).pos) [unE c d (hd (cl (hd (cl h))))] [] (hd (cl h)).pos] [] h.pos
 |.rngT d,h=>.Call (.Name "tuple" (c0 h).pos) [.Call (.Name "range" (c0 (hd (cl h))).pos) [unE c d (hd (cl (hd (cl h))))] [] (hd (cl h)).pos] [] h.pos
 |.rngL2 _ _,_=>e0
noncomputable def unO (c:Ctx):Eo->Expr->Option Expr
 |.no,_=>none
 |.so d,h=>some (unE c d h)
noncomputable def unEs (c:Ctx):Es->List Expr->List Expr
 |.nil,_=>[]
 |.cons d es,hs=>unE c d (hd hs)::unEs c es hs.tail
noncomputable def unK (c:Ctx):Es->List Expr->List (Option Expr)
 |.cons d (.cons _ es),hs=>some (unE c d (hd hs))::unK c es hs.tail
 |_,_=>[]
noncomputable def unV (c:Ctx):Es->List Expr->List Expr
 |.cons _ (.cons d es),hs=>unE c d (hd hs)::unV c es hs.tail
 |_,_=>[]
noncomputable def unF (c:Ctx):Es->List Expr->List Expr
 |.nil,_=>[]
 |.cons d es,hs=>(match d with
  |.str x=>.Constant (.str x) (kk (hd hs)) (hd hs).pos
  |d=>.FormattedValue (unE c d (c0 (hd hs))) (-1) none (hd hs).pos)::unF c es hs.tail
noncomputable def unI (c:Ctx):It->Expr->Expr
 |.e d,h=>unE c d h
 |.r1 d,h=>.Call (.Name "range" (c0 h).pos) [unE c d (hd (cl h))] [] h.pos
 |.r2 a b,h=>.Call (.Name "range" (c0 h).pos) [unE c a (hd (cl h)),unE c b (hd (cl h).tail)] [] h.pos
 |.enum d,h=>.Call (.Name "enumerate" (c0 h).pos) [unE c d (hd (cl h))] [] h.pos
 |.dk d,h=>unE c d h
 |.s d,h=>unE c d h
 |.dv d,h=>.Call (.Attribute (unE c d (c0 (c0 h))) "values" (c0 h).pos) [] [] h.pos
 |.di d,h=>.Call (.Attribute (unE c d (c0 (c0 h))) "items" (c0 h).pos) [] [] h.pos
 |.zp a b,h=>.Call (.Name "zip" (c0 h).pos) [unE c a (hd (cl h)),unE c b (hd (cl h).tail)] [] h.pos
end
mutual
noncomputable def okE (c:Ctx):E->Expr->Bool
 |.v i,_=>decide (i<c.N.length)&&(kd c (nmA c i) .local||kd c (nmA c i) .cell||kd c (nmA c i) .free) && !(nmA c i==("__debug__" : Str)) && !(nmA c i==("__classdict__" : Str))
 |.non,_=>true
 |.bl _,_=>true
 |.int _,_=>true
 |.str _,_=>true
 |.g n,_=>decide (n<T.gs.length)&&decide (n<T.gn.length)&&glo c (T.gn.getD n "")
 |.ty n,_=>jhg.contains n&&glo c (Yco n)
 |.bin _ a b,h=>okE c a (c0 h)&&okE c b (c1 h)
 |.neg a,h=>okE c a (c0 h)
 |.not a,h=>okE c a (c0 h)
 |.bop _ a es,h=>okE c a (hd (cl h))&&okEs c es (cl h).tail
 |.cmp o a b,h=>okE c a (c0 h)&&okE c b (hd (cl h)) && !behindInMarks o (unE T c b (hd (cl h)))
 |.cmp2 o p a b d,h=>okE c a (c0 h)&&okE c b (hd (cl h))&&okE c d (hd (cl h).tail) && !lastMarks [o,p] [unE T c b (hd (cl h)),unE T c d (hd (cl h).tail)]
 |.ife _ _ _,_=>false
 |.tup es,h=>okEs c es (cl h)
 |.lst es,h=>okEs c es (cl h)
 |.dic es,h=>okD c es (dk h) (cl h)&&decide (jaY es<=30)
 |.dicT,_=>true
 |.ix a b,h=>okE c a (c0 h)&&okE c b (c1 h)
 |.sl a lo hi,h=>okE c a (c0 h)&&okO c lo (s0 (c1 h))&&okO c hi (s1 (c1 h))
 |.rev _ _,_=>false
 |.call n es,h=>decide (n<T.funs.length)&&glo c (fnN T n)&&okEs c es (cl h)
 |.app i es,h=>decide (i<c.N.length)&&(kd c (nmA c i) .local||kd c (nmA c i) .cell||kd c (nmA c i) .free) && !(nmA c i==("__debug__" : Str)) && !(nmA c i==("__classdict__" : Str))&&okEs c es (cl h)
 |.blt b es,h=>decide (0<jaY es)&&glo c (bltN b)&&okEs c es (cl h)
 |.meth _ o es,h=>okE c o (c0 (c0 h))&&okEs c es (cl h)&&((c0 h).pos.endLine==h.pos.line)&&decide (jaY es<30)&&jjX (unE T c o (c0 (c0 h)))
 |.lc pick t it ifs d,h=>cOkS c (cc c pick h).N pick (scp h)&&(tgS t).all (λi=>(pick[i]?).join.isNone)&&okTg (cc c pick h) t&&okI c t it (gen1 h).iter&&okEs (cc c pick h) ifs (gen1 h).ifs&&decide (jaY ifs<=1)&&okE (cc c pick h) d (c0 h)
 |.lc2 pick t it ifs t2 it2 ifs2 d,h=>cOkS c (cc2 c pick h).N pick (scp h)&&((tgS t).all (λi=>(pick[i]?).join.isNone)&&((tgS t2).all (λi=>(pick[i]?).join.isNone)&&((tgS t2).all (λi=>!(tgS t).contains i)&&(okTg (cc2 c pick h) t&&(okTg (cc2 c pick h) t2&&(okI c t it (gen1 h).iter&&(okI (cc2 c pick h) t2 it2 (gen2 h).iter&&(okEs (cc2 c pick h) ifs (gen1 h).ifs&&(okEs (cc2 c pick h) ifs2 (gen2 h).ifs&&(decide (jaY ifs<=1)&&(decide (jaY ifs2<=1)&&okE (cc2 c pick h) d (c0 h))))))))))))
 |.fst _,_=>false
 |.lrp _ _ _ _ _ _,_=>false
 |.sset _,_=>false
 |.mkD _,_=>false
 |.maxD _,_=>false
 |.minD _,_=>false
 |.mkL d,h=>glo c "list" && okE c d (hd (cl h))
 |.mkT d,h=>glo c "tuple" && okE c d (hd (cl h))
 |.rngL d,h=>glo c "list" && glo c "range" && okE c d (hd (cl (hd (cl h))))
 |.rngT _,_=>false
 |.rngL2 _ _,_=>false
noncomputable def okO (c:Ctx):Eo->Expr->Bool
 |.no,_=>true
 |.so d,h=>okE c d h
noncomputable def okEs (c:Ctx):Es->List Expr->Bool
 |.nil,_=>true
 |.cons d es,hs=>okE c d (hd hs)&&okEs c es hs.tail
noncomputable def okD (c:Ctx):Es->List Expr->List Expr->Bool
 |.nil,_,_=>true
 |.cons d (.cons f es),hs,gs=>okE c d (hd hs)&&okE c f (hd gs)&&okD c es hs.tail gs.tail
 |.cons _ .nil,_,_=>false
noncomputable def okF (c:Ctx):Es->List Expr->Bool
 |.nil,_=>true
 |.cons d es,hs=>(match d with
  |.str x=>decide (x.length<=10000)
  |d=>okE c d (c0 (hd hs)))&&okF c es hs.tail
noncomputable def okI (c:Ctx)(t:Tg):It->Expr->Bool
 |.e d,h=>okE c d h
 |.r1 d,h=>glo c "range" && okE c d (hd (cl h))
 |.r2 _ _,_=>false
 |.enum d,h=>isT t&&glo c "enumerate" && okE c d (hd (cl h))
 |.dk _,_=>false
 |.s d,h=>okE c d h
 |.dv _,_=>false
 |.di _,_=>false
 |.zp _ _,_=>false
end
noncomputable def jjL  (ts:List Expr):Nat:=(ts.head?.map (·.pos.line)).getD 0
def jak  (c:Ctx)(ts:List Expr):List Str:=ts.filterMap fun
  |.Name id pos=>if c.sc.lookup id==some .local&&pos.line==jjL ts then some id else none
  |_=>none
noncomputable def jgr  : Expr->Bool
 |.Starred ..=>true
 |_=>false
def swapped  (c:Ctx)(ts vs:List Expr):Bool:=
 (ts.length==2||ts.length==3)&&vs.length==ts.length && !(vs.any jgr)&&(jak c ts).length==ts.length&&(jak c ts).eraseDups.length==(jak c ts).length && !(vs.all (YfK 8)) && !(vs.all (constantsAlone 8))
def jcn  (c:Ctx)(ts vs:List Expr):Bool:=
 !(ts.length==2||ts.length==3)||vs.length != ts.length||(!(vs.any jgr)&&((jak c ts).length != ts.length||(jak c ts).eraseDups.length != (jak c ts).length||vs.all (YfK 8)))
noncomputable def lcSw  (c:Ctx)(y:Str)(py p:Pos)(s:Scope):Bool:=c.sc.lookup y==some .local&&py.line==p.line && !(s.names.any λ(n,k)=>n==y&&(k == .local||k == .cell))
def q0  : Stmt->Expr
 |.Expr e _=>e
 |.Assign _ e _=>e
 |.Return (some e) _=>e
 |.AugAssign _ _ e _=>e
 |.If e _ _ _=>e
 |.While e _ _ _=>e
 |.For _ e _ _ _=>e
 |_=>e0
def q1  : Stmt->Expr
 |.Assign (t::_) _ _=>t
 |.AugAssign t _ _ _=>t
 |.For t _ _ _ _=>t
 |_=>e0
def qr  : Stmt->Expr
 |.Raise (some e) _ _=>e
 |_=>e0
def hTy  : Stmt->Expr
 |.Try _ (.ExceptHandler (some t) _ _ _::_) _ _ _=>t
 |_=>e0
noncomputable def hBd  : Stmt->List Stmt
 |.Try _ (.ExceptHandler _ _ b _::_) _ _ _=>b
 |_=>[]
noncomputable def hPs  : Stmt->Pos
 |.Try _ (.ExceptHandler _ _ _ p::_) _ _ _=>p
 |_=>⟨0,0,0,0⟩
noncomputable def qa  : Stmt->List Stmt
 |.Try a _ _ _ _=>a
 |.If _ a _ _=>a
 |.While _ a _ _=>a
 |.For _ _ a _ _=>a
 |_=>[]
noncomputable def qb  : Stmt->List Stmt
 |.If _ _ b _=>b
 |_=>[]
noncomputable def qh  : List Stmt->Stmt
 |[]=>.Pass ⟨0,0,0,0⟩
 |s::_=>s
noncomputable def unNs  (c:Ctx):List Nat->List Expr->List Expr
 |[],_=>[]
 |i::is,hs=>.Name (nmA c i) (hd hs).pos::unNs c is hs.tail
noncomputable def unCs  : List Nat->List Expr->List Expr
 |[],_=>[]
 |k::ks,hs=>.Name (clsN k) (hd hs).pos::unCs ks hs.tail
section
variable (c:Ctx)(n:Nat)
def unHL:HL->Expr->Expr
 |.v i,h=>.Name (nmA c i) h.pos
 |.isiV,h=>.Call (.Name "isinstance" (c0 h).pos) [.Name (nmA c n) (hd (cl h)).pos,.Name "ValueError" (hd (cl h).tail).pos] [] h.pos
 |.is1 k,h=>.Call (.Name "isinstance" (c0 h).pos) [.Name (nmA c n) (hd (cl h)).pos,.Name (clsN k) (hd (cl h).tail).pos] [] h.pos
 |.isi ks,h=>.Call (.Name "isinstance" (c0 h).pos) [.Name (nmA c n) (hd (cl h)).pos,.Tuple (unCs ks (cl (hd (cl h).tail))) (kk (hd (cl h).tail)) (hd (cl h).tail).pos] [] h.pos
def jff:Bool×HL->Expr->Expr
 |(true,l),h=>.UnaryOp .Not (unHL c n l (c0 h)) h.pos
 |(false,l),h=>unHL c n l h
noncomputable def jfW:List (Bool×HL)->List Expr->List Expr
 |[],_=>[]
 |a::r,hs=>jff c n a (hd hs)::jfW r hs.tail
def jfX (k:Bool)(a:Bool×HL):List (Bool×HL)->Expr->Expr
 |[],h=>jff c n a h
 |b::r,h=>.BoolOp (boU k) (jff c n a (hd (cl h))::jfW c n (b::r) (cl h).tail) h.pos
def unHA:HA->Expr->Expr
 |.str x,h=>.Constant (.str x) (kk h) h.pos
 |.att f,h=>.Attribute (.Name (nmA c n) (c0 h).pos) f h.pos
noncomputable def jiH:List HA->List Expr->List Expr
 |[],_=>[]
 |a::r,hs=>unHA c n a (hd hs)::jiH r hs.tail
def unHV:HV->Expr->Expr
 |.cond k a as,h=>jfX c n k a as h
 |.one a,h=>unHA c n a h
 |.bl b,h=>.Constant (.bool b) (kk h) h.pos
 |.tup as,h=>.Tuple (jiH c n as (cl h)) (kk h) h.pos
 |.lst as,h=>.List (jiH c n as (cl h)) h.pos
def jkp (i:Nat)(e:HV)(h:Stmt):Stmt:=.Assign [.Name (nmA c i) (q1 h).pos] (unHV c n e (q0 h)) h.pos
def unHS:HS->Stmt->Stmt
 |.asg i e,h=>jkp c n i e h
 |.ifa k a as i e,h=>.If (jfX c n k a as (q0 h)) [jkp c n i e (qh (qa h))] [] h.pos
noncomputable def jfg:List HS->List Stmt->List Stmt
 |[],_=>[]
 |s::r,hs=>unHS c n s (qh hs)::jfg r hs.tail
end
section
variable (cs:List Nat)(c:Ctx)
def okC (k:Nat):Bool:=decide (1<=k)&&decide (k<6)&&cs.contains k&&glo c (clsN k)
def okHL:HL->Bool
 |.v i=>decide (i<c.N.length)&&(kd c (nmA c i) .local||kd c (nmA c i) .cell||kd c (nmA c i) .free) && !(nmA c i==("__debug__" : Str)) && !(nmA c i==("__classdict__" : Str))
 |.isiV=>glo c "isinstance" && glo c "ValueError"
 |.is1 k=>glo c "isinstance" && okC cs c k
 |.isi ks=>glo c "isinstance" && ks.all (okC cs c)&&decide (ks.length<=8)
def jc2 (as:List (Bool×HL)):Bool:=as.all λp=>okHL cs c p.2
def okHA  : HA->Bool
 |.str _=>true
 |.att f=>fldN.contains f
def okHV:HV->Bool
 |.cond _ a as=>okHL cs c a.2&&jc2 cs c as
 |.one a=>okHA a
 |.bl _=>true
 |.tup as=>as.all okHA&&decide (as.length<=8)
 |.lst as=>as.all okHA&&decide (as.length<=8)
def okHS (n:Nat):HS->Bool
 |.asg i e=>okN c i&&decide (i≠n)&&okHV cs c e
 |.ifa _ a as i e=>okHL cs c a.2&&jc2 cs c as&&okN c i&&decide (i≠n)&&okHV cs c e
end
mutual
noncomputable def unS (c:Ctx):S->Stmt->Stmt
 |.pass,h=>.Pass h.pos
 |.expr d,h=>.Expr (unE T c d (q0 h)) h.pos
 |.asg t d,h=>.Assign [unTg c t (q1 h)] (unE T c d (q0 h)) h.pos
 |.unp ts d,h=>.Assign [.Tuple (jd3 c ts (cl (q1 h))) (kk (q1 h)) (q1 h).pos] (unE T c d (q0 h)) h.pos
 |.asgC i d,h=>.Assign [.Name (nmA c i) (q1 h).pos] (unE T c d (q0 h)) h.pos
 |.setS o i d,h=>.Assign [.Subscript (unE T c o (c0 (q1 h))) (unE T c i (c1 (q1 h))) (q1 h).pos] (unE T c d (q0 h)) h.pos
 |.par is es,h=>.Assign [.Tuple (unNs c is (cl (q1 h))) (kk (q1 h)) (q1 h).pos] (.Tuple (unEs T c es (cl (q0 h))) (kk (q0 h)) (q0 h).pos) h.pos
 |.aug i o d,h=>.AugAssign (.Name (nmA c i) (q1 h).pos) o (unE T c d (q0 h)) h.pos
 |.augS a i o d,h=>.AugAssign (.Subscript (unE T c a (c0 (q1 h))) (unE T c i (c1 (q1 h))) (q1 h).pos) o (unE T c d (q0 h)) h.pos
 |.ite t a b,h=>.If (unE T c t (q0 h)) (unSs c a (qa h)) (unSs c b (qb h)) h.pos
 |.fr t it b,h=>.For (unTg c t (q1 h)) (unI T c it (q0 h)) (unSs c b (qa h)) [] h.pos
 |.wh t b,h=>.While (unE T c t (q0 h)) (unSs c b (qa h)) [] h.pos
 |.ret d,h=>.Return (some (unE T c d (q0 h))) h.pos
 |.retN,h=>.Return none h.pos
 |.never,h=>h
 |.raise k es,h=>.Raise (some (.Call (.Name (clsN k) (c0 (qr h)).pos) (unEs T c es (cl (qr h))) [] (qr h).pos)) none h.pos
 |.tr b k n hs,h=>.Try (unSs c b (qa h)) [.ExceptHandler (some (.Name (clsN k) (hTy h).pos)) (some (nmA c n)) (jfg c n hs (hBd h)) (hPs h)] [] [] h.pos
noncomputable def unSs (c:Ctx):Ss->List Stmt->List Stmt
 |.nil,_=>[]
 |.cons s r,hs=>unS c s (qh hs)::unSs c r hs.tail
end
def okA (c:Ctx):Tg->E->Stmt->Bool
 |.n i,.lc ..,_=>!(kd c (nmA c i) .local)
 |.n i,.lc2 ..,_=>!(kd c (nmA c i) .local)
 |.t _,.lc ..,_=>false
 |.t _,.lc2 ..,_=>false
 |.t ts,.tup es,h=>jcn c (jd3 c ts (cl (q1 h))) (unEs T c es (cl (q0 h)))
 |_,_,_=>true
noncomputable def okNs  (c:Ctx):List Nat->Bool
 |[]=>true
 |i::is=>decide (i<c.N.length)&&kd c (nmA c i) .local && !(is.contains i)&&okNs c is
mutual
noncomputable def okS (c:Ctx):S->Stmt->Bool
 |.pass,_=>false
 |.expr d,h=>okE T c d (q0 h) && !isLc d
 |.asg t d,h=>okE T c d (q0 h)&&okTg c t&&okA T c t d h
 |.unp ts d,h=>okE T c d (q0 h)&&jja c ts&&okA T c (.t ts) d h
 |.asgC i d,h=>isLc d&&okE T c d (q0 h)&&decide (i<c.N.length)&&lcSw c (nmA c i) (q1 h).pos (q0 h).pos (scp (q0 h))
 |.setS o i d,h=>okE T c d (q0 h)&&okE T c o (c0 (q1 h))&&okE T c i (c1 (q1 h))
 |.par is es,h=>okEs T c es (cl (q0 h))&&okNs c is&&swapped c (unNs c is (cl (q1 h))) (unEs T c es (cl (q0 h)))
 |.aug i _ d,h=>okN c i&&okE T c d (q0 h)
 |.augS _ _ _ _,_=>false
 |.ite t a b,h=>okE T c t (q0 h)&&okSs c a (qa h)&&okSs c b (qb h)
 |.fr t it b,h=>okTg c t&&okI T c t it (q0 h)&&okSs c b (qa h)
 |.wh t b,h=>okE T c t (q0 h)&&okSs c b (qa h)
 |.ret d,h=>okE T c d (q0 h)
 |.retN,_=>false
 |.never,_=>true
 |.raise k es,h=>okC T.cs c k&&decide (0<jaY es)&&okEs T c es (cl (qr h))
 |.tr b k n hs,h=>okSs c b (qa h)&&decide (k=0)&&glo c (clsN k)&&decide (n<c.N.length)&&kd c (nmA c n) .local && !(nmA c n==("__debug__" : Str)) && !(nmA c n==("__classdict__" : Str)) && !hs.isEmpty&&hs.all (okHS T.cs c n)
noncomputable def okSs (c:Ctx):Ss->List Stmt->Bool
 |.nil,_=>true
 |.cons s r,hs=>okS c s (qh hs)&&okSs c r hs.tail
end
end
def lSp  (K:Yac)(t:List U->Gp->K1->KX->Prop):Sp:=λvs H Q0 E0=>∃us G Q E,RUs K H us vs/\HR K H G/\t us G Q E/\(∀w v G' H',RU K H' w v->HR K H' G'->Fr H G H' G'->Q w G'->Q0 v H')/\
 ∀x G' H' C dx,XD K H' C dx x->HR K H' G'->Fr H G H' G'->E x G'->E0 (.ref C) (some dx) H'
def FnU  (P:Program)(w:World)(K:Yac)(mg:Str->Option Value)(base:Heap)(k:Nat)(d:Fun)(t:List U->Gp->K1->KX->Prop):Prop:=
 ∃(f:Addr) (fd:Ydk),FnOk P w K mg base (CX1 P w) (k+2) f fd d.ps (lSp K t)/\mg d.name=some (.ref f)/\Ybc K (.ref f)=true/\Binds K fd d.ps []
noncomputable def jcb  : List Str:=["len", "repr", "min", "max", "sum", "all", "any", "sorted", "int", "str", "isinstance", "range", "enumerate", "list", "tuple", "bool", "dict", "ValueError", "set", "zip"]
structure Cok (T:Tab)(k:Nat)(X:Cx)(c:Ctx):Prop where
 hN:X.N=c.N
 nd:c.N.Nodup
 loc:∀x,kd c x .local=true->X.env.scope.names.lookup x=some .local
 cel:∀x,kd c x .cell=true->X.env.scope.names.lookup x=some .cell/\X.fn x=true
 fre:∀x,kd c x .free=true->X.env.scope.names.lookup x=some .cell\/X.env.scope.names.lookup x=some .free
 glb:∀x,kd c x .globalImplicit=true->Gl X x
 room:Room k X.A
 calm:X.calm=true
 po:Yc9 (model X.prog X.w) X.A X.env X.xe
 blt:∀x∈jcb,X.mg x=none
 fns:∀(n:Nat) (d:Fun),T.funs[n]?=some d->FnU X.prog X.w X.K X.mg X.base k d (jab T k n)
 gls:∀(n:Nat) (x:Str) (u:U),T.gn[n]?=some x->T.gs[n]?=some u->∃v w,X.mg x=some w/\RelV v w/\∀H,RU X.K H u v
 room2:Room (k+2) X.A
 cls:∀n∈T.cs,1<=n->∃C,XCls X.K (gK X.K) (clsN n) (clsF n) C
 mgK:∀x v,gK X.K x=some v->X.mg x=some v
structure Cos (T:Tab)(k:Nat)(X:Cx)(c:Ctx):Prop extends Cok T k X c where
 sc:X.env.scope.names=c.sc
 kind:X.env.scope.kind=.function
 stk:X.stack=X.env::X.outer/\X.env.frame=some X.env.locals

def Cok.hu  {T: Tab}(h:Cok T k X c):X.A.units+1<cLine:=jpG h.room
def Cok.vis  {T: Tab}(h:Cok T k X c)(v:(kd c x .local||kd c x .cell||kd c x .free)=true):Vis X.env.scope x:=by
 simp only[Yb4]at v;rcases v with(v|v)|v
 ·exact .inl (h.loc x v)
 ·exact .inr (.inl (h.cel x v).1)
 ·rcases h.fre x v with z|z
  ·exact .inr (.inl z)
  ·exact .inr (.inr z)
def Cok.store  {T: Tab}(h:Cok T k X c)(v:(kd c x .local||kd c x .cell)=true):Loc X.env.scope x/\(X.fn x=true\/X.env.scope.names.lookup x=some .local):=by
 simp only[Yb4]at v;rcases v with v|v
 ·exact⟨.inl (h.loc x v),.inr (h.loc x v)⟩
 ·exact⟨.inr (h.cel x v).1,.inl (h.cel x v).2⟩
def Cok.gl  {T: Tab}(h:Cok T k X c)(v:glo c x=true):Gl X x/\(x==("__debug__" : Str))=false:=by
 unfold glo at v;rw[Yao]at v;exact⟨h.glb x v.1,by simpa using v.2⟩
noncomputable def jeZ  : Expr->Bool
 |.BoolOp ..|.BinOp ..|.UnaryOp ..|.IfExp ..|.Dict ..|.ListComp ..|.Compare ..|.Call ..|.Constant ..|.Subscript ..|.Name ..|.List ..|.Tuple ..|.JoinedStr ..=>true
 |_=>false

def jax  {T: Tab} ir h:jeZ (unE T c ir h)=true:=by cases ir<;>rfl
def jar   (h:jeZ e=true) es env:YaA (e::es) env=(false,eval e env)::YaA es env:=by
 cases e<;>first|rfl|cases h
def jlw   (h:jeZ e=true):jfS e:=by
 intro o i;cases e<;>first|rfl|cases h
def jbu   (h:jeZ e=true) env:∀x,Yay e env x=pure x:=by
 intro x;cases e<;>first|rfl|cases h
def jcS  {T: Tab} it h env:∀x,Yay (unI T c it h) env x=pure x:=by
 cases it with
 |e d=>exact jbu (jax d _) env
 |dk d=>exact jbu (jax d _) env
 |s d=>exact jbu (jax d _) env
 |_=>exact λ_=>rfl
def jjf   (h:jeZ i=true) env tpos:∀v,assign (.Subscript o i tpos) env v=(holding [v] (eval o env) >>= λa=>holding [v,a] (eval i env) >>= λb=>standAt tpos >>= λ_=>holding [v,a,b] (setItem a b v) >>= λ_=>release [v,a,b] []):=by
 intro v;cases i<;>first|rfl|cases h
def jko  {T: Tab}(q:isLc ir=false) h env l:YbU (unE T c ir h) none l env=pure false:=by
 cases ir<;>first|rfl|cases q
def jkn  {T: Tab}(q:isLc ir=false) h tg env l:Ybb [tg] (unE T c ir h) l env=pure false:=by
 cases ir<;>first|rfl|cases q
def jjy  {T: Tab} ir h x y p env l:Ybb [.Subscript x y p] (unE T c ir h) l env=pure false/\Ya0 [.Subscript x y p] (unE T c ir h) env=pure none:=by
 cases ir<;>exact⟨rfl,rfl⟩
def joD  {T: Tab} ir h x p env:Ya0 [.Name x p] (unE T c ir h) env=pure none:=by
 cases ir<;>rfl
def jhe   t h env:(Ya4 [unTg c t h] env).map (·.2)=[assign (unTg c t h) env]:=by
 cases t<;>rfl
def jiE   (h:jjX o=true) m env w:Yck o m env w=w:=by
 unfold Yck;split
 ·cases h
 ·rfl
theorem jcd  {T: Tab}: ∀es hs env pos ,(backTo pos (YaA (unEs T c es hs) env)).any (·.1)=false/\(backTo pos (YaA (unEs T c es hs) env)).all (λx=>!x.1)=true
 |.nil,_,_,_=>⟨rfl,rfl⟩
 |.cons d es,hs,env,pos=>by
  obtain⟨h1,h2⟩:=jcd es hs.tail env pos;show(backTo pos (YaA (unE T c d (hd hs)::unEs T c es hs.tail) env)).any (·.1)=false/\(backTo pos (YaA (unE T c d (hd hs)::unEs T c es hs.tail) env)).all (λx=>!x.1)=true;rw[jar (jax d _)];exact⟨by show(false||(backTo pos (YaA (unEs T c es hs.tail) env)).any (·.1))=false;rw[h1];rfl,by show(!false&&(backTo pos (YaA (unEs T c es hs.tail) env)).all (λx=>!x.1))=true;rw[h2];rfl⟩
theorem jhd  {T: Tab}: ∀es hs ,(unEs T c es hs).length=jaY es
 |.nil,_=>rfl
 |.cons _ es,hs=>congrArg (·+ 1) (jhd es hs.tail)
def ba   (h:(a&&b)=true):a=true/\b=true:=by simpa using h
def bn   (h:(!a)=true):a=false:=by simpa using h
def jhQ   (h:decide (i<c.N.length)=true):c.N[i]?=some (nmA c i):=by
 unfold nmA;rw[YaD,Yad (of_decide_eq_true h)];rfl
theorem jfh  : ∀{ts } {us } {ς } {k },tgsU ts us ς k->us.length=jez ts
 |.nil,us,ς,k,h=>by rw[h.1];rfl
 |.cons t ts,us,ς,k,h=>by
  cases us with
  |nil=>exact h.elim
  |cons u r=>
   have:∃ς',tgsU ts r ς' k:=tg_some h;obtain⟨ς',h'⟩:=this;show r.length+1=jez ts+1;rw[jfh h']
where
 tg_some {t:Tg} {u:U} {ς:Sg} {P:Sg->Prop} (h:tgU t u ς P):∃ς',P ς':=by
  have:=jcU (k':=λ_=>∃ς',P ς') h λς' h'=>⟨ς',h'⟩;exact tg_const this
 tg_const:∀{t:Tg} {u:U} {ς:Sg} {P:Prop},tgU t u ς (λ_=>P)->P
  |.n _,_,_,_,h=>h
  |.t ts,u,ς,P,h=>by
   cases u with
   |tup us=>exact tgs_const (ts:=ts) (us:=us) h
   |_=>exact h.elim
 tgs_const:∀{ts:Tgs} {us:List U} {ς:Sg} {P:Prop},tgsU ts us ς (λ_=>P)->P
  |.nil,_,_,_,h=>h.2
  |.cons t ts,us,ς,P,h=>by
   cases us with
   |nil=>exact h.elim
   |cons u r=>exact tg_const (jcU (t:=t) h λς' h'=>tgs_const h')
section
variable {T:Tab}{k:Nat}{X:Cx}{c:Ctx}
theorem jcT  : ∀ts hs env ,(Ya4 (jd3 c ts hs) env).length=jez ts/\(Ya4 (jd3 c ts hs) env).findIdx? (·.1)=none
 |.nil,_,_=>⟨rfl,rfl⟩
 |.cons t ts,hs,env=>by
  obtain⟨h1,h2⟩:=jcT ts hs.tail env;have e:Ya4 (jd3 c (.cons t ts) hs) env=(false,assign (unTg c t (hd hs)) env)::Ya4 (jd3 c ts hs.tail) env:=by cases t<;>rfl
  rw[e];exact⟨by simp[h1,jez],by simp[YcJ,h2]⟩
def Cok.nm   (C:Cok T k X c)(h:decide (i<c.N.length)=true):X.N[i]?=some (nmA c i):=by rw[C.hN];exact jhQ h
mutual
theorem sTg (C:Cok T k X c):∀(t:Tg) (h:Expr),okTg c t=true->PG X (unTg c t h) (lG X.K (tgU t))
 |.n _,_,q=>let s:=C.store (ba q).2;u_tn (by rw[C.hN];exact C.nd) (C.nm (ba q).1) s.1 s.2
 |.t ts,h,q=>u_tt C.calm (sTgs C ts (cl h) q) (jcT ts _ X.env).1 (jcT ts _ X.env).2 λus ς k q=>jfh q
theorem sTgs (C:Cok T k X c):∀(ts:Tgs) (hs:List Expr),jja c ts=true->PGs X (jd3 c ts hs) (lGs X.K (tgsU ts))
 |.nil,_,_=>joG
 |.cons t ts,hs,q=>joH (sTg C t (hd hs) (ba q).1) (sTgs C ts hs.tail (ba q).2) (by cases t<;>rfl)
end
def EB  (X:Cx)(σ:St):XK:=λcls dx H'=>∀(pins:List (Addr×Obj)) (ea:Addr) (s':Shared),Inv X pins σ H' s'->Lies X.s₀.heap.objs.size X.pn H' s'.heap ea cls dx->X.xe (.ref ea) s'
def jhy        {σ:St}(F:FnOk X.prog X.w X.K X.mg X.base (CX1 X.prog X.w) j f fd ps sp)(hr:Room j X.A)(hb:Binds X.K fd ps [])
  (I:Inv X pins σ H s) (r:Vals vs us) (h:sp vs H Q (EB X σ)):wpAny (model X.prog X.w) X.A (call (.ref f) us) (EP X pins σ Q) X.xe s:=by
 have hl:(us++[]).length=ps.length:=by rw[Ycq,<- r.length];exact F.len _ _ _ _ h
 have hbs:=hb s us I.kIn hl;rw[Ycq]at hbs;refine wpAny_call (YdE (F.run X.A X.stack s H ⟨us,[]⟩ us vs Q (EB X σ) hr I.env0 hbs r h) λr s' hq=>?_);cases r with
 |error e=>
  obtain⟨ea,H',cls,dx,rfl,I',l,q⟩:=CX1.back I hq;exact q pins ea s' I' l
 |ok fl=>
  cases fl with
  |ret u=>exact I.after hq
  |next=>exact YcS hq
  |brk=>exact YcS hq
  |cont=>exact YcS hq
def jhu         {E:KX}(r:RUs X.K H us vs)(hG:HR X.K H G)(h:jab T k n us G Q E)(lv:LV X H G Q Q0)(lx:LX X σ H G E):lSp X.K (jab T k n) vs H Q0 (EB X σ):=
 ⟨us,G,Q,E,r,hG,h,lv,λx G' H' C dx xd hr f q pins ea s' I' l=>lx pins (.ref ea) s' x G' H' I' ⟨ea,C,dx,rfl,l,xd⟩ hr f q⟩
def jl1         (C:Cok T k X c)(hd:T.funs[n]?=some d)(hx:d.name=x)(hg:glo c x=true)(ha:PA X (e::es) (lA X ts))
  (he:YaA (e::es) X.env=(false,eval e X.env)::YaA es X.env) (hpl:(backTo pos (YaA es X.env)).any (·.1)=false) :
  PE X (.Call (.Name x p) (e::es) [] pos) (lE X λς G Q E=>ts ς G (λus G1=>jab T k n us G1 Q E) E):=by
 obtain⟨f,fd,F,hm,hk,hb⟩:=C.fns n d hd;obtain⟨g1,g2⟩:=C.gl hg;rw[hx]at hm;intro pins s σ H Q0 I ⟨ς,G,Q,E,hς,hG,h,lv,lx⟩;refine Yb6 (jdd I g1 hm ?_ g2);have h':lA X ts σ H λvs H1=>lSp X.K (jab T k n) vs H1 Q0 (EB X σ):=⟨ς,G,_,E,hς,hG,h,λus vs G1 H1 rs hG1 f1 h1=>jhu rs hG1 h1 (lv.fr f1) (lx.fr f1),lx⟩;refine Yfa (h₀:=X.base) I.ok.mod.kin hk (thn (ha pos pins s σ H _ I h') λus s1 ⟨vs,H1,I1,r,q⟩=>⟨I1.kIn,?_⟩) he hpl;exact jhy F C.room2 hb I1 r q
def jks      (C:Cok T k X c)(hd:T.funs[n]?=some d)(hx:d.name=x)(hg:glo c x=true) :
  PE X (.Call (.Name x p) [] [] pos) (lE X λ_ G Q E=>jab T k n [] G Q E):=by
 obtain⟨f,fd,F,hm,hk,hb⟩:=C.fns n d hd;obtain⟨g1,g2⟩:=C.gl hg;rw[hx]at hm;intro pins s σ H Q0 I ⟨ς,G,Q,E,hς,hG,h,lv,lx⟩;refine Yb6 (jdd I g1 hm ?_ g2);exact PySem.W.callWith_K0 I.kIn hk (jhy (us:=[]) (vs:=[]) F C.room2 hb I .nil (jhu (show RUs X.K H [] []from rfl) hG h lv lx))
def Cok.comp     (C:Cok T k X c)(h:cOkS c N pick scope=true):CScope X N pick scope/\∀cl A s₀ H₀ fp,Cok T k (jad X N scope cl A s₀ H₀ fp) ⟨N,scope.names⟩:=by
 unfold cOkS at h;simp only[Yao,decide_eq_true_eq]at h;obtain⟨⟨⟨⟨⟨⟨h1,h2⟩,h3⟩,h4⟩,h5⟩,h6⟩,h7⟩:=h;have cells:∀y∈scope.names,y.2=.cell->scope.names.lookup y.1=some .cell:=λy hy hc=>by
  have:=List.all_eq_true.mp h2 y hy;rw[hc]at this;simpa using this
 refine⟨⟨h1,cells,λy hy hl=>?_,λy hy hf=>?_,by simpa using h5,λi j x e1 e2=>?_⟩,λcl A s₀ H₀ fp=>?_⟩
 ·have:=List.all_eq_true.mp h3 y hy;rw[hl]at this;simpa using this
 ·have:=List.all_eq_true.mp h4 y hy;rw[hf]at this;simp only[bne_self_eq_false,YeV,Yao,Yb4,beq_iff_eq]at this;refine⟨this.1,?_⟩;rcases this.2 with z|z
  ·exact .inl (C.cel _ z).1
  ·exact C.fre _ z
 ·have hz:(N.zip pick)[i]?=some (x,some j):=by rw[List.getElem?_zip_eq_some];exact⟨e1,e2⟩
  have:=List.all_eq_true.mp h6 _ (Yaq hz);rw[C.hN];simpa using this
 ·refine⟨rfl,h7,λx z=>?_,λx z=>?_,λx z=>?_,λx z=>?_,C.room,C.calm,Yc9.never,C.blt,C.fns,C.gls,C.room2,C.cls,C.mgK⟩
  ·exact jaA (by decide) (eq_of_beq z)
  ·exact⟨jaA (by decide) (eq_of_beq z),z⟩
  ·exact jaV (eq_of_beq z)
  ·exact glc (eq_of_beq z)
end
end Z

namespace Z
open PySem L2

def HR.newX  (h:HR K H G)(e:H p=none):HR K (upd H p (.xd l)) G:=⟨λa o q=>by
 have m:=h a o q;obtain⟨ho,e2⟩:=m.there;exact m.keep (jac (jah e2 e)) (TS.new e),h.tab.new e⟩
def HR.xdNone  (h:HR K H G)(e:H a=some (.xd l)):G a=none:=by
 cases q:G a with
 |none=>rfl
 |some o=>
  have m:=h a o q;cases o with
  |lst us=>obtain⟨_,e2,_⟩:=m;rw[e]at e2;cases e2
  |fro us=>obtain⟨_,_,e2,_⟩:=m;rw[e]at e2;cases e2
  |dK us=>obtain⟨_,e2,_⟩:=m;rw[e]at e2;cases e2
  |dT us=>obtain⟨_,e2,_⟩:=m;rw[e]at e2;cases e2
  |frd _ us=>obtain⟨_,e2,_⟩:=m;rw[e]at e2;cases e2
  |frk _ us=>obtain⟨_,e2,_⟩:=m;rw[e]at e2;cases e2
def XD.fr    (h:XD K H C dx x)(hG:HR K H G)(f:Fr H G H' G'):XD K H' C dx x:=by
 obtain⟨h1,h2,h3,l,hl,hn,r⟩:=h;exact⟨h1,h2,h3,l,(f dx _ hl (hG.xdNone hl)).1,hn,r.ts (f.ts hG)⟩
def jis  : ∀k<6,∀f∈clsF k,f∈fldN:=by decide +kernel
def jjr   k:∀f∈clsF k,f∈fldN:=by
 by_cases h:k<6
 ·exact jis k h
 ·intro f hf;have:clsF k=[]:=by
   unfold clsF;rw[YaD,Yb1 (by show clsA.length<=k;simp only[clsA,YaT,YcE];lia)];rfl
  rw[this]at hf;cases hf
def jgE  : ∀i<6,∀j<6,clsN i=clsN j->i=j:=by decide +kernel
def jir  : ∀i<6,1<=i->clsN i ≠ "PlanError" := by decide +kernel

def jgi    (h:okC cs c n=true):1<=n/\n<6/\n∈cs/\glo c (clsN n)=true:=by
 unfold okC at h;simp only[Yao,decide_eq_true_eq]at h;exact⟨h.1.1.1,h.1.1.2,by simpa using h.1.2,h.2⟩
def s_raise  {T: Tab}(C:Cok T k X c)(hn:okC T.cs c n=true)(ha:PA X (e::es) (lA X ts))(he:YaA (e::es) X.env=(false,eval e X.env)::YaA es X.env)(hpl:(backTo cpos (YaA es X.env)).any (·.1)=false) :
  PS X (.Raise (some (.Call (.Name (clsN n) p) (e::es) [] cpos)) none pos) (lS X λD ς G=>ts ς G (λus G1=>us.length=(clsF n).length/\D.ex ⟨n,us⟩ ς G1) λx G1=>D.ex x ς G1):=by
 obtain⟨n1,n2,n3,n4⟩:=jgi hn;obtain⟨Ca,cl⟩:=C.cls n n3 n1;obtain⟨g1,g2⟩:=C.gl n4;refine(jhB (k:=k) cl (jjr n) C.room2 g1 (C.mgK _ _ cl.m) ha g2 he hpl).imp λD σ H ⟨De,ς,G,hς,hG,h,ld⟩=>?_;refine⟨ς,G,_,_,hς,hG,h,λus vs G1 H1 rs hG1 f1 h1=>?_,ld.lx hς hG⟩;have hl:vs.length=(clsF n).length:=rs.length.symm.trans h1.1;refine⟨hl,λpins ea dx s' hd I l=>?_⟩;have f2:Fr H1 G1 (upd H1 dx (.xd ((clsF n).zip vs))) G1:=Fr.new hd;refine ld.ex pins (.ref ea) s' ⟨n,us⟩ ς σ G1 _ I ((hς.ts (f1.ts hG)).ts (f2.ts hG1)) ⟨ea,Ca,dx,rfl,l,n1,n2,cl,_,jai,?_,?_⟩ (hG1.newX hd) (f1.trans f2) h1.2
 ·exact Ygh (by lia)
 ·rw[List.map_snd_zip (by lia)]
  exact rs.ts (f2.ts hG1)
structure HC (T:Tab)(X:Cx)(c:Ctx)(n:Nat)(ea C dx:Addr)(x:XV):Prop where
 hN:X.N=c.N
 nd:c.N.Nodup
 loc:∀y,kd c y .local=true->X.env.scope.names.lookup y=some .local
 cel:∀y,kd c y .cell=true->X.env.scope.names.lookup y=some .cell/\X.fn y=true
 fre:∀y,kd c y .free=true->X.env.scope.names.lookup y=some .cell\/X.env.scope.names.lookup y=some .free
 glb:∀y,kd c y .globalImplicit=true->Gl X y
 blt:∀y∈jcb,X.mg y=none
 cls:∀n∈T.cs,1<=n->∃C,XCls X.K (gK X.K) (clsN n) (clsF n) C
 me:XCls X.K (gK X.K) (clsN x.c) (clsF x.c) C
 lo:1<=x.c
 hi:x.c<6
 pin:XPin X ea C dx
 mgK:∀y v,gK X.K y=some v->X.mg y=some v
 en:n<c.N.length/\kd c (nmA c n) .local=true/\(nmA c n==("__debug__" : Str))=false/\(nmA c n==("__classdict__" : Str))=false
structure HSt (X:Cx)(n:Nat)(ea C dx:Addr)(x:XV)(σ:St)(H:Hp)(ς:Sg)(G:Gp):Prop where
 sr:SR X.K H ς σ
 hr:HR X.K H G
 en:σ[n]?=some (some (.ref ea))
 xd:XD X.K H C dx x
def hB  (X:Cx)(n:Nat)(ea C dx:Addr)(x:XV)(f:Sg->Option Bool):TE:=λσ H Q=>∃ς G b,HSt X n ea C dx x σ H ς G/\f ς=some b/\∀H',HR X.K H' G->Fr H G H' G->Q (.bl b) H'
def hT  (X:Cx)(n:Nat)(ea C dx:Addr)(x:XV)(f:Sg->Option Bool):TT:=λσ H Q=>∃ς G b,HSt X n ea C dx x σ H ς G/\f ς=some b/\∀H',HR X.K H' G->Fr H G H' G->Q b H'

def HSt.fr      (h:HSt X n ea C dx x σ H ς G)(hr:HR X.K H' G')(f:Fr H G H' G'):HSt X n ea C dx x σ H' ς G':=⟨h.sr.ts (f.ts h.hr),hr,h.en,h.xd.fr h.hr f⟩
def HC.pe  {T: Tab}(h:HC T X c n ea C dx x):PE X (.Name (nmA c n) p) (tVar n):=by
 obtain⟨h1,h2,h3,h4⟩:=h.en;exact jb0 (by rw[h.hN];exact jhQ (decide_eq_true h1)) (.inl (h.loc _ h2)) h3 h4
def HC.gl  {T: Tab}(h:HC T X c n ea C dx x)(v:glo c y=true):Gl X y/\(y==("__debug__" : Str))=false:=by
 unfold glo at v;rw[Yao]at v;exact⟨h.glb y v.1,by simpa using v.2⟩
def HC.ownC  {T: Tab}(h:HC T X c n ea C dx x)(q:okC T.cs c m=true):∃C',XCls X.K (gK X.K) (clsN m) (clsF m) C'/\clsN m ≠ "PlanError" /\ ∀p,PE X (.Name (clsN m) p) (tC (.ref C')):=by
 obtain⟨m1,m2,m3,m4⟩:=jgi q;obtain⟨C',cl⟩:=h.cls m m3 m1;obtain⟨g1,g2⟩:=h.gl m4;exact⟨C',cl,jir m m2 m1,λp=>jhF g1 (h.mgK _ _ cl.m) rfl g2⟩
theorem HC.pcs  {T: Tab}(h:HC T X c n ea C dx x):∀{ks },ks.all (okC T.cs c)=true->∀hs ,∃(xs:List Str) (Cs:List Addr),xs=ks.map clsN/\XMany X (gK X.K) xs Cs/\Cs.length=ks.length/\PA X (unCs ks hs) (λ_ H Q=>Q (Cs.map .ref) H)
 |[],_,_=>⟨[],[],rfl,.nil,rfl,jdD⟩
 |m::ks,q,hs=>by
  simp only[Ybl,Yao]at q;obtain⟨C',cl,np,pe⟩:=h.ownC q.1;obtain⟨xs,Cs,e,mn,ln,pa⟩:=h.pcs q.2 hs.tail;subst e;exact⟨_,C'::Cs,rfl,.cons cl np mn,by simp[ln],jbd (pe _) pa⟩
def jfy  : YbN "isinstance" = some (.builtin "isinstance"):=Ydq
def HC.isiT  {T: Tab}(h:HC T X c n ea C dx x)(g1:Gl X "isinstance")(g2:(("isinstance" : Str)==("__debug__" : Str))=false)(mn:XMany X (gK X.K) xs Cs)(pa:PA X es (λ_ H Q=>Q (Cs.map .ref) H)) :
  PE X (.Call (.Name "isinstance" p3) [.Name (nmA c n) p1,.Tuple es kq p2] [] p4) (λσ H Q=>σ[n]?=some (some (.ref ea))/\Cs.length<=8/\∀p,H p=none->(∃l,upd H p (.tup (Cs.map .ref)) dx=some (.xd l))/\Q (.bl (xs.contains (clsN x.c))) (upd H p (.tup (Cs.map .ref)))):=by
 have isn:X.mg "isinstance" = none:=h.blt _ (by decide)
 have a1:PA X [.Tuple es kq p2] _:=jbd (jhE pa) jdD (jar rfl _ _);have a2:PA X [.Name (nmA c n) p1,.Tuple es kq p2] _:=jbd (h.pe) a1 (jar rfl _ _);have cr:=jiA h.me mn h.pin;have hh:YaA [.Name (nmA c n) p1,.Tuple es kq p2] X.env=(false,eval (.Name (nmA c n) p1) X.env)::YaA [.Tuple es kq p2] X.env:=jar rfl _ _;have hp:(backTo p4 (YaA [.Tuple es kq p2] X.env)).any (·.1)=false:=by rw[jar rfl];rfl
 refine PE.imp (jcL (p:=p3) (pos:=p4) cr g1 isn jfy a2 (by decide) g2 hh hp) λσ H Q ⟨e1,e2,k⟩=>?_
 refine⟨_,e1,?_,λp hp=>⟨p,rfl,jai,(k p hp).1,(k p hp).2⟩⟩;rw[Yaa,YbP];lia
def HC.lit  {T: Tab}(h:HC T X c n ea C dx x)(q:okHL T.cs c l=true) hx:PE X (unHL c n l hx) (hB X n ea C dx x λς=>litH x ς l)/\PT X (unHL c n l hx) (hT X n ea C dx x λς=>litH x ς l):=by
 have fin:PE X (unHL c n l hx) (hB X n ea C dx x λς=>litH x ς l):=by
  have isn:X.mg "isinstance" = none:=h.blt _ (by decide)
  have ven:X.mg "ValueError" = none:=h.blt _ (by decide)
  cases l with
  |v i=>
   have q':((decide (i<c.N.length)&&(kd c (nmA c i) .local||kd c (nmA c i) .cell||kd c (nmA c i) .free) && !(nmA c i==("__debug__" : Str)) && !(nmA c i==("__classdict__" : Str))))=true:=q;obtain⟨⟨⟨h1,h2⟩,h3⟩,h4⟩:=(⟨⟨ba (ba (ba q').1).1,(ba (ba q').1).2⟩,(ba q').2⟩:((_/\_)/\_)/\_);have vis:Vis X.env.scope (nmA c i):=by
    simp only[Yb4]at h2;rcases h2 with(z|z)|z
    ·exact .inl (h.loc _ z)
    ·exact .inr (.inl (h.cel _ z).1)
    ·exact(h.fre _ z).elim (λz=>.inr (.inl z)) λz=>.inr (.inr z)
   refine(jb0 (by rw[h.hN];exact jhQ h1) vis (bn h3) (bn h4)).imp λσ H Q ⟨ς,G,b,st,e,k⟩=>?_
   have e':(match ς[i]? with|some (some (U.bl b))=>some b|_=>none)=some b:=e
   split at e'
   ·rename_i b' eb;cases e';obtain⟨v,ev,r⟩:=st.sr.2 i _ eb;cases r;exact⟨_,ev,k H st.hr (Fr.refl _ _)⟩
   ·cases e'
  |isiV=>
   have q':(glo c "isinstance" && glo c "ValueError")=true:=q;obtain⟨g1,g2⟩:=h.gl (ba q').1;obtain⟨g3,g4⟩:=h.gl (ba q').2;refine(jcL (jiz h.me h.pin) g1 isn jfy (jbd h.pe (jbd (jhG (v:=.ty "ValueError") g3 ven (by decide +kernel) rfl (by decide) g4) jdD)) (by decide) g2 rfl rfl).imp λσ H Q ⟨ς,G,b,st,e,k⟩=>?_
   cases(show true=b from Yar e);obtain⟨_,_,_,l,hl,_⟩:=st.xd;exact⟨_,st.en,rfl,⟨l,hl⟩,k H st.hr (Fr.refl _ _)⟩
  |is1 m=>
   have q':(glo c "isinstance" && okC T.cs c m)=true:=q;obtain⟨g1,g2⟩:=h.gl (ba q').1;obtain⟨C',cl,np,pe⟩:=h.ownC (ba q').2;refine(jcL (jiB h.me cl np h.pin) g1 isn jfy (jbd h.pe (jbd (pe _) jdD)) (by decide) g2 rfl rfl).imp λσ H Q ⟨ς,G,b,st,e,k⟩=>?_
   have eb:decide (x.c=m)=b:=Yar e;have e2:decide (clsN x.c=clsN m)=b:=by
    rw[<- eb];obtain⟨_,m2,_⟩:=jgi (ba q').2;by_cases z:x.c=m
    ·simp[z]
    ·have:clsN x.c≠clsN m:=λy=>z (jgE _ h.hi _ m2 y);simp[z,this]
   obtain⟨_,_,_,l,hl,_⟩:=st.xd;exact⟨_,st.en,rfl,⟨l,hl⟩,by rw[e2];exact k H st.hr (Fr.refl _ _)⟩
  |isi ks=>
   have q':(glo c "isinstance" && ks.all (okC T.cs c)&&decide (ks.length<=8))=true:=q;obtain⟨g1,g2⟩:=h.gl (ba (ba q').1).1;obtain⟨xs,Cs,exs,mn,ln,pa⟩:=h.pcs (ba (ba q').1).2 (cl (hd (cl hx).tail));refine PE.imp (h.isiT g1 g2 mn pa) λσ H Q ⟨ς,G,b,st,e,k⟩=>?_;have eb:ks.contains x.c=b:=Yar e;have e2:xs.contains (clsN x.c)=b:=by
    rw[<- eb,exs];have all:∀m∈ks,m<6:=λm hm=>(jgi (List.all_eq_true.mp (ba (ba q').1).2 m hm)).2.1;rw[Ybu];simp only[List.contains_iff_mem,List.mem_map];constructor
    ·rintro⟨m,hm,em⟩;have:=jgE _ (all m hm) _ h.hi em;rw[<- this];exact hm
    ·intro hm;exact⟨_,hm,rfl⟩
   refine⟨st.en,?_,λp hp=>⟨?_,?_⟩⟩
   ·have:=of_decide_eq_true (ba q').2
    lia
   ·obtain⟨_,_,_,l,hl,_⟩:=(st.fr (st.hr.newT hp) (Fr.new hp)).xd;exact⟨l,hl⟩
   ·rw[e2];exact k _ (st.hr.newT hp) (Fr.new hp)
 refine⟨fin,?_⟩;have tr:∀whole,isTrue (unHL c n l hx) X.env whole=(do let v <- whole;standAt (unHL c n l hx).pos;holding [v] (truthy v)):=by
  intro whole;cases l<;>rfl
 refine(jmx fin tr).imp λσ H Q ⟨ς,G,b,st,e,k⟩=>?_;exact⟨ς,G,b,st,e,λH' a f=>⟨b,rfl,k H' a f⟩⟩
def HC.litN  {T: Tab}(h:HC T X c n ea C dx x)(q:okHL T.cs c p.2=true) hx:PE X (jff c n p hx) (hB X n ea C dx x λς=>lit1 x ς p)/\PT X (jff c n p hx) (hT X n ea C dx x λς=>lit1 x ς p):=by
 obtain⟨neg,l⟩:=p;cases neg with
 |false=>
  obtain⟨h1,h2⟩:=h.lit q hx;refine⟨PE.imp h1 λσ H Q ⟨ς,G,b,st,e,k⟩=>⟨ς,G,b,st,?_,k⟩,PT.imp h2 λσ H Q ⟨ς,G,b,st,e,k⟩=>⟨ς,G,b,st,?_,k⟩⟩ <;>
  ·unfold lit1 at e;dsimp only at e;split at e
   ·rename_i b' eb;show litH x ς l=some b;rw[eb];simpa using e
   ·cases e
 |true=>
  obtain⟨h1,h2⟩:=h.lit q (c0 hx);refine⟨PE.imp (jmN h1) λσ H Q ⟨ς,G,b,st,e,k⟩=>⟨ς,G,!b,st,?_,λH' a f=>⟨!b,rfl,by rw[Yff];exact k H' a f⟩⟩,PT.imp (jjP h2) λσ H Q ⟨ς,G,b,st,e,k⟩=>⟨ς,G,!b,st,?_,λH' a f=>by show Q (!!b) H';rw[Yff];exact k H' a f⟩⟩ <;>
  ·unfold lit1 at e;dsimp only at e;split at e
   ·rename_i b' eb;show litH x ς l=some (!b);rw[eb];have:(!b')=b:=by simpa using e
    rw[<- this,Yff]
   ·cases e
theorem HC.conds  {T: Tab}(h : HC T X c n ea C dx x) k : ∀ as (a : Bool × HL) hx hs pos , okHL T.cs c a.2 = true -> jc2 T.cs c as = true ->
    PE X (.BoolOp (boU k) (jff c n a hx :: jfW c n as hs) pos) (hB X n ea C dx x λς => jbW x ς k a as) /\ PW X (.BoolOp (boU k) (jff c n a hx :: jfW c n as hs) pos) (hT X n ea C dx x λς => jbW x ς k a as)
  | [], a, hx, hs, pos, q, _ => by
    obtain ⟨h1, h2⟩ := h.litN q hx
    cases k with
    | true => exact ⟨jgf h1, pw_and1 h2⟩
    | false => exact ⟨jgf h1, pw_or1 h2⟩
  | b :: r, a, hx, hs, pos, q, qs => by
    unfold jc2 at qs
    simp only [Ybl, Yao] at qs
    obtain ⟨h1, h2⟩ := h.litN q hx
    obtain ⟨r1, r2⟩ := h.conds k r b (hd hs) hs.tail pos qs.1 qs.2
    have red : ∀ {ς : Sg} {t b' : Bool}, lit1 x ς a = some t -> jbW x ς k a (b :: r) = some b' -> (if t = k then jbW x ς k b r else some t) = some b' := λ{ς t b'} e1 e2 => by
      have e3 : (match lit1 x ς a with | some t => if t = k then jbW x ς k b r else some t | none => none) = some b' := e2
      rw [e1] at e3
      exact e3
    have some1 : ∀ {ς : Sg} {b' : Bool}, jbW x ς k a (b :: r) = some b' -> ∃ t, lit1 x ς a = some t := λ{ς b'} e2 => by
      have e3 : (match lit1 x ς a with | some t => if t = k then jbW x ς k b r else some t | none => none) = some b' := e2
      cases z : lit1 x ς a with
      | none => rw [z] at e3; cases e3
      | some t => exact ⟨t, rfl⟩
    cases k with
    | true =>
      refine ⟨PE.imp (jmS h1 r1) λσ H Q ⟨ς, G, b', st, e, kk⟩ => ?_, PW.imp (pw_and h2 r2) λσ H Q ⟨ς, G, b', st, e, kk⟩ => ?_⟩ <;>
      · obtain ⟨t, et⟩ := some1 e
        have e' := red et e
        first
          | (refine ⟨ς, G, t, st, et, λH' hr f => ⟨t, rfl, ?_⟩⟩
             cases t with
             | true => exact ⟨ς, G, b', st.fr hr f, by simpa using e', λH'' a b => kk H'' a (f.trans b)⟩
             | false => cases (by simpa using e' : false = b'); exact kk H' hr f)
          | (refine ⟨ς, G, t, st, et, λH' hr f => ?_⟩
             cases t with
             | true => exact ⟨ς, G, b', st.fr hr f, by simpa using e', λH'' a b => kk H'' a (f.trans b)⟩
             | false => cases (by simpa using e' : false = b'); exact kk H' hr f)
    | false =>
      refine ⟨PE.imp (jpn h1 r1) λσ H Q ⟨ς, G, b', st, e, kk⟩ => ?_, PW.imp (pw_or h2 r2) λσ H Q ⟨ς, G, b', st, e, kk⟩ => ?_⟩ <;>
      · obtain ⟨t, et⟩ := some1 e
        have e' := red et e
        first
          | (refine ⟨ς, G, t, st, et, λH' hr f => ⟨t, rfl, ?_⟩⟩
             cases t with
             | false => exact ⟨ς, G, b', st.fr hr f, by simpa using e', λH'' a b => kk H'' a (f.trans b)⟩
             | true => cases (by simpa using e' : true = b'); exact kk H' hr f)
          | (refine ⟨ς, G, t, st, et, λH' hr f => ?_⟩
             cases t with
             | false => exact ⟨ς, G, b', st.fr hr f, by simpa using e', λH'' a b => kk H'' a (f.trans b)⟩
             | true => cases (by simpa using e' : true = b'); exact kk H' hr f)
def HC.cond  {T: Tab}(h:HC T X c n ea C dx x) k (a:Bool×HL) as hx (q:okHL T.cs c a.2=true)(qs:jc2 T.cs c as=true) :
  PE X (jfX c n k a as hx) (hB X n ea C dx x λς=>jbW x ς k a as)/\PT X (jfX c n k a as hx) (hT X n ea C dx x λς=>jbW x ς k a as):=by
 cases as with
 |nil=>exact h.litN q hx
 |cons b r=>let z:=h.conds k (b::r) a (hd (cl hx)) (cl hx).tail hx.pos q qs;exact⟨z.1,z.2.pt⟩
def hV  (X:Cx)(n:Nat)(ea C dx:Addr)(x:XV)(f:Sg->Gp->K1->Prop):TE:=λσ H Q0=>∃ς G Q,HSt X n ea C dx x σ H ς G/\f ς G Q/\LV X H G Q Q0
theorem jhb      : ∀{l:List (Str×V)} {us },RUs K H us (l.map (·.2))->((l.map (·.1)).zip us).lookup f=some u->∃v,l.lookup f=some v/\RU K H u v
 |[],us,_,e=>by simp at e
 |(y,v)::l,[],r,e=>by simp at e
 |(y,v)::l,w::us,r,e=>by
  obtain⟨v',vr,ev,r1,rs⟩:=r;simp only[YaM,Yfs]at ev;obtain⟨rfl,rfl⟩:=ev;simp only[YaM,YdP,YaZ]at e ⊢;split at e
  ·rename_i z;cases e;exact⟨v,rfl,r1⟩
  ·rename_i z;obtain⟨v',h1,h2⟩:=jhb rs e;exact⟨v',h1,h2⟩
def XD.get      (xd:XD K H C dx x)(e:atH x (.att f)=some u):∃l v,H dx=some (.xd l)/\l.lookup f=some v/\RU K H u v:=by
 obtain⟨_,_,_,l,hl,hn,r⟩:=xd;have e':((clsF x.c).zip x.fs).lookup f=some u:=e;rw[<- hn]at e';obtain⟨v,h1,h2⟩:=jhb r e';exact⟨l,v,hl,h1,h2⟩
def HC.at  {T: Tab}(h:HC T X c n ea C dx x)(q:okHA a=true) hx:PE X (unHA c n a hx) (λσ H Q0=>∃ς G u,HSt X n ea C dx x σ H ς G/\atH x a=some u/\∀v,RU X.K H u v->Q0 v H):=by
 cases a with
 |str y=>exact PE.imp jjS λσ H Q ⟨ς,G,u,st,e,k⟩=>by cases e;exact k _ rfl
 |att f=>
  have hf:f∈fldN:=by simpa[okHA]using q
  refine PE.imp (jkZ h.me h.pin hf h.pe rfl) λσ H Q ⟨ς,G,u,st,e,k⟩=>?_;obtain⟨l,v,hl,h1,h2⟩:=st.xd.get e;exact⟨_,st.en,rfl,l,v,hl,h1,k v h2⟩
def jlx   a hx es env:YaA (unHA c n a hx::es) env=(false,eval (unHA c n a hx) env)::YaA es env:=by cases a<;>rfl
theorem HC.ats  {T: Tab}(h:HC T X c n ea C dx x):∀{as } (_:as.all okHA=true) hs ,PA X (jiH c n as hs) (λσ H Q0=>∃ς G us,HSt X n ea C dx x σ H ς G/\atsH x as=some us/\∀vs,RUs X.K H us vs->Q0 vs H)
 |[],_,_=>λpos pins s σ H Q0 I ⟨ς,G,us,st,e,k⟩=>by cases e;exact jdD pos pins s σ H Q0 I (k [] rfl)
 |a::r,q,hs=>by
  simp only[Ybl,Yao]at q;refine PA.imp (jbd (h.at q.1 (hd hs)) (h.ats q.2 hs.tail) (jlx a _ _ _)) λσ H Q0 ⟨ς,G,us,st,e,k⟩=>?_;have e':(match atH x a,atsH x r with|some u,some us=>some (u::us)|_,_=>none)=some us:=e
  split at e'
  ·rename_i u us' e1 e2;cases e';exact⟨ς,G,u,st,e1,λv rv=>⟨ς,G,us',st,e2,λvs rvs=>k (v::vs) ⟨v,vs,rfl,rv,rvs⟩⟩⟩
  ·cases e'
theorem jfO  : ∀{as } {us },atsH x as=some us->us.length=as.length
 |[],us,e=>by cases e;rfl
 |a::r,us,e=>by
  have e':(match atH x a,atsH x r with|some u,some us=>some (u::us)|_,_=>none)=some us:=e
  split at e'
  ·rename_i u us' e1 e2;cases e';simp[jfO e2]
  ·cases e'
def HC.val  {T: Tab}(h:HC T X c n ea C dx x)(q:okHV T.cs c e=true) hx:PE X (unHV c n e hx) (hV X n ea C dx x λς G Q=>hvH x ς e G Q):=by
 cases e with
 |cond k a as=>
  have q':(okHL T.cs c a.2&&jc2 T.cs c as)=true:=q;refine PE.imp (h.cond k a as hx (ba q').1 (ba q').2).1 λσ H Q0 ⟨ς,G,Q,st,e,lv⟩=>?_;have e':(match jbW x ς k a as with|some b=>Q (.bl b) G|none=>False):=e
  split at e'
  ·rename_i b eb;exact⟨ς,G,b,st,eb,λH' hr f=>lv (.bl b) (.bl b) G H' rfl hr f e'⟩
  ·exact e'.elim
 |one a=>
  refine PE.imp (h.at (show okHA a=true from q) hx) λσ H Q0 ⟨ς,G,Q,st,e,lv⟩=>?_;have e':(match atH x a with|some u=>Q u G|none=>False):=e
  split at e'
  ·rename_i u eu;exact⟨ς,G,u,st,eu,λv rv=>lv.here rv st.hr e'⟩
  ·exact e'.elim
 |bl b=>exact PE.imp jmR λσ H Q0 ⟨ς,G,Q,st,e,lv⟩=>lv.bl st.hr e
 |tup as=>
  have q':(as.all okHA&&decide (as.length<=8))=true:=q;refine PE.imp (jhE (h.ats (ba q').1 (cl hx))) λσ H Q0 ⟨ς,G,Q,st,e,lv⟩=>?_;have e':(match atsH x as with|some us=>Q (.tup us) G|none=>False):=e
  split at e'
  ·rename_i us eu;refine⟨ς,G,us,st,eu,λvs rvs=>⟨?_,λp hp=>lv.tup hp rvs st.hr e'⟩⟩;have:=of_decide_eq_true (ba q').2;rw[<- rvs.length,jfO eu,YbP];lia
  ·exact e'.elim
 |lst as=>
  have q':(as.all okHA&&decide (as.length<=8))=true:=q;refine PE.imp (jjT (h.ats (ba q').1 (cl hx))) λσ H Q0 ⟨ς,G,Q,st,e,lv⟩=>?_;have e':(match atsH x as with|some us=>newO G (.lst us) Q|none=>False):=e
  split at e'
  ·rename_i us eu;refine⟨ς,G,us,st,eu,λvs rvs=>⟨?_,λp hp=>lv.lst hp rvs st.hr e'⟩⟩;have:=of_decide_eq_true (ba q').2;rw[<- rvs.length,jfO eu,YbP];lia
  ·exact e'.elim
def jh9   e hx y p env l:Ybb [.Name y p] (unHV c n e hx) l env=pure false/\Ya0 [.Name y p] (unHV c n e hx) env=pure none:=by
 cases e with
 |cond k a as=>
  cases as with
  |nil=>
   obtain⟨neg,l⟩:=a;cases neg<;>cases l<;>exact⟨rfl,rfl⟩
  |cons=>exact⟨rfl,rfl⟩
 |one a=>cases a<;>exact⟨rfl,rfl⟩
 |_=>exact⟨rfl,rfl⟩
def HC.store  {T: Tab}(h:HC T X c n ea C dx x)(q:okN c i=true):PG X (.Name (nmA c i) p) (jg3 i):=by
 have q':(decide (i<c.N.length)&&(kd c (nmA c i) .local||kd c (nmA c i) .cell))=true:=q;have v:=(ba q').2;simp only[Yb4]at v;rcases v with v|v
 ·exact jfm (by rw[h.hN];exact h.nd) (by rw[h.hN];exact jhQ (ba q').1) (.inl (h.loc _ v)) (.inr (h.loc _ v))
 ·exact jfm (by rw[h.hN];exact h.nd) (by rw[h.hN];exact jhQ (ba q').1) (.inr (h.cel _ v).1) (.inl (h.cel _ v).2)
def HSt.set         (h:HSt X n ea C dx x σ H ς G)(hi:i≠n)(r:RU X.K H u v):HSt X n ea C dx x (σ.set i (some v)) H (ς.set i (some u)) G:=
 ⟨h.sr.set r i,h.hr,by rw[YaS hi];exact h.en,h.xd⟩
def HC.asg  {T: Tab}(h:HC T X c n ea C dx x)(qi:okN c i=true)(hi:i≠n)(qe:okHV T.cs c e=true) st :
  PS X (jkp c n i e st) (λD σ H=>∃(ς:Sg) (G:Gp) (k:Sg->Gp->Prop),HSt X n ea C dx x σ H ς G/\hvH x ς e G (λu G1=>k (ς.set i (some u)) G1)/\∀ς' σ' G' H',HSt X n ea C dx x σ' H' ς' G'->Fr H G H' G'->k ς' G'->D.nx σ' H'):=by
 refine PS.imp (jgc (h.val qe (q0 st)) (h.store qi) (jh9 e _ _ _ _ _).1 (jh9 e _ _ _ _ 0).2 rfl) λD σ H ⟨ς,G,k,hs,hv,fin⟩=>?_;exact⟨ς,G,_,hs,hv,λu v G' H' r hr f q=>fin _ _ G' H' ((hs.fr hr f).set hi r) f q⟩
def hS  (X:Cx)(n:Nat)(ea C dx:Addr)(x:XV)(hs:List HS):L2.TS:=λD σ H=>∃ς G k,HSt X n ea C dx x σ H ς G/\hsH x hs ς G k/\∀ς' σ' G' H',HSt X n ea C dx x σ' H' ς' G'->Fr H G H' G'->k ς' G'->D.nx σ' H'
theorem HC.stmts  {T: Tab}(h:HC T X c n ea C dx x):∀{hs } (_:hs.all (okHS T.cs c n)=true) sts ,PSs X (jfg c n hs sts) (hS X n ea C dx x hs)
 |[],_,_=>PSs.imp jfl λD σ H ⟨ς,G,k,st,q,fin⟩=>fin ς σ G H st (Fr.refl _ _) q
 |.asg i e::r,q,sts=>by
  simp only[Ybl,Yao]at q;have q1:(okN c i&&decide (i≠n)&&okHV T.cs c e)=true:=q.1;refine PSs.imp (jd8 (h.asg (ba (ba q1).1).1 (of_decide_eq_true (ba (ba q1).1).2) (ba q1).2 (qh sts)) (h.stmts q.2 sts.tail)) λD σ H ⟨ς,G,k,st,hq,fin⟩=>?_;exact⟨ς,G,λς1 G1=>hsH x r ς1 G1 k,st,hq,λς' σ' G' H' st' f q'=>⟨ς',G',k,st',q',λς2 σ2 G2 H2 st2 f2 q2=>fin ς2 σ2 G2 H2 st2 (f.trans f2) q2⟩⟩
 |.ifa kk a as i e::r,q,sts=>by
  simp only[Ybl,Yao]at q;have q1:(okHL T.cs c a.2&&jc2 T.cs c as&&okN c i&&decide (i≠n)&&okHV T.cs c e)=true:=q.1;have p1:=jmE (pos:=(qh sts).pos) (h.cond kk a as (q0 (qh sts)) (ba (ba (ba (ba q1).1).1).1).1 (ba (ba (ba (ba q1).1).1).1).2).2 (jkM (h.asg (ba (ba (ba q1).1).1).2 (of_decide_eq_true (ba (ba q1).1).2) (ba q1).2 (qh (qa (qh sts))))) jfl;refine PSs.imp (jd8 p1 (h.stmts q.2 sts.tail)) λD σ H ⟨ς,G,k,st,hq,fin⟩=>?_;have nxt:∀ς' σ' G' H',HSt X n ea C dx x σ' H' ς' G'->Fr H G H' G'->hsH x r ς' G' k->hS X n ea C dx x r D σ' H':=λς' σ' G' H' st' f q'=>⟨ς',G',k,st',q',λς2 σ2 G2 H2 st2 f2 q2=>fin ς2 σ2 G2 H2 st2 (f.trans f2) q2⟩;have hq':(match jbW x ς kk a as with|some true=>hvH x ς e G λu G1=>hsH x r (ς.set i (some u)) G1 k|some false=>hsH x r ς G k|none=>False):=hq
  split at hq'
  ·rename_i ec;refine⟨ς,G,true,st,ec,λH' hr f=>?_⟩;refine iteT ?_;exact⟨ς,G,λς1 G1=>hsH x r ς1 G1 k,st.fr hr f,hq',λς' σ' G' H'' st' f' q'=>nxt ς' σ' G' H'' st' (f.trans f') q'⟩
  ·rename_i ec;refine⟨ς,G,false,st,ec,λH' hr f=>?_⟩;refine iteF ?_;exact nxt ς σ G H' (st.fr hr f) f hq'
  ·exact hq'.elim
def SR.hide      (h:SR K H ς σ) n o:SR K H (ς.set n none) (σ.set n o):=by
 refine⟨by simp[h.1],λi u e=>?_⟩
 by_cases z:i=n
 ·subst z;rw[List.getElem?_set]at e;simp only[if_true]at e;split at e<;>cases e
 ·rw[YaS (Ne.symm z)]at e ⊢;exact h.2 i u e

def s_try  {T: Tab}{sts:List Stmt}(C:Cos T k X c)(hm:decide (m=0)=true)(hg:glo c (clsN m)=true)(hn:decide (n<c.N.length)=true)(hl:kd c (nmA c n) .local=true)(hd1:(nmA c n==("__debug__" : Str))=false)(hd2:(nmA c n==("__classdict__" : Str))=false)
  (hne:hs.isEmpty=false) (hok:hs.all (okHS T.cs c n)=true) (hb:∀pins xe ,Yc9 (model X.prog X.w) X.A X.env xe->PSs (X.tryC pins xe) b (lS (X.tryC pins xe) tb)) :
  PS X (.Try b [.ExceptHandler (some (.Name (clsN m) pt)) (some (nmA c n)) (jfg c n hs sts) ph] [] [] pos)
   (lS X λD ς G=>tb { D with ex:=λx ς1 G1=>(m=0\/x.c=m)/\hsH x hs (ς1.set n none) G1 λς2 G2=>D.nx (ς2.set n none) G2 } ς G):=by
 intro pins s σ H D I ⟨De,ς,G,hς,hG,h0,ld⟩;obtain⟨s0,sr,hse⟩:∃s0 sr,jfg c n hs sts=s0::sr:=by
  cases hs with
  |nil=>cases hne
  |cons a r=>exact⟨_,_,rfl⟩
 have nd:X.N.Nodup:=by rw[C.hN];exact C.nd
 have hi:X.N[n]?=some (nmA c n):=C.toCok.nm hn;have hlc:=C.loc _ hl;obtain⟨gl1,gl2⟩:=C.toCok.gl hg
 let XT:Value->Shared->Prop:=λe s₁=>wpAny (model X.prog X.w) X.A (Ygb e X.env) (λ_ s₂=>wpAny (model X.prog X.w) X.A (Yec e none) (λ_ s₃=>wpAny (model X.prog X.w) X.A (handleBy e X.env [.ExceptHandler (some (.Name (clsN m) pt)) (some (nmA c n)) (jfg c n hs sts) ph]) (SP X pins D) X.xe s₃) X.xe s₂) X.xe s₁
 have main:∀(pins':List (Addr×Obj)) (e:Value) (s':Shared) (x:XV) ς' σ' G' H',Inv (X.tryC pins XT) pins' σ' H' s'->SR X.K H' ς' σ'->XAt (X.tryC pins XT) H' s' e x->HR X.K H' G'->Fr H G H' G'->((m=0\/x.c=m)/\hsH x hs (ς'.set n none) G' λς2 G2=>De.nx (ς2.set n none) G2)->XT e s':=by
  intro pins' e s' x ς' σ' G' H' I' sr' xat hr' f' ⟨hmx,hq⟩;obtain⟨ea,C0,dx,rfl,l,xd⟩:=xat;have xd0:=xd;obtain⟨x1,x2,xc,lx,hlx,hnx,rx⟩:=xd0;have I0:Inv (X.tryC pins XT) [] σ' H' s':=I'.pins_of λp hp=>absurd hp (by simp)
  refine jj2 (X:=X.tryC pins XT) (E:=X.xe) I0 C.stk.1 C.stk.2 l λh' J l'=>?_;refine wpAny_handleBy_cons ?_ (by intro z;cases z)
  refine codeAny_handlers_test ?_;have J':Inv ((X.tryC pins XT).inH (.ref ea) []) [] σ' H' { s' with heap:=h' }:=J.hIn λq hq=>absurd hq (by simp)
  have fin:∀s2:Shared,s2={ s' with heap:=h' }->codeAny (model X.prog X.w) (X.A.mark (some (.ref ea))) (Code.handlers (.ref ea) [.ExceptHandler none (some (nmA c n)) (jfg c n hs sts) ph] X.env)
    (λr s₂=>match r with
     |.ok f=>wpAny (model X.prog X.w) X.A (do YcC X.env (nmA c n) .none;unbindBehindTheSuite X.env (nmA c n) ph) (λ_ s₃=>SP X pins D f s₃) X.xe s₂
     |.error y=>cameBackBy (model X.prog X.w) X.A X.env X.xe y s₂) s2:=by
   intro s2 es2;subst es2;rw[hse];refine codeAny_handlers_suite_as ?_;refine je0 (X:=X.tryC pins XT) J l' λh2 J2 l2=>?_;obtain⟨oe,g1,g2,g3,⟨vs,g4⟩,g5⟩:=l2.pinned J2;have J3:Inv ((X.tryC pins XT).inH (.ref ea) [(ea,oe)]) [] σ' H' { s' with heap:=h2 }:=J2.hIn g5
   refine jaZ (X:=(X.tryC pins XT).inH (.ref ea) [(ea,oe)]) (v:=.ref ea) J3 nd hi (.inl hlc) rfl (λs3 J4=>?_) (.inr hlc);have hc:HC T ((X.tryC pins XT).inH (.ref ea) [(ea,oe)]) c n ea C0 dx x:=⟨C.hN,C.nd,C.loc,C.cel,C.fre,C.glb,C.blt,C.cls,xc,x1,x2,⟨oe,vs,by simp only[Cx.inH];exact YaN _ (List.mem_singleton.mpr rfl),g2,g3,g4⟩,C.mgK,of_decide_eq_true hn,hl,hd1,hd2⟩
   have hσ:n<σ'.length:=by
    have:=J3.len;rw[this];exact(List.getElem?_eq_some_iff.mp hi).1
   have hst:HSt ((X.tryC pins XT).inH (.ref ea) [(ea,oe)]) n ea C0 dx x (σ'.set n (some (.ref ea))) H' (ς'.set n none) G':=⟨sr'.hide n _,hr',by rw[Ybi hσ],xd⟩
   rw[<- hse];refine YaY (hc.stmts hok sts [] s3 _ H' ⟨λσ2 H2=>D.nx (σ2.set n none) H2,λ_ _=>False,λ_ _=>False,λ_ _=>False⟩ J4 ⟨_,G',_,hst,hq,λς2 σ2 G2 H2 st2 f2 q2=>?_⟩) (λfl s4 q4=>?_) λ_ _ z=>YcS z
   ·exact ld.nx _ _ G2 H2 (st2.sr.hide n none) st2.hr (f'.trans f2) q2
   ·cases fl with
    |next=>
     obtain⟨σ2,H2,J5,q5⟩:=q4;exact jhR (X:=X.tryC pins XT) (J5.hOut J.ok) nd hi hlc λs5 J6=>⟨σ2.set n none,H2,J6.tryOut,q5⟩
    |brk=>obtain⟨_,_,_,z⟩:=q4;exact z.elim
    |cont=>obtain⟨_,_,_,z⟩:=q4;exact z.elim
    |ret u=>obtain⟨_,_,_,_,_,z⟩:=q4;exact z.elim
  obtain⟨oe,vs,he,hcl,_⟩:=l'.ob;by_cases m0:m=0
  ·obtain⟨D0,N0,fI,mN,mD,B,_⟩:=xc.ex;have hmg:X.mg (clsN m)=some (.ref D0):=by rw[m0];exact C.mgK _ _ B.m
   refine jdd J' gl1 hmg ?_ gl2;refine jgT (X:=X) xc B J'.kIn he hcl ?_;exact fin _ rfl
  ·exact absurd (of_decide_eq_true hm) m0
 refine wpAny_Try_except (YaY (hb pins XT Ye4 [] s σ H ⟨D.nx,D.rt,D.bk,D.ct⟩ I.tryIn ⟨_,ς,G,hς,hG,h0,⟨ld.nx,ld.rt,main⟩⟩) (λfl s1 q1=>?_) λe s1 z=>z);cases fl with
 |next=>
  obtain⟨σ',H',J,q⟩:=q1;exact YcL ⟨σ',H',J.tryOut,q⟩
 |brk=>obtain⟨σ',H',J,q⟩:=q1;exact⟨σ',H',J.tryOut,q⟩
 |cont=>obtain⟨σ',H',J,q⟩:=q1;exact⟨σ',H',J.tryOut,q⟩
 |ret u=>obtain⟨v,σ',H',J,r,q⟩:=q1;exact⟨v,σ',H',J.tryOut,r,q⟩
section
variable {T:Tab}{k:Nat}
def jlj   b:bltN b∈jcb:=by cases b<;>decide
def jl3  : ∀n∈jhg,YbN (Yco n)=some (.type n)/\Yco n∈jcb/\Yco n ≠ "__name__" := by decide +kernel
abbrev SE  (T:Tab)(k:Nat)(X:Cx)(c:Ctx)(ir:E)(h:Expr):Prop:=PE X (unE T c ir h) (lE X (den T.gs (jab T k) ir).1)/\PT X (unE T c ir h) (lT X (den T.gs (jab T k) ir).2)

def tru    (h:PE X e (lE X t))(hp:∀whole,isTrue e X.env whole=(do let v <- whole;standAt e.pos;holding [v] (truthy v))):PE X e (lE X t)/\PT X e (lT X (truT t)):=⟨h,joI h hp⟩
def jmm   {rest:List Expr}(ha:PE X a (lE X p.1)/\PT X a (lT X p.2))(hb:PE X (.BoolOp .And (b::rest) pos) (lE X q.1)/\PW X (.BoolOp .And (b::rest) pos) (lT X q.2)) :
  PE X (.BoolOp .And (a::b::rest) pos) (lE X (comb true p q).1)/\PW X (.BoolOp .And (a::b::rest) pos) (lT X (comb true p q).2):=⟨joU ha.1 hb.1,jl2 ha.2 hb.2⟩
def jo8   {rest:List Expr}(ha:PE X a (lE X p.1)/\PT X a (lT X p.2))(hb:PE X (.BoolOp .Or (b::rest) pos) (lE X q.1)/\PW X (.BoolOp .Or (b::rest) pos) (lT X q.2)) :
  PE X (.BoolOp .Or (a::b::rest) pos) (lE X (comb false p q).1)/\PW X (.BoolOp .Or (a::b::rest) pos) (lT X (comb false p q).2):=⟨u_or ha.1 hb.1,joJ ha.2 hb.2⟩
def se_v    (C:Cok T k X c)(q:okE T c (.v i) h=true):SE T k X c (.v i) h:=tru (joE (C.nm (ba (ba (ba q).1).1).1) (C.vis (ba (ba (ba q).1).1).2) (bn (ba (ba q).1).2) (bn (ba q).2)) λ_=>rfl
def se_g    (C:Cok T k X c)(q:okE T c (.g n) h=true):SE T k X c (.g n) h:=by
 have h1:=of_decide_eq_true (ba (ba q).1).1;have h2:=of_decide_eq_true (ba (ba q).1).2;have hn:T.gn[n]?=some (T.gn.getD n ""):=by rw[YaD,Yad h2];rfl
 obtain⟨v,w,m,r,ru⟩:=C.gls n _ T.gs[n] hn (by simp[h1])
 obtain⟨g1,g2⟩:=C.gl (ba q).2;refine tru (PE.imp (u_gl (u:=T.gs[n]) g1 m r ru g2) λσ H Q0 ⟨ς,G,Q,E,hς,hG,h,lv,lx⟩=>⟨ς,G,Q,E,hς,hG,?_,lv,lx⟩) λ_=>rfl;have h':glU T.gs n λu=>Q u G:=h;unfold glU at h';rw[Yad h1]at h';exact h'
def jo7    (C:Cok T k X c)(q:okE T c (.ty n) h=true):SE T k X c (.ty n) h:=by
 obtain⟨g1,g2⟩:=C.gl (ba q).2;obtain⟨t1,t2,t3⟩:=jl3 n (by simpa using (ba q).1)
 exact tru (u_ty g1 (C.blt _ t2) t1 t3 g2) λ_=>rfl
def jmi     (h1:PPs X h.pos (unK T c es (dk h)) (unV T c es (cl h)) trs)(h2:lD X (denD T.gs (jab T k) es) trs)(h3:(unK T c es (dk h)).all (·.isSome)=true)(h4:(unK T c es (dk h)).length=(unV T c es (cl h)).length)
  (h5:(unK T c es (dk h)).length<=15):SE T k X c (.dic es) h:=by
 refine tru ?_ λ_=>rfl
 match es,h1,h2,h3,h4,h5 with
 |.nil,_,_,_,_,_=>exact PE.imp jlY λσ H Q0 ⟨ς,G,Q,E,hς,hG,h,lv,lx⟩=>⟨ς,G,Q,E,hς,hG,(show([]:List (Key×U)).length<=15/\newO G (.dK (jds [])) Q from h).2,lv,lx⟩
 |.cons _ .nil,_,_,_,_,_=>exact λpins s σ H Q0 I ⟨ς,G,Q,E,hς,hG,h,lv,lx⟩=>(show False from h).elim
 |.cons d (.cons f es),h1,h2,h3,h4,h5=>exact joQ h1 h2 h3 h4 (λz=>nomatch z) h5
def jkE     (C:Cok T k X c)(q:okE T c (.call n es) h=true)(ha:PA X (unEs T c es (cl h)) (lA X (jaO T.gs (jab T k) es))):SE T k X c (.call n es) h:=by
 refine tru ?_ λ_=>rfl;have hn:=of_decide_eq_true (ba (ba q).1).1;have hd':T.funs[n]?=some T.funs[n]:=by simp[hn]
 have hx:T.funs[n].name=fnN T n:=by unfold fnN;rw[hd']
 match es,ha with
 |.nil,_=>exact jks C hd' hx (ba (ba q).1).2
 |.cons d es,ha=>exact jl1 C hd' hx (ba (ba q).1).2 ha (jar (jax d _) _ _) (jcd es _ _ _).1
def jmj     (C:Cok T k X c)(q:okE T c (.blt b es) h=true)(ha:PA X (unEs T c es (cl h)) (lA X (jaO T.gs (jab T k) es))):SE T k X c (.blt b es) h:=by
 refine tru ?_ λ_=>rfl;obtain⟨g1,g2⟩:=C.gl (ba (ba q).1).2
 match es,ha,q with
 |.nil,_,q=>exact absurd (of_decide_eq_true (ba (ba q).1).1) (Ya6 0)
 |.cons d es,ha,_=>exact joS (jn0 C.room C.calm b) g1 (C.blt _ (jlj b)) ha (jar (jax d _) _ _) (jcd es _ _ _).1
def jkD      (q:okE T c (.meth m o es) h=true)(ho:PE X (unE T c o (c0 (c0 h))) (lE X (den T.gs (jab T k) o).1))(ha:PA X (unEs T c es (cl h)) (lA X (jaO T.gs (jab T k) es))):SE T k X c (.meth m o es) h:=by
 refine tru ?_ λ_=>rfl;have h6:=(ba q).2;have h5:=of_decide_eq_true (ba (ba q).1).2;have h4:=(ba (ba (ba q).1).1).2
 match es,ha,h5 with
 |.nil,_,_=>exact jkq (jjZ m) ho (jiE h6 _ _ _) h4
 |.cons d es,ha,h5=>
  refine jlV (jjZ m) ho ha (jiE h6 _ _ _) ?_ h4 (jar (jax d _) _ _) (jcd es _ _ _).1;have e:=(jcd (T:=T) (c:=c) (.cons d es) (cl h) X.env h.pos).2;show((backTo h.pos (YaA (unEs T c (.cons d es) (cl h)) X.env)).all (λx=>!x.1)&&_&&decide ((unEs T c (.cons d es) (cl h)).length+0+0<30))=true;rw[e,jhd];exact decide_eq_true h5
def jmk    (h:PT X e (lT X (den T.gs (jab T k) d).2)):PIfs X [e] (lT0 X.K (denC T.gs (jab T k) (.cons d .nil))):=by
 refine PIfs.imp (jkW (lT0.of h)) λσ H Q0 ⟨ς,G,Q,h1,h2,h3,h4⟩=>⟨ς,G,λb G'=>Q b G',h1,h2,?_,h4⟩;have h3':(den T.gs (jab T k) d).2 ς G (λb G1=>if b=true then Q true G1 else Q false G1) (λ_ _=>False):=h3
 have e:(λ(b:Bool) (G1:Gp)=>if b=true then Q true G1 else Q false G1)=λb G'=>Q b G':=by
  funext b G1;cases b<;>simp
 rw[e]at h3';exact h3'
def jml  : PIfs X [] (lT0 X.K (denC T.gs (jab T k) .nil)):=PIfs.imp jkX λσ H Q0 ⟨ς,G,Q,h1,h2,h3,h4⟩=>h4 true G H h2 (Fr.refl _ _) h3
theorem jnt  : ∀es hs ,2*(unK T c es hs).length<=jaY es
 |.nil,_=>Yah _
 |.cons _ .nil,_=>YaP _
 |.cons _ (.cons _ es),hs=>by
  have:=jnt (c:=c) es hs.tail;show 2*((unK T c es hs.tail).length+1)<=jaY es+1+1
  lia
def k_le    (h:jaY es<=30):(unK T c es hs).length<=15:=by
 have:=jnt (T:=T) (c:=c) es hs
 lia
mutual
theorem sE:∀(ir:E) {X:Cx} {c:Ctx} {h:Expr},Cok T k X c->okE T c ir h=true->SE T k X c ir h
 |.v _,_,_,_,C,q=>se_v C q
 |.non,_,_,_,_,_=>tru (jce (u:=.non) jmO λ_=>rfl) λ_=>rfl
 |.bl b,_,_,_,_,_=>tru (jce (u:=.bl b) jmR λ_=>rfl) λ_=>rfl
 |.int i,_,_,_,_,_=>tru (jce (u:=.int i) jmQ λ_=>rfl) λ_=>rfl
 |.str x,_,_,_,_,_=>tru (jce (u:=.str x) jjS λ_=>rfl) λ_=>rfl
 |.g _,_,_,_,C,q=>se_g C q
 |.ty _,_,_,_,C,q=>jo7 C q
 |.bin o a b,_,_,_,C,q=>tru (joT (jmY o) (sE a C (ba q).1).1 (sE b C (ba q).2).1) λ_=>rfl
 |.neg a,_,_,_,C,q=>tru (joL (sE a C q).1) λ_=>rfl
 |.not a,_,_,_,C,q=>⟨joK (sE a C q).1,jlU (sE a C q).2⟩
 |.bop k a es,_,_,h,C,q=>let r:=sB es k C (sE a C (ba q).1) (ba q).2 h.pos;⟨r.1,r.2.pt⟩
 |.cmp o a b,_,_,_,C,q=>⟨joR (jdY C.room o) (sE a C (ba (ba q).1).1).1 (sE b C (ba (ba q).1).2).1 (bn (ba q).2),jlZ (jdY C.room o) (sE a C (ba (ba q).1).1).1 (sE b C (ba (ba q).1).2).1 (bn (ba q).2)⟩
 |.cmp2 o p a b d,_,_,_,C,q=>⟨jl0 (jdY C.room o) (jdY C.room p) (sE a C (ba (ba (ba q).1).1).1).1 (sE b C (ba (ba (ba q).1).1).2).1 (sE d C (ba (ba q).1).2).1 (bn (ba q).2),
   PT.imp (jkr (jdY C.room o) (jdY C.room p) (sE a C (ba (ba (ba q).1).1).1).1 (sE b C (ba (ba (ba q).1).1).2).1 (sE d C (ba (ba q).1).2).1 (bn (ba q).2)) λ_ _ _ ⟨ς,G,Q,E,hς,hG,h,lv,lx⟩=>⟨ς,G,Q,E,hς,hG,h,lv,lx⟩⟩
 |.ife _ _ _,_,_,_,_,q=>nomatch q
 |.tup es,_,_,_,C,q=>tru (joF (sEs es C q)) λ_=>rfl
 |.lst es,_,_,_,C,q=>tru (joO (sEs es C q)) λ_=>rfl
 |.dic es,_,_,h,C,q=>let ⟨_,h1,h2,h3,h4⟩:=sD es C h.pos (ba q).1;jmi h1 h2 h3 h4 (k_le (of_decide_eq_true (ba q).2))
 |.dicT,_,_,_,_,_=>tru jlX λ_=>rfl
 |.ix a b,_,_,_,C,q=>tru (u_ix C.hu (sE a C (ba q).1).1 (sE b C (ba q).2).1 (jlw (jax b _))) λ_=>rfl
 |.sl a lo hi,_,_,_,C,q=>tru (u_sl (sE a C (ba (ba q).1).1).1 (sO lo C (ba (ba q).1).2) (sO hi C (ba q).2)) λ_=>rfl
 |.rev _ _,_,_,_,_,q=>nomatch q
 |.call _ es,_,_,_,C,q=>jkE C q (sEs es C (ba q).2)
 |.app _ _,_,_,_,_,_=>⟨λ_ _ _ _ _ _ ⟨_,_,_,_,_,_,h,_⟩=>(show False from h).elim,λ_ _ _ _ _ _ ⟨_,_,_,_,_,_,h,_⟩=>(show False from h).elim⟩
 |.blt _ es,_,_,_,C,q=>jmj C q (sEs es C (ba q).2)
 |.meth _ o es,_,_,_,C,q=>jkD q (sE o C (ba (ba (ba (ba q).1).1).1).1).1 (sEs es C (ba (ba (ba (ba q).1).1).1).2)
 |.lc _ t it ifs d,_,_,_,C,q=>let S:=C.comp (ba (ba (ba (ba (ba (ba q).1).1).1).1).1).1
   tru (u_lc C.calm S.1 (sI it t _ _ C (ba (ba (ba (ba q).1).1).1).2).1 (ba (ba (ba (ba (ba (ba q).1).1).1).1).1).2 (λcl A s₀ H₀ fp=>sTg (S.2 cl A s₀ H₀ fp) t _ (ba (ba (ba (ba (ba q).1).1).1).1).2)
    (λcl A s₀ H₀ fp=>sC ifs (S.2 cl A s₀ H₀ fp) (of_decide_eq_true (ba (ba q).1).2) (ba (ba (ba q).1).1).2) (λcl A s₀ H₀ fp=>lE0.of (sE d (S.2 cl A s₀ H₀ fp) (ba q).2).1) (sI it t ⟨[],[]⟩ e0 C (ba (ba (ba (ba q).1).1).1).2).2) λ_=>rfl
 |.lc2 _ t it ifs t2 it2 ifs2 d,_,_,_,C,q=>let S:=C.comp (ba q).1
   let q1:=(ba q).2;let q2:=(ba q1).2;let q3:=(ba q2).2;let q4:=(ba q3).2;let q5:=(ba q4).2;let q6:=(ba q5).2;let q7:=(ba q6).2;let q8:=(ba q7).2;let q9:=(ba q8).2;let qa:=(ba q9).2;let qb:=(ba qa).2
   tru (joP C.calm S.1 (sI it t _ _ C (ba q6).1).1 (ba q1).1 (ba q2).1 (ba q3).1 (λcl A s₀ H₀ fp=>sTg (S.2 cl A s₀ H₀ fp) t _ (ba q4).1)
    (λcl A s₀ H₀ fp=>sC ifs (S.2 cl A s₀ H₀ fp) (of_decide_eq_true (ba qa).1) (ba q8).1) (λcl A s₀ H₀ fp=>lE0.of (sE d (S.2 cl A s₀ H₀ fp) (ba qb).2).1)
    (λcl A s₀ H₀ fp=>lI0.of (sI it2 t2 _ _ (S.2 cl A s₀ H₀ fp) (ba q7).1).1) (λcl A s₀ H₀ fp=>sTg (S.2 cl A s₀ H₀ fp) t2 _ (ba q5).1) (λcl A s₀ H₀ fp=>sC ifs2 (S.2 cl A s₀ H₀ fp) (of_decide_eq_true (ba qb).1) (ba q9).1) (λenv=>jcS it2 _ env) (jcS it _ _)) λ_=>rfl
 |.fst _,_,_,_,_,q=>nomatch q
 |.lrp _ _ _ _ _ _,_,_,_,_,q=>nomatch q
 |.sset _,_,_,_,_,q=>nomatch q
 |.mkD _,_,_,_,_,q=>nomatch q
 |.maxD _,_,_,_,_,q=>nomatch q
 |.minD _,_,_,_,_,q=>nomatch q
 |.mkL d,_,_,_,C,q=>tru (joN (C.gl (ba q).1).1 (C.blt _ (by decide)) (sE d C (ba q).2).1 (jar (jax d _) _ _)) λ_=>rfl
 |.mkT d,_,_,_,C,q=>tru (joM (C.gl (ba q).1).1 (C.blt _ (by decide)) (sE d C (ba q).2).1 (jar (jax d _) _ _)) λ_=>rfl
 |.rngL d,_,_,_,C,q=>tru (jlT C.calm (C.gl (ba (ba q).1).1).1 (C.blt _ (by decide)) (C.gl (ba (ba q).1).2).1 (C.blt _ (by decide)) (sE d C (ba q).2).1 (jar (jax d _) _ _) rfl) λ_=>rfl
 |.rngT _,_,_,_,_,q=>nomatch q
 |.rngL2 _ _,_,_,_,_,q=>nomatch q
theorem sO:∀(ir:Eo) {X:Cx} {c:Ctx} {h:Expr},Cok T k X c->okO T c ir h=true->PO X (unO T c ir h) (lO X (denO T.gs (jab T k) ir))
 |.no,_,_,_,_,_=>u_no
 |.so d,_,_,_,C,q=>u_so (sE d C q).1
theorem sEs:∀(ir:Es) {X:Cx} {c:Ctx} {hs:List Expr},Cok T k X c->okEs T c ir hs=true->PA X (unEs T c ir hs) (lA X (jaO T.gs (jab T k) ir))
 |.nil,_,_,_,_,_=>jgH
 |.cons d ir,_,_,_,C,q=>jdA (sE d C (ba q).1).1 (sEs ir C (ba q).2) (jar (jax d _) _ _)
theorem sB:∀(ir:Es) (b:Bool) {X:Cx} {c:Ctx} {hs:List Expr} {a:Expr} {p:UE×UT},Cok T k X c->PE X a (lE X p.1)/\PT X a (lT X p.2)->okEs T c ir hs=true->∀pos:Pos,
  PE X (.BoolOp (boU b) (a::unEs T c ir hs) pos) (lE X (denB T.gs (jab T k) b p ir).1)/\PW X (.BoolOp (boU b) (a::unEs T c ir hs) pos) (lT X (denB T.gs (jab T k) b p ir).2)
 |.nil,true,_,_,_,_,_,_,ha,_,_=>⟨jgf ha.1,pw_and1 ha.2⟩
 |.nil,false,_,_,_,_,_,_,ha,_,_=>⟨jgf ha.1,pw_or1 ha.2⟩
 |.cons d ir,true,_,_,_,_,_,C,ha,q,pos=>jmm ha (sB ir true C (sE d C (ba q).1) (ba q).2 pos)
 |.cons d ir,false,_,_,_,_,_,C,ha,q,pos=>jo8 ha (sB ir false C (sE d C (ba q).1) (ba q).2 pos)
theorem sC:∀(ir:Es) {X:Cx} {c:Ctx} {hs:List Expr},Cok T k X c->jaY ir<=1->okEs T c ir hs=true->PIfs X (unEs T c ir hs) (lT0 X.K (denC T.gs (jab T k) ir))
 |.nil,_,_,_,_,_,_=>jml
 |.cons d .nil,_,_,_,C,_,q=>jmk (sE d C (ba q).1).2
 |.cons _ (.cons _ es),_,_,_,_,l,_=>absurd l (by show ¬(jaY es+1+1<=1);lia)
theorem sD:∀(ir:Es) {X:Cx} {c:Ctx} {hs gs:List Expr},Cok T k X c->(p:Pos)->okD T c ir hs gs=true->∃trs,PPs X p (unK T c ir hs) (unV T c ir gs) trs/\lD X (denD T.gs (jab T k) ir) trs/\(unK T c ir hs).all (·.isSome)=true/\(unK T c ir hs).length=(unV T c ir gs).length
 |.nil,_,_,_,_,_,_,_=>⟨[],jkR,jnk,rfl,rfl⟩
 |.cons d (.cons f ir),_,_,_,_,C,p,q=>let ⟨_,h1,h2,h3,h4⟩:=sD ir C p (ba q).2;⟨_,jiY (sE d C (ba (ba q).1).1).1 (sE f C (ba (ba q).1).2).1 h1,jlk h2,h3,congrArg (·+ 1) h4⟩
 |.cons _ .nil,_,_,_,_,_,_,q=>nomatch q
theorem sI:∀(ir:It) (t:Tg) (ct:Ctx) (ht:Expr) {X:Cx} {c:Ctx} {h:Expr},Cok T k X c->okI T c t ir h=true->PI X (unTg ct t ht) (unI T c ir h) (lI X (denI T.gs (jab T k) ir))/\∀x,Yay (unI T c ir h) X.env x=pure x
 |.e d,_,_,_,_,_,_,C,q=>⟨u_ie (sE d C q).1,jbu (jax d _) _⟩
 |.r1 d,_,_,_,_,_,_,C,q=>⟨u_r1 (C.gl (ba q).1).1 (C.blt _ (by decide)) (sE d C (ba q).2).1 (jar (jax d _) _ _),λ_=>rfl⟩
 |.r2 _ _,_,_,_,_,_,_,_,q=>nomatch q
 |.enum d,.t _,_,_,_,_,_,C,q=>⟨jlW (C.gl (ba (ba q).1).2).1 (C.blt _ (by decide)) (sE d C (ba q).2).1 (jar (jax d _) _ _),λ_=>rfl⟩
 |.enum _,.n _,_,_,_,_,_,_,q=>nomatch q
 |.dk _,_,_,_,_,_,_,_,q=>nomatch q
 |.s d,_,_,_,_,_,_,C,q=>⟨u_is (sE d C q).1,jbu (jax d _) _⟩
 |.dv _,_,_,_,_,_,_,_,q=>nomatch q
 |.di _,_,_,_,_,_,_,_,q=>nomatch q
 |.zp _ _,_,_,_,_,_,_,_,q=>nomatch q
end
end

noncomputable def swF  (sb:Bool)(names:List Str)(bk:ScopeKind)(ts vs:List Expr):Sem (Option (List Str)):=
 if (!(ts.length==2||ts.length==3)||vs.length != ts.length||bk != .function)=true then pure none
 else if sb=true then pure none
 else if (names.length != ts.length||names.eraseDups.length != names.length)=true then pure none
 else if vs.all (YfK 8)=true then pure none
 else if vs.all (constantsAlone 8)=true then do unsupported "assign.tuple-of-constant-expressions:order-of-the-stores";pure (some names)
 else pure (some names)
def jd6  (env:Env)(ts:List Expr):List Str:=ts.filterMap fun
  |.Name id pos=>if env.kindOf id==some .local&&pos.line==jjL ts then some id else none
  |_=>none
def jmb     : Ya0 [.Tuple ts a p] (.Tuple vs b q) env=swF (vs.any jgr) (jd6 env ts) env.blockKind ts vs:=by
 have e1:jgr=fun|.Starred ..=>true|_=>false:=by funext e;cases e<;>rfl
 with_unfolding_all rfl
def jf6  (hk:∀x,env.kindOf x=c.sc.lookup x) ts:jd6 env ts=jak c ts:=by
 unfold jak jd6;congr 1;funext e;cases e<;>first|rfl|(dsimp only;rw[hk])
def jeA  (hk:∀x,env.kindOf x=c.sc.lookup x)(hb:env.blockKind=.function)(h:jcn c ts vs=true):Ya0 [.Tuple ts a p] (.Tuple vs b q) env=pure none:=by
 rw[jmb,jf6 hk,hb];unfold swF;unfold jcn at h;by_cases h1:(!(ts.length==2||ts.length==3)||vs.length != ts.length)=true
 ·rw[if_pos (by rw[h1];rfl)]
 ·have h1':(!(ts.length==2||ts.length==3)||vs.length != ts.length)=false:=by simpa using h1
  rw[h1']at h;rw[if_neg (by rw[h1'];decide)]
  simp only[YeV,Yao,Ybs]at h;obtain⟨h2,h3⟩:=h;rw[if_neg (by rw[h2];decide)]
  by_cases h4:((jak c ts).length != ts.length||(jak c ts).eraseDups.length != (jak c ts).length)=true
  ·rw[if_pos h4]
  ·rw[if_neg h4];have h4':((jak c ts).length != ts.length||(jak c ts).eraseDups.length != (jak c ts).length)=false:=by simpa using h4
   rw[h4']at h3;rw[if_pos (by simpa using h3)]
def jhp  (hk:∀x,env.kindOf x=c.sc.lookup x)(hb:env.blockKind=.function)(h:swapped c ts vs=true):Ya0 [.Tuple ts a p] (.Tuple vs b q) env=pure (some (jak c ts)):=by
 rw[jmb,jf6 hk,hb];unfold swF;unfold swapped at h;simp only[Yao,Ybs]at h;obtain⟨⟨⟨⟨⟨⟨h1,h2⟩,h3⟩,h4⟩,h5⟩,h6⟩,h7⟩:=h;have e1:(!(ts.length==2||ts.length==3)||vs.length != ts.length||(YeN != YeN))=false:=by
  have:(vs.length != ts.length)=false:=by simpa using h2
  rw[h1,this];rfl
 rw[if_neg (by rw[e1];decide),if_neg (by rw[h3];decide)]
 have e2:((jak c ts).length != ts.length||(jak c ts).eraseDups.length != (jak c ts).length)=false:=by
  have z1:((jak c ts).length != ts.length)=false:=by simpa using h4
  have z2:((jak c ts).eraseDups.length != (jak c ts).length)=false:=by simpa using h5
  rw[z1,z2];rfl
 rw[if_neg (by rw[e2];decide),if_neg (by rw[h6];decide),if_neg (by rw[h7];decide)]
def jf5  (hk:∀x,env.kindOf x=c.sc.lookup x)(hb:env.blockKind=.function)(h:lcSw c y py p s=true) :
  YbU (.ListComp elt gs s p) (some (.Name y py)) l env=pure true:=by
 unfold lcSw at h;simp only[Yao]at h;unfold YbU;dsimp only;show(pure (env.blockKind == .function&&env.kindOf y==some .local&&py.line==p.line && !(s.names.any λ(n,k)=>n==y&&(k == .local||k == .cell))):Sem Bool)=pure true;rw[hb,hk,h.1.1,h.1.2,h.2];rfl
def jf4  {c: Ctx}(hk:∀x,env.kindOf x=c.sc.lookup x)(h:(c.sc.lookup y==some .local)=false) :
  Ybb [.Name y py] (.ListComp elt gs s p) l env=pure false:=by
 show(pure (env.blockKind == .function&&env.kindOf y==some .local&&py.line==p.line && !(s.names.any λ(n,k)=>n==y&&(k == .local||k == .cell))):Sem Bool)=pure false;rw[hk,h];simp
section
variable {T:Tab}{k:Nat}
def Cos.kindOf    (C:Cos T k X c):∀x,X.env.kindOf x=c.sc.lookup x:=λx=>by
 unfold Env.kindOf;rw[C.sc]
def Cos.block    (C:Cos T k X c):X.env.blockKind=.function:=by
 unfold Env.blockKind;rw[C.kind];rfl
theorem jhP   : ∀(is:List Nat) hs ,(unNs c is hs).length=is.length
 |[],_=>rfl
 |_::is,hs=>congrArg (·+ 1) (jhP is hs.tail)
def sw2     (h:(jak c [.Name x p,.Name y q]).length=2):jak c [.Name x p,.Name y q]=[x,y]:=by
 unfold jak at h ⊢;simp only[YbJ,YfP]at h ⊢;split at h<;>split at h<;>simp_all
def sw3     (h:(jak c [.Name x p,.Name y q,.Name z r]).length=3):jak c [.Name x p,.Name y q,.Name z r]=[x,y,z]:=by
 unfold jak at h ⊢;simp only[YbJ,YfP]at h ⊢;split at h<;>split at h<;>split at h<;>simp_all

def jme     (C:Cos T k X c)(q:okS T c (.asg t d) h=true)(hs:PE X (unE T c d (q0 h)) (lE X (den T.gs (jab T k) d).1)):PS X (unS T c (.asg t d) h) (lS X (denS T.gs (jab T k) (.asg t d))):=by
 have hg:=sTg C.toCok t (q1 h) (ba (ba q).1).2;have q3:=(ba q).2;have fin:Ybb [unTg c t (q1 h)] (unE T c d (q0 h)) h.pos.line X.env=pure false/\Ya0 [unTg c t (q1 h)] (unE T c d (q0 h)) X.env=pure none:=by
  cases t with
  |n i=>
   refine⟨?_,joD d _ _ _ _⟩;by_cases hl:isLc d=true
   ·cases d with
    |lc=>exact jf4 C.kindOf (bn q3)
    |lc2=>exact jf4 C.kindOf (bn q3)
    |_=>cases hl
   ·exact jkn (by simpa using hl) _ _ _ _
  |t ts=>
   cases d with
   |lc=>cases q3
   |lc2=>cases q3
   |tup es=>exact⟨rfl,jeA C.kindOf C.block q3⟩
   |_=>exact⟨rfl,rfl⟩
 exact s_asg hs hg fin.1 fin.2 (jhe t _ _)
def jmc     (C:Cos T k X c)(q:okS T c (.unp ts d) h=true)(hs:PE X (unE T c d (q0 h)) (lE X (den T.gs (jab T k) d).1)):PS X (unS T c (.unp ts d) h) (lS X (denS T.gs (jab T k) (.unp ts d))):=by
 have hg:=sTgs C.toCok ts (cl (q1 h)) (ba (ba q).1).2;have q3:=(ba q).2;have fin:Ybb [unTg c (.t ts) (q1 h)] (unE T c d (q0 h)) h.pos.line X.env=pure false/\Ya0 [unTg c (.t ts) (q1 h)] (unE T c d (q0 h)) X.env=pure none:=by
  cases d with
  |lc=>cases q3
  |lc2=>cases q3
  |tup es=>exact⟨rfl,jeA C.kindOf C.block q3⟩
  |_=>exact⟨rfl,rfl⟩
 exact s_unp C.calm hs hg (jcT ts _ X.env).1 (jcT ts _ X.env).2 (λus ς k q=>jfh q) fin.1 fin.2 (jhe (.t ts) (q1 h) _)
def jmd     (C:Cos T k X c)(q:okS T c (.par is es) h=true)(ha:PA X (unEs T c es (cl (q0 h))) (lA X (jaO T.gs (jab T k) es))):PS X (unS T c (.par is es) h) (lS X (denS T.gs (jab T k) (.par is es))):=by
 have h3:=(ba q).2;have h2:=(ba (ba q).1).2;have hsw:=jhp (a:=kk (q1 h)) (b:=kk (q0 h)) (p:=(q1 h).pos) (q:=(q0 h).pos) C.kindOf C.block h3;unfold swapped at h3;simp only[Yao,Yb4,beq_iff_eq]at h3;obtain⟨⟨⟨⟨⟨⟨l1,l2⟩,_⟩,l4⟩,_⟩,_⟩,_⟩:=h3;rw[jhP]at l1;rw[jhd,jhP]at l2;have nd:X.N.Nodup:=by rw[C.hN];exact C.nd
 match is,es,l1,l2,l4,hsw,h2,ha with
 |[i,j],.cons a (.cons b .nil),_,_,l4,hsw,h2,ha=>
  have u1:=ba h2;have u2:=ba u1.2;refine s_par2 C.calm nd (C.nm (ba (ba u1.1).1).1) (C.nm (ba (ba u2.1).1).1) (by intro z;subst z;have:=(ba u1.1).2;simp at this) (C.loc _ (ba (ba u1.1).1).2) (C.loc _ (ba (ba u2.1).1).2) ha ?_ rfl
  rw[<- sw2 l4];exact hsw
 |[i,j,l],.cons a (.cons b (.cons d .nil)),_,_,l4,hsw,h2,ha=>
  have u1:=ba h2;have u2:=ba u1.2;have u3:=ba u2.2;refine s_par3 C.calm nd (C.nm (ba (ba u1.1).1).1) (C.nm (ba (ba u2.1).1).1) (C.nm (ba (ba u3.1).1).1) (by intro z;subst z;have:=(ba u1.1).2;simp at this) (by intro z;subst z;have:=(ba u1.1).2;simp at this) (by intro z;subst z;have:=(ba u2.1).2;simp at this)
   (C.loc _ (ba (ba u1.1).1).2) (C.loc _ (ba (ba u2.1).1).2) (C.loc _ (ba (ba u3.1).1).2) ha ?_ rfl
  rw[<- sw3 l4];exact hsw
 |[],_,l1,_,_,_,_,_=>exact absurd l1 (by simp)
 |[_],_,l1,_,_,_,_,_=>exact absurd l1 (by simp)
 |_::_::_::_::_,_,l1,_,_,_,_,_=>exact absurd l1 (by simp)
 |[_,_],.nil,_,l2,_,_,_,_=>exact absurd l2 (by simp[jaY])
 |[_,_],.cons _ .nil,_,l2,_,_,_,_=>exact absurd l2 (by simp[jaY])
 |[_,_],.cons _ (.cons _ (.cons _ _)),_,l2,_,_,_,_=>exact absurd l2 (by simp[jaY])
 |[_,_,_],.nil,_,l2,_,_,_,_=>exact absurd l2 (by simp[jaY])
 |[_,_,_],.cons _ .nil,_,l2,_,_,_,_=>exact absurd l2 (by simp[jaY])
 |[_,_,_],.cons _ (.cons _ .nil),_,l2,_,_,_,_=>exact absurd l2 (by simp[jaY])
 |[_,_,_],.cons _ (.cons _ (.cons _ (.cons _ _))),_,l2,_,_,_,_=>exact absurd l2 (by simp[jaY])
def jky     (C:Cos T k X c)(q:okS T c (.asgC i d) h=true):PS X (unS T c (.asgC i d) h) (lS X (denS T.gs (jab T k) (.asgC i d))):=by
 have qd:=(ba (ba (ba q).1).1);have hl:=(ba q).2;have hi:=C.nm (ba (ba q).1).2;have hy:=eq_of_beq (ba (ba hl).1).1;cases d with
 |lc pick t it ifs d=>
  have q1':=qd.2;have S:=C.toCok.comp (ba (ba (ba (ba (ba (ba q1').1).1).1).1).1).1;exact s_lc (by rw[C.hN];exact C.nd) hi (by rw[C.sc];exact hy) C.calm S.1 (sI it t _ _ C.toCok (ba (ba (ba (ba q1').1).1).1).2).1 (ba (ba (ba (ba (ba (ba q1').1).1).1).1).1).2
   (λcl A s₀ H₀ fp=>sTg (S.2 cl A s₀ H₀ fp) t _ (ba (ba (ba (ba (ba q1').1).1).1).1).2) (λcl A s₀ H₀ fp=>sC ifs (S.2 cl A s₀ H₀ fp) (of_decide_eq_true (ba (ba q1').1).2) (ba (ba (ba q1').1).1).2)
   (λcl A s₀ H₀ fp=>lE0.of (sE d (S.2 cl A s₀ H₀ fp) (ba q1').2).1) (jf5 C.kindOf C.block hl) (jcS it _ _)
 |lc2 pick t it ifs t2 it2 ifs2 d=>
  have q1':=qd.2;have S:=C.toCok.comp (ba q1').1;have q1:=(ba q1').2;have q2:=(ba q1).2;have q3:=(ba q2).2;have q4:=(ba q3).2;have q5:=(ba q4).2;have q6:=(ba q5).2;have q7:=(ba q6).2;have q8:=(ba q7).2;have q9:=(ba q8).2;have qa:=(ba q9).2;have qb:=(ba qa).2;exact s_lc2 (by rw[C.hN];exact C.nd) hi (by rw[C.sc];exact hy) C.calm S.1 (sI it t _ _ C.toCok (ba q6).1).1 (ba q1).1 (ba q2).1 (ba q3).1
   (λcl A s₀ H₀ fp=>sTg (S.2 cl A s₀ H₀ fp) t _ (ba q4).1) (λcl A s₀ H₀ fp=>sC ifs (S.2 cl A s₀ H₀ fp) (of_decide_eq_true (ba qa).1) (ba q8).1)
   (λcl A s₀ H₀ fp=>lE0.of (sE d (S.2 cl A s₀ H₀ fp) (ba qb).2).1) (λcl A s₀ H₀ fp=>lI0.of (sI it2 t2 _ _ (S.2 cl A s₀ H₀ fp) (ba q7).1).1) (λcl A s₀ H₀ fp=>sTg (S.2 cl A s₀ H₀ fp) t2 _ (ba q5).1)
   (λcl A s₀ H₀ fp=>sC ifs2 (S.2 cl A s₀ H₀ fp) (of_decide_eq_true (ba qb).1) (ba q9).1) (λenv=>jcS it2 _ env) (jf5 C.kindOf C.block hl) (jcS it _ _)
 |_=>cases qd.1
def jiK     (C:Cos T k X c)(q:okS T c (.raise n es) h=true):PS X (unS T c (.raise n es) h) (lS X (denS T.gs (jab T k) (.raise n es))):=by
 have q':(okC T.cs c n&&decide (0<jaY es)&&okEs T c es (cl (qr h)))=true:=q
 match es,q' with
 |.nil,q'=>exact absurd (of_decide_eq_true (ba (ba q').1).2) (Ya6 0)
 |.cons d es,q'=>exact s_raise C.toCok (ba (ba q').1).1 (sEs (.cons d es) C.toCok (ba q').2) (jar (jax d _) _ _) (jcd es _ _ _).1
def Cos.tryC    (C:Cos T k X c)(po:Yc9 (model X.prog X.w) X.A X.env xe):Cos T k (X.tryC pins xe) c:=
 ⟨⟨C.hN,C.nd,C.loc,C.cel,C.fre,C.glb,C.room,C.calm,po,C.blt,C.fns,C.gls,C.room2,C.cls,C.mgK⟩,C.sc,C.kind,C.stk⟩
mutual
theorem sS:∀(ir:S) {X:Cx} {c:Ctx} {h:Stmt},Cos T k X c->okS T c ir h=true->PS X (unS T c ir h) (lS X (denS T.gs (jab T k) ir))
 |.pass,_,_,_,_,q=>nomatch q
 |.expr d,_,_,_,C,q=>s_expr (sE d C.toCok (ba q).1).1 (jko (bn (ba q).2) _ _ _)
 |.asg _ d,_,_,_,C,q=>jme C q (sE d C.toCok (ba (ba q).1).1).1
 |.asgC _ _,_,_,_,C,q=>jky C q
 |.unp _ d,_,_,_,C,q=>jmc C q (sE d C.toCok (ba (ba q).1).1).1
 |.setS o i d,_,_,_,C,q=>s_set C.toCok.hu (sE d C.toCok (ba (ba q).1).1).1 (sE o C.toCok (ba (ba q).1).2).1 (sE i C.toCok (ba q).2).1 (jjy d _ _ _ _ _ _).1 (jjy d _ _ _ _ _ 0).2 rfl (jjf (jax i _) _ _)
 |.par _ es,_,_,_,C,q=>jmd C q (sEs es C.toCok (ba (ba q).1).1)
 |.aug _ _ d,_,_,_,C,q=>let s:=C.toCok.store (ba (ba q).1).2;s_aug (by rw[C.hN];exact C.nd) (C.nm (ba (ba q).1).1) s.1 s.2 (sE d C.toCok (ba q).2).1
 |.augS _ _ _ _,_,_,_,_,q=>nomatch q
 |.ite t a b,_,_,_,C,q=>s_if (sE t C.toCok (ba (ba q).1).1).2 (sSs a C (ba (ba q).1).2) (sSs b C (ba q).2)
 |.fr t it b,_,_,_,C,q=>s_for C.po C.calm (sI it t _ _ C.toCok (ba (ba q).1).2).1 (sTg C.toCok t _ (ba (ba q).1).1) (sSs b C (ba q).2) (sI it t ⟨[],[]⟩ e0 C.toCok (ba (ba q).1).2).2
 |.wh t b,_,_,_,C,q=>s_wh C.po (sE t C.toCok (ba q).1).2 (sSs b C (ba q).2)
 |.ret d,_,_,_,C,q=>s_ret (sE d C.toCok q).1
 |.retN,_,_,_,_,q=>nomatch q
 |.never,_,_,_,_,_=>λ_ _ _ _ _ _ ⟨_,_,_,_,_,q,_⟩=>(show False from q).elim
 |.raise _ _,_,_,_,C,q=>jiK C q
 |.tr b _ _ _,_,_,_,C,q=>s_try C (ba (ba (ba (ba (ba (ba (ba (ba q).1).1).1).1).1).1).1).2 (ba (ba (ba (ba (ba (ba (ba q).1).1).1).1).1).1).2 (ba (ba (ba (ba (ba (ba q).1).1).1).1).1).2 (ba (ba (ba (ba (ba q).1).1).1).1).2 (bn (ba (ba (ba (ba q).1).1).1).2) (bn (ba (ba (ba q).1).1).2) (bn (ba (ba q).1).2) (ba q).2
   λ_ _ po=>sSs b (C.tryC po) (ba (ba (ba (ba (ba (ba (ba (ba q).1).1).1).1).1).1).1).1
theorem sSs:∀(ir:Ss) {X:Cx} {c:Ctx} {hs:List Stmt},Cos T k X c->okSs T c ir hs=true->PSs X (unSs T c ir hs) (lS X (jas T.gs (jab T k) ir))
 |.nil,_,_,_,_,_=>s_nil
 |.cons s r,_,_,_,C,q=>s_cons (t:=denS T.gs (jab T k) s) (u:=jas T.gs (jab T k) r) (sS s C (ba q).1) (sSs r C (ba q).2)
end
end
def jka  {T:Tab}{n:Nat}(h:T.funs[n]?=some d):(T.funs++T.vf)[n]?=some d:=by
 rw[Ybj (List.getElem?_eq_some_iff.mp h).1];exact h
def jiu  {T:Tab}(hd:(T.funs++T.vf)[n]?=some d){E:KX}(h:jab T (k+1) n us G Q E) :
  us.length=d.ps.length/\jas T.gs (jab T k) d.body ⟨λ_ G'=>Q .non G',Q,λx _ G'=>E x G'⟩ (jaj d.N.length us) G:=by
 have h':(match (T.funs++T.vf)[n]? with|some d=>us.length=d.ps.length/\jas T.gs (jab T k) d.body ⟨λ_ G'=>Q .non G',Q,λx _ G'=>E x G'⟩ (jaj d.N.length us) G|none=>False):=h
 rw[hd]at h';exact h'
def jmA     (e:a=b)(h:PSs X a t):PSs X b t:=e ▸ h
def jhr       (r:RUs K H us vs):SR K H (jaj N.length us) (L2.start N vs):=by
 unfold jaj L2.start;refine⟨by simp[r.length],λi u e=>?_⟩
 by_cases hi:i<us.length
 ·rw[Ybj (by simpa using hi),Yav]at e
  cases q:us[i]? with
  |none=>rw[q]at e;cases e
  |some w=>
   rw[q]at e;have:w=u:=by simpa using e
   subst this;obtain⟨v,ev,rv⟩:=r.get q;have hv:i<vs.length:=by rw[<- r.length];exact hi
   exact⟨v,by rw[Ybj (by simpa using hv),Yav,ev];rfl,rv⟩
 ·rw[Yb8 (by simpa using hi),YeQ]at e
  split at e<;>cases e
structure PF (T:Tab)(P:Program)(w:World)(K:Yac)(mg:Str->Option Value)(base:Heap)(k:Nat):Prop where
 blt:∀x∈jcb,mg x=none
 fns:∀(n:Nat) (d:Fun),T.funs[n]?=some d->FnU P w K mg base k d (jab T k n)
 gls:∀(n:Nat) (x:Str) (u:U),T.gn[n]?=some x->T.gs[n]?=some u->∃v w,mg x=some w/\RelV v w/\∀H,RU K H u v
 cls:∀n∈T.cs,1<=n->∃C,XCls K (gK K) (clsN n) (clsF n) C
 mgK:∀x v,gK K x=some v->mg x=some v
noncomputable def scB  (N ps:List Str)(sc:Scope):Bool:=
 decide (sc.kind=.function) && !sc.isCoroutine && !sc.isGenerator&&decide N.Nodup&&(N.take ps.length==ps)&&ps.all (λx=>sc.names.lookup x==some .local||sc.names.lookup x==some .cell)&&sc.names.all (λy=>y.2 != .free)
def jkF    (h:scB N ps sc=true):FnScope N ps sc:=by
 unfold scB at h;simp only[Yao,decide_eq_true_eq,Ybs]at h;obtain⟨⟨⟨⟨⟨⟨h1,h2⟩,h3⟩,h4⟩,h5⟩,h6⟩,h7⟩:=h;refine⟨h1,h2,h3,h4,eq_of_beq h5,λx hx=>?_,λy hy=>?_⟩
 ·have:=List.all_eq_true.mp h6 x hx;simpa using this
 ·simpa using List.all_eq_true.mp h7 y hy
noncomputable def jd9  (T:Tab):Nat->List Fun->List Stmt->Bool
 |_,[],[]=>true
 |i,d::ds,st::sts=>scB d.N d.ps (jaf st)&&((T.ns.lookup i).isSome||okSs T ⟨d.N,(jaf st).names⟩ d.body (jam st))&&jd9 T (i+1) ds sts
 |_,_,_=>false
def jeG  (T:Tab)(all:List Stmt):Nat->List Fun->List Stmt->Prop
 |_,[],_=>True
 |i,d::ds,st::sts=>(match T.ns.lookup i with
  |none=>unSs T ⟨d.N,(jaf st).names⟩ d.body (jam st)=jam st
  |some _=>False)/\jeG T all (i+1) ds sts
 |_,_::_,[]=>False
theorem jcY {T:Tab}{all:List Stmt}:∀{i:Nat} {ds:List Fun} {sts:List Stmt},jd9 T i ds sts=true->jeG T all i ds sts->∀{n:Nat} {d:Fun},ds[n]?=some d->∃st,sts[n]?=some st/\scB d.N d.ps (jaf st)=true/\(match T.ns.lookup (i+n)with
  |none=>okSs T ⟨d.N,(jaf st).names⟩ d.body (jam st)=true/\unSs T ⟨d.N,(jaf st).names⟩ d.body (jam st)=jam st
  |some _=>False)
 |_,[],_,_,_,_,_,e=>by simp at e
 |_,_::_,[],h,_,_,_,_=>by unfold jd9 at h;cases h
 |i,d::ds,st::sts,h,g,n,d',e=>by
  unfold jd9 at h;unfold jeG at g;simp only[Yao]at h;cases n with
  |zero=>
   simp at e;subst e;refine⟨st,rfl,h.1.1,?_⟩;have g1:=g.1;have h1:=h.1.2;rw[Ydh];cases q:T.ns.lookup i with
   |none=>rw[q]at g1 h1;exact⟨by simpa using h1,g1⟩
   |some z=>rw[q]at g1;exact g1
  |succ n=>
   obtain⟨st',e',q⟩:=jcY h.2 g.2 (n:=n) (by simpa using e)
   rw[show i+1+n=i+(n+1) by lia]at q
   exact⟨st',by simpa using e',q⟩
noncomputable def jfL  (K:Yac)(v:Value)(P:Addr):Bool:=match v with
 |.ref c=>(match K.lookup c with
  |some ⟨.type t,_,.fields vs,_⟩=>t == "code" && (match (vs[11]?:Option Value)with|some (.ref Q)=>Q==P|_=>false)&&(match vs.getD 18 .none with|.str _ _=>true|_=>false)&&(match vs.getD 7 .none with|.int _ _=>true|_=>false)
   && (match vs.getD 9 .none with|.bool _=>true|_=>false)&&(match vs.getD 10 .none with|.int _ _=>true|_=>false)&&c != P
  |_=>false)
 |_=>false

def jhc  {j n:Nat}(hz:∀us G Q E,¬t us G Q E):FnOk P w K mg base (CX1 P w) j f fd ps (lSp K t):=
 ⟨λvs H Q E ⟨_,_,_,_,_,_,h,_⟩=>(hz _ _ _ _ h).elim,λA outer s H args us vs Q E _ _ _ _ ⟨_,_,_,_,_,_,h,_⟩=>(hz _ _ _ _ h).elim⟩
def jgd  {T: Tab}(F:L2.Fun K d.name d.name st f fd)(h1:scB d.N d.ps (jaf st)=true)(h2:okSs T ⟨d.N,(jaf st).names⟩ d.body (jam st)=true)(h3:unSs T ⟨d.N,(jaf st).names⟩ d.body (jam st)=jam st)
  (pf:PF T P w K mg base k) (hd:T.funs[n]?=some d):FnOk P w K mg base (CX1 P w) (k+3) f fd d.ps (lSp K (jab T (k+1) n)):=by
 have S:=jkF h1;refine F.okX S (λvs H Q E ⟨us,G,Q',E',r,hG,h,lv,lx⟩=>by rw[<- r.length];exact(jiu (jka hd) h).1) λcdv A outer s H vs Q E hr hsp=>?_
 obtain⟨us,G,Q',E',r,hG,h,lv,lx⟩:=hsp;obtain⟨hl,h⟩:=jiu (jka hd) h;refine⟨_,jmA h3 (sSs d.body (k:=k) (c:=⟨d.N,(jaf st).names⟩) (hs:=jam st) ⟨⟨rfl,S.nd,λx z=>eq_of_beq z,λx z=>⟨eq_of_beq z,rfl⟩,λx z=>.inr (eq_of_beq z),λx z=>eq_of_beq z,hr.mono (by lia),rfl,jpl,pf.blt,pf.fns,pf.gls,hr,pf.cls,pf.mgK⟩,rfl,S.kind,rfl,rfl⟩ h2),?_⟩
 exact⟨_,_,G,jhr r,hG,h,⟨λς' σ' G' H' a b c q=>lv .non .non G' H' rfl b c q,λw v G' H' a b c q=>lv w v G' H' a b c q,λpins e s' x ς' σ' G' H' I sr xat hr' f q=>by obtain⟨ea,C0,dx,rfl,l,xd⟩:=xat;exact CX1.out1 I l (lx x G' H' C0 dx xd hr' f q)⟩⟩
abbrev Dyn  (T:Tab)(K:Yac)(mg:Str->Option Value)(sts:List Stmt):Prop:=∀(n:Nat) (d:Fun) (st:Stmt),T.funs[n]?=some d->sts[n]?=some st->∃(f:Addr) (fd:Ydk),L2.Fun K d.name d.name st f fd/\mg d.name=some (.ref f)/\Binds K fd d.ps []/\∀z,T.ns.lookup n=some z->jfL K fd.code z.P=true
def jkQ  {T: Tab}{sts:List Stmt}(hst:jd9 T 0 T.funs sts=true)(heq:jeG T sts 0 T.funs sts)(dyn:Dyn T K mg sts)(hU:∀t∈tabs,∀t'∈tabs,t.1=t'.1->t=t')(hKb:K.In base)(hB:BmAt mg base)
  (hb:∀x∈jcb,mg x=none) (hg:∀(n:Nat) x u ,T.gn[n]?=some x->T.gs[n]?=some u->∃v w,mg x=some w/\RelV v w/\∀H,RU K H u v) (hc:∀n∈T.cs,1<=n->∃C,XCls K (gK K) (clsN n) (clsF n) C) (hm:∀x v,gK K x=some v->mg x=some v) :
  ∀k ,PF T P w K mg base k:=by
 intro k
 induction k using Nat.strongRecOn with
 |ind k ih=>
  refine⟨hb,λn d hd=>?_,hg,hc,hm⟩;obtain⟨st,e,h1,h2⟩:=jcY hst heq hd;obtain⟨f,fd,F,m,b,hz⟩:=dyn n d st hd e;refine⟨f,fd,?_,m,F.kp,b⟩;rw[YbI]at h2;cases q:T.ns.lookup n with
  |none=>
   rw[q]at h2;obtain _|k:=k
   ·exact jhc (n:=n) λ_ _ _ _ h=>h
   ·exact jgd F h1 h2.1 h2.2 (ih k (by lia)) hd
  |some z=>rw[q]at h2;exact h2.elim
noncomputable def G0  (a:Addr)(ns:List Int):Gp:=λb=>if b=a then some (.fro (ns.map .int)) else none
theorem jh4   : ∀ns:List Int,RUs K H (ns.map .int) (ns.map V.int)
 |[]=>rfl
 |_::r=>⟨_,_,rfl,rfl,jh4 r⟩
def law_sp  {T: Tab}(hT:∀t∈tabs,t.1∈tb)(hO:jjw tb H)(fr:H a=some (.frz o (.lst (ns.map V.int))))(h:jab T k n [.loc a] (G0 a ns) (λu _=>u=.bl true) λ_ _=>False) :
  lSp K (jab T k n) [.ref a] H (λv _=>v=.bl true) λ_ _ _=>False:=by
 refine⟨[.loc a],G0 a ns,_,_,⟨_,_,rfl,rfl,rfl⟩,⟨λb mo e=>?_,λt ht=>.inl ?_⟩,h,λw v G' H' r _ _ q=>?_,λ_ _ _ _ _ _ _ _ z=>z.elim⟩
 ·unfold G0 at e;split at e
  ·rename_i z;subst z;cases e;exact⟨o,_,fr,jh4 ns⟩
  ·cases e
 ·have:=hO t.1;rw[if_pos (hT t ht)]at this;exact this
 ·subst q;exact r

def jgP  {T: Tab}{sts:List Stmt}(F:L2.Fun K d.name d.name st f fd)(hst:jd9 T 0 T.funs sts=true)(heq:jeG T sts 0 T.funs sts)(dyn:Dyn T K mg sts)(hU:∀t∈tabs,∀t'∈tabs,t.1=t'.1->t=t')(hKb:K.In base)(hB:BmAt mg base)
  (hb:∀x∈jcb,mg x=none) (hg:∀(n:Nat) x u ,T.gn[n]?=some x->T.gs[n]?=some u->∃v w,mg x=some w/\RelV v w/\∀H,RU K H u v) (hc:∀n∈T.cs,1<=n->∃C,XCls K (gK K) (clsN n) (clsF n) C) (hm:∀x v,gK K x=some v->mg x=some v) (hd:T.funs[n]?=some d) (hs:sts[n]?=some st) (hn:T.ns.lookup n=none) :
  FnOk P w K mg base (CX1 P w) (k+2) f fd d.ps (lSp K (jab T k n)):=by
 cases k with
 |zero=>exact jhc (n:=n) λ_ _ _ _ h=>h
 |succ k=>
  obtain⟨st',e,h1,h2⟩:=jcY hst heq hd;rw[hs]at e;cases e;rw[YbI,hn]at h2;exact jgd F h1 h2.1 h2.2 (jkQ hst heq dyn hU hKb hB hb hg hc hm k) hd

def jpH    (h:gK K x=some v):Ybf K YaF x=some (some v):=by
 unfold gK at h;cases q:Ybf K YaF x with
 |none=>rw[q]at h;cases h
 |some o=>rw[q]at h;rw[show o=some v from h]
def jnf    (X:K.In h)(G:h.Ns YaF mg):∀x v,gK K x=some v->mg x=some v:=λ_ _ e=>YcP X G (jpH e)
def jnM    (h:Ybf K YaF x=some (some v)):gK K x=some v:=by unfold gK;rw[h];rfl
noncomputable def ksB  : List Str:=["__module__", "__firstlineno__", "__static_attributes__", "__weakref__", "__doc__"]
noncomputable def ksC  : List Str:=["__module__", "__firstlineno__", "__init__", "__static_attributes__", "__doc__"]
def offB  (ks:List Str):Bool:=offN.all λy=>!ks.contains y
def jjW   {m:Str->Option Value}(h:offB ks=true)(hm:∀x,x∉ks->m x=none):∀y∈offN,m y=none:=λy hy=>hm y (by
 have:=List.all_eq_true.mp h y hy;simpa using this)
def jiG     {hd ab:Bool}(a:Ybf K YaF "PlanError" = some (some (.ref D)))(kp:Ybc K (.ref D)=true)
  (l:K.lookup D=some (YcO "PlanError" q D ND bs bmV hd sn sub ab col dd k0 k1 k2 k3 k5 nid)) (n:jdM K ND=some ks) (h1:offB ks=true) (h2:ks.contains ("__init__" : Str)=false):∃mD,XBase K (gK K) D mD:=by
 obtain⟨m,hn,hno,_⟩:=jnb n;exact⟨m,jnM a,kp,⟨_,_,_,_,_,_,_,_,_,_,_,_,_,_,_,l,hn⟩,jjW h1 hno,hno _ (by simpa using h2)⟩
def jkl               (B:XBase K (gK K) D mD)(a:Ybf K YaF x=some (some (.ref C)))(kp:Ybc K (.ref C)=true)
  (l:K.lookup C=some (YcO x q C N bs (.ref D::bmV) true sn sub ab col dd k0 k1 k2 k3 k5 "ValueError.__new__")) (n:jdM K N=some ks) (h1:offB ks=true) (i:Ybf K N "__init__" = some (some (.ref fI))) (F:L2.Fun K "__init__" qual st fI fd) (lf:K.lookup fI=some ⟨.type "function",od,.func fd,osl⟩)
  (S:scB (("self" : Str)::fs) ("self" :: fs) (jaf st)=true) (b:Binds K fd (("self" : Str)::fs) []) (hloc:((("self" : Str)::fs).all λy=>(jaf st).names.lookup y==some .local)=true)
  (bd:(∃f p1 p2 p3 pos,fs=[f]/\jam st=[.Assign [.Attribute (.Name "self" p1) f p2] (.Name f p3) pos])\/∃f f2 p1 p2 p3 pos q1 q2 q3 qos,fs=[f,f2]/\f≠f2/\jam st=[.Assign [.Attribute (.Name "self" p1) f p2] (.Name f p3) pos,.Assign [.Attribute (.Name "self" q1) f2 q2] (.Name f2 q3) qos]):XCls K (gK K) x fs C:=by
 obtain⟨m,hn,hno,hso⟩:=jnb n;exact⟨jnM a,kp,D,N,fI,m,mD,B,⟨_,_,_,_,_,_,_,_,_,_,_,_,l⟩,hn,jjW h1 hno,hso _ _ i,st,qual,fd,F,⟨_,_,lf⟩,jkF S,b,λy hy=>eq_of_beq (List.all_eq_true.mp hloc y hy),bd⟩
def jen     : gup (gup G a o) a u=gup G a u:=by funext b;unfold gup;split<;>rfl
def Sm  (f:Addr)(G G':Gp):Prop:=∀b o,b≠f->G b=some o->G' b=some o
def Sa  (G G':Gp):Prop:=∀b o,G b=some o->G' b=some o
def Sm.refl    : Sm f G G:=λ_ _ _ h=>h
def Sa.refl   : Sa G G:=λ_ _ h=>h
def Sm.trans    (a:Sm f G G1)(b:Sm f G1 G2):Sm f G G2:=λc o n h=>b c o n (a c o n h)
def Sa.trans   (a:Sa G G1)(b:Sa G1 G2):Sa G G2:=λc o h=>b c o (a c o h)
def Sa.sm    (a:Sa G G'):Sm f G G':=λc o _ h=>a c o h
def Sa.new     (h:G p=none):Sa G (gup G p o):=λc u e=>by
 rw[jaW (λz=>by rw[z,h]at e;cases e)];exact e
def Sm.put     : Sm f G (gup G f o):=λc u n e=>by rw[jaW n];exact e
def jbq  {G:Gp}(h:G a=some o)(hp:G p=none):p≠a:=λz=>by rw[z,h]at hp;cases hp
def New.at     (n:New G p o G'):G' p=some o:=by rw[n.eq];exact jap
def New.sa     (n:New G p o G'):Sa G G':=by rw[n.eq];exact Sa.new n.no
def Put.at     (n:Put G p o G'):G' p=some o:=by rw[n.eq];exact jap
def Put.sm     (n:Put G p o G'):Sm p G G':=by rw[n.eq];exact Sm.put
mutual
noncomputable def pd:U->PyData
 |.non=>.none
 |.bl b=>.bool b
 |.int i=>.int i
 |.str x=>.str x
 |.tup us=>.tuple (pds us)
 |.loc _=>.none
 |.fn _=>.none
 |.ty _=>.none
 |.exc _ _=>.none
 |.own _=>.none
 |.clo _ _=>.none
noncomputable def pds:List U->List PyData
 |[]=>[]
 |u::us=>pd u::pds us
end
mutual
noncomputable def bare:U->Bool
 |.non=>true
 |.bl _=>true
 |.int _=>true
 |.str _=>true
 |.tup us=>bares us
 |.loc _=>false
 |.fn _=>false
 |.ty _=>false
 |.exc _ _=>false
 |.own _=>false
 |.clo _ _=>false
noncomputable def bares:List U->Bool
 |[]=>true
 |u::us=>bare u&&bares us
end
mutual
theorem jjl {G:Gp}:∀{u:U},bare u=true->DU G u (pd u)
 |.non,_=>.non
 |.bl b,_=>.bl b
 |.int i,_=>.int i
 |.str x,_=>.str x
 |.tup _,h=>.tup (jih h)
 |.loc _,h=>nomatch h
 |.fn _,h=>nomatch h
 |.ty _,h=>nomatch h
 |.exc _ _,h=>nomatch h
 |.own _,h=>nomatch h
 |.clo _ _,h=>nomatch h
theorem jih {G:Gp}:∀{us:List U},bares us=true->DUs G us (pds us)
 |[],_=>.nil
 |_::_,h=>.cons (jjl (ba h).1) (jih (ba h).2)
end
structure Sml (n:Nat)(u:U):Prop where
 b:bare u=true
 l:(pd u).canLay0=true
 d:(pd u).depth<=n
def Sml.int   i:Sml 0 (.int i):=⟨rfl,rfl,Yah _⟩
def Sml.non  : Sml 0 .non:=⟨rfl,rfl,Yah _⟩
def Sml.str   (h:∀c∈x.cps.toList,c<128):Sml 0 (.str x):=⟨rfl,by
 show x.cps.all (λc=>decide (c<0x110000))=true;rw[<- Array.all_toList,List.all_eq_true];exact λc hc=>by simpa using Ydg (h c hc) (by decide),Yah _⟩
theorem smls   : ∀{us },(∀u∈us,Sml n u)->bares us=true/\YaR (pds us)=true/\YaI (pds us)<=n
 |[],_=>⟨rfl,rfl,YaP _⟩
 |u::us,h=>by
  obtain⟨h1,h2,h3⟩:=smls λv hv=>h v (Yal _ hv);have hu:=h u Yat;refine⟨?_,?_,?_⟩
  ·show(bare u&&bares us)=true;rw[hu.b,h1];rfl
  ·show((pd u).canLay0&&YaR (pds us))=true;rw[hu.l,h2];rfl
  ·show max (pd u).depth (YaI (pds us))<=n;exact Nat.max_le.mpr ⟨hu.d,h3⟩
def Sml.tup    (h:∀u∈us,Sml n u):Sml (n+1) (.tup us):=let ⟨h1,h2,h3⟩:=smls h;⟨h1,h2,Ycm h3⟩
def Sml.small    (h:Sml n u)(hn:n<=100):Small (pd u):=⟨h.l,Yag h.d hn⟩
def jgw       (ga:G a=some (.lst us))(gb:G b=some (.lst []))(h:∀u∈us,Sml n u)(hn:n<100)(q:k us.isEmpty):eqU (.loc a) (.loc b) G k:=by
 obtain⟨h1,h2,h3⟩:=smls h;have la:lsG G a=some us:=by unfold lsG;rw[ga]
 have lb:lsG G b=some []:=by unfold lsG;rw[gb]
 refine⟨.list (pds us),.list [],.lst la (jih h1),.lst lb .nil,⟨h2,?_⟩,⟨rfl,by decide⟩,?_⟩
 ·show YaI (pds us)+1<=100
  lia
 ·have e:YaJ (.list (pds us)) (.list [])=us.isEmpty:=by
   show Yb0 (pds us) []=_;rw[jdQ];cases us<;>rfl
  rw[e];exact q
structure Ft (n k:Nat)(u:U):Prop where
 b:bare u=true
 f:Fits n k (pd u)
theorem jau     : ∀{xs } (I:Nat->Sg->Gp->Prop) (_:∀ς G,I xs.length ς G->ok G/\k ς G)
  (_:∀i x ς G K ,xs[i]?=some x->I i ς G->(∀ς' G',I (i+1) ς' G'->K ς' G')->ok G/\b x ς G K) {ς } {G } (_:I 0 ς G),forL ok b xs ς G k
 |[],_,h0,_,_,_,h=>h0 _ _ h
 |x::_,I,h0,h1,_,_,h=>h1 0 x _ _ _ rfl h λ_ _ h'=>jau (λi=>I (i+1)) h0 (λi y ς G K e hi hk=>h1 (i+1) y ς G K e hi hk) h'
theorem jal     : ∀{xs } (I:Nat->List U->Gp->Prop) (_:∀acc G,I xs.length acc G->ok G/\k acc G)
  (_:∀i x acc G K ,xs[i]?=some x->I i acc G->(∀u G',I (i+1) (acc++[u]) G'->K (some u) G')->(∀G',I (i+1) acc G'->K none G')->ok G/\b x G K) {acc } {G } (_:I 0 acc G),jb9 ok b xs acc G k
 |[],_,h0,_,_,_,h=>h0 _ _ h
 |x::_,I,h0,h1,_,_,h=>h1 0 x _ _ _ rfl h (λ_ _ h'=>jal (λi=>I (i+1)) h0 (λi y a G K e hi hk hn=>h1 (i+1) y a G K e hi hk hn) h') (λ_ h'=>jal (λi=>I (i+1)) h0 (λi y a G K e hi hk hn=>h1 (i+1) y a G K e hi hk hn) h')
theorem je6       f (hok:ok G):∀{xs } (_:∀x∈xs,∀K ,K (some (f x)) G->b x G K) {acc } (_:k (acc++xs.map f) G),jb9 ok b xs acc G k
 |[],_,acc,q=>⟨hok,by simpa using q⟩
 |x::xs,hb,acc,q=>⟨hok,hb x Yat _ (je6 f hok (λy hy=>hb y (Yal _ hy)) (by simpa using q))⟩
theorem jcE       f (hok:ok G):∀{xs } (_:∀x∈xs,∀K ,K (f x) G->b x G K) {acc } (_:k (acc++xs.filterMap f) G),jb9 ok b xs acc G k
 |[],_,acc,q=>⟨hok,by simpa using q⟩
 |x::xs,hb,acc,q=>⟨hok,hb x Yat _ (jcE f hok (λy hy=>hb y (Yal _ hy)) (by
   cases e:f x with
   |none=>rw[List.filterMap_cons_none e]at q;exact q
   |some u=>rw[List.filterMap_cons_some e]at q;simpa using q))⟩
def jao   i n:(rngU i n).length=n:=by unfold rngU;simp
def jaG    (h:(rngU 0 n)[i]?=some x):i<n/\x=.int i:=by
 unfold rngU at h;rw[Yav]at h;by_cases hi:i<n
 ·rw[Ydy hi]at h;exact⟨hi,by simpa using h.symm⟩
 ·rw[Yb1 (by simpa using hi)]at h
  cases h
def jev   (f:α->β)(l:List α) i:atI (l.map f) i=(atI l i).map f:=by
 unfold atI;rw[Yaa];cases ixN l.length i with
 |none=>rfl
 |some j=>simp
def jg9   (a:α) l:atI (a::l) 0=some a:=jby (xs:=a::l) (j:=0) rfl
def jbE   (a b:α) l:atI (a::b::l) 1=some b:=jby (xs:=a::b::l) (j:=1) rfl
def jjv   (a b c:α) l:atI (a::b::c::l) 2=some c:=jby (xs:=a::b::c::l) (j:=2) rfl
def jpR    a b c d (l:List α):atI (a::b::c::d::l) 3=some d:=jby (xs:=a::b::c::d::l) (j:=3) rfl
def jfc   {l:List α}{r:Int}(h0:0<=r)(h1:r<l.length):∃x,x∈l/\atI l r=some x:=by
 obtain⟨j,rfl⟩:=YaG h0;have hj:j<l.length:=by lia
 exact⟨l[j],YaQ hj,jby (Yad hj)⟩
noncomputable def fdU  (c:Addr)(a l t:Int):List (Key×U):=[(.inr "cells",.loc c),(.inr "at",.int a),(.inr "left",.int l),(.inr "turn",.int t)]
structure Fd (G:Gp)(f c:Addr):Prop where
 ex:∃(ns:List Int) (a l t:Int),G f=some (.dK (fdU c a l t))/\G c=some (.lst (ns.map .int))/\ns≠[]
def k_ca  : ¬((Sum.inr ("cells" : Str):Key)=Sum.inr ("at" : Str)):=by decide +kernel
def k_cl  : ¬((Sum.inr ("cells" : Str):Key)=Sum.inr ("left" : Str)):=by decide +kernel
def k_ct  : ¬((Sum.inr ("cells" : Str):Key)=Sum.inr ("turn" : Str)):=by decide +kernel
def k_al  : ¬((Sum.inr ("at" : Str):Key)=Sum.inr ("left" : Str)):=by decide +kernel
def k_at  : ¬((Sum.inr ("at" : Str):Key)=Sum.inr ("turn" : Str)):=by decide +kernel
def k_lt  : ¬((Sum.inr ("left" : Str):Key)=Sum.inr ("turn" : Str)):=by decide +kernel

def jly  : dGet (fdU c a l t) (.inr "cells")=some (.loc c):=by simp[dGet,fdU]
def g_at  : dGet (fdU c a l t) (.inr "at")=some (.int a):=by simp[dGet,fdU,k_ca,-Ycn]
def jnL  : dGet (fdU c a l t) (.inr "left")=some (.int l):=by simp[dGet,fdU,k_cl,k_al,-Ycn]
def jj9  : dGet (fdU c a l t) (.inr "turn")=some (.int t):=by simp[dGet,fdU,k_ct,k_at,k_lt,-Ycn]
def jjV   x:dPut (fdU c a l t) (.inr "turn") (.int x)=fdU c a l x:=by simp[dPut,fdU,k_ct,k_at,k_lt,-Ycn]
def p_at   x:dPut (fdU c a l t) (.inr "at") (.int x)=fdU c x l t:=by simp[dPut,fdU,k_ca,Ne.symm k_al,Ne.symm k_at,-Ycn]
def jmT   x:dPut (fdU c a l t) (.inr "left") (.int x)=fdU c a x t:=by simp[dPut,fdU,k_cl,k_al,Ne.symm k_lt,-Ycn]
def jng   : jds [((Sum.inr ("cells" : Str):Key),U.loc p),(.inr "at",.int 0),(.inr "left",.int 0),(.inr "turn",.int 0)]=fdU p 0 0 0:=by
 simp[jds,dPut,fdU,k_ca,k_cl,k_ct,k_al,k_at,k_lt,-Ycn]
def jgv  : (fdU c a l t).length<Yai:=by show 4<Yai;decide
def Fd.put       (p:Put G f (.dK (fdU c a l t)) G')(h:G f=some (.dK kvs))(hc:G c=some (.lst (ns.map .int)))(hn:ns≠[]):Fd G' f c:=
 ⟨ns,a,l,t,p.at,p.sm _ _ (λz=>by rw[z,h]at hc;cases hc) hc,hn⟩
def Fd.sa    (h:Fd G f c)(s:Sa G G'):Fd G' f c:=let ⟨ns,a,l,t,h1,h2,h3⟩:=h.ex;⟨ns,a,l,t,s _ _ h1,s _ _ h2,h3⟩
def Fd.new     (h:Fd G f c)(n:New G p o G'):Fd G' f c:=h.sa n.sa
def Fd.away     (h:Fd G f c)(n:New G p o G'):p≠f/\p≠c:=by
 obtain⟨ns,a,l,t,h1,h2,_⟩:=h.ex;exact⟨jbq h1 n.no,jbq h2 n.no⟩
def Fd.off     (h:Fd G f c)(hp:p≠f/\p≠c)(w:Put G p o G'):Fd G' f c:=let ⟨ns,a,l,t,h1,h2,h3⟩:=h.ex;⟨ns,a,l,t,w.sm _ _ (Ne.symm hp.1) h1,w.sm _ _ (Ne.symm hp.2) h2,h3⟩
def Sm.wr     (s1:Sm f G G1)(n:G1 p=none)(s2:Sm f G G2)(w:Put G2 p o G3):Sm f G G3:=λb u hb e=>w.sm b u (λz=>by
 have:=s1 _ _ hb e;rw[z,n]at this;cases this) (s2 b u hb e)
def Sm.nw     (s:Sm f G G1)(n:New G1 p o G2):Sm f G G2:=s.trans n.sa.sm
def D_v         i:(den gs Δ (.v i)).1 ς G Q X=(slot ς i λu=>Q u G):=rfl
def T_v         i:(den gs Δ (.v i)).2 ς G R X=(den gs Δ (.v i)).1 ς G (λx G1=>truU x G1 λb=>R b G1) X:=rfl
def jqG         : (den gs Δ (.non)).1 ς G Q X=(Q .non G):=rfl
def D_bl         b:(den gs Δ (.bl b)).1 ς G Q X=(Q (.bl b) G):=rfl
def jqN         i:(den gs Δ (.int i)).1 ς G Q X=(Q (.int i) G):=rfl
def jqE         x:(den gs Δ (.str x)).1 ς G Q X=(Q (.str x) G):=rfl
def D_g         n:(den gs Δ (.g n)).1 ς G Q X=(glU gs n λu=>Q u G):=rfl
def T_g         n:(den gs Δ (.g n)).2 ς G R X=(den gs Δ (.g n)).1 ς G (λx G1=>truU x G1 λb=>R b G1) X:=rfl
def D_ty         n:(den gs Δ (.ty n)).1 ς G Q X=(Q (.ty n) G):=rfl
def T_ty         n:(den gs Δ (.ty n)).2 ς G R X=(den gs Δ (.ty n)).1 ς G (λx G1=>truU x G1 λb=>R b G1) X:=rfl
def jqS         o a b:(den gs Δ (.bin o a b)).1 ς G Q X=((den gs Δ a).1 ς G (λx G1=>(den gs Δ b).1 ς G1 (λy G2=>binU o x y G2 Q) X) X):=rfl
def jqj         o a b:(den gs Δ (.bin o a b)).2 ς G R X=(den gs Δ (.bin o a b)).1 ς G (λx G1=>truU x G1 λb=>R b G1) X:=rfl
def jqH         a:(den gs Δ (.neg a)).1 ς G Q X=((den gs Δ a).1 ς G (λx G1=>negU x G1 Q) X):=rfl
def jqQ         o a b:(den gs Δ (.cmp o a b)).1 ς G Q X=((den gs Δ a).1 ς G (λx G1=>(den gs Δ b).1 ς G1 (λy G2=>cmpU o x y G2 λc=>Q (.bl c) G2) X) X):=rfl
def jqh         o a b:(den gs Δ (.cmp o a b)).2 ς G R X=(den gs Δ (.cmp o a b)).1 ς G (λx G1=>truU x G1 λb=>R b G1) X:=rfl
def jow         o p a b c:(den gs Δ (.cmp2 o p a b c)).1 ς G Q X=((den gs Δ a).1 ς G (λx G1=>(den gs Δ b).1 ς G1 (λy G2=>cmpU o x y G2 λt=>if t=true then (den gs Δ c).1 ς G2 (λz G3=>cmpU p y z G3 λt'=>Q (.bl t') G3) X else Q (.bl false) G2) X) X):=rfl
def joe         o p a b c:(den gs Δ (.cmp2 o p a b c)).2 ς G R X=(den gs Δ (.cmp2 o p a b c)).1 ς G (λx G1=>truU x G1 λb=>R b G1) X:=rfl
def jqD         es:(den gs Δ (.tup es)).1 ς G Q X=(jaO gs Δ es ς G (λus G1=>us.length<=Yai/\Q (.tup us) G1) X):=rfl
def jqK         es:(den gs Δ (.lst es)).1 ς G Q X=(jaO gs Δ es ς G (λus G1=>us.length<=Yai/\newO G1 (.lst us) Q) X):=rfl
def jqP         es:(den gs Δ (.dic es)).1 ς G Q X=(denD gs Δ es ς G (λkvs G1=>kvs.length<=15/\newO G1 (.dK (jds kvs)) Q) X):=rfl
def jov         : (den gs Δ (.dicT)).1 ς G Q X=(newO G (.dT []) Q):=rfl
def jod         : (den gs Δ (.dicT)).2 ς G R X=(den gs Δ (.dicT)).1 ς G (λx G1=>truU x G1 λb=>R b G1) X:=rfl
def D_ix         a b:(den gs Δ (.ix a b)).1 ς G Q X=((den gs Δ a).1 ς G (λx G1=>(den gs Δ b).1 ς G1 (λy G2=>ixU x y G2 Q) X) X):=rfl
def T_ix         a b:(den gs Δ (.ix a b)).2 ς G R X=(den gs Δ (.ix a b)).1 ς G (λx G1=>truU x G1 λb=>R b G1) X:=rfl
def D_sl         a lo hi:(den gs Δ (.sl a lo hi)).1 ς G Q X=((den gs Δ a).1 ς G (λx G1=>denO gs Δ lo ς G1 (λl G2=>denO gs Δ hi ς G2 (λh G3=>slU x l h G3 Q) X) X) X):=rfl
def jox         n es:(den gs Δ (.call n es)).1 ς G Q X=(jaO gs Δ es ς G (λus G1=>Δ n us G1 Q X) X):=rfl
def jof         n es:(den gs Δ (.call n es)).2 ς G R X=(den gs Δ (.call n es)).1 ς G (λx G1=>truU x G1 λb=>R b G1) X:=rfl
def jqR         b es:(den gs Δ (.blt b es)).1 ς G Q X=(jaO gs Δ es ς G (λus G1=>bltU b us G1 Q) X):=rfl
def jqi         b es:(den gs Δ (.blt b es)).2 ς G R X=(den gs Δ (.blt b es)).1 ς G (λx G1=>truU x G1 λb=>R b G1) X:=rfl
def jou {gs:List U}{Δ:Cl}{ς:Sg}{G:Gp}{Q:K1}{X:KX}(m:Mth)(o:E)(es:Es):(den gs Δ (.meth m o es)).1 ς G Q X=((den gs Δ o).1 ς G (λx G1=>match mtU m x G1 with|some _=>jaO gs Δ es ς G1 (λus G2=>ja6 m x us G2 Q) X|none=>False) X):=rfl
def D_lc         pick t it ifs e:(den gs Δ (.lc pick t it ifs e)).1 ς G Q X=(denI gs Δ it ς G (λxs ok G1=>xs.length<=Yai/\jb9 ok (λx G2 k=>tgU t x (jbc pick ς) λτ=>denC gs Δ ifs τ G2 (λb G3=>if b=true then (den gs Δ e).1 τ G3 (λu G4=>k (some u) G4) (λ_ _=>False) else k none G3)) xs [] G1 λus G5=>newO G5 (.lst us) Q) X):=rfl
def jqM         pick t it ifs t2 it2 ifs2 e:(den gs Δ (.lc2 pick t it ifs t2 it2 ifs2 e)).1 ς G Q X=(denI gs Δ it ς G (λxs ok G1=>jfK ok (λx acc G2 k=>tgU t x (jbc pick ς) λτ=>denC gs Δ ifs τ G2 (λb G3=>if b=true then denI gs Δ it2 τ G3 (λys ok2 G4=>acc.length+ys.length<=Yai/\jb9 ok2 (λy G5 k5=>tgU t2 y τ λτ'=>denC gs Δ ifs2 τ' G5 (λb2 G6=>if b2=true then (den gs Δ e).1 τ' G6 (λu G7=>k5 (some u) G7) (λ_ _=>False) else k5 none G6)) ys acc G4 k) (λ_ _=>False) else k acc G3)) xs [] G1 λus G5=>newO G5 (.lst us) Q) X):=rfl
def jqf         pick t it ifs t2 it2 ifs2 e:(den gs Δ (.lc2 pick t it ifs t2 it2 ifs2 e)).2 ς G R X=(den gs Δ (.lc2 pick t it ifs t2 it2 ifs2 e)).1 ς G (λx G1=>truU x G1 λb=>R b G1) X:=rfl
def jqO         es:(den gs Δ (.fst es)).1 ς G Q X=(denF gs Δ es ς G (λzs G1=>Q (.str (L2.cats Yfk zs)) G1) X):=rfl
def jqg         es:(den gs Δ (.fst es)).2 ς G R X=(den gs Δ (.fst es)).1 ς G (λx G1=>truU x G1 λb=>R b G1) X:=rfl
def jqL         e i y a b es:(den gs Δ (.lrp e i y a b es)).1 ς G Q X=((den gs Δ e).1 ς G (λx G1=>slot ς i λu=>repU y b u λz w=>jaO gs Δ es ς G1 (λus G2=>(x::.str z::.str w::us).length<=Yai/\newO G2 (.lst (x::.str z::.str w::us)) Q) X) X):=rfl
def jqe         e i y a b es:(den gs Δ (.lrp e i y a b es)).2 ς G R X=(den gs Δ (.lrp e i y a b es)).1 ς G (λx G1=>truU x G1 λb=>R b G1) X:=rfl
def jqJ         e:(den gs Δ (.mkL e)).1 ς G Q X=((den gs Δ e).1 ς G (λx G1=>itU x G1 λxs _=>newO G1 (.lst xs) Q) X):=rfl
def jqI         e:(den gs Δ (.mkT e)).1 ς G Q X=((den gs Δ e).1 ς G (λx G1=>itU x G1 λxs _=>Q (.tup xs) G1) X):=rfl
def jqF         a:(den gs Δ (.not a)).1 ς G Q X=((den gs Δ a).1 ς G (λx G1=>truU x G1 λb=>Q (.bl (!b)) G1) X):=rfl
def jqd         a:(den gs Δ (.not a)).2 ς G R X=((den gs Δ a).2 ς G (λb G1=>R (!b) G1) X):=rfl
def joy      : den gs Δ (.bop k a .nil)=den gs Δ a:=rfl
def jqT          : (den gs Δ (.bop true a (.cons b es))).1 ς G Q X=(den gs Δ a).1 ς G (λx G1=>truU x G1 λc=>if c=true then (den gs Δ (.bop true b es)).1 ς G1 Q X else Q x G1) X:=rfl
def D_or          : (den gs Δ (.bop false a (.cons b es))).1 ς G Q X=(den gs Δ a).1 ς G (λx G1=>truU x G1 λc=>if c=true then Q x G1 else (den gs Δ (.bop false b es)).1 ς G1 Q X) X:=rfl
def jqk          : (den gs Δ (.bop true a (.cons b es))).2 ς G R X=(den gs Δ a).2 ς G (λc G1=>if c=true then (den gs Δ (.bop true b es)).2 ς G1 R X else R false G1) X:=rfl
def T_or          : (den gs Δ (.bop false a (.cons b es))).2 ς G R X=(den gs Δ a).2 ς G (λc G1=>if c=true then R true G1 else (den gs Δ (.bop false b es)).2 ς G1 R X) X:=rfl
def O_no        : denO gs Δ .no ς G Q X=Q none G:=rfl
def O_so {gs:List U}{Δ:Cl}{ς:Sg}{G:Gp}{X:KX}{Q:Option Int->Gp->Prop}{e:E}:denO gs Δ (.so e) ς G Q X=(den gs Δ e).1 ς G (λx G1=>match x with|.int i=>Q (some i) G1|_=>False) X:=rfl
def jqX        : jaO gs Δ .nil ς G Q X=Q [] G:=rfl
def joB          : jaO gs Δ (.cons e es) ς G Q X=(den gs Δ e).1 ς G (λx G1=>jaO gs Δ es ς G1 (λxs G2=>Q (x::xs) G2) X) X:=rfl
def jqV       : denC gs Δ .nil ς G Q=Q true G:=rfl
def joz         : denC gs Δ (.cons e es) ς G Q=(den gs Δ e).2 ς G (λb G1=>if b=true then denC gs Δ es ς G1 Q else Q false G1) (λ_ _=>False):=rfl
def jqr        : denD gs Δ .nil ς G Q X=Q [] G:=rfl
def joj {gs:List U}{Δ:Cl}{ς:Sg}{G:Gp}{X:KX}{Q:List (Key×U)->Gp->Prop}{e f:E}{es:Es}:denD gs Δ (.cons e (.cons f es)) ς G Q X=(den gs Δ e).1 ς G (λx G1=>(den gs Δ f).1 ς G1 (λy G2=>match kU x with|some k=>denD gs Δ es ς G2 (λkvs G3=>Q ((k,y)::kvs) G3) X|none=>False) X) X:=rfl
def I_e         : denI gs Δ (.e e) ς G Q X=(den gs Δ e).1 ς G (λx G1=>itU x G1 λxs ok=>Q xs ok G1) X:=rfl
def I_r1 {gs:List U}{Δ:Cl}{ς:Sg}{G:Gp}{X:KX}{Q:List U->(Gp->Prop)->Gp->Prop}{e:E}:denI gs Δ (.r1 e) ς G Q X=(den gs Δ e).1 ς G (λx G1=>match x with|.int j=>-(2 ^ 62)<=j/\j<2 ^ 62/\Q (rngU 0 j.toNat) (λ_=>True) G1|_=>False) X:=rfl
def jok         : denI gs Δ (.enum e) ς G Q X=(den gs Δ e).1 ς G (λx G1=>enI x G1 λxs ok=>Q xs ok G1) X:=rfl
def I_s         : denI gs Δ (.s e) ς G Q X=(den gs Δ e).1 ς G (λx G1=>sgU x λxs=>Q xs (λ_=>True) G1) X:=rfl
def jqw        : denF gs Δ .nil ς G Q X=Q [] G:=rfl
def jos          : denF gs Δ (.cons e es) ς G Q X=(den gs Δ e).1 ς G (λx G1=>fpU x λz=>denF gs Δ es ς G1 (λzs G2=>Q (z::zs) G2) X) X:=rfl
def I_dk         : denI gs Δ (.dk e) ς G Q X=(den gs Δ e).1 ς G (λx G1=>jlQ x G1 Q) X:=rfl
def jql         : denS gs Δ (.unp ts e) D ς G=(den gs Δ e).1 ς G (λu G1=>unpU ts u G1 ς λς'=>D.nx ς' G1) λx G1=>D.ex x ς G1:=rfl
def joh        : denS gs Δ (.expr e) D ς G=(den gs Δ e).1 ς G (λ_ G1=>D.nx ς G1) λx G1=>D.ex x ς G1:=rfl
def jqq         : denS gs Δ (.asg t e) D ς G=(den gs Δ e).1 ς G (λu G1=>tgU t u ς λς'=>D.nx ς' G1) λx G1=>D.ex x ς G1:=rfl
def joi         : denS gs Δ (.asgC i e) D ς G=(den gs Δ e).1 ς G (λu G1=>D.nx (ς.set i (some u)) G1) λx G1=>D.ex x ς G1:=rfl
def jog        : denS gs Δ (.setS o i e) D ς G=(den gs Δ e).1 ς G (λv G1=>(den gs Δ o).1 ς G1 (λx G2=>(den gs Δ i).1 ς G2 (λy G3=>setU x y v G3 λG4=>D.nx ς G4) (λx G1=>D.ex x ς G1)) (λx G1=>D.ex x ς G1)) (λx G1=>D.ex x ς G1):=rfl
def jqn         : denS gs Δ (.par is es) D ς G=jaO gs Δ es ς G (λus G1=>us.length=is.length/\D.nx ((is.zip us).foldl (λs p=>s.set p.1 (some p.2)) ς) G1) λx G1=>D.ex x ς G1:=rfl
def jqp          : denS gs Δ (.aug i o e) D ς G=slot ς i λx=>(den gs Δ e).1 ς G (λy G1=>jh8 o x y G1 λz G2=>D.nx (ς.set i (some z)) G2) λx G1=>D.ex x ς G1:=rfl
def jqo         : denS gs Δ (.ite c a b) D ς G=(den gs Δ c).2 ς G (λt G1=>if t=true then jas gs Δ a D ς G1 else jas gs Δ b D ς G1) λx G1=>D.ex x ς G1:=rfl
def S_fr          : denS gs Δ (.fr t it b) D ς G=denI gs Δ it ς G (λxs ok G1=>forL ok (λx ς1 G2 k=>tgU t x ς1 λς2=>jas gs Δ b { D with nx:=k } ς2 G2) xs ς G1 D.nx) λx G1=>D.ex x ς G1:=rfl
def jqm        : denS gs Δ (.ret e) D ς G=(den gs Δ e).1 ς G D.rt λx G1=>D.ex x ς G1:=rfl
def jlP         : denS gs Δ (.raise c es) D ς G=jaO gs Δ es ς G (λus G1=>us.length=(clsF c).length/\D.ex ⟨c,us⟩ ς G1) λx G1=>D.ex x ς G1:=rfl
def S_tr          : denS gs Δ (.tr b c n h) D ς G=jas gs Δ b { D with ex:=λx ς1 G1=>(c=0\/x.c=c)/\hsH x h (ς1.set n none) G1 λς2 G2=>D.nx (ς2.set n none) G2 } ς G:=rfl
def jqW       : jas gs Δ .nil D ς G=D.nx ς G:=rfl
def joA         : jas gs Δ (.cons s r) D ς G=denS gs Δ s { D with nx:=λς' G'=>jas gs Δ r D ς' G' } ς G:=rfl
def S_wh         : denS gs Δ (.wh c b) D ς G=∃W:Nat->Sg->Gp->Prop,(∃m,W m ς G)/\∀m ς1 G1,W m ς1 G1->(den gs Δ c).2 ς1 G1 (λt G2=>if t=true then jas gs Δ b { D with nx:=λς' G'=>∃m',m'<m/\W m' ς' G' } ς1 G2 else D.nx ς1 G2) λx G1=>D.ex x ς1 G1:=rfl
def jqc     : binU .Add (.int i) (.int j) G Q=Q (.int (i+j)) G:=rfl
def jqb     : binU .Add (.tup xs) (.tup ys) G Q=(xs.length+ys.length<=Yai/\Q (.tup (xs++ys)) G):=rfl
def jd1     : binU .Add (.loc a) (.loc b) G Q=∃xs ys,G a=some (.lst xs)/\G b=some (.lst ys)/\xs.length+ys.length<=Yai/\newO G (.lst (xs++ys)) Q:=rfl
def jp6     : binU .Sub (.int i) (.int j) G Q=Q (.int (i-j)) G:=rfl
def jp9     : binU .Mult (.int i) (.int j) G Q=(CMul i j/\Q (.int (i*j)) G):=rfl
def jn9      : binU .Mult (.loc a) (.int k) G Q=∃xs,G a=some (.lst xs)/\-(2 ^ 63)<=k/\k<2 ^ 63/\xs.length*k.toNat<=Yai/\newO G (.lst (Yab k.toNat xs).flatten) Q:=rfl
def jn7      : binU .Mult (.tup xs) (.int k) G Q=(xs≠[]/\0<=k/\k<2 ^ 62/\xs.length*k.toNat<=Yai/\Q (.tup (Yab k.toNat xs).flatten) G):=rfl
def joa     : binU .FloorDiv (.int i) (.int j) G Q=(0<j/\j<1073741824/\Q (.int (i/j)) G):=rfl
def jqa     : binU .Mod (.int i) (.int j) G Q=(0<j/\Q (.int (i%j)) G):=rfl
def jp7     : binU .Pow (.int i) (.int j) G Q=(CPow i j/\Q (.int (i ^ j.toNat)) G):=rfl
def jp8     : negU (.int i) G Q=Q (.int (-i)) G:=rfl
def jp5     : cmpU .Eq (.int i) (.int j) G k=k (decide (i=j)):=rfl
def jp1     : cmpU .NotEq (.int i) (.int j) G k=k (!decide (i=j)):=rfl
def jp3     : cmpU .Eq (.str i) (.str j) G k=k (decide (i=j)):=rfl
def jpZ     : cmpU .NotEq (.str i) (.str j) G k=k (!decide (i=j)):=rfl
def W_lt     : cmpU .Lt (.int i) (.int j) G k=k (decide (i<j)):=rfl
def W_le     : cmpU .LtE (.int i) (.int j) G k=k (decide (i<=j)):=rfl
def W_gt     : cmpU .Gt (.int i) (.int j) G k=k (decide (j<i)):=rfl
def W_ge     : cmpU .GtE (.int i) (.int j) G k=k (decide (j<=i)):=rfl
def jpY     : cmpU .NotEq (.tup xs) (.tup ys) G k=eqU (.tup xs) (.tup ys) G λb=>k (!b):=rfl
def jp2      : cmpU .Eq (.tup xs) (.tup (y::ys)) G k=eqU (.tup xs) (.tup (y::ys)) G k:=rfl
def jn4     : cmpU .Eq (.tup xs) (.tup []) G k=k xs.isEmpty:=rfl
def jp0     : cmpU .NotEq (.loc a) (.loc b) G k=eqU (.loc a) (.loc b) G λb=>k (!b):=rfl
def jp4     : cmpU .Eq (.loc a) (.loc b) G k=eqU (.loc a) (.loc b) G k:=rfl
def W_in     : cmpU .In x y G k=inU x y G k:=rfl
def jpX     : cmpU .NotIn x y G k=inU x y G λb=>k (!b):=rfl
def Y_bl     : truU (.bl b) G k=k b:=rfl
def jpT    : truU .non G k=k false:=rfl
def jpU     : truU (.int i) G k=k (i != 0):=rfl
def jpS     : truU (.tup xs) G k=k (!xs.isEmpty):=rfl
def jqu     : itU (.tup xs) G k=k xs λ_=>True:=rfl
def jpV      : slU (.tup xs) lo hi G Q=Q (.tup (cut xs lo hi)) G:=rfl
def jqz     : bltU .len us G Q=lenU us G Q:=rfl
def jom     : bltU .repr us G Q=jhA us G Q:=rfl
def jqx     : bltU .min us G Q=minU us G Q:=rfl
def jqy     : bltU .max us G Q=maxU us G Q:=rfl
def jqC     : bltU .all us G Q=allU us G Q:=rfl
def jqB     : bltU .int us G Q=intU us G Q:=rfl
def jqA     : bltU .isi us G Q=jg0 us G Q:=rfl
def jpW      : slU (.str x) lo hi G Q=(x.length<=Yai/\Q (.str (Yfj x lo hi)) G):=rfl
def job      : binU .Add (.bl b) (.int j) G Q=Q (.int ((if b=true then (1:Int) else 0)+j)) G:=rfl
def jn6      : binU .Sub (.bl b) (.int j) G Q=Q (.int ((if b=true then (1:Int) else 0)-j)) G:=rfl
def jn5      : binU .Sub (.int i) (.bl b) G Q=Q (.int (i-if b=true then (1:Int) else 0)) G:=rfl
def jop     : lenU [.tup xs] G Q=Q (.int xs.length) G:=rfl
def jon     : minU [.int i,.int j] G Q=Q (.int (if j<i then j else i)) G:=rfl
def joo     : maxU [.int i,.int j] G Q=Q (.int (if j>i then j else i)) G:=rfl
def jor     : intU [.bl b] G Q=Q (.int (if b then 1 else 0)) G:=rfl
def joq     : intU [.int i] G Q=Q (.int i) G:=rfl
def G_n      : tgU (.n i) u ς k=k (ς.set i (some u)):=rfl
def G_t      : tgU (.t ts) (.tup us) ς k=tgsU ts us ς k:=rfl
def jqv     : tgsU .nil us ς k=(us=[]/\k ς):=rfl
def jol        : tgsU (.cons t ts) (u::r) ς k=tgU t u ς λς'=>tgsU ts r ς' k:=rfl
def sl_0   {ς:Sg}:slot (some u::ς) 0 k=k u:=rfl
def sl_s   {ς:Sg}:slot (o::ς) (i+1) k=slot ς i k:=rfl
def jcX      : putO G a o Q=Q (gup G a o):=propext ⟨λh=>h.at,λh G1 p=>by rw[p.eq];exact h⟩
def ix_t       (h:atI xs i=some u):ixU (.tup xs) (.int i) G Q=Q u G:=by unfold ixU;dsimp only;rw[h]
def ix_l        (g:G a=some (.lst xs))(h:atI xs i=some u):ixU (.loc a) (.int i) G Q=Q u G:=by unfold ixU;dsimp only;rw[g];dsimp only;rw[h]
def ix_d        (g:G a=some (.dK kvs))(h:dGet kvs (.inr x)=some u):ixU (.loc a) (.str x) G Q=Q u G:=by unfold ixU;dsimp only;rw[g];show(match dGet kvs (.inr x)with|some u=>Q u G|none=>False)=_;rw[h]
def jfx       (g:G a=some (.lst xs))(h0:0<=r)(h1:r<xs.length)(q:∀u∈xs,Q u G):ixU (.loc a) (.int r) G Q:=by
 obtain⟨u,hu,e⟩:=jfc h0 h1;rw[ix_l g e];exact q u hu
def jaI  (zs:List Int){r:Int}(g:G a=some (.lst (zs.map .int)))(h0:0<=r)(h1:r<zs.length)(q:∀z∈zs,Q (.int z) G):ixU (.loc a) (.int r) G Q:=
 jfx g h0 (by rw[Yaa];exact h1) λu hu=>by
  obtain⟨z,hz,rfl⟩:=List.mem_map.mp hu;exact q z hz
theorem jf7  : ∀zs ,jeB (zs.map .str)=some zs
 |[]=>rfl
 |x::r=>by show(match jeB (r.map .str)with|some l=>some (x::l)|none=>none)=_;rw[jf7 r]
def mt_join    : mtU .join (.str z) G=some ("str", "str.join"):=rfl
def jnu       (g:G a=some (.lst (ys.map .str))):ja6 .join (.str z) [.loc a] G Q=(z.length<=16/\(ys.map (·.length)).sum+ys.length<=1048576/\Q (.str (YbS z ys)) G):=by
 unfold ja6 jlo;dsimp only;rw[g];dsimp only;rw[jf7]
def ix_s       (h1:x.length<=Yai)(h:atI x.cps.toList i=some c)(q:Q (.str ⟨#[c]⟩) G):ixU (.str x) (.int i) G Q:=by unfold ixU;dsimp only;rw[h];exact⟨h1,q⟩
def jie  (zs:List Str):(zs.map U.str).all flat=true:=by simp[flat]
def in_l       (g:G a=some (.lst ys))(h1:flat x=true)(h2:ys.all flat=true)(q:k (ys.any λy=>eqF y x)):inU x (.loc a) G k:=by
 cases x<;>first|(cases h1;done)|(unfold inU;dsimp only;rw[g];exact .inl ⟨h1,h2,q⟩)
def jgX      (g:G a=some (.lst xs)):lenU [.loc a] G Q=Q (.int xs.length) G:=by unfold lenU;dsimp only;rw[g]
def jpA      (g:G a=some (.fro xs)):lenU [.loc a] G Q=Q (.int xs.length) G:=by unfold lenU;dsimp only;rw[g]
def it_l      (g:G a=some (.lst xs)):itU (.loc a) G k=k xs λG'=>lsG G' a=some xs:=by unfold itU;dsimp only;have e:lsG G a=some xs:=(by unfold lsG;rw[g]);rw[e]
def jiF       (g:G a=some (.lst xs)):ja6 .append (.loc a) [v] G Q=(xs.length<Yai/\putO G a (.lst (xs++[v])) (Q .non)):=by unfold ja6 jfQ;dsimp only;rw[g]
def jeQ     (g:G a=some (.lst xs)):mtU .append (.loc a) G=some ("list", "list.append"):=by unfold mtU;dsimp only;rw[g]
def jmh         (g:G a=some (.lst xs))(h:ixN xs.length i=some j):setU (.loc a) (.int i) v G Q=putO G a (.lst (xs.set j v)) Q:=by unfold setU;dsimp only;rw[g];dsimp only;rw[h]
def jiO        (g:G a=some (.dK kvs)):setU (.loc a) (.str x) v G Q=(kvs.length<Yai/\putO G a (.dK (dPut kvs (.inr x) v)) Q):=by unfold setU;dsimp only;rw[g];rfl
def jh2   (h:j<n):ixN n (j:Int)=some j:=by unfold ixN;rw[if_pos (YdU j),if_pos (by exact_mod_cast h)];simp
noncomputable def jjn  : Nat->Ss->Ss
 |0,s=>s
 |_+1,.nil=>.nil
 |n+1,.cons _ r=>jjn n r
def dr_0   : jjn 0 s=s:=rfl
def dr_s     : jjn (n+1) (.cons s r)=jjn n r:=rfl
def pk_nil   : jbc [] ς=[]:=rfl
def jkV    : jbc (none::r) ς=none::jbc r ς:=rfl
def jkU     : jbc (some j::r) ς=(ς[j]?).join::jbc r ς:=rfl
def jqs   : kU (.str x)=some (.inr x):=rfl
def jqt   : kU (.int i)=some (.inl i):=rfl
def sl_f       (g:G a=some (.fro xs)):slU (.loc a) lo hi G Q=newO G (.lst (cut xs lo hi)) Q:=by unfold slU;dsimp only;have e:lsG G a=some xs:=(by unfold lsG;rw[g]);rw[e]
def jlI   (f:α->β)(xs:List α) lo hi:cut (xs.map f) lo hi=(cut xs lo hi).map f:=by unfold cut;rw[Yaa,<- List.map_drop,<- List.map_take]
def jkk   (xs:List α)(n:Nat):cut xs none (some (n:Int))=xs.take n:=by
 unfold cut;rw[HT.sIx_none,HT.sIx_nat,Yds,Nat.sub_zero,List.take_eq_take_iff]
 lia
def jji      : ixU (.loc f) (.str "cells") (gup G f (.dK (fdU c a l t))) Q=Q (.loc c) (gup G f (.dK (fdU c a l t))):=ix_d jap jly
def jpJ      : ixU (.loc f) (.str "at") (gup G f (.dK (fdU c a l t))) Q=Q (.int a) (gup G f (.dK (fdU c a l t))):=ix_d jap g_at
def jlA      : ixU (.loc f) (.str "left") (gup G f (.dK (fdU c a l t))) Q=Q (.int l) (gup G f (.dK (fdU c a l t))):=ix_d jap jnL
def jlz      : ixU (.loc f) (.str "turn") (gup G f (.dK (fdU c a l t))) Q=Q (.int t) (gup G f (.dK (fdU c a l t))):=ix_d jap jj9
def jpK      : setU (.loc f) (.str "at") (.int x) (gup G f (.dK (fdU c a l t))) Q=Q (gup G f (.dK (fdU c x l t))):=by rw[jiO jap,p_at,jcX,jen];exact propext ⟨λh=>h.2,λh=>⟨jgv,h⟩⟩
def jlC      : setU (.loc f) (.str "left") (.int x) (gup G f (.dK (fdU c a l t))) Q=Q (gup G f (.dK (fdU c a x t))):=by rw[jiO jap,jmT,jcX,jen];exact propext ⟨λh=>h.2,λh=>⟨jgv,h⟩⟩
def jlB      : setU (.loc f) (.str "turn") (.int x) (gup G f (.dK (fdU c a l t))) Q=Q (gup G f (.dK (fdU c a l x))):=by rw[jiO jap,jjV,jcX,jen];exact propext ⟨λh=>h.2,λh=>⟨jgv,h⟩⟩
end Z

namespace Y
open PySem L2
noncomputable def nO  : Obj:=⟨.none,none,.fields ⟨[]⟩,⟨[]⟩⟩
noncomputable def tO  (v:List Value):Obj:=⟨.type "tuple",none,.seq ⟨v⟩ 0,⟨[]⟩⟩
noncomputable def sO  (c:Value)(v:List Value):Obj:=⟨c,none,.fields ⟨v⟩,⟨[]⟩⟩
noncomputable def rO  (v:List (Option Value)):Obj:=⟨.type "frame",none,.plain,⟨v⟩⟩
noncomputable def gO  (x q:Str)(s:Stmt):Obj:=⟨.none,none,.func { name:=x,qualname:=q,params:=ja7 s,body:=.stmts (jam s),scope:=jaf s,globals:=0,closure:=[],defaults:=.none,kwdefaults:=.none },⟨[]⟩⟩
noncomputable def fO  (x q:Str)(s:Stmt)(m:Value)(c:Nat):Obj:=⟨.type "function",none,.func (Yba x q (ja7 s) (jam s) (jaf s) .none .none .none m none (.ref c) .none),⟨[]⟩⟩
noncomputable def kO  (fi x q:Str)(t:Nat)(l a f:Int)(r:Nat)(b:Bool)(u v w:Value)(z:Nat):Obj:=⟨.type "code",none,.fields ⟨[.str x t,.str q (t+1),.str fi (t+2),.int l 0,.int a 0,.int 0 0,.int 0 0,.int f 0,.ref r,.bool b,.int 181 0,.ref (r+1),.none,u,v,w,.int z 0,.int l 0,.str fi (z+1)]⟩,⟨[]⟩⟩
noncomputable def dE  (P:Params)(x:Str)(t:Nat)(v:Value):Yej:=⟨PyData.keyHash P x,.str x t,v⟩
noncomputable def dO  (e:List Yej)(n:Nat):Obj:=⟨.type "dict",none,.dict ⟨e⟩ n,⟨[]⟩⟩
noncomputable def cO  (x:Str)(b m:List Value)(n:Nat)(u:List Value)(s:List (Option Value)):Obj:=⟨.type "type",none,.cls { name:=x,bases:=b,mro:=m,ns:=n,qualname:=x,subclasses:=u },⟨s⟩⟩
def tE  : Obj:=tO []
noncomputable abbrev bE  : Ycr:=.nil
noncomputable abbrev bN  (o:Obj)(l r:Ycr):Ycr:=.node o l r
noncomputable abbrev bL  (o:Obj):Ycr:=.node o .nil .nil
end Y
namespace Z
open PySem L2
noncomputable def argB  (ps:List Str)(a:Ygl):Bool:=a.posonlyargs.isEmpty&&(a.args.map (·.arg)==ps)&&a.vararg.isNone&&a.kwonlyargs.isEmpty&&a.kwarg.isNone
def jni  : ∀{ps:List Str} {us:List Value},us.length=ps.length->ps.Nodup->(ps.filterMap λn=>((ps.zip us).lookup n).map (n,·))=ps.zip us/\∀n∈ps,((ps.zip us).lookup n).isSome=true:=by
 have key:∀{l:List Str} {vs:List Value} {L:List (Str×Value)},vs.length=l.length->l.Nodup->(∀(i:Nat) n v,l[i]?=some n->vs[i]?=some v->L.lookup n=some v)->(l.filterMap λn=>(L.lookup n).map (n,·))=l.zip vs/\∀n∈l,(L.lookup n).isSome=true:=by
  intro l
  induction l with
  |nil=>intro vs L _ _ _;exact⟨rfl,λn h=>absurd h Yam⟩
  |cons x l ih=>
   intro vs L hl nd hL;obtain _|⟨v,vs⟩:=vs
   ·cases hl
   ·have h0:=hL 0 x v rfl rfl;obtain⟨e1,e2⟩:=ih (L:=L) (vs:=vs) (by simpa using hl) (List.nodup_cons.mp nd).2 λi n v a b=>hL (i+1) n v a b
    refine⟨?_,λn hn=>?_⟩
    ·rw[YbJ,h0,YdP,<- e1];rfl
    ·rcases Yau.mp hn with rfl|hn
     ·rw[h0];rfl
     ·exact e2 n hn
 intro ps us hl nd;refine key hl nd λi n v a b=>?_;have hz:(ps.zip us)[i]?=some (n,v):=List.getElem?_zip_eq_some.mpr ⟨a,b⟩;have:∀(l:List (Str×Value)),(l.map (·.1)).Nodup->(n,v)∈l->l.lookup n=some v:=by
  intro l
  induction l with
  |nil=>intro _ h;exact absurd h Yam
  |cons p l ih=>
   intro nd h;obtain⟨m,u⟩:=p;rw[YaZ];by_cases e:n=m
   ·subst e;rw[beq_self_eq_true];rcases Yau.mp h with h|h
    ·cases h;rfl
    ·exact absurd (List.mem_map.mpr ⟨_,h,rfl⟩) (List.nodup_cons.mp nd).1
   ·rw[beq_eq_false_iff_ne.mpr e];rcases Yau.mp h with h|h
    ·cases h;exact absurd rfl e
    ·exact ih (List.nodup_cons.mp nd).2 h
 exact this _ (by rw[Ygh (by lia)];exact nd) (Yaq hz)
def jfN    (h:argB ps a=true)(nd:ps.Nodup){kV doc pm:Value}(hl:us.length=ps.length) :
  bindArgs (Yba x q a b sc .none kV doc pm an cdv ct) ⟨us,[]⟩=pure (ps.zip us):=by
 obtain⟨po,as,va,ko,kd,ka,df⟩:=a;unfold argB at h;simp only[Yao,List.isEmpty_iff,Option.isNone_iff_eq_none,beq_iff_eq]at h;obtain⟨⟨⟨⟨rfl,rfl⟩,rfl⟩,rfl⟩,rfl⟩:=h;obtain⟨e1,e2⟩:=jni hl nd;have e3:(List.filter (λn=>(Ybt n ((as.map (·.arg)).zip us)).isNone) (as.map (·.arg)))=[]:=List.filter_eq_nil_iff.mpr λn hn=>by
  have:=e2 n hn;cases q:Ybt n ((as.map (·.arg)).zip us)with
  |none=>rw[q]at this;cases this
  |some _=>simp
 have e0:seqItems? YbD=pure none:=rfl;unfold bindArgs;dsimp only;rw[e0];generalize as.map (·.arg)=ns at *;have e4:ns.take (ns.length-0)=ns:=by rw[Nat.sub_zero,Ybg]
 simp[hl,e1,e3,e4]

abbrev FL:=List (Addr×Addr×Value)
noncomputable def refB  (v:Option (Option Value))(f:Addr):Bool:=match v with
 |some (some (.ref a))=>a==f
 |_=>false
def jgb    (h:refB v f=true):v=some (some (.ref f)):=by
 unfold refB at h;split at h
 ·rw[eq_of_beq h]
 ·cases h
noncomputable def dynB  (T:Tab)(K:Yac):Nat->FL->List Fun->List Stmt->Bool
 |_,[],[],[]=>true
 |i,x::fs,d::ds,s::ss=>refB (Ybf K YaF d.name) x.1&&Ybx K (.ref x.2.1) d.name&&(match T.ns.lookup i with|none=>true|some z=>jfL K (.ref x.2.1) z.P)&&argB d.ps (ja7 s)&&dynB T K (i+1) fs ds ss
 |_,_,_,_=>false
noncomputable def lkR  : FL->List Fun->List Stmt->List (Option Obj)
 |x::fs,d::ds,s::ss=>some (Y.fO d.name d.name s x.2.2 x.2.1)::lkR fs ds ss
 |_,_,_=>[]
theorem jig  {T:Tab}:∀{i } {fs } {ds } {ss },dynB T K i fs ds ss=true->fs.map (λx=>K.lookup x.1)=lkR fs ds ss->∀{n } {d } {s },ds[n]?=some d->ss[n]?=some s->
  ∃x:Addr×Addr×Value,Ybf K YaF d.name=some (some (.ref x.1))/\K.lookup x.1=some (Y.fO d.name d.name s x.2.2 x.2.1)/\Ybx K (.ref x.2.1) d.name=true/\(∀z,T.ns.lookup (i+n)=some z->jfL K (.ref x.2.1) z.P=true)/\argB d.ps (ja7 s)=true
 |_,_,[],_,_,_,_,_,_,e,_=>by simp at e
 |_,_,_::_,[],_,_,_,_,_,_,e=>by simp at e
 |_,[],_::_,_::_,h,_,_,_,_,_,_=>by unfold dynB at h;cases h
 |i,x::fs,d::ds,s::ss,h,g,n,d',s',e1,e2=>by
  unfold dynB at h;simp only[Yao]at h;obtain⟨⟨⟨⟨h1,h2⟩,h3⟩,h4⟩,h5⟩:=h;unfold lkR at g;rw[YaM]at g;injection g with g1 g2
  cases n with
  |zero=>
   cases(Yar e1:d=d');cases(Yar e2:s=s');exact⟨x,jgb h1,g1,h2,λz hz=>by rw[Ydh]at hz;rw[hz]at h3;exact h3,h4⟩
  |succ n=>
   obtain⟨y,q1,q2,q3,q4,q5⟩:=jig h5 g2 (n:=n) e1 e2;exact⟨y,q1,q2,q3,λz hz=>q4 z (by rw[show i+1+n=i+(n+1) by lia];exact hz),q5⟩
def jkO    (h:scB N ps sc=true):ps.Nodup:=by
 have S:=jkF h;rw[<- S.pre];exact S.nd.sublist (Yf2 _ _)
def jfv        (h:K.lookup f=some ⟨c,d,.func fd,sl⟩):Ybc K (.ref f)=true:=by
 unfold Ybc;dsimp only;rw[h]

def jnT  {T: Tab}{sts:List Stmt}(X:K.In h)(G:h.Ns YaF mg)(hst:jd9 T 0 T.funs sts=true)(heq:jeG T sts 0 T.funs sts)(hB:dynB T K 0 fs T.funs sts=true)(hL:fs.map (λx=>K.lookup x.1)=lkR fs T.funs sts):Dyn T K mg sts:=by
 intro n d st h1 h2;obtain⟨x,q1,q2,q3,q4,q5⟩:=jig hB hL h1 h2;have F:=jic (st:=st) q2 q3 (jfv q2);obtain⟨st',e,hs,_⟩:=jcY hst heq h1;cases h2.symm.trans e;exact⟨_,_,F,YcP X G q1,F.binds λ_ _ _ _ _ _ us hl=>jfN q5 (jkO hs) hl,λz hz=>q4 z (by rw[YbI];exact hz)⟩
def bltB  (K:Yac):Bool:=jcb.all λx=>match Ybf K YaF x with
 |some none=>true
 |_=>false
def jn2  (X:K.In h)(G:h.Ns YaF mg)(hb:bltB K=true):∀x∈jcb,mg x=none:=λx hx=>by
 have:=List.all_eq_true.mp hb x hx;refine PySem.W.mg_none_of X G ?_;split at this
 ·assumption
 ·cases this
noncomputable def gsB  (K:Yac):List Str->List U->Bool
 |[],[]=>true
 |x::xs,u::us=>(match u,Ybf K YaF x with
  |.int i,some (some (.int j _))=>i==j
  |.str i,some (some (.str j _))=>i==j
  |_,_=>false)&&gsB K xs us
 |_,_=>false
theorem jnJ  (X:K.In h)(G:h.Ns YaF mg):∀{xs } {us },gsB K xs us=true->∀(n:Nat) x u ,xs[n]?=some x->us[n]?=some u->∃v w,mg x=some w/\RelV v w/\∀H,RU K H u v
 |[],_,_,_,_,_,e,_=>by simp at e
 |_::_,[],_,_,_,_,_,e=>by simp at e
 |x::xs,u::us,hb,n,x',u',e1,e2=>by
  unfold gsB at hb;rw[Yao]at hb;cases n with
  |zero=>
   cases(Yar e1:x=x');cases(Yar e2:u=u');have h1:=hb.1;split at h1
   ·rename_i i j t q;cases eq_of_beq h1;exact⟨.int i,_,YcP X G q,⟨_,rfl⟩,λ_=>rfl⟩
   ·rename_i i j t q;cases eq_of_beq h1;exact⟨.str i,_,YcP X G q,⟨_,rfl⟩,λ_=>rfl⟩
   ·cases h1
  |succ n=>exact jnJ X G hb.2 n x' u' e1 e2
def CsA  (K:Yac):List Nat->Prop
 |[]=>True
 |n::r=>(∃C,XCls K (gK K) (clsN n) (clsF n) C)/\CsA K r
theorem jnW  : ∀{l },CsA K l->∀n∈l,1<=n->∃C,XCls K (gK K) (clsN n) (clsF n) C
 |[],_,_,hn,_=>absurd hn Yam
 |m::r,hc,n,hn,h1=>by
  unfold CsA at hc;rcases Yau.mp hn with rfl|hn
  ·exact hc.1
  ·exact jnW hc.2 n hn h1
def all2  {T: Tab}{l:Yd2}{sts:List Stmt}{d:Fun}(X:K.In h)(G:h.Ns YaF mg)(hfa:mg "law" = some (.ref fa))(hst:jd9 T 0 T.funs sts=true)(heq:jeG T sts 0 T.funs sts)
  (hU:∀t∈tabs,∀t'∈tabs,t.1=t'.1->t=t') (hB:dynB T K 0 fs T.funs sts=true) (hL:fs.map (λx=>K.lookup x.1)=lkR fs T.funs sts) (hb:bltB K=true) (hg:gsB K T.gn T.gs=true) (hc:CsA K T.cs)
  (hd:T.funs[n]?=some d) (hs:sts[n]?=some st) (hn:T.ns.lookup n=none) (hdn:d.name = "law") (hps:d.ps=[("_law_script" : Str)]) :
  ∃fd ,(∀(s:Shared) v ,BindsTo s fd ⟨[v],[]⟩ [("_law_script",v)])/\∀base ,K.In base->base.Ns YaF mg->BmAt mg base->FnOk l.prog w K mg base (CX1 l.prog w) (k+2) fa fd ["_law_script"] (lSp K (jab T k n)):=by
 have dyn:=jnT X G hst heq hB hL;obtain⟨x,q1,q2,q3,q4,q5⟩:=jig hB hL hd hs;obtain⟨st',e,hsc,_⟩:=jcY hst heq hd;cases hs.symm.trans e;have F:=jic (st:=st) q2 q3 (jfv q2);rw[hdn]at q1;cases hfa.symm.trans (YcP X G q1);refine⟨Yba d.name d.name (ja7 st) (jam st) (jaf st) .none .none .none x.2.2 none (.ref x.2.1) .none,λs v=>.of_eq ((jfN (us:=[v]) q5 (jkO hsc) (by rw[hps];rfl)).trans (by rw[hps];rfl)),λbase hKb _ hBm=>?_⟩
 rw[<- hps];exact jgP F hst heq dyn hU hKb hBm (jn2 X G hb) (jnJ X G hg) (jnW hc) (jnf X G) hd hs hn

def jpQ  (x:Str)(D N b t t':Nat)(u:List Value):Obj:=Y.cO x [.type "ValueError"] (.ref D::bmV) N u [some (.ref b),none,some (.str x t),some (.str x t'),some (.builtin "ValueError.__new__"),some (.bool true)]
def clsO  (x:Str)(C D N b t t':Nat):Obj:=Y.cO x [.ref D] (.ref C::.ref D::bmV) N [] [some (.ref b),none,some (.str x t),some (.str x t'),some (.builtin "ValueError.__new__"),some (.bool true)]
def xb_mk   D N b t t' u (l:K.lookup D=some (jpQ "PlanError" D N b t t' u))(h:(refB (Ybf K YaF "PlanError") D&&Ybc K (.ref D)&&(jdM K N==some ksB)&&offB ksB && !ksB.contains ("__init__" : Str))=true):∃mD,XBase K (gK K) D mD:=by
 simp only[Yao,Ybs]at h;obtain⟨⟨⟨⟨h1,h2⟩,h3⟩,h4⟩,h5⟩:=h;exact jiG (jgb h1) h2 l (eq_of_beq h3) h4 h5
def xc_mk   (B:∃mD,XBase K (gK K) D mD) x qual fs st (C N b t t' fI c:Nat)(m:Value)(l1:K.lookup C=some (clsO x C D N b t t'))(l2:K.lookup fI=some (Y.fO "__init__" qual st m c))
  (h:(refB (Ybf K YaF x) C&&Ybc K (.ref C)&&(jdM K N==some ksC)&&offB ksC&&refB (Ybf K N "__init__") fI&&Ybx K (.ref c) qual&&scB (("self" : Str)::fs) ("self" :: fs) (jaf st)&&((("self" : Str)::fs).all λy=>(jaf st).names.lookup y==some .local)&&argB (("self" : Str)::fs) (ja7 st))=true)
  (bd:(∃f p1 p2 p3 pos,fs=[f]/\jam st=[.Assign [.Attribute (.Name "self" p1) f p2] (.Name f p3) pos])\/∃f f2 p1 p2 p3 pos q1 q2 q3 qos,fs=[f,f2]/\f≠f2/\jam st=[.Assign [.Attribute (.Name "self" p1) f p2] (.Name f p3) pos,.Assign [.Attribute (.Name "self" q1) f2 q2] (.Name f2 q3) qos]):∃C,XCls K (gK K) x fs C:=by
 obtain⟨mD,B⟩:=B;simp only[Yao]at h;obtain⟨⟨⟨⟨⟨⟨⟨⟨h1,h2⟩,h3⟩,h4⟩,h5⟩,h6⟩,h7⟩,h8⟩,h9⟩:=h;have F:=jic (st:=st) l2 h6 (jfv l2);exact⟨C,jkl B (jgb h1) h2 l1 (eq_of_beq h3) h4 (jgb h5) F l2 h7 (F.binds λ_ _ _ _ _ _ us hl=>jfN h9 (jkO h7) hl) h8 bd⟩
section
local macro_rules
 |`(#[])=>`(.nil)
 |`(#[$x])=>`(.cons $x .nil)
 |`(#[$x,$xs,*])=>`(.cons $x #[$xs,*])
noncomputable abbrev jbz  : Nat:=0
noncomputable abbrev jc9  : Nat:=1
noncomputable abbrev jbR  : Nat:=2
noncomputable abbrev jbf  : Nat:=3
noncomputable abbrev jc3  : Nat:=4
noncomputable abbrev jb2  : Nat:=5
noncomputable abbrev jdH  : Nat:=6
noncomputable abbrev jbe  : Nat:=7
noncomputable abbrev jbt  : Nat:=8
noncomputable abbrev jcu  : Nat:=9
noncomputable abbrev jgk  : Nat:=10
noncomputable abbrev jdI  : Nat:=11
noncomputable abbrev jc4  : Nat:=12
noncomputable abbrev jdG  : Nat:=13
noncomputable abbrev jaa  : Nat:=14
noncomputable abbrev jc6  : Nat:=15
noncomputable abbrev jc7  : Nat:=16
noncomputable abbrev jbr  : Nat:=17
noncomputable abbrev jco  : Nat:=18
noncomputable abbrev jdF  : Nat:=19
noncomputable abbrev jc8  : Nat:=20
noncomputable abbrev jbs  : Nat:=21
noncomputable abbrev jc5  : Nat:=22
noncomputable abbrev jbG  : Nat:=23
noncomputable abbrev jaH  : Nat:=24
noncomputable abbrev jbS  : Nat:=25
noncomputable abbrev jbJ  : Nat:=26
noncomputable abbrev jcw  : Nat:=27
noncomputable abbrev jbI  : Nat:=28
noncomputable abbrev jbH  : Nat:=29
noncomputable abbrev jbT  : Nat:=30
noncomputable abbrev jcx  : Nat:=31
noncomputable abbrev jb1  : Nat:=32
noncomputable abbrev jcv  : Nat:=33
noncomputable abbrev jlg  : Nat:=34
noncomputable def jdV  : Fun:=⟨"is_whole",["thing"],["thing"],#[.ret (.bop true (.blt .isi #[.v 0,.ty "int"]) #[.not (.blt .isi #[.v 0,.ty "bool"])])]⟩
def jdq  : Fun:=⟨"is_within",["thing", "least", "most"],["thing", "least", "most"],#[.ret (.bop true (.call jbz #[.v 0]) #[.cmp2 .LtE .LtE (.v 1) (.v 0) (.v 2)])]⟩
noncomputable def jdj  : Fun:=⟨"length_of",["plan", "period", "beats", "s"],["plan", "period", "beats", "s", "word", "one", "other", "low", "high"],#[.asg (.t #[.n 4,.n 5,.n 6,.n 7,.n 8]) (.ix (.ix (.v 0) (.int 1)) (.v 3)),.ret (.bin .Add (.v 7) (.bin .Mod (.bin .Sub (.bin .Sub (.ix (.v 2) (.v 6)) (.ix (.v 2) (.v 5))) (.v 7)) (.v 1)))]⟩
def jdr  : Fun:=⟨"buffer_of",["plan", "period", "beats", "s"],["plan", "period", "beats", "s"],#[.ret (.bin .Sub (.call jbR #[.v 0,.v 1,.v 2,.v 3]) (.ix (.ix (.ix (.v 0) (.int 1)) (.v 3)) (.int 3)))]⟩
def je2  : Fun:=⟨"step_of",["plan", "period", "beats", "s"],["plan", "period", "beats", "s", "word", "one", "other", "low", "high"],#[.asg (.t #[.n 4,.n 5,.n 6,.n 7,.n 8]) (.ix (.ix (.v 0) (.int 1)) (.v 3)),.ret (.bin .FloorDiv (.bin .Sub (.bin .Add (.ix (.v 2) (.v 5)) (.call jbR #[.v 0,.v 1,.v 2,.v 3])) (.ix (.v 2) (.v 6))) (.v 1))]⟩
def jb8  : Fun:=⟨"is_late_row",["thing", "works"],["thing", "works"],#[.ite (.not (.bop true (.blt .isi #[.v 0,.ty "tuple"]) #[.cmp .Eq (.blt .len #[.v 0]) (.v 1)])) #[.ret (.bl false)] .nil,.ret (.blt .all #[.lc [none] (.n 0) (.e (.v 0)) .nil (.bop true (.call jbz #[.v 0]) #[.cmp .GtE (.v 0) (.int 0)])])]⟩
def jdW  : Fun:=⟨"is_table",["thing", "works", "many"],["thing", "works", "many"],#[.ite (.not (.bop true (.blt .isi #[.v 0,.ty "tuple"]) #[.cmp .Eq (.blt .len #[.v 0]) (.v 2)])) #[.ret (.bl false)] .nil,.ret (.blt .all #[.lc [none,some 1] (.n 0) (.e (.v 0)) .nil (.call jb2 #[.v 0,.v 1])])]⟩
noncomputable def jb7  : Fun:=⟨"late_places",["table"],["table"],#[.ret (.lc2 [none,none,none,none] (.t #[.n 0,.n 1]) (.enum (.v 0)) .nil (.t #[.n 2,.n 3]) (.enum (.v 1)) #[.cmp .Gt (.v 3) (.int 0)] (.tup #[.v 2,.v 0,.v 3]))]⟩
def jbv  : Fun:=⟨"is_late_paper",["thing", "works", "many"],["thing", "works", "many", "table", "chains"],#[.ite (.not (.bop true (.blt .isi #[.v 0,.ty "tuple"]) #[.cmp .Eq (.blt .len #[.v 0]) (.int 2)])) #[.ret (.bl false)] .nil,.asg (.t #[.n 3,.n 4]) (.v 0),(.ret (.bop true (.call jdH #[.v 3,.v 1,.v 2]) #[.blt .isi #[.v 4,.ty "tuple"],.cmp .Eq (.blt .len #[.v 4]) (.blt .len #[.call jbe #[.v 3]])]))]⟩
def jcz  : Fun:=⟨"span_holds",["plan", "period", "beats", "many", "table", "s"],["plan", "period", "beats", "many", "table", "s", "word", "one", "other", "low", "high", "step", "buffer"],#[.asg (.t #[.n 6,.n 7,.n 8,.n 9,.n 10]) (.ix (.ix (.v 0) (.int 1)) (.v 5)),.asg (.n 11) (.call jc3 #[.v 0,.v 1,.v 2,.v 5]),.asg (.n 12) (.call jbf #[.v 0,.v 1,.v 2,.v 5]),.ret (.blt .all #[.lc [none,some 4,some 7,some 8,some 11,some 12] (.n 0) (.r1 (.bin .Sub (.v 3) (.v 11))) .nil (.cmp .GtE (.ix (.ix (.v 1) (.bin .Add (.v 0) (.v 4))) (.v 3)) (.bin .Sub (.ix (.ix (.v 1) (.v 0)) (.v 2)) (.v 5)))])]⟩
def jgB  : Fun:=⟨"led_to",["plan", "period", "beats", "waiting", "start", "row"],["plan", "period", "beats", "waiting", "start", "row", "work", "turn", "late", "s"],#[.asg (.t #[.n 6,.n 7,.n 8]) (.v 4),(.fr (.n 9) (.e (.v 5)) #[.ite (.not (.bop true (.call jbz #[.v 9]) #[.cmp .In (.v 9) (.v 3),.cmp .Eq (.ix (.ix (.ix (.v 0) (.int 1)) (.v 9)) (.int 1)) (.v 6)])) #[.ret .non] .nil,.asg (.n 6) (.ix (.ix (.ix (.v 0) (.int 1)) (.v 9)) (.int 2)),.aug 7 .Add (.call jc3 #[.v 0,.v 1,.v 2,.v 9]),.aug 8 .Sub (.call jbf #[.v 0,.v 1,.v 2,.v 9])]),.ret (.tup #[.v 6,.v 7,.v 8])]⟩
def jdX  : Fun:=⟨"is_chain",["plan", "period", "beats", "waiting", "given", "place", "thing"],["plan", "period", "beats", "waiting", "given", "place", "thing", "g", "row"],#[.ite (.not (.bop true (.blt .isi #[.v 6,.ty "tuple"]) #[.cmp .Eq (.blt .len #[.v 6]) (.int 2)])) #[.ret (.bl false)] .nil,.asg (.t #[.n 7,.n 8]) (.v 6),(.ite (.not (.bop true (.call jc9 #[.v 7,.int 0,.bin .Sub (.blt .len #[.v 4]) (.int 1)]) #[.blt .isi #[.v 8,.ty "tuple"],.cmp .LtE (.blt .len #[.v 8]) (.g 0)])) #[.ret (.bl false)] .nil),.ret (.cmp .Eq (.call jgk #[.v 0,.v 1,.v 2,.v 3,.ix (.v 4) (.v 7),.v 8]) (.v 5))]⟩
def ja8  : Ss:=#[.fr (.t #[.n 9,.n 14]) (.enum (.call jbe #[.v 7])) #[.ite (.not (.call jdI #[.v 0,.v 1,.v 2,.v 3,.v 4,.v 14,.ix (.v 8) (.v 9)])) #[.raise 1 #[.str "chain",.v 9]] .nil],.ret (.bl true)]
def ja9  : Ss:=(.cons (.fr (.n 13) (.e (.v 3)) #[.ite (.not (.call jcu #[.v 0,.v 1,.v 2,.v 5,.v 7,.v 13])) #[.raise 1 #[.str "span",.v 13]] .nil]) ja8)
def jba  : Ss:=(.cons (.fr (.t #[.n 9,.t #[.n 10,.n 11,.n 12]]) (.enum (.v 4)) #[.ite (.cmp .Lt (.ix (.ix (.v 7) (.v 11)) (.v 10)) (.v 12)) #[.raise 1 #[.str "given",.v 9]] .nil]) ja9)
def jdi  : Fun:=⟨"lets_late",["plan", "period", "beats", "waiting", "given", "many", "thing"],["plan", "period", "beats", "waiting", "given", "many", "thing", "table", "chains", "k", "work", "turn", "late", "s", "place"],(.cons (.ite (.not (.call jbt #[.v 6,.blt .len #[.ix (.v 0) (.int 0)],.v 5])) #[.raise 1 #[.str "shape",.int 0]] .nil) (.cons (.asg (.t #[.n 7,.n 8]) (.v 6)) jba))⟩
noncomputable def jdT  : Fun:=⟨"_law_feed",["_law_script"],["_law_script"],#[(.ret (.dic #[.str "cells",.bin .Add (.mkL (.sl (.v 0) .no (.so (.int 63)))) (.bin .Mult (.lst #[.int 0]) (.blt .int #[.cmp .Eq (.blt .len #[.v 0]) (.int 0)])),.str "at",.int 0,.str "left",.int 0,.str "turn",.int 0]))]⟩
noncomputable def jdU  : Fun:=⟨"_law_draw",["_law_feed_here", "_law_many"],["_law_feed_here", "_law_many", "_law_cell", "_law_mixed", "_law_found"],#[.setS (.v 0) (.str "turn") (.bin .Add (.ix (.v 0) (.str "turn")) (.int 1)),(.ite (.cmp .Eq (.ix (.v 0) (.str "left")) (.int 0)) #[.asg (.n 2) (.ix (.ix (.v 0) (.str "cells")) (.bin .Mod (.ix (.v 0) (.str "at")) (.blt .len #[.ix (.v 0) (.str "cells")]))),.setS (.v 0) (.str "at") (.bin .Add (.ix (.v 0) (.str "at")) (.int 1)),.ite (.cmp .Lt (.v 2) (.bin .Pow (.int 10) (.int 18))) #[.asg (.n 3) (.bin .Mod (.bin .Mult (.bin .Add (.bin .Mod (.v 2) (.int 2147483629)) (.bin .Mult (.int 1013) (.ix (.v 0) (.str "turn")))) (.int 48271)) (.int 2147483647)),.asg (.n 3) (.bin .Mod (.bin .Mult (.bin .Add (.bin .FloorDiv (.v 3) (.int 64)) (.bin .Mult (.int 41) (.ix (.v 0) (.str "turn")))) (.int 69621)) (.int 2147483587)),.ret (.bin .Mod (.bin .FloorDiv (.v 3) (.int 64)) (.v 1))] .nil,.setS (.v 0) (.str "left") (.v 2)] .nil),.asg (.n 4) (.bin .Mod (.ix (.v 0) (.str "left")) (.v 1)),.setS (.v 0) (.str "left") (.bin .FloorDiv (.ix (.v 0) (.str "left")) (.v 1)),.ret (.v 4)]⟩
def jdn  : Fun:=⟨"_law_names",["_law_feed_here", "_law_many"],["_law_feed_here", "_law_many", "_law_menu", "_law_first", "_law_step", "_law_names_here", "_law_signs"],#[.asg (.n 2) (.lst #[.str "a",.str "ab",.str "abc",.str "works",.str "span",.str "apart",.str "none",.str "round",.str "held",.str "zzzzzzzz",.str "undo",.str "b",.str "ba",.str "plan"]),.expr (.meth .append (.v 2) #[.str "x"]),.asg (.n 3) (.call jaa #[.v 0,.int 15]),.asg (.n 4) (.ix (.lst #[.int 1,.int 2,.int 4,.int 7,.int 8,.int 11,.int 13,.int 14]) (.call jaa #[.v 0,.int 8])),.asgC 5 (.lc [none,some 2,some 3,some 4] (.n 0) (.r1 (.v 1)) .nil (.ix (.v 1) (.bin .Mod (.bin .Add (.v 2) (.bin .Mult (.v 3) (.v 0))) (.int 15)))),(.ite (.cmp .Eq (.call jaa #[.v 0,.int 3]) (.int 0)) #[.asgC 6 (.lc [none,some 0] (.n 0) (.r1 (.bin .Add (.int 1) (.call jaa #[.v 0,.int 8]))) .nil (.ix (.str "abcdefghijklmnopqrstuvwxyz") (.call jaa #[.v 1,.int 26]))),.ite (.cmp .NotIn (.meth .join (.str "") #[.v 6]) (.v 5)) #[.setS (.v 5) (.call jaa #[.v 0,.v 1]) (.meth .join (.str "") #[.v 6])] .nil] .nil),.ret (.mkT (.v 5))]⟩
def jdo  : Fun:=⟨"_law_cycle",["_law_feed_here"],["_law_feed_here"],#[.ret (.ix (.lst #[.int 1,.int 2,.int 3,.int 4,.int 5,.int 6,.int 7,.int 8,.int 10,.int 12,.int 30,.int 60,.int 120,.int 600]) (.call jaa #[.v 0,.int 14]))]⟩
def jcB  : Fun:=⟨"_law_number",["_law_feed_here", "_law_cycle_here"],["_law_feed_here", "_law_cycle_here", "_law_way"],#[.asg (.n 2) (.call jaa #[.v 0,.int 6]),.ite (.cmp .Lt (.v 2) (.int 3)) #[.ret (.call jaa #[.v 0,.bin .Add (.v 1) (.int 1)])] .nil,.ite (.cmp .Eq (.v 2) (.int 3)) #[.ret (.ix (.lst #[.int 0,.int 1,.v 1,.bin .Sub (.bin .Mult (.int 2) (.v 1)) (.int 1),.bin .Mult (.int 2) (.v 1)]) (.call jaa #[.v 0,.int 5]))] .nil,.ret (.call jaa #[.v 0,.ix (.lst #[.bin .Add (.bin .Mult (.int 3) (.v 1)) (.int 1),.int 10000]) (.bin .Sub (.v 2) (.int 4))])]⟩
def jdR  : Fun:=⟨"_law_span",["_law_feed_here", "_law_one", "_law_other", "_law_cycle_here"],["_law_feed_here", "_law_one", "_law_other", "_law_cycle_here", "_law_low", "_law_more"],#[.asg (.n 4) (.call jbr #[.v 0,.v 3]),.ite (.cmp .Eq (.call jaa #[.v 0,.int 4]) (.int 0)) #[.ret (.tup #[.str "apart",.v 1,.v 2,.v 4,.call jbr #[.v 0,.v 3]])] .nil,.asg (.n 5) (.ix (.lst #[.int 0,.int 0,.int 1,.int 2,.bin .FloorDiv (.v 3) (.int 2),.bin .Sub (.v 3) (.int 1),.bin .Mult (.int 3) (.v 3),.int 9999]) (.call jaa #[.v 0,.int 8])),.ret (.tup #[.str "span",.v 1,.v 2,.v 4,.blt .min #[.int 9999,.bin .Add (.v 4) (.v 5)]])]⟩
def jdS  : Fun:=⟨"_law_plan",["_law_feed_here", "_law_cycle_here"],["_law_feed_here", "_law_cycle_here", "_law_works", "_law_names_here", "_law_spans", "_law_k"],#[.asg (.n 2) (.ix (.lst #[.int 1,.int 2,.int 2,.int 3,.int 3,.int 4,.int 5,.int 8]) (.call jaa #[.v 0,.int 8])),.asg (.n 3) (.call jc6 #[.v 0,.v 2]),.asg (.n 4) (.lst .nil),(.fr (.n 5) (.r1 (.ix (.lst #[.int 0,.int 1,.int 2,.int 3,.int 4,.int 6,.int 9,.int 24]) (.call jaa #[.v 0,.int 8]))) #[(.ite (.bop true (.cmp .NotEq (.v 4) (.lst .nil)) #[.cmp .Eq (.call jaa #[.v 0,.int 9]) (.int 0)]) #[.expr (.meth .append (.v 4) #[.ix (.v 4) (.call jaa #[.v 0,.blt .len #[.v 4]])])] #[(.expr (.meth .append (.v 4) #[(.call jco #[.v 0,.call jaa #[.v 0,.v 2],.call jaa #[.v 0,.v 2],.v 1])]))])]),.ret (.tup #[.v 3,.mkT (.v 4)])]⟩
def jdp  : Fun:=⟨"_law_beats",["_law_feed_here", "_law_works", "_law_cycle_here"],["_law_feed_here", "_law_works", "_law_cycle_here"],#[.ret (.mkT (.lc [none,some 0,some 2] (.n 0) (.r1 (.v 1)) .nil (.call jaa #[.v 1,.v 2])))]⟩
noncomputable def je4  : Fun:=⟨"_law_leg",["_law_plan_here", "_law_cycle_here", "_law_beats_here", "_law_s"],["_law_plan_here", "_law_cycle_here", "_law_beats_here", "_law_s", "_law_word", "_law_one", "_law_other", "_law_low", "_law_high", "_law_step"],#[.asg (.t #[.n 4,.n 5,.n 6,.n 7,.n 8]) (.ix (.ix (.v 0) (.int 1)) (.v 3)),.asg (.n 9) (.bin .Sub (.int 0) (.bin .FloorDiv (.bin .Sub (.bin .Sub (.ix (.v 2) (.v 6)) (.ix (.v 2) (.v 5))) (.v 7)) (.v 1))),.ret (.tup #[.v 9,.bin .Sub (.bin .Sub (.bin .Add (.ix (.v 2) (.v 6)) (.bin .Mult (.v 9) (.v 1))) (.ix (.v 2) (.v 5))) (.v 7)])]⟩
def jbb  : Ss:=#[(.asg (.n 5) (.call jc8 #[.v 0,.blt .len #[.v 2],.v 1])),.asg (.n 6) (.mkT (.lc [none,some 0] (.n 0) (.r1 (.blt .len #[.v 3])) #[.cmp .Gt (.call jaa #[.v 1,.int 6]) (.int 0)] (.v 0))),.asg (.n 7) (.ix (.lst #[.int 1,.int 2,.int 3,.int 5,.int 8,.int 12]) (.call jaa #[.v 0,.int 6])),.asg (.n 8) (.lst .nil),(.fr (.n 9) (.r1 (.ix (.lst #[.int 1,.int 1,.int 2,.int 3,.int 0,.int 12]) (.call jaa #[.v 0,.int 6]))) #[.asg (.n 10) (.ix (.lst #[.int 0,.int 1,.int 2,.int 5,.v 1,.bin .Add (.bin .Mult (.int 2) (.v 1)) (.int 3),.int 999,.call jaa #[.v 0,.int 1000]]) (.call jaa #[.v 0,.int 8])),(.expr (.meth .append (.v 8) #[(.tup #[.call jaa #[.v 0,.blt .len #[.v 2]],.call jaa #[.v 0,.v 7],.blt .min #[.int 999,.v 10]])]))]),(.ret (.tup #[.tup #[.v 2,.v 3],.v 1,.v 5,.v 6,.mkT (.v 8),.v 7]))]
def jdk  : Fun:=⟨"_law_world",["_law_feed_here"],["_law_feed_here", "_law_cycle_here", "_law_names_here", "_law_spans", "_law_work", "_law_beats_here", "_law_waiting", "_law_many", "_law_given", "_law_k", "_law_number_here"],(.cons (.asg (.n 1) (.call jc7 #[.v 0])) (.cons (.asg (.t #[.n 2,.n 3]) (.call jdF #[.v 0,.v 1])) (.cons (.ite (.bop true (.cmp .Lt (.blt .len #[.v 3]) (.int 24)) #[.cmp .Eq (.call jaa #[.v 0,.int 4]) (.int 0)]) #[.asg (.n 4) (.call jaa #[.v 0,.blt .len #[.v 2]]),.asg (.n 3) (.bin .Add (.v 3) (.tup #[.tup #[.str "span",.v 4,.v 4,.int 0,.int 5]]))] .nil) jbb)))⟩
noncomputable def jaK  : Ss:=#[.ret (.mkT (.lc [none] (.n 0) (.e (.v 7)) .nil (.mkT (.v 0))))]
noncomputable def jaT  : Ss:=#[.asgC 12 (.lc [none] (.n 0) (.e (.v 7)) .nil (.mkL (.v 0))),.fr (.t #[.n 13,.n 14,.n 15,.n 16]) (.e (.v 11)) #[.fr (.n 9) (.r1 (.bin .Sub (.v 6) (.v 15))) #[.setS (.ix (.v 7) (.bin .Add (.v 9) (.v 15))) (.v 14) (.blt .max #[.ix (.ix (.v 7) (.bin .Add (.v 9) (.v 15))) (.v 14),.bin .Sub (.ix (.ix (.v 7) (.v 9)) (.v 13)) (.v 16)])]]]
def jbh  : Ss:=(.cons (.wh (.cmp .NotEq (.v 7) (.v 12)) jaT) jaK)
def jbi  : Ss:=(.cons (.asg (.n 12) .non) jbh)
def jbj  : Ss:=(.cons (.asgC 11 (.lc [none,some 1,some 2,some 3] (.n 0) (.e (.v 4)) .nil (.bin .Add (.sl (.ix (.ix (.v 1) (.int 1)) (.v 0)) (.so (.int 1)) (.so (.int 3))) (.call jbs #[.v 1,.v 2,.v 3,.v 0])))) jbi)
def jbL  : Fun:=⟨"_law_lateness",["_law_world_here"],["_law_world_here", "_law_plan_here", "_law_cycle_here", "_law_beats_here", "_law_waiting", "_law_given", "_law_many", "_law_table", "_law_work", "_law_turn", "_law_number_here", "_law_legs", "_law_last", "_law_one", "_law_other", "_law_step", "_law_spare"],(.cons (.asg (.t #[.n 1,.n 2,.n 3,.n 4,.n 5,.n 6]) (.v 0)) (.cons (.asgC 7 (.lc [none,some 1] (.n 0) (.r1 (.v 6)) .nil (.bin .Mult (.lst #[.int 0]) (.blt .len #[.ix (.v 1) (.int 0)])))) (.cons (.fr (.t #[.n 8,.n 9,.n 10]) (.e (.v 5)) #[.setS (.ix (.v 7) (.v 9)) (.v 8) (.blt .max #[.ix (.ix (.v 7) (.v 9)) (.v 8),.v 10])]) jbj)))⟩
noncomputable def jbO  : Fun:=⟨"_law_is_whole",["_law_thing"],["_law_thing"],#[.ret (.bop true (.blt .isi #[.v 0,.ty "int"]) #[.not (.blt .isi #[.v 0,.ty "bool"])])]⟩
noncomputable def jdl  : Fun:=⟨"_law_spots",["_law_table"],["_law_table", "_law_found", "_law_turn"],#[.asg (.n 1) (.lst .nil),.fr (.n 2) (.r1 (.blt .len #[.v 0])) #[.expr (.meth .extend (.v 1) #[.lc [none,some 0,some 2] (.n 0) (.r1 (.blt .len #[.ix (.v 0) (.v 2)])) #[.cmp .Gt (.ix (.ix (.v 1) (.v 2)) (.v 0)) (.int 0)] (.tup #[.v 2,.v 0])])],.ret (.v 1)]⟩
def jbP  : Fun:=⟨"_law_is_table",["_law_works", "_law_many", "_law_thing"],["_law_works", "_law_many", "_law_thing", "_law_row"],#[.ite (.bop false (.not (.blt .isi #[.v 2,.ty "tuple"])) #[.cmp .NotEq (.blt .len #[.v 2]) (.v 1)]) #[.ret (.bl false)] .nil,(.fr (.n 3) (.e (.v 2)) #[.ite (.bop false (.not (.blt .isi #[.v 3,.ty "tuple"])) #[.cmp .NotEq (.blt .len #[.v 3]) (.v 0)]) #[.ret (.bl false)] .nil,.ite (.cmp .NotEq (.lc [none] (.n 0) (.e (.v 3)) #[.bop false (.not (.call jaH #[.v 0])) #[.cmp .Lt (.v 0) (.int 0)]] (.v 0)) (.lst .nil)) #[.ret (.bl false)] .nil]),.ret (.bl true)]⟩
def jcC  : Fun:=⟨"_law_is_led",["_law_world_here", "_law_due", "_law_thing"],["_law_world_here", "_law_due", "_law_thing", "_law_plan_here", "_law_cycle_here", "_law_beats_here", "_law_waiting", "_law_given", "_law_many", "_law_work", "_law_turn", "_law_number_here", "_law_s", "_law_step", "_law_spare"],#[.asg (.t #[.n 3,.n 4,.n 5,.n 6,.n 7,.n 8]) (.v 0),(.ite (.bop false (.not (.blt .isi #[.v 2,.ty "tuple"])) #[.cmp .NotEq (.blt .len #[.v 2]) (.int 2),.not (.call jaH #[.ix (.v 2) (.int 0)])]) #[.ret (.bl false)] .nil),(.ite (.bop false (.not (.cmp2 .LtE .Lt (.int 0) (.ix (.v 2) (.int 0)) (.blt .len #[.v 7]))) #[.not (.blt .isi #[.ix (.v 2) (.int 1),.ty "tuple"]),.cmp .Gt (.blt .len #[.ix (.v 2) (.int 1)]) (.int 100)]) #[.ret (.bl false)] .nil),.asg (.t #[.n 9,.n 10,.n 11]) (.ix (.v 7) (.ix (.v 2) (.int 0))),(.fr (.n 12) (.e (.ix (.v 2) (.int 1))) #[.ite (.bop false (.not (.call jaH #[.v 12])) #[.cmp .NotIn (.v 12) (.v 6),.cmp .NotEq (.ix (.ix (.ix (.v 3) (.int 1)) (.v 12)) (.int 1)) (.v 9)]) #[.ret (.bl false)] .nil,.asg (.t #[.n 13,.n 14]) (.call jbs #[.v 3,.v 4,.v 5,.v 12]),.par [9,10,11] #[.ix (.ix (.ix (.v 3) (.int 1)) (.v 12)) (.int 2),.bin .Add (.v 10) (.v 13),.bin .Sub (.v 11) (.v 14)]]),.ret (.cmp .Eq (.tup #[.v 10,.v 9,.v 11]) (.v 1))]⟩
def jaL  : Ss:=#[(.fr (.n 17) (.r1 (.blt .len #[.v 10])) #[.asg (.t #[.n 18,.n 19]) (.ix (.v 10) (.v 17)),(.ite (.not (.call jcw #[.v 0,.tup #[.v 18,.v 19,.ix (.ix (.v 8) (.v 18)) (.v 19)],.ix (.v 9) (.v 17)])) #[.ret (.tup #[.str "chain",.v 17])] .nil)]),.ret (.bl true)]
def jaM  : Ss:=(.cons (.fr (.n 12) (.e (.v 5)) #[.asg (.t #[.n 13,.n 14]) (.sl (.ix (.ix (.v 2) (.int 1)) (.v 12)) (.so (.int 1)) (.so (.int 3))),.asg (.t #[.n 15,.n 16]) (.call jbs #[.v 2,.v 3,.v 4,.v 12]),.ite (.cmp .NotEq (.lc [none,some 8,some 13,some 14,some 15,some 16] (.n 0) (.r1 (.bin .Sub (.v 7) (.v 15))) #[.cmp .Lt (.ix (.ix (.v 1) (.bin .Add (.v 0) (.v 4))) (.v 3)) (.bin .Sub (.ix (.ix (.v 1) (.v 0)) (.v 2)) (.v 5))] (.v 0)) (.lst .nil)) #[.ret (.tup #[.str "span",.v 12])] .nil]) jaL)
def jaN  : Ss:=(.cons (.asgC 11 (.lc [none,some 6,some 8] (.n 0) (.r1 (.blt .len #[.v 6])) #[.cmp .Lt (.ix (.ix (.v 2) (.ix (.ix (.v 1) (.v 0)) (.int 1))) (.ix (.ix (.v 1) (.v 0)) (.int 0))) (.ix (.ix (.v 1) (.v 0)) (.int 2))] (.v 0))) (.cons (.ite (.cmp .NotEq (.v 11) (.lst .nil)) #[.ret (.tup #[.str "given",.ix (.v 11) (.int 0)])] .nil) jaM))
def jbk  : Ss:=(.cons (.asg (.n 10) (.call jbS #[.v 8])) (.cons (.ite (.bop false (.not (.blt .isi #[.v 9,.ty "tuple"])) #[.cmp .NotEq (.blt .len #[.v 9]) (.blt .len #[.v 10])]) #[.ret (.tup #[.str "shape",.int 0])] .nil) jaN))
def jbN  : Fun:=⟨"_law_late_due",["_law_world_here", "_law_thing"],["_law_world_here", "_law_thing", "_law_plan_here", "_law_cycle_here", "_law_beats_here", "_law_waiting", "_law_given", "_law_many", "_law_table", "_law_chains_here", "_law_spots_here", "_law_low", "_law_s", "_law_one", "_law_other", "_law_step", "_law_spare", "_law_k", "_law_turn", "_law_work"],(.cons (.asg (.t #[.n 2,.n 3,.n 4,.n 5,.n 6,.n 7]) (.v 0)) (.cons (.ite (.bop false (.not (.blt .isi #[.v 1,.ty "tuple"])) #[.cmp .NotEq (.blt .len #[.v 1]) (.int 2),(.not (.call jbJ #[.blt .len #[.ix (.v 2) (.int 0)],.v 7,.ix (.v 1) (.int 0)]))]) #[.ret (.tup #[.str "shape",.int 0])] .nil) (.cons (.asg (.t #[.n 8,.n 9]) (.v 1)) jbk)))⟩
def jbM  : Fun:=⟨"_law_late_let",["_law_world_here", "_law_thing"],["_law_world_here", "_law_thing", "_law_plan_here", "_law_cycle_here", "_law_beats_here", "_law_waiting", "_law_given", "_law_many", "_law_found", "e", "_law_others"],#[.asg (.t #[.n 2,.n 3,.n 4,.n 5,.n 6,.n 7]) (.v 0),.asg (.n 8) .non,(.tr #[.asg (.n 8) (.call jc4 #[.v 2,.v 3,.v 4,.v 5,.v 6,.v 7,.v 1])] 0 9 [.asg 8 (.one (.str "other")),.asg 10 (.cond false (false,.isi [3,5,4,2]) [(true,.isiV)]),.ifa true (false,.is1 1) [(true,.v 10)] 8 (.tup [(.att "word"),(.att "at")])]),.ret (.v 8)]⟩
def jdm  : Fun:=⟨"_law_order",["_law_feed_here", "_law_things"],["_law_feed_here", "_law_things", "_law_left", "_law_found"],#[.asg (.n 2) (.mkL (.v 1)),.asg (.n 3) (.lst .nil),.wh (.cmp .NotEq (.v 2) (.lst .nil)) #[.expr (.meth .append (.v 3) #[.meth .pop (.v 2) #[.call jaa #[.v 0,.blt .len #[.v 2]]]])],.ret (.v 3)]⟩
def ja1  : Ss:=#[.ret (.lc [none,some 9] (.n 0) (.e (.call jbS #[.v 2])) .nil (.ix (.v 1) (.v 0)))]
noncomputable def jav  : Ss:=#[.asg (.n 13) (.bin .Sub (.ix (.ix (.v 2) (.v 12)) (.v 17)) (.v 20)),.asg (.n 21) (.bop true (.cmp .In (.tup #[.v 12,.v 17]) (.v 9)) #[.cmp .NotIn (.tup #[.bin .Add (.v 12) (.v 19),.v 18]) (.v 9)]),(.ite (.bop true (.v 21) #[.cmp .Gt (.v 13) (.int 0),.cmp .Eq (.ix (.ix (.v 2) (.bin .Add (.v 12) (.v 19))) (.v 18)) (.v 13)]) #[.asg (.t #[.n 10,.n 22]) (.ix (.v 9) (.tup #[.v 12,.v 17])),.setS (.v 9) (.tup #[.bin .Add (.v 12) (.v 19),.v 18]) (.tup #[.v 10,.bin .Add (.v 22) (.tup #[.v 16])]),.asg (.n 15) (.bl true)] .nil)]
def jaz  : Ss:=#[.fr (.n 12) (.r1 (.bin .Sub (.v 8) (.v 19))) jav]
def jaF  : Ss:=#[.fr (.t #[.n 16,.n 17,.n 18,.n 19,.n 20]) (.e (.v 14)) jaz]
def ja2  : Ss:=(.cons (.wh (.v 15) (.cons (.asg (.n 15) (.bl false)) jaF)) ja1)
def ja3  : Ss:=(.cons (.asgC 14 (.lc [none,some 3,some 4,some 5] (.n 0) (.e (.call jbT #[.v 0,.v 6])) .nil (.bin .Add (.bin .Add (.tup #[.v 0]) (.sl (.ix (.ix (.v 1) (.int 1)) (.v 0)) (.so (.int 1)) (.so (.int 3)))) (.call jbs #[.v 1,.v 2,.v 3,.v 0])))) (.cons (.asg (.n 15) (.bl true)) ja2))
def ja4  : Ss:=(.cons (.fr (.n 10) (.e (.call jbT #[.v 0,.rngL (.blt .len #[.v 7])])) #[.asg (.t #[.n 11,.n 12,.n 13]) (.ix (.v 7) (.v 10)),.ite (.bop true (.cmp .Gt (.v 13) (.int 0)) #[.cmp .Eq (.ix (.ix (.v 2) (.v 12)) (.v 11)) (.v 13)]) #[.setS (.v 9) (.tup #[.v 12,.v 11]) (.tup #[.v 10,.tup .nil])] .nil]) ja3)
def jcD  : Fun:=⟨"_law_chains",["_law_feed_here", "_law_world_here", "_law_table"],["_law_feed_here", "_law_world_here", "_law_table", "_law_plan_here", "_law_cycle_here", "_law_beats_here", "_law_waiting", "_law_given", "_law_many", "_law_known", "_law_g", "_law_work", "_law_turn", "_law_number_here", "_law_legs", "_law_grows", "_law_s", "_law_one", "_law_other", "_law_step", "_law_spare", "_law_is_fresh", "_law_row"],(.cons (.asg (.t #[.n 3,.n 4,.n 5,.n 6,.n 7,.n 8]) (.v 1)) (.cons (.asg (.n 9) .dicT) ja4))⟩
def je3  : Fun:=⟨"_law_odd",["_law_feed_here"],["_law_feed_here", "_law_some"],#[(.asg (.n 1) (.lst #[.non,.bl true,.bl false,.int 0,.int 1,.neg (.int 1),.int 2,.int 99,.bin .Pow (.int 10) (.int 30),.str "",.str "a",.str "ring",.tup .nil,.tup #[.int 0],.lst .nil,.lst #[.int 0],.tup #[.tup .nil,.tup .nil],.tup #[.int 0,.tup .nil]])),.ret (.ix (.v 1) (.call jaa #[.v 0,.int 18]))]⟩
def jcA  : Fun:=⟨"_law_tables",["_law_feed_here", "_law_table"],["_law_feed_here", "_law_table", "_law_turn", "_law_row", "_law_work", "_law_odd_here", "_law_rows", "_law_found"],#[.asg (.n 2) (.call jaa #[.v 0,.blt .len #[.v 1]]),.asg (.n 3) (.ix (.v 1) (.v 2)),.asg (.n 4) (.call jaa #[.v 0,.blt .len #[.v 3]]),(.asg (.n 5) (.ix (.lst #[.bl true,.bl false,.non,.str "0",.neg (.int 1),.tup #[.int 0],.lst #[.int 0],.bin .Pow (.int 10) (.int 30)]) (.call jaa #[.v 0,.int 8]))),(.asg (.n 6) (.lst #[.mkL (.v 3),.sl (.v 3) (.so (.int 1)) .no,.bin .Add (.v 3) (.tup #[.int 0]),.bin .Add (.bin .Add (.sl (.v 3) .no (.so (.v 4))) (.tup #[.v 5])) (.sl (.v 3) (.so (.bin .Add (.v 4) (.int 1))) .no),.non,.tup .nil])),.asgC 7 (.lc [none,some 1,some 2] (.n 0) (.e (.v 6)) .nil (.bin .Add (.bin .Add (.sl (.v 1) .no (.so (.v 2))) (.tup #[.v 0])) (.sl (.v 1) (.so (.bin .Add (.v 2) (.int 1))) .no))),(.ret (.bin .Add (.v 7) (.lst #[.mkL (.v 1),.sl (.v 1) (.so (.int 1)) .no,.bin .Add (.v 1) (.tup #[.v 3]),.tup .nil,.non])))]⟩
def jcf  : Ss:=#[(.fr (.n 7) (.e (.v 6)) #[.asg (.n 8) (.blt .repr #[.v 7]),.ite (.bop false (.cmp .NotEq (.blt .repr #[.call jbH #[.v 3,.v 7]]) (.blt .repr #[.call jbI #[.v 3,.v 7]])) #[.cmp .NotEq (.blt .repr #[.v 7]) (.v 8)]) #[.ret (.bl false)] .nil])]
def jcg  : Ss:=(.cons (.asg (.n 6) (.bin .Add (.v 6) (.lst #[.call jb1 #[.v 1],.tup #[.v 4,.call jb1 #[.v 1]],(.tup #[.call jb1 #[.v 1],.v 5])]))) jcf)
def jch  : Ss:=(.cons (.asg (.n 6) (.bin .Add (.v 6) (.lc [none,some 5] (.n 0) (.e (.call jcv #[.v 1,.v 4])) .nil (.tup #[.v 0,.v 1])))) jcg)
def jci  : Ss:=(.cons (.asg (.n 6) (.bin .Add (.v 6) (.lst #[.tup #[.v 4,.bin .Mult (.tup #[.tup #[.int 0]]) (.blt .len #[.v 5])],.tup #[.v 4,.bin .Mult (.tup #[.non]) (.blt .len #[.v 5])],.tup #[.v 4,.bin .Mult (.str "0") (.blt .len #[.v 5])]]))) jch)
def jcj  : Ss:=(.cons (.asg (.n 6) (.bin .Add (.v 6) (.lst #[.tup #[.v 4,.mkL (.v 5)],.tup #[.v 4,.non],.tup #[.v 4,.bin .Mult (.tup #[.tup .nil]) (.blt .len #[.v 5])]]))) jci)
def jck  : Ss:=(.cons (.asg (.n 6) (.lst #[.non,.bl true,.int 0,.str "",.str "shape",.tup .nil,.lst .nil,.tup #[.v 4],.tup #[.v 4,.v 5,.int 0],.lst #[.v 4,.v 5],.tup #[.v 5,.v 4]])) jcj)
def jcl  : Ss:=(.cons (.asg (.n 3) (.call jc5 #[.v 1])) (.cons (.asg (.n 4) (.call jbG #[.v 3])) (.cons (.asg (.n 5) (.mkT (.call jcx #[.v 1,.v 3,.v 4]))) jck)))
def jho  : Ss:=#[.fr (.n 2) (.r1 (.int 2)) jcl,.ret (.bl true)]
def jnV  : Fun:=⟨"law",["_law_script"],["_law_script", "_law_feed_here", "_law_k", "_law_world_here", "_law_table", "_law_chains_here", "_law_things", "_law_thing", "_law_kept"],(.cons (.asg (.n 1) (.call jdG #[.v 0])) jho)⟩
def T  : Tab:=⟨[jdV,jdq,jdj,jdr,je2,jb8,jdW,jb7,jbv,jcz,jgB,jdX,jdi,jdT,jdU,jdn,jdo,jcB,jdR,jdS,jdp,je4,jdk,jbL,jbO,jdl,jbP,jcC,jbN,jbM,jdm,jcD,je3,jcA,jnV],[(.int 100)],["MOST_ROW"],[1,2,3,4,5],[],[]⟩
def top  (i:Nat):Stmt:=PySem.Challenge.pw_beatplans_k64_things_that_are_no_papers.main.body.getD i (.Pass ⟨0,0,0,0⟩)
noncomputable abbrev s_is_whole  : Stmt:=top 8
noncomputable abbrev s_is_within  : Stmt:=top 9
noncomputable abbrev s_length_of  : Stmt:=top 10
noncomputable abbrev s_buffer_of  : Stmt:=top 12
noncomputable abbrev s_step_of  : Stmt:=top 13
noncomputable abbrev s_is_late_row  : Stmt:=top 16
noncomputable abbrev s_is_table  : Stmt:=top 17
noncomputable abbrev s_late_places  : Stmt:=top 18
noncomputable abbrev s_is_late_paper  : Stmt:=top 19
noncomputable abbrev s_span_holds  : Stmt:=top 20
noncomputable abbrev s_led_to  : Stmt:=top 21
noncomputable abbrev s_is_chain  : Stmt:=top 22
noncomputable abbrev s_lets_late  : Stmt:=top 23
noncomputable abbrev s_law_feed  : Stmt:=top 25
noncomputable abbrev s_law_draw  : Stmt:=top 26
noncomputable abbrev s_law_names  : Stmt:=top 27
noncomputable abbrev s_law_cycle  : Stmt:=top 28
noncomputable abbrev s_law_number  : Stmt:=top 29
noncomputable abbrev s_law_span  : Stmt:=top 30
noncomputable abbrev s_law_plan  : Stmt:=top 31
noncomputable abbrev s_law_beats  : Stmt:=top 32
noncomputable abbrev s_law_leg  : Stmt:=top 33
noncomputable abbrev s_law_world  : Stmt:=top 34
noncomputable abbrev s_law_lateness  : Stmt:=top 35
noncomputable abbrev s_law_is_whole  : Stmt:=top 36
noncomputable abbrev s_law_spots  : Stmt:=top 37
noncomputable abbrev s_law_is_table  : Stmt:=top 38
noncomputable abbrev s_law_is_led  : Stmt:=top 39
noncomputable abbrev s_law_late_due  : Stmt:=top 40
noncomputable abbrev s_law_late_let  : Stmt:=top 41
noncomputable abbrev s_law_order  : Stmt:=top 42
noncomputable abbrev s_law_chains  : Stmt:=top 43
noncomputable abbrev s_law_odd  : Stmt:=top 44
noncomputable abbrev s_law_tables  : Stmt:=top 45
noncomputable abbrev s_law  : Stmt:=top 46
end
local macro_rules
 |`(tactic| simp! only[$xs,*])=>`(tactic| try simp only[D_v,T_v,jqG,D_bl,jqN,jqE,D_g,T_g,D_ty,T_ty,jqS,jqj,jqH,jqQ,jqh,jow,joe,jqD,jqK,jqP,jov,jod,D_ix,T_ix,D_sl,jox,jof,jqR,jqi,jou,D_lc,jqM,jqf,jqO,jqg,jqL,jqe,jqJ,jqI,jqF,jqd,joy,jqT,D_or,jqk,T_or,O_no,O_so,jqX,joB,jqV,joz,jqr,joj,I_e,I_r1,jok,I_s,jqw,jos,I_dk,jql,joh,jqq,joi,jog,jqn,jqp,jqo,S_fr,jqm,jlP,S_tr,jqW,joA,jqc,jqb,jd1,jp6,jp9,jn9,jn7,joa,jqa,jp7,jp8,jp5,jp1,jp3,jpZ,W_lt,W_le,W_gt,W_ge,jpY,jp2,jn4,jp0,jp4,W_in,jpX,Y_bl,jpT,jpU,jpS,jqu,jpV,jqz,jom,jqx,jqy,jqC,jqB,jqA,jpW,job,jn6,jn5,jop,jon,joo,jor,joq,G_n,G_t,jqv,jol,sl_0,sl_s,dr_0,dr_s,pk_nil,jkV,jkU,jqs,jqt,jji,jpJ,jlA,jlz,jpK,jlC,jlB,YaM,Yd5,Ygk,YbG,YaT,YcE,List.set_cons_zero,YdQ,YdP,List.zip_nil_right,List.zip_nil_left,Yeo,List.foldl_nil,List.getElem?_cons_zero,List.getElem?_cons_succ,Option.join_some,ite_true,ite_false,YbA,Ya7,$xs,*])

def jae    (hf:Fd G f c)(h0:0<m)(h1:m<1073741824)(q:∀r G' ,0<=r->r<m->Fd G' f c->Sm f G G'->Q (.int r) G'):jab T (k+1) jaa [.loc f,.int m] G Q X:=by
 obtain⟨ns,a,l,t,g1,g2,hn⟩:=hf.ex;have fin:∀(z a' l' t':Int),Q (.int (z%m)) (gup G f (.dK (fdU c a' l' t'))):=λz a' l' t'=>q _ _ (Ydj z (by lia)) (YdV z h0) (Fd.put ⟨rfl⟩ g1 g2 hn) Sm.put
 have hlen:0<ns.length:=List.length_pos_iff.mpr hn;have gc:∀kvs,gup G f (.dK kvs) c=some (.lst (ns.map .int)):=λkvs=>by rw[jaW (λz=>by rw[z,g1]at g2;cases g2)];exact g2
 obtain⟨z,hz,ez⟩:=jfc (l:=ns) (r:=a%ns.length) (Ydj _ (by lia)) (YdV _ (by lia))
 refine⟨rfl,?_⟩;simp! only[jdU,jaj,Yab,ix_d g1 jj9,jiO g1,jcX,jjV,jgv,true_and,jgX (gc _),Yaa,ix_l (gc _) ((jev U.int ns _).trans (congrArg _ ez))];have cut:∀(l' a' t':Int),(0<m/\0<m/\m<1073741824/\Q (.int (l'%m)) (gup G f (.dK (fdU c a' (l'/m) t')))):=λl' a' t'=>⟨h0,h0,by lia,fin _ _ _ _⟩
 by_cases hl:l=0
 ·rw[if_pos (by simpa using hl)]
  refine⟨by lia,by constructor<;>decide,?_⟩
  by_cases hc:z<10 ^ Int.toNat 18
  ·rw[if_pos (by simpa using hc)]
   exact⟨by decide,.inl (by decide),.inr (by decide),by decide,by decide,by decide,.inl (by decide),.inr (by decide),by decide,by decide,by decide,h0,fin _ _ _ _⟩
  ·rw[if_neg (by simpa using hc)]
   exact cut _ _ _
 ·rw[if_neg (by simpa using hl)]
  exact cut _ _ _
def jle   {ns:List Int}(ha:G a=some (.fro (ns.map .int)))(hl:ns.length<=63)(q:∀f c G' ,Fd G' f c->Q (.loc f) G'):jab T (k+1) jdG [.loc a] G Q X:=by
 have hcl:(cut ns none (some 63)).length<=63:=by rw[show(63:Int)=((63:Nat):Int)from rfl,jkk];simp;lia
 refine⟨rfl,?_⟩;simp! only[jdT,jaj,Yab,sl_f ha,jlI];intro p1 G1 n1;rw[it_l n1.at];intro p2 G2 n2;refine⟨by decide,λp3 G3 n3=>?_⟩
 simp! only[jpA (n3.sa _ _ (n2.sa _ _ (n1.sa _ _ ha)))];obtain⟨zs,ez,lz,hz⟩:∃zs:List Int,(Yab (Int.toNat (if decide (((ns.map U.int).length:Int)=0)=true then 1 else 0)) [U.int 0]).flatten=zs.map U.int/\zs.length<=1/\(ns=[]->zs≠[]):=by
  by_cases h:ns=[]
  ·subst h;exact⟨[0],rfl,by decide,λ_=>by simp⟩
  ·refine⟨[],?_,by decide,λz=>absurd z h⟩
   rw[if_neg (by simpa using h)]
   rfl
 refine⟨_,n3.at,by split<;>decide,by split<;>decide,by split<;>decide,λp4 G4 n4=>?_⟩
 rw[ez]at n4;refine⟨_,_,n4.sa _ _ (n3.sa _ _ n2.at),n4.at,?_,λp5 G5 n5=>⟨by decide,λp6 G6 n6=>?_⟩⟩
 ·rw[Yaa,Yaa];exact Yag (YeL hcl lz) (by decide:63+1<=Yai)
 rw[jng]at n6;rw[<- YaL]at n5;refine q _ p5 _ ⟨_,0,0,0,n6.at,n6.sa _ _ n5.at,λz=>?_⟩;obtain⟨z1,z2⟩:=List.append_eq_nil_iff.mp z;refine hz ?_ z2;rw[show(63:Int)=((63:Nat):Int)from rfl,jkk]at z1;cases ns with
 |nil=>rfl
 |cons _ _=>cases z1

structure Nm (x:Str):Prop where
 l8:x.length<=8
 ch:∀c∈x.cps.toList,c<128
noncomputable def menu  : List Str:=["a", "ab", "abc", "works", "span", "apart", "none", "round", "held", "zzzzzzzz", "undo", "b", "ba", "plan", "x"]
def jli  : ∀x∈menu,Nm x:=by
 have h:∀x∈menu,x.length<=8/\∀c∈x.cps.toList,c<128:=by decide +kernel
 exact λx hx=>⟨(h x hx).1,(h x hx).2⟩

def ji7    (hf:Fd G f c)(h0:0<m)(h1:m<=8)(q:∀(xs:List Str) G' ,xs.length=m->(∀x∈xs,Nm x)->Fd G' f c->Sm f G G'->Q (.tup (xs.map .str)) G'):jab T (k+2) jc6 [.loc f,.int m] G Q X:=by
 refine⟨rfl,?_⟩;simp! only[jdn,jaj,Yab];refine⟨by decide,λp G1 n1=>?_⟩
 simp! only[jeQ n1.at,jiF n1.at];refine⟨by decide,λG2 p2=>?_⟩
 have hp:=hf.away n1;have f2:=(hf.new n1).off hp p2;have s2:Sm f G G2:=Sm.wr Sm.refl n1.no n1.sa.sm p2;have g2:G2 p=some (.lst (menu.map .str)):=p2.at
 refine jae f2 (by decide) (by decide) λfirst G3 a3 b3 f3 s3=>?_
 have g3:=s3 _ _ hp.1 g2;refine⟨by decide,λp4 G4 n4=>jae (f3.new n4) (by decide) (by decide) λr5 G5 a5 b5 f5 s5=>?_⟩
 have g5:=s5 _ _ hp.1 (n4.sa _ _ g3);refine jaI [1,2,4,7,8,11,13,14] (s5 _ _ (f3.away n4).1 n4.at) a5 b5 λstep hs=>?_;have s5':=(s2.trans s3).nw n4 |>.trans s5;refine⟨by lia,by lia,by rw[jao];exact Yag h1 (by decide),?_⟩
 have fin:∀(xs:List Str) (p6:Addr) (G6:Gp),xs.length=m->(∀x∈xs,Nm x)->Fd G6 f c->Sm f G G6->G6 p6=some (.lst (xs.map .str))->itU (.loc p6) G6 λxs _=>Q (.tup xs) G6:=λxs p6 G6 e1 e2 e3 e4 e5=>by
  rw[it_l e5];exact q xs G6 e1 e2 e3 e4
 refine jal (λi acc G'=>G'=G5/\∃xs:List Str,acc=xs.map .str/\xs.length=i/\∀x∈xs,Nm x) ?_ ?_ ⟨rfl,[],rfl,rfl,λ_ h=>nomatch h⟩
 ·rintro acc G' ⟨rfl,xs,rfl,hl,hx⟩;rw[jao]at hl;refine⟨trivial,λp6 G6 n6=>?_⟩;have f6:=f5.new n6;have h6:=f5.away n6;have s6:=s5'.nw n6;refine jae f6 (by decide) (by decide) λr7 G7 a7 b7 f7 s7=>?_
  have g7:=s7 _ _ h6.1 n6.at
  simp! only[];by_cases hr:r7=0
  ·rw[if_pos (by simpa using hr)]
   refine jae f7 (by decide) (by decide) λr8 G8 a8 b8 f8 s8=>?_
   have g8:=s8 _ _ h6.1 g7;simp! only[];refine⟨by lia,by lia,by rw[jao];exact Yag (by lia:(1+r8).toNat<=8) (by decide),?_⟩
   refine jal (λi acc G'=>Fd G' f c/\Sm f G8 G'/\∃zs:List Str,acc=zs.map .str/\zs.length=i/\∀x∈zs,x.length=1/\∀c∈x.cps.toList,c<128) ?_ ?_ ⟨f8,Sm.refl,[],rfl,rfl,λ_ h=>nomatch h⟩
   ·rintro acc G9 ⟨f9,s9,zs,rfl,lz,hz⟩;rw[jao]at lz;refine⟨trivial,λpa Ga na=>?_⟩;have fa:=f9.new na;have ga:=na.sa _ _ (s9 _ _ h6.1 g8);have sa:=(s6.trans (s7.trans (s8.trans s9))).nw na;have hnew:Nm (YbS "" zs):=by
     refine⟨?_,λc hc=>?_⟩
     ·rw[jbK zs λt ht=>(hz t ht).1];lia
     ·obtain⟨t,ht,hd⟩:=(jdw zs c).mp hc;exact(hz t ht).2 c hd
    have hsum:(zs.map (·.length)).sum+zs.length<=1048576:=by
     have:∀l:List Str,(∀x∈l,x.length=1)->(l.map (·.length)).sum=l.length:=λl=>by
      induction l with
      |nil=>intro _;rfl
      |cons x r ih=>
       intro h;rw[YaM,YcZ,YaT,ih λy hy=>h y (Yal _ hy),h x (by simp)]
       lia
     rw[this zs λt ht=>(hz t ht).1];lia
    simp! only[mt_join,jnu na.at];refine⟨by decide,hsum,in_l ga rfl (jie _) ?_⟩
    split
    ·refine⟨by decide,hsum,jae fa (by lia) (by lia) λr G' a' b' f' s'=>?_⟩
     have g':=s' _ _ h6.1 ga;rw[jmh g' (show ixN _ r=some r.toNat from by
      rw[Yaa];obtain⟨j,rfl⟩:=YaG a';exact jh2 (by lia))]
     intro Gb pb;have e:(xs.map U.str).set r.toNat (.str (YbS "" zs))=(xs.set r.toNat (YbS "" zs)).map .str:=by rw[List.map_set]
     rw[e]at pb;refine fin _ p6 Gb (by rw[YcD];exact hl) (λx hx'=>?_) (f'.off h6 pb) (Sm.wr s5' n6.no (sa.trans s') pb) pb.at
     rcases Ycj hx' with z|z
     ·exact hx x z
     ·rw[z];exact hnew
    ·exact fin xs p6 Ga hl hx fa sa ga
   ·rintro i x acc G9 K hx9 ⟨f9,s9,zs,rfl,lz,hz⟩ hk _;refine⟨trivial,jae f9 (by decide) (by decide) λr G' a' b' f' s'=>?_⟩
    have hb:∀c∈("abcdefghijklmnopqrstuvwxyz" : Str).cps.toList,c<128:=by decide +kernel
    have e26:("abcdefghijklmnopqrstuvwxyz" : Str).cps.toList.length=26:=by decide +kernel
    obtain⟨d,hd,ed⟩:=jfc (l:=("abcdefghijklmnopqrstuvwxyz" : Str).cps.toList) a' (by rw[e26];exact b')
    refine ix_s (by decide +kernel) ed (hk _ _ ⟨f',s9.trans s',zs++[⟨#[d]⟩],by simp,by simp[lz],λz hz'=>?_⟩)
    rcases List.mem_append.mp hz' with z'|z'
    ·exact hz z z'
    ·rw[List.mem_singleton.mp z'];exact⟨rfl,λe he=>by
      have:e=d:=by simpa using he
      rw[this];exact hb d hd⟩
  ·rw[if_neg (by simpa using hr)]
   exact fin xs p6 G7 hl hx f7 (s6.trans s7) g7
 ·rintro i x acc G' K hx ⟨rfl,xs,rfl,hl,hn⟩ hk _;obtain⟨hi,rfl⟩:=jaG hx;simp! only[];obtain⟨y,hy,ey⟩:=jfc (l:=menu) (r:=(first+step*(i:Int))%15) (Ydj _ (by decide)) (YdV _ (by decide))
  refine⟨trivial,.inr (by constructor<;>lia),by decide,?_⟩
  rw[ix_l g5 ((jev U.str menu _).trans (congrArg _ ey))];exact hk _ _ ⟨rfl,xs++[y],by simp,by simp[hl],λz hz=>by
   rcases List.mem_append.mp hz with z'|z'
   ·exact hn z z'
   ·rw[List.mem_singleton.mp z'];exact jli y hy⟩
def ji8   (hf:Fd G f c)(q:∀P G' ,1<=P->P<=600->Fd G' f c->Sm f G G'->Q (.int P) G'):jab T (k+2) jc7 [.loc f] G Q X:=by
 refine⟨rfl,?_⟩;simp! only[jdo,jaj,Yab];refine⟨by decide,λp G1 n1=>jae (hf.new n1) (by decide) (by decide) λr G2 a2 b2 f2 s2=>?_⟩
 refine jaI [1,2,3,4,5,6,7,8,10,12,30,60,120,600] (s2 _ _ (hf.away n1).1 n1.at) a2 b2 λz hz=>?_;have:1<=z/\z<=600:=by simp only[Yau,Yam,or_false]at hz;omega
 exact q z _ this.1 this.2 f2 (n1.sa.sm.trans s2)
def jeM    (hf:Fd G f c)(h1:1<=P)(h2:P<=600)(q:∀z G' ,0<=z->z<=9999->Fd G' f c->Sm f G G'->Q (.int z) G'):jab T (k+2) jbr [.loc f,.int P] G Q X:=by
 refine⟨rfl,?_⟩;simp! only[jcB,jaj,Yab];refine jae hf (by decide) (by decide) λw G1 a1 b1 f1 s1=>?_
 simp! only[];by_cases hw:w<3
 ·rw[if_pos (by simpa using hw)]
  exact jae f1 (by lia) (by lia) λr G2 a2 b2 f2 s2=>q r _ a2 (by lia) f2 (s1.trans s2)
 rw[if_neg (by simpa using hw)]
 by_cases hw':w=3
 ·rw[if_pos (by simpa using hw')]
  refine⟨.inl (by decide),.inl (by decide),by decide,λp G2 n2=>jae (f1.new n2) (by decide) (by decide) λr G3 a3 b3 f3 s3=>?_⟩
  refine jaI [0,1,P,2*P-1,2*P] (s3 _ _ (f1.away n2).1 n2.at) a3 b3 λz hz=>?_;have:0<=z/\z<=9999:=by simp only[Yau,Yam,or_false]at hz;lia
  exact q z _ this.1 this.2 f3 ((s1.nw n2).trans s3)
 ·rw[if_neg (by simpa using hw')]
  refine⟨.inl (by decide),by decide,λp G2 n2=>?_⟩
  refine jaI [3*P+1,10000] n2.at (by lia) (by show w-4<2;lia) λz hz=>?_
  have:0<z/\z<=10000:=by simp only[Yau,Yam,or_false]at hz;lia
  exact jae (f1.new n2) this.1 (by lia) λr G3 a3 b3 f3 s3=>q r _ a3 (by lia) f3 ((s1.nw n2).trans s3)

structure Spn where
 w:Str
 o:Nat
 t:Nat
 lo:Int
 hi:Int
noncomputable def Spn.u  (s:Spn):U:=.tup [.str s.w,.int s.o,.int s.t,.int s.lo,.int s.hi]
structure Spn.Ok (W:Nat)(s:Spn):Prop where
 w:s.w = "apart" \/ s.w = "span"
 o:s.o<W
 t:s.t<W
 lo:0<=s.lo/\s.lo<=9999
 hi:0<=s.hi/\s.hi<=9999
noncomputable def jag  (l:List Int):U:=.tup (l.map .int)
def jkm  {x:Str}(h:x = "apart" \/ x = "span"):x.length<=8/\∀c∈x.cps.toList,c<128:=by
 rcases h with rfl|rfl
 ·exact⟨by decide +kernel,by decide +kernel⟩
 ·exact⟨by decide +kernel,by decide +kernel⟩
def Spn.Ok.sml   {s:Spn}(h:s.Ok W):Sml 1 s.u:=Sml.tup λu hu=>by
 simp only[Yau,Yam,or_false]at hu;rcases hu with rfl|rfl|rfl|rfl|rfl
 ·exact Sml.str (jkm h.w).2
 all_goals exact Sml.int _

def jlc     (hf:Fd G f c)(h1:1<=P)(h2:P<=600)(ho:o<W)(ht:t<W)(q:∀(s:Spn) G' ,s.Ok W->Fd G' f c->Sm f G G'->Q s.u G'):jab T (k+3) jco [.loc f,.int o,.int t,.int P] G Q X:=by
 refine⟨rfl,?_⟩;simp! only[jdR,jaj,Yab];refine jeM hf h1 h2 λlo G1 a1 b1 f1 s1=>?_;refine jae f1 (by decide) (by decide) λr G2 a2 b2 f2 s2=>?_
 simp! only[];by_cases hr:r=0
 ·rw[if_pos (by simpa using hr)]
  refine jeM f2 h1 h2 λhi G3 a3 b3 f3 s3=>⟨by decide,?_⟩
  exact q ⟨"apart",o,t,lo,hi⟩ _ ⟨.inl rfl,ho,ht,⟨a1,b1⟩,a3,b3⟩ f3 (s1.trans (s2.trans s3))
 ·rw[if_neg (by simpa using hr)]
  refine⟨by decide,by decide,.inl (by decide),by decide,λp G3 n3=>jae (f2.new n3) (by decide) (by decide) λr4 G4 a4 b4 f4 s4=>?_⟩
  refine jaI [0,0,1,2,P/2,P-1,3*P,9999] (s4 _ _ (f2.away n3).1 n3.at) a4 b4 λz hz=>?_;have hz':0<=z:=by simp only[Yau,Yam,or_false]at hz;lia
  simp! only[];refine⟨by decide,q ⟨"span",o,t,lo,if lo+z<9999 then lo+z else 9999⟩ _ ⟨.inr rfl,ho,ht,⟨a1,b1⟩,?_⟩ f4 ((s1.trans s2).nw n3 |>.trans s4)⟩
  dsimp only;split<;>lia
def ji9     (hf:Fd G f c)(h1:1<=P)(h2:P<=600)(hW:W<=8)(q:∀(bs:List Int) G' ,bs.length=W->(∀b∈bs,0<=b/\b<P)->Fd G' f c->Sm f G G'->Q (jag bs) G'):jab T (k+2) jc8 [.loc f,.int W,.int P] G Q X:=by
 refine⟨rfl,?_⟩;simp! only[jdp,jaj,Yab];refine⟨by lia,by lia,by rw[jao];exact Yag hW (by decide),?_⟩
 refine jal (λi acc G'=>Fd G' f c/\Sm f G G'/\∃bs:List Int,acc=bs.map .int/\bs.length=i/\∀b∈bs,0<=b/\b<P) ?_ ?_ ⟨hf,Sm.refl,[],rfl,rfl,λ_ h=>nomatch h⟩
 ·rintro acc G1 ⟨f1,s1,bs,rfl,hl,hb⟩;rw[jao]at hl;refine⟨trivial,λp G2 n2=>?_⟩;simp! only[it_l n2.at];exact q bs _ hl hb (f1.new n2) (s1.nw n2)
 ·rintro i x acc G1 K hx ⟨f1,s1,bs,rfl,hl,hb⟩ hk _;refine⟨trivial,jae f1 (by lia) (by lia) λr G2 a2 b2 f2 s2=>hk _ _ ⟨f2,s1.trans s2,bs++[r],by simp,by simp[hl],λb hb'=>?_⟩⟩
  rcases List.mem_append.mp hb' with z|z
  ·exact hb b z
  ·rw[List.mem_singleton.mp z];exact⟨a2,b2⟩
def jld    (hf:Fd G f c)(h1:1<=P)(h2:P<=600)(q:∀(xs:List Str) (ss:List Spn) G' ,0<xs.length->xs.length<=8->(∀x∈xs,Nm x)->ss.length<=24->(∀s∈ss,s.Ok xs.length)->Fd G' f c->Sm f G G'->Q (.tup [.tup (xs.map .str),.tup (ss.map Spn.u)]) G') :
  jab T (k+4) jdF [.loc f,.int P] G Q X:=by
 refine⟨rfl,?_⟩;simp! only[jdS,jaj,Yab];refine⟨by decide,λp G1 n1=>jae (hf.new n1) (by decide) (by decide) λr G2 a2 b2 f2 s2=>?_⟩
 refine jaI [1,2,2,3,3,4,5,8] (s2 _ _ (hf.away n1).1 n1.at) a2 b2 λW' hW=>?_;have hW':1<=W'/\W'<=8:=by simp only[Yau,Yam,or_false]at hW;lia
 obtain⟨W,rfl⟩:=YaG (show 0<=W' by lia)
 refine ji7 f2 (by lia) (by lia) λxs G3 l3 x3 f3 s3=>?_
 have S3:Sm f G G3:=n1.sa.sm.trans (s2.trans s3);refine⟨by decide,λp4 G4 n4=>⟨by decide,λp5 G5 n5=>jae ((f3.new n4).new n5) (by decide) (by decide) λr6 G6 a6 b6 f6 s6=>?_⟩⟩
 have aw:=f3.away n4;have S6:Sm f G G6:=((S3.nw n4).nw n5).trans s6;refine jaI [0,1,2,3,4,6,9,24] (s6 _ _ ((f3.new n4).away n5).1 n5.at) a6 b6 λm hm=>?_;have hm':0<=m/\m<=24:=by simp only[Yau,Yam,or_false]at hm;lia
 have g6:G6 p4=some (.lst []):=s6 _ _ aw.1 (n5.sa _ _ n4.at);simp! only[];refine⟨by lia,by lia,?_⟩
 refine jau (λi ς G'=>∃(ss:List Spn) (o:Option U),ς=[some (.loc f),some (.int P),some (.int (W:Int)),some (.tup (xs.map .str)),some (.loc p4),o]/\Fd G' f c/\Sm f G G'/\G' p4=some (.lst (ss.map Spn.u))/\ss.length=i/\∀s∈ss,s.Ok W) ?_ ?_ ⟨[],_,rfl,f6,S6,g6,rfl,λ_ h=>nomatch h⟩
 ·rintro ς G7 ⟨ss,o,rfl,f7,s7,g7,l7,o7⟩;rw[jao]at l7;simp! only[];refine⟨trivial,?_⟩;rw[it_l g7];exact⟨by decide,q xs ss _ (by lia) (by lia) x3 (by lia) (by rw[l3];exact o7) f7 s7⟩
 ·rintro i x ς G7 K hx ⟨ss,o,rfl,f7,s7,g7,l7,o7⟩ hk;obtain⟨hi,rfl⟩:=jaG hx;simp! only[];have add:∀(s:Spn) (G8:Gp),s.Ok W->Fd G8 f c->Sm f G G8->G8 p4=some (.lst (ss.map Spn.u))->∀o,((ss.map Spn.u).length<Yai/\putO G8 p4 (.lst (ss.map Spn.u++[s.u])) λG'=>K [some (.loc f),some (.int P),some (.int (W:Int)),some (.tup (xs.map .str)),some (.loc p4),o] G'):=λs G8 e1 e2 e3 e4 o=>by
   refine⟨?_,λG9 p9=>?_⟩
   ·rw[Yaa];exact Yas (show ss.length<25 by lia) (by decide)
   ·refine hk _ _ ⟨ss++[s],_,rfl,e2.off aw p9,Sm.wr S3 n4.no e3 p9,by rw[YaL];exact p9.at,by simp[l7],λz hz=>?_⟩
    rcases List.mem_append.mp hz with z'|z'
    ·exact o7 z z'
    ·rw[List.mem_singleton.mp z'];exact e1
  have fresh:∀(o:Option U) (G8:Gp),Fd G8 f c->Sm f G G8->G8 p4=some (.lst (ss.map Spn.u))->(match mtU .append (.loc p4) G8 with
    |some _=>jab T (k+3) jaa [.loc f,.int (W:Int)] G8 (λx G1=>jab T (k+3) jaa [.loc f,.int (W:Int)] G1 (λx_1 G1=>jab T (k+3) jco [.loc f,x,x_1,.int P] G1 (λx_2 G1=>ja6 .append (.loc p4) [x_2] G1 λ_ G1=>K [some (.loc f),some (.int P),some (.int (W:Int)),some (.tup (xs.map .str)),some (.loc p4),o] G1) X) X) X
    |none=>False):=λo G8 e1 e2 e3=>by
   rw[jeQ e3];refine jae e1 (by lia) (by lia) λr9 G9 a9 b9 f9 s9=>jae f9 (by lia) (by lia) λra Ga aa ba fa sa=>?_
   obtain⟨o1,rfl⟩:=YaG a9;obtain⟨o2,rfl⟩:=YaG aa;refine jlc (W:=W) fa h1 h2 (by lia) (by lia) λs Gb ob fb sb=>?_
   have gb:=sb _ _ aw.1 (sa _ _ aw.1 (s9 _ _ aw.1 e3));rw[jiF gb];exact add s Gb ob fb (e2.trans (s9.trans (sa.trans sb))) gb _
  refine⟨trivial,by decide,λpb Gb nb=>?_⟩
  have gb:=nb.sa _ _ g7;have fb:=f7.new nb;have sb:=s7.nw nb;simp! only[];refine jgw gb nb.at (λu hu=>?_) (show 1<100 by decide) ?_
  ·obtain⟨s,hs,rfl⟩:=List.mem_map.mp hu;exact(o7 s hs).sml
  by_cases hss:ss=[]
  ·rw[if_neg (by rw[hss];simp)]
   exact fresh _ Gb fb sb gb
  ·rw[if_pos (by simpa using hss)]
   refine jae fb (by decide) (by decide) λr8 G8 a8 b8 f8 s8=>?_
   have g8:=s8 _ _ aw.1 gb;have hl:0<ss.length:=List.length_pos_iff.mpr hss;simp! only[];by_cases hr:r8=0
   ·rw[if_pos (by simpa using hr)]
    simp! only[jeQ g8,jgX g8,Yaa];refine jae f8 (by lia) (by lia) λr9 G9 a9 b9 f9 s9=>?_
    have g9:=s9 _ _ aw.1 g8;obtain⟨s,hs,es⟩:=jfc (l:=ss) a9 b9;rw[ix_l g9 ((jev Spn.u ss _).trans (congrArg _ es)),jiF g9];exact add s G9 (o7 s hs) f9 (sb.trans (s8.trans s9)) g9 _
   ·rw[if_neg (by simpa using hr)]
    exact fresh _ G8 f8 (sb.trans s8) g8

noncomputable def jat  (l:List Nat):U:=.tup (l.map λ(n:Nat)=>.int (n:Int))
noncomputable def gU  (g:Nat×Nat×Int):U:=.tup [.int g.1,.int g.2.1,.int g.2.2]
structure Wd where
 xs:List Str
 ss:List Spn
 P:Int
 bs:List Int
 wt:List Nat
 gv:List (Nat×Nat×Int)
 m:Nat
def Wd.plan  (w:Wd):U:=.tup [.tup (w.xs.map .str),.tup (w.ss.map Spn.u)]
def Wd.u  (w:Wd):U:=.tup [w.plan,.int w.P,jag w.bs,jat w.wt,.tup (w.gv.map gU),.int w.m]
structure Gv (W m:Nat)(g:Nat×Nat×Int):Prop where
 w:g.1<W
 t:g.2.1<m
 n:0<=g.2.2/\g.2.2<=999
structure Wd.Ok (w:Wd):Prop where
 x0:0<w.xs.length
 x8:w.xs.length<=8
 nm:∀x∈w.xs,Nm x
 s25:w.ss.length<=25
 so:∀s∈w.ss,s.Ok w.xs.length
 p1:1<=w.P
 p6:w.P<=600
 bl:w.bs.length=w.xs.length
 bb:∀b∈w.bs,0<=b/\b<w.P
 wl:w.wt.length<=25
 ww:∀s∈w.wt,s<w.ss.length
 gl:w.gv.length<=12
 gg:∀g∈w.gv,Gv w.xs.length w.m g
 m1:1<=w.m
 m2:w.m<=12

def jcc  {X: KX}{xs:List Str}{ss:List Spn}(p1:1<=P)(p2:P<=600)(x0:0<xs.length)(x8:xs.length<=8)(nm:∀x∈xs,Nm x)(sl:ss.length<=25)(so:∀s∈ss,s.Ok xs.length)(f3:Fd G3 f c)(s3:Sm f G G3)
  (q:∀(w:Wd) G' ,w.Ok->Fd G' f c->Sm f G G'->Q w.u G'):jas T.gs (jab T (k+4)) jbb ⟨λ_ G'=>Q .non G',Q,λx _ G'=>X x G'⟩ [some (.loc f),some (.int P),some (.tup (xs.map .str)),some (.tup (ss.map Spn.u)),o,none,none,none,none,none,none] G3:=by
 simp! only[jbb,Yaa];refine ji9 f3 p1 p2 x8 λbs G4 bl bb f4 s4=>?_;refine⟨by lia,by lia,by rw[jao];exact Yag sl (by decide),?_⟩
 refine jal (λi acc G'=>Fd G' f c/\Sm f G G'/\∃wt:List Nat,acc=wt.map (λ(n:Nat)=>U.int (n:Int))/\wt.length<=i/\∀s∈wt,s<ss.length) ?_ ?_ ⟨f4,s3.trans s4,[],rfl,Yah _,λ_ h=>nomatch h⟩
 ·rintro acc G5 ⟨f5,s5,wt,rfl,wl,ww⟩;rw[jao]at wl;refine⟨trivial,λp6 G6 n6=>?_⟩;simp! only[it_l n6.at];refine⟨by decide,λp7 G7 n7=>jae ((f5.new n6).new n7) (by decide) (by decide) λr8 G8 a8 b8 f8 s8=>?_⟩
  have S8:Sm f G G8:=((s5.nw n6).nw n7).trans s8;refine jaI [1,2,3,5,8,12] (s8 _ _ ((f5.new n6).away n7).1 n7.at) a8 b8 λm' hm=>?_;have hm':1<=m'/\m'<=12:=by simp only[Yau,Yam,or_false]at hm;lia
  obtain⟨m,rfl⟩:=YaG (show 0<=m' by lia)
  refine⟨by decide,λp9 G9 n9=>⟨by decide,λpa Ga na=>jae ((f8.new n9).new na) (by decide) (by decide) λrb Gb ab bb' fb sb=>?_⟩⟩
  have aw:=f8.away n9;refine jaI [1,1,2,3,0,12] (sb _ _ ((f8.new n9).away na).1 na.at) ab bb' λj hj=>?_;have hj':0<=j/\j<=12:=by simp only[Yau,Yam,or_false]at hj;lia
  simp! only[];refine⟨by lia,by lia,?_⟩
  refine jau (λi ς G'=>∃(gv:List (Nat×Nat×Int)) (o1 o2:Option U),ς=[some (.loc f),some (.int P),some (.tup (xs.map .str)),some (.tup (ss.map Spn.u)),o,some (jag bs),some (jat wt),some (.int (m:Int)),some (.loc p9),o1,o2]/\Fd G' f c/\Sm f G G'/\G' p9=some (.lst (gv.map gU))/\gv.length=i/\∀g∈gv,Gv xs.length m g)
   ?_ ?_ ⟨[],_,_,rfl,fb,((S8.nw n9).nw na).trans sb,sb _ _ aw.1 (na.sa _ _ n9.at),rfl,λ_ h=>nomatch h⟩
  ·rintro ς Gc ⟨gv,o1,o2,rfl,fc,sc,gc,lc,oc⟩;rw[jao]at lc;simp! only[it_l gc];exact⟨trivial,by decide,by decide,q ⟨xs,ss,P,bs,wt,gv,m⟩ _ ⟨x0,x8,nm,sl,so,p1,p2,bl,bb,by dsimp only;lia,ww,by dsimp only;lia,oc,by dsimp only;lia,by dsimp only;lia⟩ fc sc⟩
  ·rintro i x ς Gc K hx ⟨gv,o1,o2,rfl,fc,sc,gc,lc,oc⟩ hk;obtain⟨hi,rfl⟩:=jaG hx;simp! only[];refine⟨trivial,.inl (by decide),jae fc (by decide) (by decide) λrd Gd ad bd fd sd=>⟨by decide,λpe Ge ne=>jae (fd.new ne) (by decide) (by decide) λrf Gf af bf ff sf=>?_⟩⟩
   refine jaI [0,1,2,5,P,2*P+3,999,rd] (sf _ _ (fd.away ne).1 ne.at) af bf λz hz=>?_;have hz':0<=z/\z<=1300:=by simp only[Yau,Yam,or_false]at hz;lia
   have gf:=sf _ _ aw.1 (ne.sa _ _ (sd _ _ aw.1 gc));have S:=((sc.trans sd).nw ne).trans sf;simp! only[jeQ gf,Yaa];refine jae ff (by lia) (by lia) λw' Gg ag bg fg sg=>jae fg (by lia) (by lia) λt' Gh ah bh fh sh=>?_
   obtain⟨w,rfl⟩:=YaG ag;obtain⟨t,rfl⟩:=YaG ah;have gh:=sh _ _ aw.1 (sg _ _ aw.1 gf);simp! only[jiF gh,Yaa];refine⟨by decide,Yas (show gv.length<13 by lia) (by decide),λGi pi=>?_⟩
   refine hk _ _ ⟨gv++[(w,t,if z<999 then z else 999)],_,_,rfl,fh.off aw pi,Sm.wr S8 n9.no (S.trans (sg.trans sh)) pi,by rw[YaL];exact pi.at,by simp[lc],λg hg=>?_⟩
   rcases List.mem_append.mp hg with z'|z'
   ·exact oc g z'
   ·rw[List.mem_singleton.mp z'];exact⟨by dsimp only;lia,by dsimp only;lia,by dsimp only;split<;>lia⟩
 ·rintro i x acc G5 K hx ⟨f5,s5,wt,rfl,wl,ww⟩ hk hn;obtain⟨hi,rfl⟩:=jaG hx;refine⟨trivial,jae f5 (by decide) (by decide) λr6 G6 a6 b6 f6 s6=>?_⟩
  simp! only[];split
  ·refine hk _ _ ⟨f6,s5.trans s6,wt++[i],by simp,by simp;lia,λs hs=>?_⟩
   rcases List.mem_append.mp hs with z'|z'
   ·exact ww s z'
   ·rw[List.mem_singleton.mp z'];exact hi
  ·exact hn _ ⟨f6,s5.trans s6,wt,rfl,by lia,ww⟩
def ji6   (hf:Fd G f c)(q:∀(w:Wd) G' ,w.Ok->Fd G' f c->Sm f G G'->Q w.u G'):jab T (k+5) jc5 [.loc f] G Q X:=by
 refine⟨rfl,?_⟩;simp! only[jdk,jaj,Yab];refine ji8 hf λP G1 p1 p2 f1 s1=>jld f1 p1 p2 λxs ss G2 x0 x8 nm sl so f2 s2=>?_;simp! only[Yaa];refine⟨trivial,?_⟩;have s2':=s1.trans s2;by_cases h24:(ss.length:Int)<24
 ·rw[if_pos (by simpa using h24)]
  refine jae f2 (by decide) (by decide) λr G3 a3 b3 f3 s3=>?_
  simp! only[];split
  ·refine jae f3 (by lia) (by lia) λw' G4 a4 b4 f4 s4=>?_
   obtain⟨w,rfl⟩:=YaG a4;refine⟨by decide,by decide,?_,?_⟩
   ·exact Yag (show ss.length+(0+1)<=25 by lia) (by decide)
   have e:ss.map Spn.u++[U.tup [.str "span",.int (w:Int),.int (w:Int),.int 0,.int 5]]=(ss++[Spn.mk "span" w w 0 5]).map Spn.u:=by rw[YaL];rfl
   rw[e];refine jcc p1 p2 x0 x8 nm (by simp;lia) (λs hs=>?_) f4 (s2'.trans (s3.trans s4)) q
   rcases List.mem_append.mp hs with z|z
   ·exact so s z
   ·rw[List.mem_singleton.mp z];exact⟨.inr rfl,by dsimp only;lia,by dsimp only;lia,by dsimp only;lia,by dsimp only;lia⟩
  ·exact jcc p1 p2 x0 x8 nm (by lia) so f3 (s2'.trans s3) q
 ·rw[if_neg (by simpa using h24)]
  exact jcc p1 p2 x0 x8 nm (by lia) so f2 s2' q

abbrev Tb:=List (List Int)
noncomputable def gt  (t:Tb)(r c:Nat):Int:=(t.getD r []).getD c 0
noncomputable def st2  (t:Tb)(r c:Nat)(v:Int):Tb:=t.set r ((t.getD r []).set c v)
structure TbOk (m W:Nat)(t:Tb):Prop where
 l:t.length=m
 r:∀x∈t,x.length=W
 n:∀x∈t,∀z∈x,0<=z/\z<=999
noncomputable def tot  (t:Tb):Int:=(t.map List.sum).sum
section
variable {m W:Nat}{t:Tb}
def TbOk.row  (h:TbOk m W t){r:Nat}(hr:r<m):∃x,t[r]?=some x/\t.getD r []=x/\x.length=W/\∀z∈x,0<=z/\z<=999:=by
 have hl:r<t.length:=by rw[h.l];exact hr
 have hm:=YaQ hl;exact⟨t[r],Yad hl,by simp[YbL,hl],h.r _ hm,h.n _ hm⟩
def TbOk.gt (h:TbOk m W t){r c:Nat}(hr:r<m)(hc:c<W):0<=gt t r c/\gt t r c<=999:=by
 obtain⟨x,e1,e2,e3,e4⟩:=h.row hr;have hl:c<x.length:=by rw[e3];exact hc
 unfold Z.gt;rw[e2];have:x.getD c 0=x[c]:=by simp[YbL,hl]
 rw[this];exact e4 _ (YaQ hl)
def TbOk.st  (h:TbOk m W t){r c:Nat}(hr:r<m)(hv:0<=v/\v<=999):TbOk m W (st2 t r c v):=by
 obtain⟨x,e1,e2,e3,e4⟩:=h.row hr;unfold st2;rw[e2];refine⟨by rw[YcD];exact h.l,λy hy=>?_,λy hy z hz=>?_⟩
 ·rcases Ycj hy with q|q
  ·exact h.r y q
  ·rw[q,YcD];exact e3
 ·rcases Ycj hy with q|q
  ·exact h.n y q z hz
  ·rw[q]at hz;rcases Ycj hz with q'|q'
   ·exact e4 z q'
   ·rw[q'];exact hv
def jg2  (h:TbOk m W t)(hr:r<m)(hc:c<W):gt (st2 t r c v) r' c'=if r'=r/\c'=c then v else gt t r' c':=by
 obtain⟨x,e1,e2,e3,e4⟩:=h.row hr;have hl:r<t.length:=by rw[h.l];exact hr
 unfold gt st2;rw[e2];by_cases hrr:r'=r
 ·subst hrr;have:(t.set r' (x.set c v)).getD r' []=x.set c v:=by simp[YbL,hl]
  rw[this];by_cases hcc:c'=c
  ·subst hcc;have hcl:c'<x.length:=by rw[e3];exact hc
   rw[if_pos ⟨rfl,rfl⟩];simp[YbL,hcl]
  ·rw[if_neg (λz=>hcc z.2),e2];simp[YbL,YaS (Ne.symm hcc)]
 ·rw[if_neg (λz=>hrr z.1)];have:(t.set r (x.set c v)).getD r' []=t.getD r' []:=by simp[YbL,YaS (Ne.symm hrr)]
  rw[this]
theorem jhq  : ∀(x:List Int) c v ,c<x.length->(x.set c v).sum=x.sum+(v-x.getD c 0)
 |[],c,v,h=>absurd h (by simp)
 |a::x,0,v,_=>by simp[YbL];lia
 |a::x,c+1,v,h=>by
  have:=jhq x c v (by simpa using h)
  simp only[YdQ,YcZ,this];simp[YbL]
  lia
theorem jhk  : ∀(t:Tb) r (y:List Int),r<t.length->tot (t.set r y)=tot t+(y.sum-(t.getD r []).sum)
 |[],r,y,h=>absurd h (by simp)
 |x::t,0,y,_=>by simp[tot,YbL];lia
 |x::t,r+1,y,h=>by
  have:=jhk t r y (by simpa using h)
  unfold tot at this ⊢;simp only[YdQ,YaM,YcZ,this];simp[YbL]
  lia
def jjB  (h:TbOk m W t)(hr:r<m)(hc:c<W):tot (st2 t r c v)=tot t+(v-gt t r c):=by
 obtain⟨x,e1,e2,e3,e4⟩:=h.row hr;unfold st2 gt;rw[jhk _ _ _ (by rw[h.l];exact hr),e2,jhq _ _ _ (by rw[e3];exact hc)]
 lia
theorem jjM  : ∀(x:List Int),(∀z∈x,0<=z/\z<=999)->0<=x.sum/\x.sum<=999*x.length
 |[],_=>by simp
 |a::x,h=>by
  have h1:=h a (by simp)
  have h2:=jjM x λz hz=>h z (Yal _ hz);simp only[YcZ,YaT]
  lia
theorem jjC  : ∀(t:Tb),(∀x∈t,x.length=W/\∀z∈x,0<=z/\z<=999)->0<=tot t/\tot t<=999*(W*t.length:Nat)
 |[],_=>by simp[tot]
 |x::t,h=>by
  have h1:=h x (by simp)
  have h2:=jjM x h1.2;have h3:=jjC t λz hz=>h z (Yal _ hz);unfold tot at h3 ⊢;simp only[YaM,YcZ,YaT];rw[h1.1]at h2;have:(W*(t.length+1):Nat)=W*t.length+W:=by rw[Nat.mul_add,Nat.mul_one]
  rw[this]
  lia
def TbOk.tot (h:TbOk m W t)(hm:m<=12)(hW:W<=8):0<=tot t/\tot t<=95904:=by
 have:=jjC (W:=W) t λx hx=>⟨h.r x hx,h.n x hx⟩;rw[h.l]at this;have h2:W*m<=8*12:=Ydw hW hm
 lia
def jjH   (h:TbOk m W t)(h':TbOk m W t')(e:∀r c,r<m->c<W->gt t r c=gt t' r c):t=t':=by
 refine Ygj (by rw[h.l,h'.l]) λr h1 h2=>Ygj (by rw[h.r _ (YaQ h1),h'.r _ (YaQ h2)]) λc h3 h4=>?_
 have hr:r<m:=by rw[<- h.l];exact h1
 have hc:c<W:=by rw[<- h.r _ (YaQ h1)];exact h3
 have:=e r c hr hc;unfold gt at this;simpa[YbL,h1,h2,h3,h4]using this
end
structure Wy where
 s:Nat
 o:Nat
 t:Nat
 p:Nat
 b:Int
structure Wy.Ok (W:Nat)(y:Wy):Prop where
 o:y.o<W
 t:y.t<W
 b:0<=y.b
 p:y.p<=20000
def rlx  (y:Wy)(t:Tb)(i:Nat):Tb:=st2 t (i+y.p) y.t (max (gt t (i+y.p) y.t) (gt t i y.o-y.b))
def psW  (m:Nat)(t:Tb)(y:Wy):Tb:=(YaC (m-y.p)).foldl (rlx y) t
def pss  (m:Nat)(ys:List Wy)(t:Tb):Tb:=ys.foldl (psW m) t
inductive Runs (m:Nat)(ys:List Wy):Tb->Tb->Prop
 |stop {t:Tb}:pss m ys t=t->Runs m ys t t
 |go {t r:Tb}:pss m ys t≠t->Runs m ys (pss m ys t) r->Runs m ys t r
section
variable {m W:Nat}{ys:List Wy}{t:Tb}
def jeE   (hy:y.Ok W)(h:TbOk m W t)(hi:i<m-y.p):TbOk m W (rlx y t i)/\tot t<=tot (rlx y t i)/\(gt t i y.o-y.b<=gt t (i+y.p) y.t->rlx y t i=t)/\(gt t (i+y.p) y.t<gt t i y.o-y.b->tot t<tot (rlx y t i)):=by
 have h1:=h.gt (r:=i+y.p) (c:=y.t) (by lia) hy.t
 have h2:=h.gt (r:=i) (c:=y.o) (by lia) hy.o
 have h3:=hy.b;have ok:=h.st (r:=i+y.p) (c:=y.t) (v:=max (gt t (i+y.p) y.t) (gt t i y.o-y.b)) (by lia) (by lia)
 have e:=jjB (v:=max (gt t (i+y.p) y.t) (gt t i y.o-y.b)) h (show i+y.p<m by lia) hy.t
 refine⟨ok,by unfold rlx;rw[e];lia,λq=>jjH ok h λr c hr hc=>?_,λq=>by unfold rlx;rw[e];lia⟩
 unfold rlx;rw[jg2 h (by lia) hy.t]
 split
 ·rename_i z;rw[z.1,z.2];lia
 ·rfl
theorem jaJ  {α β:Type}(I:β->Prop) f:∀(l:List α) b ,I b->(∀b a,a∈l->I b->I (f b a))->I (l.foldl f b)
 |[],_,h,_=>h
 |a::l,b,h,s=>jaJ I f l (f b a) (s b a (by simp) h) λb a ha=>s b a (Yal _ ha)
def Up  (m W:Nat)(t t':Tb):Prop:=TbOk m W t'/\(t'=t\/tot t<tot t')
def Up.trans   (a:Up m W t t1)(b:Up m W t1 t2):Up m W t t2:=⟨b.1,by
 rcases a.2 with rfl|a
 ·exact b.2
 ·rcases b.2 with rfl|b
  ·exact .inr a
  ·exact .inr (by lia)⟩
def jjO   (hy:y.Ok W)(h:TbOk m W t)(hi:i<m-y.p):Up m W t (rlx y t i):=by
 obtain⟨h1,h2,h3,h4⟩:=jeE hy h hi;refine⟨h1,?_⟩;by_cases q:gt t i y.o-y.b<=gt t (i+y.p) y.t
 ·exact .inl (h3 q)
 ·exact .inr (h4 (by lia))
def jjR   (hy:y.Ok W)(h:TbOk m W t):Up m W t (psW m t y):=
 jaJ (Up m W t) _ _ _ ⟨h,.inl rfl⟩ λb i hi hb=>hb.trans (jjO hy hb.1 (by simpa using hi))
def jdC  (hy:∀y∈ys,y.Ok W)(h:TbOk m W t):Up m W t (pss m ys t):=
 jaJ (Up m W t) _ _ _ ⟨h,.inl rfl⟩ λb y hm hb=>hb.trans (jjR (hy y hm) hb.1)
theorem jhx  (hy:∀y∈ys,y.Ok W)(hm:m<=12)(hW:W<=8):∀(n:Nat) t ,TbOk m W t->95904-tot t<n->∃r,Runs m ys t r
 |0,t,h,hn=>by have:=h.tot hm hW;lia
 |n+1,t,h,hn=>by
  obtain⟨u1,u2⟩:=jdC hy h;by_cases e:pss m ys t=t
  ·exact⟨t,.stop e⟩
  ·have u3:=u2.resolve_left e;obtain⟨r,hr⟩:=jhx hy hm hW n (pss m ys t) u1 (by lia)
   exact⟨r,.go e hr⟩
def Runs.ok  (hy:∀y∈ys,y.Ok W)(q:Runs m ys t r):TbOk m W t->TbOk m W r:=by
 induction q with
 |stop _=>exact id
 |go _ _ ih=>exact λh=>ih (jdC hy h).1
end

def jaq  (xs:List Str)(ss:List Spn):U:=.tup [.tup (xs.map .str),.tup (ss.map Spn.u)]
structure At (ss:List Spn)(bs:List Int)(s:Nat)(sp:Spn)(x y:Int):Prop where
 s:ss[s]?=some sp
 x:bs[sp.o]?=some x
 y:bs[sp.t]?=some y
def atM  {α:Type}{f:α->U}{l:List α}{n:Nat}{a:α}(h:l[n]?=some a):atI (l.map f) (n:Int)=some (f a):=(jev f l _).trans (congrArg _ (jby h))
noncomputable def dif  (sp:Spn)(x y:Int):Int:=y-x-sp.lo
def wyOf  (P:Int)(s:Nat)(sp:Spn)(x y:Int):Wy:=⟨s,sp.o,sp.t,(-(dif sp x y/P)).toNat,dif sp x y%P⟩
noncomputable def wyU  (y:Wy):U:=.tup [.int y.s,.int y.o,.int y.t,.int y.p,.int y.b]

def jcr  (a:At ss bs s sp x y)(hP:0<P)(q:Q (.int (sp.lo+dif sp x y%P)) G):jab T (k+1) jbR [jaq xs ss,.int P,jag bs,.int s] G Q X:=by
 refine⟨rfl,?_⟩;simp! only[jdj,jaj,Yab,jaq,jag,ix_t (jbE _ _ _),ix_t (atM a.s),Spn.u,ix_t (atM a.x),ix_t (atM a.y)];exact⟨trivial,hP,q⟩
def jct  (a:At ss bs s sp x y)(hP:0<P)(q:Q (.int (dif sp x y%P)) G):jab T (k+2) jbf [jaq xs ss,.int P,jag bs,.int s] G Q X:=by
 refine⟨rfl,?_⟩;simp! only[jdr,jaj,Yab];refine jcr a hP ?_;simp! only[jaq,jag,ix_t (jbE _ _ _),ix_t (atM a.s),Spn.u,ix_t (jpR _ _ _ _ _)];rw[Int.add_comm,Int.add_sub_cancel];exact q
def jkx  (hP:0<P):(x+(sp.lo+dif sp x y%P)-y)/P=-(dif sp x y/P):=by
 have h:=Yft (dif sp x y) P;have e:x+(sp.lo+dif sp x y%P)-y=P * -(dif sp x y/P):=by
  have d:dif sp x y=y-x-sp.lo:=rfl;rw[Int.mul_neg]
  lia
 rw[e,Int.mul_ediv_cancel_left _ (by lia)]
def jkw  (hP:0<P)(h:dif sp x y<P):0<=-(dif sp x y/P):=by
 have:dif sp x y/P<1:=Int.ediv_lt_of_lt_mul hP (by lia)
 lia
def wy_p  (hP:0<P)(h:dif sp x y<P):((wyOf P s sp x y).p:Int)=-(dif sp x y/P):=YfQ (jkw hP h)
def jdE  (a:At ss bs s sp x y)(hP:0<P)(h6:P<=600)(h:dif sp x y<P)(q:Q (.int (wyOf P s sp x y).p) G):jab T (k+2) jc3 [jaq xs ss,.int P,jag bs,.int s] G Q X:=by
 refine⟨rfl,?_⟩;simp! only[je2,jaj,Yab,jaq,jag,ix_t (jbE _ _ _),ix_t (atM a.s),Spn.u,ix_t (atM a.x),ix_t (atM a.y)];refine⟨trivial,jcr (xs:=xs) a hP ?_⟩;simp! only[jag,ix_t (atM a.y)];refine⟨hP,by lia,?_⟩
 rw[jkx hP,<- wy_p (s:=s) hP h];exact q
def jgh  (a:At ss bs s sp x y)(hP:0<P)(h6:P<=600)(h:dif sp x y<P)(q:Q (.tup [.int (wyOf P s sp x y).p,.int (wyOf P s sp x y).b]) G):jab T (k+1) jbs [jaq xs ss,.int P,jag bs,.int s] G Q X:=by
 refine⟨rfl,?_⟩;simp! only[je4,jaj,Yab,jaq,jag,ix_t (jbE _ _ _),ix_t (atM a.s),Spn.u,ix_t (atM a.x),ix_t (atM a.y)];refine⟨trivial,hP,by lia,.inr (by constructor<;>lia),by decide,?_⟩
 have e1:0-(y-x-sp.lo)/P=((wyOf P s sp x y).p:Int):=by rw[wy_p hP h];unfold dif;lia
 have e2:y+(0-(y-x-sp.lo)/P)*P-x-sp.lo=(wyOf P s sp x y).b:=by
  show _=dif sp x y%P;have h:=Yft (dif sp x y) P;have d:dif sp x y=y-x-sp.lo:=rfl;rw[<- d];have:(0-dif sp x y/P)*P=-(P*(dif sp x y/P)):=by rw[Int.zero_sub,Int.neg_mul,Int.mul_comm]
  rw[this]
  lia
 rw[e1]at e2 ⊢;rw[e2];exact q
def jaC  (ss:List Spn)(bs:List Int)(P:Int):List Nat->List Wy->Prop
 |[],ys=>ys=[]
 |s::r,ys=>∃sp x y yr,At ss bs s sp x y/\dif sp x y<P/\ys=wyOf P s sp x y::yr/\jaC ss bs P r yr
theorem jd2     : ∀ {wt } {ys }, jaC ss bs P wt ys -> wt.length = ys.length /\ ∀ (i s : Nat), wt[i]? = some s -> ∃ sp x y, At ss bs s sp x y /\ dif sp x y < P /\ ys[i]? = some (wyOf P s sp x y)
  | [], ys, h => by have h : ys = [] := h; subst h; exact ⟨rfl, λi s e => by simp at e⟩
  | s :: r, ys, h => by
    obtain ⟨sp, x, y, yr, h1, h2, rfl, h3⟩ := h
    obtain ⟨l, g⟩ := jd2 h3
    refine ⟨by simp [l], λi s' e => ?_⟩
    cases i with
    | zero => have : s = s' := by simpa using e
              subst this; exact ⟨sp, x, y, h1, h2, rfl⟩
    | succ i => exact g i s' (by simpa using e)
theorem jew      (hP:0<P)(h6:P<=600)(so:∀s∈ss,s.Ok W)(bb:∀b∈bs,0<=b/\b<P):∀{wt } {ys },jaC ss bs P wt ys->∀y∈ys,y.Ok W
 |[],ys,h=>by have h:ys=[]:=h;subst h;exact λ_ h=>nomatch h
 |s::r,ys,h=>by
  obtain⟨sp,x,y,yr,h1,h2,rfl,h3⟩:=h;intro z hz;rcases Yau.mp hz with rfl|hz
  ·have:=so sp (Yaq h1.s);refine⟨this.o,this.t,Ydj _ (by lia),?_⟩
   have b1:=bb _ (Yaq h1.x);have b2:=bb _ (Yaq h1.y);have l:=this.lo;have e:dif sp x y=y-x-sp.lo:=rfl;have:=wy_p (s:=s) hP h2;have q:-20000<=dif sp x y/P:=(Yfc hP).mpr (by lia)
   lia
  ·exact jew hP h6 so bb h3 z hz
theorem jjx      (so:∀s∈ss,s.Ok W)(bl:bs.length=W)(bb:∀b∈bs,0<=b/\b<P):∀{wt },(∀s∈wt,s<ss.length)->∃ys,jaC ss bs P wt ys
 |[],_=>⟨[],rfl⟩
 |s::r,h=>by
  obtain⟨yr,h3⟩:=jjx so bl bb λz hz=>h z (Yal _ hz);have hs:=h s (by simp)
  have ok:=so _ (YaQ hs);have h1:(ss[s]).o<bs.length:=by rw[bl];exact ok.o
  have h2:(ss[s]).t<bs.length:=by rw[bl];exact ok.t
  have b1:=bb _ (YaQ h1);have b2:=bb _ (YaQ h2);refine⟨_,ss[s],bs[(ss[s]).o],bs[(ss[s]).t],yr,⟨Yad hs,Yad h1,Yad h2⟩,?_,rfl,h3⟩;have:=ok.lo;unfold dif
  lia


noncomputable def zer  (m W:Nat):Tb:=Yab m (Yab W 0)
def jfT  : TbOk m W (zer m W):=⟨by simp[zer],λx hx=>by rw[(List.mem_replicate.mp hx).2];simp,λx hx z hz=>by
 rw[(List.mem_replicate.mp hx).2]at hz;rw[(List.mem_replicate.mp hz).2];lia⟩
def jnH   (hr:r<m)(hc:c<W):gt (zer m W) r c=0:=by
 unfold gt zer;simp[YbL,hr,hc]
def lay  (t:Tb)(g:Nat×Nat×Int):Tb:=st2 t g.2.1 g.1 (max (gt t g.2.1 g.1) g.2.2)
def ini  (m W:Nat)(gv:List (Nat×Nat×Int)):Tb:=gv.foldl lay (zer m W)
def jgm   (hg:Gv W m g)(h:TbOk m W t):TbOk m W (lay t g)/\tot t<=tot (lay t g)/\(g.2.2<=gt t g.2.1 g.1->lay t g=t)/\(gt t g.2.1 g.1<g.2.2->tot t<tot (lay t g)):=by
 have h1:=h.gt hg.t hg.w;have h2:=hg.n;have ok:=h.st (r:=g.2.1) (c:=g.1) (v:=max (gt t g.2.1 g.1) g.2.2) hg.t (by lia)
 have e:=jjB (v:=max (gt t g.2.1 g.1) g.2.2) h hg.t hg.w;refine⟨ok,by unfold lay;rw[e];lia,λq=>jjH ok h λr c hr hc=>?_,λq=>by unfold lay;rw[e];lia⟩
 unfold lay;rw[jg2 h hg.t hg.w];split
 ·rename_i z;rw[z.1,z.2];lia
 ·rfl
def jj6   (h:∀g∈gv,Gv W m g):TbOk m W (ini m W gv):=
 jaJ (TbOk m W) _ _ _ jfT λ_ g hg ht=>(jgm (h g hg) ht).1
def jjo   [DecidableEq κ] kvs (k k':κ)(v:α):dGet (dPut kvs k v) k'=if k'=k then some v else dGet kvs k':=by
 unfold dGet dPut;by_cases h:(kvs.any λkv=>decide (kv.1=k))=true
 ·rw[if_pos h]
  induction kvs with
  |nil=>cases h
  |cons a r ih=>
   simp only[YaM,Ya2];by_cases ha:a.1=k
   ·rw[if_pos ha];by_cases hk:k'=k
    ·subst hk;simp[ha]
    ·have n1:¬(a.1=k'):=λz=>hk (z.symm.trans ha);simp only[n1,decide_false,if_neg hk];have:∀r:List (κ×α),(YeM (λkv=>decide (kv.1=k')) (r.map λkv=>if kv.1=k then (kv.1,v) else kv)).map (·.2)=(YeM (λkv=>decide (kv.1=k')) r).map (·.2):=λr=>by
      induction r with
      |nil=>rfl
      |cons b r ih=>
       simp only[YaM,Ya2];by_cases hb:b.1=k
       ·rw[if_pos hb];have n2:¬(b.1=k'):=λz=>hk (z.symm.trans hb);simp only[n2,decide_false];exact ih
       ·rw[if_neg hb];by_cases hb':b.1=k'
        ·simp[hb']
        ·simp only[hb',decide_false];exact ih
     exact this r
   ·rw[if_neg ha];have h':(r.any λkv=>decide (kv.1=k))=true:=by simpa[ha]using h
    by_cases hb:a.1=k'
    ·have:¬(k'=k):=λz=>ha (hb.trans z);simp[hb,this]
    ·simp only[hb,decide_false];exact ih h'
 ·rw[if_neg h];have hn:∀kv∈kvs,¬(kv.1=k):=λkv hkv e=>h (List.any_eq_true.mpr ⟨kv,hkv,by simpa using e⟩)
  rw[List.find?_append];by_cases hk:k'=k
  ·subst hk;have:YeM (λkv=>decide (kv.1=k')) kvs=none:=List.find?_eq_none.mpr λx hx=>by simpa using hn x hx
   simp[this]
  ·rw[if_neg hk];have:YeM (λkv:κ×α=>decide (kv.1=k')) [(k,v)]=none:=List.find?_eq_none.mpr λx hx=>by
    rw[List.mem_singleton.mp hx];simpa using λz=>hk z.symm
   rw[this];simp
structure Ch (m W:Nat)(t:Tb)(kvs:List (List Key×U)):Prop where
 l:(kvs.length:Int)<=tot t
 no:∀r c:Nat,r<m->c<W->dGet kvs [.inl (r:Int),.inl (c:Int)]=none->gt t r c=0
 so:∀(r c:Nat) (u:U),r<m->c<W->dGet kvs [.inl (r:Int),.inl (c:Int)]=some u->∃(g:U) (row:List U),u=.tup [.int (gt t r c),g,.tup row]/\(row.length:Int)<=tot t
def jnE       (g:G a=some (.dT kvs)):inU (.tup [.int r,.int c]) (.loc a) G k=k (dGet kvs [.inl r,.inl c]).isSome:=by unfold inU;dsimp only;rw[g];rfl
def jnz        (g:G a=some (.dT kvs))(h:dGet kvs [.inl r,.inl c]=some u):ixU (.loc a) (.tup [.int r,.int c]) G Q=Q u G:=by
 unfold ixU;dsimp only;rw[g];show(match dGet kvs [.inl r,.inl c]with|some u=>Q u G|none=>False)=_
 rw[h]
def jjN        (g:G a=some (.dT kvs)):setU (.loc a) (.tup [.int r,.int c]) v G Q=(kvs.length<Yai/\putO G a (.dT (dPut kvs [.inl r,.inl c] v)) Q):=by unfold setU;dsimp only;rw[g];rfl
def jjg     (g:G a=some o):G=gup G a o:=by
 funext b;unfold gup;split
 ·rename_i z;rw[z];exact g
 ·rfl
def jid     : (YaC (i+1)).foldl (rlx y) t=rlx y ((YaC i).foldl (rlx y) t) i:=by
 rw[YbF,YdX];rfl

def jgs  {gv:List (Nat×Nat×Int)}(h:gv[i]?=some g):ini m W (gv.take (i+1))=lay (ini m W (gv.take i)) g:=by
 unfold ini;rw[Ybq,h,YdX];rfl
def tbU  (t:Tb):U:=.tup (t.map jag)

def ClS  (m:Nat)(ys:List Wy)(S:Nat->Nat->Int):Prop:=∀y∈ys,∀i,i<m-y.p->S i y.o-y.b<=S (i+y.p) y.t
def LeS  (m W:Nat)(t:Tb)(S:Nat->Nat->Int):Prop:=∀r c,r<m->c<W->gt t r c<=S r c
section
variable {m W:Nat}{ys:List Wy}{t R:Tb}{S:Nat->Nat->Int}
def jmq   (oy:y.Ok W)(h:TbOk m W t)(hs:LeS m W t S)(hi:i<m-y.p)(hc:S i y.o-y.b<=S (i+y.p) y.t):LeS m W (rlx y t i) S:=λr c hr hc'=>by
 unfold rlx;rw[jg2 h (by lia) oy.t]
 have h1:=hs (i+y.p) y.t (by lia) oy.t
 have h2:=hs i y.o (by lia) oy.o
 split
 ·rename_i z;rw[z.1,z.2];lia
 ·exact hs r c hr hc'
def jmy  (hy:∀y∈ys,y.Ok W)(cl:ClS m ys S)(h:TbOk m W t)(hs:LeS m W t S):LeS m W (pss m ys t) S:=
 (jaJ (λb=>TbOk m W b/\LeS m W b S) _ _ _ ⟨h,hs⟩ λb y hm hb=>jaJ (λb=>TbOk m W b/\LeS m W b S) _ _ _ hb λb i hi hb=>by
  have hi':i<m-y.p:=by simpa using hi
  exact⟨(jeE (hy y hm) hb.1 hi').1,jmq (hy y hm) hb.1 hb.2 hi' (cl y hm i hi')⟩).2
def Runs.least  (hy:∀y∈ys,y.Ok W)(cl:ClS m ys S)(q:Runs m ys t R):TbOk m W t->LeS m W t S->LeS m W R S:=by
 induction q with
 |stop _=>exact λ_ h=>h
 |go _ _ ih=>exact λh hs=>ih (jdC hy h).1 (jmy hy cl h hs)
def jmr   (oy:y.Ok W)(h:TbOk m W t)(hi:i<m-y.p):LeS m W t (gt (rlx y t i)):=λr c hr hc'=>by
 unfold rlx;rw[jg2 h (by lia) oy.t]
 split
 ·rename_i z;rw[z.1,z.2];lia
 ·exact YcH _
def jmz  (hy:∀y∈ys,y.Ok W)(h:TbOk m W t):LeS m W t (gt (pss m ys t)):=
 (jaJ (λb=>TbOk m W b/\LeS m W t (gt b)) _ _ _ ⟨h,λ_ _ _ _=>YcH _⟩ λb y hm hb=>jaJ (λb=>TbOk m W b/\LeS m W t (gt b)) _ _ _ hb λb i hi hb=>by
  have hi':i<m-y.p:=by simpa using hi
  exact⟨(jeE (hy y hm) hb.1 hi').1,λr c hr hc=>Ydi (hb.2 r c hr hc) (jmr (hy y hm) hb.1 hi' r c hr hc)⟩).2
def Runs.ge  (hy:∀y∈ys,y.Ok W)(q:Runs m ys t R):TbOk m W t->LeS m W t (gt R):=by
 induction q with
 |stop _=>exact λ_ _ _ _ _=>YcH _
 |go _ _ ih=>exact λh r c hr hc=>Ydi (jmz hy h r c hr hc) (ih (jdC hy h).1 r c hr hc)
theorem jeo  {α:Type} f:∀(l:List α),(∀b a,a∈l->TbOk m W b->Up m W b (f b a))->TbOk m W R->l.foldl f R=R->∀a∈l,f R a=R
 |[],_,_,_,_,h=>(nomatch h)
 |a::l,u,ok,e,x,hx=>by
  have e:l.foldl f (f R a)=R:=e;have u1:=u R a Yat ok;have u2:Up m W (f R a) (l.foldl f (f R a)):=jaJ (Up m W (f R a)) f l _ ⟨u1.1,.inl rfl⟩ λb z hz hb=>hb.trans (u b z (Yal _ hz) hb.1);have h1:f R a=R:=by
   rcases u1.2 with z|z
   ·exact z
   ·rw[e]at u2;rcases u2.2 with z2|z2
    ·exact z2.symm
    ·lia
  rcases Yau.mp hx with rfl|hx
  ·exact h1
  ·rw[h1]at e;exact jeo f l (λb z hz=>u b z (Yal _ hz)) ok e x hx
def jgO  (hy:∀y∈ys,y.Ok W)(h:TbOk m W R)(e:pss m ys R=R):ClS m ys (gt R):=λy hm i hi=>by
 have h1:=jeo (psW m) ys (λb a ha hb=>jjR (hy a ha) hb) h e y hm;have h2:=jeo (rlx y) (YaC (m-y.p)) (λb a ha hb=>jjO (hy y hm) hb (by simpa using ha)) h h1 i (by simpa using hi)
 have h3:=(jeE (hy y hm) h hi).2.2.2;rw[h2]at h3;rcases Int.lt_or_le (gt R (i+y.p) y.t) (gt R i y.o-y.b)with z|z
 ·have:=h3 z;lia
 ·exact z
def Runs.closed  (hy:∀y∈ys,y.Ok W)(q:Runs m ys t R):TbOk m W t->ClS m ys (gt R):=by
 induction q with
 |stop e=>exact λh=>jgO hy h e
 |go _ _ ih=>exact λh=>ih (jdC hy h).1
def jnl   (hg:Gv W m g)(h:TbOk m W t)(hs:LeS m W t S)(hc:g.2.2<=S g.2.1 g.1):LeS m W (lay t g) S:=λr c hr hc'=>by
 unfold lay;rw[jg2 h hg.t hg.w];have h1:=hs g.2.1 g.1 hg.t hg.w;split
 ·rename_i z;rw[z.1,z.2];lia
 ·exact hs r c hr hc'
def jnm   (hg:Gv W m g)(h:TbOk m W t):LeS m W t (gt (lay t g))/\g.2.2<=gt (lay t g) g.2.1 g.1:=by
 refine⟨λr c hr hc'=>?_,?_⟩<;>unfold lay<;>rw[jg2 h hg.t hg.w]
 ·split
  ·rename_i z;rw[z.1,z.2];lia
  ·exact YcH _
 ·rw[if_pos ⟨rfl,rfl⟩];lia
variable {gv gw:List (Nat×Nat×Int)}
def jnD  (hg:∀g∈gv,Gv W m g)(h0:∀r c,r<m->c<W->0<=S r c)(hs:∀g∈gv,g.2.2<=S g.2.1 g.1):LeS m W (ini m W gv) S:=
 (jaJ (λb=>TbOk m W b/\LeS m W b S) _ _ _ ⟨jfT,λr c hr hc=>by rw[jnH hr hc];exact h0 r c hr hc⟩ λb g hm hb=>⟨(jgm (hg g hm) hb.1).1,jnl (hg g hm) hb.1 hb.2 (hs g hm)⟩).2
theorem jj7  : ∀(gv:List (Nat×Nat×Int)) t ,TbOk m W t->(∀g∈gv,Gv W m g)->LeS m W t (gt (gv.foldl lay t))/\∀g∈gv,g.2.2<=gt (gv.foldl lay t) g.2.1 g.1
 |[],_,_,_=>⟨λ_ _ _ _=>YcH _,λ_ h=>(nomatch h)⟩
 |x::gv,t,h,hg=>by
  have ox:=hg x Yat;obtain⟨h1,h2⟩:=jnm ox h;obtain⟨h3,h4⟩:=jj7 gv (lay t x) (jgm ox h).1 λg hm=>hg g (Yal _ hm);refine⟨λr c hr hc=>Ydi (h1 r c hr hc) (h3 r c hr hc),λg hm=>?_⟩;rcases Yau.mp hm with rfl|hm
  ·exact Ydi h2 (h3 _ _ ox.t ox.w)
  ·exact h4 g hm
structure Lst (m W:Nat)(ys:List Wy)(gv:List (Nat×Nat×Int))(R:Tb):Prop where
 ok:TbOk m W R
 cl:ClS m ys (gt R)
 ge:∀g∈gv,g.2.2<=gt R g.2.1 g.1
 le:∀S:Nat->Nat->Int,ClS m ys S->(∀r c,r<m->c<W->0<=S r c)->(∀g∈gv,g.2.2<=S g.2.1 g.1)->LeS m W R S
def Runs.lst  (hy:∀y∈ys,y.Ok W)(hg:∀g∈gv,Gv W m g)(q:Runs m ys (ini m W gv) R):Lst m W ys gv R:=by
 have i0:=jj6 hg;refine⟨q.ok hy i0,q.closed hy i0,λg hm=>?_,λS cl h0 hs=>q.least hy cl i0 (jnD hg h0 hs)⟩;have og:=hg g hm;exact Ydi ((jj7 gv (zer m W) jfT hg).2 g hm) (q.ge hy i0 _ _ og.t og.w)
end

def Sx  (as:List Addr)(G G':Gp):Prop:=∀b o,b∉as->G b=some o->G' b=some o
def Sx.refl    : Sx as G G:=λ_ _ _ h=>h
def Sx.trans    (a:Sx as G G1)(b:Sx as G1 G2):Sx as G G2:=λc o n h=>b c o n (a c o n h)
def Sx.put      (h:a∈as)(p:Put G a o G'):Sx as G G':=λc u n e=>p.sm c u (λz=>n (z ▸ h)) e
def Sx.sa    (h:∀a∈as,G a=none)(a:Sa G G')(b:Sx as G' G''):Sa G G'':=λc o e=>b c o (λz=>by rw[h c z]at e;cases e) (a c o e)
def jkG    (s:Sa G G')(h:G' p=none):G p=none:=by
 cases e:G p with
 |none=>rfl
 |some o=>rw[s _ _ e]at h;cases h
def jnc  {α:Type}{l:List α}(h:l.Nodup) hi (hj:j<l.length)(e:l[i]=l[j]):i=j:=by
 have h:=List.pairwise_iff_getElem.mp h;rcases Nat.lt_trichotomy i j with z|z|z
 ·exact absurd e (h i j hi hj z)
 ·exact z
 ·exact absurd e.symm (h j i hj hi z)
structure TbA (G:Gp)(p:Addr)(as:List Addr)(t:Tb):Prop where
 gp:G p=some (.lst (as.map .loc))
 l:as.length=t.length
 nd:as.Nodup
 np:p∉as
 ga:∀(i:Nat) (a:Addr) (row:List Int),as[i]?=some a->t[i]?=some row->G a=some (.lst (row.map .int))
def TbA.mem      (h:TbA G p as t)(ha:a∈as):∃row:List Int,G a=some (.lst (row.map .int)):=by
 obtain⟨i,hi,e⟩:=Ydx ha;have h2:i<t.length:=by rw[<- h.l];exact hi
 exact⟨_,h.ga i a t[i] (by rw[Yad hi,e]) (Yad h2)⟩
def TbA.keep      (h:TbA G p as t)(s:Sx xs G G')(hp:p∉xs)(ha:∀a∈as,a∉xs):TbA G' p as t:=
 ⟨s _ _ hp h.gp,h.l,h.nd,h.np,λi a row e1 e2=>s _ _ (ha a (Yaq e1)) (h.ga i a row e1 e2)⟩
def TbA.sa      (h:TbA G p as t)(s:Sa G G'):TbA G' p as t:=
 ⟨s _ _ h.gp,h.l,h.nd,h.np,λi a row e1 e2=>s _ _ (h.ga i a row e1 e2)⟩
def TbA.put      (h:TbA G p as t)(ha:as[r]?=some a)(w:Put G a (.lst (row.map .int)) G'):TbA G' p as (t.set r row):=by
 have hm:=Yaq ha;refine⟨w.sm _ _ (λz=>h.np (z ▸ hm)) h.gp,by rw[YcD];exact h.l,h.nd,h.np,λi b rw' e1 e2=>?_⟩
 have hr:=(List.getElem?_eq_some_iff.mp ha).1;by_cases hi:i=r
 ·subst hi;rw[Ybi (by rw[<- h.l];exact hr)]at e2
  rw[e1]at ha;cases ha;cases e2;exact w.at
 ·rw[YaS (Ne.symm hi)]at e2;have hb:b≠a:=λz=>by
   subst z;obtain⟨h1,h2⟩:=List.getElem?_eq_some_iff.mp e1;obtain⟨h3,h4⟩:=List.getElem?_eq_some_iff.mp ha;exact hi (jnc h.nd h1 h3 (h2.trans h4.symm))
  exact w.sm _ _ hb (h.ga i b rw' e1 e2)
def atL  {α:Type}{f:α->U}{l:List α}{n:Nat}{a:α}(h:l[n]?=some a):atI (l.map f) (n:Int)=some (f a):=atM h
def TbA.ix       (h:TbA G p as t)(ok:TbOk m W t)(hr:r<m)(hc:c<W):∃(a:Addr) (row:List Int),as[r]?=some a/\t[r]?=some row/\t.getD r []=row/\row.length=W/\G a=some (.lst (row.map .int))/\atI (row.map U.int) (c:Int)=some (.int (gt t r c)):=by
 obtain⟨row,e1,e2,e3,e4⟩:=ok.row hr;have h1:r<as.length:=by rw[h.l,ok.l];exact hr
 have h2:c<row.length:=by rw[e3];exact hc
 refine⟨as[r],row,Yad h1,e1,e2,e3,h.ga r _ row (Yad h1) e1,?_⟩;rw[atM (Yad h2)];unfold gt;rw[e2];simp[YbL,h2]
noncomputable def rowD  (r:List Int):PyData:=.list (r.map .int)
def tbD  (t:Tb):PyData:=.list (t.map rowD)
theorem jgy   G:∀r:List Int,DUs G (r.map .int) (r.map .int)
 |[]=>.nil
 |i::r=>.cons (.int i) (jgy G r)
def TbA.du      (h:TbA G p as t):DU G (.loc p) (tbD t):=by
 have:∀(as:List Addr) (t:Tb),as.length=t.length->(∀(i:Nat) (a:Addr) (row:List Int),as[i]?=some a->t[i]?=some row->G a=some (.lst (row.map .int)))->DUs G (as.map .loc) (t.map rowD):=λas=>by
  induction as with
  |nil=>
   intro t hl _;cases t with
   |nil=>exact .nil
   |cons _ _=>cases hl
  |cons a as ih=>
   intro t hl ha;cases t with
   |nil=>cases hl
   |cons r t=>
    have g:=ha 0 a r rfl rfl;exact .cons (.lst (by unfold lsG;rw[g]) (jgy G r)) (ih t (by simpa using hl) λi b row e1 e2=>ha (i+1) b row e1 e2)
 exact .lst (by unfold lsG;rw[h.gp]) (this as t h.l h.ga)
theorem jgn  : ∀r:List Int,YaR (r.map .int)=true/\YaI (r.map .int)=0/\noBs (r.map .int)=true
 |[]=>⟨rfl,rfl,rfl⟩
 |i::r=>by
  obtain⟨h1,h2,h3⟩:=jgn r;refine⟨?_,?_,?_⟩
  ·show((Yfz i).canLay0&&YaR (r.map .int))=true;rw[h1];rfl
  ·show max (Yfz i).depth (YaI (r.map .int))=0;rw[h2];rfl
  ·show(noB (.int i)&&noBs (r.map .int))=true;rw[h3];rfl
theorem jcM  : ∀t:Tb,YaR (t.map rowD)=true/\YaI (t.map rowD)<=1/\noBs (t.map rowD)=true
 |[]=>⟨rfl,by decide,rfl⟩
 |r::t=>by
  obtain⟨h1,h2,h3⟩:=jcM t;obtain⟨g1,g2,g3⟩:=jgn r;refine⟨?_,?_,?_⟩
  ·show(YaR (r.map .int)&&YaR (t.map rowD))=true;rw[h1,g1];rfl
  ·show max (YaI (r.map .int)+1) (YaI (t.map rowD))<=1;rw[g2];lia
  ·show(noBs (r.map .int)&&noBs (t.map rowD))=true;rw[h3,g3];rfl
def jcJ   t:Small (tbD t):=by
 obtain⟨h1,h2,_⟩:=jcM t;refine⟨h1,?_⟩;show YaI (t.map rowD)+1<=100
 lia
theorem jdb  {α β:Type}{f:α->β}(hf:∀x y,f x=f y->x=y):∀{l l':List α},l.map f=l'.map f->l=l'
 |[],[],_=>rfl
 |[],_::_,h=>by cases h
 |_::_,[],h=>by cases h
 |a::l,b::l',h=>by
  have h:=Ya1 h;rw[hf _ _ h.1,jdb hf h.2]
def jl4   (h:tbD t=tbD t'):t=t':=
 jdb (f:=rowD) (λx y e=>jdb (f:=Yfz) (λ_ _ e=>by cases e;rfl) (Ye3 e)) (Ye3 h)
def jl5   t t':YaJ (tbD t) (tbD t')=decide (t=t'):=by
 by_cases h:t=t'
 ·rw[h,PySem.SeqAt.eqv_refl _ (jcJ t').1];simp
 ·cases e:YaJ (tbD t) (tbD t')with
  |false=>simp[h]
  |true=>exact absurd (jl4 (jke (jcM t).2.2 (jcM t').2.2 e)) h
noncomputable def legU  (y:Wy):U:=.tup [.int y.o,.int y.t,.int y.p,.int y.b]
def jj0  (i j:Int):(if j>i then j else i)=max i j:=by split<;>lia

def jjG         (h:TbA G p as t)(ok:TbOk m W t)(hr:r<m)(hc:c<W)(ha:as[r]?=some a)(q:∀G',TbA G' p as (st2 t r c v)->Sx as G G'->Q G'):setU (.loc a) (.int c) (.int v) G Q:=by
 obtain⟨b,row,e1,e2,e3,e4,e5,e6⟩:=h.ix ok hr hc;rw[ha]at e1;cases e1;rw[jmh e5 (show ixN _ (c:Int)=some c from jh2 (by rw[Yaa,e4];exact hc))]
 intro G' w;rw[<- List.map_set]at w;refine q G' ?_ (Sx.put (Yaq ha) w);unfold st2;rw[e3];exact h.put ha w
def law_pass    {X:KX}{Kn:Sg->Gp->Prop}{u0 u1 u2 u3 u4 u5 l8 l9 l10 l13 l14 l15 l16 ul:Option U}(h:TbA G pt as t)(ok:TbOk m W t)(hm:m<=12)(hy:∀y∈ys,y.Ok W)(gg:G pg=some (.lst (ys.map legU)))(hg:pg∉as)
  (q:∀G' l9 l13 l14 l15 l16 ,TbA G' pt as (pss m ys t)->Sx as G G'->Kn [u0,u1,u2,u3,u4,u5,some (.int m),some (.loc pt),l8,l9,l10,some (.loc pg),ul,l13,l14,l15,l16] G') :
  forL (λG'=>lsG G' pg=some (ys.map legU)) (λx ς1 G2 K=>tgU (.t (.cons (.n 13) (.cons (.n 14) (.cons (.n 15) (.cons (.n 16) .nil))))) x ς1 λς2=>jas T.gs (jab T k)
   (.cons (.fr (.n 9) (.r1 (.bin .Sub (.v 6) (.v 15))) (.cons (.setS (.ix (.v 7) (.bin .Add (.v 9) (.v 15))) (.v 14) (.blt .max (.cons (.ix (.ix (.v 7) (.bin .Add (.v 9) (.v 15))) (.v 14)) (.cons (.bin .Sub (.ix (.ix (.v 7) (.v 9)) (.v 13)) (.v 16)) .nil)))) .nil)) .nil)
   ⟨K,Q,λx _ G'=>X x G'⟩ ς2 G2) (ys.map legU) [u0,u1,u2,u3,u4,u5,some (.int m),some (.loc pt),l8,l9,l10,some (.loc pg),ul,l13,l14,l15,l16] G Kn:=by
 refine jau (λi ς G'=>∃(t':Tb) (l9 l13 l14 l15 l16:Option U),ς=[u0,u1,u2,u3,u4,u5,some (.int m),some (.loc pt),l8,l9,l10,some (.loc pg),ul,l13,l14,l15,l16]/\t'=pss m (ys.take i) t/\TbOk m W t'/\TbA G' pt as t'/\Sx as G G') ?_ ?_ ⟨t,_,_,_,_,_,rfl,rfl,ok,h,Sx.refl⟩
 ·rintro ς G' ⟨t',l9,l13,l14,l15,l16,rfl,e,ok',h',s'⟩;refine⟨by unfold lsG;rw[s' _ _ hg gg],?_⟩
  rw[Yaa,Ye5 (Yah _)]at e;subst e;exact q _ _ _ _ _ _ h' s'
 ·rintro i x ς G' K hx ⟨t',l9,l13,l14,l15,l16,rfl,e,ok',h',s'⟩ hk;refine⟨by unfold lsG;rw[s' _ _ hg gg],?_⟩
  rw[Yav]at hx;cases es:ys[i]? with
  |none=>rw[es]at hx;cases hx
  |some y=>
   rw[es]at hx;have hx:=(Yar hx).symm;subst hx;have oy:=hy y (Yaq es);have e1:pss m (ys.take (i+1)) t=psW m t' y:=by
    rw[Ybq,es];unfold pss at e ⊢;rw[YdX,<- e];rfl
   simp! only[legU];have p2:=oy.p;refine⟨trivial,by lia,by lia,?_⟩
   have em:((m:Int)-(y.p:Int)).toNat=m-y.p:=by lia
   rw[em];refine jau (λj ς G'=>∃(t2:Tb) (l9:Option U),ς=[u0,u1,u2,u3,u4,u5,some (.int m),some (.loc pt),l8,l9,l10,some (.loc pg),ul,some (.int y.o),some (.int y.t),some (.int y.p),some (.int y.b)]/\t2=(YaC j).foldl (rlx y) t'/\TbOk m W t2/\TbA G' pt as t2/\Sx as G G') ?_ ?_ ⟨t',_,rfl,rfl,ok',h',s'⟩
   ·rintro ς G2 ⟨t2,l9,rfl,e2,ok2,h2,s2⟩;refine⟨trivial,hk _ _ ⟨t2,_,_,_,_,_,rfl,?_,ok2,h2,s2⟩⟩;rw[e1,e2,jao];rfl
   ·rintro j x ς G2 K2 hx ⟨t2,l9,rfl,e2,ok2,h2,s2⟩ hk2;obtain⟨hj,rfl⟩:=jaG hx;obtain⟨a1,row1,c1,_,_,_,g1,x1⟩:=h2.ix ok2 (show j+y.p<m by lia) oy.t
    obtain⟨a2,row2,c2,_,_,_,g2,x2⟩:=h2.ix ok2 (show j<m by lia) oy.o
    refine⟨trivial,?_⟩;simp! only[];rw[show(j:Int)+(y.p:Int)=((j+y.p:Nat):Int) by lia]
    simp! only[ix_l h2.gp (atL c1),ix_l g1 x1,ix_l h2.gp (atL c2),ix_l g2 x2,jj0];refine jjG h2 ok2 (by lia) oy.t c1 λG3 h3 s3=>?_
    exact hk2 _ _ ⟨rlx y t2 j,_,rfl,by rw[jid,<- e2],(jeE oy ok2 hj).1,h3,s2.trans s3⟩

def jnN   W:(Yab W [U.int 0]).flatten=(Yab W (0:Int)).map U.int:=by
 induction W with
 |zero=>rfl
 |succ n ih=>rw[YaX,Ybr,ih];rfl
def jip  (a b c d e:U):cut [a,b,c,d,e] (some 1) (some 3)=[b,c]:=rfl
structure Rows (G0 G:Gp)(as:List Addr)(t:Tb):Prop where
 l:as.length=t.length
 nd:as.Nodup
 fr:∀a∈as,G0 a=none
 ga:∀(i:Nat) (a:Addr) (row:List Int),as[i]?=some a->t[i]?=some row->G a=some (.lst (row.map .int))
def Rows.nil  {G0 G:Gp}:Rows G0 G [] []:=⟨rfl,Yez,λ_ h=>(nomatch h),λ_ _ _ h=>by cases h⟩
def Rows.mem  {G0 G:Gp}(h:Rows G0 G as t)(ha:a∈as):∃o,G a=some o:=by
 obtain⟨i,hi,e⟩:=Ydx ha;have h2:i<t.length:=by rw[<- h.l];exact hi
 exact⟨_,h.ga i a t[i] (by rw[Yad hi,e]) (Yad h2)⟩
def Rows.sa  {G0 G G':Gp}(h:Rows G0 G as t)(s:Sa G G'):Rows G0 G' as t:=⟨h.l,h.nd,h.fr,λi a r e1 e2=>s _ _ (h.ga i a r e1 e2)⟩
def Rows.add  {G0 G G':Gp}(h:Rows G0 G as t)(s0:Sa G0 G)(n:New G p (.lst (row.map .int)) G'):Rows G0 G' (as++[p]) (t++[row]):=by
 refine⟨by simp[h.l],?_,λa ha=>?_,λi a r e1 e2=>?_⟩
 ·refine List.nodup_append.mpr ⟨h.nd,by simp,λa ha b hb=>?_⟩
  rw[List.mem_singleton.mp hb];obtain⟨o,ho⟩:=h.mem ha;exact Ne.symm (jbq ho n.no)
 ·rcases List.mem_append.mp ha with z|z
  ·exact h.fr a z
  ·rw[List.mem_singleton.mp z];exact jkG s0 n.no
 ·by_cases hi:i<as.length
  ·rw[Ybj hi]at e1;rw[Ybj (by rw[<- h.l];exact hi)]at e2
   exact n.sa _ _ (h.ga i a r e1 e2)
  ·rw[Yb8 (by lia)]at e1
   rw[Yb8 (by rw[<- h.l];lia),<- h.l]at e2
   cases hj:i-as.length with
   |zero=>rw[hj]at e1 e2;cases e1;cases e2;exact n.at
   |succ j=>rw[hj]at e1;cases e1
def Rows.tb  {G0 G G':Gp}(h:Rows G0 G as t)(n:New G p (.lst (as.map .loc)) G'):TbA G' p as t:=
 ⟨n.at,h.l,h.nd,λz=>by
  obtain⟨o,ho⟩:=h.mem z;exact jbq ho n.no rfl,λi a r e1 e2=>n.sa _ _ (h.ga i a r e1 e2)⟩

def jeU  {X: KX}(h:TbA G pt as R)(hl:as.length<=12)(h7:ς[7]?=some (some (.loc pt)))(q:∀G',Sa G G'->Q (tbU R) G'):jas T.gs (jab T k) jaK ⟨λ_ G'=>Q .non G',Q,λx _ G'=>X x G'⟩ ς G:=by
 simp! only[jaK];unfold slot;rw[h7];dsimp only;rw[it_l h.gp];refine⟨by rw[Yaa];exact Yag hl (by decide),?_⟩
 refine jal (λi acc G'=>G'=G/\acc=(R.take i).map jag) ?_ ?_ ⟨rfl,rfl⟩
 ·rintro acc G1 ⟨rfl,rfl⟩;refine⟨by unfold lsG;rw[h.gp],λp G2 n2=>?_⟩
  simp! only[it_l n2.at];rw[Yaa,h.l,Ybg];exact q _ n2.sa
 ·rintro i x acc G1 K hx ⟨rfl,rfl⟩ hk _;rw[Yav]at hx;cases es:as[i]? with
  |none=>rw[es]at hx;cases hx
  |some a=>
   rw[es]at hx;have hx:=(Yar hx).symm;subst hx;have hi:i<R.length:=by rw[<- h.l];exact(List.getElem?_eq_some_iff.mp es).1
   have g:=h.ga i a _ es (Yad hi);refine⟨by unfold lsG;rw[h.gp],?_⟩
   simp! only[it_l g];refine hk _ _ ⟨rfl,?_⟩;rw[Ybq,Yad hi,YaL];rfl
def jc1  {w:Wd}(ow:w.Ok)(hw:jaC w.ss w.bs w.P w.wt ys)(hr:Runs w.m ys (ini w.m w.xs.length w.gv) R)(q:∀G',Sa G G'->Q (tbU R) G'):jab T (k+2) jbG [w.u] G Q X:=by
 have hP:0<w.P:=by have:=ow.p1;lia
 have hy:=jew hP ow.p6 ow.so ow.bb hw;have hm:=ow.m2;have hW:=ow.x8;obtain⟨wl,wg⟩:=jd2 hw;refine⟨rfl,?_⟩;simp! only[jbL,jaj,Yab,Wd.u];refine⟨trivial,by lia,by lia,by rw[jao];exact Yag hm (by decide),?_⟩
 refine jal (λi acc G'=>∃as:List Addr,acc=as.map .loc/\Sa G G'/\Rows G G' as (zer i w.xs.length)) ?_ ?_ ⟨[],rfl,Sa.refl,Rows.nil⟩
 ·rintro acc G1 ⟨as,rfl,s1,r1⟩;rw[jao]at r1;refine⟨trivial,λpt G2 n2=>?_⟩;have tb2:=r1.tb n2;have s2:=s1.trans n2.sa;have al:as.length=w.m:=by rw[tb2.l];simp[zer]
  simp! only[];refine jau (λi ς G'=>∃o8 o9 o10:Option U,ς=[some w.u,some w.plan,some (.int w.P),some (jag w.bs),some (jat w.wt),some (.tup (w.gv.map gU)),some (.int w.m),some (.loc pt),o8,o9,o10,none,none,none,none,none,none]/\TbOk w.m w.xs.length (ini w.m w.xs.length (w.gv.take i))/\TbA G' pt as (ini w.m w.xs.length (w.gv.take i))/\Sa G G') ?_ ?_ ⟨_,_,_,rfl,jfT,tb2,s2⟩
  ·rintro ς G3 ⟨o8,o9,o10,rfl,ok3,tb3,s3⟩;rw[Yaa,Ybg]at ok3 tb3;refine⟨trivial,?_⟩;simp! only[jbj,jat];refine⟨by rw[Yaa];exact Yag ow.wl (by decide),?_⟩
   refine jal (λi acc G'=>G'=G3/\acc=(ys.take i).map legU) ?_ ?_ ⟨rfl,rfl⟩
   ·rintro acc G4 ⟨rfl,rfl⟩;refine⟨trivial,λpg G5 n5=>?_⟩;rw[Yaa,wl,Ybg]at n5;have tb5:=tb3.sa n5.sa;have s5:=s3.trans n5.sa;have hpg:pg∉as:=λz=>by
     obtain⟨o,ho⟩:=tb3.mem z;exact jbq ho n5.no rfl
    simp! only[jbi,jbh];rw[S_wh];refine⟨λn ς G'=>∃(t:Tb) (b:Bool) (lu:U) (l9 l13 l14 l15 l16:Option U),ς=[some w.u,some w.plan,some (.int w.P),some (jag w.bs),some (jat w.wt),some (.tup (w.gv.map gU)),some (.int w.m),some (.loc pt),o8,l9,o10,some (.loc pg),some lu,l13,l14,l15,l16]
     /\ (∀kk:Bool->Prop,kk (!b)->cmpU .NotEq (.loc pt) lu G' kk)/\TbOk w.m w.xs.length t/\TbA G' pt as t/\Sa G G'/\G' pg=some (.lst (ys.map legU))/\(b=false->Runs w.m ys t R/\n=(95904-tot t).toNat+1)/\(b=true->t=R/\n=0),
     ⟨_,_,false,.non,_,_,_,_,_,rfl,λkk hk=>⟨_,_,tb5.du,.non,jcJ _,⟨rfl,by decide⟩,hk⟩,ok3,tb5,s5,n5.at,λ_=>⟨hr,rfl⟩,λz=>(nomatch z)⟩,?_⟩
    rintro n ς G6 ⟨t,b,lu,l9,l13,l14,l15,l16,rfl,hc,ok6,tb6,s6,g6,hf,ht⟩;simp! only[];refine hc _ ?_;cases b with
    |true=>
     rw[if_neg (by decide)]
     obtain⟨rfl,_⟩:=ht rfl;exact jeU tb6 (by lia) rfl λG' s'=>q _ (s6.trans s')
    |false=>
     rw[if_pos (by decide)]
     obtain⟨hr6,hn⟩:=hf rfl;simp! only[jaT,it_l tb6.gp];refine⟨by rw[Yaa];exact Yag (show as.length<=12 by lia) (by decide),?_⟩
     refine jal (λi acc G'=>∃bs:List Addr,acc=bs.map .loc/\Sa G6 G'/\Rows G6 G' bs (t.take i)) ?_ ?_ ⟨[],rfl,Sa.refl,Rows.nil⟩
     ·rintro acc G7 ⟨bs,rfl,s7,r7⟩;rw[Yaa,tb6.l,Ybg]at r7;refine⟨by unfold lsG;rw[s7 _ _ tb6.gp],λpl G8 n8=>?_⟩
      have lb8:=r7.tb n8;have s8:=s7.trans n8.sa;have tb8:=tb6.sa s8;have g8:=s8 _ _ g6;simp! only[it_l g8];refine law_pass (k:=k+1) (Q:=Q) (X:=X) tb8 ok6 hm hy g8 hpg λG9 l9 l13 l14 l15 l16 tb9 s9=>?_;have lb9:=lb8.keep s9 (λz=>by
       obtain⟨o,ho⟩:=tb6.mem z;exact jbq (s7 _ _ ho) n8.no rfl) λa ha z=>by
       obtain⟨o,ho⟩:=tb6.mem z;rw[r7.fr a ha]at ho;cases ho
      obtain⟨u1,u2⟩:=jdC hy ok6;have b1:=ok6.tot hm hW;have b2:=u1.tot hm hW;have cmp9:∀kk:Bool->Prop,kk (!decide (pss w.m ys t=t))->cmpU .NotEq (.loc pt) (.loc pl) G9 kk:=λkk hk=>⟨_,_,tb9.du,lb9.du,jcJ _,jcJ _,by rw[jl5];exact hk⟩
      have s9':Sa G G9:=λb o e=>s9 b o (λz=>by
       have:=r1.fr b z;rw[this]at e;cases e) (s8 _ _ (s6 _ _ e))
      by_cases e:pss w.m ys t=t
      ·refine⟨0,by lia,pss w.m ys t,true,.loc pl,_,_,_,_,_,rfl,?_,u1,tb9,s9',s9 _ _ hpg g8,λz=>(nomatch z),λ_=>⟨?_,rfl⟩⟩
       ·exact λkk hk=>cmp9 kk (by rw[decide_eq_true e];exact hk)
       ·rw[e];cases hr6 with
        |stop _=>rfl
        |go n _=>exact absurd e n
      ·have u3:=u2.resolve_left e;refine⟨(95904-tot (pss w.m ys t)).toNat+1,by lia,pss w.m ys t,false,.loc pl,_,_,_,_,_,rfl,?_,u1,tb9,s9',s9 _ _ hpg g8,λ_=>⟨?_,rfl⟩,λz=>(nomatch z)⟩
       ·exact λkk hk=>cmp9 kk (by rw[decide_eq_false e];exact hk)
       ·cases hr6 with
        |stop z=>exact absurd z e
        |go _ b=>exact b
     ·rintro i x acc G7 K hx ⟨bs,rfl,s7,r7⟩ hk _;rw[Yav]at hx;cases es:as[i]? with
      |none=>rw[es]at hx;cases hx
      |some a=>
       rw[es]at hx;have hx:=(Yar hx).symm;subst hx;have hi:i<t.length:=by rw[<- tb6.l];exact(List.getElem?_eq_some_iff.mp es).1
       have g:=s7 _ _ (tb6.ga i a _ es (Yad hi));refine⟨by unfold lsG;rw[s7 _ _ tb6.gp],?_⟩
       simp! only[it_l g];intro p G8 n8;refine hk _ _ ⟨bs++[p],by simp,s7.trans n8.sa,?_⟩
       rw[Ybq,Yad hi];exact r7.add s7 n8
   ·rintro i x acc G4 K hx ⟨rfl,rfl⟩ hk _;rw[Yav]at hx;cases es:w.wt[i]? with
    |none=>rw[es]at hx;cases hx
    |some s=>
     rw[es]at hx;have hx:=(Yar hx).symm;subst hx;obtain⟨sp,x,y,ha,hd,hy'⟩:=wg i s es;refine⟨trivial,?_⟩;simp! only[Wd.plan,ix_t (jbE _ _ _),ix_t (atM ha.s),Spn.u,jip];refine jgh (xs:=w.xs) ha hP ow.p6 hd ?_;simp! only[];refine⟨by decide,hk _ _ ⟨rfl,?_⟩⟩
     rw[Ybq,hy',YaL];rfl
  ·rintro i x ς G3 K hx ⟨o8,o9,o10,rfl,ok3,tb3,s3⟩ hk;rw[Yav]at hx;cases es:w.gv[i]? with
   |none=>rw[es]at hx;cases hx
   |some g=>
    rw[es]at hx;have hx:=(Yar hx).symm;subst hx;have og:=ow.gg g (Yaq es);obtain⟨a1,row1,c1,_,_,_,g1,x1⟩:=tb3.ix ok3 og.t og.w;refine⟨trivial,?_⟩;simp! only[gU,ix_l tb3.gp (atL c1),ix_l g1 x1,jj0];refine⟨trivial,jjG tb3 ok3 og.t og.w c1 λG4 h4 s4=>?_⟩;refine hk _ _ ⟨_,_,_,rfl,?_,?_,s4.sa r1.fr s3⟩
    ·rw[jgs es];exact(jgm og ok3).1
    ·rw[jgs es];exact h4
 ·rintro i x acc G1 K hx ⟨as,rfl,s1,r1⟩ hk _;obtain⟨hi,rfl⟩:=jaG hx;refine⟨trivial,?_⟩;simp! only[Wd.plan,ix_t (jg9 _ _),Yaa];refine⟨by decide,λp G2 n2=>⟨_,n2.at,by lia,by lia,?_,λp3 G3 n3=>?_⟩⟩
  ·exact Yag (show(0+1)*w.xs.length<=8 by lia) (by decide)
  ·rw[jnN]at n3;refine hk _ _ ⟨as++[p3],by simp,(s1.trans n2.sa).trans n3.sa,?_⟩
   have:=(r1.sa n2.sa).add (s1.trans n2.sa) n3;have e:zer (i+1) w.xs.length=zer i w.xs.length++[Yab w.xs.length 0]:=by unfold zer;rw[List.replicate_succ']
   rw[e];exact this

mutual
inductive Th (G:Gp):U->PyData->Prop
 |non:Th G .non .none
 |bl (b:Bool):Th G (.bl b) (.bool b)
 |int (i:Int):Th G (.int i) (.int i)
 |str (x:Str):Th G (.str x) (.str x)
 |tup {us:List U} {ds:List PyData}:Ths G us ds->Th G (.tup us) (.tuple ds)
 |lst {a:Addr} {us:List U} {ds:List PyData}:G a=some (.lst us)->Ths G us ds->Th G (.loc a) (.list ds)
 |dic {a:Addr}:G a=some (.dK [])->Th G (.loc a) (.dict [])
inductive Ths (G:Gp):List U->List PyData->Prop
 |nil:Ths G [] []
 |cons {u:U} {d:PyData} {us:List U} {ds:List PyData}:Th G u d->Ths G us ds->Ths G (u::us) (d::ds)
end
mutual
theorem Th.du {G:Gp}:∀{u:U} {d:PyData},Th G u d->DU G u d
 |_,_,.non=>.non
 |_,_,.bl b=>.bl b
 |_,_,.int i=>.int i
 |_,_,.str x=>.str x
 |_,_,.tup h=>.tup (Ths.dus h)
 |_,_,.lst g h=>.lst (by unfold lsG;rw[g]) (Ths.dus h)
 |_,_,.dic g=>.dic g
theorem Ths.dus {G:Gp}:∀{us:List U} {ds:List PyData},Ths G us ds->DUs G us ds
 |_,_,.nil=>.nil
 |_,_,.cons a b=>.cons (Th.du a) (Ths.dus b)
end
mutual
theorem Th.mono {G G':Gp}{f c:Addr}(hf:Fd G f c)(s:Sm f G G'):∀{u:U} {d:PyData},Th G u d->Th G' u d
 |_,_,.non=>.non
 |_,_,.bl b=>.bl b
 |_,_,.int i=>.int i
 |_,_,.str x=>.str x
 |_,_,.tup h=>.tup (Ths.mono hf s h)
 |_,_,.lst g h=>.lst (s _ _ (λe=>by obtain⟨ns,x,y,z,h1,_⟩:=hf.ex;rw[e,h1]at g;cases g) g) (Ths.mono hf s h)
 |_,_,.dic g=>.dic (s _ _ (λe=>by obtain⟨ns,x,y,z,h1,_⟩:=hf.ex;rw[e,h1]at g;cases g) g)
theorem Ths.mono {G G':Gp}{f c:Addr}(hf:Fd G f c)(s:Sm f G G'):∀{us:List U} {ds:List PyData},Ths G us ds->Ths G' us ds
 |_,_,.nil=>.nil
 |_,_,.cons a b=>.cons (Th.mono hf s a) (Ths.mono hf s b)
end
mutual
theorem Th.sa {G G':Gp}(s:Sa G G'):∀{u:U} {d:PyData},Th G u d->Th G' u d
 |_,_,.non=>.non
 |_,_,.bl b=>.bl b
 |_,_,.int i=>.int i
 |_,_,.str x=>.str x
 |_,_,.tup h=>.tup (Ths.sa s h)
 |_,_,.lst g h=>.lst (s _ _ g) (Ths.sa s h)
 |_,_,.dic g=>.dic (s _ _ g)
theorem Ths.sa {G G':Gp}(s:Sa G G'):∀{us:List U} {ds:List PyData},Ths G us ds->Ths G' us ds
 |_,_,.nil=>.nil
 |_,_,.cons a b=>.cons (Th.sa s a) (Ths.sa s b)
end

theorem Ths.get  : ∀{us } {ds } {i:Nat} {u },Ths G us ds->us[i]?=some u->∃d,ds[i]?=some d/\Th G u d
 |_,_,_,_,.nil,e=>by simp at e
 |_,_,0,_,.cons a _,e=>by simp at e;subst e;exact⟨_,rfl,a⟩
 |_,_,i+1,u,.cons _ b,e=>by
  obtain⟨d,e1,h⟩:=Ths.get (i:=i) (u:=u) b (by simpa using e)
  exact⟨d,by simpa using e1,h⟩
mutual
theorem joW {G:Gp}:∀{u:U},bare u=true->Th G u (pd u)
 |.non,_=>.non
 |.bl b,_=>.bl b
 |.int i,_=>.int i
 |.str x,_=>.str x
 |.tup us,h=>.tup (jjE (show bares us=true from h))
 |.loc _,h=>by cases h
 |.fn _,h=>by cases h
 |.ty _,h=>by cases h
 |.exc _ _,h=>by cases h
 |.own _,h=>by cases h
 |.clo _ _,h=>by cases h
theorem jjE {G:Gp}:∀{us:List U},bares us=true->Ths G us (pds us)
 |[],_=>.nil
 |u::us,h=>by
  have h:(bare u&&bares us)=true:=h
  rw[Yao]at h
  exact .cons (joW h.1) (jjE h.2)
end
noncomputable def kdD  : PyData->String
 |.none => "NoneType"
 |.bool _ => "bool"
 |.int _ => "int"
 |.str _ => "str"
 |.tuple _ => "tuple"
 |.list _ => "list"
 |.dict _ => "dict"
def isD  (d:PyData)(t:String):Bool:=kdD d==t||(kdD d == "bool" && t == "int")
def joV     (h:Th G u d):tyN u G=some (kdD d):=by
 cases h with
 |lst g _=>unfold tyN;dsimp only;rw[g];rfl
 |dic g=>unfold tyN;dsimp only;rw[g];rfl
 |_=>rfl
def jaQ       (h:Th G u d)(ht:t∈["bool", "int", "str", "list", "tuple", "dict"]):jg0 [u,.ty t] G Q=Q (.bl (isD d t)) G:=by
 unfold jg0 isiU;dsimp only;rw[joV h];dsimp only;rw[if_pos ht];rfl
noncomputable def isI  : U->Bool
 |.int _=>true
 |_=>false
noncomputable def inI  (lo hi:Int):U->Bool
 |.int i=>decide (lo<=i)&&decide (i<=hi)
 |_=>false
noncomputable def nnB  : U->Bool
 |.int i=>decide (0<=i)
 |_=>false
def rowB  (W:Nat):U->Bool
 |.tup us=>decide (us.length=W)&&us.all nnB
 |_=>false
def tabB  (W m:Nat):U->Bool
 |.tup us=>decide (us.length=m)&&us.all (rowB W)
 |_=>false

def jed  (h:Th G u d)(q:Q (.bl (isI u)) G):jab T (k+1) jbz [u] G Q X:=by
 refine⟨rfl,?_⟩;simp! only[jdV,jaj,Yab,jaQ h (show "int" ∈ ["bool", "int", "str", "list", "tuple", "dict"] by decide),jaQ h (show "bool" ∈ ["bool", "int", "str", "list", "tuple", "dict"] by decide)]
 cases h<;>exact q
def jhM   (h:Th G u d)(q:Q (.bl (inI lo hi u)) G):jab T (k+2) jc9 [u,.int lo,.int hi] G Q X:=by
 refine⟨rfl,?_⟩;simp! only[jdq,jaj,Yab];refine jed h ?_;simp! only[];cases h with
 |int i=>
  rw[show isI (.int i)=true from rfl,if_pos rfl];simp! only[];by_cases c:lo<=i
  ·rw[if_pos (decide_eq_true c)];have:inI lo hi (.int i)=decide (i<=hi):=by show(decide (lo<=i)&&_)=_;rw[decide_eq_true c];rfl
   rw[this]at q;exact q
  ·rw[if_neg (by simpa using c)]
   have:inI lo hi (.int i)=false:=by show(decide (lo<=i)&&_)=_;rw[decide_eq_false c];rfl
   rw[this]at q;exact q
 |_=>exact q
def jbp  (h:Th G u d)(q:Q (.bl (isI u)) G):jab T (k+1) jaH [u] G Q X:=by
 refine⟨rfl,?_⟩;simp! only[jbO,jaj,Yab,jaQ h (show "int" ∈ ["bool", "int", "str", "list", "tuple", "dict"] by decide),jaQ h (show "bool" ∈ ["bool", "int", "str", "list", "tuple", "dict"] by decide)]
 cases h<;>exact q
theorem jca  {α:Type} f:∀l:List α,jdu (l.map λx=>U.bl (f x))=some (l.map f)
 |[]=>rfl
 |a::l=>by
  show(match jdu (l.map λx=>U.bl (f x))with|some bs=>some (f a::bs)|none=>none)=_
  rw[jca f l];rfl
theorem all_map  {α:Type} f (l:List α):(l.map f).all id=l.all f:=by rw[List.all_map];rfl
def jfn  {W:Nat}(h:Th G u d)(hl:∀us,u=.tup us->us.length<=200)(q:∀G',Sa G G'->Q (.bl (rowB W u)) G'):jab T (k+2) jb2 [u,.int W] G Q X:=by
 refine⟨rfl,?_⟩;simp! only[jb8,jaj,Yab,jaQ h (show "tuple" ∈ ["bool", "int", "str", "list", "tuple", "dict"] by decide)]
 cases h with
 |@tup us ds hs=>
  rw[show isD (.tuple ds) "tuple" = true from rfl,if_pos rfl];simp! only[];by_cases c:us.length=W
  ·have e:rowB W (.tup us)=us.all nnB:=by show(decide _&&_)=_;rw[decide_eq_true c];rfl
   rw[if_neg (by simp[c])]
   refine⟨Yag (hl us rfl) (by decide),je6 (λx=>.bl (nnB x)) trivial (λx hx K hK=>?_) λp G1 n1=>?_⟩
   ·obtain⟨n,hn⟩:=List.mem_iff_getElem?.mp hx;obtain⟨_,_,hx'⟩:=hs.get hn;refine jed hx' ?_;cases hx'<;>exact hK
   ·show allU [.loc p] G1 Q;unfold allU;dsimp only;rw[n1.at];dsimp only;rw[YbG,jca];dsimp only;rw[all_map,<- e];exact q _ n1.sa
  ·have e:rowB W (.tup us)=false:=by show(decide _&&_)=_;rw[decide_eq_false c];rfl
   rw[if_pos (by simp only[Ybs,decide_eq_false_iff_not];lia)]
   rw[<- e];exact q _ Sa.refl
 |_=>exact q _ Sa.refl
def shD  : U->Prop
 |.tup us=>us.length<=200/\∀x∈us,∀vs,x=.tup vs->vs.length<=200
 |_=>True
def jfq  {W m:Nat}(h:Th G u d)(hl:shD u)(q:∀G',Sa G G'->Q (.bl (tabB W m u)) G'):jab T (k+3) jdH [u,.int W,.int m] G Q X:=by
 refine⟨rfl,?_⟩;simp! only[jdW,jaj,Yab,jaQ h (show "tuple" ∈ ["bool", "int", "str", "list", "tuple", "dict"] by decide)]
 cases h with
 |@tup us ds hs=>
  rw[show isD (.tuple ds) "tuple" = true from rfl,if_pos rfl];simp! only[];by_cases c:us.length=m
  ·have e:tabB W m (.tup us)=us.all (rowB W):=by show(decide _&&_)=_;rw[decide_eq_true c];rfl
   rw[if_neg (by simp[c])]
   refine⟨Yag hl.1 (by decide),jal (λi acc G'=>Sa G G'/\acc=(us.take i).map λx=>.bl (rowB W x)) ?_ ?_ ⟨Sa.refl,rfl⟩⟩
   ·rintro acc G1 ⟨s1,ea⟩;refine⟨trivial,λp G2 n2=>?_⟩;show allU [.loc p] G2 Q;unfold allU;dsimp only;rw[n2.at];dsimp only;rw[ea,Ybg,jca];dsimp only;rw[all_map,<- e];exact q _ (s1.trans n2.sa)
   ·rintro i x acc G1 K hx ⟨s1,ea⟩ hk _;refine⟨trivial,?_⟩;obtain⟨_,_,hx'⟩:=hs.get hx;refine jfn (hx'.sa s1) (λvs ev=>hl.2 x (Yaq hx) vs ev) λG2 s2=>?_;refine hk _ _ ⟨s1.trans s2,?_⟩;rw[ea,Ybq,hx];simp
  ·have e:tabB W m (.tup us)=false:=by show(decide _&&_)=_;rw[decide_eq_false c];rfl
   rw[if_pos (by simp only[Ybs,decide_eq_false_iff_not];lia)]
   rw[<- e];exact q _ Sa.refl
 |_=>exact q _ Sa.refl

structure TbN (m W:Nat)(t:Tb):Prop where
 l:t.length=m
 w:∀x∈t,x.length=W
 n:∀x∈t,∀z∈x,0<=z
def jiP    (h:rowB W u=true):∃x ,u=jag x/\x.length=W/\∀z∈x,0<=z:=by
 have go:∀us:List U,us.all nnB=true->∃x:List Int,us=x.map .int/\∀z∈x,0<=z:=by
  intro us
  induction us with
  |nil=>exact λ_=>⟨[],rfl,λ_ h=>(nomatch h)⟩
  |cons u us ih=>
   intro h;rw[Ybl,Yao]at h;obtain⟨x,rfl,hx⟩:=ih h.2;cases u with
   |int i=>exact⟨i::x,rfl,λz hz=>by
     rcases Yau.mp hz with rfl|hz
     ·exact of_decide_eq_true h.1
     ·exact hx z hz⟩
   |_=>cases h.1
 cases u with
 |tup us=>
  have h:(decide (us.length=W)&&us.all nnB)=true:=h;rw[Yao,decide_eq_true_eq]at h;obtain⟨x,rfl,hx⟩:=go us h.2;exact⟨x,rfl,by simpa using h.1,hx⟩
 |_=>cases h
def jjI    (h:tabB W m u=true):∃t ,u=tbU t/\TbN m W t:=by
 have go:∀us:List U,us.all (rowB W)=true->∃t:Tb,us=t.map jag/\∀x∈t,x.length=W/\∀z∈x,0<=z:=by
  intro us
  induction us with
  |nil=>exact λ_=>⟨[],rfl,λ_ h=>(nomatch h)⟩
  |cons u us ih=>
   intro h;rw[Ybl,Yao]at h;obtain⟨t,rfl,ht⟩:=ih h.2;obtain⟨x,rfl,hl,hx⟩:=jiP h.1;exact⟨x::t,rfl,λy hy=>by
    rcases Yau.mp hy with rfl|hy
    ·exact⟨hl,hx⟩
    ·exact ht y hy⟩
 cases u with
 |tup us=>
  have h:(decide (us.length=m)&&us.all (rowB W))=true:=h;rw[Yao,decide_eq_true_eq]at h;obtain⟨t,rfl,ht⟩:=go us h.2;exact⟨t,rfl,by simpa using h.1,λx hx=>(ht x hx).1,λx hx=>(ht x hx).2⟩
 |_=>cases h
def TbOk.tn    (h:TbOk m W t):TbN m W t:=⟨h.1,h.2,λx hx z hz=>(h.3 x hx z hz).1⟩

def TbN.row  (h:TbN m W t)(hr:r<m):∃x,t[r]?=some x/\t.getD r []=x/\x.length=W:=by
 have hr:r<t.length:=by rw[h.l];exact hr
 exact⟨t[r],Yad hr,by rw[YaD,Yad hr];rfl,h.w _ (YaQ hr)⟩
def TbN.ix  (h:TbN m W t)(hr:r<m)(hc:c<W){kk:K1}(q:kk (.int (gt t r c)) G):ixU (tbU t) (.int r) G λy G2=>ixU y (.int c) G2 kk:=by
 obtain⟨x,e1,e2,e3⟩:=h.row hr;have hc:c<x.length:=by lia
 show(match atI (t.map jag) (r:Int)with|some u=>(λy G2=>ixU y (.int c) G2 kk) u G|none=>False)
 rw[atM e1];show(match atI (x.map U.int) (c:Int)with|some u=>kk u G|none=>False)
 rw[atM (Yad hc)];have:gt t r c=x[c]:=by unfold gt;rw[e2,YaD,Yad hc];rfl
 rw[<- this];exact q
def spt  (t:Tb)(W:Nat)(r:Nat):List (Nat×Nat):=((YaC W).filter λc=>decide (0<gt t r c)).map λc=>(r,c)
def spts  (t:Tb)(m W:Nat):List (Nat×Nat):=(YaC m).flatMap (spt t W)
noncomputable def spU  (p:Nat×Nat):U:=.tup [.int p.1,.int p.2]
def plU  (t:Tb)(p:Nat×Nat):U:=.tup [.int p.2,.int p.1,.int (gt t p.1 p.2)]

theorem jgD     : ∀{xs } (I:Nat->List U->Gp->Prop) (_:∀acc G,I xs.length acc G->ok G/\k acc G)
  (_:∀i x acc G K ,xs[i]?=some x->I i acc G->(∀acc' G',I (i+1) acc' G'->K acc' G')->ok G/\b x acc G K) {acc } {G } (_:I 0 acc G),jfK ok b xs acc G k
 |[],_,h0,_,_,_,h=>h0 _ _ h
 |x::_,I,h0,h1,_,_,h=>h1 0 x _ _ _ rfl h λ_ _ h'=>jgD (λi=>I (i+1)) h0 (λi y a G K e hi hk=>h1 (i+1) y a G K e hi hk) h'

def spj  (t:Tb)(r j:Nat):List (Nat×Nat):=((YaC j).filter λc=>decide (0<gt t r c)).map λc=>(r,c)
def jcK   : spj t r (j+1)=spj t r j++(if 0<gt t r j then [(r,j)] else []):=by
 unfold spj;rw[YbF,YbQ,YaL];by_cases c:0<gt t r j
 ·rw[if_pos c];simp[c]
 ·rw[if_neg c];simp[c]
def jcW   : spts t (r+1) W=spts t r W++spj t r W:=by
 unfold spts;rw[YbF,List.flatMap_append];simp[spt,spj]
def jht   : (spj t r j).length<=j:=by
 unfold spj;rw[Yaa];exact Yag (List.length_filter_le _ _) (by simp)
theorem jf8  : ∀{r },(spts t r W).length<=r*W
 |0=>by simp[spts]
 |r+1=>by
  rw[jcW,Yaw,Nat.succ_mul];exact YeL jf8 jht
def jaS   (hr:r<=12)(hW:W<=8):(spts t r W).length<=96:=Yag jf8 (Ydw hr hW)
def jbF  (h:TbN m W t)(hm:m<=12)(hW:W<=8)(q:∀p G',G' p=some (.lst ((spts t m W).map (plU t)))->Sa G G'->Q (.loc p) G'):jab T (k+1) jbe [tbU t] G Q X:=by
 refine⟨rfl,?_⟩;simp! only[jb7,jaj,Yab];show jfK _ _ (jcp 0 (t.map jag)) [] G _;refine jgD (λi acc G'=>G'=G/\acc=(spts t i W).map (plU t)) ?_ ?_ ⟨rfl,rfl⟩
 ·rintro acc G1 ⟨rfl,rfl⟩;rw[ja0,Yaa,h.l];exact⟨trivial,λp G2 n2=>q p G2 n2.at n2.sa⟩
 ·rintro i x acc G1 K hx ⟨rfl,rfl⟩ hk;refine⟨trivial,?_⟩;obtain⟨y,hy,rfl⟩:=jbg hx;have hi:i<m:=by
   have:=(List.getElem?_eq_some_iff.mp hy).1;rw[Yaa,h.l]at this;exact this
  obtain⟨row,e1,e2,e3⟩:=h.row hi;rw[Yav,e1]at hy;cases hy;rw[YbI];simp! only[];refine⟨trivial,?_⟩;show _/\jb9 _ _ (jcp 0 (row.map .int)) _ _ _;refine⟨?_,jal (λj acc G'=>G'=G1/\acc=(spts t i W).map (plU t)++(spj t i j).map (plU t)) ?_ ?_ ⟨rfl,by simp[spj]⟩⟩
  ·rw[ja0,Yaa,Yaa,e3];have:=jaS (t:=t) (r:=i) (W:=W) (by lia) hW
   exact Yag (show _<=104 by lia) (by decide)
  ·rintro acc G2 ⟨rfl,rfl⟩;rw[ja0,Yaa,e3];refine⟨trivial,hk _ _ ⟨rfl,?_⟩⟩;rw[jcW,YaL]
  ·rintro j x acc G2 K2 hx2 ⟨rfl,rfl⟩ hs hn;refine⟨trivial,?_⟩;obtain⟨y,hy,rfl⟩:=jbg hx2;have hj:j<row.length:=by
    have:=(List.getElem?_eq_some_iff.mp hy).1;rw[Yaa]at this;exact this
   rw[Yav,Yad hj]at hy;cases hy;have eg:gt t i j=row[j]:=by unfold gt;rw[e2,YaD,Yad hj];rfl
   rw[YbI];simp! only[];refine⟨trivial,?_⟩;show(if decide (0<row[j])=true then _ else _)
   by_cases c:0<row[j]
   ·rw[if_pos (decide_eq_true c)];refine⟨by decide,hs _ _ ⟨rfl,?_⟩⟩
    rw[jcK,if_pos (by rw[eg];exact c),YaL,YcT,<- eg]
    rfl
   ·rw[if_neg (by simpa using c)]
    refine hn _ ⟨rfl,?_⟩;rw[jcK,if_neg (by rw[eg];exact c)]
    simp

def spB  (m:Nat)(t:Tb)(y:Wy):Bool:=(YaC (m-y.p)).all λi=>decide (gt t i y.o-y.b<=gt t (i+y.p) y.t)

def jee  (a:At ss bs s sp x y)(hP:0<P)(h6:P<=600)(dl:dif sp x y<P)(ht:TbN m W t)(hm:m<=12)(ho:sp.o<W)(htt:sp.t<W)(np:(wyOf P s sp x y).p<=20000)(q:∀G',Sa G G'->Q (.bl (spB m t (wyOf P s sp x y))) G') :
  jab T (k+3) jcu [jaq xs ss,.int P,jag bs,.int m,tbU t,.int s] G Q X:=by
 refine⟨rfl,?_⟩;simp! only[jcz,jaj,Yab,jaq,ix_t (jbE _ _ _),ix_t (atM a.s)];rw[show sp.u=.tup [.str sp.w,.int sp.o,.int sp.t,.int sp.lo,.int sp.hi]from rfl];simp! only[];refine⟨trivial,?_⟩;refine jdE (k:=k) (xs:=xs) a hP h6 dl ?_;simp! only[];refine jct (k:=k) (xs:=xs) a hP ?_;simp! only[];have es:spB m t (wyOf P s sp x y)=(YaC (m-(wyOf P s sp x y).p)).all λi=>decide (gt t i sp.o-dif sp x y%P<=gt t (i+(wyOf P s sp x y).p) sp.t):=rfl;obtain⟨n,hn⟩:∃n,n=(wyOf P s sp x y).p:=⟨_,rfl⟩;rw[<- hn]at np es ⊢;refine⟨by lia,by lia,?_⟩
 have en:((m:Int)-(n:Int)).toNat=m-n:=by lia
 rw[en];refine⟨by rw[jao];exact Yag (Nat.sub_le _ _) (Yag hm (by decide)),?_⟩
 refine jal (λi acc G'=>G'=G/\acc=(YaC i).map λi=>U.bl (decide (gt t i sp.o-dif sp x y%P<=gt t (i+n) sp.t))) ?_ ?_ ⟨rfl,rfl⟩
 ·rintro acc G1 ⟨rfl,ea⟩;refine⟨trivial,λp G2 n2=>?_⟩;show allU [.loc p] G2 Q;unfold allU;dsimp only;rw[n2.at];dsimp only;rw[ea,jao,jca];dsimp only;rw[all_map,<- es];exact q _ n2.sa
 ·rintro i z acc G1 K hx ⟨rfl,ea⟩ hk _;obtain⟨hi,rfl⟩:=jaG hx;refine⟨trivial,?_⟩;simp! only[];rw[show((i:Int)+(n:Int))=((i+n:Nat):Int) by lia]
  refine ht.ix (r:=i+n) (c:=sp.t) (by lia) htt ?_
  simp! only[];refine ht.ix (r:=i) (c:=sp.o) (by lia) ho ?_
  simp! only[];refine hk _ _ ⟨rfl,?_⟩;rw[ea,YbF,YaL];rfl

def lg  (w:Wd)(s:Nat):Wy:=match w.ss[s]? with
 |some sp=>wyOf w.P s sp (w.bs.getD sp.o 0) (w.bs.getD sp.t 0)
 |none=>⟨s,0,0,0,0⟩
noncomputable def ledZ  (w:Wd):List U->Nat->Int->Int->Option (Nat×Int×Int)
 |[],a,b,c=>some (a,b,c)
 |.int z::us,a,b,c=>if 0<=z/\z.toNat∈w.wt/\(lg w z.toNat).o=a then ledZ w us (lg w z.toNat).t (b+(lg w z.toNat).p) (c-(lg w z.toNat).b) else none
 |_::_,_,_,_=>none
def jh6      (q:k (decide (0<=z/\z.toNat∈ns))):inU (.int z) (jat ns) G k:=by
 have e:((ns.map λn:Nat=>U.int (n:Int)).any λy=>eqF y (.int z))=decide (0<=z/\z.toNat∈ns):=by
  rw[Ybu,List.any_eq_true,decide_eq_true_iff];constructor
  ·rintro⟨u,hu,h⟩;obtain⟨n,hn,rfl⟩:=List.mem_map.mp hu;have:(n:Int)=z:=by simpa[eqF]using h
   exact⟨by lia,by rw[<- this];exact hn⟩
  ·rintro⟨h0,h1⟩;exact⟨_,List.mem_map.mpr ⟨_,h1,rfl⟩,by simp[eqF];lia⟩
 unfold jat inU;dsimp only;exact⟨rfl,by simp[flat],by rw[e];exact q⟩
def jeS    (ow:w.Ok)(hw:jaC w.ss w.bs w.P w.wt ys)(hs:s∈w.wt):∃sp x y,At w.ss w.bs s sp x y/\dif sp x y<w.P/\lg w s=wyOf w.P s sp x y/\(lg w s).Ok w.xs.length:=by
 obtain⟨i,hi⟩:=List.mem_iff_getElem?.mp hs;obtain⟨sp,x,y,a,d,e⟩:=(jd2 hw).2 i s hi;have el:lg w s=wyOf w.P s sp x y:=by
  unfold lg;rw[a.s];dsimp only;rw[show w.bs.getD sp.o 0=x by rw[YaD,a.x];rfl,show w.bs.getD sp.t 0=y by rw[YaD,a.y];rfl]
 refine⟨sp,x,y,a,d,el,?_⟩;rw[el];exact jew (by have:=ow.p1;lia) ow.p6 ow.so ow.bb hw _ (Yaq e)
noncomputable def oU  : Option (Nat×Int×Int)->U
 |none=>.non
 |some (a,b,c)=>.tup [.int a,.int b,.int c]

def jhN  (ow:w.Ok)(hw:jaC w.ss w.bs w.P w.wt ys)(hu:Ths G us ds){a:Nat}(q:Q (oU (ledZ w us a b c)) G) :
  jab T (k+3) jgk [jaq w.xs w.ss,.int w.P,jag w.bs,jat w.wt,.tup [.int a,.int b,.int c],.tup us] G Q X:=by
 have p1:=ow.p1;refine⟨rfl,?_⟩;simp! only[jgB,jaj,Yab];refine⟨trivial,?_⟩;refine jau (λi ς G'=>G'=G/\∃(a':Nat) (b' c':Int) (o9:Option U),ledZ w us a b c=ledZ w (us.drop i) a' b' c'/\ς=[some (jaq w.xs w.ss),some (.int w.P),some (jag w.bs),some (jat w.wt),some (.tup [.int a,.int b,.int c]),some (.tup us),some (.int a'),some (.int b'),some (.int c'),o9]) ?_ ?_ ⟨rfl,a,b,c,_,by rw[Yds],rfl⟩
 ·rintro ς G1 ⟨rfl,a',b',c',o9,e,rfl⟩;refine⟨trivial,?_⟩;simp! only[];rw[e,Ycz]at q;exact⟨by decide,q⟩
 ·rintro i z ς G1 K hx ⟨rfl,a',b',c',o9,e,rfl⟩ hk;refine⟨trivial,?_⟩;obtain⟨d,_,hz⟩:=hu.get hx;have hd:us.drop i=z::us.drop (i+1):=by
   obtain⟨hi,ez⟩:=List.getElem?_eq_some_iff.mp hx;rw[Ybk hi,ez]
  rw[hd]at e;simp! only[];refine jed hz ?_;simp! only[];have no:(∀z',z=.int z'->¬(0<=z'/\z'.toNat∈w.wt/\(lg w z'.toNat).o=a'))->Q .non G1:=by
   intro h;have:ledZ w us a b c=none:=by
    rw[e];cases z with
    |int z'=>unfold ledZ;rw[if_neg (h z' rfl)]
    |_=>rfl
   rw[this]at q;exact q
  cases hz with
  |int z'=>
   rw[show isI (.int z')=true from rfl,if_pos rfl];simp! only[];refine jh6 ?_;by_cases hc:0<=z'/\z'.toNat∈w.wt
   ·obtain⟨sp,x,y,at_,dl,el,ok⟩:=jeS ow hw hc.2;obtain⟨s,rfl⟩:∃s:Nat,z'=s:=⟨z'.toNat,by lia⟩
    rw[Ya7]at at_ el ok hc;have hcd:decide (0<=(s:Int)/\(s:Int).toNat∈w.wt)=true:=by simpa using hc.2
    rw[hcd,if_pos rfl];simp! only[jaq,ix_t (jbE _ _ _),ix_t (atM at_.s)];rw[show sp.u=.tup [.str sp.w,.int sp.o,.int sp.t,.int sp.lo,.int sp.hi]from rfl];simp! only[ix_t (jbE _ _ _)];by_cases h3:sp.o=a'
    ·subst h3;rw[if_neg (by simp),ix_t (jjv _ _ _ _)]
     refine jdE (k:=k) (xs:=w.xs) at_ (by lia) ow.p6 dl ?_
     show jab T (k+2) jbf [jaq w.xs w.ss,.int w.P,jag w.bs,.int (s:Int)] G1 _ _;refine jct (k:=k) (xs:=w.xs) at_ (by lia) ?_
     refine hk _ _ ⟨rfl,sp.t,b'+((wyOf w.P s sp x y).p:Int),c'-(wyOf w.P s sp x y).b,_,?_,rfl⟩;rw[e];show(if _ then _ else _)=_
     rw[Ya7,if_pos ⟨by lia,hc.2,by rw[el];rfl⟩,el]
     rfl
    ·rw[if_pos (by simp;lia)]
     refine no λz' hz'=>?_;cases hz';rw[Ya7];rintro⟨_,_,h⟩;rw[el]at h;exact h3 h
   ·rw[show decide (0<=z'/\z'.toNat∈w.wt)=false from decide_eq_false hc,if_neg Yaj];refine no λz' hz'=>?_;cases hz';exact λh=>hc ⟨h.1,h.2.1⟩
  |_=>exact no λz' h=>(nomatch h)
def chB  (w:Wd)(t:Tb)(p:Nat×Nat):U->Bool
 |.tup [.int g,.tup us]=>decide (0<=g)&&decide (us.length<=100)&&match w.gv[g.toNat]? with
  |some v=>decide (ledZ w us v.1 v.2.1 v.2.2=some (p.2,(p.1:Int),gt t p.1 p.2))
  |none=>false
 |_=>false
def jma    (q:φ (decide (a=a'/\b=b'/\c=c'))):eqU (.tup [.int a,.int b,.int c]) (.tup [.int a',.int b',.int c']) G φ:=by
 have hs:∀a r c:Int,Sml 1 (.tup [.int a,.int r,.int c]):=λa r c=>Sml.tup λu hu=>by
  simp only[Yau,Yam,or_false]at hu;rcases hu with rfl|rfl|rfl<;>exact Sml.int _
 refine⟨_,_,jjl (hs _ _ _).b,jjl (hs _ _ _).b,(hs _ _ _).small (by decide),(hs _ _ _).small (by decide),?_⟩
 have:YaJ (pd (.tup [.int a,.int b,.int c])) (pd (.tup [.int a',.int b',.int c']))=decide (a=a'/\b=b'/\c=c'):=by
  rw[Ybu,decide_eq_true_iff];simp[pd,pds,YaJ,Yb0]
 rw[this];exact q
def o_eq  {a:Nat}(q:φ (decide (o=some (a,r,c)))):eqU (oU o) (.tup [.int a,.int r,.int c]) G φ:=by
 cases o with
 |none=>
  have hs:Sml 1 (.tup [.int a,.int r,.int c]):=Sml.tup λu hu=>by
   simp only[Yau,Yam,or_false]at hu;rcases hu with rfl|rfl|rfl<;>exact Sml.int _
  exact⟨_,_,.non,jjl hs.b,Sml.non.small (by decide),hs.small (by decide),q⟩
 |some p=>
  obtain⟨a',r',c'⟩:=p;refine jma ?_;rw[show decide ((a':Int)=(a:Int)/\r'=r/\c'=c)=decide (some (a',r',c')=some (a,r,c)) by
   rw[Ybu,decide_eq_true_iff,decide_eq_true_iff];simp
   intros
   lia]
  exact q


def jnX    (e:eqQ x y G φ=eqU x y G φ)(h:eqU x y G φ):cmpU .Eq x y G φ:=by show eqQ x y G φ;rw[e];exact h
def jfr  (ow:w.Ok)(hw:jaC w.ss w.bs w.P w.wt ys)(h:Th G u d)(q:Q (.bl (chB w t p u)) G) :
  jab T (k+4) jdI [jaq w.xs w.ss,.int w.P,jag w.bs,jat w.wt,.tup (w.gv.map gU),plU t p,u] G Q X:=by
 refine⟨rfl,?_⟩;simp! only[jdX,jaj,Yab,jaQ h (show "tuple" ∈ ["bool", "int", "str", "list", "tuple", "dict"] by decide)]
 cases h with
 |@tup us ds hs=>
  rw[show isD (.tuple ds) "tuple" = true from rfl,if_pos rfl];simp! only[];by_cases c:us.length=2
  ·rw[if_neg (by simp[c])]
   obtain⟨u0,u1,rfl⟩:∃u0 u1,us=[u0,u1]:=by
    match us,c with
    |[a,b],_=>exact⟨a,b,rfl⟩
   simp! only[];refine⟨trivial,?_⟩;obtain⟨d0,_,h0⟩:=hs.get (i:=0) rfl;obtain⟨d1,_,h1⟩:=hs.get (i:=1) rfl;refine jhM (k:=k+1) h0 ?_
   simp! only[];rw[Yaa];have e0:∀b,b=false->chB w t p (.tup [u0,u1])=b->Q (.bl false) G:=λb hb e=>by rw[e,hb]at q;exact q
   cases h0 with
   |int g=>
    by_cases hg:0<=g/\g<=(w.gv.length:Int)-1
    ·rw[show inI 0 ((w.gv.length:Int)-1) (.int g)=true by simp[inI,hg],if_pos rfl,jaQ h1 (show "tuple" ∈ ["bool", "int", "str", "list", "tuple", "dict"] by decide)]
     obtain⟨n,rfl⟩:∃n:Nat,g=n:=⟨g.toNat,by lia⟩
     obtain⟨v,hv⟩:∃v,w.gv[n]?=some v:=⟨_,Yad (by lia)⟩
     cases h1 with
     |@tup vs es hv1=>
      rw[show isD (.tuple es) "tuple" = true from rfl];simp! only[];rw[show ∀φ:U->Prop,glU T.gs 0 φ=φ (.int 100)from λ_=>rfl];simp! only[];have ec:chB w t p (.tup [.int (n:Int),.tup vs])=(decide (vs.length<=100)&&decide (ledZ w vs v.1 v.2.1 v.2.2=some (p.2,(p.1:Int),gt t p.1 p.2))):=by
       unfold chB;dsimp only;rw[Ya7,hv,decide_eq_true (YdU n)];rfl
      by_cases hl:vs.length<=100
      ·rw[if_neg (by simp;lia),ix_t (atM hv)]
       refine jhN (k:=k) ow hw hv1 ?_;rw[ec,decide_eq_true hl,Bool.true_and]at q;unfold plU;cases ez:ledZ w vs v.1 v.2.1 v.2.2 with
       |none=>
        rw[ez]at q;exact jnX rfl (o_eq q)
       |some z=>
        obtain⟨z1,z2,z3⟩:=z;rw[ez]at q;exact jnX rfl (o_eq q)
      ·rw[if_pos (by simp;lia)]
       exact e0 _ (by rw[decide_eq_false hl];rfl) ec
     |_=>exact e0 _ rfl rfl
    ·rw[show inI 0 ((w.gv.length:Int)-1) (.int g)=false by simp[inI];lia,if_neg Yaj,if_pos (show(!false)=true from rfl)]
     refine e0 _ rfl ?_;unfold chB;split
     ·rename_i g' us' hh;cases hh;by_cases h0:0<=g
      ·rw[Yb1 (by lia)]
       exact YeC _
      ·rw[decide_eq_false h0];rfl
     ·rfl
   |_=>exact e0 _ rfl rfl
  ·rw[if_pos (by simp only[Ybs,decide_eq_false_iff_not];lia)]
   have e:chB w t p (.tup us)=false:=by
    unfold chB;split
    ·rename_i hh;cases hh;exact absurd rfl c
    ·rfl
   rw[e]at q;exact q
 |_=>exact q
def jeg  (ow:w.Ok)(hw:jaC w.ss w.bs w.P w.wt ys)(h:Th G u d)(q:Q (.bl (chB w t p u)) G) :
  jab T (k+2) jcw [w.u,.tup [.int p.1,.int p.2,.int (gt t p.1 p.2)],u] G Q X:=by
 have p1:=ow.p1;refine⟨rfl,?_⟩;simp! only[jcC,jaj,Yab,Wd.u];refine⟨trivial,?_⟩;simp! only[jaQ h (show "tuple" ∈ ["bool", "int", "str", "list", "tuple", "dict"] by decide)]
 cases h with
 |@tup us ds hs=>
  rw[show isD (.tuple ds) "tuple" = true from rfl];simp! only[];by_cases c:us.length=2
  ·obtain⟨u0,u1,rfl⟩:∃u0 u1,us=[u0,u1]:=by
    match us,c with
    |[a,b],_=>exact⟨a,b,rfl⟩
   simp! only[ix_t (jg9 _ _)];obtain⟨d0,_,h0⟩:=hs.get (i:=0) rfl;obtain⟨d1,_,h1⟩:=hs.get (i:=1) rfl;rw[if_neg (by decide),if_neg (by simp)]
   have e0:∀b,b=false->chB w t p (.tup [u0,u1])=b->Q (.bl false) G:=λb hb e=>by rw[e,hb]at q;exact q
   refine jbp h0 ?_;simp! only[];cases h0 with
   |int g=>
    rw[show isI (.int g)=true from rfl,if_neg (by decide)]
    simp! only[];have eg:¬(0<=g/\g<(w.gv.length:Int))->chB w t p (.tup [.int g,u1])=false:=λhg=>by
     unfold chB;split
     ·rename_i g' us' hh;cases hh;by_cases h0:0<=g
      ·rw[Yb1 (by lia)]
       exact YeC _
      ·rw[decide_eq_false h0];rfl
     ·rfl
    by_cases hg0:0<=g
    ·rw[if_pos (decide_eq_true hg0),Yaa];by_cases hg1:g<(w.gv.length:Int)
     ·rw[if_neg (by simp;lia)]
      simp! only[ix_t (jbE _ _ _),jaQ h1 (show "tuple" ∈ ["bool", "int", "str", "list", "tuple", "dict"] by decide)]
      obtain⟨n,rfl⟩:∃n:Nat,g=n:=⟨g.toNat,by lia⟩
      obtain⟨v,hv⟩:∃v,w.gv[n]?=some v:=⟨_,Yad (by lia)⟩
      cases h1 with
      |@tup vs es hv1=>
       rw[show isD (.tuple es) "tuple" = true from rfl,if_neg (by decide)]
       simp! only[];have ec:chB w t p (.tup [.int (n:Int),.tup vs])=(decide (vs.length<=100)&&decide (ledZ w vs v.1 v.2.1 v.2.2=some (p.2,(p.1:Int),gt t p.1 p.2))):=by
        unfold chB;dsimp only;rw[Ya7,hv,decide_eq_true (YdU n)];rfl
       by_cases hl:vs.length<=100
       ·rw[if_neg (by simp;lia),ix_t (atM hv)]
        rw[show gU v=.tup [.int v.1,.int v.2.1,.int v.2.2]from rfl];simp! only[ix_t (jbE _ _ _)];refine⟨trivial,?_⟩;rw[ec,decide_eq_true hl,Bool.true_and]at q;refine jau (λi ς G'=>G'=G/\∃(a':Nat) (b' c':Int) (o12 o13 o14:Option U),ledZ w vs v.1 v.2.1 v.2.2=ledZ w (vs.drop i) a' b' c'/\ς=[some (.tup [w.plan,.int w.P,jag w.bs,jat w.wt,.tup (w.gv.map gU),.int w.m]),some (.tup [.int p.1,.int p.2,.int (gt t p.1 p.2)]),some (.tup [.int n,.tup vs]),some (jaq w.xs w.ss),some (.int w.P),some (jag w.bs),some (jat w.wt),some (.tup (w.gv.map gU)),some (.int w.m),some (.int a'),some (.int b'),some (.int c'),o12,o13,o14]) ?_ ?_ ⟨rfl,v.1,v.2.1,v.2.2,_,_,_,by rw[Yds],rfl⟩
        ·rintro ς G1 ⟨rfl,a',b',c',o12,o13,o14,e,rfl⟩;refine⟨trivial,?_⟩;simp! only[];rw[e,Ycz]at q;refine⟨by decide,jma ?_⟩
         rw[show decide (b'=(p.1:Int)/\(a':Int)=(p.2:Int)/\c'=gt t p.1 p.2)=decide (ledZ w [] a' b' c'=some (p.2,(p.1:Int),gt t p.1 p.2)) by
          rw[Ybu,decide_eq_true_iff,decide_eq_true_iff];simp only[ledZ,YeJ,Prod.mk.injEq];constructor
          ·rintro⟨h1,h2,h3⟩;exact⟨by lia,h1,h3⟩
          ·rintro⟨h1,h2,h3⟩;exact⟨h2,by lia,h3⟩]
         exact q
        ·rintro i z ς G1 K hx ⟨rfl,a',b',c',o12,o13,o14,e,rfl⟩ hk;refine⟨trivial,?_⟩;obtain⟨d,_,hz⟩:=hv1.get hx;have hd:vs.drop i=z::vs.drop (i+1):=by
          obtain⟨hi,ez⟩:=List.getElem?_eq_some_iff.mp hx;rw[Ybk hi,ez]
         rw[hd]at e;simp! only[];refine jbp hz ?_;simp! only[];have no:(∀z',z=.int z'->¬(0<=z'/\z'.toNat∈w.wt/\(lg w z'.toNat).o=a'))->Q (.bl false) G1:=by
          intro h;have:ledZ w vs v.1 v.2.1 v.2.2=none:=by
           rw[e];cases z with
           |int z'=>unfold ledZ;rw[if_neg (h z' rfl)]
           |_=>rfl
          rw[this]at q;exact q
         cases hz with
         |int z'=>
          rw[show isI (.int z')=true from rfl,if_neg (by decide)]
          simp! only[];refine jh6 ?_;by_cases hc:0<=z'/\z'.toNat∈w.wt
          ·obtain⟨sp,x,y,at_,dl,el,ok⟩:=jeS ow hw hc.2;obtain⟨s,rfl⟩:∃s:Nat,z'=s:=⟨z'.toNat,by lia⟩
           rw[Ya7]at at_ el ok hc;have hcd:decide (0<=(s:Int)/\(s:Int).toNat∈w.wt)=true:=by simpa using hc.2
           rw[hcd,if_neg (by decide)]
           simp! only[jaq,ix_t (jbE _ _ _),ix_t (atM at_.s)];rw[show sp.u=.tup [.str sp.w,.int sp.o,.int sp.t,.int sp.lo,.int sp.hi]from rfl];simp! only[ix_t (jbE _ _ _)];by_cases h3:sp.o=a'
           ·subst h3;rw[if_neg (by simp)]
            refine jgh (k:=k) (xs:=w.xs) at_ (by lia) ow.p6 dl ?_
            simp! only[];refine⟨trivial,?_⟩;simp! only[ix_t (jbE _ _ _),ix_t (atM at_.s)];rw[show sp.u=.tup [.str sp.w,.int sp.o,.int sp.t,.int sp.lo,.int sp.hi]from rfl,ix_t (jjv _ _ _ _)];refine⟨trivial,hk _ _ ⟨rfl,sp.t,b'+((wyOf w.P s sp x y).p:Int),c'-(wyOf w.P s sp x y).b,_,_,_,?_,rfl⟩⟩;rw[e];show(if _ then _ else _)=_
            rw[Ya7,if_pos ⟨by lia,hc.2,by rw[el];rfl⟩,el]
            rfl
           ·rw[if_pos (by simp;lia)]
            refine no λz' hz'=>?_;cases hz';rw[Ya7];rintro⟨_,_,h⟩;rw[el]at h;exact h3 h
          ·rw[show decide (0<=z'/\z'.toNat∈w.wt)=false from decide_eq_false hc,if_pos (show(!false)=true from rfl)];refine no λz' hz'=>?_;cases hz';exact λh=>hc ⟨h.1,h.2.1⟩
         |_=>exact no λz' h=>(nomatch h)
       ·rw[if_pos (by simp;lia)]
        exact e0 _ (by rw[decide_eq_false hl];rfl) ec
      |_=>exact e0 _ rfl rfl
     ·rw[if_pos (by simp;lia)]
      exact e0 _ rfl (eg λh=>hg1 h.2)
    ·rw[if_neg (by simpa using hg0)]
     exact e0 _ rfl (eg λh=>hg0 h.1)
   |_=>exact e0 _ rfl rfl
  ·rw[if_neg (by decide),if_pos (by simp;lia)]
   have e:chB w t p (.tup us)=false:=by
    unfold chB;split
    ·rename_i hh;cases hh;exact absurd rfl c
    ·rfl
   rw[e]at q;exact q
 |_=>exact q

inductive Rs
 |ok
 |no (x:Str) (n:Int)
noncomputable def Rs.u  : Rs->U
 |.ok=>.bl true
 |.no x n=>.tup [.str x,.int n]
def rsT  (w:Wd)(t:Tb)(cs:List U):Rs:=
 match w.gv.findIdx? λg=>decide (gt t g.2.1 g.1<g.2.2)with
 |some i=>.no "given" i
 |none=>match w.wt.find? λs=>!spB w.m t (lg w s)with
  |some s=>.no "span" s
  |none=>match ((spts t w.m w.xs.length).zip cs).findIdx? λx=>!chB w t x.1 x.2 with
   |some i=>.no "chain" i
   |none=>.ok
def Pap  (w:Wd)(t:Tb)(cs:List U):Prop:=TbN w.m w.xs.length t/\cs.length=(spts t w.m w.xs.length).length
def Is  (w:Wd)(u:U)(r:Rs):Prop:=(∃t cs,u=.tup [tbU t,.tup cs]/\Pap w t cs/\r=rsT w t cs)\/((¬∃t cs,u=.tup [tbU t,.tup cs]/\Pap w t cs)/\r=.no "shape" 0)
def jpC   w u:∃r,Is w u r:=by
 by_cases h:∃t cs,u=.tup [tbU t,.tup cs]/\Pap w t cs
 ·obtain⟨t,cs,e,p⟩:=h;exact⟨_,.inl ⟨t,cs,e,p,rfl⟩⟩
 ·exact⟨_,.inr ⟨h,rfl⟩⟩
def jjF    (h:TbN m W t):tabB W m (tbU t)=true:=by
 show(decide ((t.map jag).length=m)&&(t.map jag).all (rowB W))=true;rw[Yao,decide_eq_true_iff,Yaa];refine⟨h.1,List.all_eq_true.mpr λu hu=>?_⟩;obtain⟨x,hx,rfl⟩:=List.mem_map.mp hu;show(decide ((x.map U.int).length=W)&&(x.map U.int).all nnB)=true;rw[Yao,decide_eq_true_iff,Yaa];refine⟨h.2 x hx,List.all_eq_true.mpr λv hv=>?_⟩;obtain⟨z,hz,rfl⟩:=List.mem_map.mp hv;exact decide_eq_true (h.3 x hx z hz)
def jjb  : ∀{x y },jag x=jag y->x=y:=λh=>jdb (f:=U.int) (λ_ _ e=>by cases e;rfl) (U.tup.inj h)
def jd5   (h:tbU t=tbU t'):t=t':=jdb (f:=jag) (λ_ _ e=>jjb e) (U.tup.inj h)

def szU  (u:U):Prop:=∀us,u=.tup us->∀x∈us,shD x
def jei  (ow:w.Ok)(h:Th G u d)(hz:szU u)(q1:∀t cs,u=.tup [tbU t,.tup cs]->Pap w t cs->∀G',Sa G G'->Q (.bl true) G')(q2:(¬∃t cs,u=.tup [tbU t,.tup cs]/\Pap w t cs)->∀G',Sa G G'->Q (.bl false) G') :
  jab T (k+4) jbt [u,.int w.xs.length,.int w.m] G Q X:=by
 refine⟨rfl,?_⟩;simp! only[jbv,jaj,Yab,jaQ h (show "tuple" ∈ ["bool", "int", "str", "list", "tuple", "dict"] by decide)]
 cases h with
 |@tup us ds hs=>
  rw[show isD (.tuple ds) "tuple" = true from rfl,if_pos rfl];simp! only[];by_cases c:us.length=2
  ·rw[if_neg (by simp[c])]
   obtain⟨u0,u1,rfl⟩:∃u0 u1,us=[u0,u1]:=by
    match us,c with
    |[a,b],_=>exact⟨a,b,rfl⟩
   simp! only[];refine⟨trivial,?_⟩;obtain⟨d0,_,h0⟩:=hs.get (i:=0) rfl;obtain⟨d1,_,h1⟩:=hs.get (i:=1) rfl;refine jfq (k:=k) h0 (hz _ rfl u0 Yat) λG1 s1=>?_;simp! only[];cases et:tabB w.xs.length w.m u0 with
   |false=>
    rw[if_neg Yaj];refine q2 ?_ _ s1;rintro⟨t,cs,e,p⟩;cases e;rw[jjF p.1]at et;cases et
   |true=>
    rw[if_pos rfl];obtain⟨t,rfl,ht⟩:=jjI et;rw[jaQ (h1.sa s1) (show "tuple" ∈ ["bool", "int", "str", "list", "tuple", "dict"] by decide)]
    cases h1 with
    |@tup cs es hc=>
     rw[show isD (.tuple es) "tuple" = true from rfl];simp! only[];refine jbF (k:=k+2) ht ow.m2 ow.x8 λp G2 g2 s2=>?_;simp! only[jgX g2];rw[Yaa];by_cases hl:cs.length=(spts t w.m w.xs.length).length
     ·rw[decide_eq_true (by rw[hl])]
      exact q1 t cs rfl ⟨ht,hl⟩ _ (s1.trans s2)
     ·rw[decide_eq_false (by lia)]
      refine q2 ?_ _ (s1.trans s2);rintro⟨t',cs',e,p'⟩;have e:=Ya1 (U.tup.inj e);have et:=jd5 e.1;have ec:=U.tup.inj (Ya1 e.2).1;subst et;subst ec;exact hl p'.2
    |_=>exact q2 (λ⟨t,cs,e,_⟩=>(nomatch (Ya1 (Ya1 (U.tup.inj e)).2).1)) _ s1
  ·rw[if_pos (by simp only[Ybs,decide_eq_false_iff_not];lia)]
   exact q2 (λ⟨t,cs,e,_⟩=>c (by rw[U.tup.inj e];rfl)) _ Sa.refl
 |_=>exact q2 (λ⟨t,cs,e,_⟩=>(nomatch e)) _ Sa.refl

theorem jjk  {α:Type}{p:α->Bool}:∀{l:List α} {i } {a },l[i]?=some a->p a=true->(∀j b,j<i->l[j]?=some b->p b=false)->l.findIdx? p=some i
 |[],_,_,h,_,_=>by simp at h
 |x::l,0,a,h,hp,_=>by
  cases(Yar h:x=a);rw[YcJ,if_pos hp]
 |x::l,i+1,a,h,hp,hn=>by
  rw[YcJ,if_neg (by rw[hn 0 x (by lia) rfl];exact Yaj),jjk (l:=l) (i:=i) h hp λj b hj e=>hn (j+1) b (by lia) e]
  rfl
theorem jjj  {α:Type}{p:α->Bool}:∀{l:List α},(∀(j:Nat) b,l[j]?=some b->p b=false)->l.findIdx? p=none
 |[],_=>rfl
 |x::l,hn=>by
  rw[YcJ,if_neg (by rw[hn 0 x rfl];exact Yaj),jjj λj b e=>hn (j+1) b e]
  rfl
theorem jlE  {α:Type}{p:α->Bool}:∀{l:List α} {i:Nat} {a },l[i]?=some a->p a=true->(∀j b,j<i->l[j]?=some b->p b=false)->l.find? p=some a
 |[],_,_,h,_,_=>by simp at h
 |x::l,0,a,h,hp,_=>by
  cases(Yar h:x=a);rw[Ya2,hp]
 |x::l,i+1,a,h,hp,hn=>by
  rw[Ya2,hn 0 x (by lia) rfl]
  exact jlE (l:=l) (i:=i) h hp λj b hj e=>hn (j+1) b (by lia) e
def jnP  {α:Type}{p:α->Bool}{l:List α}(hn:∀(j:Nat) b,l[j]?=some b->p b=false):l.find? p=none:=
 List.find?_eq_none.mpr λx hx=>by
  obtain⟨j,hj⟩:=List.mem_iff_getElem?.mp hx;rw[hn j x hj];exact Yaj

def Out  (r:Rs)(G:Gp)(Q:K1)(X:KX):Prop:=match r with
 |.ok=>∀G',Sa G G'->Q (.bl true) G'
 |.no x n=>∀G',Sa G G'->X ⟨1,[.str x,.int n]⟩ G'
def Out.sa    (h:Out r G Q X)(s:Sa G G'):Out r G' Q X:=by
 cases r with
 |ok=>exact λG1 s1=>h G1 (s.trans s1)
 |no x n=>exact λG1 s1=>h G1 (s.trans s1)
def gvP  (t:Tb)(g:Nat×Nat×Int):Bool:=decide (gt t g.2.1 g.1<g.2.2)
def spP  (w:Wd)(t:Tb)(s:Nat):Bool:=!spB w.m t (lg w s)
def chP  (w:Wd)(t:Tb)(x:(Nat×Nat)×U):Bool:=!chB w t x.1 x.2
def jf9  {i:Nat}(h:w.gv.findIdx? (gvP t)=some i):rsT w t cs=.no "given" i:=by unfold rsT;rw[show(w.gv.findIdx? λg=>decide (gt t g.2.1 g.1<g.2.2))=some i from h]
def jhz  {s:Nat}(h:w.gv.findIdx? (gvP t)=none)(h2:w.wt.find? (spP w t)=some s):rsT w t cs=.no "span" s:=by
 unfold rsT;rw[show(w.gv.findIdx? λg=>decide (gt t g.2.1 g.1<g.2.2))=none from h];dsimp only;rw[show(w.wt.find? λs=>!spB w.m t (lg w s))=some s from h2]
def jga   (h:w.gv.findIdx? (gvP t)=none)(h2:w.wt.find? (spP w t)=none)(h3:((spts t w.m w.xs.length).zip cs).findIdx? (chP w t)=some i):rsT w t cs=.no "chain" i:=by
 unfold rsT;rw[show(w.gv.findIdx? λg=>decide (gt t g.2.1 g.1<g.2.2))=none from h];dsimp only;rw[show(w.wt.find? λs=>!spB w.m t (lg w s))=none from h2];dsimp only;rw[show(((spts t w.m w.xs.length).zip cs).findIdx? λx=>!chB w t x.1 x.2)=some i from h3]
def jmo  (h:w.gv.findIdx? (gvP t)=none)(h2:w.wt.find? (spP w t)=none)(h3:((spts t w.m w.xs.length).zip cs).findIdx? (chP w t)=none):rsT w t cs=.ok:=by
 unfold rsT;rw[show(w.gv.findIdx? λg=>decide (gt t g.2.1 g.1<g.2.2))=none from h];dsimp only;rw[show(w.wt.find? λs=>!spB w.m t (lg w s))=none from h2];dsimp only;rw[show(((spts t w.m w.xs.length).zip cs).findIdx? λx=>!chB w t x.1 x.2)=none from h3]
def en_l     (g:G a=some (.lst xs)):enI (.loc a) G φ=φ (jcp 0 xs) λG'=>lsG G' a=some xs:=by
 have e:lsG G a=some xs:=by unfold lsG;rw[g]
 unfold enI;dsimp only;rw[e]
def jbC    (g:G a=some (.lst xs)):lsG G a=some xs:=by unfold lsG;rw[g]
def ll_4  (ow:w.Ok)(hw:jaC w.ss w.bs w.P w.wt ys)(ht:TbN w.m w.xs.length t)(hl:cs.length=(spts t w.m w.xs.length).length)(hc:Ths G cs es)(h1:w.gv.findIdx? (gvP t)=none)(h2:w.wt.find? (spP w t)=none)(q:Out (rsT w t cs) G Q X) :
  jas T.gs (jab T (k+4)) ja8 ⟨λ_ G'=>Q .non G',Q,λx _ G'=>X x G'⟩ [some (jaq w.xs w.ss),some (.int w.P),some (jag w.bs),some (jat w.wt),some (.tup (w.gv.map gU)),some (.int w.m),o6,some (tbU t),some (.tup cs),o9,o10,o11,o12,o13,o14] G:=by
 simp! only[ja8];refine jbF (k:=k+3) ht ow.m2 ow.x8 λp G1 g1 s1=>?_;rw[en_l g1];refine jau (λi ς G'=>G'=G1/\(∀(j:Nat) b,j<i->((spts t w.m w.xs.length).zip cs)[j]?=some b->chP w t b=false)/\∃o9 o14,ς=[some (jaq w.xs w.ss),some (.int w.P),some (jag w.bs),some (jat w.wt),some (.tup (w.gv.map gU)),some (.int w.m),o6,some (tbU t),some (.tup cs),o9,o10,o11,o12,o13,o14]) ?_ ?_ ⟨rfl,λj _ h=>absurd h (Ycs j),_,_,rfl⟩
 ·rintro ς G2 ⟨rfl,hp,o9,o14,rfl⟩;refine⟨jbC g1,?_⟩;simp! only[];have e3:((spts t w.m w.xs.length).zip cs).findIdx? (chP w t)=none:=jjj λj b e=>hp j b (by
   have:=(List.getElem?_eq_some_iff.mp e).1;rw[Yen]at this;have el:(jcp 0 ((spts t w.m w.xs.length).map (plU t))).length=(spts t w.m w.xs.length).length:=by rw[ja0,Yaa]
   lia) e
  rw[jmo h1 h2 e3]at q;exact q _ s1
 ·rintro i x ς G2 K hx ⟨rfl,hp,o9,o14,rfl⟩ hk;refine⟨jbC g1,?_⟩;obtain⟨y,hy,rfl⟩:=jbg hx;rw[Yav]at hy;cases ep:(spts t w.m w.xs.length)[i]? with
  |none=>rw[ep]at hy;cases hy
  |some p'=>
   rw[ep]at hy;cases hy;have hi:i<cs.length:=by have:=(List.getElem?_eq_some_iff.mp ep).1;lia
   obtain⟨c,ec⟩:∃c,cs[i]?=some c:=⟨_,Yad hi⟩;obtain⟨_,_,hc'⟩:=hc.get ec;have ez:((spts t w.m w.xs.length).zip cs)[i]?=some (p',c):=List.getElem?_zip_eq_some.mpr ⟨ep,ec⟩;rw[YbI];simp! only[];refine⟨trivial,?_⟩;simp! only[];rw[ix_t (jby ec)];refine jfr (k:=k) (t:=t) (p:=p') ow hw (hc'.sa s1) ?_;simp! only[];cases eb:chB w t p' c with
   |true=>
    rw[if_neg (by decide)]
    refine hk _ _ ⟨rfl,λj b hj e=>?_,_,_,rfl⟩;rcases Nat.lt_succ_iff_lt_or_eq.mp hj with hj|rfl
    ·exact hp j b hj e
    ·rw[ez]at e;cases e;unfold chP;rw[eb];rfl
   |false=>
    rw[if_pos (by decide)]
    have e3:=jjk ez (p:=chP w t) (by unfold chP;rw[eb];rfl) hp
    rw[jga h1 h2 e3]at q;exact⟨rfl,q _ s1⟩
def ll_3  (ow:w.Ok)(hw:jaC w.ss w.bs w.P w.wt ys)(ht:TbN w.m w.xs.length t)(hl:cs.length=(spts t w.m w.xs.length).length)(hc:Ths G cs es)(h1:w.gv.findIdx? (gvP t)=none)(q:Out (rsT w t cs) G Q X) :
  jas T.gs (jab T (k+4)) ja9 ⟨λ_ G'=>Q .non G',Q,λx _ G'=>X x G'⟩ [some (jaq w.xs w.ss),some (.int w.P),some (jag w.bs),some (jat w.wt),some (.tup (w.gv.map gU)),some (.int w.m),o6,some (tbU t),some (.tup cs),o9,o10,o11,o12,o13,o14] G:=by
 have p1:=ow.p1;simp! only[ja9,jat];refine jau (λi ς G'=>Sa G G'/\(∀(j:Nat) b,j<i->w.wt[j]?=some b->spP w t b=false)/\∃o13,ς=[some (jaq w.xs w.ss),some (.int w.P),some (jag w.bs),some (jat w.wt),some (.tup (w.gv.map gU)),some (.int w.m),o6,some (tbU t),some (.tup cs),o9,o10,o11,o12,o13,o14]) ?_ ?_ ⟨Sa.refl,λj _ h=>absurd h (Ycs j),_,rfl⟩
 ·rintro ς G2 ⟨s2,hp,o13,rfl⟩;refine⟨trivial,?_⟩;refine ll_4 (k:=k) ow hw ht hl (hc.sa s2) h1 (jnP λj b e=>hp j b ?_ e) (q.sa s2);rw[Yaa];exact(List.getElem?_eq_some_iff.mp e).1
 ·rintro i x ς G2 K hx ⟨s2,hp,o13,rfl⟩ hk;refine⟨trivial,?_⟩;rw[Yav]at hx;cases ep:w.wt[i]? with
  |none=>rw[ep]at hx;cases hx
  |some s=>
   rw[ep]at hx;cases hx;obtain⟨sp,x,y,at_,dl,el,ok⟩:=jeS ow hw (Yaq ep);simp! only[];rw[el]at ok;refine jee (k:=k+1) (xs:=w.xs) at_ (by lia) ow.p6 dl ht ow.m2 ok.o ok.t ok.p λG3 s3=>?_
   simp! only[];cases eb:spB w.m t (wyOf w.P s sp x y)with
   |true=>
    rw[if_neg (by decide)]
    refine hk _ _ ⟨s2.trans s3,λj b hj e=>?_,_,rfl⟩;rcases Nat.lt_succ_iff_lt_or_eq.mp hj with hj|rfl
    ·exact hp j b hj e
    ·rw[ep]at e;cases e;unfold spP;rw[el,eb];rfl
   |false=>
    rw[if_pos (by decide)]
    have e3:=jlE ep (p:=spP w t) (by unfold spP;rw[el,eb];rfl) hp
    rw[jhz h1 e3]at q;exact⟨rfl,q _ (s2.trans s3)⟩
def ll_2  (ow:w.Ok)(hw:jaC w.ss w.bs w.P w.wt ys)(ht:TbN w.m w.xs.length t)(hl:cs.length=(spts t w.m w.xs.length).length)(hc:Ths G cs es)(q:Out (rsT w t cs) G Q X) :
  jas T.gs (jab T (k+4)) jba ⟨λ_ G'=>Q .non G',Q,λx _ G'=>X x G'⟩ [some (jaq w.xs w.ss),some (.int w.P),some (jag w.bs),some (jat w.wt),some (.tup (w.gv.map gU)),some (.int w.m),o6,some (tbU t),some (.tup cs),o9,o10,o11,o12,o13,o14] G:=by
 simp! only[jba,enI];refine jau (λi ς G'=>G'=G/\(∀(j:Nat) b,j<i->w.gv[j]?=some b->gvP t b=false)/\∃o9 o10 o11 o12,ς=[some (jaq w.xs w.ss),some (.int w.P),some (jag w.bs),some (jat w.wt),some (.tup (w.gv.map gU)),some (.int w.m),o6,some (tbU t),some (.tup cs),o9,o10,o11,o12,o13,o14]) ?_ ?_ ⟨rfl,λj _ h=>absurd h (Ycs j),_,_,_,_,rfl⟩
 ·rintro ς G2 ⟨rfl,hp,o9,o10,o11,o12,rfl⟩;refine⟨trivial,?_⟩;refine ll_3 (k:=k) ow hw ht hl hc (jjj λj b e=>hp j b ?_ e) q;rw[ja0,Yaa];exact(List.getElem?_eq_some_iff.mp e).1
 ·rintro i x ς G2 K hx ⟨rfl,hp,o9,o10,o11,o12,rfl⟩ hk;refine⟨trivial,?_⟩;obtain⟨y,hy,rfl⟩:=jbg hx;rw[Yav]at hy;cases ep:w.gv[i]? with
  |none=>rw[ep]at hy;cases hy
  |some g=>
   rw[ep]at hy;cases hy;have og:=ow.gg g (Yaq ep);rw[YbI,show gU g=.tup [.int g.1,.int g.2.1,.int g.2.2]from rfl];simp! only[];refine⟨trivial,trivial,?_⟩;simp! only[];refine ht.ix (r:=g.2.1) (c:=g.1) og.t og.w ?_;simp! only[];by_cases c:gt t g.2.1 g.1<g.2.2
   ·rw[if_pos (decide_eq_true c)];have e3:=jjk ep (p:=gvP t) (decide_eq_true c) hp;rw[jf9 e3]at q;exact⟨rfl,q _ Sa.refl⟩
   ·rw[if_neg (by simpa using c)]
    refine hk _ _ ⟨rfl,λj b hj e=>?_,_,_,_,_,rfl⟩;rcases Nat.lt_succ_iff_lt_or_eq.mp hj with hj|rfl
    ·exact hp j b hj e
    ·rw[ep]at e;cases e;exact decide_eq_false c
def jeN  (ow:w.Ok)(hw:jaC w.ss w.bs w.P w.wt ys)(h:Th G u d)(hz:szU u)(hr:Is w u r)(q:Out r G Q X) :
  jab T (k+5) jc4 [jaq w.xs w.ss,.int w.P,jag w.bs,jat w.wt,.tup (w.gv.map gU),.int w.m,u] G Q X:=by
 refine⟨rfl,?_⟩;simp! only[jdi,jaj,Yab,jaq,ix_t (jg9 _ _)];rw[Yaa];refine jei (k:=k) ow h hz (λt cs e pp G1 s1=>?_) λhn G1 s1=>?_
 ·subst e;simp! only[];refine⟨trivial,?_⟩;obtain⟨ht,hl⟩:=pp;have er:r=rsT w t cs:=by
   rcases hr with⟨t',cs',e,_,rfl⟩|⟨hn,_⟩
   ·have e:=Ya1 (U.tup.inj e);rw[jd5 e.1,U.tup.inj (Ya1 e.2).1]
   ·exact absurd ⟨t,cs,rfl,ht,hl⟩ hn
  subst er;cases h with
  |tup hs=>
   obtain⟨_,_,h1⟩:=hs.get (i:=1) rfl;cases h1 with
   |tup hc=>exact ll_2 (k:=k) ow hw ht hl (hc.sa s1) (q.sa s1)
 ·have er:r=.no "shape" 0:=by
   rcases hr with⟨t,cs,e,p,_⟩|⟨_,e⟩
   ·exact absurd ⟨t,cs,e,p⟩ hn
   ·exact e
  subst er;simp! only[];rw[if_pos (by decide)]
  exact⟨rfl,q G1 s1⟩

def TG  (G:Gp)(n:Nat)(u:U):Prop:=∃d,Th G u d/\d.canLay0=true/\d.depth<=n
theorem jjD    : ∀{us },(∀u∈us,TG G n u)->∃ds,Ths G us ds/\YaR ds=true/\YaI ds<=n
 |[],_=>⟨[],.nil,rfl,YaP _⟩
 |u::us,h=>by
  obtain⟨ds,h1,h2,h3⟩:=jjD λv hv=>h v (Yal _ hv);obtain⟨d,g1,g2,g3⟩:=h u Yat;refine⟨d::ds,.cons g1 h1,?_,?_⟩
  ·show(d.canLay0&&YaR ds)=true;rw[g2,h2];rfl
  ·show max d.depth (YaI ds)<=n;exact Nat.max_le.mpr ⟨g3,h3⟩
theorem jjA    : ∀{us } {ds },Ths G us ds->YaR ds=true->YaI ds<=n->∀u∈us,TG G n u
 |_,_,.nil,_,_=>λ_ h=>(nomatch h)
 |_,_,.cons (d:=d) (ds:=ds) a b,h1,h2=>λu hu=>by
  have h1:(d.canLay0&&YaR ds)=true:=h1;have h2:max d.depth (YaI ds)<=n:=h2;rw[Yao]at h1;rcases Yau.mp hu with rfl|hu
  ·exact⟨d,a,h1.1,Yag (Nat.le_max_left _ _) h2⟩
  ·exact jjA b h1.2 (Yag (Nat.le_max_right _ _) h2) u hu
def TG.un     (h:TG G n (.tup us)):∀u∈us,TG G n u:=by
 obtain⟨d,h1,h2,h3⟩:=h;cases h1 with
 |@tup _ ds hs=>
  have h3:YaI ds+1<=n:=h3;exact jjA hs h2 (by lia)
def TG.sa     (h:TG G n u)(s:Sa G G'):TG G' n u:=let ⟨d,h1,h2⟩:=h;⟨d,h1.sa s,h2⟩
def jlF       (ga:G a=some (.lst us))(gb:G b=some (.lst []))(h:∀u∈us,TG G n u)(hn:n<100)(q:k us.isEmpty):eqU (.loc a) (.loc b) G k:=by
 obtain⟨ds,h1,h2,h3⟩:=jjD h;have la:lsG G a=some us:=by unfold lsG;rw[ga]
 have lb:lsG G b=some []:=by unfold lsG;rw[gb]
 refine⟨.list ds,.list [],.lst la h1.dus,.lst lb .nil,⟨h2,?_⟩,⟨rfl,by decide⟩,?_⟩
 ·show YaI ds+1<=100
  lia
 ·have e:YaJ (.list ds) (.list [])=us.isEmpty:=by
   show Yb0 ds []=_;rw[jdQ];cases h1<;>rfl
  rw[e];exact q

def jeO  {W m n:Nat}(h:TG G n u)(hn:n<100)(hl:shD u)(q:∀G',Sa G G'->Q (.bl (tabB W m u)) G'):jab T (k+2) jbJ [.int W,.int m,u] G Q X:=by
 refine⟨rfl,?_⟩;obtain⟨d,h1,h2,h3⟩:=id h;simp! only[jbP,jaj,Yab,jaQ h1 (show "tuple" ∈ ["bool", "int", "str", "list", "tuple", "dict"] by decide)]
 cases h1 with
 |@tup us ds hs=>
  rw[show isD (.tuple ds) "tuple" = true from rfl,if_neg (by decide)]
  simp! only[];by_cases c:us.length=m
  ·rw[if_neg (by simp;lia)]
   have e:tabB W m (.tup us)=us.all (rowB W):=by show(decide _&&_)=_;rw[decide_eq_true c];rfl
   refine jau (λi ς G'=>Sa G G'/\(∀x∈us.take i,rowB W x=true)/\∃o3,ς=[some (.int W),some (.int m),some (.tup us),o3]) ?_ ?_ ⟨Sa.refl,λx hx=>(nomatch hx),_,rfl⟩
   ·rintro ς G1 ⟨s1,hp,o3,rfl⟩;refine⟨trivial,?_⟩;simp! only[];rw[Ybg]at hp;have:=q _ s1;rw[e,List.all_eq_true.mpr hp]at this;exact this
   ·rintro i x ς G1 K hx ⟨s1,hp,o3,rfl⟩ hk;refine⟨trivial,?_⟩;have hm:=Yaq hx;obtain⟨dx,hx1,_,_⟩:=id ((h.un x hm).sa s1);have no:rowB W x=false->∀G',Sa G1 G'->Q (.bl false) G':=λhb G' s'=>by
     have:=q _ (s1.trans s');rw[e,show us.all (rowB W)=false from List.all_eq_false.mpr ⟨x,hm,by rw[hb];exact Yaj⟩]at this
     exact this
    simp! only[jaQ hx1 (show "tuple" ∈ ["bool", "int", "str", "list", "tuple", "dict"] by decide)]
    cases hx1 with
    |@tup vs es hv=>
     rw[show isD (.tuple es) "tuple" = true from rfl,if_neg (by decide)]
     simp! only[];have hsz:vs.length<=200:=hl.2 _ hm vs rfl;by_cases c2:vs.length=W
     ·rw[if_neg (by simp;lia)]
      have e2:rowB W (.tup vs)=vs.all nnB:=by show(decide _&&_)=_;rw[decide_eq_true c2];rfl
      refine⟨Yag hsz (by decide),?_⟩
      refine jcE (λy=>if nnB y then none else some y) trivial (λy hy KK hK=>?_) λp G2 n2=>⟨by decide,λp3 G3 n3=>?_⟩
      ·obtain⟨j,hj⟩:=List.mem_iff_getElem?.mp hy;obtain⟨_,_,hy'⟩:=hv.get hj;simp! only[];refine jbp hy' ?_;simp! only[];cases hy' with
       |int z=>
        rw[show isI (.int z)=true from rfl,if_neg (by decide)]
        simp! only[];by_cases c3:z<0
        ·rw[if_pos (decide_eq_true c3)];rw[if_neg (show ¬nnB (.int z)=true by simp[nnB];lia)]at hK
         exact hK
        ·rw[if_neg (by simpa using c3)]
         rw[if_pos (show nnB (.int z)=true by simp[nnB];lia)]at hK
         exact hK
       |_=>exact hK
      ·simp! only[];have hk2:∀y∈[]++vs.filterMap (λy=>if nnB y then none else some y),TG G3 n y:=λy hy=>by
        rw[YbG]at hy;obtain⟨y',hy',e'⟩:=List.mem_filterMap.mp hy;split at e'
        ·cases e'
        ·cases e';exact(((h.un _ hm).un y hy').sa (s1.trans (n2.sa.trans n3.sa)))
       refine jlF (n3.sa _ _ n2.at) n3.at hk2 hn ?_;rw[YbG];by_cases ha:vs.all nnB=true
       ·rw[show vs.filterMap (λy=>if nnB y then none else some y)=[]from List.filterMap_eq_nil_iff.mpr λy hy=>by rw[if_pos (List.all_eq_true.mp ha y hy)],if_neg (by decide)]
        refine hk _ _ ⟨s1.trans (n2.sa.trans n3.sa),λy hy=>?_,_,rfl⟩;rw[Ybq,hx]at hy;rcases List.mem_append.mp hy with hy|hy
        ·exact hp y hy
        ·rw[List.mem_singleton.mp hy,e2];exact ha
       ·have hb:vs.all nnB=false:=by simpa using ha
        obtain⟨y,hy,hyn⟩:=List.all_eq_false.mp hb;rw[show(vs.filterMap (λy=>if nnB y then none else some y)).isEmpty=false by
         cases hz:vs.filterMap (λy=>if nnB y then none else some y)with
         |nil=>exact absurd (List.filterMap_eq_nil_iff.mp hz y hy) (by rw[if_neg hyn];exact λz=>(nomatch z))
         |cons _ _=>rfl,if_pos (by decide)]
        exact no (by rw[e2];exact hb) _ (n2.sa.trans n3.sa)
     ·rw[if_pos (by simp;lia)]
      exact no (by show(decide _&&_)=_;rw[decide_eq_false c2];rfl) _ Sa.refl
    |_=>exact no rfl _ Sa.refl
  ·rw[if_pos (by simp;lia)]
   have e:tabB W m (.tup us)=false:=by show(decide _&&_)=_;rw[decide_eq_false c];rfl
   have:=q _ Sa.refl;rw[e]at this;exact this
 |_=>exact q _ Sa.refl
def jne    (g:G a=some (.lst xs)):mtU .extend (.loc a) G=some ("list", "list.extend"):=by unfold mtU;dsimp only;rw[g]
def jpM    (g:G a=some (.lst xs))(g':G b=some (.lst ys)):ja6 .extend (.loc a) [.loc b] G Q=(xs.length+ys.length<=Yai/\putO G a (.lst (xs++ys)) (Q .non)):=by unfold ja6 jfF;dsimp only;rw[g,g']
def jgg    (ht:TbN m W t)(hm:m<=12)(hW:W<=8)(q:∀p G',G' p=some (.lst ((spts t m W).map spU))->G p=none->Sa G G'->Q (.loc p) G'):jab T (k+1) jbS [tbU t] G Q X:=by
 refine⟨rfl,?_⟩;simp! only[jdl,jaj,Yab,tbU];refine⟨by decide,λp1 G1 n1=>?_⟩
 simp! only[];rw[Yaa,ht.1];refine⟨by lia,by lia,?_⟩
 refine jau (λi ς G'=>Sa G G'/\G' p1=some (.lst ((spts t i W).map spU))/\∃o2,ς=[some (.tup (t.map jag)),some (.loc p1),o2]) ?_ ?_ ⟨n1.sa,n1.at,_,rfl⟩
 ·rintro ς G2 ⟨s2,g2,o2,rfl⟩;refine⟨trivial,?_⟩;simp! only[];rw[jao]at g2;exact q p1 G2 (by simpa using g2) n1.no s2
 ·rintro i x ς G2 K hx ⟨s2,g2,o2,rfl⟩ hk;obtain⟨hi,rfl⟩:=jaG hx;have hi:i<m:=by simpa using hi
  refine⟨trivial,?_⟩;obtain⟨row,e1,e2,e3⟩:=ht.row hi;simp! only[jne g2,ix_t (atM (f:=jag) e1),jag];rw[Yaa,e3];refine⟨by lia,by lia,?_⟩
  refine⟨by rw[jao];exact Yag hW (by decide),?_⟩
  refine jal (λj acc G'=>G'=G2/\acc=(spj t i j).map spU) ?_ ?_ ⟨rfl,rfl⟩
  ·rintro acc G3 ⟨rfl,ea⟩;refine⟨trivial,λp4 G4 n4=>?_⟩;rw[ea,jao]at n4;rw[jpM (n4.sa _ _ g2) n4.at];have hne:p1≠p4:=λz=>by have:=n4.no;rw[<- z,g2]at this;cases this
   refine⟨?_,λG5 w5=>?_⟩
   ·rw[Yaa,Yaa];exact Yag (YeL (jaS (by lia) hW) (Yag jht hW)) (by decide)
   ·refine hk _ _ ⟨λb o e=>?_,?_,_,rfl⟩
    ·have hb:b≠p1:=λz=>by rw[z,n1.no]at e;cases e
     exact w5.sm _ _ hb (n4.sa _ _ (s2 _ _ e))
    ·rw[w5.at,jcW,YaL]
  ·rintro j x acc G3 K2 hx2 ⟨rfl,ea⟩ hs hn;obtain⟨hj,rfl⟩:=jaG hx2;refine⟨trivial,?_⟩;have hj:j<row.length:=by rw[e3];simpa using hj
   have eg:gt t i j=row[j]:=by unfold gt;rw[e2,YaD,Yad hj];rfl
   rw[ix_t (atM (f:=U.int) (Yad hj))];show(if decide (0<row[j])=true then _ else _)
   by_cases c:0<row[j]
   ·rw[if_pos (decide_eq_true c)];refine⟨by decide,hs _ _ ⟨rfl,?_⟩⟩
    rw[jcK,if_pos (by rw[eg];exact c),YaL,ea]
    rfl
   ·rw[if_neg (by simpa using c)]
    refine hn _ ⟨rfl,?_⟩;rw[jcK,if_neg (by rw[eg];exact c),ea]
    simp


def Due  (r:Rs)(G:Gp)(Q:K1):Prop:=∀G',Sa G G'->Q r.u G'
def Due.sa    (h:Due r G Q)(s:Sa G G'):Due r G' Q:=λG1 s1=>h G1 (s.trans s1)
def jhs    (h:p∈spts t m W):p.1<m/\p.2<W:=by
 unfold spts at h;obtain⟨r,hr,h⟩:=List.mem_flatMap.mp h;unfold spt at h;obtain⟨c,hc,rfl⟩:=List.mem_map.mp h;exact⟨List.mem_range.mp hr,List.mem_range.mp (List.mem_filter.mp hc).1⟩
def ld_8  {X: KX}(ow:w.Ok)(hw:jaC w.ss w.bs w.P w.wt ys)(ht:TbN w.m w.xs.length t)(hl:cs.length=(spts t w.m w.xs.length).length)(hc:Ths G cs es)(gs:G ps=some (.lst ((spts t w.m w.xs.length).map spU)))(h1:w.gv.findIdx? (gvP t)=none)(h2:w.wt.find? (spP w t)=none){o11 o12 o13 o14 o15 o16 o17 o18 o19:Option U}(q:Due (rsT w t cs) G Q) :
  jas T.gs (jab T (k+2)) jaL ⟨λ_ G'=>Q .non G',Q,λx _ G'=>X x G'⟩ [some w.u,some u,some (jaq w.xs w.ss),some (.int w.P),some (jag w.bs),some (jat w.wt),some (.tup (w.gv.map gU)),some (.int w.m),some (tbU t),some (.tup cs),some (.loc ps),o11,o12,o13,o14,o15,o16,o17,o18,o19] G:=by
 simp! only[jaL,jgX gs];have hn:=jaS (t:=t) ow.m2 ow.x8;rw[Yaa];refine⟨by lia,by lia,?_⟩
 refine jau (λi ς G'=>G'=G/\(∀(j:Nat) b,j<i->((spts t w.m w.xs.length).zip cs)[j]?=some b->chP w t b=false)/\∃o17 o18 o19,ς=[some w.u,some u,some (jaq w.xs w.ss),some (.int w.P),some (jag w.bs),some (jat w.wt),some (.tup (w.gv.map gU)),some (.int w.m),some (tbU t),some (.tup cs),some (.loc ps),o11,o12,o13,o14,o15,o16,o17,o18,o19]) ?_ ?_ ⟨rfl,λj _ h=>absurd h (Ycs j),_,_,_,rfl⟩
 ·rintro ς G2 ⟨rfl,hp,o17,o18,o19,rfl⟩;refine⟨trivial,?_⟩;simp! only[];have e3:((spts t w.m w.xs.length).zip cs).findIdx? (chP w t)=none:=jjj λj b e=>hp j b (by
   have:=(List.getElem?_eq_some_iff.mp e).1;rw[Yen]at this;rw[jao]
   lia) e
  rw[jmo h1 h2 e3]at q;exact q _ Sa.refl
 ·rintro i x ς G2 K hx ⟨rfl,hp,o17,o18,o19,rfl⟩ hk;obtain⟨hi,rfl⟩:=jaG hx;refine⟨trivial,?_⟩;have hi:i<(spts t w.m w.xs.length).length:=by lia
  obtain⟨p',ep⟩:∃p',(spts t w.m w.xs.length)[i]?=some p':=⟨_,Yad hi⟩;obtain⟨c,ec⟩:∃c,cs[i]?=some c:=⟨_,Yad (by lia)⟩
  obtain⟨_,_,hc'⟩:=hc.get ec;have ez:((spts t w.m w.xs.length).zip cs)[i]?=some (p',c):=List.getElem?_zip_eq_some.mpr ⟨ep,ec⟩;have bd:=jhs (Yaq ep);simp! only[];rw[ix_l gs (atM (f:=spU) ep),show spU p'=.tup [.int p'.1,.int p'.2]from rfl];simp! only[];refine⟨trivial,?_⟩;simp! only[];refine ht.ix (r:=p'.1) (c:=p'.2) bd.1 bd.2 ?_;simp! only[];refine⟨by decide,?_⟩
  rw[ix_t (jby ec)];refine jeg (k:=k) (t:=t) (p:=p') ow hw hc' ?_;simp! only[];cases eb:chB w t p' c with
  |true=>
   rw[if_neg (by decide)]
   refine hk _ _ ⟨rfl,λj b hj e=>?_,_,_,_,rfl⟩;rcases Nat.lt_succ_iff_lt_or_eq.mp hj with hj|rfl
   ·exact hp j b hj e
   ·rw[ez]at e;cases e;unfold chP;rw[eb];rfl
  |false=>
   rw[if_pos (by decide)]
   have e3:=jjk ez (p:=chP w t) (by unfold chP;rw[eb];rfl) hp
   rw[jga h1 h2 e3]at q;exact⟨by decide,q _ Sa.refl⟩
def ld_7  {X: KX}(ow:w.Ok)(hw:jaC w.ss w.bs w.P w.wt ys)(ht:TbN w.m w.xs.length t)(hl:cs.length=(spts t w.m w.xs.length).length)(hc:Ths G cs es)(gs:G ps=some (.lst ((spts t w.m w.xs.length).map spU)))(h1:w.gv.findIdx? (gvP t)=none){o11 o12 o13 o14 o15 o16 o17 o18 o19:Option U}(q:Due (rsT w t cs) G Q) :
  jas T.gs (jab T (k+2)) jaM ⟨λ_ G'=>Q .non G',Q,λx _ G'=>X x G'⟩ [some w.u,some u,some (jaq w.xs w.ss),some (.int w.P),some (jag w.bs),some (jat w.wt),some (.tup (w.gv.map gU)),some (.int w.m),some (tbU t),some (.tup cs),some (.loc ps),o11,o12,o13,o14,o15,o16,o17,o18,o19] G:=by
 have p1:=ow.p1;have m2:=ow.m2;simp! only[jaM,jat];refine jau (λi ς G'=>Sa G G'/\(∀(j:Nat) b,j<i->w.wt[j]?=some b->spP w t b=false)/\∃o12 o13 o14 o15 o16,ς=[some w.u,some u,some (jaq w.xs w.ss),some (.int w.P),some (jag w.bs),some (jat w.wt),some (.tup (w.gv.map gU)),some (.int w.m),some (tbU t),some (.tup cs),some (.loc ps),o11,o12,o13,o14,o15,o16,o17,o18,o19]) ?_ ?_ ⟨Sa.refl,λj _ h=>absurd h (Ycs j),_,_,_,_,_,rfl⟩
 ·rintro ς G2 ⟨s2,hp,o12,o13,o14,o15,o16,rfl⟩;refine⟨trivial,?_⟩;refine ld_8 (k:=k) ow hw ht hl (hc.sa s2) (s2 _ _ gs) h1 (jnP λj b e=>hp j b ?_ e) (q.sa s2);rw[Yaa];exact(List.getElem?_eq_some_iff.mp e).1
 ·rintro i x ς G2 K hx ⟨s2,hp,o12,o13,o14,o15,o16,rfl⟩ hk;refine⟨trivial,?_⟩;rw[Yav]at hx;cases ep:w.wt[i]? with
  |none=>rw[ep]at hx;cases hx
  |some s=>
   rw[ep]at hx;cases hx;obtain⟨sp,x,y,at_,dl,el,ok⟩:=jeS ow hw (Yaq ep);rw[el]at ok;simp! only[jaq,ix_t (jbE _ _ _),ix_t (atM at_.s)];rw[show sp.u=.tup [.str sp.w,.int sp.o,.int sp.t,.int sp.lo,.int sp.hi]from rfl];simp! only[jip];refine⟨trivial,?_⟩;refine jgh (k:=k+1) (xs:=w.xs) at_ (by lia) ow.p6 dl ?_
   simp! only[];refine⟨trivial,?_⟩;simp! only[];have es:spB w.m t (wyOf w.P s sp x y)=(YaC (w.m-(wyOf w.P s sp x y).p)).all λi=>decide (gt t i sp.o-(wyOf w.P s sp x y).b<=gt t (i+(wyOf w.P s sp x y).p) sp.t):=rfl;have np:=ok.p;obtain⟨n,hn⟩:∃n,n=(wyOf w.P s sp x y).p:=⟨_,rfl⟩;obtain⟨bb,hb⟩:∃bb,bb=(wyOf w.P s sp x y).b:=⟨_,rfl⟩;rw[<- hn,<- hb]at es ⊢;rw[<- hn]at np;refine⟨by lia,by lia,?_⟩
   have en:((w.m:Int)-(n:Int)).toNat=w.m-n:=by lia
   rw[en];refine⟨by rw[jao];exact Yag (Nat.sub_le _ _) (Yag m2 (by decide)),?_⟩
   refine jal (λj acc G'=>G'=G2/\acc=((YaC j).filter λi=>!decide (gt t i sp.o-bb<=gt t (i+n) sp.t)).map λi:Nat=>U.int (i:Int)) ?_ ?_ ⟨rfl,rfl⟩
   ·rintro acc G3 ⟨rfl,ea⟩;refine⟨trivial,λp4 G4 n4=>⟨by decide,λp5 G5 n5=>?_⟩⟩
    simp! only[];rw[ea,jao]at n4;refine jgw (n:=0) (n5.sa _ _ n4.at) n5.at (λv hv=>by obtain⟨_,_,rfl⟩:=List.mem_map.mp hv;exact Sml.int _) (by decide) ?_
    cases eb:spB w.m t (wyOf w.P s sp x y)with
    |true=>
     have ha:=List.all_eq_true.mp (es.symm.trans eb);rw[show((YaC (w.m-n)).filter λi=>!decide (gt t i sp.o-bb<=gt t (i+n) sp.t))=[]from List.filter_eq_nil_iff.mpr λi hi=>by rw[ha i hi];decide]
     rw[if_neg (by decide)]
     refine hk _ _ ⟨s2.trans (n4.sa.trans n5.sa),λj b hj e=>?_,_,_,_,_,_,rfl⟩;rcases Nat.lt_succ_iff_lt_or_eq.mp hj with hj|rfl
     ·exact hp j b hj e
     ·rw[ep]at e;cases e;unfold spP;rw[el,eb];rfl
    |false=>
     obtain⟨i',hi',hb'⟩:=List.all_eq_false.mp (es.symm.trans eb);rw[show(((YaC (w.m-n)).filter λi=>!decide (gt t i sp.o-bb<=gt t (i+n) sp.t)).map λi:Nat=>U.int (i:Int)).isEmpty=false by
      cases hz:((YaC (w.m-n)).filter λi=>!decide (gt t i sp.o-bb<=gt t (i+n) sp.t))with
      |nil=>exact absurd (List.filter_eq_nil_iff.mp hz i' hi') (by simpa using hb')
      |cons _ _=>rfl]
     rw[if_pos (by decide)]
     have e3:=jlE ep (p:=spP w t) (by unfold spP;rw[el,eb];rfl) hp
     rw[jhz h1 e3]at q;exact⟨by decide,q _ (s2.trans (n4.sa.trans n5.sa))⟩
   ·rintro j z acc G3 K2 hx2 ⟨rfl,ea⟩ hs hn2;obtain⟨hj,rfl⟩:=jaG hx2;refine⟨trivial,?_⟩;simp! only[];rw[show((j:Int)+(n:Int))=((j+n:Nat):Int) by lia]
    refine ht.ix (r:=j+n) (c:=sp.t) (by lia) ok.t ?_
    simp! only[];refine ht.ix (r:=j) (c:=sp.o) (by lia) ok.o ?_
    simp! only[];by_cases c:gt t j sp.o-bb<=gt t (j+n) sp.t
    ·rw[if_neg (by simp;lia)]
     refine hn2 _ ⟨rfl,?_⟩;rw[YbF,YbQ,ea,YeR (by simp;lia)]
     simp
    ·rw[if_pos (by simp;lia)]
     refine hs _ _ ⟨rfl,?_⟩;rw[YbF,YbQ,ea,Yc0 (by simp;lia),YaL]
     rfl


def jnh {l:List (Nat×Nat×Int)}{p:Nat×Nat×Int->Bool}{i:Nat}(h:l.findIdx? p=some i):∃r,(YaC l.length).filter (λj=>match l[j]? with|some g=>p g|none=>false)=i::r:=by
 obtain⟨hi,hp,hn⟩:=List.findIdx?_eq_some_iff_getElem.mp h;obtain⟨m,hm⟩:∃m,l.length=i+(m+1):=⟨l.length-i-1,by lia⟩
 refine⟨(((YaC m).map Nat.succ).map (i + ·)).filter λj=>match l[j]? with|some g=>p g|none=>false,?_⟩
 rw[hm,List.range_add,YbQ,List.range_succ_eq_map,YaM,Ydh,List.filter_eq_nil_iff.mpr λj hj=>by
  have hj:=List.mem_range.mp hj;rw[Yad (by lia)]
  exact hn j hj,YbG,Yc0 (by rw[Yad hi];exact hp)]
def ld_5  {X: KX}(ow:w.Ok)(hw:jaC w.ss w.bs w.P w.wt ys)(ht:TbN w.m w.xs.length t)(hl:cs.length=(spts t w.m w.xs.length).length)(hc:Ths G cs es)(gs:G ps=some (.lst ((spts t w.m w.xs.length).map spU)))(q:Due (rsT w t cs) G Q) :
  jas T.gs (jab T (k+2)) jaN ⟨λ_ G'=>Q .non G',Q,λx _ G'=>X x G'⟩ [some w.u,some u,some (jaq w.xs w.ss),some (.int w.P),some (jag w.bs),some (jat w.wt),some (.tup (w.gv.map gU)),some (.int w.m),some (tbU t),some (.tup cs),some (.loc ps),o11,o12,o13,o14,o15,o16,o17,o18,o19] G:=by
 have gl:=ow.gl;simp! only[jaN];rw[Yaa];refine⟨by lia,by lia,?_⟩
 refine⟨by rw[jao];exact Yag (by simpa using gl) (by decide),?_⟩
 refine jal (λj acc G'=>G'=G/\acc=((YaC j).filter λi=>match w.gv[i]? with|some g=>gvP t g|none=>false).map λi:Nat=>U.int (i:Int)) ?_ ?_ ⟨rfl,rfl⟩
 ·rintro acc G3 ⟨rfl,ea⟩;refine⟨trivial,λp4 G4 n4=>?_⟩;simp! only[];refine⟨by decide,λp5 G5 n5=>?_⟩
  simp! only[];rw[ea,jao]at n4;have n4':G4 p4=some (.lst (((YaC w.gv.length).filter λi=>match w.gv[i]? with|some g=>gvP t g|none=>false).map λi:Nat=>U.int (i:Int))):=by simpa using n4.at
  refine jgw (n:=0) (n5.sa _ _ n4') n5.at (λv hv=>by obtain⟨_,_,rfl⟩:=List.mem_map.mp hv;exact Sml.int _) (by decide) ?_
  have s5:=n4.sa.trans n5.sa;cases ef:w.gv.findIdx? (gvP t)with
  |none=>
   have hz:((YaC w.gv.length).filter λi=>match w.gv[i]? with|some g=>gvP t g|none=>false)=[]:=List.filter_eq_nil_iff.mpr λi hi=>by
    rw[Yad (List.mem_range.mp hi)];dsimp only;exact List.findIdx?_eq_none_iff.mp ef _ (YaQ _) |> λh=>by rw[h];decide
   rw[hz,if_neg (by decide)]
   exact ld_7 (k:=k) ow hw ht hl (hc.sa s5) (s5 _ _ gs) ef (q.sa s5)
  |some i=>
   obtain⟨r,hz⟩:=jnh ef;rw[hz]at n4' ⊢;rw[if_pos (by rfl)]
   simp! only[];rw[ix_l (n5.sa _ _ n4') (jg9 _ _)];simp! only[];rw[jf9 ef]at q;exact⟨by decide,q _ s5⟩
 ·rintro j z acc G3 K2 hx2 ⟨rfl,ea⟩ hs hn2;obtain⟨hj,rfl⟩:=jaG hx2;have hj:j<w.gv.length:=by simpa using hj
  have eg:=Yad hj;have og:=ow.gg _ (YaQ hj);refine⟨trivial,?_⟩;simp! only[ix_t (atM (f:=gU) eg)];rw[show gU w.gv[j]=.tup [.int w.gv[j].1,.int w.gv[j].2.1,.int w.gv[j].2.2]from rfl];simp! only[ix_t (jbE _ _ _),ix_t (jg9 _ _),ix_t (jjv _ _ _ _)];refine ht.ix (r:=w.gv[j].2.1) (c:=w.gv[j].1) og.t og.w ?_;simp! only[ix_t (jjv _ _ _ _)];by_cases c:gt t w.gv[j].2.1 w.gv[j].1<w.gv[j].2.2
  ·rw[if_pos (decide_eq_true c)];refine hs _ _ ⟨rfl,?_⟩;rw[YbF,YbQ,ea,Yc0 (by rw[eg];exact decide_eq_true c),YaL]
   rfl
  ·rw[if_neg (by simpa using c)]
   refine hn2 _ ⟨rfl,?_⟩;rw[YbF,YbQ,ea,YeR (by rw[eg];exact λz=>c (of_decide_eq_true z))]
   simp
def jfp   (ow:w.Ok)(hw:jaC w.ss w.bs w.P w.wt ys)(h:TG G n u)(hn:n<100)(hz:szU u)(hr:Is w u r)(q:Due r G Q):jab T (k+3) jbI [w.u,u] G Q X:=by
 refine⟨rfl,?_⟩;obtain⟨d,h1,h2,h3⟩:=id h;simp! only[jbN,jaj,Yab,Wd.u];refine⟨trivial,?_⟩;simp! only[jaQ h1 (show "tuple" ∈ ["bool", "int", "str", "list", "tuple", "dict"] by decide)]
 have shp:(¬∃t cs,u=.tup [tbU t,.tup cs]/\Pap w t cs)->∀G',Sa G G'->Q (.tup [.str "shape",.int 0]) G':=λhno G' s'=>by
  rcases hr with⟨t,cs,e,p,_⟩|⟨_,e⟩
  ·exact absurd ⟨t,cs,e,p⟩ hno
  ·subst e;exact q G' s'
 cases h1 with
 |@tup us ds hs=>
  rw[show isD (.tuple ds) "tuple" = true from rfl,if_neg (by decide)]
  simp! only[];by_cases c:us.length=2
  ·obtain⟨u0,u1,rfl⟩:∃u0 u1,us=[u0,u1]:=by
    match us,c with
    |[a,b],_=>exact⟨a,b,rfl⟩
   rw[if_neg (by simp)]
   simp! only[Wd.plan,ix_t (jg9 _ _)];rw[Yaa];refine jeO (k:=k) (h.un u0 Yat) hn (hz _ rfl u0 Yat) λG1 s1=>?_;simp! only[];cases et:tabB w.xs.length w.m u0 with
   |false=>
    rw[if_pos (by decide)]
    refine⟨by decide,shp ?_ _ s1⟩
    rintro⟨t,cs,e,p⟩;cases e;rw[jjF p.1]at et;cases et
   |true=>
    rw[if_neg (by decide)]
    obtain⟨t,rfl,ht⟩:=jjI et;simp! only[];refine⟨trivial,?_⟩;simp! only[jbk];refine jgg (k:=k+1) ht ow.m2 ow.x8 λp G2 g2 _ s2=>?_;obtain⟨d1,h1',_,_⟩:=id (h.un u1 (Yal _ Yat));have h1:=h1'.sa (s1.trans s2);simp! only[jaQ h1 (show "tuple" ∈ ["bool", "int", "str", "list", "tuple", "dict"] by decide)]
    cases h1 with
    |@tup cs es hc=>
     rw[show isD (.tuple es) "tuple" = true from rfl,if_neg (by decide)]
     simp! only[jgX g2];rw[Yaa];by_cases hl:cs.length=(spts t w.m w.xs.length).length
     ·rw[if_neg (by simp;lia)]
      have er:r=rsT w t cs:=by
       rcases hr with⟨t',cs',e,_,rfl⟩|⟨hn,_⟩
       ·have e:=Ya1 (U.tup.inj e);rw[jd5 e.1,U.tup.inj (Ya1 e.2).1]
       ·exact absurd ⟨t,cs,rfl,ht,hl⟩ hn
      subst er;exact ld_5 (k:=k) (u:=.tup [tbU t,.tup cs]) ow hw ht hl hc g2 (q.sa (s1.trans s2))
     ·rw[if_pos (by simp;lia)]
      refine⟨by decide,shp ?_ _ (s1.trans s2)⟩
      rintro⟨t',cs',e,p'⟩;have e:=Ya1 (U.tup.inj e);have et:=jd5 e.1;have ec:=U.tup.inj (Ya1 e.2).1;subst et;subst ec;exact hl p'.2
    |_=>exact⟨by decide,shp (λ⟨t,cs,e,_⟩=>(nomatch (Ya1 (Ya1 (U.tup.inj e)).2).1)) _ (s1.trans s2)⟩
  ·rw[if_pos (by simp;lia)]
   exact⟨by decide,shp (λ⟨t,cs,e,_⟩=>c (by rw[U.tup.inj e];rfl)) _ Sa.refl⟩
 |_=>exact⟨by decide,shp (λ⟨t,cs,e,_⟩=>(nomatch e)) _ Sa.refl⟩
def jfo   (ow:w.Ok)(hw:jaC w.ss w.bs w.P w.wt ys)(h:Th G u d)(hz:szU u)(hr:Is w u r)(q:Due r G Q):jab T (k+6) jbH [w.u,u] G Q X:=by
 refine⟨rfl,?_⟩;simp! only[jbM,jaj,Yab,Wd.u];refine⟨trivial,?_⟩;simp! only[];refine jeN (k:=k) ow hw h hz hr ?_;cases r with
 |ok=>
  intro G1 s1;simp! only[];exact q G1 s1
 |no x z=>
  intro G1 s1;refine⟨.inl trivial,?_⟩;simp[hsH,hvH,jbW,lit1,litH,atsH,atH,clsF,clsA,-Yfs];exact q G1 s1

noncomputable def nI  (n:Nat):U:=.int (n:Int)
theorem jdP  : ∀(ys:List Nat) j ,(ys.map nI).eraseIdx j=(ys.eraseIdx j).map nI
 |[],_=>rfl
 |_::_,0=>rfl
 |y::ys,j+1=>by simp[jdP ys j]
def mt_pop     (g:G p=some (.lst us)):mtU .pop (.loc p) G=some ("list", "list.pop"):=by unfold mtU;dsimp only;rw[g]
def jpk   {ys:List Nat}(g:G p=some (.lst (ys.map nI))) hj (hs:ys.length<=30)(q:∀G',Put G p (.lst ((ys.eraseIdx j).map nI)) G'->Q (nI ys[j]) G'):ja6 .pop (.loc p) [.int (j:Int)] G Q:=by
 dsimp only[ja6];unfold popU;dsimp only;rw[g];dsimp only;refine⟨by lia,by lia,?_⟩
 have e:Yed (j:Int) (ys.map nI).length=some j:=by
  have z:¬((j:Int)<0):=by lia
  unfold Yed;simp[hj,z]
 rw[e];dsimp only;rw[Yav,Yad hj];dsimp only[Yeu];rw[jdP];exact q
theorem jdO  {α:Type}:∀{ys:List α} {j } hj ,(ys[j]::ys.eraseIdx j).Perm ys
 |_::_,0,_=>.refl _
 |y::ys,j+1,hj=>by
  have:=jdO (ys:=ys) (j:=j) (by simpa using hj)
  simp only[List.getElem_cons_succ,YeS];exact(List.Perm.swap _ _ _).trans (.cons y this)

def jcs     (hf:Fd G f c)(hn:ns.length<=30)(hx:∀φ ,(∀ok,φ (ns.map nI) ok)->itU x G φ)
  (q:∀p (os:List Nat) G' ,os.Perm ns->G p=none->G' p=some (.lst (os.map nI))->Fd G' f c->Sm f G G'->Q (.loc p) G'):jab T (k+2) jbT [.loc f,x] G Q X:=by
 refine⟨rfl,?_⟩;simp! only[jdm,jaj,Yab];refine hx _ λ_ p2 G1 n1=>?_;simp! only[];refine⟨by decide,λp3 G2 n2=>?_⟩
 have h2:=hf.away n1;have f1:=hf.new n1;have h3:=f1.away n2;have h32:p3≠p2:=jbq n1.at n2.no;have np3:G p3=none:=by
  cases e:G p3 with
  |none=>rfl
  |some o=>have:=n1.sa _ _ e;rw[n2.no]at this;cases this
 dsimp only;rw[S_wh];refine⟨λn ς G'=>∃left found:List Nat,ς=[some (.loc f),some x,some (.loc p2),some (.loc p3)]/\n=left.length/\(found++left).Perm ns/\G' p2=some (.lst (left.map nI))/\G' p3=some (.lst (found.map nI))/\Fd G' f c/\Sm f G G',⟨_,ns,[],rfl,rfl,.refl _,n2.sa _ _ n1.at,n2.at,f1.new n2,(n1.sa.trans n2.sa).sm⟩,?_⟩;rintro n ς G' ⟨left,found,rfl,rfl,pm,g2,g3,f3,s3⟩;have hlen:=pm.length_eq;rw[Yaw]at hlen;simp! only[];refine⟨by decide,λp4 G4 n4=>?_⟩
 simp! only[];refine jgw (n:=0) (n4.sa _ _ g2) n4.at (λv hv=>by obtain⟨_,_,rfl⟩:=List.mem_map.mp hv;exact Sml.int _) (by decide) ?_
 cases left with
 |nil=>
  rw[if_neg (by decide)]
  simp! only[];rw[Ycq]at pm;exact q p3 found G4 pm np3 (n4.sa _ _ g3) (f3.new n4) (s3.nw n4)
 |cons l0 lr=>
  rw[if_pos (by rfl)]
  have g2':=n4.sa _ _ g2;have g3':=n4.sa _ _ g3;simp! only[jeQ g3',mt_pop g2',jgX g2',Yaa];refine jae (f3.new n4) (by simp) (by simp at hlen ⊢;lia) λz G5 a5 b5 f5 s5=>?_
  obtain⟨j,rfl⟩:=YaG a5;have hj:j<(l0::lr).length:=by simp at b5 ⊢;lia
  refine jpk (s5 _ _ h2.1 g2') hj (by simp at hlen ⊢;lia) λG6 w6=>?_
  have g3'':=w6.sm _ _ h32 (s5 _ _ h3.1 g3');rw[jiF g3''];refine⟨by rw[Yaa];exact YbB (show found.length<=30 by lia) (by decide),λG7 w7=>?_⟩
  refine⟨((l0::lr).eraseIdx j).length,by rw[List.length_eraseIdx_of_lt hj];simp,(l0::lr).eraseIdx j,found++[(l0::lr)[j]],trivial,rfl,?_,w7.sm _ _ (Ne.symm h32) w6.at,by rw[w7.at,YaL];rfl,(f5.off h2 w6).off h3 w7,?_⟩
  ·rw[YcT];exact(List.Perm.append_left found (jdO hj)).trans pm
  ·intro b o hb e;have hb3:b≠p3:=λz=>by rw[z,np3]at e;cases e
   have hb2:b≠p2:=λz=>by rw[z,n1.no]at e;cases e
   exact w7.sm _ _ hb3 (w6.sm _ _ hb2 (s5 _ _ hb (n4.sa _ _ (s3 _ _ hb e))))

open Classical in
def jfj {m W:Nat}{ys:List Wy}{gv:List (Nat×Nat×Int)}{R:Tb}(hL:Lst m W ys gv R)(hy:∀y∈ys,y.Ok W)(H:Nat->Nat->Prop)(hA:∀g∈gv,0<g.2.2->gt R g.2.1 g.1=g.2.2->H g.2.1 g.1)
  (hB:∀y∈ys,∀i,i<m-y.p->H i y.o->0<gt R i y.o-y.b->gt R (i+y.p) y.t=gt R i y.o-y.b->H (i+y.p) y.t) {r c:Nat} (hr:r<m) (hc:c<W) (pos:0<gt R r c):H r c:=by
 refine Yd7 λhn=>?_;have h:=hL.le (λr c=>if H r c then gt R r c else max 0 (gt R r c-1)) (λy hm i hi=>?_) (λr c hr hc=>?_) (λg hg=>?_) r c hr hc
 ·dsimp only at h;rw[if_neg hn]at h
  lia
 ·have c1:=hL.cl y hm i hi;have b0:=(hy y hm).b;have t0:=(hL.ok.gt (r:=i+y.p) (c:=y.t) (by lia) (hy y hm).t).1
  dsimp only;by_cases h1:H i y.o
  ·rw[if_pos h1];by_cases h2:H (i+y.p) y.t
   ·rw[if_pos h2];exact c1
   ·rw[if_neg h2];by_cases h3:0<gt R i y.o-y.b
    ·have:gt R (i+y.p) y.t≠gt R i y.o-y.b:=λe=>h2 (hB y hm i hi h1 h3 e)
     lia
    ·lia
  ·rw[if_neg h1];split<;>lia
 ·have:=(hL.ok.gt hr hc).1;split<;>lia
 ·have g1:=hL.ge g hg;split
  ·exact g1
  ·rename_i h1;by_cases h0:0<g.2.2
   ·have:gt R g.2.1 g.1≠g.2.2:=λe=>h1 (hA g hg h0 e)
    lia
   ·lia
noncomputable abbrev kyI  (r c:Nat):List Key:=[.inl (r:Int),.inl (c:Int)]
def jll   (h:kyI r c=kyI r' c'):r=r'/\c=c':=by
 have h:=Ya1 h;have h1:=Ye2 h.1;have h2:=Ye2 (Ya1 h.2).1
 lia
def Cn  (N:Nat)(u:U):Prop:=∃(g:Nat) (row:List Nat),u=.tup [nI g,.tup (row.map nI)]/\g<12/\row.length<=N/\∀s∈row,s<25
structure Kn (m W:Nat)(kvs:List (List Key×U)):Prop where
 nd:(kvs.map (·.1)).Nodup
 ks:∀p∈kvs,∃r c:Nat,r<m/\c<W/\p.1=kyI r c
 vs:∀p∈kvs,Cn kvs.length p.2
def has  (kvs:List (List Key×U))(r c:Nat):Prop:=∃u,dGet kvs (kyI r c)=some u
def jfC   [DecidableEq κ]{k:κ}{u:α}(h:dGet kvs k=some u):(k,u)∈kvs:=by
 unfold dGet at h;cases e:kvs.find? λkv=>decide (kv.1=k)with
 |none=>rw[e]at h;cases h
 |some p=>
  rw[e]at h;have h1:=List.find?_some e;have h2:=YeA e;obtain⟨a,b⟩:=p;simp at h1;cases h;subst h1;exact h2
theorem jjY  : ∀W (l:List Nat),l.Nodup->(∀x∈l,x<W)->l.length<=W
 |0,l,_,h=>by
  cases l with
  |nil=>exact Yah _
  |cons a l=>have:=h a (by simp);lia
 |W+1,l,nd,h=>by
  have ih:=jjY W (l.erase W) (nd.erase _) λx hx=>by
   obtain⟨h1,h2⟩:=nd.mem_erase_iff.mp hx;have:=h x h2
   lia
  by_cases hm:W∈l
  ·rw[List.length_erase_of_mem hm]at ih;lia
  ·rw[List.erase_of_not_mem hm]at ih;lia
noncomputable def kcode  (W:Nat):List Key->Nat
 |[.inl r,.inl c]=>r.toNat*W+c.toNat
 |_=>0
def jk3   {l:List (List Key)}(nd:l.Nodup)(h:∀k∈l,∃r c ,r<m/\c<W/\k=kyI r c):l.length<=m*W:=by
 have hnd:(l.map (kcode W)).Nodup:=List.pairwise_map.mpr (nd.imp_of_mem (by
  intro a b ha hb hne e;refine hne ?_;obtain⟨r,c,hr,hc,rfl⟩:=h a ha;obtain⟨r',c',hr',hc',rfl⟩:=h b hb;have e:r*W+c=r'*W+c':=by simpa[kcode,kyI]using e
  have e1:(r*W+c)/W=r:=by rw[YcK,Nat.mul_add_div (by lia),Nat.div_eq_of_lt hc,Ydh]
  have e2:(r'*W+c')/W=r':=by rw[YcK,Nat.mul_add_div (by lia),Nat.div_eq_of_lt hc',Ydh]
  have er:r=r':=by rw[<- e1,<- e2,e]
  subst er;rw[show c=c' by lia]))
 have hb:∀x∈l.map (kcode W),x<m*W:=by
  intro x hx;obtain⟨k,hk,rfl⟩:=List.mem_map.mp hx;obtain⟨r,c,hr,hc,rfl⟩:=h k hk;have e:kcode W (kyI r c)=r*W+c:=by simp[kcode,kyI]
  rw[e];have:=Ydr W (show r+1<=m by lia)
  rw[Nat.add_mul]at this
  lia
 have:=jjY (m*W) _ hnd hb
 rwa [Yaa]at this
def Kn.len    (h:Kn m W kvs)(hm:m<=12)(hW:W<=8):kvs.length<=96:=by
 have:=jk3 (m:=m) (W:=W) h.nd λk hk=>by
  obtain⟨p,hp,rfl⟩:=List.mem_map.mp hk;exact h.ks p hp
 rw[Yaa]at this;exact Yag this (Ydw hm hW)
def jgC   {k:List Key}{v:U}(h:dGet kvs k=none):dPut kvs k v=kvs++[(k,v)]:=by
 unfold dPut;rw[if_neg];intro z;obtain⟨p,hp,hk⟩:=List.any_eq_true.mp z;unfold dGet at h;rw[YeK]at h;exact List.find?_eq_none.mp h p hp hk
def Kn.put    (h:Kn m W kvs)(hr:r<m)(hc:c<W)(hv:∀N,kvs.length<=N->(dGet kvs (kyI r c)=none->kvs.length+1<=N)->Cn N v):Kn m W (dPut kvs (kyI r c) v)/\kvs.length<=(dPut kvs (kyI r c) v).length:=by
 cases e:dGet kvs (kyI r c)with
 |none=>
  rw[jgC e];refine⟨⟨?_,λp hp=>?_,λp hp=>?_⟩,by simp⟩
  ·rw[YaL];refine List.nodup_append.mpr ⟨h.nd,by simp,λa ha b hb z=>?_⟩
   subst z;obtain⟨p,hp,rfl⟩:=List.mem_map.mp ha;have hb:p.1=kyI r c:=by simpa using hb
   unfold dGet at e;rw[YeK]at e;exact List.find?_eq_none.mp e p hp (decide_eq_true hb)
  ·rcases List.mem_append.mp hp with hp|hp
   ·exact h.ks p hp
   ·rw[List.mem_singleton.mp hp];exact⟨r,c,hr,hc,rfl⟩
  ·rw[Yaw,YaW];rcases List.mem_append.mp hp with hp|hp
   ·obtain⟨g,row,e1,e2,e3,e4⟩:=h.vs p hp;exact⟨g,row,e1,e2,by lia,e4⟩
   ·rw[List.mem_singleton.mp hp];exact hv _ (by lia) λ_=>by lia
 |some u=>
  have hp:dPut kvs (kyI r c) v=kvs.map λkv=>if kv.1=kyI r c then (kv.1,v) else kv:=by
   unfold dPut;rw[if_pos];exact List.any_eq_true.mpr ⟨_,jfC e,by simp⟩
  have e1:(kvs.map λkv=>if kv.1=kyI r c then (kv.1,v) else kv).map (·.1)=kvs.map (·.1):=by
   rw[List.map_map];refine YfB λp _=>?_;show(if p.1=kyI r c then (p.1,v) else p).1=p.1
   split<;>rfl
  rw[hp];refine⟨⟨by rw[e1];exact h.nd,λp hp=>?_,λp hp=>?_⟩,by simp⟩
  ·obtain⟨p',hp',rfl⟩:=List.mem_map.mp hp;obtain⟨r',c',h1,h2,h3⟩:=h.ks p' hp';refine⟨r',c',h1,h2,?_⟩;split<;>exact h3
  ·obtain⟨p',hp',rfl⟩:=List.mem_map.mp hp;rw[Yaa];split
   ·exact hv _ (Yah _) λz=>by rw[e]at z;cases z
   ·exact h.vs p' hp'
def jfA     : has (dPut kvs (kyI r c) v) r' c'↔(r'=r/\c'=c)\/has kvs r' c':=by
 unfold has;rw[jjo];split
 ·rename_i e;exact⟨λ_=>.inl (jll e),λ_=>⟨v,rfl⟩⟩
 ·rename_i e;constructor
  ·exact λh=>.inr h
  ·rintro(⟨rfl,rfl⟩|h)
   ·exact absurd rfl e
   ·exact h
def Kn.nil   : Kn m W []:=⟨Yez,λp h=>(nomatch h),λp h=>(nomatch h)⟩
def okAt  (R:Tb)(kvs:List (List Key×U))(y:Wy)(i:Nat):Prop:=has kvs i y.o->0<gt R i y.o-y.b->gt R (i+y.p) y.t=gt R i y.o-y.b->has kvs (i+y.p) y.t
def jnj    (ow:w.Ok)(hw:jaC w.ss w.bs w.P w.wt ys)(h:y∈ys):∃s∈w.wt,lg w s=y:=by
 obtain⟨i,hi⟩:=List.mem_iff_getElem?.mp h;obtain⟨hl,hg⟩:=jd2 hw;have hlt:i<w.wt.length:=by have:=(List.getElem?_eq_some_iff.mp hi).1;lia
 have es:=Yad hlt;obtain⟨sp,x,y',a,d,e⟩:=hg i _ es;refine⟨w.wt[i],YaQ hlt,?_⟩;rw[hi]at e;cases e;unfold lg;rw[a.s];dsimp only;rw[show w.bs.getD sp.o 0=x by rw[YaD,a.x];rfl,show w.bs.getD sp.t 0=y' by rw[YaD,a.y];rfl]


def Stp  (w:Wd)(R:Tb)(kvs kvs':List (List Key×U))(fl fl':Bool)(ok:Prop):Prop:=Kn w.m w.xs.length kvs'/\(∀r c,has kvs r c->has kvs' r c)/\((fl'=fl/\kvs'=kvs/\ok)\/(fl'=true/\kvs.length<kvs'.length))
def jlK  (ow:w.Ok)(hw:jaC w.ss w.bs w.P w.wt ys)(hR:TbOk w.m w.xs.length R)(kn:Kn w.m w.xs.length kvs)(hs:s∈w.wt)(hj:j<w.m-(lg w s).p){o10 o11 o13 o21 o22:Option U}
  (q:∀kvs' fl' o10' o13' o21' o22',Stp w R kvs kvs' fl fl' (okAt R kvs (lg w s) j)->K [some (.loc f),some w.u,some (tbU R),some (jaq w.xs w.ss),some (.int w.P),some (jag w.bs),some (jat w.wt),some (.tup (w.gv.map gU)),some (.int w.m),some (.loc a),o10',o11,some (.int j),o13',some (.loc pl),some (.bl fl'),some (.int s),some (.int (lg w s).o),some (.int (lg w s).t),some (.int (lg w s).p),some (.int (lg w s).b),o21',o22'] (gup G a (.dT kvs'))) :
  jas T.gs (jab T (k+2)) jav ⟨K,Q',X'⟩ [some (.loc f),some w.u,some (tbU R),some (jaq w.xs w.ss),some (.int w.P),some (jag w.bs),some (jat w.wt),some (.tup (w.gv.map gU)),some (.int w.m),some (.loc a),o10,o11,some (.int j),o13,some (.loc pl),some (.bl fl),some (.int s),some (.int (lg w s).o),some (.int (lg w s).t),some (.int (lg w s).p),some (.int (lg w s).b),o21,o22] (gup G a (.dT kvs)):=by
 obtain⟨sp,x,y,at_,dl,el,ok⟩:=jeS ow hw hs;have m2:=ow.m2;have ht:=hR.tn;simp! only[jav];refine ht.ix (r:=j) (c:=(lg w s).o) (by lia) ok.o ?_
 simp! only[];rw[jnE jap];refine⟨by decide,?_⟩
 have stay:∀o10' o13' o21' o22',okAt R kvs (lg w s) j->K [some (.loc f),some w.u,some (tbU R),some (jaq w.xs w.ss),some (.int w.P),some (jag w.bs),some (jat w.wt),some (.tup (w.gv.map gU)),some (.int w.m),some (.loc a),o10',o11,some (.int j),o13',some (.loc pl),some (.bl fl),some (.int s),some (.int (lg w s).o),some (.int (lg w s).t),some (.int (lg w s).p),some (.int (lg w s).b),o21',o22'] (gup G a (.dT kvs)):=λ_ _ _ _ h=>q kvs fl _ _ _ _ ⟨kn,λ_ _ z=>z,.inl ⟨rfl,rfl,h⟩⟩;cases e1:dGet kvs [Sum.inl (j:Int),Sum.inl ((lg w s).o:Int)]with
 |none=>
  rw[if_neg (by decide)]
  simp! only[];exact stay _ _ _ _ λ⟨u,h⟩=>by rw[e1]at h;cases h
 |some u=>
  rw[if_pos (show(some u).isSome=true from rfl),show((j:Int)+((lg w s).p:Int))=((j+(lg w s).p:Nat):Int) by lia,jnE jap]
  refine⟨by decide,?_⟩
  cases e2:dGet kvs [Sum.inl ((j+(lg w s).p:Nat):Int),Sum.inl ((lg w s).t:Int)]with
  |some v=>
   rw[if_neg (by simp)]
   simp! only[];exact stay _ _ _ _ λ_ _ _=>⟨v,e2⟩
  |none=>
   rw[if_pos (by decide)]
   by_cases c1:0<gt R j (lg w s).o-(lg w s).b
   ·rw[if_pos (decide_eq_true c1)];refine ht.ix (r:=j+(lg w s).p) (c:=(lg w s).t) (by lia) ok.t ?_
    simp! only[];by_cases c2:gt R (j+(lg w s).p) (lg w s).t=gt R j (lg w s).o-(lg w s).b
    ·rw[if_pos (decide_eq_true c2)];refine⟨by decide,?_⟩
     rw[jnz jap e1];obtain⟨g,row,rfl,hg,hrow,hrs⟩:=kn.vs _ (jfC e1);simp! only[];refine⟨trivial,?_⟩;simp! only[];have kl:=kn.len m2 ow.x8;have hss:=ow.ww s hs;have h25:=ow.s25;refine⟨by decide,by rw[Yaa];exact Yag (show row.length+(0+1)<=97 by lia) (by decide),by decide,by decide,?_⟩
     rw[show((j:Int)+((lg w s).p:Int))=((j+(lg w s).p:Nat):Int) by lia,jjN jap]
     refine⟨YbB kl (by decide),?_⟩
     rw[jcX,jen,show(row.map nI++[U.int (s:Int)])=(row++[s]).map nI by rw[YaL];rfl]
     have hput:=kn.put (r:=j+(lg w s).p) (c:=(lg w s).t) (by lia) ok.t (v:=.tup [nI g,.tup ((row++[s]).map nI)]) λN h1 h2=>⟨g,row++[s],rfl,hg,by
      have:=h2 e2;rw[Yaw,YaW]
      lia,λz hz=>by
      rcases List.mem_append.mp hz with hz|hz
      ·exact hrs z hz
      ·rw[List.mem_singleton.mp hz];lia⟩
     exact q _ true _ _ _ _ ⟨hput.1,λr c h=>jfA.mpr (.inr h),.inr ⟨rfl,by rw[jgC e2,Yaw,YaW];lia⟩⟩
    ·rw[if_neg (by simpa using c2)]
     exact stay _ _ _ _ λ_ _ h=>absurd h c2
   ·rw[if_neg (by simpa using c1)]
    exact stay _ _ _ _ λ_ h=>absurd h c1
def jnZ  (ow:w.Ok)(hw:jaC w.ss w.bs w.P w.wt ys)(hR:TbOk w.m w.xs.length R)(kn:Kn w.m w.xs.length kvs)(hs:s∈w.wt){o10 o11 o12 o13 o21 o22:Option U}
  (q:∀kvs' fl' o10 o12 o13 o21 o22,Stp w R kvs kvs' fl fl' (∀j,j<w.m-(lg w s).p->okAt R kvs (lg w s) j)->K [some (.loc f),some w.u,some (tbU R),some (jaq w.xs w.ss),some (.int w.P),some (jag w.bs),some (jat w.wt),some (.tup (w.gv.map gU)),some (.int w.m),some (.loc a),o10,o11,o12,o13,some (.loc pl),some (.bl fl'),some (.int s),some (.int (lg w s).o),some (.int (lg w s).t),some (.int (lg w s).p),some (.int (lg w s).b),o21,o22] (gup G a (.dT kvs'))) :
  jas T.gs (jab T (k+2)) jaz ⟨K,Q',X'⟩ [some (.loc f),some w.u,some (tbU R),some (jaq w.xs w.ss),some (.int w.P),some (jag w.bs),some (jat w.wt),some (.tup (w.gv.map gU)),some (.int w.m),some (.loc a),o10,o11,o12,o13,some (.loc pl),some (.bl fl),some (.int s),some (.int (lg w s).o),some (.int (lg w s).t),some (.int (lg w s).p),some (.int (lg w s).b),o21,o22] (gup G a (.dT kvs)):=by
 obtain⟨sp,x,y,at_,dl,el,ok⟩:=jeS ow hw hs;have m2:=ow.m2;have np:=ok.p;simp! only[jaz];refine⟨by lia,by lia,?_⟩
 refine jau (λi ς G'=>∃kvs' fl' o10 o12 o13 o21 o22,ς=[some (.loc f),some w.u,some (tbU R),some (jaq w.xs w.ss),some (.int w.P),some (jag w.bs),some (jat w.wt),some (.tup (w.gv.map gU)),some (.int w.m),some (.loc a),o10,o11,o12,o13,some (.loc pl),some (.bl fl'),some (.int s),some (.int (lg w s).o),some (.int (lg w s).t),some (.int (lg w s).p),some (.int (lg w s).b),o21,o22]/\G'=gup G a (.dT kvs')/\Stp w R kvs kvs' fl fl' (∀j,j<i->okAt R kvs (lg w s) j)) ?_ ?_ ⟨kvs,fl,o10,o12,o13,o21,o22,rfl,rfl,kn,λ_ _ h=>h,.inl ⟨rfl,rfl,λj h=>absurd h (Ycs j)⟩⟩
 ·rintro ς G' ⟨kvs',fl',o10,o12,o13,o21,o22,rfl,rfl,h⟩;refine⟨trivial,?_⟩;rw[jao]at h;refine q kvs' fl' _ _ _ _ _ ?_;have e:((w.m:Int)-((lg w s).p:Int)).toNat=w.m-(lg w s).p:=by lia
  rw[e]at h;exact h
 ·rintro i z ς G' KK hz ⟨kvs',fl',o10,o12,o13,o21,o22,rfl,rfl,kn',mo,h⟩ hk;obtain⟨hi,rfl⟩:=jaG hz;refine⟨trivial,?_⟩;refine jlK (k:=k) ow hw hR kn' hs (by lia) λkvs'' fl'' o10' o13' o21' o22' hst=>?_
  obtain⟨kn'',mo',h'⟩:=hst;refine hk _ _ ⟨kvs'',fl'',_,_,_,_,_,rfl,rfl,kn'',λr c z=>mo' r c (mo r c z),?_⟩;rcases h' with⟨rfl,rfl,h2⟩|⟨rfl,hl⟩
  ·rcases h with⟨rfl,rfl,h1⟩|h
   ·refine .inl ⟨rfl,rfl,λj hj=>?_⟩;rcases Nat.lt_succ_iff_lt_or_eq.mp hj with hj|rfl
    ·exact h1 j hj
    ·exact h2
   ·exact .inr h
  ·refine .inr ⟨rfl,?_⟩;rcases h with⟨_,rfl,_⟩|⟨_,h⟩
   ·exact hl
   ·lia
def jlL  (ow:w.Ok)(hw:jaC w.ss w.bs w.P w.wt ys)(hR:TbOk w.m w.xs.length R)(kn:Kn w.m w.xs.length kvs){os:List Nat}(hos:∀s∈os,s∈w.wt)(hpa:pl≠a)(gl:G pl=some (.lst (os.map λs=>wyU (lg w s)))){o10 o11 o12 o13 o16 o17 o18 o19 o20 o21 o22:Option U}
  (q:∀kvs' fl' o10 o12 o13 o16 o17 o18 o19 o20 o21 o22,Stp w R kvs kvs' fl fl' (∀s∈os,∀j,j<w.m-(lg w s).p->okAt R kvs (lg w s) j)->K [some (.loc f),some w.u,some (tbU R),some (jaq w.xs w.ss),some (.int w.P),some (jag w.bs),some (jat w.wt),some (.tup (w.gv.map gU)),some (.int w.m),some (.loc a),o10,o11,o12,o13,some (.loc pl),some (.bl fl'),o16,o17,o18,o19,o20,o21,o22] (gup G a (.dT kvs'))) :
  jas T.gs (jab T (k+2)) jaF ⟨K,Q',X'⟩ [some (.loc f),some w.u,some (tbU R),some (jaq w.xs w.ss),some (.int w.P),some (jag w.bs),some (jat w.wt),some (.tup (w.gv.map gU)),some (.int w.m),some (.loc a),o10,o11,o12,o13,some (.loc pl),some (.bl fl),o16,o17,o18,o19,o20,o21,o22] (gup G a (.dT kvs)):=by
 have gl':∀kvs',gup G a (.dT kvs') pl=some (.lst (os.map λs=>wyU (lg w s))):=λkvs'=>by rw[jaW hpa];exact gl
 simp! only[jaF,it_l (gl' kvs)];refine jau (λi ς G'=>∃kvs' fl' o10 o12 o13 o16 o17 o18 o19 o20 o21 o22,ς=[some (.loc f),some w.u,some (tbU R),some (jaq w.xs w.ss),some (.int w.P),some (jag w.bs),some (jat w.wt),some (.tup (w.gv.map gU)),some (.int w.m),some (.loc a),o10,o11,o12,o13,some (.loc pl),some (.bl fl'),o16,o17,o18,o19,o20,o21,o22]/\G'=gup G a (.dT kvs')/\Stp w R kvs kvs' fl fl' (∀s∈os.take i,∀j,j<w.m-(lg w s).p->okAt R kvs (lg w s) j)) ?_ ?_ ⟨kvs,fl,o10,o12,o13,o16,o17,o18,o19,o20,o21,o22,rfl,rfl,kn,λ_ _ h=>h,.inl ⟨rfl,rfl,λs h=>(nomatch h)⟩⟩
 ·rintro ς G' ⟨kvs',fl',o10,o12,o13,o16,o17,o18,o19,o20,o21,o22,rfl,rfl,h⟩;rw[Yaa,Ybg]at h;exact⟨jbC (gl' kvs'),q kvs' fl' _ _ _ _ _ _ _ _ _ _ h⟩
 ·rintro i z ς G' KK hz ⟨kvs',fl',o10,o12,o13,o16,o17,o18,o19,o20,o21,o22,rfl,rfl,kn',mo,h⟩ hk;refine⟨jbC (gl' kvs'),?_⟩;rw[Yav]at hz;cases es:os[i]? with
  |none=>rw[es]at hz;cases hz
  |some s=>
   rw[es]at hz;cases hz;have hs:=hos s (Yaq es);have e0:wyU (lg w s)=.tup [.int (s:Int),.int (lg w s).o,.int (lg w s).t,.int (lg w s).p,.int (lg w s).b]:=by
    obtain⟨sp,x,y,at_,dl,el,ok⟩:=jeS ow hw hs;rw[el];rfl
   dsimp only;rw[e0];simp! only[];refine⟨trivial,?_⟩;refine jnZ (k:=k) ow hw hR kn' hs λkvs'' fl'' o10' o12' o13' o21' o22' hst=>?_;obtain⟨kn'',mo',h'⟩:=hst;refine hk _ _ ⟨kvs'',fl'',_,_,_,_,_,_,_,_,_,_,rfl,rfl,kn'',λr c z=>mo' r c (mo r c z),?_⟩;rcases h' with⟨rfl,rfl,h2⟩|⟨rfl,hl⟩
   ·rcases h with⟨rfl,rfl,h1⟩|h
    ·refine .inl ⟨rfl,rfl,λs' hs'=>?_⟩;rw[Ybq,es]at hs';rcases List.mem_append.mp hs' with hs'|hs'
     ·exact h1 s' hs'
     ·rw[List.mem_singleton.mp hs'];exact h2
    ·exact .inr h
   ·refine .inr ⟨rfl,?_⟩;rcases h with⟨_,rfl,_⟩|⟨_,h⟩
    ·exact hl
    ·lia


def KA2  (w:Wd)(R:Tb)(l:List Nat)(kvs:List (List Key×U)):Prop:=∀i∈l,∀g,w.gv[i]?=some g->0<g.2.2->gt R g.2.1 g.1=g.2.2->has kvs g.2.1 g.1
def jiL     (h:p∈spts t m W):0<gt t p.1 p.2:=by
 unfold spts at h;obtain⟨r,hr,h⟩:=List.mem_flatMap.mp h;unfold spt at h;obtain⟨c,hc,rfl⟩:=List.mem_map.mp h;exact of_decide_eq_true (List.mem_filter.mp hc).2
def ch_6  {X: KX}{w: Wd}(ow:w.Ok)(hR:TbOk w.m w.xs.length R)(kn:Kn w.m w.xs.length kvs)(ga:G a=some (.dT kvs))(hk:∀r c,r<w.m->c<w.xs.length->0<gt R r c->has kvs r c){o10 o11 o12 o13 o14 o15 o16 o17 o18 o19 o20 o21 o22:Option U}
  (q:∀p (us:List U) G' ,us.length=(spts R w.m w.xs.length).length->(∀u∈us,Cn 96 u)->G p=none->G' p=some (.lst us)->Sa G G'->Q (.loc p) G') :
  jas T.gs (jab T (k+2)) ja1 ⟨λ_ G'=>Q .non G',Q,λx _ G'=>X x G'⟩ [some (.loc f),some w.u,some (tbU R),some (jaq w.xs w.ss),some (.int w.P),some (jag w.bs),some (jat w.wt),some (.tup (w.gv.map gU)),some (.int w.m),some (.loc a),o10,o11,o12,o13,o14,o15,o16,o17,o18,o19,o20,o21,o22] G:=by
 have kl:=kn.len ow.m2 ow.x8;simp! only[ja1];refine jgg (k:=k+1) hR.tn ow.m2 ow.x8 λp G1 g1 n1 s1=>?_;simp! only[it_l g1];have hn:=jaS (t:=R) ow.m2 ow.x8;refine⟨by rw[Yaa];exact Yag hn (by decide),?_⟩
 refine jal (λj acc G'=>G'=G1/\acc.length=j/\∀u∈acc,Cn 96 u) ?_ ?_ ⟨rfl,rfl,λ_ h=>(nomatch h)⟩
 ·rintro acc G2 ⟨rfl,hl,hc⟩;refine⟨jbC g1,λp3 G3 n3=>?_⟩;refine q p3 acc G3 (by rw[hl,Yaa]) hc ?_ n3.at (s1.trans n3.sa)
  cases e:G p3 with
  |none=>rfl
  |some o=>have:=s1 _ _ e;rw[n3.no]at this;cases this
 ·rintro j z acc G2 KK hz ⟨rfl,hl,hc⟩ hs hn2;refine⟨jbC g1,?_⟩;rw[Yav]at hz;cases ep:(spts R w.m w.xs.length)[j]? with
  |none=>rw[ep]at hz;cases hz
  |some p'=>
   rw[ep]at hz;cases hz;have bd:=jhs (Yaq ep);have ps:0<gt R p'.1 p'.2:=jiL (Yaq ep);obtain⟨u,hu⟩:=hk p'.1 p'.2 bd.1 bd.2 ps;show ixU (.loc a) (spU p') G2 _;unfold spU;rw[jnz (s1 _ _ ga) hu];refine hs _ _ ⟨rfl,by rw[Yaw,hl];rfl,λv hv=>?_⟩
   rcases List.mem_append.mp hv with hv|hv
   ·exact hc v hv
   ·rw[List.mem_singleton.mp hv];obtain⟨g,row,e1,e2,e3,e4⟩:=kn.vs _ (jfC hu);exact⟨g,row,e1,e2,by lia,e4⟩
def ch_5  {X: KX}(ow:w.Ok)(hw:jaC w.ss w.bs w.P w.wt ys)(hL:Lst w.m w.xs.length ys w.gv R)(kn:Kn w.m w.xs.length kvs)(hA:KA2 w R (YaC w.gv.length) kvs){os:List Nat}(hos:os.Perm w.wt)(hpa:pl≠a)(ga:G a=some (.dT kvs))(gl:G pl=some (.lst (os.map λs=>wyU (lg w s)))){o10 o11 o12 o13 o16 o17 o18 o19 o20 o21 o22:Option U}
  (q:∀p (us:List U) G' ,us.length=(spts R w.m w.xs.length).length->(∀u∈us,Cn 96 u)->G p=none->G' p=some (.lst us)->(∀b o,b≠a->G b=some o->G' b=some o)->Q (.loc p) G') :
  jas T.gs (jab T (k+2)) ja2 ⟨λ_ G'=>Q .non G',Q,λx _ G'=>X x G'⟩ [some (.loc f),some w.u,some (tbU R),some (jaq w.xs w.ss),some (.int w.P),some (jag w.bs),some (jat w.wt),some (.tup (w.gv.map gU)),some (.int w.m),some (.loc a),o10,o11,o12,o13,some (.loc pl),some (.bl true),o16,o17,o18,o19,o20,o21,o22] G:=by
 have hy:∀y∈ys,y.Ok w.xs.length:=jew (by have:=ow.p1;lia) ow.p6 ow.so ow.bb hw
 simp! only[ja2];rw[S_wh];refine⟨λn ς G'=>∃kvs' fl o10 o12 o13 o16 o17 o18 o19 o20 o21 o22,ς=[some (.loc f),some w.u,some (tbU R),some (jaq w.xs w.ss),some (.int w.P),some (jag w.bs),some (jat w.wt),some (.tup (w.gv.map gU)),some (.int w.m),some (.loc a),o10,o11,o12,o13,some (.loc pl),some (.bl fl),o16,o17,o18,o19,o20,o21,o22]/\G'=gup G a (.dT kvs')/\Kn w.m w.xs.length kvs'/\KA2 w R (YaC w.gv.length) kvs'/\(fl=true->n=97-kvs'.length)/\(fl=false->n=0/\∀s∈os,∀j,j<w.m-(lg w s).p->okAt R kvs' (lg w s) j),⟨_,kvs,true,_,_,_,_,_,_,_,_,_,_,rfl,jjg ga,kn,hA,λ_=>rfl,λz=>(nomatch z)⟩,?_⟩;rintro n ς G' ⟨kvs',fl,o10,o12,o13,o16,o17,o18,o19,o20,o21,o22,rfl,rfl,kn',hA',hT,hF⟩;have kl:=kn'.len ow.m2 ow.x8;simp! only[];cases fl with
 |false=>
  rw[if_neg (by decide)]
  obtain⟨_,hC⟩:=hF rfl;refine ch_6 (k:=k) ow hL.ok kn' jap (λr c hr hc pos=>?_) λp us G1 h1 h2 h3 h4 h5=>?_
  ·refine jfj hL hy (has kvs') (λg hg h0 e=>?_) (λy hm i hi h0 h1 h2=>?_) hr hc pos
   ·obtain⟨i,hi⟩:=List.mem_iff_getElem?.mp hg;exact hA' i (List.mem_range.mpr (List.getElem?_eq_some_iff.mp hi).1) g hi h0 e
   ·obtain⟨s,hs,rfl⟩:=jnj ow hw hm;exact hC s (hos.mem_iff.mpr hs) i hi h0 h1 h2
  ·refine q p us G1 h1 h2 ?_ h4 λb o hb e=>h5 _ _ (by rw[jaW hb];exact e)
   have hpa':p≠a:=λz=>by rw[z,jap]at h3;cases h3
   rw[jaW hpa']at h3;exact h3
 |true=>
  rw[if_pos rfl];simp! only[];refine jlL (k:=k) ow hw hL.ok kn' (λs hs=>hos.mem_iff.mp hs) hpa gl λkvs'' fl'' o10' o12' o13' o16' o17' o18' o19' o20' o21' o22' hst=>?_;obtain⟨kn'',mo,h⟩:=hst;have kl'':=kn''.len ow.m2 ow.x8;have hn:=hT rfl;refine⟨if fl''=true then 97-kvs''.length else 0,?_,kvs'',fl'',_,_,_,_,_,_,_,_,_,_,rfl,rfl,kn'',λi hi g e h0 e1=>mo _ _ (hA' i hi g e h0 e1),λz=>by rw[if_pos z],λz=>⟨by rw[z];rfl,?_⟩⟩
  ·rcases h with⟨rfl,rfl,_⟩|⟨rfl,hl⟩
   ·rw[if_neg (by decide)];lia
   ·rw[if_pos rfl];lia
  ·rcases h with⟨_,rfl,hC⟩|⟨e,_⟩
   ·exact hC
   ·rw[e]at z;cases z


def jot {gs:List U}{Δ:Cl}{ς:Sg}{G:Gp}{Q:K1}{X:KX}{e:E}:(den gs Δ (.rngL e)).1 ς G Q X=(den gs Δ e).1 ς G (λx G1=>match x with|.int j=>0<=j/\j<=1000000/\newO G1 (.lst (rngU 0 j.toNat)) Q|_=>False) X:=rfl
def jmp   n:rngU 0 n=(YaC n).map nI:=by
 unfold rngU nI;exact YfB λi _=>by rw[Int.zero_add]
def ch_3  {X: KX}(ow:w.Ok)(hw:jaC w.ss w.bs w.P w.wt ys)(hL:Lst w.m w.xs.length ys w.gv R)(kn:Kn w.m w.xs.length kvs)(hA:KA2 w R (YaC w.gv.length) kvs)(hf:Fd G f c)(ha:a≠f/\a≠c)(ga:G a=some (.dT kvs)){o10 o11 o12 o13 o14 o15 o16 o17 o18 o19 o20 o21 o22:Option U}
  (q:∀p (us:List U) G' ,us.length=(spts R w.m w.xs.length).length->(∀u∈us,Cn 96 u)->G p=none->G' p=some (.lst us)->Fd G' f c->(∀b o,b≠f->b≠a->G b=some o->G' b=some o)->Q (.loc p) G') :
  jas T.gs (jab T (k+2)) ja3 ⟨λ_ G'=>Q .non G',Q,λx _ G'=>X x G'⟩ [some (.loc f),some w.u,some (tbU R),some (jaq w.xs w.ss),some (.int w.P),some (jag w.bs),some (jat w.wt),some (.tup (w.gv.map gU)),some (.int w.m),some (.loc a),o10,o11,o12,o13,o14,o15,o16,o17,o18,o19,o20,o21,o22] G:=by
 have p1:=ow.p1;have wl:=ow.wl;simp! only[ja3];refine jcs (k:=k) hf (by lia) (λφ h=>h _) λp os G1 pm np g1 f1 s1=>?_
 have ol:=pm.length_eq;simp! only[it_l g1];refine⟨by rw[Yaa];exact Yag (show os.length<=30 by lia) (by decide),?_⟩
 refine jal (λi acc G'=>G'=G1/\acc=(os.take i).map λs=>wyU (lg w s)) ?_ ?_ ⟨rfl,rfl⟩
 ·rintro acc G2 ⟨rfl,ea⟩;refine⟨jbC g1,λp3 G3 n3=>?_⟩;rw[ea,Yaa,Ybg]at n3;simp! only[];have ga1:=s1 _ _ ha.1 ga;refine ch_5 (k:=k) (pl:=p3) ow hw hL kn hA pm (jbq ga1 n3.no) (n3.sa _ _ ga1) n3.at λp4 us G4 h1 h2 h3 h4 h5=>?_;have np4:G p4=none\/p4=f:=by
   cases e:G p4 with
   |none=>exact .inl rfl
   |some o=>
    by_cases z:p4=f
    ·exact .inr z
    ·have:=n3.sa _ _ (s1 _ _ z e);rw[h3]at this;cases this
  have nf:p4≠f:=λz=>by
   obtain⟨ns,x,l,t,e1,_⟩:=(f1.new n3).ex;rw[<- z,h3]at e1;cases e1
  refine q p4 us G4 h1 h2 (np4.resolve_right nf) h4 ?_ λb o hb hb' e=>h5 _ _ hb' (n3.sa _ _ (s1 _ _ hb e));obtain⟨ns,x,l,t,e1,e2,e3⟩:=(f1.new n3).ex;exact⟨ns,x,l,t,h5 _ _ (Ne.symm ha.1) e1,h5 _ _ (Ne.symm ha.2) e2,e3⟩
 ·rintro i z acc G2 KK hz ⟨rfl,ea⟩ hs hn2;refine⟨jbC g1,?_⟩;rw[Yav]at hz;cases es:os[i]? with
  |none=>rw[es]at hz;cases hz
  |some s=>
   rw[es]at hz;cases hz;obtain⟨sp,x,y,at_,dl,el,ok⟩:=jeS ow hw (pm.mem_iff.mp (Yaq es));rw[show nI s=.int (s:Int)from rfl];simp! only[jaq,ix_t (jbE _ _ _),ix_t (atM at_.s)];rw[show sp.u=.tup [.str sp.w,.int sp.o,.int sp.t,.int sp.lo,.int sp.hi]from rfl];simp! only[jip];refine⟨by decide,by decide,?_⟩
   refine jgh (k:=k+1) (xs:=w.xs) at_ (by lia) ow.p6 dl ?_
   simp! only[];refine⟨by decide,hs _ _ ⟨rfl,?_⟩⟩
   rw[Ybq,es,YaL,ea];show _++[_]=_++[wyU (lg w s)];rw[el];rfl
def ch_2  {X: KX}{w: Wd}(ow:w.Ok)(hw:jaC w.ss w.bs w.P w.wt ys)(hL:Lst w.m w.xs.length ys w.gv R)(hf:Fd G f c)(ha:a≠f/\a≠c)(ga:G a=some (.dT [])){o10 o11 o12 o13 o14 o15 o16 o17 o18 o19 o20 o21 o22:Option U}
  (q:∀p (us:List U) G' ,us.length=(spts R w.m w.xs.length).length->(∀u∈us,Cn 96 u)->G p=none->G' p=some (.lst us)->Fd G' f c->(∀b o,b≠f->b≠a->G b=some o->G' b=some o)->Q (.loc p) G') :
  jas T.gs (jab T (k+2)) ja4 ⟨λ_ G'=>Q .non G',Q,λx _ G'=>X x G'⟩ [some (.loc f),some w.u,some (tbU R),some (jaq w.xs w.ss),some (.int w.P),some (jag w.bs),some (jat w.wt),some (.tup (w.gv.map gU)),some (.int w.m),some (.loc a),o10,o11,o12,o13,o14,o15,o16,o17,o18,o19,o20,o21,o22] G:=by
 have gl:=ow.gl;simp! only[ja4,jot];rw[Yaa];refine⟨by lia,by lia,λp0 G0 n0=>?_⟩
 rw[jmp]at n0;refine jcs (k:=k) (hf.new n0) (ns:=YaC w.gv.length) (by rw[Yf3];lia) (λφ h=>by rw[it_l n0.at];exact h _) λp os G1 pm np g1 f1 s1=>?_
 have ga1:=s1 _ _ ha.1 (n0.sa _ _ ga);have hap:a≠p:=λz=>by rw[<- z,n0.sa _ _ ga]at np;cases np
 simp! only[it_l g1];refine jau (λi ς G'=>∃kvs o10 o11 o12 o13,ς=[some (.loc f),some w.u,some (tbU R),some (jaq w.xs w.ss),some (.int w.P),some (jag w.bs),some (jat w.wt),some (.tup (w.gv.map gU)),some (.int w.m),some (.loc a),o10,o11,o12,o13,o14,o15,o16,o17,o18,o19,o20,o21,o22]/\G' a=some (.dT kvs)/\Kn w.m w.xs.length kvs/\KA2 w R (os.take i) kvs/\G' p=some (.lst (os.map nI))/\Fd G' f c/\(∀b o,b≠f->b≠a->G b=some o->G' b=some o)/\∀b,G' b=none->b≠p0->b≠p->True) ?_ ?_ ⟨[],_,_,_,_,rfl,ga1,Kn.nil,λi h=>(nomatch h),g1,f1,λb o hb _ e=>s1 _ _ hb (n0.sa _ _ e),λ_ _ _ _=>trivial⟩
 ·rintro ς G2 ⟨kvs,o10,o11,o12,o13,rfl,g2,kn,hA,gp,f2,s2,_⟩;refine⟨jbC gp,?_⟩;rw[Yaa,Ybg]at hA;refine ch_3 (k:=k) ow hw hL kn (λi hi=>hA i (pm.mem_iff.mpr hi)) f2 ha g2 λp3 us G3 h1 h2 h3 h4 h5 h6=>?_;refine q p3 us G3 h1 h2 ?_ h4 h5 λb o hb hb' e=>h6 _ _ hb hb' (s2 _ _ hb hb' e);cases e:G p3 with
  |none=>rfl
  |some o=>
   by_cases z:p3=f
   ·obtain⟨ns,x,l,t,e1,_⟩:=f2.ex;rw[<- z,h3]at e1;cases e1
   ·by_cases z2:p3=a
    ·rw[z2,g2]at h3;cases h3
    ·have:=s2 _ _ z z2 e;rw[h3]at this;cases this
 ·rintro i z ς G2 KK hz ⟨kvs,o10,o11,o12,o13,rfl,g2,kn,hA,gp,f2,s2,_⟩ hk;refine⟨jbC gp,?_⟩;rw[Yav]at hz;cases es:os[i]? with
  |none=>rw[es]at hz;cases hz
  |some j=>
   rw[es]at hz;cases hz;have hj:j<w.gv.length:=List.mem_range.mp (pm.mem_iff.mp (Yaq es));have eg:=Yad hj;have og:=ow.gg _ (YaQ hj);have kl:=kn.len ow.m2 ow.x8;rw[show nI j=.int (j:Int)from rfl];simp! only[ix_t (atM (f:=gU) eg)];rw[show gU w.gv[j]=.tup [.int w.gv[j].1,.int w.gv[j].2.1,.int w.gv[j].2.2]from rfl];simp! only[];refine⟨trivial,?_⟩;simp! only[];have nx:∀(kvs':List (List Key×U)) (G3:Gp),KA2 w R (os.take i) kvs'->(0<w.gv[j].2.2->gt R w.gv[j].2.1 w.gv[j].1=w.gv[j].2.2->has kvs' w.gv[j].2.1 w.gv[j].1)->KA2 w R (os.take (i+1)) kvs':=λkvs' G3 h1 h2 x hx g hg h0 e=>by
    rw[Ybq,es]at hx;rcases List.mem_append.mp hx with hx|hx
    ·exact h1 x hx g hg h0 e
    ·rw[List.mem_singleton.mp hx,eg]at hg;cases hg;exact h2 h0 e
   have no:¬(0<w.gv[j].2.2/\gt R w.gv[j].2.1 w.gv[j].1=w.gv[j].2.2)->KA2 w R (os.take (i+1)) kvs:=λh=>nx kvs G2 hA λh0 e=>absurd ⟨h0,e⟩ h;by_cases c1:0<w.gv[j].2.2
   ·rw[if_pos (decide_eq_true c1)];refine hL.ok.tn.ix (r:=w.gv[j].2.1) (c:=w.gv[j].1) og.t og.w ?_;simp! only[];by_cases c2:gt R w.gv[j].2.1 w.gv[j].1=w.gv[j].2.2
    ·rw[if_pos (decide_eq_true c2)];refine⟨by decide,by decide,by decide,?_⟩
     rw[jjN g2];refine⟨YbB kl (by decide),λG3 w3=>?_⟩
     have hput:=kn.put (r:=w.gv[j].2.1) (c:=w.gv[j].1) og.t og.w (v:=.tup [.int (j:Int),.tup []]) λN h1 h2=>⟨j,[],rfl,by lia,YaP _,λz hz=>(nomatch hz)⟩
     refine hk _ _ ⟨_,_,_,_,_,rfl,w3.at,hput.1,nx _ G3 (λx hx g hg h0 e=>jfA.mpr (.inr (hA x hx g hg h0 e))) (λ_ _=>jfA.mpr (.inl ⟨rfl,rfl⟩)),w3.sm _ _ (Ne.symm hap) gp,f2.off ha w3,λb o hb hb' e=>w3.sm _ _ hb' (s2 _ _ hb hb' e),λ_ _ _ _=>trivial⟩
    ·rw[if_neg (by simpa using c2)]
     exact hk _ _ ⟨kvs,_,_,_,_,rfl,g2,kn,no (λh=>c2 h.2),gp,f2,s2,λ_ _ _ _=>trivial⟩
   ·rw[if_neg (by simpa using c1)]
    exact hk _ _ ⟨kvs,_,_,_,_,rfl,g2,kn,no (λh=>c1 h.1),gp,f2,s2,λ_ _ _ _=>trivial⟩
def jeh  {w: Wd}(ow:w.Ok)(hw:jaC w.ss w.bs w.P w.wt ys)(hL:Lst w.m w.xs.length ys w.gv R)(hf:Fd G f c)
  (q:∀p (us:List U) G' ,us.length=(spts R w.m w.xs.length).length->(∀u∈us,Cn 96 u)->G p=none->G' p=some (.lst us)->Fd G' f c->Sm f G G'->Q (.loc p) G'):jab T (k+3) jcx [.loc f,w.u,tbU R] G Q X:=by
 refine⟨rfl,?_⟩;simp! only[jcD,jaj,Yab,Wd.u];refine⟨trivial,?_⟩;simp! only[];intro a G1 n1;refine ch_2 (k:=k) ow hw hL (hf.new n1) (hf.away n1) n1.at λp us G2 h1 h2 h3 h4 h5 h6=>?_;refine q p us G2 h1 h2 ?_ h4 h5 λb o hb e=>h6 _ _ hb (λz=>by rw[z,n1.no]at e;cases e) (n1.sa _ _ e)
 cases e:G p with
 |none=>rfl
 |some o=>have:=n1.sa _ _ e;rw[h3]at this;cases this

def jnO   (h:i.natAbs<10 ^ 32):Fits 34 0 (.int i):=by
 have hl:i.natAbs.log2<1920:=by
  by_cases z:i.natAbs=0
  ·rw[z];decide
  ·exact Yas ((Nat.log2_lt z).mpr (Yas h (by decide:10 ^ 32<=2 ^ 107))) (by decide)
 refine⟨by simp[Yc4,hl],?_,Yah _⟩
 simp only[Ycl];have:=int_text_length_le10 (a:=i) (k:=32) (by decide) h
 show(PySem.Str.ofString (toString i)).length<=34;rw[ofString_length]
 lia
def Tk  (G:Gp)(N n:Nat)(u:U):Prop:=∃d,Th G u d/\d.canLay0=true/\d.depth<=n/\Fits N n d
def Tk.tg     (h:Tk G N n u):TG G n u:=let ⟨d,a,b,c,_⟩:=h;⟨d,a,b,c⟩
def Tk.sa     (h:Tk G N n u)(s:Sa G G'):Tk G' N n u:=let ⟨d,a,b⟩:=h;⟨d,a.sa s,b⟩
def Tk.sm      (h:Tk G N n u)(hf:Fd G f c)(s:Sm f G G'):Tk G' N n u:=let ⟨d,a,b⟩:=h;⟨d,a.mono hf s,b⟩
def Tk.mono     (h:Tk G N n u)(h1:N<=N')(h2:n<=n'):Tk G N' n' u:=let ⟨d,a,b,c,e⟩:=h;⟨d,a,b,Yag c h2,e.mono h1 h2⟩
def Tk.non    (h:4<=N):Tk G N n .non:=⟨_,.non,rfl,YaP _,Fits.non.mono h (YaP _)⟩
def Tk.bl     b (h:5<=N):Tk G N n (.bl b):=⟨_,.bl b,rfl,YaP _,(Fits.bl b).mono h (YaP _)⟩
def Tk.int     (hi:i.natAbs<10 ^ 32)(h:34<=N):Tk G N n (.int i):=⟨_,.int i,rfl,YaP _,(jnO hi).mono h (YaP _)⟩
def Tk.nat     (hi:i<10000)(h:34<=N):Tk G N n (nI i):=Tk.int (by show(i:Int).natAbs<_;exact Yas (show(i:Int).natAbs<10000 by lia) (by decide)) h
def Tk.str     (hl:x.length<=m)(hc:∀c∈x.cps.toList,c<128)(h:10*m+2<=N):Tk G N n (.str x):=
 ⟨_,.str x,(Sml.str hc).l,YaP _,(Fits.str hl λc hc'=>Ydg (hc c hc') (by decide)).mono h (YaP _)⟩
theorem tks    : ∀{us },(∀u∈us,Tk G N n u)->∃ds,Ths G us ds/\YaR ds=true/\YaI ds<=n/\ds.length=us.length/\∀d∈ds,Fits N n d
 |[],_=>⟨[],.nil,rfl,YaP _,rfl,λ_ h=>(nomatch h)⟩
 |u::us,h=>by
  obtain⟨ds,h1,h2,h3,h4,h5⟩:=tks λv hv=>h v (Yal _ hv);obtain⟨d,g1,g2,g3,g4⟩:=h u Yat;refine⟨d::ds,.cons g1 h1,?_,?_,by rw[YaT,YaT,h4],λe he=>?_⟩
  ·show(d.canLay0&&YaR ds)=true;rw[g2,h2];rfl
  ·show max d.depth (YaI ds)<=n;exact Nat.max_le.mpr ⟨g3,h3⟩
  ·rcases Yau.mp he with rfl|he
   ·exact g4
   ·exact h5 e he
def Tk.tup     (h:∀u∈us,Tk G N n u)(hl:us.length<=m)(hN:m*(N+2)+3<=N'):Tk G N' (n+1) (.tup us):=by
 obtain⟨ds,h1,h2,h3,h4,h5⟩:=tks h;exact⟨.tuple ds,.tup h1,h2,Ycm h3,Fits.tupLe (by lia) h5 hN⟩
def Tk.lst      (g:G a=some (.lst us))(h:∀u∈us,Tk G N n u)(hl:us.length<=m)(hN:m*(N+2)+3<=N'):Tk G N' (n+1) (.loc a):=by
 obtain⟨ds,h1,h2,h3,h4,h5⟩:=tks h;exact⟨.list ds,.lst g h1,h2,Ycm h3,Fits.lstLe (by lia) h5 hN⟩
def Tk.repr     (h:Tk G N n u)(h1:N<=16000000)(h2:n<=60):∃z ,∀G' Q ,Sa G G'->Q (.str z) G'->jhA [u] G' Q:=by
 obtain⟨d,a,_,_,f⟩:=h;exact⟨d.shown,λG' Q s q=>⟨d,(a.sa s).du,f.mono h1 h2,q⟩⟩

def Od  (G:Gp)(u:U):Prop:=Tk G 200 2 u/\shD u/\∀us,u=.tup us->∀x∈us,shD x
def jaP   (h:∀us,u≠.tup us):shD u/\∀us,u=.tup us->∀x∈us,shD x:=by
 refine⟨?_,λus e=>absurd e (h us)⟩;cases u with
 |tup us=>exact absurd rfl (h us)
 |_=>trivial
def jcm  (hf:Fd G f c)(q:∀u G',Od G' u->Fd G' f c->Sm f G G'->Q u G'):jab T (k+2) jb1 [.loc f] G Q X:=by
 refine⟨rfl,?_⟩;simp! only[je3,jaj,Yab];refine⟨⟨by decide,by decide,by decide⟩,by decide,by decide,by decide,λp1 G1 n1=>⟨by decide,λp2 G2 n2=>⟨by decide,by decide,by decide,by decide,by decide,by decide,λp3 G3 n3=>?_⟩⟩⟩
 have f1:=hf.new n1;have f2:=f1.new n2;have f3:=f2.new n3;have h1:=hf.away n1;have h2:=f1.away n2;have h3:=f2.away n3;refine jae f3 (by decide) (by decide) λz G4 a4 b4 f4 s4=>?_
 have g1:=s4 _ _ h1.1 (n3.sa _ _ (n2.sa _ _ n1.at));have g2:=s4 _ _ h2.1 (n3.sa _ _ n2.at);have s0:Sm f G G4:=(n1.sa.trans (n2.sa.trans n3.sa)).sm.trans s4;have z0:∀{N n:Nat},34<=N->Tk G4 N n (.int 0):=λh=>Tk.int (by decide) h
 have t0:Tk G4 40 1 (.tup []):=Tk.tup (N:=34) (n:=0) (m:=0) (λu hu=>(nomatch hu)) (Yah _) (by decide)
 have e0:shD (.tup []):=⟨YaP _,λx hx=>(nomatch hx)⟩;refine jfx (s4 _ _ h3.1 n3.at) a4 (by simpa using b4) λu hu=>q u G4 ?_ f4 s0
 simp only[Yau,Yam,or_false]at hu;rcases hu with rfl|rfl|rfl|rfl|rfl|rfl|rfl|rfl|rfl|rfl|rfl|rfl|rfl|rfl|rfl|rfl|rfl|rfl
 ·exact⟨Tk.non (by decide),jaP λ_=>nofun⟩
 ·exact⟨Tk.bl _ (by decide),jaP λ_=>nofun⟩
 ·exact⟨Tk.bl _ (by decide),jaP λ_=>nofun⟩
 ·exact⟨Tk.int (by decide) (by decide),jaP λ_=>nofun⟩
 ·exact⟨Tk.int (by decide) (by decide),jaP λ_=>nofun⟩
 ·exact⟨Tk.int (by decide) (by decide),jaP λ_=>nofun⟩
 ·exact⟨Tk.int (by decide) (by decide),jaP λ_=>nofun⟩
 ·exact⟨Tk.int (by decide) (by decide),jaP λ_=>nofun⟩
 ·exact⟨Tk.int (by decide) (by decide),jaP λ_=>nofun⟩
 ·exact⟨Tk.str (m:=8) (by decide +kernel) (by decide +kernel) (by decide),jaP λ_=>nofun⟩
 ·exact⟨Tk.str (m:=8) (by decide +kernel) (by decide +kernel) (by decide),jaP λ_=>nofun⟩
 ·exact⟨Tk.str (m:=8) (by decide +kernel) (by decide +kernel) (by decide),jaP λ_=>nofun⟩
 ·exact⟨t0.mono (by decide) (by decide),e0,λus e x hx=>by cases e;cases hx⟩
 ·refine⟨Tk.tup (N:=34) (n:=1) (m:=1) (λu hu=>by rw[List.mem_singleton.mp hu];exact z0 (by decide)) (Yah _) (by decide),⟨by decide,λx hx vs e=>?_⟩,λus e x hx=>?_⟩
  ·rw[List.mem_singleton.mp hx]at e;cases e
  ·cases e;rw[List.mem_singleton.mp hx];trivial
 ·exact⟨Tk.lst (N:=34) (n:=1) (m:=0) g1 (λu hu=>(nomatch hu)) (Yah _) (by decide),jaP λ_=>nofun⟩
 ·exact⟨Tk.lst (N:=34) (n:=1) (m:=1) g2 (λu hu=>by rw[List.mem_singleton.mp hu];exact z0 (by decide)) (Yah _) (by decide),jaP λ_=>nofun⟩
 ·refine⟨Tk.tup (N:=40) (n:=1) (m:=2) (λu hu=>?_) (Yah _) (by decide),⟨by decide,λx hx vs e=>?_⟩,λus e x hx=>?_⟩
  ·simp only[Yau,Yam,or_false,or_self]at hu;rw[hu];exact t0
  ·simp only[Yau,Yam,or_false,or_self]at hx;rw[hx]at e;cases e;exact YaP _
  ·cases e;simp only[Yau,Yam,or_false,or_self]at hx;rw[hx];exact e0
 ·refine⟨Tk.tup (N:=40) (n:=1) (m:=2) (λu hu=>?_) (Yah _) (by decide),⟨by decide,λx hx vs e=>?_⟩,λus e x hx=>?_⟩
  ·simp only[Yau,Yam,or_false]at hu;rcases hu with rfl|rfl
   ·exact z0 (by decide)
   ·exact t0
  ·simp only[Yau,Yam,or_false]at hx;rcases hx with rfl|rfl
   ·cases e
   ·cases e;exact YaP _
  ·cases e;simp only[Yau,Yam,or_false]at hx;rcases hx with rfl|rfl
   ·trivial
   ·exact e0
def Ce  (G:Gp)(u:U):Prop:=Tk G 40 1 u
def Rw  (G:Gp)(u:U):Prop:=Tk G 900 2 u/\∀vs,u=.tup vs->vs.length<=200
def Ta  (G:Gp)(u:U):Prop:=Tk G 24000 3 u/\shD u
def Ce.row   (h:∀u∈us,Ce G u)(hl:us.length<=20):Rw G (.tup us):=⟨Tk.tup (m:=20) h hl (by decide),λvs e=>by cases e;lia⟩
def Rw.tab   (h:∀u∈us,Rw G u)(hl:us.length<=26):Ta G (.tup us):=⟨Tk.tup (m:=26) (λu hu=>(h u hu).1) hl (by decide),by lia,λx hx vs e=>(h x hx).2 vs e⟩
def jio   (xs:List α) a b:(cut xs a b).length<=xs.length:=by
 unfold cut;simp
 lia
def jcq      (h:x∈cut xs a b):x∈xs:=by
 unfold cut at h
 first|exact Yfq (Yfr h)|exact Yfr (Yfq h)
def jef    (hf:Fd G f c)(hR:TbOk m W R)(m1:1<=m)(m2:m<=12)(w1:0<W)(w8:W<=8)(q:∀p us G',us.length=11->(∀u∈us,Ta G' u)->G p=none->G' p=some (.lst us)->Fd G' f c->Sm f G G'->Q (.loc p) G'):jab T (k+2) jcv [.loc f,tbU R] G Q X:=by
 refine⟨rfl,?_⟩;simp! only[jcA,jaj,Yab,tbU];rw[Yaa,hR.1];refine jae hf (by lia) (by lia) λz G1 a1 b1 f1 s1=>?_
 obtain⟨r,rfl⟩:=YaG a1;have hr:r<m:=by lia
 obtain⟨row,e1,e2,e3,e4⟩:=hR.row hr;simp! only[ix_t (atM (f:=jag) e1),jag];rw[Yaa,e3];refine jae f1 (by lia) (by lia) λz G2 a2 b2 f2 s2=>?_
 obtain⟨cc,rfl⟩:=YaG a2;simp! only[];refine⟨by decide,by decide,λp1 G3 n3=>⟨⟨by decide,by decide,by decide⟩,by decide,λp2 G4 n4=>?_⟩⟩
 have f3:=f2.new n3;have f4:=f3.new n4;have h3:=f2.away n3;have h4:=f3.away n4;refine jae f4 (by decide) (by decide) λz G5 a5 b5 f5 s5=>?_
 have z0:∀{G:Gp} {N n:Nat},34<=N->Tk G N n (.int 0):=λh=>Tk.int (by decide) h
 have S5:Sm f G G5:=s1.trans (s2.trans ((n3.sa.trans n4.sa).sm.trans s5));refine jfx (s5 _ _ h4.1 n4.at) a5 (by simpa using b5) λu hu=>?_
 have hc:Ce G5 u:=by
  have gp1:=s5 _ _ h3.1 (n4.sa _ _ n3.at);simp only[Yau,Yam,or_false]at hu;rcases hu with rfl|rfl|rfl|rfl|rfl|rfl|rfl|rfl
  ·exact Tk.bl _ (by decide)
  ·exact Tk.bl _ (by decide)
  ·exact Tk.non (by decide)
  ·exact Tk.str (m:=1) (by decide +kernel) (by decide +kernel) (by decide)
  ·exact Tk.int (by decide) (by decide)
  ·exact Tk.tup (N:=34) (n:=0) (m:=1) (λu hu=>by rw[List.mem_singleton.mp hu];exact z0 (by decide)) (Yah _) (by decide)
  ·exact Tk.lst (N:=34) (n:=0) (m:=1) gp1 (λu hu=>by rw[List.mem_singleton.mp hu];exact z0 (by decide)) (Yah _) (by decide)
  ·exact Tk.int (by decide) (by decide)
 have hcell:∀{G:Gp},∀x∈row.map U.int,Ce G x:=λx hx=>by
  obtain⟨z,hz,rfl⟩:=List.mem_map.mp hx;have:=e4 z hz;exact Tk.int (Yas (show z.natAbs<1000 by lia) (by decide)) (by decide)
 have lc:∀(a b:Option Int),(cut (row.map U.int) a b).length<=8:=λa b=>Yag (jio _ _ _) (by rw[Yaa];lia)
 have lR:∀(a b:Option Int),(cut (R.map jag) a b).length<=12:=λa b=>Yag (jio _ _ _) (by rw[Yaa,hR.1];exact m2)
 have big:∀n:Nat,n<=1000->n<=Yai:=λn h=>Yag h (by decide)
 have c1:=lc none (some (cc:Int));have c2:=lc (some ((cc:Int)+1)) none;have r1:=lR none (some (r:Int));have r2:=lR (some ((r:Int)+1)) none;refine λp6 G6 n6=>⟨by decide,big _ (by lia),by decide,big _ (by lia),big _ (by rw[Yaw,YaW];lia),by decide,by decide,λp7 G7 n7=>?_⟩
 dsimp only;rw[it_l n7.at];refine⟨big _ (by simp),?_⟩
 have s57:Sa G5 G7:=n6.sa.trans n7.sa;have hrowT:∀{G:Gp},∀x∈R.map jag,Rw G x:=λx hx=>by
  obtain⟨y,hy,rfl⟩:=List.mem_map.mp hx;refine Ce.row (λv hv=>?_) (by rw[Yaa];have:=hR.2 y hy;lia)
  obtain⟨z,hz,rfl⟩:=List.mem_map.mp hv;have:=hR.3 y hy z hz;exact Tk.int (Yas (show z.natAbs<1000 by lia) (by decide)) (by decide)
 have hrow:∀x∈[U.loc p6,.tup (cut (row.map U.int) (some 1) none),.tup (row.map U.int++[.int 0]),.tup (cut (row.map U.int) none (some (cc:Int))++[u]++cut (row.map U.int) (some ((cc:Int)+1)) none),.non,.tup []],Rw G7 x:=λx hx=>by
  simp only[Yau,Yam,or_false]at hx;rcases hx with rfl|rfl|rfl|rfl|rfl|rfl
  ·exact⟨Tk.lst (m:=8) (n7.sa _ _ n6.at) hcell (by rw[Yaa];lia) (by decide),λvs e=>(nomatch e)⟩
  ·exact Ce.row (λv hv=>hcell v (jcq hv)) (Yag (lc _ _) (by decide))
  ·refine Ce.row (λv hv=>?_) (by rw[Yaw,Yaa,YaW];lia)
   rcases List.mem_append.mp hv with hv|hv
   ·exact hcell v hv
   ·rw[List.mem_singleton.mp hv];exact z0 (by decide)
  ·refine Ce.row (λv hv=>?_) (by rw[Yaw,Yaw,YaW];lia)
   rcases List.mem_append.mp hv with hv|hv
   ·rcases List.mem_append.mp hv with hv|hv
    ·exact hcell v (jcq hv)
    ·rw[List.mem_singleton.mp hv];exact Tk.sa hc s57
   ·exact hcell v (jcq hv)
  ·exact⟨Tk.non (by decide),λvs e=>(nomatch e)⟩
  ·exact Ce.row (λv hv=>(nomatch hv)) (by decide)
 refine jal (λj acc G'=>G'=G7/\acc.length=j/\∀v∈acc,Ta G7 v) ?_ ?_ ⟨rfl,rfl,λ_ h=>(nomatch h)⟩
 ·rintro acc G8 ⟨rfl,hl,ha⟩;refine⟨jbC n7.at,λp9 G9 n9=>?_⟩;refine λp10 G10 n10=>⟨by decide,big _ (by lia),by decide,by decide,λp11 G11 n11=>?_⟩
  have hlen:acc.length=6:=hl;have s711:Sa G8 G11:=n9.sa.trans (n10.sa.trans n11.sa);dsimp only;rw[jd1];refine⟨_,_,n11.sa _ _ (n10.sa _ _ n9.at),n11.at,?_,λp12 G12 n12=>?_⟩
  ·rw[hlen];exact big _ (by simp)
  have S12:Sm f G G12:=(S5.trans (s57.trans (s711.trans n12.sa)).sm);have np12:G p12=none:=by
   cases e:G p12 with
   |none=>rfl
   |some o=>
    by_cases zf:p12=f
    ·obtain⟨ns,x,l,t,e1,_⟩:=(((((f5.new n6).new n7).new n9).new n10).new n11).ex;rw[<- zf,n12.no]at e1;cases e1
    ·have:=(S5.trans (s57.trans s711).sm) _ _ zf e;rw[n12.no]at this;cases this
  refine q p12 _ G12 ?_ (λv hv=>?_) np12 n12.at ((((((f5.new n6).new n7).new n9).new n10).new n11).new n12) S12
  ·rw[Yaw,hlen];rfl
  ·rcases List.mem_append.mp hv with hv|hv
   ·exact⟨(ha v hv).1.sa (s711.trans n12.sa),(ha v hv).2⟩
   ·simp only[Yau,Yam,or_false]at hv;rcases hv with rfl|rfl|rfl|rfl|rfl
    ·exact⟨Tk.lst (m:=12) (n12.sa _ _ (n11.sa _ _ n10.at)) (λy hy=>(hrowT y hy).1) (by rw[Yaa,hR.1];exact m2) (by decide),trivial⟩
    ·exact Rw.tab (λy hy=>hrowT y (jcq hy)) (Yag (lR _ _) (by decide))
    ·refine Rw.tab (λy hy=>?_) (by rw[Yaw,Yaa,hR.1,YaW];lia)
     rcases List.mem_append.mp hy with hy|hy
     ·exact hrowT y hy
     ·rw[List.mem_singleton.mp hy];exact Ce.row hcell (by rw[Yaa];lia)
    ·exact Rw.tab (λy hy=>(nomatch hy)) (by decide)
    ·exact⟨Tk.non (by decide),trivial⟩
 ·rintro j x acc G8 KK hx ⟨rfl,hl,ha⟩ hs hn2;refine⟨jbC n7.at,by decide,big _ (by lia),big _ (by rw[Yaw,YaW];lia),hs _ _ ⟨rfl,by rw[Yaw,hl];rfl,λv hv=>?_⟩⟩
  rcases List.mem_append.mp hv with hv|hv
  ·exact ha v hv
  ·rw[List.mem_singleton.mp hv];refine Rw.tab (λy hy=>?_) (by rw[Yaw,Yaw,YaW];lia)
   rcases List.mem_append.mp hy with hy|hy
   ·rcases List.mem_append.mp hy with hy|hy
    ·exact hrowT y (jcq hy)
    ·rw[List.mem_singleton.mp hy];exact hrow x (Yaq hx)
   ·exact hrowT y (jcq hy)

def Co  (G:Gp)(u:U):Prop:=Tk G 700000 3 u/\shD u
def Tg2  (G:Gp)(u:U):Prop:=Tk G 3000000 6 u/\szU u

def Co.sm   (h:Co G u)(hf:Fd G f c)(s:Sm f G G'):Co G' u:=⟨h.1.sm hf s,h.2⟩
def Co.sa   (h:Co G u)(s:Sa G G'):Co G' u:=⟨h.1.sa s,h.2⟩
def Tg2.sm   (h:Tg2 G u)(hf:Fd G f c)(s:Sm f G G'):Tg2 G' u:=⟨h.1.sm hf s,h.2⟩
def Tg2.sa   (h:Tg2 G u)(s:Sa G G'):Tg2 G' u:=⟨h.1.sa s,h.2⟩
def Co.tup   (h:∀u∈us,Co G u)(hl:us.length<=3):Tg2 G (.tup us):=⟨(Tk.tup (m:=3) (λu hu=>(h u hu).1) hl (by decide)).mono (Yah 3000000) (by decide),λvs e x hx=>by cases e;exact(h x hx).2⟩
def Co.two   (hx:Co G x)(hy:Co G y):Tg2 G (.tup [x,y]):=Co.tup (λu hu=>by
 simp only[Yau,Yam,or_false]at hu;rcases hu with rfl|rfl
 ·exact hx
 ·exact hy) (by simp)
def Tg2.flat   (h:Tk G 3000000 6 u)(hn:∀us,u≠.tup us):Tg2 G u:=⟨h,(jaP hn).2⟩
def Co.flat   (h:Tk G 700000 3 u)(hn:∀us,u≠.tup us):Co G u:=⟨h,(jaP hn).1⟩
def Od.co   (h:Od G u):Co G u:=⟨h.1.mono (by decide) (by decide),h.2.1⟩
def Od.tg   (h:Od G u):Tg2 G u:=⟨h.1.mono (by decide) (by decide),h.2.2⟩
def Ta.co   (h:Ta G u):Co G u:=⟨h.1.mono (by decide) (by decide),h.2⟩
def jjq    (hR:TbOk m W R)(m2:m<=12)(w8:W<=8):Co G (tbU R):=Ta.co (Rw.tab (λx hx=>by
 obtain⟨y,hy,rfl⟩:=List.mem_map.mp hx;refine Ce.row (λv hv=>?_) (by rw[Yaa];have:=hR.2 y hy;lia)
 obtain⟨z,hz,rfl⟩:=List.mem_map.mp hv;have:=hR.3 y hy z hz;exact Tk.int (Yas (show z.natAbs<1000 by lia) (by decide)) (by decide)) (by rw[Yaa,hR.1];lia))
def jlJ   (h:∀u∈us,Cn 96 u)(hl:us.length<=96):Co G (.tup us):=by
 refine⟨Tk.tup (N:=7100) (n:=2) (m:=96) (λu hu=>?_) hl (by decide),by lia,λx hx vs e=>?_⟩
 ·obtain⟨g,row,rfl,hg,hr,hs⟩:=h u hu;refine Tk.tup (N:=3500) (n:=1) (m:=2) (λv hv=>?_) (Yah _) (by decide)
  simp only[Yau,Yam,or_false]at hv;rcases hv with rfl|rfl
  ·exact Tk.nat (by lia) (by decide)
  ·refine Tk.tup (N:=34) (n:=0) (m:=96) (λz hz=>?_) (by rw[Yaa];exact hr) (by decide)
   obtain⟨s,hs',rfl⟩:=List.mem_map.mp hz;exact Tk.nat (by have:=hs s hs';lia) (by decide)
 ·obtain⟨g,row,rfl,_⟩:=h x hx;cases e;simp
theorem jkc  {x:U}:∀n ,(Yab n [x]).flatten=Yab n x
 |0=>rfl
 |n+1=>by rw[YaX,Ybr,jkc n];rfl
def jiq    (hn:n<=96)(h:Tk G 200 2 x)(hx:∀vs,x=.tup vs->vs.length<=200):Co G (.tup (Yab n [x]).flatten):=by
 rw[jkc];refine⟨(Tk.tup (m:=96) (λu hu=>by rw[(List.mem_replicate.mp hu).2];exact h) (by rw[Ydc];exact hn) (by decide:96*(200+2)+3<=700000)),by rw[Ydc];lia,λy hy vs e=>hx vs (by rw[<- (List.mem_replicate.mp hy).2];exact e)⟩
def jnY   (hn:n<=96):Co G (.str (repS "0" n)):=by
 refine Co.flat (Tk.str (m:=96) ?_ (λch hc=>?_) (by decide)) λ_=>nofun
 ·show(Yab n ("0" : Str).cps.toList).flatten.toArray.size<=96;rw[Yak,jek,show("0" : Str).cps.toList.length=1 by decide +kernel]
  lia
 ·have hc:ch∈(Yab n ("0" : Str).cps.toList).flatten:=hc;obtain⟨l,hl,hm⟩:=List.mem_flatten.mp hc;rw[(List.mem_replicate.mp hl).2]at hm;exact(by decide +kernel:∀c∈("0" : Str).cps.toList,c<128) ch hm
def jn8    : binU .Mult (.str z) (.int j) G Q=(0<=j/\j<1000/\z.length<=1000/\Q (.str (repS z j.toNat)) G):=rfl
def jnB     (ow:w.Ok)(h:Is w u r):Tk G 200 1 r.u:=by
 have key:∀(x:Str) (i:Nat),x.length<=5->(∀c∈x.cps.toList,c<128)->i<10000->Tk G 200 1 (Rs.no x (i:Int)).u:=λx i hx hc hi=>Tk.tup (N:=60) (n:=0) (m:=2) (λv hv=>by
  simp only[Yau,Yam,or_false]at hv;rcases hv with rfl|rfl
  ·exact Tk.str hx hc (by decide)
  ·exact Tk.nat hi (by decide)) (Yah _) (by decide)
 rcases h with⟨t,cs,_,p,rfl⟩|⟨_,rfl⟩
 ·unfold rsT;split
  ·rename_i i e;have:=(List.findIdx?_eq_some_iff_getElem.mp e).1;have:=ow.gl;exact key _ i (by decide +kernel) (by decide +kernel) (by lia)
  ·split
   ·rename_i s e;have:=ow.ww s (YeA e);have:=ow.s25;exact key _ s (by decide +kernel) (by decide +kernel) (by lia)
   ·split
    ·rename_i i e;have:=(List.findIdx?_eq_some_iff_getElem.mp e).1;rw[Yen]at this;have:=jaS (t:=t) ow.m2 ow.x8;exact key _ i (by decide +kernel) (by decide +kernel) (by lia)
    ·exact Tk.bl _ (by decide)
 ·exact key _ 0 (by decide +kernel) (by decide +kernel) (by decide)
def law_8  {w:Wd}(ow:w.Ok)(hw:jaC w.ss w.bs w.P w.wt ys)(hf:Fd G f c)(g6:G p6=some (.lst us))(ht:∀u∈us,Tg2 G u) 
  (q:∀o7 o8 G',Fd G' f c->K [some (.loc a),some (.loc f),o2,some w.u,o4,o5,some (.loc p6),o7,o8] G') :
  jas T.gs (jab T (k+9)) jcf ⟨K,Q',X'⟩ [some (.loc a),some (.loc f),o2,some w.u,o4,o5,some (.loc p6),o7,o8] G:=by
 simp! only[jcf,it_l g6];refine jau (λ_ ς G'=>Sa G G'/\∃o7 o8,ς=[some (.loc a),some (.loc f),o2,some w.u,o4,o5,some (.loc p6),o7,o8]) ?_ ?_ ⟨Sa.refl,_,_,rfl⟩
 ·rintro ς G1 ⟨s1,o7,o8,rfl⟩;exact⟨jbC (s1 _ _ g6),q _ _ _ (hf.sa s1)⟩
 ·rintro i x ς G1 KK hx ⟨s1,o7,o8,rfl⟩ hk;refine⟨jbC (s1 _ _ g6),?_⟩;have hx':=(ht x (Yaq hx)).sa s1;obtain⟨z,hz⟩:=hx'.1.repr (by decide) (by decide)
  obtain⟨d,hd,_⟩:=id hx'.1;obtain⟨r,hr⟩:=jpC w x;obtain⟨z2,hz2⟩:=(jnB (G:=G1) ow hr).repr (by decide) (by decide)
  simp! only[];refine hz _ _ Sa.refl ?_;simp! only[];refine jfo (k:=k+3) ow hw hd hx'.2 hr λG2 s2=>?_;simp! only[];refine hz2 _ _ s2 ?_;simp! only[];refine jfp (k:=k+6) ow hw (hx'.1.tg.sa s2) (by decide) hx'.2 hr λG3 s3=>?_
  simp! only[];refine hz2 _ _ (s2.trans s3) ?_;simp! only[];rw[if_neg (by simp)]
  refine hz _ _ (s2.trans s3) ?_;simp! only[];rw[if_neg (by simp)]
  exact hk _ _ ⟨s1.trans (s2.trans s3),_,_,rfl⟩


def Kq  (a f c:Addr)(K:Sg->Gp->Prop):Prop:=∀o2 o3 o4 o5 o6 o7 o8 G',Fd G' f c->K [some (.loc a),some (.loc f),o2,o3,o4,o5,o6,o7,o8] G'
def law_7  {w: Wd}(ow:w.Ok)(hw:jaC w.ss w.bs w.P w.wt ys)(hR:TbOk w.m w.xs.length R)(hc:∀u∈cs,Cn 96 u)(hcl:cs.length<=96)(hf:Fd G f c)(hp:p6≠f)(g6:G p6=some (.lst us))(hu:us.length<=500)(ht:∀u∈us,Tg2 G u)(q:Kq a f c K) :
  jas T.gs (jab T (k+9)) jcg ⟨K,Q',X'⟩ [some (.loc a),some (.loc f),o2,some w.u,some (tbU R),some (.tup cs),some (.loc p6),o7,o8] G:=by
 simp! only[jcg];refine jcm (k:=k+7) hf λu1 G1 h1 f1 s1=>?_;simp! only[];refine jcm (k:=k+7) f1 λu2 G2 h2 f2 s2=>?_;simp! only[];refine⟨by simp;decide,?_⟩
 refine jcm (k:=k+7) f2 λu3 G3 h3 f3 s3=>?_;simp! only[];refine⟨by simp;decide,by simp;decide,λp7 G7 n7=>?_⟩
 have s07:Sm f G G7:=s1.trans (s2.trans (s3.trans n7.sa.sm));dsimp only;rw[jd1];refine⟨us,_,s07 _ _ hp g6,n7.at,Yag (show us.length+3<=1000 by lia) (by decide),λp8 G8 n8=>?_⟩
 refine law_8 (k:=k) (us:=us++[u1,.tup [tbU R,u2],.tup [u3,.tup cs]]) ow hw ((f3.new n7).new n8) n8.at (λv hv=>?_) λo7 o8 G' h=>q _ _ _ _ _ _ _ _ h;rcases List.mem_append.mp hv with hv|hv
 ·exact(ht v hv).sm hf (s07.trans n8.sa.sm)
 ·simp only[Yau,Yam,or_false]at hv;rcases hv with rfl|rfl|rfl
  ·exact h1.tg.sm f1 (s2.trans (s3.trans (n7.sa.trans n8.sa).sm))
  ·exact Co.two (jjq hR ow.m2 ow.x8) (h2.co.sm f2 (s3.trans (n7.sa.trans n8.sa).sm))
  ·exact Co.two (h3.co.sa (n7.sa.trans n8.sa)) (jlJ hc hcl)
def law_6  {w: Wd}(ow:w.Ok)(hw:jaC w.ss w.bs w.P w.wt ys)(hR:TbOk w.m w.xs.length R)(hc:∀u∈cs,Cn 96 u)(hcl:cs.length<=96)(hf:Fd G f c)(hp:p6≠f)(g6:G p6=some (.lst us))(hu:us.length<=400)(ht:∀u∈us,Tg2 G u)(q:Kq a f c K) :
  jas T.gs (jab T (k+9)) jch ⟨K,Q',X'⟩ [some (.loc a),some (.loc f),o2,some w.u,some (tbU R),some (.tup cs),some (.loc p6),o7,o8] G:=by
 simp! only[jch];refine jef (k:=k+7) hf hR ow.m1 ow.m2 ow.x0 ow.x8 λp1 ts G1 hl hts np g1 f1 s1=>?_;simp! only[it_l g1];refine⟨by rw[hl];decide,?_⟩
 refine jal (λj acc G'=>G'=G1/\acc.length=j/\∀v∈acc,Tg2 G1 v) ?_ ?_ ⟨rfl,rfl,λ_ h=>(nomatch h)⟩
 ·rintro acc G2 ⟨rfl,hal,ha⟩;refine⟨jbC g1,λp3 G3 n3=>?_⟩;dsimp only;rw[jd1];refine⟨us,acc,n3.sa _ _ (s1 _ _ hp g6),n3.at,Yag (show us.length+acc.length<=1000 by lia) (by decide),λp8 G8 n8=>?_⟩
  have f3:=(f1.new n3).new n8;refine law_7 (k:=k) (us:=us++acc) ow hw hR hc hcl f3 ((f1.new n3).away n8).1 n8.at (by rw[Yaw];lia) (λv hv=>?_) q
  rcases List.mem_append.mp hv with hv|hv
  ·exact(ht v hv).sm hf (s1.trans (n3.sa.trans n8.sa).sm)
  ·exact(ha v hv).sa (n3.sa.trans n8.sa)
 ·rintro j x acc G2 KK hx ⟨rfl,hal,ha⟩ hs hn2;refine⟨jbC g1,by simp;decide,hs _ _ ⟨rfl,by rw[Yaw,hal];rfl,λv hv=>?_⟩⟩
  rcases List.mem_append.mp hv with hv|hv
  ·exact ha v hv
  ·rw[List.mem_singleton.mp hv];exact Co.two (hts x (Yaq hx)).co (jlJ hc hcl)
def law_5  {w: Wd}(ow:w.Ok)(hw:jaC w.ss w.bs w.P w.wt ys)(hR:TbOk w.m w.xs.length R)(hc:∀u∈cs,Cn 96 u)(hcl:cs.length<=96)(hf:Fd G f c)(hp:p6≠f)(g6:G p6=some (.lst us))(hu:us.length<=300)(ht:∀u∈us,Tg2 G u)(q:Kq a f c K) :
  jas T.gs (jab T (k+9)) jci ⟨K,Q',X'⟩ [some (.loc a),some (.loc f),o2,some w.u,some (tbU R),some (.tup cs),some (.loc p6),o7,o8] G:=by
 simp! only[jci,jn8];have big:∀n:Nat,n<=1000->n<=Yai:=λn h=>Yag h (by decide)
 refine⟨by decide,by decide,by simp,by lia,by lia,big _ (by lia),by decide,by decide,by simp,by lia,by lia,big _ (by lia),by decide,by lia,by lia,by decide +kernel,by decide,by decide,λp7 G7 n7=>?_⟩
 dsimp only;rw[jd1];refine⟨us,_,n7.sa _ _ g6,n7.at,Yag (show us.length+3<=1000 by lia) (by decide),λp8 G8 n8=>?_⟩
 refine law_6 (k:=k) (us:=us++[.tup [tbU R,.tup (Yab cs.length [U.tup [U.int 0]]).flatten],.tup [tbU R,.tup (Yab cs.length [U.non]).flatten],.tup [tbU R,.str (repS "0" cs.length)]]) ow hw hR hc hcl ((hf.new n7).new n8) ((hf.new n7).away n8).1 n8.at (by simp;lia) (λv hv=>?_) q
 have hT:∀{G:Gp},Co G (tbU R):=jjq hR ow.m2 ow.x8;rcases List.mem_append.mp hv with hv|hv
 ·exact(ht v hv).sa (n7.sa.trans n8.sa)
 ·simp only[Yau,Yam,or_false]at hv;rcases hv with rfl|rfl|rfl
  ·refine Co.two hT (jiq hcl (Tk.tup (N:=34) (n:=1) (m:=1) (λu hu=>by rw[List.mem_singleton.mp hu];exact Tk.int (by decide) (by decide)) (Yah _) (by decide)) λvs e=>?_)
   cases e;simp
  ·exact Co.two hT (jiq hcl (Tk.non (by decide)) λvs e=>(nomatch e))
  ·exact Co.two hT (jnY hcl)
def jpP   (h:Cn 96 u):Tk G 7100 2 u:=by
 obtain⟨g,row,rfl,hg,hr,hs⟩:=h;refine Tk.tup (N:=3500) (n:=1) (m:=2) (λv hv=>?_) (Yah _) (by decide)
 simp only[Yau,Yam,or_false]at hv;rcases hv with rfl|rfl
 ·exact Tk.nat (by lia) (by decide)
 ·refine Tk.tup (N:=34) (n:=0) (m:=96) (λz hz=>?_) (by rw[Yaa];exact hr) (by decide)
  obtain⟨s,hs',rfl⟩:=List.mem_map.mp hz;exact Tk.nat (by have:=hs s hs';lia) (by decide)
def law_4  {w: Wd}(ow:w.Ok)(hw:jaC w.ss w.bs w.P w.wt ys)(hR:TbOk w.m w.xs.length R)(hc:∀u∈cs,Cn 96 u)(hcl:cs.length<=96)(hf:Fd G f c)(hp:p6≠f)(g6:G p6=some (.lst us))(hu:us.length<=200)(ht:∀u∈us,Tg2 G u)(q:Kq a f c K) :
  jas T.gs (jab T (k+9)) jcj ⟨K,Q',X'⟩ [some (.loc a),some (.loc f),o2,some w.u,some (tbU R),some (.tup cs),some (.loc p6),o7,o8] G:=by
 have big:∀n:Nat,n<=1000->n<=Yai:=λn h=>Yag h (by decide)
 simp! only[jcj];refine λp1 G1 n1=>?_;simp! only[];refine⟨by decide,by decide,by decide,by decide,by simp,by lia,by lia,big _ (by lia),by decide,by decide,λp7 G7 n7=>?_⟩
 dsimp only;rw[jd1];refine⟨us,_,n7.sa _ _ (n1.sa _ _ g6),n7.at,Yag (show us.length+3<=1000 by lia) (by decide),λp8 G8 n8=>?_⟩
 have f7:=(hf.new n1).new n7;refine law_5 (k:=k) (us:=us++[.tup [tbU R,.loc p1],.tup [tbU R,.non],.tup [tbU R,.tup (Yab cs.length [U.tup []]).flatten]]) ow hw hR hc hcl (f7.new n8) (f7.away n8).1 n8.at (by simp;lia) (λv hv=>?_) q
 have hT:∀{G:Gp},Co G (tbU R):=jjq hR ow.m2 ow.x8;rcases List.mem_append.mp hv with hv|hv
 ·exact(ht v hv).sa (n1.sa.trans (n7.sa.trans n8.sa))
 ·simp only[Yau,Yam,or_false]at hv;rcases hv with rfl|rfl|rfl
  ·exact Co.two hT (Co.flat (Tk.lst (m:=96) (n8.sa _ _ (n7.sa _ _ n1.at)) (λu hu=>jpP (hc u hu)) hcl (by decide)) λ_=>nofun)
  ·exact Co.two hT (Co.flat (Tk.non (by decide)) λ_=>nofun)
  ·refine Co.two hT (jiq hcl (Tk.tup (N:=34) (n:=1) (m:=0) (λu hu=>(nomatch hu)) (Yah _) (by decide)) λvs e=>?_)
   cases e;simp
def law_3  {w: Wd}(ow:w.Ok)(hw:jaC w.ss w.bs w.P w.wt ys)(hR:TbOk w.m w.xs.length R)(hc:∀u∈cs,Cn 96 u)(hcl:cs.length<=96)(hf:Fd G f c)(q:Kq a f c K) :
  jas T.gs (jab T (k+9)) jck ⟨K,Q',X'⟩ [some (.loc a),some (.loc f),o2,some w.u,some (tbU R),some (.tup cs),o6,o7,o8] G:=by
 simp! only[jck];refine⟨by decide,by decide,λp1 G1 n1=>⟨by decide,by decide,by decide,λp2 G2 n2=>⟨by decide,by decide,λp3 G3 n3=>?_⟩⟩⟩
 dsimp only;have f2:=(hf.new n1).new n2;have hT:∀{G:Gp},Co G (tbU R):=jjq hR ow.m2 ow.x8;have hC:∀{G:Gp},Co G (.tup cs):=jlJ hc hcl;refine law_4 (k:=k) ow hw hR hc hcl (f2.new n3) (f2.away n3).1 n3.at (by simp) (λv hv=>?_) q
 simp only[Yau,Yam,or_false]at hv;rcases hv with rfl|rfl|rfl|rfl|rfl|rfl|rfl|rfl|rfl|rfl|rfl
 ·exact Tg2.flat (Tk.non (by decide)) λ_=>nofun
 ·exact Tg2.flat (Tk.bl _ (by decide)) λ_=>nofun
 ·exact Tg2.flat (Tk.int (by decide) (by decide)) λ_=>nofun
 ·exact Tg2.flat (Tk.str (m:=8) (by decide +kernel) (by decide +kernel) (by decide)) λ_=>nofun
 ·exact Tg2.flat (Tk.str (m:=8) (by decide +kernel) (by decide +kernel) (by decide)) λ_=>nofun
 ·exact Co.tup (λu hu=>(nomatch hu)) (by simp)
 ·exact Tg2.flat (Tk.lst (N:=34) (n:=5) (m:=0) (n3.sa _ _ (n2.sa _ _ n1.at)) (λu hu=>(nomatch hu)) (Yah _) (by decide)) λ_=>nofun
 ·exact Co.tup (λu hu=>by rw[List.mem_singleton.mp hu];exact hT) (by simp)
 ·refine Co.tup (λu hu=>?_) (by simp)
  simp only[Yau,Yam,or_false]at hu;rcases hu with rfl|rfl|rfl
  ·exact hT
  ·exact hC
  ·exact Co.flat (Tk.int (by decide) (by decide)) λ_=>nofun
 ·refine Tg2.flat ((Tk.lst (N:=700000) (n:=3) (m:=2) (n3.sa _ _ n2.at) (λu hu=>?_) (by simp) (by decide)).mono (Yah 3000000) (by decide)) λ_=>nofun
  simp only[Yau,Yam,or_false]at hu;rcases hu with rfl|rfl
  ·exact hT.1
  ·exact hC.1
 ·exact Co.two hC hT
def law_turn  (hf:Fd G f c)(q:Kq a f c K):jas T.gs (jab T (k+9)) jcl ⟨K,Q',X'⟩ [some (.loc a),some (.loc f),o2,o3,o4,o5,o6,o7,o8] G:=by
 simp! only[jcl];refine ji6 (k:=k+4) hf λw G1 ow f1 s1=>?_;have x8:=ow.x8;have m2:=ow.m2;obtain⟨ys,hw⟩:=jjx (wt:=w.wt) ow.so ow.bl ow.bb ow.ww;have hP:0<w.P:=by have:=ow.p1;lia
 have hy:=jew hP ow.p6 ow.so ow.bb hw;obtain⟨R,hr⟩:=jhx hy m2 x8 ((95904-tot (ini w.m w.xs.length w.gv)).toNat+1) _ (jj6 ow.gg) (by lia)
 have hL:=Runs.lst hy ow.gg hr;simp! only[];refine jc1 (k:=k+7) ow hw hr λG2 s2=>?_;simp! only[];refine jeh (k:=k+6) ow hw hL (f1.sa s2) λp cs G3 hl hc np g3 f3 s3=>?_;simp! only[it_l g3];have hn:=jaS (t:=R) m2 x8;exact law_3 (k:=k) ow hw hL.ok hc (by lia) f3 q
def law_ir   a (ns:List Int)(hl:ns.length<=63):jab T 300 jlg [.loc a] (G0 a ns) (λu _=>u=.bl true) λ_ _=>False:=by
 refine⟨rfl,?_⟩;simp! only[jnV,jaj,Yab,jho];refine jle (k:=298) (show G0 a ns a=some (.fro (ns.map .int))from if_pos rfl) hl λf c G1 f1=>?_;refine⟨by decide,by decide,?_⟩
 refine jau (λ_ ς G'=>(∃o2 o3 o4 o5 o6 o7 o8,ς=[some (.loc a),some (.loc f),o2,o3,o4,o5,o6,o7,o8])/\Fd G' f c) ?_ ?_ ⟨⟨_,_,_,_,_,_,_,rfl⟩,f1⟩
 ·rintro ς G2 ⟨_,_⟩;exact⟨trivial,trivial⟩
 ·rintro i x ς G2 K hx ⟨⟨o2,o3,o4,o5,o6,o7,o8,rfl⟩,f2⟩ hk;exact⟨trivial,law_turn (k:=290) f2 λo2 o3 o4 o5 o6 o7 o8 G' h=>hk _ _ ⟨⟨_,_,_,_,_,_,_,rfl⟩,h⟩⟩

def sts  : List Stmt:=[s_is_whole,s_is_within,s_length_of,s_buffer_of,s_step_of,s_is_late_row,s_is_table,s_late_places,s_is_late_paper,s_span_holds,s_led_to,s_is_chain,s_lets_late,s_law_feed,s_law_draw,s_law_names,s_law_cycle,s_law_number,s_law_span,s_law_plan,s_law_beats,s_law_leg,s_law_world,s_law_lateness,s_law_is_whole,s_law_spots,s_law_is_table,s_law_is_led,s_law_late_due,s_law_late_let,s_law_order,s_law_chains,s_law_odd,s_law_tables,s_law]
def prog_rep  : jd9 T 0 T.funs sts=true:=by decide +kernel
def prog_eq  : jeG T sts 0 T.funs sts:=⟨rfl,rfl,rfl,rfl,rfl,rfl,rfl,rfl,rfl,rfl,rfl,rfl,rfl,rfl,rfl,rfl,rfl,rfl,rfl,rfl,rfl,rfl,rfl,rfl,rfl,rfl,rfl,rfl,rfl,rfl,rfl,rfl,rfl,rfl,rfl,trivial⟩
def tabsU  : ∀t∈tabs,∀t'∈tabs,t.1=t'.1->t=t':=λt h=>(nomatch (show t∈[]from h))
noncomputable def tbs  : List (Str×Addr×Addr):=[]
def walk  {l:Yd2}{K:Params->Yac}(hn:l.most=some 63)(hdf:d.params.defaults=[])
  (hY:∀(w:World) (h:Heap),YP w h->(K w.params).In h) (hK:∀w:World,((K w.params).all λp=>p.2.cls != .type "list")=true) (hsy:∀w:World,∃o,(K w.params).lookup Ya9=some o/\o.cls=.type "dict")
  (hT:∀(w:World),∀t∈tbs,(∃dr,(PyProof.Rows.recsOf q).find? (λe=>e.name==t.1)=some dr)/\PySem.W.tabIn (K w.params) t.1=some (t.2.1,t.2.2)/\(K w.params).lookup t.2.2=none)
  (F:∀(w:World) mg fa (h:Heap),(K w.params).In h->h.Ns YaF mg->mg d.name=some (.ref fa)->
   ∃fd ,(∀(s:Shared) u ,BindsTo s fd ⟨[u],[]⟩ [("_law_script",u)])/\∀base ,(K w.params).In base->base.Ns YaF mg->BmAt mg base->FnOk l.prog w (K w.params) mg base (CX1 l.prog w) 302 fa fd ["_law_script"] (lSp (K w.params) (jab T 300 jlg))) :
  Ygg q loose XP YP l.row.toRowW d [] (λf vs=>YfM f vs):=
 L2.walk_ofT (n:=63) (k:=302) (x := "_law_script") (CX:=λw=>CX1 l.prog w) (sp:=λw=>lSp (K w.params) (jab T 300 jlg)) hK hT hn (by decide) hdf ⟨rfl,by decide,by decide,rfl⟩ hY hsy F (λw _ _ a ns hl hO hS=>law_sp (by decide) hO hS (law_ir a ns hl)) λ_ _ _ _ _ ⟨_,_,_,_,_,_,_,_,_,_,z⟩=>z
end Z
namespace Y
open PySem L2
set_option maxHeartbeats 0
noncomputable def q0  : Str := "/claim/cut.py"
noncomputable def q1  : Str := "<module>"
noncomputable def q2  : Str := "__main__"
noncomputable def q3  : Str := "TooMany"
noncomputable def q4  : Str := "__init__"
noncomputable def q5  : Str := "NoRing.__init__"
noncomputable def q6  : Str := "beatplans.errors"
noncomputable def q7  : Str := "NoRing"
noncomputable def q8  : Str := "NoPaper.__init__"
noncomputable def q9  : Str := "__module__"
noncomputable def q10  : Str := "__firstlineno__"
noncomputable def q11  : Str := "__static_attributes__"
noncomputable def q12  : Str := "__weakref__"
noncomputable def q13  : Str := "__doc__"
noncomputable def q14  : Str := "self"
noncomputable def q15  : Str := "word"
noncomputable def q16  : Str := "TooMany.__init__"
noncomputable def q17  : Str := "__name__"
noncomputable def q18  : Str := "__package__"
noncomputable def q19  : Str := "__loader__"
noncomputable def q20  : Str := "__spec__"
noncomputable def q21  : Str := "__annotations__"
noncomputable def q22  : Str := "__builtins__"
noncomputable def q23  : Str := "__file__"
noncomputable def q24  : Str := "__cached__"
noncomputable def q25  : Str := "PlanError"
noncomputable def q26  : Str := "NoPaper"
noncomputable def q27  : Str := "__qualname__"
noncomputable def q28  : Str := "at"
noncomputable def q29  : Str := "is_whole"
noncomputable def q30  : Str := "led_to"
noncomputable def q31  : Str := "beatplans.latechecker"
noncomputable def q32  : Str := "length_of"
noncomputable def q33  : Str := "beatplans.plans"
noncomputable def q34  : Str := "thing"
noncomputable def q35  : Str := "works"
noncomputable def q36  : Str := "many"
noncomputable def q37  : Str := "table"
noncomputable def q38  : Str := "chains"
noncomputable def q39  : Str := "is_within"
noncomputable def q40  : Str := "is_table"
noncomputable def q41  : Str := "NoText"
noncomputable def q42  : Str := "span_holds"
noncomputable def q43  : Str := "row"
noncomputable def q44  : Str := "_law_feed"
noncomputable def q45  : Str := "is_late_paper"
noncomputable def q46  : Str := "NoRow.__init__"
noncomputable def q47  : Str := "plan"
noncomputable def q48  : Str := "period"
noncomputable def q49  : Str := "beats"
noncomputable def q50  : Str := "s"
noncomputable def q51  : Str := "one"
noncomputable def q52  : Str := "other"
noncomputable def q53  : Str := "low"
noncomputable def q54  : Str := "high"
noncomputable def q55  : Str := "lets_late"
noncomputable def q56  : Str := "late_places"
noncomputable def q57  : Str := "step_of"
noncomputable def q58  : Str := "waiting"
noncomputable def q59  : Str := "start"
noncomputable def q60  : Str := "work"
noncomputable def q61  : Str := "turn"
noncomputable def q62  : Str := "late"
noncomputable def q63  : Str := "law_beatplans_k64_things_that_are_no_papers"
noncomputable def q64  : Str := "NoRow"
noncomputable def q65  : Str := "buffer_of"
noncomputable def q66  : Str := "MOST_ROW"
noncomputable def q67  : Str := "is_late_row"
noncomputable def q68  : Str := "is_chain"
noncomputable def q69  : Str := "NoText.__init__"
noncomputable def q70  : Str := "given"
noncomputable def q71  : Str := "k"
noncomputable def q72  : Str := "place"
noncomputable def q73  : Str := "beatplans.late"
noncomputable def q74  : Str := "_law_script"
noncomputable def q75  : Str := "least"
noncomputable def q76  : Str := "most"
noncomputable def q77  : Str := "g"
noncomputable def q78  : Str := "_law_beats"
noncomputable def q79  : Str := "_law_names"
noncomputable def q80  : Str := "_law_late_due"
noncomputable def q81  : Str := "_law_leg"
noncomputable def q82  : Str := "_law_odd"
noncomputable def q83  : Str := "_law_cycle"
noncomputable def q84  : Str := "_law_is_whole"
noncomputable def q85  : Str := "_law_feed_here"
noncomputable def q86  : Str := "_law_many"
noncomputable def q87  : Str := "_law_cell"
noncomputable def q88  : Str := "_law_mixed"
noncomputable def q89  : Str := "_law_found"
noncomputable def q90  : Str := "_law_is_table"
noncomputable def q91  : Str := "law"
noncomputable def q92  : Str := "_law_span"
noncomputable def q93  : Str := "_law_world"
noncomputable def q94  : Str := "_law_draw"
noncomputable def q95  : Str := "_law_order"
noncomputable def q96  : Str := "_law_plan"
noncomputable def q97  : Str := "_law_number"
noncomputable def q98  : Str := "_law_lateness"
noncomputable def q99  : Str := "_law_spots"
noncomputable def q100  : Str := "_law_is_led"
noncomputable def q101  : Str := "_law_late_let"
noncomputable def q102  : Str := "_law_chains"
noncomputable def q103  : Str := "_law_tables"
noncomputable def q104  : Str := "_law_one"
noncomputable def q105  : Str := "_law_other"
noncomputable def q106  : Str := "_law_cycle_here"
noncomputable def q107  : Str := "_law_low"
noncomputable def q108  : Str := "_law_more"
noncomputable def q109  : Str := "_law_things"
noncomputable def q110  : Str := "_law_left"
noncomputable def q111  : Str := "_law_some"
noncomputable def q112  : Str := "_law_thing"
noncomputable def q113  : Str := "_law_works"
noncomputable def q114  : Str := "_law_names_here"
noncomputable def q115  : Str := "_law_spans"
noncomputable def q116  : Str := "_law_k"
noncomputable def q117  : Str := "_law_plan_here"
noncomputable def q118  : Str := "_law_beats_here"
noncomputable def q119  : Str := "_law_s"
noncomputable def q120  : Str := "_law_word"
noncomputable def q121  : Str := "_law_high"
noncomputable def q122  : Str := "_law_step"
noncomputable def q123  : Str := "_law_world_here"
noncomputable def q124  : Str := "_law_waiting"
noncomputable def q125  : Str := "_law_given"
noncomputable def q126  : Str := "e"
noncomputable def q127  : Str := "_law_others"
noncomputable def q128  : Str := "_law_way"
noncomputable def q129  : Str := "_law_due"
noncomputable def q130  : Str := "_law_work"
noncomputable def q131  : Str := "_law_turn"
noncomputable def q132  : Str := "_law_number_here"
noncomputable def q133  : Str := "_law_spare"
noncomputable def h0  : List Value:=[]
def o0  : Obj:=sO .none h0
def o1  : Obj:=kO q0 q1 q1 182 1 0 0 11 false .none .none .none 185
def o2  : Obj:=rO [(some (.ref 13)),(some (.ref 3)),(some (.ref 3)),none,(some (.str q2 164)),none,(some (.ref 0))]
def o3  : Obj:=cO q3 [(.ref 24)] [(.ref 63),(.ref 24),(.type "ValueError"),(.type "Exception"),(.type "BaseException"),(.type "object")] 62 [] [(some (.ref 47)),none,(some (.str q3 234)),(some (.str q3 242)),(some (.builtin "ValueError.__new__")),(some (.bool true))]
def o4  : Obj:=fO q4 q5 (jaD (Z.top 4) 0) (.str q6 187) 78
def o5  : Obj:=tO [(.ref 24)]
def o6  : Obj:=tO [(.type "ValueError")]
def o7  : Obj:=kO q0 q7 q7 261 13 0 0 69 false .none .none .none 264
def o8  : Obj:=gO q4 q8 (jaD (Z.top 2) 0)
def o9  (P:Params):Obj:=dO (dE P q9 196 (.str q6 187)::dE P q10 200 (.int 2 199)::dE P q11 201 (.ref 22)::dE P q12 203 (.ref 25)::dE P q13 204 .none::[]) 3
def o10  : Obj:=sO (.type "builtin_function_or_method") [(.builtin "type.__prepare__"),(.type "type")]
def o11  : Obj:=sO (.type "super") [(.ref 82),(.ref 82),(.ref 82)]
def o12  : Obj:=sO .none [(.int 11 0),(.int 4 0),(.ref 59)]
def o13  : Obj:=tO [(.str q14 274),(.str q15 275)]
def o14  (P:Params):Obj:=dO (dE P q9 214 (.str q6 187)::dE P q10 218 (.int 4 217)::dE P q4 227 (.ref 41)::dE P q11 230 (.ref 42)::dE P q13 231 .none::[]) 2
def o15  : Obj:=kO q0 q4 q16 246 11 2 3 54 true (.ref 56) (.ref 57) (.ref 58) 251
def o16  : Obj:=sO (.type "builtin_function_or_method") [(.builtin "object.__init_subclass__"),(.ref 24)]
def g18  (P:Params):List Yej:=dE P q13 166 .none::dE P q18 167 .none::dE P q19 168 (.builtin "__main__.__loader__#opaque")::dE P q20 169 .none::dE P q21 170 (.ref 6)::dE P q22 171 (.ref 4)::dE P q23 173 (.str q0 172)::dE P q24 174 .none::dE P q25 206 (.ref 24)::dE P q26 233 (.ref 44)::dE P q3 258 (.ref 63)::dE P q7 283 (.ref 82)::[]
def o17  (P:Params):Obj:=dO (dE P q17 165 (.str q6 187)::g18 P) 13
def o18  : Obj:=sO (.type "builtin_function_or_method") [(.builtin "object.__init_subclass__"),(.ref 63)]
def o19  : Obj:=kO q0 q26 q26 209 4 0 0 31 false .none .none .none 212
def o20  (P:Params):Obj:=dO (dE P q9 266 (.str q6 187)::dE P q10 270 (.int 13 269)::dE P q4 278 (.ref 79)::dE P q11 280 (.ref 80)::dE P q13 281 .none::[]) 2
def o21  (P:Params):Obj:=dO (dE P q9 241 (.str q6 187)::dE P q27 243 (.str q3 242)::dE P q10 245 (.int 9 244)::dE P q4 253 (.ref 60)::dE P q11 255 (.ref 61)::[]) 5
def o22  (P:Params):Obj:=dO (dE P q9 196 (.str q6 187)::dE P q27 198 (.str q25 197)::dE P q10 200 (.int 2 199)::dE P q11 201 (.ref 22)::[]) 4
def o23  : Obj:=fO q4 q8 (jaD (Z.top 2) 0) (.str q6 187) 40
def o24  : Obj:=sO (.type "getset_descriptor") [(.str q12 202),(.ref 24),(.builtin "ExceptionGroup.__weakref__"),.none]
def o25  : Obj:=tO [(.str q14 222),(.str q15 223),(.str q28 224)]
def o26  : Obj:=rO [(some (.ref 52)),(some (.ref 3)),(some (.ref 49)),none,(some (.str q6 187)),none,(some (.ref 0))]
def o27  : Obj:=rO [(some (.ref 20)),(some (.ref 3)),(some (.ref 17)),none,(some (.str q6 187)),none,(some (.ref 0))]
def o28  : Obj:=gO q4 q5 (jaD (Z.top 4) 0)
def o29  : Obj:=sO (.type "super") [(.ref 44),(.ref 44),(.ref 44)]
def o30  : Obj:=tO [(.str q15 254)]
def o31  : Obj:=sO (.type "super") [(.ref 63),(.ref 63),(.ref 63)]
def o32  : Obj:=sO .none [(.int 6 0),(.int 4 0),(.ref 40)]
def o33  : Obj:=tO [(.str q15 279)]
def o34  : Obj:=rO [(some (.ref 71)),(some (.ref 3)),(some (.ref 68)),none,(some (.str q6 187)),none,(some (.ref 0))]
def o35  : Obj:=kO q0 q4 q8 219 6 3 3 35 true (.ref 37) (.ref 38) (.ref 39) 225
def o36  : Obj:=tO [(.str q14 249),(.str q15 250)]
def o37  : Obj:=cO q25 [(.type "ValueError")] [(.ref 24),(.type "ValueError"),(.type "Exception"),(.type "BaseException"),(.type "object")] 23 [(.ref 44),(.ref 63),(.ref 82)] [(some (.ref 15)),none,(some (.str q25 189)),(some (.str q25 197)),(some (.builtin "ValueError.__new__")),(some (.bool true))]
def o38  (P:Params):Obj:=dO (dE P q9 266 (.str q6 187)::dE P q27 268 (.str q7 267)::dE P q10 270 (.int 13 269)::dE P q4 278 (.ref 79)::dE P q11 280 (.ref 80)::[]) 5
def o39  : Obj:=sO (.type "builtin_function_or_method") [(.builtin "object.__init_subclass__"),(.ref 82)]
def o40  : Obj:=kO q0 q3 q3 236 9 0 0 50 false .none .none .none 239
def o41  : Obj:=kO q0 q25 q25 191 2 0 0 18 false .none .none .none 194
def o42  : Obj:=cO q26 [(.ref 24)] [(.ref 44),(.ref 24),(.type "ValueError"),(.type "Exception"),(.type "BaseException"),(.type "object")] 43 [] [(some (.ref 28)),none,(some (.str q26 207)),(some (.str q26 215)),(some (.builtin "ValueError.__new__")),(some (.bool true))]
def o43  : Obj:=fO q4 q16 (jaD (Z.top 3) 0) (.str q6 187) 59
def h46  : List Value:=h0++[(.int 2 0),(.int 0 0),(.ref 20),(.int 4 0),(.int 0 0),(.ref 33),(.int 9 0),(.int 0 0),(.ref 52),(.int 13 0),(.int 0 0),(.ref 71)]
def o44  : Obj:=sO .none h46
def o45  : Obj:=rO [(some (.ref 33)),(some (.ref 3)),(some (.ref 30)),none,(some (.str q6 187)),none,(some (.ref 0))]
def o46  : Obj:=cO q7 [(.ref 24)] [(.ref 82),(.ref 24),(.type "ValueError"),(.type "Exception"),(.type "BaseException"),(.type "object")] 81 [] [(some (.ref 66)),none,(some (.str q7 259)),(some (.str q7 267)),(some (.builtin "ValueError.__new__")),(some (.bool true))]
def o47  : Obj:=tO [(.str q28 228),(.str q15 229)]
def o48  : Obj:=gO q4 q16 (jaD (Z.top 3) 0)
def o49  : Obj:=sO (.type "super") [(.ref 24),(.ref 24),(.ref 24)]
def o50  : Obj:=sO .none [(.int 15 0),(.int 4 0),(.ref 78)]
def o51  : Obj:=kO q0 q4 q5 271 15 2 3 73 true (.ref 75) (.ref 76) (.ref 77) 276
def o52  : Obj:=sO (.type "builtin_function_or_method") [(.builtin "object.__init_subclass__"),(.ref 44)]
def o53  (P:Params):Obj:=dO (dE P q9 241 (.str q6 187)::dE P q10 245 (.int 9 244)::dE P q4 253 (.ref 60)::dE P q11 255 (.ref 61)::dE P q13 256 .none::[]) 2
def o54  (P:Params):Obj:=dO (dE P q9 214 (.str q6 187)::dE P q27 216 (.str q26 215)::dE P q10 218 (.int 4 217)::dE P q4 227 (.ref 41)::dE P q11 230 (.ref 42)::[]) 5
def o55  : Obj:=gO q29 q29 (Z.top 8)
def o56  : Obj:=fO q30 q30 (Z.top 21) (.str q31 396) 190
def o57  : Obj:=fO q32 q32 (Z.top 10) (.str q33 336) 142
def o58  : Obj:=tO [(.str q34 421),(.str q35 422),(.str q36 423),(.str q37 424),(.str q38 425)]
def o59  : Obj:=kO q0 q39 q39 345 29 3 3 130 true (.ref 132) (.ref 133) (.ref 134) 351
def o60  : Obj:=fO q40 q40 (Z.top 17) (.str q31 396) 166
def o61  : Obj:=sO (.type "builtin_function_or_method") [(.builtin "object.__init_subclass__"),(.ref 101)]
def o62  (P:Params):Obj:=dO (dE P q9 291 (.str q6 187)::dE P q27 293 (.str q41 292)::dE P q10 295 (.int 17 294)::dE P q4 304 (.ref 98)::dE P q11 307 (.ref 99)::[]) 5
def o63  : Obj:=kO q0 q42 q42 429 57 6 3 180 true .none .none (.ref 182) 432
def o64  (P:Params):Obj:=dO (dE P q9 318 (.str q6 187)::dE P q10 322 (.int 22 321)::dE P q4 330 (.ref 117)::dE P q11 332 (.ref 118)::dE P q13 333 .none::[]) 2
def o65  : Obj:=tO [(.str q43 305),(.str q15 306)]
def o66  : Obj:=kO q0 q44 q44 489 93 1 3 206 true (.ref 208) (.ref 209) (.ref 210) 493
def o67  : Obj:=fO q45 q45 (Z.top 19) (.str q31 396) 178
def o68  : Obj:=gO q4 q46 (jaD (Z.top 6) 0)
def o69  : Obj:=tO [(.str q47 357),(.str q48 358),(.str q49 359),(.str q50 360),(.str q15 361),(.str q51 362),(.str q52 363),(.str q53 364),(.str q54 365)]
def o70  : Obj:=gO q55 q55 (Z.top 23)
def o71  : Obj:=kO q0 q56 q56 412 50 1 3 168 true .none .none (.ref 170) 415
def o72  : Obj:=gO q57 q57 (Z.top 13)
def o73  : Obj:=rO [(some (.ref 90)),(some (.ref 3)),(some (.ref 87)),none,(some (.str q6 187)),none,(some (.ref 0))]
def o74  : Obj:=tO [(.str q47 438),(.str q48 439),(.str q49 440),(.str q58 441),(.str q59 442),(.str q43 443),(.str q60 444),(.str q61 445),(.str q62 446),(.str q50 447)]
def g78  (P:Params):List Yej:=g18 P++[dE P q41 310 (.ref 101),dE P q64 335 (.ref 120),dE P q29 344 (.ref 129),dE P q39 353 (.ref 136),dE P q32 368 (.ref 143),dE P q65 380 (.ref 150),dE P q57 395 (.ref 157),dE P q66 399 (.int 100 398),dE P q67 405 (.ref 162),dE P q40 411 (.ref 167),dE P q56 417 (.ref 172),dE P q45 428 (.ref 179),dE P q42 434 (.ref 184),dE P q30 450 (.ref 191),dE P q68 465 (.ref 198),dE P q55 486 (.ref 205),dE P q44 495 (.ref 212)]
def o75  (P:Params):Obj:=dO (dE P q17 165 (.str q63 487)::g78 P) 30
def o76  : Obj:=fO q29 q29 (Z.top 8) (.str q33 336) 128
def o77  : Obj:=kO q0 q67 q67 400 42 2 3 158 true .none .none (.ref 160) 403
def o78  : Obj:=kO q0 q4 q69 296 19 3 3 92 true (.ref 94) (.ref 95) (.ref 96) 302
def o79  : Obj:=gO q45 q45 (Z.top 19)
def o80  : Obj:=tO [(.str q14 326),(.str q43 327)]
def o81  : Obj:=tO [(.str q47 469),(.str q48 470),(.str q49 471),(.str q58 472),(.str q70 473),(.str q36 474),(.str q34 475),(.str q37 476),(.str q38 477),(.str q71 478),(.str q60 479),(.str q61 480),(.str q62 481),(.str q50 482),(.str q72 483)]
def o82  : Obj:=tO [(.str q47 384),(.str q48 385),(.str q49 386),(.str q50 387),(.str q15 388),(.str q51 389),(.str q52 390),(.str q53 391),(.str q54 392)]
def o83  : Obj:=sO .none [(.int 19 0),(.int 4 0),(.ref 97)]
def o84  : Obj:=sO (.type "super") [(.ref 120),(.ref 120),(.ref 120)]
def o85  : Obj:=kO q0 q68 q68 451 71 7 3 192 true (.ref 194) (.ref 195) (.ref 196) 463
def o86  : Obj:=gO q40 q40 (Z.top 17)
def o87  : Obj:=cO q41 [(.ref 24)] [(.ref 101),(.ref 24),(.type "ValueError"),(.type "Exception"),(.type "BaseException"),(.type "object")] 100 [] [(some (.ref 85)),none,(some (.str q41 284)),(some (.str q41 292)),(some (.builtin "ValueError.__new__")),(some (.bool true))]
def o88  : Obj:=kO q0 q65 q65 371 35 4 3 144 true (.ref 146) (.ref 147) (.ref 148) 378
def o89  : Obj:=fO q4 q46 (jaD (Z.top 6) 0) (.str q6 187) 116
def o90  : Obj:=gO q32 q32 (Z.top 10)
def o91  : Obj:=fO q55 q55 (Z.top 23) (.str q31 396) 204
def o92  : Obj:=kO q0 q64 q64 313 22 0 0 107 false .none .none .none 316
def o93  : Obj:=fO q57 q57 (Z.top 13) (.str q73 369) 156
def o94  : Obj:=gO q30 q30 (Z.top 21)
def o95  : Obj:=tO [(.str q34 341)]
def o96  : Obj:=kO q0 q29 q29 338 27 1 3 123 true (.ref 125) (.ref 126) (.ref 127) 342
def o97  : Obj:=gO q67 q67 (Z.top 16)
def o98  : Obj:=gO q4 q69 (jaD (Z.top 5) 0)
def o99  : Obj:=tO [(.str q74 492)]
def o100  : Obj:=fO q39 q39 (Z.top 9) (.str q33 336) 135
def o101  : Obj:=fO q42 q42 (Z.top 20) (.str q31 396) 183
def o102  : Obj:=cO q64 [(.ref 24)] [(.ref 120),(.ref 24),(.type "ValueError"),(.type "Exception"),(.type "BaseException"),(.type "object")] 119 [] [(some (.ref 104)),none,(some (.str q64 311)),(some (.str q64 319)),(some (.builtin "ValueError.__new__")),(some (.bool true))]
def o103  : Obj:=cO q25 [(.type "ValueError")] [(.ref 24),(.type "ValueError"),(.type "Exception"),(.type "BaseException"),(.type "object")] 23 [(.ref 44),(.ref 63),(.ref 82),(.ref 101),(.ref 120)] [(some (.ref 15)),none,(some (.str q25 189)),(some (.str q25 197)),(some (.builtin "ValueError.__new__")),(some (.bool true))]
def o104  : Obj:=tO [(.str q34 348),(.str q75 349),(.str q76 350)]
def o105  : Obj:=gO q68 q68 (Z.top 22)
def o106  (P:Params):Obj:=dO (dE P q9 291 (.str q6 187)::dE P q10 295 (.int 17 294)::dE P q4 304 (.ref 98)::dE P q11 307 (.ref 99)::dE P q13 308 .none::[]) 2
def o107  : Obj:=gO q65 q65 (Z.top 12)
def o108  : Obj:=fO q44 q44 (Z.top 25) (.str q63 487) 211
def o109  : Obj:=kO q0 q4 q46 323 24 2 3 111 true (.ref 113) (.ref 114) (.ref 115) 328
def o110  : Obj:=kO q0 q55 q55 466 78 7 3 199 true (.ref 201) (.ref 202) (.ref 203) 484
def o111  : Obj:=fO q56 q56 (Z.top 18) (.str q31 396) 171
def o112  : Obj:=sO .none [(.int 24 0),(.int 4 0),(.ref 116)]
def o113  : Obj:=kO q0 q57 q57 381 37 4 3 151 true (.ref 153) (.ref 154) (.ref 155) 393
def h118  : List Value:=h46++[(.int 17 0),(.int 0 0),(.ref 90),(.int 22 0),(.int 0 0),(.ref 109),(.int 27 0),(.int 0 0),(.ref 128),(.int 29 0),(.int 0 0),(.ref 135),(.int 31 0),(.int 0 0),(.ref 142),(.int 35 0),(.int 0 0),(.ref 149),(.int 37 0),(.int 0 0),(.ref 156),(.int 42 0),(.int 0 0),(.ref 161),(.int 46 0),(.int 0 0),(.ref 166),(.int 50 0),(.int 0 0),(.ref 171),(.int 52 0),(.int 0 0),(.ref 178),(.int 57 0),(.int 0 0),(.ref 183),(.int 62 0),(.int 0 0),(.ref 190),(.int 71 0),(.int 0 0),(.ref 197),(.int 78 0),(.int 0 0),(.ref 204),(.int 93 0),(.int 0 0),(.ref 211)]
def o114  : Obj:=sO .none h118
def o115  : Obj:=tO [(.str q47 454),(.str q48 455),(.str q49 456),(.str q58 457),(.str q70 458),(.str q72 459),(.str q34 460),(.str q77 461),(.str q43 462)]
def o116  : Obj:=fO q67 q67 (Z.top 16) (.str q31 396) 161
def o117  : Obj:=fO q4 q69 (jaD (Z.top 5) 0) (.str q6 187) 97
def o118  : Obj:=tO [(.str q47 374),(.str q48 375),(.str q49 376),(.str q50 377)]
def o119  : Obj:=gO q44 q44 (Z.top 25)
def o120  : Obj:=kO q0 q45 q45 418 52 3 3 173 true (.ref 175) (.ref 176) (.ref 177) 426
def o121  : Obj:=gO q56 q56 (Z.top 18)
def o122  (P:Params):Obj:=dO (dE P q9 318 (.str q6 187)::dE P q27 320 (.str q64 319)::dE P q10 322 (.int 22 321)::dE P q4 330 (.ref 117)::dE P q11 332 (.ref 118)::[]) 5
def o123  : Obj:=kO q0 q41 q41 286 17 0 0 88 false .none .none .none 289
def o124  : Obj:=sO (.type "builtin_function_or_method") [(.builtin "object.__init_subclass__"),(.ref 120)]
def o125  : Obj:=gO q39 q39 (Z.top 9)
def o126  : Obj:=fO q68 q68 (Z.top 22) (.str q31 396) 197
def o127  : Obj:=kO q0 q40 q40 406 46 3 3 163 true .none .none (.ref 165) 409
def o128  : Obj:=sO (.type "super") [(.ref 101),(.ref 101),(.ref 101)]
def o129  : Obj:=fO q65 q65 (Z.top 12) (.str q73 369) 149
def o130  : Obj:=gO q42 q42 (Z.top 20)
def o131  : Obj:=tO [(.str q43 331)]
def o132  : Obj:=kO q0 q32 q32 354 31 4 3 137 true (.ref 139) (.ref 140) (.ref 141) 366
def o133  : Obj:=rO [(some (.ref 109)),(some (.ref 3)),(some (.ref 106)),none,(some (.str q6 187)),none,(some (.ref 0))]
def o134  : Obj:=tO [(.str q14 299),(.str q43 300),(.str q15 301)]
def o135  : Obj:=kO q0 q30 q30 435 62 6 3 185 true (.ref 187) (.ref 188) (.ref 189) 448
def o136  : Obj:=gO q78 q78 (Z.top 32)
def o137  : Obj:=kO q0 q79 q79 507 108 2 3 220 true .none .none (.ref 222) 510
def o138  : Obj:=fO q80 q80 (Z.top 40) (.str q63 487) 302
def o139  : Obj:=kO q0 q81 q81 559 146 4 3 258 true (.ref 260) (.ref 261) (.ref 262) 572
def o140  : Obj:=gO q82 q82 (Z.top 44)
def o141  : Obj:=fO q83 q83 (Z.top 28) (.str q63 487) 230
def o142  : Obj:=gO q84 q84 (Z.top 36)
def o143  : Obj:=tO [(.str q85 499),(.str q86 500),(.str q87 501),(.str q88 502),(.str q89 503)]
def o144  : Obj:=fO q90 q90 (Z.top 38) (.str q63 487) 290
def o145  : Obj:=tO [(.str q85 516)]
def o146  : Obj:=fO q91 q91 (Z.top 46) (.str q63 487) 338
def o147  : Obj:=gO q92 q92 (Z.top 30)
def o148  : Obj:=gO q93 q93 (Z.top 34)
def o149  : Obj:=fO q94 q94 (Z.top 26) (.str q63 487) 218
def o150  : Obj:=gO q95 q95 (Z.top 42)
def o151  : Obj:=kO q0 q96 q96 541 134 2 3 246 true (.ref 248) (.ref 249) (.ref 250) 550
def g157  (P:Params):List Yej:=g78 P++[dE P q94 506 (.ref 219),dE P q79 512 (.ref 224),dE P q83 519 (.ref 231),dE P q97 528 (.ref 238),dE P q92 540 (.ref 245),dE P q96 552 (.ref 252),dE P q78 558 (.ref 257),dE P q81 574 (.ref 264),dE P q93 580 (.ref 269),dE P q98 586 (.ref 274),dE P q84 593 (.ref 281),dE P q99 599 (.ref 286),dE P q90 605 (.ref 291),dE P q100 626 (.ref 298),dE P q80 632 (.ref 303),dE P q101 649 (.ref 310),dE P q95 659 (.ref 317),dE P q102 665 (.ref 322),dE P q82 673 (.ref 329),dE P q103 679 (.ref 334),dE P q91 685 (.ref 339)]
def o152  (P:Params):Obj:=dO (dE P q17 165 (.str q63 487)::g157 P) 51
def o153  : Obj:=fO q78 q78 (Z.top 32) (.str q63 487) 256
def o154  : Obj:=kO q0 q102 q102 660 244 3 3 318 true .none .none (.ref 320) 663
def o155  : Obj:=gO q90 q90 (Z.top 38)
def o156  : Obj:=kO q0 q98 q98 581 164 1 3 270 true .none .none (.ref 272) 584
def o157  : Obj:=gO q91 q91 (Z.top 46)
def o158  : Obj:=tO [(.str q85 532),(.str q104 533),(.str q105 534),(.str q106 535),(.str q107 536),(.str q108 537)]
def o159  : Obj:=fO q82 q82 (Z.top 44) (.str q63 487) 328
def o160  : Obj:=kO q0 q100 q100 606 193 3 3 292 true (.ref 294) (.ref 295) (.ref 296) 624
def o161  : Obj:=fO q84 q84 (Z.top 36) (.str q63 487) 280
def o162  : Obj:=gO q94 q94 (Z.top 26)
def o163  : Obj:=tO [(.str q85 653),(.str q109 654),(.str q110 655),(.str q89 656)]
def o164  : Obj:=tO [(.str q85 669),(.str q111 670)]
def o165  : Obj:=gO q83 q83 (Z.top 28)
def o166  : Obj:=tO [(.str q112 590)]
def o167  : Obj:=kO q0 q101 q101 633 227 2 3 304 true (.ref 306) (.ref 307) (.ref 308) 647
def o168  : Obj:=fO q92 q92 (Z.top 30) (.str q63 487) 244
def o169  : Obj:=fO q93 q93 (Z.top 34) (.str q63 487) 268
def o170  : Obj:=kO q0 q103 q103 674 267 2 3 330 true .none .none (.ref 332) 677
def o171  : Obj:=gO q80 q80 (Z.top 40)
def o172  : Obj:=kO q0 q97 q97 520 121 2 3 232 true (.ref 234) (.ref 235) (.ref 236) 526
def o173  : Obj:=kO q0 q99 q99 594 179 1 3 282 true .none .none (.ref 284) 597
def o174  : Obj:=fO q95 q95 (Z.top 42) (.str q63 487) 316
def o175  : Obj:=kO q0 q78 q78 553 144 3 3 253 true .none .none (.ref 255) 556
def o176  : Obj:=gO q102 q102 (Z.top 43)
def o177  : Obj:=fO q79 q79 (Z.top 27) (.str q63 487) 223
def o178  : Obj:=gO q98 q98 (Z.top 35)
def o179  : Obj:=fO q81 q81 (Z.top 33) (.str q63 487) 263
def o180  : Obj:=kO q0 q82 q82 666 264 1 3 323 true (.ref 325) (.ref 326) (.ref 327) 671
def o181  : Obj:=gO q100 q100 (Z.top 39)
def o182  : Obj:=kO q0 q84 q84 587 177 1 3 275 true (.ref 277) (.ref 278) (.ref 279) 591
def o183  : Obj:=tO [(.str q85 544),(.str q106 545),(.str q113 546),(.str q114 547),(.str q115 548),(.str q116 549)]
def o184  : Obj:=tO [(.str q117 562),(.str q106 563),(.str q118 564),(.str q119 565),(.str q120 566),(.str q104 567),(.str q105 568),(.str q107 569),(.str q121 570),(.str q122 571)]
def o185  : Obj:=gO q101 q101 (Z.top 41)
def o186  : Obj:=kO q0 q92 q92 529 128 4 3 239 true (.ref 241) (.ref 242) (.ref 243) 538
def o187  : Obj:=kO q0 q93 q93 575 150 1 3 265 true .none .none (.ref 267) 578
def o188  : Obj:=gO q103 q103 (Z.top 45)
def o189  : Obj:=gO q97 q97 (Z.top 29)
def o190  : Obj:=gO q99 q99 (Z.top 37)
def o191  : Obj:=kO q0 q95 q95 650 238 2 3 311 true (.ref 313) (.ref 314) (.ref 315) 657
def o192  : Obj:=fO q96 q96 (Z.top 31) (.str q63 487) 251
def h199  : List Value:=h118++[(.int 95 0),(.int 0 0),(.ref 218),(.int 108 0),(.int 0 0),(.ref 223),(.int 119 0),(.int 0 0),(.ref 230),(.int 121 0),(.int 0 0),(.ref 237),(.int 128 0),(.int 0 0),(.ref 244),(.int 134 0),(.int 0 0),(.ref 251),(.int 144 0),(.int 0 0),(.ref 256),(.int 146 0),(.int 0 0),(.ref 263),(.int 150 0),(.int 0 0),(.ref 268),(.int 164 0),(.int 0 0),(.ref 273),(.int 177 0),(.int 0 0),(.ref 280),(.int 179 0),(.int 0 0),(.ref 285),(.int 184 0),(.int 0 0),(.ref 290),(.int 193 0),(.int 0 0),(.ref 297),(.int 206 0),(.int 0 0),(.ref 302),(.int 227 0),(.int 0 0),(.ref 309),(.int 238 0),(.int 0 0),(.ref 316),(.int 244 0),(.int 0 0),(.ref 321),(.int 264 0),(.int 0 0),(.ref 328),(.int 267 0),(.int 0 0),(.ref 333),(.int 275 0),(.int 0 0),(.ref 338)]
def o193  : Obj:=sO .none h199
def o194  : Obj:=fO q102 q102 (Z.top 43) (.str q63 487) 321
def o195  : Obj:=kO q0 q90 q90 600 184 3 3 287 true .none .none (.ref 289) 603
def o196  : Obj:=fO q98 q98 (Z.top 35) (.str q63 487) 273
def o197  : Obj:=kO q0 q91 q91 680 275 1 3 335 true .none .none (.ref 337) 683
def o198  : Obj:=tO [(.str q123 636),(.str q112 637),(.str q117 638),(.str q106 639),(.str q118 640),(.str q124 641),(.str q125 642),(.str q86 643),(.str q89 644),(.str q126 645),(.str q127 646)]
def o199  : Obj:=fO q100 q100 (Z.top 39) (.str q63 487) 297
def o200  : Obj:=tO [(.str q85 523),(.str q106 524),(.str q128 525)]
def o201  : Obj:=kO q0 q94 q94 496 95 2 3 213 true (.ref 215) (.ref 216) (.ref 217) 504
def o202  : Obj:=gO q96 q96 (Z.top 31)
def o203  : Obj:=gO q81 q81 (Z.top 33)
def o204  : Obj:=tO [(.str q123 609),(.str q129 610),(.str q112 611),(.str q117 612),(.str q106 613),(.str q118 614),(.str q124 615),(.str q125 616),(.str q86 617),(.str q130 618),(.str q131 619),(.str q132 620),(.str q119 621),(.str q122 622),(.str q133 623)]
def o205  : Obj:=kO q0 q83 q83 513 119 1 3 225 true (.ref 227) (.ref 228) (.ref 229) 517
def o206  : Obj:=fO q101 q101 (Z.top 41) (.str q63 487) 309
def o207  : Obj:=fO q103 q103 (Z.top 45) (.str q63 487) 333
def o208  : Obj:=kO q0 q80 q80 627 206 2 3 299 true .none .none (.ref 301) 630
def o209  : Obj:=fO q97 q97 (Z.top 29) (.str q63 487) 237
def o210  : Obj:=fO q99 q99 (Z.top 37) (.str q63 487) 285
def o211  : Obj:=gO q79 q79 (Z.top 27)
def Ha  (P:Params):Heap:=⟨⟨Ycg P::YbH P::Ycf P::Yfy P::Yce P::Ycd P::Ycc P::Ycb P::Yca P::Yb9 P::YbV P::tE::o0::o1::o2::[]⟩,{}⟩
def t0  (P:Params):Ycr:=(bN (Ycg P) (bN (YbH P) (bN (Yfy P) (bL (Ycb P)) (bL tE)) (bN (Ycd P) (bL (Yb9 P)) (bL o1))) (bN (Ycf P) (bN (Yce P) (bL (Yca P)) (bL o0)) (bN (Ycc P) (bL (YbV P)) (bL o2))))
def t1  (P:Params):Ycr:=(bN (Ycg P) (bN (YbH P) (bN (o17 P) (bN (Ycb P) (bN o6 (bN tE (bL o3) bE) (bN o5 (bL o4) bE)) (bN (o9 P) (bN o8 (bL o7) bE) (bL nO))) (bN tE (bN nO (bN tE (bL o10) bE) (bN o12 (bL o11) bE)) (bN o16 (bN (o14 P) (bL o13) bE) (bL o15)))) (bN (Ycd P) (bN (Yb9 P) (bN (o22 P) (bN o19 (bL o18) bE) (bN (o21 P) (bL (o20 P)) bE)) (bN o24 (bN o23 (bL tE) bE) (bL tE))) (bN o1 (bN o27 (bN o25 (bL tE) bE) (bL o26)) (bN o10 (bN o29 (bL o28) bE) (bL o30))))) (bN (Ycf P) (bN (Yce P) (bN (Yca P) (bN o10 (bN o32 (bL o31) bE) (bN o10 (bL o33) bE)) (bN o37 (bN o35 (bL o34) bE) (bL o36))) (bN o44 (bN o41 (bN nO (bL (o38 P)) bE) (bN o40 (bL o39) bE)) (bN o5 (bN o42 (bL tE) bE) (bL o43)))) (bN (Ycc P) (bN (YbV P) (bN tE (bN o45 (bL o5) bE) (bN tE (bL o46) bE)) (bN o49 (bN o47 (bL nO) bE) (bL o48))) (bN o2 (bN tE (bN tE (bL o50) bE) (bL tE)) (bN (o54 P) (bN o52 (bL o51) bE) (bL (o53 P)))))))
def t2  (P:Params):Ycr:=(bN (Ycg P) (bN (YbH P) (bN (o75 P) (bN (Ycb P) (bN o6 (bN tE (bN o3 (bL o55) (bL o56)) (bN tE (bL nO) bE)) (bN o5 (bN o4 (bL o57) (bL nO)) (bN tE (bL o58) bE))) (bN (o9 P) (bN o8 (bN o7 (bL o59) (bL tE)) (bN o61 (bL o60) bE)) (bN nO (bN (o62 P) (bL tE) bE) (bN (o64 P) (bL o63) bE)))) (bN tE (bN nO (bN tE (bN o10 (bL nO) (bL tE)) (bN o65 (bL tE) bE)) (bN o12 (bN o11 (bL tE) (bL o66)) (bN o68 (bL o67) bE))) (bN o16 (bN (o14 P) (bN o13 (bL o69) (bL o70)) (bN tE (bL o71) bE)) (bN o15 (bN o73 (bL o72) bE) (bN tE (bL o74) bE))))) (bN (Ycd P) (bN (Yb9 P) (bN (o22 P) (bN o19 (bN o18 (bL o76) (bL nO)) (bN o78 (bL o77) bE)) (bN (o21 P) (bN (o20 P) (bL nO) (bL tE)) (bN o80 (bL o79) bE))) (bN o24 (bN o23 (bN tE (bL tE) (bL o81)) (bN o10 (bL nO) bE)) (bN tE (bN o83 (bL o82) bE) (bN o84 (bL tE) bE)))) (bN o1 (bN o27 (bN o25 (bN tE (bL tE) (bL o85)) (bN o87 (bL o86) bE)) (bN o26 (bN o5 (bL o88) bE) (bN o89 (bL nO) bE))) (bN o10 (bN o29 (bN o28 (bL o90) (bL o91)) (bN o92 (bL tE) bE)) (bN o30 (bN nO (bL o93) bE) (bN o95 (bL o94) bE)))))) (bN (Ycf P) (bN (Yce P) (bN (Yca P) (bN o10 (bN o32 (bN o31 (bL o96) (bL tE)) (bN o98 (bL o97) bE)) (bN o10 (bN o33 (bL tE) (bL o99)) (bN nO (bL tE) bE))) (bN o103 (bN o35 (bN o34 (bL o100) (bL nO)) (bN o5 (bL tE) bE)) (bN o36 (bN tE (bL nO) bE) (bN o102 (bL o101) bE)))) (bN o114 (bN o41 (bN nO (bN (o38 P) (bL o104) (bL o105)) (bN (o106 P) (bL nO) bE)) (bN o40 (bN o39 (bL o107) (bL o108)) (bN o109 (bL tE) bE))) (bN o5 (bN o42 (bN tE (bL tE) (bL o110)) (bN o112 (bL o111) bE)) (bN o43 (bN tE (bL o113) bE) (bN nO (bL tE) bE))))) (bN (Ycc P) (bN (YbV P) (bN tE (bN o45 (bN o5 (bL tE) (bL o115)) (bN o117 (bL o116) bE)) (bN tE (bN o46 (bL o118) (bL o119)) (bN tE (bL o120) bE))) (bN o49 (bN o47 (bN nO (bL nO) (bL tE)) (bN (o122 P) (bL o121) bE)) (bN o48 (bN o123 (bL tE) bE) (bN o124 (bL nO) bE)))) (bN o2 (bN tE (bN tE (bN o50 (bL o125) (bL o126)) (bN o128 (bL o127) bE)) (bN tE (bN o10 (bL o129) bE) (bN o131 (bL o130) bE))) (bN (o54 P) (bN o52 (bN o51 (bL o132) (bL tE)) (bN o133 (bL nO) bE)) (bN (o53 P) (bN o134 (bL tE) bE) (bN tE (bL o135) bE)))))))
def t3  (P:Params):Ycr:=(bN (Ycg P) (bN (YbH P) (bN (o152 P) (bN (Ycb P) (bN o6 (bN tE (bN o3 (bN o55 (bL o136) bE) (bN o56 (bL nO) bE)) (bN tE (bN nO (bL tE) bE) (bL o137))) (bN o5 (bN o4 (bN o57 (bL nO) bE) (bN nO (bL tE) bE)) (bN tE (bN o58 (bL o138) bE) (bL tE)))) (bN (o9 P) (bN o8 (bN o7 (bN o59 (bL o139) bE) (bN tE (bL o140) bE)) (bN o61 (bN o60 (bL tE) bE) (bL o141))) (bN nO (bN (o62 P) (bN tE (bL o142) bE) (bL o143)) (bN (o64 P) (bN o63 (bL tE) bE) (bL nO))))) (bN tE (bN nO (bN tE (bN o10 (bN nO (bL nO) bE) (bN tE (bL tE) bE)) (bN o65 (bN tE (bL o144) bE) (bL o145))) (bN o12 (bN o11 (bN tE (bL tE) bE) (bN o66 (bL o146) bE)) (bN o68 (bN o67 (bL tE) bE) (bL o147)))) (bN o16 (bN (o14 P) (bN o13 (bN o69 (bL o148) bE) (bN o70 (bL nO) bE)) (bN tE (bN o71 (bL tE) bE) (bL tE))) (bN o15 (bN o73 (bN o72 (bL nO) bE) (bL o149)) (bN tE (bN o74 (bL o150) bE) (bL o151)))))) (bN (Ycd P) (bN (Yb9 P) (bN (o22 P) (bN o19 (bN o18 (bN o76 (bL o153) bE) (bN nO (bL o154) bE)) (bN o78 (bN o77 (bL o155) bE) (bL tE))) (bN (o21 P) (bN (o20 P) (bN nO (bL o156) bE) (bN tE (bL o157) bE)) (bN o80 (bN o79 (bL nO) bE) (bL o158)))) (bN o24 (bN o23 (bN tE (bN tE (bL tE) bE) (bN o81 (bL o159) bE)) (bN o10 (bN nO (bL o160) bE) (bL nO))) (bN tE (bN o83 (bN o82 (bL o161) bE) (bL o162)) (bN o84 (bN tE (bL o163) bE) (bL tE))))) (bN o1 (bN o27 (bN o25 (bN tE (bN tE (bL tE) bE) (bN o85 (bL o164) bE)) (bN o87 (bN o86 (bL nO) bE) (bL o165))) (bN o26 (bN o5 (bN o88 (bL o166) bE) (bL tE)) (bN o89 (bN nO (bL o167) bE) (bL o168)))) (bN o10 (bN o29 (bN o28 (bN o90 (bL o169) bE) (bN o91 (bL o170) bE)) (bN o92 (bN tE (bL o171) bE) (bL o172))) (bN o30 (bN nO (bN o93 (bL o173) bE) (bL nO)) (bN o95 (bN o94 (bL o174) bE) (bL tE))))))) (bN (Ycf P) (bN (Yce P) (bN (Yca P) (bN o10 (bN o32 (bN o31 (bN o96 (bL o175) bE) (bN tE (bL o176) bE)) (bN o98 (bN o97 (bL nO) bE) (bL o177))) (bN o10 (bN o33 (bN tE (bL o178) bE) (bN o99 (bL nO) bE)) (bN nO (bN tE (bL tE) bE) (bL nO)))) (bN o103 (bN o35 (bN o34 (bN o100 (bL o179) bE) (bN nO (bL o180) bE)) (bN o5 (bN tE (bL o181) bE) (bL tE))) (bN o36 (bN tE (bN nO (bL o182) bE) (bL tE)) (bN o102 (bN o101 (bL nO) bE) (bL o183))))) (bN o193 (bN o41 (bN nO (bN (o38 P) (bN o104 (bL o184) bE) (bN o105 (bL nO) bE)) (bN (o106 P) (bN nO (bL tE) bE) (bL tE))) (bN o40 (bN o39 (bN o107 (bL nO) bE) (bL o108)) (bN o109 (bN tE (bL o185) bE) (bL o186)))) (bN o5 (bN o42 (bN tE (bN tE (bL o187) bE) (bN o110 (bL o188) bE)) (bN o112 (bN o111 (bL nO) bE) (bL o189))) (bN o43 (bN tE (bN o113 (bL o190) bE) (bL tE)) (bN nO (bN tE (bL o191) bE) (bL o192)))))) (bN (Ycc P) (bN (YbV P) (bN tE (bN o45 (bN o5 (bN tE (bL tE) bE) (bN o115 (bL o194) bE)) (bN o117 (bN o116 (bL o195) bE) (bL nO))) (bN tE (bN o46 (bN o118 (bL o196) bE) (bN o119 (bL o197) bE)) (bN tE (bN o120 (bL o198) bE) (bL tE)))) (bN o49 (bN o47 (bN nO (bN nO (bL nO) bE) (bN tE (bL tE) bE)) (bN (o122 P) (bN o121 (bL o199) bE) (bL o200))) (bN o48 (bN o123 (bN tE (bL tE) bE) (bL o201)) (bN o124 (bN nO (bL tE) bE) (bL o202))))) (bN o2 (bN tE (bN tE (bN o50 (bN o125 (bL o203) bE) (bN o126 (bL tE) bE)) (bN o128 (bN o127 (bL o204) bE) (bL o205))) (bN tE (bN o10 (bN o129 (bL tE) bE) (bL nO)) (bN o131 (bN o130 (bL o206) bE) (bL tE)))) (bN (o54 P) (bN o52 (bN o51 (bN o132 (bL tE) bE) (bN tE (bL o207) bE)) (bN o133 (bN nO (bL o208) bE) (bL o209))) (bN (o53 P) (bN o134 (bN tE (bL o210) bE) (bL o211)) (bN tE (bN o135 (bL tE) bE) (bL nO))))))))
def Hz  (P:Params):Heap:=⟨⟨Ycg P::YbH P::Ycf P::o152 P::Yce P::Ycd P::Ycc P::Ycb P::Yca P::Yb9 P::YbV P::tE::o193::o1::o2::o6::o10::o22 P::tE::nO::o41::o27::tE::o9 P::o103::o24::o49::o16::o5::o10::o54 P::tE::o32::o19::o45::tE::nO::o25::tE::o8::o35::o23::o47::o14 P::o42::o29::o52::o5::o10::o21 P::tE::o12::o40::o26::tE::nO::o36::tE::o48::o15::o43::o30::o53 P::o3::o31::o18::o5::o10::o38 P::tE::o50::o7::o34::tE::nO::o13::tE::o28::o51::o4::o33::o20 P::o46::o11::o39::o5::o10::o62 P::tE::o83::o123::o73::tE::nO::o134::tE::o98::o78::o117::o65::o106 P::o87::o128::o61::o5::o10::o122 P::tE::o112::o92::o133::tE::nO::o80::tE::o68::o109::o89::o131::o64 P::o102::o84::o124::tE::nO::o95::tE::o55::o96::o76::tE::nO::o104::tE::o125::o59::o100::tE::nO::o69::tE::o90::o132::o57::tE::nO::o118::tE::o107::o88::o129::tE::nO::o82::tE::o72::o113::o93::tE::nO::o97::o77::o116::tE::nO::o86::o127::o60::tE::nO::o121::o71::o111::tE::nO::o58::tE::o79::o120::o67::tE::nO::o130::o63::o101::tE::nO::o74::tE::o94::o135::o56::tE::nO::o115::tE::o105::o85::o126::tE::nO::o81::tE::o70::o110::o91::tE::nO::o99::tE::o119::o66::o108::tE::nO::o143::tE::o162::o201::o149::tE::nO::o211::o137::o177::tE::nO::o145::tE::o165::o205::o141::tE::nO::o200::tE::o189::o172::o209::tE::nO::o158::tE::o147::o186::o168::tE::nO::o183::tE::o202::o151::o192::tE::nO::o136::o175::o153::tE::nO::o184::tE::o203::o139::o179::tE::nO::o148::o187::o169::tE::nO::o178::o156::o196::tE::nO::o166::tE::o142::o182::o161::tE::nO::o190::o173::o210::tE::nO::o155::o195::o144::tE::nO::o204::tE::o181::o160::o199::tE::nO::o171::o208::o138::tE::nO::o198::tE::o185::o167::o206::tE::nO::o163::tE::o150::o191::o174::tE::nO::o176::o154::o194::tE::nO::o164::tE::o140::o180::o159::tE::nO::o188::o170::o207::tE::nO::o157::o197::o146::[]⟩,{}⟩
noncomputable def st1  : List Stmt:=[Z.top 0,Z.top 1,Z.top 2,Z.top 3,Z.top 4]
noncomputable def st2  : List Stmt:=[Z.top 5,Z.top 6,Z.top 7,Z.top 8,Z.top 9,Z.top 10,Z.top 11,Z.top 12,Z.top 13,Z.top 14,Z.top 15,Z.top 16,Z.top 17,Z.top 18,Z.top 19,Z.top 20,Z.top 21,Z.top 22,Z.top 23,Z.top 24,Z.top 25]
noncomputable def st3  : List Stmt:=[Z.top 26,Z.top 27,Z.top 28,Z.top 29,Z.top 30,Z.top 31,Z.top 32,Z.top 33,Z.top 34,Z.top 35,Z.top 36,Z.top 37,Z.top 38,Z.top 39,Z.top 40,Z.top 41,Z.top 42,Z.top 43,Z.top 44,Z.top 45,Z.top 46]
def bd  : List Stmt:=st1++(st2++(st3++[]))
noncomputable abbrev pw  : Program:=PySem.Challenge.pw_beatplans_k64_things_that_are_no_papers
def qw  : Program:={ pw with main:={ pw.main with body:=[Z.top 1,Z.top 2,Z.top 3,Z.top 4,Z.top 5,Z.top 6,Z.top 8,Z.top 9,Z.top 10,Z.top 12,Z.top 13,Z.top 15,Z.top 16,Z.top 17,Z.top 18,Z.top 19,Z.top 20,Z.top 21,Z.top 22,Z.top 23,Z.top 25,Z.top 26,Z.top 27,Z.top 28,Z.top 29,Z.top 30,Z.top 31,Z.top 32,Z.top 33,Z.top 34,Z.top 35,Z.top 36,Z.top 37,Z.top 38,Z.top 39,Z.top 40,Z.top 41,Z.top 42,Z.top 43,Z.top 44,Z.top 45,Z.top 46] } }
def en  : Env:={ scope:=pw.main.scope,locals:=mainNs,globals:=mainNs,cells:=[],code:=.ref 13,frame:=some 14 }
def cE  : Code:=.body bd en
noncomputable abbrev pz  : Pos:=⟨0,0,0,0⟩
abbrev fz  : List Frame:=[PySem.W.topFrame pz]
noncomputable abbrev s0  (w:World)(os:OsState):Shared:=⟨YbW w.params,⟨[]⟩,PySem.W.boot_drawn,PySem.W.boot_toks,os⟩
abbrev sz  (w:World)(os:OsState):Shared:=⟨Hz w.params,⟨[]⟩,{},686,os⟩
noncomputable def sT  (t:Params->Ycr)(n k:Nat)(w:World)(os:OsState):PySem.W.SharedT:=⟨t w.params,n,{},⟨[]⟩,{},k,os⟩
section
variable (w:World)(os:OsState)
def jpa  : PySem.W.topGo Yc7 pw w 11 (some (.ref 6)) 12 (s0 w os) (YfN pw)=some (⟨Ha w.params,⟨[]⟩,{},187,os⟩,⟨denote Yc7 cE,cE,pz,fz⟩):=by
 rw[PySem.W.Fast.te15667345088766844465,YaU,PySem.W.Fast.te11892475500146522536];kernel_rfl
def jpc  : PySem.W.segRun Yc7 pw w 11 (some (.ref 6)) 1 1 ⟨Ha w.params,⟨[]⟩,{},187,os⟩ (PySem.W.blockOf bd en cE pz fz)=some (.next,(sT t0 15 187 w os).abs,cE,pz):=by
 rw[PySem.W.Fast.te14374325043358763698,YaU];kernel_rfl
def r1  : Yd0 Yc7 pw w 11 (some (.ref 6)) 1 933 (sT t0 15 187 w os) (YdT st1 en cE pz fz)=some (.next,sT t1 85 284 w os,cE,⟨13,0,16,24⟩):=by
 rw[YbZ,YaU];kernel_rfl
def r2  : Yd0 Yc7 pw w 11 (some (.ref 6)) 1 988 (sT t1 85 284 w os) (YdT st2 en cE ⟨13,0,16,24⟩ fz)=some (.next,sT t2 213 496 w os,cE,⟨93,0,94,110⟩):=by
 rw[YbZ,YaU];kernel_rfl
def r3  : Yd0 Yc7 pw w 11 (some (.ref 6)) 1 633 (sT t2 213 496 w os) (YdT st3 en cE ⟨93,0,94,110⟩ fz)=some (.next,sT t3 340 686 w os,cE,⟨275,0,290,15⟩):=by
 rw[YbZ,YaU];kernel_rfl
def jpb  : Yf0 Yc7 pw w 11 (some (.ref 6)) 2 (sT t3 340 686 w os).abs ⟨PySem.W.doneF .next,cE,⟨275,0,290,15⟩,fz⟩=some (sz w os):=by
 rw[PySem.W.Fast.te14082659384304107361,YaU];kernel_rfl
def jo9  : Yf0 Yc7 pw w 11 (some (.ref 6)) (12+(1+(933+(988+(633+(2)))))) (s0 w os) (YfN pw)=some (sz w os):=
 PySem.W.go_top (jpa w os) (PySem.W.piece_block (jpc w os) (YdG (YdF (r1 w os)) (YdG (YdF (r2 w os)) (YdG (YdF (r3 w os)) (jpb w os)))))
end
def KK  : Params->Yac:=λP=>((1:Addr),YbH P)::((3:Addr),o152 P)::((23:Addr),o9 P)::((24:Addr),o103)::((40:Addr),o35)::((41:Addr),o23)::((43:Addr),o14 P)::((44:Addr),o42)::((59:Addr),o15)::((60:Addr),o43)::((62:Addr),o53 P)::((63:Addr),o3)::((78:Addr),o51)::((79:Addr),o4)::((81:Addr),o20 P)::((82:Addr),o46)::((97:Addr),o78)::((98:Addr),o117)::((100:Addr),o106 P)::((101:Addr),o87)::((116:Addr),o109)::((117:Addr),o89)::((119:Addr),o64 P)::((120:Addr),o102)::((128:Addr),o96)::((129:Addr),o76)::((135:Addr),o59)::((136:Addr),o100)::((142:Addr),o132)::((143:Addr),o57)::((149:Addr),o88)::((150:Addr),o129)::((156:Addr),o113)::((157:Addr),o93)::((161:Addr),o77)::((162:Addr),o116)::((166:Addr),o127)::((167:Addr),o60)::((171:Addr),o71)::((172:Addr),o111)::((178:Addr),o120)::((179:Addr),o67)::((183:Addr),o63)::((184:Addr),o101)::((190:Addr),o135)::((191:Addr),o56)::((197:Addr),o85)::((198:Addr),o126)::((204:Addr),o110)::((205:Addr),o91)::((211:Addr),o66)::((212:Addr),o108)::((218:Addr),o201)::((219:Addr),o149)::((223:Addr),o137)::((224:Addr),o177)::((230:Addr),o205)::((231:Addr),o141)::((237:Addr),o172)::((238:Addr),o209)::((244:Addr),o186)::((245:Addr),o168)::((251:Addr),o151)::((252:Addr),o192)::((256:Addr),o175)::((257:Addr),o153)::((263:Addr),o139)::((264:Addr),o179)::((268:Addr),o187)::((269:Addr),o169)::((273:Addr),o156)::((274:Addr),o196)::((280:Addr),o182)::((281:Addr),o161)::((285:Addr),o173)::((286:Addr),o210)::((290:Addr),o195)::((291:Addr),o144)::((297:Addr),o160)::((298:Addr),o199)::((302:Addr),o208)::((303:Addr),o138)::((309:Addr),o167)::((310:Addr),o206)::((316:Addr),o191)::((317:Addr),o174)::((321:Addr),o154)::((322:Addr),o194)::((328:Addr),o180)::((329:Addr),o159)::((333:Addr),o170)::((334:Addr),o207)::((338:Addr),o197)::((339:Addr),o146)::[]
noncomputable def KA  : List Addr:=1::3::23::24::40::41::43::44::59::60::62::63::78::79::81::82::97::98::100::101::116::117::119::120::128::129::135::136::142::143::149::150::156::157::161::162::166::167::171::172::178::179::183::184::190::191::197::198::204::205::211::212::218::219::223::224::230::231::237::238::244::245::251::252::256::257::263::264::268::269::273::274::280::281::285::286::290::291::297::298::302::303::309::310::316::317::321::322::328::329::333::334::338::339::[]
def fl  : Z.FL:=(129,128,(.str q33 336))::(136,135,(.str q33 336))::(143,142,(.str q33 336))::(150,149,(.str q73 369))::(157,156,(.str q73 369))::(162,161,(.str q31 396))::(167,166,(.str q31 396))::(172,171,(.str q31 396))::(179,178,(.str q31 396))::(184,183,(.str q31 396))::(191,190,(.str q31 396))::(198,197,(.str q31 396))::(205,204,(.str q31 396))::(212,211,(.str q63 487))::(219,218,(.str q63 487))::(224,223,(.str q63 487))::(231,230,(.str q63 487))::(238,237,(.str q63 487))::(245,244,(.str q63 487))::(252,251,(.str q63 487))::(257,256,(.str q63 487))::(264,263,(.str q63 487))::(269,268,(.str q63 487))::(274,273,(.str q63 487))::(281,280,(.str q63 487))::(286,285,(.str q63 487))::(291,290,(.str q63 487))::(298,297,(.str q63 487))::(303,302,(.str q63 487))::(310,309,(.str q63 487))::(317,316,(.str q63 487))::(322,321,(.str q63 487))::(329,328,(.str q63 487))::(334,333,(.str q63 487))::(339,338,(.str q63 487))::[]
def k_dyn   P:Z.dynB Z.T (KK P) 0 fl Z.T.funs Z.sts=true:=by kernel_rfl
def k_lk   P:fl.map (λx=>(KK P).lookup x.1)=Z.lkR fl Z.T.funs Z.sts:=by kernel_rfl
def k_blt   P:Z.bltB (KK P)=true:=by kernel_rfl
def k_gs   P:Z.gsB (KK P) Z.T.gn Z.T.gs=true:=by kernel_rfl
def k_xb   P:∃mD,L2.XBase (KK P) (Z.gK (KK P)) 24 mD:=Z.xb_mk 24 23 15 189 197 [(.ref 44),(.ref 63),(.ref 82),(.ref 101),(.ref 120)] (by kernel_rfl) (by kernel_rfl)
def k_cs   P:Z.CsA (KK P) Z.T.cs:=⟨Z.xc_mk (k_xb P) "NoPaper" "NoPaper.__init__" ["word", "at"] (jaD (Z.top 2) 0) 44 43 28 207 215 41 40 (.str q6 187) (by kernel_rfl) (by kernel_rfl) (by kernel_rfl) (.inr ⟨_,_,_,_,_,_,_,_,_,_,rfl,by decide,rfl⟩),
 Z.xc_mk (k_xb P) "TooMany" "TooMany.__init__" ["word"] (jaD (Z.top 3) 0) 63 62 47 234 242 60 59 (.str q6 187) (by kernel_rfl) (by kernel_rfl) (by kernel_rfl) (.inl ⟨_,_,_,_,_,rfl,rfl⟩),
 Z.xc_mk (k_xb P) "NoRing" "NoRing.__init__" ["word"] (jaD (Z.top 4) 0) 82 81 66 259 267 79 78 (.str q6 187) (by kernel_rfl) (by kernel_rfl) (by kernel_rfl) (.inl ⟨_,_,_,_,_,rfl,rfl⟩),
 Z.xc_mk (k_xb P) "NoText" "NoText.__init__" ["row", "word"] (jaD (Z.top 5) 0) 101 100 85 284 292 98 97 (.str q6 187) (by kernel_rfl) (by kernel_rfl) (by kernel_rfl) (.inr ⟨_,_,_,_,_,_,_,_,_,_,rfl,by decide,rfl⟩),
 Z.xc_mk (k_xb P) "NoRow" "NoRow.__init__" ["row"] (jaD (Z.top 6) 0) 120 119 104 311 319 117 116 (.str q6 187) (by kernel_rfl) (by kernel_rfl) (by kernel_rfl) (.inl ⟨_,_,_,_,_,rfl,rfl⟩),trivial⟩
noncomputable abbrev rr  : PySem.W.OpenRow:=PySem.Challenge.rw_beatplans_k64_things_that_are_no_papers.row
def Xt  : Shared->Bool:=λs=>PySem.W.xlAt qw [] s&&PySem.W.recOk (PySem.W.RowW.records rr.toRowW) s
abbrev hk  : PySem.W.Hook:=PySem.W.kHook KK KA (λ_=>by kernel_rfl)
def jns  (w:World):((YbW w.params).isNs YaF&&(⟨[]⟩:Array GenState).size==0,(YbW w.params).objs.size,(YbW w.params).nsMap YaF "__annotations__")=(true,11,some (Ya5 6)):=by
 rw[PySem.W.Fast.te8920871248978507458];kernel_rfl
def k_l1  (w:World) os:(PySem.W.staticsOk (importedModules pw.main.body) (YbW w.params) (Hz w.params)&&PySem.W.namesBound pw (Hz w.params)&&PySem.W.gensDone (sz w os)&&PySem.W.laidKept (YbW w.params) (Hz w.params))=true:=by
 rw[Yc3];kernel_rfl
def k_l2  (w:World) os:PySem.W.openSeen qw [] (importedModules pw.main.body) Xt true (sz w os)=PySem.W.openGood qw []:=by
 rw[PySem.W.Fast.te4187177175401517315,Yc3];kernel_rfl
def k_l3   w os:Ydo hk (sz w os)=Ydn hk w:=by kernel_rfl
def k_hl  : PySem.W.LeftO pw qw [] Xt (Ydo hk) (Ydn hk) 5228:=PySem.W.LeftO.of_pieces (PySem.W.boot_open (by kernel_rfl) (by decide) λ_=>by kernel_rfl) jns jo9 (by decide) λw=>funext λos=>Prod.ext (k_l1 w os) (Prod.ext (k_l2 w os) (k_l3 w os))
end Y
set_option maxRecDepth 100000 in
set_option maxHeartbeats 0 in
def Z.wellS:PySem.Challenge.rw_beatplans_k64_things_that_are_no_papers.wellSaid=true:=by decide +kernel
open PySem PySem.W PyProof.Rows
set_option maxRecDepth 100000 in
set_option maxHeartbeats 0 in
theorem PySem.Challenge.cw_beatplans_k64_things_that_are_no_papers_holds : PySem.Challenge.rw_beatplans_k64_things_that_are_no_papers.Holds := by
 refine PySem.W.holds_law Z.wellS λsaid=>?_
 refine PySem.W.holds_open (q:=Y.qw) (loose:=[]) (Xt:=Y.Xt) (XP:=PySem.W.XL Y.qw []) (Yf:=Ydo Y.hk) (Ya:=Ydn Y.hk) (YP:=PySem.W.Hook.says Y.hk) (N:=5228) Y.k_hl (PySem.W.Hook.of Y.hk) (PySem.W.Hook.keeps Y.hk) (λs e=>PySem.W.xl_of s (Bool.and_eq_true_iff.mp e).1) PySem.W.XL.keeps (by rfl) (by rfl) (by rfl) (λs e=>PySem.W.recFacts_of (Bool.and_eq_true_iff.mp e).2) (by rfl) said (by decide +kernel) ⟨rfl,rfl,rfl,rfl,rfl,by decide +kernel⟩ ?hw ?hc
 case hw=>w_witness2
 refine Z.walk (l:=PySem.Challenge.rw_beatplans_k64_things_that_are_no_papers) rfl rfl (λw h Y=>PySem.W.kIn_of Y) ?K ?S ?B ?F
 case K=>intro w;rfl
 case S=>intro w;exact⟨_,rfl,rfl⟩
 case B=>exact λw t ht=>(nomatch (show t∈[]from ht))
 case F=>exact λw mg fa h X G hm=>Z.all2 X G hm Z.prog_rep Z.prog_eq Z.tabsU (Y.k_dyn _) (Y.k_lk _) (Y.k_blt _) (Y.k_gs _) (Y.k_cs _) rfl rfl rfl rfl rfl
