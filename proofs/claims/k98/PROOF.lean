import PyProof.Rows.All
import Wide.All
import OpenK.AllK
import Wide.FinOn
import Lean
import PyProof.EqAt
import PyProof.EqKinds
import PyProof.TupleCall
import PySem.Challenge.RW_beatplans_k98_whole_vehicles_go_around
set_option compiler.extract_closed false
set_option Elab.async false
set_option linter.all false
set_option maxRecDepth 100000
open PySem.Str renaming ofString → YaB, ofString → Yaa
open PySem renaming Arg → YaI, Arguments → Yao, Arguments → Yfk, Comprehension → Yck, DictEntry → Ya6, ExcBaseFacts → YeV, FuncData → YbT, GenState → Ye8, NameKind → YbR, Operator → Ycs, PassesOwn → Yey, Scope → YaT, Spec → Ybd, Stmt → YaC, StoreFacts → YdH, assignEach → YbH, attributeBase → Ycz, behindInMarks → Yew, binaryOp → YbF, bootBuiltins → YcR, builtinLookup_eq_fast → Yb6, builtinsNs → YfK, call → YfX, call_meets → Yda, cellsFrom → YbG, checkBuiltinCall → YdP, codeAny_call_builtin → Yd9, codeAny_call_function → Ygg, codeAny_mono → YeO, compTurn → Ye2, compareOp → YbM, concat_meets → Ygf, evalPart_none → YfW, excClassObj → YcN, excMatches → YfJ, foldedSetIterable → Ybv, inplaceOp → Yev, isInstance → YfI, keywordEach → Yfg, letOwnedTupleGo → Ydt, lookupAlong_cons → YeX, mainGlobals → Yax, mem_of_lookup → Ya1, newFunctionEnv → Yfw, noFill_tuple_add → YeW, noteFrame → Yge, post_val_or_str → Yd2, pushCells → Yff, repr_of_reads' → Yfv, seqIndex_neg → Ygd, seqSlot_of → Yf6, seq_tuple_add → YfV, setFlight → Yeu, sizeLine → Yan, sizeLine_eq → YbK, sliceBounds → YcM, slicePick → Yet, starEach → YaM, swappedStores → Yci, swapsWith → YcI, swapsWithSole → Ycy, sysModules → Ybq, tupleKind → Yfe, tupleKind_room_in1 → Yer, typeIs_int → YeJ, typeIs_str → YeI, typeLookup → Ybp, typeLookup_eq → YfT, typeLookup_type → YcY, wpAny_Call_Name_kw → Ycr, wpAny_binaryOp_repeat_ref → Yfu, wpAny_bind → Yab, wpAny_callSpecial?_slot → YcX, wpAny_call_entry → YcJ, wpAny_comprehension_free → YfH, wpAny_execs_cons → Ydl, wpAny_execs_nil → Yd1, wpAny_field → Ych, wpAny_getItem_list_slice → YdF, wpAny_getItem_str_slice → YcW, wpAny_holding → Yb5, wpAny_isOneOf_keyiter → Ygc, wpAny_isSubtype_exc → Ycg, wpAny_loadPart_at → YaK, wpAny_mono → Ybc, wpAny_mroOf_exc → Yfd, wpAny_newFunctionEnv_cells → Yfl, wpAny_newObj_type → Ybg, wpAny_of_eq → Yfc, wpAny_passesOwn → Yds, wpAny_pure → Yam, wpAny_rule → YdE, wpAny_sequenceKey → YeH, wpAny_setField → YdA, wpAny_standAt → YcV, wpAny_truthy_bool → YbU, wpAny_typeOf → Yd0
open PySem.W renaming Frag → Yac, OpenLaw → YdB, WalkO → Ygi, callWith_K → Yfn, cellsFrom_some → Ydx, codeIn → Ya0, codeRec_of → Yfm, findIn → Ydm, fnOf → YaX, instObj → YfY, keepIn → YaN, methodObj → Yd3, mg_none_of → YaW, mg_of → Yba, nsIn → YaA, specialIn → Yfy
open PySem.Value renaming bool → Ybr, builtin → Yco, int → Yad, none → Yaj, ref → Yae, str → Yag, type → YaG
open PySem.Heap renaming SameBut → Yei, get?_none_of_le → YdQ, get?_push_at → Yf9, get?_push_of_some → Yaf, get?_push_size → YaR, get?_update_ne → Ydi, get?_update_other → YdD, get?_update_self → Yb0, lt_size → Yav, size_push → YeT
open List renaming all_cons → YbZ, any_cons → YbY, append_assoc → Yay, append_nil → Ya7, cons_append → Ygk, contains_cons → YbX, drop_eq_getElem_cons → YaY, drop_length → Yep, drop_of_length_le → YbE, drop_zero → YdS, ext_getElem → Yeo, ext_getElem? → Yf8, extract → YdL, filterMap → YeS, filterMap_cons → YdX, filterMap_map → Yd8, filter_cons_of_neg → Ye7, filter_cons_of_pos → Ydz, find?_cons → YbQ, flatMap_append → YfP, flatten_cons → YbL, foldl → Yeb, foldl_cons → YeD, getD → Ybk, getD_eq_getElem?_getD → YaO, getElem?_append_left → Ybw, getElem?_append_right → Ybt, getElem?_drop → YcL, getElem?_eq_getElem → Yah, getElem?_eq_none → YdK, getElem?_map → YaE, getElem?_of_mem → Yb8, getElem?_range → YbP, getElem?_replicate → Ye6, getElem?_set_ne → YbC, getElem?_set_self → YbS, getElem?_take → Ycj, getElem?_take_of_lt → Ye1, getElem?_zip_eq_some → YeR, getElem_map → Ygj, getElem_mem → Ycd, getElem_of_mem → YdW, length → YeC, length_append → Ya2, length_cons → YbJ, length_drop → Ybo, length_map → Yai, length_nil → YcK, length_range → Yct, length_reverse → Ydh, length_take → Ybe, lookup → Ycc, lookup_cons → Ybj, map_append → Ybn, map_congr_left → Ydg, map_cons → Ya4, map_drop → Ye5, map_inj_right → Yf2, map_map → Yc6, map_nil → Yc5, map_take → Yd7, mem_append_left → Ybu, mem_append_right → Ya5, mem_cons → YbW, mem_cons_of_mem → Yap, mem_cons_self → YaH, mem_map → Yfp, mem_of_getElem? → YaD, mem_of_mem_drop → Ycw, mem_of_mem_take → Yb7, nil_append → Yb9, nodup_range → Yen, not_mem_nil → YbI, of_mem_zip → YdJ, perm_append_comm → Yfo, range → YaV, range_succ → Ydf, replicate → Yaq, replicate_succ → YbO, reverse_append → Yde, reverse_cons → YcU, reverse_reverse → YfE, size_toArray → Yat, sum_append → YeB, sum_cons → Yd6, take_append_drop → YaS, take_length → YcB, take_of_length_le → Ycf, take_sublist → Yf7, take_succ → Yc1, toArray → Yeg, toList_toArray → YfO, zip_cons_cons → Yf1
open Nat renaming add_le_add_left → Yf0, add_sub_cancel → Yb2, add_sub_cancel_left → YcP, div_lt_iff_lt_mul → YfD, le_of_eq → Yem, le_of_lt → Ycq, le_refl → Yak, le_succ → YeM, le_succ_of_le → Yef, le_trans → Yaw, lt_irrefl → YbB, lt_of_le_of_lt → Ycm, lt_of_lt_of_le → YaF, lt_trans → Yel, min_eq_left → Ydn, mod_add_div → YdM, mod_eq_of_lt → YdC, mod_lt → YcF, mul_comm → Yc8, mul_le_mul → Yc4, mul_le_mul_right → YfN, ne_of_lt → Ya8, sub_self → YfC, succ_mul → YfB, zero_add → Ycb, zero_le → YbA
open Array renaming append_assoc → YfS, find?_toList → YfR, getElem?_setIfInBounds_self_of_lt → Ycn, getElem?_toList → Yal, length_toList → YaQ, toList_append → YaZ, toList_extract → Ycv, toList_push → YcS, toList_reverse → Ycu, toList_setIfInBounds → YeG
open PyProof.Rows renaming SortKind → YcA, args_tuple_getitem → Yex, boot_isinstance → YdR, callWith_type1 → Yca, entry_tuple_getitem → Yed, failedOf → Yc0, pendingOf → YaL, reverseSlice' → YcZ, setPending → YdG, slot_tuple_getitem → Ybm, subscriptTail → Yes, subscriptTail_builtinR → Yf5, tupleItemsOf_ → YfU, wpS_bind → Yar, wpS_forRange → Ybx, wpS_lift → Yeq, wpS_modify → Yd5, wpS_pure → Yau
open Bool renaming and_eq_true → YaP, eq_iff_iff → Ydk, false_eq_true → Ybb, false_ne_true → Yas, false_or → Yfa, not_eq_true' → Ygb, not_not → Yft, or_eq_true → Ydj, or_true → Yc7
open PySem.PyData renaming canLayAll0 → YfL, depthAll → Ydb, eqv → Ybh, eqvAll → YdU, int → YeK, keyHash → Yaz, showable → Yek, showableAll → Yfz, shown → YcT, shownAll → YcE
open PySem.Stmt renaming Assign → YbV, ClassDef → YeQ, FunctionDef → YaJ
open Option.some renaming inj → YaU
open PySem.NameKind renaming cell → Ya3, free → Ya9
open PySem.FuncBody renaming stmts → Ybf
open PySem.Builtin.Slice renaming sliceAdjust → YbN, sliceApplied → Yce, sliceFields → Yd4, slicePlaces → Ybi
open PySem.Builtin.Tuple renaming tupleExact → Ybl, tupleIsExact → YdZ, tupleItemsOf → Yc3, tupleTooMany → YdY
open Int renaming ediv_one → YfG, emod_lt_of_pos → Ydr, emod_nonneg → YdO, eq_ofNat_of_zero_le → Ybs, le_refl → Ydo, le_trans → Yc9, mul_add → Yf3, mul_ediv_cancel_left → YcH, one_mul → YeN, toNat_natCast → Yc2
open PySem.Data renaming dict → Yfq, fields → Yby, func → Yb1
open PySem.Obj renaming cls_mapFields → Yee, data_mapFields → YcO, isFreed_of_fields → Ycp, mapFields → Ybz, mapSeq → Ydd
open PySem.Expr renaming Constant → Yb4, Name → YbD
open List.cons renaming inj → YdN, injEq → Yb3
open Option renaming getD_none → YfZ, isSome_map → YfM, map → YeL, none → Ydw, none_or → YeA, some → Ycl, some_or → Yez, toList_some → YfA
open PySem.Const renaming str → Ycx
open False renaming elim → YcC
open Sum.inr renaming injEq → YcD
open List.Perm renaming append_left → YcQ, append_right → YcG, refl → Yeh, trans → YfF
open PySem.Builtin.List renaming listTooLong → Ydc
open PySem.Builtin.Str renaming occurrences → Ydp
open PySem.F renaming args_tuple_add_2 → Ydq, entry_tuple_add → Ydu, slot_dict_keyiterator_next → YeU, slot_int_rmul → YdT, slot_list_lt → Ye3, slot_tuple_add → Ydy
open True renaming intro → Ydv
open List.Pairwise renaming nil → YdI
open PySem.Paired renaming length → YdV
open PySem.Builtin.Range renaming rangeSize → Yea
open PySem.Around renaming in1_units → Yec, under → Yfb, under_plainId → Yfj
open PySem.Txt renaming slice → Yfx, slice_le → Yej
open PySem.Heap.SameBut renaming update → YeE
open PySem.Calls renaming Name_function_global → YeF, callWith_builtin → Ye9, spliced_cons → YfQ
open PySem.SeqAt renaming EqAt → YeP, in_listAt → Ygh
open PySem.SeqAt.EqAt renaming int_int → Ye0, int_str → YeZ, str_int → YeY
open PySem.Manifest renaming signature? → Ye4
open Prod.mk renaming inj → Yfh
open PySem.PassesOwn renaming looking → Yfi
open PySem.Code renaming isFrame → Yfr, quiet_builtin → Yf4
open Classical renaming choose → Yfs
open PySem.Builtin.Dict_items renaming ownsTuple → Yga
namespace L2
open PySem PySem.Spec PyProof.Rows

noncomputable abbrev Key:=Sum Int Str
noncomputable def jf4:Key->Value->Bool
 | .inl k,v=>Value.isInt k v
 | .inr x,v=>Value.isStrOf x v
noncomputable def keyH (w:World):Key->Int
 | .inl k=>hashInt k
 | .inr x=>hashStr w x
theorem jan:∀ {k:Key} {v:Value},jf4 k v=true->(∃ i t,k=Sum.inl i/\v=Yad i t)\/(∃ x t,k=Sum.inr x/\v=Yag x t)
 | .inl i,v,h=>by
  obtain ⟨t,e⟩:=Value.isInt_shape (k:=i) (v:=v) h
  exact .inl ⟨i,t,rfl,e⟩
 | .inr x,v,h=>by
  obtain ⟨t,e⟩:=Value.isStrOf_shape (x:=x) (v:=v) h
  exact .inr ⟨x,t,rfl,e⟩
theorem jgT (i:Int)(t:Tok):jf4 (.inl i) (.int i t)=true:=by simp [jf4,Value.isInt]
theorem jgS (x:Str)(t:Tok):jf4 (.inr x) (.str x t)=true:=by simp [jf4,Value.isStrOf]
theorem jl3 (a b:Int):decide ((Sum.inl a:Key)=Sum.inl b)=(a == b):=by
 by_cases e:a=b
 ·subst e; simp
 ·have h:¬ (Sum.inl a:Key)=Sum.inl b:=fun q=>e (Sum.inl.inj q)
  rw [decide_eq_false h]
  exact (beq_eq_false_iff_ne.mpr e).symm
theorem jl0 (a b:Str):decide ((Sum.inr a:Key)=Sum.inr b)=decide (a=b):=by
 by_cases e:a=b
 ·subst e; simp
 ·have h:¬ (Sum.inr a:Key)=Sum.inr b:=fun q=>e (Sum.inr.inj q)
  rw [decide_eq_false h,decide_eq_false e]
theorem jl2 (a:Int)(b:Str):decide ((Sum.inl a:Key)=Sum.inr b)=false:=decide_eq_false (fun q=>nomatch q)
theorem jl1 (a:Str)(b:Int):decide ((Sum.inr a:Key)=Sum.inl b)=false:=decide_eq_false (fun q=>nomatch q)

noncomputable def jao (prog:Program)(w:World):PySem.KeyKind prog w Key where
 is:=jf4
 hash:=keyH w
 inj:=fun v a b ha hb=>by
  rcases jan ha with ⟨i,t,rfl,rfl⟩ | ⟨x,t,rfl,rfl⟩
  ·rcases jan hb with ⟨j,u,rfl,e⟩ | ⟨y,u,rfl,e⟩
   ·injection e with e1 _; rw [e1]
   ·exact nomatch e
  ·rcases jan hb with ⟨j,u,rfl,e⟩ | ⟨y,u,rfl,e⟩
   ·exact nomatch e
   ·injection e with e1 _; rw [e1]
 byValue:=fun k v h=>by
  rcases jan h with ⟨i,t,rfl,rfl⟩ | ⟨x,t,rfl,rfl⟩ <;> rfl
 pyHash:=fun hv h=>by
  rcases jan hv with ⟨i,t,rfl,rfl⟩ | ⟨x,t,rfl,rfl⟩
  ·exact wpAny_pyHash_int h
  ·exact wpAny_pyHash_str h
 eqBool:=fun hu hv h=>by
  rcases jan hu with ⟨i,t,rfl,rfl⟩ | ⟨x,t,rfl,rfl⟩
  ·rcases jan hv with ⟨j,u,rfl,rfl⟩ | ⟨y,u,rfl,rfl⟩
   ·rw [jl3] at h; exact wpAny_eqBool_int h
   ·rw [jl2] at h; exact YeZ i t y u _ _ _ _ h
  ·rcases jan hv with ⟨j,u,rfl,rfl⟩ | ⟨y,u,rfl,rfl⟩
   ·rw [jl1] at h; exact YeY x t j u _ _ _ _ h
   ·rw [jl0] at h; exact wpAny_eqBool_str h
 «strs»:=fun k x t v h=>by
  rcases jan h with ⟨i,u,rfl,e⟩ | ⟨y,u,rfl,e⟩
  ·exact nomatch e
  ·injection e with e1 _
   subst e1
   cases v <;> rfl

theorem jeL (prog:Program)(w:World)(i:Int)(t:Tok):(jao prog w).is (.inl i) (.int i t)=true:=jgT i t
theorem jeK (prog:Program)(w:World)(x:Str)(t:Tok):(jao prog w).is (.inr x) (.str x t)=true:=jgS x t

inductive V where
 | non | bl (b:Bool) | int (i:Int) | str (x:Str) | byt (b:Array UInt8) | flt (b:UInt64) | ref (a:Addr) | ty (n:String)
 deriving DecidableEq

noncomputable def RelV:V->Value->Prop
 | .non,u=>u=Yaj
 | .bl b,u=>u=Ybr b
 | .int i,u=>∃ t,u=Yad i t
 | .str x,u=>∃ t,u=Yag x t
 | .byt b,u=>∃ t,u=Value.bytes b t
 | .flt b,u=>∃ t,u=Value.float b t
 | .ref a,u=>u=Yae a
 | .ty n,u=>u=YaG n

noncomputable abbrev Vals:List V->List Value->Prop:=Paired RelV
theorem Vals.length {xs:List V}{us:List Value}(r:Vals xs us):xs.length=us.length:=YdV r
theorem Vals.get:∀ {xs:List V} {us:List Value} {i:Nat} {x:V},Vals xs us->xs[i]?=some x->∃ u,us[i]?=some u/\RelV x u
 | _,_,_,_,.nil,e=>by simp at e
 | _,_,0,_,.cons r _,e=>by simp at e; subst e; exact ⟨_,rfl,r⟩
 | _,_,i + 1,x,.cons _ t,e=>by
  obtain ⟨u,h1,h2⟩:=Vals.get (i:=i) (x:=x) t (by simpa using e)
  exact ⟨u,by simpa using h1,h2⟩
theorem Vals.set {x:V}{u:Value}(r:RelV x u):∀ {xs:List V} {us:List Value} (i:Nat),Vals xs us->Vals (xs.set i x) (us.set i u)
 | _,_,_,.nil=>.nil
 | _,_,0,.cons _ t=>.cons r t
 | _,_,i + 1,.cons q t=>.cons q (Vals.set r i t)
theorem Vals.append:∀ {xs ys:List V} {us ws:List Value},Vals xs us->Vals ys ws->Vals (xs++ys) (us++ws)
 | _,_,_,_,.nil,s=>s
 | _,_,_,_,.cons r t,s=>.cons r (Vals.append t s)
theorem Vals.take:∀ {xs:List V} {us:List Value} (n:Nat),Vals xs us->Vals (xs.take n) (us.take n)
 | _,_,0,_=>.nil
 | _,_,_ + 1,.nil=>.nil
 | _,_,n + 1,.cons r t=>.cons r (Vals.take n t)
theorem Vals.drop:∀ {xs:List V} {us:List Value} (n:Nat),Vals xs us->Vals (xs.drop n) (us.drop n)
 | _,_,0,r=>r
 | _,_,_ + 1,.nil=>.nil
 | _,_,n + 1,.cons _ t=>Vals.drop n t
noncomputable def RelO:Option V->Option Value->Prop
 | some v,some u=>RelV v u
 | none,none=>True
 | _,_=>False
noncomputable def KV {κ:Type}:List (κ×V)->List (κ×Value)->Prop:=Paired fun (p:κ×V) (q:κ×Value)=>p.1=q.1/\RelV p.2 q.2

noncomputable def kV:Key->V
 | .inl i=>.int i
 | .inr x=>.str x

inductive HO where
 | lst (xs:List V)
 | tup (xs:List V)
 | dK (kvs:List (Key×V)) | dT (kvs:List (List Key×V))
 | set (S:Int->Bool) (n:Nat)
 | ins (C dx:Addr) (fs:List (Str×V))
 | own (x:Addr)
 | xd (fs:List (Str×V))
 | met (f x:Addr)
 | rng (lo hi:Int)
 | frz (o:Obj) (u:HO)
 | tbl (ps:Array Value)
 | ext (φ:Heap->Prop)

noncomputable abbrev Hp:=Addr->Option HO
noncomputable def upd (H:Hp)(a:Addr)(o:HO):Hp:=fun b=>if b=a then some o else H b
theorem jaf {H:Hp}{a:Addr}{o:HO}:upd H a o a=some o:=by unfold upd; rw [if_pos rfl]
theorem jab {H:Hp}{a b:Addr}{o:HO}(h:b≠a):upd H a o b=H b:=by unfold upd; rw [if_neg h]
theorem jnO {H:Hp}{a b:Addr}{o u:HO}(h:H a=some o)(h':H b=some u)(d:o≠u):a≠b:=by
 intro e; subst e; rw [h] at h'; exact d (YaU h')
theorem jag {H:Hp}{a b:Addr}{o:HO}(h:H a=some o)(h':H b=none):a≠b:=by
 intro e; subst e; rw [h] at h'; cases h'

noncomputable def TupD (h:Heap)(a:Addr)(items:Array Value):Prop:=∃ o,h.get? a=some o/\o.cls=.type "tuple" /\ ∃ n,o.data=.seq items n/\o.dict=none
theorem TupD.tup {h:Heap}{a:Addr}{items:Array Value}(x:TupD h a items):IsTup h a items:=let ⟨o,e,c,n,d,_⟩:=x; ⟨o,e,c,n,d⟩
theorem TupD.new (h:Heap)(items:Array Value):TupD (h.push { cls:=.type "tuple",data:=.seq items }) h.objs.size items:=⟨_,YaR _ rfl,rfl,_,rfl,rfl⟩
section
variable (P:Program)(w:World)
noncomputable def jaz (H : Hp)(h : Heap)(a : Addr) : HO -> Prop
  | .lst xs => xs.length <= Yan /\ ∃ (its : List Value) (n : Nat), Vals xs its /\ h.get? a = some { cls := .type "list", data := .seq its.toArray n }
  | .tup xs => xs.length <= Yan /\ ∃ its : List Value, Vals xs its /\ TupD h a its.toArray
  | .dK kvs => kvs.length <= Yan /\ (a == Ybq) = false /\ ∃ vs, KV kvs vs /\ h.DictOf (jao P w) a vs
  | .dT kvs => kvs.length <= Yan /\ (a == Ybq) = false /\ ∃ xs : List (List Key × Addr × Value),
      Paired (fun (p : List Key × V) (q : List Key × Addr × Value) => p.1 = q.1 /\ H q.2.1 = some (.tup (p.1.map kV)) /\ RelV p.2 q.2.2) kvs xs /\
      ∃ o es ep, h.get? a = some o /\ o.ExactDict /\ o.data = .dict es ep /\ es.toList = xs.map (entryOfKey (Yfe (jao P w))) /\ (xs.map (·.1)).Nodup
  | .set S n => h.SetOf (intKind P w) a S n
  | .ins C dx fs => H dx = some (.own a) /\ fs.length <= 1000 /\ dx ≠ a /\ h.get? a = some (YfY C dx) /\
      ∃ mA, h.Ns1 dx mA /\ (∀ f, RelO (fs.lookup f) (mA f)) /\ PySem.Within mA (fs.map (·.1))
  | .own _ => ∃ o, h.get? a = some o
  | .xd fs => ∃ mA, h.Ns1 a mA /\ ∀ f, RelO (fs.lookup f) (mA f)
  | .rng lo hi => ∃ t u v, h.get? a = some { cls := .type "range", data := .fields #[.int lo t, .int hi u, .int 1 v] }
  | .frz o u => h.get? a = some o /\ jaz H h a u
  | .tbl ps => h.get? a = some { cls := .none, data := .fields ps }
  | .met f x => h.get? a = some (Yd3 (.ref f) (.ref x))
  | .ext φ => φ h /\ (∃ o, h.get? a = some o) /\ ∀ h1 h2 : Heap, φ h1 -> (∀ o, h1.get? a = some o -> h2.get? a = some o) -> φ h2
noncomputable def HOk (H:Hp)(h:Heap):Prop:=∀ a o,H a=some o->jaz P w H h a o
end

section
variable {P:Program}{w:World}{H H':Hp}{h h':Heap}{a:Addr}{o:HO}
theorem jaz.lt (x:jaz P w H h a o):a < h.objs.size:=by
 cases o with
 | lst xs=>obtain ⟨_,_,_,_,e⟩:=x; exact Yav e
 | tup xs=>obtain ⟨_,_,_,p⟩:=x; exact p.tup.lt
 | dK kvs=>obtain ⟨_,_,_,_,o,_,_,e,_⟩:=x; exact Yav e
 | dT kvs=>obtain ⟨_,_,_,_,o,_,_,e,_⟩:=x; exact Yav e
 | set S n=>obtain ⟨o,_,_,_,e,_⟩:=x; exact Yav e
 | ins C dx fs=>obtain ⟨_,_,_,e,_⟩:=x; exact Yav e
 | own y=>obtain ⟨_,e⟩:=x; exact Yav e
 | xd fs=>obtain ⟨_,⟨_,_,_,e,_⟩,_⟩:=x; exact Yav e
 | rng lo hi=>obtain ⟨_,_,_,e⟩:=x; exact Yav e
 | frz ob u=>obtain ⟨e,_⟩:=x; exact Yav e
 | tbl ps=>exact Yav (show h.get? a=some _ from x)
 | met f y=>exact Yav (show h.get? a=some _ from x)
 | ext φ=>obtain ⟨_,⟨_,e⟩,_⟩:=x; exact Yav e
theorem Paired.mapP {α β:Type}{F G:α->β->Prop}:∀ {l₁:List α} {l₂:List β},Paired F l₁ l₂->(∀ a b,F a b->G a b)->Paired G l₁ l₂
 | _,_,.nil,_=>.nil
 | _,_,.cons r t,f=>.cons (f _ _ r) (Paired.mapP t f)
theorem jaz.stay (x:jaz P w H h a o)(k:∀ b u,(b=a\/H b=some (.own a))->h.get? b=some u->h'.get? b=some u)
  (ho:∀ b,H b=some (.own a)->H' b=some (.own a)) (ht:∀ b xs,H b=some (.tup xs)->H' b=some (.tup xs)):jaz P w H' h' a o:=by
 induction o with
 | lst xs=>obtain ⟨z,its,n,r,e⟩:=x; exact ⟨z,its,n,r,k _ _ (.inl rfl) e⟩
 | tup xs=>obtain ⟨z,its,r,ob,e,c⟩:=x; exact ⟨z,its,r,ob,k _ _ (.inl rfl) e,c⟩
 | dK kvs=>obtain ⟨z,y,vs,r,ob,es,ep,e,c⟩:=x; exact ⟨z,y,vs,r,ob,es,ep,k _ _ (.inl rfl) e,c⟩
 | dT kvs=>
  obtain ⟨z,y,xs,r,ob,es,ep,e,c⟩:=x
  exact ⟨z,y,xs,Paired.mapP r fun p q z=>⟨z.1,ht _ _ z.2.1,z.2.2⟩,ob,es,ep,k _ _ (.inl rfl) e,c⟩
 | set S n=>obtain ⟨ob,es,ep,t,e,c⟩:=x; exact ⟨ob,es,ep,t,k _ _ (.inl rfl) e,c⟩
 | ins C dx fs=>
  obtain ⟨d,z,ne,e,mA,⟨od,es,ep,e2,c⟩,r⟩:=x
  exact ⟨ho _ d,z,ne,k _ _ (.inl rfl) e,mA,⟨od,es,ep,k _ _ (.inr d) e2,c⟩,r⟩
 | own y=>obtain ⟨ob,e⟩:=x; exact ⟨ob,k _ _ (.inl rfl) e⟩
 | xd fs=>obtain ⟨mA,⟨od,es,ep,e,c⟩,r⟩:=x; exact ⟨mA,⟨od,es,ep,k _ _ (.inl rfl) e,c⟩,r⟩
 | rng lo hi=>obtain ⟨t,u,v,e⟩:=x; exact ⟨t,u,v,k _ _ (.inl rfl) e⟩
 | frz ob u ih=>obtain ⟨e,q⟩:=x; exact ⟨k _ _ (.inl rfl) e,ih q⟩
 | tbl ps=>
  have e:h.get? a=some { cls:=.none,data:=.fields ps }:=x
  show h'.get? a=some { cls:=.none,data:=.fields ps }
  exact k a _ (.inl rfl) e
 | met f y=>
  have e:h.get? a=some (Yd3 (.ref f) (.ref y)):=x
  show h'.get? a=some (Yd3 (.ref f) (.ref y))
  exact k a _ (.inl rfl) e
 | ext φ=>obtain ⟨p,⟨o,e⟩,st⟩:=x; exact ⟨st _ _ p fun o q=>k _ _ (.inl rfl) q,⟨o,k _ _ (.inl rfl) e⟩,st⟩
theorem HOk.lt (x:HOk P w H h)(e:H a=some o):a < h.objs.size:=(x a o e).lt
theorem HOk.fresh (x:HOk P w H h)(e:h.objs.size<=a):H a=none:=by
 cases q:H a with
 | none=>rfl
 | some u=>exact absurd (YaF (x.lt q) e) (YbB _)
theorem HOk.kept (x:HOk P w H h)(k:∀ b u,h.get? b=some u->h'.get? b=some u):HOk P w H h':=fun a o e=>
 (x a o e).stay (fun b u _ q=>k b u q) (fun _ q=>q) fun _ _ q=>q
theorem HOk.laid (x:HOk P w H h)(k:∀ b u,h.get? b=some u->h'.get? b=some u)(hp:h.objs.size<=a)(new:jaz P w (upd H a o) h' a o):HOk P w (upd H a o) h':=fun b u e=>by
 have hn:=x.fresh hp
 by_cases hb:b=a
 ·subst hb; rw [jaf] at e; cases e; exact new
 ·rw [jab hb] at e
  exact (x b u e).stay (fun c v _ q=>k c v q) (fun c q=>by rw [jab (jag q hn)]; exact q) fun c xs q=>by rw [jab (jag q hn)]; exact q
end

noncomputable def Rd (H:Hp)(a:Addr)(u:HO):Prop:=H a=some u\/∃ o,H a=some (.frz o u)
theorem Rd.of {H:Hp}{a:Addr}{u:HO}(h:H a=some u):Rd H a u:=.inl h
theorem Rd.ok {P:Program}{w:World}{H:Hp}{h:Heap}{a:Addr}{u:HO}(r:Rd H a u)(x:HOk P w H h):jaz P w H h a u:=by
 rcases r with r | ⟨o,r⟩
 ·exact x a u r
 ·obtain ⟨_,q⟩:=x a _ r
  exact q
noncomputable def Mut:Option HO->Prop
 | some (.lst _)=>True
 | some (.dK _)=>True
 | some (.dT _)=>True
 | some (.set _ _)=>True
 | some (.ins _ _ _)=>True
 | some (.ext _)=>True
 | _=>False
section
variable {P:Program}{w:World}{H:Hp}{h h':Heap}{x e:Addr}{o':HO}
theorem HOk.write (ok : HOk P w H h)(mu : Mut (H x))(he : e = x \/ H e = some (.own x))(k : ∀ b u, b ≠ e -> h.get? b = some u -> h'.get? b = some u)(heo : ∃ u, h'.get? e = some u)
    (new : jaz P w (upd H x o') h' x o') : HOk P w (upd H x o') h' := fun b u q => by
  have nown : ∀ c y, H c = some (.own y) -> c ≠ x := fun c y r z => by subst z; rw [r] at mu; exact mu
  have ntup : ∀ c xs, H c = some (.tup xs) -> c ≠ x := fun c xs r z => by subst z; rw [r] at mu; exact mu
  by_cases hb : b = x
  · subst hb; rw [jaf] at q; cases q; exact new
  · rw [jab hb] at q
    by_cases hbe : b = e
    · have q' : H b = some (.own x) := by
        rcases he with z | z
        · exact absurd (hbe.trans z) hb
        · rw [hbe]; exact z
      rw [q] at q'; cases q'
      obtain ⟨v, hv⟩ := heo
      exact ⟨v, by rw [hbe]; exact hv⟩
    · refine (ok b u q).stay (fun c v hc r => k c v ?_ r) (fun c r => by rw [jab (nown c b r)]; exact r) fun c xs r => by rw [jab (ntup c xs r)]; exact r
      rcases hc with rfl | hc
      · exact hbe
      · rintro rfl
        rcases he with z | z
        · exact nown c b hc z
        · rw [hc] at z; cases z; exact hb rfl
end

structure Un (fs ex:List Addr)(H H':Hp)(h h':Heap):Prop where
 keep:∀ b o,h.get? b=some o->H b=none->b∉fs->b∉ex->h'.get? b=some o
 slot:∀ b o,h.get? b=some o->H b=none->b∈fs->b∉ex->∃ sl,h'.get? b=some { o with slots:=sl }
 free:∀ b o,h.get? b=some o->H b=none->b∉ex->H' b=none
 there:∀ b o,h.get? b=some o->b∉ex->∃ o',h'.get? b=some o'
 tups:∀ b xs,H b=some (.tup xs)->H' b=some (.tup xs)
 frzs:∀ b o u,H b=some (.frz o u)->H' b=some (.frz o u)
 tbls:∀ b ps,H b=some (.tbl ps)->∃ more,H' b=some (.tbl (ps++more))
section
variable {fs fs' ex ex':List Addr}{H H1 H2:Hp}{h h1 h2 h':Heap}{a x e:Addr}{o:HO}
theorem Un.any (u:Un fs ex H H1 h h1){b:Addr}{ob:Obj}(q:h.get? b=some ob)(n:H b=none)(hx:b∉ex):∃ sl,h1.get? b=some { ob with slots:=sl }:=by
 by_cases hb:b∈fs
 ·exact u.slot b ob q n hb hx
 ·exact ⟨ob.slots,u.keep b ob q n hb hx⟩
theorem Un.trans (a:Un fs ex H H1 h h1)(b:Un fs ex H1 H2 h1 h2):Un fs ex H H2 h h2 where
 keep:=fun c ob q n hc hx=>b.keep c ob (a.keep c ob q n hc hx) (a.free c ob q n hx) hc hx
 slot:=fun c ob q n hc hx=>by
  obtain ⟨sl,e1⟩:=a.slot c ob q n hc hx
  obtain ⟨sl',e2⟩:=b.slot c _ e1 (a.free c ob q n hx) hc hx
  exact ⟨sl',e2⟩
 free:=fun c ob q n hx=>by
  obtain ⟨o',e1⟩:=a.there c ob q hx
  exact b.free c o' e1 (a.free c ob q n hx) hx
 there:=fun c ob q hx=>by
  obtain ⟨o',e1⟩:=a.there c ob q hx
  exact b.there c o' e1 hx
 tups:=fun c xs q=>b.tups c xs (a.tups c xs q)
 frzs:=fun c ob xs q=>b.frzs c ob xs (a.frzs c ob xs q)
 tbls:=fun c ps q=>by
  obtain ⟨m1,e1⟩:=a.tbls c ps q
  obtain ⟨m2,e2⟩:=b.tbls c _ e1
  exact ⟨m1++m2,by rw [e2,YfS]⟩
theorem Un.kept (k:∀ b u,h.get? b=some u->h'.get? b=some u):Un fs ex H H h h':=
 ⟨fun b ob q _ _ _=>k b ob q,fun b ob q _ _ _=>⟨ob.slots,k b ob q⟩,fun _ _ _ n _=>n,fun b ob q _=>⟨ob,k b ob q⟩,fun _ _ q=>q,fun _ _ _ q=>q,fun _ ps q=>⟨#[],by rw [q]; simp⟩⟩
theorem Un.refl:Un fs ex H H h h:=Un.kept fun _ _ q=>q
theorem Un.laid (k:∀ b u,h.get? b=some u->h'.get? b=some u)(hp:h.objs.size<=a)(hn:H a=none):Un fs ex H (upd H a o) h h' where
 keep:=fun b u q _ _ _=>k b u q
 slot:=fun b u q _ _ _=>⟨u.slots,k b u q⟩
 free:=fun b u q n _=>by rw [jab (Ya8 (YaF (Yav q) hp))]; exact n
 there:=fun b u q _=>⟨u,k b u q⟩
 tups:=fun b xs q=>by rw [jab (jag q hn)]; exact q
 frzs:=fun b u xs q=>by rw [jab (jag q hn)]; exact q
 tbls:=fun b ps q=>⟨#[],by rw [jab (jag q hn),q]; simp⟩
theorem Un.write (mu:Mut (H x))(he:e=x\/H e=some (.own x))(k:∀ b u,b≠e->h.get? b=some u->h'.get? b=some u)(heo:∃ u,h'.get? e=some u):Un fs ex H (upd H x o) h h':=by
 have hx:∀ b,H b=none->b≠x:=fun b n z=>by subst z; rw [n] at mu; exact mu
 have hb:∀ b,H b=none->b≠e:=fun b n z=>by
  subst z
  rcases he with r | r
  ·exact hx b n r
  ·rw [n] at r; cases r
 have hm:∀ b u,H b=some u->¬ Mut (some u)->b≠x:=fun b u q nm z=>by subst z; rw [q] at mu; exact nm mu
 refine ⟨fun b u q n _ _=>k b u (hb b n) q,fun b u q n _ _=>⟨u.slots,k b u (hb b n) q⟩,fun b u q n _=>by rw [jab (hx b n)]; exact n,fun b u q _=>?_,
  fun b xs q=>by rw [jab (hm b _ q fun z=>z)]; exact q,fun b u xs q=>by rw [jab (hm b _ q fun z=>z)]; exact q,fun b ps q=>⟨#[],by rw [jab (hm b _ q fun z=>z),q]; simp⟩⟩
 by_cases hbe:b=e
 ·subst hbe; exact heo
 ·exact ⟨u,k b u hbe q⟩
end

noncomputable def trk (h:Heap)(H:Hp):List Addr:=(YaV h.objs.size).filter fun a=>(H a).isSome
noncomputable def hidT (h:Heap)(H:Hp):Heap:=PySem.W.hideAll h (trk h H)
theorem jg1 (h:Heap)(H:Hp):(hidT h H).objs.size=h.objs.size:=PySem.W.hideAll_size _ _
theorem jh5 {h:Heap}{H:Hp}{b:Addr}{o:Obj}(e:h.get? b=some o)(n:H b=none):(hidT h H).get? b=some o:=
 PySem.W.hideAll_get _ e fun hm=>by
  have q:(H b).isSome=true:=(List.mem_filter.mp hm).2
  rw [n] at q; simp at q
theorem jj4 {h:Heap}{H:Hp}{b:Addr}{o:Obj}(e:(hidT h H).get? b=some o):h.get? b=some o/\H b=none:=by
 have e':h.get? b=some o:=PySem.W.of_hideAll (trk h H) e
 refine ⟨e',?_⟩
 cases q:H b with
 | none=>rfl
 | some x=>
  have hm:b∈trk h H:=List.mem_filter.mpr ⟨List.mem_range.mpr (Yav e'),by simp [q]⟩
  have z:(hidT h H).get? b=none:=PySem.W.hideAll_none (trk h H) hm
  rw [z] at e; cases e

noncomputable def jkG (g h:Heap)(L:Addr):List (Addr×Obj):=(YaV h.objs.size).filterMap fun a=>if a=L\/(g.get? a).isSome=true then none else (h.get? a).map fun o=>(a,o)
noncomputable def rest (g h:Heap)(L d:Addr):List (Addr×Obj):=(jkG g h L).filter fun p=>decide (p.1≠d)

structure Mod (K:Yac)(mg:Str->Option Value)(base:Heap):Prop where
 kin:K.In base
 glob:base.Ns Yax mg
 blt:∃ mb,base.Ns YfK mb/\∀ x:Str,x ≠ "__name__" -> mb x=YcR x
 nolimit:base.NoLimit
 sys:∃ o,K.lookup Ybq=some o/\o.cls=.type "dict"

structure Cx where
 prog:Program
 w:World
 K:Yac
 mg:Str->Option Value
 base:Heap
 A:Around
 N:List Str
 s₀:Shared
 H₀:Hp
 env:Env
 outer:List Env
 stack:List Env
 ex:List Addr
 fn:Str->Bool
 calm:Bool
 pn:List (Addr×Obj)
 xe:Value->Shared->Prop
noncomputable def frs (l:List Env):List Addr:=l.filterMap (·.frame)
noncomputable abbrev Cx.fs (X:Cx):List Addr:=frs X.outer

noncomputable def Vis (sc:Scope)(x:Str):Prop:=sc.names.lookup x=some .local\/sc.names.lookup x=some .cell\/sc.names.lookup x=some .free
noncomputable def Loc (sc:Scope)(x:Str):Prop:=sc.names.lookup x=some .local\/sc.names.lookup x=some .cell
noncomputable def Look (env:Env)(h:Heap)(m:Str->Option Value)(x:Str)(u:Value):Prop:=
 (env.kindOf x=some .local/\m x=some u)\/((env.kindOf x=some .cell\/env.kindOf x=some .free)/\∃ c,env.cells.lookup x=some c/\h.IsCell c (some u))

structure Cx.Ok (X:Cx):Prop where
 mod:Mod X.K X.mg X.base
 kind:X.env.scope.kind=.function
 glob:X.env.globals=Yax
 blt:X.env.builtins=YfK
 above:X.s₀.heap.objs.size<=X.env.locals
 inj:∀ x y c,X.env.cells.lookup x=some c->X.env.cells.lookup y=some c->x=y
 has:∀ x,(X.env.kindOf x=some .cell\/X.env.kindOf x=some .free)->∃ c,X.env.cells.lookup x=some c
 cab:∀ x c,X.fn x=true->X.env.cells.lookup x=some c->X.s₀.heap.objs.size<=c
 hd:X.calm=true->X.A.handled=none
 frames:X.A.frames=some X.stack
 stk:X.stack=X.outer\/(X.stack=X.env::X.outer/\X.env.frame=some X.env.locals)
 exf:∀ b∈X.ex,b≠X.env.locals/\∀ x c,X.env.cells.lookup x=some c->c≠b
 bs:∀ b o,X.base.get? b=some o->X.s₀.heap.get? b=some o/\X.H₀ b=none
 bsz:X.base.objs.size<=X.s₀.heap.objs.size
 noex:∀ b o,X.base.get? b=some o->b∉X.ex
 exfs:∀ b∈X.ex,b∉X.fs
 funs:X.s₀.heap.FunFrames X.base X.outer
 frf:∀ b∈X.fs,X.H₀ b=none

structure Inv (X:Cx)(pins:List (Addr×Obj))(σ:List (Option V))(H:Hp)(s:Shared):Prop where
 ok:X.Ok
 os:s.os=X.s₀.os
 bare:AllBare s.gens
 base:Un X.fs X.ex X.H₀ H X.s₀.heap s.heap
 loc:∃ m,s.heap.Ns X.env.locals m/\∀ (i:Nat) (x:Str) (v:V),X.N[i]?=some x->σ[i]?=some (some v)->Vis X.env.scope x->∃ u,RelV v u/\Look X.env s.heap m x u
 cell:∀ x c,X.env.cells.lookup x=some c->∃ v,s.heap.IsCell c v
 free:H X.env.locals=none
 freeC:∀ x c,X.env.cells.lookup x=some c->H c=none
 pin:∀ p∈X.pn++pins,s.heap.get? p.1=some p.2/\H p.1=none/\p.1≠X.env.locals/\p.1∉X.fs/\∀ v,p.2.data≠.cell v
 hok:HOk X.prog X.w H s.heap
 len:σ.length=X.N.length

section
variable {X:Cx}{pins:List (Addr×Obj)}{σ:List (Option V)}{H H':Hp}{s:Shared}{h':Heap}

theorem Cx.Ok.nofr (ok:X.Ok){b:Addr}{o:Obj}(e:X.base.get? b=some o):b∉X.fs:=fun hb=>by
 have:=(ok.funs.mem hb).1
 rw [e] at this; cases this
theorem Inv.bs (I:Inv X pins σ H s):∀ b o,X.base.get? b=some o->s.heap.get? b=some o/\H b=none:=fun b o e=>
 ⟨I.base.keep b o (I.ok.bs b o e).1 (I.ok.bs b o e).2 (I.ok.nofr e) (I.ok.noex b o e),I.base.free b o (I.ok.bs b o e).1 (I.ok.bs b o e).2 (I.ok.noex b o e)⟩
theorem Inv.bk (I:Inv X pins σ H s):∀ b o,X.base.get? b=some o->s.heap.get? b=some o:=fun b o e=>(I.bs b o e).1
theorem Inv.mod (I:Inv X pins σ H s):Mod X.K X.mg X.base:=I.ok.mod
theorem Inv.kIn (I:Inv X pins σ H s):X.K.In s.heap:=I.ok.mod.kin.keeps I.bk
theorem Inv.lt (I:Inv X pins σ H s):X.env.locals < s.heap.objs.size:=let ⟨_,hn,_⟩:=I.loc; hn.lt
theorem Inv.sz (I:Inv X pins σ H s):X.s₀.heap.objs.size<=s.heap.objs.size:=Yaw I.ok.above (Ycq I.lt)
theorem Inv.nofs (I:Inv X pins σ H s){a:Addr}(h:s.heap.objs.size<=a):a∉X.fs:=fun hb=>by
 obtain ⟨_,o,ho,_⟩:=I.ok.funs.mem hb
 exact absurd (YaF (Yav ho) (Yaw I.sz h)) (YbB _)
theorem Inv.cne (I:Inv X pins σ H s):∀ x c,X.env.cells.lookup x=some c->c≠X.env.locals:=fun x c e z=>by
 obtain ⟨v,o,ho,hd⟩:=I.cell x c e
 obtain ⟨m,⟨o',es,ep,ho',hd',_⟩,_⟩:=I.loc
 rw [z,ho'] at ho; cases ho; rw [hd'] at hd; cases hd
theorem Inv.funs (I:Inv X pins σ H s):s.heap.FunFrames X.base X.outer:=by
 have all:∀ (l:List Env),(∀ b∈frs l,b∈X.fs)->X.s₀.heap.FunFrames X.base l->s.heap.FunFrames X.base l:=by
  intro l
  induction l with
  | nil=>intro _ _; trivial
  | cons env r ih=>
   intro hs hl
   obtain ⟨hk,⟨L,o,hf,hn,ho,hd⟩,hr⟩:=hl
   have hL:L∈X.fs:=hs L (by unfold frs; rw [YdX,hf]; exact YaH)
   obtain ⟨sl,e⟩:=I.base.slot L o ho (I.ok.frf L hL) hL fun z=>I.ok.exfs L z hL
   exact ⟨hk,⟨L,_,hf,hn,e,hd⟩,ih (fun b hb=>hs b (by unfold frs; rw [YdX,hf]; exact Yap _ hb)) hr⟩
 exact all X.outer (fun _ hb=>hb) I.ok.funs

theorem Inv.stack (I:Inv X pins σ H s):s.heap.FunFrames X.base X.stack:=by
 rcases I.ok.stk with e | ⟨e,hf⟩
 ·rw [e]; exact I.funs
 ·rw [e]
  obtain ⟨m,hn,_⟩:=I.loc
  refine .cons (by rw [I.ok.kind]; decide) hf hn ?_ I.funs
  exact YdQ (Yaw I.ok.bsz I.ok.above)
theorem Inv.stkSub (I:Inv X pins σ H s):∀ b∈frs X.stack,b∈X.env.locals::X.fs:=fun b hb=>by
 rcases I.ok.stk with e | ⟨e,hf⟩
 ·rw [e] at hb; exact Yap _ hb
 ·rw [e] at hb
  unfold frs at hb
  rw [YdX,hf] at hb
  exact hb
theorem Inv.stkFree (I:Inv X pins σ H s):∀ b∈frs X.stack,H b=none:=fun b hb=>by
 rcases YbW.mp (I.stkSub b hb) with e | hb
 ·rw [e]; exact I.free
 ·obtain ⟨_,o,ho,_⟩:=I.ok.funs.mem hb
  exact I.base.free b o ho (I.ok.frf b hb) fun z=>I.ok.exfs b z hb

theorem Inv.step {g':Array Ye8}{t':Nat}{d':Drawn}{ch:List Addr}(I:Inv X pins σ H s)
  (hch:∀ b∈ch,(b∈X.ex\/X.s₀.heap.objs.size<=b)/\b≠X.env.locals/\(∀ x c,X.env.cells.lookup x=some c->c≠b)/\∀ p∈X.pn++pins,p.1≠b)
  (keep:∀ b o,b≠X.env.locals->b∉X.fs->b∉ch->s.heap.get? b=some o->H b=none->h'.get? b=some o)
  (slot:∀ b o,b≠X.env.locals->b∈X.fs->b∉ch->s.heap.get? b=some o->H b=none->∃ sl,h'.get? b=some { o with slots:=sl }) (free:∀ b o,b∉ch->s.heap.get? b=some o->H b=none->H' b=none)
  (there:∀ b o,b∉ch->s.heap.get? b=some o->∃ o',h'.get? b=some o')
  (tups:∀ b xs,H b=some (.tup xs)->H' b=some (.tup xs)) (frzs:∀ b o u,H b=some (.frz o u)->H' b=some (.frz o u)) (tbls:∀ b ps,H b=some (.tbl ps)->∃ more,H' b=some (.tbl (ps++more)))
  (ns:∀ m,s.heap.Ns X.env.locals m->h'.Ns X.env.locals m) (hok:HOk X.prog X.w H' h') (hg:AllBare g') :
  Inv X pins σ H' { s with heap:=h',gens:=g',drawn:=d',toks:=t' }:=by
 have neL:∀ b o,X.s₀.heap.get? b=some o->b≠X.env.locals:=fun b o e=>Ya8 (YaF (Yav e) I.ok.above)
 have neC:∀ b o,X.s₀.heap.get? b=some o->b∉X.ex->b∉ch:=fun b o e hx hb=>by
  rcases (hch b hb).1 with z | z
  ·exact hx z
  ·exact absurd (YaF (Yav e) z) (YbB _)
 have cellK:∀ x c,X.env.cells.lookup x=some c->∀ v,s.heap.IsCell c v->h'.IsCell c v:=fun x c e v ⟨o,ho,hd⟩=>by
  have nch:c∉ch:=fun z=>(hch c z).2.2.1 x c e rfl
  by_cases hc:c∈X.fs
  ·obtain ⟨sl,q⟩:=slot c o (I.cne x c e) hc nch ho (I.freeC x c e)
   exact ⟨_,q,hd⟩
  ·exact ⟨o,keep c o (I.cne x c e) hc nch ho (I.freeC x c e),hd⟩
 refine ⟨I.ok,I.os,hg,⟨fun b o e n hb hx=>?_,fun b o e n hb hx=>?_,fun b o e n hx=>?_,fun b o e hx=>?_,fun b xs e=>tups b xs (I.base.tups b xs e),fun b o xs e=>frzs b o xs (I.base.frzs b o xs e),fun b ps e=>?_⟩,?_,fun x c e=>?_,?_,fun x c e=>?_,fun p hp=>?_,hok,I.len⟩
 ·exact keep b o (neL b o e) hb (neC b o e hx) (I.base.keep b o e n hb hx) (I.base.free b o e n hx)
 ·obtain ⟨sl,e1⟩:=I.base.slot b o e n hb hx
  obtain ⟨sl',e2⟩:=slot b _ (neL b o e) hb (neC b o e hx) e1 (I.base.free b o e n hx)
  exact ⟨sl',e2⟩
 ·obtain ⟨o',e1⟩:=I.base.there b o e hx
  exact free b o' (neC b o e hx) e1 (I.base.free b o e n hx)
 ·obtain ⟨o',e1⟩:=I.base.there b o e hx
  exact there b o' (neC b o e hx) e1
 ·obtain ⟨m1,e1⟩:=I.base.tbls b ps e
  obtain ⟨m2,e2⟩:=tbls b _ e1
  exact ⟨m1++m2,by rw [e2,YfS]⟩
 ·obtain ⟨m,hn,hl⟩:=I.loc
  refine ⟨m,ns m hn,fun i x v e1 e2 e3=>?_⟩
  obtain ⟨u,r,l⟩:=hl i x v e1 e2 e3
  refine ⟨u,r,?_⟩
  rcases l with l | ⟨k,c,e,z⟩
  ·exact .inl l
  ·exact .inr ⟨k,c,e,cellK x c e _ z⟩
 ·obtain ⟨v,z⟩:=I.cell x c e
  exact ⟨v,cellK x c e v z⟩
 ·obtain ⟨m,⟨o,_,_,ho,_⟩,_⟩:=I.loc
  exact free _ o (fun z=>(hch _ z).2.1 rfl) ho I.free
 ·obtain ⟨v,o,ho,hd⟩:=I.cell x c e
  exact free c o (fun z=>(hch c z).2.2.1 x c e rfl) ho (I.freeC x c e)
 ·obtain ⟨e,n,ne,nf,d⟩:=I.pin p hp
  have nch:p.1∉ch:=fun z=>(hch p.1 z).2.2.2 p hp rfl
  exact ⟨keep p.1 p.2 ne nf nch e n,free p.1 p.2 nch e n,ne,nf,d⟩
theorem Inv.un {t':Nat}(I:Inv X pins σ H s)(u:Un X.fs [] H H' s.heap h')(hok:HOk X.prog X.w H' h'):Inv X pins σ H' { s with heap:=h',toks:=t' }:=by
 obtain ⟨m,⟨o,es,ep,ho,r⟩,_⟩:=id I.loc
 obtain ⟨sl,hL⟩:=u.any ho I.free (by simp)
 exact I.step (g':=s.gens) (d':=s.drawn) (ch:=[]) (fun _ z=>nomatch z) (fun b o _ hb _ e n=>u.keep b o e n hb (by simp)) (fun b o _ hb _ e n=>u.slot b o e n hb (by simp)) (fun b o _ e n=>u.free b o e n (by simp)) (fun b o _ e=>u.there b o e (by simp)) u.tups u.frzs u.tbls (fun m' hm=>by
  obtain ⟨o',es',ep',ho',r'⟩:=hm
  rw [ho] at ho'; cases ho'
  exact ⟨_,es',ep',hL,r'⟩) hok I.bare
theorem Inv.call {g':Array Ye8}{t':Nat}{d':Drawn}{ch:List Addr}(I:Inv X pins σ H s)(u:Un (frs X.stack) ch H H' s.heap h')(hok:HOk X.prog X.w H' h')(hg:AllBare g')
  (hch:∀ b∈ch,(b∈X.ex\/X.s₀.heap.objs.size<=b)/\b≠X.env.locals/\(∀ x c,X.env.cells.lookup x=some c->c≠b)/\∀ p∈X.pn++pins,p.1≠b) :
  Inv X pins σ H' { s with heap:=h',gens:=g',drawn:=d',toks:=t' }:=by
 obtain ⟨m,⟨o,es,ep,ho,r⟩,_⟩:=id I.loc
 obtain ⟨sl,hL⟩:=u.any ho I.free fun z=>(hch _ z).2.1 rfl
 exact I.step (ch:=ch) hch (fun b o hL hb hc e n=>u.keep b o e n (fun z=>(YbW.mp (I.stkSub b z)).elim hL hb) hc) (fun b o _ _ hc e n=>u.any e n hc) (fun b o hc e n=>u.free b o e n hc) (fun b o hc e=>u.there b o e hc) u.tups u.frzs u.tbls (fun m' hm=>by
  obtain ⟨o',es',ep',ho',r'⟩:=hm
  rw [ho] at ho'; cases ho'
  exact ⟨_,es',ep',hL,r'⟩) hok hg
theorem Inv.turned {t':Nat}{it:Addr}(I:Inv X pins σ H s)(k:∀ b o,b≠it->s.heap.get? b=some o->h'.get? b=some o)(hn:H it=none)(hL:it≠X.env.locals)
  (h1:it∈X.ex\/X.s₀.heap.objs.size<=it) (h2:∀ x c,X.env.cells.lookup x=some c->c≠it) (h3:∀ p∈X.pn++pins,p.1≠it):Inv X pins σ H { s with heap:=h',toks:=t' }:=by
 have nit:∀ b u,H b=some u->b≠it:=fun b u e z=>by rw [z,hn] at e; cases e
 refine I.step (g':=s.gens) (d':=s.drawn) (ch:=[it]) (fun b hb=>?_) (fun b o _ _ hc e _=>k b o (fun z=>hc (by simp [z])) e) (fun b o _ _ hc e _=>⟨o.slots,k b o (fun z=>hc (by simp [z])) e⟩) (fun _ _ _ _ n=>n)
  (fun b o hc e=>⟨o,k b o (fun z=>hc (by simp [z])) e⟩) (fun _ _ e=>e) (fun _ _ _ e=>e) (fun b ps e=>⟨#[],by rw [e]; simp⟩) (fun m hm=>?_) (fun b u e=>?_) I.bare
 ·have e:b=it:=by simpa using hb
  subst e
  exact ⟨h1,hL,h2,h3⟩
 ·obtain ⟨o,es,ep,ho,r⟩:=hm
  exact ⟨o,es,ep,k _ o (Ne.symm hL) ho,r⟩
 ·refine (I.hok b u e).stay (fun c v hc q=>k c v ?_ q) (fun _ q=>q) fun _ _ q=>q
  rcases hc with z | z
  ·rw [z]; exact nit b u e
  ·exact nit c _ z
theorem Inv.tok (I:Inv X pins σ H s)(t:Nat):Inv X pins σ H { s with toks:=t }:=I.un (h':=s.heap) (t':=t) Un.refl I.hok
theorem Inv.kept {t':Nat}(I:Inv X pins σ H s)(k:∀ b u,s.heap.get? b=some u->h'.get? b=some u):Inv X pins σ H { s with heap:=h',toks:=t' }:=I.un (Un.kept k) (I.hok.kept k)
theorem Inv.laid {a:Addr}{o:HO}{t':Nat}(I:Inv X pins σ H s)(k:∀ b u,s.heap.get? b=some u->h'.get? b=some u)(hp:s.heap.objs.size<=a)(new:jaz X.prog X.w (upd H a o) h' a o) :
  Inv X pins σ (upd H a o) { s with heap:=h',toks:=t' }:=I.un (Un.laid k hp (I.hok.fresh hp)) (I.hok.laid k hp new)
theorem Inv.write {x e:Addr}{o:HO}{t':Nat}(I:Inv X pins σ H s)(mu:Mut (H x))(he:e=x\/H e=some (.own x))(k:∀ b u,b≠e->s.heap.get? b=some u->h'.get? b=some u)(heo:∃ u,h'.get? e=some u)
  (new:jaz X.prog X.w (upd H x o) h' x o):Inv X pins σ (upd H x o) { s with heap:=h',toks:=t' }:=I.un (Un.write mu he k heo) (I.hok.write mu he k heo new)
theorem Inv.pins_of {pins':List (Addr×Obj)}(I:Inv X pins σ H s)(h:∀ p∈pins',s.heap.get? p.1=some p.2/\H p.1=none/\p.1≠X.env.locals/\p.1∉X.fs/\∀ v,p.2.data≠.cell v):Inv X pins' σ H s:=
 ⟨I.ok,I.os,I.bare,I.base,I.loc,I.cell,I.free,I.freeC,fun p hp=>(List.mem_append.mp hp).elim (fun z=>I.pin p (Ybu _ z)) (h p),I.hok,I.len⟩

theorem jdv {N:List Str}(hN:N.Nodup){i j:Nat}{x:Str}(a:N[i]?=some x)(b:N[j]?=some x):i=j:=by
 obtain ⟨h1,e1⟩:=List.getElem?_eq_some_iff.mp a
 obtain ⟨h2,e2⟩:=List.getElem?_eq_some_iff.mp b
 exact (List.getElem_inj hN).mp (e1.trans e2.symm)

theorem jdP {M : Model}{A : Around}{E : Value -> Shared -> Prop}{i : Nat}{x : Str}{v : V}{u : Value}{Q : Unit -> Shared -> Prop}(I : Inv X pins σ H s)(hN : X.N.Nodup)(hi : X.N[i]? = some x)(hx : Loc X.env.scope x)(r : RelV v u)
    (h : ∀ s', Inv X pins (σ.set i (some v)) H s' -> (∃ a, Yei a s.heap s'.heap /\ (a = X.env.locals \/ X.env.cells.lookup x = some a)) -> Q () s') (hf : X.fn x = true \/ X.env.scope.names.lookup x = some .local := by first | exact .inl rfl | exact .inr rfl | assumption) : wpAny M A (storeName X.env x u) Q E s := by
  obtain ⟨m, hn, hl⟩ := id I.loc
  have hcls : (X.env.scope.kind == .class || (X.env.scope.kind == .module && X.env.locals != X.env.globals)) = false := by rw [I.ok.kind]; rfl
  have hiσ : i < σ.length := by rw [I.len]; exact (List.getElem?_eq_some_iff.mp hi).1
  have cne := I.cne
  have tracked : ∀ {a : Addr} {h' : Heap}, (∃ o, s.heap.get? a = some o /\ H a = none) -> Yei a s.heap h' -> HOk X.prog X.w H h' := fun {a h'} ha hs b ob e => by
    obtain ⟨_, _, hfree⟩ := ha
    refine (I.hok b ob e).stay (fun c w' hc q => (hs.2 c ?_).trans q) (fun _ q => q) fun _ _ q => q
    rintro rfl
    rcases hc with rfl | hc
    · rw [hfree] at e; cases e
    · rw [hfree] at hc; cases hc
  rcases hx with hk | hk
  · refine wpAny_storeName_local hk hn (fun h' hn' hs => ?_) hcls
    obtain ⟨oL, _, _, hoL, _⟩ := id hn
    refine h _ ⟨I.ok, I.os, I.bare, ⟨fun b o e n hb hx => ?_, fun b o e n hb hx => ?_, I.base.free, fun b o e hx => ?_, I.base.tups, I.base.frzs, I.base.tbls⟩, ⟨_, hn', fun j y v' e1 e2 e3 => ?_⟩, fun y c e => ?_, I.free, I.freeC, fun p hp => ?_, tracked ⟨oL, hoL, I.free⟩ hs, by simpa using I.len⟩ ⟨_, hs, .inl rfl⟩
    · exact (hs.2 b (Ya8 (YaF (Yav e) I.ok.above))).trans (I.base.keep b o e n hb hx)
    · obtain ⟨sl, e1⟩ := I.base.slot b o e n hb hx
      exact ⟨sl, (hs.2 b (Ya8 (YaF (Yav e) I.ok.above))).trans e1⟩
    · obtain ⟨o', e1⟩ := I.base.there b o e hx
      exact ⟨o', (hs.2 b (Ya8 (YaF (Yav e) I.ok.above))).trans e1⟩
    · by_cases hj : j = i
      · subst hj
        rw [hi] at e1; cases e1
        rw [YbS hiσ] at e2
        cases e2
        exact ⟨u, r, .inl ⟨hk, by simp⟩⟩
      · rw [YbC (Ne.symm hj)] at e2
        obtain ⟨u', r', q⟩ := hl j y v' e1 e2 e3
        refine ⟨u', r', ?_⟩
        rcases q with ⟨k, e⟩ | ⟨k, c, e, z⟩
        · refine .inl ⟨k, ?_⟩
          have : y ≠ x := fun e => hj (jdv hN e1 (e ▸ hi))
          simp [this, e]
        · exact .inr ⟨k, c, e, z.sameBut hs (cne y c e)⟩
    · obtain ⟨w', z⟩ := I.cell y c e
      exact ⟨w', z.sameBut hs (cne y c e)⟩
    · obtain ⟨e, n, ne, nf, d⟩ := I.pin p hp
      exact ⟨(hs.2 p.1 ne).trans e, n, ne, nf, d⟩
  · have hfn : X.fn x = true := by
      rcases hf with z | z
      · exact z
      · rw [z] at hk; cases hk
    obtain ⟨c, hc⟩ := I.ok.has x (.inl hk)
    obtain ⟨w', z⟩ := I.cell x c hc
    refine wpAny_storeName_cell I.ok.kind hk hc z (fun h' hc' hs => ?_)
    obtain ⟨oc, hoc, hocd⟩ := id z
    refine h { s with heap := h' } ⟨I.ok, I.os, I.bare, ⟨fun b o e n hb hx => ?_, fun b o e n hb hx => ?_, I.base.free, fun b o e hx => ?_, I.base.tups, I.base.frzs, I.base.tbls⟩, ⟨m, hn.sameBut hs (Ne.symm (cne x c hc)), fun j y v' e1 e2 e3 => ?_⟩, fun y c' e => ?_, I.free, I.freeC, fun p hp => ?_, tracked ⟨oc, hoc, I.freeC x c hc⟩ hs, by simpa using I.len⟩ ⟨c, hs, .inr hc⟩
    · exact (hs.2 b (Ya8 (YaF (Yav e) (I.ok.cab x c hfn hc)))).trans (I.base.keep b o e n hb hx)
    · obtain ⟨sl, e1⟩ := I.base.slot b o e n hb hx
      exact ⟨sl, (hs.2 b (Ya8 (YaF (Yav e) (I.ok.cab x c hfn hc)))).trans e1⟩
    · obtain ⟨o', e1⟩ := I.base.there b o e hx
      exact ⟨o', (hs.2 b (Ya8 (YaF (Yav e) (I.ok.cab x c hfn hc)))).trans e1⟩
    · by_cases hj : j = i
      · subst hj
        rw [hi] at e1; cases e1
        rw [YbS hiσ] at e2
        cases e2
        exact ⟨u, r, .inr ⟨.inl hk, c, hc, hc'⟩⟩
      · rw [YbC (Ne.symm hj)] at e2
        obtain ⟨u', r', q⟩ := hl j y v' e1 e2 e3
        refine ⟨u', r', ?_⟩
        rcases q with q | ⟨k, c', e, z'⟩
        · exact .inl q
        · refine .inr ⟨k, c', e, z'.sameBut hs ?_⟩
          rintro rfl
          exact hj (jdv hN e1 (I.ok.inj _ _ _ e hc ▸ hi))
    · by_cases hcc : c' = c
      · subst hcc; exact ⟨_, hc'⟩
      · obtain ⟨w2, z2⟩ := I.cell y c' e
        exact ⟨w2, z2.sameBut hs hcc⟩
    · obtain ⟨e, n, ne, nf, d⟩ := I.pin p hp
      refine ⟨(hs.2 p.1 ?_).trans e, n, ne, nf, d⟩
      intro q
      rw [q, hoc] at e
      have q' : oc = p.2 := YaU e
      exact d w' (by rw [<- q']; exact hocd)
theorem jdo {M:Model}{A:Around}{E:Value->Shared->Prop}{i:Nat}{x:Str}{v:V}{u:Value}{Q:Unit->Shared->Prop}(I:Inv X pins σ H s)(hN:X.N.Nodup)(hi:X.N[i]?=some x)(hx:Loc X.env.scope x)(r:RelV v u)
  (h:∀ s',Inv X pins (σ.set i (some v)) H s'->Q () s') (hf:X.fn x=true\/X.env.scope.names.lookup x=some .local:=by first | exact .inl rfl | exact .inr rfl | assumption):wpAny M A (storeName X.env x u) Q E s:=
 jdP I hN hi hx r (fun s' I' _=>h s' I') hf
theorem Inv.call' {s':Shared}{ch:List Addr}(I:Inv X pins σ H s)(ho:s'.os=s.os)(u:Un (frs X.stack) ch H H' s.heap s'.heap)(hok:HOk X.prog X.w H' s'.heap)(hg:AllBare s'.gens)
  (hch:∀ b∈ch,(b∈X.ex\/X.s₀.heap.objs.size<=b)/\b≠X.env.locals/\(∀ x c,X.env.cells.lookup x=some c->c≠b)/\∀ p∈X.pn++pins,p.1≠b):Inv X pins σ H' s':=by
 obtain ⟨h',g',d',t',o'⟩:=s'
 have e:o'=s.os:=ho
 subst e
 exact I.call (g':=g') (t':=t') (d':=d') u hok hg hch
end

noncomputable abbrev XK:=Value->Option Addr->Hp->Prop
noncomputable abbrev St:=List (Option V)
noncomputable abbrev VK:=V->Hp->Prop
noncomputable abbrev TE:=St->Hp->VK->Prop
noncomputable abbrev TT:=St->Hp->(Bool->Hp->Prop)->Prop
noncomputable abbrev TA:=St->Hp->(List V->Hp->Prop)->Prop
structure Ends where
 nx:St->Hp->Prop
 rt:VK
 bk:St->Hp->Prop:=fun _ _=>False
 ct:St->Hp->Prop:=fun _ _=>False
noncomputable abbrev TS:=Ends->St->Hp->Prop

noncomputable def EP (X:Cx)(pins:List (Addr×Obj))(σ:St)(Q:VK)(u:Value)(s':Shared):Prop:=∃ v H',Inv X pins σ H' s'/\RelV v u/\Q v H'
noncomputable def TP (X:Cx)(pins:List (Addr×Obj))(σ:St)(Q:Bool->Hp->Prop)(b:Bool)(s':Shared):Prop:=∃ H',Inv X pins σ H' s'/\Q b H'
noncomputable def AP (X:Cx)(pins:List (Addr×Obj))(σ:St)(Q:List V->Hp->Prop)(us:List Value)(s':Shared):Prop:=∃ vs H',Inv X pins σ H' s'/\Vals vs us/\Q vs H'
noncomputable def SP (X:Cx)(pins:List (Addr×Obj))(D:Ends)(f:Flow)(s':Shared):Prop:=
 match f with
 | .next=>∃ σ' H',Inv X pins σ' H' s'/\D.nx σ' H'
 | .brk=>∃ σ' H',Inv X pins σ' H' s'/\D.bk σ' H'
 | .cont=>∃ σ' H',Inv X pins σ' H' s'/\D.ct σ' H'
 | .ret u=>∃ v σ' H',Inv X pins σ' H' s'/\RelV v u/\D.rt v H'

noncomputable def PE (X:Cx)(e:Expr)(t:TE):Prop:=
 ∀ (pins:List (Addr×Obj)) (s:Shared) (σ:St) (H:Hp) (Q:VK),Inv X pins σ H s->t σ H Q->wpAny (model X.prog X.w) X.A (eval e X.env) (EP X pins σ Q) X.xe s
noncomputable def PT (X:Cx)(e:Expr)(t:TT):Prop:=
 ∀ (pins:List (Addr×Obj)) (s:Shared) (σ:St) (H:Hp) (Q:Bool->Hp->Prop),Inv X pins σ H s->t σ H Q->wpAny (model X.prog X.w) X.A (isTrue e X.env (eval e X.env)) (TP X pins σ Q) X.xe s
noncomputable def PW (X:Cx)(e:Expr)(t:TT):Prop:=
 ∀ (whole:Sem Value) (pins:List (Addr×Obj)) (s:Shared) (σ:St) (H:Hp) (Q:Bool->Hp->Prop),Inv X pins σ H s->t σ H Q->wpAny (model X.prog X.w) X.A (isTrue e X.env whole) (TP X pins σ Q) X.xe s
theorem PW.pt {X:Cx}{e:Expr}{t:TT}(h:PW X e t):PT X e t:=h _
noncomputable def PA (X:Cx)(es:List Expr)(t:TA):Prop:=
 ∀ (pos:Pos) (pins:List (Addr×Obj)) (s:Shared) (σ:St) (H:Hp) (Q:List V->Hp->Prop),Inv X pins σ H s->t σ H Q->wpAny (model X.prog X.w) X.A (spliced (backTo pos (YaM es X.env))) (AP X pins σ Q) X.xe s
noncomputable def PS (X:Cx)(st:Stmt)(t:TS):Prop:=
 ∀ (pins:List (Addr×Obj)) (s:Shared) (σ:St) (H:Hp) (D:Ends),Inv X pins σ H s->t D σ H->wpAny (model X.prog X.w) X.A (exec st X.env) (SP X pins D) X.xe s
noncomputable def PSs (X:Cx)(st:List Stmt)(t:TS):Prop:=
 ∀ (pins:List (Addr×Obj)) (s:Shared) (σ:St) (H:Hp) (D:Ends),Inv X pins σ H s->t D σ H->wpAny (model X.prog X.w) X.A (execs st X.env) (SP X pins D) X.xe s
theorem thn {α:Type}{t:Sem α}{Q Q':α->Shared->Prop}{M:Model}{A:Around}{E:Value->Shared->Prop}{s:Shared}(h:wpAny M A t Q E s)(hQ:∀ a s,Q a s->Q' a s):wpAny M A t Q' E s:=Ybc h hQ fun _ _ x=>x
section
variable {X:Cx}

noncomputable def tVar (i:Nat):TE:=fun σ H Q=>∃ v,σ[i]?=some (some v)/\Q v H
noncomputable def tC (v:V):TE:=fun _ H Q=>Q v H
theorem jbJ {i:Nat}{x:Str}{pos:Pos}(hN:X.N[i]?=some x)(hv:Vis X.env.scope x)(hd:(x == ("__debug__" : Str))=false:=by decide)(hcd:(x == ("__classdict__" : Str))=false:=by decide):PE X (.Name x pos) (tVar i):=by
 intro pins s σ H Q I h
 obtain ⟨v,e,h⟩:=h
 obtain ⟨m,hn,hl⟩:=I.loc
 obtain ⟨u,r,l⟩:=hl i x v hN e hv
 have fin:EP X pins σ Q u s:=⟨v,H,I,r,h⟩
 rcases l with ⟨hk,hm⟩ | ⟨hk,c,hc,hcell⟩
 ·exact wpAny_Name (wpAny_loadName_local I.ok.kind hk hn hm fin) hd
 ·rcases hk with hk | hk
  ·exact wpAny_Name (wpAny_loadName_cell I.ok.kind hk hc hcell fin) hd
  ·exact wpAny_Name (wpAny_loadName_free I.ok.kind hk hc hcell fin hcd) hd
theorem jlu {i j pos}:PE X (.Constant (.int i) j pos) (tC (.int i)):=fun _ _ _ H _ I h=>wpAny_Constant_int ⟨.int i,H,I.tok _,⟨_,rfl⟩,h⟩
theorem jlv {b j pos}:PE X (.Constant (.bool b) j pos) (tC (.bl b)):=fun _ _ _ H _ I h=>Constant_bool ⟨.bl b,H,I,rfl,h⟩
theorem jls {j pos}:PE X (.Constant .none j pos) (tC .non):=fun _ _ _ H _ I h=>Constant_none ⟨.non,H,I,rfl,h⟩
theorem jiC {x j pos}:PE X (.Constant (.str x) j pos) (tC (.str x)):=fun _ _ _ H _ I h=>Calls.Constant_str ⟨.str x,H,I.tok _,⟨_,rfl⟩,h⟩

noncomputable def Gl (X:Cx)(x:Str):Prop:=X.env.kindOf x=some .globalImplicit
theorem jb3 {E:Value->Shared->Prop}{pins:List (Addr×Obj)}{s:Shared}{σ:St}{H:Hp}{x:Str}{u:Value}{pos:Pos}{Q:Value->Shared->Prop}(I:Inv X pins σ H s)(hg:Gl X x)(hm:X.mg x=some u)(h:Q u s)
  (hd:(x == ("__debug__" : Str))=false:=by decide):wpAny (model X.prog X.w) X.A (eval (.Name x pos) X.env) Q E s:=
 YeF I.ok.kind hg (Calls.loadGlobal_global (by rw [I.ok.glob]; exact I.mod.glob.keeps I.bk) hm h) hd
theorem jc9 {E:Value->Shared->Prop}{pins:List (Addr×Obj)}{s:Shared}{σ:St}{H:Hp}{x:Str}{u:Value}{pos:Pos}{Q:Value->Shared->Prop}(I:Inv X pins σ H s)(hg:Gl X x)(hm:X.mg x=none)(hv:YcR x=some u)(h:Q u s)
  (hn:x ≠ "__name__" := by decide) (hd:(x == ("__debug__" : Str))=false:=by decide):wpAny (model X.prog X.w) X.A (eval (.Name x pos) X.env) Q E s:=by
 obtain ⟨mb,h1,h2⟩:=I.mod.blt
 exact YeF I.ok.kind hg (Calls.loadGlobal_builtin (by rw [I.ok.glob]; exact I.mod.glob.keeps I.bk) hm (by rw [I.ok.blt]; exact h1.keeps I.bk) ((h2 x hn).trans hv) h) hd
theorem jjO {x:Str}{v:V}{u:Value}{pos:Pos}(hg:Gl X x)(hm:X.mg x=some u)(r:RelV v u)(hd:(x == ("__debug__" : Str))=false:=by decide):PE X (.Name x pos) (tC v):=
 fun _ _ _ H _ I h=>jb3 I hg hm ⟨v,H,I,r,h⟩ hd
theorem jjR {x:Str}{v:V}{u:Value}{pos:Pos}(hg:Gl X x)(hm:X.mg x=none)(hv:YcR x=some u)(r:RelV v u)(hn:x ≠ "__name__" := by decide)(hd:(x == ("__debug__" : Str))=false:=by decide):PE X (.Name x pos) (tC v):=
 fun _ _ _ H _ I h=>jc9 I hg hm hv ⟨v,H,I,r,h⟩ hn hd

variable {a b:Expr}{ta tb:TE}{pos:Pos}
noncomputable def tB (t:TE):TT:=fun σ H Q=>t σ H fun x H1=>∃ c,x=.bl c/\Q c H1
theorem jlg {e:Expr}{t:TE}(h:PE X e t)(he:∀ whole,isTrue e X.env whole=(do let v <- whole; standAt e.pos; holding [v] (truthy v)):=by intro _; rfl):PT X e (tB t):=by
 intro pins s σ H Q I hw
 refine isTrue_plain (thn (h pins s σ H _ I hw) fun v s1 ⟨x,H1,I1,r1,q1⟩=>?_) (he _)
 obtain ⟨d,rfl,q⟩:=q1
 cases r1
 exact YbU ⟨H1,I1,q⟩

variable {tA tB':TT}{rest:List Expr}
noncomputable def tAnd (t u:TT):TT:=fun σ H Q=>t σ H fun c H1=>if c=true then u σ H1 Q else Q false H1
noncomputable def tOr (t u:TT):TT:=fun σ H Q=>t σ H fun c H1=>if c=true then Q true H1 else u σ H1 Q
noncomputable def tNot (t:TT):TT:=fun σ H Q=>t σ H fun c H1=>Q (!c) H1
theorem pw_and1 (ha:PT X a tA):PW X (.BoolOp .And [a] pos) tA:=by
 intro wh pins s σ H Q I h
 refine isTrue_and (thn (ha pins s σ H Q I h) fun c s1 e=>?_)
 cases c with
 | true=>exact isTrue_and_nil e
 | false=>exact e
theorem pw_or1 (ha:PT X a tA):PW X (.BoolOp .Or [a] pos) tA:=by
 intro wh pins s σ H Q I h
 refine isTrue_or (thn (ha pins s σ H Q I h) fun c s1 e=>?_)
 cases c with
 | false=>exact isTrue_or_nil e
 | true=>exact e
theorem pw_and (ha:PT X a tA)(hb:PW X (.BoolOp .And (b::rest) pos) tB'):PW X (.BoolOp .And (a::b::rest) pos) (tAnd tA tB'):=by
 intro wh pins s σ H Q I h
 refine isTrue_and (thn (ha pins s σ H _ I h) fun c s1 ⟨H1,I1,q1⟩=>?_)
 cases c with
 | true=>exact hb wh pins s1 σ H1 Q I1 q1
 | false=>exact ⟨H1,I1,q1⟩
theorem pw_or (ha:PT X a tA)(hb:PW X (.BoolOp .Or (b::rest) pos) tB'):PW X (.BoolOp .Or (a::b::rest) pos) (tOr tA tB'):=by
 intro wh pins s σ H Q I h
 refine isTrue_or (thn (ha pins s σ H _ I h) fun c s1 ⟨H1,I1,q1⟩=>?_)
 cases c with
 | true=>exact ⟨H1,I1,q1⟩
 | false=>exact hb wh pins s1 σ H1 Q I1 q1
theorem jiz (ha:PT X a tA):PT X (.UnaryOp .Not a pos) (tNot tA):=by
 intro pins s σ H Q I h
 exact isTrue_not (ha pins s σ H (fun c H1=>Q (!c) H1) I h)
noncomputable def jns (ta tb:TE):TE:=fun σ H Q=>ta σ H fun x H1=>∃ c,x=.bl c/\if c=true then tb σ H1 Q else Q (.bl false) H1
noncomputable def tOrV (ta tb:TE):TE:=fun σ H Q=>ta σ H fun x H1=>∃ c,x=.bl c/\if c=true then Q (.bl true) H1 else tb σ H1 Q
noncomputable def jnm (ta:TE):TE:=fun σ H Q=>ta σ H fun x H1=>∃ c,x=.bl c/\Q (.bl (!c)) H1
theorem jfn {op}{t:TE}(h:PE X a t):PE X (.BoolOp op [a] pos) t:=fun pins s σ H Q I hw=>BoolOp_one (h pins s σ H Q I hw)
theorem jlw (ha:PE X a ta)(hb:PE X (.BoolOp .And (b::rest) pos) tb):PE X (.BoolOp .And (a::b::rest) pos) (jns ta tb):=by
 intro pins s σ H Q I h
 refine BoolOp_and (thn (ha pins s σ H _ I h) fun v s1 ⟨x,H1,I1,r1,q1⟩=>?_)
 obtain ⟨c,rfl,q1⟩:=q1
 cases r1
 refine YbU ?_
 cases c with
 | true=>exact hb pins s1 σ H1 Q I1 q1
 | false=>exact ⟨.bl false,H1,I1,rfl,q1⟩
theorem jnG (ha:PE X a ta)(hb:PE X (.BoolOp .Or (b::rest) pos) tb):PE X (.BoolOp .Or (a::b::rest) pos) (tOrV ta tb):=by
 intro pins s σ H Q I h
 refine BoolOp_or (thn (ha pins s σ H _ I h) fun v s1 ⟨x,H1,I1,r1,q1⟩=>?_)
 obtain ⟨c,rfl,q1⟩:=q1
 cases r1
 refine YbU ?_
 cases c with
 | false=>exact hb pins s1 σ H1 Q I1 q1
 | true=>exact ⟨.bl true,H1,I1,rfl,q1⟩
theorem jlr (ha:PE X a ta):PE X (.UnaryOp .Not a pos) (jnm ta):=by
 intro pins s σ H Q I h
 refine UnaryOp_ (thn (ha pins s σ H _ I h) fun v s1 ⟨x,H1,I1,r1,q1⟩=>?_)
 obtain ⟨c,rfl,q1⟩:=q1
 cases r1
 exact not_of (YbU ⟨.bl (!c),H1,I1,rfl,q1⟩)
noncomputable def tIf (t:TT)(ta tb:TE):TE:=fun σ H Q=>t σ H fun c H1=>if c=true then ta σ H1 Q else tb σ H1 Q
theorem jhS {c:Expr}(hc:PT X c tA)(ha:PE X a ta)(hb:PE X b tb):PE X (.IfExp c a b pos) (tIf tA ta tb):=by
 intro pins s σ H Q I h
 refine wpAny_IfExp (thn (hc pins s σ H _ I h) fun d s1 ⟨H1,I1,q1⟩=>?_)
 cases d with
 | true=>exact ha pins s1 σ H1 Q I1 q1
 | false=>exact hb pins s1 σ H1 Q I1 q1
end

noncomputable def SqL (K:Yac)(H:Hp)(a:Addr)(xs:List V):Prop:=
 Rd H a (.lst xs)\/
  ∃ (o:Obj) (its:Array Value) (n:Nat),K.lookup a=some o/\o.cls=.type "list" /\ o.dict=none/\o.data=.seq its n/\its.size<=Yan/\Vals xs its.toList
noncomputable def SqT (K:Yac)(H:Hp)(a:Addr)(xs:List V):Prop:=
 Rd H a (.tup xs)\/
  ∃ (o:Obj) (its:Array Value) (n:Nat),K.lookup a=some o/\o.cls=.type "tuple" /\ o.data=.seq its n/\its.size<=Yan/\Vals xs its.toList
noncomputable def absV:Value->Option V
 | .none=>some .non
 | .bool b=>some (.bl b)
 | .int i _=>some (.int i)
 | .str x _=>some (.str x)
 | .bytes b _=>some (.byt b)
 | .float b _=>some (.flt b)
 | .ref a=>some (.ref a)
 | .type n=>some (.ty n)
 | _=>none
theorem RelV.abs {x:V}{u:Value}(r:RelV x u):absV u=some x:=by
 cases x with
 | non=>cases r; rfl
 | bl _=>cases r; rfl
 | int _=>obtain ⟨t,rfl⟩:=r; rfl
 | str _=>obtain ⟨t,rfl⟩:=r; rfl
 | byt _=>obtain ⟨t,rfl⟩:=r; rfl
 | flt _=>obtain ⟨t,rfl⟩:=r; rfl
 | ref _=>cases r; rfl
 | ty _=>cases r; rfl
theorem RelV.inj {x y:V}{u:Value}(r:RelV x u)(q:RelV y u):x=y:=YaU (r.abs.symm.trans q.abs)
theorem Vals.inj:∀ {xs ys:List V} {us:List Value},Vals xs us->Vals ys us->xs=ys
 | _,_,_,.nil,.nil=>rfl
 | _,_,_,.cons r t,.cons r' t'=>by rw [r.inj r',Vals.inj t t']
section
variable {X:Cx}{pins:List (Addr×Obj)}{σ:St}{H:Hp}{s:Shared}{a:Addr}{xs ys:List V}
theorem SqL.of {K:Yac}(h:H a=some (.lst xs)):SqL K H a xs:=.inl (.inl h)
theorem SqT.of {K:Yac}(h:H a=some (.tup xs)):SqT K H a xs:=.inl (.inl h)
theorem Inv.list (I:Inv X pins σ H s)(h:SqL X.K H a xs):∃ its:List Value,Vals xs its/\PlainL s.heap a its.toArray/\xs.length<=Yan:=by
 rcases h with h | ⟨o,its,n,hk,hc,hd,hs,hz,r⟩
 ·obtain ⟨z,its,n,r,e⟩:=h.ok I.hok
  exact ⟨its,r,⟨_,n,e,rfl,rfl,rfl⟩,z⟩
 ·refine ⟨its.toList,r,⟨o,n,I.kIn a o hk,hc,hd,by simpa using hs⟩,?_⟩
  have e:=r.length
  simp only [YaQ] at e
  omega
theorem Inv.tuple (I:Inv X pins σ H s)(h:SqT X.K H a xs):∃ its:List Value,Vals xs its/\IsTup s.heap a its.toArray/\xs.length<=Yan:=by
 rcases h with h | ⟨o,its,n,hk,hc,hs,hz,r⟩
 ·obtain ⟨z,its,r,p⟩:=h.ok I.hok
  exact ⟨its,r,p.tup,z⟩
 ·refine ⟨its.toList,r,⟨o,I.kIn a o hk,hc,n,by simpa using hs⟩,?_⟩
  have e:=r.length
  simp only [YaQ] at e
  omega
theorem Inv.list_inj (I:Inv X pins σ H s)(h:SqL X.K H a xs)(h':SqL X.K H a ys):xs=ys:=by
 obtain ⟨its,r,⟨o,n,e,_,_,d⟩,_⟩:=I.list h
 obtain ⟨its',r',⟨o',n',e',_,_,d'⟩,_⟩:=I.list h'
 rw [e] at e'; cases e'
 rw [d] at d'
 injection d' with d1 _
 have:its=its':=by simpa using congrArg Array.toList d1
 subst this
 exact r.inj r'
theorem Inv.tuple_inj (I:Inv X pins σ H s)(h:SqT X.K H a xs)(h':SqT X.K H a ys):xs=ys:=by
 obtain ⟨its,r,⟨o,e,_,n,d⟩,_⟩:=I.tuple h
 obtain ⟨its',r',⟨o',e',_,n',d'⟩,_⟩:=I.tuple h'
 rw [e] at e'; cases e'
 rw [d] at d'
 injection d' with d1 _
 have:its=its':=by simpa using congrArg Array.toList d1
 subst this
 exact r.inj r'
end

noncomputable abbrev Cx.wish (X:Cx)(E:Value->Shared->Prop):Cx:={ X with xe:=E }
noncomputable abbrev Cx.nox (X:Cx):Cx:=X.wish fun _ _=>False
theorem Cx.Ok.wish {X:Cx}(ok:X.Ok)(E:Value->Shared->Prop):(X.wish E).Ok:=
 ⟨ok.mod,ok.kind,ok.glob,ok.blt,ok.above,ok.inj,ok.has,ok.cab,ok.hd,ok.frames,ok.stk,ok.exf,ok.bs,ok.bsz,ok.noex,ok.exfs,ok.funs,ok.frf⟩
theorem Cx.Ok.unwish {X:Cx}{E:Value->Shared->Prop}(ok:(X.wish E).Ok):X.Ok:=
 ⟨ok.mod,ok.kind,ok.glob,ok.blt,ok.above,ok.inj,ok.has,ok.cab,ok.hd,ok.frames,ok.stk,ok.exf,ok.bs,ok.bsz,ok.noex,ok.exfs,ok.funs,ok.frf⟩
section
variable {X:Cx}{pins:List (Addr×Obj)}{σ:St}{H:Hp}{s:Shared}{E:Value->Shared->Prop}
theorem Inv.wish (I:Inv X pins σ H s)(E:Value->Shared->Prop):Inv (X.wish E) pins σ H s:=⟨I.ok.wish E,I.os,I.bare,I.base,I.loc,I.cell,I.free,I.freeC,I.pin,I.hok,I.len⟩
theorem Inv.unwish (I:Inv (X.wish E) pins σ H s):Inv X pins σ H s:=⟨I.ok.unwish,I.os,I.bare,I.base,I.loc,I.cell,I.free,I.freeC,I.pin,I.hok,I.len⟩
theorem SP.unwish {D:Ends}{f:Flow}{s':Shared}(h:SP (X.wish E) pins D f s'):SP X pins D f s':=by
 cases f with
 | next=>obtain ⟨σ',H',I,q⟩:=h; exact ⟨σ',H',I.unwish,q⟩
 | brk=>obtain ⟨σ',H',I,q⟩:=h; exact ⟨σ',H',I.unwish,q⟩
 | cont=>obtain ⟨σ',H',I,q⟩:=h; exact ⟨σ',H',I.unwish,q⟩
 | ret u=>obtain ⟨v,σ',H',I,r,q⟩:=h; exact ⟨v,σ',H',I.unwish,r,q⟩
end

section
variable {X:Cx}{st:Stmt}{rest:List Stmt}{t u:TS}{e:Expr}{te:TE}{pos:Pos}
noncomputable def jno:TS:=fun D σ H=>D.nx σ H
noncomputable def tSeq (t u:TS):TS:=fun D σ H=>t { D with nx:=u D } σ H
theorem jeE:PSs X [] jno:=fun _ _ σ H _ I h=>Yd1 ⟨σ,H,I,h⟩
theorem jds (h1:PS X st t)(h2:PSs X rest u):PSs X (st::rest) (tSeq t u):=by
 intro pins s σ H D I h
 refine Ydl (thn (h1 pins s σ H { D with nx:=u D } I h) fun f s1 q=>?_)
 cases f with
 | next=>
  obtain ⟨σ',H',I',q⟩:=q
  exact h2 pins s1 σ' H' D I' q
 | ret v=>exact q
 | brk=>exact q
 | cont=>exact q
theorem jjA (h1:PS X st t):PSs X [st] t:=by
 intro pins s σ H D I h
 refine Ydl (thn (h1 pins s σ H D I h) fun f s1 q=>?_)
 cases f with
 | next=>exact Yd1 q
 | ret v=>exact q
 | brk=>exact q
 | cont=>exact q
theorem Inv.quiet {pins:List (Addr×Obj)}{σ:St}{H:Hp}{s:Shared}(I:Inv X pins σ H s):interactive X.env=false:=by simp [interactive,I.ok.kind]
noncomputable def jnp (te:TE):TS:=fun D σ H=>te σ H fun _ H1=>D.nx σ H1
theorem jjD (he:PE X e te)(hs:YcI e none pos.line X.env=pure false:=by rfl):PS X (.Expr e pos) (jnp te):=by
 intro pins s σ H D I h
 exact wpAny_Expr_any (thn (he pins s σ H _ I h) fun v s1 ⟨x,H1,I1,r1,q1⟩=>⟨σ,H1,I1,q1⟩) I.quiet hs
noncomputable def tRet (te:TE):TS:=fun D σ H=>te σ H D.rt
theorem jlh (he:PE X e te):PS X (.Return (some e) pos) (tRet te):=by
 intro pins s σ H D I h
 exact wpAny_Return_some (thn (he pins s σ H _ I h) fun v s1 ⟨x,H1,I1,r1,q1⟩=>⟨x,σ,H1,I1,r1,q1⟩)
noncomputable def tIfS (c:TT)(t u:TS):TS:=fun D σ H=>c σ H fun b H1=>if b=true then t D σ H1 else u D σ H1
theorem jlj {c:Expr}{a b:List Stmt}{tc:TT}(hc:PT X c tc)(ha:PSs X a t)(hb:PSs X b u):PS X (.If c a b pos) (tIfS tc t u):=by
 intro pins s σ H D I h
 refine wpAny_If (thn (hc pins s σ H _ I h) fun d s1 ⟨H1,I1,q1⟩=>?_)
 cases d with
 | true=>exact ha pins s1 σ H1 D I1 q1
 | false=>exact hb pins s1 σ H1 D I1 q1
end

noncomputable abbrev TG:=V->St->Hp->(St->Hp->Prop)->Prop
noncomputable abbrev TGs:=List V->St->Hp->(St->Hp->Prop)->Prop
noncomputable def PG (X:Cx)(target:Expr)(t:TG):Prop:=
 ∀ (pins:List (Addr×Obj)) (s:Shared) (σ:St) (H:Hp) (v:V) (u:Value) (Q:St->Hp->Prop),Inv X pins σ H s->RelV v u->t v σ H Q->
  wpAny (model X.prog X.w) X.A (assign target X.env u) (fun _ s'=>∃ σ' H',Inv X pins σ' H' s'/\Q σ' H') X.xe s
noncomputable def PGs (X:Cx)(ts:List Expr)(t:TGs):Prop:=
 ∀ (pins:List (Addr×Obj)) (s:Shared) (σ:St) (H:Hp) (vs:List V) (us:List Value) (Q:St->Hp->Prop),Inv X pins σ H s->Vals vs us->t vs σ H Q->
  wpAny (model X.prog X.w) X.A (assignInOrder ((YbH ts X.env).map (·.2)) us) (fun _ s'=>∃ σ' H',Inv X pins σ' H' s'/\Q σ' H') X.xe s
noncomputable abbrev TSet:=V->V->V->Hp->(Hp->Prop)->Prop
noncomputable def PSet (X:Cx)(t:TSet):Prop:=
 ∀ (pins:List (Addr×Obj)) (s:Shared) (σ:St) (H:Hp) (o i v:V) (ov iv u:Value) (Q:Hp->Prop),Inv X pins σ H s->RelV o ov->RelV i iv->RelV v u->t o i v H Q->
  wpAny (model X.prog X.w) X.A (setItem ov iv u) (fun _ s'=>∃ H',Inv X pins σ H' s'/\Q H') X.xe s
noncomputable abbrev TIp:=V->V->Hp->VK->Prop
noncomputable def PIp (X:Cx)(op:Ycs)(t:TIp):Prop:=
 ∀ (pins:List (Addr×Obj)) (s:Shared) (σ:St) (H:Hp) (x y:V) (v u:Value) (Q:VK),Inv X pins σ H s->RelV x v->RelV y u->t x y H Q->
  wpAny (model X.prog X.w) X.A (Yev op v u) (EP X pins σ Q) X.xe s
section
variable {X:Cx}{pos:Pos}
noncomputable def jg3 (i:Nat):TG:=fun v σ H Q=>Q (σ.set i (some v)) H
theorem jeH {i:Nat}{x:Str}(hN:X.N.Nodup)(hi:X.N[i]?=some x)(hx:Loc X.env.scope x)(hf:X.fn x=true\/X.env.scope.names.lookup x=some .local:=by first | exact .inl rfl | exact .inr rfl | assumption):PG X (.Name x pos) (jg3 i):=by
 intro pins s σ H v u Q I r h
 exact wpAny_assign_Name (jdo I hN hi hx r (fun s' I'=>⟨_,H,I',h⟩) hf)
noncomputable def gNil:TGs:=fun vs σ H Q=>vs=[]/\Q σ H
noncomputable def jn4 (t:TG)(u:TGs):TGs:=fun vs σ H Q=>∃ v r,vs=v::r/\t v σ H fun σ' H'=>u r σ' H' Q
theorem jjL:PGs X [] gNil:=by
 intro pins s σ H vs us Q I r h
 obtain ⟨e,h⟩:=h
 subst e
 cases r
 exact assignInOrder_nil ⟨σ,H,I,h⟩
theorem jhQ {e:Expr}{es:List Expr}{t:TG}{u:TGs}(h1:PG X e t)(h2:PGs X es u)
  (hs:(YbH (e::es) X.env).map (·.2)=assign e X.env::(YbH es X.env).map (·.2):=by rfl):PGs X (e::es) (jn4 t u):=by
 intro pins s σ H vs us Q I r h
 obtain ⟨v,vr,e1,h⟩:=h
 subst e1
 cases r with
 | cons r rr=>
  rw [hs]
  refine assignInOrder_cons (thn (h1 pins s σ H _ _ _ I r h) fun _ s1 ⟨σ1,H1,I1,q1⟩=>?_)
  exact h2 pins s1 σ1 H1 _ _ Q I1 rr q1
noncomputable def gTup (K:Yac)(n:Nat)(t:TGs):TG:=fun v σ H Q=>∃ a xs,v=.ref a/\SqT K H a xs/\xs.length=n/\t xs σ H Q
theorem jlo {es:List Expr}{k:Nat}{t:TGs}{n:Nat}(hc:X.calm=true)(h:PGs X es t)
  (hn:(YbH es X.env).length=n:=by rfl) (hst:(YbH es X.env).findIdx? (·.1)=none:=by rfl):PG X (.Tuple es k pos) (gTup X.K n t):=by
 intro pins s σ H v u Q I r hw
 obtain ⟨a,xs,e1,hq,hl,hw⟩:=hw
 subst e1
 cases r
 obtain ⟨its,rv,ht,hz⟩:=I.tuple hq
 refine assign_Tuple_tuple (I.ok.hd hc) ht (by simp [hn,<- hl,rv.length]) hst fun h' hx=>?_
 have I1:Inv X pins σ H { s with heap:=h' }:=I.kept (t':=s.toks) fun b o e=>hx b o (Ya8 (Yav e)) e
 exact h pins _ σ H xs _ Q I1 (by simpa using rv) hw
noncomputable def gSub (to ti:TE)(t:TSet):TG:=fun v σ H Q=>to σ H fun o H1=>ti σ H1 fun i H2=>t o i v H2 fun H3=>Q σ H3
theorem jlp {o i:Expr}{to ti:TE}{t:TSet}(ho:PE X o to)(hi:PE X i ti)(hs:PSet X t)
  (ha:∀ v,assign (.Subscript o i pos) X.env v=(do
   let ov <- holding [v] (eval o X.env)
   let iv <- holding [v,ov] (eval i X.env)
   standAt pos
   holding [v,ov,iv] (setItem ov iv v)
   release [v,ov,iv] []):=by intro _; rfl):PG X (.Subscript o i pos) (gSub to ti t):=by
 intro pins s σ H v u Q I r h
 rw [ha]
 refine Yab (Yb5 (thn (ho pins s σ H _ I h) fun ov s1 ⟨x,H1,I1,r1,q1⟩=>?_))
 refine Yab (Yb5 (thn (hi pins s1 σ H1 _ I1 q1) fun iv s2 ⟨y,H2,I2,r2,q2⟩=>?_))
 refine Yab (YcV (Yab (Yb5 (thn (hs pins s2 σ H2 x y v ov iv u _ I2 r1 r2 r q2) fun _ s3 ⟨H3,I3,q3⟩=>?_))))
 exact wpAny_release ⟨σ,H3,I3,q3⟩
noncomputable def tAsg (te:TE)(g:TG):TS:=fun D σ H=>te σ H fun x H1=>g x σ H1 D.nx
theorem jgx {tg e:Expr}{te:TE}{g:TG}(he:PE X e te)(hg:PG X tg g)(hs:Ycy [tg] e pos.line X.env=pure false:=by rfl)(hw:Yci [tg] e X.env=pure none:=by rfl)
  (h1:(YbH [tg] X.env).map (·.2)=[assign tg X.env]:=by rfl):PS X (.Assign [tg] e pos) (tAsg te g):=by
 intro pins s σ H D I h
 refine wpAny_Assign_stores (thn (he pins s σ H _ I h) fun v s1 ⟨x,H1,I1,r1,q1⟩=>?_) hs hw
 rw [h1]
 exact thn (hg pins s1 σ H1 x v _ I1 r1 q1) fun _ s2 q=>q
noncomputable def tAug (i:Nat)(te:TE)(ti:TIp):TS:=fun D σ H=>∃ x,σ[i]?=some (some x)/\te σ H fun y H1=>ti x y H1 fun z H2=>D.nx (σ.set i (some z)) H2
theorem jll {i:Nat}{x:Str}{e:Expr}{te:TE}{op:Ycs}{ti:TIp}{pos':Pos}(hN:X.N.Nodup)(hi:X.N[i]?=some x)(hx:Loc X.env.scope x)(he:PE X e te)(ho:PIp X op ti)(hf:X.fn x=true\/X.env.scope.names.lookup x=some .local:=by first | exact .inl rfl | exact .inr rfl | assumption) :
  PS X (.AugAssign (.Name x pos') op e pos) (tAug i te ti):=by
 intro pins s σ H D I h
 obtain ⟨v,e1,h⟩:=h
 obtain ⟨m,hn,hl⟩:=I.loc
 have vis:Vis X.env.scope x:=by rcases hx with k | k; exact .inl k; exact .inr (.inl k)
 obtain ⟨u,r,l⟩:=hl i x v hi e1 vis
 refine wpAny_AugAssign_Name ?_
 have go:wpAny (model X.prog X.w) X.A (eval e X.env) (fun w s₂=>wpAny (model X.prog X.w) X.A (Yev op u w) (fun r s₃=>wpAny (model X.prog X.w) X.A (storeName X.env x r) (fun _=>SP X pins D .next) X.xe s₃) X.xe s₂) X.xe s:=by
  refine thn (he pins s σ H _ I h) fun w s1 ⟨y,H1,I1,r1,q1⟩=>?_
  refine thn (ho pins s1 σ H1 v y u w _ I1 r r1 q1) fun z s2 ⟨zv,H2,I2,r2,q2⟩=>?_
  exact jdo I2 hN hi hx r2 (fun s3 I3=>⟨_,H2,I3,q2⟩) hf
 rcases l with ⟨hk,hm⟩ | ⟨hk,c,hc,hcell⟩
 ·exact wpAny_loadName_local I.ok.kind hk hn hm go
 ·rcases hk with hk | hk
  ·exact wpAny_loadName_cell I.ok.kind hk hc hcell go
  ·rcases hx with k | k
   ·have:X.env.scope.names.lookup x=some .free:=hk
    rw [k] at this; cases this
   ·have:X.env.scope.names.lookup x=some .free:=hk
    rw [k] at this; cases this
noncomputable def PGet (X:Cx)(t:V->V->Hp->VK->Prop):Prop:=
 ∀ (pins:List (Addr×Obj)) (s:Shared) (σ:St) (H:Hp) (o i:V) (ov iv:Value) (Q:VK),Inv X pins σ H s->RelV o ov->RelV i iv->t o i H Q->
  wpAny (model X.prog X.w) X.A (getItem ov iv) (EP X pins σ Q) X.xe s
end

section
variable {X:Cx}{pos:Pos}
end

structure It where
 go:Nat->Hp->Prop
 yld:Nat->Hp->V->Hp->Prop
 stop:Nat->Hp->Prop
noncomputable def FpOk (X:Cx)(pins:List (Addr×Obj))(H:Hp)(b:Addr):Prop:=
 H b=none/\b≠X.env.locals/\b∉X.fs/\(b∈X.ex\/X.s₀.heap.objs.size<=b)/\(∀ x c,X.env.cells.lookup x=some c->c≠b)/\∀ p∈X.pn++pins,p.1≠b
theorem Inv.fpOk {X:Cx}{pins:List (Addr×Obj)}{σ:St}{H H':Hp}{s:Shared}{b:Addr}(I:Inv X pins σ H s)(hb:s.heap.objs.size<=b)(hn:H' b=none):FpOk X pins H' b:=by
 refine ⟨hn,Nat.ne_of_gt (YaF I.lt hb),I.nofs hb,.inr (Yaw I.sz hb),fun x c e z=>?_,fun p hp z=>?_⟩
 ·obtain ⟨v,q⟩:=I.cell x c e
  exact absurd (YaF q.lt (by rw [z]; exact hb)) (YbB _)
 ·exact absurd (YaF (Yav (I.pin p hp).1) (by rw [z]; exact hb)) (YbB _)
structure Turn (P:Program)(w:World)(K:Yac)(tg:Expr)(J:It)(fp:List Addr)(it:Addr)(tn:Nat->Heap->Prop):Prop where
 mem:it∈fp
 obj:∀ i h,tn i h->∀ b∈fp,∃ o,h.get? b=some o/\∀ v,o.data≠.cell v
 keep:∀ i h h',tn i h->(∀ b∈fp,∀ o,h.get? b=some o->h'.get? b=some o)->tn i h'
 item:∀ (X:Cx),X.prog=P->X.w=w->X.K=K->X.calm=true->∀ (i:Nat) (pins:List (Addr×Obj)) (s:Shared) (σ:St) (H:Hp) (E:Value->Shared->Prop),Inv X pins σ H s->(∀ b∈fp,FpOk X pins H b)->tn i s.heap->J.go i H->
  wpAny (model P w) X.A (pyNext (.ref it)) (fun r s1=>∃ u,r=some u/\
   wpAny (model P w) X.A (Ydt tg (.ref it) u) (fun _ s2=>∃ x H',Inv X pins σ H' s2/\RelV x u/\J.yld i H x H'/\tn (i + 1) s2.heap/\∀ b∈fp,H' b=none) E s1) E s
 done:∀ (X:Cx),X.prog=P->X.w=w->X.K=K->X.calm=true->∀ (i:Nat) (pins:List (Addr×Obj)) (s:Shared) (σ:St) (H:Hp) (E:Value->Shared->Prop),Inv X pins σ H s->(∀ b∈fp,FpOk X pins H b)->tn i s.heap->J.stop i H->
  wpAny (model P w) X.A (pyNext (.ref it)) (fun r s1=>r=none/\Inv X pins σ H s1) E s
 self:∀ (A:Around) (i:Nat) (s:Shared) (Q:Value->Shared->Prop) (E:Value->Shared->Prop),tn i s.heap->Q (.ref it) s->wpAny (model P w) A (pyIter (.ref it)) Q E s
noncomputable abbrev TI:=St->Hp->(It->Hp->Prop)->Prop
noncomputable def PIE (X:Cx)(pins:List (Addr×Obj))(σ:St)(tg:Expr)(R:It->Hp->Prop)(itv:Value)(s2:Shared):Prop:=
 ∃ (it:Addr) (fp:List Addr) (tn:Nat->Heap->Prop) (J:It) (H':Hp),itv=.ref it/\Inv X pins σ H' s2/\Turn X.prog X.w X.K tg J fp it tn/\tn 0 s2.heap/\(∀ b∈fp,FpOk X pins H' b)/\R J H'
noncomputable def PI (X:Cx)(tg iter:Expr)(wi:TI):Prop:=
 ∀ (pins:List (Addr×Obj)) (s:Shared) (σ:St) (H:Hp) (R:It->Hp->Prop),Inv X pins σ H s->wi σ H R->
  wpAny (model X.prog X.w) X.A (eval iter X.env) (fun v s1=>wpAny (model X.prog X.w) X.A (pyIter v) (PIE X pins σ tg R) X.xe s1) X.xe s

theorem jh7 {M : Model}{A : Around}{E : Value -> Shared -> Prop}{s : Shared}{tg : Expr}{it : Addr}{u : Value}{o : Obj}{n : String}{vs : Array Value}{Q : Unit -> Shared -> Prop}(ho : s.heap.get? it = some o)(hc : o.cls = .type n)(hd : o.data = .fields vs)
    (hn : ["enumerate", "zip", "dict_itemiterator", "dict_reverseitemiterator", "odict_iterator", "itertools.zip_longest", "itertools.pairwise"].contains n = false) (hQ : Q () s) : wpAny M A (Ydt tg (.ref it) u) Q E s := by
  unfold Ydt
  cases tg <;> first
    | exact Yam hQ
    | (cases u <;> first
        | exact Yam hQ
        | (refine Yab (wpAny_load ho ?_)
           rw [hc, hd]
           show wpAny M A (if (["enumerate", "zip", "dict_itemiterator", "dict_reverseitemiterator", "odict_iterator", "itertools.zip_longest", "itertools.pairwise"].contains n && vs[0]? == some (rawInt _)) = true then _ else _) Q E s
           rw [if_neg (by intro h; rw [hn, Bool.false_and] at h; cases h)]
           exact Yam hQ))

noncomputable def Itl (K:Yac)(a:Addr):It:=
 ⟨fun i H=>∃ xs x,SqL K H a xs/\xs[i]?=some x,fun i H x H'=>H'=H/\∀ xs,SqL K H a xs->xs[i]?=some x,fun i H=>∃ xs,SqL K H a xs/\xs.length<=i⟩
noncomputable def Itt (K:Yac)(a:Addr):It:=
 ⟨fun i H=>∃ xs x,SqT K H a xs/\xs[i]?=some x,fun i H x H'=>H'=H/\∀ xs,SqT K H a xs->xs[i]?=some x,fun i H=>∃ xs,SqT K H a xs/\xs.length<=i⟩
noncomputable def Itr (lo:Int)(n:Nat):It:=⟨fun i _=>i < n,fun i H x H'=>H'=H/\x=.int (lo + i),fun i _=>n<=i⟩
theorem jgj {P:Program}{w:World}{K:Yac}{tg:Expr}(a it:Addr):Turn P w K tg (Itl K a) [it] it (fun i h=>h.IsListIter it a i) where
 mem:=by simp
 obj:=fun i h st b hb=>by
  have e:b=it:=by simpa using hb
  subst e
  obtain ⟨o,e,c,d⟩:=st
  exact ⟨o,e,fun v z=>by rw [d] at z; cases z⟩
 keep:=fun i h h' st k=>st.at fun o e=>k it (by simp) o e
 item:=by
  intro X hP hw hK hc i pins s σ H E I hf st hg
  subst hP hw hK
  obtain ⟨xs,x,hq,hx⟩:=hg
  obtain ⟨its,rv,p,hz⟩:=I.list hq
  obtain ⟨u,hu,ru⟩:=rv.get hx
  obtain ⟨f0,f1,f2,f3,f4,f5⟩:=hf it (by simp)
  refine wpAny_pyNext_list_item st p.isList (x:=u) (by simpa using hu) fun h' st' sb=>?_
  have I1:Inv X pins σ H { s with heap:=h' }:=I.turned (t':=s.toks) (fun b o hb e=>(sb.2 b hb).trans e) f0 f1 f3 f4 f5
  obtain ⟨o,e,c,d⟩:=id st'
  exact ⟨u,rfl,jh7 (s:={ s with heap:=h' }) e c d (by decide) ⟨x,H,I1,ru,⟨rfl,fun ys hy=>by rw [I.list_inj hy hq]; exact hx⟩,st',fun b hb=>(hf b hb).1⟩⟩
 done:=by
  intro X hP hw hK hc i pins s σ H E I hf st hg
  subst hP hw hK
  obtain ⟨xs,hq,hx⟩:=hg
  obtain ⟨its,rv,p,hz⟩:=I.list hq
  obtain ⟨f0,f1,f2,f3,f4,f5⟩:=hf it (by simp)
  have hl:=rv.length
  exact wpAny_pyNext_list_end (I.ok.hd hc) st p.isList (by simp; omega) fun h' eb=>⟨rfl,I.turned (t':=s.toks) (fun b o hb e=>eb b o hb e) f0 f1 f3 f4 f5⟩
 self:=fun _ _ _ _ _ st h=>wpAny_pyIter_listiter st h
theorem jfM {P:Program}{w:World}{K:Yac}{tg:Expr}(a it:Addr):Turn P w K tg (Itt K a) [it] it (fun i h=>h.IsTupleIter it a i) where
 mem:=by simp
 obj:=fun i h st b hb=>by
  have e:b=it:=by simpa using hb
  subst e
  obtain ⟨o,e,c,d⟩:=st
  exact ⟨o,e,fun v z=>by rw [d] at z; cases z⟩
 keep:=fun i h h' st k=>st.at fun o e=>k it (by simp) o e
 item:=by
  intro X hP hw hK hc i pins s σ H E I hf st hg
  subst hP hw hK
  obtain ⟨xs,x,hq,hx⟩:=hg
  obtain ⟨its,rv,p,hz⟩:=I.tuple hq
  obtain ⟨u,hu,ru⟩:=rv.get hx
  obtain ⟨f0,f1,f2,f3,f4,f5⟩:=hf it (by simp)
  refine wpAny_pyNext_tuple_item st (show s.heap.IsTuple a its.toArray from p) (x:=u) (by simpa using hu) fun h' st' sb=>?_
  have I1:Inv X pins σ H { s with heap:=h' }:=I.turned (t':=s.toks) (fun b o hb e=>(sb.2 b hb).trans e) f0 f1 f3 f4 f5
  obtain ⟨o,e,c,d⟩:=id st'
  exact ⟨u,rfl,jh7 (s:={ s with heap:=h' }) e c d (by decide) ⟨x,H,I1,ru,⟨rfl,fun ys hy=>by rw [I.tuple_inj hy hq]; exact hx⟩,st',fun b hb=>(hf b hb).1⟩⟩
 done:=by
  intro X hP hw hK hc i pins s σ H E I hf st hg
  subst hP hw hK
  obtain ⟨xs,hq,hx⟩:=hg
  obtain ⟨its,rv,p,hz⟩:=I.tuple hq
  obtain ⟨f0,f1,f2,f3,f4,f5⟩:=hf it (by simp)
  have hl:=rv.length
  exact wpAny_pyNext_tuple_end (I.ok.hd hc) st (show s.heap.IsTuple a its.toArray from p) (by simp; omega) fun h' eb=>⟨rfl,I.turned (t':=s.toks) (fun b o hb e=>eb b o hb e) f0 f1 f3 f4 f5⟩
 self:=fun _ _ _ _ _ st h=>wpAny_pyIter_tupleiter st h
theorem jfN {P:Program}{w:World}{K:Yac}{tg:Expr}(it:Addr)(lo:Int)(n:Nat):Turn P w K tg (Itr lo n) [it] it (fun i h=>IsRangeIter h it (lo + (i:Nat) * 1) ((n:Int) - (i:Nat)) 1) where
 mem:=by simp
 obj:=fun i h st b hb=>by
  have e:b=it:=by simpa using hb
  subst e
  exact ⟨_,st,fun v z=>by
   have z':Yby _=Data.cell v:=z
   cases z'⟩
 keep:=fun i h h' st k=>k it (by simp) _ st
 item:=by
  intro X hP hw hK hc i pins s σ H E I hf st hg
  subst hP hw hK
  obtain ⟨f0,f1,f2,f3,f4,f5⟩:=hf it (by simp)
  have W:=Walks.range (prog:=X.prog) (w:=X.w) (I.ok.hd hc) it lo 1 n
  refine W.item i s _ _ hg st fun v h' tk hv st' kk=>?_
  obtain ⟨t,rfl⟩:=hv
  have I1:Inv X pins σ H { s with heap:=h',toks:=tk }:=I.turned (fun b o hb e=>kk b o (by simpa using hb) e) f0 f1 f3 f4 f5
  refine ⟨_,rfl,jh7 (s:={ s with heap:=h',toks:=tk }) (n := "range_iterator") st' rfl rfl (by decide) ⟨.int (lo + i),H,I1,⟨t,?_⟩,⟨rfl,rfl⟩,st',fun b hb=>(hf b hb).1⟩⟩
  rw [Int.mul_one]
 done:=by
  intro X hP hw hK hc i pins s σ H E I hf st hg
  subst hP hw hK
  obtain ⟨f0,f1,f2,f3,f4,f5⟩:=hf it (by simp)
  exact wpAny_pyNext_range_end (I.ok.hd hc) st (by have:n<=i:=hg; omega) fun h' eb=>⟨rfl,I.turned (t':=s.toks) (fun b o hb e=>eb b o hb e) f0 f1 f3 f4 f5⟩
 self:=fun _ _ _ _ _ st h=>wpAny_pyIter_rangeiter st h
section
variable {X:Cx}{tg:Expr}
theorem jhH {pins:List (Addr×Obj)}{σ:St}{H:Hp}{s:Shared}{R:It->Hp->Prop}{E:Value->Shared->Prop}{lo hi:Int}{t u v:Tok}{tk:Nat}(I:Inv X pins σ H s)(h1:-(2 ^ 62)<=lo)(h2:lo < 2 ^ 62)(h3:-(2 ^ 62)<=hi)(h4:hi < 2 ^ 62)
  (q:R (Itr lo (hi - lo).toNat) H):wpAny (model X.prog X.w) X.A (pyIter (.ref s.heap.objs.size)) (PIE X pins σ tg R) E { s with heap:=s.heap.push { cls:=.type "range",data:=.fields #[.int lo t,.int hi u,.int 1 v] },toks:=tk }:=by
 refine wpAny_pyIter_range (IsRange.new ..) (small_one h1 h2 h3 h4) ?_
 have I1:Inv X pins σ H { s with heap:=s.heap.push { cls:=.type "range",data:=.fields #[.int lo t,.int hi u,.int 1 v] },toks:=tk }:=I.kept fun b o e=>Yaf _ e
 refine ⟨(s.heap.push { cls:=.type "range",data:=.fields #[.int lo t,.int hi u,.int 1 v] }).objs.size,[(s.heap.push { cls:=.type "range",data:=.fields #[.int lo t,.int hi u,.int 1 v] }).objs.size],_,_,H,rfl,
  I1.kept (t':=tk) fun b o e=>Yaf _ e,jfN _ lo (hi - lo).toNat,?_,fun b hb=>?_,q⟩
 ·have e1:lo + ((0:Nat):Int) * 1=lo:=by simp
  have e2:(((hi - lo).toNat:Nat):Int) - ((0:Nat):Int)=Yea lo hi 1:=by rw [rangeSize_one]; split <;> omega
  show IsRangeIter _ _ (lo + ((0:Nat):Int) * 1) ((((hi - lo).toNat:Nat):Int) - ((0:Nat):Int)) 1
  rw [e1,e2]
  exact YaR _ rfl
 ·have e:b=(s.heap.push { cls:=.type "range",data:=.fields #[.int lo t,.int hi u,.int 1 v] }).objs.size:=by simpa using hb
  subst e
  exact I1.fpOk (Yak _) (I1.hok.fresh (Yak _))
noncomputable def jn1 (ta:TA):TI:=fun σ H R=>ta σ H fun vs H1=>∃ j:Int,vs=[.int j]/\-(2 ^ 62)<=j/\j < 2 ^ 62/\R (Itr 0 j.toNat) H1
theorem jgB {a:Expr}{ta:TA}{p pos:Pos}(hg:Gl X "range")(hm:X.mg "range" = none)(ha:PA X [a] ta)(hs:YaM [a] X.env=[(false,eval a X.env)]:=by rfl):PI X tg (.Call (.Name "range" p) [a] [] pos) (jn1 ta):=by
 intro pins s σ H R I h
 refine Call_ (jc9 I hg hm boot_range (Yca (thn (ha pos pins s σ H _ I h) fun us s1 ⟨vs,H1,I1,r1,q1⟩=>?_) hs rfl))
 obtain ⟨j,e,q1,q2,q⟩:=q1
 subst e
 cases r1 with
 | cons r rr=>
  cases rr
  obtain ⟨t,rfl⟩:=r
  exact call_range_1 (jhH I1 (by omega) (by omega) q1 q2 (by simpa using q))
noncomputable def tFor (wi:TI)(g:TG)(tb:TS):TS:=fun D σ H=>wi σ H fun J H1=>∃ W:Nat->Nat->St->Hp->Prop,(∃ m,W 0 m σ H1)/\∀ i m σ H,W i m σ H->
 (J.stop i H/\D.nx σ H)\/(J.go i H/\∃ N:St->Hp->Prop,(∀ σ' H',N σ' H'->∃ m',m' < m/\W (i + 1) m' σ' H')/\∀ x H',J.yld i H x H'->g x σ H' fun σ2 H2=>tb { D with nx:=N,ct:=N,bk:=D.nx } σ2 H2)
noncomputable def jdV (fp:List Addr)(h:Heap):List (Addr×Obj):=fp.filterMap fun b=>(h.get? b).map fun o=>(b,o)
theorem jbl {fp:List Addr}{h:Heap}{b:Addr}{o:Obj}(hb:b∈fp)(e:h.get? b=some o):(b,o)∈jdV fp h:=List.mem_filterMap.mpr ⟨b,hb,by rw [e]; rfl⟩
theorem jgJ {fp:List Addr}{h:Heap}{p:Addr×Obj}(hp:p∈jdV fp h):p.1∈fp/\h.get? p.1=some p.2:=by
 obtain ⟨b,hb,e⟩:=List.mem_filterMap.mp hp
 cases q:h.get? b with
 | none=>rw [q] at e; cases e
 | some o=>
  rw [q] at e
  have e':(b,o)=p:=YaU e
  subst e'
  exact ⟨hb,q⟩
theorem Inv.pinned {pins:List (Addr×Obj)}{σ:St}{H:Hp}{s:Shared}{fp:List Addr}(I:Inv X pins σ H s)(hf:∀ b∈fp,FpOk X pins H b)(ho:∀ b∈fp,∃ o,s.heap.get? b=some o/\∀ v,o.data≠.cell v):Inv X (pins++jdV fp s.heap) σ H s:=
 I.pins_of fun p hp=>(List.mem_append.mp hp).elim (fun z=>I.pin p (Ya5 _ z)) fun z=>by
  obtain ⟨hb,e⟩:=jgJ z
  obtain ⟨f0,f1,f2,_⟩:=hf p.1 hb
  obtain ⟨o,e',d⟩:=ho p.1 hb
  rw [e] at e'; cases e'
  exact ⟨e,f0,f1,f2,d⟩
theorem Inv.unpinned {pins pl:List (Addr×Obj)}{σ:St}{H:Hp}{s:Shared}(I:Inv X (pins++pl) σ H s):Inv X pins σ H s:=I.pins_of fun p hp=>I.pin p (Ya5 _ (Ybu _ hp))
theorem jlk {iter:Expr}{body:List Stmt}{wi:TI}{g:TG}{tb:TS}{pos:Pos}(hp:Yey (model X.prog X.w) X.A X.env X.xe)(hc:X.calm=true)(hi:PI X tg iter wi)(hg:PG X tg g)(hb:PSs X body tb)
  (hs:∀ x,Ybv iter X.env x=pure x:=by intro _; rfl):PS X (.For tg iter body [] pos) (tFor wi g tb):=by
 intro pins s σ H D I h
 refine wpAny_For (thn (hi pins s σ H _ I h) fun v s1 h1=>thn h1 fun itv s2 h2=>?_) hs
 obtain ⟨it,fp,tn,J,H2,e,I2,T,st2,f2,W,⟨m0,w0⟩,turn⟩:=h2
 subst e
 have stat:∀ {H':Hp},(∀ b∈fp,H' b=none)->∀ b∈fp,FpOk X pins H' b:=fun hn b hb=>⟨hn b hb,(f2 b hb).2⟩
 refine codeAny_forLoop_any (fun n s'=>∃ i σ' H',Inv X pins σ' H' s'/\tn i s'.heap/\(∀ b∈fp,H' b=none)/\W i n σ' H') ?_ m0 ⟨0,σ,H2,I2,st2,fun b hb=>(f2 b hb).1,w0⟩
 rintro n s3 ⟨i,σ3,H3,I3,st3,fr3,w3⟩
 rcases turn i n σ3 H3 w3 with ⟨stop,qn⟩ | ⟨go,N,hN,step⟩
 ·refine Yds hp (thn (T.done X rfl rfl rfl hc i pins s3 σ3 H3 X.xe I3 (stat fr3) st3 stop) fun r s4 ⟨hr,I4⟩=>?_)
  subst hr
  exact Yd1 ⟨σ3,H3,I4,qn⟩
 ·refine Yds hp (thn (T.item X rfl rfl rfl hc i pins s3 σ3 H3 X.xe I3 (stat fr3) st3 go) fun r s4 ⟨u,hr,h4⟩=>?_)
  subst hr
  refine Yds hp (thn h4 fun _ s5 ⟨x,H5,I5,r5,y5,st5,fr5⟩=>?_)
  have I5':=I5.pinned (stat fr5) (T.obj _ _ st5)
  refine Yds hp (thn (hg _ s5 σ3 H5 x u _ I5' r5 (step x H5 y5)) fun _ s6 ⟨σ6,H6,I6,q6⟩=>?_)
  refine Yds hp (thn (hb _ s6 σ6 H6 _ I6 q6) fun f s7 q7=>?_)
  have again:∀ {σ7:St} {H7:Hp},Inv X (pins++jdV fp s5.heap) σ7 H7 s7->N σ7 H7->∃ m,m < n/\∃ i σ' H',Inv X pins σ' H' s7/\tn i s7.heap/\(∀ b∈fp,H' b=none)/\W i m σ' H':=fun {σ7 H7} I7 n7=>by
   obtain ⟨m',hm,w7⟩:=hN σ7 H7 n7
   refine ⟨m',hm,i + 1,σ7,H7,I7.unpinned,T.keep _ _ _ st5 fun b hb o e=>(I7.pin (b,o) (Ya5 _ (Ya5 _ (jbl hb e)))).1,fun b hb=>?_,w7⟩
   obtain ⟨o,e,d⟩:=T.obj _ _ st5 b hb
   exact (I7.pin (b,o) (Ya5 _ (Ya5 _ (jbl hb e)))).2.1
  cases f with
  | next=>obtain ⟨σ7,H7,I7,n7⟩:=q7; exact again I7 n7
  | cont=>obtain ⟨σ7,H7,I7,n7⟩:=q7; exact again I7 n7
  | brk=>obtain ⟨σ7,H7,I7,q7⟩:=q7; exact ⟨σ7,H7,I7.unpinned,q7⟩
  | ret v=>obtain ⟨x7,σ7,H7,I7,r7,q7⟩:=q7; exact ⟨x7,σ7,H7,I7.unpinned,r7,q7⟩
end


noncomputable abbrev R2:=V->V->Hp->VK->Prop
noncomputable def OpR (X:Cx)(f:Value->Value->Sem Value)(r:R2):Prop:=
 ∀ (pins:List (Addr×Obj)) (s:Shared) (σ:St) (H:Hp) (x y:V) (v u:Value) (Q:VK),Inv X pins σ H s->RelV x v->RelV y u->r x y H Q->
  wpAny (model X.prog X.w) X.A (f v u) (EP X pins σ Q) X.xe s
noncomputable def UnR (X:Cx)(f:Value->Sem Value)(r:V->Hp->VK->Prop):Prop:=
 ∀ (pins:List (Addr×Obj)) (s:Shared) (σ:St) (H:Hp) (x:V) (v:Value) (Q:VK),Inv X pins σ H s->RelV x v->r x H Q->
  wpAny (model X.prog X.w) X.A (f v) (EP X pins σ Q) X.xe s
noncomputable def ja2 (X:Cx)(f:Value)(r:List V->Hp->VK->Prop):Prop:=
 ∀ (pins:List (Addr×Obj)) (s:Shared) (σ:St) (H:Hp) (xs:List V) (us:List Value) (Q:VK),Inv X pins σ H s->Vals xs us->r xs H Q->
  wpAny (model X.prog X.w) X.A (call f us) (EP X pins σ Q) X.xe s
noncomputable def TruR (X:Cx)(r:V->Hp->(Bool->Hp->Prop)->Prop):Prop:=
 ∀ (pins:List (Addr×Obj)) (s:Shared) (σ:St) (H:Hp) (x:V) (v:Value) (Q:Bool->Hp->Prop),Inv X pins σ H s->RelV x v->r x H Q->
  wpAny (model X.prog X.w) X.A (truthy v) (TP X pins σ Q) X.xe s

noncomputable def tOp (r:R2)(ta tb:TE):TE:=fun σ H Q=>ta σ H fun x H1=>tb σ H1 fun y H2=>r x y H2 Q
noncomputable def tUn (r:V->Hp->VK->Prop)(ta:TE):TE:=fun σ H Q=>ta σ H fun x H1=>r x H1 Q
noncomputable def rI (C:Int->Int->Prop)(g:Int->Int->V):R2:=fun x y H Q=>∃ i j,x=.int i/\y=.int j/\C i j/\Q (g i j) H
noncomputable def rI0 (g:Int->Int->V):R2:=fun x y H Q=>∃ i j,x=.int i/\y=.int j/\Q (g i j) H
noncomputable def rU (g:Int->V):V->Hp->VK->Prop:=fun x H Q=>∃ i,x=.int i/\Q (g i) H

section
variable {X:Cx}{a b c:Expr}{ta tb tc:TE}{pos:Pos}

theorem binT (ha:PE X a ta)(hb:PE X b tb){pins:List (Addr×Obj)}{s:Shared}{σ:St}{H:Hp}{R:V->V->Hp->Prop}(I:Inv X pins σ H s)
  (h:ta σ H fun x H1=>tb σ H1 fun y H2=>R x y H2) {Q:Value->Shared->Prop} {f:Value->Value->Sem Value}
  (hf:∀ v u s2 x y H2,Inv X pins σ H2 s2->RelV x v->RelV y u->R x y H2->wpAny (model X.prog X.w) X.A (f v u) Q X.xe s2) :
  wpAny (model X.prog X.w) X.A (eval a X.env) (fun v s₁=>wpAny (model X.prog X.w) X.A (eval b X.env) (fun u s₂=>wpAny (model X.prog X.w) X.A (f v u) Q X.xe s₂) X.xe s₁) X.xe s:=by
 refine thn (ha pins s σ H _ I h) fun v s1 ⟨x,H1,I1,r1,q1⟩=>?_
 refine thn (hb pins s1 σ H1 _ I1 q1) fun u s2 ⟨y,H2,I2,r2,q2⟩=>?_
 exact hf v u s2 x y H2 I2 r1 r2 q2

theorem jnH {op:Ycs}{r:R2}(ho:OpR X (YbF op) r)(ha:PE X a ta)(hb:PE X b tb):PE X (.BinOp a op b pos) (tOp r ta tb):=by
 intro pins s σ H Q I h
 exact wpAny_BinOp (binT ha hb I h fun v u s2 x y H2 I2 rx ry q=>ho pins s2 σ H2 x y v u Q I2 rx ry q)
theorem jnF {op:UnaryOp}{r:V->Hp->VK->Prop}(ho:UnR X (unaryOp op) r)(ha:PE X a ta):PE X (.UnaryOp op a pos) (tUn r ta):=by
 intro pins s σ H Q I h
 exact UnaryOp_ (thn (ha pins s σ H _ I h) fun v s1 ⟨x,H1,I1,r1,q1⟩=>ho pins s1 σ H1 x v Q I1 r1 q1)
theorem opI {f:Value->Value->Sem Value}{C:Int->Int->Prop}{g:Int->Int->Int}
  (rule:∀ (i j:Int) (t u:Tok) (s:Shared) (Q:Value->Shared->Prop) (E:Value->Shared->Prop),C i j->Q (.int (g i j) s.toks) { s with toks:=s.toks + 1 }->wpAny (model X.prog X.w) X.A (f (.int i t) (.int j u)) Q E s) :
  OpR X f (rI C fun i j=>.int (g i j)):=by
 intro pins s σ H x y v u Q I rx ry h
 obtain ⟨i,j,rfl,rfl,hc,q⟩:=h
 obtain ⟨t,rfl⟩:=rx
 obtain ⟨t',rfl⟩:=ry
 exact rule i j t t' s _ _ hc ⟨.int (g i j),H,I.tok _,⟨_,rfl⟩,q⟩
theorem opI0 {f:Value->Value->Sem Value}{g:Int->Int->Int}
  (rule:∀ (i j:Int) (t u:Tok) (s:Shared) (Q:Value->Shared->Prop) (E:Value->Shared->Prop),Q (.int (g i j) s.toks) { s with toks:=s.toks + 1 }->wpAny (model X.prog X.w) X.A (f (.int i t) (.int j u)) Q E s) :
  OpR X f (rI0 fun i j=>.int (g i j)):=by
 intro pins s σ H x y v u Q I rx ry h
 obtain ⟨i,j,rfl,rfl,q⟩:=h
 obtain ⟨t,rfl⟩:=rx
 obtain ⟨t',rfl⟩:=ry
 exact rule i j t t' s _ _ ⟨.int (g i j),H,I.tok _,⟨_,rfl⟩,q⟩
theorem opB0 {f:Value->Value->Sem Value}{g:Int->Int->Bool}
  (rule:∀ (i j:Int) (t u:Tok) (s:Shared) (Q:Value->Shared->Prop) (E:Value->Shared->Prop),Q (.bool (g i j)) s->wpAny (model X.prog X.w) X.A (f (.int i t) (.int j u)) Q E s) :
  OpR X f (rI0 fun i j=>.bl (g i j)):=by
 intro pins s σ H x y v u Q I rx ry h
 obtain ⟨i,j,rfl,rfl,q⟩:=h
 obtain ⟨t,rfl⟩:=rx
 obtain ⟨t',rfl⟩:=ry
 exact rule i j t t' s _ _ ⟨.bl (g i j),H,I,rfl,q⟩

noncomputable def CDiv (i j:Int):Prop:=0 < j/\j < 1073741824
noncomputable def CPow (i j:Int):Prop:=0<=j/\j<=1000000/\i.natAbs < 2 ^ 64
noncomputable def CMul (i j:Int):Prop:=(-(2 ^ 64) < i/\i < 2 ^ 64)\/(-(2 ^ 64) < j/\j < 2 ^ 64)
theorem CMul.ok {i j:Int}(h:CMul i j):IntMulOk i j:=by
 rcases h with ⟨h1,h2⟩ | ⟨h1,h2⟩
 ·exact .of_left (intBits_le_64 h1 h2)
 ·exact .of_right (intBits_le_64 h1 h2)
theorem jlO:OpR X (YbF .Add) (rI0 fun i j=>.int (i + j)):=opI0 fun _ _ _ _ _ _ _ q=>add_int q
theorem jlE:OpR X (YbF .Sub) (rI0 fun i j=>.int (i - j)):=opI0 fun _ _ _ _ _ _ _ q=>sub_int q
theorem jlI:OpR X (YbF .Mult) (rI CMul fun i j=>.int (i * j)):=opI fun _ _ _ _ _ _ _ hc q=>mul_int q hc.ok
theorem jjW:OpR X (YbF .FloorDiv) (rI CDiv fun i j=>.int (i / j)):=opI fun i j _ _ _ _ _ hc q=>by
 have h1:(0:Int) < j:=hc.1
 have h2:j < 1073741824:=hc.2
 exact floordiv_int (by omega) (by rw [Int.fdiv_eq_ediv_of_nonneg i (by omega)]; exact q) (.inl (PyProof.noPylong_small (by omega)))
theorem jlJ:OpR X (YbF .Mod) (rI (fun _ j=>0 < j) fun i j=>.int (i % j)):=opI fun i j _ _ _ _ _ hc q=>by
 have h1:(0:Int) < j:=hc
 exact mod_int' (by omega) (by rw [Int.fmod_eq_emod_of_nonneg i (by omega)]; exact q)
theorem jlG:OpR X (YbF .Pow) (rI CPow fun i j=>.int (i ^ j.toNat)):=opI fun _ _ _ _ _ _ _ hc q=>pow_int_small hc.1 hc.2.1 hc.2.2 q
theorem jkl:OpR X (Yev .Add) (rI0 fun i j=>.int (i + j)):=opI0 fun _ _ _ _ _ _ _ q=>iadd_int q
theorem jkj:OpR X (Yev .Sub) (rI0 fun i j=>.int (i - j)):=opI0 fun _ _ _ _ _ _ _ q=>isub_int q
theorem jkk:OpR X (Yev .Mult) (rI CMul fun i j=>.int (i * j)):=opI fun _ _ _ _ _ _ _ hc q=>imul_int q hc.ok
theorem unI {f:Value->Sem Value}{g:Int->Int}
  (rule:∀ (i:Int) (t:Tok) (s:Shared) (Q:Value->Shared->Prop) (E:Value->Shared->Prop),Q (.int (g i) s.toks) { s with toks:=s.toks + 1 }->wpAny (model X.prog X.w) X.A (f (.int i t)) Q E s) :
  UnR X f (rU fun i=>.int (g i)):=by
 intro pins s σ H x v Q I rx h
 obtain ⟨i,rfl,q⟩:=h
 obtain ⟨t,rfl⟩:=rx
 exact rule i t s _ _ ⟨.int (g i),H,I.tok _,⟨_,rfl⟩,q⟩
theorem jkL:UnR X (unaryOp .USub) (rU fun i=>.int (-i)):=unI fun _ _ _ _ _ q=>neg_int q
end

noncomputable def scal:V->V->Bool
 | .non,.non=>true | .non,.int _=>true | .int _,.non=>true | .non,.bl _=>true | .bl _,.non=>true | .non,.str _=>true | .str _,.non=>true
 | .int _,.int _=>true | .bl _,.bl _=>true | .str _,.str _=>true | .byt _,.byt _=>true
 | .int _,.str _=>true | .str _,.int _=>true | .bl _,.str _=>true | .str _,.bl _=>true
 | _,_=>false
noncomputable def rEq:R2:=fun x y H Q=>scal x y=true/\Q (.bl (decide (x=y))) H
noncomputable def rNe:R2:=fun x y H Q=>scal x y=true/\Q (.bl (!decide (x=y))) H

theorem jg8 {i j:Int}:decide (V.int i=V.int j)=(i == j):=by
 rw [Ydk]
 simp
theorem ji0 {i j:Bool}:decide (V.bl i=V.bl j)=(i == j):=by
 rw [Ydk]
 simp
theorem jg7 {i j:Str}:decide (V.str i=V.str j)=(i == j):=by
 rw [Ydk]
 simp
theorem jg9 {i j:Array UInt8}:decide (V.byt i=V.byt j)=(i.toList == j.toList):=by
 rw [Ydk]
 cases i
 cases j
 simp

section
variable {X:Cx}{a b c:Expr}{ta tb tc:TE}{pos:Pos}
theorem jah {pins:List (Addr×Obj)}{σ:St}{H:Hp}{s:Shared}{Q:VK}{k k':Bool}(I:Inv X pins σ H s)(q:Q (.bl k) H)(e:k=k'):EP X pins σ Q (.bool k') s:=by
 subst e
 exact ⟨.bl k,H,I,rfl,q⟩
theorem jnN:OpR X (YbM .Eq) rEq:=by
 intro pins s σ H x y v u Q I rx ry h
 obtain ⟨hs,q⟩:=h
 cases x with
 | non=>
  cases rx
  cases y with
  | non=>cases ry; exact PySem.EqNone.eq_none_none (jah I q (by simp))
  | bl j=>cases ry; exact PySem.EqNone.eq_none_bool (jah I q (by simp))
  | int j=>obtain ⟨t',rfl⟩:=ry; exact PySem.EqNone.eq_none_int (jah I q (by simp))
  | str j=>obtain ⟨t',rfl⟩:=ry; exact PySem.EqNone.eq_none_str (jah I q (by simp))
  | _=>exact absurd (show false=true from hs) Yas
 | bl i=>
  cases rx
  cases y with
  | non=>cases ry; exact PySem.EqNone.eq_bool_none (jah I q (by simp))
  | bl j=>cases ry; exact eq_bool (jah I q ji0)
  | str j=>obtain ⟨t',rfl⟩:=ry; exact PySem.EqMixed.eq_bool_str (jah I q (by simp))
  | _=>exact absurd (show false=true from hs) Yas
 | int i=>
  obtain ⟨t,rfl⟩:=rx
  cases y with
  | non=>cases ry; exact PySem.EqNone.eq_int_none (jah I q (by simp))
  | int j=>obtain ⟨t',rfl⟩:=ry; exact eq_int (jah I q jg8)
  | str j=>obtain ⟨t',rfl⟩:=ry; exact PySem.EqMixed.eq_int_str (jah I q (by simp))
  | _=>exact absurd (show false=true from hs) Yas
 | str i=>
  obtain ⟨t,rfl⟩:=rx
  cases y with
  | non=>cases ry; exact PySem.EqNone.eq_str_none (jah I q (by simp))
  | bl j=>cases ry; exact PySem.EqMixed.eq_str_bool (jah I q (by simp))
  | int j=>obtain ⟨t',rfl⟩:=ry; exact PySem.EqMixed.eq_str_int (jah I q (by simp))
  | str j=>obtain ⟨t',rfl⟩:=ry; exact eq_str (jah I q jg7)
  | _=>exact absurd (show false=true from hs) Yas
 | byt i=>
  obtain ⟨t,rfl⟩:=rx
  cases y with
  | byt j=>obtain ⟨t',rfl⟩:=ry; exact PySem.W.eq_bytes (jah I q jg9)
  | _=>exact absurd (show false=true from hs) Yas
 | _=>cases y <;> exact absurd (show false=true from hs) Yas
theorem jnK:OpR X (YbM .NotEq) rNe:=by
 intro pins s σ H x y v u Q I rx ry h
 obtain ⟨hs,q⟩:=h
 cases x with
 | non=>
  cases rx
  cases y with
  | non=>cases ry; exact PySem.EqNone.ne_none_none (jah I q (by simp))
  | bl j=>cases ry; exact PySem.EqNone.ne_none_bool (jah I q (by simp))
  | int j=>obtain ⟨t',rfl⟩:=ry; exact PySem.EqNone.ne_none_int (jah I q (by simp))
  | str j=>obtain ⟨t',rfl⟩:=ry; exact PySem.EqNone.ne_none_str (jah I q (by simp))
  | _=>exact absurd (show false=true from hs) Yas
 | bl i=>
  cases rx
  cases y with
  | non=>cases ry; exact PySem.EqNone.ne_bool_none (jah I q (by simp))
  | bl j=>cases ry; exact ne_bool (jah I q (congrArg not ji0))
  | str j=>obtain ⟨t',rfl⟩:=ry; exact PySem.EqMixed.ne_bool_str (jah I q (by simp))
  | _=>exact absurd (show false=true from hs) Yas
 | int i=>
  obtain ⟨t,rfl⟩:=rx
  cases y with
  | non=>cases ry; exact PySem.EqNone.ne_int_none (jah I q (by simp))
  | int j=>obtain ⟨t',rfl⟩:=ry; exact ne_int (jah I q (congrArg not jg8))
  | str j=>obtain ⟨t',rfl⟩:=ry; exact PySem.EqMixed.ne_int_str (jah I q (by simp))
  | _=>exact absurd (show false=true from hs) Yas
 | str i=>
  obtain ⟨t,rfl⟩:=rx
  cases y with
  | non=>cases ry; exact PySem.EqNone.ne_str_none (jah I q (by simp))
  | bl j=>cases ry; exact PySem.EqMixed.ne_str_bool (jah I q (by simp))
  | int j=>obtain ⟨t',rfl⟩:=ry; exact PySem.EqMixed.ne_str_int (jah I q (by simp))
  | str j=>obtain ⟨t',rfl⟩:=ry; exact ne_str (jah I q (congrArg not jg7))
  | _=>exact absurd (show false=true from hs) Yas
 | byt i=>
  obtain ⟨t,rfl⟩:=rx
  cases y with
  | byt j=>obtain ⟨t',rfl⟩:=ry; exact PySem.W.ne_bytes (jah I q (congrArg not jg9))
  | _=>exact absurd (show false=true from hs) Yas
 | _=>cases y <;> exact absurd (show false=true from hs) Yas

theorem jnL:OpR X (YbM .Lt) (rI0 fun i j=>.bl (decide (i < j))):=opB0 fun _ _ _ _ _ _ _ q=>lt_int q
theorem jnM:OpR X (YbM .Gt) (rI0 fun i j=>.bl (decide (j < i))):=opB0 fun _ _ _ _ _ _ _ q=>gt_int q
theorem jgF:OpR X (YbM .In) (fun x y H Q=>∃ i j,x=.str i/\y=.str j/\Q (.bl (!(Ydp j i 0 j.length 1).isEmpty)) H):=by
 intro pins s σ H x y v u Q I rx ry h
 obtain ⟨i,j,rfl,rfl,q⟩:=h
 obtain ⟨t,rfl⟩:=rx
 obtain ⟨t',rfl⟩:=ry
 exact in_str (jah I q rfl)

theorem OpR.or {f:Value->Value->Sem Value}{r r':R2}(h:OpR X f r)(h':OpR X f r'):OpR X f (fun x y H Q=>r x y H Q\/r' x y H Q):=by
 intro pins s σ H x y v u Q I rx ry q
 rcases q with q | q
 ·exact h pins s σ H x y v u Q I rx ry q
 ·exact h' pins s σ H x y v u Q I rx ry q

theorem jjQ {op:CmpOp}{r:R2}(ho:OpR X (YbM op) r)(ha:PE X a ta)(hb:PE X b tb)(hm:Yew op b=false):PE X (.Compare a [op] [b] pos) (tOp r ta tb):=by
 intro pins s σ H Q I h
 exact wpAny_Compare1 (binT ha hb I h fun v u s2 x y H2 I2 rx ry q=>ho pins s2 σ H2 x y v u Q I2 rx ry q) hm
noncomputable def jnj (t:TE):TT:=fun σ H Q=>t σ H fun x H'=>∃ k,x=.bl k/\Q k H'
theorem jjz {op:CmpOp}{r:R2}(ho:OpR X (YbM op) r)(ha:PE X a ta)(hb:PE X b tb)(hm:Yew op b=false):PT X (.Compare a [op] [b] pos) (jnj (tOp r ta tb)):=by
 intro pins s σ H Q I h
 refine wpAny_isTrue_Compare1 (thn (ha pins s σ H _ I h) fun v s1 ⟨x,H1,I1,r1,q1⟩=>thn (hb pins s1 σ H1 _ I1 q1) fun u s2 ⟨y,H2,I2,r2,q2⟩=>
  thn (ho pins s2 σ H2 x y v u _ I2 r1 r2 q2) fun c s3 ⟨z,H3,I3,r3,k,e,q3⟩=>?_) hm
 subst e
 cases r3
 exact YbU ⟨H3,I3,q3⟩
noncomputable def TruV (K:Yac)(x:V)(H:Hp)(k:Bool):Prop:=
 match x with
 | .non=>k=false
 | .bl b=>k=b
 | .int i=>k=(i != 0)
 | .str y=>y.length<=Yan/\k=((y.length:Int) != 0)
 | .byt y=>y.size<=Yan/\k=((y.size:Int) != 0)
 | .ref p=>(∃ xs,SqL K H p xs/\k = !xs.isEmpty)\/(∃ xs,SqT K H p xs/\k = !xs.isEmpty)\/∃ kvs,H p=some (.dK kvs)/\k = !kvs.isEmpty
 | _=>False
theorem jf5 {κ:Type}{kvs:List (κ×V)}{vs:List (κ×Value)}(r:KV kvs vs):(!vs.isEmpty) = !kvs.isEmpty:=by
 cases r <;> rfl
theorem jdc {xs:List V}{its:List Value}(r:Vals xs its):(!its.toArray.isEmpty) = !xs.isEmpty:=by
 cases r <;> simp
theorem jc8:(Yan:Nat) < 2 ^ 63:=by rw [YbK]; decide
theorem jff:TruR X (fun x H Q=>∃ k,TruV X.K x H k/\Q k H):=by
 intro pins s σ H x v Q I rx h
 obtain ⟨k,e,q⟩:=h
 have hl:=jc8
 have hs:Yan=16777216:=YbK
 cases x with
 | non=>
  cases rx
  have e':k=false:=e
  subst e'
  exact truthy_none ⟨H,I,q⟩
 | bl b=>
  cases rx
  have e':k=b:=e
  subst e'
  exact YbU ⟨H,I,q⟩
 | int i=>
  obtain ⟨t,rfl⟩:=rx
  have e':k=(i != 0):=e
  subst e'
  exact PySem.P.truthy_int ⟨H,I,q⟩
 | str y=>
  obtain ⟨t,rfl⟩:=rx
  obtain ⟨hy,e'⟩:y.length<=Yan/\k=((y.length:Int) != 0):=e
  subst e'
  exact PySem.P.truthy_str (by omega) ⟨H,I.tok _,q⟩
 | byt y=>
  obtain ⟨t,rfl⟩:=rx
  obtain ⟨hy,e'⟩:y.size<=Yan/\k=((y.size:Int) != 0):=e
  subst e'
  exact PySem.W.truthy_bytes (by omega) ⟨H,I.tok _,q⟩
 | ref p=>
  cases rx
  have e':(∃ xs,SqL X.K H p xs/\k = !xs.isEmpty)\/(∃ xs,SqT X.K H p xs/\k = !xs.isEmpty)\/∃ kvs,H p=some (.dK kvs)/\k = !kvs.isEmpty:=e
  rcases e' with ⟨xs,hx,e'⟩ | ⟨xs,hx,e'⟩ | ⟨kvs,hx,e'⟩
  ·subst e'
   obtain ⟨its,r,pl,hz⟩:=I.list hx
   have hlen:=r.length
   exact wpAny_truthy_list pl.isList (by simp only [Yat]; omega) ⟨H,I.tok _,by rw [jdc r]; exact q⟩
  ·subst e'
   obtain ⟨its,r,pl,hz⟩:=I.tuple hx
   have hlen:=r.length
   exact truthy_tuple pl (by simp only [Yat]; omega) ⟨H,I.tok _,by rw [jdc r]; exact q⟩
  ·subst e'
   obtain ⟨hz,hS,vs,r,m⟩:kvs.length<=Yan/\(p == Ybq)=false/\∃ vs,KV kvs vs/\s.heap.DictOf (jao X.prog X.w) p vs:=I.hok p _ hx
   have hlen:kvs.length=vs.length:=YdV r
   exact wpAny_truthy_dict hS m (by omega) ⟨H,I.tok _,by rw [jf5 r]; exact q⟩
 | _=>exact (show False from e).elim
theorem jhJ (ha:PE X a ta)(he:∀ whole,isTrue a X.env whole=(do let v <- whole; standAt a.pos; holding [v] (truthy v))) :
  PT X a (fun σ H Q=>ta σ H fun x H'=>∃ k,TruV X.K x H' k/\Q k H'):=by
 intro pins s σ H Q I h
 exact isTrue_plain (thn (ha pins s σ H _ I h) fun v s1 ⟨x,H1,I1,r1,q1⟩=>jff pins s1 σ H1 x v Q I1 r1 q1) (he _)

theorem jfU:OpR X (YbF .Add) (fun x y H Q=>∃ i j,x=.str i/\y=.str j/\i.length + j.length<=Yan/\Q (.str (i++j)) H):=by
 intro pins s σ H x y v u Q I rx ry h
 obtain ⟨i,j,rfl,rfl,hz,q⟩:=h
 obtain ⟨t,rfl⟩:=rx
 obtain ⟨t',rfl⟩:=ry
 exact add_str (fun t' tk=>⟨.str (i++j),H,I.tok _,⟨_,rfl⟩,q⟩) hz
theorem jeR:OpR X (Yev .Add) (fun x y H Q=>∃ i j,x=.str i/\y=.str j/\i.length + j.length<=Yan/\Q (.str (i++j)) H):=by
 intro pins s σ H x y v u Q I rx ry h
 obtain ⟨i,j,rfl,rfl,hz,q⟩:=h
 obtain ⟨t,rfl⟩:=rx
 obtain ⟨t',rfl⟩:=ry
 exact iadd_str (fun t' tk=>⟨.str (i++j),H,I.tok _,⟨_,rfl⟩,q⟩) hz
theorem jcV {x:V}{us:List Value}(r:Vals [x] us):∃ u,us=[u]/\RelV x u:=by
 cases r with
 | cons r1 r2=>cases r2; exact ⟨_,rfl,r1⟩
theorem jhi:ja2 X (.type "int") (fun xs H Q=>(∃ i,xs=[.int i]/\Q (.int i) H)\/∃ k,xs=[.bl k]/\Q (.int (if k then 1 else 0)) H):=by
 intro pins s σ H xs us Q I r h
 rcases h with ⟨i,rfl,q⟩ | ⟨k,rfl,q⟩
 ·obtain ⟨u,rfl,t,rfl⟩:=jcV r
  exact call_int_int ⟨.int i,H,I,⟨_,rfl⟩,q⟩
 ·obtain ⟨u,rfl,r1⟩:=jcV r
  cases r1
  exact call_int_bool ⟨.int (if k then 1 else 0),H,I.tok _,⟨_,rfl⟩,q⟩
noncomputable def LenV (K:Yac)(x:V)(H:Hp)(n:Nat):Prop:=
 match x with
 | .str y=>y.length<=Yan/\n=y.length
 | .byt y=>y.size<=Yan/\n=y.size
 | .ref p=>(∃ xs,SqL K H p xs/\n=xs.length)\/∃ xs,SqT K H p xs/\n=xs.length
 | _=>False
theorem jig:ja2 X (.builtin "len") (fun xs H Q=>∃ x n,xs=[x]/\LenV X.K x H n/\Q (.int n) H):=by
 intro pins s σ H xs us Q I r h
 obtain ⟨x,n,rfl,e,q⟩:=h
 obtain ⟨u,rfl,rx⟩:=jcV r
 have hl:=jc8
 have hs:Yan=16777216:=YbK
 cases x with
 | str y=>
  obtain ⟨t,rfl⟩:=rx
  obtain ⟨hy,e'⟩:y.length<=Yan/\n=y.length:=e
  subst e'
  exact len_str (by omega) ⟨.int _,H,I.tok _,⟨_,rfl⟩,q⟩
 | byt y=>
  obtain ⟨t,rfl⟩:=rx
  obtain ⟨hy,e'⟩:y.size<=Yan/\n=y.size:=e
  subst e'
  exact PySem.W.len_bytes (by omega) ⟨.int _,H,I.tok _,⟨_,rfl⟩,q⟩
 | ref p=>
  cases rx
  have e':(∃ xs,SqL X.K H p xs/\n=xs.length)\/∃ xs,SqT X.K H p xs/\n=xs.length:=e
  rcases e' with ⟨xs,hx,e'⟩ | ⟨xs,hx,e'⟩
  ·subst e'
   obtain ⟨its,r',pl,hz⟩:=I.list hx
   have hlen:=r'.length
   exact Calls.call_len_list pl.isList (by simp only [Yat]; omega) ⟨.int xs.length,H,I.tok _,⟨_,by simp only [Yat]; rw [hlen]⟩,q⟩
  ·subst e'
   obtain ⟨its,r',pl,hz⟩:=I.tuple hx
   have hlen:=r'.length
   exact len_tuple pl (by simp only [Yat]; omega) ⟨.int xs.length,H,I.tok _,⟨_,by simp only [Yat]; rw [hlen]⟩,q⟩
 | _=>exact (show False from e).elim
end

structure ObjM (h:Heap)(x dx C:Addr)(mA:Str->Option Value):Prop where
 obj:h.get? x=some (YfY C dx)
 ns:h.Ns1 dx mA
 ne:dx≠x

section
variable {prog:Program}{w:World}{A:Around}{E:Value->Shared->Prop}{s:Shared}{K:Yac}{x dx C f:Addr}{mA:Str->Option Value}{name:Str}{v:Value}

end

noncomputable def putF (f:Str)(v:V):List (Str×V)->List (Str×V)
 | []=>[(f,v)]
 | (g,x)::r=>if g=f then (g,v)::r else (g,x)::putF f v r
theorem jcE (f g:Str)(v:V):∀ fs:List (Str×V),(putF f v fs).lookup g=if g=f then some v else fs.lookup g
 | []=>by
  show Ycc g [(f,v)]=_
  by_cases h:g=f
  ·have hb:(g == f)=true:=beq_iff_eq.mpr h
   simp only [Ycc,hb,if_pos h]
  ·have hb:(g == f)=false:=beq_eq_false_iff_ne.mpr h
   simp only [Ycc,hb,if_neg h]
 | (k,x)::r=>by
  have ih:=jcE f g v r
  rw [show putF f v ((k,x)::r)=(if k=f then (k,v)::r else (k,x)::putF f v r) from rfl]
  by_cases hk:k=f
  ·rw [if_pos hk]
   by_cases h:g=k
   ·have hb:(g == k)=true:=beq_iff_eq.mpr h
    simp only [Ycc,hb,if_pos (h.trans hk)]
   ·have hb:(g == k)=false:=beq_eq_false_iff_ne.mpr h
    simp only [Ycc,hb,if_neg (fun e:g=f=>h (e.trans hk.symm))]
  ·rw [if_neg hk]
   by_cases h:g=k
   ·have hb:(g == k)=true:=beq_iff_eq.mpr h
    simp only [Ycc,hb,if_neg (fun e:g=f=>hk (h.symm.trans e))]
   ·have hb:(g == k)=false:=beq_eq_false_iff_ne.mpr h
    simp only [Ycc,hb]
    exact ih
theorem RelO.some_of {v:V}{o:Option Value}(r:RelO (some v) o):∃ u,o=some u/\RelV v u:=by
 cases o with
 | none=>exact (show False from r).elim
 | some u=>exact ⟨u,rfl,r⟩
theorem RelO.none_of {o:Option Value}(r:RelO none o):o=none:=by
 cases o with
 | none=>rfl
 | some u=>exact (show False from r).elim
section
variable {P:Program}{w:World}{H H':Hp}{h h':Heap}{a C dx:Addr}{fs fs':List (Str×V)}
end

structure Cls (K:Yac)(C:Addr):Prop where
 pg:PySem.W.plainGet K C Str.empty=true
 hd:PySem.W.hasDictIn K C=true
 po:PySem.W.plainOver K C=true
 sa:Ydm K (.ref C) "__setattr__" = some (some (.builtin "object.__setattr__"))
structure Con (K:Yac)(C:Addr)(f:Str)(v:V)(u:Value):Prop where
 at_:Ydm K (.ref C) f=some (some u)
 rel:RelV v u
 get:Yfy K u "__get__" = some none
 cp:PySem.W.copiedNames.contains f=false
structure Meth (K:Yac)(C:Addr)(m:Str)(f:Addr):Prop where
 at_:Ydm K (.ref C) m=some (some (.ref f))
 fn:PySem.W.isFn K (.ref f)=true
 kp:YaN K (.ref f)=true

section
variable {X:Cx}{pins:List (Addr×Obj)}{σ:St}{H:Hp}{s:Shared}{a C dx:Addr}{fs:List (Str×V)}{f:Str}{v:V}{A:Around}{E:Value->Shared->Prop}

theorem jkD {prog:Program}{w:World}{env:Env}{e:Expr}{f:Str}{pos:Pos}{s:Shared}{Q:Value->Shared->Prop}(hb:Ycz e f env (eval e env)=eval e env)
  (h:wpAny (model prog w) A (eval e env) (fun o s₁=>wpAny (model prog w) A (getAttr o f true) Q E s₁) E s):wpAny (model prog w) A (eval (.Attribute e f pos) env) Q E s:=
 Attribute_any_ h (by rw [arm_eval_Attribute,hb])
end

section
variable {X:Cx}{o e value:Expr}{f:Str}{pos pos' tpos:Pos}{ta tv:TE}
end

section
variable {X:Cx}{pins:List (Addr×Obj)}{σ:St}{H:Hp}{s:Shared}{A:Around}{E:Value->Shared->Prop}{Q:Value->Shared->Prop}{c:Value}{b:Bool}
inductive TyOf (K : Yac)(H : Hp) : V -> Value -> Prop where
  | non : TyOf K H .non (.type "NoneType")
  | bl (x : Bool) : TyOf K H (.bl x) (.type "bool")
  | int (i : Int) : TyOf K H (.int i) (.type "int")
  | str (x : Str) : TyOf K H (.str x) (.type "str")
  | flt (x : UInt64) : TyOf K H (.flt x) (.type "float")
  | lst {a : Addr} {xs : List V} (e : H a = some (.lst xs)) : TyOf K H (.ref a) (.type "list")
  | frz {a : Addr} {o : Obj} {xs : List V} (e : H a = some (.frz o (.lst xs))) : TyOf K H (.ref a) (.type "list")
  | tup {a : Addr} {xs : List V} (e : H a = some (.tup xs)) : TyOf K H (.ref a) (.type "tuple")
  | dK {a : Addr} {kvs : List (Key × V)} (e : H a = some (.dK kvs)) : TyOf K H (.ref a) (.type "dict")
  | dT {a : Addr} {kvs : List (List Key × V)} (e : H a = some (.dT kvs)) : TyOf K H (.ref a) (.type "dict")
  | ins {a C dx : Addr} {fs : List (Str × V)} (e : H a = some (.ins C dx fs)) (cl : Cls K C) (ha : Ydm K (.ref C) "__class__" = some (some (.builtin "object.__class__")))
      (hn : Yfy K (.builtin "object.__class__") "__get__" = some (some (.builtin "getset_descriptor.__get__"))) (htk : PySem.W.takesIn K (.builtin "object.__class__") = some true)
      (hm : PySem.W.mroIn K C (.type "object") = some true) : TyOf K H (.ref a) (.ref C)
end

structure Room (k:Nat)(A:Around):Prop where
 hd:A.handled=none
 dp:A.depth + k + 20 < recursionLimit
 un:A.units + 8 * k + 200 < cLine
 gd:A.guards=some []
theorem Room.mono {j k:Nat}{A:Around}(r:Room k A)(h:j<=k):Room j A:=⟨r.hd,by have:=r.dp; omega,by have:=r.un; omega,r.gd⟩
theorem Room.deeper {k:Nat}{A:Around}(r:Room (k + 1) A)(env:Env):Room k (A.deeper env):=
 ⟨r.hd,by have:=r.dp; show A.depth + 1 + k + 20 < _; omega,by have:=r.un; show A.units + 3 + 8 * k + 200 < _; omega,r.gd⟩
theorem jf2 {A:Around}{C:Addr}{us:List Value}{kw:List (Str×Value)}:(A.under (.builtin "type.__call__" ⟨.ref C::us,kw⟩)).depth=A.depth + 1:=by
 first | rfl | simp [Yfb,Code.weight,Code.isCreation,Code.isGuard,Code.isCaller,Code.frames,Yfr,guardIds]
theorem jf1 {A:Around}{C:Addr}{us:List Value}{kw:List (Str×Value)}:(A.under (.builtin "type.__call__" ⟨.ref C::us,kw⟩)).units=A.units + 1:=by
 first | rfl | simp [Yfb,Code.cUnits,Code.frames,Yfr]
theorem Room.make {k:Nat}{A:Around}(r:Room (k + 1) A)(C:Addr)(us:List Value)(kw:List (Str×Value)):Room k (A.under (.builtin "type.__call__" ⟨.ref C::us,kw⟩)):=
 ⟨r.hd,by have:=r.dp; rw [jf2]; omega,by have:=r.un; rw [jf1]; omega,r.gd⟩
theorem Room.depth {k:Nat}{A:Around}(r:Room k A):A.depth < recursionLimit:=by have:=r.dp; omega
theorem Room.units {k:Nat}{A:Around}(r:Room k A):A.units + 64 < cLine:=by have:=r.un; omega
theorem Room.units0 {k:Nat}{A:Around}(r:Room k A):A.units < cLine:=by have:=r.un; omega

noncomputable def tNil:TA:=fun _ H Q=>Q [] H
noncomputable def jnr (ta:TE)(tr:TA):TA:=fun σ H Q=>ta σ H fun x H1=>tr σ H1 fun xs H2=>Q (x::xs) H2
section
variable {X:Cx}{e:Expr}{es:List Expr}{te:TE}{t:TA}{pos:Pos}
theorem jc2:PA X [] tNil:=fun _ _ _ _ H Q I h=>Calls.spliced_nil ⟨[],H,I,.nil,h⟩
theorem ja4 (ha:PE X e te)(hr:PA X es t)(hs:YaM (e::es) X.env=(false,eval e X.env)::YaM es X.env:=by rfl):PA X (e::es) (jnr te t):=by
 intro pos pins s σ H Q I h
 rw [hs]
 show wpAny _ _ (spliced ((false,eval e X.env)::backTo pos (YaM es X.env))) _ _ s
 refine YfQ (thn (ha pins s σ H _ I h) fun u s1 ⟨x,H1,I1,r1,q1⟩=>?_)
 exact thn (hr pos pins s1 σ H1 _ I1 q1) fun us s2 ⟨xs,H2,I2,r2,q2⟩=>⟨x::xs,H2,I2,.cons r1 r2,q2⟩

noncomputable def tTup (t:TA):TE:=fun σ H Q=>t σ H fun xs H1=>xs.length<=Yan/\∀ p,H1 p=none->Q (.ref p) (upd H1 p (.tup xs))
noncomputable def tLst (t:TA):TE:=fun σ H Q=>t σ H fun xs H1=>xs.length<=Yan/\∀ p,H1 p=none->Q (.ref p) (upd H1 p (.lst xs))
theorem jgD {x1}(h:PA X es t):PE X (.Tuple es x1 pos) (tTup t):=by
 intro pins s σ H Q I hq
 refine wpAny_Tuple_spliced (thn (h pos pins s σ H _ I hq) fun us s1 ⟨xs,H1,I1,r,z,q⟩=>⟨by rw [<- r.length]; exact z,?_⟩)
 have hf:H1 s1.heap.objs.size=none:=I1.hok.fresh (Yak _)
 refine ⟨.ref s1.heap.objs.size,upd H1 s1.heap.objs.size (.tup xs),I1.laid (t':=s1.toks) (fun b u e=>Yaf _ e) (Yak _) ?_,rfl,q _ hf⟩
 exact ⟨z,us,r,⟨_,YaR _ rfl,rfl,_,rfl,rfl⟩⟩
theorem jiD (h:PA X es t):PE X (.List es pos) (tLst t):=by
 intro pins s σ H Q I hq
 refine wpAny_List_spliced (thn (h pos pins s σ H _ I hq) fun us s1 ⟨xs,H1,I1,r,z,q⟩=>⟨by rw [<- r.length]; exact z,?_⟩)
 have hf:H1 s1.heap.objs.size=none:=I1.hok.fresh (Yak _)
 refine ⟨.ref s1.heap.objs.size,upd H1 s1.heap.objs.size (.lst xs),I1.laid (t':=s1.toks) (fun b u e=>Yaf _ e) (Yak _) ?_,rfl,q _ hf⟩
 exact ⟨z,us,0,r,YaR _ rfl⟩
end

noncomputable abbrev Sp:=List V->Hp->VK->XK->Prop
noncomputable abbrev CXT:=List Env->Hp->Shared->XK->Value->Shared->Prop

structure Env0 (P:Program)(w:World)(K:Yac)(mg:Str->Option Value)(base:Heap)(A:Around)(outer:List Env)(s:Shared)(H:Hp):Prop where
 frames:A.frames=some outer
 mod:Mod K mg base
 bs:∀ b o,base.get? b=some o->s.heap.get? b=some o/\H b=none
 bsz:base.objs.size<=s.heap.objs.size
 funs:s.heap.FunFrames base outer
 frf:∀ b∈frs outer,H b=none
 hok:HOk P w H s.heap
 bare:AllBare s.gens
noncomputable def CE (outer:List Env)(P:Program)(w:World)(H:Hp)(s:Shared)(Q:VK)(u:Value)(s':Shared):Prop:=
 ∃ v H',s'.os=s.os/\AllBare s'.gens/\Un (frs outer) [] H H' s.heap s'.heap/\HOk P w H' s'.heap/\RelV v u/\Q v H'
noncomputable def CR (CX:CXT)(outer:List Env)(P:Program)(w:World)(H:Hp)(s:Shared)(Q:VK)(E:XK)(r:Result)(s':Shared):Prop:=
 match r with
 | .ok (.ret u)=>CE outer P w H s Q u s'
 | .ok _=>False
 | .error e=>CX outer H s E e s'
structure FnOk (P:Program)(w:World)(K:Yac)(mg:Str->Option Value)(base:Heap)(CX:CXT)(k:Nat)(f:Addr)(fd:YbT)(ps:List Str)(sp:Sp):Prop where
 len:∀ vs H Q E,sp vs H Q E->vs.length=ps.length
 run:∀ (A:Around) (outer:List Env) (s:Shared) (H:Hp) (args:Args) (us:List Value) (vs:List V) (Q:VK) (E:XK),Room k A->Env0 P w K mg base A outer s H->BindsTo s fd args (ps.zip us)->Vals vs us->sp vs H Q E->
  codeAny (model P w) A (.call (.ref f) args) (CR CX outer P w H s Q E) s
theorem Env0.make {P:Program}{w:World}{K:Yac}{mg:Str->Option Value}{base:Heap}{A:Around}{outer:List Env}{s:Shared}{H:Hp}(e:Env0 P w K mg base A outer s H)(C:Addr)(us:List Value)(kw:List (Str×Value)) :
  Env0 P w K mg base (A.under (.builtin "type.__call__" ⟨.ref C::us,kw⟩)) outer s H:=⟨by first | exact e.frames | (simpa [Yfb,Code.envs,Yfr,pushEnvs] using e.frames),e.mod,e.bs,e.bsz,e.funs,e.frf,e.hok,e.bare⟩
section
variable {X:Cx}{pins:List (Addr×Obj)}{σ:St}{H:Hp}{s s':Shared}
theorem Inv.env0 (I:Inv X pins σ H s):Env0 X.prog X.w X.K X.mg X.base X.A X.stack s H:=
 ⟨I.ok.frames,I.ok.mod,I.bs,Yaw I.ok.bsz I.sz,I.stack,I.stkFree,I.hok,I.bare⟩
theorem Inv.after {Q:VK}{u:Value}(I:Inv X pins σ H s)(h:CE X.stack X.prog X.w H s Q u s'):EP X pins σ Q u s':=by
 obtain ⟨v,H',os,bare,un,hok,r,q⟩:=h
 obtain ⟨hh,g,d,t,os'⟩:=s'
 obtain rfl:os'=s.os:=os
 exact ⟨v,H',I.call (h':=hh) (g':=g) (d':=d) (t':=t) (ch:=[]) un hok bare (fun b z=>absurd z (by simp)),r,q⟩
end

noncomputable def Binds (K:Yac)(fd:YbT)(ps:List Str)(ds:List Value):Prop:=
 ∀ (s:Shared) (us:List Value),K.In s.heap->(us++ds).length=ps.length->BindsTo s fd ⟨us,[]⟩ (ps.zip (us++ds))
theorem Binds.all {K:Yac}{fd:YbT}{ps:List Str}(h:∀ us:List Value,us.length=ps.length->bindArgs fd ⟨us,[]⟩=pure (ps.zip us)):Binds K fd ps []:=fun s us _ hl=>by
 rw [Ya7] at hl ⊢
 exact .of_eq (h us hl)

section
variable {X:Cx}{CX:CXT}{k:Nat}{f C:Addr}{fd:YbT}{ps:List Str}{sp:Sp}{dvs:List V}{ds:List Value}{E:XK}{x m:Str}{p pos apos:Pos}{e o:Expr}{es:List Expr}{ta:TE}{t:TA}

structure Mk (K:Yac)(C f:Addr):Prop where
 makes:PySem.W.makesIn K C=true
 init:Ydm K (.ref C) "__init__" = some (some (.ref f))
 fn:PySem.W.isFn K (.ref f)=true
 kp:YaN K (.ref C)=true

end

noncomputable def PK (X:Cx)(kws:List Keyword)(t:TA):Prop:=
 ∀ (pos:Pos) (pins:List (Addr×Obj)) (s:Shared) (σ:St) (H:Hp) (Q:List V->Hp->Prop),Inv X pins σ H s->t σ H Q->wpAny (model X.prog X.w) X.A (evalAll ((backToKw pos (Yfg kws X.env)).map (·.2))) (AP X pins σ Q) X.xe s
section
variable {X:Cx}{CX:CXT}{k:Nat}{f C:Addr}{fd:YbT}{ps ks:List Str}{sp:Sp}{E:XK}{x m:Str}{p pos apos kpos:Pos}{e o:Expr}{es:List Expr}{kws:List Keyword}{te ta:TE}{t tk:TA}{nm:Option Str}
theorem pk_nil:PK X [] tNil:=fun _ _ _ _ H Q I h=>wpAny_evalAll_nil ⟨[],H,I,.nil,h⟩
structure KBinds (K:Yac)(fd:YbT)(ps ks:List Str)(g:List Value->List Value->List Value)(gV:List V->List V->List V):Prop where
 to:∀ (s:Shared) (us ws:List Value),K.In s.heap->(g us ws).length=ps.length->BindsTo s fd ⟨us,ks.zip ws⟩ (ps.zip (g us ws))
 rel:∀ {vs:List V} {us:List Value} {zs:List V} {ws:List Value},Vals vs us->Vals zs ws->Vals (gV vs zs) (g us ws)
variable {g:List Value->List Value->List Value}{gV:List V->List V->List V}
end

structure FnScope (N P:List Str)(sc:Scope):Prop where
 kind:sc.kind=.function
 co:sc.isCoroutine=false
 gen:sc.isGenerator=false
 nd:N.Nodup
 pre:N.take P.length=P
 par:∀ x∈P,sc.names.lookup x=some .local\/sc.names.lookup x=some .cell
 nofree:∀ y∈sc.names,y.2≠.free

theorem jek {kindOf:Str->Option YbR}{x:Str}:∀ {binds:List (Str×Value)} {m:Str->Option Value},(∀ v,(x,v)∉binds)->bindL kindOf binds m x=m x
 | [],_,_=>rfl
 | (n,v)::r,m,h=>by
  unfold bindL
  rw [jek fun w hw=>h w (Yap _ hw)]
  split
  ·have:x≠n:=by rintro rfl; exact h v YaH
   simp [this]
  ·rfl
theorem jem {kindOf:Str->Option YbR}{x:Str}:∀ {binds:List (Str×Value)} {m:Str->Option Value},(∀ v,(x,v)∉binds)->bindC kindOf binds m x=m x
 | [],_,_=>rfl
 | (n,v)::r,m,h=>by
  unfold bindC
  rw [jem fun w hw=>h w (Yap _ hw)]
  split
  ·rfl
  ·have:x≠n:=by rintro rfl; exact h v YaH
   simp [this]
theorem jel {kindOf:Str->Option YbR}{x:Str}{v:Value}:∀ {P:List Str} {vs:List Value} {i:Nat} {m:Str->Option Value},P.Nodup->P[i]?=some x->vs[i]?=some v->kindOf x=some .local->
  bindL kindOf (P.zip vs) m x=some v
 | [],_,_,_,_,h,_,_=>by simp at h
 | _::_,[],_,_,_,_,h,_=>by simp at h
 | p::P,w::vs,0,m,nd,h1,h2,hk=>by
  simp at h1 h2; subst h1; subst h2
  show bindL kindOf ((p,w)::P.zip vs) m p=_
  unfold bindL
  rw [jek fun v hv=>(List.nodup_cons.mp nd).1 (YdJ hv).1,if_pos hk]
  simp
 | p::P,w::vs,i + 1,m,nd,h1,h2,hk=>by
  show bindL kindOf ((p,w)::P.zip vs) m x=_
  unfold bindL
  exact jel (i:=i) (List.nodup_cons.mp nd).2 (by simpa using h1) (by simpa using h2) hk
theorem jen {kindOf:Str->Option YbR}{x:Str}{v:Value}:∀ {P:List Str} {vs:List Value} {i:Nat} {m:Str->Option Value},P.Nodup->P[i]?=some x->vs[i]?=some v->kindOf x≠some .local->
  bindC kindOf (P.zip vs) m x=some v
 | [],_,_,_,_,h,_,_=>by simp at h
 | _::_,[],_,_,_,_,h,_=>by simp at h
 | p::P,w::vs,0,m,nd,h1,h2,hk=>by
  simp at h1 h2; subst h1; subst h2
  show bindC kindOf ((p,w)::P.zip vs) m p=_
  unfold bindC
  rw [jem fun v hv=>(List.nodup_cons.mp nd).1 (YdJ hv).1,if_neg hk]
  simp
 | p::P,w::vs,i + 1,m,nd,h1,h2,hk=>by
  show bindC kindOf ((p,w)::P.zip vs) m x=_
  unfold bindC
  exact jen (i:=i) (List.nodup_cons.mp nd).2 (by simpa using h1) (by simpa using h2) hk

noncomputable def start (N:List Str)(vs:List V):St:=vs.map some++Yaq (N.length - vs.length) none

noncomputable def cxOf (CX:CXT)(P:Program)(w:World)(K:Yac)(mg:Str->Option Value)(base:Heap)(N:List Str)(qual:Str)(scope:Scope)(f:Addr)(cd:Value)(A:Around)(outer:List Env)(s:Shared)(H:Hp)(E:XK):Cx where
 prog:=P
 w:=w
 K:=K
 mg:=mg
 base:=base
 A:=A.deeper (envOfC qual scope s.heap.objs.size f cd)
 N:=N
 s₀:=s
 H₀:=H
 env:=envOfC qual scope s.heap.objs.size f cd
 outer:=outer
 stack:=envOfC qual scope s.heap.objs.size f cd::outer
 ex:=[]
 calm:=true
 fn:=fun _=>true
 pn:=[]
 xe:=fun e s'=>wpAny (model P w) (A.deeper (envOfC qual scope s.heap.objs.size f cd)) (leaving (envOfC qual scope s.heap.objs.size f cd) e) (fun _ s''=>CX outer H s E e s'') (fun e' s''=>CX outer H s E e' s'') s'

theorem jdG {sc:Scope}{n:Nat}{x:Str}(h:sc.names.lookup x=some .cell):∃ c,(YbG n sc.names []).lookup x=some c:=by
 have q:=Ydx sc.names n [] (.inl h)
 exact Option.isSome_iff_exists.mp q

theorem jd5 {CX : CXT}{P : Program}{w : World}{K : Yac}{mg : Str -> Option Value}{base : Heap}{N ps : List Str}{qual : Str}{scope : Scope}{f : Addr}{cd : Value}{A : Around}{outer : List Env}{s s1 : Shared}{H : Hp}{E : XK}{us : List Value}{vs : List V}
    (S : FnScope N ps scope) (hd : A.handled = none) (e0 : Env0 P w K mg base A outer s H) (hl : vs.length = ps.length) (r : Vals vs us)
    (x : InCallC s s.heap.objs.size (bindL (envOfC qual scope s.heap.objs.size f cd).kindOf (ps.zip us) fun _ => none) (YbG (s.heap.objs.size + 1) scope.names []) (bindC (envOfC qual scope s.heap.objs.size f cd).kindOf (ps.zip us) fun _ => none) s1) :
    Inv (cxOf CX P w K mg base N qual scope f cd A outer s H E) [] (start N vs) H s1 := by
  have hpl : ps.length <= N.length := by have := congrArg YeC S.pre; rw [Ybe] at this; omega
  obtain ⟨h1, tk, rfl, hk⟩ := x.done
  have noA : ∀ b : Addr, b ∉ (cxOf CX P w K mg base N qual scope f cd A outer s H E).ex := fun b z => absurd (show b ∈ ([] : List Addr) from z) (by simp)
  refine ⟨⟨e0.mod, S.kind, rfl, rfl, Yak _, fun y z c h1 h2 => ?_, fun y hy => ?_, fun y c _ h => ?_, fun _ => hd, Around.frames_deeper e0.frames, .inr ⟨rfl, rfl⟩, fun b z => absurd z (noA b), e0.bs, e0.bsz, fun b _ _ => noA b, fun b z => absurd z (noA b), e0.funs, e0.frf⟩,
    rfl, e0.bare, Un.kept hk, ⟨_, x.toInCall.ns, fun i y v h1 h2 h3 => ?_⟩, fun y c h => ⟨_, x.cell y c h⟩, e0.hok.fresh (Yak _), fun y c h => ?_, fun p hp => absurd (show p ∈ ([] : List (Addr × Obj)) from hp) (by simp), e0.hok.kept hk, ?_⟩
  · exact name_of_addr x.apart (Ya1 h1) (Ya1 h2)
  · have hy : scope.names.lookup y = some .cell \/ scope.names.lookup y = some .free := hy
    rcases hy with hy | hy
    · exact jdG hy
    · exact absurd rfl (S.nofree _ (Ya1 hy))
  · exact Ycq (x.above y c (Ya1 h))
  · have hi : i < vs.length := by
      unfold start at h2
      by_cases hi : i < vs.length
      · exact hi
      · rw [Ybt (by simpa using hi)] at h2
        rw [Ye6] at h2
        split at h2 <;> cases h2
    have ha : vs[i]? = some v := by
      unfold start at h2
      rw [Ybw (by simpa using hi), YaE] at h2
      cases e : vs[i]? with
      | none => rw [e] at h2; cases h2
      | some a => rw [e] at h2; cases h2; rfl
    obtain ⟨u, hu, rv⟩ := r.get ha
    have hp : ps[i]? = some y := by
      rw [<- S.pre, Ye1 (by omega)]; exact h1
    have ndP : ps.Nodup := by rw [<- S.pre]; exact S.nd.sublist (Yf7 _ _)
    refine ⟨u, rv, ?_⟩
    rcases S.par y (YaD hp) with k | k
    · exact .inl ⟨k, jel ndP hp hu k⟩
    · obtain ⟨c, e⟩ := jdG (n := s.heap.objs.size + 1) k
      refine .inr ⟨.inl k, c, e, ?_⟩
      have q := x.cell y c e
      rw [jen ndP hp hu (by show scope.names.lookup y ≠ _; rw [k]; decide)] at q
      exact q
  · exact e0.hok.fresh (Ycq (x.above y c (Ya1 h)))
  · unfold start
    show _ = N.length
    rw [Ya2, Yai, List.length_replicate]
    omega

theorem jn7 {CX:CXT}{P:Program}{w:World}{K:Yac}{mg:Str->Option Value}{base:Heap}{k:Nat}{f:Addr}{name qual:Str}{params:Yfk}{body:List Stmt}{scope:Scope}{dV kV doc pm cdv ct oc:Value}{an od:Option Addr}
  {osl:Array (Option Value)} {N ps:List Str} {sp:Sp} (lk:K.lookup f=some ⟨oc,od,.func (YaX name qual params body scope dV kV doc pm an cdv ct),osl⟩) (hcd:Ya0 K cdv qual=true) (S:FnScope N ps scope)
  (len:∀ vs H Q E,sp vs H Q E->vs.length=ps.length)
  (hbody:∀ (A:Around) (outer:List Env) (s:Shared) (H:Hp) (vs:List V) (Q:VK) (E:XK),Room k (A.deeper (envOfC qual scope s.heap.objs.size f cdv))->sp vs H Q E->
   ∃ t,PSs (cxOf CX P w K mg base N qual scope f cdv A outer s H E) body t/\t { nx:=fun _ H'=>Q .non H',rt:=Q } (start N vs) H) :
  FnOk P w K mg base CX (k + 1) f (YaX name qual params body scope dV kV doc pm an cdv ct) ps sp:=by
 refine ⟨len,fun A outer s H args us vs Q E hr e0 hb r hsp=>?_⟩
 have hl:=len _ _ _ _ hsp
 have KX:K.In s.heap:=e0.mod.kin.keeps fun b o e=>(e0.bs b o e).1
 have lim:s.heap.NoLimit:=e0.mod.nolimit.keeps fun b o e=>(e0.bs b o e).1
 have hkind:∀ y∈ps.zip us,scope.names.lookup y.1=some .local\/(scope.names.lookup y.1=some .cell/\((YbG (s.heap.objs.size + 1) scope.names []).lookup y.1).isSome=true):=fun ⟨n,v⟩ hy=>by
  rcases S.par n (YdJ hy).1 with q | q
  ·exact .inl q
  ·exact .inr ⟨q,Ydx _ _ _ (.inl q)⟩
 refine Ygg hr.depth (KX _ _ lk) rfl S.co S.gen rfl (Yfm KX hcd) (hb _ _ _ _ ?_)
 refine Yfl S.kind hkind fun env he s1 x=>?_
 subst he
 refine ⟨lim.keeps x.toInCall.keep,codeAny_func ?_⟩
 obtain ⟨t,ht,hq⟩:=hbody A outer s H vs Q E (hr.deeper _) hsp
 have I:Inv (cxOf CX P w K mg base N qual scope f cdv A outer s H E) [] (start N vs) H s1:=jd5 S hr.hd e0 hl r x
 refine Ybc (ht [] s1 (start N vs) H _ I hq) (fun fl s' hs=>?_) fun e s' hs=>hs
 have fin:∀ {σ':St} {H':Hp} {v:V} {u:Value},Inv (cxOf CX P w K mg base N qual scope f cdv A outer s H E) [] σ' H' s'->RelV v u->Q v H'->CE outer P w H s Q u s':=
  fun {σ' H' v u} J rv q=>⟨v,H',J.os,J.bare,J.base,J.hok,rv,q⟩
 cases fl with
 | ret u=>
  obtain ⟨v,σ',H',J,rv,q⟩:=hs
  exact fin J rv q
 | next=>
  obtain ⟨σ',H',J,q⟩:=hs
  exact fin (v:=V.non) (u:=Yaj) J rfl q
 | brk=>
  obtain ⟨_,_,_,q⟩:=hs
  exact YcC q
 | cont=>
  obtain ⟨_,_,_,q⟩:=hs
  exact YcC q
section
variable {X:Cx}{x:Str}{p pos:Pos}{e:Expr}{es:List Expr}{t:TA}{id T:String}{r:List V->Hp->VK->Prop}

noncomputable def tCB (r:List V->Hp->VK->Prop)(t:TA):TE:=fun σ H Q=>t σ H fun vs H1=>r vs H1 Q
theorem jcn (hc:ja2 X (.builtin id) r)(hg:Gl X x)(hm:X.mg x=none)(hv:YcR x=some (.builtin id))(ha:PA X (e::es) t)(hn:x ≠ "__name__" := by decide)(hdb:(x == ("__debug__" : Str))=false:=by decide)
  (he:YaM (e::es) X.env=(false,eval e X.env)::YaM es X.env:=by rfl) (hpl:(backTo pos (YaM es X.env)).any (·.1)=false:=by rfl):PE X (.Call (.Name x p) (e::es) [] pos) (tCB r t):=by
 intro pins s σ H Q I h
 refine Ycr (jc9 I hg hm hv ?_ hn hdb)
 exact PyProof.Rows.callWith_builtin1 (thn (ha pos pins s σ H _ I h) fun us s1 ⟨vs,H1,I1,r1,q1⟩=>hc pins s1 σ H1 vs us Q I1 r1 q1) he hpl
theorem jcy (hc:ja2 X (.type T) r)(hg:Gl X x)(hm:X.mg x=none)(hv:YcR x=some (.type T))(ha:PA X (e::es) t)(hn:x ≠ "__name__" := by decide)(hdb:(x == ("__debug__" : Str))=false:=by decide)
  (he:YaM (e::es) X.env=(false,eval e X.env)::YaM es X.env:=by rfl) (hpl:(backTo pos (YaM es X.env)).any (·.1)=false:=by rfl):PE X (.Call (.Name x p) (e::es) [] pos) (tCB r t):=by
 intro pins s σ H Q I h
 refine Ycr (jc9 I hg hm hv ?_ hn hdb)
 exact Yca (thn (ha pos pins s σ H _ I h) fun us s1 ⟨vs,H1,I1,r1,q1⟩=>hc pins s1 σ H1 vs us Q I1 r1 q1) he hpl
end
end L2

namespace HT
open PySem PyProof.Rows

noncomputable def lexLt:List Int->List Int->Bool
 | [],[]=>false
 | [],_::_=>true
 | _::_,[]=>false
 | x::xs,y::ys=>if x=y then lexLt xs ys else decide (x < y)
theorem lexLt_cons (x y:Int)(xs ys:List Int):lexLt (x::xs) (y::ys)=if x=y then lexLt xs ys else decide (x < y):=rfl
theorem lexLt_nil_nil:lexLt [] []=false:=rfl
theorem lexLt_nil_cons (y:Int)(ys:List Int):lexLt [] (y::ys)=true:=rfl
theorem lexLt_cons_nil (x:Int)(xs:List Int):lexLt (x::xs) []=false:=rfl

theorem eqAt_int (A:Around)(s:Shared)(a:Int)(t:Tok)(c:Int)(u:Tok):∃ e,YeP A s (.int a t) (.int c u) e/\(e=true↔a=c):=
 ⟨(a == c),Ye0 a t c u,by simp⟩
theorem rcLt_int (A:Around)(s:Shared)(a:Int)(t:Tok)(c:Int)(u:Tok)(prog:Program)(w:World)(E:Value->Shared->Prop)(Q:Value->Shared->Prop)(h:Q (.bool (decide (a < c))) s) :
  wpAny (model prog w) A (richCompare .Lt (.int a t) (.int c u)) Q E s:=
 (PyProof.Rows.lt_int h:wpAny (model prog w) A (YbM .Lt (.int a t) (.int c u)) Q E s)

section
open PySem.SeqAt
open PySem.AutoSeq1 (wpAny_loadPart')
open PySem.MeetsSeq PySem.MeetsSeq2 PySem.MeetsSeq3

end

section
variable {prog:Program}{w:World}{A:Around}{E:Value->Shared->Prop}{s:Shared}

theorem cat_tup {t b : Addr}{vs ws : List Value}{Q : Value -> Shared -> Prop}(ht : IsTup s.heap t vs.toArray)(hb : IsTup s.heap b ws.toArray)(hv : vs ≠ [])
    (h1 : ws = [] -> Q (.ref t) s) (h2 : ws ≠ [] -> Q (.ref s.heap.objs.size) { s with heap := s.heap.push { cls := .type "tuple", data := .seq (vs ++ ws).toArray } })
    (hsz : vs.length + ws.length <= Yan) : wpAny (model prog w) A (YbF .Add (.ref t) (.ref b)) Q E s := by
  obtain ⟨⟨cls, dd, data, sl⟩, ho, hc, n, hd⟩ := id ht
  obtain ⟨⟨cls2, dd2, data2, sl2⟩, ho2, hc2, n2, hd2⟩ := id hb
  simp only at hc hd hc2 hd2
  subst hc hd hc2 hd2
  have e : vs.toArray ++ ws.toArray = (vs ++ ws).toArray := by simp
  by_cases hw : ws = []
  · exact Ygf ⟨_, ho, rfl⟩ ⟨_, ho2, rfl⟩ YeW YfV Ydy Ydu (Ydq _ _)
      (tuple_addW1 t b vs.toArray ws.toArray n n2 dd dd2 sl sl2 (by simpa using hv) (by simp [hw])) ⟨ho, ho2, h1 hw⟩
  · refine Ygf ⟨_, ho, rfl⟩ ⟨_, ho2, rfl⟩ YeW YfV Ydy Ydu (Ydq _ _)
      (tuple_addW2 t b vs.toArray ws.toArray n n2 dd dd2 sl sl2 (by simpa using hv) (by simpa using hw) (by rw [Yat, Yat]; exact hsz)) ⟨ho, ho2, ?_⟩
    rw [e]
    exact h2 hw

noncomputable def sIx (n d:Nat):Option Int->Nat
 | none=>d
 | some v=>if v < 0 then (v + (n:Int)).toNat else min v.toNat n
theorem sIx_none (n d:Nat):sIx n d none=d:=rfl
theorem sIx_nat (n d k:Nat):sIx n d (some (k:Int))=min k n:=by
 show (if (k:Int) < 0 then ((k:Int) + (n:Int)).toNat else min (k:Int).toNat n)=min k n
 rw [if_neg (by omega),Yc2]
theorem jk9 (n d:Nat)(hd:d<=n)(o:Option Int):sIx n d o<=n:=by
 cases o with
 | none=>exact hd
 | some v=>
  show (if v < 0 then (v + (n:Int)).toNat else min v.toNat n)<=n
  by_cases hv:v < 0
  ·rw [if_pos hv]; omega
  ·rw [if_neg hv]; exact Nat.min_le_right _ _
theorem jhd (v:Int)(n d:Nat):(if v < 0 then max (v + (n:Int)) 0 else min v (n:Int))=((sIx n d (some v):Nat):Int):=by
 show (if v < 0 then max (v + (n:Int)) 0 else min v (n:Int))=(((if v < 0 then (v + (n:Int)).toNat else min v.toNat n):Nat):Int)
 by_cases hv:v < 0
 ·simp only [if_pos hv]; omega
 ·simp only [if_neg hv]; omega
theorem jga (lo hi:Option Int)(n:Nat):YbN lo hi 1 (n:Int)=(((sIx n 0 lo:Nat):Int),((sIx n n hi:Nat):Int)):=by
 have h1:¬ ((1:Int) < 0):=by omega
 unfold YbN
 simp only [h1,if_false]
 refine Prod.ext ?_ ?_
 ·cases lo with
  | none=>rfl
  | some v=>exact jhd v n 0
 ·cases hi with
  | none=>rfl
  | some v=>exact jhd v n n
theorem jfS (i j:Nat):Ybi (i:Int) (j:Int) 1=j - i:=by
 unfold Ybi
 have h1:(1:Int) > 0:=by omega
 simp only [h1,if_true,YfG]
 split <;> omega
theorem ja0 {v:Value}{o:Option Int}{Q:Option Int->Shared->Prop}(p:IsPart v o)(h:Q o s):wpAny (model prog w) A (Builtin.Slice.slicePartIndex v) Q E s:=by
 cases p with
 | none=>exact slicePart_none h
 | int i t=>exact slicePart_int h
theorem ja6 {sl:Addr}{vl vu:Value}{lo hi:Option Int}{n:Nat}{Q:Int×Int×Nat->Shared->Prop}(hs:s.heap.IsSliceOf sl vl vu .none)(pl:IsPart vl lo)(pu:IsPart vu hi)
  (h:Q (((sIx n 0 lo:Nat):Int),1,sIx n n hi - sIx n 0 lo) s):wpAny (model prog w) A (Yce (.ref sl) (pure (n:Int))) Q E s:=by
 obtain ⟨os,hos,hcs,hds⟩:=id hs
 unfold Yce Yd4
 refine Yab (Yab (Ych hos hds (x:=vl) rfl (Yab (Ych hos hds (x:=vu) rfl (Yab (Ych hos hds (x:=.none) rfl (Yam ?_)))))))
 refine Yab (slicePart_none ?_)
 show wpAny _ _ (if ((1:Int) == 0)=true then _ else _) _ _ s
 rw [if_neg (by decide)]
 refine Yab (ja0 pl (Yab (ja0 pu (Yab (Yam ?_)))))
 show wpAny _ _ (match YbN lo hi 1 (n:Int) with | (lo,hi)=>pure (lo,(1:Int),Ybi lo hi 1)) _ _ s
 rw [jga lo hi n]
 show wpAny _ _ (pure (((sIx n 0 lo:Nat):Int),(1:Int),Ybi ((sIx n 0 lo:Nat):Int) ((sIx n n hi:Nat):Int) 1)) _ _ s
 rw [jfS]
 exact Yam h
theorem jhP (xs:Array Value)(i k:Nat):((YaV k).filterMap fun (m:Nat)=>xs[((i:Int) + (m:Int) * 1).toNat]?).toArray=((xs.toList.drop i).take k).toArray:=by
 have e:(fun (m:Nat)=>xs[((i:Int) + (m:Int) * 1).toNat]?)=fun m=>xs[i + m]?:=by
  funext m
  have:((i:Int) + (m:Int) * 1).toNat=i + m:=by omega
  rw [this]
 rw [e]
 have:=pick_run xs i k
 rw [Yd8] at this
 have e2:((fun x=>xs[x]?) ∘ fun x=>i + x)=fun m=>xs[i + m]?:=rfl
 rw [e2] at this
 rw [this]

theorem getItem_tuple_cut {t sl:Addr}{items:Array Value}{vl vu:Value}{lo hi:Option Int}{Q:Value->Shared->Prop}(ht:IsTup s.heap t items)(hs:s.heap.IsSliceOf sl vl vu .none)(pl:IsPart vl lo)(pu:IsPart vu hi)
  (hw:¬ (sIx items.size 0 lo=0/\sIx items.size items.size hi=items.size))
  (h:Q (.ref s.heap.objs.size) { s with heap:=s.heap.push { cls:=.type "tuple",data:=.seq ((items.toList.drop (sIx items.size 0 lo)).take (sIx items.size items.size hi - sIx items.size 0 lo)).toArray } })
  (hsz:items.size<=Yan):wpAny (model prog w) A (getItem (.ref t) (.ref sl)) Q E s:=by
 have htake:sizeOk (.seq ((items.toList.drop (sIx items.size 0 lo)).take (sIx items.size items.size hi - sIx items.size 0 lo)).toArray):=by
  show ((items.toList.drop (sIx items.size 0 lo)).take (sIx items.size items.size hi - sIx items.size 0 lo)).toArray.size<=Yan
  rw [Yat,Ybe,Ybo,YaQ]
  omega
 have hj:sIx items.size items.size hi<=items.size:=jk9 _ _ (Yak _) hi
 obtain ⟨os,hos,hcs,hds⟩:=id hs
 have hTs:s.TypeIs (.ref sl) "slice" := ⟨os,hos,hcs⟩
 unfold getItem
 try with_reducible refine Yb5 ?_
 first | refine Yab (Yam ?_) | skip
 refine Yab (YeH ht.typeIs (by decide) ?_)
 refine Yab (YcX (name:=Yaa "__getitem__") ht.typeIs Ybm
  (YcJ Ybm ht.typeIs Yed ?_ (Yex _ _)))
 show wpAny _ _ (Yc3 (.ref t) >>= _) _ _ s
 refine Yab (YfU ht ?_)
 refine Yab (Yd0 hTs ?_)
 rw [if_pos (by decide)]
 refine Yab (ja6 hs pl pu ?_)
 have hno:¬ ((((sIx items.size 0 lo:Nat):Int) == 0 && (1:Int) == 1 && (sIx items.size items.size hi - sIx items.size 0 lo) == items.size)=true):=by
  intro q
  rw [YaP,YaP] at q
  have q1:((sIx items.size 0 lo:Nat):Int)=0:=eq_of_beq q.1.1
  have q2:sIx items.size items.size hi - sIx items.size 0 lo=items.size:=eq_of_beq q.2
  exact hw ⟨by omega,by omega⟩
 show wpAny _ _ (if (((sIx items.size 0 lo:Nat):Int) == 0 && (1:Int) == 1 && (sIx items.size items.size hi - sIx items.size 0 lo) == items.size)=true then _ else _) _ _ s
 rw [if_neg hno,jhP]
 first
  | exact Yab (m:=Ybl _) (Ybg (Yam ⟨_,rfl,Yam h⟩) htake)
  | exact Yab (m:=Ybl _) (Ybg (Yab (Yam (Yam ⟨_,rfl,Yam h⟩))) htake)
  | exact Yab (Yab (m:=Ybl _) (Ybg (Yam (Yam ⟨_,rfl,Yam h⟩)) htake))
  | exact Yab (Yab (m:=Ybl _) (Ybg (Yam ⟨_,rfl,Yam h⟩) htake))
end
end HT

namespace L2
open PySem PySem.Spec PyProof.Rows

noncomputable abbrev TO:=St->Hp->(Option Int->Hp->Prop)->Prop
noncomputable def PO (X:Cx)(e:Option Expr)(t:TO):Prop:=
 ∀ (pins:List (Addr×Obj)) (s:Shared) (σ:St) (H:Hp) (Q:Option Int->Hp->Prop),Inv X pins σ H s->t σ H Q->
  wpAny (model X.prog X.w) X.A (evalPart e X.env) (fun u s'=>∃ o H',Inv X pins σ H' s'/\IsPart u o/\Q o H') X.xe s
noncomputable def jjh:TO:=fun _ H Q=>Q none H
noncomputable def jnl (t:TE):TO:=fun σ H Q=>t σ H fun x H1=>∃ i,x=.int i/\Q (some i) H1

section
variable {X:Cx}{e:Expr}{te:TE}{lo hi:Option Expr}{tl th:TO}{pos p2:Pos}

theorem jjG:PO X none jjh:=by
 intro pins s σ H Q I h
 rw [YfW]
 exact Yam ⟨none,H,I,.none,h⟩
theorem jjF (h:PE X e te):PO X (some e) (jnl te):=by
 intro pins s σ H Q I hw
 rw [evalPart_some]
 refine thn (h pins s σ H _ I hw) fun u s1 ⟨x,H1,I1,r1,q1⟩=>?_
 obtain ⟨i,rfl,q⟩:=q1
 obtain ⟨t,rfl⟩:=r1
 exact ⟨some i,H1,I1,.int i t,q⟩

noncomputable def SlR (X:Cx)(r:V->Option Int->Option Int->Hp->VK->Prop):Prop:=
 ∀ (pins:List (Addr×Obj)) (s:Shared) (σ:St) (H:Hp) (x:V) (v vl vu:Value) (lo hi:Option Int) (sl:Addr) (Q:VK),Inv X pins σ H s->RelV x v->s.heap.IsSliceOf sl vl vu .none->IsPart vl lo->IsPart vu hi->r x lo hi H Q->
  ∃ T id,Ybp (.type T) "__getitem__" = pure (some (.builtin id))/\s.TypeIs v T/\wpAny (model X.prog X.w) X.A (getItem v (.ref sl)) (EP X pins σ Q) X.xe s
theorem SlR.or {r r':V->Option Int->Option Int->Hp->VK->Prop}(h:SlR X r)(h':SlR X r'):SlR X (fun x lo hi H Q=>r x lo hi H Q\/r' x lo hi H Q):=by
 intro pins s σ H x v vl vu lo hi sl Q I rx hs pl pu q
 rcases q with q | q
 ·exact h pins s σ H x v vl vu lo hi sl Q I rx hs pl pu q
 ·exact h' pins s σ H x v vl vu lo hi sl Q I rx hs pl pu q
noncomputable def tSl (r:V->Option Int->Option Int->Hp->VK->Prop)(te:TE)(tl th:TO):TE:=fun σ H Q=>te σ H fun x H1=>tl σ H1 fun l H2=>th σ H2 fun u H3=>r x l u H3 Q
theorem jhR {r:V->Option Int->Option Int->Hp->VK->Prop}(hr:SlR X r)(he:PE X e te)(hl:PO X lo tl)(hu:PO X hi th):PE X (.Subscript e (.Slice lo hi none p2) pos) (tSl r te tl th):=by
 intro pins s σ H Q I h
 refine Subscript_ (thn (he pins s σ H _ I h) fun v s1 ⟨x,H1,I1,r1,q1⟩=>?_)
 refine wpAny_Slice (thn (hl pins s1 σ H1 _ I1 q1) fun vl s2 ⟨l,H2,I2,pl,q2⟩=>thn (hu pins s2 σ H2 _ I2 q2) fun vu s3 ⟨u,H3,I3,pu,q3⟩=>?_)
 rw [YfW]
 refine Yam ?_
 have I4:Inv X pins σ H3 { s3 with heap:=s3.heap.push { cls:=.type "slice",data:=.fields #[vl,vu,.none] } }:=I3.kept (t':=s3.toks) fun b ob q=>Yaf _ q
 obtain ⟨T,id,hT,ht,hg⟩:=hr pins { s3 with heap:=s3.heap.push { cls:=.type "slice",data:=.fields #[vl,vu,.none] } } σ H3 x v vl vu l u s3.heap.objs.size Q I4 r1 (Heap.IsSliceOf.new ..) pl pu q3
 show wpAny (model X.prog X.w) X.A (Yes e (.Slice lo hi none p2) v (.ref s3.heap.objs.size)) (EP X pins σ Q) X.xe { s3 with heap:=s3.heap.push { cls:=.type "slice",data:=.fields #[vl,vu,.none] } }
 exact tail_any (ops:=[.ref s3.heap.objs.size,v]) ht hT hg (by with_unfolding_all rfl)

noncomputable def cutV (xs:List V)(lo hi:Option Int):List V:=(xs.drop (HT.sIx xs.length 0 lo)).take (HT.sIx xs.length xs.length hi - HT.sIx xs.length 0 lo)
theorem jcO (xs:List V)(lo hi:Option Int):(cutV xs lo hi).length<=xs.length:=by
 unfold cutV
 rw [Ybe,Ybo]
 omega
noncomputable def rSlT (K:Yac):V->Option Int->Option Int->Hp->VK->Prop:=fun x lo hi H Q=>∃ a xs,x=.ref a/\SqT K H a xs/\
 ¬ (HT.sIx xs.length 0 lo=0/\HT.sIx xs.length xs.length hi=xs.length)/\∀ p,H p=none->Q (.ref p) (upd H p (.tup (cutV xs lo hi)))
theorem jk1:SlR X (rSlT X.K):=by
 intro pins s σ H x v vl vu lo hi sl Q I rx hs pl pu h
 obtain ⟨a,xs,rfl,hx,hw,q⟩:=h
 cases rx
 obtain ⟨its,r,ht,hz⟩:=I.tuple hx
 have hlen:its.toArray.size=xs.length:=by rw [Yat]; exact r.length.symm
 refine ⟨"tuple",_,Ybm.lookup,ht.typeIs,?_⟩
 refine HT.getItem_tuple_cut ht hs pl pu (by rw [hlen]; exact hw) ?_ (by rw [hlen]; exact hz)
 rw [hlen]
 refine ⟨.ref s.heap.objs.size,_,I.laid (t':=s.toks) (o:=.tup (cutV xs lo hi)) (fun b ob q=>Yaf _ q) (Yak _) ?_,rfl,q _ (I.hok.fresh (Yak _))⟩
 exact ⟨Yaw (jcO xs lo hi) hz,_,(r.drop (HT.sIx xs.length 0 lo)).take (HT.sIx xs.length xs.length hi - HT.sIx xs.length 0 lo),TupD.new _ _⟩

noncomputable def jnB (K:Yac):R2:=fun x y H Q=>∃ a b xs ys,x=.ref a/\y=.ref b/\SqT K H a xs/\SqT K H b ys/\xs≠[]/\xs.length + ys.length<=Yan/\
 (ys=[]->Q (.ref a) H)/\(ys≠[]->∀ p,H p=none->Q (.ref p) (upd H p (.tup (xs++ys))))
theorem Vals.nil_iff {xs:List V}{us:List Value}(r:Vals xs us):us=[]↔xs=[]:=by
 cases r with
 | nil=>simp
 | cons _ _=>simp
theorem jjX:OpR X (YbF .Add) (jnB X.K):=by
 intro pins s σ H x y v u Q I rx ry h
 obtain ⟨a,b,xs,ys,rfl,rfl,ha,hb,hx,hz,q1,q2⟩:=h
 cases rx
 cases ry
 obtain ⟨its,r1,p1,_⟩:=I.tuple ha
 obtain ⟨its2,r2,p2,_⟩:=I.tuple hb
 refine HT.cat_tup p1 p2 (fun z=>hx (r1.nil_iff.mp z)) (fun z=>⟨.ref a,H,I,rfl,q1 (r2.nil_iff.mp z)⟩) (fun z=>?_) (by rw [<- r1.length,<- r2.length]; exact hz)
 refine ⟨.ref s.heap.objs.size,_,I.laid (t':=s.toks) (o:=.tup (xs++ys)) (fun b ob q=>Yaf _ q) (Yak _) ?_,rfl,q2 (fun w=>z (r2.nil_iff.mpr w)) _ (I.hok.fresh (Yak _))⟩
 exact ⟨by rw [Ya2]; exact hz,_,r1.append r2,TupD.new _ _⟩
end

noncomputable def ixN (n:Nat)(i:Int):Option Nat:=if 0<=i then (if i < n then some i.toNat else none) else if -(n:Int)<=i then some (i + n).toNat else none
noncomputable def atI {α:Type}(xs:List α)(i:Int):Option α:=(ixN xs.length i).bind fun j=>xs[j]?
theorem jgW {n:Nat}{i:Int}{j:Nat}(h:ixN n i=some j):seqIndex? i n=some j/\j < n/\-(n:Int)<=i/\i < n:=by
 unfold ixN at h
 by_cases h0:0<=i
 ·rw [if_pos h0] at h
  by_cases h1:i < n
  ·rw [if_pos h1] at h
   have e:i.toNat=j:=YaU h
   exact ⟨by rw [seqIndex_of h0 h1,e],by omega,by omega,h1⟩
  ·rw [if_neg h1] at h; cases h
 ·rw [if_neg h0] at h
  by_cases h1:-(n:Int)<=i
  ·rw [if_pos h1] at h
   have e:(i + n).toNat=j:=YaU h
   exact ⟨by rw [Ygd (by omega) h1,e],by omega,h1,by omega⟩
  ·rw [if_neg h1] at h; cases h
theorem je1 {α:Type}{xs:List α}{i:Int}{v:α}(h:atI xs i=some v):∃ j,seqIndex? i xs.length=some j/\xs[j]?=some v/\j < xs.length/\-(xs.length:Int)<=i/\i < xs.length:=by
 unfold atI at h
 cases e:ixN xs.length i with
 | none=>rw [e] at h; cases h
 | some j=>
  rw [e] at h
  obtain ⟨h1,h2,h3,h4⟩:=jgW e
  exact ⟨j,h1,h,h2,h3,h4⟩
theorem jbj {α:Type}{xs:List α}{j:Nat}{v:α}(h:xs[j]?=some v):atI xs (j:Int)=some v:=by
 have hj:j < xs.length:=(List.getElem?_eq_some_iff.mp h).1
 have e:ixN xs.length (j:Int)=some j:=by
  unfold ixN
  rw [if_pos (by omega),if_pos (by omega)]; simp
 unfold atI; rw [e]; exact h
noncomputable def je5 (b:Expr):Prop:=∀ o i,subscripted b false o i=operate [o,i] (getItem o i)
noncomputable def IxR (X:Cx)(r:R2):Prop:=
 ∀ (value slice:Expr) (pins:List (Addr×Obj)) (s:Shared) (σ:St) (H:Hp) (x y:V) (v u:Value) (Q:VK),Inv X pins σ H s->RelV x v->RelV y u->r x y H Q->
  subscripted slice false v u=operate [v,u] (getItem v u)->wpAny (model X.prog X.w) X.A (Yes value slice v u) (EP X pins σ Q) X.xe s
noncomputable def MtR (X:Cx)(id:String)(r:V->List V->Hp->VK->Prop):Prop:=
 ∀ (pins:List (Addr×Obj)) (s:Shared) (σ:St) (H:Hp) (x:V) (xs:List V) (v:Value) (us:List Value) (Q:VK),Inv X pins σ H s->RelV x v->Vals xs us->r x xs H Q->
  wpAny (model X.prog X.w) X.A (call (.builtin id) (v::us)) (EP X pins σ Q) X.xe s
section
variable {X:Cx}{a b:Expr}{ta tb:TE}{pos:Pos}
theorem IxR.or {r r':R2}(h:IxR X r)(h':IxR X r'):IxR X (fun x y H Q=>r x y H Q\/r' x y H Q):=by
 intro value slice pins s σ H x y v u Q I rx ry q hs
 rcases q with q | q
 ·exact h value slice pins s σ H x y v u Q I rx ry q hs
 ·exact h' value slice pins s σ H x y v u Q I rx ry q hs
theorem jnJ {r:R2}(hr:IxR X r)(ha:PE X a ta)(hb:PE X b tb)(hs:je5 b):PE X (.Subscript a b pos) (tOp r ta tb):=by
 intro pins s σ H Q I h
 exact Subscript_ (binT ha hb I h fun v u s2 x y H2 I2 rx ry q=>hr a b pins s2 σ H2 x y v u Q I2 rx ry q (hs _ _))

noncomputable def rIxL (K:Yac):R2:=fun x y H Q=>∃ p xs i v,x=.ref p/\y=.int i/\SqL K H p xs/\atI xs i=some v/\Q v H
noncomputable def rIxT (K:Yac):R2:=fun x y H Q=>∃ p xs i v,x=.ref p/\y=.int i/\SqT K H p xs/\atI xs i=some v/\Q v H
noncomputable def rIxS:R2:=fun x y H Q=>∃ z i c,x=.str z/\y=.int i/\z.length<=Yan/\atI z.cps.toList i=some c/\Q (.str ⟨#[c]⟩) H
theorem jkh : IxR X (rIxL X.K) := by
  intro value slice pins s σ H x y v u Q I rx ry h hs
  obtain ⟨p, xs, i, z, rfl, rfl, hq, he, q⟩ := h
  cases rx
  obtain ⟨t, rfl⟩ := ry
  obtain ⟨its, r, pl, hz⟩ := I.list hq
  obtain ⟨j, h1, h2, h3, h4, h5⟩ := je1 he
  obtain ⟨w, ew, rw'⟩ := r.get h2
  have hl := r.length
  have hn := jc8
  have fin : EP X pins σ Q w s := ⟨z, H, I, rw', q⟩
  by_cases h0 : 0 <= i
  · have hj : i.toNat = j := by
      rw [seqIndex_of h0 h5] at h1
      exact YaU h1
    exact item_listR pl.isList h0 (by omega) (by rw [hj]; simpa using ew) fin hs
  · have hj : (i + (its.toArray.size : Int)).toNat = j := by
      rw [Ygd (by omega) h4] at h1
      rw [Yat, <- hl]
      exact YaU h1
    exact Yf5 (x := w) pl.isList.typeIs slot_list_getitem.lookup
      (wpAny_getItem_list_neg (Q := fun r s' => r = w /\ EP X pins σ Q r s') pl.isList (by omega) (by rw [Yat] <;> omega) (by omega) (by rw [hj]; simpa using ew) ⟨rfl, fin⟩) hs
theorem jl7:IxR X (rIxT X.K):=by
 intro value slice pins s σ H x y v u Q I rx ry h hs
 obtain ⟨p,xs,i,z,rfl,rfl,hq,he,q⟩:=h
 cases rx
 obtain ⟨t,rfl⟩:=ry
 obtain ⟨its,r,pl,hz⟩:=I.tuple hq
 obtain ⟨j,h1,h2,h3,h4,h5⟩:=je1 he
 obtain ⟨w,ew,rw'⟩:=r.get h2
 have hl:=r.length
 have hn:=jc8
 have fin:EP X pins σ Q w s:=⟨z,H,I,rw',q⟩
 exact Yf5 (x:=w) pl.typeIs slot_tuple_getitem.lookup
  (getItem_tuple (j:=j) (Q:=fun r s'=>r=w/\EP X pins σ Q r s') pl (by omega) (by omega) (by rw [Yat,<- hl]; exact h1) (by simpa using ew) ⟨rfl,fin⟩) hs
theorem jl8:IxR X rIxS:=by
 intro value slice pins s σ H x y v u Q I rx ry h hs
 obtain ⟨z,i,c,rfl,rfl,hz,he,q⟩:=h
 obtain ⟨t,rfl⟩:=rx
 obtain ⟨t',rfl⟩:=ry
 obtain ⟨j,h1,h2,h3,h4,h5⟩:=je1 he
 have hl:z.cps.toList.length=z.length:=by simp [Str.length]
 rw [hl] at h1 h4 h5
 have hn:=jc8
 exact tail_any (YeI s z t) slot_str_getitem.lookup (getItem_str (c:=c) (by
  have e1:decide (i < -(2 ^ 63:Int))=false:=decide_eq_false (by omega)
  have e2:decide (i ≥ 2 ^ 63)=false:=decide_eq_false (by omega)
  rw [e1,e2,Bool.or_false]) (by rw [h1]; simpa using h2) ⟨.str ⟨#[c]⟩,H,I.tok _,⟨_,rfl⟩,q⟩) hs
noncomputable def rIx (K:Yac):R2:=fun x y H Q=>rIxL K x y H Q\/rIxT K x y H Q\/rIxS x y H Q
theorem jl9:IxR X (rIx X.K):=jkh.or (jl7.or jl8)

theorem jf0 (its:List Value)(n j:Nat)(u:Value):Ydd (·.setIfInBounds j u) { cls:=.type "list",data:=.seq its.toArray n }={ cls:=.type "list",data:=.seq (its.set j u).toArray n }:=by
 simp [Ydd]
theorem Inv.lst {pins:List (Addr×Obj)}{σ:St}{H:Hp}{s:Shared}{p:Addr}{xs:List V}(I:Inv X pins σ H s)(h:H p=some (.lst xs)) :
  ∃ (its:List Value) (n:Nat),Vals xs its/\s.heap.get? p=some { cls:=.type "list",data:=.seq its.toArray n }/\xs.length<=Yan:=by
 obtain ⟨z,its,n,r,e⟩:=I.hok p _ h
 exact ⟨its,n,r,e,z⟩
theorem Inv.lstUpd {pins:List (Addr×Obj)}{σ:St}{H:Hp}{s:Shared}{p:Addr}{xs ys:List V}{its its':List Value}{n n':Nat}{f:Obj->Obj}(I:Inv X pins σ H s)(h:H p=some (.lst xs))
  (ho:s.heap.get? p=some { cls:=.type "list",data:=.seq its.toArray n }) (hf:f { cls:=.type "list",data:=.seq its.toArray n }={ cls:=.type "list",data:=.seq its'.toArray n' }) (r:Vals ys its') (hz:ys.length<=Yan) (t:Nat) :
  Inv X pins σ (upd H p (.lst ys)) { s with heap:=s.heap.update p f,toks:=t }:=by
 have e:(s.heap.update p f).get? p=some { cls:=.type "list",data:=.seq its'.toArray n' }:=by
  rw [Yb0 f ho (by rw [hf] <;> rfl),hf]
 refine I.write (x:=p) (e:=p) (by rw [h]; trivial) (.inl rfl) (fun b u hb q=>(YdD _ _ (Ne.symm hb)).trans q) ⟨_,e⟩ ?_
 exact ⟨hz,its',n',r,e⟩
noncomputable def jld:V->V->V->Hp->(Hp->Prop)->Prop:=fun o i v H Q=>∃ p xs k j,o=.ref p/\i=.int k/\H p=some (.lst xs)/\ixN xs.length k=some j/\Q (upd H p (.lst (xs.set j v)))
theorem jhA : PSet X jld := by
  intro pins s σ H o i v ov iv u Q I ro ri rv h
  obtain ⟨p, xs, k, j, rfl, rfl, hp, hj, q⟩ := h
  cases ro
  obtain ⟨t, rfl⟩ := ri
  obtain ⟨its, n, r, ho, hz⟩ := I.lst hp
  obtain ⟨h1, h2, h3, h4⟩ := jgW hj
  have hl := r.length
  have hn := jc8
  have I' : Inv X pins σ (upd H p (.lst (xs.set j v))) { s with heap := s.heap.update p (Ydd (·.setIfInBounds j u)) } :=
    I.lstUpd hp ho (jf0 its n j u) (r.set rv j) (by rw [List.length_set]; exact hz) s.toks
  by_cases h0 : 0 <= k
  · have hk : k.toNat = j := by
      rw [seqIndex_of h0 h4] at h1
      exact YaU h1
    exact PySem.W.ki_setAt ho h0 (by omega) (by rw [Yat, <- hl]; exact h4) (by rw [hk]; exact ⟨_, I', q⟩)
  · have hk : (k + (its.toArray.size : Int)).toNat = j := by
      rw [Ygd (by omega) h3] at h1
      rw [Yat, <- hl]
      exact YaU h1
    exact PySem.W.ki_setBack ho (by omega) (by rw [Yat, <- hl]; exact h3) (by omega) (by rw [hk]; exact ⟨_, I', q⟩)

theorem jdT (lo hi:Option Int)(n:Nat):(YcM lo hi none n).1=((HT.sIx n 0 lo:Nat):Int)/\(YcM lo hi none n).2.1=((HT.sIx n n hi:Nat):Int)/\(YcM lo hi none n).2.2=1:=by
 refine ⟨?_,?_,rfl⟩
 ·cases lo with
  | none=>simp [YcM,HT.sIx]
  | some i=>
   simp only [YcM,HT.sIx,YfZ,show (1:Int) > 0 by decide,if_true]
   by_cases h:i < 0
   ·simp only [h,if_true] <;> omega
   ·simp only [h,if_false] <;> omega
 ·cases hi with
  | none=>simp [YcM,HT.sIx]
  | some i=>
   simp only [YcM,HT.sIx,YfZ,show (1:Int) > 0 by decide,if_true]
   by_cases h:i < 0
   ·simp only [h,if_true] <;> omega
   ·simp only [h,if_false] <;> omega
theorem jdp (its:List Value)(lo hi:Option Int):Yet its.toArray lo hi none=((its.drop (HT.sIx its.length 0 lo)).take (HT.sIx its.length its.length hi - HT.sIx its.length 0 lo)).toArray:=by
 obtain ⟨h1,h2,h3⟩:=jdT lo hi its.toArray.size
 unfold Yet
 rw [h1,h2,h3]
 simp only [sliceRange_one,pick_run,Yat] <;> rfl
noncomputable def rSlL (K:Yac):V->Option Int->Option Int->Hp->VK->Prop:=fun x lo hi H Q=>∃ a xs,x=.ref a/\SqL K H a xs/\∀ p,H p=none->Q (.ref p) (upd H p (.lst (cutV xs lo hi)))
theorem jjo:SlR X (rSlL X.K):=by
 intro pins s σ H x v vl vu lo hi sl Q I rx hs pl pu h
 obtain ⟨a,xs,rfl,hx,q⟩:=h
 cases rx
 obtain ⟨its,r,ht,hz⟩:=I.list hx
 have hlen:=r.length
 refine ⟨"list",_,slot_list_getitem.lookup,ht.isList.typeIs,?_⟩
 refine YdF ht.isList hs pl pu .none (by simp) ?_ (by rw [Yat] <;> omega)
 rw [jdp,<- hlen]
 refine ⟨.ref s.heap.objs.size,_,I.laid (t':=s.toks) (o:=.lst (cutV xs lo hi)) (fun b ob q=>Yaf _ q) (Yak _) ?_,rfl,q _ (I.hok.fresh (Yak _))⟩
 exact ⟨Yaw (jcO xs lo hi) hz,_,0,(r.drop (HT.sIx xs.length 0 lo)).take (HT.sIx xs.length xs.length hi - HT.sIx xs.length 0 lo),YaR _ rfl⟩

noncomputable def jci:V->Bool
 | .non=>true
 | .bl _=>true
 | .int _=>true
 | .str _=>true
 | _=>false
noncomputable def eqV:V->V->Bool
 | .non,.non=>true
 | .bl a,.bl b=>a == b
 | .bl a,.int b=>(if a then 1 else 0) == b
 | .int a,.bl b=>a == (if b then 1 else 0)
 | .int a,.int b=>a == b
 | .str a,.str b=>a == b
 | _,_=>false
theorem jmk {A:Around}{s:Shared}{y x:V}{u v:Value}(ry:RelV y u)(rx:RelV x v)(fy:jci y=true)(fx:jci x=true):YeP A s u v (eqV y x):=by
 cases y with
 | non=>
  cases ry
  cases x with
  | non=>cases rx; exact YeP.same _
  | bl b=>cases rx; exact YeP.none_bool b
  | int b=>obtain ⟨t,rfl⟩:=rx; exact YeP.none_int b t
  | str b=>obtain ⟨t,rfl⟩:=rx; exact YeP.none_str b t
  | _=>exact absurd (show false=true from fx) Yas
 | bl a=>
  cases ry
  cases x with
  | non=>cases rx; exact YeP.bool_none a
  | bl b=>cases rx; exact YeP.bool_bool a b
  | int b=>obtain ⟨t,rfl⟩:=rx; exact YeP.bool_int a b t
  | str b=>obtain ⟨t,rfl⟩:=rx; exact YeP.bool_str a b t
  | _=>exact absurd (show false=true from fx) Yas
 | int a=>
  obtain ⟨t',rfl⟩:=ry
  cases x with
  | non=>cases rx; exact YeP.int_none a t'
  | bl b=>cases rx; exact YeP.int_bool a t' b
  | int b=>obtain ⟨t,rfl⟩:=rx; exact Ye0 a t' b t
  | str b=>obtain ⟨t,rfl⟩:=rx; exact YeZ a t' b t
  | _=>exact absurd (show false=true from fx) Yas
 | str a=>
  obtain ⟨t',rfl⟩:=ry
  cases x with
  | non=>cases rx; exact YeP.str_none a t'
  | bl b=>cases rx; exact YeP.str_bool a t' b
  | int b=>obtain ⟨t,rfl⟩:=rx; exact YeY a t' b t
  | str b=>obtain ⟨t,rfl⟩:=rx; exact YeP.str_str a t' b t
  | _=>exact absurd (show false=true from fx) Yas
 | _=>exact absurd (show false=true from fy) Yas
noncomputable def eqU (x:V)(u:Value):Bool:=match u with
 | .none=>eqV .non x
 | .bool b=>eqV (.bl b) x
 | .int i _=>eqV (.int i) x
 | .str z _=>eqV (.str z) x
 | _=>false
theorem jiW {x y:V}{u:Value}(r:RelV y u)(f:jci y=true):eqU x u=eqV y x:=by
 cases y with
 | non=>cases r; rfl
 | bl b=>cases r; rfl
 | int i=>obtain ⟨t,rfl⟩:=r; rfl
 | str z=>obtain ⟨t,rfl⟩:=r; rfl
 | _=>exact absurd (show false=true from f) Yas
theorem je3 {x:V}:∀ {xs:List V} {us:List Value},Vals xs us->xs.all jci=true->us.any (eqU x)=xs.any fun y=>eqV y x
 | _,_,.nil,_=>rfl
 | y::xs,u::us,.cons r t,f=>by
  rw [YbZ,YaP] at f
  rw [YbY,YbY,jiW r f.1,je3 t f.2]
theorem jdw {A:Around}{s:Shared}{x:V}{v:Value}(rx:RelV x v)(fx:jci x=true):∀ {xs:List V} {us:List Value},Vals xs us->xs.all jci=true->∀ u∈us,YeP A s u v (eqU x u)
 | _,_,.nil,_=>fun u hu=>by cases hu
 | y::xs,u::us,.cons r t,f=>fun u' hu=>by
  rw [YbZ,YaP] at f
  rcases YbW.mp hu with rfl | hu
  ·rw [jiW r f.1]; exact jmk r rx f.1 fx
  ·exact jdw rx fx t f.2 u' hu
noncomputable def inV (x:V)(xs:List V):Bool:=xs.any fun y=>eqV y x
noncomputable def rIn (K:Yac)(neg:Bool):R2:=fun x y H Q=>∃ p xs,y=.ref p/\(SqL K H p xs\/SqT K H p xs)/\jci x=true/\xs.all jci=true/\Q (.bl (if neg then !inV x xs else inV x xs)) H
theorem jgG:OpR X (YbM .In) (rIn X.K false):=by
 intro pins s σ H x y v u Q I rx ry h
 obtain ⟨p,xs,rfl,hq,fx,fs,q⟩:=h
 cases ry
 rcases hq with hq | hq
 ·obtain ⟨its,r,pl,hz⟩:=I.list hq
  refine Ygh (eqU x) pl.isList (fun w hw=>jdw rx fx r fs w (by simpa using hw)) ⟨.bl _,H,I,rfl,?_⟩
  rw [show its.toArray.any (eqU x)=its.any (eqU x) by simp,je3 r fs]
  exact q
 ·obtain ⟨its,r,pl,hz⟩:=I.tuple hq
  refine SeqAt.in_tupleAt (eqU x) pl (fun w hw=>jdw rx fx r fs w (by simpa using hw)) ⟨.bl _,H,I,rfl,?_⟩
  rw [show its.toArray.any (eqU x)=its.any (eqU x) by simp,je3 r fs]
  exact q
theorem ja2.or {f:Value}{r r':List V->Hp->VK->Prop}(h:ja2 X f r)(h':ja2 X f r'):ja2 X f (fun xs H Q=>r xs H Q\/r' xs H Q):=by
 intro pins s σ H xs us Q I rs q
 rcases q with q | q
 ·exact h pins s σ H xs us Q I rs q
 ·exact h' pins s σ H xs us Q I rs q
theorem jej : ja2 X (.type "list") (fun xs H Q => ∃ p ys, xs = [.ref p] /\ (SqL X.K H p ys \/ SqT X.K H p ys) /\ ∀ l, H l = none -> Q (.ref l) (upd H l (.lst ys))) := by
  intro pins s σ H xs us Q I r h
  obtain ⟨p, ys, rfl, hq, q⟩ := h
  obtain ⟨u, rfl, rx⟩ := jcV r
  cases rx
  have fin : ∀ (its : List Value), Vals ys its -> ys.length <= Yan -> ∀ (h' : Heap) (c' : Nat), (∀ b o', s.heap.get? b = some o' -> h'.get? b = some o') ->
      h'.get? s.heap.objs.size = some { cls := .type "list", dict := none, data := .seq its.toArray c', slots := #[] } -> EP X pins σ Q (.ref s.heap.objs.size) { s with heap := h' } := fun its r' hz h' c' kp e =>
    ⟨.ref s.heap.objs.size, _, I.laid (t' := s.toks) kp (Yak _) (show jaz X.prog X.w _ h' _ (.lst ys) from ⟨hz, its, c', r', e⟩), rfl, q _ (I.hok.fresh (Yak _))⟩
  rcases hq with hq | hq
  · obtain ⟨its, r', pl, hz⟩ := I.list hq
    have hlen := r'.length
    obtain ⟨o, ho, hc, n, hd⟩ := pl.isList
    exact call_list_seq p (.inl rfl) ho hc hd (fun h' c' kp e => fin its r' hz h' c' kp e) (by simp only [Yat] <;> omega)
  · obtain ⟨its, r', pl, hz⟩ := I.tuple hq
    have hlen := r'.length
    obtain ⟨o, ho, hc, n, hd⟩ := pl
    exact call_list_seq p (.inr rfl) ho hc hd (fun h' c' kp e => fin its r' hz h' c' kp e) (by simp only [Yat] <;> omega)
theorem jdH:ja2 X (.type "tuple") (fun xs H Q=>∃ p ys,xs=[.ref p]/\((SqL X.K H p ys/\∀ l,H l=none->Q (.ref l) (upd H l (.tup ys)))\/(SqT X.K H p ys/\Q (.ref p) H))):=by
 intro pins s σ H xs us Q I r h
 obtain ⟨p,ys,rfl,h⟩:=h
 obtain ⟨u,rfl,rx⟩:=jcV r
 cases rx
 rcases h with ⟨hq,q⟩ | ⟨hq,q⟩
 ·obtain ⟨its,r',pl,hz⟩:=I.list hq
  have hlen:=r'.length
  refine call_tuple_list pl.isList (fun h' kp=>?_) (by simp only [Yat] <;> omega)
  have I1:Inv X pins σ H { s with heap:=h' }:=I.kept (t':=s.toks) kp
  have I2:Inv X pins σ (upd H h'.objs.size (.tup ys)) { s with heap:=h'.push { cls:=.type "tuple",data:=.seq its.toArray } }:=
   I1.laid (t':=s.toks) (fun b o e=>Yaf _ e) (Yak _) (show jaz X.prog X.w _ _ _ (.tup ys) from ⟨hz,its,r',TupD.new _ _⟩)
  exact ⟨.ref h'.objs.size,_,I2,rfl,q _ (I1.hok.fresh (Yak _))⟩
 ·obtain ⟨its,r',pl,hz⟩:=I.tuple hq
  exact call_tuple_same pl ⟨.ref p,H,I,rfl,q⟩

noncomputable def tyV (K : Yac)(T : String)(x : V)(H : Hp) : Prop := match x with
  | .str _ => T = "str"
  | .int _ => T = "int"
  | .ref p => (T = "list" /\ ∃ xs, SqL K H p xs) \/ (T = "tuple" /\ ∃ o, K.lookup p = some o /\ o.cls = .type "tuple" /\ o.dict = none) \/
      (T = "dict" /\ ((∃ kvs, H p = some (.dK kvs)) \/ ∃ kvs, H p = some (.dT kvs))) \/ (T = "set" /\ ∃ S n, H p = some (.set S n)) \/ (T = "tuple" /\ ∃ xs, H p = some (.tup xs))
  | _ => False
theorem jir {pins : List (Addr × Obj)}{σ : St}{H : Hp}{s : Shared}{T : String}{x : V}{v : Value}(I : Inv X pins σ H s)(r : RelV x v)(ty : tyV X.K T x H) :
    s.TypeIs v T /\ ∀ a, v = .ref a -> ∃ ob, s.heap.get? a = some ob /\ ob.dict = none := by
  cases x with
  | str z =>
    obtain ⟨t, rfl⟩ := r
    cases (show T = "str" from ty)
    exact ⟨YeI s z t, fun _ e => nomatch e⟩
  | int i =>
    obtain ⟨t, rfl⟩ := r
    cases (show T = "int" from ty)
    exact ⟨YeJ s i t, fun _ e => nomatch e⟩
  | ref p =>
    cases r
    rcases ty with ⟨rfl, xs, hq⟩ | ⟨rfl, o, hk, hc, hd⟩ | ⟨rfl, hk⟩ | ⟨rfl, S, n, hk⟩ | ⟨rfl, xs, hk⟩
    · obtain ⟨its, _, pl, _⟩ := I.list hq
      refine ⟨pl.isList.typeIs, fun a e => ?_⟩
      cases e
      obtain ⟨o, n, e, c, hd, _⟩ := pl
      exact ⟨o, e, hd⟩
    · refine ⟨⟨o, I.kIn p o hk, hc⟩, fun a e => ?_⟩
      cases e
      exact ⟨o, I.kIn _ o hk, hd⟩
    · have z : ∃ o, s.heap.get? p = some o /\ o.ExactDict := by
        rcases hk with ⟨kvs, hk⟩ | ⟨kvs, hk⟩
        · obtain ⟨_, _, _, _, o, _, _, e, ex, _⟩ := I.hok p _ hk
          exact ⟨o, e, ex⟩
        · obtain ⟨_, _, _, _, o, _, _, e, ex, _⟩ := I.hok p _ hk
          exact ⟨o, e, ex⟩
      obtain ⟨o, e, ex⟩ := z
      refine ⟨⟨o, e, ex.1⟩, fun a e2 => ?_⟩
      cases e2
      exact ⟨o, e, ex.2.1⟩
    · obtain ⟨o, _, _, _, e, ex, _⟩ := I.hok p _ hk
      refine ⟨⟨o, e, ex.1⟩, fun a e2 => ?_⟩
      cases e2
      exact ⟨o, e, ex.2.1⟩
    · obtain ⟨_, its, r, o, e, c, n, d, hd⟩ := (show jaz X.prog X.w H s.heap p (.tup xs) from I.hok p _ hk)
      refine ⟨⟨o, e, c⟩, fun a e2 => ?_⟩
      cases e2
      exact ⟨o, e, hd⟩
  | _ => exact YcC ty
variable {o e:Expr}{es:List Expr}{to:TE}{t:TA}{name:Str}{apos cpos:Pos}{T id:String}{r:V->List V->Hp->VK->Prop}
end

noncomputable def MtM (X:Cx)(id:String)(r:V->List V->Hp->VK->Prop):Prop:=
 ∀ (pins:List (Addr×Obj)) (s:Shared) (σ:St) (H:Hp) (x:V) (xs:List V) (v:Value) (us:List Value) (Q:VK),Inv X pins σ H s->RelV x v->Vals xs us->r x xs H Q->
  wpAny (model X.prog X.w) X.A (call (.builtin id) (v::us)) (EP X pins σ Q) X.xe s

theorem Vals.one:∀ {x:V} {us:List Value},Vals [x] us->∃ u,us=[u]/\RelV x u
 | _,_,.cons r .nil=>⟨_,rfl,r⟩
theorem Vals.two:∀ {x y:V} {us:List Value},Vals [x,y] us->∃ u v,us=[u,v]/\RelV x u/\RelV y v
 | _,_,_,.cons r (.cons q .nil)=>⟨_,_,rfl,r,q⟩
theorem Vals.rep {xs:List V}{us:List Value}(h:Vals xs us):∀ k:Nat,Vals (Yaq k xs).flatten (Yaq k us).flatten
 | 0=>.nil
 | k + 1=>by
  rw [YbO,YbO,YbL,YbL]
  exact Vals.append h (Vals.rep h k)
theorem jcG (its:List Value):∀ (k:Nat) (acc:List Value),
  Yeb (fun x1 x2=>x1++x2) acc.toArray (Yaq k its.toArray)=(acc++(Yaq k its).flatten).toArray
 | 0,acc=>by simp
 | k + 1,acc=>by
  have e:acc.toArray++its.toArray=(acc++its).toArray:=by simp
  have e2:(acc++its)++(Yaq k its).flatten=acc++(Yaq (k + 1) its).flatten:=by
   rw [YbO,YbL,Yay]
  rw [<- e2,<- jcG its k (acc++its),<- e,YbO,YeD]

section
variable {X:Cx}{pins:List (Addr×Obj)}{σ:St}{H:Hp}{s:Shared}{l b:Addr}{xs ys zs:List V}

theorem Inv.lset {its its':List Value}{n:Nat}{f:Array Value->Array Value}{t':Nat}(I:Inv X pins σ H s)(hH:H l=some (.lst xs))
  (e:s.heap.get? l=some { cls:=.type "list",data:=.seq its.toArray n }) (hf:f its.toArray=its'.toArray) (hv:Vals ys its') (hz:ys.length<=Yan) :
  Inv X pins σ (upd H l (.lst ys)) { s with heap:=s.heap.update l (Ydd f),toks:=t' }:=by
 have q:=PySem.IsL.update e f
 rw [hf] at q
 refine I.write (x:=l) (e:=l) (by rw [hH]; exact trivial) (.inl rfl) (fun b' u hb hu=>(YdD s.heap (Ydd f) (Ne.symm hb)).trans hu) ⟨_,q⟩ ?_
 exact ⟨hz,its',_,hv,q⟩
theorem Inv.lnew {its:List Value}{t':Nat}(I:Inv X pins σ H s)(hv:Vals ys its)(hz:ys.length<=Yan) :
  Inv X pins σ (upd H s.heap.objs.size (.lst ys)) { s with heap:=s.heap.push { cls:=.type "list",data:=.seq its.toArray },toks:=t' }:=
 I.laid (fun _ _ q=>Yaf _ q) (Yak _) ⟨hz,its,0,hv,YaR _ rfl⟩
theorem Inv.fresh (I:Inv X pins σ H s):H s.heap.objs.size=none:=I.hok.fresh (Yak _)
theorem Inv.lstM (I:Inv X pins σ H s)(hH:H l=some (.lst xs)):xs.length<=Yan/\∃ (its:List Value) (n:Nat),Vals xs its/\xs.length=its.length/\s.heap.get? l=some { cls:=.type "list",data:=.seq its.toArray n }:=by
 obtain ⟨z,its,n,r,e⟩:=I.hok l _ hH
 exact ⟨z,its,n,r,r.length,e⟩

theorem jhX {n:Nat}(h:n<=Yan):Ydc n=false:=by
 unfold Ydc
 exact decide_eq_false (by omega)
end

section
variable {X:Cx}

noncomputable def jjy:V->List V->Hp->VK->Prop:=fun x vs H Q=>∃ l xs y,x=.ref l/\vs=[y]/\H l=some (.lst xs)/\xs.length < Yan/\Q .non (upd H l (.lst (xs++[y])))
theorem jd1:MtM X "list.append" jjy:=by
 intro pins s σ H x vs v us Q I rx rv h
 obtain ⟨l,xs,y,rfl,rfl,hH,hz,q⟩:=h
 cases rx
 obtain ⟨u,rfl,ru⟩:=rv.one
 obtain ⟨z,its,n,r,hl,e⟩:=I.lstM hH
 refine Yda F.slot_list_append ⟨_,e,rfl⟩ F.entry_list_append (F.args_list_append_2 _ _) (PySem.list_append l its.toArray n u (by rw [Yat]; omega)) ⟨e,?_⟩
 refine ⟨.non,_,I.lset (its':=its++[u]) hH e (by simp) (r.append (.cons ru .nil)) ?_,rfl,q⟩
 rw [Ya2,List.length_singleton]
 omega

noncomputable def rCat:R2:=fun x y H Q=>∃ l b xs zs,x=.ref l/\y=.ref b/\H l=some (.lst xs)/\H b=some (.lst zs)/\xs.length + zs.length<=Yan/\∀ p,H p=none->Q (.ref p) (upd H p (.lst (xs++zs)))
theorem jlN:OpR X (YbF .Add) rCat:=by
 intro pins s σ H x y v u Q I rx ry h
 obtain ⟨l,b,xs,zs,rfl,rfl,hH,hB,hz,q⟩:=h
 cases rx
 cases ry
 obtain ⟨z,its,n,r,hl,e⟩:=I.lstM hH
 obtain ⟨z2,its2,n2,r2,hl2,e2⟩:=I.lstM hB
 refine PySem.P.add_list e e2 ?_ (by rw [Yat,Yat]; omega)
 have ea:its.toArray++its2.toArray=(its++its2).toArray:=by simp
 rw [ea]
 exact ⟨.ref _,_,I.lnew (t':=s.toks) (r.append r2) (by rw [Ya2]; omega),rfl,q _ I.fresh⟩
noncomputable def rRep:R2:=fun x y H Q=>∃ l k xs,x=.ref l/\y=.int k/\H l=some (.lst xs)/\-(2 ^ 63)<=k/\k < 2 ^ 63/\xs.length * k.toNat<=Yan/\
 ∀ p,H p=none->Q (.ref p) (upd H p (.lst (Yaq k.toNat xs).flatten))
theorem jgO {α:Type}(xs:List α)(k:Nat):(Yaq k xs).flatten.length=k * xs.length:=by
 induction k with
 | zero=>simp
 | succ k ih=>rw [YbO,YbL,Ya2,ih,YfB,Nat.add_comm]
theorem jlF:OpR X (YbF .Mult) rRep:=by
 intro pins s σ H x y v u Q I rx ry h
 obtain ⟨l,k,xs,rfl,rfl,hH,h1,h2,hz,q⟩:=h
 cases rx
 obtain ⟨t,rfl⟩:=ry
 obtain ⟨z,its,n,r,hl,e⟩:=I.lstM hH
 have hlen:its.toArray.size * k.toNat<=Yan:=by rw [Yat,<- hl]; exact hz
 have hcap:¬ its.toArray.size * k.toNat > (2 ^ 63 - 1) / 8:=by
  have:(Yan:Nat)<=(2 ^ 63 - 1) / 8:=by decide
  omega
 have hfit:¬ (!Builtin.List.listFitsIndex k)=true:=by
  rw [fitsIndex_both h1 h2]
  exact Yas
 have hlong:¬ Ydc (its.toArray.size * k.toNat)=true:=by
  rw [jhX hlen]
  exact Yas
 have hnew:Yeb (fun x1 x2=>x1++x2) #[] (Yaq (if its.toArray.isEmpty=true then 0 else k.toNat) its.toArray)=(Yaq k.toNat its).flatten.toArray:=by
  have f0:∀ m:Nat,Yeb (fun x1 x2=>x1++x2) #[] (Yaq m its.toArray)=(Yaq m its).flatten.toArray:=fun m=>by
   have:=jcG its m []
   rw [Yb9] at this
   exact this
  rw [f0]
  cases its with
  | nil=>simp
  | cons a r'=>rw [if_neg (by simp)]
 refine Yfu (T := "list") (U := "int") (by decide) ⟨_,e,rfl⟩ (fun s'=>YeJ s' k t) noFill_list_mul F.fills_int_mul YdT repeat_list F.slot_int_index.lookup
  (Yda YdT (YeJ s k t) F.entry_int_rmul (F.args_int_rmul_2 _ _) (int___rmul___int_list k t l its.toArray n)
   ⟨e,rfl,⟨_,e,rfl⟩,Yda F.slot_list_mul ⟨_,e,rfl⟩ F.entry_list_mul (F.args_list_mul_2 _ _) (AutoListH.list___mul___list_int_3 l its.toArray n k t hfit hcap hlong) ⟨e,?_⟩⟩)
 rw [hnew]
 exact ⟨.ref _,_,I.lnew (t':=s.toks) (r.rep k.toNat) (by rw [jgO,Yc8]; exact hz),rfl,q _ I.fresh⟩

end

section
variable {prog:Program}{w:World}{A:Around}{E:Value->Shared->Prop}{s:Shared}
end

section
variable {X:Cx}
end

section
variable {κ:Type}[DecidableEq κ]
noncomputable def valV (kvs:List (κ×V))(k:κ):Option V:=(kvs.find? fun kv=>decide (kv.1=k)).map (·.2)
noncomputable def putK (kvs:List (κ×V))(k:κ)(v:V):List (κ×V):=
 if (kvs.any fun kv=>decide (kv.1=k))=true then kvs.map (fun kv=>if kv.1=k then (kv.1,v) else kv) else kvs++[(k,v)]
noncomputable def jo9 (kvs:List (κ×V))(k:κ):List (κ×V):=kvs.filter fun kv=>decide (kv.1≠k)

theorem jcl {p:κ×V}{r:List (κ×V)}{k:κ}(e:p.1=k):valV (p::r) k=some p.2:=by simp [valV,YbQ,e]
theorem jcm {p:κ×V}{r:List (κ×V)}{k:κ}(e:¬ p.1=k):valV (p::r) k=valV r k:=by simp [valV,YbQ,e]
theorem jfb (k:κ):∀ kvs:List (κ×V),(kvs.any fun kv=>decide (kv.1=k))=(valV kvs k).isSome
 | []=>rfl
 | p::r=>by
  rw [YbY]
  by_cases e:p.1=k
  ·simp only [jcl e,decide_eq_true e,Bool.true_or,Option.isSome_some]
  ·rw [jcm e,decide_eq_false e,Yfa]; exact jfb k r
theorem jbD (kvs:List (κ×V))(k:κ)(v:V):(putK kvs k v).length<=kvs.length + 1:=by
 unfold putK
 split
 ·rw [Yai]; omega
 ·rw [Ya2,YbJ,YcK]; omega
theorem RelO.isSome_eq {o:Option V}{u:Option Value}(r:RelO o u):o.isSome=u.isSome:=by
 cases o with
 | none=>cases u with
  | none=>rfl
  | some _=>exact (show False from r).elim
 | some _=>cases u with
  | none=>exact (show False from r).elim
  | some _=>rfl
theorem KV.val {kvs:List (κ×V)}{vs:List (κ×Value)}(r:KV kvs vs)(k:κ):RelO (valV kvs k) (valueAt vs k):=by
 unfold KV at r
 induction r with
 | nil=>exact Ydv
 | @cons p q ps qs h t ih=>
  obtain ⟨h1,h2⟩:=h
  by_cases e:p.1=k
  ·have e':q.1=k:=h1.symm.trans e
   have b:valueAt (q::qs) k=some q.2:=by simp [valueAt,YbQ,e']
   rw [jcl e,b]; exact h2
  ·have e':¬ q.1=k:=fun z=>e (h1.trans z)
   have b:valueAt (q::qs) k=valueAt qs k:=by simp [valueAt,YbQ,e']
   rw [jcm e,b]; exact ih
theorem KV.any {kvs:List (κ×V)}{vs:List (κ×Value)}(r:KV kvs vs)(k:κ):(kvs.any fun kv=>decide (kv.1=k))=vs.any fun kv=>decide (kv.1=k):=by
 unfold KV at r
 induction r with
 | nil=>rfl
 | cons h t ih=>rw [YbY,YbY,ih,h.1]
theorem KV.repl {kvs:List (κ×V)}{vs:List (κ×Value)}(r:KV kvs vs)(k:κ){y:V}{u:Value}(ry:RelV y u) :
  KV (kvs.map fun kv=>if kv.1=k then (kv.1,y) else kv) (vs.map fun kv=>if kv.1=k then (kv.1,u) else kv):=by
 unfold KV at r ⊢
 induction r with
 | nil=>exact .nil
 | @cons p q ps qs h t ih=>
  rw [Ya4,Ya4]
  refine .cons ?_ ih
  obtain ⟨h1,h2⟩:=h
  by_cases e:p.1=k
  ·rw [if_pos e,if_pos (h1.symm.trans e)]; exact ⟨h1,ry⟩
  ·rw [if_neg e,if_neg (fun z=>e (h1.trans z))]; exact ⟨h1,h2⟩
theorem KV.put {kvs:List (κ×V)}{vs:List (κ×Value)}(r:KV kvs vs)(k:κ){y:V}{u:Value}(ry:RelV y u):KV (putK kvs k y) (stored vs k u):=by
 unfold putK stored
 rw [r.any k]
 by_cases e:(vs.any fun kv=>decide (kv.1=k))=true
 ·rw [if_pos e,if_pos e]; exact r.repl k ry
 ·rw [if_neg e,if_neg e]; exact Paired.snoc r ⟨rfl,ry⟩
theorem KV.length {kvs:List (κ×V)}{vs:List (κ×Value)}(r:KV kvs vs):kvs.length=vs.length:=YdV r
end

theorem jgV {P:Program}{w:World}{k:Key}{u:Value}(r:RelV (kV k) u):(jao P w).is k u=true:=by
 cases k with
 | inl i=>obtain ⟨t,e⟩:=(show ∃ t,u=Yad i t from r); subst e; exact jeL P w i t
 | inr x=>obtain ⟨t,e⟩:=(show ∃ t,u=Yag x t from r); subst e; exact jeK P w x t
theorem jd3 {P:Program}{w:World}:∀ {ks:List Key} {us:List Value},Vals (ks.map kV) us->ItemsAre (jao P w) ks us
 | [],_,r=>by rw [Yc5] at r; cases r; exact .nil
 | k::ks,_,r=>by
  rw [Ya4] at r
  cases r with
  | cons h t=>exact .cons (jgV h) (jd3 t)

noncomputable abbrev KT (H:Hp):List (List Key×V)->List (List Key×Addr×Value)->Prop:=Paired fun p q=>p.1=q.1/\H q.2.1=some (.tup (p.1.map kV))/\RelV p.2 q.2.2
theorem KT.val {H:Hp}{kvs:List (List Key×V)}{xs:List (List Key×Addr×Value)}(r:KT H kvs xs)(k:List Key):RelO (valV kvs k) ((atKey xs k).map (·.2)):=by
 induction r with
 | nil=>exact Ydv
 | @cons p q ps qs h t ih=>
  obtain ⟨h1,_,h2⟩:=h
  by_cases e:p.1=k
  ·have e':q.1=k:=h1.symm.trans e
   have b:atKey (q::qs) k=some q.2:=by simp [atKey,YbQ,e']
   rw [jcl e,b]; exact h2
  ·have e':¬ q.1=k:=fun z=>e (h1.trans z)
   have b:atKey (q::qs) k=atKey qs k:=by simp [atKey,YbQ,e']
   rw [jcm e,b]; exact ih
theorem KT.repl {H:Hp}{kvs:List (List Key×V)}{xs:List (List Key×Addr×Value)}(r:KT H kvs xs)(k:List Key){y:V}{u:Value}(ry:RelV y u) :
  KT H (kvs.map fun kv=>if kv.1=k then (kv.1,y) else kv) (xs.map (putAt k u)):=by
 induction r with
 | nil=>exact .nil
 | @cons p q ps qs h t ih=>
  rw [Ya4,Ya4]
  refine .cons ?_ ih
  obtain ⟨h1,h2,h3⟩:=h
  unfold putAt
  by_cases e:p.1=k
  ·rw [if_pos e,if_pos (h1.symm.trans e)]; exact ⟨h1,h2,ry⟩
  ·rw [if_neg e,if_neg (fun z=>e (h1.trans z))]; exact ⟨h1,h2,h3⟩
theorem KT.put {H:Hp}{kvs:List (List Key×V)}{xs:List (List Key×Addr×Value)}(r:KT H kvs xs)(k:List Key){b:Addr}{y:V}{u:Value}(hb:H b=some (.tup (k.map kV)))(ry:RelV y u) :
  KT H (putK kvs k y) (storedH xs k b u):=by
 have e:(kvs.any fun kv=>decide (kv.1=k))=(atKey xs k).isSome:=by
  rw [jfb,(r.val k).isSome_eq,YfM]
 unfold putK storedH
 rw [e]
 by_cases q:(atKey xs k).isSome=true
 ·rw [if_pos q,if_pos q]; exact r.repl k ry
 ·rw [if_neg q,if_neg q]; exact Paired.snoc r ⟨rfl,hb,ry⟩
theorem KT.keeps {H H':Hp}{kvs:List (List Key×V)}{xs:List (List Key×Addr×Value)}(r:KT H kvs xs)(ht:∀ b ys,H b=some (.tup ys)->H' b=some (.tup ys)):KT H' kvs xs:=
 Paired.mapP r fun _ _ z=>⟨z.1,ht _ _ z.2.1,z.2.2⟩

section
variable {P:Program}{w:World}{H:Hp}{h:Heap}{a:Addr}
theorem jlc {u:HO}(ok:HOk P w H h)(e:Rd H a u):jaz P w H h a u:=e.ok ok
theorem jg6 {kvs:List (Key×V)}(ok:HOk P w H h)(e:Rd H a (.dK kvs)):kvs.length<=Yan/\(a == Ybq)=false/\∃ vs,KV kvs vs/\h.DictOf (jao P w) a vs:=
 show jaz P w H h a (.dK kvs) from jlc ok e
theorem jmp {kvs:List (Key×V)}(ok:HOk P w H h)(e:H a=some (.dK kvs)):kvs.length<=Yan/\(a == Ybq)=false/\∃ vs,KV kvs vs/\h.DictOf (jao P w) a vs:=jg6 ok (.inl e)
theorem jfu {ks:List Key}(ok:HOk P w H h)(e:H a=some (.tup (ks.map kV))):(Yfe (jao P w)).is h ks a:=by
 obtain ⟨_,its,r,o,h1,h2,n,h3,_⟩:=(show jaz P w H h a (.tup (ks.map kV)) from ok a _ e)
 exact ⟨o,its.toArray,n,h1,h2,h3,by simpa using jd3 r⟩
theorem jh9 {kvs:List (List Key×V)}(ok:HOk P w H h)(e:Rd H a (.dT kvs)):kvs.length<=Yan/\(a == Ybq)=false/\
  ∃ xs,KT H kvs xs/\h.DictOfH (Yfe (jao P w)) a xs:=by
 obtain ⟨z,y,xs,r,o,es,ep,h1,h2,h3,h4,h5⟩:=(show jaz P w H h a (.dT kvs) from jlc ok e)
 refine ⟨z,y,xs,r,o,es,ep,h1,h2,h3,h4,fun x hx=>?_,h5⟩
 have all:∀ {l:List (List Key×V)} {m:List (List Key×Addr×Value)},KT H l m->∀ x∈m,(Yfe (jao P w)).is h x.1 x.2.1:=by
  intro l m q
  induction q with
  | nil=>intro x hx; exact nomatch hx
  | @cons p q ps qs hq t ih=>
   intro x hx
   rcases YbW.mp hx with e | hx
   ·subst e
    exact jfu ok (by rw [<- hq.1]; exact hq.2.1)
   ·exact ih x hx
 exact all r x hx
theorem jn8 {kvs:List (List Key×V)}(ok:HOk P w H h)(e:H a=some (.dT kvs)):kvs.length<=Yan/\(a == Ybq)=false/\
  ∃ xs,KT H kvs xs/\h.DictOfH (Yfe (jao P w)) a xs:=jh9 ok (.inl e)
end

noncomputable def DGet (H:Hp)(a:Addr)(y:V)(r:Option V):Prop:=
 (∃ kvs k,Rd H a (.dK kvs)/\y=kV k/\r=valV kvs k)\/∃ kvs k b,Rd H a (.dT kvs)/\y=.ref b/\H b=some (.tup (k.map kV))/\r=valV kvs k
noncomputable def DPut (H:Hp)(a:Addr)(y v:V)(H':Hp):Prop:=
 (∃ kvs k,H a=some (.dK kvs)/\y=kV k/\kvs.length < Yan/\H'=upd H a (.dK (putK kvs k v)))\/
 ∃ kvs k b,H a=some (.dT kvs)/\y=.ref b/\H b=some (.tup (k.map kV))/\kvs.length < Yan/\H'=upd H a (.dT (putK kvs k v))
theorem DGet.k {H:Hp}{a:Addr}{kvs:List (Key×V)}{k:Key}(e:H a=some (.dK kvs)):DGet H a (kV k) (valV kvs k):=.inl ⟨kvs,k,.inl e,rfl,rfl⟩
theorem DGet.t {H:Hp}{a b:Addr}{kvs:List (List Key×V)}{k:List Key}(e:H a=some (.dT kvs))(eb:H b=some (.tup (k.map kV))):DGet H a (.ref b) (valV kvs k):=.inr ⟨kvs,k,b,.inl e,rfl,eb,rfl⟩
theorem DPut.k {H:Hp}{a:Addr}{kvs:List (Key×V)}{k:Key}{v:V}(e:H a=some (.dK kvs))(hl:kvs.length < Yan):DPut H a (kV k) v (upd H a (.dK (putK kvs k v))):=.inl ⟨kvs,k,e,rfl,hl,rfl⟩
theorem DPut.t {H:Hp}{a b:Addr}{kvs:List (List Key×V)}{k:List Key}{v:V}(e:H a=some (.dT kvs))(eb:H b=some (.tup (k.map kV)))(hl:kvs.length < Yan) :
  DPut H a (.ref b) v (upd H a (.dT (putK kvs k v))):=.inr ⟨kvs,k,b,e,rfl,eb,hl,rfl⟩

section
variable {X:Cx}{pins:List (Addr×Obj)}{σ:St}{H:Hp}{s:Shared}{a:Addr}{y v:V}{u r:Value}{o:Option V}{A:Around}{E:Value->Shared->Prop}

theorem Inv.big (I:Inv X pins σ H s):Ybq < s.heap.objs.size:=by
 have h:Yax < s.heap.objs.size:=(I.mod.glob.keeps I.bk).lt
 exact Yel (by decide) h

theorem jhb {Q:Value->Shared->Prop}(hu:A.units + 1 < cLine)(I:Inv X pins σ H s)(g:DGet H a y (some v))(ry:RelV y u)(h:∀ w' s',Inv X pins σ H s'->RelV v w'->Q w' s') :
  wpAny (model X.prog X.w) A (getItem (.ref a) u) Q E s:=by
 rcases g with ⟨kvs,k,e,ey,l⟩ | ⟨kvs,k,b,e,ey,eb,l⟩
 ·subst ey
  obtain ⟨z,hd,vs,rel,dd⟩:=jg6 I.hok e
  obtain ⟨w',hw,rw'⟩:=RelO.some_of (v:=v) (o:=valueAt vs k) (by rw [l]; exact rel.val k)
  exact wpAny_getItem_of (jgV ry) dd.mapOf hw (h w' _ (I.tok _) rw')
 ·subst ey
  cases (show u=Yae b from ry)
  obtain ⟨z,hd,xs,rel,dd⟩:=jh9 I.hok e
  obtain ⟨w',hw,rw'⟩:=RelO.some_of (v:=v) (o:=(atKey xs k).map (·.2)) (by rw [l]; exact rel.val k)
  obtain ⟨p,hp,hp2⟩:=Option.map_eq_some_iff.mp hw
  refine wpAny_getItem_heap (Yer hu) (jfu I.hok eb) dd hp ?_
  rw [hp2]
  exact h w' _ (I.tok _) rw'
theorem d_in {Q:Value->Shared->Prop}(hu:A.units + 1 < cLine)(I:Inv X pins σ H s)(g:DGet H a y o)(ry:RelV y u)(h:∀ s',Inv X pins σ H s'->Q (.bool o.isSome) s') :
  wpAny (model X.prog X.w) A (YbM .In u (.ref a)) Q E s:=by
 rcases g with ⟨kvs,k,e,ey,l⟩ | ⟨kvs,k,b,e,ey,eb,l⟩
 ·subst ey
  obtain ⟨z,hd,vs,rel,dd⟩:=jg6 I.hok e
  refine wpAny_in_of (jgV ry) hd dd.mapOf ?_
  rw [<- (rel.val k).isSome_eq,<- l]
  exact h _ (I.tok _)
 ·subst ey
  cases (show u=Yae b from ry)
  obtain ⟨z,hd,xs,rel,dd⟩:=jh9 I.hok e
  refine wpAny_in_heap (Yer hu) (jfu I.hok eb) hd dd ?_
  have q:=(rel.val k).isSome_eq
  rw [YfM] at q
  rw [<- q,<- l]
  exact h _ (I.tok _)
theorem jeZ {h':Heap}{t':Nat}{ob:HO}(I:Inv X pins σ H s)(mu:Mut (H a))(hs:Yei a s.heap h')(he:∃ q,h'.get? a=some q)(new:jaz X.prog X.w (upd H a ob) h' a ob) :
  Inv X pins σ (upd H a ob) { s with heap:=h',toks:=t' }:=
 I.write (x:=a) (e:=a) mu (.inl rfl) (fun b q hb z=>(hs.2 b hb).trans z) he new
theorem jiZ {P:Program}{w:World}{H':Hp}{h':Heap}{kvs:List (Key×V)}{vs:List (Key×Value)}(z:kvs.length<=Yan)(hd:(a == Ybq)=false)(rel:KV kvs vs)(dd:h'.DictOf (jao P w) a vs) :
  jaz P w H' h' a (.dK kvs):=⟨z,hd,vs,rel,dd⟩
theorem jha {H':Hp}{Q:Unit->Shared->Prop}(hu:A.units + 1 < cLine)(I:Inv X pins σ H s)(g:DPut H a y v H')(ry:RelV y u)(rv:RelV v r)(h:∀ s',Inv X pins σ H' s'->Q () s') :
  wpAny (model X.prog X.w) A (setItem (.ref a) u r) Q E s:=by
 rcases g with ⟨kvs,k,e,ey,l,eH⟩ | ⟨kvs,k,b,e,ey,eb,l,eH⟩
 ·subst ey eH
  obtain ⟨z,hd,vs,rel,dd⟩:=jmp I.hok e
  have hz:vs.length<=Yan:=by rw [<- rel.length]; exact z
  have hl:(putK kvs k v).length<=Yan:=by have:=jbD kvs k v; omega
  refine wpAny_setItem_pairs (hsz:=hz) (jgV ry) dd fun h' dd' hs=>h _ ?_
  have he:∃ q,h'.get? a=some q:=let ⟨q,_,_,hq,_⟩:=dd'; ⟨q,hq⟩
  exact jeZ I (by rw [e]; exact Ydv) hs he (jiZ hl hd (rel.put k rv) dd')
 ·subst ey eH
  cases (show u=Yae b from ry)
  obtain ⟨z,hd,xs,rel,dd⟩:=jn8 I.hok e
  have hz:xs.length<=Yan:=by rw [<- YdV rel]; exact z
  have hl:(putK kvs k v).length<=Yan:=by have:=jbD kvs k v; omega
  refine wpAny_setItem_heap (hsz:=hz) (Yer hu) (jfu I.hok eb) dd fun h' dd' hs=>h _ ?_
  obtain ⟨q,es,ep,hq,h2,h3,h4,_,h5⟩:=dd'
  refine jeZ I (by rw [e]; exact Ydv) hs ⟨q,hq⟩ ⟨hl,hd,_,(rel.put k eb rv).keeps fun c ys ec=>?_,q,es,ep,hq,h2,h3,h4,h5⟩
  rw [jab (jnO ec e (fun z=>nomatch z))]
  exact ec
end

section
variable {X:Cx}{pins:List (Addr×Obj)}{σ:St}{H:Hp}{s:Shared}{a:Addr}{kvs:List (Key×V)}{k:Key}{u:Value}{A:Around}{E:Value->Shared->Prop}
theorem jn9 {Q:Value->Shared->Prop}(I:Inv X pins σ H s)(e:Rd H a (.dK kvs))(h:∀ t s',Inv X pins σ H s'->Q (.int kvs.length t) s'):wpAny (model X.prog X.w) A (call (.builtin "len") [.ref a]) Q E s:=by
 obtain ⟨z,hd,vs,rel,dd⟩:=jg6 I.hok e
 refine call_len_dict hd dd (by rw [<- rel.length]; rw [YbK] at z; omega) ?_
 rw [<- rel.length]
 exact h _ _ (I.tok _)
end

theorem jeY {X:Cx}{pins:List (Addr×Obj)}{σ:St}{H:Hp}{s:Shared}{a:Addr}{y:V}{o:Option V}(I:Inv X pins σ H s)(g:DGet H a y o):s.TypeIs (.ref a) "dict" := by
 rcases g with ⟨kvs,k,e,_,_⟩ | ⟨kvs,k,b,e,_,_,_⟩
 ·obtain ⟨_,_,vs,_,dd⟩:=jg6 I.hok e
  exact dd.typeIs
 ·obtain ⟨_,_,xs,_,dd⟩:=jh9 I.hok e
  exact dd.typeIs
section
variable {X:Cx}{o i e value:Expr}{pos pos' tpos:Pos}{td ty tv:TE}
end

theorem jfD {P:Program}{w:World}{H:Hp}(h:Heap)(hb:Ybq < h.objs.size):jaz P w H (h.push { cls:=.type "dict",data:=.dict #[] }) h.objs.size (.dK []):=
 ⟨YbA _,beq_eq_false_iff_ne.mpr (Ne.symm (Ya8 hb)),[],.nil,Heap.DictOf.new h⟩
theorem jia {P:Program}{w:World}{H:Hp}(h:Heap)(hb:Ybq < h.objs.size):jaz P w H (h.push { cls:=.type "dict",data:=.dict #[] }) h.objs.size (.dT []):=
 ⟨YbA _,beq_eq_false_iff_ne.mpr (Ne.symm (Ya8 hb)),[],.nil,_,#[],0,YaR _ rfl,⟨rfl,rfl,rfl⟩,rfl,rfl,List.nodup_nil⟩
noncomputable def jkX:TE:=fun _ H Q=>∀ p,H p=none->Q (.ref p) (upd H p (.dK []))
noncomputable def jkW:TE:=fun _ H Q=>∀ p,H p=none->Q (.ref p) (upd H p (.dT []))
section
variable {X:Cx}{pos:Pos}
theorem jhU:PE X (.Dict [] [] pos) jkX:=fun pins s σ H Q I h=>
 wpAny_Dict_empty ⟨.ref s.heap.objs.size,_,I.laid (a:=s.heap.objs.size) (o:=.dK []) (t':=s.toks) (fun _ _ q=>Yaf _ q) (Yak _) (jfD s.heap I.big),rfl,h _ (I.hok.fresh (Yak _))⟩
theorem jhT:PE X (.Dict [] [] pos) jkW:=fun pins s σ H Q I h=>
 wpAny_Dict_empty ⟨.ref s.heap.objs.size,_,I.laid (a:=s.heap.objs.size) (o:=.dT []) (t':=s.toks) (fun _ _ q=>Yaf _ q) (Yak _) (jia s.heap I.big),rfl,h _ (I.hok.fresh (Yak _))⟩
end

noncomputable def jfj:List (TE×TE)->St->Hp->(List (V×V)->Hp->Prop)->Prop
 | [],_,H,Q=>Q [] H
 | (tk,tv)::r,σ,H,Q=>tk σ H fun x H1=>tv σ H1 fun y H2=>jfj r σ H2 fun ps H3=>Q ((x,y)::ps) H3
noncomputable abbrev VV:List (V×V)->List (Value×Value)->Prop:=Paired fun p q=>RelV p.1 q.1/\RelV p.2 q.2
noncomputable def PPs (X:Cx)(pos:Pos)(keys:List (Option Expr))(values:List Expr)(trs:List (TE×TE)):Prop:=
 ∀ (pins:List (Addr×Obj)) (s:Shared) (σ:St) (H:Hp) (Q:List (V×V)->Hp->Prop),Inv X pins σ H s->jfj trs σ H Q->
  wpAny (model X.prog X.w) X.A (evalPairs (pairTrees keys values X.env pos)) (fun vs s'=>∃ ps H',Inv X pins σ H' s'/\VV ps vs/\Q ps H') X.xe s
theorem jjE {X:Cx}{pos:Pos}:PPs X pos [] [] []:=fun pins s σ H Q I h=>pairTrees_nil_walk ⟨[],H,I,.nil,h⟩
theorem jhM {X:Cx}{pos:Pos}{k v:Expr}{ks:List (Option Expr)}{vs:List Expr}{tk tv:TE}{trs:List (TE×TE)}(hk:PE X k tk)(hv:PE X v tv)(hr:PPs X pos ks vs trs) :
  PPs X pos (some k::ks) (v::vs) ((tk,tv)::trs):=fun pins s σ H Q I h=>
 pairTrees_cons_walk (thn (hk pins s σ H _ I h) fun u s1 ⟨x,H1,I1,rx,q1⟩=>thn (hv pins s1 σ H1 _ I1 q1) fun w2 s2 ⟨y,H2,I2,ry,q2⟩=>
  thn (hr pins s2 σ H2 _ I2 q2) fun ws s3 ⟨ps,H3,I3,rel,q3⟩=>⟨(x,y)::ps,H3,I3,.cons ⟨rx,ry⟩ rel,q3⟩)

noncomputable def jcD (kvs more:List (Key×V)):List (Key×V):=more.foldl (fun acc kv=>putK acc kv.1 kv.2) kvs
theorem KV.merge:∀ {more:List (Key×V)} {rs:List (Key×Value)} {kvs:List (Key×V)} {vs:List (Key×Value)},KV more rs->KV kvs vs->KV (jcD kvs more) (merged vs rs):=by
 intro more rs kvs vs r
 unfold KV at r
 induction r generalizing kvs vs with
 | nil=>intro q; exact q
 | @cons p q ps qs h t ih=>
  intro r0
  have e:KV (putK kvs p.1 p.2) (stored vs q.1 q.2):=by
   have:=r0.put p.1 h.2
   rw [<- h.1]; exact this
  exact ih e
theorem jbM:∀ (more kvs:List (Key×V)),(jcD kvs more).length<=kvs.length + more.length
 | [],kvs=>by show kvs.length<=kvs.length + 0; omega
 | p::r,kvs=>by
  have h1:=jbM r (putK kvs p.1 p.2)
  have h2:=jbD kvs p.1 p.2
  show (jcD (putK kvs p.1 p.2) r).length<=_
  rw [YbJ]; omega
theorem jdj {P:Program}{w:World}:∀ {kvs:List (Key×V)} {ws:List (Value×Value)},VV (kvs.map fun kv=>(kV kv.1,kv.2)) ws->∃ rs,Carries (jao P w) ws rs/\KV kvs rs
 | [],_,r=>by rw [Yc5] at r; cases r; exact ⟨[],Ydv,.nil⟩
 | p::kvs,_,r=>by
  rw [Ya4] at r
  cases r with
  | @cons a b as bs h t=>
   obtain ⟨rs,c,q⟩:=jdj (P:=P) (w:=w) t
   obtain ⟨b1,b2⟩:=b
   exact ⟨(p.1,b2)::rs,⟨jgV h.1,rfl,c⟩,.cons ⟨rfl,h.2⟩ q⟩
noncomputable def jnq (trs:List (TE×TE)):TE:=fun σ H Q=>∀ p,H p=none->jfj trs σ (upd H p (.dK [])) fun ps H2=>H2 p=some (.dK [])/\∃ kvs:List (Key×V),ps=kvs.map (fun kv=>(kV kv.1,kv.2))/\kvs.length<=15/\Q (.ref p) (upd H2 p (.dK (jcD [] kvs)))
theorem jjP {X:Cx}{pos:Pos}{keys:List (Option Expr)}{values:List Expr}{trs:List (TE×TE)}(h:PPs X pos keys values trs)(hall:keys.all (·.isSome)=true)(hl:keys.length=values.length)(h0:keys≠[])
  (h15:keys.length<=15):PE X (.Dict keys values pos) (jnq trs):=by
 intro pins s σ H Q I q
 have hn:=I.hok.fresh (Yak s.heap.objs.size)
 have I1:=I.laid (a:=s.heap.objs.size) (o:=.dK []) (h':=s.heap.push { cls:=.type "dict",data:=.dict #[] }) (t':=s.toks) (fun _ _ q=>Yaf _ q) (Yak _) (jfD s.heap I.big)
 refine wpAny_Dict_walk (knd:=jao X.prog X.w) hall hl h0 h15 (thn (h pins _ σ _ _ I1 (q _ hn)) fun ws s2 ⟨ps,H2,I2,rel,e,kvs,ep,lk,q2⟩=>?_)
 subst ep
 obtain ⟨rs,c,rk⟩:=jdj (P:=X.prog) (w:=X.w) rel
 obtain ⟨z,hd,vs0,r0,dd⟩:=jmp I2.hok e
 cases r0
 refine ⟨rs,c,dd,fun h' dd' hs=>⟨.ref s.heap.objs.size,_,?_,rfl,q2⟩⟩
 have hz:(jcD [] kvs).length<=Yan:=by
  have h1:=jbM kvs []
  rw [YcK] at h1
  rw [YbK]; omega
 have he:∃ q,h'.get? s.heap.objs.size=some q:=let ⟨q,_,_,hq,_⟩:=dd'; ⟨q,hq⟩
 exact jeZ I2 (by rw [e]; exact Ydv) hs he (jiZ hz hd (rk.merge .nil) dd')

structure M1 (X:Cx)(o:Expr)(m:Str)(apos:Pos)(e:Expr)(cpos:Pos):Prop where
 base:Ycz o m X.env (eval o X.env)=eval o X.env
 few:((backTo cpos (YaM [e] X.env)).all (fun x=>!x.1) && (backToKw cpos (Yfg [] X.env)).all (fun x=>x.1.isSome)
  && decide (([e]:List Expr).length + ([]:List Keyword).length + (if ([]:List Keyword).isEmpty then 0 else 1) < 30))=true
 line:(apos.endLine == cpos.line)=true
 trees:backTo cpos (YaM [e] X.env)=[(false,eval e X.env)]
structure M2 (X:Cx)(o:Expr)(m:Str)(apos:Pos)(e f:Expr)(cpos:Pos):Prop where
 base:Ycz o m X.env (eval o X.env)=eval o X.env
 few:((backTo cpos (YaM [e,f] X.env)).all (fun x=>!x.1) && (backToKw cpos (Yfg [] X.env)).all (fun x=>x.1.isSome)
  && decide (([e,f]:List Expr).length + ([]:List Keyword).length + (if ([]:List Keyword).isEmpty then 0 else 1) < 30))=true
 line:(apos.endLine == cpos.line)=true
 trees:backTo cpos (YaM [e,f] X.env)=[(false,eval e X.env),(false,eval f X.env)]

section
variable {X:Cx}{pins:List (Addr×Obj)}{σ:St}{H:Hp}{s:Shared}{a:Addr}{y d:V}{u r:Value}{o:Option V}{A:Around}{E:Value->Shared->Prop}
end

section
variable {X:Cx}{o e f:Expr}{apos cpos:Pos}{td ty tx:TE}
end

section
variable {X:Cx}{pins:List (Addr×Obj)}{σ:St}{H:Hp}{s:Shared}{a:Addr}{kvs:List (Key×V)}{A:Around}{E:Value->Shared->Prop}
end

section
variable {X:Cx}{pins:List (Addr×Obj)}{σ:St}{H:Hp}{s:Shared}{a:Addr}{y:V}{u:Value}{A:Around}{E:Value->Shared->Prop}
end
end L2

namespace Att
open PySem PySem.W PySem.Calls PyProof.Rows

theorem jcF {P:Params}{h:Heap}:∀ (ns:List Int) (vs:List Value),WellAll P h vs (ns.map WData.int)->IntsAre vs ns:=by
 intro ns
 induction ns with
 | nil=>
  intro vs w
  rw [Yc5] at w
  cases w
  exact .nil
 | cons n ns ih=>
  intro vs w
  rw [Ya4] at w
  cases w with
  | cons a b=>
   cases a
   exact .cons _ _ (ih _ b)

theorem jgt {l:OpenLaw}{n:Nat}(hn:l.most=some n){P:Params}{h:Heap}{args:List WData}{vals:List Value}
  (hpre:l.row.toRowW.claim.pre args=true) (hwl:WellAll P h vals args) :
  ∃ a vs ns,vals=[Yae a]/\args=[WData.list (ns.map WData.int)]/\h.get? a=some { cls:=.type "list",data:=.seq vs.toArray }/\IntsAre vs ns/\ns.length<=n:=by
 have hsh:WShape.hasAll [] args [.list .int]=true:=(pre_splitW hpre).1
 have hc:l.pre.holds [] { args:=args }=true:=(pre_splitW hpre).2
 obtain ⟨d,r,rfl,h1,h2⟩:=hasAllW_cons hsh
 obtain rfl:=hasAllW_nil h2
 obtain ⟨xs,rfl,h3⟩:=hasW_list h1
 obtain ⟨ns,rfl⟩:=items_int h3
 have hlen:ns.length<=n:=by
  unfold OpenLaw.pre at hc
  have h4:(WTm.not (.lt (.lit (.int (n:Int))) (.len (.arg 0)))).holds [] { args:=[.list (ns.map .int)] }=true:=by
   have h4:=(holds_andW hc).1
   rw [hn] at h4
   exact h4
  have h5:=condW_of h4 (w_not (w_lt w_lit (w_len_list (w_arg rfl))))
  rw [Yai] at h5
  refine Nat.le_of_not_lt fun q=>?_
  have q':(n:Int) < ((ns.length:Nat):Int):=by omega
  first
   | (rw [decide_eq_true q'] at h5; exact absurd h5 (by decide))
   | (simp at h5; omega)
 cases hwl with
 | cons w1 w2=>
  cases w2
  cases w1 with
  | list ho hall=>exact ⟨_,_,ns,rfl,rfl,ho,jcF ns _ hall,hlen⟩

theorem jgz (l:OpenLaw)(args:List WData):l.row.toRowW.claim.post args (.bool true) args=true:=
 postW_of (r:=l.row.toRowW) (X:=(true == true))
  (show WShape.has [] (.bool true) .bool=true by first | rfl | decide | simp [WShape.has,WShape.arms,WShape.armsAll])
  (show (WTm.eq .res (.lit (.bool true))).value [] { args:=args,res:=some (.bool true),after:=args }=some (.bool (true == true)) from w_eq_bool (w_res rfl) w_lit) rfl

theorem attach_call {l:OpenLaw}{n:Nat}{q:Program}{loose:List Str}{XP:(Str->Option Value)->Heap->Prop}{YP:World->Heap->Prop}{d:DefRec}
  (hn:l.most=some n) (hdf:d.params.defaults=[])
  (call:∀ (w:World) (s₀ s₁:Shared) (mg mb:Str->Option Value) (fa:Addr) (o:Obj) (pm cd doc:Value) (a:Addr) (vs:List Value) (ns:List Int),
   Ground q loose [] XP w s₀ mg mb s₁.heap->YP w s₁.heap->
   s₁.heap.get? fa=some o->o.data=.func (docDef d.name d.params d.body d.scope pm cd doc)->s₁.heap.CodeRec cd d.name->mg d.name=some (.ref fa)->
   s₁.heap.get? a=some { cls:=.type "list",data:=.seq vs.toArray }->IntsAre vs ns->ns.length<=n->s₁.gens=#[]->
   codeAny (model l.prog w) callerA (.call (.ref fa) ⟨[.ref a],[]⟩) (fun r s'=>r=.ok (.ret (.bool true))/\OldK s₁.heap s'.heap/\s'.os=s₁.os/\AllBare s'.gens) s₁) :
  WalkO q loose XP YP l.row.toRowW d [] (fun f vs=>YfX f vs):=by
 intro w s₀ s₁ mg mb G Y fa o pm cd doc dV kV ho hd hcd hD hmg hg args vals as hpre hlay hrd hwl hlo
 obtain rfl:dV=.none:=Dflts.none hD hdf
 obtain rfl:kV=.none:=Dflts.noKw hD
 obtain ⟨a,vs,ns,rfl,rfl,hobj,hints,hlen⟩:=jgt hn hpre hwl
 refine enter_call (YeO (call w s₀ s₁ mg mb fa o pm cd doc a vs ns G Y ho (fd_plain hd) hcd hmg hobj hints hlen hg) fun r s' hq=>?_)
 obtain ⟨rfl,h2,h3,h4⟩:=hq
 exact ⟨.inl ⟨.bool true,.bool true,[],rfl,fun _=>rfl,.bool true,jgz l _,fun _=>⟨YdI,fun _ hm=>(nomatch hm)⟩⟩,h2,h3,h4⟩

section
variable {prog:Program}{w:World}{A:Around}{E:Value->Shared->Prop}{s:Shared}{K:Frag}

end
end Att

namespace L2
open PySem PySem.Spec PyProof.Rows

theorem jdK:∀ {vs:List Value} {ns:List Int},IntsAre vs ns->Vals (ns.map V.int) vs
 | _,_,.nil=>.nil
 | _,_,.cons n t h=>.cons ⟨t,rfl⟩ (jdK h)

noncomputable def Only (H:Hp):Prop:=∀ b,H b=none\/∃ o xs,H b=some (.frz o (.lst xs))

theorem law_call {P : Program}{w : World}{K : Yac}{mg mb : Str -> Option Value}{CX : CXT}{k : Nat}{fa a : Addr}{fd : YbT}{x : Str}{sp : Sp}{s₁ : Shared}{vs : List Value}{ns : List Int}
    (KX : K.In s₁.heap) (hsys : ∃ o, K.lookup Ybq = some o /\ o.cls = .type "dict") (hns : s₁.heap.Ns Yax mg) (hb : s₁.heap.Ns YfK mb) (hbb : ∀ x : Str, x ≠ "__name__" -> mb x = YcR x) (hlim : s₁.heap.NoLimit) (hg : s₁.gens = #[])
    (ha : s₁.heap.get? a = some { cls := .type "list", data := .seq vs.toArray }) (hi : IntsAre vs ns) (hl : ns.length <= Yan) (hr : Room k callerA)
    (F : ∀ base : Heap, K.In base -> base.Ns Yax mg -> FnOk P w K mg base CX k fa fd [x] sp) (hbind : ∀ (s : Shared) (u : Value), BindsTo s fd ⟨[u], []⟩ [(x, u)])
    (hsp : ∀ H : Hp, Only H -> SqL K H a (ns.map V.int) -> sp [.ref a] H (fun v _ => v = .bl true) fun _ _ _ => False)
    (hCX : ∀ H e s', CX [] H s₁ (fun _ _ _ => False) e s' -> False) :
    codeAny (model P w) callerA (.call (.ref fa) ⟨[.ref a], []⟩) (fun r s' => r = .ok (.ret (.bool true)) /\ OldK s₁.heap s'.heap /\ s'.os = s₁.os /\ AllBare s'.gens) s₁ := by
  have rv := jdK hi
  have lenV := hi.length
  have core : ∀ H : Hp, Only H -> SqL K H a (ns.map V.int) -> HOk P w H s₁.heap -> (∀ b, H b ≠ none -> b = a) -> (H a ≠ none -> K.lookup a = none) ->
      codeAny (model P w) callerA (.call (.ref fa) ⟨[.ref a], []⟩) (fun r s' => r = .ok (.ret (.bool true)) /\ OldK s₁.heap s'.heap /\ s'.os = s₁.os /\ AllBare s'.gens) s₁ := by
    intro H hO hS hok hA hK
    have jcT : ∀ {b : Addr} {o : Obj}, s₁.heap.get? b = some o -> H b = none -> (hidT s₁.heap H).get? b = some o := fun e n => jh5 e n
    have noA : ∀ {b : Addr} {o : Obj} {es : Array Ya6} {ep : Nat}, s₁.heap.get? b = some o -> o.data = .dict es ep -> H b = none := fun {b o es ep} e d => by
      cases q : H b with
      | none => rfl
      | some u =>
        have e' : b = a := hA b (by rw [q]; simp)
        subst e'
        rw [ha] at e; cases e
        have d' : Data.seq vs.toArray _ = Yfq es ep := d
        cases d'
    have nsK : ∀ {b : Addr} {m : Str -> Option Value}, s₁.heap.Ns b m -> (hidT s₁.heap H).Ns b m := fun {b m} ⟨o, es, ep, e, d, r⟩ => ⟨o, es, ep, jcT e (noA e d), d, r⟩
    have hKb : K.In (hidT s₁.heap H) := fun b o e => jcT (KX b o e) (by
      cases q : H b with
      | none => rfl
      | some u =>
        have e' : b = a := hA b (by rw [q]; simp)
        subst e'
        rw [hK (by rw [q]; simp)] at e; cases e)
    have hM : Mod K mg (hidT s₁.heap H) := ⟨hKb, nsK hns, ⟨mb, nsK hb, hbb⟩, let ⟨mc, h1, h2⟩ := hlim; ⟨mc, nsK h1, h2⟩, hsys⟩
    have e0 : Env0 P w K mg (hidT s₁.heap H) callerA [] s₁ H := ⟨rfl, hM, fun b o e => jj4 e, Yem (jg1 _ _), trivial, fun b hb => absurd (show b ∈ ([] : List Addr) from hb) (by simp), hok, .of_eq hg⟩
    refine YeO ((F _ hKb (nsK hns)).run callerA [] s₁ H ⟨[.ref a], []⟩ [.ref a] [.ref a] _ _ hr e0 (hbind s₁ (.ref a)) (.cons rfl .nil) (hsp H hO hS)) fun r s' h => ?_
    cases r with
    | error e => exact (hCX H e s' h).elim
    | ok fl =>
      cases fl with
      | next => exact YcC h
      | brk => exact YcC h
      | cont => exact YcC h
      | ret u =>
        obtain ⟨v, H', os, bare, un, hok', r', q⟩ := h
        have q' : v = .bl true := q
        subst q'
        obtain rfl : u = Ybr true := r'
        refine ⟨rfl, OldK.of_keep fun b o e => ?_, os, bare⟩
        cases q : H b with
        | none => exact un.keep b o e q (by intro z; exact absurd (show b ∈ ([] : List Addr) from z) (by simp)) (by simp)
        | some u =>
          rcases hO b with z | ⟨ob, xs, z⟩
          · rw [q] at z; cases z
          · have z2 := un.frzs b ob _ z
            obtain ⟨e1, _⟩ := hok b _ z
            obtain ⟨e2, _⟩ := hok' b _ z2
            rw [e] at e1; cases e1
            exact e2
  cases hk : K.lookup a with
  | some o =>
    have e := KX a o hk
    rw [ha] at e
    cases e
    refine core (fun _ => none) (fun _ => .inl rfl) (.inr ⟨_, vs.toArray, _, hk, rfl, rfl, rfl, by rw [Yat, lenV]; exact hl, by simpa using rv⟩) (fun b u z => by have z' : (none : Option HO) = some u := z; cases z') (fun b z => absurd rfl z) fun z => absurd rfl z
  | none =>
    refine core (fun b => if b = a then some (.frz { cls := .type "list", data := .seq vs.toArray } (.lst (ns.map V.int))) else none) (fun b => ?_) (.inl (.inr ⟨{ cls := .type "list", data := .seq vs.toArray }, if_pos rfl⟩)) (fun b u z => ?_) (fun b z => ?_) fun _ => hk
    · by_cases hb : b = a
      · exact .inr ⟨_, _, if_pos hb⟩
      · exact .inl (if_neg hb)
    · by_cases hb : b = a
      · have z' := (if_pos hb).symm.trans z
        cases z'
        subst hb
        exact ⟨ha, by rw [Yai]; exact hl, vs, _, rv, ha⟩
      · have z' := (if_neg hb).symm.trans z
        cases z'
    · by_cases hb : b = a
      · exact hb
      · exact absurd (if_neg hb) z

theorem walk_of {l:YdB}{n k:Nat}{q:Program}{loose:List Str}{XP:(Str->Option Value)->Heap->Prop}{YP:World->Heap->Prop}{d:DefRec}{K:Params->Yac}{CX:World->CXT}{sp:World->Sp}{x:Str}
  (hn:l.most=some n) (hn2:n<=Yan) (hdf:d.params.defaults=[]) (hr:Room k callerA)
  (hY:∀ (w:World) (h:Heap),YP w h->(K w.params).In h) (hsy:∀ w:World,∃ o,(K w.params).lookup Ybq=some o/\o.cls=.type "dict")
  (F:∀ (w:World) (mg:Str->Option Value) (fa:Addr) (h:Heap),(K w.params).In h->h.Ns Yax mg->mg d.name=some (.ref fa)->
   ∃ fd:YbT,(∀ (s:Shared) (u:Value),BindsTo s fd ⟨[u],[]⟩ [(x,u)])/\
    ∀ base:Heap,(K w.params).In base->base.Ns Yax mg->FnOk l.prog w (K w.params) mg base (CX w) k fa fd [x] (sp w))
  (hsp:∀ (w:World) (H:Hp) (a:Addr) (ns:List Int),ns.length<=n->Only H->SqL (K w.params) H a (ns.map V.int)->sp w [.ref a] H (fun v _=>v=.bl true) fun _ _ _=>False)
  (hCX:∀ (w:World) (H:Hp) (s:Shared) (e:Value) (s':Shared),CX w [] H s (fun _ _ _=>False) e s'->False) :
  Ygi q loose XP YP l.row.toRowW d [] (fun f vs=>YfX f vs):=by
 refine Att.attach_call hn hdf fun w s₀ s₁ mg mb fa o pm cd doc a vs ns G Y ho hd hcd hmg hobj hints hlen hg=>?_
 have KX:=hY w _ Y
 obtain ⟨fd,hb,hF⟩:=F w mg fa _ KX G.T.g hmg
 exact law_call KX (hsy w) G.T.g G.T.b G.T.builtins G.T.nolimit hg hobj hints (Yaw hlen hn2) hr hF hb (fun H hO hS=>hsp w H a ns hlen hO hS) fun H e s'=>hCX w H s₁ e s'

noncomputable def jdA (s:Stmt)(j:Nat):Stmt:=match s with
 | .ClassDef _ _ _ body _ _ _ _ _ _ _=>body.getD j (.Pass ⟨0,0,0,0⟩)
 | _=>.Pass ⟨0,0,0,0⟩
def defArgs (s:Stmt):Yfk:=match s with
 | .FunctionDef _ a _ _ _ _ _ _ _ _=>a
 | _=>{ posonlyargs:=[],args:=[],vararg:=none,kwonlyargs:=[],kw_defaults:=[],kwarg:=none,defaults:=[] }
def defBody (s:Stmt):List Stmt:=match s with
 | .FunctionDef _ _ b _ _ _ _ _ _ _=>b
 | _=>[]
def defScope (s:Stmt):Scope:=match s with
 | .FunctionDef _ _ _ _ _ _ sc _ _ _=>sc
 | _=>{ kind:=.function,names:=[],isGenerator:=false,isCoroutine:=false }

noncomputable abbrev CX0:CXT:=fun _ _ _ _ _ _=>False
noncomputable abbrev E0:XK:=fun _ _ _=>False
structure Fun (K:Yac)(x qual:Str)(st:Stmt)(f:Addr)(fd:YbT):Prop where
 ex:∃ (oc:Value) (od:Option Addr) (kV doc pm:Value) (an:Option Addr) (cdv ct:Value) (osl:Array (Option Value)),
  fd=YaX x qual (defArgs st) (defBody st) (defScope st) .none kV doc pm an cdv ct/\K.lookup f=some ⟨oc,od,.func fd,osl⟩/\Ya0 K cdv qual=true
 kp:YaN K (.ref f)=true
section
variable {P:Program}{w:World}{K:Yac}{mg:Str->Option Value}{base:Heap}
theorem Fun.binds {x qual:Str}{st:Stmt}{f:Addr}{fd:YbT}{ps:List Str}(F:Fun K x qual st f fd)
  (h:∀ (kV doc pm:Value) (an:Option Addr) (cdv ct:Value) (us:List Value),us.length=ps.length->bindArgs (YaX x qual (defArgs st) (defBody st) (defScope st) .none kV doc pm an cdv ct) ⟨us,[]⟩=pure (ps.zip us)):Binds K fd ps []:=by
 obtain ⟨oc,od,kV,doc,pm,an,cdv,ct,osl,rfl,lk,hcd⟩:=F.ex
 exact .all (h kV doc pm an cdv ct)
theorem jaN {x qual:Str}{st:Stmt}{f:Addr}{oc:Value}{od an:Option Addr}{osl:Array (Option Value)}{kV doc pm cdv ct:Value}(l:K.lookup f=some ⟨oc,od,.func (YaX x qual (defArgs st) (defBody st) (defScope st) .none kV doc pm an cdv ct),osl⟩)
  (c:Ya0 K cdv qual=true) (k:YaN K (.ref f)=true):Fun K x qual st f (YaX x qual (defArgs st) (defBody st) (defScope st) .none kV doc pm an cdv ct):=⟨⟨oc,od,kV,doc,pm,an,cdv,ct,osl,rfl,l,c⟩,k⟩
end
theorem jn2 {A:Around}{k:Nat}(hr:Room k A):A.units + 1 < cLine:=Ycm (Yf0 (by decide:1<=64) _) hr.units
section
variable {X:Cx}
end

theorem iteF {A B:Prop}(h:B):if false=true then A else B:=by
 rw [if_neg Yas]
 exact h
theorem iteT {A B:Prop}(h:A):if true=true then A else B:=by
 rw [if_pos rfl]
 exact h
noncomputable def Same (H H':Hp):Prop:=∀ b o,H b=some o->H' b=some o
section
variable {X:Cx}
theorem jhe:ja2 X (.builtin "len") (fun xs H Q=>∃ a kvs,xs=[V.ref a]/\H a=some (.dK kvs)/\Q (.int kvs.length) H):=by
 intro pins s σ H xs us Q I r h
 obtain ⟨a,kvs,rfl,ha,q⟩:=h
 obtain ⟨u,rfl,ru⟩:=jcV r
 cases ru
 exact jn9 I (.inl ha) fun t s' I'=>⟨.int kvs.length,H,I',⟨t,rfl⟩,q⟩
end
section
variable {κ:Type}[DecidableEq κ]
end
end L2

namespace L2
open PySem PySem.Spec PyProof.Rows
set_option maxHeartbeats 4000000

section
variable {prog:Program}{w:World}{A:Around}{R:Result->Shared->Prop}{s:Shared}
noncomputable def jeI (env:Env)(ifs:List Expr):Sem Bool:=forIn ifs true fun c r=>ite (r=true) (isTrue c env (eval c env) >>= fun b=>pure (.yield b)) (pure (.yield r))
noncomputable def jcz (ip:Pos)(tg:Expr)(ifs:List Expr)(it:Value)(env:Env)(em:Sem Unit)(next:Code):Sem Fin:=
 standAt ip >>= fun _=>pyNext it >>= fun r=>match r with
  | none=>pure (.done .next)
  | some v=>Ydt tg it v >>= fun _=>assign tg env v >>= fun _=>jeI env ifs >>= fun ok=>ite (ok=true) (em >>= fun _=>again next) (again next)
noncomputable def jjf (M:Model)(A:Around)(tg:Expr)(ifs:List Expr)(it:Value)(env:Env)(em:Sem Unit)(fin:Shared->Prop)(less:Shared->Prop):Option Value->Shared->Prop
 | none,s=>fin s
 | some v,s=>wpAny M A (Ydt tg it v) (fun _ s=>wpAny M A (assign tg env v) (fun _ s=>wpAny M A (jeI env ifs) (fun ok s=>if ok=true then wpAny M A em (fun _ s=>less s) (fun _ _=>False) s else less s) (fun _ _=>False) s) (fun _ _=>False) s) (fun _ _=>False) s
theorem jeg {elt:Expr}{gens:List Yck}{scope:Scope}{pos:Pos}{dp:Nat}{target:Expr}{ip:Pos}{ifs:List Expr}{it acc:Value}{env:Env}{em:Sem Unit}(I:Nat->Shared->Prop)
  (hct:Ye2 (.ListComp elt gens scope pos) dp it acc env=jcz ip target ifs it env em (.compLoop (.ListComp elt gens scope pos) dp it acc env))
  (turn:∀ k t,I k t->wpAny (model prog w) A (pyNext it) (jjf (model prog w) A target ifs it env em (R (.ok .next)) fun t=>∃ m,m < k/\I m t) (fun _ _=>False) t)
  (n:Nat) (h:I n s):codeAny (model prog w) A (.compLoop (.ListComp elt gens scope pos) dp it acc env) R s:=by
 have no:∀ {Z:Value->Shared->Prop} (e:Value) (t:Shared),False->Z e t:=fun _ _ f=>f.elim
 refine codeAny_loop rfl I (fun k t hk=>wpAny_noted (m:=Ye2 (.ListComp elt gens scope pos) dp it acc env) (hct ▸ ?_)) n h
 refine Yab (YcV (Yab (Ybc (turn k t hk) (fun r t1 p=>?_) no)))
 match r,p with
 | none,p=>exact Yam p
 | some v,p=>
  refine Yab (Ybc p (fun _ t2 p=>Yab (Ybc p (fun _ t3 p=>Yab (Ybc p (fun ok t4 p=>?_) no)) no)) no)
  match ok,p with
  | false,p=>exact Yam ⟨rfl,p⟩
  | true,p=>exact Yab (Ybc p (fun _ t5 p=>Yam ⟨rfl,p⟩) no)
end

theorem jbi (env:Env):∀ (names:List (Str×YbR)) (acc:List (Str×Addr)),(∀ y∈names,y.2=.free->∃ c,env.cells.lookup y.1=some c)->
  ∃ cl:List (Str×Addr),(forIn names acc (fun (y:Str×YbR) (cs:List (Str×Addr))=>(if (y.2 == Ya9)=true then (do let c <- cellOf env y.1; pure (ForInStep.yield ((y.1,c)::cs))) else pure (ForInStep.yield cs):Sem (ForInStep (List (Str×Addr))))):Sem (List (Str×Addr)))=pure cl/\
   (∀ x c,(x,c)∈cl->(x,c)∈acc\/(env.cells.lookup x=some c/\(x,Ya9)∈names))/\(∀ p∈acc,p∈cl)/\(∀ y∈names,y.2=.free->∃ c,(y.1,c)∈cl)
 | [],acc,_=>⟨acc,rfl,fun _ _ h=>.inl h,fun _ h=>h,fun _ h=>nomatch h⟩
 | (n,k)::r,acc,h=>by
  by_cases hk:k=.free
  ·subst hk
   obtain ⟨c,hc⟩:=h (n,.free) YaH rfl
   obtain ⟨cl,e,h1,h2,h3⟩:=jbi env r ((n,c)::acc) fun y hy=>h y (Yap _ hy)
   refine ⟨cl,?_,fun x d hd=>?_,fun p hp=>h2 p (Yap _ hp),fun y hy hf=>?_⟩
   ·rw [List.forIn_cons]
    have:(cellOf env n:Sem Addr)=pure c:=by unfold cellOf; rw [hc]
    simp only [beq_self_eq_true,if_true,this,pure_bind]
    exact e
   ·rcases h1 x d hd with z | ⟨z,z'⟩
    ·rcases YbW.mp z with z | z
     ·cases z; exact .inr ⟨hc,YaH⟩
     ·exact .inl z
    ·exact .inr ⟨z,Yap _ z'⟩
   ·rcases YbW.mp hy with z | z
    ·subst z; exact ⟨c,h2 _ YaH⟩
    ·exact h3 y z hf
  ·obtain ⟨cl,e,h1,h2,h3⟩:=jbi env r acc fun y hy=>h y (Yap _ hy)
   have hb:(k == Ya9)=false:=by simpa using hk
   refine ⟨cl,?_,fun x d hd=>?_,h2,fun y hy hf=>?_⟩
   ·rw [List.forIn_cons]
    simp only [hb,Ybb,if_false,pure_bind]
    exact e
   ·rcases h1 x d hd with z | ⟨z,z'⟩
    ·exact .inl z
    ·exact .inr ⟨z,Yap _ z'⟩
   ·rcases YbW.mp hy with z | z
    ·subst z; exact absurd hf hk
    ·exact h3 y z hf
theorem jbL {β:Type}:∀ {l:List (Str×β)} {x:Str} {c:β},(x,c)∈l->∃ d,l.lookup x=some d/\(x,d)∈l
 | (n,k)::r,x,c,h=>by
  cases hx:x == n with
  | true=>
   refine ⟨k,by simp only [Ybj,hx],?_⟩
   rw [eq_of_beq hx]; exact YaH
  | false=>
   rcases YbW.mp h with z | z
   ·cases z; simp at hx
   ·obtain ⟨d,e,m⟩:=jbL z
    exact ⟨d,by simp only [Ybj,hx]; exact e,Yap _ m⟩
theorem jdi {scope:Scope}{env:Env}(h:∀ y∈scope.names,y.2=.free->∃ c,env.cells.lookup y.1=some c) :
  ∃ cl:List (Str×Addr),closureFor scope env=pure cl/\(∀ x c,cl.lookup x=some c->env.cells.lookup x=some c)/\(∀ y∈scope.names,y.2=.free->∃ c,cl.lookup y.1=some c):=by
 obtain ⟨cl,e,h1,_,h3⟩:=jbi env scope.names [] h
 refine ⟨cl,?_,fun x c hx=>?_,fun y hy hf=>?_⟩
 ·unfold closureFor
  rw [<- e]
  simp only [bind_pure]
 ·rcases h1 x c (Ya1 hx) with z | ⟨z,_⟩
  ·exact nomatch z
  ·exact z
 ·obtain ⟨c,hc⟩:=h3 y hy hf
  obtain ⟨d,e,_⟩:=jbL hc
  exact ⟨d,e⟩

noncomputable def jai (X:Cx)(N:List Str)(scope:Scope)(cl:List (Str×Addr))(C:Addr)(s₀:Shared)(H₀:Hp)(fp:List Addr):Cx where
 prog:=X.prog
 w:=X.w
 K:=X.K
 mg:=X.mg
 base:=X.base
 A:=X.A
 N:=N
 s₀:=s₀
 H₀:=H₀
 env:=compEnvC scope cl C X.env
 outer:=X.stack
 stack:=X.stack
 ex:=fp
 fn:=fun x=>scope.names.lookup x == some .cell
 calm:=X.calm
 pn:=[]
 xe:=fun _ _=>False

noncomputable def cOk (oN:List Str)(on:List (Str×YbR))(N:List Str)(pick:List (Option Nat))(scope:Scope):Bool:=
 decide (scope.kind=.function) && scope.names.all (fun y=>y.2 != .cell || scope.names.lookup y.1 == some .cell) && scope.names.all (fun y=>y.2 != .local || scope.names.lookup y.1 == some .local)
  && scope.names.all (fun y=>y.2 != .free || (scope.names.lookup y.1 == some .free && (on.lookup y.1 == some .cell || on.lookup y.1 == some .free)))
  && pick.length == N.length && (N.zip pick).all (fun p=>match p.2 with | none=>true | some j=>oN[j]? == some p.1 && scope.names.lookup p.1 == some .free)

structure CScope (X:Cx)(N:List Str)(pick:List (Option Nat))(scope:Scope):Prop where
 kind:scope.kind=.function
 cells:∀ y∈scope.names,y.2=.cell->scope.names.lookup y.1=some .cell
 names:∀ y∈scope.names,y.2=.local->scope.names.lookup y.1=some .local
 fre:∀ y∈scope.names,y.2=.free->scope.names.lookup y.1=some .free/\(X.env.kindOf y.1=some .cell\/X.env.kindOf y.1=some .free)
 len:pick.length=N.length
 caps:∀ (i j:Nat) (x:Str),N[i]?=some x->pick[i]?=some (some j)->X.N[j]?=some x/\scope.names.lookup x=some .free
theorem jcc (f:Str->YbR->YbR):∀ (names:List (Str×YbR)) (x:Str),(names.map fun y=>(y.1,f y.1 y.2)).lookup x=(names.lookup x).map (f x)
 | [],_=>rfl
 | (n,k)::r,x=>by
  rw [Ya4,Ybj,Ybj,jcc f r x]
  by_cases e:x=n
  ·subst e; rw [beq_self_eq_true]; rfl
  ·rw [beq_false_of_ne e]
noncomputable def jiO (env:Env)(n:Str)(k:YbR):YbR:=if (k == Ya9 && env.scope.kind == .function && env.kindOf n == some .cell) then .cell else k
theorem jbH (env:Env)(names:List (Str×YbR))(x:Str) :
  (names.map fun (n,k)=>if (k == Ya9 && env.scope.kind == .function && env.kindOf n == some .cell) then (n,Ya3) else (n,k)).lookup x=(names.lookup x).map (jiO env x):=by
 rw [<- jcc (jiO env)]
 congr 2
 funext y
 show ite _ _ _=(y.1,ite _ _ _)
 split <;> rfl
theorem jaV {env:Env}{names:List (Str×YbR)}{x:Str}(h:names.lookup x=some .free) :
  (names.map fun (n,k)=>if (k == Ya9 && env.scope.kind == .function && env.kindOf n == some .cell) then (n,Ya3) else (n,k)).lookup x=some .cell\/
  (names.map fun (n,k)=>if (k == Ya9 && env.scope.kind == .function && env.kindOf n == some .cell) then (n,Ya3) else (n,k)).lookup x=some .free:=by
 rw [jbH,h]
 show some (ite _ _ _)=_\/some (ite _ _ _)=_
 split
 ·exact .inl rfl
 ·exact .inr rfl
theorem jat {env:Env}{q:YbR}(hq:q≠.free){names:List (Str×YbR)}{x:Str}(h:names.lookup x=some q) :
  (names.map fun (n,k)=>if (k == Ya9 && env.scope.kind == .function && env.kindOf n == some .cell) then (n,Ya3) else (n,k)).lookup x=some q:=by
 rw [jbH,h]
 show some (ite _ _ _)=_
 rw [beq_false_of_ne hq]
 rfl
theorem jbf {env:Env}:∀ {names:List (Str×YbR)} {x:Str},
  ((names.map fun (n,k)=>if (k == Ya9 && env.scope.kind == .function && env.kindOf n == some .cell) then (n,Ya3) else (n,k)).lookup x=some .cell\/
  (names.map fun (n,k)=>if (k == Ya9 && env.scope.kind == .function && env.kindOf n == some .cell) then (n,Ya3) else (n,k)).lookup x=some .free)->(x,Ya9)∈names\/(x,Ya3)∈names
 | [],_,h=>by simp at h
 | (n,k)::r,x,h=>by
  have ih:_->_:=@jbf env r x
  have h':Ycc x ((if (k == Ya9 && env.scope.kind == .function && env.kindOf n == some .cell)=true then (n,Ya3) else (n,k))::r.map fun (n,k)=>if (k == Ya9 && env.scope.kind == .function && env.kindOf n == some .cell) then (n,Ya3) else (n,k))=some .cell\/Ycc x ((if (k == Ya9 && env.scope.kind == .function && env.kindOf n == some .cell)=true then (n,Ya3) else (n,k))::r.map fun (n,k)=>if (k == Ya9 && env.scope.kind == .function && env.kindOf n == some .cell) then (n,Ya3) else (n,k))=some .free:=h
  by_cases hk:k=.free
  ·cases hx:x == n with
   | true=>rw [eq_of_beq hx,hk]; exact .inl YaH
   | false=>
    refine (ih ?_).imp (Yap _) (Yap _)
    by_cases hcc:(k == Ya9 && env.scope.kind == .function && env.kindOf n == some .cell)=true
    ·rw [if_pos hcc] at h'; simpa only [Ybj,hx] using h'
    ·rw [if_neg hcc] at h'; simpa only [Ybj,hx] using h'
  ·have hb:(k == Ya9)=false:=by simpa using hk
   rw [if_neg (by simp [hb])] at h'
   cases hx:x == n with
   | true=>
    simp only [Ybj,hx] at h'
    rcases h' with z | z
    ·rw [eq_of_beq hx,YaU z]; exact .inr YaH
    ·exact absurd (YaU z) hk
   | false=>exact (ih (by simpa only [Ybj,hx] using h')).imp (Yap _) (Yap _)

theorem jaB:∀ (names:List (Str×YbR)) (n:Nat) (acc:List (Str×Addr)),YbG n names acc=YbG n names []++acc
 | [],_,_=>rfl
 | (x,k)::r,n,acc=>by
  unfold YbG
  split
  ·rw [jaB r (n + 1) ((x,n)::acc),jaB r (n + 1) [(x,n)],Yay]; rfl
  ·exact jaB r n acc
theorem jaP:∀ (names:List (Str×YbR)) (n:Nat) {x:Str} {c:Addr},(x,c)∈YbG n names []->(x,Ya3)∈names
 | [],_,_,_,h=>nomatch h
 | (y,k)::r,n,x,c,h=>by
  unfold YbG at h
  split at h
  ·rename_i hk
   rw [jaB] at h
   rcases List.mem_append.mp h with h | h
   ·exact Yap _ (jaP r _ h)
   ·have e:(x,c)=(y,n):=by simpa using h
    cases e
    rw [eq_of_beq hk]; exact YaH
  ·exact Yap _ (jaP r _ h)
theorem jc7 {β:Type}:∀ (l m:List (Str×β)) (x:Str),(l++m).lookup x=(l.lookup x).or (m.lookup x)
 | [],_,_=>by simp
 | (n,k)::r,m,x=>by
  rw [Ygk,Ybj,Ybj]
  cases hx:x == n with
  | true=>simp
  | false=>exact jc7 r m x
structure BCells (scope:Scope)(cl cs:List (Str×Addr))(lo:Nat)(h:Heap):Prop where
 lk:∀ x c,cs.lookup x=some c->((x,Ya3)∈scope.names/\lo < c/\h.IsCell c none)\/((x,Ya3)∉scope.names/\cl.lookup x=some c)
 own:∀ x,scope.names.lookup x=some .cell->∃ c,cs.lookup x=some c/\lo < c
 old:∀ x c,(x,Ya3)∉scope.names->cl.lookup x=some c->cs.lookup x=some c
 inj:∀ x y c,cs.lookup x=some c->cs.lookup y=some c->lo < c->x=y
theorem jhj {scope:Scope}{cl:List (Str×Addr)}{h:Heap}{lo:Nat}(hl:h.objs.size=lo + 1)(S:∀ y∈scope.names,y.2=.cell->scope.names.lookup y.1=some .cell)(hcl:∀ x c,cl.lookup x=some c->c<=lo):BCells scope cl (YbG (lo + 1) scope.names cl) lo (Yff h scope.names):=by
 have ok:=cellsFrom_ok scope.names h (lo + 1) [] ⟨fun _ _ hm=>(nomatch hm),YdI⟩ (by omega)
 rw [hl] at ok
 have look:∀ x,(YbG (lo + 1) scope.names cl).lookup x=((YbG (lo + 1) scope.names []).lookup x).or (cl.lookup x):=fun x=>by rw [jaB,jc7]
 have own:∀ x,(x,Ya3)∈scope.names->∃ c,(YbG (lo + 1) scope.names []).lookup x=some c:=fun x hx=>jdG (S _ hx rfl)
 refine ⟨fun x c e=>?_,fun x hx=>?_,fun x c hx hc=>?_,fun x y c e1 e2 hc=>?_⟩
 ·rw [look] at e
  by_cases hx:(x,Ya3)∈scope.names
  ·obtain ⟨c',e'⟩:=own x hx
   rw [e',Yez] at e
   have e:c'=c:=YaU e
   subst e
   obtain ⟨z1,z2⟩:=ok.empty x c' (Ya1 e')
   exact .inl ⟨hx,z2,z1⟩
  ·cases q:(YbG (lo + 1) scope.names []).lookup x with
   | some c'=>exact absurd (jaP _ _ (Ya1 q)) hx
   | none=>rw [q,YeA] at e; exact .inr ⟨hx,e⟩
 ·obtain ⟨c,e⟩:=own x (Ya1 hx)
  exact ⟨c,by rw [look,e,Yez],(ok.empty x c (Ya1 e)).2⟩
 ·rw [look]
  cases q:(YbG (lo + 1) scope.names []).lookup x with
  | some c'=>exact absurd (jaP _ _ (Ya1 q)) hx
  | none=>rw [YeA]; exact hc
 ·rw [look] at e1 e2
  have new:∀ x,((YbG (lo + 1) scope.names []).lookup x).or (cl.lookup x)=some c->(YbG (lo + 1) scope.names []).lookup x=some c:=fun x e=>by
   cases q:(YbG (lo + 1) scope.names []).lookup x with
   | some c'=>rw [q,Yez] at e; exact e
   | none=>
    rw [q,YeA] at e
    exact absurd (YaF hc (hcl x c e)) (YbB _)
  exact name_of_addr ok.apart (Ya1 (new x e1)) (Ya1 (new y e2))
theorem jbF {M:Model}{A:Around}{E:Value->Shared->Prop}{s:Shared}{scope:Scope}{globals:Addr}{cl:List (Str×Addr)}{qual:Str}{env:Env}{Q:Env->Shared->Prop}
  (hQ:Q (newEnv scope s.heap.objs.size globals (YbG (s.heap.objs.size + 1) scope.names cl) qual none .none (some env) YfK) { s with heap:=Yff (s.heap.push { cls:=.type "dict",data:=.dict #[] }) scope.names }) :
  wpAny M A (Yfw scope globals cl [] qual none .none (some env)) Q E s:=by
 have sz:(s.heap.push { cls:=.type "dict",data:=.dict #[] }).objs.size=s.heap.objs.size + 1:=YeT ..
 unfold Yfw
 rw [if_pos (by rfl)]
 refine Yab (wpAny_alloc (Yab (wpAny_layCells _ (fun x k c=>by by_cases e:(k == Ya3)=true <;> simp [e]) _ _ _ _ ?_)))
 rw [show Heap.objs (Shared.heap _)=(s.heap.push { cls:=.type "dict",data:=.dict #[] }).objs from rfl,sz]
 exact Yab (Yam (Yam hQ))

section
variable {X:Cx}{N:List Str}{scope:Scope}{cl:List (Str×Addr)}{C:Addr}{s₀:Shared}{H₀:Hp}{fp:List Addr}
theorem glc {x:Str}(h:scope.names.lookup x=some .globalImplicit):Gl (jai X N scope cl C s₀ H₀ fp) x:=jat (by decide) h
end

noncomputable def PIfs (X:Cx)(ifs:List Expr)(t:TT):Prop:=
 ∀ (pins:List (Addr×Obj)) (s:Shared) (σ:St) (H:Hp) (Q:Bool->Hp->Prop),Inv X pins σ H s->t σ H Q->
  wpAny (model X.prog X.w) X.A (jeI X.env ifs) (TP X pins σ Q) X.xe s
noncomputable def jnn:TT:=fun _ H Q=>Q true H
theorem jjK {X:Cx}:PIfs X [] jnn:=fun _ _ _ H _ I h=>wpAny_tests_nil ⟨H,I,h⟩
theorem jjJ {X:Cx}{c:Expr}{t:TT}(h:PT X c t):PIfs X [c] t:=fun pins s σ H Q I q=>wpAny_tests_one (h pins s σ H Q I q)

noncomputable abbrev TEm:=St->List V->Hp->(St->List V->Hp->Prop)->Prop
noncomputable def jho (J:It)(g:TG)(tt:TT)(tem:TEm)(QQ:St->List V->Hp->Prop)(τ0:St)(ys0:List V)(H1:Hp):Prop:=∃ W:Nat->Nat->St->List V->Hp->Prop,
 (∃ m,W 0 m τ0 ys0 H1)/\∀ i m τ ys H,W i m τ ys H->
  (J.stop i H/\QQ τ ys H)\/(J.go i H/\∀ x H',J.yld i H x H'->g x τ H' fun τ2 H2=>tt τ2 H2 fun b H3=>if b=true then tem τ2 ys H3 fun τ3 ys' H4=>∃ m',m' < m/\W (i + 1) m' τ3 ys' H4
   else ∃ m',m' < m/\W (i + 1) m' τ2 ys H3)
noncomputable def emA (te:TE)(D:Addr):TEm:=fun τ ys H Q=>te τ H fun v H4=>H4 D=some (.lst ys)/\ys.length < Yan/\Q τ (ys++[v]) (upd H4 D (.lst (ys++[v])))
noncomputable def LcGG (J:It)(g:TG)(tt:TT)(tem:Addr->TEm)(D:Addr)(τ0:St)(Q:VK)(H1:Hp):Prop:=jho J g tt (tem D) (fun _ _ H=>Q (.ref D) H) τ0 [] (upd H1 D (.lst []))
noncomputable def PEm (Y:Cx)(em:Sem Unit)(tem:TEm):Prop:=∀ (pins:List (Addr×Obj)) (s:Shared) (τ:St) (ys:List V) (H:Hp) (Q:St->List V->Hp->Prop),Inv Y pins τ H s->tem τ ys H Q->
 wpAny (model Y.prog Y.w) Y.A em (fun _ s'=>∃ τ' ys' H',Inv Y pins τ' H' s'/\Q τ' ys' H') Y.xe s
noncomputable def tLcG (pick:List (Option Nat))(wi:TI)(g:TG)(tt:TT)(tem:Addr->TEm):TE:=fun σ H Q=>wi σ H fun J H1=>∀ D,H1 D=none->LcGG J g tt tem D (pick.map fun o=>o.bind fun j=>(σ[j]?).join) Q H1
noncomputable abbrev tLc (pick:List (Option Nat))(wi:TI)(g:TG)(tt:TT)(te:TE):TE:=tLcG pick wi g tt (emA te)
section
variable {X:Cx}{N:List Str}{pick:List (Option Nat)}{scope:Scope}{pins:List (Addr×Obj)}{σ:St}{s s3:Shared}{H H3:Hp}

theorem jf7 {cl cs : List (Str × Addr)}{fp : List Addr}{h₁ : Heap}{tk : Nat}{mB : Str -> Option Value}(S : CScope X N pick scope)(I3 : Inv X pins σ H3 s3)(hf : ∀ b ∈ fp, FpOk X pins H3 b)(hlt : ∀ b ∈ fp, b < s3.heap.objs.size)
    (c1 : ∀ x c, cl.lookup x = some c -> X.env.cells.lookup x = some c) (c2 : ∀ y ∈ scope.names, y.2 = .free -> ∃ c, cl.lookup y.1 = some c) (B : BCells scope cl cs s3.heap.objs.size h₁)
    (hns : h₁.Ns s3.heap.objs.size mB) (hk : ∀ b o, s3.heap.get? b = some o -> h₁.get? b = some o) :
    Inv (jai X N scope cs s3.heap.objs.size s3 H3 fp) [] (pick.map fun o => o.bind fun j => (σ[j]?).join) H3 { s3 with heap := h₁, toks := tk } := by
  have fsub : ∀ b ∈ frs X.stack, b ∈ X.env.locals :: X.fs := I3.stkSub
  have oc : ∀ x c, cs.lookup x = some c -> X.env.cells.lookup x = some c \/ s3.heap.objs.size < c := fun x c e => by
    rcases B.lk x c e with ⟨_, z, _⟩ | ⟨_, z⟩
    · exact .inr z
    · exact .inl (c1 x c z)
  have has : ∀ x, ((x, Ya9) ∈ scope.names \/ (x, Ya3) ∈ scope.names) -> ∃ c, cs.lookup x = some c := fun x hx => by
    by_cases hc : (x, Ya3) ∈ scope.names
    · obtain ⟨c, e, _⟩ := B.own x (S.cells _ hc rfl)
      exact ⟨c, e⟩
    · rcases hx with hx | hx
      · obtain ⟨c, e⟩ := c2 _ hx rfl
        exact ⟨c, B.old x c hc e⟩
      · exact absurd hx hc
  refine ⟨⟨I3.ok.mod, S.kind, I3.ok.glob, I3.ok.blt, Yak _, fun x y c e1 e2 => ?_, fun x hx => has x (jbf hx), fun x c z e => ?_, I3.ok.hd, I3.ok.frames, .inl rfl, fun b hb => ⟨Ya8 (hlt b hb), fun x c e => ?_⟩,
      I3.bs, Yaw I3.ok.bsz I3.sz, fun b o e hb => ?_, fun b hb hm => ?_, I3.stack, I3.stkFree⟩,
    rfl, I3.bare, Un.kept hk, ⟨_, hns, fun i x v e1 e2 e3 => ?_⟩, fun x c e => ?_, I3.hok.fresh (Yak _), fun x c e => ?_, fun p hp => absurd (show p ∈ ([] : List (Addr × Obj)) from hp) (by simp), I3.hok.kept hk, ?_⟩
  · by_cases hc : s3.heap.objs.size < c
    · exact B.inj x y c e1 e2 hc
    · exact I3.ok.inj x y c ((oc x c e1).resolve_right hc) ((oc y c e2).resolve_right hc)
  · have z' : scope.names.lookup x = some .cell := eq_of_beq z
    rcases B.lk x c e with ⟨_, y, _⟩ | ⟨y, _⟩
    · exact Ycq y
    · exact absurd (Ya1 z') y
  · rcases oc x c e with z | z
    · exact (hf b hb).2.2.2.2.1 x c z
    · intro q
      rw [q] at z
      exact absurd (Yel z (hlt b hb)) (YbB _)
  · rcases (hf b hb).2.2.2.1 with z | z
    · exact I3.ok.noex b o e z
    · exact absurd (YaF (Yav e) (Yaw I3.ok.bsz z)) (YbB _)
  · rcases YbW.mp (fsub b hm) with z | z
    · exact (hf b hb).2.1 z
    · exact (hf b hb).2.2.1 z
  · -- a captured name
    have e2' : ∃ j, pick[i]? = some (some j) /\ σ[j]? = some (some v) := by
      rw [YaE] at e2
      cases q : pick[i]? with
      | none => rw [q] at e2; cases e2
      | some o =>
        rw [q] at e2
        cases o with
        | none => simp at e2
        | some j =>
          simp at e2
          refine ⟨j, rfl, ?_⟩
          cases q2 : σ[j]? with
          | none => rw [q2] at e2; cases e2
          | some w' => rw [q2] at e2; simp at e2; rw [e2]
    obtain ⟨j, ej, ev⟩ := e2'
    obtain ⟨hN, hfr⟩ := S.caps i j x e1 ej
    have hmem : (x, Ya9) ∈ scope.names := Ya1 hfr
    have hnc : (x, Ya3) ∉ scope.names := fun z => by
      have := S.cells _ z rfl
      rw [hfr] at this; cases this
    obtain ⟨_, hkind⟩ := S.fre _ hmem rfl
    obtain ⟨m, hn, hl⟩ := I3.loc
    obtain ⟨u, r, l⟩ := hl j x v hN ev (hkind.elim (fun z => .inr (.inl z)) fun z => .inr (.inr z))
    refine ⟨u, r, .inr ⟨?_, ?_⟩⟩
    · exact jaV (env := X.env) hfr
    · obtain ⟨c, hc⟩ := c2 _ hmem rfl
      have hc' := c1 _ _ hc
      rcases l with ⟨z, _⟩ | ⟨_, c', e, o, ho, hd⟩
      · rcases hkind with y | y
        · rw [y] at z; cases z
        · rw [y] at z; cases z
      · have : c' = c := by rw [hc'] at e; exact (YaU e).symm
        subst this
        exact ⟨c', B.old x c' hnc hc, o, hk _ _ ho, hd⟩
  · rcases B.lk x c e with ⟨_, _, z⟩ | ⟨_, z⟩
    · exact ⟨none, z⟩
    · obtain ⟨v, o, ho, hd⟩ := I3.cell x c (c1 x c z)
      exact ⟨v, o, hk _ _ ho, hd⟩
  · rcases oc x c e with z | z
    · exact I3.freeC x c z
    · exact I3.hok.fresh (Ycq z)
  · rw [Yai]
    exact S.len

theorem jid {cl:List (Str×Addr)}{fp:List Addr}{C:Addr}{τ:St}{H':Hp}{s':Shared}{pins':List (Addr×Obj)}(I3:Inv X pins σ H3 s3)(hf:∀ b∈fp,FpOk X pins H3 b)(J:Inv (jai X N scope cl C s3 H3 fp) pins' τ H' s') :
  Inv X pins σ H' s':=I3.call' J.os J.base J.hok J.bare fun b hb=>⟨(hf b hb).2.2.2.1,(hf b hb).2.1,(hf b hb).2.2.2.2.1,(hf b hb).2.2.2.2.2⟩

theorem jj9 {Y:Cx}{elt tg:Expr}{gens:List Yck}{pos ip:Pos}{ifs:List Expr}{dp:Nat}{acc:Value}{em:Sem Unit}{g:TG}{tt:TT}{tem:TEm}{J:It}{fp:List Addr}{it:Addr}{tn:Nat->Heap->Prop}{QQ:St->List V->Hp->Prop}{τ0:St}{ys0:List V}
  (yc:Y.calm=true) (yxe:Y.xe=fun _ _=>False)
  (hct:Ye2 (.ListComp elt gens scope pos) dp (.ref it) acc Y.env=jcz ip tg ifs (.ref it) Y.env em (.compLoop (.ListComp elt gens scope pos) dp (.ref it) acc Y.env))
  (yg:PG Y tg g) (yi:PIfs Y ifs tt) (ym:PEm Y em tem) (J0:Inv Y pins τ0 H s) (T:Turn Y.prog Y.w Y.K tg J fp it tn) (t0:tn 0 s.heap) (f0:∀ b∈fp,FpOk Y pins H b) (hW:jho J g tt tem QQ τ0 ys0 H) :
  codeAny (model Y.prog Y.w) Y.A (.compLoop (.ListComp elt gens scope pos) dp (.ref it) acc Y.env) (fun r s'=>r=.ok .next/\∃ τ' ys' H',Inv Y pins τ' H' s'/\QQ τ' ys' H') s:=by
 obtain ⟨W,⟨m0,w0⟩,turn⟩:=hW
 have stat:∀ {H':Hp},(∀ b∈fp,H' b=none)->∀ b∈fp,FpOk Y pins H' b:=fun hn b hb=>⟨hn b hb,(f0 b hb).2⟩
 refine jeg (fun n s'=>∃ i τ ys H',Inv Y pins τ H' s'/\tn i s'.heap/\(∀ b∈fp,H' b=none)/\W i n τ ys H') hct ?_ m0 ⟨0,_,ys0,_,J0,t0,fun b hb=>(f0 b hb).1,w0⟩
 rintro n s4 ⟨i,τ,ys,H4,J4,t4,fr4,w4⟩
 rcases turn i n τ ys H4 w4 with ⟨stop,q⟩ | ⟨go,step⟩
 ·refine Ybc (T.done Y rfl rfl rfl yc i pins s4 τ H4 (fun _ _=>False) J4 (stat fr4) t4 stop) (fun r s5 ⟨hr,J5⟩=>?_) fun _ _ f=>f
  subst hr
  exact ⟨rfl,τ,ys,H4,J5,q⟩
 ·refine Ybc (T.item Y rfl rfl rfl yc i pins s4 τ H4 (fun _ _=>False) J4 (stat fr4) t4 go) (fun r s5 ⟨u,hr,h5⟩=>?_) fun _ _ f=>f
  subst hr
  refine Ybc h5 (fun _ s6 ⟨x,H6,J6,r6,y6,t6,fr6⟩=>?_) fun _ _ f=>f
  have J6':=J6.pinned (stat fr6) (T.obj _ _ t6)
  have ag:=yg _ s6 τ H6 x u _ J6' r6 (step x H6 y6)
  rw [yxe] at ag
  refine Ybc ag (fun _ s7 ⟨τ7,H7,J7,q7⟩=>?_) fun _ _ f=>f
  have ai:=yi _ s7 τ7 H7 _ J7 q7
  rw [yxe] at ai
  refine Ybc ai (fun ok s8 ⟨H8,J8,q8⟩=>?_) fun _ _ f=>f
  have again:∀ {τ9:St} {H9:Hp} {s9:Shared} {zs:List V},Inv Y (pins++jdV fp s6.heap) τ9 H9 s9->(∃ m',m' < n/\W (i + 1) m' τ9 zs H9)->∃ m,m < n/\∃ i τ ys H',Inv Y pins τ H' s9/\tn i s9.heap/\(∀ b∈fp,H' b=none)/\W i m τ ys H':=fun {τ9 H9 s9 zs} J9 ⟨m',hm,w9⟩=>by
   refine ⟨m',hm,i + 1,τ9,zs,H9,J9.unpinned,T.keep _ _ _ t6 fun b hb o e=>(J9.pin (b,o) (Ya5 _ (Ya5 _ (jbl hb e)))).1,fun b hb=>?_,w9⟩
   obtain ⟨o,e,d⟩:=T.obj _ _ t6 b hb
   exact (J9.pin (b,o) (Ya5 _ (Ya5 _ (jbl hb e)))).2.1
  cases ok with
  | false=>exact again J8 q8
  | true=>
   have am:=ym _ s8 τ7 ys H8 _ J8 q8
   rw [yxe] at am
   exact Ybc am (fun _ s9 ⟨τ9,zs,H9,J9,q9⟩=>again J9 q9) fun _ _ f=>f
theorem jiX {Y:Cx}{elt:Expr}{te:TE}{D:Addr}(yxe:Y.xe=fun _ _=>False)(he:PE Y elt te):PEm Y (do let _ <- call (.builtin "list.append") [.ref D,<- eval elt Y.env]) (emA te D):=by
 intro pins s τ ys H Q J q
 have ae:=he _ s τ H _ J q
 refine Yab (Ybc ae (fun v s9 ⟨z,H9,J9,r9,hD9,hz9,q9⟩=>?_) fun _ _ f=>f)
 have aa:=jd1 (X:=Y) _ s9 τ H9 (.ref D) [z] (.ref D) [v] (fun x H'=>H'=upd H9 D (.lst (ys++[z]))) J9 rfl (.cons r9 .nil) ⟨_,ys,z,rfl,rfl,hD9,hz9,rfl⟩
 refine Yab (Ybc aa (fun _ s10 ⟨_,H10,J10,_,e10⟩=>?_) fun _ _ f=>f)
 subst e10
 exact Yam ⟨τ,_,_,J10,q9⟩
theorem jfr {tg iter elt:Expr}{ifs:List Expr}{rest:List Yck}{pos:Pos}{g:TG}{tt:TT}{tem:Addr->TEm}{em:Addr->Env->Sem Unit}{J:It}{fp:List Addr}{it:Addr}{tn:Nat->Heap->Prop}{cl:List (Str×Addr)}{Q:VK}{E:Value->Shared->Prop}{RR:Value->Addr->Result->Shared->Prop}
  (hc:X.calm=true) (S:CScope X N pick scope) (c1:∀ x c,cl.lookup x=some c->X.env.cells.lookup x=some c) (c2:∀ y∈scope.names,y.2=.free->∃ c,cl.lookup y.1=some c)
  (hg:∀ cl C s₀ H₀ fp,PG (jai X N scope cl C s₀ H₀ fp) tg g) (hi:∀ cl C s₀ H₀ fp,PIfs (jai X N scope cl C s₀ H₀ fp) ifs tt) (he:∀ D cl C s₀ H₀ fp,PEm (jai X N scope cl C s₀ H₀ fp) (em D (jai X N scope cl C s₀ H₀ fp).env) (tem D))
  (hct:∀ (it:Value) (D:Addr) (env:Env),Ye2 (.ListComp elt (⟨tg,iter,ifs,0⟩::rest) scope pos) 0 it (.ref D) env=jcz iter.pos tg ifs it env (em D env) (.compLoop (.ListComp elt (⟨tg,iter,ifs,0⟩::rest) scope pos) 0 it (.ref D) env))
  (I2:Inv X pins σ H s) (T:Turn X.prog X.w X.K tg J fp it tn) (st:tn 0 s.heap) (hf:∀ b∈fp,FpOk X pins H b)
  (hW:∀ D,H D=none->LcGG J g tt tem D (pick.map fun o=>o.bind fun j=>(σ[j]?).join) Q H)
  (hRR:∀ D C H' s',Inv X pins σ H' s'->(∃ m,s'.heap.Ns C m)->FpOk X pins H' C->Q (.ref D) H'->RR (.ref D) C (.ok .next) s') :
  wpAny (model X.prog X.w) X.A (newList []) (fun acc s₃=>wpAny (model X.prog X.w) X.A (Yfw scope X.env.globals cl [] X.env.qual none .none (some X.env)) (fun cenv s₄=>
   codeAny (model X.prog X.w) X.A (.compStart (.ListComp elt (⟨tg,iter,ifs,0⟩::rest) scope pos) 0 (.ref it) acc { cenv with scope:=relabel scope X.env }) (RR acc cenv.locals) s₄) E s₃) E s:=by
 have hD:H s.heap.objs.size=none:=I2.hok.fresh (Yak _)
 have hlt:∀ b∈fp,b < s.heap.objs.size:=fun b hb=>let ⟨o,e,_⟩:=T.obj _ _ st b hb; Yav e
 refine Ybg (jbF ?_)
 have I3:Inv X pins σ (upd H s.heap.objs.size (.lst [])) { s with heap:=s.heap.push { cls:=.type "list",dict:=none,data:=.seq ([]:List Value).toArray } }:=
  I2.laid (t':=s.toks) (fun b u e=>Yaf _ e) (Yak _) ⟨YbA _,[],0,.nil,YaR _ rfl⟩
 generalize hs3:({ s with heap:=s.heap.push { cls:=.type "list",dict:=none,data:=.seq ([]:List Value).toArray } }:Shared)=s3 at I3 ⊢
 have hsz:s3.heap.objs.size=s.heap.objs.size + 1:=by rw [<- hs3]; exact YeT ..
 have hf3:∀ b∈fp,FpOk X pins (upd H s.heap.objs.size (.lst [])) b:=fun b hb=>⟨by rw [jab (Ya8 (hlt b hb))]; exact (hf b hb).1,(hf b hb).2⟩
 have hsz':(s3.heap.push { cls:=.type "dict",data:=.dict #[] }).objs.size=s3.heap.objs.size + 1:=YeT ..
 have hk:∀ b o,s3.heap.get? b=some o->(Yff (s3.heap.push { cls:=.type "dict",data:=.dict #[] }) scope.names).get? b=some o:=fun b o e=>pushCells_keeps _ _ b o (Yaf _ e)
 have hns₁:(Yff (s3.heap.push { cls:=.type "dict",data:=.dict #[] }) scope.names).Ns s3.heap.objs.size fun _=>none:=(Heap.Ns.new s3.heap (.type "dict")).keeps (pushCells_keeps _ _)
 have B:=jhj (cl:=cl) hsz' S.cells fun x c e=>by
  obtain ⟨v,z⟩:=I3.cell x c (c1 x c e)
  exact Ycq z.lt
 generalize Yff (s3.heap.push { cls:=.type "dict",data:=.dict #[] }) scope.names=h₁ at hk hns₁ B ⊢
 generalize YbG (s3.heap.objs.size + 1) scope.names cl=cs at B ⊢
 have c1':∀ x c,cs.lookup x=some c->X.env.cells.lookup x=some c\/s3.heap.objs.size < c:=fun x c e=>by
  rcases B.lk x c e with ⟨_,z,_⟩ | ⟨_,z⟩
  ·exact .inr z
  ·exact .inl (c1 x c z)
 have st1:tn 0 h₁:=T.keep _ _ _ st fun b _ o e=>hk b o (by rw [<- hs3]; exact Yaf _ e)
 have IY:Inv (jai X N scope cs s3.heap.objs.size s3 (upd H s.heap.objs.size (.lst [])) fp) [] (pick.map fun o=>o.bind fun j=>(σ[j]?).join) (upd H s.heap.objs.size (.lst [])) { s3 with heap:=h₁ }:=
  jf7 (tk:=s3.toks) S I3 hf3 (fun b hb=>YaF (hlt b hb) (by omega)) c1 c2 B hns₁ hk
 generalize hY:jai X N scope cs s3.heap.objs.size s3 (upd H s.heap.objs.size (.lst [])) fp=Y at IY
 have yg:PG Y tg g:=hY ▸ hg _ _ _ _ _
 have yi:PIfs Y ifs tt:=hY ▸ hi _ _ _ _ _
 have ye:PEm Y (em s.heap.objs.size Y.env) (tem s.heap.objs.size):=hY ▸ he _ _ _ _ _ _
 have yprog:Y.prog=X.prog:=by rw [<- hY]; rfl
 have yw:Y.w=X.w:=by rw [<- hY]; rfl
 have yK:Y.K=X.K:=by rw [<- hY]; rfl
 have yA:Y.A=X.A:=by rw [<- hY]; rfl
 have yc:Y.calm=true:=by rw [<- hY]; exact hc
 have yenv:Y.env=compEnvC scope cs s3.heap.objs.size X.env:=by rw [<- hY]; rfl
 have yex:∀ b,b∈Y.ex↔b∈fp:=fun b=>by rw [<- hY]; rfl
 have yxe:Y.xe=fun _ _=>False:=by rw [<- hY]; rfl
 have ypn:Y.pn=[]:=by rw [<- hY]; rfl
 have yfs:∀ b,b∈Y.fs->b∈X.env.locals::X.fs:=fun b hb=>I3.stkSub b (by rw [<- hY] at hb; exact hb)
 have stat:∀ {H':Hp},(∀ b∈fp,H' b=none)->∀ b∈fp,FpOk Y [] H' b:=fun hn b hb=>by
  refine ⟨hn b hb,?_,fun hm=>?_,.inl ((yex b).mpr hb),fun x c e=>?_,fun p hp=>?_⟩
  ·rw [yenv]
   show b≠s3.heap.objs.size
   exact Ya8 (YaF (hlt b hb) (by omega))
  ·rcases YbW.mp (yfs b hm) with z | z
   ·exact (hf b hb).2.1 z
   ·exact (hf b hb).2.2.1 z
  ·rw [yenv] at e
   rcases c1' x c e with z | z
   ·exact (hf b hb).2.2.2.2.1 x c z
   ·intro q
    rw [q] at z
    exact absurd (Yel z (YaF (hlt b hb) (by omega))) (YbB _)
  ·rw [ypn] at hp; simp at hp
 have fin:∀ {τ:St} {H':Hp} {s':Shared},Inv Y [] τ H' s'->Q (.ref s.heap.objs.size) H'->RR (.ref s.heap.objs.size) s3.heap.objs.size (.ok .next) s':=fun {τ H' s'} J q=>by
  have fr:H' s3.heap.objs.size=none:=by have:=J.free; rw [yenv] at this; exact this
  obtain ⟨m,hn,_⟩:=J.loc
  rw [yenv] at hn
  exact hRR _ _ H' s' (jid I3 hf3 (hY ▸ J)) ⟨m,hn⟩ (I3.fpOk (Yak _) fr) q
 have hn:∀ b∈fp,upd H s.heap.objs.size (.lst []) b=none:=fun b hb=>(hf3 b hb).1
 have lp:=jj9 (pins:=[]) (s:={ s3 with heap:=h₁ }) (acc:=.ref s.heap.objs.size) (ifs:=ifs) (em:=em s.heap.objs.size Y.env) yc yxe (hct (.ref it) s.heap.objs.size Y.env) yg yi ye IY (by rw [yprog,yw,yK]; exact T) st1 (stat hn) (hW _ hD)
 rw [yprog,yw,yA,yenv] at lp
 have lp:=YeO lp (R':=RR (.ref s.heap.objs.size) s3.heap.objs.size) fun r s' ⟨hr,τ',ys',H',I',q'⟩=>by subst hr; exact fin I' q'
 show codeAny (model X.prog X.w) X.A (.compStart (.ListComp elt (⟨tg,iter,ifs,0⟩::rest) scope pos) 0 (.ref it) (.ref s.heap.objs.size) (compEnvC scope cs s3.heap.objs.size X.env)) (RR (.ref s.heap.objs.size) s3.heap.objs.size) _
 exact codeAny_compStart_list lp (T.self _ 0 _ _ _ st1 lp)

theorem jlt {tg iter elt:Expr}{ifs:List Expr}{pos:Pos}{wi:TI}{g:TG}{tt:TT}{rest:List Yck}{tem:Addr->TEm}{em:Addr->Env->Sem Unit}(hc:X.calm=true)(S:CScope X N pick scope)(hw:PI X tg iter wi)
  (hg:∀ cl C s₀ H₀ fp,PG (jai X N scope cl C s₀ H₀ fp) tg g) (hi:∀ cl C s₀ H₀ fp,PIfs (jai X N scope cl C s₀ H₀ fp) ifs tt) (he:∀ D cl C s₀ H₀ fp,PEm (jai X N scope cl C s₀ H₀ fp) (em D (jai X N scope cl C s₀ H₀ fp).env) (tem D))
  (hct:∀ (it:Value) (D:Addr) (env:Env),Ye2 (.ListComp elt (⟨tg,iter,ifs,0⟩::rest) scope pos) 0 it (.ref D) env=jcz iter.pos tg ifs it env (em D env) (.compLoop (.ListComp elt (⟨tg,iter,ifs,0⟩::rest) scope pos) 0 it (.ref D) env))
  (hs:∀ x,Ybv iter X.env x=pure x:=by intro _; rfl):PE X (.ListComp elt (⟨tg,iter,ifs,0⟩::rest) scope pos) (tLcG pick wi g tt tem):=by
 intro pins s σ H Q I h
 obtain ⟨cl,hclos,c1,c2⟩:=jdi (scope:=scope) (env:=X.env) fun y hy hf=>I.ok.has _ (S.fre y hy hf).2
 rw [eval_ListComp]
 refine YfH (use:=none) rfl hs hclos S.kind S.names (thn (hw pins s σ H _ I h) fun v s1 h1=>thn h1 fun itv s2 h2=>?_)
 obtain ⟨it,fp,tn,J,H2,e,I2,T,st2,f2,hW⟩:=h2
 subst e
 refine jfr (RR:=fun acc C=>compPost (model X.prog X.w) X.A X.xe none (EP X pins σ Q) acc C) hc S c1 c2 hg hi he hct I2 T st2 f2 hW fun D C H' s' J' ⟨m,hn⟩ fC q=>?_
 refine ⟨m,hn,fun h' hs'=>⟨.ref D,H',?_,rfl,q⟩⟩
 exact J'.turned (t':=s'.toks) (it:=C) (fun b o hb e=>hs'.extBut b o hb e) fC.1 fC.2.1 fC.2.2.2.1 fC.2.2.2.2.1 fC.2.2.2.2.2

theorem jli {tg iter elt:Expr}{ifs:List Expr}{pos py spos:Pos}{wi:TI}{g:TG}{tt:TT}{rest:List Yck}{tem:Addr->TEm}{em:Addr->Env->Sem Unit}{i:Nat}{y:Str}(hN:X.N.Nodup)(hi':X.N[i]?=some y)(hy:X.env.scope.names.lookup y=some .local)(hc:X.calm=true)(S:CScope X N pick scope)(hw:PI X tg iter wi)
  (hg:∀ cl C s₀ H₀ fp,PG (jai X N scope cl C s₀ H₀ fp) tg g) (hi:∀ cl C s₀ H₀ fp,PIfs (jai X N scope cl C s₀ H₀ fp) ifs tt) (he:∀ D cl C s₀ H₀ fp,PEm (jai X N scope cl C s₀ H₀ fp) (em D (jai X N scope cl C s₀ H₀ fp).env) (tem D))
  (hct:∀ (it:Value) (D:Addr) (env:Env),Ye2 (.ListComp elt (⟨tg,iter,ifs,0⟩::rest) scope pos) 0 it (.ref D) env=jcz iter.pos tg ifs it env (em D env) (.compLoop (.ListComp elt (⟨tg,iter,ifs,0⟩::rest) scope pos) 0 it (.ref D) env))
  (hsw:YcI (.ListComp elt (⟨tg,iter,ifs,0⟩::rest) scope pos) (some (.Name y py)) spos.line X.env=pure true) (hs:∀ x,Ybv iter X.env x=pure x:=by intro _; rfl) :
  PS X (.Assign [.Name y py] (.ListComp elt (⟨tg,iter,ifs,0⟩::rest) scope pos) spos) (tAsg (tLcG pick wi g tt tem) (jg3 i)):=by
 intro pins s σ H D0 I h
 obtain ⟨cl,hclos,c1,c2⟩:=jdi (scope:=scope) (env:=X.env) fun y hy hf=>I.ok.has _ (S.fre y hy hf).2
 rw [exec_Assign_Name_used _ _ _ _ hsw]
 refine Yab (YcV (Yab ?_))
 show wpAny _ _ (do let _ <- comprehension (.ListComp elt (⟨tg,iter,ifs,0⟩::rest) scope pos) scope X.env _ (newList []) false (eval iter X.env) (some (assign (.Name y py) X.env))) _ _ s
 refine Yab (thn (YfH (use:=some (assign (.Name y py) X.env)) (Q:=fun _ s'=>SP X pins D0 .next s') rfl hs hclos S.kind S.names
  (thn (hw pins s σ H _ I h) fun v s1 h1=>thn h1 fun itv s2 h2=>?_)) fun _ s' hq=>Yam (Yam hq))
 obtain ⟨it,fp,tn,J,H2,e,I2,T,st2,f2,hW⟩:=h2
 subst e
 refine jfr (Q:=fun x H1=>jg3 i x σ H1 D0.nx) (RR:=fun acc C=>compPost (model X.prog X.w) X.A X.xe (some (assign (.Name y py) X.env)) (fun _ s'=>SP X pins D0 .next s') acc C) hc S c1 c2 hg hi he hct I2 T st2 f2 hW fun D C H' s' J' ⟨m,hn⟩ fC q=>?_
 show wpAny _ _ (assign (.Name y py) X.env (.ref D)) _ _ _
 refine wpAny_assign_Name (jdP (v:=.ref D) J' hN hi' (.inl hy) rfl (fun s'' J'' ⟨a,sb,ha⟩=>?_) (.inr hy))
 have hne:C≠a:=by
  rcases ha with z | z
  ·rw [z]; exact fC.2.1
  ·exact fun e=>fC.2.2.2.2.1 y a z e.symm
 refine ⟨m,hn.sameBut sb hne,fun h' hs'=>?_⟩
 refine ⟨_,H',J''.turned (t':=s''.toks) (it:=C) (fun b o hb e=>hs'.extBut b o hb e) fC.1 fC.2.1 fC.2.2.2.1 fC.2.2.2.2.1 fC.2.2.2.2.2,q⟩
theorem jnI {tg iter elt:Expr}{ifs:List Expr}{pos:Pos}{wi:TI}{g:TG}{tt:TT}{te:TE}(hc:X.calm=true)(S:CScope X N pick scope)(hw:PI X tg iter wi)
  (hg:∀ cl C s₀ H₀ fp,PG (jai X N scope cl C s₀ H₀ fp) tg g) (hi:∀ cl C s₀ H₀ fp,PIfs (jai X N scope cl C s₀ H₀ fp) ifs tt) (he:∀ cl C s₀ H₀ fp,PE (jai X N scope cl C s₀ H₀ fp) elt te)
  (hs:∀ x,Ybv iter X.env x=pure x:=by intro _; rfl):PE X (.ListComp elt [⟨tg,iter,ifs,0⟩] scope pos) (tLc pick wi g tt te):=
 jlt (em:=fun D env=>do let _ <- call (.builtin "list.append") [.ref D,<- eval elt env]) (rest:=[]) hc S hw hg hi (fun D cl C s₀ H₀ fp=>jiX rfl (he cl C s₀ H₀ fp)) (fun _ _ _=>rfl) hs
theorem jnD {tg iter elt:Expr}{ifs:List Expr}{pos:Pos}{wi:TI}{g:TG}{tt:TT}{te:TE}{py spos:Pos}{i:Nat}{y:Str}(hN:X.N.Nodup)(hi':X.N[i]?=some y)(hy:X.env.scope.names.lookup y=some .local)(hc:X.calm=true)(S:CScope X N pick scope)(hw:PI X tg iter wi)
  (hg:∀ cl C s₀ H₀ fp,PG (jai X N scope cl C s₀ H₀ fp) tg g) (hi:∀ cl C s₀ H₀ fp,PIfs (jai X N scope cl C s₀ H₀ fp) ifs tt) (he:∀ cl C s₀ H₀ fp,PE (jai X N scope cl C s₀ H₀ fp) elt te)
  (hsw:YcI (.ListComp elt [⟨tg,iter,ifs,0⟩] scope pos) (some (.Name y py)) spos.line X.env=pure true) (hs:∀ x,Ybv iter X.env x=pure x:=by intro _; rfl):PS X (.Assign [.Name y py] (.ListComp elt [⟨tg,iter,ifs,0⟩] scope pos) spos) (tAsg (tLc pick wi g tt te) (jg3 i)):=
 jli (em:=fun D env=>do let _ <- call (.builtin "list.append") [.ref D,<- eval elt env]) (rest:=[]) hN hi' hy hc S hw hg hi (fun D cl C s₀ H₀ fp=>jiX rfl (he cl C s₀ H₀ fp)) (fun _ _ _=>rfl) hsw hs
end

mutual
inductive DV (K:Yac)(H:Hp):V->PyData->Prop
 | non:DV K H .non .none
 | bl (b:Bool):DV K H (.bl b) (.bool b)
 | int (i:Int):DV K H (.int i) (.int i)
 | str (x:Str):DV K H (.str x) (.str x)
 | tup {a:Addr} {xs:List V} {ds:List PyData}:SqT K H a xs->DVs K H xs ds->DV K H (.ref a) (.tuple ds)
 | lst {a:Addr} {xs:List V} {ds:List PyData}:Rd H a (.lst xs)->DVs K H xs ds->DV K H (.ref a) (.list ds)
 | dic {a:Addr}:H a=some (.dK [])->DV K H (.ref a) (.dict [])
inductive DVs (K:Yac)(H:Hp):List V->List PyData->Prop
 | nil:DVs K H [] []
 | cons {x:V} {d:PyData} {xs:List V} {ds:List PyData}:DV K H x d->DVs K H xs ds->DVs K H (x::xs) (d::ds)
end
section
variable {K:Yac}{H H':Hp}
end
mutual
noncomputable def noL:PyData->Bool
 | .list _=>false
 | .tuple xs=>noLs xs
 | .dict _=>false
 | .none | .bool _ | .int _ | .str _=>true
noncomputable def noLs:List PyData->Bool
 | []=>true
 | x::r=>noL x && noLs r
end
section
variable {K:Yac}{H H':Hp}
noncomputable def TK (H H':Hp):Prop:=∀ b xs,H b=some (.tup xs)->H' b=some (.tup xs)
end

theorem Inv.noSys {X:Cx}{pins:List (Addr×Obj)}{σ:St}{H:Hp}{s:Shared}(I:Inv X pins σ H s){a:Addr}{o:Obj}(h:s.heap.get? a=some o)(c:o.cls=.type "list"):Ybq≠a:=fun e=>by
 obtain ⟨o',l,c'⟩:=I.mod.sys
 have:=I.kIn _ _ l
 rw [e,h] at this
 cases this
 rw [c] at c'
 exact absurd c' (by decide)
mutual
theorem DV.reads2 {X:Cx}{pins:List (Addr×Obj)}{σ:St}{H:Hp}{s:Shared}(I:Inv X pins σ H s):∀ {x:V} {d:PyData} {u:Value},DV X.K H x d->RelV x u->∃ as,Reads s.heap u d as/\Ybq∉as
 | _,_,_,.non,r=>by cases r; exact ⟨_,.none,by simp⟩
 | _,_,_,.bl b,r=>by cases r; exact ⟨_,.bool b,by simp⟩
 | _,_,_,.int i,r=>by obtain ⟨t,rfl⟩:=r; exact ⟨_,.int i t,by simp⟩
 | _,_,_,.str x,r=>by obtain ⟨t,rfl⟩:=r; exact ⟨_,.str x t,by simp⟩
 | _,_,_,.tup e h,r=>by
  cases r
  obtain ⟨its,rv,⟨o,ho,hc,n,hd⟩,_⟩:=I.tuple e
  obtain ⟨as,q,z⟩:=DVs.reads2 I h rv
  exact ⟨_,.tuple ho hc hd q,z⟩
 | _,_,_,@DV.lst _ _ a _ _ e h,r=>by
  cases r
  obtain ⟨its,rv,⟨o,n,ho,hc,_,hd⟩,_⟩:=I.list (.inl e)
  obtain ⟨as,q,z⟩:=DVs.reads2 I h rv
  refine ⟨_,.list ho hc hd q,fun hm=>?_⟩
  rcases YbW.mp hm with hm | hm
  ·exact I.noSys ho hc hm
  ·exact z hm
 | _,_,_,@DV.dic _ _ a e,r=>by
  cases r
  obtain ⟨_,hS,vs,kv,o,es,ep,ho,hx,hd,_,hp,_⟩:([]:List (Key×V)).length<=Yan/\(a == Ybq)=false/\∃ vs,KV [] vs/\s.heap.DictOf (jao X.prog X.w) a vs:=I.hok a _ e
  have e0:es.toList=[]:=by
   cases kv
   revert hp
   cases es.toList with
   | nil=>exact fun _=>rfl
   | cons x r=>exact fun hp=>(nomatch hp)
  refine ⟨_,.dict (kvs:=[]) (as:=[]) (bs:=[]) ho hx.1 hd (by rw [e0]; exact .nil) (by rw [e0]; exact .nil),fun hm=>?_⟩
  have:Ybq=a:=by simpa using hm
  rw [<- this] at hS
  exact absurd hS (by simp)
theorem DVs.reads2 {X:Cx}{pins:List (Addr×Obj)}{σ:St}{H:Hp}{s:Shared}(I:Inv X pins σ H s):∀ {xs:List V} {ds:List PyData} {us:List Value},DVs X.K H xs ds->Vals xs us->∃ as,ReadsAll s.heap us ds as/\Ybq∉as
 | _,_,_,.nil,r=>by cases r; exact ⟨_,.nil,by simp⟩
 | _,_,_,.cons a b,r=>by
  cases r with
  | cons r rr=>
   obtain ⟨as,q,z⟩:=DV.reads2 I a r
   obtain ⟨bs,q',z'⟩:=DVs.reads2 I b rr
   exact ⟨_,.cons q q',by rw [List.mem_append,not_or]; exact ⟨z,z'⟩⟩
end
theorem DV.reads {X:Cx}{pins:List (Addr×Obj)}{σ:St}{H:Hp}{s:Shared}(I:Inv X pins σ H s){x:V}{d:PyData}{u:Value}(h:DV X.K H x d)(r:RelV x u):∃ as,Reads s.heap u d as:=let ⟨as,q,_⟩:=DV.reads2 I h r; ⟨as,q⟩
theorem DVs.reads {X:Cx}{pins:List (Addr×Obj)}{σ:St}{H:Hp}{s:Shared}(I:Inv X pins σ H s){xs:List V}{ds:List PyData}{us:List Value}(h:DVs X.K H xs ds)(r:Vals xs us):∃ as,ReadsAll s.heap us ds as:=let ⟨as,q,_⟩:=DVs.reads2 I h r; ⟨as,q⟩

structure Fits (n k:Nat)(d:PyData):Prop where
 sh:d.showable=true
 ln:d.shown.length<=n
 dp:d.depth<=k
theorem Fits.mono {n n' k k':Nat}{d:PyData}(h:Fits n k d)(h1:n<=n')(h2:k<=k'):Fits n' k' d:=⟨h.sh,Yaw h.ln h1,Yaw h.dp h2⟩
theorem Fits.int {i:Int}(h:i.natAbs < 2 ^ 1000):Fits 1921 0 (.int i):=by
 have hl:i.natAbs.log2 < 1920:=by
  by_cases z:i.natAbs=0
  ·rw [z]; decide
  ·exact YaF ((Nat.log2_lt z).mpr h) (by decide)
 refine ⟨by simp [Yek,hl],?_,Yak _⟩
 simp only [YcT]
 exact int_text_len_1921 hl
theorem Fits.str {x:Str}{m:Nat}(h:x.length<=m)(hc:∀ c∈x.cps.toList,c < 16 ^ 8):Fits (10 * m + 2) 0 (.str x):=by
 refine ⟨rfl,?_,Yak _⟩
 simp only [YcT]
 exact Yaw (StrLaws.reprText_len x hc) (by omega)
theorem jhN {ts:List Str}{n:Nat}(h:∀ t∈ts,t.length<=n):piled ts<=ts.length * (n + 2):=by
 induction ts with
 | nil=>simp [piled]
 | cons t r ih=>
  have h1:=h t YaH
  have h2:=ih fun q hq=>h q (Yap _ hq)
  rw [piled_cons,YbJ,Nat.add_mul]
  omega
theorem jb9:∀ {ds:List PyData} {t:Str},t∈YcE ds->∃ d∈ds,t=d.shown
 | [],_,h=>by simp [YcE] at h
 | d::r,t,h=>by
  simp only [YcE,YbW] at h
  rcases h with h | h
  ·exact ⟨d,YaH,h⟩
  ·obtain ⟨e,he,q⟩:=jb9 h
   exact ⟨e,Yap _ he,q⟩
theorem jbe:∀ ds:List PyData,(YcE ds).length=ds.length
 | []=>rfl
 | _::r=>by simp [YcE,jbe r]
theorem jkf (ts:List Str):(Str.join ", " ts).length<=piled ts:=by
 rcases Classical.em (ts=[]) with rfl | hz
 ·exact YbA _
 ·exact Nat.le_of_add_right_le (Yem (join_length_add ts hz))
theorem jdN {ts:List Str}{n:Nat}(h:∀ t∈ts,t.length<=n):(tupleText ts).length<=ts.length * (n + 2) + 3:=by
 have hp:=Yaw (jkf ts) (jhN h)
 have two:∀ b:Bool,((((if b=true then ",)" else ")"):String):Str)).length<=2:=by decide
 have z:=two (ts.length == 1)
 have one:(("(" : String):Str).length=1:=rfl
 simp only [tupleText,strLen_append] at z ⊢
 omega
theorem jbv:∀ {ds:List PyData},(∀ d∈ds,d.showable=true)->Yfz ds=true
 | [],_=>rfl
 | d::r,h=>by simp [Yfz,h d YaH,jbv fun q hq=>h q (Yap _ hq)]
theorem jcJ:∀ {ds:List PyData} {k:Nat},(∀ d∈ds,d.depth<=k)->Ydb ds<=k
 | [],_,_=>YbA _
 | d::r,k,h=>by
  simp only [Ydb]
  exact Nat.max_le.mpr ⟨h d YaH,jcJ fun q hq=>h q (Yap _ hq)⟩
theorem Fits.tup {n k:Nat}{ds:List PyData}(h:∀ d∈ds,Fits n k d):Fits (ds.length * (n + 2) + 3) (k + 1) (.tuple ds):=by
 refine ⟨?_,?_,?_⟩
 ·simp only [Yek]; exact jbv fun d hd=>(h d hd).sh
 ·simp only [YcT]
  have:=jdN (ts:=YcE ds) (n:=n) fun t ht=>by obtain ⟨d,hd,e⟩:=jb9 ht; rw [e]; exact (h d hd).ln
  rw [jbe] at this
  exact this
 ·simp only [PyData.depth]
  exact Nat.succ_le_succ (jcJ fun d hd=>(h d hd).dp)
theorem Fits.tupLe {n k m N:Nat}{ds:List PyData}(hl:ds.length<=m)(h:∀ d∈ds,Fits n k d)(hN:m * (n + 2) + 3<=N):Fits N (k + 1) (.tuple ds):=
 (Fits.tup h).mono (Yaw (Nat.add_le_add_right (YfN _ hl) _) hN) (Yak _)
noncomputable def jnz (K:Yac):List V->Hp->VK->Prop:=fun xs H Q=>∃ x d,xs=[x]/\DV K H x d/\Fits 16000000 60 d/\Q (.str d.shown) H
theorem jf8 {X:Cx}{k:Nat}(hr:Room k X.A):ja2 X (.builtin "repr") (jnz X.K):=by
 intro pins s σ H xs us Q I r h
 obtain ⟨x,d,rfl,dv,ft,q⟩:=h
 obtain ⟨u,rfl,ru⟩:=jcV r
 have hu:=hr.un
 have done:∀ (h':Heap) (u':Tok) (tk:Nat),(∀ b o,s.heap.get? b=some o->h'.get? b=some o)->EP X pins σ Q (.str d.shown u') { s with heap:=h',toks:=tk }:=fun h' u' tk hk=>
  ⟨.str d.shown,H,I.kept (t':=tk) hk,⟨u',rfl⟩,q⟩
 have hz:d.shown.length<=Yan:=Yaw ft.ln (by decide)
 cases dv with
 | non=>cases ru; exact P.repr_of_none (done _ _ _ fun _ _ e=>e)
 | bl b=>cases ru; exact P.repr_of_bool (by have:=done s.heap s.toks (s.toks + 1) fun _ _ e=>e; simp only [YcT] at this; exact this)
 | int i=>
  obtain ⟨t,rfl⟩:=ru
  refine P.repr_of_int (by simpa [Yek] using ft.sh) ?_
  have:=done s.heap s.toks (s.toks + 1) fun _ _ e=>e
  simp only [YcT] at this
  exact this
 | str x=>
  obtain ⟨t,rfl⟩:=ru
  simp only [YcT] at hz
  refine P.repr_of_str ?_ hz
  have:=done s.heap s.toks (s.toks + 1) fun _ _ e=>e
  simp only [YcT] at this
  exact this
 | @tup a xs ds e hd=>
  obtain ⟨as,rd,hsy⟩:=DV.reads2 I (DV.tup e hd) ru
  cases ru
  exact Yfv rd ft.sh (fun _=>hsy) hr.gd (by have:=ft.dp; omega) (fun _ _ e=>e) (fun h' u' tk hk=>done h' u' tk hk) hz
 | @lst a xs ds e hd=>
  obtain ⟨as,rd,hsy⟩:=DV.reads2 I (DV.lst e hd) ru
  cases ru
  exact Yfv rd ft.sh (fun _=>hsy) hr.gd (by have:=ft.dp; omega) (fun _ _ e=>e) (fun h' u' tk hk=>done h' u' tk hk) hz
 | @dic a e=>
  obtain ⟨as,rd,hsy⟩:=DV.reads2 I (DV.dic e) ru
  cases ru
  exact Yfv rd ft.sh (fun _=>hsy) hr.gd (by have:=ft.dp; omega) (fun _ _ e=>e) (fun h' u' tk hk=>done h' u' tk hk) hz
section
variable {X:Cx}{k:Nat}{x:Str}{ps:List Str}{sp:Sp}{e:Expr}{es:List Expr}{t:TA}{p pos:Pos}
end
noncomputable def Sm (f:Addr)(H H':Hp):Prop:=∀ b o,b≠f->H b=some o->H' b=some o
noncomputable def LcW (n k:Nat)(caps:St)(Pv:Nat->List V->Hp->Prop):Nat->Nat->St->List V->Hp->Prop:=fun i m τ ys H=>m=n - i/\i<=n/\(∃ os:St,os.length=k/\τ=os++caps)/\Pv i ys H
noncomputable def LcN (D:Addr)(n k:Nat)(caps:St)(Pv:Nat->List V->Hp->Prop)(i:Nat)(ys:List V)(τ:St)(v:V)(H:Hp):Prop:=
 H D=some (.lst ys)/\ys.length < Yan/\∃ m',m' < n - i/\LcW n k caps Pv (i + 1) m' τ (ys++[v]) (upd H D (.lst (ys++[v])))
noncomputable def LcS (n k:Nat)(caps:St)(Pv:Nat->List V->Hp->Prop)(i:Nat)(ys:List V)(τ:St)(H:Hp):Prop:=∃ m',m' < n - i/\LcW n k caps Pv (i + 1) m' τ ys H
section
variable {g:TG}{tt:TT}{te:TE}{Q:VK}{τ0:St}{H:Hp}{D:Addr}
end
section
variable {X:Cx}
end
section
variable {X:Cx}{es:List Expr}{te:TE}{t:TA}
end
section
variable {X:Cx}{N:List Str}{scope:Scope}{cl:List (Str×Addr)}{C:Addr}{s₀:Shared}{H₀:Hp}{fp:List Addr}
end
theorem jbG:∀ {ns:List Int} {us:List Value},Vals (ns.map V.int) us->∃ ys:List (Int×Tok),us=(ys.map fun p=>Yad p.1 p.2)/\ys.map (·.1)=ns
 | [],us,r=>by cases r; exact ⟨[],rfl,rfl⟩
 | n::ns,us,r=>by
  cases r with
  | cons h r=>
   obtain ⟨t,rfl⟩:=h
   obtain ⟨ys,rfl,e⟩:=jbG r
   exact ⟨(n,t)::ys,rfl,by simp [e]⟩
section
variable {X:Cx}
theorem jif (hc:X.calm=true):ja2 X (.builtin "sum") (fun xs H Q=>∃ (p:Addr) (ns:List Int),xs=[.ref p]/\SqL X.K H p (ns.map V.int)/\Q (.int ns.sum) H):=by
 intro pins s σ H xs us Q I r h
 obtain ⟨p,ns,rfl,hq,q⟩:=h
 obtain ⟨u,rfl,rx⟩:=jcV r
 cases rx
 obtain ⟨its,r',pl,hz⟩:=I.list hq
 obtain ⟨ys,rfl,e⟩:=jbG r'
 have hl:s.heap.IsList p (intItems ys.toArray):=by
  have:=pl.isList
  simpa [intItems] using this
 refine sum_intListG (I.ok.hd hc) hl fun h' tk t' k=>⟨.int ns.sum,H,I.kept k,⟨t',?_⟩,q⟩
 rw [preSum_eq,Ycf (by simp),<- e]
end
section
variable {X:Cx}{N:List Str}{scope:Scope}{cl:List (Str×Addr)}{C:Addr}{s₀:Shared}{H₀:Hp}{fp:List Addr}
end
theorem fm_rev (xs:List Value):∀ n,n<=xs.length->(YaV n).filterMap (fun k=>xs[xs.length - 1 - k]?)=(xs.drop (xs.length - n)).reverse
 | 0,_=>by simp
 | n + 1,h=>by
  rw [Ydf,List.filterMap_append,fm_rev xs n (by omega)]
  have hk:xs.length - 1 - n < xs.length:=by omega
  have:xs.drop (xs.length - (n + 1))=xs[xs.length - 1 - n]::xs.drop (xs.length - n):=by
   rw [show xs.length - (n + 1)=xs.length - 1 - n by omega,YaY hk,show xs.length - 1 - n + 1=xs.length - n by omega]
  rw [this,YcU]
  simp [Yah hk]
theorem jhF (xs:List Value):Yet xs.toArray none none (some (-1))=xs.reverse.toArray:=by
 have e:sliceRange ((xs.length:Int) - 1) (-1) (-1)=(YaV xs.length).map fun k=>xs.length - 1 - k:=by
  unfold sliceRange
  have hc:(if (-1:Int) > 0 then (if (xs.length:Int) - 1 < -1 then (-1 - ((xs.length:Int) - 1) + -1 - 1) / -1 else 0) else (if (xs.length:Int) - 1 > -1 then ((xs.length:Int) - 1 - -1 - -1 - 1) / (- -1) else 0)).toNat=xs.length:=by
   rw [if_neg (by omega),show (- -1:Int)=1 from rfl,YfG]
   split <;> omega
  simp only [hc]
  refine Ydg fun k hk=>?_
  have:=List.mem_range.mp hk
  omega
 have b:YcM none none (some (-1)) xs.toArray.size=((xs.length:Int) - 1,-1,-1):=by
  simp [YcM]
 unfold Yet
 rw [b]
 simp only
 rw [e,Yd8]
 have:=fm_rev xs xs.length (Yak _)
 rw [YfC,YdS] at this
 rw [<- this]
 congr 1
 refine congrArg (fun f=>YeS f (YaV xs.length)) (funext fun k=>?_)
 simp
theorem jij (xs:List Value):Yet xs.toArray none none (some 1)=xs.toArray:=by
 have:=slicePick_all xs.toArray
 unfold Yet at this ⊢
 exact this
theorem Vals.rev {xs:List V}{us:List Value}(r:Vals xs us):Vals xs.reverse us.reverse:=by
 induction r with
 | nil=>exact .nil
 | cons h r ih=>rw [YcU,YcU]; exact ih.append (.cons h .nil)
section
variable {X:Cx}{e st:Expr}{te tst:TE}{pos p2:Pos}
end
end L2
namespace HT
open PySem PySem.Spec PyProof.Rows
section
variable {prog:Program}{w:World}{A:Around}{E:Value->Shared->Prop}{s:Shared}
theorem getItem_tuple_all {t sl:Addr}{items:Array Value}{vl vu:Value}{lo hi:Option Int}{Q:Value->Shared->Prop}(ht:IsTup s.heap t items)(hs:s.heap.IsSliceOf sl vl vu .none)(pl:IsPart vl lo)(pu:IsPart vu hi)
  (hw:sIx items.size 0 lo=0/\sIx items.size items.size hi=items.size) (h:Q (.ref t) s):wpAny (model prog w) A (getItem (.ref t) (.ref sl)) Q E s:=by
 obtain ⟨os,hos,hcs,hds⟩:=id hs
 have hTs:s.TypeIs (.ref sl) "slice" := ⟨os,hos,hcs⟩
 unfold getItem
 try with_reducible refine Yb5 ?_
 first | refine Yab (Yam ?_) | skip
 refine Yab (YeH ht.typeIs (by decide) ?_)
 refine Yab (YcX (name:=Yaa "__getitem__") ht.typeIs Ybm
  (YcJ Ybm ht.typeIs Yed ?_ (Yex _ _)))
 show wpAny _ _ (Yc3 (.ref t) >>= _) _ _ s
 refine Yab (YfU ht ?_)
 refine Yab (Yd0 hTs ?_)
 rw [if_pos (by decide)]
 refine Yab (ja6 hs pl pu ?_)
 have hyes:((((sIx items.size 0 lo:Nat):Int) == 0 && (1:Int) == 1 && (sIx items.size items.size hi - sIx items.size 0 lo) == items.size)=true):=by
  rw [hw.1,hw.2]
  simp
 show wpAny _ _ (if (((sIx items.size 0 lo:Nat):Int) == 0 && (1:Int) == 1 && (sIx items.size items.size hi - sIx items.size 0 lo) == items.size)=true then _ else _) _ _ s
 rw [if_pos hyes]
 refine Yab (m:=YdZ (.ref t)) ?_
 unfold YdZ
 refine Yab (Yd0 ht.typeIs (Yam ?_))
 rw [if_pos (by decide)]
 exact Yab (YdE (Yam ⟨_,rfl,Yam h⟩))
end
end HT
namespace L2
open PySem PySem.Spec PyProof.Rows
section
variable {X:Cx}
noncomputable def rSlW (K:Yac):V->Option Int->Option Int->Hp->VK->Prop:=fun x lo hi H Q=>∃ a xs,x=.ref a/\SqT K H a xs/\
 (HT.sIx xs.length 0 lo=0/\HT.sIx xs.length xs.length hi=xs.length)/\Q (.ref a) H
theorem jjm:SlR X (rSlW X.K):=by
 intro pins s σ H x v vl vu lo hi sl Q I rx hs pl pu h
 obtain ⟨a,xs,rfl,hx,hw,q⟩:=h
 cases rx
 obtain ⟨its,r,ht,hz⟩:=I.tuple hx
 have hlen:its.toArray.size=xs.length:=by rw [Yat]; exact r.length.symm
 refine ⟨"tuple",_,Ybm.lookup,ht.typeIs,?_⟩
 exact HT.getItem_tuple_all ht hs pl pu (by rw [hlen]; exact hw) ⟨.ref a,H,I,rfl,q⟩
theorem jjn:SlR X (fun x lo hi H Q=>rSlT X.K x lo hi H Q\/rSlW X.K x lo hi H Q):=SlR.or jk1 jjm
end
theorem jcu:∀ (xs:List V) (us:List Value),xs.length=us.length->(∀ (i:Nat) (x:V) (u:Value),xs[i]?=some x->us[i]?=some u->RelV x u)->Vals xs us
 | [],[],_,_=>.nil
 | x::xs,u::us,h,g=>.cons (g 0 x u rfl rfl) (jcu xs us (by simpa using h) fun i y z hy hz=>g (i + 1) y z (by simpa using hy) (by simpa using hz))
 | [],_::_,h,_=>by simp at h
 | _::_,[],h,_=>by simp at h
noncomputable def jhu (ta:TA):TE:=fun σ H Q=>ta σ H fun vs H1=>∃ j:Int,vs=[.int j]/\0<=j/\j<=1000000/\∀ l,H1 l=none->Q (.ref l) (upd H1 l (.lst ((YaV j.toNat).map fun k:Nat=>V.int (k:Int))))
section
variable {X:Cx}
theorem jdW {a:Expr}{ta:TA}{p p2 pos pos2:Pos}(hc:X.calm=true)(hgl:Gl X "list")(hml:X.mg "list" = none)(hgr:Gl X "range")(hmr:X.mg "range" = none)(ha:PA X [a] ta)(hs:YaM [a] X.env=[(false,eval a X.env)]:=by rfl)
  (hs2:YaM [.Call (.Name "range" p2) [a] [] pos2] X.env=[(false,eval (.Call (.Name "range" p2) [a] [] pos2) X.env)]:=by rfl):PE X (.Call (.Name "list" p) [.Call (.Name "range" p2) [a] [] pos2] [] pos) (jhu ta):=by
 intro pins s σ H Q I h
 refine Ycr (jc9 I hgl hml boot_list ?_ (by decide) (by decide))
 refine Yca ?_ hs2 rfl
 rw [hs2]
 refine YfQ (rest:=[]) ?_
 refine Call_ (jc9 I hgr hmr boot_range (Yca (thn (ha pos2 pins s σ H _ I h) fun us s1 ⟨vs,H1,I1,r1,q1⟩=>?_) hs rfl))
 obtain ⟨j,e,h0,h1,q⟩:=q1
 subst e
 cases r1 with
 | cons r rr=>
  cases rr
  obtain ⟨t,rfl⟩:=r
  refine call_range_1 ?_
  refine Yam ?_
  have I2:Inv X pins σ H1 { s1 with heap:=s1.heap.push { cls:=.type "range",data:=.fields #[.int 0 s1.toks,.int j t,.int 1 (s1.toks + 1)] },toks:=s1.toks + 1 + 1 }:=I1.kept fun b o e=>Yaf _ e
  have hn:Yea 0 j 1=(j.toNat:Nat):=by rw [rangeSize_one]; split <;> omega
  refine call_list_range (I2.ok.hd hc) (IsRange.new ..) (small_one (by omega) (by omega) (by omega) (by omega)) hn (by omega) fun h' tk acc' c' hk hS' hacc=>?_
  have hv:Vals ((YaV j.toNat).map fun k:Nat=>V.int (k:Int)) acc'.toList:=jcu _ _ (by simp [hacc.1]) fun i x u hx hu=>by
   have hi:i < j.toNat:=by
    have:=(List.getElem?_eq_some_iff.mp hx).1
    simpa using this
   rw [YaE,YbP hi] at hx
   obtain ⟨tk',e⟩:=hacc.2 i u (by simpa using hu)
   cases hx
   exact ⟨tk',by rw [e]; congr 1; omega⟩
  have hz:((YaV j.toNat).map fun k:Nat=>V.int (k:Int)).length<=Yan:=by
   rw [Yai,Yct]
   exact Yaw (show j.toNat<=1000000 by omega) (by decide)
  refine ⟨.ref _,_,I2.laid (t':=tk) (o:=.lst ((YaV j.toNat).map fun k:Nat=>V.int (k:Int))) hk (Yak _) ?_,rfl,q _ (I2.hok.fresh (Yak _))⟩
  exact ⟨hz,_,c',hv,hS'⟩
end
end L2
namespace HT
open PySem PySem.Spec PyProof.Rows
section
variable {prog:Program}{w:World}{A:Around}{E:Value->Shared->Prop}{s:Shared}
theorem jcg {sl:Addr}{t:Tok}{n:Nat}{Q:Int×Int×Nat->Shared->Prop}(hs:s.heap.IsSliceOf sl .none .none (.int (-1) t))(h:Q ((n:Int) - 1,-1,n) s):wpAny (model prog w) A (Yce (.ref sl) (pure (n:Int))) Q E s:=by
 obtain ⟨os,hos,hcs,hds⟩:=id hs
 unfold Yce Yd4
 refine Yab (Yab (Ych hos hds (x:=.none) rfl (Yab (Ych hos hds (x:=.none) rfl (Yab (Ych hos hds (x:=.int (-1) t) rfl (Yam ?_)))))))
 refine Yab (ja0 (.int (-1) t) ?_)
 show wpAny _ _ (if ((-1:Int) == 0)=true then _ else _) _ _ s
 rw [if_neg (by decide)]
 refine Yab (ja0 .none (Yab (ja0 .none (Yab (Yam ?_)))))
 have e1:YbN none none (-1) (n:Int)=((n:Int) - 1,-1):=rfl
 have e2:Ybi ((n:Int) - 1) (-1) (-1)=n:=by
  unfold Ybi
  rw [if_neg (by omega),show (- -1:Int)=1 from rfl,YfG]
  split <;> omega
 show wpAny _ _ (match YbN none none (-1) (n:Int) with | (lo,hi)=>pure (lo,(-1:Int),Ybi lo hi (-1))) _ _ s
 rw [e1]
 show wpAny _ _ (pure ((n:Int) - 1,(-1:Int),Ybi ((n:Int) - 1) (-1) (-1))) _ _ s
 rw [e2]
 exact Yam h
theorem jhO (xs:List Value):((YaV xs.length).filterMap fun (k:Nat)=>xs.toArray[((xs.length:Int) - 1 + (k:Int) * (-1)).toNat]?).toArray=xs.reverse.toArray:=by
 have:=L2.fm_rev xs xs.length (Yak _)
 rw [YfC,YdS] at this
 rw [<- this]
 congr 1
 refine congrArg (fun f=>YeS f (YaV xs.length)) (funext fun k=>?_)
 rw [show ((xs.length:Int) - 1 + (k:Int) * (-1)).toNat=xs.length - 1 - k by omega]
 simp
theorem getItem_tuple_rev {t sl:Addr}{its:List Value}{tk:Tok}{Q:Value->Shared->Prop}(ht:IsTup s.heap t its.toArray)(hs:s.heap.IsSliceOf sl .none .none (.int (-1) tk))
  (h:Q (.ref s.heap.objs.size) { s with heap:=s.heap.push { cls:=.type "tuple",data:=.seq its.reverse.toArray } }) (hsz:its.length<=Yan):wpAny (model prog w) A (getItem (.ref t) (.ref sl)) Q E s:=by
 have htake:sizeOk (.seq its.reverse.toArray):=by
  show its.reverse.toArray.size<=Yan
  rw [Yat,Ydh]
  exact hsz
 obtain ⟨os,hos,hcs,hds⟩:=id hs
 have hTs:s.TypeIs (.ref sl) "slice" := ⟨os,hos,hcs⟩
 unfold getItem
 try with_reducible refine Yb5 ?_
 first | refine Yab (Yam ?_) | skip
 refine Yab (YeH ht.typeIs (by decide) ?_)
 refine Yab (YcX (name:=Yaa "__getitem__") ht.typeIs Ybm
  (YcJ Ybm ht.typeIs Yed ?_ (Yex _ _)))
 show wpAny _ _ (Yc3 (.ref t) >>= _) _ _ s
 refine Yab (YfU ht ?_)
 refine Yab (Yd0 hTs ?_)
 rw [if_pos (by decide)]
 refine Yab (jcg (n:=its.length) hs ?_)
 have hno:¬ ((((its.length:Int) - 1) == 0 && (-1:Int) == 1 && its.length == its.toArray.size)=true):=by simp
 show wpAny _ _ (if (((its.length:Int) - 1) == 0 && (-1:Int) == 1 && its.length == its.toArray.size)=true then _ else _) _ _ s
 rw [if_neg hno,jhO]
 first
  | exact Yab (m:=Ybl _) (Ybg (Yam ⟨_,rfl,Yam h⟩) htake)
  | exact Yab (m:=Ybl _) (Ybg (Yab (Yam (Yam ⟨_,rfl,Yam h⟩))) htake)
  | exact Yab (Yab (m:=Ybl _) (Ybg (Yam (Yam ⟨_,rfl,Yam h⟩)) htake))
  | exact Yab (Yab (m:=Ybl _) (Ybg (Yam ⟨_,rfl,Yam h⟩) htake))
end
end HT
namespace L2
open PySem PySem.Spec PyProof.Rows
section
variable {X:Cx}{e st:Expr}{te tst:TE}{pos p2:Pos}
end
section
variable {X:Cx}{N:List Str}{scope:Scope}{cl:List (Str×Addr)}{C:Addr}{s₀:Shared}{H₀:Hp}{fp:List Addr}
end
end L2

namespace L2
open PySem PySem.Spec PyProof.Rows
set_option maxHeartbeats 4000000
section
variable {X:Cx}{pos:Pos}
noncomputable def jnC (K:Yac):R2:=fun x y H Q=>∃ a b xs ys,x=.ref a/\y=.ref b/\SqT K H a xs/\SqT K H b ys/\xs.length + ys.length<=Yan/\
 (xs=[]->Q (.ref b) H)/\(xs≠[]->ys=[]->Q (.ref a) H)/\(xs≠[]->ys≠[]->∀ p,H p=none->Q (.ref p) (upd H p (.tup (xs++ys))))
theorem jjY:OpR X (YbF .Add) (jnC X.K):=by
 intro pins s σ H x y v u Q I rx ry h
 obtain ⟨a,b,xs,ys,rfl,rfl,ha,hb,hz,q0,q1,q2⟩:=h
 by_cases hx:xs=[]
 ·cases rx
  cases ry
  obtain ⟨its,r1,p1,_⟩:=I.tuple ha
  obtain ⟨its2,r2,p2,_⟩:=I.tuple hb
  have hv:its=[]:=r1.nil_iff.mpr hx
  subst hv
  obtain ⟨⟨cls,dd,data,sl⟩,ho,hc,n,hd⟩:=id p1
  obtain ⟨⟨cls2,dd2,data2,sl2⟩,ho2,hc2,n2,hd2⟩:=id p2
  simp only at hc hd hc2 hd2
  subst hc hd hc2 hd2
  exact Ygf ⟨_,ho,rfl⟩ ⟨_,ho2,rfl⟩ YeW YfV Ydy Ydu (Ydq _ _)
   (tuple_addW0 a b _ its2.toArray n n2 dd dd2 sl sl2 rfl) ⟨ho,ho2,⟨.ref b,H,I,rfl,q0 hx⟩⟩
 ·exact jjX pins s σ H _ _ _ _ Q I rx ry ⟨a,b,xs,ys,rfl,rfl,ha,hb,hx,hz,q1 hx,q2 hx⟩
theorem jfT {k:Nat}(hr:Room k X.A):OpR X (YbM .Eq) (fun x y H Q=>∃ a b xs,x=.ref a/\y=.ref b/\SqT X.K H a xs/\SqT X.K H b []/\Q (.bl xs.isEmpty) H):=by
 intro pins s σ H x y v u Q I rx ry h
 obtain ⟨a,b,xs,rfl,rfl,ha,hb,q⟩:=h
 cases rx; cases ry
 obtain ⟨its,rv,pa,_⟩:=I.tuple ha
 obtain ⟨its2,rv2,pb,_⟩:=I.tuple hb
 cases rv2
 have hu:X.A.units < cLine:=hr.units0
 have e:((YaV (min its.toArray.size ([]:List Value).toArray.size)).all (fun _=>true) && its.toArray.size == ([]:List Value).toArray.size)=xs.isEmpty:=by
  cases rv <;> simp
 refine EqBoolInt.of_rc (SeqAt.RcAt.tuples (e:=fun _=>true) (show s.heap.IsTuple a its.toArray from pa) (show s.heap.IsTuple b ([]:List Value).toArray from pb) hu fun j _ h2=>?_) ?_
 ·simp at h2
 ·rw [e]
  exact ⟨.bl xs.isEmpty,H,I,rfl,q⟩
end
section
variable {X:Cx}{N:List Str}{scope:Scope}{cl:List (Str×Addr)}{C:Addr}{s₀:Shared}{H₀:Hp}{fp:List Addr}
end
section
variable {X:Cx}
end
section
variable {X:Cx}{N:List Str}{scope:Scope}{cl:List (Str×Addr)}{C:Addr}{s₀:Shared}{H₀:Hp}{fp:List Addr}
end
section
variable {X:Cx}
noncomputable def jlf (K:Yac)(neg:Bool):R2:=fun x y H Q=>∃ d e,DV K H x d/\DV K H y e/\d.canLay0=true/\e.canLay0=true/\d.depth<=100/\Q (.bl (if neg then !PyData.eqv d e else Ybh d e)) H
theorem jlH {k:Nat}(hr:Room k X.A):OpR X (YbM .NotEq) (jlf X.K true):=by
 intro pins s σ H x y v u Q I rx ry h
 obtain ⟨d,e,hd,he,c1,c2,hk,q⟩:=h
 obtain ⟨as,ra⟩:=hd.reads I rx
 obtain ⟨bs,rb⟩:=he.reads I ry
 exact SeqAt.compareNe_reads ra rb c1 c2 (by have:=hr.un; omega) ⟨.bl _,H,I,rfl,q⟩
theorem jlL {k:Nat}(hr:Room k X.A):OpR X (YbM .Eq) (jlf X.K false):=by
 intro pins s σ H x y v u Q I rx ry h
 obtain ⟨d,e,hd,he,c1,c2,hk,q⟩:=h
 obtain ⟨as,ra⟩:=hd.reads I rx
 obtain ⟨bs,rb⟩:=he.reads I ry
 exact SeqAt.compareEq_reads ra rb c1 c2 (by have:=hr.un; omega) ⟨.bl _,H,I,rfl,q⟩
end
section
variable {X:Cx}{N:List Str}{scope:Scope}{cl:List (Str×Addr)}{C:Addr}{s₀:Shared}{H₀:Hp}{fp:List Addr}
end
mutual
noncomputable def noB:PyData->Bool
 | .none=>true
 | .bool _=>false
 | .int _=>true
 | .str _=>true
 | .list ds=>noBs ds
 | .tuple ds=>noBs ds
 | .dict _=>false
noncomputable def noBs:List PyData->Bool
 | []=>true
 | d::r=>noB d && noBs r
end
mutual
theorem jiU:∀ {d e:PyData},noB d=true->noB e=true->Ybh d e=true->d=e
 | .none,.none,_,_,_=>rfl
 | .int i,.int j,_,_,h=>by rw [Ybh] at h; rw [eq_of_beq h]
 | .str i,.str j,_,_,h=>by rw [Ybh] at h; rw [eq_of_beq h]
 | .list xs,.list ys,h1,h2,h=>by rw [Ybh] at h; rw [noB] at h1 h2; rw [jeW h1 h2 h]
 | .tuple xs,.tuple ys,h1,h2,h=>by rw [Ybh] at h; rw [noB] at h1 h2; rw [jeW h1 h2 h]
 | .bool _,_,h,_,_=>by rw [noB] at h; cases h
 | .dict _,_,h,_,_=>by rw [noB] at h; cases h
 | .none,.bool _,_,h,_ | .int _,.bool _,_,h,_ | .str _,.bool _,_,h,_ | .list _,.bool _,_,h,_ | .tuple _,.bool _,_,h,_=>by rw [noB] at h; cases h
 | .none,.dict _,_,h,_ | .int _,.dict _,_,h,_ | .str _,.dict _,_,h,_ | .list _,.dict _,_,h,_ | .tuple _,.dict _,_,h,_=>by rw [noB] at h; cases h
 | .none,.int _,_,_,h | .none,.str _,_,_,h | .none,.list _,_,_,h | .none,.tuple _,_,_,h=>by rw [Ybh] at h; cases h
 | .int _,.none,_,_,h | .int _,.str _,_,_,h | .int _,.list _,_,_,h | .int _,.tuple _,_,_,h=>by rw [Ybh] at h; cases h
 | .str _,.none,_,_,h | .str _,.int _,_,_,h | .str _,.list _,_,_,h | .str _,.tuple _,_,_,h=>by rw [Ybh] at h; cases h
 | .list _,.none,_,_,h | .list _,.int _,_,_,h | .list _,.str _,_,_,h | .list _,.tuple _,_,_,h=>by rw [Ybh] at h; cases h
 | .tuple _,.none,_,_,h | .tuple _,.int _,_,_,h | .tuple _,.str _,_,_,h | .tuple _,.list _,_,_,h=>by rw [Ybh] at h; cases h
theorem jeW:∀ {ds es:List PyData},noBs ds=true->noBs es=true->YdU ds es=true->ds=es
 | [],[],_,_,_=>rfl
 | d::r,e::q,h1,h2,h=>by
  rw [noBs,YaP] at h1 h2
  rw [YdU,YaP] at h
  rw [jiU h1.1 h2.1 h.1,jeW h1.2 h2.2 h.2]
 | [],_::_,_,_,h=>by rw [YdU] at h; cases h
 | _::_,[],_,_,h=>by rw [YdU] at h; cases h
end
section
variable {X:Cx}
end
section
variable {X:Cx}{N:List Str}{scope:Scope}{cl:List (Str×Addr)}{C:Addr}{s₀:Shared}{H₀:Hp}{fp:List Addr}
end
theorem jch:fillsNumberSlot (.type "tuple") "mul" = pure false:=
 PySem.fillsNumberSlot_seq (id := "tuple.__mul__") (r:=some (.builtin "tuple.__rmul__")) F.slot_tuple_mul.lookup (by decide +kernel) F.slot_tuple_rmul.lookup (by decide +kernel)
theorem jdU:seqRepeat? (.type "tuple")=pure (some (.builtin "tuple.__mul__")):=by
 unfold seqRepeat?
 rw [Yf6 (T := "tuple") (name := "__mul__") (id := "tuple.__mul__") F.slot_tuple_mul.lookup (by decide +kernel),Yf6 (T := "tuple") (name := "__rmul__") (id := "tuple.__rmul__") F.slot_tuple_rmul.lookup (by decide +kernel)]
 rfl
theorem jcW (a:Int)(t:Tok)(l:Addr)(items:Array Value)(n:Nat)(dd:Option Addr)(sl:Array (Option Value)) :
  Meets (Builtin.«int.__rmul__» ⟨[.int a t,.ref l],[]⟩) (fun _ R s=>s.heap.get? l=some { cls:=.type "tuple",dict:=dd,data:=.seq items n,slots:=sl }/\R (.ok (.ret Value.notImplemented)) s):=
 .of_wp fun prog w A R s h=>by obtain ⟨hp,g,d,tk,os⟩:=s; obtain ⟨hl,h⟩:=h; wp_walk; exact ⟨_,rfl,h⟩
theorem jfO (l:Addr)(items:Array Value)(n:Nat)(dd:Option Addr)(sl:Array (Option Value))(x:Int)(t:Tok)(hx:2<=x)(hx2:x < 2 ^ 62)(h0:items.isEmpty=false)(hsz:items.size * x.toNat<=Yan) :
  Meets (Builtin.«tuple.__mul__» ⟨[.ref l,.int x t],[]⟩)
   (fun A R s=>s.heap.get? l=some { cls:=.type "tuple",dict:=dd,data:=.seq items n,slots:=sl }/\R (.ok (.ret (.ref s.heap.objs.size))) { s with heap:=s.heap.push { cls:=.type "tuple",data:=.seq ((Yaq x.toNat items).foldl (·++·) #[]) } }):=
 .of_wp fun prog w A R s h=>by
  obtain ⟨hp,g,d,tk,os⟩:=s; obtain ⟨hl,h⟩:=h
  have c1:(decide (x < -2 ^ 63) || decide (x ≥ 2 ^ 63))=false:=by simp; omega
  have c2:(items.isEmpty || x == 1)=false:=by rw [h0]; simp; omega
  have c3:(decide (x<=0) || items.isEmpty)=false:=by rw [h0]; simp; omega
  have hz:(items.size:Int) * x=((items.size * x.toNat:Nat):Int):=by rw [Int.natCast_mul,Int.toNat_of_nonneg (by omega)]
  have h63:(Yan:Nat)<=(2 ^ 63 - 1) / 8:=by decide
  wp_walk using wpAny_loadPart' hl
  simp only [c1,Ybb,if_false]
  wp_walk using wpAny_loadPart' hl
  simp only [c2,c3,Ybb,if_false]
  rw [if_neg (by rw [hz]; omega)]
  have c4:YdY ((items.size:Int) * x)=false:=by
   rw [hz]
   unfold YdY
   exact decide_eq_false (by omega)
  simp only [c4,Ybb,if_false]
  have hs:(Yeb (fun x1 x2=>x1++x2) #[] (Yaq x.toNat items)).size<=Yan:=by
   rw [AutoListH.size_joined]
   simp only [Yat,YcK,Ycb]
   rw [Yc8]
   exact hsz
  revert hs h
  generalize Yeb (fun x1 x2=>x1++x2) #[] (Yaq x.toNat items)=G
  intro h hs
  wp_walk
  exact ⟨_,rfl,h⟩
theorem jfP (l:Addr)(items:Array Value)(n:Nat)(dd:Option Addr)(sl:Array (Option Value))(t:Tok) :
  Meets (Builtin.«tuple.__mul__» ⟨[.ref l,.int 1 t],[]⟩)
   (fun A R s=>s.heap.get? l=some { cls:=.type "tuple",dict:=dd,data:=.seq items n,slots:=sl }/\R (.ok (.ret (.ref l))) s):=
 .of_wp fun prog w A R s h=>by
  obtain ⟨hp,g,d,tk,os⟩:=s; obtain ⟨hl,h⟩:=h
  have c1:(decide ((1:Int) < -2 ^ 63) || decide ((1:Int) ≥ 2 ^ 63))=false:=by decide
  have c2:(items.isEmpty || (1:Int) == 1)=true:=by simp
  wp_walk using wpAny_loadPart' hl
  exact ⟨_,rfl,h⟩
section
variable {X:Cx}
noncomputable def jnA (K:Yac):R2:=fun x y H Q=>∃ l k xs,x=.ref l/\y=.int k/\SqT K H l xs/\xs≠[]/\1<=k/\k < 2 ^ 62/\xs.length * k.toNat<=Yan/\(k=1->Q (.ref l) H)/\(k≠1->∀ p,H p=none->Q (.ref p) (upd H p (.tup (Yaq k.toNat xs).flatten)))
theorem jjV:OpR X (YbF .Mult) (jnA X.K):=by
 intro pins s σ H x y v u Q I rx ry h
 obtain ⟨l,k,xs,rfl,rfl,hH,h0,h1,h2,hz,q1,q2⟩:=h
 cases rx
 obtain ⟨t,rfl⟩:=ry
 obtain ⟨its,r,pl,_⟩:=I.tuple hH
 have hl:=r.length
 obtain ⟨⟨cls,dd,data,sl⟩,e,hc,n,hd⟩:=id pl
 simp only at hc hd
 subst hc hd
 have hne:its≠[]:=fun z=>h0 (r.nil_iff.mp z)
 refine Yfu (T := "tuple") (U := "int") (by decide) ⟨_,e,rfl⟩ (fun s'=>YeJ s' k t) jch F.fills_int_mul YdT jdU F.slot_int_index.lookup
  (Yda YdT (YeJ s k t) F.entry_int_rmul (F.args_int_rmul_2 _ _) (jcW k t l its.toArray n dd sl) ⟨e,rfl,⟨_,e,rfl⟩,?_⟩)
 by_cases hk:k=1
 ·subst hk
  exact Yda F.slot_tuple_mul ⟨_,e,rfl⟩ F.entry_tuple_mul (F.args_tuple_mul_2 _ _) (jfP l its.toArray n dd sl t) ⟨e,⟨.ref l,H,I,rfl,q1 rfl⟩⟩
 ·refine Yda F.slot_tuple_mul ⟨_,e,rfl⟩ F.entry_tuple_mul (F.args_tuple_mul_2 _ _) (jfO l its.toArray n dd sl k t (by omega) h2 (by simpa using hne) (by rw [Yat,<- hl]; exact hz)) ⟨e,?_⟩
  have f0:=jcG its k.toNat []
  rw [Yb9] at f0
  rw [f0]
  refine ⟨.ref s.heap.objs.size,_,I.laid (t':=s.toks) (o:=.tup (Yaq k.toNat xs).flatten) (fun b ob q=>Yaf _ q) (Yak _) ?_,rfl,q2 hk _ (I.hok.fresh (Yak _))⟩
  exact ⟨by rw [jgO,Yc8]; exact hz,_,r.rep k.toNat,TupD.new _ _⟩
theorem jcZ:∀ {bs:List Bool} {us:List Value} {i:Nat} {v:Value},Vals (bs.map V.bl) us->us[i]?=some v->∃ b,bs[i]?=some b/\v=.bool b
 | b::r,_,0,v,.cons e q,h=>by
  cases e
  exact ⟨b,rfl,(YaU h).symm⟩
 | b::r,_,i + 1,v,.cons e q,h=>jcZ (bs:=r) (i:=i) q (by simpa using h)
 | [],_,i,v,.nil,h=>by simp at h
theorem jf9 {pins:List (Addr×Obj)}{s:Shared}{σ:St}{H:Hp}{p:Addr}{bs:List Bool}(hc:X.calm=true)(I:Inv X pins σ H s)(hq:SqL X.K H p (bs.map V.bl))(d:Bool) :
  ∃ its fp wr P S,s.heap.IsList p its/\Walks X.prog X.w X.A.in1 s.heap.objs.size fp wr bs.length P S/\S 0 (s.heap.push ⟨.type "list_iterator",none,.fields #[.ref p,.int 0 0],#[]⟩)/\TruthOf X.prog X.w X.A.in1 P (fun i=>(bs[i]?).getD d)/\
   ∀ h':Heap,(∀ b o,b∉wr->(s.heap.push ⟨.type "list_iterator",none,.fields #[.ref p,.int 0 0],#[]⟩).get? b=some o->h'.get? b=some o)->∀ b o,s.heap.get? b=some o->h'.get? b=some o:=by
 obtain ⟨its,r',pl,-⟩:=I.list hq
 have n:its.toArray.size=bs.length:=by simpa using r'.length.symm
 obtain ⟨o,ho,-⟩:=id pl.isList
 have W:=Walks.list (prog:=X.prog) (w:=X.w) (A:=X.A.in1) (I.ok.hd hc) s.heap.objs.size p (Ya8 (Yav ho)) its.toArray
 rw [n] at W
 refine ⟨its.toArray,_,_,_,_,pl.isList,W,⟨⟨_,YaR _ rfl,rfl,rfl⟩,pl.isList.push _⟩,fun i v t Q E hP hQ=>?_,fun h' hk b o e=>hk b o (fun m=>?_) (Yaf _ e)⟩
 ·obtain ⟨b,e,rfl⟩:=jcZ (i:=i) (v:=v) r' (by simpa using hP)
  exact YbU (by simpa only [e,Option.getD] using hQ)
 ·exact absurd (Yav e) (by rw [List.mem_singleton.mp m]; exact YbB _)
theorem jih (hc:X.calm=true):ja2 X (.builtin "any") (fun xs H Q=>∃ (p:Addr) (bs:List Bool),xs=[.ref p]/\SqL X.K H p (bs.map V.bl)/\Q (.bl (bs.any id)) H):=by
 rintro pins s σ H xs us Q I r ⟨p,bs,rfl,hq,q⟩
 obtain ⟨u,rfl,rx⟩:=jcV r
 cases rx
 obtain ⟨its,fp,wr,P,S,hl,W,st,tr,kp⟩:=jf9 hc I hq false
 exact call_any_walk (wpAny_pyIter_list hl ⟨_,fp,wr,_,P,S,_,rfl,W,st,tr,fun h' tk hk=>⟨.bl _,H,I.kept (kp h' hk),congrArg Ybr (LSm.range_any bs),q⟩⟩)
end
section
variable {X:Cx}
theorem jeb {prog:Program}{w:World}{A:Around}{E:Value->Shared->Prop}{s:Shared}{v:Value}{Q:Value->Shared->Prop}
  (h:wpAny (model prog w) A.in1 (collect v) (fun vs s1=>wpAny (model prog w) A.in1 (newList vs) (fun l s2=>wpAny (model prog w) A.in1 (call (.builtin "list.sort") [l]) (fun _ s3=>Q l s3) E s2) E s1) E s) :
  wpAny (model prog w) A (call (.builtin "sorted") [v]) Q E s:=by
 have one:∀ Z:Unit->Shared->Prop,Z () s->wpAny (model prog w) A.in1 (checkCount "sorted" 1 1 [v].length) Z E s:=fun Z z=>Yam z
 refine Calls.call_function_entry kind_sorted plain_sorted entry_sorted (args_sorted1 v) (Yab (one _ (Yab (thn h fun vs s1 h1=>Yab (thn h1 fun l s2 h2=>?_)))))
 exact Yab (Yb5 (thn h2 fun _ s3 q=>Yam ⟨_,rfl,q⟩))
end
end L2

namespace L2
open PySem PySem.Spec PyProof.Rows
open Sem (wp)
open AutoSeq1 (wpAny_loadPart')
set_option maxHeartbeats 4000000
section
variable {prog:Program}{w:World}{A:Around}{E:Value->Shared->Prop}{s:Shared}
end
section
variable {X:Cx}{pins:List (Addr×Obj)}{σ:St}{H:Hp}{s:Shared}{h':Heap}
end
section
variable {X:Cx}
end
end L2

namespace L2
open PySem PySem.Spec PyProof.Rows
set_option maxHeartbeats 4000000
section
variable {X:Cx}
end
section
variable {prog:Program}{w:World}{A:Around}{R:Result->Shared->Prop}{I:Addr}{fp wr:List Addr}{n:Nat}{P:Nat->Value->Prop}{St:Nat->Heap->Prop}
end
section
variable {prog:Program}{w:World}{A:Around}{E:Value->Shared->Prop}{s:Shared}
end

noncomputable def jmt (ks:List (List Int)):Nat:=argBest (fun i j=>HT.lexLt (ks.getD i []) (ks.getD j [])) (ks.length - 1)
noncomputable def KeyI (H:Hp)(v:V)(k:List Int):Prop:=∃ n,v=.int n/\k=[n]
noncomputable def KeyT (K:Yac)(H:Hp)(v:V)(k:List Int):Prop:=∃ t,v=.ref t/\SqT K H t (k.map V.int)
section
variable {X:Cx}
theorem jfa {vs:List V}{us:List Value}(r:Vals vs us){i:Nat}{u:Value}(h:us[i]?=some u):∃ v,vs[i]?=some v/\RelV v u:=by
 induction r generalizing i with
 | nil=>cases h
 | cons a r ih=>
  cases i with
  | zero=>exact ⟨_,rfl,by cases h; exact a⟩
  | succ i=>exact ih h
theorem jfy {ns:List Int}{us:List Value}(r:Vals (ns.map V.int) us):IntsAre us ns:=by
 induction ns generalizing us with
 | nil=>cases r; exact .nil
 | cons n ns ih=>
  cases r with
  | cons a r=>
   obtain ⟨t,rfl⟩:=a
   exact .cons n t (ih r)
end
end L2

namespace L2
open PySem PySem.Spec PyProof.Rows PySem.W
set_option maxHeartbeats 4000000
section
variable {n:Nat}{lt:Nat->Nat->Bool}{cmp:Nat->Nat->(Bool->Shared->Prop)->Shared->Prop}{s:Shared}
structure Asks (n:Nat)(lt:Nat->Nat->Bool)(cmp:Nat->Nat->(Bool->Shared->Prop)->Shared->Prop)(s:Shared):Prop where
 ask:∀ i j C,i < n->j < n->C (lt i j) s->cmp i j C s
 tr:∀ i j k,i < n->j < n->k < n->lt i j=true->lt j k=true->lt i k=true
 tot:∀ i j,i < n->j < n->i≠j->lt i j=true\/lt j i=true
 ir:∀ i,i < n->lt i i=false
noncomputable def gD (p:Array Nat)(k:Nat):Nat:=p.getD k 0
structure Arr (n:Nat)(p:Array Nat):Prop where
 z:p.size=n
 b:∀ i,i < n->gD p i < n
 inj:∀ i j,i < n->j < n->gD p i=gD p j->i=j
 pm:p.toList.Perm (YaV n)
noncomputable def Asc (lt:Nat->Nat->Bool)(p:Array Nat)(m:Nat):Prop:=∀ i,i + 1 < m->lt (gD p i) (gD p (i + 1))=true
end
end L2

namespace L2
open PySem PySem.Spec PyProof.Rows PySem.W
open PySem.AutoSeq1 (wpAny_loadPart')
open PySem.MeetsSeq PySem.MeetsSeq2 PySem.MeetsSeq3
set_option maxHeartbeats 4000000
theorem jfx {us:List Value}{ns:List Int}(r:IntsAre us ns){i:Nat}{u:Value}(h:us[i]?=some u):∃ z t,ns[i]?=some z/\u=.int z t:=by
 induction r generalizing i with
 | nil=>cases h
 | cons z t r ih=>
  cases i with
  | zero=>cases h; exact ⟨z,t,rfl,rfl⟩
  | succ i=>exact ih h
theorem jhZ {ns ms:List Int}{i:Nat}{a c:Int}(h1:ns[i]?=some a)(h2:ms[i]?=some c):HT.lexLt (ns.drop i) (ms.drop i)=if a=c then HT.lexLt (ns.drop (i + 1)) (ms.drop (i + 1)) else decide (a < c):=by
 obtain ⟨g1,e1⟩:=List.getElem?_eq_some_iff.mp h1
 obtain ⟨g2,e2⟩:=List.getElem?_eq_some_iff.mp h2
 rw [YaY g1,YaY g2,HT.lexLt_cons,e1,e2]
theorem jkb {ns ms:List Int}{i:Nat}(h:i=ns.length\/i=ms.length)(h1:i<=ns.length)(h2:i<=ms.length):HT.lexLt (ns.drop i) (ms.drop i)=decide (ns.length < ms.length):=by
 by_cases e1:i=ns.length
 ·rw [YbE (l:=ns) (by omega)]
  by_cases e2:i=ms.length
  ·rw [YbE (by omega),HT.lexLt_nil_nil]; exact (decide_eq_false (by omega)).symm
  ·rw [YaY (l:=ms) (by omega),HT.lexLt_nil_cons]; exact (decide_eq_true (by omega)).symm
 ·rw [YaY (l:=ns) (by omega),YbE (l:=ms) (by omega),HT.lexLt_cons_nil]; exact (decide_eq_false (by omega)).symm
theorem jj8 (l b : Addr)(xs ys : Array Value)(n m : Nat)(dd de : Option Addr)(sl sm : Array (Option Value))(ns ms : List Int)(hi : IntsAre xs.toList ns)(hj : IntsAre ys.toList ms)(k : Nat) :
    ∀ i : Nat, ns.length - i = k -> i <= ns.length -> i <= ms.length -> Meets (Builtin.«list.__eq__.loop» ⟨[.ref l, .ref b, rawInt i, rawInt 0], []⟩)
      (fun _ R s => s.heap.get? l = some { cls := .type "list", dict := dd, data := .seq xs n, slots := sl } /\ s.heap.get? b = some { cls := .type "list", dict := de, data := .seq ys m, slots := sm } /\ R (.ok (.ret (.bool (HT.lexLt (ns.drop i) (ms.drop i))))) s) := by
  have z1 : xs.size = ns.length := by rw [<- hi.length]; simp
  have z2 : ys.size = ms.length := by rw [<- hj.length]; simp
  have stop : ∀ i : Nat, i <= ns.length -> i <= ms.length -> (i = ns.length \/ i = ms.length) -> Meets (Builtin.«list.__eq__.loop» ⟨[.ref l, .ref b, rawInt i, rawInt 0], []⟩)
      (fun _ R s => s.heap.get? l = some { cls := .type "list", dict := dd, data := .seq xs n, slots := sl } /\ s.heap.get? b = some { cls := .type "list", dict := de, data := .seq ys m, slots := sm } /\ R (.ok (.ret (.bool (HT.lexLt (ns.drop i) (ms.drop i))))) s) := by
    intro i h1 h2 h3 prog w A R s h
    obtain ⟨hp, g, d, tk, os⟩ := s; obtain ⟨gl, gb, h⟩ := h
    rw [jkb h3 h1 h2, <- z1, <- z2] at h
    wp_walk using wpAny_loadPart' gl, wpAny_loadPart' gb
    rcases h3 with e | e
    · have q1 : xs[((i : Nat) : Int).toNat]? = none := by simp; omega
      rw [q1]
      wp_walk using wpAny_loadPart' gl, wpAny_loadPart' gb
      exact h
    · have q2 : ys[((i : Nat) : Int).toNat]? = none := by simp; omega
      rw [q2]
      cases q1 : xs[((i : Nat) : Int).toNat]? with
      | none => wp_walk using wpAny_loadPart' gl, wpAny_loadPart' gb
                exact h
      | some v => wp_walk using wpAny_loadPart' gl, wpAny_loadPart' gb
                  exact h
  induction k with
  | zero => exact fun i hk h1 h2 => stop i h1 h2 (.inl (by omega))
  | succ k ih =>
    intro i hk h1 h2
    by_cases e : i = ms.length
    · exact stop i h1 h2 (.inr e)
    · intro prog w A R s h
      obtain ⟨hp, g, d, tk, os⟩ := s; obtain ⟨gl, gb, h⟩ := h
      wp_walk using wpAny_loadPart' gl, wpAny_loadPart' gb
      have l1 : i < xs.size := by omega
      have l2 : i < ys.size := by omega
      have q1 : xs[((i : Nat) : Int).toNat]? = some xs[i] := by simp [l1]
      have q2 : ys[((i : Nat) : Int).toNat]? = some ys[i] := by simp [l2]
      have hc : ((i : Int) + 1) = ((i + 1 : Nat) : Int) := by push_cast; rfl
      obtain ⟨a, t, ea, va⟩ := jfx hi (i := i) (u := xs[i]) (by simp [l1])
      obtain ⟨c, u, ec, vc⟩ := jfx hj (i := i) (u := ys[i]) (by simp [l2])
      rw [jhZ ea ec] at h
      rw [q1, q2, va, vc]
      obtain ⟨e, he, hiff⟩ := HT.eqAt_int A.in1 ⟨hp, g, d, tk, os⟩ a t c u
      refine Yab (he prog w _ _ ?_)
      cases e with
      | true =>
        rw [if_pos (hiff.mp rfl)] at h
        wp_walk
        rw [hc]
        exact ⟨plainId_quiet plain_eq_loop _, codeAny_builtin entry_eq_loop (by rw [Yfj plain_eq_loop _]; exact ih (i + 1) (by omega) (by omega) (by omega) prog w A R _ ⟨gl, gb, h⟩)⟩
      | false =>
        rw [if_neg (fun q => absurd (hiff.mpr q) Yas)] at h
        wp_walk using wpAny_loadPart' gl, wpAny_loadPart' gb
        rw [q1, q2, va, vc]
        have hri := HT.rcLt_int A.in1 ⟨hp, g, d, tk, os⟩ a t c u prog w
        wp_walk using hri
        exact h
theorem jka (l b : Addr)(xs ys : Array Value)(n m : Nat)(dd de : Option Addr)(sl sm : Array (Option Value))(ns ms : List Int)(hi : IntsAre xs.toList ns)(hj : IntsAre ys.toList ms) : Meets (Builtin.«list.__lt__» ⟨[.ref l, .ref b], []⟩)
      (fun _ R s => s.heap.get? l = some { cls := .type "list", dict := dd, data := .seq xs n, slots := sl } /\ s.heap.get? b = some { cls := .type "list", dict := de, data := .seq ys m, slots := sm } /\ R (.ok (.ret (.bool (HT.lexLt ns ms)))) s) := by
  intro prog w A R s h
  obtain ⟨hp, g, d, tk, os⟩ := s; obtain ⟨gl, gb, h⟩ := h
  have f3 := AutoSeq1.sub_list_list
  wp_walk using wpAny_loadPart' gl, wpAny_loadPart' gb
  exact ⟨plainId_quiet plain_eq_loop _, codeAny_builtin entry_eq_loop (by rw [Yfj plain_eq_loop _]; exact jj8 l b xs ys n m dd de sl sm ns ms hi hj _ 0 rfl (YbA _) (YbA _) prog w A R _ ⟨gl, gb, h⟩)⟩
end L2

namespace L2
open PySem PySem.Spec PyProof.Rows PySem.W
set_option maxHeartbeats 4000000
noncomputable def jb6:Bool->Keyed->Array Keyed->Nat->Nat->Nat->StateT SortSt Sem (Option Nat):=sortPriv% PySem.Builtin.gallop
noncomputable def jfp:Array Keyed->Array Keyed->StateT SortSt Sem (Array Keyed):=sortPriv% PySem.Builtin.mergeLo
noncomputable def jfq:Array Keyed->Array Keyed->StateT SortSt Sem (Array Keyed):=sortPriv% PySem.Builtin.mergeHi
noncomputable abbrev jgs (g:Nat)(st:SortSt):SortSt:=SortSt.mk' (kindOf st) (arrOf st) (YaL st) g (Yc0 st)
noncomputable def jam (g:Nat):StateT SortSt Sem Unit:=modify (jgs g)
noncomputable def jfA (f:Nat->StateT SortSt Sem (Option Bool))(n x0 y0:Nat):StateT SortSt Sem (Option Nat):=do
 let mut x:=x0
 let mut y:=y0
 for _ in [0:n] do
  if x ≥ y then break
  let some t <- f (x + (y - x) / 2) | return none
  if t then x:=x + (y - x) / 2 + 1 else y:=x + (y - x) / 2
 return some y
noncomputable def galR (f:Nat->StateT SortSt Sem (Option Bool))(n h:Nat):StateT SortSt Sem (Option Nat):=do
 let mut u:=0
 let mut v:=1
 for _ in [0:n] do
  if v ≥ n - h then break
  let some t <- f (h + v) | return none
  if !t then break
  u:=v
  v:=2 * v + 1
 jfA f n (h + u + 1) (h + min v (n - h))
noncomputable def galL (f:Nat->StateT SortSt Sem (Option Bool))(n h:Nat):StateT SortSt Sem (Option Nat):=do
 let mut u:=0
 let mut v:=1
 for _ in [0:n] do
  if v ≥ h + 1 then break
  let some t <- f (h - v) | return none
  if t then break
  u:=v
  v:=2 * v + 1
 jfA f n (h + 1 - min v (h + 1)) (h - u)
noncomputable def galB (left:Bool)(key:Keyed)(arr:Array Keyed)(base i:Nat):StateT SortSt Sem (Option Bool):=do
 let x <- elem' arr (base + i)
 if left then lt' x key else return (<- lt' key x).map (!·)
theorem jf6 (left:Bool)(key:Keyed)(arr:Array Keyed)(base n hint:Nat):jb6 left key arr base n hint=(do
 let some right <- galB left key arr base hint | return none
 if right then galR (galB left key arr base) n hint else galL (galB left key arr base) n hint):=by
 rfl
section
variable {prog:Program}{w:World}{A:Around}{E:Value->Shared->Prop}{s:Shared}{κ:YcA}{S:Keyed->Prop}{ρ:Keyed->Int}
noncomputable def AskK (prog:Program)(w:World)(A:Around)(s:Shared)(κ:YcA)(S:Keyed->Prop)(ρ:Keyed->Int):Prop:=
 ∀ (x y:Keyed) (Q:Bool->Shared->Prop) (E:Value->Shared->Prop),S x->S y->Q (decide (ρ x < ρ y)) s->wpAny (model prog w) A (keyLt' κ x.1 y.1) Q E s
theorem jcr (a:AskK prog w A s κ S ρ){st:SortSt}{x y:Keyed}{Q:Option Bool->SortSt->Prop}(hk:kindOf st=κ)(hx:S x)(hy:S y)(h:Q (some (decide (ρ x < ρ y))) st):wpS (model prog w) A E s (lt' x y) Q st:=by
 rw [lt'_eq]
 refine Yar (wpS_get ?_)
 rw [hk]
 refine Yar (Yeq (wpAny_attempt (a x y _ _ hx hy ⟨rfl,?_⟩)))
 exact Yau h
theorem jad {st:SortSt}{arr:Array Keyed}{i:Nat}{x:Keyed}{Q:Keyed->SortSt->Prop}(h:arr[i]?=some x)(q:Q x st):wpS (model prog w) A E s (elem' arr i) Q st:=by
 rw [elem'_eq,h]; exact Yau q
theorem jaR {n lo hi:Nat}{st:SortSt}{Q:Option Nat->SortSt->Prop}{f:Nat->StateT SortSt Sem (Option Bool)}{B:Nat->Bool}(hf:∀ (i:Nat) (Q:Option Bool->SortSt->Prop),i < n->Q (some (B i)) st->wpS (model prog w) A E s (f i) Q st)
  (anti:∀ i j,i<=j->j < n->B j=true->B i=true) (h1:lo<=hi) (h2:hi<=n) (hl:∀ i,i < lo->B i=true) (hh:∀ i,hi<=i->i < n->B i=false)
  (q:∀ k,k<=n->(∀ i,i < k->B i=true)->(∀ i,k<=i->i < n->B i=false)->Q (some k) st):wpS (model prog w) A E s (jfA f n lo hi) Q st:=by
 unfold jfA
 refine Yar (Ybx (I:=fun x c st'=>st'=st/\∃ l h,c=(none,l,h)/\l<=h/\h<=n/\h - l<=n - x/\(∀ i,i < l->B i=true)/\∀ i,h<=i->i < n->B i=false) ?_ ?_ ⟨rfl,lo,hi,rfl,h1,h2,by omega,hl,hh⟩)
 ·rintro x c st' hx1 hx2 ⟨rfl,l,h,rfl,a1,a2,a3,a4,a5⟩
  dsimp only
  by_cases e:l ≥ h
  ·rw [if_pos e]
   exact Yau (Yau (q h a2 (fun i hi=>a4 i (by omega)) a5))
  ·rw [if_neg e]
   obtain ⟨m,hm⟩:∃ m,m=l + (h - l) / 2:=⟨_,rfl⟩
   rw [<- hm]
   refine Yar (hf m _ (by omega) ?_)
   cases eb:B m with
   | true=>exact Yau ⟨rfl,m + 1,h,rfl,by omega,a2,by omega,fun i hi=>anti i m (by omega) (by omega) eb,a5⟩
   | false=>
    refine Yau ⟨rfl,l,m,rfl,by omega,by omega,by omega,a4,fun i h1 h2=>?_⟩
    cases e2:B i with
    | false=>rfl
    | true=>rw [anti m i h1 h2 e2] at eb; cases eb
 ·rintro c st' ⟨rfl,l,h,rfl,a1,a2,a3,a4,a5⟩
  exact Yau (q h a2 (fun i hi=>a4 i (by omega)) a5)
theorem jaQ (a:AskK prog w A s κ S ρ){left:Bool}{key:Keyed}{arr:Array Keyed}{base n hint:Nat}{st:SortSt}{Q:Option Nat->SortSt->Prop}(hk:kindOf st=κ)(hkey:S key)(hn:hint < n)(B:Nat->Bool)
  (hB:∀ i,i < n->∃ x,arr[base + i]?=some x/\S x/\(if left then decide (ρ x < ρ key) else !decide (ρ key < ρ x))=B i)
  (anti:∀ i j,i<=j->j < n->B j=true->B i=true)
  (q:∀ k,k<=n->(∀ i,i < k->B i=true)->(∀ i,k<=i->i < n->B i=false)->Q (some k) st):wpS (model prog w) A E s (jb6 left key arr base n hint) Q st:=by
 have hf:∀ (i:Nat) (Q:Option Bool->SortSt->Prop),i < n->Q (some (B i)) st->wpS (model prog w) A E s (galB left key arr base i) Q st:=fun i Q hi h=>by
  obtain ⟨x,e,sx,b⟩:=hB i hi
  unfold galB
  refine Yar (jad e ?_)
  cases left with
  | true=>exact jcr a hk sx hkey (by rw [<- b] at h; exact h)
  | false=>exact Yar (jcr a hk hkey sx (Yau (by rw [<- b] at h; exact h)))
 have anti':∀ i j,i<=j->j < n->B i=false->B j=false:=fun i j h1 h2 e=>by
  cases e2:B j with
  | false=>rfl
  | true=>rw [anti i j h1 h2 e2] at e; cases e
 rw [jf6]
 refine Yar (hf hint _ hn ?_)
 cases eh:B hint with
 | true=>
  show wpS _ _ _ _ (galR (galB left key arr base) n hint) Q st
  unfold galR
  refine Yar (Ybx (I:=fun x c st'=>st'=st/\∃ l o,c=(none,l,o)/\l < o/\x < o/\l < n - hint/\B (hint + l)=true) ?_ ?_ ⟨rfl,0,1,rfl,by omega,by omega,by omega,eh⟩)
  ·rintro x c st' hx1 hx2 ⟨rfl,l,o,rfl,a1,a2,a3,a4⟩
   dsimp only
   by_cases e:o ≥ n - hint
   ·rw [if_pos e]
    refine Yau ?_
    exact jaR (lo:=hint + l + 1) (hi:=hint + min o (n - hint)) hf anti (by omega) (by omega) (fun i hi=>anti i (hint + l) (by omega) (by omega) a4) (fun i h1 h2=>by omega) q
   ·rw [if_neg e]
    refine Yar (hf (hint + o) _ (by omega) ?_)
    cases eb:B (hint + o) with
    | true=>exact Yau ⟨rfl,o,2 * o + 1,rfl,by omega,by omega,by omega,eb⟩
    | false=>
     refine Yau ?_
     exact jaR (lo:=hint + l + 1) (hi:=hint + min o (n - hint)) hf anti (by omega) (by omega) (fun i hi=>anti i (hint + l) (by omega) (by omega) a4) (fun i h1 h2=>anti' (hint + o) i (by omega) h2 eb) q
  ·rintro c st' ⟨rfl,l,o,rfl,a1,a2,a3,a4⟩
   exact jaR (lo:=hint + l + 1) (hi:=hint + min o (n - hint)) hf anti (by omega) (by omega) (fun i hi=>anti i (hint + l) (by omega) (by omega) a4) (fun i h1 h2=>by omega) q
 | false=>
  show wpS _ _ _ _ (galL (galB left key arr base) n hint) Q st
  unfold galL
  refine Yar (Ybx (I:=fun x c st'=>st'=st/\∃ l o,c=(none,l,o)/\l < o/\x < o/\l < hint + 1/\B (hint - l)=false) ?_ ?_ ⟨rfl,0,1,rfl,by omega,by omega,by omega,eh⟩)
  ·rintro x c st' hx1 hx2 ⟨rfl,l,o,rfl,a1,a2,a3,a4⟩
   dsimp only
   by_cases e:o ≥ hint + 1
   ·rw [if_pos e]
    refine Yau ?_
    exact jaR (lo:=hint + 1 - min o (hint + 1)) (hi:=hint - l) hf anti (by omega) (by omega) (fun i hi=>by omega) (fun i h1 h2=>anti' (hint - l) i (by omega) h2 a4) q
   ·rw [if_neg e]
    refine Yar (hf (hint - o) _ (by omega) ?_)
    cases eb:B (hint - o) with
    | false=>exact Yau ⟨rfl,o,2 * o + 1,rfl,by omega,by omega,by omega,eb⟩
    | true=>
     refine Yau ?_
     exact jaR (lo:=hint + 1 - min o (hint + 1)) (hi:=hint - l) hf anti (by omega) (by omega) (fun i hi=>anti i (hint - o) (by omega) (by omega) eb) (fun i h1 h2=>anti' (hint - l) i (by omega) h2 a4) q
  ·rintro c st' ⟨rfl,l,o,rfl,a1,a2,a3,a4⟩
   exact jaR (lo:=hint + 1 - min o (hint + 1)) (hi:=hint - l) hf anti (by omega) (by omega) (fun i hi=>by omega) (fun i h1 h2=>anti' (hint - l) i (by omega) h2 a4) q
end
section
variable {ρ:Keyed->Int}
noncomputable def Srt (ρ:Keyed->Int)(l:List Keyed):Prop:=l.Pairwise fun x y=>ρ x<=ρ y
structure Mg (ρ:Keyed->Int)(a b out xs ys:List Keyed):Prop where
 sx:Srt ρ (out++xs)
 sy:Srt ρ (out++ys)
 pm:(out++xs++ys).Perm (a++b)
variable {a b out xs ys x1 y1:List Keyed}
theorem Mg.fromA (h:Mg ρ a b out (x1++xs) ys)(le:∀ x∈x1,∀ y∈ys,ρ x<=ρ y):Mg ρ a b (out++x1) xs ys:=by
 refine ⟨by rw [Yay]; exact h.sx,?_,by rw [Yay out]; exact h.pm⟩
 have s1:=h.sx
 rw [<- Yay] at s1
 have s1:=List.pairwise_append.mp s1
 have s2:=List.pairwise_append.mp h.sy
 refine List.pairwise_append.mpr ⟨s1.1,s2.2.1,fun x hx y hy=>?_⟩
 rcases List.mem_append.mp hx with hx | hx
 ·exact s2.2.2 x hx y hy
 ·exact le x hx y hy
theorem Mg.fromB (h:Mg ρ a b out xs (y1++ys))(le:∀ y∈y1,∀ x∈xs,ρ y<=ρ x):Mg ρ a b (out++y1) xs ys:=by
 refine ⟨?_,by rw [Yay]; exact h.sy,?_⟩
 ·have s1:=h.sy
  rw [<- Yay] at s1
  have s1:=List.pairwise_append.mp s1
  have s2:=List.pairwise_append.mp h.sx
  refine List.pairwise_append.mpr ⟨s1.1,s2.2.1,fun x hx y hy=>?_⟩
  rcases List.mem_append.mp hx with hx | hx
  ·exact s2.2.2 x hx y hy
  ·exact le x hx y hy
 ·refine YfF ?_ h.pm
  rw [Yay,Yay,Yay]
  refine YcQ out ?_
  rw [<- Yay,<- Yay]
  exact YcG ys Yfo
theorem Mg.doneA (h:Mg ρ a b out xs []):Srt ρ (out++xs++[])/\(out++xs++[]).Perm (a++b):=⟨by rw [Ya7]; exact h.sx,h.pm⟩
theorem Mg.doneB (h:Mg ρ a b out [] ys):Srt ρ (out++[]++ys)/\(out++[]++ys).Perm (a++b):=⟨by rw [Ya7]; exact h.sy,h.pm⟩
theorem Mg.last (h:Mg ρ a b out xs ys)(le:∀ y∈ys,∀ x∈xs,ρ y<=ρ x):Srt ρ (out++ys++xs)/\(out++ys++xs).Perm (a++b):=by
 have h:Mg ρ a b out xs (ys++[]):=by rw [Ya7]; exact h
 have h:=h.fromB le
 exact ⟨h.sx,by have:=h.pm; rw [Ya7] at this; exact this⟩
end
section
variable {α:Type}{a:Array α}{i k:Nat}{x:α}
theorem jbn:(a.extract i a.size).toList=a.toList.drop i:=by
 rw [Ycv]
 unfold YdL
 exact Ycf (by rw [Ybo]; simp)
theorem jbm:(a.extract 0 k).toList=a.toList.take k:=by
 rw [Ycv]
 unfold YdL
 simp
theorem jeV:(a.extract i (i + k)).toList=(a.toList.drop i).take k:=by
 rw [Ycv]
 unfold YdL
 rw [YcP]
theorem jg5 (h:a[i]?=some x):a.toList.drop i=x::a.toList.drop (i + 1):=by
 have h':a.toList[i]?=some x:=by rw [Yal]; exact h
 obtain ⟨hi,e⟩:=List.getElem?_eq_some_iff.mp h'
 rw [YaY hi,e]
theorem jaH {l:List α}{n:Nat}{y:α}(h:y∈l.drop n):∃ j,n<=j/\l[j]?=some y:=by
 obtain ⟨j,hj⟩:=Yb8 h
 rw [YcL] at hj
 exact ⟨n + j,by omega,hj⟩
theorem jb1 {l:List α}{n k:Nat}{y:α}(h:y∈(l.drop n).take k):∃ j,j < k/\l[n + j]?=some y:=by
 obtain ⟨j,hj⟩:=Yb8 h
 rw [Ycj] at hj
 split at hj
 ·rw [YcL] at hj
  exact ⟨j,‹_›,hj⟩
 ·cases hj
end
theorem jbc {ρ:Keyed->Int}{l:List Keyed}(h:Srt ρ l){i j:Nat}{x y:Keyed}(hij:i<=j)(hx:l[i]?=some x)(hy:l[j]?=some y):ρ x<=ρ y:=by
 by_cases e:i=j
 ·rw [e,hy] at hx; cases hx; exact Ydo _
 ·obtain ⟨hi,rfl⟩:=List.getElem?_eq_some_iff.mp hx
  obtain ⟨hj,rfl⟩:=List.getElem?_eq_some_iff.mp hy
  exact List.pairwise_iff_getElem.mp h i j hi hj (by omega)
section
noncomputable abbrev T2:=Option (Array Keyed)×Array Keyed×Nat×Nat×Nat×Nat×Nat
noncomputable abbrev T1:=Option (Array Keyed)×Array Keyed×Nat×Nat×Nat×Nat
noncomputable def loJ2 (a b:Array Keyed)(g ac bc ia:Nat)(out:Array Keyed)(ib:Nat):StateT SortSt Sem (ForInStep T2):=do
 let x <- elem' a ia
 if (ia + 1 + 1 == a.size)=true then pure (ForInStep.done (some (out.push x++b.extract ib b.size++a.extract (ia + 1) a.size),out.push x,ia + 1,ib,g,ac,bc))
 else if (decide (ac < 7) && decide (bc < 7))=true then pure (ForInStep.done (none,out.push x,ia + 1,ib,g,ac,bc))
 else pure (ForInStep.yield (none,out.push x,ia + 1,ib,g,ac,bc))
noncomputable def loJ1 (a b:Array Keyed)(g ac bc ib:Nat)(out:Array Keyed)(ia:Nat):StateT SortSt Sem (ForInStep T2):=do
 let y <- elem' b ib
 if (ib + 1 == b.size)=true then pure (ForInStep.done (some (out.push y++a.extract ia a.size++b.extract (ib + 1) b.size),out.push y,ia,ib + 1,g,ac,bc))
 else do
  let x <- elem' a ia
  let r <- jb6 true x b (ib + 1) (b.size - (ib + 1)) 0
  match r with
  | some k=>
   if k > 0 then
    if (ib + 1 + k == b.size)=true then pure (ForInStep.done (some (out.push y++b.extract (ib + 1) (ib + 1 + k)++a.extract ia a.size++b.extract (ib + 1 + k) b.size),out.push y++b.extract (ib + 1) (ib + 1 + k),ia,ib + 1 + k,g,ac,k))
    else loJ2 a b g ac k ia (out.push y++b.extract (ib + 1) (ib + 1 + k)) (ib + 1 + k)
   else loJ2 a b g ac k ia (out.push y) (ib + 1)
  | _=>pure (ForInStep.done (some (out.push y++a.extract ia a.size++b.extract (ib + 1) b.size),out.push y,ia,ib + 1,g,ac,bc))
noncomputable def loJ0 (a b out:Array Keyed)(ia ib ac bc g:Nat):StateT SortSt Sem (ForInStep T2):=do
 jam g
 let y <- elem' b ib
 let r <- jb6 false y a ia (a.size - ia) 0
 match r with
 | some k=>
  if k > 0 then
   if (ia + k + 1 == a.size)=true then pure (ForInStep.done (some (out++a.extract ia (ia + k)++b.extract ib b.size++a.extract (ia + k) a.size),out++a.extract ia (ia + k),ia + k,ib,g,k,bc))
   else if (ia + k == a.size)=true then pure (ForInStep.done (some (out++a.extract ia (ia + k)++a.extract (ia + k) a.size++b.extract ib b.size),out++a.extract ia (ia + k),ia + k,ib,g,k,bc))
   else loJ1 a b g k bc ib (out++a.extract ia (ia + k)) (ia + k)
  else loJ1 a b g k bc ib out ia
 | _=>pure (ForInStep.done (some (out++a.extract ia a.size++b.extract ib b.size),out,ia,ib,g,ac,bc))
noncomputable def loB (a b:Array Keyed)(c:T2):StateT SortSt Sem (ForInStep T2):=
 if c.2.2.2.2.1 > 1 then loJ0 a b c.2.1 c.2.2.1 c.2.2.2.1 c.2.2.2.2.2.1 c.2.2.2.2.2.2 (c.2.2.2.2.1 - 1)
 else loJ0 a b c.2.1 c.2.2.1 c.2.2.2.1 c.2.2.2.2.2.1 c.2.2.2.2.2.2 c.2.2.2.2.1
noncomputable def loA (a b:Array Keyed)(g:Nat)(c:T1):StateT SortSt Sem (ForInStep T1):=do
 let y <- elem' b c.2.2.2.1
 let x <- elem' a c.2.2.1
 let r <- lt' y x
 match r with
 | some bWins=>
  if bWins=true then do
   let y <- elem' b c.2.2.2.1
   if (c.2.2.2.1 + 1 == b.size)=true then pure (ForInStep.done (some (c.2.1.push y++a.extract c.2.2.1 a.size++b.extract (c.2.2.2.1 + 1) b.size),c.2.1.push y,c.2.2.1,c.2.2.2.1 + 1,0,c.2.2.2.2.2 + 1))
   else if c.2.2.2.2.2 + 1 ≥ g then pure (ForInStep.done (none,c.2.1.push y,c.2.2.1,c.2.2.2.1 + 1,0,c.2.2.2.2.2 + 1))
   else pure (ForInStep.yield (none,c.2.1.push y,c.2.2.1,c.2.2.2.1 + 1,0,c.2.2.2.2.2 + 1))
  else do
   let x <- elem' a c.2.2.1
   if (c.2.2.1 + 1 + 1 == a.size)=true then pure (ForInStep.done (some (c.2.1.push x++b.extract c.2.2.2.1 b.size++a.extract (c.2.2.1 + 1) a.size),c.2.1.push x,c.2.2.1 + 1,c.2.2.2.1,c.2.2.2.2.1 + 1,0))
   else if c.2.2.2.2.1 + 1 ≥ g then pure (ForInStep.done (none,c.2.1.push x,c.2.2.1 + 1,c.2.2.2.1,c.2.2.2.2.1 + 1,0))
   else pure (ForInStep.yield (none,c.2.1.push x,c.2.2.1 + 1,c.2.2.2.1,c.2.2.2.2.1 + 1,0))
 | _=>pure (ForInStep.done (some (c.2.1++a.extract c.2.2.1 a.size++b.extract c.2.2.2.1 b.size),c.2.1,c.2.2.1,c.2.2.2.1,c.2.2.2.2.1,c.2.2.2.2.2))
noncomputable abbrev T0:=Option (Array Keyed)×Array Keyed×Nat×Nat×Nat
noncomputable def loN (a b:Array Keyed)(g:Nat)(s:T1):StateT SortSt Sem (ForInStep T0):=do
 rule "list.sort.gallop"
 let s <- forIn [0:a.size + b.size] ((none,s.2.1,s.2.2.1,s.2.2.2.1,g + 1,s.2.2.2.2.1,s.2.2.2.2.2):T2) fun _ d=>loB a b d
 match s.1 with
 | some r=>pure (ForInStep.done (some r,s.2.1,s.2.2.1,s.2.2.2.1,s.2.2.2.2.1))
 | none=>do
  jam (s.2.2.2.2.1 + 1)
  pure (ForInStep.yield (none,s.2.1,s.2.2.1,s.2.2.2.1,s.2.2.2.2.1 + 1))
noncomputable def loM (a b:Array Keyed)(c:T0):StateT SortSt Sem (ForInStep T0):=do
 let s <- forIn [0:a.size + b.size] ((none,c.2.1,c.2.2.1,c.2.2.2.1,0,0):T1) fun _ d=>loA a b c.2.2.2.2 d
 match s.1 with
 | some r=>pure (ForInStep.done (some r,s.2.1,s.2.2.1,s.2.2.2.1,c.2.2.2.2))
 | none=>loN a b c.2.2.2.2 s
theorem ic {α:Type}{p:Prop}[Decidable p]{a b c d:α}(h1:a=c)(h2:b=d):(if p then a else b)=if p then c else d:=by rw [h1,h2]
theorem bc {σ α β:Type}{m:StateT σ Sem α}{f g:α->StateT σ Sem β}(h:∀ a,f a=g a):m >>= f=m >>= g:=by rw [funext h]
theorem bc2 {σ α β:Type}{m m':StateT σ Sem α}{f g:α->StateT σ Sem β}(h1:m=m')(h:∀ a,f a=g a):m >>= f=m' >>= g:=by rw [funext h,h1]
theorem fc {σ β:Type}{r:Std.Legacy.Range}{b:β}{f g:Nat->β->StateT σ Sem (ForInStep β)}(h:∀ x c,f x c=g x c):forIn r b f=forIn r b g:=by rw [funext fun x=>funext fun c=>h x c]
theorem jeM (a b:Array Keyed):jfp a b=(do
 rule "list.sort.merge-lo"
 let y <- elem' b 0
 if (1 == b.size)=true then pure (#[y]++a.extract 0 a.size++b.extract 1 b.size)
 else if (0 + 1 == a.size)=true then pure (#[y]++b.extract 1 b.size++a.extract 0 a.size)
 else do
  let st <- get
  let s <- forIn [0:a.size + b.size] ((none,#[y],0,1,gallopOf st):T0) fun _ d=>loM a b d
  match s.1 with
  | some r=>pure r
  | none=>liftM (unsupported "internal:list.sort.merge-bound" : Sem (Array Keyed))):=by
 refine bc fun _=>bc fun y=>?_
 dsimp only
 refine ic rfl (ic rfl (bc fun st=>bc2 (fc fun _ c=>?_) fun d=>?_))
 ·unfold loM
  refine bc2 (fc fun _ d=>?_) fun d=>?_
  ·unfold loA
   refine bc fun _=>bc fun _=>bc fun r=>?_
   cases r with
   | none=>rfl
   | some r=>cases r <;> rfl
  ·obtain ⟨d0,d1,d2,d3,d4,d5⟩:=d
   cases d0 with
   | some r=>rfl
   | none=>
    unfold loN
    refine bc fun _=>bc2 (fc fun _ e=>?_) fun e=>?_
    ·unfold loB
     refine ic ?_ ?_
     ·unfold loJ0
      rfl
     ·unfold loJ0
      rfl
    ·obtain ⟨e0,e1,e2,e3,e4,e5,e6⟩:=e
     cases e0 <;> rfl
 ·obtain ⟨d0,d1,d2,d3,d4⟩:=d
  cases d0 <;> rfl
end
structure Fr (st st':SortSt):Prop where
 k:kindOf st'=kindOf st
 a:arrOf st'=arrOf st
 p:YaL st'=YaL st
 f:Yc0 st'=Yc0 st
theorem Fr.refl {st:SortSt}:Fr st st:=⟨rfl,rfl,rfl,rfl⟩
theorem Fr.gal {st st':SortSt}(h:Fr st st')(g:Nat):Fr st (jgs g st'):=⟨h.k,h.a,h.p,h.f⟩
noncomputable def Fin2 (ρ:Keyed->Int)(a b zs:Array Keyed):Prop:=Srt ρ zs.toList/\zs.toList.Perm (a.toList++b.toList)
structure Two2 (S:Keyed->Prop)(ρ:Keyed->Int)(a b:Array Keyed):Prop where
 sa:∀ (i:Nat) (x:Keyed),a[i]?=some x->S x
 sb:∀ (i:Nat) (x:Keyed),b[i]?=some x->S x
 oa:Srt ρ a.toList
 ob:Srt ρ b.toList
 last:∀ x,a[a.size - 1]?=some x->∀ y∈b.toList,ρ y<=ρ x
 first:∀ y,b[0]?=some y->∀ x∈a.toList,ρ y<=ρ x
 na:0 < a.size
 nb:0 < b.size
structure Lo (ρ:Keyed->Int)(a b out:Array Keyed)(ia ib:Nat):Prop where
 m:Mg ρ a.toList b.toList out.toList (a.toList.drop ia) (b.toList.drop ib)
 ia:ia + 1 < a.size
 ib:ib < b.size
section
variable {S:Keyed->Prop}{ρ:Keyed->Int}{a b out:Array Keyed}{ia ib k:Nat}{x y:Keyed}
theorem jaa {a:Array Keyed}{i:Nat}(h:i < a.size):∃ x,a[i]?=some x:=⟨a[i],getElem?_pos a i h⟩
theorem jcq (t:Two2 S ρ a b)(m:Mg ρ a.toList b.toList out.toList (a.toList.drop ia) (b.toList.drop ib))(h:ia + 1=a.size):Fin2 ρ a b (out++b.extract ib b.size++a.extract ia a.size):=by
 unfold Fin2
 rw [YaZ,YaZ,jbn,jbn]
 refine m.last fun y hy x hx=>?_
 obtain ⟨j,hj,e⟩:=jaH hx
 have hl:=(List.getElem?_eq_some_iff.mp e).1
 rw [YaQ] at hl
 have:j=a.size - 1:=by omega
 rw [Yal,this] at e
 exact t.last x e y (Ycw hy)
theorem jbO (m:Mg ρ a.toList b.toList out.toList (a.toList.drop ia) (b.toList.drop ib))(h:ib=b.size):Fin2 ρ a b (out++a.extract ia a.size++b.extract ib b.size):=by
 unfold Fin2
 have e:b.toList.drop ib=[]:=YbE (by rw [YaQ]; omega)
 rw [e] at m
 rw [YaZ,YaZ,jbn,jbn,e]
 exact m.doneA
theorem jg4 (m:Mg ρ a.toList b.toList out.toList (a.toList.drop ia) (b.toList.drop ib))(h:ia=a.size):Fin2 ρ a b (out++a.extract ia a.size++b.extract ib b.size):=by
 unfold Fin2
 have e:a.toList.drop ia=[]:=YbE (by rw [YaQ]; omega)
 rw [e] at m
 rw [YaZ,YaZ,jbn,jbn,e]
 exact m.doneB
theorem Mg.pushA (m:Mg ρ a.toList b.toList out.toList (a.toList.drop ia) (b.toList.drop ib))(h:a[ia]?=some x)(le:∀ y∈b.toList.drop ib,ρ x<=ρ y):Mg ρ a.toList b.toList (out.push x).toList (a.toList.drop (ia + 1)) (b.toList.drop ib):=by
 rw [jg5 h] at m
 rw [YcS]
 exact Mg.fromA (x1:=[x]) m fun z hz y hy=>by rw [List.mem_singleton.mp hz]; exact le y hy
theorem Mg.pushB (m:Mg ρ a.toList b.toList out.toList (a.toList.drop ia) (b.toList.drop ib))(h:b[ib]?=some y)(le:∀ x∈a.toList.drop ia,ρ y<=ρ x):Mg ρ a.toList b.toList (out.push y).toList (a.toList.drop ia) (b.toList.drop (ib + 1)):=by
 rw [jg5 h] at m
 rw [YcS]
 exact Mg.fromB (y1:=[y]) m fun z hz x hx=>by rw [List.mem_singleton.mp hz]; exact le x hx
theorem Mg.manyA (m:Mg ρ a.toList b.toList out.toList (a.toList.drop ia) (b.toList.drop ib))(le:∀ j x,j < k->a[ia + j]?=some x->∀ y∈b.toList.drop ib,ρ x<=ρ y):Mg ρ a.toList b.toList (out++a.extract ia (ia + k)).toList (a.toList.drop (ia + k)) (b.toList.drop ib):=by
 rw [YaZ,jeV]
 refine Mg.fromA (x1:=(a.toList.drop ia).take k) (xs:=a.toList.drop (ia + k)) ?_ fun z hz y hy=>?_
 ·rw [<- List.drop_drop,YaS]; exact m
 ·obtain ⟨j,hj,e⟩:=jb1 hz
  rw [Yal] at e
  exact le j z hj e y hy
theorem Mg.manyB (m:Mg ρ a.toList b.toList out.toList (a.toList.drop ia) (b.toList.drop ib))(le:∀ j y,j < k->b[ib + j]?=some y->∀ x∈a.toList.drop ia,ρ y<=ρ x):Mg ρ a.toList b.toList (out++b.extract ib (ib + k)).toList (a.toList.drop ia) (b.toList.drop (ib + k)):=by
 rw [YaZ,jeV]
 refine Mg.fromB (y1:=(b.toList.drop ib).take k) (ys:=b.toList.drop (ib + k)) ?_ fun z hz x hx=>?_
 ·rw [<- List.drop_drop,YaS]; exact m
 ·obtain ⟨j,hj,e⟩:=jb1 hz
  rw [Yal] at e
  exact le j z hj e x hx
theorem jdC {a:Array Keyed}{i:Nat}{x:Keyed}(o:Srt ρ a.toList)(h:a[i]?=some x):∀ z∈a.toList.drop i,ρ x<=ρ z:=fun z hz=>by
 obtain ⟨j,hj,e⟩:=jaH hz
 exact jbc o hj (by rw [Yal]; exact h) e
end
section
variable {prog:Program}{w:World}{A:Around}{E:Value->Shared->Prop}{s:Shared}{κ:YcA}{S:Keyed->Prop}{ρ:Keyed->Int}{a b out:Array Keyed}{ia ib g ac bc m:Nat}{st0 st:SortSt}{Q:ForInStep T2->SortSt->Prop}
structure Out2 (ρ:Keyed->Int)(a b:Array Keyed)(st0:SortSt)(m:Nat)(Q:ForInStep T2->SortSt->Prop):Prop where
 fin:∀ zs d st',Fr st0 st'->Fin2 ρ a b zs->Q (.done (some zs,d)) st'
 go:∀ out ia ib g ac bc st',Fr st0 st'->Lo ρ a b out ia ib->m<=ia + ib->Q (.done (none,out,ia,ib,g,ac,bc)) st'/\Q (.yield (none,out,ia,ib,g,ac,bc)) st'
theorem jim (t:Two2 S ρ a b)(o:Out2 ρ a b st0 m Q)(fr:Fr st0 st)(h:Lo ρ a b out ia ib)(hm:m<=ia + ib)(le:∀ x,a[ia]?=some x->∀ y∈b.toList.drop ib,ρ x<=ρ y):wpS (model prog w) A E s (loJ2 a b g ac bc ia out ib) Q st:=by
 obtain ⟨x,hx⟩:=jaa (a:=a) (i:=ia) (by have:=h.ia; omega)
 have ha:=h.ia
 have M:=h.m.pushA hx (le x hx)
 unfold loJ2
 refine Yar (jad hx ?_)
 by_cases e:ia + 1 + 1=a.size
 ·rw [if_pos (by simpa using e)]
  exact Yau (o.fin _ _ _ fr (jcq t M e))
 ·rw [if_neg (by simpa using e)]
  have L:Lo ρ a b (out.push x) (ia + 1) ib:=⟨M,by omega,h.ib⟩
  split
  ·exact Yau (o.go _ _ _ _ _ _ _ fr L (by omega)).1
  ·exact Yau (o.go _ _ _ _ _ _ _ fr L (by omega)).2
theorem jin (ak:AskK prog w A s κ S ρ)(t:Two2 S ρ a b)(o:Out2 ρ a b st0 m Q)(k0:kindOf st0=κ)(fr:Fr st0 st)(h:Lo ρ a b out ia ib)(hm:m<=ia + ib)(le:∀ y,b[ib]?=some y->∀ x∈a.toList.drop ia,ρ y<=ρ x):wpS (model prog w) A E s (loJ1 a b g ac bc ib out ia) Q st:=by
 obtain ⟨x,hx⟩:=jaa (a:=a) (i:=ia) (by have:=h.ia; omega)
 obtain ⟨y,hy⟩:=jaa (a:=b) (i:=ib) h.ib
 have hb:=h.ib
 have M:=h.m.pushB hy (le y hy)
 unfold loJ1
 refine Yar (jad hy ?_)
 by_cases e:ib + 1=b.size
 ·rw [if_pos (by simpa using e)]
  exact Yau (o.fin _ _ _ fr (jbO M e))
 ·rw [if_neg (by simpa using e)]
  have L:Lo ρ a b (out.push y) ia (ib + 1):=⟨M,h.ia,by omega⟩
  refine Yar (jad hx ?_)
  refine Yar (jaQ ak (left:=true) (fr.k.trans k0) (t.sa _ _ hx) (by omega) (fun i=>match b[ib + 1 + i]? with | some z=>decide (ρ z < ρ x) | none=>false) (fun i hi=>?_) (fun i j hij hj e2=>?_) fun k hk h1 h2=>?_)
  ·obtain ⟨z,hz⟩:=jaa (a:=b) (i:=ib + 1 + i) (by omega)
   exact ⟨z,hz,t.sb _ _ hz,by rw [hz]; rfl⟩
  ·obtain ⟨z,hz⟩:=jaa (a:=b) (i:=ib + 1 + i) (by omega)
   obtain ⟨z',hz'⟩:=jaa (a:=b) (i:=ib + 1 + j) (by omega)
   rw [hz'] at e2
   have:=jbc t.ob (i:=ib + 1 + i) (j:=ib + 1 + j) (by omega) (by rw [Yal]; exact hz) (by rw [Yal]; exact hz')
   have e2:=of_decide_eq_true e2
   rw [hz]
   exact decide_eq_true (by omega)
  have fx:=jdC t.oa hx
  have le2:∀ x',a[ia]?=some x'->∀ y∈b.toList.drop (ib + 1 + k),ρ x'<=ρ y:=fun x' hx' y hy=>by
   rw [hx] at hx'; cases hx'
   obtain ⟨j,hj,e⟩:=jaH hy
   have hl:=(List.getElem?_eq_some_iff.mp e).1
   rw [YaQ] at hl
   rw [Yal] at e
   have h3:=h2 (j - (ib + 1)) (by omega) (by omega)
   rw [show ib + 1 + (j - (ib + 1))=j by omega,e] at h3
   have:=of_decide_eq_false h3
   omega
  dsimp only
  by_cases ek:k > 0
  ·rw [if_pos ek]
   have M2:Mg ρ a.toList b.toList (out.push y++b.extract (ib + 1) (ib + 1 + k)).toList (a.toList.drop ia) (b.toList.drop (ib + 1 + k)):=M.manyB fun j z hj hz x' hx'=>by
    have h3:=h1 j hj
    rw [hz] at h3
    have:=of_decide_eq_true h3
    have:=fx x' hx'
    omega
   by_cases e3:ib + 1 + k=b.size
   ·rw [if_pos (by simpa using e3)]
    exact Yau (o.fin _ _ _ fr (jbO M2 e3))
   ·rw [if_neg (by simpa using e3)]
    exact jim t o fr ⟨M2,h.ia,by omega⟩ (by omega) le2
  ·rw [if_neg ek]
   have k00:k=0:=by omega
   subst k00
   exact jim t o fr L (by omega) le2
theorem jcj {g:Nat}{Q:Unit->SortSt->Prop}(h:Q () (jgs g st)):wpS (model prog w) A E s (jam g) Q st:=Yd5 h
theorem jio (ak:AskK prog w A s κ S ρ)(t:Two2 S ρ a b)(o:Out2 ρ a b st0 m Q)(k0:kindOf st0=κ)(fr:Fr st0 st)(h:Lo ρ a b out ia ib)(hm:m<=ia + ib):wpS (model prog w) A E s (loJ0 a b out ia ib ac bc g) Q st:=by
 obtain ⟨y,hy⟩:=jaa (a:=b) (i:=ib) h.ib
 have ha:=h.ia
 unfold loJ0
 refine Yar (jcj ?_)
 have fr:=fr.gal g
 refine Yar (jad hy ?_)
 refine Yar (jaQ ak (left:=false) (fr.k.trans k0) (t.sb _ _ hy) (by omega) (fun i=>match a[ia + i]? with | some z=>!decide (ρ y < ρ z) | none=>false) (fun i hi=>?_) (fun i j hij hj e2=>?_) fun k hk h1 h2=>?_)
 ·obtain ⟨z,hz⟩:=jaa (a:=a) (i:=ia + i) (by omega)
  exact ⟨z,hz,t.sa _ _ hz,by rw [hz]; rfl⟩
 ·obtain ⟨z,hz⟩:=jaa (a:=a) (i:=ia + i) (by omega)
  obtain ⟨z',hz'⟩:=jaa (a:=a) (i:=ia + j) (by omega)
  rw [hz'] at e2
  have:=jbc t.oa (i:=ia + i) (j:=ia + j) (by omega) (by rw [Yal]; exact hz) (by rw [Yal]; exact hz')
  have e2:¬ (ρ y < ρ z'):=by simpa using e2
  rw [hz]
  have:¬ (ρ y < ρ z):=by omega
  simpa using this
 have fy:=jdC t.ob hy
 have le2:∀ y',b[ib]?=some y'->∀ x∈a.toList.drop (ia + k),ρ y'<=ρ x:=fun y' hy' x hx=>by
  rw [hy] at hy'; cases hy'
  obtain ⟨j,hj,e⟩:=jaH hx
  have hl:=(List.getElem?_eq_some_iff.mp e).1
  rw [YaQ] at hl
  rw [Yal] at e
  have h3:=h2 (j - ia) (by omega) (by omega)
  rw [show ia + (j - ia)=j by omega,e] at h3
  have h3:ρ y < ρ x:=by simpa using h3
  omega
 dsimp only
 by_cases ek:k > 0
 ·rw [if_pos ek]
  have M2:Mg ρ a.toList b.toList (out++a.extract ia (ia + k)).toList (a.toList.drop (ia + k)) (b.toList.drop ib):=h.m.manyA fun j z hj hz y' hy'=>by
   have h3:=h1 j hj
   rw [hz] at h3
   have h3:¬ (ρ y < ρ z):=by simpa using h3
   have:=fy y' hy'
   omega
  by_cases e3:ia + k + 1=a.size
  ·rw [if_pos (by simpa using e3)]
   exact Yau (o.fin _ _ _ fr (jcq t M2 e3))
  ·rw [if_neg (by simpa using e3)]
   by_cases e4:ia + k=a.size
   ·rw [if_pos (by simpa using e4)]
    exact Yau (o.fin _ _ _ fr (jg4 M2 e4))
   ·rw [if_neg (by simpa using e4)]
    exact jin ak t o k0 fr ⟨M2,by omega,h.ib⟩ (by omega) le2
 ·rw [if_neg ek]
  have k00:k=0:=by omega
  subst k00
  exact jin ak t o k0 fr h hm le2
theorem jet (ak:AskK prog w A s κ S ρ)(t:Two2 S ρ a b)(k0:kindOf st0=κ)(fr:Fr st0 st)(h:Lo ρ a b out ia ib)(hm:m<=ia + ib){g ac bc:Nat}{Q:ForInStep T0->SortSt->Prop}(fin:∀ zs d st',Fr st0 st'->Fin2 ρ a b zs->Q (.done (some zs,d)) st')
  (go:∀ out ia ib g st',Fr st0 st'->Lo ρ a b out ia ib->m<=ia + ib->Q (.yield (none,out,ia,ib,g)) st'):wpS (model prog w) A E s (loN a b g (none,out,ia,ib,ac,bc)) Q st:=by
 unfold loN
 refine Yar (Yeq (YdE ⟨rfl,?_⟩))
 have end_:∀ out ia ib g st',Fr st0 st'->Lo ρ a b out ia ib->m<=ia + ib->wpS (model prog w) A E s (do
  jam (g + 1)
  pure (ForInStep.yield (none,out,ia,ib,g + 1)):StateT SortSt Sem (ForInStep T0)) Q st':=fun out ia ib g st' fr h hm=>Yar (jcj (Yau (go _ _ _ _ _ (fr.gal _) h hm)))
 refine Yar (Ybx (I:=fun z c st'=>Fr st0 st'/\∃ out ia ib g ac bc,c=(none,out,ia,ib,g,ac,bc)/\Lo ρ a b out ia ib/\m<=ia + ib) ?_ ?_ ⟨fr,_,_,_,_,_,_,rfl,h,hm⟩)
 ·rintro z c st2 _ hz ⟨fr,out,ia,ib,g,ac,bc,rfl,h,hm⟩
  unfold loB
  split
  ·exact jio ak t ⟨fun zs d st' f z=>Yau (fin _ _ _ f z),fun out ia ib g ac bc st' f l hm=>⟨end_ out ia ib g st' f l hm,f,_,_,_,_,_,_,rfl,l,hm⟩⟩ k0 fr h hm
  ·exact jio ak t ⟨fun zs d st' f z=>Yau (fin _ _ _ f z),fun out ia ib g ac bc st' f l hm=>⟨end_ out ia ib g st' f l hm,f,_,_,_,_,_,_,rfl,l,hm⟩⟩ k0 fr h hm
 ·rintro c st2 ⟨fr,out,ia,ib,g,ac,bc,rfl,h,hm⟩
  exact end_ out ia ib g _ fr h hm
theorem jeq (ak:AskK prog w A s κ S ρ)(t:Two2 S ρ a b)(k0:kindOf st=κ){Q:Array Keyed->SortSt->Prop}(q:∀ zs st',Fr st st'->Fin2 ρ a b zs->Q zs st'):wpS (model prog w) A E s (jfp a b) Q st:=by
 obtain ⟨y,hy⟩:=jaa (a:=b) (i:=0) t.nb
 have na:=t.na
 have nb:=t.nb
 rw [jeM]
 refine Yar (Yeq (YdE ⟨rfl,?_⟩))
 refine Yar (jad hy ?_)
 have M0:Mg ρ a.toList b.toList (#[]:Array Keyed).toList (a.toList.drop 0) (b.toList.drop 0):=⟨t.oa,t.ob,Yeh _⟩
 have M:Mg ρ a.toList b.toList (#[y]:Array Keyed).toList (a.toList.drop 0) (b.toList.drop 1):=M0.pushB hy (t.first y hy)
 by_cases e:1=b.size
 ·rw [if_pos (by simpa using e)]
  exact Yau (q _ _ .refl (jbO M e))
 rw [if_neg (by simpa using e)]
 by_cases e:0 + 1=a.size
 ·rw [if_pos (by simpa using e)]
  exact Yau (q _ _ .refl (jcq t M e))
 rw [if_neg (by simpa using e)]
 refine Yar (wpS_get ?_)
 refine Yar (Ybx (I:=fun x c st'=>Fr st st'/\∃ out ia ib g,c=(none,out,ia,ib,g)/\Lo ρ a b out ia ib/\x < ia + ib) ?_ ?_ ⟨.refl,_,_,_,_,rfl,⟨M,by omega,by omega⟩,by omega⟩)
 ·rintro x c st1 _ hx ⟨fr,out,ia,ib,g,rfl,h,hc⟩
  unfold loM
  refine Yar (Ybx (I:=fun z c st'=>st'=st1/\∃ out ia ib ac bc,c=(none,out,ia,ib,ac,bc)/\Lo ρ a b out ia ib/\x + z < ia + ib) ?_ ?_ ⟨rfl,_,_,_,_,_,rfl,h,by omega⟩)
  ·rintro z c st2 _ hz ⟨rfl,out,ia,ib,ac,bc,rfl,h,hc⟩
   have ha:=h.ia
   have hb:=h.ib
   obtain ⟨x',hx'⟩:=jaa (a:=a) (i:=ia) (by omega)
   obtain ⟨y',hy'⟩:=jaa (a:=b) (i:=ib) h.ib
   unfold loA
   refine Yar (jad hy' (Yar (jad hx' (Yar (jcr ak (fr.k.trans k0) (t.sb _ _ hy') (t.sa _ _ hx') ?_)))))
   by_cases e:ρ y' < ρ x'
   ·simp only [e,decide_true,if_true]
    refine Yar (jad hy' ?_)
    have fx:=jdC t.oa hx'
    have M:=h.m.pushB hy' fun x hx=>by have:=fx x hx; omega
    by_cases e2:ib + 1=b.size
    ·rw [if_pos (by simpa using e2)]
     exact Yau (Yau (Yau (q _ _ fr (jbO M e2))))
    ·rw [if_neg (by simpa using e2)]
     have L:Lo ρ a b (out.push y') ia (ib + 1):=⟨M,ha,by omega⟩
     split
     ·exact Yau (jet ak t k0 fr L (m:=x + 2) (by omega) (fun zs d st' f z=>Yau (q _ _ f z)) fun out ia ib g st' f l hm=>⟨f,_,_,_,_,rfl,l,by omega⟩)
     ·exact Yau ⟨rfl,_,_,_,_,_,rfl,L,by omega⟩
   ·simp only [e,decide_false,Ybb,if_false]
    refine Yar (jad hx' ?_)
    have fy:=jdC t.ob hy'
    have M:=h.m.pushA hx' fun x hx=>by have:=fy x hx; omega
    by_cases e2:ia + 1 + 1=a.size
    ·rw [if_pos (by simpa using e2)]
     exact Yau (Yau (Yau (q _ _ fr (jcq t M e2))))
    ·rw [if_neg (by simpa using e2)]
     have L:Lo ρ a b (out.push x') (ia + 1) ib:=⟨M,by omega,hb⟩
     split
     ·exact Yau (jet ak t k0 fr L (m:=x + 2) (by omega) (fun zs d st' f z=>Yau (q _ _ f z)) fun out ia ib g st' f l hm=>⟨f,_,_,_,_,rfl,l,by omega⟩)
     ·exact Yau ⟨rfl,_,_,_,_,_,rfl,L,by omega⟩
  ·rintro c st2 ⟨rfl,out,ia,ib,ac,bc,rfl,h,hc⟩
   exact jet ak t k0 fr h (m:=x + 2) (by omega) (fun zs d st' f z=>Yau (q _ _ f z)) fun out ia ib g st' f l hm=>⟨f,_,_,_,_,rfl,l,by omega⟩
 ·rintro c st1 ⟨fr,out,ia,ib,g,rfl,h,hc⟩
  have:=h.ia
  have:=h.ib
  omega
end
section
noncomputable abbrev H2:=Option (Array Keyed)×Nat×Nat×Array Keyed×Nat×Nat×Nat
noncomputable abbrev H1:=Option (Array Keyed)×Nat×Nat×Array Keyed×Nat×Nat
noncomputable abbrev H0:=Option (Array Keyed)×Nat×Nat×Array Keyed×Nat
noncomputable def hiD (a b out:Array Keyed)(na nb:Nat):Array Keyed:=a.extract 0 na++b.extract 0 nb++out.reverse
noncomputable def hiF (a b out:Array Keyed)(na nb:Nat):Array Keyed:=b.extract 0 nb++a.extract 0 na++out.reverse
noncomputable def hiJ2 (a b:Array Keyed)(g ac bc na nb:Nat)(out:Array Keyed):StateT SortSt Sem (ForInStep H2):=do
 let x <- elem' a (na - 1)
 if (na - 1 == 0)=true then pure (ForInStep.done (some (hiD a b (out.push x) (na - 1) nb),na - 1,nb,out.push x,g,ac,bc))
 else if (decide (ac < 7) && decide (bc < 7))=true then pure (ForInStep.done (none,na - 1,nb,out.push x,g,ac,bc))
 else pure (ForInStep.yield (none,na - 1,nb,out.push x,g,ac,bc))
noncomputable def hiJ1 (a b:Array Keyed)(g ac bc nb na:Nat)(out:Array Keyed):StateT SortSt Sem (ForInStep H2):=do
 let y <- elem' b (nb - 1)
 if (nb - 1 == 1)=true then pure (ForInStep.done (some (hiF a b (out.push y) na (nb - 1)),na,nb - 1,out.push y,g,ac,bc))
 else do
  let x <- elem' a (na - 1)
  let r <- jb6 true x b 0 (nb - 1) (nb - 1 - 1)
  match r with
  | some k=>
   if nb - 1 - k > 0 then
    if (k == 1)=true then pure (ForInStep.done (some (hiF a b (out.push y++(b.extract k (nb - 1)).reverse) na k),na,k,out.push y++(b.extract k (nb - 1)).reverse,g,ac,nb - 1 - k))
    else if (k == 0)=true then pure (ForInStep.done (some (hiD a b (out.push y++(b.extract k (nb - 1)).reverse) na k),na,k,out.push y++(b.extract k (nb - 1)).reverse,g,ac,nb - 1 - k))
    else hiJ2 a b g ac (nb - 1 - k) na k (out.push y++(b.extract k (nb - 1)).reverse)
   else hiJ2 a b g ac (nb - 1 - k) na (nb - 1) (out.push y)
  | _=>pure (ForInStep.done (some (hiD a b (out.push y) na (nb - 1)),na,nb - 1,out.push y,g,ac,bc))
noncomputable def hiJ0 (a b out:Array Keyed)(na nb ac bc g:Nat):StateT SortSt Sem (ForInStep H2):=do
 jam g
 let y <- elem' b (nb - 1)
 let r <- jb6 false y a 0 na (na - 1)
 match r with
 | some k=>
  if na - k > 0 then
   if (k == 0)=true then pure (ForInStep.done (some (hiD a b (out++(a.extract k na).reverse) k nb),k,nb,out++(a.extract k na).reverse,g,na - k,bc))
   else hiJ1 a b g (na - k) bc nb k (out++(a.extract k na).reverse)
  else hiJ1 a b g (na - k) bc nb na out
 | _=>pure (ForInStep.done (some (hiD a b out na nb),na,nb,out,g,ac,bc))
noncomputable def hiB (a b:Array Keyed)(c:H2):StateT SortSt Sem (ForInStep H2):=
 if c.2.2.2.2.1 > 1 then hiJ0 a b c.2.2.2.1 c.2.1 c.2.2.1 c.2.2.2.2.2.1 c.2.2.2.2.2.2 (c.2.2.2.2.1 - 1)
 else hiJ0 a b c.2.2.2.1 c.2.1 c.2.2.1 c.2.2.2.2.2.1 c.2.2.2.2.2.2 c.2.2.2.2.1
noncomputable def hiA (a b:Array Keyed)(g:Nat)(c:H1):StateT SortSt Sem (ForInStep H1):=do
 let y <- elem' b (c.2.2.1 - 1)
 let x <- elem' a (c.2.1 - 1)
 let r <- lt' y x
 match r with
 | some aWins=>
  if aWins=true then do
   let x <- elem' a (c.2.1 - 1)
   if (c.2.1 - 1 == 0)=true then pure (ForInStep.done (some (hiD a b (c.2.2.2.1.push x) (c.2.1 - 1) c.2.2.1),c.2.1 - 1,c.2.2.1,c.2.2.2.1.push x,c.2.2.2.2.1 + 1,0))
   else if c.2.2.2.2.1 + 1 ≥ g then pure (ForInStep.done (none,c.2.1 - 1,c.2.2.1,c.2.2.2.1.push x,c.2.2.2.2.1 + 1,0))
   else pure (ForInStep.yield (none,c.2.1 - 1,c.2.2.1,c.2.2.2.1.push x,c.2.2.2.2.1 + 1,0))
  else do
   let y <- elem' b (c.2.2.1 - 1)
   if (c.2.2.1 - 1 == 1)=true then pure (ForInStep.done (some (hiF a b (c.2.2.2.1.push y) c.2.1 (c.2.2.1 - 1)),c.2.1,c.2.2.1 - 1,c.2.2.2.1.push y,0,c.2.2.2.2.2 + 1))
   else if c.2.2.2.2.2 + 1 ≥ g then pure (ForInStep.done (none,c.2.1,c.2.2.1 - 1,c.2.2.2.1.push y,0,c.2.2.2.2.2 + 1))
   else pure (ForInStep.yield (none,c.2.1,c.2.2.1 - 1,c.2.2.2.1.push y,0,c.2.2.2.2.2 + 1))
 | _=>pure (ForInStep.done (some (hiD a b c.2.2.2.1 c.2.1 c.2.2.1),c.2.1,c.2.2.1,c.2.2.2.1,c.2.2.2.2.1,c.2.2.2.2.2))
noncomputable def hiN (a b:Array Keyed)(g:Nat)(s:H1):StateT SortSt Sem (ForInStep H0):=do
 rule "list.sort.gallop"
 let s <- forIn [0:a.size + b.size] ((none,s.2.1,s.2.2.1,s.2.2.2.1,g + 1,s.2.2.2.2.1,s.2.2.2.2.2):H2) fun _ d=>hiB a b d
 match s.1 with
 | some r=>pure (ForInStep.done (some r,s.2.1,s.2.2.1,s.2.2.2.1,s.2.2.2.2.1))
 | none=>do
  jam (s.2.2.2.2.1 + 1)
  pure (ForInStep.yield (none,s.2.1,s.2.2.1,s.2.2.2.1,s.2.2.2.2.1 + 1))
noncomputable def hiM (a b:Array Keyed)(c:H0):StateT SortSt Sem (ForInStep H0):=do
 let s <- forIn [0:a.size + b.size] ((none,c.2.1,c.2.2.1,c.2.2.2.1,0,0):H1) fun _ d=>hiA a b c.2.2.2.2 d
 match s.1 with
 | some r=>pure (ForInStep.done (some r,s.2.1,s.2.2.1,s.2.2.2.1,c.2.2.2.2))
 | none=>hiN a b c.2.2.2.2 s
theorem jeN (a b:Array Keyed):jfq a b=(do
 rule "list.sort.merge-hi"
 let x <- elem' a (a.size - 1)
 if (a.size - 1 == 0)=true then pure (hiD a b #[x] (a.size - 1) b.size)
 else if (b.size == 1)=true then pure (hiF a b #[x] (a.size - 1) b.size)
 else do
  let st <- get
  let s <- forIn [0:a.size + b.size] ((none,a.size - 1,b.size,#[x],gallopOf st):H0) fun _ d=>hiM a b d
  match s.1 with
  | some r=>pure r
  | none=>liftM (unsupported "internal:list.sort.merge-bound" : Sem (Array Keyed))):=by
 refine bc fun _=>bc fun y=>?_
 dsimp only
 refine ic rfl (ic rfl (bc fun st=>bc2 (fc fun _ c=>?_) fun d=>?_))
 ·unfold hiM
  refine bc2 (fc fun _ d=>?_) fun d=>?_
  ·unfold hiA
   refine bc fun _=>bc fun _=>bc fun r=>?_
   cases r with
   | none=>rfl
   | some r=>cases r <;> rfl
  ·obtain ⟨d0,d1,d2,d3,d4,d5⟩:=d
   cases d0 with
   | some r=>rfl
   | none=>
    unfold hiN
    refine bc fun _=>bc2 (fc fun _ e=>?_) fun e=>?_
    ·unfold hiB
     refine ic ?_ ?_
     ·unfold hiJ0
      rfl
     ·unfold hiJ0
      rfl
    ·obtain ⟨e0,e1,e2,e3,e4,e5,e6⟩:=e
     cases e0 <;> rfl
 ·obtain ⟨d0,d1,d2,d3,d4⟩:=d
  cases d0 <;> rfl
end
structure Mh (ρ:Keyed->Int)(a b xs ys o:List Keyed):Prop where
 sx:Srt ρ (xs++o)
 sy:Srt ρ (ys++o)
 pm:(xs++ys++o).Perm (a++b)
section
variable {ρ:Keyed->Int}{a b o xs ys x1 y1:List Keyed}
theorem Mh.fromA (h:Mh ρ a b (xs++x1) ys o)(le:∀ x∈x1,∀ y∈ys,ρ y<=ρ x):Mh ρ a b xs ys (x1++o):=by
 refine ⟨by rw [<- Yay]; exact h.sx,?_,?_⟩
 ·have s1:=h.sx
  rw [Yay] at s1
  have s1:=List.pairwise_append.mp s1
  have s2:=List.pairwise_append.mp h.sy
  refine List.pairwise_append.mpr ⟨s2.1,s1.2.1,fun y hy x hx=>?_⟩
  rcases List.mem_append.mp hx with hx | hx
  ·exact le x hx y hy
  ·exact s2.2.2 y hy x hx
 ·refine YfF ?_ h.pm
  rw [<- Yay]
  refine YcG o ?_
  rw [Yay,Yay]
  exact YcQ xs Yfo
theorem Mh.fromB (h:Mh ρ a b xs (ys++y1) o)(le:∀ y∈y1,∀ x∈xs,ρ x<=ρ y):Mh ρ a b xs ys (y1++o):=by
 refine ⟨?_,by rw [<- Yay]; exact h.sy,?_⟩
 ·have s1:=h.sy
  rw [Yay] at s1
  have s1:=List.pairwise_append.mp s1
  have s2:=List.pairwise_append.mp h.sx
  refine List.pairwise_append.mpr ⟨s2.1,s1.2.1,fun y hy x hx=>?_⟩
  rcases List.mem_append.mp hx with hx | hx
  ·exact le x hx y hy
  ·exact s2.2.2 y hy x hx
 ·have:=h.pm
  rw [<- Yay] at this
  rw [<- Yay]
  exact this
end
section
variable {α:Type}{a:Array α}{i k:Nat}{x:α}
theorem jgm (h:a[i]?=some x):a.toList.take (i + 1)=a.toList.take i++[x]:=by
 have h':a.toList[i]?=some x:=by rw [Yal]; exact h
 rw [Yc1,h']; rfl
theorem jfi (h:k<=i):a.toList.take i=a.toList.take k++(a.extract k i).toList:=by
 rw [Ycv]
 unfold YdL
 rw [<- YaS k (a.toList.take i),List.take_take,Ydn h,List.drop_take]
theorem jaG {l:List α}{n:Nat}{y:α}(h:y∈l.take n):∃ j,j < n/\l[j]?=some y:=by
 obtain ⟨j,hj⟩:=Yb8 h
 rw [Ycj] at hj
 split at hj
 ·exact ⟨j,‹_›,hj⟩
 ·cases hj
theorem jc5 {n:Nat}{y:α}(h:y∈(a.extract k n).toList):∃ j,k<=j/\j < n/\a[j]?=some y:=by
 rw [Ycv] at h
 unfold YdL at h
 obtain ⟨j,hj,e⟩:=jb1 h
 rw [Yal] at e
 exact ⟨k + j,by omega,by omega,e⟩
end
structure Hi (ρ:Keyed->Int)(a b out:Array Keyed)(na nb:Nat):Prop where
 m:Mh ρ a.toList b.toList (a.toList.take na) (b.toList.take nb) out.toList.reverse
 a0:0 < na
 b1:1 < nb
 la:na<=a.size
 lb:nb<=b.size
section
variable {S:Keyed->Prop}{ρ:Keyed->Int}{a b out:Array Keyed}{na nb k:Nat}{x y:Keyed}
theorem jdF (m:Mh ρ a.toList b.toList (a.toList.take na) (b.toList.take nb) out.toList.reverse)(h:na=0):Fin2 ρ a b (hiD a b out na nb):=by
 unfold Fin2 hiD
 rw [YaZ,YaZ,jbm,jbm,Ycu]
 refine ⟨?_,m.pm⟩
 rw [h]
 exact m.sy
theorem jkx (m:Mh ρ a.toList b.toList (a.toList.take na) (b.toList.take nb) out.toList.reverse)(h:nb=0):Fin2 ρ a b (hiD a b out na nb):=by
 unfold Fin2 hiD
 rw [YaZ,YaZ,jbm,jbm,Ycu]
 refine ⟨?_,m.pm⟩
 have:=m.sx
 rw [h,List.take_zero,Ya7]
 exact this
theorem jdE (t:Two2 S ρ a b)(m:Mh ρ a.toList b.toList (a.toList.take na) (b.toList.take nb) out.toList.reverse)(h:nb=1):Fin2 ρ a b (hiF a b out na nb):=by
 unfold Fin2 hiF
 rw [YaZ,YaZ,jbm,jbm,Ycu]
 have h':Mh ρ a.toList b.toList ([]++a.toList.take na) (b.toList.take nb) out.toList.reverse:=m
 have h2:=h'.fromA fun x hx y hy=>by
  obtain ⟨j,hj,e⟩:=jaG hy
  have:j=0:=by omega
  subst this
  rw [Yal] at e
  exact t.first y e x (Yb7 hx)
 refine ⟨by rw [Yay]; exact h2.sy,by rw [Yay]; exact h2.pm⟩
theorem Mh.pushA (m:Mh ρ a.toList b.toList (a.toList.take (na + 1)) (b.toList.take nb) out.toList.reverse)(h:a[na]?=some x)(le:∀ y∈b.toList.take nb,ρ y<=ρ x):Mh ρ a.toList b.toList (a.toList.take na) (b.toList.take nb) (out.push x).toList.reverse:=by
 rw [jgm h] at m
 rw [YcS,Yde]
 exact Mh.fromA (x1:=[x]) m fun z hz y hy=>by rw [List.mem_singleton.mp hz]; exact le y hy
theorem Mh.pushB (m:Mh ρ a.toList b.toList (a.toList.take na) (b.toList.take (nb + 1)) out.toList.reverse)(h:b[nb]?=some y)(le:∀ x∈a.toList.take na,ρ x<=ρ y):Mh ρ a.toList b.toList (a.toList.take na) (b.toList.take nb) (out.push y).toList.reverse:=by
 rw [jgm h] at m
 rw [YcS,Yde]
 exact Mh.fromB (y1:=[y]) m fun z hz x hx=>by rw [List.mem_singleton.mp hz]; exact le x hx
theorem Mh.manyA (m:Mh ρ a.toList b.toList (a.toList.take na) (b.toList.take nb) out.toList.reverse)(hk:k<=na)(le:∀ j x,k<=j->j < na->a[j]?=some x->∀ y∈b.toList.take nb,ρ y<=ρ x):Mh ρ a.toList b.toList (a.toList.take k) (b.toList.take nb) (out++(a.extract k na).reverse).toList.reverse:=by
 rw [jfi hk] at m
 rw [YaZ,Yde,Ycu,YfE]
 exact m.fromA fun z hz y hy=>by
  obtain ⟨j,h1,h2,e⟩:=jc5 hz
  exact le j z h1 h2 e y hy
theorem Mh.manyB (m:Mh ρ a.toList b.toList (a.toList.take na) (b.toList.take nb) out.toList.reverse)(hk:k<=nb)(le:∀ j y,k<=j->j < nb->b[j]?=some y->∀ x∈a.toList.take na,ρ x<=ρ y):Mh ρ a.toList b.toList (a.toList.take na) (b.toList.take k) (out++(b.extract k nb).reverse).toList.reverse:=by
 rw [jfi hk] at m
 rw [YaZ,Yde,Ycu,YfE]
 exact m.fromB fun z hz y hy=>by
  obtain ⟨j,h1,h2,e⟩:=jc5 hz
  exact le j z h1 h2 e y hy
theorem jht {a:Array Keyed}{i:Nat}{x:Keyed}(o:Srt ρ a.toList)(h:a[i]?=some x):∀ z∈a.toList.take (i + 1),ρ z<=ρ x:=fun z hz=>by
 obtain ⟨j,hj,e⟩:=jaG hz
 exact jbc o (show j<=i by omega) e (by rw [Yal]; exact h)
end
section
variable {prog:Program}{w:World}{A:Around}{E:Value->Shared->Prop}{s:Shared}{κ:YcA}{S:Keyed->Prop}{ρ:Keyed->Int}{a b out:Array Keyed}{na nb g ac bc m:Nat}{st0 st:SortSt}{Q:ForInStep H2->SortSt->Prop}
structure Oh2 (ρ:Keyed->Int)(a b:Array Keyed)(st0:SortSt)(m:Nat)(Q:ForInStep H2->SortSt->Prop):Prop where
 fin:∀ zs d st',Fr st0 st'->Fin2 ρ a b zs->Q (.done (some zs,d)) st'
 go:∀ na nb out g ac bc st',Fr st0 st'->Hi ρ a b out na nb->na + nb<=m->Q (.done (none,na,nb,out,g,ac,bc)) st'/\Q (.yield (none,na,nb,out,g,ac,bc)) st'
theorem jgd (o:Oh2 ρ a b st0 m Q)(fr:Fr st0 st)(h:Hi ρ a b out (na + 1) nb)(hm:na + 1 + nb<=m)(le:∀ x,a[na]?=some x->∀ y∈b.toList.take nb,ρ y<=ρ x):wpS (model prog w) A E s (hiJ2 a b g ac bc (na + 1) nb out) Q st:=by
 obtain ⟨x,hx⟩:=jaa (a:=a) (i:=na) (by have:=h.la; omega)
 have M:=h.m.pushA hx (le x hx)
 unfold hiJ2
 rw [Yb2]
 refine Yar (jad hx ?_)
 by_cases e:na=0
 ·rw [if_pos (by simpa using e)]
  exact Yau (o.fin _ _ _ fr (jdF M e))
 ·rw [if_neg (by simpa using e)]
  have L:Hi ρ a b (out.push x) na nb:=⟨M,by omega,h.b1,by have:=h.la; omega,h.lb⟩
  split
  ·exact Yau (o.go _ _ _ _ _ _ _ fr L (by omega)).1
  ·exact Yau (o.go _ _ _ _ _ _ _ fr L (by omega)).2
theorem jge (ak:AskK prog w A s κ S ρ)(t:Two2 S ρ a b)(o:Oh2 ρ a b st0 m Q)(k0:kindOf st0=κ)(fr:Fr st0 st)(h:Hi ρ a b out (na + 1) (nb + 1))(hm:na + 1 + (nb + 1)<=m)(le:∀ y,b[nb]?=some y->∀ x∈a.toList.take (na + 1),ρ x<=ρ y):wpS (model prog w) A E s (hiJ1 a b g ac bc (nb + 1) (na + 1) out) Q st:=by
 have hla:=h.la
 have hlb:=h.lb
 have hb1:=h.b1
 obtain ⟨x,hx⟩:=jaa (a:=a) (i:=na) (by omega)
 obtain ⟨y,hy⟩:=jaa (a:=b) (i:=nb) (by omega)
 have M:=h.m.pushB hy (le y hy)
 unfold hiJ1
 rw [Yb2,Yb2]
 refine Yar (jad hy ?_)
 by_cases e:nb=1
 ·rw [if_pos (by simpa using e)]
  exact Yau (o.fin _ _ _ fr (jdE t M e))
 ·rw [if_neg (by simpa using e)]
  have L:Hi ρ a b (out.push y) (na + 1) nb:=⟨M,by omega,by omega,hla,by omega⟩
  refine Yar (jad hx ?_)
  refine Yar (jaQ ak (left:=true) (fr.k.trans k0) (t.sa _ _ hx) (by omega) (fun i=>match b[0 + i]? with | some z=>decide (ρ z < ρ x) | none=>false) (fun i hi=>?_) (fun i j hij hj e2=>?_) fun k hk h1 h2=>?_)
  ·obtain ⟨z,hz⟩:=jaa (a:=b) (i:=0 + i) (by omega)
   exact ⟨z,hz,t.sb _ _ hz,by rw [hz]; rfl⟩
  ·obtain ⟨z,hz⟩:=jaa (a:=b) (i:=0 + i) (by omega)
   obtain ⟨z',hz'⟩:=jaa (a:=b) (i:=0 + j) (by omega)
   rw [hz'] at e2
   have:=jbc t.ob (i:=0 + i) (j:=0 + j) (by omega) (by rw [Yal]; exact hz) (by rw [Yal]; exact hz')
   have e2:=of_decide_eq_true e2
   rw [hz]
   exact decide_eq_true (by omega)
  have tx:=jht t.oa hx
  have le2:∀ x',a[na]?=some x'->∀ y∈b.toList.take k,ρ y<=ρ x':=fun x' hx' y hy=>by
   rw [hx] at hx'; cases hx'
   obtain ⟨j,hj,e⟩:=jaG hy
   rw [Yal] at e
   have h3:=h1 j hj
   rw [Ycb,e] at h3
   have:=of_decide_eq_true h3
   omega
  dsimp only
  by_cases ek:nb - k > 0
  ·rw [if_pos ek]
   have M2:Mh ρ a.toList b.toList (a.toList.take (na + 1)) (b.toList.take k) (out.push y++(b.extract k nb).reverse).toList.reverse:=M.manyB hk fun j z h3 h4 hz x' hx'=>by
    have h5:=h2 j h3 h4
    rw [Ycb,hz] at h5
    have:=of_decide_eq_false h5
    have:=tx x' hx'
    omega
   by_cases e3:k=1
   ·rw [if_pos (by simpa using e3)]
    exact Yau (o.fin _ _ _ fr (jdE t M2 e3))
   ·rw [if_neg (by simpa using e3)]
    by_cases e4:k=0
    ·rw [if_pos (by simpa using e4)]
     exact Yau (o.fin _ _ _ fr (jkx M2 e4))
    ·rw [if_neg (by simpa using e4)]
     exact jgd o fr ⟨M2,by omega,by omega,hla,by omega⟩ (by omega) le2
  ·rw [if_neg ek]
   have k00:k=nb:=by omega
   subst k00
   exact jgd o fr L (by omega) le2
theorem jgf (ak:AskK prog w A s κ S ρ)(t:Two2 S ρ a b)(o:Oh2 ρ a b st0 m Q)(k0:kindOf st0=κ)(fr:Fr st0 st)(h:Hi ρ a b out na nb)(hm:na + nb<=m):wpS (model prog w) A E s (hiJ0 a b out na nb ac bc g) Q st:=by
 have ha0:=h.a0
 have hb1:=h.b1
 have hla:=h.la
 have hlb:=h.lb
 obtain ⟨na,rfl⟩:∃ n,na=n + 1:=⟨na - 1,by omega⟩
 obtain ⟨nb,rfl⟩:∃ n,nb=n + 1:=⟨nb - 1,by omega⟩
 obtain ⟨y,hy⟩:=jaa (a:=b) (i:=nb) (by omega)
 unfold hiJ0
 refine Yar (jcj ?_)
 have fr:=fr.gal g
 rw [Yb2,Yb2]
 refine Yar (jad hy ?_)
 refine Yar (jaQ ak (left:=false) (fr.k.trans k0) (t.sb _ _ hy) (by omega) (fun i=>match a[0 + i]? with | some z=>!decide (ρ y < ρ z) | none=>false) (fun i hi=>?_) (fun i j hij hj e2=>?_) fun k hk h1 h2=>?_)
 ·obtain ⟨z,hz⟩:=jaa (a:=a) (i:=0 + i) (by omega)
  exact ⟨z,hz,t.sa _ _ hz,by rw [hz]; rfl⟩
 ·obtain ⟨z,hz⟩:=jaa (a:=a) (i:=0 + i) (by omega)
  obtain ⟨z',hz'⟩:=jaa (a:=a) (i:=0 + j) (by omega)
  rw [hz'] at e2
  have:=jbc t.oa (i:=0 + i) (j:=0 + j) (by omega) (by rw [Yal]; exact hz) (by rw [Yal]; exact hz')
  have e2:¬ (ρ y < ρ z'):=by simpa using e2
  rw [hz]
  have:¬ (ρ y < ρ z):=by omega
  simpa using this
 have ty:=jht t.ob hy
 have le2:∀ y',b[nb]?=some y'->∀ x∈a.toList.take k,ρ x<=ρ y':=fun y' hy' x hx=>by
  rw [hy] at hy'; cases hy'
  obtain ⟨j,hj,e⟩:=jaG hx
  rw [Yal] at e
  have h3:=h1 j hj
  rw [Ycb,e] at h3
  have h3:¬ (ρ y < ρ x):=by simpa using h3
  omega
 dsimp only
 by_cases ek:na + 1 - k > 0
 ·rw [if_pos ek]
  have M2:Mh ρ a.toList b.toList (a.toList.take k) (b.toList.take (nb + 1)) (out++(a.extract k (na + 1)).reverse).toList.reverse:=h.m.manyA hk fun j z h3 h4 hz y' hy'=>by
   have h5:=h2 j h3 h4
   rw [Ycb,hz] at h5
   have h5:ρ y < ρ z:=by simpa using h5
   have:=ty y' hy'
   omega
  by_cases e3:k=0
  ·rw [if_pos (by simpa using e3)]
   exact Yau (o.fin _ _ _ fr (jdF M2 e3))
  ·rw [if_neg (by simpa using e3)]
   obtain ⟨k,rfl⟩:∃ n,k=n + 1:=⟨k - 1,by omega⟩
   exact jge ak t o k0 fr ⟨M2,by omega,hb1,by omega,hlb⟩ (by omega) le2
 ·rw [if_neg ek]
  have k00:k=na + 1:=by omega
  subst k00
  exact jge ak t o k0 fr h hm le2
theorem jeu (ak:AskK prog w A s κ S ρ)(t:Two2 S ρ a b)(k0:kindOf st0=κ)(fr:Fr st0 st)(h:Hi ρ a b out na nb)(hm:na + nb<=m){g ac bc:Nat}{Q:ForInStep H0->SortSt->Prop}(fin:∀ zs d st',Fr st0 st'->Fin2 ρ a b zs->Q (.done (some zs,d)) st')
  (go:∀ na nb out g st',Fr st0 st'->Hi ρ a b out na nb->na + nb<=m->Q (.yield (none,na,nb,out,g)) st'):wpS (model prog w) A E s (hiN a b g (none,na,nb,out,ac,bc)) Q st:=by
 unfold hiN
 refine Yar (Yeq (YdE ⟨rfl,?_⟩))
 have end_:∀ na nb out g st',Fr st0 st'->Hi ρ a b out na nb->na + nb<=m->wpS (model prog w) A E s (do
  jam (g + 1)
  pure (ForInStep.yield (none,na,nb,out,g + 1)):StateT SortSt Sem (ForInStep H0)) Q st':=fun na nb out g st' fr h hm=>Yar (jcj (Yau (go _ _ _ _ _ (fr.gal _) h hm)))
 refine Yar (Ybx (I:=fun z c st'=>Fr st0 st'/\∃ na nb out g ac bc,c=(none,na,nb,out,g,ac,bc)/\Hi ρ a b out na nb/\na + nb<=m) ?_ ?_ ⟨fr,_,_,_,_,_,_,rfl,h,hm⟩)
 ·rintro z c st2 _ hz ⟨fr,na,nb,out,g,ac,bc,rfl,h,hm⟩
  unfold hiB
  split
  ·exact jgf ak t ⟨fun zs d st' f z=>Yau (fin _ _ _ f z),fun na nb out g ac bc st' f l hm=>⟨end_ na nb out g st' f l hm,f,_,_,_,_,_,_,rfl,l,hm⟩⟩ k0 fr h hm
  ·exact jgf ak t ⟨fun zs d st' f z=>Yau (fin _ _ _ f z),fun na nb out g ac bc st' f l hm=>⟨end_ na nb out g st' f l hm,f,_,_,_,_,_,_,rfl,l,hm⟩⟩ k0 fr h hm
 ·rintro c st2 ⟨fr,na,nb,out,g,ac,bc,rfl,h,hm⟩
  exact end_ na nb out g _ fr h hm
theorem jer (ak:AskK prog w A s κ S ρ)(t:Two2 S ρ a b)(k0:kindOf st=κ){Q:Array Keyed->SortSt->Prop}(q:∀ zs st',Fr st st'->Fin2 ρ a b zs->Q zs st'):wpS (model prog w) A E s (jfq a b) Q st:=by
 have ta:=t.na
 have tb:=t.nb
 obtain ⟨x,hx⟩:=jaa (a:=a) (i:=a.size - 1) (by omega)
 rw [jeN]
 refine Yar (Yeq (YdE ⟨rfl,?_⟩))
 refine Yar (jad hx ?_)
 have e0:a.toList.take (a.size - 1 + 1)=a.toList:=Ycf (by rw [YaQ]; omega)
 have e1:b.toList.take b.size=b.toList:=Ycf (by rw [YaQ]; exact Yak _)
 have M0:Mh ρ a.toList b.toList (a.toList.take (a.size - 1 + 1)) (b.toList.take b.size) (#[]:Array Keyed).toList.reverse:=by
  rw [e0,e1]
  exact ⟨by rw [show (#[]:Array Keyed).toList.reverse=[] from rfl,Ya7]; exact t.oa,by rw [show (#[]:Array Keyed).toList.reverse=[] from rfl,Ya7]; exact t.ob,by rw [show (#[]:Array Keyed).toList.reverse=[] from rfl,Ya7]⟩
 have M:Mh ρ a.toList b.toList (a.toList.take (a.size - 1)) (b.toList.take b.size) (#[x]:Array Keyed).toList.reverse:=M0.pushA hx fun y hy=>t.last x hx y (Yb7 hy)
 by_cases e:a.size - 1=0
 ·rw [if_pos (by simpa using e)]
  exact Yau (q _ _ .refl (jdF M e))
 rw [if_neg (by simpa using e)]
 by_cases e':b.size=1
 ·rw [if_pos (by simpa using e')]
  exact Yau (q _ _ .refl (jdE t M e'))
 rw [if_neg (by simpa using e')]
 refine Yar (wpS_get ?_)
 refine Yar (Ybx (I:=fun x c st'=>Fr st st'/\∃ na nb out g,c=(none,na,nb,out,g)/\Hi ρ a b out na nb/\x + (na + nb) < a.size + b.size) ?_ ?_ ⟨.refl,_,_,_,_,rfl,⟨M,by omega,by omega,by omega,Yak _⟩,by omega⟩)
 ·rintro x c st1 _ hx ⟨fr,na,nb,out,g,rfl,h,hc⟩
  unfold hiM
  refine Yar (Ybx (I:=fun z c st'=>st'=st1/\∃ na nb out ac bc,c=(none,na,nb,out,ac,bc)/\Hi ρ a b out na nb/\x + z + (na + nb) < a.size + b.size) ?_ ?_ ⟨rfl,_,_,_,_,_,rfl,h,by omega⟩)
  ·rintro z c st2 _ hz ⟨rfl,na,nb,out,ac,bc,rfl,h,hc⟩
   have ha0:=h.a0
   have hb1:=h.b1
   have hla:=h.la
   have hlb:=h.lb
   obtain ⟨na,rfl⟩:∃ n,na=n + 1:=⟨na - 1,by omega⟩
   obtain ⟨nb,rfl⟩:∃ n,nb=n + 1:=⟨nb - 1,by omega⟩
   obtain ⟨x',hx'⟩:=jaa (a:=a) (i:=na) (by omega)
   obtain ⟨y',hy'⟩:=jaa (a:=b) (i:=nb) (by omega)
   unfold hiA
   dsimp only
   rw [Yb2,Yb2]
   refine Yar (jad hy' (Yar (jad hx' (Yar (jcr ak (fr.k.trans k0) (t.sb _ _ hy') (t.sa _ _ hx') ?_)))))
   by_cases e:ρ y' < ρ x'
   ·simp only [e,decide_true,if_true]
    refine Yar (jad hx' ?_)
    have ty:=jht t.ob hy'
    have M:=h.m.pushA hx' fun y hy=>by have:=ty y hy; omega
    by_cases e2:na=0
    ·rw [if_pos (by simpa using e2)]
     exact Yau (Yau (Yau (q _ _ fr (jdF M e2))))
    ·rw [if_neg (by simpa using e2)]
     have L:Hi ρ a b (out.push x') na (nb + 1):=⟨M,by omega,hb1,by omega,hlb⟩
     split
     ·exact Yau (jeu ak t k0 fr L (m:=a.size + b.size - (x + 2)) (by omega) (fun zs d st' f z=>Yau (q _ _ f z)) fun na nb out g st' f l hm=>⟨f,_,_,_,_,rfl,l,by have:=l.a0; omega⟩)
     ·exact Yau ⟨rfl,_,_,_,_,_,rfl,L,by omega⟩
   ·simp only [e,decide_false,Ybb,if_false]
    refine Yar (jad hy' ?_)
    have tx:=jht t.oa hx'
    have M:=h.m.pushB hy' fun x hx=>by have:=tx x hx; omega
    by_cases e2:nb=1
    ·rw [if_pos (by simpa using e2)]
     exact Yau (Yau (Yau (q _ _ fr (jdE t M e2))))
    ·rw [if_neg (by simpa using e2)]
     have L:Hi ρ a b (out.push y') (na + 1) nb:=⟨M,by omega,by omega,hla,by omega⟩
     split
     ·exact Yau (jeu ak t k0 fr L (m:=a.size + b.size - (x + 2)) (by omega) (fun zs d st' f z=>Yau (q _ _ f z)) fun na nb out g st' f l hm=>⟨f,_,_,_,_,rfl,l,by have:=l.a0; omega⟩)
     ·exact Yau ⟨rfl,_,_,_,_,_,rfl,L,by omega⟩
  ·rintro c st2 ⟨rfl,na,nb,out,ac,bc,rfl,h,hc⟩
   have:=h.a0
   exact jeu ak t k0 fr h (m:=a.size + b.size - (x + 2)) (by omega) (fun zs d st' f z=>Yau (q _ _ f z)) fun na nb out g st' f l hm=>⟨f,_,_,_,_,rfl,l,by have:=l.a0; omega⟩
 ·rintro c st1 ⟨fr,na,nb,out,g,rfl,h,hc⟩
  have:=h.a0
  omega
end
section
variable {α:Type}
theorem jiy {sa:Nat}:∀ (l:List α) (n:Nat) (arr:Array α) (pre mid post:List α),arr.toList=pre++mid++post->mid.length=l.length->pre.length=sa + n->((l.zipIdx n).foldl (fun a p=>a.setIfInBounds (sa + p.2) p.1) arr).toList=pre++l++post
 | [],n,arr,pre,mid,post,h,hl,hp=>by
  have:mid=[]:=List.length_eq_zero_iff.mp hl
  subst this
  exact h
 | x::l,n,arr,pre,mid,post,h,hl,hp=>by
  cases mid with
  | nil=>cases hl
  | cons m mid=>
   rw [List.zipIdx_cons,YeD]
   have e:(arr.setIfInBounds (sa + n) x).toList=(pre++[x])++mid++post:=by
    rw [YeG,h,<- hp]
    simp
   have:=jiy (sa:=sa) l (n + 1) (arr.setIfInBounds (sa + n) x) (pre++[x]) mid post e (by simpa using hl) (by rw [Ya2,hp]; rfl)
   dsimp only
   rw [this]
   simp
theorem ji2 {arr:Array α}{pre xs post:List α}(h:arr.toList=pre++xs++post){i:Nat}(hi:i < xs.length):arr[pre.length + i]?=xs[i]?:=by
 rw [<- Yal,h,Yay,Ybt (by omega),YcP,Ybw hi]
theorem jiT {arr:Array α}{pre xs post:List α}(h:arr.toList=pre++xs++post):(arr.extract pre.length (pre.length + xs.length)).toList=xs:=by
 rw [jeV,h,Yay,List.drop_left,List.take_left]
end
section
variable {prog:Program}{w:World}{A:Around}{E:Value->Shared->Prop}{s:Shared}{κ:YcA}{S:Keyed->Prop}{ρ:Keyed->Int}
theorem ji5 {st st':SortSt}{Q:PUnit->SortSt->Prop}(h:Q ⟨⟩ st'):wpS (model prog w) A E s (set st':StateT SortSt Sem PUnit) Q st:=by
 unfold wpS; rw [StateT.run_set]; exact Yam ⟨rfl,h⟩
theorem jbX {l m:List Keyed}:Srt ρ (l++m)↔Srt ρ l/\Srt ρ m/\∀ x∈l,∀ y∈m,ρ x<=ρ y:=List.pairwise_append
theorem jhy {l:List Keyed}(k:Nat)(h:Srt ρ l):Srt ρ (l.take k):=h.sublist (Yf7 k l)
theorem jhz {l:List Keyed}(k:Nat)(h:Srt ρ l):Srt ρ (l.drop k):=h.sublist (List.drop_sublist k l)
structure Base2 (κ:YcA)(S:Keyed->Prop)(st:SortSt):Prop where
 k:kindOf st=κ
 f:Yc0 st=none
 S:∀ x∈(arrOf st).toList,S x
theorem jes (ak : AskK prog w A s κ S ρ){st : SortSt}{Q : Bool -> SortSt -> Prop}(hb : Base2 κ S st){pre xs ys post : List Keyed}(ha : (arrOf st).toList = pre ++ (xs ++ ys) ++ post)(sx : Srt ρ xs)(sy : Srt ρ ys)(nx : xs ≠ [])(ny : ys ≠ []){i pa pb : Nat}
    (h1 : (YaL st)[i]? = some (pre.length, xs.length, pa)) (h2 : (YaL st)[i + 1]? = some (pre.length + xs.length, ys.length, pb))
    (q : ∀ (zs : List Keyed) (st' : SortSt), kindOf st' = κ -> Yc0 st' = none -> zs.Perm (xs ++ ys) -> Srt ρ zs -> (arrOf st').toList = pre ++ zs ++ post -> YaL st' = ((YaL st).setIfInBounds i (pre.length, xs.length + ys.length, pa)).eraseIdxIfInBounds (i + 1) -> Q true st') : wpS (model prog w) A E s (mergeAt' i) Q st := by
  have xl := List.length_pos_iff.mpr nx
  have yl := List.length_pos_iff.mpr ny
  have hx : (arrOf st).toList = pre ++ xs ++ (ys ++ post) := by rw [ha]; simp
  have hy : (arrOf st).toList = (pre ++ xs) ++ ys ++ post := by rw [ha]; simp
  have ax : ∀ {i : Nat}, i < xs.length -> (arrOf st)[pre.length + i]? = xs[i]? := fun hi => ji2 hx hi
  have ay : ∀ {i : Nat}, i < ys.length -> (arrOf st)[pre.length + xs.length + i]? = ys[i]? := fun {i} hi => by
    have := ji2 hy hi
    rw [Ya2] at this
    exact this
  have SS := hb.S
  have Sx : ∀ x ∈ xs, S x := fun x h => SS x (by rw [ha]; simp [h])
  have Sy : ∀ x ∈ ys, S x := fun x h => SS x (by rw [ha]; simp [h])
  refine Yar (wpS_get ?_)
  rw [h1, h2]
  refine Yar (ji5 ?_)
  obtain ⟨st1, e1⟩ : ∃ st1, st1 = YdG st (((YaL st).setIfInBounds i (pre.length, xs.length + ys.length, pa)).eraseIdxIfInBounds (i + 1)) := ⟨_, rfl⟩
  have k1 : kindOf st1 = κ := by rw [e1]; exact hb.k
  have q1 : ∀ zs, zs.Perm (xs ++ ys) -> Srt ρ zs -> (arrOf st).toList = pre ++ zs ++ post -> Q true st1 := fun zs p o e => q zs st1 k1 (by rw [e1]; exact hb.f) p o (by rw [e1]; exact e) (by rw [e1])
  refine (?_ : wpS _ _ _ _ _ _ (YdG st (((YaL st).setIfInBounds i (pre.length, xs.length + ys.length, pa)).eraseIdxIfInBounds (i + 1))))
  rw [<- e1]
  obtain ⟨y0, hy0⟩ : ∃ y, ys[0]? = some y := ⟨_, Yah yl⟩
  refine Yar (jad (x := y0) (by have := ay yl; rw [Nat.add_zero] at this; rw [<- hy0]; exact this) ?_)
  refine Yar (jaQ ak (left := false) k1 (Sy y0 (YaD hy0)) xl (fun i => match xs[i]? with | some z => !decide (ρ y0 < ρ z) | none => false) (fun i hi => ?_) (fun i j hij hj e2 => ?_) fun k hk g1 g2 => ?_)
  · have e := Yah hi
    exact ⟨xs[i], by rw [<- e]; exact ax hi, Sx _ (Ycd hi), by rw [e]; rfl⟩
  · have ei := Yah (show i < xs.length by omega)
    have ej := Yah hj
    have := jbc sx hij ei ej
    rw [ej] at e2
    have e2 : ¬ (ρ y0 < ρ xs[j]) := by simpa using e2
    rw [ei]
    have : ¬ (ρ y0 < ρ xs[i]) := by omega
    simpa using this
  have c1 : ∀ x ∈ xs.take k, ρ x <= ρ y0 := fun x hx => by
    obtain ⟨j, hj, e⟩ := jaG hx
    have h3 := g1 j hj
    rw [e] at h3
    have h3 : ¬ (ρ y0 < ρ x) := by simpa using h3
    omega
  have c2 : ∀ x ∈ xs.drop k, ρ y0 <= ρ x := fun x hx => by
    obtain ⟨j, hj, e⟩ := jaH hx
    have h3 := g2 j hj (List.getElem?_eq_some_iff.mp e).1
    rw [e] at h3
    have h3 : ρ y0 < ρ x := by simpa using h3
    omega
  have c3 : ∀ y ∈ ys, ρ y0 <= ρ y := fun y hy => by
    obtain ⟨j, hj⟩ := Yb8 hy
    exact jbc sy (YbA _) hy0 hj
  dsimp only
  by_cases e3 : xs.length - k = 0
  · rw [if_pos (by simpa using e3)]
    refine Yau (q1 (xs ++ ys) (Yeh _) (jbX.mpr ⟨sx, sy, fun x hx y hy => ?_⟩) ha)
    have : k = xs.length := by omega
    rw [this, YcB] at c1
    exact Yc9 (c1 x hx) (c3 y hy)
  rw [if_neg (by simpa using e3)]
  obtain ⟨xe, hxe⟩ : ∃ x, xs[xs.length - 1]? = some x := ⟨_, Yah (by omega)⟩
  have c4 : ∀ x ∈ xs, ρ x <= ρ xe := fun x hx => by
    obtain ⟨j, hj⟩ := Yb8 hx
    exact jbc sx (by have := (List.getElem?_eq_some_iff.mp hj).1; omega) hj hxe
  have exe : (arrOf st)[pre.length + k + (xs.length - k) - 1]? = some xe := by
    rw [show pre.length + k + (xs.length - k) - 1 = pre.length + (xs.length - 1) by omega, ax (by omega)]
    exact hxe
  refine Yar (jad exe ?_)
  refine Yar (jaQ ak (left := true) k1 (Sx xe (YaD hxe)) (by omega) (fun i => match ys[i]? with | some z => decide (ρ z < ρ xe) | none => false) (fun i hi => ?_) (fun i j hij hj e2 => ?_) fun l hl g3 g4 => ?_)
  · have e := Yah hi
    exact ⟨ys[i], by rw [<- e]; exact ay hi, Sy _ (Ycd hi), by rw [e]; rfl⟩
  · have ei := Yah (show i < ys.length by omega)
    have ej := Yah hj
    have := jbc sy hij ei ej
    rw [ej] at e2
    have e2 := of_decide_eq_true e2
    rw [ei]
    exact decide_eq_true (by omega)
  have d1 : ∀ y ∈ ys.take l, ρ y <= ρ xe := fun y hy => by
    obtain ⟨j, hj, e⟩ := jaG hy
    have h3 := g3 j hj
    rw [e] at h3
    have := of_decide_eq_true h3
    omega
  have d2 : ∀ y ∈ ys.drop l, ρ xe <= ρ y := fun y hy => by
    obtain ⟨j, hj, e⟩ := jaH hy
    have h3 := g4 j hj (List.getElem?_eq_some_iff.mp e).1
    rw [e] at h3
    have := of_decide_eq_false h3
    omega
  dsimp only
  by_cases e4 : l = 0
  · rw [if_pos (by simpa using e4)]
    refine Yau (q1 (xs ++ ys) (Yeh _) (jbX.mpr ⟨sx, sy, fun x hx y hy => ?_⟩) ha)
    rw [e4, YdS] at d2
    exact Yc9 (c4 x hx) (d2 y hy)
  rw [if_neg (by simpa using e4)]
  obtain ⟨x, ex⟩ : ∃ x, x = (arrOf st).extract (pre.length + k) (pre.length + xs.length) := ⟨_, rfl⟩
  obtain ⟨y, ey⟩ : ∃ y, y = (arrOf st).extract (pre.length + xs.length) (pre.length + xs.length + l) := ⟨_, rfl⟩
  rw [<- ex, <- ey]
  have tx : x.toList = xs.drop k := by
    rw [ex]
    have h3 : (arrOf st).toList = (pre ++ xs.take k) ++ xs.drop k ++ (ys ++ post) := by
      rw [hx]
      conv => lhs; rw [<- YaS k xs]
      simp only [Yay]
    have := jiT h3
    rw [Ya2, Ybe, Ybo, Ydn hk, show pre.length + k + (xs.length - k) = pre.length + xs.length by omega] at this
    exact this
  have ty : y.toList = ys.take l := by
    rw [ey]
    have h3 : (arrOf st).toList = (pre ++ xs) ++ ys.take l ++ (ys.drop l ++ post) := by
      rw [hy]
      conv => lhs; rw [<- YaS l ys]
      simp only [Yay]
    have := jiT h3
    rw [Ya2, Ybe, Ydn hl] at this
    exact this
  have sizex : x.size = xs.length - k := by rw [<- YaQ, tx, Ybo]
  have sizey : y.size = l := by rw [<- YaQ, ty, Ybe]; omega
  have t : Two2 S ρ x y := by
    refine ⟨fun i z hz => ?_, fun i z hz => ?_, by rw [tx]; exact jhz k sx, by rw [ty]; exact jhy l sy, fun z hz u hu => ?_, fun z hz u hu => ?_, by omega, by omega⟩
    · rw [<- Yal, tx] at hz
      exact Sx z (Ycw (YaD hz))
    · rw [<- Yal, ty] at hz
      exact Sy z (Yb7 (YaD hz))
    · rw [<- Yal, tx, YcL, sizex, show k + (xs.length - k - 1) = xs.length - 1 by omega, hxe] at hz
      cases hz
      rw [ty] at hu
      exact d1 u hu
    · rw [<- Yal, ty, Ycj, if_pos (by omega), hy0] at hz
      cases hz
      rw [tx] at hu
      exact c2 u hu
  have done : ∀ zs (st' : SortSt), Fr st1 st' -> Fin2 ρ x y zs -> wpS (model prog w) A E s (do
      modify fun s => setArr s (zs.toList.zipIdx.foldl (fun a p => a.setIfInBounds (pre.length + k + p.2) p.1) (arrOf s))
      let s2 <- get
      pure (Yc0 s2).isNone : StateT SortSt Sem Bool) Q st' := fun zs st' fr ⟨o, p⟩ => by
    refine Yar (Yd5 (Yar (wpS_get ?_)))
    have ff : Yc0 st' = none := by rw [fr.f, e1]; exact hb.f
    rw [tx, ty] at p
    have ea : arrOf st' = arrOf st := by rw [fr.a, e1]
    have w3 : (arrOf st').toList = (pre ++ xs.take k) ++ (xs.drop k ++ ys.take l) ++ (ys.drop l ++ post) := by
      rw [ea, ha]
      conv => lhs; rw [<- YaS k xs, <- YaS l ys]
      simp only [Yay]
    have w4 := jiy (sa := pre.length + k) zs.toList 0 (arrOf st') _ _ _ w3 p.length_eq.symm (by rw [Ya2, Ybe, Ydn hk]; rfl)
    refine Yau ?_
    rw [show (Yc0 (setArr st' (zs.toList.zipIdx.foldl (fun a p => a.setIfInBounds (pre.length + k + p.2) p.1) (arrOf st')))).isNone = true by show (Yc0 st').isNone = true; rw [ff]; rfl]
    have mem : ∀ z ∈ zs.toList, z ∈ xs.drop k \/ z ∈ ys.take l := fun z hz => List.mem_append.mp (p.mem_iff.mp hz)
    refine q (xs.take k ++ zs.toList ++ ys.drop l) _ (fr.k.trans k1) ff ?_ ?_ (by show (zs.toList.zipIdx.foldl (fun a p => a.setIfInBounds (pre.length + k + p.2) p.1) (arrOf st')).toList = _; rw [w4]; simp) (by show YaL st' = _; rw [fr.p, e1])
    · have e5 : xs ++ ys = xs.take k ++ (xs.drop k ++ ys.take l) ++ ys.drop l := by
        conv => lhs; rw [<- YaS k xs, <- YaS l ys]
        simp only [Yay]
      rw [e5]
      exact YcG _ (YcQ _ p)
    · have sxx := sx
      rw [<- YaS k xs] at sxx
      have sxx := jbX.mp sxx
      have syy := sy
      rw [<- YaS l ys] at syy
      have syy := jbX.mp syy
      refine jbX.mpr ⟨jbX.mpr ⟨sxx.1, o, fun u hu z hz => ?_⟩, syy.2.1, fun u hu z hz => ?_⟩
      · rcases mem z hz with hz | hz
        · exact sxx.2.2 u hu z hz
        · exact Yc9 (c1 u hu) (c3 z (Yb7 hz))
      · rcases List.mem_append.mp hu with hu | hu
        · exact Yc9 (c1 u hu) (c3 z (Ycw hz))
        · rcases mem u hu with hu | hu
          · exact Yc9 (c4 u (Ycw hu)) (d2 z hz)
          · exact syy.2.2 u hu z hz
  by_cases e5 : xs.length - k <= l
  · rw [if_pos e5]
    exact Yar (jeq ak t k1 fun zs st' fr fi => done zs st' fr fi)
  · rw [if_neg e5]
    exact Yar (jer ak t k1 fun zs st' fr fi => done zs st' fr fi)
end
noncomputable def kk (ρ:Keyed->Int)(xs:Array Keyed)(i:Nat):Int:=match xs[i]? with
 | some x=>ρ x
 | none=>0
theorem jgR {ρ:Keyed->Int}{xs ys:Array Keyed}{i j:Nat}(h:xs[i]?=ys[j]?):kk ρ xs i=kk ρ ys j:=by unfold kk; rw [h]
noncomputable def Up2 (ρ:Keyed->Int)(xs:Array Keyed)(l h:Nat):Prop:=∀ i j,l<=i->i<=j->j < h->kk ρ xs i<=kk ρ xs j
noncomputable def Dn2 (ρ:Keyed->Int)(xs:Array Keyed)(l h:Nat):Prop:=∀ i j,l<=i->i<=j->j < h->kk ρ xs j<=kk ρ xs i
structure Ch (l:Nat)(st st':SortSt):Prop where
 e:st'=setArr st (arrOf st')
 pm:(arrOf st').Perm (arrOf st)
 pre:∀ i,i < l->(arrOf st')[i]?=(arrOf st)[i]?
theorem Ch.refl {l:Nat}{st:SortSt}:Ch l st st:=⟨rfl,.refl _,fun _ _=>rfl⟩
theorem Ch.trans {l:Nat}{st st1 st2:SortSt}(h:Ch l st st1)(h':Ch l st1 st2):Ch l st st2:=⟨by rw [h'.e,h.e],h'.pm.trans h.pm,fun i hi=>(h'.pre i hi).trans (h.pre i hi)⟩
theorem Ch.size {l:Nat}{st st':SortSt}(h:Ch l st st'):(arrOf st').size=(arrOf st).size:=h.pm.size_eq
theorem Ch.base {l:Nat}{st st':SortSt}{κ:YcA}{S:Keyed->Prop}(h:Ch l st st')(b:Base2 κ S st):Base2 κ S st':=⟨by rw [h.e]; exact b.k,by rw [h.e]; exact b.f,fun x hx=>b.S x ((Array.perm_iff_toList_perm.mp h.pm).mem_iff.mp hx)⟩
theorem jfG {l n m:Nat}{st:SortSt}(hl:l<=n)(hm:m<=(arrOf st).size):Ch l st (setArr st (mirror (arrOf st) n m ((m - n) / 2))):=
 ⟨rfl,mirror_perm _ _ _ _,fun i hi=>by
  show (mirror (arrOf st) n m ((m - n) / 2))[i]?=_
  rw [getElem?_mirror_all hm,if_neg (by omega)]⟩
theorem jgQ {ρ:Keyed->Int}{xs:Array Keyed}{n m:Nat}(hm:m<=xs.size)(i:Nat):kk ρ (mirror xs n m ((m - n) / 2)) i=if n<=i/\i < m then kk ρ xs (n + m - 1 - i) else kk ρ xs i:=by
 have e:=getElem?_mirror_all (i:=n) hm i
 split
 ·rw [if_pos ‹_›] at e; exact jgR e
 ·rw [if_neg ‹_›] at e; exact jgR e
theorem jb5 {ρ:Keyed->Int}{xs:Array Keyed}{n m:Nat}(hm:m<=xs.size)(he:∀ i,n<=i->i < m->kk ρ xs i=kk ρ xs (m - 1))(i:Nat):kk ρ (mirror xs n m ((m - n) / 2)) i=kk ρ xs i:=by
 rw [jgQ hm]
 split
 ·rw [he _ (by omega) (by omega),he i (by omega) (by omega)]
 ·rfl
section
noncomputable def ascB (l n:Nat):StateT SortSt Sem (ForInStep AscSt):=do
 let r <- ltAt' (l + n) (l + n - 1)
 match r with
 | some t=>if t=true then pure (ForInStep.done (none,n)) else pure (ForInStep.yield (none,n + 1))
 | _=>pure (ForInStep.done (some none,n))
noncomputable def ascL (l n h:Nat):StateT SortSt Sem AscSt:=forIn [n:h] ((none,n):AscSt) fun _ c=>ascB l c.2
noncomputable def jeB (l n h:Nat):StateT SortSt Sem (Option Nat):=do
 YcZ l (l + n)
 let c <- ascL l n h
 match c.1 with
 | some r=>pure r
 | none=>pure (some c.2)
noncomputable def desB (l n q:Nat):StateT SortSt Sem (ForInStep DescSt):=do
 let r <- ltAt' (l + n) (l + n - 1)
 match r with
 | some t=>
  if t=true then
   if q > 0 then do
    YcZ (l + n - (q + 1)) (l + n)
    pure (ForInStep.yield (none,n + 1,0))
   else pure (ForInStep.yield (none,n + 1,0))
  else do
   let r <- ltAt' (l + n - 1) (l + n)
   match r with
   | some t=>if t=true then pure (ForInStep.done (none,n,q)) else pure (ForInStep.yield (none,n + 1,q + 1))
   | _=>pure (ForInStep.done (some none,n,q))
 | _=>pure (ForInStep.done (some none,n,q))
noncomputable def desP (l n h:Nat):StateT SortSt Sem (Option Nat):=do
 rule "list.sort.descending-run"
 let c <- forIn [n + 1:h] ((none,n + 1,0):DescSt) fun _ c=>desB l c.2.1 c.2.2
 match c.1 with
 | some r=>pure r
 | none=>
  if c.2.2 > 0 then do
   YcZ (l + c.2.1 - (c.2.2 + 1)) (l + c.2.1)
   jeB l c.2.1 h
  else jeB l c.2.1 h
theorem jgn {l n h:Nat}:jeB l n h=(do
  YcZ l (l + n)
  let c <- ascL l n h
  match c.1 with
  | some r=>pure r
  | none=>pure (some c.2)):=rfl
theorem jef (l h : Nat) : countRun' l h = (do
  let c <- ascL l 1 h
  match c.1 with
  | some r => pure r
  | none =>
    if (c.2 == h) = true then pure (some c.2)
    else if c.2 > 1 then do
      let r <- ltAt' l (l + c.2 - 1)
      match r with
      | some t => if t = true then pure (some c.2) else do
          YcZ l (l + c.2)
          desP l c.2 h
      | _ => pure none
    else desP l c.2 h) := by
  refine bc2 (fc fun _ c => bc fun r => ?_) fun c => ?_
  · cases r with
    | none => rfl
    | some t => cases t <;> rfl
  · obtain ⟨c0, n⟩ := c
    cases c0 with
    | some r => rfl
    | none =>
      refine ic rfl (ic (bc fun r => ?_) ?_)
      · cases r with
        | none => rfl
        | some t =>
          cases t with
          | true => rfl
          | false =>
            refine bc fun _ => ?_
            unfold desP
            refine bc fun _ => bc2 (fc fun _ c => bc fun r => ?_) fun c => ?_
            · cases r with
              | none => rfl
              | some t =>
                cases t with
                | true => rfl
                | false => exact bc fun r => by cases r with | none => rfl | some t => cases t <;> rfl
            · obtain ⟨c0, n, q⟩ := c
              cases c0 with
              | some r => rfl
              | none =>
                refine ic (bc fun _ => ?_) ?_ <;>
                · rw [jgn]
                  refine bc fun _ => bc2 (fc fun _ c => bc fun r => ?_) fun c => ?_
                  · cases r with
                    | none => rfl
                    | some t => cases t <;> rfl
                  · obtain ⟨c0, n⟩ := c
                    cases c0 <;> rfl
      · unfold desP
        refine bc fun _ => bc2 (fc fun _ c => bc fun r => ?_) fun c => ?_
        · cases r with
          | none => rfl
          | some t =>
            cases t with
            | true => rfl
            | false => exact bc fun r => by cases r with | none => rfl | some t => cases t <;> rfl
        · obtain ⟨c0, n, q⟩ := c
          cases c0 with
          | some r => rfl
          | none =>
            refine ic (bc fun _ => ?_) ?_ <;>
            · rw [jgn]
              refine bc fun _ => bc2 (fc fun _ c => bc fun r => ?_) fun c => ?_
              · cases r with
                | none => rfl
                | some t => cases t <;> rfl
              · obtain ⟨c0, n⟩ := c
                cases c0 <;> rfl
end
section
variable {prog:Program}{w:World}{A:Around}{E:Value->Shared->Prop}{s:Shared}{κ:YcA}{S:Keyed->Prop}{ρ:Keyed->Int}{l n h:Nat}{st:SortSt}
theorem jcs (ak:AskK prog w A s κ S ρ)(b:Base2 κ S st){i j:Nat}{Q:Option Bool->SortSt->Prop}(hi:i < (arrOf st).size)(hj:j < (arrOf st).size)(q:Q (some (decide (kk ρ (arrOf st) i < kk ρ (arrOf st) j))) st):wpS (model prog w) A E s (ltAt' i j) Q st:=by
 obtain ⟨x,hx⟩:=jaa hi
 obtain ⟨y,hy⟩:=jaa hj
 have ex:kk ρ (arrOf st) i=ρ x:=by unfold kk; rw [hx]
 have ey:kk ρ (arrOf st) j=ρ y:=by unfold kk; rw [hy]
 rw [ex,ey] at q
 have sx:S x:=b.S x (by rw [<- Yal] at hx; exact YaD hx)
 have sy:S y:=b.S y (by rw [<- Yal] at hy; exact YaD hy)
 rw [ltAt'_eq]
 exact Yar (wpS_get (Yar (jad hx (Yar (jad hy (jcr ak b.k sx sy q))))))
theorem jck {i j:Nat}{Q:Unit->SortSt->Prop}(q:Q () (setArr st (mirror (arrOf st) i j ((j - i) / 2)))):wpS (model prog w) A E s (YcZ i j) Q st:=by
 rw [reverseSlice'_eq]; exact Yd5 q
theorem ji6 {xs:Array Keyed}(hn:1<=n)(u:Up2 ρ xs l (l + n))(e:kk ρ xs (l + n - 1)<=kk ρ xs (l + n)):Up2 ρ xs l (l + (n + 1)):=fun i j h1 h2 h3=>by
 by_cases z:j < l + n
 ·exact u i j h1 h2 z
 ·have:j=l + n:=by omega
  subst this
  by_cases z2:i=l + n
  ·rw [z2]; exact Ydo _
  ·exact Yc9 (u i (l + n - 1) h1 (by omega) (by omega)) e
theorem jcI {xs:Array Keyed}(hn:1<=n)(u:Dn2 ρ xs l (l + n))(e:kk ρ xs (l + n)<=kk ρ xs (l + n - 1)):Dn2 ρ xs l (l + (n + 1)):=fun i j h1 h2 h3=>by
 by_cases z:j < l + n
 ·exact u i j h1 h2 z
 ·have:j=l + n:=by omega
  subst this
  by_cases z2:i=l + n
  ·rw [z2]; exact Ydo _
  ·exact Yc9 e (u i (l + n - 1) h1 (by omega) (by omega))
theorem jkK {xs:Array Keyed}:Up2 ρ xs l (l + 1):=fun i j h1 h2 h3=>by
 have:i=j:=by omega
 rw [this]; exact Ydo _
theorem jmo {xs:Array Keyed}:Dn2 ρ xs l (l + 1):=fun i j h1 h2 h3=>by
 have:i=j:=by omega
 rw [this]; exact Ydo _
theorem je8 (ak:AskK prog w A s κ S ρ)(b:Base2 κ S st){Q:AscSt->SortSt->Prop}(h1:1<=n)(h2:n<=h)(hz:l + h<=(arrOf st).size)(u:Up2 ρ (arrOf st) l (l + n))
  (q:∀ m,n<=m->m<=h->Up2 ρ (arrOf st) l (l + m)->(m=h\/kk ρ (arrOf st) (l + m) < kk ρ (arrOf st) (l + m - 1))->Q (none,m) st):wpS (model prog w) A E s (ascL l n h) Q st:=by
 unfold ascL
 refine Ybx (I:=fun x c st'=>st'=st/\c=(none,x)/\Up2 ρ (arrOf st) l (l + x)) ?_ ?_ ⟨rfl,rfl,u⟩
 ·rintro x c st' hx1 hx2 ⟨rfl,rfl,u⟩
  unfold ascB
  refine Yar (jcs ak b (by dsimp only; omega) (by dsimp only; omega) ?_)
  dsimp only
  by_cases e:kk ρ (arrOf st') (l + x) < kk ρ (arrOf st') (l + x - 1)
  ·simp only [e,decide_true,if_true]
   exact Yau (q x hx1 (by omega) u (.inr e))
  ·simp only [e,decide_false,Ybb,if_false]
   exact Yau ⟨rfl,rfl,ji6 (by omega) u (by omega)⟩
 ·rintro c st' ⟨rfl,rfl,u⟩
  rw [show max n h=h by omega] at u ⊢
  exact q h h2 (Yak _) u (.inl rfl)
theorem jdJ (ak:AskK prog w A s κ S ρ)(b:Base2 κ S st){Q:Option Nat->SortSt->Prop}(h1:1<=n)(h2:n<=h)(hz:l + h<=(arrOf st).size)(u:Dn2 ρ (arrOf st) l (l + n))
  (q:∀ m st',Ch l st st'->1<=m->m<=h->Up2 ρ (arrOf st') l (l + m)->Q (some m) st'):wpS (model prog w) A E s (jeB l n h) Q st:=by
 unfold jeB
 refine Yar (jck ?_)
 have c1:=jfG (l:=l) (n:=l) (m:=l + n) (st:=st) (Yak _) (by omega)
 refine Yar (je8 ak (c1.base b) h1 h2 (by rw [c1.size]; exact hz) (fun i j g1 g2 g3=>?_) fun m g1 g2 g3 _=>Yau (q m _ c1 (by omega) g2 g3))
 show kk ρ (mirror (arrOf st) l (l + n) ((l + n - l) / 2)) i<=kk ρ (mirror (arrOf st) l (l + n) ((l + n - l) / 2)) j
 rw [jgQ (by omega),jgQ (by omega),if_pos (by omega),if_pos (by omega)]
 exact u _ _ (by omega) (by omega) (by omega)
theorem je7 (ak : AskK prog w A s κ S ρ)(b : Base2 κ S st){Q : Option Nat -> SortSt -> Prop}(h2 : n + 1 <= h)(hz : l + h <= (arrOf st).size)(u : Dn2 ρ (arrOf st) l (l + (n + 1)))
    (q : ∀ m st', Ch l st st' -> 1 <= m -> m <= h -> Up2 ρ (arrOf st') l (l + m) -> Q (some m) st') : wpS (model prog w) A E s (desP l n h) Q st := by
  unfold desP
  refine Yar (Yeq (YdE ⟨rfl, ?_⟩))
  have fin : ∀ m r st', Ch l st st' -> 1 <= m -> m <= h -> Dn2 ρ (arrOf st') l (l + m) -> r + 1 <= m -> (∀ i, l + m - (r + 1) <= i -> i < l + m -> kk ρ (arrOf st') i = kk ρ (arrOf st') (l + m - 1)) -> wpS (model prog w) A E s (if r > 0 then do
      YcZ (l + m - (r + 1)) (l + m)
      jeB l m h
    else jeB l m h) Q st' := fun m r st' c1 g1 g2 g3 g4 g5 => by
    have z1 := c1.size
    split
    · refine Yar (jck ?_)
      have c2 := jfG (l := l) (n := l + m - (r + 1)) (m := l + m) (st := st') (by omega) (by omega)
      refine jdJ ak (c2.base (c1.base b)) g1 g2 (by rw [c2.size]; omega) (fun i j e1 e2 e3 => ?_) fun m st2 c3 => q m st2 ((c1.trans c2).trans c3)
      show kk ρ (mirror (arrOf st') _ _ _) j <= kk ρ (mirror (arrOf st') _ _ _) i
      rw [jb5 (by omega) g5, jb5 (by omega) g5]
      exact g3 i j e1 e2 e3
    · exact jdJ ak (c1.base b) g1 g2 (by omega) g3 fun m st2 c3 => q m st2 (c1.trans c3)
  refine Yar (Ybx (I := fun x c st' => ∃ r, c = (none, x, r) /\ Ch l st st' /\ Dn2 ρ (arrOf st') l (l + x) /\ r + 1 <= x /\ ∀ i, l + x - (r + 1) <= i -> i < l + x -> kk ρ (arrOf st') i = kk ρ (arrOf st') (l + x - 1)) ?_ ?_ ⟨0, rfl, .refl, u, by omega, fun i g1 g2 => by congr 1; omega⟩)
  · rintro x c st' hx1 hx2 ⟨r, rfl, c1, d, hr, he⟩
    have z1 := c1.size
    have b1 := c1.base b
    unfold desB
    refine Yar (jcs ak b1 (by dsimp only; omega) (by dsimp only; omega) ?_)
    dsimp only
    by_cases e : kk ρ (arrOf st') (l + x) < kk ρ (arrOf st') (l + x - 1)
    · simp only [e, decide_true, if_true]
      by_cases e2 : r > 0
      · rw [if_pos e2]
        have c2 := jfG (l := l) (n := l + x - (r + 1)) (m := l + x) (st := st') (by omega) (by omega)
        refine Yar (jck (Yau ⟨0, rfl, c1.trans c2, fun i j e1 e2 e3 => ?_, by omega, fun i g1 g2 => by congr 1; omega⟩))
        show kk ρ (mirror (arrOf st') _ _ _) j <= kk ρ (mirror (arrOf st') _ _ _) i
        rw [jb5 (by omega) he, jb5 (by omega) he]
        exact jcI (by omega) d (by omega) i j e1 e2 e3
      · rw [if_neg e2]
        exact Yau ⟨0, rfl, c1, jcI (by omega) d (by omega), by omega, fun i g1 g2 => by congr 1; omega⟩
    · simp only [e, decide_false, Ybb, if_false]
      refine Yar (jcs ak b1 (by omega) (by omega) ?_)
      by_cases e2 : kk ρ (arrOf st') (l + x - 1) < kk ρ (arrOf st') (l + x)
      · simp only [e2, decide_true, if_true]
        exact Yau (fin x r st' c1 (by omega) (by omega) d hr he)
      · simp only [e2, decide_false, Ybb, if_false]
        have eq : kk ρ (arrOf st') (l + x) = kk ρ (arrOf st') (l + x - 1) := by omega
        refine Yau ⟨r + 1, rfl, c1, jcI (by omega) d (by omega), by omega, fun i g1 g2 => ?_⟩
        rw [show l + (x + 1) - 1 = l + x by omega]
        by_cases e3 : i = l + x
        · rw [e3]
        · rw [eq]; exact he i (by omega) (by omega)
  · rintro c st' ⟨r, rfl, c1, d, hr, he⟩
    rw [show max (n + 1) h = h by omega] at d hr he ⊢
    exact fin h r st' c1 (by omega) (Yak _) d hr he
theorem jfK (ak:AskK prog w A s κ S ρ)(b:Base2 κ S st){Q:Option Nat->SortSt->Prop}(h1:1<=h)(hz:l + h<=(arrOf st).size)
  (q:∀ m st',Ch l st st'->1<=m->m<=h->Up2 ρ (arrOf st') l (l + m)->Q (some m) st'):wpS (model prog w) A E s (countRun' l h) Q st:=by
 rw [jef]
 refine Yar (je8 ak b (Yak 1) h1 hz jkK fun m g1 g2 g3 g4=>?_)
 dsimp only
 by_cases e:m=h
 ·rw [if_pos (by simpa using e)]
  exact Yau (q m st .refl g1 g2 g3)
 rw [if_neg (by simpa using e)]
 have lt:=g4.resolve_left e
 by_cases e2:m > 1
 ·rw [if_pos e2]
  refine Yar (jcs ak b (by omega) (by omega) ?_)
  by_cases e3:kk ρ (arrOf st) l < kk ρ (arrOf st) (l + m - 1)
  ·simp only [e3,decide_true,if_true]
   exact Yau (q m st .refl g1 g2 g3)
  ·simp only [e3,decide_false,Ybb,if_false]
   refine Yar (jck ?_)
   have c2:=jfG (l:=l) (n:=l) (m:=l + m) (st:=st) (Yak _) (by omega)
   have al:∀ i,l<=i->i < l + m->kk ρ (arrOf st) i=kk ρ (arrOf st) (l + m - 1):=fun i e1 e2=>by
    have:=g3 l i (Yak _) e1 e2
    have:=g3 i (l + m - 1) e1 (by omega) (by omega)
    omega
   refine je7 ak (c2.base b) (by omega) (by rw [c2.size]; exact hz) (fun i j e1 e2 e3=>?_) fun m st2 c3=>q m st2 (c2.trans c3)
   show kk ρ (mirror (arrOf st) _ _ _) j<=kk ρ (mirror (arrOf st) _ _ _) i
   rw [jb5 (by omega) al,jb5 (by omega) al]
   exact jcI (by omega) (fun i j e1 e2 e3=>by rw [al i e1 (by omega),al j (by omega) e3]; exact Ydo _) (by omega) i j e1 e2 e3
 ·rw [if_neg e2]
  have:m=1:=by omega
  subst this
  exact je7 ak b (by omega) hz (jcI (Yak 1) jmo (by omega)) q
theorem jhr (ak:AskK prog w A s κ S ρ)(b:Base2 κ S st){Q:Bool->SortSt->Prop}(h1:1<=n)(h2:n<=h)(hz:l + h<=(arrOf st).size)(u:Up2 ρ (arrOf st) l (l + n))
  (q:∀ st',Ch l st st'->Up2 ρ (arrOf st') l (l + h)->Q true st'):wpS (model prog w) A E s (binarySort' l h n) Q st:=by
 refine Yar (Ybx (I:=fun x c st'=>c=(none,())/\Ch l st st'/\Up2 ρ (arrOf st') l (l + x)) ?_ ?_ ⟨rfl,.refl,by rw [Nat.max_eq_left h1]; exact u⟩)
 ·rintro x c st' hx1 hx2 ⟨rfl,c1,u⟩
  have z1:=c1.size
  have b1:=c1.base b
  have fin:∀ m,m<=x->(∀ i,i < m->kk ρ (arrOf st') (l + i)<=kk ρ (arrOf st') (l + x))->(∀ i,m<=i->i < x->kk ρ (arrOf st') (l + x) < kk ρ (arrOf st') (l + i))->wpS (model prog w) A E s (moveDown' (l + x) (l + m)) (fun _ st2=>Ch l st st2/\Up2 ρ (arrOf st2) l (l + (x + 1))) st':=fun m hm a1 a2=>by
   rw [moveDown'_eq]
   refine Yd5 ?_
   have gb:=fun i=>getElem?_bubble (xs:=arrOf st') (src:=l + x) (by omega) (l + x - (l + m)) (by omega) i
   have g:∀ i,kk ρ (bubble (arrOf st') (l + x) (l + x - (l + m))) i=if i=l + m then kk ρ (arrOf st') (l + x) else if l + m < i/\i<=l + x then kk ρ (arrOf st') (i - 1) else kk ρ (arrOf st') i:=fun i=>by
    have e:=gb i
    rw [show l + x - (l + x - (l + m))=l + m by omega] at e
    split
    ·rw [if_pos ‹_›] at e; exact jgR e
    ·rw [if_neg ‹_›] at e
     split
     ·rw [if_pos ‹_›] at e; exact jgR e
     ·rw [if_neg ‹_›] at e; exact jgR e
   refine ⟨c1.trans ⟨rfl,bubble_perm _ _ _,fun i hi=>?_⟩,fun i j e1 e2 e3=>?_⟩
   ·show (bubble (arrOf st') (l + x) (l + x - (l + m)))[i]?=_
    rw [gb i,if_neg (by omega),if_neg (by omega)]
   ·show kk ρ (bubble (arrOf st') (l + x) (l + x - (l + m))) i<=kk ρ (bubble (arrOf st') (l + x) (l + x - (l + m))) j
    by_cases c1:j < l + m
    ·rw [g i,g j,if_neg (by omega),if_neg (by omega),if_neg (by omega),if_neg (by omega)]
     exact u i j e1 e2 (by omega)
    by_cases c2:j=l + m
    ·rw [g j,if_pos c2]
     by_cases c3:i=l + m
     ·rw [g i,if_pos c3]; exact Ydo _
     ·rw [g i,if_neg c3,if_neg (by omega)]
      have:=a1 (i - l) (by omega)
      rw [show l + (i - l)=i by omega] at this
      exact this
    ·rw [g j,if_neg c2,if_pos (by omega)]
     by_cases c3:i=l + m
     ·rw [g i,if_pos c3]
      have:=a2 (j - 1 - l) (by omega) (by omega)
      rw [show l + (j - 1 - l)=j - 1 by omega] at this
      omega
     ·by_cases c4:l + m < i/\i<=l + x
      ·rw [g i,if_neg c3,if_pos c4]; exact u _ _ (by omega) (by omega) (by omega)
      ·rw [g i,if_neg c3,if_neg c4]; exact u _ _ e1 (by omega) (by omega)
  refine Yar (Ybx (I:=fun z c st2=>st2=st'/\∃ a e,c=(none,a,e)/\a<=e/\e<=x/\e - a<=x - z/\(∀ i,i < a->kk ρ (arrOf st') (l + i)<=kk ρ (arrOf st') (l + x))/\∀ i,e<=i->i < x->kk ρ (arrOf st') (l + x) < kk ρ (arrOf st') (l + i)) ?_ ?_ ⟨rfl,0,x,rfl,by omega,by omega,by omega,fun i h=>by omega,fun i h1 h2=>by omega⟩)
  ·rintro z c st2 _ hz2 ⟨rfl,a,e,rfl,g1,g2,g3,g4,g5⟩
   dsimp only
   by_cases e1:a ≥ e
   ·rw [if_pos e1]
    exact Yau (Yar (wpS_mono (fin a (by omega) g4 fun i h1 h2=>g5 i (by omega) h2) fun _ st3 ⟨c3,u3⟩=>Yau ⟨rfl,c3,u3⟩))
   ·rw [if_neg e1]
    obtain ⟨m,hm⟩:∃ m,m=(a + e) / 2:=⟨_,rfl⟩
    rw [<- hm]
    refine Yar (jcs ak b1 (by omega) (by omega) ?_)
    by_cases e2:kk ρ (arrOf st2) (l + x) < kk ρ (arrOf st2) (l + m)
    ·simp only [e2,decide_true,if_true]
     refine Yau ⟨rfl,a,m,rfl,by omega,by omega,by omega,g4,fun i h1 h2=>?_⟩
     have:=u (l + m) (l + i) (by omega) (by omega) (by omega)
     omega
    ·simp only [e2,decide_false,Ybb,if_false]
     refine Yau ⟨rfl,m + 1,e,rfl,by omega,by omega,by omega,fun i h=>?_,g5⟩
     have:=u (l + i) (l + m) (by omega) (by omega) (by omega)
     omega
  ·rintro c st2 ⟨rfl,a,e,rfl,g1,g2,g3,g4,g5⟩
   exact Yar (wpS_mono (fin a (by omega) g4 fun i h1 h2=>g5 i (by omega) h2) fun _ st3 ⟨c3,u3⟩=>Yau ⟨rfl,c3,u3⟩)
 ·rintro c st' ⟨rfl,c1,u⟩
  rw [show max (max n 1) h=h by omega] at u
  exact Yau (q st' c1 u)
end
noncomputable def starts:Nat->List (List Keyed)->List (Nat×Nat)
 | _,[]=>[]
 | b,r::rs=>(b,r.length)::starts (b + r.length) rs
theorem jbk:∀ (b:Nat) (l m:List (List Keyed)),starts b (l++m)=starts b l++starts (b + l.flatten.length) m
 | b,[],m=>by simp [starts]
 | b,r::l,m=>by
  show (b,r.length)::starts (b + r.length) (l++m)=(b,r.length)::(starts (b + r.length) l++starts (b + (r::l).flatten.length) m)
  rw [jbk,YbL,Ya2,Nat.add_assoc]
theorem jbW:∀ (b:Nat) (l:List (List Keyed)),(starts b l).length=l.length
 | _,[]=>rfl
 | b,_::l=>congrArg (·+ 1) (jbW _ l)
noncomputable abbrev prd (p:Nat×Nat×Nat):Nat×Nat:=(p.1,p.2.1)
structure Rws (ρ:Keyed->Int)(st:SortSt)(rs:List (List Keyed))(rest:List Keyed):Prop where
 ar:(arrOf st).toList=rs.flatten++rest
 pd:(YaL st).toList.map prd=starts 0 rs
 ok:∀ r∈rs,r≠[]/\Srt ρ r
section
variable {prog:Program}{w:World}{A:Around}{E:Value->Shared->Prop}{s:Shared}{κ:YcA}{S:Keyed->Prop}{ρ:Keyed->Int}{st:SortSt}{rs:List (List Keyed)}{rest:List Keyed}
theorem Rws.size (h:Rws ρ st rs rest):(YaL st).size=rs.length:=by
 have:=congrArg YeC h.pd
 rw [Yai,YaQ,jbW] at this
 exact this
theorem jcY (ak:AskK prog w A s κ S ρ){Q:Bool->SortSt->Prop}(hb:Base2 κ S st)(h:Rws ρ st rs rest){i:Nat}(hi:i + 1 < (YaL st).size)
  (q:∀ rs' st',Base2 κ S st'->Rws ρ st' rs' rest->rs'.flatten.length=rs.flatten.length->rs'.length + 1=rs.length->(arrOf st').toList.Perm (arrOf st).toList->Q true st'):wpS (model prog w) A E s (mergeAt' i) Q st:=by
 have hz:=h.size
 obtain ⟨l,x,y,m,e,hl⟩:∃ l x y m,rs=l++x::y::m/\l.length=i:=by
  refine ⟨rs.take i,rs[i],rs[i + 1],rs.drop (i + 2),?_,by rw [Ybe]; omega⟩
  rw [<- YaY,<- YaY,YaS]
 obtain ⟨p1,v1,v2,p2,ep,hp⟩:∃ p1 v1 v2 p2,(YaL st).toList=p1++v1::v2::p2/\p1.length=i:=by
  have z:(YaL st).toList.length=(YaL st).size:=YaQ
  refine ⟨(YaL st).toList.take i,(YaL st).toList[i],(YaL st).toList[i + 1],(YaL st).toList.drop (i + 2),?_,by rw [Ybe]; omega⟩
  rw [<- YaY,<- YaY,YaS]
 subst e
 have hpd:=h.pd
 rw [ep,Ybn,jbk] at hpd
 obtain ⟨q1,q2⟩:=List.append_inj hpd (by rw [Yai,jbW]; omega)
 rw [Ya4,Ya4] at q2
 have q2:prd v1::prd v2::p2.map prd=(0 + l.flatten.length,x.length)::(0 + l.flatten.length + x.length,y.length)::starts (0 + l.flatten.length + x.length + y.length) m:=q2
 rw [Ycb] at q2
 obtain ⟨g1,q3⟩:=YdN q2
 obtain ⟨g2,g3⟩:=YdN q3
 obtain ⟨a1,b1,c1⟩:=v1
 obtain ⟨a2,b2,c2⟩:=v2
 obtain ⟨rfl,rfl⟩:=Yfh g1
 obtain ⟨rfl,rfl⟩:=Yfh g2
 have ox:=h.ok x (by simp)
 have oy:=h.ok y (by simp)
 have ha:(arrOf st).toList=l.flatten++(x++y)++(m.flatten++rest):=by rw [h.ar]; simp
 refine jes ak hb ha ox.2 oy.2 ox.1 oy.1 (pa:=c1) (pb:=c2) (by rw [<- Yal,ep,Ybt (by omega),hp,YfC]; rfl) (by rw [<- Yal,ep,Ybt (by omega),hp,YcP]; rfl) fun zs st' k' f' pm o ar pd=>?_
 have pl:zs.length=x.length + y.length:=by rw [pm.length_eq,Ya2]
 have perm:(arrOf st').toList.Perm (arrOf st).toList:=by
  rw [ar,ha]
  exact YcG _ (YcQ _ pm)
 refine q (l++zs::m) st' ⟨k',f',fun z hz=>hb.S z (perm.mem_iff.mp hz)⟩ ⟨by rw [ar]; simp,?_,fun r hr=>?_⟩ (by simp [pl]; omega) (by simp; omega) perm
 ·rw [pd,Array.toList_eraseIdxIfInBounds,YeG,ep,jbk,<- hp]
  have e1:(p1++(l.flatten.length,x.length,c1)::(l.flatten.length + x.length,y.length,c2)::p2).set p1.length (l.flatten.length,x.length + y.length,c1)=p1++(l.flatten.length,x.length + y.length,c1)::(l.flatten.length + x.length,y.length,c2)::p2:=by simp
  rw [e1,List.eraseIdx_append_of_length_le (by omega),YcP]
  show List.map prd (p1++(l.flatten.length,x.length + y.length,c1)::p2)=starts 0 l++(0 + l.flatten.length,zs.length)::starts (0 + l.flatten.length + zs.length) m
  rw [Ybn,q1,Ya4,g3,pl,Ycb,Nat.add_assoc]
 ·rcases List.mem_append.mp hr with hr | hr
  ·exact h.ok r (by simp [hr])
  ·rcases YbW.mp hr with rfl | hr
   ·exact ⟨fun z=>ox.1 (List.length_eq_zero_iff.mp (by rw [z,YcK] at pl; omega)),o⟩
   ·exact h.ok r (by simp [hr])
end
section
variable {prog:Program}{w:World}{A:Around}{E:Value->Shared->Prop}{s:Shared}{κ:YcA}{S:Keyed->Prop}{ρ:Keyed->Int}{st:SortSt}{rs:List (List Keyed)}{rest:List Keyed}
theorem jkZ {xs:Array Keyed}{l n:Nat}(hz:l + n<=xs.size)(u:Up2 ρ xs l (l + n)):Srt ρ ((xs.toList.drop l).take n):=by
 refine List.pairwise_iff_getElem.mpr fun i j hi hj hij=>?_
 have li:i < n:=by rw [Ybe] at hi; omega
 have lj:j < n:=by rw [Ybe] at hj; omega
 have e:∀ (i:Nat) (hi:i < ((xs.toList.drop l).take n).length),i < n->kk ρ xs (l + i)=ρ ((xs.toList.drop l).take n)[i]:=fun i hi li=>by
  have:xs[l + i]?=some ((xs.toList.drop l).take n)[i]:=by
   rw [<- Yah hi,Ycj,if_pos li,YcL,Yal]
  unfold kk; rw [this]
 rw [<- e i hi li,<- e j hj lj]
 exact u _ _ (by omega) (by omega) (by omega)
theorem Rws.ch {st' : SortSt}{l : Nat}(h : Rws ρ st rs rest)(c : Ch l st st')(hl : rs.flatten.length = l){n : Nat}(hz : l + n <= (arrOf st).size)(u : Up2 ρ (arrOf st') l (l + n)) : ∃ r rest', Rws ρ st' rs (r ++ rest') /\ r.length = n /\ Srt ρ r := by
  have z := c.size
  refine ⟨((arrOf st').toList.drop l).take n, ((arrOf st').toList.drop l).drop n, ⟨?_, ?_, h.ok⟩, by rw [Ybe, Ybo, YaQ]; omega, jkZ (by omega) u⟩
  · have e : (arrOf st').toList.take l = rs.flatten := by
      have e2 : (arrOf st).toList.take l = rs.flatten := by rw [h.ar, <- hl, List.take_left]
      rw [<- e2]
      refine Yf8 fun i => ?_
      rw [Ycj, Ycj]
      split
      · rw [Yal, Yal]; exact c.pre i ‹_›
      · rfl
    rw [YaS, <- e, YaS]
  · rw [c.e]; exact h.pd
theorem Rws.push {r rest':List Keyed}{l:Nat}(h:Rws ρ st rs (r++rest'))(hl:rs.flatten.length=l)(hr:r≠[])(o:Srt ρ r)(v:Nat):Rws ρ (YdG st ((YaL st).push (l,r.length,v))) (rs++[r]) rest':=by
 refine ⟨by show (arrOf st).toList=_; rw [h.ar]; simp,?_,fun x hx=>?_⟩
 ·show ((YaL st).push (l,r.length,v)).toList.map prd=_
  rw [YcS,Ybn,h.pd,jbk,hl,Ycb]
  rfl
 ·rcases List.mem_append.mp hx with hx | hx
  ·exact h.ok x hx
  ·rw [List.mem_singleton.mp hx]; exact ⟨hr,o⟩
theorem Rws.pow (h:Rws ρ st rs rest)(i v:Nat):Rws ρ (YdG st ((YaL st).modify i fun x=>match x with | (a,b,_)=>(a,b,v))) rs rest:=by
 refine ⟨h.ar,?_,h.ok⟩
 refine (?_:((YaL st).modify i fun x=>match x with | (a,b,_)=>(a,b,v)).toList.map prd=_)
 rw [<- h.pd,Array.toList_modify]
 refine Yf8 fun j=>?_
 rw [YaE,YaE,List.getElem?_modify]
 cases (YaL st).toList[j]? with
 | none=>rfl
 | some x=>
  obtain ⟨a,b,c⟩:=x
  show some (prd (if i=j then (a,b,v) else (a,b,c)))=some (a,b)
  split <;> rfl
noncomputable abbrev Rz2:=Option Unit×Unit
noncomputable abbrev Rz1:=Option Unit×Nat
noncomputable def jf3 (P:Array (Nat×Nat×Nat)):Nat:=if Option.any (fun x=>decide (x < P[P.size - 2 + 1]?.elim 0 fun x=>x.2.1)) (if P.size - 2 > 0 then YeL (fun x=>x.2.1) P[P.size - 2 - 1]? else none)=true then P.size - 2 - 1 else P.size - 2
noncomputable def jkd:StateT SortSt Sem (ForInStep Rz2):=do
 let t <- get
 if (YaL t).size<=1 then pure (ForInStep.done (none,()))
 else do
  let r <- mergeAt' (jf3 (YaL t))
  if (!r)=true then pure (ForInStep.done (some (),())) else pure (ForInStep.yield (none,()))
noncomputable def jh1 (N:Nat):StateT SortSt Sem Unit:=do
 let c <- forIn [0:N] ((none,()):Rz2) fun _ _=>jkd
 match c.1 with
 | some r=>pure r
 | none=>pure ()
noncomputable def innI (P:Array (Nat×Nat×Nat)):Option (Nat×Nat×Nat):=if P.size > 1 then P[P.size - 2]? else none
noncomputable def innB (v:Nat):StateT SortSt Sem (ForInStep Rz2):=do
 let t <- get
 match innI (YaL t) with
 | some (_,_,o)=>if o<=v then pure (ForInStep.done (none,())) else do
  let r <- mergeAt' ((YaL t).size - 2)
  if (!r)=true then pure (ForInStep.done (some (),())) else pure (ForInStep.yield (none,()))
 | _=>pure (ForInStep.done (none,()))
noncomputable def innJ (l n:Nat):StateT SortSt Sem (ForInStep Rz1):=do
 modify fun s=>YdG s ((YaL s).push (l,n,0))
 pure (ForInStep.yield (none,l + n))
noncomputable def innM (N l n v:Nat):StateT SortSt Sem (ForInStep Rz1):=do
 let c <- forIn [0:N] ((none,()):Rz2) fun _ _=>innB v
 match c.1 with
 | some r=>pure (ForInStep.done (some r,l))
 | none=>do
  modify fun s=>YdG s ((YaL s).modify ((YaL s).size - 1) fun x=>match x with | (a,b,_)=>(a,b,v))
  innJ l n
noncomputable def innL (N l n:Nat):StateT SortSt Sem (ForInStep Rz1):=do
 let t <- get
 match (YaL t).back? with
 | some (a,b,_)=>innM N l n (power' N (2 * a + b) (2 * a + b + b + n) N)
 | _=>innJ l n
noncomputable def runB (N mr l:Nat):StateT SortSt Sem (ForInStep Rz1):=
 if l ≥ N then pure (ForInStep.done (none,l)) else do
  let r <- countRun' l (N - l)
  match r with
  | some m=>
   if m < mr then do
    rule "list.sort.binary-insertion"
    let r <- binarySort' l (min (N - l) mr) m
    if (!r)=true then pure (ForInStep.done (some (),l)) else innL N l (min (N - l) mr)
   else innL N l m
  | _=>pure (ForInStep.done (some (),l))
theorem jdR:sortRuns'=(do
 let t <- get
 let c <- forIn [0:(arrOf t).size] ((none,0):Rz1) fun _ c=>runB (arrOf t).size (minRun' (arrOf t).size (arrOf t).size 0) c.2
 match c.1 with
 | some r=>pure r
 | none=>jh1 (arrOf t).size):=by
 rw [sortRuns'_eq]
 refine bc fun t=>bc2 (fc fun _ c=>?_) fun c=>?_
 ·unfold runB
  refine ic rfl (bc fun r=>?_)
  cases r with
  | none=>rfl
  | some m=>
   have go:∀ (n l:Nat) (x:StateT SortSt Sem (ForInStep Rz1)),x=innL (arrOf t).size l n->x=innL (arrOf t).size l n:=fun _ _ _ e=>e
   refine ic (bc fun _=>bc fun r=>?_) ?_
   ·cases r with
    | false=>rfl
    | true=>
     refine bc fun t=>?_
     cases e:(YaL t).back? with
     | none=>rfl
     | some p=>
      obtain ⟨a,b,d⟩:=p
      refine bc2 (fc fun _ c=>bc fun t=>?_) fun c=>?_
      ·unfold innI
       dsimp only
       generalize (if (YaL t).size > 1 then (YaL t)[(YaL t).size - 2]? else none)=z
       cases z with
       | none=>rfl
       | some z=>rfl
      ·obtain ⟨c0,_⟩:=c
       cases c0 <;> rfl
   ·refine bc fun t=>?_
    cases e:(YaL t).back? with
    | none=>rfl
    | some p=>
     obtain ⟨a,b,d⟩:=p
     refine bc2 (fc fun _ c=>bc fun t=>?_) fun c=>?_
     ·unfold innI
      dsimp only
      generalize (if (YaL t).size > 1 then (YaL t)[(YaL t).size - 2]? else none)=z
      cases z with
      | none=>rfl
      | some z=>rfl
     ·obtain ⟨c0,_⟩:=c
      cases c0 <;> rfl
 ·obtain ⟨c0,l⟩:=c
  cases c0 with
  | some r=>rfl
  | none=>
   refine bc2 (fc fun _ c=>?_) fun c=>?_
   ·unfold jkd jf3
    rfl
   ·obtain ⟨c0,_⟩:=c
    cases c0 <;> rfl
theorem jh2 {P:Array (Nat×Nat×Nat)}(h:1 < P.size):jf3 P + 1 < P.size:=by
 have:jf3 P=P.size - 2 - 1\/jf3 P=P.size - 2:=by
  unfold jf3
  generalize Option.any _ _=b
  cases b <;> simp
 omega
theorem jgc (ak:AskK prog w A s κ S ρ){N:Nat}{a0:Array Keyed}{Q:Unit->SortSt->Prop}(hb:Base2 κ S st)(hr:Rws ρ st rs [])(hp:(arrOf st).toList.Perm a0.toList)(hl:rs.length<=N)
  (q:∀ st',Yc0 st'=none->(arrOf st').toList.Perm a0.toList->Srt ρ (arrOf st').toList->Q () st'):wpS (model prog w) A E s (jh1 N) Q st:=by
 have fin:∀ (rs:List (List Keyed)) (st2:SortSt),Base2 κ S st2->Rws ρ st2 rs []->(arrOf st2).toList.Perm a0.toList->rs.length<=1->Q () st2:=fun rs st2 b2 r2 p2 hl=>by
  refine q st2 b2.f p2 ?_
  rw [r2.ar,Ya7]
  match rs,hl,r2.ok with
  | [],_,_=>exact YdI
  | [r],_,ok=>rw [YbL,List.flatten_nil,Ya7]; exact (ok r (by simp)).2
 unfold jh1
 refine Yar (Ybx (I:=fun x c st2=>c=(none,())/\∃ rs,Base2 κ S st2/\Rws ρ st2 rs []/\(arrOf st2).toList.Perm a0.toList/\rs.length + x<=N) ?_ ?_ ⟨rfl,rs,hb,hr,hp,hl⟩)
 ·rintro x c st2 _ hx ⟨rfl,rs,b2,r2,p2,hl⟩
  unfold jkd
  refine Yar (wpS_get ?_)
  have hz:=r2.size
  by_cases e:(YaL st2).size<=1
  ·rw [if_pos e]
   exact Yau (Yau (fin rs st2 b2 r2 p2 (by omega)))
  ·rw [if_neg e]
   have li:=jh2 (P:=YaL st2) (by omega)
   refine Yar (jcY ak b2 r2 li fun rs' st3 b3 r3 _ l3 p3=>?_)
   exact Yau ⟨rfl,rs',b3,r3,p3.trans p2,by omega⟩
 ·rintro c st2 ⟨rfl,rs,b2,r2,p2,hl⟩
  exact Yau (fin rs st2 b2 r2 p2 (by omega))
theorem je6 (ak : AskK prog w A s κ S ρ){N l n : Nat}{a0 : Array Keyed}{Q : ForInStep Rz1 -> SortSt -> Prop}{r rest' : List Keyed}(hb : Base2 κ S st)(hr : Rws ρ st rs (r ++ rest'))(hp : (arrOf st).toList.Perm a0.toList)(hl : rs.flatten.length = l)(hn : r.length = n)(n0 : r ≠ [])(o : Srt ρ r)(hm : rs.length <= l)
    (q : ∀ rs' st', Base2 κ S st' -> Rws ρ st' rs' rest' -> rs'.flatten.length = l + n -> (arrOf st').toList.Perm a0.toList -> rs'.length <= l + 1 -> Q (.yield (none, l + n)) st') : wpS (model prog w) A E s (innL N l n) Q st := by
  have fin : ∀ (rs : List (List Keyed)) (st2 : SortSt), Base2 κ S st2 -> Rws ρ st2 rs (r ++ rest') -> (arrOf st2).toList.Perm a0.toList -> rs.flatten.length = l -> rs.length <= l -> wpS (model prog w) A E s (innJ l n) Q st2 := fun rs st2 b2 r2 p2 hl hm => by
    unfold innJ
    refine Yar (Yd5 (Yau ?_))
    have := r2.push hl n0 o 0
    rw [hn] at this
    exact q (rs ++ [r]) _ ⟨b2.k, b2.f, b2.S⟩ this (by simp [hl, hn]) p2 (by simp; omega)
  unfold innL
  refine Yar (wpS_get ?_)
  cases (YaL st).back? with
  | none => exact fin rs st hb hr hp hl hm
  | some z =>
    obtain ⟨a, b, d⟩ := z
    dsimp only
    generalize power' N (2 * a + b) (2 * a + b + b + n) N = v
    unfold innM
    have fin2 : ∀ (rs : List (List Keyed)) (st2 : SortSt), Base2 κ S st2 -> Rws ρ st2 rs (r ++ rest') -> (arrOf st2).toList.Perm a0.toList -> rs.flatten.length = l -> rs.length <= l -> wpS (model prog w) A E s (do
        modify fun s => YdG s ((YaL s).modify ((YaL s).size - 1) fun x => match x with | (a, b, _) => (a, b, v))
        innJ l n) Q st2 := fun rs st2 b2 r2 p2 hl hm => Yar (Yd5 (fin rs _ ⟨b2.k, b2.f, b2.S⟩ (r2.pow _ v) p2 hl hm))
    refine Yar (Ybx (I := fun x c st2 => c = (none, ()) /\ ∃ rs, Base2 κ S st2 /\ Rws ρ st2 rs (r ++ rest') /\ (arrOf st2).toList.Perm a0.toList /\ rs.flatten.length = l /\ rs.length <= l) ?_ ?_ ⟨rfl, rs, hb, hr, hp, hl, hm⟩)
    · rintro x c st2 _ hx ⟨rfl, rs, b2, r2, p2, hl, hm⟩
      unfold innB
      refine Yar (wpS_get ?_)
      cases ei : innI (YaL st2) with
      | none => exact Yau (fin2 rs st2 b2 r2 p2 hl hm)
      | some z =>
        obtain ⟨a, b, o⟩ := z
        dsimp only
        have z1 : (YaL st2).size > 1 := by
          unfold innI at ei
          split at ei
          · assumption
          · cases ei
        split
        · exact Yau (fin2 rs st2 b2 r2 p2 hl hm)
        · refine Yar (jcY ak b2 r2 (i := (YaL st2).size - 2) (by omega) fun rs' st3 b3 r3 l2 l3 p3 => ?_)
          exact Yau ⟨rfl, rs', b3, r3, p3.trans p2, by omega, by omega⟩
    · rintro c st2 ⟨rfl, rs, b2, r2, p2, hl, hm⟩
      exact fin2 rs st2 b2 r2 p2 hl hm
theorem jhq (ak:AskK prog w A s κ S ρ)(hb:Base2 κ S st)(h0:YaL st=#[]){Q:Unit->SortSt->Prop}
  (q:∀ st',Yc0 st'=none->(arrOf st').toList.Perm (arrOf st).toList->Srt ρ (arrOf st').toList->Q () st'):wpS (model prog w) A E s sortRuns' Q st:=by
 rw [jdR]
 refine Yar (wpS_get ?_)
 have fin:∀ l rs rest (st1:SortSt),Base2 κ S st1->Rws ρ st1 rs rest->rs.flatten.length=l->(arrOf st1).toList.Perm (arrOf st).toList->l=(arrOf st).size->rs.length<=l->wpS (model prog w) A E s (jh1 (arrOf st).size) Q st1:=fun l rs rest st1 b1 r1 hl p1 h2 h3=>by
  have:rest=[]:=by
   have z:rs.flatten.length + rest.length=(arrOf st).size:=by rw [<- Ya2,<- r1.ar,p1.length_eq,YaQ]
   exact List.length_eq_zero_iff.mp (by omega)
  subst this
  exact jgc ak b1 r1 p1 (by omega) q
 refine Yar (Ybx (I:=fun x c st1=>∃ l rs rest,c=(none,l)/\Base2 κ S st1/\Rws ρ st1 rs rest/\rs.flatten.length=l/\(arrOf st1).toList.Perm (arrOf st).toList/\x<=l/\l<=(arrOf st).size/\rs.length<=l) ?_ ?_ ⟨0,[],(arrOf st).toList,rfl,hb,⟨rfl,by rw [h0]; rfl,fun _ h=>(nomatch h)⟩,rfl,.refl _,Yak _,YbA _,Yak _⟩)
 ·rintro x c st1 _ hx ⟨l,rs,rest,rfl,b1,r1,hl,p1,h1,h2,h3⟩
  have zN:(arrOf st1).size=(arrOf st).size:=by rw [<- YaQ,<- YaQ]; exact p1.length_eq
  unfold runB
  dsimp only
  by_cases e:l ≥ (arrOf st).size
  ·rw [if_pos e]
   exact Yau (fin l rs rest st1 b1 r1 hl p1 (by omega) h3)
  ·rw [if_neg e]
   refine Yar (jfK ak b1 (by omega) (by omega) fun m st2 c2 m1 m2 u2=>?_)
   have z2:=c2.size
   have b2:=c2.base b1
   have p2:=(Array.perm_iff_toList_perm.mp c2.pm).trans p1
   have go:∀ (n:Nat) (st3:SortSt),Ch l st1 st3->1<=n->n<=(arrOf st).size - l->Up2 ρ (arrOf st3) l (l + n)->∃ r rest',Rws ρ st3 rs (r++rest')/\r.length=n/\Srt ρ r/\r≠[]:=fun n st3 c3 n1 n2 u3=>by
    obtain ⟨r,rest',g1,g2,g3⟩:=r1.ch c3 hl (n:=n) (by omega) u3
    exact ⟨r,rest',g1,g2,g3,fun z=>by rw [z] at g2; simp at g2; omega⟩
   dsimp only
   by_cases em:m < minRun' (arrOf st).size (arrOf st).size 0
   ·rw [if_pos em]
    refine Yar (Yeq (YdE ⟨rfl,?_⟩))
    generalize minRun' (arrOf st).size (arrOf st).size 0=mr at em
    refine Yar (jhr ak b2 m1 (by omega) (by omega) u2 fun st3 c3 u3=>?_)
    obtain ⟨r,rest',g1,g2,g3,g4⟩:=go _ st3 (c2.trans c3) (by omega) (by omega) u3
    exact je6 ak (c3.base b2) g1 ((Array.perm_iff_toList_perm.mp c3.pm).trans p2) hl g2 g4 g3 h3 fun rs' st4 b4 r4 l4 p4 l5=>⟨_,rs',rest',rfl,b4,r4,l4,p4,by omega,by omega,by omega⟩
   ·rw [if_neg em]
    obtain ⟨r,rest',g1,g2,g3,g4⟩:=go _ st2 c2 m1 m2 u2
    exact je6 ak b2 g1 p2 hl g2 g4 g3 h3 fun rs' st4 b4 r4 l4 p4 l5=>⟨_,rs',rest',rfl,b4,r4,l4,p4,by omega,by omega,by omega⟩
 ·rintro c st1 ⟨l,rs,rest,rfl,b1,r1,hl,p1,h1,h2,h3⟩
  exact fin l rs rest st1 b1 r1 hl p1 (by omega) h3
end
noncomputable def jbd:Nat:=1000000
section
variable {prog:Program}{w:World}{A:Around}{s:Shared}
open Classical in
noncomputable def ixV (vs:List Value)(v:Value):Nat:=if h:∃ i,vs[i]?=some v then Yfs h else 0
theorem jh3 {vs:List Value}(nd:vs.Nodup){i:Nat}{v:Value}(h:vs[i]?=some v):ixV vs v=i:=by
 have e:∃ i,vs[i]?=some v:=⟨i,h⟩
 unfold ixV
 rw [dif_pos e]
 have g:=Classical.choose_spec e
 obtain ⟨h1,q1⟩:=List.getElem?_eq_some_iff.mp g
 obtain ⟨h2,q2⟩:=List.getElem?_eq_some_iff.mp h
 have nd:=List.pairwise_iff_getElem.mp nd
 rcases Nat.lt_trichotomy (Yfs e) i with z | z | z
 ·exact absurd (q1.trans q2.symm) (nd _ _ h1 h2 z)
 ·exact z
 ·exact absurd (q2.trans q1.symm) (nd _ _ h2 h1 z)
noncomputable def rkN (n:Nat)(lt:Nat->Nat->Bool)(i:Nat):Int:=(((YaV n).filter fun j=>lt j i).length:Int)
noncomputable def rkV (vs:List Value)(lt:Nat->Nat->Bool)(v:Value):Int:=rkN vs.length lt (ixV vs v)
theorem jjv {n:Nat}{lt:Nat->Nat->Bool}{cmp:Nat->Nat->(Bool->Shared->Prop)->Shared->Prop}(a:Asks n lt cmp s){i j:Nat}(hi:i < n)(hj:j < n)(h:lt i j=true):rkN n lt i < rkN n lt j:=by
 unfold rkN
 refine Int.ofNat_lt.mpr ?_
 have sub:∀ (l:List Nat),(∀ k∈l,k < n)->(l.filter fun k=>lt k i).length<=(l.filter fun k=>lt k j).length/\(i∈l->(l.filter fun k=>lt k i).length < (l.filter fun k=>lt k j).length):=fun l=>by
  induction l with
  | nil=>intro _; exact ⟨Yak _,fun h=>(nomatch h)⟩
  | cons k l ih=>
   intro hk
   obtain ⟨h1,h2⟩:=ih fun z hz=>hk z (Yap _ hz)
   have kn:=hk k YaH
   by_cases c:lt k i=true
   ·have c2:lt k j=true:=a.tr k i j kn hi hj c h
    rw [Ydz (p:=fun k=>lt k i) c,Ydz (p:=fun k=>lt k j) c2]
    refine ⟨Nat.succ_le_succ h1,fun hm=>?_⟩
    rcases YbW.mp hm with rfl | hm
    ·rw [a.ir _ hi] at c; cases c
    ·exact Nat.succ_lt_succ (h2 hm)
   ·rw [Ye7 (p:=fun k=>lt k i) c]
    by_cases c2:lt k j=true
    ·rw [Ydz (p:=fun k=>lt k j) c2]
     exact ⟨Yef h1,fun _=>Nat.lt_succ_of_le h1⟩
    ·rw [Ye7 (p:=fun k=>lt k j) c2]
     refine ⟨h1,fun hm=>?_⟩
     rcases YbW.mp hm with rfl | hm
     ·exact absurd h c2
     ·exact h2 hm
 exact (sub (YaV n) fun k hk=>List.mem_range.mp hk).2 (List.mem_range.mpr hi)
theorem jhG {κ:YcA}{vs:List Value}{lt:Nat->Nat->Bool}(nd:vs.Nodup)(a:Asks vs.length lt (kas_ask prog w A κ vs) s) :
  AskK prog w A s κ (fun x=>∃ i:Nat,vs[i]?=some x.1) (fun x=>rkV vs lt x.1):=by
 intro x y Q E ⟨i,hi⟩ ⟨j,hj⟩ h
 have li:=(List.getElem?_eq_some_iff.mp hi).1
 have lj:=(List.getElem?_eq_some_iff.mp hj).1
 have e:decide (rkV vs lt x.1 < rkV vs lt y.1)=lt i j:=by
  unfold rkV
  rw [jh3 nd hi,jh3 nd hj]
  cases c:lt i j with
  | true=>exact decide_eq_true (jjv a li lj c)
  | false=>
   refine decide_eq_false fun z=>?_
   by_cases q:i=j
   ·rw [q] at z; exact absurd z (Int.lt_irrefl _)
   ·rcases a.tot i j li lj q with t | t
    ·rw [c] at t; cases t
    ·have:=jjv a lj li t; omega
 have g:=a.ask i j Q li lj (by dsimp only at h; rw [e] at h; exact h)
 unfold kas_ask at g
 rw [YaO,YaO,hi,hj] at g
 exact Ybc g (fun _ _ h=>h) fun _ _ h=>h.elim
theorem jjw {vs:List Value}{lt:Nat->Nat->Bool}{cmp:Nat->Nat->(Bool->Shared->Prop)->Shared->Prop}(a:Asks vs.length lt cmp s){i j:Nat}(hi:i < vs.length)(hj:j < vs.length)(h:rkN vs.length lt i<=rkN vs.length lt j)(hne:i≠j):lt i j=true:=by
 rcases a.tot i j hi hj hne with t | t
 ·exact t
 ·have:=jjv a hj hi t; omega
end
section
variable {prog:Program}{w:World}{A:Around}{E:Value->Shared->Prop}{s:Shared}
theorem jfV {a b:Addr}{xs ys:Array Value}{ns ms:List Int}{Q:Bool->Shared->Prop}(hu:A.units < cLine)(ga:PlainL s.heap a xs)(gb:PlainL s.heap b ys)(hi:IntsAre xs.toList ns)(hj:IntsAre ys.toList ms)(h:Q (HT.lexLt ns ms) s) :
  wpAny (model prog w) A (oneLt' true (.ref a) (.ref b)) Q E s:=by
 obtain ⟨⟨c1,d1,dt1,sl1⟩,n1,e1,p1,q1,r1⟩:=ga
 obtain ⟨⟨c2,d2,dt2,sl2⟩,n2,e2,p2,q2,r2⟩:=gb
 simp only at p1 q1 r1 p2 q2 r2
 subst p1 q1 r1 p2 q2 r2
 rw [oneLt'_eq]
 simp only [if_true]
 refine Yab (wpAny_cRoomFor hu (Yab (wpAny_callSpecialIfBound?_slot ⟨_,e1,rfl⟩ Ye3 (Yda Ye3 ⟨_,e1,rfl⟩ PySem.F.entry_list_lt (PySem.F.args_list_lt_2 _ _) (jka a b xs ys n1 n2 none none sl1 sl2 ns ms hi hj) ⟨e1,e2,?_⟩))))
 exact YbU h
theorem jmZ {α β γ:Type}{M:Model}{c:Prop}[Decidable c]{m n:Sem α}{g:α->Sem β}{f:β->Sem γ}{Q:γ->Shared->Prop}(mid:β->Shared->Prop)(h1:c->wpAny M A m (fun a s1=>wpAny M A (g a) mid E s1) E s)(h2:¬c->wpAny M A n (fun a s1=>wpAny M A (g a) mid E s1) E s)(h3:∀ b s2,mid b s2->wpAny M A (f b) Q E s2) :
  wpAny M A (if c then m >>= fun a=>g a >>= f else n >>= fun a=>g a >>= f) Q E s:=by
 have on:∀ {m:Sem α},wpAny M A m (fun a s1=>wpAny M A (g a) mid E s1) E s->wpAny M A (m >>= fun a=>g a >>= f) Q E s:=fun h=>Yab (thn h fun a s1 h=>Yab (thn h h3))
 by_cases hc:c
 ·rw [if_pos hc]; exact on (h1 hc)
 ·rw [if_neg hc]; exact on (h2 hc)
theorem jeC {κ:YcA}{a:Addr}{vs:List Value}{n:Nat}{P:Fin->Shared->Prop}(ho:s.heap.get? a=some (seqObj "list" vs.toArray n))(h64:vs.length < jbd)(nd:vs.Nodup)(lt:Nat->Nat->Bool)
  (hk:∀ h':Heap,(∀ b o,b≠a->s.heap.get? b=some o->h'.get? b=some o)->2<=vs.length->∀ R:YcA->Shared->Prop,R κ { s with heap:=h' }->wpAny (model prog w) A (keyKind' vs.toArray) R E { s with heap:=h' })
  (as:∀ h':Heap,(∀ b o,b≠a->s.heap.get? b=some o->h'.get? b=some o)->Asks vs.length lt (kas_ask prog w A κ vs) { s with heap:=h' })
  (q:∀ π:List Nat,π.Perm (YaV vs.length)->(∀ i,i + 1 < vs.length->lt (π.getD i 0) (π.getD (i + 1) 0)=true)->P (.done (.ret .none)) { s with heap:=sortedHeap s.heap a vs (Yeg (π.map fun i=>vs.getD i Yaj)) }) :
  wpAny (model prog w) A (Builtin.«list.sort» ⟨[.ref a],[]⟩) P E s:=by
 rw [list_sort_plain]
 have hz:vs.toArray.size=vs.length:=by simp
 have big:vs.length<=Yan:=by rw [YbK]; unfold jbd at h64; omega
 have at1:=get?_update_seq ho fun _=>(#[]:Array Value)
 generalize eh1:s.heap.update a (Ydd fun _=>(#[]:Array Value))=h1 at at1
 obtain ⟨e1,ho1⟩:∃ e1,h1.get? a=some (seqObj "list" #[] e1):=⟨_,at1⟩
 refine Yab (listItems_at ho rfl (Yab (listUpdate_at ho rfl ?_ (hz ▸ big) (YbA _))))
 rw [eh1]
 refine Yab (seqEpoch_at ho1 rfl (Yab (wpAny_newTuple (Yab (wpAny_newList (Yb5 ?_) (YbA _))) big)))
 obtain ⟨h3,eh3⟩:∃ h3,h3=(h1.push (seqObj "tuple" vs.toArray 0)).push (seqObj "list" #[] 0):=⟨_,rfl⟩
 refine (?_:wpAny (model prog w) A _ P E { s with heap:=(h1.push (seqObj "tuple" vs.toArray 0)).push (seqObj "list" #[] 0) })
 have kp:∀ b o,b≠a->s.heap.get? b=some o->h3.get? b=some o:=fun b o hb e=>by
  rw [eh3]
  exact Yaf _ (Yaf _ (by rw [<- eh1,Ydi _ _ _ _ hb]; exact e))
 have ho6:h3.get? a=some (seqObj "list" #[] e1):=by rw [eh3]; exact Yaf _ (Yaf _ ho1)
 have fin:∀ out:Array Value,sortedHeap s.heap a vs out=h3.update a (Ydd fun _=>out):=fun out=>by rw [eh3,<- eh1]; rfl
 rw [<- eh3]
 dsimp only
 refine jmZ (fun (r:PUnit×SortSt) s'=>s'={ s with heap:=h3 }/\∃ π:List Nat,π.Perm (YaV vs.length)/\(∀ i,i + 1 < vs.length->lt (π.getD i 0) (π.getD (i + 1) 0)=true)/\(arrOf r.2).map (·.2)=Yeg (π.map fun i=>vs.getD i Yaj)/\Yc0 r.2=none) (fun h2=>?_) (fun h2=>?_) ?_
 rotate_right
 ·rintro ⟨⟨⟩,st⟩ s' ⟨rfl,π,hp,hs,hout,hf⟩
  refine Yab (seqEpoch_at ho6 rfl (Yab (listUpdate_at ho6 rfl ?_ (YbA _) (by rw [hout,Yat,Yai,hp.length_eq,Yct]; exact Yef big))))
  dsimp only
  rw [hf,bne_self_eq_false]
  refine Yam ?_
  rw [hout,<- fin]
  exact q π hp hs
 ·rw [if_pos h2]
  refine Yam (Yam ⟨rfl,YaV vs.length,.refl _,fun i hi=>by rw [hz] at h2; omega,?_,rfl⟩)
  refine (?_:(vs.toArray.zip vs.toArray).map (·.2)=_)
  apply Array.toList_inj.mp
  refine Yeo (by simp) fun i g1 g2=>?_
  have hi:i < vs.length:=by simpa using g1
  simp [Ybk,hi]
 ·rw [if_neg h2]
  rw [hz] at h2
  refine hk h3 kp (Nat.not_lt.mp h2) _ ?_
  have ak:=jhG nd (as h3 kp)
  have el:∀ x∈(vs.toArray.zip vs.toArray).toList,∃ i,vs[i]?=some x.1/\x.2=x.1:=fun x hx=>by
   obtain ⟨i,hi⟩:=Yb8 hx
   rw [Array.toList_zip,YfO,YeR] at hi
   exact ⟨i,hi.1,(YaU (hi.1.symm.trans hi.2)).symm⟩
  refine Ybc (jhq (s:={ s with heap:=h3 }) (st:=SortSt.mk' κ (vs.toArray.zip vs.toArray) #[] 7 none) (E:=E) (Q:=fun _ st'=>Yc0 st'=none/\(arrOf st').toList.Perm (vs.toArray.zip vs.toArray).toList/\Srt (fun x=>rkV vs lt x.1) (arrOf st').toList) ak ⟨rfl,rfl,fun x hx=>(el x hx).imp fun _ h=>h.1⟩ rfl fun st' g1 g2 g3=>⟨g1,g2,g3⟩) ?_ fun _ _ e=>e
  rintro ⟨⟨⟩,st⟩ s' ⟨rfl,hf,pm,srt⟩
  have iz:(vs.toArray.zip vs.toArray).toList.map (fun x=>ixV vs x.1)=YaV vs.length:=by
   refine Yeo (by simp) fun i g1 g2=>?_
   have hi:i < vs.length:=by simpa using g2
   have:ixV vs vs[i]=i:=jh3 nd (Yah hi)
   simpa using this
  have hp:((arrOf st).toList.map fun x=>ixV vs x.1).Perm (YaV vs.length):=by rw [<- iz]; exact pm.map _
  have gl:(arrOf st).toList.length=vs.length:=by have:=hp.length_eq; simpa using this
  refine ⟨rfl,(arrOf st).toList.map fun x=>ixV vs x.1,hp,fun i hi=>?_,?_,hf⟩
  ·have e1:=Yah (show i < (arrOf st).toList.length by omega)
   have e2:=Yah (show i + 1 < (arrOf st).toList.length by omega)
   have le:=jbc srt (YeM i) e1 e2
   rw [YaO,YaO,YaE,YaE,e1,e2]
   have bd:∀ {i:Nat} {x:Keyed},(arrOf st).toList[i]?=some x->ixV vs x.1 < vs.length:=fun hx=>List.mem_range.mp (hp.mem_iff.mp (Yfp.mpr ⟨_,YaD hx,rfl⟩))
   refine jjw (as h3 kp) (bd e1) (bd e2) le fun z=>?_
   have ndp:((arrOf st).toList.map fun x=>ixV vs x.1).Nodup:=hp.nodup_iff.mpr Yen
   have:=List.pairwise_iff_getElem.mp ndp i (i + 1) (by rw [Yai]; omega) (by rw [Yai]; omega) (by omega)
   rw [Ygj,Ygj] at this
   exact this z
  ·apply Array.toList_inj.mp
   rw [Array.toList_map,YfO,Yc6]
   refine Ydg fun x hx=>?_
   obtain ⟨i,hi,e⟩:=el x (pm.mem_iff.mp hx)
   show x.2=vs.getD (ixV vs x.1) Yaj
   rw [jh3 nd hi,YaO,hi,e]; rfl
end

theorem jlW:∀ a:List Int,HT.lexLt a a=false
 | []=>rfl
 | x::a=>by rw [HT.lexLt_cons,if_pos rfl]; exact jlW a
theorem jlV:∀ a b c:List Int,HT.lexLt a b=true->HT.lexLt b c=true->HT.lexLt a c=true
 | [],[],_,h,_=>by cases h
 | [],_::_,[],_,h=>by rw [HT.lexLt_cons_nil] at h; cases h
 | [],_::_,_::_,_,_=>rfl
 | _::_,[],_,h,_=>by rw [HT.lexLt_cons_nil] at h; cases h
 | _::_,_::_,[],_,h=>by rw [HT.lexLt_cons_nil] at h; cases h
 | x::a,y::b,z::c,h1,h2=>by
  rw [HT.lexLt_cons] at h1 h2 ⊢
  by_cases e1:x=y
  ·rw [if_pos e1] at h1
   by_cases e2:y=z
   ·rw [if_pos e2] at h2; rw [if_pos (e1.trans e2)]; exact jlV a b c h1 h2
   ·rw [if_neg e2] at h2; rw [if_neg (fun q=>e2 (e1.symm.trans q)),e1]; exact h2
  ·rw [if_neg e1] at h1
   by_cases e2:y=z
   ·rw [if_pos e2] at h2; rw [if_neg (fun q=>e1 (q.trans e2.symm)),<- e2]; exact h1
   ·rw [if_neg e2] at h2
    have g1:=of_decide_eq_true h1
    have g2:=of_decide_eq_true h2
    rw [if_neg (by omega)]; exact decide_eq_true (by omega)
theorem jiL:∀ a b:List Int,a≠b->HT.lexLt a b=true\/HT.lexLt b a=true
 | [],[],h=>absurd rfl h
 | [],_::_,_=>.inl rfl
 | _::_,[],_=>.inr rfl
 | x::a,y::b,h=>by
  rw [HT.lexLt_cons,HT.lexLt_cons]
  by_cases e:x=y
  ·rw [if_pos e,if_pos e.symm]
   exact jiL a b fun z=>h (by rw [e,z])
  ·rw [if_neg e,if_neg (Ne.symm e)]
   by_cases z:x < y
   ·exact .inl (decide_eq_true z)
   ·exact .inr (decide_eq_true (by omega))
noncomputable def KeyL (K:Yac)(H:Hp)(v:V)(k:List Int):Prop:=∃ t,v=.ref t/\SqL K H t (k.map V.int)
theorem jhY {prog:Program}{w:World}{A:Around}{s:Shared}{Q:Bool->Shared->Prop}{k k':List Int}{ia ib:List Value}(ra:Vals (k.map V.int) ia)(rb:Vals (k'.map V.int) ib)(i:Nat)(h:Q (HT.lexLt k k') s):KatLex prog w A true (decide (ia.toArray.size < ib.toArray.size)) Q (ia.toArray.toList.zip ib.toArray.toList) i s:=by
 have go:∀ (k:List Int) {k':List Int} {ia ib:List Value} (fin:Bool),Vals (k.map V.int) ia->Vals (k'.map V.int) ib->fin=decide (ia.length < ib.length)->∀ (i:Nat),Q (HT.lexLt k k') s->KatLex prog w A true fin Q (ia.zip ib) i s:=fun k=>by
  induction k with
  | nil=>
   intro k' ia ib fin ra rb hf i h
   cases ra
   subst hf
   cases k' with
   | nil=>cases rb; exact kat_nil (by rw [HT.lexLt_nil_nil] at h; simpa using h)
   | cons y k'=>
    cases rb with
    | cons b rb=>
     refine kat_nil ?_
     rw [show HT.lexLt [] (y::k')=true from rfl] at h
     simpa using h
  | cons x k ih=>
   intro k' ia ib fin ra rb hf i h
   cases ra with
   | cons a ra=>
    cases k' with
    | nil=>cases rb; subst hf; exact kat_nil (by rw [HT.lexLt_cons_nil] at h; simpa using h)
    | cons y k'=>
     cases rb with
     | cons b rb=>
      obtain ⟨t,rfl⟩:=a
      obtain ⟨u,rfl⟩:=b
      rw [HT.lexLt_cons] at h
      refine kat_cons (wpAny_eqBool_int ?_)
      refine kat_go (fun e=>kat_yes ?_) fun e=>kat_no ?_
      ·have e:x=y:=by simpa using e
       rw [if_pos e] at h
       exact ih fin ra rb (by rw [hf]; simp) (i + 1) h
      ·have e:¬ x=y:=by simpa using e
       rw [if_neg e] at h
       cases i with
       | zero=>exact oneLt_int h
       | succ i=>
        rw [show (true && (i + 1 == 0))=false by simp]
        exact kat_one _ _ (wpAny_lt_int h)
 exact go k _ ra rb (by simp) i h
section
variable {X:Cx}
noncomputable def jnw (X:Cx)(xs:List V)(H:Hp)(Q:VK):Prop:=∃ (p:Addr) (vs:List V) (ks:List (List Int)),xs=[.ref p]/\SqL X.K H p vs/\vs.length=ks.length/\ks.Nodup/\vs.length < jbd/\
 ((∀ (i:Nat) v k,vs[i]?=some v->ks[i]?=some k->KeyI H v k)\/(∀ (i:Nat) v k,vs[i]?=some v->ks[i]?=some k->KeyL X.K H v k)\/∀ (i:Nat) v k,vs[i]?=some v->ks[i]?=some k->KeyT X.K H v k/\k≠[])/\
 ∀ (l:Addr) (π:List Nat),H l=none->π.Perm (YaV vs.length)->(∀ i,i + 1 < vs.length->HT.lexLt (ks.getD (π.getD i 0) []) (ks.getD (π.getD (i + 1) 0) [])=true)->Q (.ref l) (upd H l (.lst (π.map fun i=>vs.getD i .non)))
theorem jlR {α:Type}{l:List α}(h:l.Nodup){i j:Nat}(hi:i < l.length)(hj:j < l.length)(hne:i≠j):l[i]≠l[j]:=by
 have h:=List.pairwise_iff_getElem.mp h
 rcases Nat.lt_or_gt_of_ne hne with z | z
 ·exact h i j hi hj z
 ·exact fun e=>h j i hj hi z e.symm
theorem jei (hc : X.calm = true)(hu : X.A.units + 2 < cLine) : ja2 X (.builtin "sorted") (jnw X) := by
  intro pins s σ H xs us Q I r h
  obtain ⟨p, vs, ks, rfl, hq, hl, hnd, h64, hk, q⟩ := h
  obtain ⟨u, rfl, rx⟩ := jcV r
  cases rx
  obtain ⟨its, rv, pl, hz⟩ := I.list hq
  have il := rv.length
  have hL := pl.isList
  have key : ∀ {i : Nat} {u : Value}, its[i]? = some u -> ∃ v k, vs[i]? = some v /\ ks[i]? = some k /\ RelV v u := fun {i u} e => by
    obtain ⟨v, ev, r1⟩ := jfa rv e
    have : i < ks.length := by rw [<- hl]; exact (List.getElem?_eq_some_iff.mp ev).1
    exact ⟨v, ks[i], ev, Yah this, r1⟩
  have nd : its.Nodup := by
    refine List.pairwise_iff_getElem.mpr fun i j hi hj hij e => ?_
    obtain ⟨x, k, ex, ek, r1⟩ := key (Yah hi)
    obtain ⟨y, k', ey, ek', r2⟩ := key (Yah hj)
    have kne : k ≠ k' := fun z => by
      obtain ⟨h1, q1⟩ := List.getElem?_eq_some_iff.mp ek
      obtain ⟨h2, q2⟩ := List.getElem?_eq_some_iff.mp ek'
      exact jlR hnd h1 h2 (by omega) (by rw [q1, q2]; exact z)
    rcases hk with hk | hk | hk
    · obtain ⟨z, rfl, e1⟩ := hk i x k ex ek
      obtain ⟨z', rfl, e2⟩ := hk j y k' ey ek'
      obtain ⟨t1, g1⟩ := r1
      obtain ⟨t2, g2⟩ := r2
      rw [g1, g2] at e
      injection e with e3 _
      exact kne (by rw [e1, e2, e3])
    · obtain ⟨a, rfl, ha⟩ := hk i x k ex ek
      obtain ⟨b, rfl, hb⟩ := hk j y k' ey ek'
      have g1 : its[i] = .ref a := r1
      have g2 : its[j] = .ref b := r2
      rw [g1, g2] at e
      injection e with e3
      subst e3
      exact kne (Yf2 (fun _ _ h => by injection h) |>.mp (I.list_inj ha hb))
    · obtain ⟨⟨a, rfl, ha⟩, _⟩ := hk i x k ex ek
      obtain ⟨⟨b, rfl, hb⟩, _⟩ := hk j y k' ey ek'
      have g1 : its[i] = .ref a := r1
      have g2 : its[j] = .ref b := r2
      rw [g1, g2] at e
      injection e with e3
      subst e3
      exact kne (Yf2 (fun _ _ h => by injection h) |>.mp (I.tuple_inj ha hb))
  have big : its.length <= Yan := by rw [YbK]; unfold jbd at h64; omega
  refine jeb (collect_list hL (wpAny_newList ?_ big) big)
  obtain ⟨h1, eh1⟩ : ∃ h1, h1 = (s.heap.push (seqObj "list" #[] 0)).update s.heap.objs.size (Ydd (· ++ its.toArray)) := ⟨_, rfl⟩
  rw [<- eh1]
  have k1 : ∀ b o, s.heap.get? b = some o -> h1.get? b = some o := fun b o e => by
    rw [eh1, Ydi _ _ _ _ (Ya8 (Yav e))]
    exact Yaf _ e
  have hsz : s.heap.objs.size <= h1.objs.size := by rw [eh1, Heap.size_update, size_push']; exact YeM _
  have hoL : (h1.push { cls := .type "list", data := .seq its.toArray }).get? h1.objs.size = some (seqObj "list" its.toArray 0) := YaR _ rfl
  have up : ∀ (h' : Heap), (∀ b o, b ≠ h1.objs.size -> (h1.push { cls := .type "list", data := .seq its.toArray }).get? b = some o -> h'.get? b = some o) -> ∀ b o, s.heap.get? b = some o -> h'.get? b = some o := fun h' k b o e =>
    k b o (Ya8 (Yav (k1 b o e))) (Yaf _ (k1 b o e))
  obtain ⟨κ, hkind, hask⟩ : ∃ κ : YcA, (∀ h' : Heap, (∀ b o, s.heap.get? b = some o -> h'.get? b = some o) -> 2 <= its.length -> ∀ (R : YcA -> Shared -> Prop) (E : Value -> Shared -> Prop), R κ { s with heap := h' } -> wpAny (model X.prog X.w) X.A.in1.in1 (keyKind' its.toArray) R E { s with heap := h' }) /\
      ∀ (h' : Heap), (∀ b o, s.heap.get? b = some o -> h'.get? b = some o) -> ∀ (i j : Nat) (C : Bool -> Shared -> Prop), i < its.length -> j < its.length -> C (HT.lexLt (ks.getD i []) (ks.getD j [])) { s with heap := h' } -> kas_ask X.prog X.w X.A.in1.in1 κ its i j C { s with heap := h' } := by
    have pre : ∀ {i j : Nat} {C : Bool -> Shared -> Prop} {h' : Heap}, ∀ (hi : i < its.length) (hj : j < its.length), C (HT.lexLt (ks.getD i []) (ks.getD j [])) { s with heap := h' } -> ∃ x k y k', vs[i]? = some x /\ ks[i]? = some k /\ RelV x (its.getD i Yaj) /\ vs[j]? = some y /\ ks[j]? = some k' /\ RelV y (its.getD j Yaj) /\ C (HT.lexLt k k') { s with heap := h' } := fun {i j C h'} hi hj hC => by
      have ei : its.getD i Yaj = its[i] := by simp [Ybk, hi]
      have ej : its.getD j Yaj = its[j] := by simp [Ybk, hj]
      obtain ⟨x, k, ex, ek, rx⟩ := key (Yah hi)
      obtain ⟨y, k', ey, ek', ry⟩ := key (Yah hj)
      have di : ks.getD i [] = k := by rw [YaO, ek]; rfl
      have dj : ks.getD j [] = k' := by rw [YaO, ek']; rfl
      rw [di, dj] at hC
      exact ⟨x, k, y, k', ex, ek, by rw [ei]; exact rx, ey, ek', by rw [ej]; exact ry, hC⟩
    rcases hk with hk | hk | hk
    · refine ⟨oneType', fun h' up h2 R E hR => kas_kind (M := model X.prog X.w) (s := { s with heap := h' }) (T := .type "int") (by omega) (fun v hv => ?_) (by decide) (by decide) hR, fun h' up i j C hi hj hC => ?_⟩
      · obtain ⟨i, hi, rfl⟩ := YdW hv
        obtain ⟨x, k, ex, ek, r1⟩ := key (Yah hi)
        obtain ⟨z, rfl, _⟩ := hk i x k ex ek
        obtain ⟨t, e⟩ := r1
        rw [e]
        exact Looks.of_pure rfl
      · obtain ⟨x, k, y, k', ex, ek, rx, ey, ek', ry, hC⟩ := pre hi hj hC
        unfold kas_ask
        rw [keyLt'_oneType]
        obtain ⟨z, rfl, e1⟩ := hk i x k ex ek
        obtain ⟨z', rfl, e2⟩ := hk j y k' ey ek'
        obtain ⟨t1, g1⟩ := rx
        obtain ⟨t2, g2⟩ := ry
        rw [g1, g2]
        rw [e1, e2] at hC
        refine oneLt_int ?_
        have e : HT.lexLt [z] [z'] = decide (z < z') := by
          rw [HT.lexLt_cons]
          split
          · rename_i q; rw [q, HT.lexLt_nil_nil]; simp
          · rfl
        rw [e] at hC
        exact hC
    · refine ⟨oneType', fun h' up h2 R E hR => kas_kind (M := model X.prog X.w) (s := { s with heap := h' }) (T := .type "list") (by omega) (fun v hv => ?_) (by decide) (by decide) hR, fun h' up i j C hi hj hC => ?_⟩
      · obtain ⟨i, hi, rfl⟩ := YdW hv
        obtain ⟨x, k, ex, ek, r1⟩ := key (Yah hi)
        obtain ⟨t, rfl, ht⟩ := hk i x k ex ek
        obtain ⟨js, rj, ⟨o, m, eo, ec, _, _⟩, _⟩ := I.list ht
        have r1 : its[i] = .ref t := r1
        rw [r1]
        have : Looks (model X.prog X.w) h' (typeOf (.ref t)) o.cls := (Looks.ld (up _ _ eo)).andThen .now
        rw [ec] at this
        exact this
      · obtain ⟨x, k, y, k', ex, ek, rx, ey, ek', ry, hC⟩ := pre hi hj hC
        unfold kas_ask
        rw [keyLt'_oneType]
        obtain ⟨a, rfl, ha⟩ := hk i x k ex ek
        obtain ⟨b, rfl, hb⟩ := hk j y k' ey ek'
        obtain ⟨ia, ra, pa, _⟩ := I.list ha
        obtain ⟨ib, rb, pb, _⟩ := I.list hb
        have g1 : its.getD i Yaj = .ref a := rx
        have g2 : its.getD j Yaj = .ref b := ry
        rw [g1, g2]
        have upP : ∀ {t : Addr} {z : Array Value}, PlainL s.heap t z -> PlainL h' t z := fun ⟨o, n, e, q1, q2, q3⟩ => ⟨o, n, up _ _ e, q1, q2, q3⟩
        exact jfV (A := X.A.in1.in1) (by rw [Yec, Yec]; omega) (upP pa) (upP pb) (jfy (by simpa using ra)) (jfy (by simpa using rb)) hC
    · refine ⟨tuples' true, fun h' up h2 R E hR => ?_, fun h' up i j C hi hj hC => ?_⟩
      · have go : ∀ l : List Value, (∀ v ∈ l, v ∈ its) -> ∃ fs, KatTups h' l fs /\ fs.length = l.length /\ ∀ f ∈ fs, Looks (model X.prog X.w) h' (typeOf f) (.type "int") := fun l => by
          induction l with
          | nil => intro _; exact ⟨[], .nil, rfl, fun _ h => (nomatch h)⟩
          | cons v l ih =>
            intro hv
            obtain ⟨fs, h1, h2, h3⟩ := ih fun w hw => hv w (Yap _ hw)
            obtain ⟨i, hi, rfl⟩ := YdW (hv v YaH)
            obtain ⟨x, k, ex, ek, r1⟩ := key (Yah hi)
            obtain ⟨⟨t, rfl, ht⟩, kn⟩ := hk i x k ex ek
            obtain ⟨js, rj, ⟨o, eo, ec, m, ed⟩, _⟩ := I.tuple ht
            have r1 : its[i] = .ref t := r1
            rw [r1]
            cases k with
            | nil => exact absurd rfl kn
            | cons z k =>
              cases rj with
              | @cons v' u' _ us' r0 rr =>
                obtain ⟨tk, rfl⟩ := r0
                exact ⟨_ :: fs, .cons (up _ _ eo) ec ed rfl h1, by rw [YbJ, YbJ, h2], fun f hf => by
                  rcases YbW.mp hf with rfl | hf
                  · exact Looks.of_pure rfl
                  · exact h3 f hf⟩
        obtain ⟨fs, h1, h3, h4⟩ := go its fun _ h => h
        exact kat_kind (M := model X.prog X.w) (s := { s with heap := h' }) h1 (by omega) h4 (by decide) hR
      · obtain ⟨x, k, y, k', ex, ek, rx, ey, ek', ry, hC⟩ := pre hi hj hC
        unfold kas_ask
        obtain ⟨⟨a, rfl, ha⟩, _⟩ := hk i x k ex ek
        obtain ⟨⟨b, rfl, hb⟩, _⟩ := hk j y k' ey ek'
        obtain ⟨ia, ra, ⟨o1, q1, _, m1, d1⟩, _⟩ := I.tuple ha
        obtain ⟨ib, rb, ⟨o2, q2, _, m2, d2⟩, _⟩ := I.tuple hb
        have g1 : its.getD i Yaj = .ref a := rx
        have g2 : its.getD j Yaj = .ref b := ry
        rw [g1, g2]
        refine kat_lt (s := { s with heap := h' }) (up _ _ q1) d1 (up _ _ q2) d2 ?_
        exact jhY ra rb 0 hC
  refine YcJ slot_list_sort ⟨_, hoL, rfl⟩ entry_list_sort (jeC (κ := κ) (s := { s with heap := h1.push { cls := .type "list", data := .seq its.toArray } }) hoL (by omega) nd (fun i j => HT.lexLt (ks.getD i []) (ks.getD j [])) (fun h' kp h2 R hR => hkind h' (up h' kp) h2 R _ hR) (fun h' kp => ⟨fun i j C hi hj hC => hask h' (up h' kp) i j C hi hj hC, fun i j k hi hj hk' h1 h2 => jlV _ _ _ h1 h2, fun i j hi hj hne => jiL _ _ ?_, fun i _ => jlW _⟩) fun π hp hs => ⟨_, rfl, ?_⟩) (args_list_sort _)
  · have hi' : i < ks.length := by omega
    have hj' : j < ks.length := by omega
    have di : ks.getD i [] = ks[i] := by simp [Ybk, hi']
    have dj : ks.getD j [] = ks[j] := by simp [Ybk, hj']
    rw [di, dj]
    exact jlR hnd hi' hj' hne
  · obtain ⟨e, he⟩ := sortedHeap_at (out := Yeg (π.map fun i => its.getD i Yaj)) hoL
    rw [<- il] at hp hs
    have hfl : ∀ i ∈ π, i < vs.length := fun i hi => List.mem_range.mp (hp.mem_iff.mp hi)
    refine ⟨.ref h1.objs.size, _, I.laid (o := .lst (π.map fun i => vs.getD i .non)) (fun b ob y => ?_) hsz ?_, rfl, q _ π (I.hok.fresh hsz) hp hs⟩
    · have hb := k1 b ob y
      have hlt := Yav hb
      rw [sortedHeap_old (Ya8 hlt) (by rw [size_push']; exact Nat.lt_succ_of_lt hlt)]
      exact Yaf _ hb
    · refine ⟨by rw [Yai, hp.length_eq, Yct, YbK]; unfold jbd at h64; omega, π.map fun i => its.getD i Yaj, e, ?_, ?_⟩
      · have : ∀ l : List Nat, (∀ i ∈ l, i < vs.length) -> Vals (l.map fun i => vs.getD i .non) (l.map fun i => its.getD i Yaj) := fun l => by
          induction l with
          | nil => intro _; exact .nil
          | cons i l ih =>
            intro hl'
            have hi := hl' i (by simp)
            have hi2 : i < its.length := by omega
            obtain ⟨v, ev, r1⟩ := jfa rv (Yah hi2)
            refine .cons ?_ (ih fun j hj => hl' j (Yap _ hj))
            refine (?_ : RelV (vs.getD i .non) (its.getD i Yaj))
            rw [YaO, ev, YaO, Yah hi2]
            exact r1
        exact this π hfl
      · rw [he]
end
section
variable {X:Cx}
theorem jb4:∀ r:List Int,YfL (r.map .int)=true/\Ydb (r.map .int)=0/\noBs (r.map .int)=true
 | []=>⟨rfl,rfl,rfl⟩
 | i::r=>by
  obtain ⟨h1,h2,h3⟩:=jb4 r
  refine ⟨?_,?_,?_⟩
  ·show ((YeK i).canLay0 && YfL (r.map .int))=true
   rw [h1]; rfl
  ·show max (YeK i).depth (Ydb (r.map .int))=0
   rw [h2]; rfl
  ·show (noB (.int i) && noBs (r.map .int))=true
   rw [h3]; rfl
theorem jfz:∀ {l l':List Int},l.map YeK=l'.map YeK->l=l'
 | [],[],_=>rfl
 | [],_::_,h=>by cases h
 | _::_,[],h=>by cases h
 | a::l,b::l',h=>by
  have h:=YdN h
  rw [YeK.inj h.1,jfz h.2]
theorem jkz (k k':List Int):Ybh (.list (k.map .int)) (.list (k'.map .int))=decide (k=k'):=by
 by_cases h:k=k'
 ·rw [h,PySem.SeqAt.eqv_refl (.list (k'.map .int)) (jb4 k').1]; simp
 ·cases e:Ybh (.list (k.map .int)) (.list (k'.map .int)) with
  | false=>simp [h]
  | true=>
   have e:=PyData.list.inj (jiU (d:=.list (k.map .int)) (e:=.list (k'.map .int)) (jb4 k).2.2 (jb4 k').2.2 e)
   exact absurd (jfz e) h

noncomputable def rInD (X:Cx)(neg:Bool):R2:=fun x y H Q=>∃ (p:Addr) (vs:List V) (d:PyData) (ds:List PyData),y=.ref p/\SqL X.K H p vs/\DV X.K H x d/\DVs X.K H vs ds/\d.canLay0=true/\d.depth<=100/\(∀ e∈ds,e.canLay0=true)/\Q (.bl (if neg then !(ds.any fun e=>Ybh e d) else ds.any fun e=>Ybh e d)) H
open Classical in
noncomputable def eD (h:Heap)(d:PyData)(w:Value):Bool:=decide (∃ e as,e.canLay0=true/\Reads h w e as/\Ybh e d=true)
open Classical in
theorem jmm {h:Heap}{d e:PyData}{w:Value}{as:List Addr}(r:Reads h w e as)(c:e.canLay0=true):eD h d w=Ybh e d:=by
 unfold eD
 cases q:Ybh e d with
 | true=>exact decide_eq_true ⟨e,as,c,r,q⟩
 | false=>
  refine decide_eq_false fun ⟨e',as',c',r',q'⟩=>?_
  rw [SeqAt.Reads.unique e' e w as' as c' r' r,q] at q'
  cases q'
theorem jgZ {h:Heap}{d:PyData}:∀ {us:List Value} {ds:List PyData} {as:List Addr},ReadsAll h us ds as->(∀ e∈ds,e.canLay0=true)->us.any (eD h d)=(ds.any fun e=>Ybh e d)/\∀ w∈us,∃ e as,e.canLay0=true/\Reads h w e as
 | _,_,_,.nil,_=>⟨rfl,fun w hw=>by simp at hw⟩
 | _,_,_,.cons r rs,c=>by
  obtain ⟨h1,h2⟩:=jgZ (d:=d) rs fun e he=>c e (Yap _ he)
  refine ⟨by rw [YbY,YbY,h1,jmm r (c _ YaH)],fun w hw=>?_⟩
  rcases YbW.mp hw with rfl | hw
  ·exact ⟨_,_,c _ YaH,r⟩
  ·exact h2 w hw
theorem jmd {pins:List (Addr×Obj)}{σ:St}{H:Hp}{s:Shared}{A:Around}{x:V}{u:Value}{d:PyData}{vs:List V}{ds:List PyData}{its:List Value}(hu:A.units + 100 < cLine)(I:Inv X pins σ H s)(rx:RelV x u)(hd:DV X.K H x d)(c:d.canLay0=true)(hp:d.depth<=100)(r:Vals vs its)(hv:DVs X.K H vs ds)(cs:∀ e∈ds,e.canLay0=true) :
  (∀ w,w∈its->YeP A s w u (eD s.heap d w))/\its.any (eD s.heap d)=ds.any fun e=>Ybh e d:=by
 obtain ⟨as,ra⟩:=DVs.reads I hv r
 obtain ⟨bs,rb⟩:=DV.reads I hd rx
 obtain ⟨h1,h2⟩:=jgZ (d:=d) ra cs
 refine ⟨fun w hw=>?_,h1⟩
 obtain ⟨e,as',ce,re⟩:=h2 w hw
 rw [jmm re ce]
 exact SeqAt.eqAt_reads _ _ A s _ _ _ _ re rb ce c (Ycm (Yf0 (Yaw (Nat.min_le_right _ _) hp) _) hu)
theorem jlK {k:Nat}(hr:Room k X.A):OpR X (YbM .In) (rInD X false):=by
 intro pins s σ H x y v u Q I rx ry h
 obtain ⟨p,vs,d,ds,rfl,hq,hd,hv,c,hp,cs,q⟩:=h
 cases ry
 obtain ⟨its,r,pl,hz⟩:=I.list hq
 obtain ⟨h1,h2⟩:=jmd (A:=X.A.in1) (by have:=hr.un; rw [Yec]; omega) I rx hd c hp r hv cs
 refine Ygh (eD s.heap d) pl.isList (fun w hw=>h1 w (by simpa using hw)) ⟨.bl _,H,I,rfl,?_⟩
 rw [show its.toArray.any (eD s.heap d)=its.any (eD s.heap d) by simp,h2]
 exact q
end
section
variable {X:Cx}
end
end L2

namespace L2
open PySem PySem.Spec PyProof.Rows
set_option maxHeartbeats 4000000
section
variable {prog:Program}{w:World}{A:Around}{R:Result->Shared->Prop}{I:Addr}{fp wr:List Addr}{n:Nat}{P:Nat->Value->Prop}{St:Nat->Heap->Prop}
end
section
variable {prog:Program}{w:World}{A:Around}{E:Value->Shared->Prop}{s:Shared}
end

section
variable {X:Cx}
end
end L2

namespace L2
open PySem PySem.Spec PyProof.Rows PySem.SeqAt PySem.MeetsSeq
set_option maxHeartbeats 4000000
theorem jbp (l:Addr)(es:Array Ya6)(n:Nat)(dd:Option Addr)(sl:Array (Option Value))(b:Str)(u:Tok) :
  Meets (Builtin.«dict.__eq__» ⟨[.ref l,.str b u],[]⟩) (fun _ R s=>s.heap.get? l=some { cls:=.type "dict",dict:=dd,data:=.dict es n,slots:=sl }/\R (.ok (.ret .notImplemented)) s):=
 .of_wp fun prog w A R s h=>by obtain ⟨hp,g,d,tk,os⟩:=s; obtain ⟨hl,h⟩:=h; have f1:=F.sub_str_dict; wp_walk using wpAny_loadPart' hl; exact ⟨_,rfl,h⟩
theorem jbo (b:Str)(u:Tok)(l:Addr)(es:Array Ya6)(n:Nat)(dd:Option Addr)(sl:Array (Option Value)) :
  Meets (Builtin.«str.__eq__» ⟨[.str b u,.ref l],[]⟩) (fun _ R s=>s.heap.get? l=some { cls:=.type "dict",dict:=dd,data:=.dict es n,slots:=sl }/\R (.ok (.ret .notImplemented)) s):=
 .of_wp fun prog w A R s h=>by obtain ⟨hp,g,d,tk,os⟩:=s; obtain ⟨hl,h⟩:=h; wp_walk using wpAny_loadPart' hl,wpAny_load hl; exact ⟨_,rfl,h⟩
section
variable {X:Cx}
theorem jeD {A:Around}{s:Shared}{l:Addr}{o:Obj}{es:Array Ya6}{n:Nat}(b:Str)(u:Tok)(ho:s.heap.get? l=some o)(hc:o.cls=.type "dict")(hd:o.data=.dict es n)(hu:A.units < cLine):RcAt A s (.ref l) (.str b u) false:=fun prog w E Q h=>by
 obtain ⟨cls,dd,data,sl⟩:=o
 simp only at hc hd
 subst hc hd
 exact rc_eq_decline_or (k:=false) ⟨_,ho,rfl⟩ (YeI s b u) (by decide) F.sub_str_dict F.slot_dict_eq F.slot_str_eq_refl
  (fun _ hq=>Yda F.slot_dict_eq ⟨_,ho,rfl⟩ F.entry_dict_eq (F.args_dict_eq_2 _ _) (jbp l es n dd sl b u) ⟨ho,hq⟩)
  (fun _ hq=>Yda F.slot_str_eq_refl (YeI s b u) F.entry_str_eq (F.args_str_eq_2 _ _) (jbo b u l es n dd sl) ⟨ho,hq⟩)
  (fun _ hq=>Yfc (rfl:isSame (.ref l) (.str b u)=pure false) hq) (.inr hu) h
noncomputable def jhI:R2:=fun x y H Q=>∃ a z kvs,x=.ref a/\y=.str z/\H a=some (.dK kvs)/\Q (.bl false) H
theorem jdu {k:Nat}(hr:Room k X.A):OpR X (YbM .Eq) jhI:=by
 intro pins s σ H x y v u Q I rx ry h
 obtain ⟨a,z,kvs,rfl,rfl,ha,q⟩:=h
 cases rx
 obtain ⟨t,rfl⟩:=ry
 obtain ⟨_,_,vs,_,o,es,ep,ho,hx,hd,_⟩:kvs.length<=Yan/\(a == Ybq)=false/\∃ vs,KV kvs vs/\s.heap.DictOf (jao X.prog X.w) a vs:=I.hok a _ ha
 exact jeD z t ho hx.1 hd (by have:=hr.un; omega) X.prog X.w X.xe _ ⟨.bl false,H,I,rfl,q⟩
end
noncomputable def rSlS:V->Option Int->Option Int->Hp->VK->Prop:=fun x lo hi H Q=>∃ z,x=.str z/\z.length<=Yan/\Q (.str (Yfx z lo hi)) H
section
variable {X:Cx}
theorem jk2:SlR X rSlS:=by
 intro pins s σ H x v vl vu lo hi sl Q I rx hs pl pu h
 obtain ⟨z,rfl,hz,q⟩:=h
 obtain ⟨t,rfl⟩:=rx
 refine ⟨"str",_,F.slot_str_getitem.lookup,YeI _ _ _,?_⟩
 obtain ⟨o,ho,hc,hd⟩:=hs
 have fin:∀ t' k,EP X pins σ Q (.str (Yfx z lo hi) t') { s with toks:=k }:=fun t' k=>⟨.str _,H,I.tok _,⟨_,rfl⟩,q⟩
 cases pl with
 | none=>
  cases pu with
  | none=>exact YcW (l:=none) (u:=none) (st:=none) ⟨o,ho,hc,hd⟩ rfl (Yd2 ⟨Yaw (Yej z _ _) hz,fin⟩)
  | int j uj=>exact YcW (l:=none) (u:=some (j,uj)) (st:=none) ⟨o,ho,hc,hd⟩ rfl (Yd2 ⟨Yaw (Yej z _ _) hz,fin⟩)
 | int i ui=>
  cases pu with
  | none=>exact YcW (l:=some (i,ui)) (u:=none) (st:=none) ⟨o,ho,hc,hd⟩ rfl (Yd2 ⟨Yaw (Yej z _ _) hz,fin⟩)
  | int j uj=>exact YcW (l:=some (i,ui)) (u:=some (j,uj)) (st:=none) ⟨o,ho,hc,hd⟩ rfl (Yd2 ⟨Yaw (Yej z _ _) hz,fin⟩)
theorem jjZ:OpR X (YbF .Add) (fun x y H Q=>∃ b j,x=.bl b/\y=.int j/\Q (.int ((if b=true then (1:Int) else 0) + j)) H):=by
 intro pins s σ H x y v u Q I rx ry h
 obtain ⟨b,j,rfl,rfl,q⟩:=h
 cases rx
 obtain ⟨t,rfl⟩:=ry
 exact PySem.IntBool.add_bool_int ⟨.int _,H,I.tok _,⟨_,rfl⟩,q⟩
theorem jjU:OpR X (YbF .Sub) (fun x y H Q=>(∃ b j,x=.bl b/\y=.int j/\Q (.int ((if b=true then (1:Int) else 0) - j)) H)\/∃ i b,x=.int i/\y=.bl b/\Q (.int (i - if b=true then (1:Int) else 0)) H):=by
 intro pins s σ H x y v u Q I rx ry h
 rcases h with ⟨b,j,rfl,rfl,q⟩ | ⟨i,b,rfl,rfl,q⟩
 ·cases rx
  obtain ⟨t,rfl⟩:=ry
  exact PySem.IntBool.sub_bool_int ⟨.int _,H,I.tok _,⟨_,rfl⟩,q⟩
 ·cases ry
  obtain ⟨t,rfl⟩:=rx
  exact PySem.IntBool.sub_int_bool ⟨.int _,H,I.tok _,⟨_,rfl⟩,q⟩
noncomputable def jjx (K:Yac):R2:=fun x y H Q=>∃ a z xs,x=.ref a/\y=.str z/\(SqT K H a xs\/SqL K H a xs)/\Q (.bl false) H
theorem jdX {k:Nat}(hr:Room k X.A):OpR X (YbM .Eq) (jjx X.K):=by
 intro pins s σ H x y v u Q I rx ry h
 obtain ⟨a,z,xs,rfl,rfl,ha,q⟩:=h
 cases rx
 obtain ⟨t,rfl⟩:=ry
 have hu:X.A.units < cLine:=hr.units0
 rcases ha with ha | ha
 ·obtain ⟨its,rv,pa,_⟩:=I.tuple ha
  exact SeqAt.RcAt.tuple_str z t (show s.heap.IsTuple a its.toArray from pa) hu X.prog X.w X.xe _ ⟨.bl false,H,I,rfl,q⟩
 ·obtain ⟨its,rv,pa,_⟩:=I.list ha
  exact SeqAt.RcAt.list_str z t pa.isList hu X.prog X.w X.xe _ ⟨.bl false,H,I,rfl,q⟩
end
end L2

namespace L2
open PySem PySem.Spec PyProof.Rows
open AutoSeq1 (wpAny_loadPart')
set_option maxHeartbeats 4000000
section
variable {prog:Program}{w:World}{A:Around}{E:Value->Shared->Prop}{s:Shared}
end
section
variable {X:Cx}
end
end L2

namespace L2
open PySem PySem.Spec PyProof.Rows PySem.W
set_option maxHeartbeats 4000000
structure Lies (lo:Nat)(pn:List (Addr×Obj))(H:Hp)(h:Heap)(e:Addr)(cls:Value)(dx:Option Addr):Prop where
 ob:∃ oe vs,h.get? e=some oe/\oe.cls=cls/\oe.dict=dx/\oe.data=.fields vs/\
  (vs[1]?=some .none\/∃ T oT ts,vs[1]?=some (.ref T)/\T≠e/\h.get? T=some oT/\oT.data=.fields ts/\ts[3]?=some .none/\H T=none/\lo<=T/\∀ p∈pn,p.1≠T)
 hn:H e=none
 le:lo<=e
 pn:∀ p∈pn,p.1≠e
section
variable {M:Model}{A:Around}{E:Value->Shared->Prop}{s:Shared}
theorem jbI {h:Heap}{a:Addr}{o:Obj}{vs:Array Value}(i:Nat)(x:Value)(ho:h.get? a=some o)(hd:o.data=.fields vs) :
  (∃ o',(h.update a (Ybz (·.setIfInBounds i x))).get? a=some o'/\o'.cls=o.cls/\o'.dict=o.dict/\o'.data=.fields (vs.setIfInBounds i x))/\∀ b,b≠a->(h.update a (Ybz (·.setIfInBounds i x))).get? b=h.get? b:=by
 have z:=YcO hd (·.setIfInBounds i x)
 refine ⟨⟨_,Yb0 _ ho (Ycp z),Yee _ _,?_,z⟩,fun b hb=>YdD _ _ (Ne.symm hb)⟩
 unfold Ybz
 split <;> rfl
theorem jfC {base:Heap}{env:Env}{outer:List Env}{L e:Addr}{oe:Obj}{vs:Array Value}{head:Value}{had:Bool}{Q:Unit->Shared->Prop}
  (hfr:A.frames=some (env::outer)) (hl:s.heap.FunFrames base (env::outer)) (hf:env.frame=some L) (he:s.heap.get? e=some oe) (hd:oe.data=.fields vs) (hsz:1 < vs.size)
  (h:∀ (h':Heap) (T:Addr) (oe' oT:Obj) (vs' ts:Array Value),(∀ b o,b∉frs (env::outer)->b≠e->s.heap.get? b=some o->h'.get? b=some o)->(∀ b o,b∈frs (env::outer)->b≠e->s.heap.get? b=some o->∃ sl,h'.get? b=some { o with slots:=sl })->
   s.heap.objs.size<=T->h'.get? e=some oe'->oe'.cls=oe.cls->oe'.dict=oe.dict->oe'.data=.fields vs'->vs'[1]?=some (.ref T)->h'.get? T=some oT->oT.data=.fields ts->ts[3]?=some .none->Q () { s with heap:=h' }) :
  wpAny M A (do let a <- frameOf env; let pl <- entryPlaceOf L had; let b <- EntryCells.newEntry head a .none (rawInt L) .none pl; setField (.ref e) 1 b) (fun _ s'=>wpAny M A (Yeu (.ref e) none) Q E s') E s:=by
 have out:e∉frs (env::outer):=fun m=>by
  rcases hl.mem m with ⟨-,o,ho,no⟩
  exact no vs (by rw [<- hd,YaU (he.symm.trans ho)])
 refine Yab (wpAny_frameOf_fun hfr hl hf fun h1 fs=>Yab (wpAny_entryPlaceOf fun pl hpl=>Yab (Ybg ?_ (hpl.sizeOk5 _ _ _ _ _))))
 have n3:3 < ([head,.ref L,.none,rawInt L,.none]++(if pl.isEmpty then Yaq 6 Yaj else pl)).toArray.size:=by
  rw [Yat,Ya2]
  exact Nat.lt_add_right _ (Nat.lt_of_sub_pos (Nat.zero_lt_succ 1))
 generalize eot:(⟨.type "traceback",none,.fields ([head,.ref L,.none,rawInt L,.none]++(if pl.isEmpty then Yaq 6 Yaj else pl)).toArray,#[]⟩:Obj)=ot
 have dt:ot.data=.fields ([head,.ref L,.none,rawInt L,.none]++(if pl.isEmpty then Yaq 6 Yaj else pl)).toArray:=by rw [<- eot]
 have g1:h1.get? e=some oe:=by rw [fs.2.1 e out,he]
 have new:=YaR h1 (Ycp dt)
 have ne:h1.objs.size≠e:=fun z=>YbB _ (z ▸ Yav g1)
 obtain ⟨⟨o2,g2,c2,d2,v2⟩,r2⟩:=jbI 1 (.ref h1.objs.size) (Yaf ot g1) hd
 have g2':=(r2 _ ne).trans new
 obtain ⟨⟨o3,g3,c3,d3,v3⟩,r3⟩:=jbI 3 .none g2' dt
 refine YdA (Yaf ot g1) hd hsz (Yab (Ych g2 v2 (Ycn hsz) ?_))
 rw [if_pos (by rfl)]
 refine YdA g2' dt n3 ?_
 have keep:∀ b o,b≠e->h1.get? b=some o->_:=fun b o hb g=>(r3 b (Ya8 (Yav g))).trans ((r2 b hb).trans (Yaf ot g))
 refine h _ h1.objs.size o2 o3 _ _ (fun b o hb hbe g=>keep b o hbe (by rw [fs.2.1 b hb,g])) (fun b o _ hbe g=>?_) (Yem fs.1.symm) ((r3 e (Ne.symm ne)).trans g2) c2 d2 v2 (Ycn hsz) g3 v3 (Ycn n3)
 rcases fs.2.2 b o g with ⟨sl,q⟩
 exact ⟨sl,keep b _ hbe q⟩
end
section
variable {X:Cx}{pins:List (Addr×Obj)}{σ:St}{H:Hp}{s:Shared}
theorem Inv.left {h':Heap}{ch:List Addr}(I:Inv X pins σ H s)(hH:∀ b∈ch,H b=none)(hlo:∀ b∈ch,X.s₀.heap.objs.size<=b)(hd:∀ b∈ch,∃ o vs,s.heap.get? b=some o/\o.data=.fields vs)(hp:∀ b∈ch,∀ p∈X.pn++pins,p.1≠b)
  (k:∀ b o,b∉frs X.stack->b∉ch->s.heap.get? b=some o->h'.get? b=some o) (sl:∀ b o,b∈frs X.stack->b∉ch->s.heap.get? b=some o->∃ t,h'.get? b=some { o with slots:=t }):Inv X pins σ H { s with heap:=h' }:=by
 have u:Un (frs X.stack) ch H H s.heap h':=by
  refine ⟨fun b o e _ hb hc=>k b o hb hc e,fun b o e _ hb hc=>sl b o hb hc e,fun _ _ _ n _=>n,fun b o e hc=>?_,fun _ _ e=>e,fun _ _ _ e=>e,fun b ps e=>⟨#[],by rw [e]; simp⟩⟩
  by_cases hb:b∈frs X.stack
  ·obtain ⟨t,q⟩:=sl b o hb hc e
   exact ⟨_,q⟩
  ·exact ⟨o,k b o hb hc e⟩
 have tr:∀ b u,H b=some u->b∉frs X.stack/\b∉ch:=fun b u e=>⟨fun z=>(by rw [I.stkFree b z] at e; cases e),fun z=>(by rw [hH b z] at e; cases e)⟩
 have hok:HOk X.prog X.w H h':=fun a o e=>(I.hok a o e).stay (fun b v hb q=>by
  rcases hb with z | z
  ·subst z; exact k b v (tr b _ e).1 (tr b _ e).2 q
  ·exact k b v (tr b _ z).1 (tr b _ z).2 q) (fun _ q=>q) fun _ _ q=>q
 refine I.call (g':=s.gens) (d':=s.drawn) (t':=s.toks) u hok I.bare fun b hb=>⟨.inr (hlo b hb),fun z=>?_,fun x c e z=>?_,hp b hb⟩
 ·obtain ⟨o,vs,g,d⟩:=hd b hb
  obtain ⟨m,⟨o',_,_,ho,r⟩,_⟩:=I.loc
  rw [z,ho] at g
  cases g
  have:=r.1
  rw [this] at d; cases d
 ·obtain ⟨o,vs,g,d⟩:=hd b hb
  obtain ⟨v,o',ho,hc⟩:=I.cell x c e
  rw [z,g] at ho
  cases ho
  rw [d] at hc; cases hc
theorem jiM {M:Model}{E:Value->Shared->Prop}{ea:Addr}{cls:Value}{dx:Option Addr}{Q:Unit->Shared->Prop}(I:Inv X [] σ H s)(hst:X.stack=X.env::X.outer)(hf:X.env.frame=some X.env.locals)
  (l:Lies X.s₀.heap.objs.size X.pn H s.heap ea cls dx) (q:∀ h',Inv X [] σ H { s with heap:=h' }->Lies X.s₀.heap.objs.size X.pn H h' ea cls dx->Q () { s with heap:=h' }):wpAny M X.A (Yge (.ref ea) X.env) (fun _ s'=>wpAny M X.A (Yeu (.ref ea) none) Q E s') E s:=by
 obtain ⟨oe,vs,he,hc,hdx,hd,ht⟩:=l.ob
 have hfr:X.A.frames=some (X.env::X.outer):=by rw [<- hst]; exact I.ok.frames
 have hl:s.heap.FunFrames X.base (X.env::X.outer):=by rw [<- hst]; exact I.stack
 have pe:∀ p∈X.pn++[],p.1≠ea:=fun p hp=>l.pn p (by simpa using hp)
 unfold Yge
 simp only [hf]
 rcases ht with h1 | ⟨T,oT,ts,h1,hTe,hT,hdT,h3,nT,lT,pT⟩
 ·refine Yab (Ych he hd h1 ?_)
  rw [if_neg (by decide)]
  refine jfC hfr hl hf he hd (Array.getElem?_eq_some_iff.mp h1).1 fun h' T' oe' oT' vs' ts' k sl zT g1 c1 c2 c3 c4 g2 c5 c6=>?_
  rw [<- hst] at k sl
  have J:Inv X [] σ H { s with heap:=h' }:=I.left (ch:=[ea]) (fun b hb=>by rw [List.mem_singleton.mp hb]; exact l.hn) (fun b hb=>by rw [List.mem_singleton.mp hb]; exact l.le) (fun b hb=>by rw [List.mem_singleton.mp hb]; exact ⟨oe,vs,he,hd⟩) (fun b hb=>by rw [List.mem_singleton.mp hb]; exact pe)
   (fun b o hb hc e=>k b o hb (fun z=>hc (by simp [z])) e) fun b o hb hc e=>sl b o hb (fun z=>hc (by simp [z])) e
  refine q h' J ⟨⟨oe',vs',g1,c1.trans hc,c2.trans hdx,c3,.inr ⟨T',oT',ts',c4,?_,g2,c5,c6,I.hok.fresh zT,Yaw I.sz zT,fun p hp z=>?_⟩⟩,l.hn,l.le,l.pn⟩
  ·exact fun z=>absurd (Yav he) (Nat.not_lt.mpr (z ▸ zT))
  ·exact absurd (Yav (I.pin p (by simpa using hp)).1) (Nat.not_lt.mpr (z ▸ zT))
 ·have old:(Yaj == rawInt X.env.locals)=false:=rfl
  refine Yab (Ych he hd h1 ?_)
  rw [if_pos (by rfl)]
  refine Yab (Ych hT hdT h3 ?_)
  rw [old,if_neg Yas]
  refine Yab (YdA hT hdT (Array.getElem?_eq_some_iff.mp h3).1 ?_)
  have other:=(jbI 3 .none hT hdT).2
  have I1:Inv X [] σ H { s with heap:=s.heap.update T (Ybz (·.setIfInBounds 3 Yaj)) }:=I.left (ch:=[T]) (fun b hb=>by rw [List.mem_singleton.mp hb]; exact nT) (fun b hb=>by rw [List.mem_singleton.mp hb]; exact lT) (fun b hb=>by rw [List.mem_singleton.mp hb]; exact ⟨oT,ts,hT,hdT⟩) (fun b hb p hp=>by rw [List.mem_singleton.mp hb]; exact pT p (by simpa using hp))
   (fun b o _ hc e=>(other b (by simpa using hc)).trans e) fun b o _ hc e=>⟨o.slots,(other b (by simpa using hc)).trans e⟩
  have he1:=(other ea (Ne.symm hTe)).trans he
  have hl1:(s.heap.update T (Ybz (·.setIfInBounds 3 Yaj))).FunFrames X.base (X.env::X.outer):=by rw [<- hst]; exact I1.stack
  refine jfC (s:={ s with heap:=s.heap.update T (Ybz (·.setIfInBounds 3 Yaj)) }) hfr hl1 hf he1 hd (Array.getElem?_eq_some_iff.mp h1).1 fun h' T' oe' oT' vs' ts' k sl zT g1 c1 c2 c3 c4 g2 c5 c6=>?_
  rw [<- hst] at k sl
  have J:Inv X [] σ H { s with heap:=h' }:=Inv.left (s:={ s with heap:=s.heap.update T (Ybz (·.setIfInBounds 3 Yaj)) }) (ch:=[ea]) I1 (fun b hb=>by rw [List.mem_singleton.mp hb]; exact l.hn) (fun b hb=>by rw [List.mem_singleton.mp hb]; exact l.le) (fun b hb=>by rw [List.mem_singleton.mp hb]; exact ⟨oe,vs,he1,hd⟩) (fun b hb=>by rw [List.mem_singleton.mp hb]; exact pe)
   (fun b o hb hc e=>k b o hb (fun z=>hc (by simp [z])) e) fun b o hb hc e=>sl b o hb (fun z=>hc (by simp [z])) e
  refine q h' J ⟨⟨oe',vs',g1,c1.trans hc,c2.trans hdx,c3,.inr ⟨T',oT',ts',c4,?_,g2,c5,c6,I1.hok.fresh zT,Yaw I1.sz zT,fun p hp z=>?_⟩⟩,l.hn,l.le,l.pn⟩
  ·exact fun z=>absurd (Yav he1) (Nat.not_lt.mpr (z ▸ zT))
  ·exact absurd (Yav (I1.pin p (by simpa using hp)).1) (Nat.not_lt.mpr (z ▸ zT))
end
noncomputable def CX1 (P:Program)(w:World):CXT:=fun outer H s E e s'=>∃ (ea:Addr) (H':Hp) (cls:Value) (dx:Option Addr),e=.ref ea/\s'.os=s.os/\AllBare s'.gens/\Un (frs outer) [] H H' s.heap s'.heap/\HOk P w H' s'.heap/\Lies s.heap.objs.size [] H' s'.heap ea cls dx/\E cls dx H'
section
variable {X:Cx}{pins:List (Addr×Obj)}{σ:St}{H:Hp}{s s':Shared}{e:Value}{E:XK}
theorem CX1.back (I:Inv X pins σ H s)(h:CX1 X.prog X.w X.stack H s E e s'):∃ (ea:Addr) (H':Hp) (cls:Value) (dx:Option Addr),e=.ref ea/\Inv X pins σ H' s'/\Lies X.s₀.heap.objs.size X.pn H' s'.heap ea cls dx/\E cls dx H':=by
 obtain ⟨ea,H',cls,dx,rfl,os,bare,un,hok,l,q⟩:=h
 have pn:∀ b,s.heap.objs.size<=b->∀ p∈X.pn,p.1≠b:=fun b hb p hp z=>absurd (Yav (I.pin p (Ybu _ hp)).1) (Nat.not_lt.mpr (z ▸ hb))
 refine ⟨ea,H',cls,dx,rfl,I.call' (ch:=[]) os un hok bare (fun b z=>absurd z (by simp)),⟨?_,l.hn,Yaw I.sz l.le,pn ea l.le⟩,q⟩
 obtain ⟨oe,vs,he,hc,hdx,hd,ht⟩:=l.ob
 refine ⟨oe,vs,he,hc,hdx,hd,ht.imp id ?_⟩
 rintro ⟨T,oT,ts,h1,h2,h3,h4,h5,h6,h7,_⟩
 exact ⟨T,oT,ts,h1,h2,h3,h4,h5,h6,Yaw I.sz h7,pn T h7⟩
end
end L2

namespace L2
open PySem PySem.Spec PyProof.Rows PySem.W
open Builtin Builtin.ObjectAttr
set_option maxHeartbeats 4000000
section
variable {M:Model}{A:Around}{E:Value->Shared->Prop}{h:Heap}{g:Array Ye8}{d:Drawn}{t:Nat}{os:OsState}
variable {nm q:Str}{C N D:Addr}{bs bmB:List Value}{hdct:Bool}{sn:List Str}{sub:List Value}{ab:Bool}{col:Option Bool}{dd:Option Addr}{k0 k1 k2 k3 k5:Option Value}{B newId:String}{mN mD:Str->Option Value}{name:Str}
structure Two (h:Heap)(C N D:Addr)(mN mD:Str->Option Value)(bmB:List Value)(newId:String):Prop where
 cls:∃ nm q bs sn sub ab col dd k0 k1 k2 k3 k5,h.get? C=some (YcN nm q C N bs (.ref D::bmB) true sn sub ab col dd k0 k1 k2 k3 k5 newId)
 ns:h.Ns N mN
 low:∃ c0 dd cd sl,h.get? D=some { cls:=c0,dict:=dd,data:=.cls cd,slots:=sl }/\h.Ns cd.ns mD
theorem Two.keeps {h':Heap}(T:Two h C N D mN mD bmB newId)(k:∀ b o,h.get? b=some o->h'.get? b=some o):Two h' C N D mN mD bmB newId:=by
 obtain ⟨⟨nm,q,bs,sn,sub,ab,col,dd,k0,k1,k2,k3,k5,e⟩,n,c0,dd',cd,sl,e2,n2⟩:=T
 exact ⟨⟨nm,q,bs,sn,sub,ab,col,dd,k0,k1,k2,k3,k5,k _ _ e⟩,n.keeps k,c0,dd',cd,sl,k _ _ e2,n2.keeps k⟩
theorem Two.look {y:Option Value}{Q:Option Value->Shared->Prop}(T:Two h C N D mN mD bmB newId)(hB:Ybp (.type B) name=pure y)(hm:mroOf (.type B)=pure bmB)(hN:mN name=none)(hD:mD name=none)(hq:Q y ⟨h,g,d,t,os⟩) :
  wpAny M A (Ybp (.ref C) name) Q E ⟨h,g,d,t,os⟩:=by
 obtain ⟨⟨nm,q,bs,sn,sub,ab,col,dd,k0,k1,k2,k3,k5,e⟩,n,c0,dd',cd,sl,e2,n2⟩:=T
 have hr:lookupAlong bmB name=pure y:=by rw [YfT,hm] at hB; exact hB
 rw [YfT]
 refine Yab (Yfd e ?_)
 rw [YeX]
 refine Yab (wpAny_classOwn_exc e n ?_)
 rw [hN]
 show wpAny M A (lookupAlong (.ref D::bmB) name) Q E _
 rw [YeX]
 refine Yab (wpAny_classOwn_cls e2 n2 ?_)
 rw [hD]
 show wpAny M A (lookupAlong bmB name) Q E _
 rw [hr]
 exact Yam hq
theorem Two.own {v:Value}{Q:Option Value->Shared->Prop}(T:Two h C N D mN mD bmB newId)(hN:mN name=some v)(hq:Q (some v) ⟨h,g,d,t,os⟩):wpAny M A (Ybp (.ref C) name) Q E ⟨h,g,d,t,os⟩:=by
 obtain ⟨⟨nm,q,bs,sn,sub,ab,col,dd,k0,k1,k2,k3,k5,e⟩,n,_⟩:=T
 rw [YfT]
 refine Yab (Yfd e ?_)
 rw [YeX]
 refine Yab (wpAny_classOwn_exc e n ?_)
 rw [hN]
 exact Yam hq
end
section
variable {prog:Program}{w:World}{A:Around}{E:Value->Shared->Prop}{h:Heap}{g:Array Ye8}{d:Drawn}{t:Nat}{os:OsState}
variable {C N D x:Addr}{bmB:List Value}{B newId sa owner:String}{mN mD mA:Str->Option Value}{name:Str}{v:Value}
theorem Two.check {M:Model}{o:Obj}{nameV:Value}{Q:Unit->Shared->Prop}(T:Two h C N D mN mD bmB newId)(SF:YdH B bmB sa owner)(hx:h.get? x=some o)(hc:o.cls=.ref C)(hq:Q () ⟨h,g,d,t,os⟩) :
  wpAny M A (YdP sa ⟨[.ref x,nameV,v],[]⟩) Q E ⟨h,g,d,t,os⟩:=by
 obtain ⟨⟨nm,q,bs,sn,sub,ab,col,dd,k0,k1,k2,k3,k5,e⟩,_⟩:=T
 have hb:(Yae C::.ref D::bmB).contains (.type owner)=true:=by rw [YbX,YbX,SF.hasOwner,Yc7,Yc7]
 have fin:wpAny M A (match Ye4 sa with | some sig=>Bind.checkArgs sa sig ⟨[.ref x,nameV,v],[]⟩ | _=>pure ()) Q E ⟨h,g,d,t,os⟩:=by
  have ok:=SF.args (.ref x) nameV v
  unfold argsOk at ok
  generalize Ye4 sa=z at ok ⊢
  cases z with
  | some sig=>exact Yfc ok hq
  | none=>exact Yam hq
 unfold YdP
 rw [SF.kind,SF.split]
 refine Yab (m:=YfI _ _) ?_
 unfold YfI
 repeat (first | (with_reducible refine YaK hx ?_; rw [hc]) | (with_reducible refine Ycg e ?_; rw [hb]) | wp_step)
 exact fin
theorem Two.tail (T:Two h C N D mN mD bmB newId)(hD:mD "__init__" = none):OwnTail h bmB (.ref D::bmB):=by
 obtain ⟨_,_,c0,dd',cd,sl,e2,n2⟩:=T
 exact .own e2 n2 hD .base
theorem Two.made {initId:String}{rest:List Value}{fI:Addr}{oI:Obj}{Q:Fin->Shared->Prop}(T:Two h C N D mN mD bmB newId)(F:YeV B newId initId bmB)(hD:mD "__init__" = none)(hi:mN "__init__" = some (.ref fI))(hfI:h.get? fI=some oI)(hfc:oI.cls=.type "function")(hr:rest.length<=Yan)
  (hq:∀ h' e,Heap.MadeExcOf h h' e (.ref C) rest->h.objs.size<=e->wpAny (model prog w) A (call (.ref fI) (.ref e::rest)) (fun r s'=>r=.none/\Q (.done (.ret (.ref e))) s') E ⟨h',g,d,t,os⟩) :
  wpAny (model prog w) A (Builtin.«type.__call__» ⟨.ref C::rest,[]⟩) Q E ⟨h,g,d,t,os⟩:=by
 have tl:=T.tail hD
 obtain ⟨nm,q,bs,sn,sub,ab,col,dd,k0,k1,k2,k3,k5,e⟩:=T.cls
 repeat (first | with_reducible refine YaK e ?_ | with_reducible refine wpAny_madeBy_exc e ?_ | wp_step)
 refine codeAny_call_builtin_code (Yf4 _ F.quiet) (wpAny_check_new_subT F tl e (codeAny_exc_new_subT F tl e ?_ hr))
 show wpAny _ _ _ _ _ _
 generalize hh:(h.push { cls:=.type "tuple",data:=.seq rest.toArray }).push { cls:=.ref C,data:=.fields #[.ref h.objs.size,.none,.none,.none,.bool false,.none] }=h1
 have k:∀ b o,h.get? b=some o->h1.get? b=some o:=fun b o z=>by rw [<- hh]; exact Yaf _ (Yaf _ z)
 have T1:=T.keeps k
 have g1:h1.get? (h.objs.size + 1)=some { cls:=.ref C,data:=.fields #[.ref h.objs.size,.none,.none,.none,.bool false,.none] }:=by rw [<- hh]; heap_get
 have g2:h1.get? h.objs.size=some { cls:=.type "tuple",data:=.seq rest.toArray }:=by rw [<- hh]; exact Yaf _ (Yf9 rfl rfl)
 have hc:(Yae C::.ref D::bmB).contains (.ref C)=true:=by simp
 have e1:=k _ _ e
 unfold YfI
 repeat (first | with_reducible refine YaK g1 ?_ | (with_reducible refine Ycg e1 ?_; rw [hc]) | wp_step)
 show wpAny _ _ (Ybp (.ref C) _) _ _ _
 refine T1.own hi ?_
 refine Yb5 (Yab ?_)
 unfold bindSpecial
 refine Yab (Yd0 (T := "function") ⟨_,k _ _ hfI,hfc⟩ ?_)
 rw [if_pos (by decide)]
 refine Yam (Yab (Ybc (hq _ (h.objs.size + 1) ⟨k,YdQ (YeM _),h.objs.size,g1,YdQ (Yak _),g2⟩ (YeM _)) (fun r s' z=>?_) fun _ _ z=>z))
 obtain ⟨rfl,z⟩:=z
 wp_walk
 exact z
theorem Two.make {initId:String}{rest:List Value}{fI:Addr}{oI:Obj}{Q:Value->Shared->Prop}(T:Two h C N D mN mD bmB newId)(F:YeV B newId initId bmB)(hD:mD "__init__" = none)(hi:mN "__init__" = some (.ref fI))(hfI:h.get? fI=some oI)(hfc:oI.cls=.type "function")(hr:rest.length<=Yan)
  (hq:∀ h' e,Heap.MadeExcOf h h' e (.ref C) rest->h.objs.size<=e->wpAny (model prog w) (A.under (.builtin "type.__call__" ⟨.ref C::rest,[]⟩)) (call (.ref fI) (.ref e::rest)) (fun r s'=>r=.none/\Q (.ref e) s') E ⟨h',g,d,t,os⟩) :
  wpAny (model prog w) A (call (.ref C) rest) Q E ⟨h,g,d,t,os⟩:=by
 obtain ⟨nm,q,bs,sn,sub,ab,col,dd,k0,k1,k2,k3,k5,e⟩:=T.cls
 have f1:=tc_lookup
 have f2:=tc_bind (.ref C)
 have ty:(⟨h,g,d,t,os⟩:Shared).TypeIs (.ref C) "type" := ⟨_,e,rfl⟩
 refine wpAny_call (codeAny_of_tree ?_)
 show wpAny _ _ (callAny (.ref C) _) _ _ _
 repeat (any_goals (first | assumption | with_reducible refine YaK e ?_ | wp_step))
 refine ⟨rfl,codeAny_call_builtin_at (Yf4 _ (by decide +kernel)) entry_typeCall (wpAny_check_type_call_sub e (T.made (hr:=hr) F hD hi hfI hfc fun h' e' hm hz=>?_))⟩
 exact hq h' e' hm hz
structure Reads (B:String)(bmB:List Value):Prop where
 ga:Slot B "__getattribute__" "BaseException.__getattribute__"
 mro:mroOf (.type B)=pure bmB
 no:Ybp (.type B) "__getattr__" = pure none
 has:bmB.contains (.type "BaseException")=true
theorem Two.gaCheck {M:Model}{o:Obj}{nameV:Value}{Q:Unit->Shared->Prop}(T:Two h C N D mN mD bmB newId)(R:Reads B bmB)(hx:h.get? x=some o)(hc:o.cls=.ref C)(hq:Q () ⟨h,g,d,t,os⟩) :
  wpAny M A (YdP "BaseException.__getattribute__" ⟨[.ref x,nameV],[]⟩) Q E ⟨h,g,d,t,os⟩:=by
 obtain ⟨nm,q,bs,sn,sub,ab,col,dd,k0,k1,k2,k3,k5,e⟩:=T.cls
 have c1:builtinKind "BaseException.__getattribute__" = some .slot:=by decide +kernel
 have c2:splitId "BaseException.__getattribute__" = some ("BaseException", "__getattribute__"):=by decide +kernel
 have hb:(Yae C::.ref D::bmB).contains (.type "BaseException")=true:=by rw [YbX,YbX,R.has,Yc7,Yc7]
 have ha:=F.args_bexc_ga (.ref x) nameV
 simp only [YdP,c1,c2]
 refine Yab ?_
 unfold YfI
 repeat (first | (with_reducible refine YaK hx ?_; rw [hc]) | (with_reducible refine Ycg e ?_; rw [hb]) | wp_step)
 exact hq
theorem Two.gaEntry {o:Obj}{dx:Addr}{tk:Tok}{Q:Fin->Shared->Prop}(T:Two h C N D mN mD bmB newId)(R:Reads B bmB)(hx:h.get? x=some o)(hc:o.cls=.ref C)(hnc:∀ c,o.data≠.cls c)(hd:o.dict=some dx)(hns:h.Ns dx mA)(hv:mA name=some v)
  (hB:Ybp (.type B) name=pure none) (n1:mN name=none) (n2:mD name=none) (hq:Q (.done (.ret v)) ⟨h,g,d,t,os⟩) :
  wpAny (model prog w) A (Builtin.«object.__getattribute__» ⟨[.ref x,.str name tk],[]⟩) Q E ⟨h,g,d,t,os⟩:=by
 obtain ⟨nm,q,bs,sn,sub,ab,col,dd,k0,k1,k2,k3,k5,e⟩:=T.cls
 unfold Builtin.«object.__getattribute__»
 repeat (first | (with_reducible refine YaK hx ?_; rw [hc]) | (with_reducible refine T.look hB R.mro n1 n2 ?_) | wp_step)
 split
 ·rename_i c z
  exact absurd z (hnc c)
 unfold instanceDict
 repeat (first | (with_reducible refine YaK hx ?_; rw [hc]) | with_reducible refine YaK e ?_ | wp_step)
 rw [hd]
 repeat (first | (with_reducible refine wpAny_nsGet hns ?_; rw [hv]) | wp_step)
 exact hq
theorem Two.get {o:Obj}{dx:Addr}{expr:Bool}{Q:Value->Shared->Prop}(T:Two h C N D mN mD bmB newId)(R:Reads B bmB)(hx:h.get? x=some o)(hc:o.cls=.ref C)(hnc:∀ c,o.data≠.cls c)(hd:o.dict=some dx)(hns:h.Ns dx mA)(hv:mA name=some v)(hh:handedOut v=pure v)
  (hB:Ybp (.type B) name=pure none) (g1:mN "__getattribute__" = none) (g2:mD "__getattribute__" = none) (a1:mN "__getattr__" = none) (a2:mD "__getattr__" = none) (n1:mN name=none) (n2:mD name=none) (hq:Q v ⟨h,g,d,t + 1,os⟩) :
  wpAny (model prog w) A (getAttr (.ref x) name expr) Q E ⟨h,g,d,t,os⟩:=by
 have f3:=R.ga.bind (.ref x)
 have c0:(expr && onTheHeap (Yco "BaseException.__getattribute__"))=false:=by cases expr <;> rfl
 have c2:(Yco "BaseException.__getattribute__" == Yco "object.__getattribute__")=false:=by decide +kernel
 have c1:(onTheHeap (Yae C) && Yco "BaseException.__getattribute__" == Yco "object.__getattribute__")=false:=by rw [c2]; rfl
 unfold getAttr
 repeat (any_goals (first | assumption | (with_reducible refine YaK hx ?_; rw [hc]) | (with_reducible refine T.look R.ga.lookup R.mro g1 g2 ?_) | (with_reducible refine T.look R.no R.mro a1 a2 ?_) | wp_step))
 refine Yd9 R.ga.plain F.entry_bexc_ga (T.gaCheck R hx hc (T.gaEntry R hx hc hnc hd hns hv hB n1 n2 ?_))
 repeat (any_goals (first | assumption | wp_step))
 all_goals first | exact hq | (rw [hh]; exact Yam hq) | skip
theorem jd6 {M:Model}{s:Shared}{dx:Addr}{tk:Tok}{mB:Str->Option Value}{ns:List Str}{Q:Fin->Shared->Prop}(n1:s.heap.Ns1 dx mB)(hw:Within mB ns)(hl:ns.length < Yan)
  (hq:∀ h' tk',h'.Ns1 dx (fun y=>if y=name then some v else mB y)->Yei dx s.heap h'->Q (.done (.ret .none)) { s with heap:=h',toks:=tk' }) :
  wpAny M A (storeInDict dx (.str name tk) name v) Q E s:=by
 refine Yab (m:=newKeyGuard _ _ _) (Yam (Yab (wpAny_nsSet1 n1 fun h' n2 sb=>?_)))
 rcases n2.count (Within.cons name v hw) with ⟨o,es,ep,ho,hd,le⟩
 have room:es.size<=Yan:=Yaw le (by rw [YbJ]; exact hl)
 refine Yab (wpAny_lookBehind ho (hd ▸ pastItsLine_dict (Yef room)) ?_)
 exact Yam (hq h' _ n2 sb)
theorem Two.put {tk:Tok}{Q:Fin->Shared->Prop}{o:Obj}{ns:List Str}(T:Two h C N D mN mD bmB newId)(SF:YdH B bmB sa owner)(n1:mN name=none)(n2:mD name=none)(hB:Ybp (.type B) name=pure none)(hx:h.get? x=some o)(hc:o.cls=.ref C)(hnc:∀ c,o.data≠.cls c)
  (hd:(o.dict=none/\∀ n,mA n=none)\/∃ dx,o.dict=some dx/\dx≠x/\h.Ns1 dx mA) (hw:Within mA ns) (hl:ns.length < Yan)
  (hq:∀ h' tk' dx,(o.dict=some dx\/(o.dict=none/\dx=h.objs.size))->dx≠x->h'.get? x=some { o with dict:=some dx }->h'.Ns1 dx (fun y=>if y=name then some v else mA y)->(∀ b u,b≠x->b≠dx->h.get? b=some u->h'.get? b=some u)->Q (.done (.ret .none)) ⟨h',g,d,tk',os⟩) :
  wpAny (model prog w) A (Builtin.«object.__setattr__» ⟨[.ref x,.str name tk,v],[]⟩) Q E ⟨h,g,d,t,os⟩:=by
 obtain ⟨nm,q,bs,sn,sub,ab,col,dd,k0,k1,k2,k3,k5,e⟩:=T.cls
 have ps:=SF.passes (.ref x)
 unfold Builtin.«object.__setattr__»
 repeat (first | rw [refuse_eq] | (rw [refuseLoop_ref,refuseLoop_ref,ps]) | (with_reducible refine YaK hx ?_; rw [hc]) | with_reducible refine Yfd e ?_ | (with_reducible refine T.look hB SF.mro n1 n2 ?_) | with_reducible refine YaK e ?_ | wp_step)
 rcases hd with ⟨dn,ma⟩ | ⟨dx,de,dne,dns⟩
 ·rw [dn,if_neg (by simp [typeHasDict])]
  split
  ·rename_i z
   cases z
  split
  ·rename_i c z
   exact absurd z (hnc c)
  ·have xs:x≠h.objs.size:=Ya8 (Yav hx)
   have x1:=Yaf { cls:=.type "dict",data:=.dict #[] } hx
   refine Yab (wpAny_alloc' (Yab (wpAny_update' x1 (Yam ?_))))
   have fr:({ cls:=o.cls,dict:=some h.objs.size,data:=o.data,slots:=o.slots }:Obj).isFreed=false:=by
    have:=(Heap.get?_some_iff.mp hx).2
    obtain ⟨c1,c2,c3,c4⟩:=o
    cases c3 <;> first | rfl | exact this
   have x2:=Yb0 (fun o=>({ cls:=o.cls,dict:=some h.objs.size,data:=o.data,slots:=o.slots }:Obj)) x1 fr
   have d2:((h.push { cls:=.type "dict",data:=.dict #[] }).update x fun o=>{ cls:=o.cls,dict:=some h.objs.size,data:=o.data,slots:=o.slots }).get? h.objs.size=some { cls:=.type "dict",data:=.dict #[] }:=(Ydi _ _ _ _ xs.symm).trans (Yf9 rfl rfl)
   have k2:∀ b u,b≠x->h.get? b=some u->((h.push { cls:=.type "dict",data:=.dict #[] }).update x fun o=>{ cls:=o.cls,dict:=some h.objs.size,data:=o.data,slots:=o.slots }).get? b=some u:=fun b u z e=>(Ydi _ _ _ _ z).trans (Yaf _ e)
   generalize ((h.push { cls:=.type "dict",data:=.dict #[] }).update x fun o=>{ cls:=o.cls,dict:=some h.objs.size,data:=o.data,slots:=o.slots })=h2 at x2 d2 k2 ⊢
   have nd:h2.Ns h.objs.size (fun _=>none):=⟨_,#[],_,d2,rfl,fun e he=>absurd he (by simp),fun _=>rfl⟩
   refine jd6 (Heap.Ns1.of_empty nd) Within.nil (Nat.zero_lt_of_lt hl) fun h' tk' hn' hs=>?_
   refine hq h' tk' h.objs.size (.inr ⟨dn,rfl⟩) xs.symm ((hs.2 x xs).trans x2) ?_ fun b u z1 z2 z=>(hs.2 b z2).trans (k2 b u z1 z)
   obtain ⟨o',es,ep,e1,e2,e3,eu,e4⟩:=hn'
   exact ⟨o',es,ep,e1,e2,e3,eu,fun y=>by rw [e4 y]; by_cases hy:y=name <;> simp [hy,ma]⟩
 ·rw [de]
  refine Yam (jd6 dns hw hl fun h' tk' hn' hs=>?_)
  refine hq h' tk' dx (.inl de) dne ?_ hn' fun b u z1 z2 z=>(hs.2 b z2).trans z
  rw [hs.2 x dne.symm,hx,<- de]
theorem Two.set {Q:Unit->Shared->Prop}{o:Obj}{ns:List Str}(T:Two h C N D mN mD bmB newId)(SF:YdH B bmB sa owner)(s1:mN "__setattr__" = none)(s2:mD "__setattr__" = none)(n1:mN name=none)(n2:mD name=none)(hB:Ybp (.type B) name=pure none)(hx:h.get? x=some o)(hc:o.cls=.ref C)(hnc:∀ c,o.data≠.cls c)
  (hd:(o.dict=none/\∀ n,mA n=none)\/∃ dx,o.dict=some dx/\dx≠x/\h.Ns1 dx mA) (hw:Within mA ns) (hl:ns.length < Yan)
  (hq:∀ h' tk' dx,(o.dict=some dx\/(o.dict=none/\dx=h.objs.size))->dx≠x->h'.get? x=some { o with dict:=some dx }->h'.Ns1 dx (fun y=>if y=name then some v else mA y)->(∀ b u,b≠x->b≠dx->h.get? b=some u->h'.get? b=some u)->Q () ⟨h',g,d,tk',os⟩) :
  wpAny (model prog w) A (setAttr (.ref x) name v) Q E ⟨h,g,d,t,os⟩:=by
 have f3:=SF.slot.bind (.ref x)
 unfold setAttr callSpecial? specialOf
 repeat (any_goals (first | assumption | (with_reducible refine YaK hx ?_; rw [hc]) | (with_reducible refine T.look SF.slot.lookup SF.mro s1 s2 ?_) | wp_step))
 refine Yd9 SF.slot.plain SF.entry (T.check SF hx hc (T.put SF n1 n2 hB hx hc hnc hd hw hl fun h' tk' dx z1 z2 z3 z4 z5=>?_))
 repeat (any_goals (first | assumption | wp_step))
 exact hq h' tk' dx z1 z2 z3 z4 z5
end
theorem ja7:Reads "ValueError" [.type "ValueError",.type "Exception",.type "BaseException",.type "object"] where
 ga:=.of (owner := "BaseException") (n := "__getattribute__") (by rw [YcY,Yb6]; kernel_rfl) (by decide +kernel) (by decide +kernel) (by decide +kernel)
  (by first | exact .inl (by decide +kernel) | exact .inr (by decide +kernel)) (by rw [isSubtype_type]; kernel_rfl)
 mro:=by kernel_rfl
 no:=by rw [YcY,Yb6]; kernel_rfl
 has:=by decide
section
variable {X:Cx}{pins:List (Addr×Obj)}{σ:St}{H:Hp}{s:Shared}
theorem Inv.sooner {sb:Shared}(I:Inv X pins σ H s)(k:∀ b o,sb.heap.get? b=some o->X.s₀.heap.get? b=some o)(ho:sb.os=X.s₀.os)(hz:sb.heap.objs.size<=X.s₀.heap.objs.size)(hb:∀ b o,X.base.get? b=some o->sb.heap.get? b=some o/\X.H₀ b=none)(hbz:X.base.objs.size<=sb.heap.objs.size)(hf:sb.heap.FunFrames X.base X.outer) :
  Inv { X with s₀:=sb } pins σ H s:=by
 refine ⟨⟨I.ok.mod,I.ok.kind,I.ok.glob,I.ok.blt,Yaw hz I.ok.above,I.ok.inj,I.ok.has,fun x c h e=>Yaw hz (I.ok.cab x c h e),I.ok.hd,I.ok.frames,I.ok.stk,I.ok.exf,hb,hbz,I.ok.noex,I.ok.exfs,hf,I.ok.frf⟩,I.os.trans ho.symm,I.bare,(Un.kept k).trans I.base,I.loc,I.cell,I.free,I.freeC,I.pin,I.hok,I.len⟩
theorem Inv.xput {h':Heap}{t':Nat}{e dx:Addr}{oe:Obj}{vs:Array Value}{fs:List (Str×V)}(I:Inv X pins σ H s)(hH:H e=none)(hlo:X.s₀.heap.objs.size<=e)(ge:s.heap.get? e=some oe)(gd:oe.data=.fields vs)(hp:∀ p∈X.pn++pins,p.1≠e)
  (hdx:s.heap.objs.size<=dx\/∃ fs0,H dx=some (.xd fs0)) (k:∀ b u,b≠e->b≠dx->s.heap.get? b=some u->h'.get? b=some u) (new:jaz X.prog X.w (upd H dx (.xd fs)) h' dx (.xd fs)):Inv X pins σ (upd H dx (.xd fs)) { s with heap:=h',toks:=t' }:=by
 have nt:∀ b o,s.heap.get? b=some o->H b=none->b≠dx:=fun b o g n z=>by
  rcases hdx with q | ⟨fs0,q⟩
  ·rw [z] at g; exact absurd (Yav g) (Nat.not_lt.mpr q)
  ·rw [z,q] at n; cases n
 have ne:∀ b u,H b=some u->b≠e:=fun b u g z=>by rw [z,hH] at g; cases g
 have nx:∀ b u,H b=some u->(∀ f0,u≠.xd f0)->b≠dx:=fun b u g hu z=>by
  rcases hdx with q | ⟨fs0,q⟩
  ·rw [z,I.hok.fresh q] at g; cases g
  ·rw [z,q] at g; cases g; exact hu fs0 rfl
 obtain ⟨od,god⟩:∃ o,h'.get? dx=some o:=by obtain ⟨_,⟨o,_,_,z,_⟩,_⟩:=new; exact ⟨o,z⟩
 obtain ⟨m0,⟨oL,esL,epL,gL,rL⟩,hLk⟩:=id I.loc
 have hLe:X.env.locals≠e:=fun z=>by
  rw [z,ge] at gL
  cases gL
  have:=rL.1
  rw [gd] at this; cases this
 refine I.step (g':=s.gens) (d':=s.drawn) (ch:=[e]) (fun b hb=>?_) (fun b o _ _ hc g n=>k b o (fun z=>hc (by simp [z])) (nt b o g n) g) (fun b o _ _ hc g n=>⟨o.slots,k b o (fun z=>hc (by simp [z])) (nt b o g n) g⟩) (fun b o _ g n=>by rw [jab (nt b o g n)]; exact n)
  (fun b o hc g=>?_) (fun b ys g=>by rw [jab (nx b _ g fun _ z=>nomatch z)]; exact g) (fun b o u g=>by rw [jab (nx b _ g fun _ z=>nomatch z)]; exact g) (fun b ps g=>⟨#[],by rw [jab (nx b _ g fun _ z=>nomatch z),g]; simp⟩) (fun m hm=>?_) (fun a o g=>?_) I.bare
 ·have z:b=e:=by simpa using hb
  subst z
  refine ⟨.inr hlo,Ne.symm hLe,fun x c q z=>?_,hp⟩
  obtain ⟨v,o',ho,hc⟩:=I.cell x c q
  rw [z,ge] at ho
  cases ho
  rw [gd] at hc; cases hc
 ·by_cases z:b=dx
  ·exact ⟨od,z ▸ god⟩
  ·exact ⟨o,k b o (fun z=>hc (by simp [z])) z g⟩
 ·obtain ⟨o,es,ep,ho,r⟩:=hm
  exact ⟨o,es,ep,k _ o hLe (nt _ o ho I.free) ho,r⟩
 ·by_cases z:a=dx
  ·subst z
   rw [jaf] at g
   cases g
   exact new
  ·rw [jab z] at g
   refine (I.hok a o g).stay (fun b v hb q=>?_) (fun b q=>by rw [jab (nx b _ q fun _ z=>nomatch z)]; exact q) fun b ys q=>by rw [jab (nx b _ q fun _ z=>nomatch z)]; exact q
   rcases hb with z' | z'
   ·subst z'; exact k b v (ne b _ g) z q
   ·exact k b v (ne b _ z') (nx b _ z' fun _ z=>nomatch z) q
theorem jd2 {g:Str}:∀ {fs:List (Str×V)},g∉fs.map (·.1)->fs.lookup g=none
 | [],_=>rfl
 | (a,v)::r,h=>by
  rw [Ybj]
  have:(g == a)=false:=by
   rw [beq_eq_false_iff_ne]
   exact fun z=>h (by rw [z]; simp)
  rw [this]
  exact jd2 fun z=>h (by simp at z ⊢; exact .inr z)
theorem xset {A:Around}{E:Value->Shared->Prop}{Q:Unit->Shared->Prop}{C N D e:Addr}{bmB:List Value}{B newId sa owner:String}{mN mD:Str->Option Value}{f:Str}{v:V}{u:Value}{oe:Obj}{vs:Array Value}{fs:List (Str×V)}(I:Inv X pins σ H s)(T:Two s.heap C N D mN mD bmB newId)(SF:YdH B bmB sa owner)
  (s1:mN "__setattr__" = none) (s2:mD "__setattr__" = none) (n1:mN f=none) (n2:mD f=none) (hB:Ybp (.type B) f=pure none) (hH:H e=none) (hlo:X.s₀.heap.objs.size<=e) (ge:s.heap.get? e=some oe) (hc:oe.cls=.ref C) (gd:oe.data=.fields vs) (hp:∀ p∈X.pn++pins,p.1≠e)
  (hd:(oe.dict=none/\fs=[])\/∃ dx,oe.dict=some dx/\H dx=some (.xd fs)) (hl:fs.length < 1000) (ru:RelV v u)
  (q:∀ s' dx,Inv X pins σ (upd H dx (.xd (putF f v fs))) s'->s'.heap.get? e=some { oe with dict:=some dx }->(∀ b u,b≠e->b≠dx->s.heap.get? b=some u->s'.heap.get? b=some u)->(oe.dict=some dx\/(oe.dict=none/\H dx=none))->Q () s') :
  wpAny (model X.prog X.w) A (setAttr (.ref e) f u) Q E s:=by
 have nc:∀ c,oe.data≠.cls c:=fun c z=>by rw [gd] at z; cases z
 have fin:∀ (mA:Str->Option Value) (h':Heap) (tk:Nat) (dx:Addr),(∀ g,RelO (fs.lookup g) (mA g))->(s.heap.objs.size<=dx\/∃ fs0,H dx=some (.xd fs0))->(oe.dict=some dx\/(oe.dict=none/\H dx=none))->h'.get? e=some { oe with dict:=some dx }->h'.Ns1 dx (fun y=>if y=f then some u else mA y)->(∀ b u,b≠e->b≠dx->s.heap.get? b=some u->h'.get? b=some u)->Q () { s with heap:=h',toks:=tk }:=fun mA h' tk dx r z0 z1 z2 z3 z4=>by
  refine q _ dx (I.xput hH hlo ge gd hp z0 z4 ⟨_,z3,fun g=>?_⟩) z2 z4 z1
  rw [jcE]
  by_cases hg:g=f
  ·rw [if_pos hg,if_pos hg]; exact ru
  ·rw [if_neg hg,if_neg hg]; exact r g
 obtain ⟨hh,gg,dr,tk,os⟩:=s
 rcases hd with ⟨dn,rfl⟩ | ⟨dx,de,hx⟩
 ·refine T.set (mA:=fun _=>none) (ns:=[]) SF s1 s2 n1 n2 hB ge hc nc (.inl ⟨dn,fun _=>rfl⟩) Within.nil (by rw [YbK]; decide) fun h' tk' dx z1 z2 z3 z4 z5=>?_
  rcases z1 with z1 | ⟨_,rfl⟩
  ·rw [dn] at z1; cases z1
  ·exact fin (fun _=>none) h' tk' _ (fun g=>Ydv) (.inl (Yak _)) (.inr ⟨dn,I.hok.fresh (Yak _)⟩) z3 z4 z5
 ·obtain ⟨mA,n,r⟩:=(show jaz X.prog X.w H hh dx (.xd fs) from I.hok dx _ hx)
  refine T.set (mA:=mA) (ns:=fs.map (·.1)) SF s1 s2 n1 n2 hB ge hc nc (.inr ⟨dx,de,fun z=>(by rw [z,hH] at hx; cases hx),n⟩) (fun g hg=>?_) (by rw [Yai,YbK]; omega) fun h' tk' dx' z1 z2 z3 z4 z5=>?_
  ·refine Classical.byContradiction fun z=>hg ?_
   have:=r g
   rw [jd2 z] at this
   exact RelO.none_of this
  ·rcases z1 with z1 | ⟨z1,_⟩
   ·have z:dx'=dx:=by rw [de] at z1; exact (YaU z1).symm
    subst z
    exact fin _ h' tk' _ r (.inr ⟨fs,hx⟩) (.inl de) z3 z4 z5
   ·rw [de] at z1; cases z1
theorem xstep {Q:Flow->Shared->Prop}{C N D e:Addr}{bmB:List Value}{B newId sa owner:String}{mN mD:Str->Option Value}{f self a:Str}{v:V}{oe:Obj}{vs:Array Value}{fs:List (Str×V)}{i j:Nat}{p1 p2 p3 pos:Pos}(I:Inv X [(e,oe)] σ H s)(hpn:X.pn=[])(T:Two X.base C N D mN mD bmB newId)(SF:YdH B bmB sa owner)
  (s1:mN "__setattr__" = none) (s2:mD "__setattr__" = none) (n1:mN f=none) (n2:mD f=none) (hB:Ybp (.type B) f=pure none) (hlo:X.s₀.heap.objs.size<=e) (hc:oe.cls=.ref C) (gd:oe.data=.fields vs) (hd:(oe.dict=none/\fs=[])\/∃ dx,oe.dict=some dx/\H dx=some (.xd fs)) (hl:fs.length < 1000)
  (hs:PE X (.Name self p1) (tVar i)) (ha:PE X (.Name a p3) (tVar j)) (hi:σ[i]?=some (some (.ref e))) (hj:σ[j]?=some (some v)) (hsw:YcI (.Name a p3) (some (.Attribute (.Name self p1) f p2)) pos.line X.env=pure false)
  (q:∀ s' dx,Inv X [(e,{ oe with dict:=some dx })] σ (upd H dx (.xd (putF f v fs))) s'->(oe.dict=some dx\/(oe.dict=none/\H dx=none))->Q .next s') :
  wpAny (model X.prog X.w) X.A (exec (.Assign [.Attribute (.Name self p1) f p2] (.Name a p3) pos) X.env) Q X.xe s:=by
 refine plainObj_wpAny_Assign_Attribute (thn (ha _ s σ H (fun y H1=>y=v/\H1=H) I ⟨v,hj,rfl,rfl⟩) fun u s3 ⟨y,H1,I1,ry,hy,hH1⟩=>?_) hsw
 subst hy
 subst hH1
 refine thn (hs _ s3 σ H1 (fun z H2=>z=.ref e/\H2=H1) I1 ⟨_,hi,rfl,rfl⟩) fun ov s4 ⟨z,H2,I2,rz,hz,hH2⟩=>?_
 subst hz
 subst hH2
 obtain rfl:ov=Yae e:=rz
 obtain ⟨ge,hH,hL,hfs,hcl⟩:=I2.pin (e,oe) (by simp)
 have J:Inv X [] σ H2 s4:=I2.pins_of fun p hp=>absurd hp (by simp)
 refine xset J (T.keeps I2.bk) SF s1 s2 n1 n2 hB hH hlo ge hc gd (fun p hp=>by rw [hpn] at hp; simp at hp) hd hl ry fun s5 dx J5 g5 k5 z5=>?_
 refine q s5 dx (J5.pins_of fun p hp=>?_) z5
 obtain rfl:p=(e,{ oe with dict:=some dx }):=by simpa using hp
 refine ⟨g5,?_,hL,hfs,fun v z=>hcl v z⟩
 show upd H2 dx _ e=none
 rw [jab,hH]
 rintro rfl
 rcases z5 with z5 | z5
 ·rcases hd with ⟨w0,_⟩ | ⟨dx',w1,w2⟩
  ·rw [w0] at z5; cases z5
  ·rw [w1] at z5
   cases z5
   rw [hH] at w2; cases w2
 ·have:=J5.free
  obtain ⟨_,_,_⟩:=J5.hok e _ jaf
  rename_i mA n r
  obtain ⟨o',es,ep,g',d',_⟩:=n
  rw [g5] at g'
  cases g'
  rw [show ({ oe with dict:=some e }:Obj).data=oe.data from rfl,gd] at d'
  cases d'
end
theorem jh4 {CX:CXT}{P:Program}{w:World}{K:Yac}{mg:Str->Option Value}{base:Heap}{k:Nat}{f:Addr}{name qual:Str}{params:Yfk}{body:List Stmt}{scope:Scope}{dV kV doc pm cdv ct oc:Value}{an od:Option Addr}{osl:Array (Option Value)}{N ps:List Str}
  {A:Around} {outer:List Env} {s sb:Shared} {H:Hp} {E:XK} {args:Args} {us:List Value} {vs:List V} {e:Addr} {oe:Obj} {R:Result->Shared->Prop}
  (lk:K.lookup f=some ⟨oc,od,.func (YaX name qual params body scope dV kV doc pm an cdv ct),osl⟩) (hcd:Ya0 K cdv qual=true) (S:FnScope N ps scope) (hr:Room (k + 1) A) (e0:Env0 P w K mg base A outer s H)
  (hb:BindsTo s (YaX name qual params body scope dV kV doc pm an cdv ct) args (ps.zip us)) (r:Vals vs us) (hl:vs.length=ps.length) (ge:s.heap.get? e=some oe) (hH:H e=none) (hnc:∀ v,oe.data≠.cell v) (hfr:e∉frs outer)
  (kb:∀ b o,sb.heap.get? b=some o->s.heap.get? b=some o) (hos:sb.os=s.os) (hz:sb.heap.objs.size<=s.heap.objs.size) (hbs:∀ b o,base.get? b=some o->sb.heap.get? b=some o/\H b=none) (hbz:base.objs.size<=sb.heap.objs.size) (hfn:sb.heap.FunFrames base outer)
  (hbody:∀ s1,Inv { cxOf CX P w K mg base N qual scope f cdv A outer s H E with s₀:=sb } [(e,oe)] (start N vs) H s1->wpAny (model P w) (A.deeper (envOfC qual scope s.heap.objs.size f cdv)) (execs body (envOfC qual scope s.heap.objs.size f cdv)) (fun fl s'=>fl=.next/\R (.ok (.ret .none)) s') (fun _ _=>False) s1) :
  codeAny (model P w) A (.call (.ref f) args) R s:=by
 have KX:K.In s.heap:=e0.mod.kin.keeps fun b o z=>(e0.bs b o z).1
 have lim:s.heap.NoLimit:=e0.mod.nolimit.keeps fun b o z=>(e0.bs b o z).1
 have kind:∀ y∈ps.zip us,scope.names.lookup y.1=some .local\/(scope.names.lookup y.1=some .cell/\((YbG (s.heap.objs.size + 1) scope.names []).lookup y.1).isSome=true):=fun ⟨n,v⟩ hy=>by
  rcases S.par n (YdJ hy).1 with q | q
  ·exact .inl q
  ·exact .inr ⟨q,Ydx _ _ _ (.inl q)⟩
 refine Ygg hr.depth (KX _ _ lk) rfl S.co S.gen rfl (Yfm KX hcd) (hb _ _ _ _ ?_)
 refine Yfl S.kind kind fun env he s1 x=>?_
 subst he
 refine ⟨lim.keeps x.toInCall.keep,codeAny_func ?_⟩
 have I:Inv (cxOf CX P w K mg base N qual scope f cdv A outer s H E) [] (start N vs) H s1:=jd5 S hr.hd e0 hl r x
 have I1:Inv { cxOf CX P w K mg base N qual scope f cdv A outer s H E with s₀:=sb } [] (start N vs) H s1:=I.sooner kb hos hz hbs hbz hfn
 have I2:Inv { cxOf CX P w K mg base N qual scope f cdv A outer s H E with s₀:=sb } [(e,oe)] (start N vs) H s1:=I1.pins_of fun p hp=>by
  obtain rfl:p=(e,oe):=by simpa using hp
  exact ⟨x.toInCall.keep _ _ ge,hH,Ya8 (Yav ge),hfr,hnc⟩
 refine Ybc (hbody s1 I2) (fun fl s' ⟨z,h⟩=>?_) fun _ _ z=>z.elim
 subst z
 exact h
section
variable {X:Cx}{pins:List (Addr×Obj)}{σ:St}{H:Hp}{s:Shared}
noncomputable def jep (X:Cx)(C:Addr)(s:Shared)(H:Hp)(Nm:List Str)(qual:Str)(scope:Scope)(fI:Addr)(cdv:Value)(body:List Stmt)(vs:List V)(fs:List (Str×V)):Prop:=
 ∀ (A':Around) (sM s1:Shared) (e t:Addr),Inv { cxOf (CX1 X.prog X.w) X.prog X.w X.K X.mg X.base Nm qual scope fI cdv A' X.stack sM H (fun _ _ _=>False) with s₀:=s } [(e,{ cls:=.ref C,data:=.fields #[.ref t,.none,.none,.none,.bool false,.none] })] (start Nm (.ref e::vs)) H s1->s.heap.objs.size<=e->
  wpAny (model X.prog X.w) (A'.deeper (envOfC qual scope sM.heap.objs.size fI cdv)) (execs body (envOfC qual scope sM.heap.objs.size fI cdv)) (fun fl s'=>fl=.next/\∃ dx,H dx=none/\Inv { cxOf (CX1 X.prog X.w) X.prog X.w X.K X.mg X.base Nm qual scope fI cdv A' X.stack sM H (fun _ _ _=>False) with s₀:=s } [(e,{ cls:=.ref C,dict:=some dx,data:=.fields #[.ref t,.none,.none,.none,.bool false,.none] })] (start Nm (.ref e::vs)) (upd H dx (.xd fs)) s') (fun _ _=>False) s1
theorem xmake {Q:Value->Shared->Prop}{C N D fI:Addr}{bmB:List Value}{B newId initId:String}{mN mD:Str->Option Value}{k:Nat}{name qual:Str}{params:Yfk}{body:List Stmt}{scope:Scope}{dV kV doc pm cdv ct:Value}{an od:Option Addr}{osl:Array (Option Value)}{Nm ps:List Str}{us:List Value}{vs:List V}{fs:List (Str×V)}
  (I:Inv X pins σ H s) (T:Two X.base C N D mN mD bmB newId) (F:YeV B newId initId bmB) (hD:mD "__init__" = none) (hi:mN "__init__" = some (.ref fI)) (lk:X.K.lookup fI=some ⟨.type "function",od,.func (YaX name qual params body scope dV kV doc pm an cdv ct),osl⟩) (hcd:Ya0 X.K cdv qual=true) (S:FnScope Nm ps scope) (hr:Room (k + 2) X.A)
  (hb:Binds X.K (YaX name qual params body scope dV kV doc pm an cdv ct) ps []) (r:Vals vs us) (hl:vs.length + 1=ps.length) (hz:us.length<=Yan) (hbody:jep X C s H Nm qual scope fI cdv body vs fs)
  (q:∀ e dx s',H dx=none->Inv X pins σ (upd H dx (.xd fs)) s'->Lies X.s₀.heap.objs.size X.pn (upd H dx (.xd fs)) s'.heap e (.ref C) (some dx)->(∃ t,s'.heap.get? e=some { cls:=.ref C,dict:=some dx,data:=.fields #[.ref t,.none,.none,.none,.bool false,.none] })->Q (.ref e) s'):wpAny (model X.prog X.w) X.A (call (.ref C) us) Q X.xe s:=by
 obtain ⟨hh,gg,dr,tk,os⟩:=s
 have I0:=I
 refine (T.keeps I.bk).make F hD hi (I.kIn _ _ lk) rfl hz fun h' e hm he=>?_
 obtain ⟨t,ge,_,_⟩:=hm.there
 have e0:=I.env0.make C us []
 have e1:Env0 X.prog X.w X.K X.mg X.base (X.A.under (.builtin "type.__call__" ⟨.ref C::us,[]⟩)) X.stack ⟨h',gg,dr,tk,os⟩ H:=⟨e0.frames,e0.mod,fun b o z=>⟨hm.keeps _ _ (e0.bs b o z).1,(e0.bs b o z).2⟩,Yaw e0.bsz (Ycq (Ycm he (Yav ge))),e0.funs.of_keeps fun b o z _=>⟨o,hm.keeps _ _ z,rfl⟩,e0.frf,e0.hok.kept hm.keeps,e0.bare⟩
 have hH:H e=none:=I.hok.fresh he
 refine wpAny_call ?_
 refine jh4 (k:=k) (CX:=CX1 X.prog X.w) (E:=fun _ _ _=>False) (sb:=⟨hh,gg,dr,tk,os⟩) (us:=.ref e::us) (vs:=.ref e::vs) lk hcd S (hr.make C us []) e1 ?_ (.cons rfl r) (by simpa using hl) ge hH (fun v z=>by cases z) (fun z=>?_) hm.keeps rfl (Ycq (Ycm he (Yav ge))) e0.bs e0.bsz e0.funs fun s1 J=>?_
 ·have:=hb ⟨h',gg,dr,tk,os⟩ (.ref e::us) (e1.mod.kin.keeps fun b o z=>(e1.bs b o z).1) (by simp; have:=r.length; omega)
  simpa using this
 ·obtain ⟨_,o,ho,_⟩:=e0.funs.mem z
  exact absurd (Yav ho) (Nat.not_lt.mpr he)
 ·refine Ybc (hbody _ _ s1 e t J he) (fun fl s' ⟨z,dx,hdx,J'⟩=>⟨z,rfl,?_⟩) fun _ _ z=>z
  have Ix:Inv X pins σ (upd H dx (.xd fs)) s':=I.call' (ch:=[]) J'.os J'.base J'.hok J'.bare fun b z=>absurd z (by simp)
  obtain ⟨g1,g2,_⟩:=J'.pin _ (Ya5 _ (List.mem_singleton.mpr rfl))
  refine q e dx s' hdx Ix ⟨⟨_,_,g1,rfl,rfl,rfl,.inl rfl⟩,g2,Yaw I.sz he,fun p hp z=>?_⟩ ⟨t,g1⟩
  exact absurd (Yav (I.pin p (Ybu _ hp)).1) (Nat.not_lt.mpr (z ▸ he))
end
section
variable {X:Cx}{H:Hp}{s:Shared}{C N D fI:Addr}{bmB:List Value}{B newId sa owner:String}{mN mD:Str->Option Value}{qual self f a f2 a2:Str}{scope:Scope}{cdv:Value}{p1 p2 p3 pos q1 q2 q3 qos:Pos}{v v2:V}
theorem jnZ (T:Two X.base C N D mN mD bmB newId)(SF:YdH B bmB sa owner)(s1:mN "__setattr__" = none)(s2:mD "__setattr__" = none)(n1:mN f=none)(n2:mD f=none)(hB:Ybp (.type B) f=pure none)
  (h0:Vis scope self) (h1:Vis scope a) (d0:(self == ("__debug__" : Str))=false) (d1:(a == ("__debug__" : Str))=false) (c0:(self == ("__classdict__" : Str))=false) (c1:(a == ("__classdict__" : Str))=false)
  (sw:∀ env,YcI (.Name a p3) (some (.Attribute (.Name self p1) f p2)) pos.line env=pure false) :
  jep X C s H [self,a] qual scope fI cdv [.Assign [.Attribute (.Name self p1) f p2] (.Name a p3) pos] [v] [(f,v)]:=by
 intro A' sM s1' e t J he
 have J':=J.wish fun _ _=>False
 refine Ydl (xstep (X:=Cx.wish _ fun _ _=>False) (i:=0) (j:=1) (fs:=[]) J' rfl T SF s1 s2 n1 n2 hB he rfl rfl (.inl ⟨rfl,rfl⟩) (by decide) (jbJ rfl h0 d0 c0) (jbJ rfl h1 d1 c1) rfl rfl (sw _) fun s' dx K z=>?_)
 refine Yam ⟨rfl,dx,?_,K.unwish⟩
 rcases z with z | z
 ·cases z
 ·exact z.2
theorem jnY (T:Two X.base C N D mN mD bmB newId)(SF:YdH B bmB sa owner)(s1:mN "__setattr__" = none)(s2:mD "__setattr__" = none)(n1:mN f=none)(n2:mD f=none)(hB:Ybp (.type B) f=pure none)(m1:mN f2=none)(m2:mD f2=none)(hB2:Ybp (.type B) f2=pure none)(hne:f≠f2)
  (h0:Vis scope self) (h1:Vis scope a) (h2:Vis scope a2) (d0:(self == ("__debug__" : Str))=false) (d1:(a == ("__debug__" : Str))=false) (d2:(a2 == ("__debug__" : Str))=false) (c0:(self == ("__classdict__" : Str))=false) (c1:(a == ("__classdict__" : Str))=false) (c2:(a2 == ("__classdict__" : Str))=false)
  (sw:∀ env,YcI (.Name a p3) (some (.Attribute (.Name self p1) f p2)) pos.line env=pure false) (sw2:∀ env,YcI (.Name a2 q3) (some (.Attribute (.Name self q1) f2 q2)) qos.line env=pure false) :
  jep X C s H [self,a,a2] qual scope fI cdv [.Assign [.Attribute (.Name self p1) f p2] (.Name a p3) pos,.Assign [.Attribute (.Name self q1) f2 q2] (.Name a2 q3) qos] [v,v2] [(f,v),(f2,v2)]:=by
 intro A' sM s1' e t J he
 have J':=J.wish fun _ _=>False
 refine Ydl (xstep (X:=Cx.wish _ fun _ _=>False) (i:=0) (j:=1) (fs:=[]) J' rfl T SF s1 s2 n1 n2 hB he rfl rfl (.inl ⟨rfl,rfl⟩) (by decide) (jbJ rfl h0 d0 c0) (jbJ rfl h1 d1 c1) rfl rfl (sw _) fun s' dx K z=>?_)
 have hn:H dx=none:=by
  rcases z with z | z
  ·cases z
  ·exact z.2
 refine Ydl (xstep (X:=Cx.wish _ fun _ _=>False) (i:=0) (j:=2) (fs:=[(f,v)]) K rfl T SF s1 s2 m1 m2 hB2 he rfl rfl (.inr ⟨dx,rfl,jaf⟩) (by simp) (jbJ rfl h0 d0 c0) (jbJ rfl h2 d2 c2) rfl rfl (sw2 _) fun s'' dx' K2 z2=>?_)
 have e1:dx'=dx:=by
  rcases z2 with z2 | z2
  ·exact (YaU z2).symm
  ·exact nomatch z2.1
 subst e1
 have K3:=K2.unwish
 have e2:putF f2 v2 [(f,v)]=[(f,v),(f2,v2)]:=by show (if f=f2 then _ else _)=_; rw [if_neg hne]; rfl
 have e3:upd (upd H dx' (.xd (putF f v []))) dx' (.xd (putF f2 v2 [(f,v)]))=upd H dx' (.xd [(f,v),(f2,v2)]):=by
  rw [e2]
  funext b
  by_cases hb:b=dx'
  ·rw [hb,jaf,jaf]
  ·rw [jab hb,jab hb,jab hb]
 rw [e3] at K3
 exact Yam ⟨rfl,dx',hn,K3⟩
end
section
variable {M:Model}{A:Around}{E:Value->Shared->Prop}{env:Env}{C N D:Addr}{bmB:List Value}{newId:String}{mN mD:Str->Option Value}
theorem Two.raise {s:Shared}{x:Sem Value}{Q:Flow->Shared->Prop}(hbase:bmB.contains (.type "BaseException")=true)(hh:A.handled=none)
  (h:wpAny M A x (fun v s1=>∃ e t dx,v=.ref e/\Two s1.heap C N D mN mD bmB newId/\s1.heap.get? e=some { cls:=.ref C,dict:=some dx,data:=.fields #[.ref t,.none,.none,.none,.bool false,.none] }/\E (.ref e) s1) E s):wpAny M A (raiseStmt env (some x) none) Q E s:=by
 have hb:(Yae C::.ref D::bmB).contains (.type "BaseException")=true:=by rw [YbX,YbX,hbase,Yc7,Yc7]
 unfold raiseStmt
 refine Yab (Ybc h (fun v s1 h1=>?_) fun _ _ z=>z)
 obtain ⟨e,t,dx,rfl,T,he,hE⟩:=h1
 obtain ⟨nm,q,bs,sn,sub,ab,col,dd,k0,k1,k2,k3,k5,hC⟩:=T.cls
 obtain ⟨hp,g,d,tk,os⟩:=s1
 repeat (first | with_reducible refine YaK he ?_ | with_reducible refine YaK hC ?_ | (with_reducible refine Ycg hC ?_; rw [hb]) | wp_step)
 exact wpAny_raiseNew_none hh hE
end
noncomputable def jit (X:Cx)(C:Addr)(n:Nat)(mk:List V->List (Str×V))(t:TA):TS:=fun _ σ H=>t σ H fun vs H1=>vs.length=n/\∀ (pins:List (Addr×Obj)) (e dx:Addr) (s':Shared),H1 dx=none->Inv X pins σ (upd H1 dx (.xd (mk vs))) s'->Lies X.s₀.heap.objs.size X.pn (upd H1 dx (.xd (mk vs))) s'.heap e (.ref C) (some dx)->X.xe (.ref e) s'
theorem jhK {X:Cx}{C N D fI:Addr}{bmB:List Value}{B newId initId:String}{mN mD:Str->Option Value}{k:Nat}{name qual x:Str}{params:Yfk}{body:List Stmt}{scope:Scope}{dV kV doc pm cdv ct:Value}{an od:Option Addr}{osl:Array (Option Value)}{Nm ps:List Str}{mk:List V->List (Str×V)}{t:TA}{a0:Expr}{as:List Expr}{p cpos pos:Pos}{n:Nat}
  (T:Two X.base C N D mN mD bmB newId) (F:YeV B newId initId bmB) (hD:mD "__init__" = none) (hi:mN "__init__" = some (.ref fI)) (lk:X.K.lookup fI=some ⟨.type "function",od,.func (YaX name qual params body scope dV kV doc pm an cdv ct),osl⟩) (hcd:Ya0 X.K cdv qual=true) (S:FnScope Nm ps scope) (hr:Room (k + 2) X.A)
  (hb:Binds X.K (YaX name qual params body scope dV kV doc pm an cdv ct) ps []) (hn:n + 1=ps.length) (hn8:n<=8) (hbase:bmB.contains (.type "BaseException")=true) (hg:Gl X x) (hm:X.mg x=some (.ref C)) (hk:YaN X.K (.ref C)=true) (ha:PA X (a0::as) t) (hbody:∀ (vs:List V) (s:Shared) (H:Hp),vs.length=n->jep X C s H Nm qual scope fI cdv body vs (mk vs))
  (hdb:(x == ("__debug__" : Str))=false:=by decide) (he:YaM (a0::as) X.env=(false,eval a0 X.env)::YaM as X.env:=by rfl) (hpl:(backTo cpos (YaM as X.env)).any (·.1)=false:=by rfl) :
  PS X (.Raise (some (.Call (.Name x p) (a0::as) [] cpos)) none pos) (jit X C n mk t):=by
 intro pins s σ H D0 I h
 have go:wpAny (model X.prog X.w) X.A (eval (.Call (.Name x p) (a0::as) [] cpos) X.env) (fun v s1=>∃ e t dx,v=.ref e/\Two s1.heap C N D mN mD bmB newId/\s1.heap.get? e=some { cls:=.ref C,dict:=some dx,data:=.fields #[.ref t,.none,.none,.none,.bool false,.none] }/\X.xe (.ref e) s1) X.xe s:=by
  refine Ycr (jb3 I hg hm ?_ hdb)
  refine Yfn (h₀:=X.base) I.ok.mod.kin hk (thn (ha cpos pins s σ H _ I h) fun us s1 ⟨vs,H1,I1,r,hl,q⟩=>⟨I1.kIn,?_⟩) he hpl
  refine xmake (k:=k) I1 T F hD hi lk hcd S hr hb r (by omega) (by have:=r.length; rw [YbK,Yb9]; omega) (hbody vs s1 H1 hl) fun e dx s' z1 J l ⟨t',g⟩=>?_
  exact ⟨e,t',dx,rfl,T.keeps J.bk,g,q pins e dx s' z1 J l⟩
 rw [arm_exec_Raise]
 first
  | exact Yab (YcV (Two.raise hbase hr.hd (Yab (Ybc go (fun v s1 z=>Yab (YcV (Yam z))) fun _ _ z=>z))))
  | (simp only [evalOpt,YeL]; exact Yab (YcV (Two.raise hbase hr.hd (Yab (Ybc go (fun v s1 z=>Yab (YcV (Yam z))) fun _ _ z=>z)))))
theorem jgL {X:Cx}{pins:List (Addr×Obj)}{σ:St}{H:Hp}{s:Shared}{M:Model}{A:Around}{E:Value->Shared->Prop}{i:Nat}{x:Str}{pos:Pos}{Q:Unit->Shared->Prop}(I:Inv X pins σ H s)(hN:X.N.Nodup)(hi:X.N[i]?=some x)(hk:X.env.scope.names.lookup x=some .local)
  (h:∀ s',Inv X pins (σ.set i none) H s'->Q () s'):wpAny M A (do bindName X.env x .none; unbindBehindTheSuite X.env x pos) Q E s:=by
 obtain ⟨m,hn,hl⟩:=id I.loc
 have hcls:(X.env.scope.kind == .class || (X.env.scope.kind == .module && X.env.locals != X.env.globals))=false:=by rw [I.ok.kind]; rfl
 have hiσ:i < σ.length:=by rw [I.len]; exact (List.getElem?_eq_some_iff.mp hi).1
 have cne:=I.cne
 refine wpAny_nameGoes_keeps hk hn hcls fun h' v hn' hs=>?_
 have lt0:∀ b o,X.s₀.heap.get? b=some o->b≠X.env.locals:=fun b o e=>Ya8 (YaF (Yav e) I.ok.above)
 have tr:HOk X.prog X.w H h':=fun b ob e=>by
  refine (I.hok b ob e).stay (fun c w' hc q=>(hs.2 c ?_).trans q) (fun _ q=>q) fun _ _ q=>q
  rintro rfl
  rcases hc with rfl | hc
  ·rw [I.free] at e; cases e
  ·rw [I.free] at hc; cases hc
 refine h _ ⟨I.ok,I.os,I.bare,⟨fun b o e n hb hx=>(hs.2 b (lt0 b o e)).trans (I.base.keep b o e n hb hx),fun b o e n hb hx=>?_,I.base.free,fun b o e hx=>?_,I.base.tups,I.base.frzs,I.base.tbls⟩,⟨_,hn',fun j y v' e1 e2 e3=>?_⟩,fun y c e=>?_,I.free,I.freeC,fun p hp=>?_,tr,by simpa using I.len⟩
 ·obtain ⟨sl,e1⟩:=I.base.slot b o e n hb hx
  exact ⟨sl,(hs.2 b (lt0 b o e)).trans e1⟩
 ·obtain ⟨o',e1⟩:=I.base.there b o e hx
  exact ⟨o',(hs.2 b (lt0 b o e)).trans e1⟩
 ·by_cases hj:j=i
  ·subst hj
   rw [YbS hiσ] at e2
   cases e2
  ·rw [YbC (Ne.symm hj)] at e2
   have hy:y≠x:=fun z=>hj (jdv hN e1 (z ▸ hi))
   obtain ⟨u,r,l⟩:=hl j y v' e1 e2 e3
   refine ⟨u,r,l.imp (fun z=>⟨z.1,by show (if y=x then v else m y)=some u; rw [if_neg hy]; exact z.2⟩) fun z=>⟨z.1,?_⟩⟩
   obtain ⟨c,ec,o,ho,hd⟩:=z.2
   exact ⟨c,ec,o,(hs.2 c (cne y c ec)).trans ho,hd⟩
 ·obtain ⟨w',o,ho,hd⟩:=I.cell y c e
  exact ⟨w',o,(hs.2 c (cne y c e)).trans ho,hd⟩
 ·obtain ⟨p1,p2,p3,p4⟩:=I.pin p hp
  exact ⟨(hs.2 p.1 p3).trans p1,p2,p3,p4⟩
end L2

namespace L2
open PySem PySem.Spec PyProof.Rows PySem.W
set_option maxHeartbeats 4000000
section
variable {M:Model}{A:Around}{E:Value->Shared->Prop}{h:Heap}{g:Array Ye8}{d:Drawn}{t:Nat}{os:OsState}
variable {nm q nm' q':Str}{C N D ND e:Addr}{bs bm bs' bm':List Value}{hdct hdct':Bool}{sn sn':List Str}{sub sub':List Value}{ab ab':Bool}{col col':Option Bool}{dd dd':Option Addr}{k0 k1 k2 k3 k5 l0 l1 l2 l3 l5:Option Value}{newId newId':String}{oe:Obj}
theorem jcH {Q:Bool->Shared->Prop}(hC:h.get? C=some (YcN nm q C N bs bm hdct sn sub ab col dd k0 k1 k2 k3 k5 newId))(hD:h.get? D=some (YcN nm' q' D ND bs' bm' hdct' sn' sub' ab' col' dd' l0 l1 l2 l3 l5 newId'))(he:h.get? e=some oe)(hcls:oe.cls=.ref C)(hb:bm'.contains (.type "BaseException")=true)
  (hq:Q ((Yae C::bm).contains (.ref D)) ⟨h,g,d,t,os⟩):wpAny M A (YfJ (.ref e) (.ref D)) Q E ⟨h,g,d,t,os⟩:=by
 have hB:(Yae D::bm').contains (.type "BaseException")=true:=by rw [YbX,hb,Yc7]
 have f:=tc_notTuple
 obtain ⟨b,eb⟩:∃ b,b=(Yae C::bm).contains (.ref D):=⟨_,rfl⟩
 rw [<- eb] at hq
 unfold YfJ
 repeat (first | (with_reducible refine YaK he ?_; rw [hcls]) | with_reducible refine YaK hD ?_ | (with_reducible refine Ycg hD ?_; rw [hB]) | (with_reducible refine Ycg hC ?_; rw [<- eb]) | wp_step)
 cases b with
 | true=>wp_walk; exact hq
 | false=>wp_walk; exact hq
end
section
variable {X:Cx}{pins:List (Addr×Obj)}{σ:St}{H:Hp}{s:Shared}
theorem jd9 {M:Model}{A:Around}{E:Value->Shared->Prop}{ea:Addr}{cls:Value}{dx:Option Addr}{Q:Unit->Shared->Prop}(I:Inv X [] σ H s)(l:Lies X.s₀.heap.objs.size X.pn H s.heap ea cls dx)
  (q:∀ h',Inv X [] σ H { s with heap:=h' }->Lies X.s₀.heap.objs.size X.pn H h' ea cls dx->Q () { s with heap:=h' }):wpAny M A (Yeu (.ref ea) none) Q E s:=by
 obtain ⟨oe,vs,he,hc,hdx,hd,ht⟩:=l.ob
 rcases ht with h1 | ⟨T,oT,ts,h1,hTe,hT,hdT,h3,nT,lT,pT⟩
 ·unfold Yeu
  refine Yab (Ych he hd h1 ?_)
  rw [if_neg (by decide)]
  exact Yam (q s.heap I l)
 ·have sz:=(Array.getElem?_eq_some_iff.mp h3).1
  refine wpAny_setFlight_none he hd h1 hT hdT sz ?_
  have other:=(jbI 3 .none hT hdT).2
  have d3:=YcO hdT (·.setIfInBounds 3 Yaj)
  refine q _ (I.left (ch:=[T]) (fun b hb=>by rw [List.mem_singleton.mp hb]; exact nT) (fun b hb=>by rw [List.mem_singleton.mp hb]; exact lT) (fun b hb=>by rw [List.mem_singleton.mp hb]; exact ⟨oT,ts,hT,hdT⟩) (fun b hb p hp=>by rw [List.mem_singleton.mp hb]; exact pT p (by simpa using hp))
   (fun b o _ hc e=>(other b (by simpa using hc)).trans e) fun b o _ hc e=>⟨o.slots,(other b (by simpa using hc)).trans e⟩) ⟨⟨oe,vs,(other ea (Ne.symm hTe)).trans he,hc,hdx,hd,.inr ⟨T,_,_,h1,hTe,Yb0 _ hT (Ycp d3),d3,by simp [sz],nT,lT,pT⟩⟩,l.hn,l.le,l.pn⟩
noncomputable def Cx.tryC (X:Cx)(pins:List (Addr×Obj))(xe:Value->Shared->Prop):Cx:={ X with pn:=X.pn++pins,xe:=xe }
theorem Inv.tryIn {xe:Value->Shared->Prop}(I:Inv X pins σ H s):Inv (X.tryC pins xe) [] σ H s:=
 ⟨⟨I.ok.mod,I.ok.kind,I.ok.glob,I.ok.blt,I.ok.above,I.ok.inj,I.ok.has,I.ok.cab,I.ok.hd,I.ok.frames,I.ok.stk,I.ok.exf,I.ok.bs,I.ok.bsz,I.ok.noex,I.ok.exfs,I.ok.funs,I.ok.frf⟩,I.os,I.bare,I.base,I.loc,I.cell,I.free,I.freeC,fun p hp=>I.pin p (by simpa [Cx.tryC] using hp),I.hok,I.len⟩
theorem Inv.tryOut {xe:Value->Shared->Prop}{pins':List (Addr×Obj)}(I:Inv (X.tryC pins xe) pins' σ H s):Inv X pins σ H s:=
 ⟨⟨I.ok.mod,I.ok.kind,I.ok.glob,I.ok.blt,I.ok.above,I.ok.inj,I.ok.has,I.ok.cab,I.ok.hd,I.ok.frames,I.ok.stk,I.ok.exf,I.ok.bs,I.ok.bsz,I.ok.noex,I.ok.exfs,I.ok.funs,I.ok.frf⟩,I.os,I.bare,I.base,I.loc,I.cell,I.free,I.freeC,fun p hp=>I.pin p (by simp only [Cx.tryC]; exact Ybu _ hp),I.hok,I.len⟩
noncomputable def Cx.inH (X:Cx)(e:Value)(p:List (Addr×Obj)):Cx:={ X with A:=X.A.mark (some e),calm:=false,pn:=X.pn++p,xe:=fun _ _=>False }
theorem Inv.hIn {e:Value}{p:List (Addr×Obj)}(I:Inv X [] σ H s)(hp:∀ q∈p,s.heap.get? q.1=some q.2/\H q.1=none/\q.1≠X.env.locals/\q.1∉X.fs/\∀ v,q.2.data≠.cell v):Inv (X.inH e p) [] σ H s:=
 ⟨⟨I.ok.mod,I.ok.kind,I.ok.glob,I.ok.blt,I.ok.above,I.ok.inj,I.ok.has,I.ok.cab,(fun z=>(nomatch z)),I.ok.frames,I.ok.stk,I.ok.exf,I.ok.bs,I.ok.bsz,I.ok.noex,I.ok.exfs,I.ok.funs,I.ok.frf⟩,I.os,I.bare,I.base,I.loc,I.cell,I.free,I.freeC,
  fun q hq=>by
   have:q∈X.pn++p:=by simpa [Cx.inH] using hq
   rcases List.mem_append.mp this with z | z
   ·exact I.pin q (Ybu _ z)
   ·exact hp q z,I.hok,I.len⟩
theorem Inv.hOut {e:Value}{p pins':List (Addr×Obj)}(ok:X.Ok)(I:Inv (X.inH e p) pins' σ H s):Inv X [] σ H s:=
 ⟨ok,I.os,I.bare,I.base,I.loc,I.cell,I.free,I.freeC,fun q hq=>I.pin q (by simp only [Cx.inH]; rw [Ya7] at hq; exact Ybu _ (Ybu _ hq)),I.hok,I.len⟩
theorem Lies.pinned {ea:Addr}{cls:Value}{dx:Option Addr}(I:Inv X [] σ H s)(l:Lies X.s₀.heap.objs.size X.pn H s.heap ea cls dx):∃ oe,s.heap.get? ea=some oe/\oe.cls=cls/\oe.dict=dx/\(∃ vs,oe.data=.fields vs)/\
  ∀ q∈[(ea,oe)],s.heap.get? q.1=some q.2/\H q.1=none/\q.1≠X.env.locals/\q.1∉X.fs/\∀ v,q.2.data≠.cell v:=by
 obtain ⟨oe,vs,he,hc,hdx,hd,_⟩:=l.ob
 refine ⟨oe,he,hc,hdx,⟨vs,hd⟩,fun q hq=>?_⟩
 rw [List.mem_singleton.mp hq]
 refine ⟨he,l.hn,fun z=>?_,fun z=>?_,fun v z=>by rw [show (ea,oe).2.data=oe.data from rfl,hd] at z; cases z⟩
 ·obtain ⟨m,⟨o,es,ep,ho,hdd,_⟩,_⟩:=I.loc
  rw [<- z,he] at ho
  cases ho
  rw [hd] at hdd; cases hdd
 ·obtain ⟨_,o,ho,_⟩:=I.ok.funs.mem z
  exact absurd (Yav ho) (Nat.not_lt.mpr l.le)
end
noncomputable def XL (M:Model)(A:Around)(env:Env)(R:Value->Shared->Prop):Value->Shared->Prop:=fun e s'=>wpAny M A (Yge e env) (fun _ s''=>wpAny M A (Yeu e none) (fun _ s3=>R e s3) R s'') R s'
theorem jlm {M:Model}{A:Around}{env:Env}{R:Value->Shared->Prop}:Yey M A env (XL M A env R):=Yfi
section
variable {P:Program}{w:World}{K:Yac}{mg:Str->Option Value}{base:Heap}
noncomputable abbrev cx1 (P:Program)(w:World)(K:Yac)(mg:Str->Option Value)(base:Heap)(N:List Str)(qual:Str)(scope:Scope)(f:Addr)(cd:Value)(A:Around)(outer:List Env)(s:Shared)(H:Hp)(E:XK):Cx:=
 (cxOf (CX1 P w) P w K mg base N qual scope f cd A outer s H E).wish (XL (model P w) (A.deeper (envOfC qual scope s.heap.objs.size f cd)) (envOfC qual scope s.heap.objs.size f cd) fun e s'=>CX1 P w outer H s E e s')
theorem Fun.okX {x qual:Str}{st:Stmt}{f:Addr}{fd:YbT}{N ps:List Str}{k:Nat}{sp:Sp}(F:Fun K x qual st f fd)(S:FnScope N ps (defScope st))(len:∀ vs H Q E,sp vs H Q E->vs.length=ps.length)
  (hbody:∀ (cdv:Value) (A:Around) (outer:List Env) (s:Shared) (H:Hp) (vs:List V) (Q:VK) (E:XK),Room k (A.deeper (envOfC qual (defScope st) s.heap.objs.size f cdv))->sp vs H Q E->
   ∃ t,PSs (cx1 P w K mg base N qual (defScope st) f cdv A outer s H E) (defBody st) t/\t { nx:=fun _ H'=>Q .non H',rt:=Q } (start N vs) H):FnOk P w K mg base (CX1 P w) (k + 1) f fd ps sp:=by
 obtain ⟨oc,od,kV,doc,pm,an,cdv,ct,osl,rfl,lk,hcd⟩:=F.ex
 refine jn7 lk hcd S len fun A outer s H vs Q E hr hsp=>?_
 obtain ⟨t,h,q⟩:=hbody cdv A outer s H vs Q E hr hsp
 refine ⟨t,fun pins s1 σ H1 D I hw=>?_,q⟩
 refine Ybc (h pins s1 σ H1 D (I.wish _) hw) (fun _ _ q=>q.unwish) fun e s' z=>?_
 show wpAny _ _ (leaving _ e) _ _ s'
 unfold leaving
 exact Yab z
theorem CX1.out1 {N:List Str}{qual:Str}{scope:Scope}{f:Addr}{cd:Value}{A:Around}{outer:List Env}{s s':Shared}{H H':Hp}{E:XK}{pins:List (Addr×Obj)}{σ:St}{ea:Addr}{cls:Value}{dx:Option Addr}
  (I:Inv (cx1 P w K mg base N qual scope f cd A outer s H E) pins σ H' s') (l:Lies s.heap.objs.size [] H' s'.heap ea cls dx) (q:E cls dx H'):(cx1 P w K mg base N qual scope f cd A outer s H E).xe (.ref ea) s':=by
 have I0:Inv (cxOf (CX1 P w) P w K mg base N qual scope f cd A outer s H E) [] σ H' s':=I.unwish.pins_of fun p hp=>absurd hp (by simp)
 refine jiM (X:=cxOf (CX1 P w) P w K mg base N qual scope f cd A outer s H E) (E:=fun e s'=>CX1 P w outer H s E e s') I0 rfl rfl l fun h' J l'=>?_
 exact ⟨ea,H',cls,dx,rfl,J.os,J.bare,J.base,J.hok,l',q⟩
end
end L2

namespace L2
open PySem PySem.Spec PyProof.Rows PySem.W
open Builtin Builtin.ObjectAttr
set_option maxHeartbeats 4000000
theorem jcX:Ybp (.type "ValueError") "__class__" = pure (some (.builtin "object.__class__")):=by rw [YcY,Yb6]; kernel_rfl
theorem jmf:Ybp (.type "getset_descriptor") "__get__" = pure (some (.builtin "getset_descriptor.__get__")):=by rw [YcY,Yb6]; kernel_rfl
theorem jme:Ybp (.type "getset_descriptor") "__set__" = pure (some (.builtin "getset_descriptor.__set__")):=by rw [YcY,Yb6]; kernel_rfl
theorem jg2:builtinKind "object.__class__" = some .getset:=by decide +kernel
noncomputable abbrev bmV:List Value:=[.type "ValueError",.type "Exception",.type "BaseException",.type "object"]
section
variable {prog:Program}{w:World}{A:Around}{E:Value->Shared->Prop}{h:Heap}{g:Array Ye8}{d:Drawn}{t:Nat}{os:OsState}
variable {C N D x:Addr}{bmB:List Value}{B newId sa owner:String}{mN mD mA:Str->Option Value}{name:Str}{v:Value}
theorem Two.gaClass {o od:Obj}{dx:Addr}{K:Frag}{tk:Tok}{Q:Fin->Shared->Prop}(hK:K.In h)(hm:mroIn K C (.type "object")=some true)(T:Two h C N D mN mD bmB newId)(R:Reads B bmB)(hx:h.get? x=some o)(hc:o.cls=.ref C)(hnc:notCls o=true)(hdx:o.dict=some dx)(hod:h.get? dx=some od)
  (hB:Ybp (.type B) "__class__" = pure (some (.builtin "object.__class__"))) (n1:mN "__class__" = none) (n2:mD "__class__" = none) (hq:Q (.done (.ret (.ref C))) ⟨h,g,d,t,os⟩) :
  wpAny (model prog w) A (Builtin.«object.__getattribute__» ⟨[.ref x,.str "__class__" tk],[]⟩) Q E ⟨h,g,d,t,os⟩:=by
 obtain ⟨nm,q,bs,sn,sub,ab,col,dd,k0,k1,k2,k3,k5,e⟩:=T.cls
 unfold Builtin.«object.__getattribute__»
 repeat (first | (with_reducible refine YaK hx ?_; rw [hc]) | (with_reducible refine T.look hB R.mro n1 n2 ?_) | wp_step)
 rw [jg2]
 dsimp only
 rw [jmf]
 repeat (first | (with_reducible refine YaK hx ?_; rw [hc]) | wp_step)
 rw [jg2]
 dsimp only
 rw [jme]
 repeat (first | (with_reducible refine YaK hx ?_; rw [hc]) | wp_step)
 refine PySem.W.class_get (K:=K) hK (ox:=o) (od:=some od) ⟨hx,hc,hnc,by rw [hdx]; exact hod⟩ hm ?_
 exact Yam hq
theorem Two.cattr {o od:Obj}{dx:Addr}{K:Frag}{Q:Option Value->Shared->Prop}(hK:K.In h)(hm:mroIn K C (.type "object")=some true)(T:Two h C N D mN mD bmB newId)(R:Reads B bmB)(hx:h.get? x=some o)(hc:o.cls=.ref C)(hnc:notCls o=true)(hdx:o.dict=some dx)(hod:h.get? dx=some od)
  (hB:Ybp (.type B) "__class__" = pure (some (.builtin "object.__class__"))) (g1:mN "__getattribute__" = none) (g2:mD "__getattribute__" = none) (a1:mN "__getattr__" = none) (a2:mD "__getattr__" = none) (n1:mN "__class__" = none) (n2:mD "__class__" = none) (hq:Q (some (.ref C)) ⟨h,g,d,t + 1,os⟩) :
  wpAny (model prog w) A (getAttr? (.ref x) "__class__") Q E ⟨h,g,d,t,os⟩:=by
 have f3:=R.ga.bind (.ref x)
 unfold getAttr? getAttrBy? getAttrBy
 repeat (any_goals (first | assumption | (with_reducible refine YaK hx ?_; rw [hc]) | (with_reducible refine T.look R.ga.lookup R.mro g1 g2 ?_) | (with_reducible refine T.look R.no R.mro a1 a2 ?_) | wp_step))
 refine Yd9 R.ga.plain F.entry_bexc_ga (T.gaCheck R hx hc (T.gaClass hK hm R hx hc hnc hdx hod hB n1 n2 ?_))
 repeat (any_goals (first | assumption | wp_step))
end
noncomputable def jft:List Ya6->Option (List Str)
 | []=>some []
 | e::r=>match e.key,jft r with
  | .str x _,some l=>some (x::l)
  | _,_=>none
noncomputable def jdb (K:Frag)(N:Addr):Option (List Str):=match K.lookup N with
 | some ⟨_,_,.dict es _,_⟩=>jft es.toList
 | _=>none
theorem jda:∀ {es:List Ya6} {ks:List Str},jft es=some ks->(∀ e∈es,∃ n t,e.key=.str n t)/\∀ x,x∉ks->es.find? (fun e=>e.key.isStr x)=none
 | [],_,_=>⟨fun _ h=>absurd h (by simp),fun _ _=>rfl⟩
 | e::r,ks,h=>by
  unfold jft at h
  split at h
  ·rename_i x t l hk hr
   cases h
   obtain ⟨h1,h2⟩:=jda hr
   refine ⟨fun e' he=>?_,fun y hy=>?_⟩
   ·rcases YbW.mp he with rfl | he
    ·exact ⟨_,_,hk⟩
    ·exact h1 e' he
   ·have hn:y≠x:=fun z=>hy (by simp [z])
    have:e.key.isStr y=false:=by rw [hk]; simp [Value.isStr,Ne.symm hn]
    rw [YbQ,this]
    exact h2 y fun z=>hy (by simp [z])
  ·cases h
theorem jlQ {K:Frag}{N:Addr}{ks:List Str}(e:jdb K N=some ks):∃ m:Str->Option Value,(∀ h,K.In h->h.Ns N m)/\(∀ x,x∉ks->m x=none)/\∀ x v,nsIn K N x=some (some v)->m x=some v:=by
 unfold jdb at e
 split at e
 ·rename_i c dd es ep sl lk
  obtain ⟨h1,h2⟩:=jda e
  refine ⟨nsFind es,fun h hK=>⟨_,es,ep,hK _ _ lk,rfl,fun e he=>h1 e (by simpa using he),fun _=>rfl⟩,fun x hx=>?_,fun x v hv=>?_⟩
  ·unfold nsFind findBy
   rw [<- YfR,h2 x hx]; rfl
  ·unfold nsIn at hv
   rw [lk] at hv
   dsimp only at hv
   unfold nsFind findBy
   rw [<- YfR]
   split at hv
   ·rename_i e' he'
    rw [he']
    cases hv; rfl
   ·split at hv <;> cases hv
 ·cases e
noncomputable def offN:List Str:=["__setattr__", "__getattribute__", "__getattr__", "__class__", "word", "at", "row"]
structure XBase (K:Frag)(mg:Str->Option Value)(D:Addr)(mD:Str->Option Value):Prop where
 m:mg "PlanError" = some (.ref D)
 kp:keepIn K (.ref D)=true
 lk:∃ q ND bs hd sn sub ab col dd k0 k1 k2 k3 k5 nid,K.lookup D=some (YcN "PlanError" q D ND bs bmV hd sn sub ab col dd k0 k1 k2 k3 k5 nid)/\∀ h,K.In h->h.Ns ND mD
 no:∀ y∈offN,mD y=none
 ni:mD "__init__" = none
structure XCls (K:Frag)(mg:Str->Option Value)(x:Str)(fs:List Str)(C:Addr):Prop where
 m:mg x=some (.ref C)
 kp:keepIn K (.ref C)=true
 ex:∃ (D N fI:Addr) (mN mD:Str->Option Value),XBase K mg D mD/\(∃ q bs sn sub ab col dd k0 k1 k2 k3 k5,K.lookup C=some (YcN x q C N bs (.ref D::bmV) true sn sub ab col dd k0 k1 k2 k3 k5 "ValueError.__new__"))/\(∀ h,K.In h->h.Ns N mN)/\(∀ y∈offN,mN y=none)/\
  mN "__init__" = some (.ref fI)/\∃ (st:Stmt) (qual:Str) (fd:YbT),L2.Fun K "__init__" qual st fI fd/\(∃ od osl,K.lookup fI=some ⟨.type "function",od,.func fd,osl⟩)/\FnScope ("self" :: fs) ("self" :: fs) (defScope st)/\Binds K fd ("self" :: fs) []/\(∀ y∈(("self" : Str)::fs),(defScope st).names.lookup y=some .local)/\
  ((∃ f p1 p2 p3 pos,fs=[f]/\defBody st=[.Assign [.Attribute (.Name "self" p1) f p2] (.Name f p3) pos])\/∃ f f2 p1 p2 p3 pos q1 q2 q3 qos,fs=[f,f2]/\f≠f2/\defBody st=[.Assign [.Attribute (.Name "self" p1) f p2] (.Name f p3) pos,.Assign [.Attribute (.Name "self" q1) f2 q2] (.Name f2 q3) qos])
theorem XBase.get {K:Frag}{mg:Str->Option Value}{D:Addr}{mD:Str->Option Value}(B:XBase K mg D mD){h:Heap}(hK:K.In h):∃ c0 dd cd sl,h.get? D=some { cls:=c0,dict:=dd,data:=.cls cd,slots:=sl }/\h.Ns cd.ns mD:=by
 obtain ⟨q,ND,bs,hd,sn,sub,ab,col,dd,k0,k1,k2,k3,k5,nid,lk,n⟩:=B.lk
 exact ⟨_,_,_,_,hK _ _ lk,n h hK⟩
section
variable {K:Frag}{mg:Str->Option Value}{x:Str}{fs:List Str}{C:Addr}
theorem XCls.name (c:XCls K mg x fs C):∃ cd,clsIn K C=some cd/\cd.name=x/\typeIn K (.ref C)=some (.type "type")/\∃ D mD,XBase K mg D mD/\cd.mro=.ref C::.ref D::bmV:=by
 obtain ⟨D,N,fI,mN,mD,B,⟨q,bs,sn,sub,ab,col,dd,k0,k1,k2,k3,k5,lk⟩,_⟩:=c.ex
 refine ⟨_,by unfold clsIn; rw [lk],rfl,by show YeL (fun x=>x.cls) (Ycc _ K)=_; rw [lk]; rfl,D,mD,B,rfl⟩
theorem XBase.nm {D:Addr}{mD:Str->Option Value}(B:XBase K mg D mD):∃ cd,clsIn K D=some cd/\cd.name = "PlanError" /\ typeIn K (.ref D)=some (.type "type"):=by
 obtain ⟨q,ND,bs,hd,sn,sub,ab,col,dd,k0,k1,k2,k3,k5,nid,lk,n⟩:=B.lk
 exact ⟨_,by unfold clsIn; rw [lk],rfl,by show YeL (fun x=>x.cls) (Ycc _ K)=_; rw [lk]; rfl⟩
theorem jeP (c : XCls K mg x fs C){x' : Str}{fs' : List Str}{C' : Addr}(c' : XCls K mg x' fs' C')(hp : x' ≠ "PlanError") : kitOne K (.ref C) (.ref C') = some (decide (x = x')) := by
  obtain ⟨cd, h1, h2, h3, D, mD, B, hm⟩ := c.name
  obtain ⟨cd', h1', h2', h3', _⟩ := c'.name
  unfold kitOne
  by_cases e : C = C'
  · subst e
    rw [h1] at h1'
    cases h1'
    rw [if_pos (by simp), <- h2, <- h2']
    simp
  · have hx : x ≠ x' := fun z => by
      subst z
      have := c.m.symm.trans c'.m
      simp at this
      exact e this
    rw [if_neg (by simpa using e)]
    unfold kitCls subIn mroIn
    dsimp only
    rw [h1', h3', h1]
    have hD : D ≠ C' := fun z => by
      subst z
      obtain ⟨cd2, g1, g2, _⟩ := B.nm
      rw [h1'] at g1
      cases g1
      exact hp (h2'.symm.trans g2)
    simp [hm, hx, Ne.symm e, Ne.symm hD]
theorem jlZ (c:XCls K mg x fs C):kitOne K (.ref C) (.type "ValueError")=some true:=by
 obtain ⟨cd,h1,h2,h3,D,mD,B,hm⟩:=c.name
 unfold kitOne
 rw [if_neg (by simp)]
 unfold kitCls subIn mroIn
 dsimp only
 rw [if_pos (by decide +kernel),h1]
 simp [hm]
end
theorem jiS:∀ f∈[("word" : Str), "at", "row"],Ybp (.type "ValueError") f=pure none:=by
 intro f hf
 simp only [YbW,YbI,or_false] at hf
 rcases hf with rfl | rfl | rfl <;> (rw [YcY,Yb6]; kernel_rfl)
noncomputable def fldN:List Str:=["word", "at", "row"]
theorem jeU:∀ f∈fldN,f∈offN:=by decide
section
variable {K:Frag}{mg:Str->Option Value}{x:Str}{fs:List Str}{C:Addr}
structure XPin (X:Cx)(ea C dx:Addr):Prop where
 ex:∃ oe vs,(ea,oe)∈X.pn/\oe.cls=.ref C/\oe.dict=some dx/\oe.data=.fields vs
theorem Inv.xobj {X:Cx}{pins:List (Addr×Obj)}{σ:St}{H:Hp}{s:Shared}{ea C dx:Addr}{l:List (Str×V)}(I:Inv X pins σ H s)(p:XPin X ea C dx)(hl:H dx=some (.xd l)) :
  ∃ oe vs od mA,s.heap.get? ea=some oe/\oe.cls=.ref C/\oe.dict=some dx/\oe.data=.fields vs/\s.heap.get? dx=some od/\s.heap.Ns dx mA/\∀ f,RelO (l.lookup f) (mA f):=by
 obtain ⟨oe,vs,hp,h1,h2,h3⟩:=p.ex
 obtain ⟨mA,n,r⟩:=(show jaz X.prog X.w H s.heap dx (.xd l) from I.hok dx _ hl)
 obtain ⟨od,es,ep,g,gd,sk,_,nf⟩:=n
 exact ⟨oe,vs,od,mA,(I.pin _ (Ybu _ hp)).1,h1,h2,h3,g,⟨od,es,ep,g,gd,sk,nf⟩,r⟩
theorem XCls.two (c:XCls K mg x fs C){h:Heap}(hK:K.In h):∃ N D mN mD,Two h C N D mN mD bmV "ValueError.__new__" /\ (∀ y∈offN,mN y=none/\mD y=none)/\mroIn K C (.type "object")=some true:=by
 obtain ⟨D,N,fI,mN,mD,B,⟨q,bs,sn,sub,ab,col,dd,k0,k1,k2,k3,k5,lk⟩,hn,ho,_⟩:=c.ex
 refine ⟨N,D,mN,mD,⟨⟨_,_,_,_,_,_,_,_,_,_,_,_,_,hK _ _ lk⟩,hn h hK,B.get hK⟩,fun y hy=>⟨ho y hy,B.no y hy⟩,?_⟩
 unfold mroIn clsIn
 rw [lk]
 simp
theorem jdx (c:XCls K mg x fs C){ea dx:Addr}{oe od:Obj}{vs:Array Value}(h1:oe.cls=.ref C)(h2:oe.dict=some dx)(h3:oe.data=.fields vs):KitX K (.ref ea) (.ref C) (fun h=>h.get? ea=some oe/\h.get? dx=some od):=by
 have hnc:notCls oe=true:=by unfold notCls; rw [h3]
 refine ⟨fun M h hK hh=>?_,fun M h hK hh=>?_,fun h tp dd its n sl hK ht=>?_,fun {prog w A E Q s} hK hh hq=>?_⟩
 ·intro A Q E s k q
  obtain ⟨hp,g,d,t,os⟩:=s
  have g1:=k _ _ hh.1
  show wpAny M A (typeOf (.ref ea)) Q E _
  unfold typeOf
  repeat (first | (with_reducible refine YaK g1 ?_; rw [h1]) | wp_step)
  exact q
 ·intro A Q E s k q
  obtain ⟨hp,g,d,t,os⟩:=s
  obtain ⟨D,N,fI,mN,mD,B,⟨q',bs,sn,sub,ab,col,dd,k0,k1,k2,k3,k5,lk⟩,_⟩:=c.ex
  have g1:=k _ _ (hK _ _ lk)
  unfold isType
  repeat (first | with_reducible refine YaK g1 ?_ | wp_step)
  exact q
 ·obtain ⟨D,N,fI,mN,mD,B,⟨q',bs,sn,sub,ab,col,dd',k0,k1,k2,k3,k5,lk⟩,_⟩:=c.ex
  have g1:=hK _ _ lk
  by_cases z:C=tp
  ·subst z
   rw [ht] at g1
   simp at g1
  ·simpa using z
 ·obtain ⟨hp,g,d,t,os⟩:=s
  obtain ⟨N,D,mN,mD,T,off,hm⟩:=c.two hK
  have o1:=off "__getattribute__" (by decide)
  have o2:=off "__getattr__" (by decide)
  have o3:=off "__class__" (by decide)
  exact T.cattr hK hm ja7 hh.1 h1 hnc h2 hh.2 jcX o1.1 o1.2 o2.1 o2.2 o3.1 o3.2 hq
end
section
variable {X:Cx}{mg:Str->Option Value}{x:Str}{fs:List Str}{C ea dx:Addr}
theorem jhh {x':Str}{fs':List Str}{C':Addr}(c:XCls X.K mg x fs C)(c':XCls X.K mg x' fs' C')(hp:x' ≠ "PlanError")(p:XPin X ea C dx):ja2 X (.builtin "isinstance") (fun xs H Q=>xs=[.ref ea,.ref C']/\(∃ l,H dx=some (.xd l))/\Q (.bl (decide (x=x'))) H):=by
 intro pins s σ H xs us Q I r h
 obtain ⟨rfl,⟨l,hl⟩,q⟩:=h
 obtain ⟨u,v,rfl,ru,rv⟩:=Vals.two r
 cases ru; cases rv
 obtain ⟨oe,vs,od,mA,g1,g2,g3,g4,g5,_⟩:=I.xobj p hl
 exact kia_one (jdx c g2 g3 g4) I.kIn ⟨g1,g5⟩ (jeP c c' hp) (fun z=>(nomatch z)) fun tk=>⟨.bl _,H,I.tok tk,rfl,q⟩
theorem jhf (c:XCls X.K mg x fs C)(p:XPin X ea C dx):ja2 X (.builtin "isinstance") (fun xs H Q=>xs=[.ref ea,.ty "ValueError"]/\(∃ l,H dx=some (.xd l))/\Q (.bl true) H):=by
 intro pins s σ H xs us Q I r h
 obtain ⟨rfl,⟨l,hl⟩,q⟩:=h
 obtain ⟨u,v,rfl,ru,rv⟩:=Vals.two r
 cases ru; cases rv
 obtain ⟨oe,vs,od,mA,g1,g2,g3,g4,g5,_⟩:=I.xobj p hl
 exact kia_one (jdx c g2 g3 g4) I.kIn ⟨g1,g5⟩ (jlZ c) (fun z=>(nomatch z)) fun tk=>⟨.bl true,H,I.tok tk,rfl,q⟩
inductive XMany (X:Cx)(mg:Str->Option Value):List Str->List Addr->Prop
 | nil:XMany X mg [] []
 | cons {x:Str} {fs:List Str} {C:Addr} {xs:List Str} {Cs:List Addr}:XCls X.K mg x fs C->x ≠ "PlanError" -> XMany X mg xs Cs->XMany X mg (x::xs) (C::Cs)
theorem jfs (c:XCls X.K mg x fs C):∀ {xs:List Str} {Cs:List Addr},XMany X mg xs Cs->kitAny X.K (.ref C) (Cs.map .ref)=some (xs.contains x)
 | _,_,.nil=>rfl
 | _,_,.cons (x:=x') (C:=C') c' hp r=>by
  have h1:=jeP c c' hp
  have h2:=jfs c r
  by_cases e:x=x'
  ·subst e
   simp only [Ya4,kitAny]
   rw [h1]
   simp
  ·simp only [Ya4,kitAny]
   rw [h1,h2]
   simp [e]
theorem jhg {xs:List Str}{Cs:List Addr}(c:XCls X.K mg x fs C)(cs:XMany X mg xs Cs)(p:XPin X ea C dx):ja2 X (.builtin "isinstance") (fun as H Q=>∃ tp,as=[.ref ea,.ref tp]/\H tp=some (.tup (Cs.map .ref))/\(∃ l,H dx=some (.xd l))/\Q (.bl (xs.contains x)) H):=by
 intro pins s σ H as us Q I r h
 obtain ⟨tp,rfl,ht,⟨l,hl⟩,q⟩:=h
 obtain ⟨u,v,rfl,ru,rv⟩:=Vals.two r
 cases ru; cases rv
 obtain ⟨oe,vs,od,mA,g1,g2,g3,g4,g5,_⟩:=I.xobj p hl
 obtain ⟨z,us,ru,o,t1,t2,t3,t4,t5⟩:=(show jaz X.prog X.w H s.heap tp (.tup (Cs.map .ref)) from I.hok tp _ ht)
 have hus:us=Cs.map .ref:=by
  clear ht t4 z t5 t1 t2
  generalize Cs=Ds at ru
  induction Ds generalizing us with
  | nil=>cases ru; rfl
  | cons a r ih=>
   cases ru with
   | cons h1 h2=>cases h1; rw [ih _ h2]; rfl
 subst hus
 have hk:=jfs c cs
 obtain ⟨oc,od',dt,sl⟩:=o
 obtain rfl:oc=YaG "tuple" := t2
 obtain rfl:dt=Data.seq (List.map Yae Cs).toArray t3:=t4
 exact kia_tup (jdx c g2 g3 g4) I.kIn ⟨g1,g5⟩ t1 hk (fun z=>(nomatch z)) fun tk=>⟨.bl _,H,I.tok tk,rfl,q⟩
theorem jeS {v:V}{u:Value}(r:RelV v u):handedOut u=pure u:=by
 cases v with
 | non=>cases r; rfl
 | bl _=>cases r; rfl
 | int _=>obtain ⟨_,rfl⟩:=r; rfl
 | str _=>obtain ⟨_,rfl⟩:=r; rfl
 | byt _=>obtain ⟨_,rfl⟩:=r; rfl
 | flt _=>obtain ⟨_,rfl⟩:=r; rfl
 | ref _=>cases r; rfl
 | ty _=>cases r; rfl
theorem jjM {e:Expr}{f:Str}{pos:Pos}{te:TE}(c:XCls X.K mg x fs C)(p:XPin X ea C dx)(hf:f∈fldN)(he:PE X e te)(hb:Ycz e f X.env (eval e X.env)=eval e X.env) :
  PE X (.Attribute e f pos) (fun σ H Q=>te σ H fun v H1=>v=.ref ea/\∃ l u,H1 dx=some (.xd l)/\l.lookup f=some u/\Q u H1):=by
 intro pins s σ H Q I h
 refine jkD hb (thn (he pins s σ H _ I h) fun u s1 ⟨v,H1,I1,rv,ev,l,w,hl,hlk,q⟩=>?_)
 subst ev
 cases rv
 obtain ⟨oe,vs,od,mA,g1,g2,g3,g4,g5,g6,g7⟩:=I1.xobj p hl
 obtain ⟨N,D,mN,mD,T,off,hm⟩:=c.two I1.kIn
 obtain ⟨u',hu,ru⟩:=RelO.some_of (v:=w) (o:=mA f) (by rw [<- hlk]; exact g7 f)
 have o1:=off "__getattribute__" (by decide)
 have o2:=off "__getattr__" (by decide)
 have o3:=off f (jeU f hf)
 obtain ⟨hp,gg,d,t,os⟩:=s1
 exact T.get ja7 g1 g2 (fun cd z=>by rw [g4] at z; cases z) g3 g6 hu (jeS ru) (jiS f hf) o1.1 o1.2 o2.1 o2.2 o3.1 o3.2 ⟨w,H1,I1.tok _,ru,q⟩
theorem jgw {k:Nat}{t:TA}{a0:Expr}{as:List Expr}{p cpos pos:Pos}(c:XCls X.K mg x fs C)(hfs:∀ f∈fs,f∈fldN)(hr:Room (k + 2) X.A)(hg:Gl X x)(hmg:X.mg x=some (.ref C))(ha:PA X (a0::as) t)
  (hdb:(x == ("__debug__" : Str))=false) (he:YaM (a0::as) X.env=(false,eval a0 X.env)::YaM as X.env) (hpl:(backTo cpos (YaM as X.env)).any (·.1)=false) :
  PS X (.Raise (some (.Call (.Name x p) (a0::as) [] cpos)) none pos) (jit X C fs.length (fun vs=>fs.zip vs) t):=by
 intro pins s σ H D0 I h
 have hK:X.K.In X.base:=I.ok.mod.kin
 obtain ⟨D,N,fI,mN,mD,B,⟨q,bs,sn,sub,ab,col,dd,k0,k1,k2,k3,k5,lk⟩,hn,ho,hi,st,qual,fd,F0,⟨od,osl,lkI⟩,S,hb,hloc,hbody⟩:=c.ex
 obtain ⟨oc,od',kV,doc,pm,an,cdv,ct,osl',rfl,lkI',hcd⟩:=F0.ex
 have T:Two X.base C N D mN mD bmV "ValueError.__new__" := ⟨⟨_,_,_,_,_,_,_,_,_,_,_,_,_,hK _ _ lk⟩,hn _ hK,B.get hK⟩
 have set0:mN "__setattr__" = none/\mD "__setattr__" = none:=⟨ho _ (by decide),B.no _ (by decide)⟩
 have fd0:∀ f∈fs,mN f=none/\mD f=none/\Ybp (.type "ValueError") f=pure none:=fun f hf=>⟨ho _ (jeU f (hfs f hf)),B.no _ (jeU f (hfs f hf)),jiS f (hfs f hf)⟩
 have nm:∀ f∈fldN,(f == ("__debug__" : Str))=false/\(f == ("__classdict__" : Str))=false:=by decide
 have go:∀ (vs:List V) (s:Shared) (H:Hp),vs.length=fs.length->jep X C s H (("self" : Str)::fs) qual (defScope st) fI cdv (defBody st) vs (fs.zip vs):=by
  intro vs s H hl
  rcases hbody with ⟨f,p1,p2,p3,pos,rfl,hbd⟩ | ⟨f,f2,p1,p2,p3,pos,q1,q2,q3,qos,rfl,hne,hbd⟩
  ·rw [hbd]
   obtain ⟨v,rfl⟩:∃ v,vs=[v]:=by
    match vs,hl with
    | [v],_=>exact ⟨v,rfl⟩
   have a1:=fd0 f (by simp)
   have b1:=nm f (hfs f (by simp))
   exact jnZ T F.store_ValueError set0.1 set0.2 a1.1 a1.2.1 a1.2.2 (.inl (hloc _ (by simp))) (.inl (hloc _ (by simp))) (by decide) b1.1 (by decide) b1.2 (fun _=>rfl)
  ·rw [hbd]
   obtain ⟨v,v2,rfl⟩:∃ v v2,vs=[v,v2]:=by
    match vs,hl with
    | [v,v2],_=>exact ⟨v,v2,rfl⟩
   have a1:=fd0 f (by simp)
   have a2:=fd0 f2 (by simp)
   have b1:=nm f (hfs f (by simp))
   have b2:=nm f2 (hfs f2 (by simp))
   exact jnY T F.store_ValueError set0.1 set0.2 a1.1 a1.2.1 a1.2.2 a2.1 a2.2.1 a2.2.2 hne (.inl (hloc _ (by simp))) (.inl (hloc _ (by simp))) (.inl (hloc _ (by simp))) (by decide) b1.1 b2.1 (by decide) b1.2 b2.2 (fun _=>rfl) (fun _=>rfl)
 have hn8:fs.length<=8:=by
  rcases hbody with ⟨f,p1,p2,p3,pos,rfl,hbd⟩ | ⟨f,f2,p1,p2,p3,pos,q1,q2,q3,qos,rfl,hne,hbd⟩ <;> simp
 exact jhK T F.excBase_ValueError B.ni hi lkI hcd S hr hb (by simp) hn8 (by decide) hg hmg c.kp ha go hdb he hpl pins s σ H D0 I h
theorem jgN {M:Model}{A:Around}{E:Value->Shared->Prop}{s:Shared}{Q:Bool->Shared->Prop}{oe:Obj}{x':Str}{fs':List Str}{C':Addr}(c:XCls X.K mg x fs C)(c':XCls X.K mg x' fs' C')(hp:x' ≠ "PlanError")(hK:X.K.In s.heap)(he:s.heap.get? ea=some oe)(hcls:oe.cls=.ref C)
  (hq:Q (decide (x=x')) s):wpAny M A (YfJ (.ref ea) (.ref C')) Q E s:=by
 have hk:=jeP c c' hp
 obtain ⟨D,N,fI,mN,mD,B,⟨q,bs,sn,sub,ab,col,dd,k0,k1,k2,k3,k5,lk⟩,_⟩:=c.ex
 obtain ⟨D',N',fI',mN',mD',B',⟨q',bs',sn',sub',ab',col',dd',k0',k1',k2',k3',k5',lk'⟩,_⟩:=c'.ex
 obtain ⟨h,g,d,t,os⟩:=s
 refine jcH (hK _ _ lk) (hK _ _ lk') he hcls (by simp) ?_
 have e:(Yae C::.ref D::bmV).contains (.ref C')=decide (x=x'):=by
  have hc:(Yae C::.ref D::bmV).contains (.ref C')=true↔x=x':=by
   obtain ⟨cd,h1,h2,h3,D1,mD1,B1,hm⟩:=c.name
   obtain ⟨cd',h1',h2',h3',_⟩:=c'.name
   constructor
   ·intro z
    simp at z
    rcases z with z | z
    ·subst z
     rw [h1] at h1'
     cases h1'
     exact h2.symm.trans h2'
    ·subst z
     obtain ⟨cd2,g1,g2,_⟩:=B.nm
     rw [h1'] at g1
     cases g1
     exact absurd (h2'.symm.trans g2) hp
   ·intro z
    subst z
    have:=c.m.symm.trans c'.m
    simp at this
    simp [this]
  by_cases z:x=x'
  ·rw [hc.mpr z]; simp [z]
  ·have:¬ ((Yae C::.ref D::bmV).contains (.ref C')=true):=fun y=>z (hc.mp y)
   simp only [Bool.not_eq_true] at this
   rw [this]; simp [z]
 rw [e]
 exact hq
theorem jfZ {M:Model}{A:Around}{E:Value->Shared->Prop}{s:Shared}{Q:Bool->Shared->Prop}{oe:Obj}{D':Addr}{mD':Str->Option Value}(c:XCls X.K mg x fs C)(B':XBase X.K mg D' mD')(hK:X.K.In s.heap)(he:s.heap.get? ea=some oe)(hcls:oe.cls=.ref C)
  (hq:Q true s):wpAny M A (YfJ (.ref ea) (.ref D')) Q E s:=by
 obtain ⟨D,N,fI,mN,mD,B,⟨q,bs,sn,sub,ab,col,dd,k0,k1,k2,k3,k5,lk⟩,_⟩:=c.ex
 have e:D=D':=by have:=B.m.symm.trans B'.m; simpa using this
 subst e
 obtain ⟨q,ND,bs,hd,sn,sub,ab,col,dd,k0,k1,k2,k3,k5,nid,lk2,n⟩:=B.lk
 obtain ⟨h,g,d,t,os⟩:=s
 refine jcH (hK _ _ lk) (hK _ _ lk2) he hcls (by decide) ?_
 have e:(Yae C::.ref D::bmV).contains (.ref D)=true:=by simp
 rw [e]
 exact hq
end
end L2

namespace L2
open PySem PySem.Spec PyProof.Rows
section
variable {prog:Program}{w:World}{A:Around}{E:Value->Shared->Prop}{s:Shared}{d it:Addr}{o:Obj}{es:Array Ya6}{ep i:Nat}
theorem jgh {Q:Value->Shared->Prop}(nd:(d == Ybq)=false)(ho:s.heap.get? d=some o)(hx:o.ExactDict)(hd:o.data=.dict es ep)
  (hQ:Q (.ref s.heap.objs.size) { s with heap:=s.heap.push { cls:=.type "dict_keyiterator",data:=.fields #[.ref d,.int 0 0,.int es.size 0,.int ep 0] } }):wpAny (model prog w) A (pyIter (.ref d)) Q E s:=by
 have T:s.TypeIs (.ref d) "dict" := ⟨o,ho,hx.1⟩
 refine wpAny_pyIter_slot T F.slot_dict_iter (YcJ F.slot_dict_iter T F.entry_dict_iter ?_ (F.args_dict_iter_1 _))
 unfold Builtin.«dict.__iter__» Builtin.Dict.dictSlotNone
 refine Yab (Yab (wpAny_notOrdered_dict T (Yam ?_)))
 unfold Builtin.Dict.showsAll
 refine Yab (m:=Builtin.Dict.addrOf (.ref d)) (Yfc (a:=d) rfl ?_)
 rw [if_neg (by rw [nd]; exact Yas)]
 refine Yab (Yam (Yab (wpAny_dictEntries ho hd (Yab (wpAny_dictEpoch ho hd ?_)))))
 exact Yab (Ybg (Yam ⟨_,rfl, "dict_keyiterator",_,⟨_,YaR _ rfl,rfl⟩,YeU.lookup,hQ⟩))
theorem je9 {io:Obj}{Q:Option Value->Shared->Prop}(hi:s.heap.get? it=some io)(ic:io.cls=.type "dict_keyiterator")(id:io.data=.fields #[.ref d,.int i 0,.int es.size 0,.int ep 0])(ho:s.heap.get? d=some o)(hd:o.data=.dict es ep)
  (hit:∀ e,es[i]?=some e->Q (some e.key) { s with heap:=s.heap.update it (Ybz (·.setIfInBounds 1 (rawInt ((i:Int) + 1)))) })
  (hend:A.handled=none/\(es[i]?=none->∀ h',Heap.ExtBut it s.heap h'->Q none { s with heap:=h' })):wpAny (model prog w) A (pyNext (.ref it)) Q E s:=by
 have T:s.TypeIs (.ref it) "dict_keyiterator" := ⟨io,hi,ic⟩
 unfold pyNext
 refine Yab (wpAny_attempt (YcX (name:=Yaa "__next__") T YeU (YcJ YeU T F.entry_dict_keyiterator_next ?_ (F.args_dict_keyiterator_next_1 _))))
 have own:Yga "dict_keyiterator" = false:=by decide
 have fin:∀ {α:Type} {m:String->Sem α} {s1:Shared} {Q1:α->Shared->Prop} {A1:Around} {E1:Value->Shared->Prop},s1.TypeIs (.ref it) "dict_keyiterator" -> wpAny (model prog w) A1 (m "dict_keyiterator") Q1 E1 s1->wpAny (model prog w) A1 (typeNameOfWhole (.ref it) >>= m) Q1 E1 s1:=
  fun T1 h1=>Yab (wpAny_typeNameOfWhole_keyiter T1 h1)
 refine Yab (Yam (Yab (Yab (fin T (Yam (Yab (wpAny_fieldsOf hi id ?_)))))))
 simp only [own,Ybb,if_false]
 show wpAny _ _ (if (Yae d == Yaj)=true then _ else _) _ _ s; rw [if_neg (fun z=>nomatch (show (Yae d == Yaj)=true from z))]
 refine Yab (Yam (Yab (wpAny_dictEntries ho hd ?_)))
 rw [if_neg (by simp)]
 refine Yab (Yam (Yab (wpAny_dictEpoch ho hd ?_)))
 rw [if_neg (by simp)]
 refine Yam ?_
 rcases hc:es[i]? with _ | e
 ·simp only [show ¬ ((i:Int) < 0) from by omega,if_false,Yc2,hc]
  refine Yab (fin T (Yam (Yab (YdA hi id (by rw [own]; simp) (Yab ?_)))))
  simp only [newExc,newTuple]
  refine Yab (Ybg ?_ (by size_fits)); refine Yab (m:=firstArgMember _ _) (Yfc (a:=Yaj) (by first | rfl | (simp only [firstArgMember]; rfl)) (Ybg ?_ (by size_fits)))
  simp only [raiseNew]
  refine Yab (wpAny_handled ?_); rw [show A.in1.handled=none from hend.1]
  refine Yab (Yam (wpAny_throw ?_)); refine Yab (wpAny_isInstance (T := "StopIteration") (b:=true) ⟨_,YaR _ rfl,rfl⟩ isSubtype_stop (Yam ?_))
  exact hend.2 hc _ (((YeE ..).extBut.push _).push _)
 ·simp only [show ¬ ((i:Int) < 0) from by omega,if_false,Yc2,hc]
  refine Yab (fin T (Yam (Yab (Ygc T ?_))))
  show wpAny _ _ (setField (.ref it) 1 (rawInt ((i:Int) + 1)) >>= _) _ _ s; refine Yab (YdA hi id (by simp) (Yab (Yb5 (Yab ?_))))
  have T2:({ s with heap:=s.heap.update it (Ybz (·.setIfInBounds 1 (rawInt ((i:Int) + 1)))) }:Shared).TypeIs (.ref it) "dict_keyiterator" :=
   ⟨_,Yb0 _ hi (Ycp (YcO id _)),(Yee ..).trans ic⟩
  refine Ygc T2 ?_
  exact Yam (Yam ⟨_,rfl,Yam (hit e hc)⟩)
end
noncomputable def Itd (a:Addr)(o:Obj):It:=
 ⟨fun i H=>∃ kvs,H a=some (.frz o (.dT kvs))/\i < kvs.length,fun i H x H'=>H'=H/\∃ kvs k v b,H a=some (.frz o (.dT kvs))/\kvs[i]?=some (k,v)/\x=.ref b/\H b=some (.tup (k.map kV)),fun i H=>∃ kvs,H a=some (.frz o (.dT kvs))/\kvs.length<=i⟩
theorem KT.len {H:Hp}{kvs:List (List Key×V)}{xs:List (List Key×Addr×Value)}(r:KT H kvs xs):kvs.length=xs.length:=by
 induction r with
 | nil=>rfl
 | cons _ _ ih=>simp [ih]
theorem KT.get {H:Hp}{kvs:List (List Key×V)}{xs:List (List Key×Addr×Value)}(r:KT H kvs xs):∀ {i:Nat} {p:List Key×V},kvs[i]?=some p->∃ q,xs[i]?=some q/\H q.2.1=some (.tup (p.1.map kV)):=by
 induction r with
 | nil=>intro i p h; simp at h
 | @cons p q ps qs h t ih=>
  intro i p' e
  cases i with
  | zero=>simp at e; subst e; exact ⟨q,rfl,h.2.1⟩
  | succ j=>simp at e; simpa using ih e
theorem jje {P:Program}{w:World}{K:Yac}{tg:Expr}(a it:Addr)(o:Obj)(es:Array Ya6)(ep:Nat)(hd:o.data=.dict es ep) :
  Turn P w K tg (Itd a o) [it] it (fun i h=>h.IsKeyIter it a i es.size ep) where
 mem:=by simp
 obj:=fun i h st b hb=>by
  have e:b=it:=by simpa using hb
  subst e
  obtain ⟨o,e,c,d⟩:=st
  exact ⟨o,e,fun v z=>by rw [d] at z; cases z⟩
 keep:=fun i h h' st k=>let ⟨o,e,r⟩:=st; ⟨o,k it (by simp) o e,r⟩
 item:=by
  intro X hP hw hK hc i pins s σ H E I hf st hg
  subst hP hw hK
  obtain ⟨kvs,hq,hl⟩:=hg
  obtain ⟨ho,z,y,xs,r,o',es',ep',h1,h2,h3,h4,h5⟩:=(show jaz X.prog X.w H s.heap a (.frz o (.dT kvs)) from I.hok a _ hq)
  rw [ho] at h1; cases h1
  rw [hd] at h3; cases h3
  have hs:es.size=kvs.length:=by
   have:=congrArg YeC h4
   simp at this
   rw [this,KT.len r]
  obtain ⟨f0,f1,f2,f3,f4,f5⟩:=hf it (by simp)
  obtain ⟨io,hi,ic,id'⟩:=st
  refine je9 hi ic id' ho hd (fun e he=>?_) ⟨I.ok.hd hc,fun z=>?_⟩
  ·obtain ⟨q,hxq,hbq⟩:=KT.get (H:=H) r (Yah hl)
   have ek:e.key=.ref q.2.1:=by
    have:es.toList[i]?=some e:=by simpa using he
    rw [h4,YaE,hxq] at this
    cases this
    rfl
   rw [ek]
   have sb:=YeE s.heap it (Ybz (·.setIfInBounds 1 (rawInt ((i:Int) + 1))))
   have I1:Inv X pins σ H { s with heap:=s.heap.update it (Ybz (·.setIfInBounds 1 (rawInt ((i:Int) + 1)))) }:=I.turned (t':=s.toks) (fun b o hb e=>(sb.2 b hb).trans e) f0 f1 f3 f4 f5
   have st':(s.heap.update it (Ybz (·.setIfInBounds 1 (rawInt ((i:Int) + 1))))).IsKeyIter it a (i + 1) es.size ep:=
    ⟨_,Yb0 _ hi (Ycp (YcO id' _)),(Yee ..).trans ic,by rw [YcO id']; simp [rawInt]⟩
   obtain ⟨oo,eo,co,dd⟩:=id st'
   exact ⟨_,rfl,jh7 (s:={ s with heap:=s.heap.update it (Ybz (·.setIfInBounds 1 (rawInt ((i:Int) + 1)))) }) eo co dd (by decide) ⟨.ref q.2.1,H,I1,rfl,⟨rfl,_,_,_,_,hq,Yah hl,rfl,hbq⟩,st',fun b hb=>(hf b hb).1⟩⟩
  ·exact absurd z (by rw [Array.getElem?_eq_getElem (by omega)]; exact fun z=>nomatch z)
 done:=by
  intro X hP hw hK hc i pins s σ H E I hf st hg
  subst hP hw hK
  obtain ⟨kvs,hq,hl⟩:=hg
  obtain ⟨ho,z,y,xs,r,o',es',ep',h1,h2,h3,h4,h5⟩:=(show jaz X.prog X.w H s.heap a (.frz o (.dT kvs)) from I.hok a _ hq)
  rw [ho] at h1; cases h1
  rw [hd] at h3; cases h3
  have hs:es.size=kvs.length:=by
   have:=congrArg YeC h4
   simp at this
   rw [this,KT.len r]
  obtain ⟨f0,f1,f2,f3,f4,f5⟩:=hf it (by simp)
  obtain ⟨io,hi,ic,id'⟩:=st
  refine je9 hi ic id' ho hd (fun e he=>?_) ⟨I.ok.hd hc,fun z h' eb=>⟨rfl,I.turned (t':=s.toks) (fun b o hb e=>eb b o hb e) f0 f1 f3 f4 f5⟩⟩
  exact absurd he (by rw [Array.getElem?_eq_none (by omega)]; exact fun z=>nomatch z)
 self:=fun _ _ _ _ _ st h=>wpAny_pyIter_keyiter st h
noncomputable def iDT (tl:TE):TI:=fun σ H R=>tl σ H fun x H1=>∃ a kvs,x=.ref a/\H1 a=some (.dT kvs)/\∀ o,R (Itd a o) (upd H1 a (.frz o (.dT kvs)))
theorem jnE {X:Cx}{tg l:Expr}{tl:TE}(hl:PE X l tl):PI X tg l (iDT tl):=by
 intro pins s σ H R I h
 refine thn (hl pins s σ H _ I h) fun v s1 ⟨x,H1,I1,r1,q1⟩=>?_
 obtain ⟨a,kvs,e,hq,q⟩:=q1
 subst e
 cases r1
 obtain ⟨z,y,xs,r,o,es,ep,h1,h2,h3,h4,h5⟩:=id (show jaz X.prog X.w H1 s1.heap a (.dT kvs) from I1.hok a _ hq)
 have I2:Inv X pins σ (upd H1 a (.frz o (.dT kvs))) { s1 with heap:=s1.heap,toks:=s1.toks }:=by
  refine I1.write (x:=a) (e:=a) (by rw [hq]; trivial) (.inl rfl) (fun b u _ e=>e) ⟨o,h1⟩ ⟨h1,?_⟩
  exact ⟨z,y,xs,KT.keeps r fun b ys e=>by rw [jab (fun z=>by rw [z,hq] at e; cases e)]; exact e,o,es,ep,h1,h2,h3,h4,h5⟩
 refine jgh y h1 h2 h3 ?_
 refine ⟨s1.heap.objs.size,[s1.heap.objs.size],_,_,upd H1 a (.frz o (.dT kvs)),rfl,I2.kept (t':=s1.toks) fun b o e=>Yaf _ e,jje a _ o es ep h3,⟨_,YaR _ rfl,rfl,rfl⟩,fun b hb=>?_,q o⟩
 have e:b=s1.heap.objs.size:=by simpa using hb
 subst e
 exact I2.fpOk (Yak _) (I2.hok.fresh (Yak _))
end L2

namespace Z
open PySem L2
set_option maxHeartbeats 4000000
inductive U where
 | non | bl (b:Bool) | int (i:Int) | str (x:Str) | tup (xs:List U) | loc (a:Addr) | fn (n:Nat) | ty (n:String)
 | exc (c:Nat) (fs:List U) | own (n:Nat) | clo (n:Nat) (cs:List U)
inductive MO where
 | lst (xs:List U) | fro (xs:List U) | dK (kvs:List (Key×U)) | dT (kvs:List (List Key×U)) | frd (o:Obj) (kvs:List (List Key×U))
noncomputable abbrev Gp:=Addr->Option MO
noncomputable def gup (G:Gp)(a:Addr)(o:MO):Gp:=fun b=>if b=a then some o else G b
structure New (G:Gp)(p:Addr)(o:MO)(G':Gp):Prop where
 no:G p=none
 eq:G'=gup G p o
structure Put (G:Gp)(a:Addr)(o:MO)(G':Gp):Prop where
 eq:G'=gup G a o
structure XV where
 c:Nat
 fs:List U
noncomputable abbrev Sg:=List (Option U)
noncomputable abbrev K1:=U->Gp->Prop
noncomputable abbrev KX:=XV->Gp->Prop
noncomputable def newO (G:Gp)(o:MO)(Q:K1):Prop:=∀ p G',New G p o G'->Q (.loc p) G'
noncomputable def putO (G:Gp)(a:Addr)(o:MO)(Q:Gp->Prop):Prop:=∀ G',Put G a o G'->Q G'
theorem newO.at {G:Gp}{o:MO}{Q:K1}(h:newO G o Q):∀ p,G p=none->Q (.loc p) (gup G p o):=fun p hp=>h p _ ⟨hp,rfl⟩
theorem putO.at {G:Gp}{a:Addr}{o:MO}{Q:Gp->Prop}(h:putO G a o Q):Q (gup G a o):=h _ ⟨rfl⟩
structure En where
 nx:Sg->Gp->Prop
 rt:K1
 ex:XV->Sg->Gp->Prop
noncomputable def lsG (G:Gp)(a:Addr):Option (List U):=match G a with
 | some (.lst xs)=>some xs
 | some (.fro xs)=>some xs
 | _=>none
noncomputable def kU:U->Option Key
 | .int i=>some (.inl i)
 | .str x=>some (.inr x)
 | _=>none
noncomputable def kUs:List U->Option (List Key)
 | []=>some []
 | u::r=>match kU u,kUs r with
  | some k,some ks=>some (k::ks)
  | _,_=>none
noncomputable def Ku:Key->U
 | .inl i=>.int i
 | .inr x=>.str x
section
variable {κ α:Type}[DecidableEq κ]
noncomputable def dGet (kvs:List (κ×α))(k:κ):Option α:=(kvs.find? fun kv=>decide (kv.1=k)).map (·.2)
noncomputable def dPut (kvs:List (κ×α))(k:κ)(v:α):List (κ×α):=
 if (kvs.any fun kv=>decide (kv.1=k))=true then kvs.map (fun kv=>if kv.1=k then (kv.1,v) else kv) else kvs++[(k,v)]
noncomputable def jcN (more:List (κ×α)):List (κ×α):=more.foldl (fun acc kv=>dPut acc kv.1 kv.2) []
end
noncomputable def cut {α:Type}(xs:List α)(lo hi:Option Int):List α:=(xs.drop (HT.sIx xs.length 0 lo)).take (HT.sIx xs.length xs.length hi - HT.sIx xs.length 0 lo)
mutual
inductive DU (G:Gp):U->PyData->Prop
 | non:DU G .non .none
 | bl (b:Bool):DU G (.bl b) (.bool b)
 | int (i:Int):DU G (.int i) (.int i)
 | str (x:Str):DU G (.str x) (.str x)
 | tup {us:List U} {ds:List PyData}:DUs G us ds->DU G (.tup us) (.tuple ds)
 | lst {a:Addr} {us:List U} {ds:List PyData}:lsG G a=some us->DUs G us ds->DU G (.loc a) (.list ds)
 | dic {a:Addr}:G a=some (.dK [])->DU G (.loc a) (.dict [])
inductive DUs (G:Gp):List U->List PyData->Prop
 | nil:DUs G [] []
 | cons {u:U} {d:PyData} {us:List U} {ds:List PyData}:DU G u d->DUs G us ds->DUs G (u::us) (d::ds)
end
noncomputable def addU:U->U->Gp->K1->Prop
 | .int i,.int j,G,Q=>Q (.int (i + j)) G
 | .str x,.str y,G,Q=>x.length + y.length<=Yan/\Q (.str (x++y)) G
 | .tup xs,.tup ys,G,Q=>xs.length + ys.length<=Yan/\Q (.tup (xs++ys)) G
 | .loc a,.loc b,G,Q=>∃ xs ys,G a=some (.lst xs)/\G b=some (.lst ys)/\xs.length + ys.length<=Yan/\newO G (.lst (xs++ys)) Q
 | .bl b,.int j,G,Q=>Q (.int ((if b=true then (1:Int) else 0) + j)) G
 | _,_,_,_=>False
noncomputable def subU:U->U->Gp->K1->Prop
 | .int i,.int j,G,Q=>Q (.int (i - j)) G
 | .bl b,.int j,G,Q=>Q (.int ((if b=true then (1:Int) else 0) - j)) G
 | .int i,.bl b,G,Q=>Q (.int (i - if b=true then (1:Int) else 0)) G
 | _,_,_,_=>False
noncomputable def mulU:U->U->Gp->K1->Prop
 | .int i,.int j,G,Q=>CMul i j/\Q (.int (i * j)) G
 | .loc a,.int k,G,Q=>∃ xs,G a=some (.lst xs)/\-(2 ^ 63)<=k/\k < 2 ^ 63/\xs.length * k.toNat<=Yan/\newO G (.lst (Yaq k.toNat xs).flatten) Q
 | .tup xs,.int k,G,Q=>xs≠[]/\1<=k/\k < 2 ^ 62/\xs.length * k.toNat<=Yan/\Q (.tup (Yaq k.toNat xs).flatten) G
 | _,_,_,_=>False
noncomputable def jky:U->U->Gp->K1->Prop
 | .int i,.int j,G,Q=>0 < j/\j < 1073741824/\Q (.int (i / j)) G
 | _,_,_,_=>False
noncomputable def modU:U->U->Gp->K1->Prop
 | .int i,.int j,G,Q=>0 < j/\Q (.int (i % j)) G
 | _,_,_,_=>False
noncomputable def powU:U->U->Gp->K1->Prop
 | .int i,.int j,G,Q=>CPow i j/\Q (.int (i ^ j.toNat)) G
 | _,_,_,_=>False
noncomputable def binU:Ycs->U->U->Gp->K1->Prop
 | .Add=>addU
 | .Sub=>subU
 | .Mult=>mulU
 | .FloorDiv=>jky
 | .Mod=>modU
 | .Pow=>powU
 | _=>fun _ _ _ _=>False
noncomputable def jdB:Ycs->U->U->Gp->K1->Prop
 | .Add,.int i,.int j,G,Q=>Q (.int (i + j)) G
 | .Add,.str x,.str y,G,Q=>x.length + y.length<=Yan/\Q (.str (x++y)) G
 | .Sub,.int i,.int j,G,Q=>Q (.int (i - j)) G
 | .Mult,.int i,.int j,G,Q=>CMul i j/\Q (.int (i * j)) G
 | _,_,_,_,_=>False
noncomputable def negU:U->Gp->K1->Prop
 | .int i,G,Q=>Q (.int (-i)) G
 | _,_,_=>False
noncomputable def Small (d:PyData):Prop:=d.canLay0=true/\d.depth<=100
noncomputable def eqU:U->U->Gp->(Bool->Prop)->Prop
 | .non,.non,_,k=>k true
 | .non,.bl _,_,k=>k false
 | .non,.int _,_,k=>k false
 | .non,.str _,_,k=>k false
 | .bl _,.non,_,k=>k false
 | .bl a,.bl b,_,k=>k (decide (a=b))
 | .bl _,.str _,_,k=>k false
 | .int _,.non,_,k=>k false
 | .int i,.int j,_,k=>k (decide (i=j))
 | .int _,.str _,_,k=>k false
 | .str _,.non,_,k=>k false
 | .str _,.bl _,_,k=>k false
 | .str _,.int _,_,k=>k false
 | .str x,.str y,_,k=>k (decide (x=y))
 | x,y,G,k=>∃ d e,DU G x d/\DU G y e/\Small d/\Small e/\k (Ybh d e)
noncomputable def eqQ:U->U->Gp->(Bool->Prop)->Prop
 | .loc a,.str y,G,k=>(∃ kvs,G a=some (.dK kvs)/\k false)\/(∃ xs,G a=some (.lst xs)/\k false)\/eqU (.loc a) (.str y) G k
 | .tup xs,.tup [],_,k=>k xs.isEmpty
 | .tup _,.str _,_,k=>k false
 | x,y,G,k=>eqU x y G k
noncomputable def flat:U->Bool
 | .non | .bl _ | .int _ | .str _=>true
 | _=>false
noncomputable def eqF:U->U->Bool
 | .non,.non=>true
 | .bl a,.bl b=>a == b
 | .bl a,.int b=>(if a then 1 else 0) == b
 | .int a,.bl b=>a == (if b then 1 else 0)
 | .int a,.int b=>a == b
 | .str a,.str b=>a == b
 | _,_=>false
noncomputable def inU : U -> U -> Gp -> (Bool -> Prop) -> Prop
  | .str x, .str y, _, k => k (!(Ydp y x 0 y.length 1).isEmpty)
  | x, .tup ys, _, k => flat x = true /\ ys.all flat = true /\ k (ys.any fun y => eqF y x)
  | x, .loc a, G, k => match G a with
    | some (.lst ys) => (flat x = true /\ ys.all flat = true /\ k (ys.any fun y => eqF y x)) \/
        ∃ d ds, DU G x d /\ DUs G ys ds /\ Small d /\ (∀ e ∈ ds, Small e) /\ k (ds.any fun e => Ybh e d)
    | some (.fro ys) => flat x = true /\ ys.all flat = true /\ k (ys.any fun y => eqF y x)
    | some (.dK kvs) => match kU x with
      | some y => k (dGet kvs y).isSome
      | none => False
    | some (.dT kvs) => match x with
      | .tup xs => match kUs xs with
        | some y => k (dGet kvs y).isSome
        | none => False
      | _ => False
    | _ => False
  | _, _, _, _ => False
noncomputable def ordU:CmpOp->U->U->(Bool->Prop)->Prop
 | .Lt,.int i,.int j,k=>k (decide (i < j))
 | .Gt,.int i,.int j,k=>k (decide (j < i))
 | _,_,_,_=>False
noncomputable def cmpU:CmpOp->U->U->Gp->(Bool->Prop)->Prop
 | .Eq,x,y,G,k=>eqQ x y G k
 | .NotEq,x,y,G,k=>eqU x y G fun b=>k (!b)
 | .Is,_,_,_,_=>False
 | .IsNot,_,_,_,_=>False
 | .In,x,y,G,k=>inU x y G k
 | .NotIn,_,_,_,_=>False
 | o,x,y,_,k=>ordU o x y k
noncomputable def truU:U->Gp->(Bool->Prop)->Prop
 | .non,_,k=>k false
 | .bl b,_,k=>k b
 | .int i,_,k=>k (i != 0)
 | .str x,_,k=>x.length<=Yan/\k ((x.length:Int) != 0)
 | .tup xs,_,k=>k (!xs.isEmpty)
 | .loc a,G,k=>match G a with
  | some (.lst xs)=>k (!xs.isEmpty)
  | some (.fro xs)=>k (!xs.isEmpty)
  | some (.dK kvs)=>k (!kvs.isEmpty)
  | _=>False
 | _,_,_=>False
noncomputable def ixU:U->U->Gp->K1->Prop
 | .tup xs,.int i,G,Q=>match atI xs i with
  | some u=>Q u G
  | none=>False
 | .str x,.int i,G,Q=>x.length<=Yan/\match atI x.cps.toList i with
  | some c=>Q (.str ⟨#[c]⟩) G
  | none=>False
 | .loc a,y,G,Q=>match G a with
  | some (.lst xs)=>(match y with | .int i=>(match atI xs i with | some u=>Q u G | none=>False) | _=>False)
  | some (.fro xs)=>(match y with | .int i=>(match atI xs i with | some u=>Q u G | none=>False) | _=>False)
  | some (.dK kvs)=>(match kU y with | some k=>(match dGet kvs k with | some u=>Q u G | none=>False) | none=>False)
  | some (.dT kvs)=>(match y with | .tup ys=>(match kUs ys with | some k=>(match dGet kvs k with | some u=>Q u G | none=>False) | none=>False) | _=>False)
  | _=>False
 | _,_,_,_=>False
noncomputable def slU:U->Option Int->Option Int->Gp->K1->Prop
 | .tup xs,lo,hi,G,Q=>Q (.tup (cut xs lo hi)) G
 | .str x,lo,hi,G,Q=>x.length<=Yan/\Q (.str (Yfx x lo hi)) G
 | .loc a,lo,hi,G,Q=>match lsG G a with
  | some xs=>newO G (.lst (cut xs lo hi)) Q
  | none=>False
 | _,_,_,_,_=>False
noncomputable def revU:U->U->Gp->K1->Prop
 | .tup xs,.int i,G,Q=>i=-1/\Q (.tup xs.reverse) G
 | .loc a,.int i,G,Q=>match lsG G a with
  | some xs=>(i=1\/i=-1)/\newO G (.lst (if i=1 then xs else xs.reverse)) Q
  | none=>False
 | _,_,_,_=>False
noncomputable def jnX:U->U->Gp->K1->Prop
 | .loc a,.int i,G,Q=>(match G a with
  | some (.lst xs)=>0<=i/\(match xs[i.toNat]? with | some u=>Q u G | none=>False)
  | _=>False)
 | _,_,_,_=>False
noncomputable def setU:U->U->U->Gp->(Gp->Prop)->Prop
 | .loc a,y,v,G,Q=>match G a with
  | some (.lst xs)=>(match y with | .int i=>(match ixN xs.length i with | some j=>putO G a (.lst (xs.set j v)) Q | none=>False) | _=>False)
  | some (.dK kvs)=>(match kU y with | some k=>kvs.length < Yan/\putO G a (.dK (dPut kvs k v)) Q | none=>False)
  | some (.dT kvs)=>(match y with | .tup ys=>(match kUs ys with | some k=>kvs.length < Yan/\putO G a (.dT (dPut kvs k v)) Q | none=>False) | _=>False)
  | _=>False
 | _,_,_,_,_=>False
inductive Blt | len | repr | min | max | sum | all | any | sorted | int | str | isi
 deriving DecidableEq
inductive Mth | append | extend | insert | pop | reverse | index | join | get
 deriving DecidableEq
noncomputable def jdz:List U->Option (List Int)
 | []=>some []
 | .int i::r=>(match jdz r with | some l=>some (i::l) | none=>none)
 | _=>none
noncomputable def jnu:List U->Option (List Str)
 | []=>some []
 | .str x::r=>(match jnu r with | some l=>some (x::l) | none=>none)
 | _=>none
noncomputable def jcQ:List U->Option (List Bool)
 | []=>some []
 | .bl x::r=>(match jcQ r with | some l=>some (x::l) | none=>none)
 | _=>none
noncomputable def lenU:List U->Gp->K1->Prop
 | [.tup xs],G,Q=>Q (.int xs.length) G
 | [.str x],G,Q=>x.length<=Yan/\Q (.int x.length) G
 | [.loc a],G,Q=>(match G a with
  | some (.lst xs)=>Q (.int xs.length) G
  | some (.fro xs)=>Q (.int xs.length) G
  | some (.dK kvs)=>Q (.int kvs.length) G
  | _=>False)
 | _,_,_=>False
noncomputable def jcx:List U->Gp->K1->Prop
 | [u],G,Q=>∃ d,DU G u d/\Fits 16000000 60 d/\Q (.str d.shown) G
 | _,_,_=>False
noncomputable def minU:List U->Gp->K1->Prop
 | [.int i,.int j],G,Q=>Q (.int (if j < i then j else i)) G
 | _,_,_=>False
noncomputable def jlT (xs:List U)(G:Gp)(Q:K1):Prop:=match jdz xs with
 | some ns=>ns≠[]/\∀ z∈ns,(∀ y∈ns,y<=z)->Q (.int z) G
 | none=>False
noncomputable def maxU:List U->Gp->K1->Prop
 | [.int i,.int j],G,Q=>Q (.int (if j > i then j else i)) G
 | [.loc a],G,Q=>(match G a with
  | some (.lst xs)=>jlT xs G Q
  | _=>False)
 | [.tup xs],G,Q=>jlT xs G Q
 | _,_,_=>False
noncomputable def sumU:List U->Gp->K1->Prop
 | [.loc a],G,Q=>(match G a with
  | some (.lst xs)=>(match jdz xs with | some ns=>Q (.int ns.sum) G | none=>False)
  | _=>False)
 | _,_,_=>False
noncomputable def anyU:List U->Gp->K1->Prop
 | [.loc a],G,Q=>(match G a with
  | some (.lst xs)=>(match jcQ xs with | some bs=>Q (.bl (bs.any id)) G | none=>False)
  | _=>False)
 | _,_,_=>False
noncomputable def intU:List U->Gp->K1->Prop
 | [.int i],G,Q=>Q (.int i) G
 | [.bl b],G,Q=>Q (.int (if b then 1 else 0)) G
 | _,_,_=>False
noncomputable def jbY : List U -> Gp -> K1 -> Prop
  | [.loc a], G, Q => (match G a with
    | some (.lst us) => ∃ ks : List (List Int), ks.Nodup /\ us.length < jbd /\ us.length = ks.length /\ ((∃ ns : List Int, us = ns.map .int /\ ks = ns.map fun n => [n]) \/ (∃ as : List Addr, us = as.map .loc /\ ∀ (i : Nat) a k, as[i]? = some a -> ks[i]? = some k -> G a = some (.lst (k.map .int))) \/ us = ks.map (fun k => .tup (k.map .int)) /\ ∀ k ∈ ks, k ≠ []) /\
        ∀ π : List Nat, π.Perm (YaV us.length) -> (∀ i, i + 1 < us.length -> HT.lexLt (ks.getD (π.getD i 0) []) (ks.getD (π.getD (i + 1) 0) []) = true) -> newO G (.lst (π.map fun i => us.getD i .non)) Q
    | _ => False)
  | _, _, _ => False
noncomputable def mkDU:U->Gp->K1->Prop
 | .loc a,G,Q=>(match G a with
  | some (.dK kvs)=>∃ ns:List Int,kvs.map (·.1)=ns.map (fun z=>(Sum.inl z:Key))/\newO G (.lst (ns.map .int)) Q
  | _=>False)
 | _,_,_=>False
noncomputable def jnP:U->Gp->K1->Prop
 | .loc a,G,Q=>(match G a with
  | some (.lst us)=>∃ ks:List (List Int),(us=ks.map (fun k=>U.tup (k.map .int))\/∃ ns:List Int,us=ns.map .int/\ks=ns.map fun n=>[n])/\(us=[]->Q .non G)/\∀ u,us[jmt ks]?=some u->Q u G
  | _=>False)
 | _,_,_=>False
noncomputable def jnQ:U->Gp->K1->Prop
 | .loc a,G,Q=>(match G a with
  | some (.lst us)=>∃ ns:List Int,us=ns.map .int/\(ns=[]->Q (.int 0) G)/\∀ z∈ns,(∀ y∈ns,y<=z)->Q (.int z) G
  | _=>False)
 | _,_,_=>False
noncomputable def bltU:Blt->List U->Gp->K1->Prop
 | .len=>lenU
 | .repr=>jcx
 | .min=>fun _ _ _=>False
 | .max=>fun _ _ _=>False
 | .sum=>sumU
 | .all=>fun _ _ _=>False
 | .any=>anyU
 | .sorted=>jbY
 | .int=>intU
 | .str=>fun _ _ _=>False
 | .isi=>fun _ _ _=>False
noncomputable def je2:U->List U->Gp->K1->Prop
 | .loc a,[v],G,Q=>(match G a with
  | some (.lst xs)=>xs.length < Yan/\putO G a (.lst (xs++[v])) (Q .non)
  | _=>False)
 | _,_,_,_=>False
noncomputable def jcC:Mth->U->List U->Gp->K1->Prop
 | .append=>je2
 | .extend=>fun _ _ _ _=>False
 | .insert=>fun _ _ _ _=>False
 | .pop=>fun _ _ _ _=>False
 | .reverse=>fun _ _ _ _=>False
 | .index=>fun _ _ _ _=>False
 | .join=>fun _ _ _ _=>False
 | .get=>fun _ _ _ _=>False
noncomputable def mtU:Mth->U->Gp->Option (String×String)
 | .append,x,G=>(match x with | .loc a=>(match G a with | some (.lst _)=>some ("list", "list.append") | _=>none) | _=>none)
 | .extend,_,_=>none
 | .insert,_,_=>none
 | .pop,_,_=>none
 | .reverse,_,_=>none
 | .index,_,_=>none
 | .join,_,_=>none
 | .get,_,_=>none
noncomputable def clsA:List (Str×List Str):=[("PlanError",[]),("NoPaper",["word", "at"]),("TooMany",["word"]),("NoRing",["word"]),("NoText",["row", "word"]),("NoRow",["row"])]
noncomputable def clsN (c:Nat):Str:=(clsA.getD c ("",[])).1
noncomputable def clsF (c:Nat):List Str:=(clsA.getD c ("",[])).2
inductive HL where
 | is1 (c:Nat) | isi (cs:List Nat) | isiV | v (i:Nat)
inductive HA where
 | str (x:Str) | att (f:Str)
inductive HV where
 | cond (k:Bool) (a:Bool×HL) (as:List (Bool×HL)) | one (a:HA) | bl (b:Bool) | tup (as:List HA) | lst (as:List HA)
inductive HS where
 | asg (i:Nat) (e:HV) | ifa (k:Bool) (a:Bool×HL) (as:List (Bool×HL)) (i:Nat) (e:HV)
section
variable (x:XV)
noncomputable def litH (ς:Sg):HL->Option Bool
 | .is1 c=>some (decide (x.c=c))
 | .isi cs=>some (cs.contains x.c)
 | .isiV=>some true
 | .v i=>match ς[i]? with
  | some (some (.bl b))=>some b
  | _=>none
noncomputable def lit1 (ς:Sg)(p:Bool×HL):Option Bool:=match litH x ς p.2 with
 | some b=>some (if p.1=true then !b else b)
 | none=>none
noncomputable def ja1 (ς:Sg)(k:Bool):Bool×HL->List (Bool×HL)->Option Bool
 | a,[]=>lit1 x ς a
 | a,b::r=>match lit1 x ς a with
  | some t=>if t=k then ja1 ς k b r else some t
  | none=>none
noncomputable def atH:HA->Option U
 | .str y=>some (.str y)
 | .att f=>((clsF x.c).zip x.fs).lookup f
noncomputable def atsH:List HA->Option (List U)
 | []=>some []
 | a::r=>match atH x a,atsH r with
  | some u,some us=>some (u::us)
  | _,_=>none
noncomputable def hvH (ς:Sg):HV->Gp->K1->Prop
 | .cond k a as,G,Q=>match ja1 x ς k a as with
  | some b=>Q (.bl b) G
  | none=>False
 | .one a,G,Q=>match atH x a with
  | some u=>Q u G
  | none=>False
 | .bl b,G,Q=>Q (.bl b) G
 | .tup as,G,Q=>match atsH x as with
  | some us=>Q (.tup us) G
  | none=>False
 | .lst as,G,Q=>match atsH x as with
  | some us=>newO G (.lst us) Q
  | none=>False
noncomputable def hsH:List HS->Sg->Gp->(Sg->Gp->Prop)->Prop
 | [],ς,G,k=>k ς G
 | .asg i e::r,ς,G,k=>hvH x ς e G fun u G1=>hsH r (ς.set i (some u)) G1 k
 | .ifa q a as i e::r,ς,G,k=>match ja1 x ς q a as with
  | some true=>hvH x ς e G fun u G1=>hsH r (ς.set i (some u)) G1 k
  | some false=>hsH r ς G k
  | none=>False
end
mutual
inductive E where
 | v (i:Nat) | non | bl (b:Bool) | int (i:Int) | str (x:Str) | g (n:Nat)
 | bin (o:Ycs) (a b:E) | neg (a:E) | not (a:E) | bop (k:Bool) (a:E) (es:Es)
 | cmp (o:CmpOp) (a b:E) | cmp2 (o p:CmpOp) (a b c:E) | ife (c a b:E)
 | tup (es:Es) | lst (es:Es) | dic (es:Es) | dicT
 | ix (a b:E) | sl (a:E) (lo hi:Eo) | rev (a st:E)
 | call (n:Nat) (es:Es) | app (i:Nat) (es:Es) | blt (b:Blt) (es:Es) | meth (m:Mth) (o:E) (es:Es)
 | ty (n:String)
 | lc (pick:List (Option Nat)) (t:Tg) (it:It) (ifs:Es) (e:E) | lc2 (pick:List (Option Nat)) (t:Tg) (it:It) (ifs:Es) (t2:Tg) (it2:It) (ifs2:Es) (e:E) | mkL (e:E) | mkT (e:E) | rngL (a:E) | rngT (a:E) | rngL2 (a b:E) | minD (e:E) | maxD (e:E) | mkD (e:E)
inductive Eo where
 | no | so (e:E)
inductive Es where
 | nil | cons (e:E) (es:Es)
inductive Tg where
 | n (i:Nat) | t (ts:Tgs)
inductive Tgs where
 | nil | cons (t:Tg) (ts:Tgs)
inductive It where
 | e (e:E) | r1 (e:E) | r2 (a b:E) | enum (e:E) | dk (e:E)
end
mutual
inductive S where
 | pass | expr (e:E) | asg (t:Tg) (e:E) | asgC (i:Nat) (e:E) | setS (o i e:E) | par (is:List Nat) (es:Es) | aug (i:Nat) (o:Ycs) (e:E) | augS (o i:E) (p:Ycs) (e:E)
 | ite (c:E) (a b:Ss) | fr (t:Tg) (it:It) (b:Ss) | wh (c:E) (b:Ss) | ret (e:E) | retN
 | never | raise (c:Nat) (es:Es) | tr (b:Ss) (c:Nat) (n:Nat) (h:List HS)
inductive Ss where
 | nil | cons (s:S) (ss:Ss)
end
mutual
noncomputable def tgU:Tg->U->Sg->(Sg->Prop)->Prop
 | .n i,u,ς,k=>k (ς.set i (some u))
 | .t ts,u,ς,k=>match u with
  | .tup us=>tgsU ts us ς k
  | _=>False
noncomputable def tgsU:Tgs->List U->Sg->(Sg->Prop)->Prop
 | .nil,us,ς,k=>us=[]/\k ς
 | .cons t ts,us,ς,k=>match us with
  | []=>False
  | u::r=>tgU t u ς fun ς'=>tgsU ts r ς' k
end
noncomputable abbrev Cl:=Nat->List U->Gp->K1->KX->Prop
noncomputable def slot (ς:Sg)(i:Nat)(k:U->Prop):Prop:=match ς[i]? with
 | some (some u)=>k u
 | _=>False
noncomputable def jbA (pick:List (Option Nat))(ς:Sg):Sg:=pick.map fun o=>o.bind fun j=>(ς[j]?).join
noncomputable def jcP (ok:Gp->Prop)(b:U->Gp->(Option U->Gp->Prop)->Prop):List U->List U->Gp->(List U->Gp->Prop)->Prop
 | [],acc,G,k=>ok G/\k acc G
 | x::xs,acc,G,k=>ok G/\b x G fun o G'=>jcP ok b xs (match o with | some u=>acc++[u] | none=>acc) G' k
noncomputable def jkC (ok:Gp->Prop)(b:U->List U->Gp->(List U->Gp->Prop)->Prop):List U->List U->Gp->(List U->Gp->Prop)->Prop
 | [],acc,G,k=>ok G/\k acc G
 | x::xs,acc,G,k=>ok G/\b x acc G fun acc' G'=>jkC ok b xs acc' G' k
noncomputable def forL (ok:Gp->Prop)(b:U->Sg->Gp->(Sg->Gp->Prop)->Prop):List U->Sg->Gp->(Sg->Gp->Prop)->Prop
 | [],ς,G,k=>ok G/\k ς G
 | x::xs,ς,G,k=>ok G/\b x ς G fun ς' G'=>forL ok b xs ς' G' k
noncomputable def rngU (i:Int)(n:Nat):List U:=(YaV n).map fun k:Nat=>.int (i + k)
noncomputable def jml:Nat->List U->List U
 | _,[]=>[]
 | n,u::r=>.tup [.int n,u]::jml (n + 1) r
noncomputable def itU:U->Gp->(List U->(Gp->Prop)->Prop)->Prop
 | .tup xs,_,k=>k xs fun _=>True
 | .loc a,G,k=>match lsG G a with
  | some xs=>k xs fun G'=>lsG G' a=some xs
  | none=>False
 | _,_,_=>False
noncomputable def jfL:U->Gp->(List U->(Gp->Prop)->Gp->Prop)->Prop
 | .loc a,G,Q=>match G a with
  | some (.dT kvs)=>∀ o G',Put G a (.frd o kvs) G'->Q (kvs.map fun p=>.tup (p.1.map Ku)) (fun G'=>G' a=some (.frd o kvs)) G'
  | _=>False
 | _,_,_=>False
noncomputable def glU (gs:List U)(n:Nat)(k:U->Prop):Prop:=match gs[n]? with
 | some u=>k u
 | none=>False
noncomputable abbrev UE:=Sg->Gp->K1->KX->Prop
noncomputable abbrev UT:=Sg->Gp->(Bool->Gp->Prop)->KX->Prop
noncomputable abbrev UA:=Sg->Gp->(List U->Gp->Prop)->KX->Prop
noncomputable def truT (t:UE):UT:=fun ς G Q X=>t ς G (fun x G1=>truU x G1 fun b=>Q b G1) X
noncomputable abbrev tp (t:UE):UE×UT:=(t,truT t)
noncomputable def comb:Bool->UE×UT->UE×UT->UE×UT
 | true,p,q=>(fun ς G Q X=>p.1 ς G (fun x G1=>truU x G1 fun c=>if c=true then q.1 ς G1 Q X else Q x G1) X,fun ς G Q X=>p.2 ς G (fun c G1=>if c=true then q.2 ς G1 Q X else Q false G1) X)
 | false,p,q=>(fun ς G Q X=>p.1 ς G (fun x G1=>truU x G1 fun c=>if c=true then Q x G1 else q.1 ς G1 Q X) X,fun ς G Q X=>p.2 ς G (fun c G1=>if c=true then Q true G1 else q.2 ς G1 Q X) X)
section
variable (gs:List U)(Δ:Cl)
mutual
noncomputable def den : E -> UE × UT
  | .v i => tp fun ς G Q _ => slot ς i fun u => Q u G
  | .non => tp fun _ G Q _ => Q .non G
  | .bl b => tp fun _ G Q _ => Q (.bl b) G
  | .int i => tp fun _ G Q _ => Q (.int i) G
  | .str x => tp fun _ G Q _ => Q (.str x) G
  | .g n => tp fun _ G Q _ => glU gs n fun u => Q u G
  | .bin o a b => tp fun ς G Q X => (den a).1 ς G (fun x G1 => (den b).1 ς G1 (fun y G2 => binU o x y G2 Q) X) X
  | .neg a => tp fun ς G Q X => (den a).1 ς G (fun x G1 => negU x G1 Q) X
  | .not a => (fun ς G Q X => (den a).1 ς G (fun x G1 => truU x G1 fun b => Q (.bl (!b)) G1) X,
      fun ς G Q X => (den a).2 ς G (fun b G1 => Q (!b) G1) X)
  | .bop k a es => denB k (den a) es
  | .cmp o a b => tp fun ς G Q X => (den a).1 ς G (fun x G1 => (den b).1 ς G1 (fun y G2 => cmpU o x y G2 fun c => Q (.bl c) G2) X) X
  | .cmp2 o p a b c => tp fun ς G Q X => (den a).1 ς G (fun x G1 => (den b).1 ς G1 (fun y G2 => cmpU o x y G2 fun t => if t = true then (den c).1 ς G2 (fun z G3 => cmpU p y z G3 fun t' => Q (.bl t') G3) X else Q (.bl false) G2) X) X
  | .ife c a b => (fun ς G Q X => (den c).2 ς G (fun t G1 => if t = true then (den a).1 ς G1 Q X else (den b).1 ς G1 Q X) X,
      fun ς G Q X => (den c).2 ς G (fun t G1 => if t = true then (den a).2 ς G1 Q X else (den b).2 ς G1 Q X) X)
  | .tup es => tp fun ς G Q X => jaZ es ς G (fun us G1 => us.length <= Yan /\ Q (.tup us) G1) X
  | .lst es => tp fun ς G Q X => jaZ es ς G (fun us G1 => us.length <= Yan /\ newO G1 (.lst us) Q) X
  | .dic es => tp fun ς G Q X => denD es ς G (fun kvs G1 => kvs.length <= 15 /\ newO G1 (.dK (jcN kvs)) Q) X
  | .dicT => tp fun _ G Q _ => newO G (.dT []) Q
  | .ix a b => tp fun ς G Q X => (den a).1 ς G (fun x G1 => (den b).1 ς G1 (fun y G2 => ixU x y G2 Q) X) X
  | .sl a lo hi => tp fun ς G Q X => (den a).1 ς G (fun x G1 => denO lo ς G1 (fun l G2 => denO hi ς G2 (fun h G3 => slU x l h G3 Q) X) X) X
  | .rev a b => tp fun ς G Q X => (den a).1 ς G (fun x G1 => (den b).1 ς G1 (fun y G2 => revU x y G2 Q) X) X
  | .call n es => tp fun ς G Q X => jaZ es ς G (fun us G1 => Δ n us G1 Q X) X
  | .app _ _ => tp fun _ _ _ _ => False
  | .blt b es => tp fun ς G Q X => jaZ es ς G (fun us G1 => bltU b us G1 Q) X
  | .meth m o es => tp fun ς G Q X => (den o).1 ς G (fun x G1 => match mtU m x G1 with
      | some _ => jaZ es ς G1 (fun us G2 => jcC m x us G2 Q) X
      | none => False) X
  | .ty n => tp fun _ G Q _ => Q (.ty n) G
  | .lc pick t it ifs e => tp fun ς G Q X => denI it ς G (fun xs ok G1 => xs.length <= Yan /\ jcP ok (fun x G2 k => tgU t x (jbA pick ς) fun τ => denC ifs τ G2 (fun b G3 => if b = true then (den e).1 τ G3 (fun u G4 => k (some u) G4) (fun _ _ => False) else k none G3)) xs [] G1
      fun us G5 => newO G5 (.lst us) Q) X
  | .lc2 pick t it ifs t2 it2 ifs2 e => tp fun ς G Q X => denI it ς G (fun xs ok G1 => jkC ok (fun x acc G2 k => tgU t x (jbA pick ς) fun τ => denC ifs τ G2 (fun b G3 => if b = true then denI it2 τ G3 (fun ys ok2 G4 => acc.length + ys.length <= Yan /\ jcP ok2 (fun y G5 k5 => tgU t2 y τ fun τ' => denC ifs2 τ' G5 (fun b2 G6 => if b2 = true then (den e).1 τ' G6 (fun u G7 => k5 (some u) G7) (fun _ _ => False) else k5 none G6)) ys acc G4 k) (fun _ _ => False) else k acc G3)) xs [] G1
      fun us G5 => newO G5 (.lst us) Q) X
  | .mkD e => tp fun ς G Q X => (den e).1 ς G (fun x G1 => mkDU x G1 Q) X
  | .maxD e => tp fun ς G Q X => (den e).1 ς G (fun x G1 => jnQ x G1 Q) X
  | .minD e => tp fun ς G Q X => (den e).1 ς G (fun x G1 => jnP x G1 Q) X
  | .mkL e => tp fun ς G Q X => (den e).1 ς G (fun x G1 => itU x G1 fun xs _ => newO G1 (.lst xs) Q) X
  | .mkT e => tp fun ς G Q X => (den e).1 ς G (fun x G1 => itU x G1 fun xs _ => Q (.tup xs) G1) X
  | .rngL e => tp fun ς G Q X => (den e).1 ς G (fun x G1 => match x with
      | .int j => 0 <= j /\ j <= 1000000 /\ newO G1 (.lst (rngU 0 j.toNat)) Q
      | _ => False) X
  | .rngT e => tp fun ς G Q X => (den e).1 ς G (fun x G1 => match x with
      | .int j => 0 <= j /\ j <= 1000000 /\ Q (.tup (rngU 0 j.toNat)) G1
      | _ => False) X
  | .rngL2 a b => tp fun ς G Q X => (den a).1 ς G (fun x G1 => (den b).1 ς G1 (fun y G2 => match x, y with
      | .int i, .int j => 0 <= i /\ i <= j /\ j <= 1000000000 /\ j - i <= 1000000 /\ newO G2 (.lst (rngU i (j - i).toNat)) Q
      | _, _ => False) X) X
noncomputable def denB (k : Bool)(p : UE × UT) : Es -> UE × UT
  | .nil => p
  | .cons e es => comb k p (denB k (den e) es)
noncomputable def denC : Es -> Sg -> Gp -> (Bool -> Gp -> Prop) -> Prop
  | .nil, _, G, Q => Q true G
  | .cons e es, ς, G, Q => (den e).2 ς G (fun b G1 => if b = true then denC es ς G1 Q else Q false G1) (fun _ _ => False)
noncomputable def denO : Eo -> Sg -> Gp -> (Option Int -> Gp -> Prop) -> KX -> Prop
  | .no, _, G, Q, _ => Q none G
  | .so e, ς, G, Q, X => (den e).1 ς G (fun x G1 => match x with | .int i => Q (some i) G1 | _ => False) X
noncomputable def jaZ : Es -> Sg -> Gp -> (List U -> Gp -> Prop) -> KX -> Prop
  | .nil, _, G, Q, _ => Q [] G
  | .cons e es, ς, G, Q, X => (den e).1 ς G (fun x G1 => jaZ es ς G1 (fun xs G2 => Q (x :: xs) G2) X) X
noncomputable def denD : Es -> Sg -> Gp -> (List (Key × U) -> Gp -> Prop) -> KX -> Prop
  | .nil, _, G, Q, _ => Q [] G
  | .cons e (.cons f es), ς, G, Q, X => (den e).1 ς G (fun x G1 => (den f).1 ς G1 (fun y G2 => match kU x with
      | some k => denD es ς G2 (fun kvs G3 => Q ((k, y) :: kvs) G3) X
      | none => False) X) X
  | .cons _ .nil, _, _, _, _ => False
noncomputable def denI : It -> Sg -> Gp -> (List U -> (Gp -> Prop) -> Gp -> Prop) -> KX -> Prop
  | .e e, ς, G, Q, X => (den e).1 ς G (fun x G1 => itU x G1 fun xs ok => Q xs ok G1) X
  | .r1 e, ς, G, Q, X => (den e).1 ς G (fun x G1 => match x with
      | .int j => -(2 ^ 62) <= j /\ j < 2 ^ 62 /\ Q (rngU 0 j.toNat) (fun _ => True) G1
      | _ => False) X
  | .r2 a b, ς, G, Q, X => (den a).1 ς G (fun x G1 => (den b).1 ς G1 (fun y G2 => match x, y with
      | .int i, .int j => -(2 ^ 62) <= i /\ i < 2 ^ 62 /\ -(2 ^ 62) <= j /\ j < 2 ^ 62 /\ Q (rngU i (j - i).toNat) (fun _ => True) G2
      | _, _ => False) X) X
  | .enum e, ς, G, Q, X => (den e).1 ς G (fun x G1 => match x with
      | .tup xs => Q (jml 0 xs) (fun _ => True) G1
      | _ => False) X
  | .dk e, ς, G, Q, X => (den e).1 ς G (fun x G1 => jfL x G1 Q) X
end
noncomputable def denE (e:E):UE:=(den gs Δ e).1
noncomputable def denT (e:E):UT:=(den gs Δ e).2
mutual
noncomputable def denS : S -> En -> Sg -> Gp -> Prop
  | .pass, D, ς, G => D.nx ς G
  | .expr e, D, ς, G => denE gs Δ e ς G (fun _ G1 => D.nx ς G1) fun x G1 => D.ex x ς G1
  | .asg t e, D, ς, G => denE gs Δ e ς G (fun u G1 => tgU t u ς fun ς' => D.nx ς' G1) fun x G1 => D.ex x ς G1
  | .asgC i e, D, ς, G => denE gs Δ e ς G (fun u G1 => D.nx (ς.set i (some u)) G1) fun x G1 => D.ex x ς G1
  | .setS o i e, D, ς, G => denE gs Δ e ς G (fun v G1 => denE gs Δ o ς G1 (fun x G2 => denE gs Δ i ς G2 (fun y G3 => setU x y v G3 fun G4 => D.nx ς G4) fun x G1 => D.ex x ς G1) fun x G1 => D.ex x ς G1) fun x G1 => D.ex x ς G1
  | .par is es, D, ς, G => jaZ gs Δ es ς G (fun us G1 => us.length = is.length /\ D.nx ((is.zip us).foldl (fun s p => s.set p.1 (some p.2)) ς) G1) fun x G1 => D.ex x ς G1
  | .aug i o e, D, ς, G => slot ς i fun x => denE gs Δ e ς G (fun y G1 => jdB o x y G1 fun z G2 => D.nx (ς.set i (some z)) G2) fun x G1 => D.ex x ς G1
  | .augS o i p e, D, ς, G => denE gs Δ o ς G (fun x G1 => denE gs Δ i ς G1 (fun y G2 => jnX x y G2 fun a G3 => denE gs Δ e ς G3 (fun b G4 => jdB p a b G4 fun z G5 => setU x y z G5 fun G6 => D.nx ς G6) fun x G1 => D.ex x ς G1) fun x G1 => D.ex x ς G1) fun x G1 => D.ex x ς G1
  | .ite c a b, D, ς, G => denT gs Δ c ς G (fun t G1 => if t = true then jaD a D ς G1 else jaD b D ς G1) fun x G1 => D.ex x ς G1
  | .fr t it b, D, ς, G => denI gs Δ it ς G (fun xs ok G1 => forL ok (fun x ς1 G2 k => tgU t x ς1 fun ς2 => jaD b { D with nx := k } ς2 G2) xs ς G1 D.nx) fun x G1 => D.ex x ς G1
  | .wh c b, D, ς, G => ∃ W : Nat -> Sg -> Gp -> Prop, (∃ m, W m ς G) /\ ∀ m ς1 G1, W m ς1 G1 ->
      denT gs Δ c ς1 G1 (fun t G2 => if t = true then jaD b { D with nx := fun ς' G' => ∃ m', m' < m /\ W m' ς' G' } ς1 G2 else D.nx ς1 G2) fun x G1 => D.ex x ς1 G1
  | .ret e, D, ς, G => denE gs Δ e ς G D.rt fun x G1 => D.ex x ς G1
  | .retN, D, _, G => D.rt .non G
  | .never, _, _, _ => False
  | .raise c es, D, ς, G => jaZ gs Δ es ς G (fun us G1 => us.length = (clsF c).length /\ D.ex ⟨c, us⟩ ς G1) fun x G1 => D.ex x ς G1
  | .tr b c n h, D, ς, G => jaD b { D with ex := fun x ς1 G1 => (c = 0 \/ x.c = c) /\ hsH x h (ς1.set n none) G1 fun ς2 G2 => D.nx (ς2.set n none) G2 } ς G
noncomputable def jaD : Ss -> En -> Sg -> Gp -> Prop
  | .nil, D, ς, G => D.nx ς G
  | .cons s ss, D, ς, G => denS s { D with nx := fun ς' G' => jaD ss D ς' G' } ς G
end
end
structure Fun where
 name:Str
 ps:List Str
 N:List Str
 body:Ss
structure Tab where
 funs:List Fun
 gs:List U
 gn:List Str:=[]
 cs:List Nat:=[]
noncomputable def jaq (n:Nat)(us:List U):Sg:=us.map some++Yaq (n - us.length) none
noncomputable def jac (T:Tab):Nat->Cl
 | 0,_,_,_,_,_=>False
 | k + 1,n,us,G,Q,X=>match T.funs[n]? with
  | some d=>us.length=d.ps.length/\jaD T.gs (jac T k) d.body ⟨fun _ G'=>Q .non G',Q,fun x _ G'=>X x G'⟩ (jaq d.N.length us) G
  | none=>False
mutual
noncomputable def RU (K:Yac)(H:Hp):U->V->Prop
 | .non,v=>v=.non
 | .bl b,v=>v=.bl b
 | .int i,v=>v=.int i
 | .str x,v=>v=.str x
 | .tup xs,v=>∃ a vs,v=.ref a/\H a=some (.tup vs)/\RUs K H xs vs
 | .loc a,v=>v=.ref a
 | .fn _,_=>False
 | .ty n,v=>v=.ty n
 | .exc _ _,_=>False
 | .own _,_=>False
 | .clo _ _,_=>False
noncomputable def RUs (K:Yac)(H:Hp):List U->List V->Prop
 | [],vs=>vs=[]
 | u::us,vs=>∃ v vr,vs=v::vr/\RU K H u v/\RUs K H us vr
end
noncomputable def RKs {κ:Type}(K:Yac)(H:Hp):List (κ×U)->List (κ×V)->Prop
 | [],l=>l=[]
 | (k,u)::r,l=>∃ v l',l=(k,v)::l'/\RU K H u v/\RKs K H r l'
noncomputable def MOk (K:Yac)(H:Hp)(a:Addr):MO->Prop
 | .lst us=>∃ vs,H a=some (.lst vs)/\RUs K H us vs
 | .fro us=>∃ o vs,H a=some (.frz o (.lst vs))/\RUs K H us vs
 | .dK kvs=>∃ l,H a=some (.dK l)/\RKs K H kvs l
 | .dT kvs=>∃ l,H a=some (.dT l)/\RKs K H kvs l
 | .frd o kvs=>∃ l,H a=some (.frz o (.dT l))/\RKs K H kvs l
noncomputable def HR (K:Yac)(H:Hp)(G:Gp):Prop:=∀ a o,G a=some o->MOk K H a o
noncomputable def Fr (H:Hp)(G:Gp)(H':Hp)(G':Gp):Prop:=∀ a o,H a=some o->G a=none->H' a=some o/\G' a=none
noncomputable def SR (K:Yac)(H:Hp)(ς:Sg)(σ:St):Prop:=ς.length=σ.length/\∀ (i:Nat) (u:U),ς[i]?=some (some u)->∃ v,σ[i]?=some (some v)/\RU K H u v
section
variable {K:Yac}{H H' H1 H2:Hp}{G G' G1 G2:Gp}
theorem Fr.refl (H:Hp)(G:Gp):Fr H G H G:=fun _ _ h g=>⟨h,g⟩
theorem Fr.trans (a:Fr H G H1 G1)(b:Fr H1 G1 H2 G2):Fr H G H2 G2:=fun c o h g=>let ⟨h1,g1⟩:=a c o h g; b c o h1 g1
noncomputable def TS (H H':Hp):Prop:=∀ a xs,H a=some (.tup xs)->H' a=some (.tup xs)
mutual
theorem RU.ts (t:TS H H'):∀ {u:U} {v:V},RU K H u v->RU K H' u v
 | .non,_,h=>h
 | .bl _,_,h=>h
 | .int _,_,h=>h
 | .str _,_,h=>h
 | .tup xs,_,h=>by
  obtain ⟨a,vs,e,q,r⟩:=h
  exact ⟨a,vs,e,t _ _ q,RUs.ts t r⟩
 | .loc _,_,h=>h
 | .fn _,_,h=>h
 | .ty _,_,h=>h
 | .exc _ _,_,h=>h
 | .own _,_,h=>h
 | .clo _ _,_,h=>h
theorem RUs.ts (t:TS H H'):∀ {us:List U} {vs:List V},RUs K H us vs->RUs K H' us vs
 | [],_,h=>h
 | _::_,_,h=>by
  obtain ⟨v,vr,e,r,rs⟩:=h
  exact ⟨v,vr,e,RU.ts t r,RUs.ts t rs⟩
end
theorem RKs.ts {κ:Type}(t:TS H H'):∀ {kvs:List (κ×U)} {l:List (κ×V)},RKs K H kvs l->RKs K H' kvs l
 | [],_,h=>h
 | (_,_)::_,_,h=>by
  obtain ⟨v,l',e,r,rs⟩:=h
  exact ⟨v,l',e,r.ts t,RKs.ts t rs⟩
theorem SR.ts {ς:Sg}{σ:St}(t:TS H H')(h:SR K H ς σ):SR K H' ς σ:=⟨h.1,fun i u e=>let ⟨v,e1,r⟩:=h.2 i u e; ⟨v,e1,r.ts t⟩⟩
theorem HR.tupNone (h:HR K H G){a:Addr}{xs:List V}(e:H a=some (.tup xs)):G a=none:=by
 cases q:G a with
 | none=>rfl
 | some o=>
  have m:=h a o q
  cases o with
  | lst us=>obtain ⟨_,e2,_⟩:=m; rw [e] at e2; cases e2
  | fro us=>obtain ⟨_,_,e2,_⟩:=m; rw [e] at e2; cases e2
  | dK us=>obtain ⟨_,e2,_⟩:=m; rw [e] at e2; cases e2
  | dT us=>obtain ⟨_,e2,_⟩:=m; rw [e] at e2; cases e2
  | frd _ us=>obtain ⟨_,e2,_⟩:=m; rw [e] at e2; cases e2
theorem Fr.ts (f:Fr H G H' G')(h:HR K H G):TS H H':=fun a xs e=>(f a _ e (h.tupNone e)).1
theorem MOk.there {a:Addr}{o:MO}(m:MOk K H a o):∃ ho,H a=some ho:=by
 cases o with
 | lst _=>obtain ⟨_,e,_⟩:=m; exact ⟨_,e⟩
 | fro _=>obtain ⟨_,_,e,_⟩:=m; exact ⟨_,e⟩
 | dK _=>obtain ⟨_,e,_⟩:=m; exact ⟨_,e⟩
 | dT _=>obtain ⟨_,e,_⟩:=m; exact ⟨_,e⟩
 | frd _ _=>obtain ⟨_,e,_⟩:=m; exact ⟨_,e⟩
theorem MOk.keep {a:Addr}{o:MO}(m:MOk K H a o)(e:H' a=H a)(t:TS H H'):MOk K H' a o:=by
 cases o with
 | lst _=>obtain ⟨vs,q,r⟩:=m; exact ⟨vs,e.trans q,r.ts t⟩
 | fro _=>obtain ⟨ob,vs,q,r⟩:=m; exact ⟨ob,vs,e.trans q,r.ts t⟩
 | dK _=>obtain ⟨l,q,r⟩:=m; exact ⟨l,e.trans q,r.ts t⟩
 | dT _=>obtain ⟨l,q,r⟩:=m; exact ⟨l,e.trans q,r.ts t⟩
 | frd _ _=>obtain ⟨l,q,r⟩:=m; exact ⟨l,e.trans q,r.ts t⟩
theorem HR.nope (h:HR K H G){a:Addr}(e:H a=none):G a=none:=by
 cases q:G a with
 | none=>rfl
 | some o=>
  obtain ⟨_,e2⟩:=(h a o q).there
  rw [e] at e2; cases e2
theorem jap {a:Addr}{o:MO}:gup G a o a=some o:=by unfold gup; rw [if_pos rfl]
theorem jbh {a b:Addr}{o:MO}(h:b≠a):gup G a o b=G b:=by unfold gup; rw [if_neg h]
theorem TS.new {p:Addr}{o:HO}(e:H p=none):TS H (upd H p o):=fun a xs h=>by rw [jab (jag h e)]; exact h
theorem HR.newT (h:HR K H G){p:Addr}{xs:List V}(e:H p=none):HR K (upd H p (.tup xs)) G:=fun a o q=>by
 have m:=h a o q
 obtain ⟨ho,e2⟩:=m.there
 exact m.keep (jab (jag e2 e)) (TS.new e)
theorem Fr.new {p:Addr}{o:HO}(e:H p=none):Fr H G (upd H p o) G:=fun a ob h g=>⟨by rw [jab (jag h e)]; exact h,g⟩
theorem HR.newO (h:HR K H G){p:Addr}{o:HO}{mo:MO}(e:H p=none)(m:MOk K (upd H p o) p mo):HR K (upd H p o) (gup G p mo):=fun a ob q=>by
 by_cases z:a=p
 ·subst z
  rw [jap] at q
  cases q
  exact m
 ·rw [jbh z] at q
  exact (h a ob q).keep (jab z) (TS.new e)
theorem Fr.newO {p:Addr}{o:HO}{mo:MO}(e:H p=none):Fr H G (upd H p o) (gup G p mo):=fun a ob h g=>by
 have z:a≠p:=jag h e
 exact ⟨by rw [jab z]; exact h,by rw [jbh z]; exact g⟩
theorem TS.write (h:HR K H G){p:Addr}{o:HO}{mo:MO}(g:G p=some mo):TS H (upd H p o):=fun a xs e=>by
 have z:a≠p:=fun z=>by subst z; rw [h.tupNone e] at g; cases g
 rw [jab z]; exact e
theorem HR.write (h:HR K H G){p:Addr}{o:HO}{mo mo':MO}(g:G p=some mo)(m:MOk K (upd H p o) p mo'):HR K (upd H p o) (gup G p mo'):=fun a ob q=>by
 by_cases z:a=p
 ·subst z
  rw [jap] at q
  cases q
  exact m
 ·rw [jbh z] at q
  exact (h a ob q).keep (jab z) (TS.write h g)
theorem Fr.write {p:Addr}{o:HO}{mo mo':MO}(g:G p=some mo):Fr H G (upd H p o) (gup G p mo'):=fun a ob h n=>by
 have z:a≠p:=fun z=>by subst z; rw [n] at g; cases g
 exact ⟨by rw [jab z]; exact h,by rw [jbh z]; exact n⟩
theorem RUs.length:∀ {us:List U} {vs:List V},RUs K H us vs->us.length=vs.length
 | [],_,h=>by cases h; rfl
 | _::_,_,h=>by
  obtain ⟨v,vr,rfl,_,rs⟩:=h
  simp [rs.length]
theorem RUs.append:∀ {us ws:List U} {vs xs:List V},RUs K H us vs->RUs K H ws xs->RUs K H (us++ws) (vs++xs)
 | [],_,_,_,h,h'=>by cases h; exact h'
 | _::_,_,_,_,h,h'=>by
  obtain ⟨v,vr,rfl,r,rs⟩:=h
  exact ⟨v,vr++_,rfl,r,rs.append h'⟩
theorem RUs.get:∀ {us:List U} {vs:List V} {i:Nat} {u:U},RUs K H us vs->us[i]?=some u->∃ v,vs[i]?=some v/\RU K H u v
 | [],_,_,_,_,e=>by simp at e
 | _::_,_,0,_,h,e=>by
  obtain ⟨v,vr,rfl,r,_⟩:=h
  simp at e; subst e
  exact ⟨v,rfl,r⟩
 | _::_,_,i + 1,_,h,e=>by
  obtain ⟨v,vr,rfl,_,rs⟩:=h
  obtain ⟨w,h1,h2⟩:=rs.get (i:=i) (by simpa using e)
  exact ⟨w,by simpa using h1,h2⟩
theorem RUs.take:∀ {us:List U} {vs:List V} (n:Nat),RUs K H us vs->RUs K H (us.take n) (vs.take n)
 | _,_,0,_=>rfl
 | [],_,_ + 1,h=>by cases h; rfl
 | _::_,_,n + 1,h=>by
  obtain ⟨v,vr,rfl,r,rs⟩:=h
  exact ⟨v,vr.take n,rfl,r,rs.take n⟩
theorem RUs.drop:∀ {us:List U} {vs:List V} (n:Nat),RUs K H us vs->RUs K H (us.drop n) (vs.drop n)
 | _,_,0,h=>h
 | [],_,_ + 1,h=>by cases h; rfl
 | _::_,_,n + 1,h=>by
  obtain ⟨v,vr,rfl,_,rs⟩:=h
  exact rs.drop n
theorem RUs.set {u:U}{v:V}(r:RU K H u v):∀ {us:List U} {vs:List V} (i:Nat),RUs K H us vs->RUs K H (us.set i u) (vs.set i v)
 | [],_,_,h=>by cases h; rfl
 | _::_,_,0,h=>by
  obtain ⟨w,vr,rfl,_,rs⟩:=h
  exact ⟨v,vr,rfl,r,rs⟩
 | _::_,_,i + 1,h=>by
  obtain ⟨w,vr,rfl,q,rs⟩:=h
  exact ⟨w,vr.set i v,rfl,q,rs.set r i⟩
theorem RUs.reverse:∀ {us:List U} {vs:List V},RUs K H us vs->RUs K H us.reverse vs.reverse
 | [],_,h=>by cases h; rfl
 | _::_,_,h=>by
  obtain ⟨v,vr,rfl,r,rs⟩:=h
  rw [YcU,YcU]
  exact rs.reverse.append ⟨v,[],rfl,r,rfl⟩
theorem RUs.rep {us:List U}{vs:List V}(h:RUs K H us vs):∀ k:Nat,RUs K H (Yaq k us).flatten (Yaq k vs).flatten
 | 0=>rfl
 | k + 1=>by
  rw [YbO,YbO,YbL,YbL]
  exact h.append (h.rep k)
theorem RUs.atI {us:List U}{vs:List V}{i:Int}{u:U}(h:RUs K H us vs)(e:atI us i=some u):∃ v,L2.atI vs i=some v/\RU K H u v:=by
 unfold L2.atI at e ⊢
 rw [h.length] at e
 cases q:ixN vs.length i with
 | none=>rw [q] at e; cases e
 | some j=>
  rw [q] at e
  exact h.get e
theorem RUs.cut {us:List U}{vs:List V}(h:RUs K H us vs)(lo hi:Option Int):RUs K H (Z.cut us lo hi) (cutV vs lo hi):=by
 unfold Z.cut cutV
 rw [h.length]
 exact (h.drop _).take _
theorem RUs.isEmpty {us:List U}{vs:List V}(h:RUs K H us vs):us.isEmpty=vs.isEmpty:=by
 cases us with
 | nil=>cases h; rfl
 | cons u us=>obtain ⟨v,vr,rfl,_⟩:=h; rfl
theorem RUs.ints:∀ {us:List U} {vs:List V} {ns:List Int},RUs K H us vs->jdz us=some ns->vs=ns.map V.int
 | [],_,_,h,e=>by cases h; cases e; rfl
 | u::us,_,ns,h,e=>by
  obtain ⟨v,vr,rfl,r,rs⟩:=h
  cases u with
  | int i=>
   cases r
   rw [jdz] at e
   cases q:jdz us with
   | none=>rw [q] at e; cases e
   | some l=>rw [q] at e; cases e; rw [rs.ints q]; rfl
  | _=>cases e
theorem RUs.bools:∀ {us:List U} {vs:List V} {ns:List Bool},RUs K H us vs->jcQ us=some ns->vs=ns.map V.bl
 | [],_,_,h,e=>by cases h; cases e; rfl
 | u::us,_,ns,h,e=>by
  obtain ⟨v,vr,rfl,r,rs⟩:=h
  cases u with
  | bl i=>
   cases r
   rw [jcQ] at e
   cases q:jcQ us with
   | none=>rw [q] at e; cases e
   | some l=>rw [q] at e; cases e; rw [rs.bools q]; rfl
  | _=>cases e
theorem HR.lst (h:HR K H G){a:Addr}{us:List U}(e:G a=some (.lst us)):∃ vs,H a=some (.lst vs)/\RUs K H us vs:=h a _ e
theorem HR.ls (h:HR K H G){a:Addr}{us:List U}(e:lsG G a=some us):∃ vs,SqL K H a vs/\RUs K H us vs:=by
 unfold lsG at e
 split at e
 ·rename_i xs q
  cases e
  obtain ⟨vs,q2,r⟩:=h a _ q
  exact ⟨vs,.inl (.inl q2),r⟩
 ·rename_i xs q
  cases e
  obtain ⟨o,vs,q2,r⟩:=h a _ q
  exact ⟨vs,.inl (.inr ⟨o,q2⟩),r⟩
 ·cases e
theorem HR.rd (h:HR K H G){a:Addr}{us:List U}(e:lsG G a=some us):∃ vs,Rd H a (.lst vs)/\RUs K H us vs:=by
 unfold lsG at e
 split at e
 ·rename_i xs q
  cases e
  obtain ⟨vs,q2,r⟩:=h a _ q
  exact ⟨vs,.inl q2,r⟩
 ·rename_i xs q
  cases e
  obtain ⟨o,vs,q2,r⟩:=h a _ q
  exact ⟨vs,.inr ⟨o,q2⟩,r⟩
 ·cases e
end
mutual
theorem DU.dv {K:Yac}{H:Hp}{G:Gp}(h:HR K H G):∀ {u:U} {d:PyData} {v:V},DU G u d->RU K H u v->DV K H v d
 | _,_,_,.non,r=>by cases r; exact .non
 | _,_,_,.bl b,r=>by cases r; exact .bl b
 | _,_,_,.int i,r=>by cases r; exact .int i
 | _,_,_,.str x,r=>by cases r; exact .str x
 | _,_,_,.tup q,r=>by
  obtain ⟨a,vs,rfl,s,rs⟩:=r
  exact .tup (.of s) (DUs.dv h q rs)
 | _,_,_,.lst e q,r=>by
  cases r
  obtain ⟨vs,s,rs⟩:=h.rd e
  exact .lst s (DUs.dv h q rs)
 | _,_,_,.dic e,r=>by
  cases r
  obtain ⟨l,q,rs⟩:=h _ _ e
  cases rs
  exact .dic q
theorem DUs.dv {K:Yac}{H:Hp}{G:Gp}(h:HR K H G):∀ {us:List U} {ds:List PyData} {vs:List V},DUs G us ds->RUs K H us vs->DVs K H vs ds
 | _,_,_,.nil,r=>by cases r; exact .nil
 | _,_,_,.cons a b,r=>by
  obtain ⟨v,vr,rfl,r1,rs⟩:=r
  exact .cons (DU.dv h a r1) (DUs.dv h b rs)
end
end Z

namespace L2
open PySem
theorem PE.imp {X:Cx}{e:Expr}{t t':TE}(h:PE X e t)(i:∀ σ H Q,t' σ H Q->t σ H Q):PE X e t':=fun pins s σ H Q I q=>h pins s σ H Q I (i σ H Q q)
theorem PT.imp {X:Cx}{e:Expr}{t t':TT}(h:PT X e t)(i:∀ σ H Q,t' σ H Q->t σ H Q):PT X e t':=fun pins s σ H Q I q=>h pins s σ H Q I (i σ H Q q)
theorem PW.imp {X:Cx}{e:Expr}{t t':TT}(h:PW X e t)(i:∀ σ H Q,t' σ H Q->t σ H Q):PW X e t':=fun w pins s σ H Q I q=>h w pins s σ H Q I (i σ H Q q)
theorem PA.imp {X:Cx}{e:List Expr}{t t':TA}(h:PA X e t)(i:∀ σ H Q,t' σ H Q->t σ H Q):PA X e t':=fun pos pins s σ H Q I q=>h pos pins s σ H Q I (i σ H Q q)
theorem PO.imp {X:Cx}{e:Option Expr}{t t':TO}(h:PO X e t)(i:∀ σ H Q,t' σ H Q->t σ H Q):PO X e t':=fun pins s σ H Q I q=>h pins s σ H Q I (i σ H Q q)
theorem PS.imp {X:Cx}{e:Stmt}{t t':L2.TS}(h:PS X e t)(i:∀ D σ H,t' D σ H->t D σ H):PS X e t':=fun pins s σ H D I q=>h pins s σ H D I (i D σ H q)
theorem PSs.imp {X:Cx}{e:List Stmt}{t t':L2.TS}(h:PSs X e t)(i:∀ D σ H,t' D σ H->t D σ H):PSs X e t':=fun pins s σ H D I q=>h pins s σ H D I (i D σ H q)
end L2
namespace Z
open PySem L2
set_option maxHeartbeats 4000000
noncomputable def gK (K:Yac):Str->Option Value:=fun x=>(YaA K Yax x).join
noncomputable def XD (K:Yac)(H:Hp)(C dx:Addr)(x:XV):Prop:=1<=x.c/\x.c < 6/\XCls K (gK K) (clsN x.c) (clsF x.c) C/\∃ l,H dx=some (.xd l)/\l.map (·.1)=clsF x.c/\RUs K H x.fs (l.map (·.2))
noncomputable def XAt (X:Cx)(H:Hp)(s:Shared)(e:Value)(x:XV):Prop:=∃ ea C dx,e=.ref ea/\Lies X.s₀.heap.objs.size X.pn H s.heap ea (.ref C) (some dx)/\XD X.K H C dx x
section
variable (X:Cx)
noncomputable def LX (σ:St)(H:Hp)(G:Gp)(E:KX):Prop:=∀ (pins:List (Addr×Obj)) (e:Value) (s':Shared) (x:XV) (G':Gp) (H':Hp),Inv X pins σ H' s'->XAt X H' s' e x->HR X.K H' G'->Fr H G H' G'->E x G'->X.xe e s'
noncomputable def LV (H:Hp)(G:Gp)(Q:K1)(Q0:VK):Prop:=∀ w v G' H',RU X.K H' w v->HR X.K H' G'->Fr H G H' G'->Q w G'->Q0 v H'
noncomputable def lE (t:UE):TE:=fun σ H Q0=>∃ ς G Q E,SR X.K H ς σ/\HR X.K H G/\t ς G Q E/\LV X H G Q Q0/\LX X σ H G E
noncomputable def lT (t:UT):TT:=fun σ H Q0=>∃ ς G Q E,SR X.K H ς σ/\HR X.K H G/\t ς G Q E/\(∀ b G' H',HR X.K H' G'->Fr H G H' G'->Q b G'->Q0 b H')/\LX X σ H G E
noncomputable def lA (t:UA):TA:=fun σ H Q0=>∃ ς G Q E,SR X.K H ς σ/\HR X.K H G/\t ς G Q E/\(∀ ws vs G' H',RUs X.K H' ws vs->HR X.K H' G'->Fr H G H' G'->Q ws G'->Q0 vs H')/\LX X σ H G E
noncomputable def lO (t:Sg->Gp->(Option Int->Gp->Prop)->KX->Prop):TO:=fun σ H Q0=>∃ ς G Q E,SR X.K H ς σ/\HR X.K H G/\t ς G Q E/\(∀ o G' H',HR X.K H' G'->Fr H G H' G'->Q o G'->Q0 o H')/\LX X σ H G E
end
section
variable {X:Cx}{σ:St}{H H1 H2:Hp}{G G1 G2:Gp}
theorem LX.fr {E:KX}(h:LX X σ H G E)(f:Fr H G H1 G1):LX X σ H1 G1 E:=fun pins e s' x G' H' I a hr f' q=>h pins e s' x G' H' I a hr (f.trans f') q
theorem LV.fr {Q:K1}{Q0:VK}(h:LV X H G Q Q0)(f:Fr H G H1 G1):LV X H1 G1 Q Q0:=fun w v G' H' r hr f' q=>h w v G' H' r hr (f.trans f') q
theorem LV.here {Q:K1}{Q0:VK}(h:LV X H G Q Q0){w:U}{v:V}(r:RU X.K H w v)(hr:HR X.K H G)(q:Q w G):Q0 v H:=h w v G H r hr (Fr.refl _ _) q
theorem LV.bl {Q:K1}{Q0:VK}(h:LV X H G Q Q0){b:Bool}(hr:HR X.K H G)(q:Q (.bl b) G):Q0 (.bl b) H:=h.here (w:=.bl b) rfl hr q
theorem LV.int {Q:K1}{Q0:VK}(h:LV X H G Q Q0){b:Int}(hr:HR X.K H G)(q:Q (.int b) G):Q0 (.int b) H:=h.here (w:=.int b) rfl hr q
theorem LV.str {Q:K1}{Q0:VK}(h:LV X H G Q Q0){b:Str}(hr:HR X.K H G)(q:Q (.str b) G):Q0 (.str b) H:=h.here (w:=.str b) rfl hr q
theorem LV.tup {Q:K1}{Q0:VK}(h:LV X H G Q Q0){p:Addr}{us:List U}{vs:List V}(e:H p=none)(r:RUs X.K H us vs)(hr:HR X.K H G)(q:Q (.tup us) G):Q0 (.ref p) (upd H p (.tup vs)):=
 h (.tup us) (.ref p) G _ ⟨p,vs,rfl,jaf,r.ts (TS.new e)⟩ (hr.newT e) (Fr.new e) q
theorem LV.lst {Q:K1}{Q0:VK}(h:LV X H G Q Q0){p:Addr}{us:List U}{vs:List V}(e:H p=none)(r:RUs X.K H us vs)(hr:HR X.K H G)(q:newO G (.lst us) Q):Q0 (.ref p) (upd H p (.lst vs)):=
 h (.loc p) (.ref p) _ _ rfl (hr.newO (mo:=.lst us) e ⟨vs,jaf,r.ts (TS.new e)⟩) (Fr.newO e) (q.at p (hr.nope e))
theorem LV.wl {Q:K1}{Q0:VK}(h:LV X H G Q Q0){p:Addr}{us:List U}{vs:List V}{mo:MO}(g:G p=some mo)(r:RUs X.K H us vs)(hr:HR X.K H G){w:U}{v:V}(rw':RU X.K H w v)(q:putO G p (.lst us) (Q w)):Q0 v (upd H p (.lst vs)):=
 h w v _ _ (rw'.ts (TS.write hr g)) (hr.write (mo':=.lst us) g ⟨vs,jaf,r.ts (TS.write hr g)⟩) (Fr.write g) q.at
end
section
variable {X:Cx}{σ:St}{H:Hp}{Q0:VK}{ta tb:UE}
theorem lE.two {R:V->V->Hp->Prop}{k:U->U->Gp->K1->Prop}(h:lE X (fun ς G Q E=>ta ς G (fun x G1=>tb ς G1 (fun y G2=>k x y G2 Q) E) E) σ H Q0)
  (f:∀ x y v v' G H' Q,RU X.K H' x v->RU X.K H' y v'->HR X.K H' G->k x y G Q->LV X H' G Q Q0->R v v' H'):lE X ta σ H fun v H1=>lE X tb σ H1 fun v' H2=>R v v' H2:=by
 obtain ⟨ς,G,Q,E,hς,hG,h,lv,lx⟩:=h
 refine ⟨ς,G,_,E,hς,hG,h,fun x v G1 H1 rx hG1 f1 h1=>?_,lx⟩
 refine ⟨ς,G1,_,E,hς.ts (f1.ts hG),hG1,h1,fun y v' G2 H2 ry hG2 f2 h2=>?_,lx.fr f1⟩
 exact f x y v v' G2 H2 Q (rx.ts (f2.ts hG1)) ry hG2 h2 (lv.fr (f1.trans f2))
theorem lE.one {R:V->Hp->Prop}{k:U->Gp->K1->Prop}(h:lE X (fun ς G Q E=>ta ς G (fun x G1=>k x G1 Q) E) σ H Q0)
  (f:∀ x v G H' Q,RU X.K H' x v->HR X.K H' G->k x G Q->LV X H' G Q Q0->R v H'):lE X ta σ H R:=by
 obtain ⟨ς,G,Q,E,hς,hG,h,lv,lx⟩:=h
 exact ⟨ς,G,_,E,hς,hG,h,fun x v G1 H1 rx hG1 f1 h1=>f x v G1 H1 Q rx hG1 h1 (lv.fr f1),lx⟩
theorem lE.many {ta:UA}{R:List V->Hp->Prop}{k:List U->Gp->K1->Prop}(h:lE X (fun ς G Q E=>ta ς G (fun x G1=>k x G1 Q) E) σ H Q0)
  (f:∀ x v G H' Q,RUs X.K H' x v->HR X.K H' G->k x G Q->LV X H' G Q Q0->R v H'):lA X ta σ H R:=by
 obtain ⟨ς,G,Q,E,hς,hG,h,lv,lx⟩:=h
 exact ⟨ς,G,_,E,hς,hG,h,fun x v G1 H1 rx hG1 f1 h1=>f x v G1 H1 Q rx hG1 h1 (lv.fr f1),lx⟩
end
section
variable {X:Cx}{pos:Pos}
theorem jm1 {i:Nat}{x:Str}(hN:X.N[i]?=some x)(hv:Vis X.env.scope x)(hd:(x == ("__debug__" : Str))=false)(hcd:(x == ("__classdict__" : Str))=false):PE X (.Name x pos) (lE X fun ς G Q _=>slot ς i fun u=>Q u G):=by
 refine (jbJ hN hv hd hcd).imp fun σ H Q0 h=>?_
 obtain ⟨ς,G,Q,E,hς,hG,h,lv,_⟩:=h
 unfold slot at h
 split at h
 ·rename_i u e
  obtain ⟨v,e1,r⟩:=hς.2 i u e
  exact ⟨v,e1,lv.here r hG h⟩
 ·exact h.elim
theorem jdl {e:Expr}{u:U}{v:V}(h:PE X e (tC v))(r:∀ H,RU X.K H u v):PE X e (lE X fun _ G Q _=>Q u G):=
 h.imp fun _ _ _ ⟨_,_,_,_,_,hG,q,lv,_⟩=>lv.here (r _) hG q
end
noncomputable def OpU (X:Cx)(f:Value->Value->Sem Value)(b:U->U->Gp->K1->Prop):Prop:=
 ∃ r:R2,OpR X f r/\∀ x y v v' G H Q Q0,RU X.K H x v->RU X.K H y v'->HR X.K H G->b x y G Q->LV X H G Q Q0->r v v' H Q0
section
variable {X:Cx}{pos:Pos}{a b c:Expr}{ta tb tc:UE}
theorem jnh {o:Ycs}{k:U->U->Gp->K1->Prop}(ho:OpU X (YbF o) k)(ha:PE X a (lE X ta))(hb:PE X b (lE X tb)) :
  PE X (.BinOp a o b pos) (lE X fun ς G Q E=>ta ς G (fun x G1=>tb ς G1 (fun y G2=>k x y G2 Q) E) E):=by
 obtain ⟨r,h1,h2⟩:=ho
 exact (jnH h1 ha hb).imp fun σ H Q0 h=>lE.two h fun x y v v' G H' Q rx ry hG q lv=>h2 x y v v' G H' Q Q0 rx ry hG q lv
theorem jlD:OpU X (YbF .Add) addU:=by
 refine ⟨_,jlO.or (jfU.or ((jjY (X:=X)).or (jlN.or jjZ))),?_⟩
 intro x y v v' G H Q Q0 rx ry hG h lv
 unfold addU at h
 split at h
 ·cases rx; cases ry
  exact .inl ⟨_,_,rfl,rfl,lv.int hG h⟩
 ·cases rx; cases ry
  exact .inr (.inl ⟨_,_,rfl,rfl,h.1,lv.str hG h.2⟩)
 ·rename_i xs ys
  obtain ⟨a,vs,rfl,s1,r1⟩:=rx
  obtain ⟨b,ws,rfl,s2,r2⟩:=ry
  obtain ⟨hl,q⟩:=h
  refine .inr (.inr (.inl ⟨a,b,vs,ws,rfl,rfl,.of s1,.of s2,by rw [<- r1.length,<- r2.length]; exact hl,fun z=>?_,fun _ z=>?_,fun _ _ p hp=>?_⟩))
  ·have:xs=[]:=by have:=r1.length; rw [z] at this; simpa using this
   subst this
   exact lv.here (w:=.tup ys) ⟨b,ws,rfl,s2,r2⟩ hG q
  ·have:ys=[]:=by have:=r2.length; rw [z] at this; simpa using this
   subst this
   rw [Ya7] at q
   exact lv.here (w:=.tup xs) ⟨a,vs,rfl,s1,r1⟩ hG q
  ·exact lv.tup hp (r1.append r2) hG q
 ·cases rx; cases ry
  obtain ⟨xs,ys,g1,g2,hl,q⟩:=h
  obtain ⟨vs,e1,r1⟩:=hG.lst g1
  obtain ⟨ws,e2,r2⟩:=hG.lst g2
  exact .inr (.inr (.inr (.inl ⟨_,_,vs,ws,rfl,rfl,e1,e2,by rw [<- r1.length,<- r2.length]; exact hl,fun p hp=>lv.lst hp (r1.append r2) hG q⟩)))
 ·cases rx; cases ry
  exact .inr (.inr (.inr (.inr ⟨_,_,rfl,rfl,lv.int hG h⟩)))
 ·exact h.elim
theorem jly:OpU X (YbF .Sub) subU:=by
 refine ⟨_,jlE.or (jjU (X:=X)),?_⟩
 intro x y v v' G H Q Q0 rx ry hG h lv
 unfold subU at h
 split at h
 ·cases rx; cases ry
  exact .inl ⟨_,_,rfl,rfl,lv.int hG h⟩
 ·cases rx; cases ry
  exact .inr (.inl ⟨_,_,rfl,rfl,lv.int hG h⟩)
 ·cases rx; cases ry
  exact .inr (.inr ⟨_,_,rfl,rfl,lv.int hG h⟩)
 ·exact h.elim
theorem jlA:OpU X (YbF .Mult) mulU:=by
 refine ⟨_,jlI.or (jlF.or (jjV (X:=X))),?_⟩
 intro x y v v' G H Q Q0 rx ry hG h lv
 unfold mulU at h
 split at h
 ·cases rx; cases ry
  exact .inl ⟨_,_,rfl,rfl,h.1,lv.int hG h.2⟩
 ·cases rx; cases ry
  obtain ⟨xs,g1,h1,h2,hl,q⟩:=h
  obtain ⟨vs,e1,r1⟩:=hG.lst g1
  exact .inr (.inl ⟨_,_,vs,rfl,rfl,e1,h1,h2,by rw [<- r1.length]; exact hl,fun p hp=>lv.lst hp (r1.rep _) hG q⟩)
 ·rename_i xs k
  obtain ⟨a,vs,rfl,s1,r1⟩:=rx
  cases ry
  obtain ⟨h0,h1,h2,hl,q⟩:=h
  refine .inr (.inr ⟨a,k,vs,rfl,rfl,.of s1,?_,h1,h2,by rw [<- r1.length]; exact hl,fun z=>?_,fun _ p hp=>lv.tup hp (r1.rep _) hG q⟩)
  ·intro z
   subst z
   exact h0 (by have:=r1.length; simpa using this)
  ·subst z
   have e:(Yaq (Int.toNat 1) xs).flatten=xs:=by simp
   rw [e] at q
   exact lv.here (w:=.tup xs) ⟨a,vs,rfl,s1,r1⟩ hG q
 ·exact h.elim
theorem jjT:OpU X (YbF .FloorDiv) jky:=by
 refine ⟨_,jjW,?_⟩
 intro x y v v' G H Q Q0 rx ry hG h lv
 unfold jky at h
 split at h
 ·cases rx; cases ry
  exact ⟨_,_,rfl,rfl,⟨h.1,h.2.1⟩,lv.int hG h.2.2⟩
 ·exact h.elim
theorem jlB:OpU X (YbF .Mod) modU:=by
 refine ⟨_,jlJ,?_⟩
 intro x y v v' G H Q Q0 rx ry hG h lv
 unfold modU at h
 split at h
 ·cases rx; cases ry
  exact ⟨_,_,rfl,rfl,h.1,lv.int hG h.2⟩
 ·exact h.elim
theorem jlz:OpU X (YbF .Pow) powU:=by
 refine ⟨_,jlG,?_⟩
 intro x y v v' G H Q Q0 rx ry hG h lv
 unfold powU at h
 split at h
 ·cases rx; cases ry
  exact ⟨_,_,rfl,rfl,h.1,lv.int hG h.2⟩
 ·exact h.elim
theorem jlC (o:Ycs):OpU X (YbF o) (binU o):=by
 cases o with
 | Add=>exact jlD
 | Sub=>exact jly
 | Mult=>exact jlA
 | FloorDiv=>exact jjT
 | Mod=>exact jlB
 | Pow=>exact jlz
 | _=>exact ⟨fun _ _ _ _=>False,fun _ _ _ _ _ _ _ _ _ _ _ _ h=>h.elim,fun _ _ _ _ _ _ _ _ _ _ _ h _=>h⟩
theorem jm9 (ha:PE X a (lE X ta)):PE X (.UnaryOp .USub a pos) (lE X fun ς G Q E=>ta ς G (fun x G1=>negU x G1 Q) E):=by
 refine (jnF jkL ha).imp fun σ H Q0 h=>lE.one h fun x v G H' Q rx hG q lv=>?_
 unfold negU at q
 split at q
 ·cases rx
  exact ⟨_,rfl,lv.int hG q⟩
 ·exact q.elim
end
noncomputable def CmU (X:Cx)(o:CmpOp):Prop:=
 ∃ r:R2,OpR X (YbM o) r/\∀ x y v v' G H (k:Bool->Prop) (Q0:VK),RU X.K H x v->RU X.K H y v'->HR X.K H G->cmpU o x y G k->(∀ c,k c->Q0 (.bl c) H)->r v v' H Q0
section
variable {X:Cx}
theorem jiV {H:Hp}{G:Gp}{x y:U}{v v':V}{k:Bool->Prop}(rx:RU X.K H x v)(ry:RU X.K H y v')(hG:HR X.K H G)(h:eqU x y G k) :
  (scal v v'=true/\k (decide (v=v')))\/∃ d e,DV X.K H v d/\DV X.K H v' e/\d.canLay0=true/\e.canLay0=true/\d.depth<=100/\k (Ybh d e):=by
 unfold eqU at h
 split at h
 iterate 14 (first | (cases rx; cases ry; exact .inl ⟨rfl,by simpa using h⟩))
 obtain ⟨d,e,h1,h2,⟨s1,s2⟩,⟨s3,_⟩,q⟩:=h
 exact .inr ⟨d,e,h1.dv hG rx,h2.dv hG ry,s1,s3,s2,q⟩
theorem jgu {K:Yac}{H:Hp}{us:List U}{vs:List V}(r:RUs K H us vs):vs.isEmpty=us.isEmpty:=by
 have:=r.length
 cases us <;> cases vs <;> first | rfl | cases this
theorem jkA {H:Hp}{G:Gp}{x y:U}{v v':V}{k:Bool->Prop}(rx:RU X.K H x v)(ry:RU X.K H y v')(hG:HR X.K H G)(h:eqQ x y G k):eqU x y G k\/(∃ a z kvs,v=.ref a/\v'=.str z/\H a=some (.dK kvs)/\k false)\/(∃ a b xs,v=.ref a/\v'=.ref b/\SqT X.K H a xs/\SqT X.K H b []/\k xs.isEmpty)\/∃ a z xs,v=.ref a/\v'=.str z/\(SqT X.K H a xs\/SqL X.K H a xs)/\k false:=by
 unfold eqQ at h
 split at h
 ·rcases h with ⟨kvs,g,q⟩ | ⟨xs,g,q⟩ | h
  ·cases rx; cases ry
   obtain ⟨l,e,rs⟩:=hG _ _ g
   exact .inr (.inl ⟨_,_,l,rfl,rfl,e,q⟩)
  ·cases rx; cases ry
   obtain ⟨vs,e,rs⟩:=hG.lst g
   exact .inr (.inr (.inr ⟨_,_,vs,rfl,rfl,.inr (.of e),q⟩))
  ·exact .inl h
 ·obtain ⟨a,vs,rfl,s1,r1⟩:=rx
  obtain ⟨b,ws,rfl,s2,r2⟩:=ry
  cases r2
  refine .inr (.inr (.inl ⟨a,b,vs,rfl,rfl,.of s1,.of s2,?_⟩))
  rw [jgu r1]; exact h
 ·obtain ⟨a,vs,rfl,s1,r1⟩:=rx
  cases ry
  exact .inr (.inr (.inr ⟨a,_,vs,rfl,rfl,.inl (.of s1),h⟩))
 ·exact .inl h
theorem jgU {K:Yac}{H:Hp}{x:U}{v:V}{k:Key}(r:RU K H x v)(e:kU x=some k):v=kV k:=by
 cases x with
 | int i=>cases r; cases e; rfl
 | str i=>cases r; cases e; rfl
 | _=>cases e
theorem jfv {K:Yac}{H:Hp}:∀ {xs:List U} {vs:List V} {ks:List Key},RUs K H xs vs->kUs xs=some ks->vs=ks.map kV
 | [],_,_,r,e=>by cases r; cases e; rfl
 | x::xs,_,ks,r,e=>by
  obtain ⟨v,vr,rfl,r1,rs⟩:=r
  rw [kUs] at e
  cases h1:kU x with
  | none=>rw [h1] at e; cases e
  | some k=>
   cases h2:kUs xs with
   | none=>rw [h1,h2] at e; cases e
   | some l=>
    rw [h1,h2] at e
    cases e
    rw [jgU r1 h1,jfv rs h2]; rfl
theorem jdD {K:Yac}{H:Hp}{x:U}{v:V}(r:RU K H x v)(e:flat x=true):jci v=true:=by
 cases x <;> first | (cases r; rfl) | exact absurd (show false=true from e) (by decide)
theorem jcp {K:Yac}{H:Hp}:∀ {xs:List U} {vs:List V},RUs K H xs vs->xs.all flat=true->vs.all jci=true
 | [],_,r,_=>by cases r; rfl
 | x::xs,_,r,e=>by
  obtain ⟨v,vr,rfl,r1,rs⟩:=r
  rw [YbZ,YaP] at e
  rw [YbZ,jdD r1 e.1,jcp rs e.2]; rfl
theorem jmj {K:Yac}{H:Hp}{x y:U}{v v':V}(r:RU K H x v)(r':RU K H y v')(e:flat x=true)(e':flat y=true):eqV v v'=eqF x y:=by
 cases x <;> first | (exact absurd (show false=true from e) (by decide)) | (cases y <;> first | (exact absurd (show false=true from e') (by decide)) | (cases r; cases r'; rfl))
theorem jfJ {K:Yac}{H:Hp}{x:U}{v:V}(r:RU K H x v)(e:flat x=true):∀ {xs:List U} {vs:List V},RUs K H xs vs->xs.all flat=true->inV v vs=xs.any fun y=>eqF y x
 | [],_,rs,_=>by cases rs; rfl
 | y::xs,_,rs,e'=>by
  obtain ⟨v',vr,rfl,r1,rs⟩:=rs
  rw [YbZ,YaP] at e'
  have ih:=jfJ r e rs e'.2
  unfold inV at ih ⊢
  rw [YbY,YbY,jmj r1 r e'.1 e,ih]
theorem jdk {κ:Type}[DecidableEq κ]{K:Yac}{H:Hp}(k:κ):∀ {kvs:List (κ×U)} {l:List (κ×V)},RKs K H kvs l->match dGet kvs k with | some u=>∃ v,valV l k=some v/\RU K H u v | none=>valV l k=none
 | [],_,r=>by cases r; exact rfl
 | (k',u)::kvs,_,r=>by
  obtain ⟨v,l',rfl,r1,rs⟩:=r
  by_cases e:k'=k
  ·subst e
   have:dGet ((k',u)::kvs) k'=some u:=by simp [dGet,YbQ]
   rw [this]
   exact ⟨v,jcl rfl,r1⟩
  ·have:dGet ((k',u)::kvs) k=dGet kvs k:=by simp [dGet,YbQ,e]
   rw [this,jcm (p:=(k',v)) e]
   exact jdk k rs
theorem jd4 {κ:Type}[DecidableEq κ]{K:Yac}{H:Hp}(k:κ){kvs:List (κ×U)}{l:List (κ×V)}(r:RKs K H kvs l):(valV l k).isSome=(dGet kvs k).isSome:=by
 have:=jdk k r
 cases e:dGet kvs k with
 | none=>rw [e] at this; rw [show valV l k=none from this]; rfl
 | some u=>rw [e] at this; obtain ⟨v,h,_⟩:=this; rw [h]; rfl
noncomputable def rDIn (neg:Bool):R2:=fun x y H Q=>∃ a o,y=.ref a/\DGet H a x o/\Q (.bl (if neg then !o.isSome else o.isSome)) H
theorem jlM (hu:X.A.units + 1 < cLine):OpR X (YbM .In) (rDIn false):=by
 intro pins s σ H x y v u Q I rx ry h
 obtain ⟨a,o,rfl,g,q⟩:=h
 cases ry
 exact d_in hu I g rx fun s' I'=>⟨.bl o.isSome,H,I',rfl,q⟩
theorem jdy {K:Yac}{H:Hp}:∀ {ns:List Int} {vs:List V},RUs K H (ns.map .int) vs->vs=ns.map V.int
 | [],_,h=>h
 | n::ns,_,h=>by
  obtain ⟨v,vr,rfl,h1,h2⟩:=h
  rw [jdy h2]
  have h1:v=.int n:=h1
  rw [h1]; rfl
theorem jmc {H:Hp}{G:Gp}{x y:U}{v v':V}{k:Bool->Prop}(rx:RU X.K H x v)(ry:RU X.K H y v')(hG:HR X.K H G)(h:inU x y G k) :
  (∃ i j,v=.str i/\v'=.str j/\k (!(Ydp j i 0 j.length 1).isEmpty))\/(∃ p xs,v'=.ref p/\(SqL X.K H p xs\/SqT X.K H p xs)/\jci v=true/\xs.all jci=true/\k (inV v xs))\/
   (∃ a o,v'=.ref a/\DGet H a v o/\k o.isSome)\/∃ (p:Addr) (vs:List V) (d:PyData) (ds:List PyData),v'=.ref p/\SqL X.K H p vs/\DV X.K H v d/\DVs X.K H vs ds/\d.canLay0=true/\d.depth<=100/\(∀ e∈ds,e.canLay0=true)/\k (ds.any fun e=>Ybh e d):=by
 unfold inU at h
 split at h
 ·cases rx; cases ry
  exact .inl ⟨_,_,rfl,rfl,h⟩
 ·obtain ⟨a,vs,rfl,e,rs⟩:=ry
  obtain ⟨f1,f2,q⟩:=h
  exact .inr (.inl ⟨a,vs,rfl,.inr (.of e),jdD rx f1,jcp rs f2,by rw [jfJ rx f1 rs f2]; exact q⟩)
 ·cases ry
  rename_i a
  split at h
  ·rename_i ys g
   obtain ⟨vs,e,rs⟩:=hG.lst g
   rcases h with ⟨f1,f2,q⟩ | ⟨d,ds,hd,hds,sd,sds,q⟩
   ·exact .inr (.inl ⟨a,vs,rfl,.inl (.of e),jdD rx f1,jcp rs f2,by rw [jfJ rx f1 rs f2]; exact q⟩)
   ·exact .inr (.inr (.inr ⟨a,vs,d,ds,rfl,.inl (.of e),hd.dv hG rx,hds.dv hG rs,sd.1,sd.2,fun e he=>(sds e he).1,q⟩))
  ·rename_i ys g
   obtain ⟨ob,vs,e,rs⟩:=hG a _ g
   obtain ⟨f1,f2,q⟩:=h
   exact .inr (.inl ⟨a,vs,rfl,.inl (.inl (.inr ⟨ob,e⟩)),jdD rx f1,jcp rs f2,by rw [jfJ rx f1 rs f2]; exact q⟩)
  ·rename_i kvs g
   obtain ⟨l,e,rs⟩:=hG a _ g
   split at h
   ·rename_i y ek
    have:=jgU rx ek
    subst this
    exact .inr (.inr (.inl ⟨a,_,rfl,DGet.k e,by rw [jd4 y rs]; exact h⟩))
   ·exact h.elim
  ·rename_i kvs g
   obtain ⟨l,e,rs⟩:=hG a _ g
   split at h
   ·rename_i xs
    obtain ⟨b,vs,rfl,eb,rb⟩:=rx
    split at h
    ·rename_i y ek
     have:=jfv rb ek
     subst this
     exact .inr (.inr (.inl ⟨a,_,rfl,DGet.t e eb,by rw [jd4 y rs]; exact h⟩))
    ·exact h.elim
   ·exact h.elim
  ·exact h.elim
 ·exact h.elim
theorem jgE {o:CmpOp}{x y:U}{k:Bool->Prop}(h:ordU o x y k):∃ i j,x=.int i/\y=.int j:=by
 unfold ordU at h
 split at h <;> first | exact ⟨_,_,rfl,rfl⟩ | exact h.elim
theorem ji1 {k:Nat}(hr:Room k X.A)(o:CmpOp):CmU X o:=by
 have hu:X.A.units + 1 < cLine:=by have:=hr.un; omega
 cases o with
 | Eq=>
  refine ⟨_,jnN.or ((jlL hr).or ((jdu hr).or ((jfT hr).or (jdX hr)))),fun x y v v' G H k Q0 rx ry hG h q=>?_⟩
  rcases jkA rx ry hG h with h | ⟨a,z,kvs,h1,h2,h3,h4⟩ | ⟨a,b,xs,h1,h2,h3,h4,h5⟩ | ⟨a,z,xs,h1,h2,h3,h4⟩
  ·rcases jiV rx ry hG h with ⟨h1,h2⟩ | ⟨d,e,h1,h2,h3,h4,h5,h6⟩
   ·exact .inl ⟨h1,q _ h2⟩
   ·exact .inr (.inl ⟨d,e,h1,h2,h3,h4,h5,q _ h6⟩)
  ·exact .inr (.inr (.inl ⟨a,z,kvs,h1,h2,h3,q _ h4⟩))
  ·exact .inr (.inr (.inr (.inl ⟨a,b,xs,h1,h2,h3,h4,q _ h5⟩)))
  ·exact .inr (.inr (.inr (.inr ⟨a,z,xs,h1,h2,h3,q _ h4⟩)))
 | NotEq=>
  refine ⟨_,jnK.or (jlH hr),fun x y v v' G H k Q0 rx ry hG h q=>?_⟩
  rcases jiV rx ry hG h with ⟨h1,h2⟩ | ⟨d,e,h1,h2,h3,h4,h5,h6⟩
  ·exact .inl ⟨h1,q _ h2⟩
  ·exact .inr ⟨d,e,h1,h2,h3,h4,h5,q _ h6⟩
 | Is=>exact ⟨fun _ _ _ _=>False,fun _ _ _ _ _ _ _ _ _ _ _ _ h=>h.elim,fun _ _ _ _ _ _ _ _ _ _ _ h _=>h.elim⟩
 | IsNot=>exact ⟨fun _ _ _ _=>False,fun _ _ _ _ _ _ _ _ _ _ _ _ h=>h.elim,fun _ _ _ _ _ _ _ _ _ _ _ h _=>h.elim⟩
 | In=>
  refine ⟨_,jgF.or ((jgG (X:=X)).or ((jlM hu).or (jlK hr))),fun x y v v' G H k Q0 rx ry hG h q=>?_⟩
  rcases jmc rx ry hG h with ⟨i,j,h1,h2,h3⟩ | ⟨p,xs,h1,h2,h3,h4,h5⟩ | ⟨a,o,h1,h2,h3⟩ | ⟨p,vs,d,ds,h1,h2,h3,h4,h5,h6,h7,h8⟩
  ·exact .inl ⟨i,j,h1,h2,q _ h3⟩
  ·exact .inr (.inl ⟨p,xs,h1,h2,h3,h4,q _ h5⟩)
  ·exact .inr (.inr (.inl ⟨a,o,h1,h2,q _ h3⟩))
  ·exact .inr (.inr (.inr ⟨p,vs,d,ds,h1,h2,h3,h4,h5,h6,h7,q _ h8⟩))
 | NotIn=>exact ⟨fun _ _ _ _=>False,fun _ _ _ _ _ _ _ _ _ _ _ _ h=>h.elim,fun _ _ _ _ _ _ _ _ _ _ _ h _=>h.elim⟩
 | Lt=>
  refine ⟨_,jnL,fun x y v v' G H k Q0 rx ry hG h q=>?_⟩
  obtain ⟨i,j,rfl,rfl⟩:=jgE h
  cases rx; cases ry
  exact ⟨_,_,rfl,rfl,q _ h⟩
 | LtE=>exact ⟨fun _ _ _ _=>False,fun _ _ _ _ _ _ _ _ _ _ _ _ h=>h.elim,fun _ _ _ _ _ _ _ _ _ _ _ h _=>h.elim⟩
 | Gt=>
  refine ⟨_,jnM,fun x y v v' G H k Q0 rx ry hG h q=>?_⟩
  obtain ⟨i,j,rfl,rfl⟩:=jgE h
  cases rx; cases ry
  exact ⟨_,_,rfl,rfl,q _ h⟩
 | GtE=>exact ⟨fun _ _ _ _=>False,fun _ _ _ _ _ _ _ _ _ _ _ _ h=>h.elim,fun _ _ _ _ _ _ _ _ _ _ _ h _=>h.elim⟩
variable {pos:Pos}{a b c:Expr}{ta tb tc:UE}{tA tB:UT}
theorem jnf {o:CmpOp}(ho:CmU X o)(ha:PE X a (lE X ta))(hb:PE X b (lE X tb))(hm:Yew o b=false) :
  PE X (.Compare a [o] [b] pos) (lE X fun ς G Q E=>ta ς G (fun x G1=>tb ς G1 (fun y G2=>cmpU o x y G2 fun c=>Q (.bl c) G2) E) E):=by
 obtain ⟨r,h1,h2⟩:=ho
 exact (jjQ h1 ha hb hm).imp fun σ H Q0 h=>lE.two h fun x y v v' G H' Q rx ry hG q lv=>h2 x y v v' G H' _ Q0 rx ry hG q fun c q=>lv.bl hG q
theorem jdm {H:Hp}{G:Gp}{x:U}{v:V}{k:Bool->Prop}(rx:RU X.K H x v)(hG:HR X.K H G)(h:truU x G k):∃ b,TruV X.K v H b/\k b:=by
 unfold truU at h
 split at h
 ·cases rx; exact ⟨_,rfl,h⟩
 ·cases rx; exact ⟨_,rfl,h⟩
 ·cases rx; exact ⟨_,rfl,h⟩
 ·cases rx; exact ⟨_,⟨h.1,rfl⟩,h.2⟩
 ·obtain ⟨a,vs,rfl,e,rs⟩:=rx
  exact ⟨_,.inr (.inl ⟨vs,.of e,rfl⟩),by rw [<- rs.isEmpty]; exact h⟩
 ·cases rx
  split at h
  ·rename_i g
   obtain ⟨vs,e,rs⟩:=hG.lst g
   exact ⟨_,.inl ⟨vs,.of e,rfl⟩,by rw [<- rs.isEmpty]; exact h⟩
  ·rename_i g
   obtain ⟨ob,vs,e,rs⟩:=hG _ _ g
   exact ⟨_,.inl ⟨vs,.inl (.inr ⟨ob,e⟩),rfl⟩,by rw [<- rs.isEmpty]; exact h⟩
  ·rename_i kvs g
   obtain ⟨l,e,rs⟩:=hG _ _ g
   refine ⟨_,.inr (.inr ⟨l,e,rfl⟩),?_⟩
   cases kvs with
   | nil=>cases rs; exact h
   | cons p r=>obtain ⟨v,l',rfl,_⟩:=rs; exact h
  ·exact h.elim
 ·exact h.elim
theorem jm5 (ha:PE X a (lE X ta))(he:∀ whole,isTrue a X.env whole=(do let v <- whole; standAt a.pos; holding [v] (truthy v))):PT X a (lT X fun ς G Q E=>ta ς G (fun x G1=>truU x G1 fun b=>Q b G1) E):=by
 refine (jhJ ha he).imp fun σ H Q0 h=>?_
 obtain ⟨ς,G,Q,E,hς,hG,h,lv,lx⟩:=h
 refine ⟨ς,G,_,E,hς,hG,h,fun x v G1 H1 rx hG1 f1 h1=>?_,lx⟩
 obtain ⟨b,h2,h3⟩:=jdm rx hG1 h1
 exact ⟨b,h2,lv b G1 H1 hG1 f1 h3⟩
theorem jkS {o:CmpOp}(ho:CmU X o)(ha:PE X a (lE X ta))(hb:PE X b (lE X tb))(hm:Yew o b=false) :
  PT X (.Compare a [o] [b] pos) (lT X fun ς G Q E=>ta ς G (fun x G1=>tb ς G1 (fun y G2=>cmpU o x y G2 fun c=>truU (.bl c) G2 fun c=>Q c G2) E) E):=by
 obtain ⟨r,h1,h2⟩:=ho
 refine (jjz h1 ha hb hm).imp fun σ H Q0 h=>?_
 obtain ⟨ς,G,Q,E,hς,hG,h,lv,lx⟩:=h
 refine ⟨ς,G,_,E,hς,hG,h,fun x v G1 H1 rx hG1 f1 h1=>?_,lx⟩
 refine ⟨ς,G1,_,E,hς.ts (f1.ts hG),hG1,h1,fun y v' G2 H2 ry hG2 f2 h3=>?_,lx.fr f1⟩
 exact h2 x y v v' G2 H2 _ _ (rx.ts (f2.ts hG1)) ry hG2 h3 fun t q=>⟨t,rfl,lv t G2 H2 hG2 (f1.trans f2) q⟩
theorem jjS {rest:List Expr}{sa sb:TE}(ha:PE X a sa)(hb:PE X (.BoolOp .And (b::rest) pos) sb):PE X (.BoolOp .And (a::b::rest) pos) (fun σ H Q=>sa σ H fun x H1=>∃ k,TruV X.K x H1 k/\if k=true then sb σ H1 Q else Q x H1):=by
 intro pins s σ H Q I h
 refine PyProof.Rows.BoolOp_and (thn (ha pins s σ H _ I h) fun v s1 ⟨x,H1,I1,r1,k,hk,q1⟩=>?_)
 refine thn (jff pins s1 σ H1 x v (fun c H2=>c=k/\H2=H1) I1 r1 ⟨k,hk,rfl,rfl⟩) fun c s2 ⟨H2,I2,e1,e2⟩=>?_
 subst e1 e2
 cases c with
 | true=>exact hb pins s2 σ H2 Q I2 q1
 | false=>exact ⟨x,H2,I2,r1,q1⟩
theorem jlq {rest:List Expr}{sa sb:TE}(ha:PE X a sa)(hb:PE X (.BoolOp .Or (b::rest) pos) sb):PE X (.BoolOp .Or (a::b::rest) pos) (fun σ H Q=>sa σ H fun x H1=>∃ k,TruV X.K x H1 k/\if k=true then Q x H1 else sb σ H1 Q):=by
 intro pins s σ H Q I h
 refine PyProof.Rows.BoolOp_or (thn (ha pins s σ H _ I h) fun v s1 ⟨x,H1,I1,r1,k,hk,q1⟩=>?_)
 refine thn (jff pins s1 σ H1 x v (fun c H2=>c=k/\H2=H1) I1 r1 ⟨k,hk,rfl,rfl⟩) fun c s2 ⟨H2,I2,e1,e2⟩=>?_
 subst e1 e2
 cases c with
 | true=>exact ⟨x,H2,I2,r1,q1⟩
 | false=>exact hb pins s2 σ H2 Q I2 q1
theorem jni {rest:List Expr}(ha:PE X a (lE X ta))(hb:PE X (.BoolOp .And (b::rest) pos) (lE X tb)):PE X (.BoolOp .And (a::b::rest) pos) (lE X fun ς G Q E=>ta ς G (fun x G1=>truU x G1 fun c=>if c=true then tb ς G1 Q E else Q x G1) E):=by
 refine (jjS ha hb).imp fun σ H Q0 h=>?_
 obtain ⟨ς,G,Q,E,hς,hG,h,lv,lx⟩:=h
 refine ⟨ς,G,_,E,hς,hG,h,fun x v G1 H1 rx hG1 f1 h1=>?_,lx⟩
 obtain ⟨k,h2,h3⟩:=jdm rx hG1 h1
 refine ⟨k,h2,?_⟩
 cases k with
 | true=>rw [if_pos rfl] at h3 ⊢; exact ⟨ς,G1,Q,E,hς.ts (f1.ts hG),hG1,h3,lv.fr f1,lx.fr f1⟩
 | false=>rw [if_neg Yas] at h3 ⊢; exact (lv.fr f1).here rx hG1 h3
theorem u_or {rest:List Expr}(ha:PE X a (lE X ta))(hb:PE X (.BoolOp .Or (b::rest) pos) (lE X tb)):PE X (.BoolOp .Or (a::b::rest) pos) (lE X fun ς G Q E=>ta ς G (fun x G1=>truU x G1 fun c=>if c=true then Q x G1 else tb ς G1 Q E) E):=by
 refine (jlq ha hb).imp fun σ H Q0 h=>?_
 obtain ⟨ς,G,Q,E,hς,hG,h,lv,lx⟩:=h
 refine ⟨ς,G,_,E,hς,hG,h,fun x v G1 H1 rx hG1 f1 h1=>?_,lx⟩
 obtain ⟨k,h2,h3⟩:=jdm rx hG1 h1
 refine ⟨k,h2,?_⟩
 cases k with
 | true=>rw [if_pos rfl] at h3 ⊢; exact (lv.fr f1).here rx hG1 h3
 | false=>rw [if_neg Yas] at h3 ⊢; exact ⟨ς,G1,Q,E,hς.ts (f1.ts hG),hG1,h3,lv.fr f1,lx.fr f1⟩
theorem jm8 (ha:PE X a (lE X ta)):PE X (.UnaryOp .Not a pos) (lE X fun ς G Q E=>ta ς G (fun x G1=>truU x G1 fun b=>Q (.bl (!b)) G1) E):=by
 intro pins s σ H Q0 I h
 obtain ⟨ς,G,Q,E,hς,hG,h,lv,lx⟩:=h
 refine PyProof.Rows.UnaryOp_ (thn (ha pins s σ H (fun v H1=>∃ k,TruV X.K v H1 k/\Q0 (.bl (!k)) H1) I ⟨ς,G,_,E,hς,hG,h,fun x v G1 H1 rx hG1 f1 h1=>?_,lx⟩) fun v s1 ⟨x,H1,I1,r1,k,hk,q1⟩=>?_)
 ·obtain ⟨k,h2,h3⟩:=jdm rx hG1 h1
  exact ⟨k,h2,(lv.fr f1).bl hG1 h3⟩
 ·refine PyProof.Rows.not_of (thn (jff pins s1 σ H1 x v (fun c H2=>c=k/\H2=H1) I1 r1 ⟨k,hk,rfl,rfl⟩) fun c s2 ⟨H2,I2,e1,e2⟩=>?_)
  subst e1 e2
  exact ⟨.bl (!c),H2,I2,rfl,q1⟩
theorem jkP (hc:PT X c (lT X tA)){tC:UT}(ha:PT X a (lT X tB))(hb:PT X b (lT X tC)):PT X (.IfExp c a b pos) (lT X fun ς G Q E=>tA ς G (fun t G1=>if t=true then tB ς G1 Q E else tC ς G1 Q E) E):=by
 intro pins s σ H Q0 I h
 obtain ⟨ς,G,Q,E,hς,hG,h,lv,lx⟩:=h
 show wpAny _ _ (do if <- isTrue c X.env (eval c X.env) then isTrue a X.env (eval a X.env) else isTrue b X.env (eval b X.env)) _ _ s
 refine Yab (thn (hc pins s σ H (fun t H1=>∃ G1,HR X.K H1 G1/\Fr H G H1 G1/\if t=true then tB ς G1 Q E else tC ς G1 Q E) I ⟨ς,G,_,E,hς,hG,h,fun t G1 H1 hG1 f1 h1=>⟨G1,hG1,f1,h1⟩,lx⟩) fun t s1 ⟨H1,I1,G1,hG1,f1,h1⟩=>?_)
 cases t with
 | true=>exact ha pins s1 σ H1 Q0 I1 ⟨ς,G1,Q,E,hς.ts (f1.ts hG),hG1,h1,fun b G2 H2 hG2 f2 h2=>lv b G2 H2 hG2 (f1.trans f2) h2,lx.fr f1⟩
 | false=>exact hb pins s1 σ H1 Q0 I1 ⟨ς,G1,Q,E,hς.ts (f1.ts hG),hG1,h1,fun b G2 H2 hG2 f2 h2=>lv b G2 H2 hG2 (f1.trans f2) h2,lx.fr f1⟩
theorem jkN (ha:PT X a (lT X tA)):PT X (.UnaryOp .Not a pos) (lT X fun ς G Q E=>tA ς G (fun b G1=>Q (!b) G1) E):=by
 refine (jiz ha).imp fun σ H Q0 h=>?_
 obtain ⟨ς,G,Q,E,hς,hG,h,lv,lx⟩:=h
 exact ⟨ς,G,_,E,hς,hG,h,fun b G1 H1 hG1 f1 h1=>lv (!b) G1 H1 hG1 f1 h1,lx⟩
theorem jkU {rest:List Expr}(ha:PT X a (lT X tA))(hb:PW X (.BoolOp .And (b::rest) pos) (lT X tB)):PW X (.BoolOp .And (a::b::rest) pos) (lT X fun ς G Q E=>tA ς G (fun c G1=>if c=true then tB ς G1 Q E else Q false G1) E):=by
 refine (pw_and ha hb).imp fun σ H Q0 h=>?_
 obtain ⟨ς,G,Q,E,hς,hG,h,lv,lx⟩:=h
 refine ⟨ς,G,_,E,hς,hG,h,fun c G1 H1 hG1 f1 h1=>?_,lx⟩
 cases c with
 | false=>rw [if_neg Yas] at h1 ⊢; exact lv false G1 H1 hG1 f1 h1
 | true=>rw [if_pos rfl] at h1 ⊢; exact ⟨ς,G1,Q,E,hς.ts (f1.ts hG),hG1,h1,fun b G2 H2 hG2 f2 h2=>lv b G2 H2 hG2 (f1.trans f2) h2,lx.fr f1⟩
theorem jm7 {rest:List Expr}(ha:PT X a (lT X tA))(hb:PW X (.BoolOp .Or (b::rest) pos) (lT X tB)):PW X (.BoolOp .Or (a::b::rest) pos) (lT X fun ς G Q E=>tA ς G (fun c G1=>if c=true then Q true G1 else tB ς G1 Q E) E):=by
 refine (pw_or ha hb).imp fun σ H Q0 h=>?_
 obtain ⟨ς,G,Q,E,hς,hG,h,lv,lx⟩:=h
 refine ⟨ς,G,_,E,hς,hG,h,fun c G1 H1 hG1 f1 h1=>?_,lx⟩
 cases c with
 | true=>rw [if_pos rfl] at h1 ⊢; exact lv true G1 H1 hG1 f1 h1
 | false=>rw [if_neg Yas] at h1 ⊢; exact ⟨ς,G1,Q,E,hς.ts (f1.ts hG),hG1,h1,fun b G2 H2 hG2 f2 h2=>lv b G2 H2 hG2 (f1.trans f2) h2,lx.fr f1⟩
theorem jnd (hc:PT X c (lT X tA))(ha:PE X a (lE X ta))(hb:PE X b (lE X tb)):PE X (.IfExp c a b pos) (lE X fun ς G Q E=>tA ς G (fun t G1=>if t=true then ta ς G1 Q E else tb ς G1 Q E) E):=by
 refine (jhS hc ha hb).imp fun σ H Q0 h=>?_
 obtain ⟨ς,G,Q,E,hς,hG,h,lv,lx⟩:=h
 refine ⟨ς,G,_,E,hς,hG,h,fun c G1 H1 hG1 f1 h1=>?_,lx⟩
 cases c with
 | true=>rw [if_pos rfl] at h1 ⊢; exact ⟨ς,G1,Q,E,hς.ts (f1.ts hG),hG1,h1,lv.fr f1,lx.fr f1⟩
 | false=>rw [if_neg Yas] at h1 ⊢; exact ⟨ς,G1,Q,E,hς.ts (f1.ts hG),hG1,h1,lv.fr f1,lx.fr f1⟩
end
end Z

namespace L2
open PySem PySem.Spec PyProof.Rows
set_option maxHeartbeats 4000000
section
variable {X:Cx}{e st:Expr}{te tst:TE}{pos p2:Pos}
noncomputable def jnk (K:Yac)(te tst:TE):TE:=fun σ H Q=>te σ H fun x H1=>tst σ H1 fun y H2=>(∃ a xs,x=.ref a/\SqL K H2 a xs/\
 ((y=.int 1/\∀ p,H2 p=none->Q (.ref p) (upd H2 p (.lst xs)))\/(y=.int (-1)/\∀ p,H2 p=none->Q (.ref p) (upd H2 p (.lst xs.reverse)))))\/
 ∃ a xs,x=.ref a/\SqT K H2 a xs/\y=.int (-1)/\∀ p,H2 p=none->Q (.ref p) (upd H2 p (.tup xs.reverse))
theorem jjN (he:PE X e te)(hs:PE X st tst):PE X (.Subscript e (.Slice none none (some st) p2) pos) (jnk X.K te tst):=by
 intro pins s σ H Q I h
 refine Subscript_ (thn (he pins s σ H _ I h) fun v s1 ⟨x,H1,I1,r1,q1⟩=>?_)
 refine wpAny_Slice ?_
 rw [YfW,evalPart_some]
 refine Yam (Yam ?_)
 refine thn (hs pins s1 σ H1 _ I1 q1) fun u s3 ⟨y,H3,I3,r3,q3⟩=>?_
 have I4:Inv X pins σ H3 { s3 with heap:=s3.heap.push { cls:=.type "slice",data:=.fields #[.none,.none,u] } }:=I3.kept (t':=s3.toks) fun b ob q=>Yaf _ q
 rcases q3 with ⟨a,xs,rfl,hx,q3⟩ | ⟨a,xs,rfl,hx,rfl,q⟩
 ·cases r1
  obtain ⟨its,r,ht,hz⟩:=I4.list hx
  have hlen:=r.length
  show wpAny (model X.prog X.w) X.A (Yes e (.Slice none none (some st) p2) (.ref a) (.ref s3.heap.objs.size)) (EP X pins σ Q) X.xe { s3 with heap:=s3.heap.push { cls:=.type "slice",data:=.fields #[.none,.none,u] } }
  refine tail_any (ops:=[.ref a,.ref s3.heap.objs.size]) ht.isList.typeIs slot_list_getitem.lookup ?_ (by with_unfolding_all rfl)
  rcases q3 with ⟨rfl,q⟩ | ⟨rfl,q⟩
  ·obtain ⟨t,rfl⟩:=r3
   refine YdF ht.isList (Heap.IsSliceOf.new ..) .none .none (.int 1 t) (by decide) ?_ (by rw [Yat] <;> omega)
   rw [jij]
   refine ⟨.ref _,_,I4.laid (t':=s3.toks) (o:=.lst xs) (fun b ob q=>Yaf _ q) (Yak _) ?_,rfl,q _ (I4.hok.fresh (Yak _))⟩
   exact ⟨hz,_,0,r,YaR _ rfl⟩
  ·obtain ⟨t,rfl⟩:=r3
   refine YdF ht.isList (Heap.IsSliceOf.new ..) .none .none (.int (-1) t) (by decide) ?_ (by rw [Yat] <;> omega)
   rw [jhF]
   refine ⟨.ref _,_,I4.laid (t':=s3.toks) (o:=.lst xs.reverse) (fun b ob q=>Yaf _ q) (Yak _) ?_,rfl,q _ (I4.hok.fresh (Yak _))⟩
   exact ⟨by rw [Ydh]; exact hz,_,0,r.rev,YaR _ rfl⟩
 ·cases r1
  obtain ⟨t,rfl⟩:=r3
  obtain ⟨its,r,ht,hz⟩:=I4.tuple hx
  have hlen:=r.length
  show wpAny (model X.prog X.w) X.A (Yes e (.Slice none none (some st) p2) (.ref a) (.ref s3.heap.objs.size)) (EP X pins σ Q) X.xe { s3 with heap:=s3.heap.push { cls:=.type "slice",data:=.fields #[.none,.none,.int (-1) t] } }
  refine tail_any (ops:=[.ref a,.ref s3.heap.objs.size]) ht.typeIs Ybm.lookup ?_ (by with_unfolding_all rfl)
  refine HT.getItem_tuple_rev ht (Heap.IsSliceOf.new ..) ?_ (by rw [<- hlen]; exact hz)
  refine ⟨.ref _,_,I4.laid (t':=s3.toks) (o:=.tup xs.reverse) (fun b ob q=>Yaf _ q) (Yak _) ?_,rfl,q _ (I4.hok.fresh (Yak _))⟩
  exact ⟨by rw [Ydh]; exact hz,_,r.rev,TupD.new _ _⟩
end
end L2
namespace Z
open PySem L2
set_option maxHeartbeats 4000000
section
variable {X:Cx}{pos:Pos}{a b e:Expr}{es:List Expr}{ta tb te:UE}{ts:UA}
theorem jgi:PA X [] (lA X fun _ G Q _=>Q [] G):=by
 refine jc2.imp fun σ H Q0 h=>?_
 obtain ⟨ς,G,Q,E,hς,hG,h,lv,lx⟩:=h
 exact lv [] [] G H rfl hG (Fr.refl _ _) h
theorem jdM (ha:PE X e (lE X te))(hr:PA X es (lA X ts))(hs:YaM (e::es) X.env=(false,eval e X.env)::YaM es X.env):PA X (e::es) (lA X fun ς G Q E=>te ς G (fun x G1=>ts ς G1 (fun xs G2=>Q (x::xs) G2) E) E):=by
 refine (ja4 ha hr hs).imp fun σ H Q0 h=>?_
 obtain ⟨ς,G,Q,E,hς,hG,h,lv,lx⟩:=h
 refine ⟨ς,G,_,E,hς,hG,h,fun x v G1 H1 rx hG1 f1 h1=>?_,lx⟩
 refine ⟨ς,G1,_,E,hς.ts (f1.ts hG),hG1,h1,fun xs vs G2 H2 rxs hG2 f2 h2=>?_,lx.fr f1⟩
 exact lv (x::xs) (v::vs) G2 H2 ⟨v,vs,rfl,rx.ts (f2.ts hG1),rxs⟩ hG2 (f1.trans f2) h2
theorem jm2 {k}(h:PA X es (lA X ts)):PE X (.Tuple es k pos) (lE X fun ς G Q E=>ts ς G (fun us G1=>us.length<=Yan/\Q (.tup us) G1) E):=
 (jgD h).imp fun σ H Q0 h=>lE.many h fun us vs G H' Q r hG q lv=>⟨by rw [<- r.length]; exact q.1,fun p hp=>lv.tup hp r hG q.2⟩
theorem jnc (h:PA X es (lA X ts)):PE X (.List es pos) (lE X fun ς G Q E=>ts ς G (fun us G1=>us.length<=Yan/\newO G1 (.lst us) Q) E):=
 (jiD h).imp fun σ H Q0 h=>lE.many h fun us vs G H' Q r hG q lv=>⟨by rw [<- r.length]; exact q.1,fun p hp=>lv.lst hp r hG q.2⟩
noncomputable def rDix:R2:=fun x y H Q=>∃ a v,x=.ref a/\DGet H a y (some v)/\Q v H
theorem jki (hu:X.A.units + 1 < cLine):IxR X rDix:=by
 intro value slice pins s σ H x y v u Q I rx ry h hs
 obtain ⟨a,w,rfl,g,q⟩:=h
 cases rx
 exact PyProof.Rows.tail_any (jeY I g) PySem.F.slot_dict_getitem.lookup (jhb hu I g ry fun w' s3 I3 rw'=>⟨w,H,I3,rw',q⟩) hs
theorem jiQ {H:Hp}{G:Gp}{y:U}{v':V}{Q:K1}{Q0:VK}{a:Addr}{xs:List U}{vs:List V}(h:match y with | .int i=>(match atI xs i with | some u=>Q u G | none=>False) | _=>False)
  (ry:RU X.K H y v') (hG:HR X.K H G) (lv:LV X H G Q Q0) (sq:SqL X.K H a vs) (rs:RUs X.K H xs vs):rIx X.K (.ref a) v' H Q0:=by
 cases y with
 | int i=>
  cases ry
  dsimp only at h
  split at h
  ·rename_i u e
   obtain ⟨w,e2,r⟩:=rs.atI e
   exact .inl ⟨_,vs,_,w,rfl,rfl,sq,e2,lv.here r hG h⟩
  ·exact h.elim
 | _=>exact h.elim
theorem jma {H:Hp}{G:Gp}{x y:U}{v v':V}{Q:K1}{Q0:VK}(rx:RU X.K H x v)(ry:RU X.K H y v')(hG:HR X.K H G)(h:ixU x y G Q)(lv:LV X H G Q Q0):rIx X.K v v' H Q0\/rDix v v' H Q0:=by
 unfold ixU at h
 split at h
 ·obtain ⟨a,vs,rfl,e,rs⟩:=rx
  cases ry
  split at h
  ·rename_i u e1
   obtain ⟨w,e2,r⟩:=rs.atI e1
   exact .inl (.inr (.inl ⟨a,vs,_,w,rfl,rfl,.of e,e2,lv.here r hG h⟩))
  ·exact h.elim
 ·cases rx; cases ry
  obtain ⟨h1,h⟩:=h
  split at h
  ·rename_i c e1
   exact .inl (.inr (.inr ⟨_,_,c,rfl,rfl,h1,e1,lv.str hG h⟩))
  ·exact h.elim
 ·cases rx
  split at h
  ·rename_i g
   obtain ⟨vs,e,rs⟩:=hG.lst g
   exact .inl (jiQ h ry hG lv (.of e) rs)
  ·rename_i g
   obtain ⟨ob,vs,e,rs⟩:=hG _ _ g
   exact .inl (jiQ h ry hG lv (.inl (.inr ⟨ob,e⟩)) rs)
  ·rename_i kvs g
   obtain ⟨l,e,rs⟩:=hG _ _ g
   split at h
   ·rename_i k ek
    have:=jgU ry ek
    subst this
    split at h
    ·rename_i u eu
     have:=jdk k rs
     rw [eu] at this
     obtain ⟨w,e2,r⟩:=this
     exact .inr ⟨_,w,rfl,by rw [<- e2]; exact DGet.k e,lv.here r hG h⟩
    ·exact h.elim
   ·exact h.elim
  ·rename_i kvs g
   obtain ⟨l,e,rs⟩:=hG _ _ g
   split at h
   ·rename_i ys
    obtain ⟨b,bs,rfl,eb,rb⟩:=ry
    split at h
    ·rename_i k ek
     have:=jfv rb ek
     subst this
     split at h
     ·rename_i u eu
      have:=jdk k rs
      rw [eu] at this
      obtain ⟨w,e2,r⟩:=this
      exact .inr ⟨_,w,rfl,by rw [<- e2]; exact DGet.t e eb,lv.here r hG h⟩
     ·exact h.elim
    ·exact h.elim
   ·exact h.elim
  ·exact h.elim
 ·exact h.elim
theorem u_ix (hu:X.A.units + 1 < cLine)(ha:PE X a (lE X ta))(hb:PE X b (lE X tb))(hs:je5 b):PE X (.Subscript a b pos) (lE X fun ς G Q E=>ta ς G (fun x G1=>tb ς G1 (fun y G2=>ixU x y G2 Q) E) E):=
 (jnJ ((jl9 (X:=X)).or (jki hu)) ha hb hs).imp fun σ H Q0 h=>lE.two h fun x y v v' G H' Q rx ry hG q lv=>jma rx ry hG q lv
theorem u_no:PO X none (lO X fun _ G Q _=>Q none G):=jjG.imp fun σ H Q0 h=>by
 obtain ⟨ς,G,Q,E,hς,hG,h,lv,lx⟩:=h
 exact lv none G H hG (Fr.refl _ _) h
theorem u_so (ha:PE X e (lE X te)):PO X (some e) (lO X fun ς G Q E=>te ς G (fun x G1=>match x with | .int i=>Q (some i) G1 | _=>False) E):=(jjF ha).imp fun σ H Q0 h=>by
 obtain ⟨ς,G,Q,E,hς,hG,h,lv,lx⟩:=h
 refine ⟨ς,G,_,E,hς,hG,h,fun x v G1 H1 rx hG1 f1 h1=>?_,lx⟩
 dsimp only at h1
 split at h1
 ·cases rx
  exact ⟨_,rfl,lv _ G1 H1 hG1 f1 h1⟩
 ·exact h1.elim
theorem u_sl {lo hi:Option Expr}{p2:Pos}{tl th:Sg->Gp->(Option Int->Gp->Prop)->KX->Prop}(ha:PE X e (lE X te))(hl:PO X lo (lO X tl))(hh:PO X hi (lO X th)) :
  PE X (.Subscript e (.Slice lo hi none p2) pos) (lE X fun ς G Q E=>te ς G (fun x G1=>tl ς G1 (fun l G2=>th ς G2 (fun h G3=>slU x l h G3 Q) E) E) E):=by
 refine (jhR (SlR.or (jjn (X:=X)) (SlR.or jjo jk2)) ha hl hh).imp fun σ H Q0 h=>?_
 obtain ⟨ς,G,Q,E,hς,hG,h,lv,lx⟩:=h
 refine ⟨ς,G,_,E,hς,hG,h,fun x v G1 H1 rx hG1 f1 h1=>?_,lx⟩
 refine ⟨ς,G1,_,E,hς.ts (f1.ts hG),hG1,h1,fun l G2 H2 hG2 f2 h2=>?_,lx.fr f1⟩
 refine ⟨ς,G2,_,E,(hς.ts (f1.ts hG)).ts (f2.ts hG1),hG2,h2,fun u G3 H3 hG3 f3 h3=>?_,lx.fr (f1.trans f2)⟩
 have lv3:=lv.fr ((f1.trans f2).trans f3)
 have rx3:=rx.ts (fun a xs e=>(f3.ts hG2) a xs ((f2.ts hG1) a xs e))
 unfold slU at h3
 split at h3
 ·obtain ⟨a,vs,rfl,ea,rs⟩:=rx3
  by_cases z:HT.sIx vs.length 0 l=0/\HT.sIx vs.length vs.length u=vs.length
  ·refine .inl (.inr ⟨a,vs,rfl,.of ea,z,?_⟩)
   refine lv3.here (w:=.tup _) ⟨a,vs,rfl,ea,?_⟩ hG3 h3
   have e2:cutV vs l u=vs:=by unfold cutV; rw [z.1,z.2]; simp
   have:=rs.cut l u
   rw [e2] at this
   exact this
  ·exact .inl (.inl ⟨a,vs,rfl,.of ea,z,fun p hp=>lv3.tup hp (rs.cut l u) hG3 h3⟩)
 ·cases rx3
  exact .inr (.inr ⟨_,rfl,h3.1,lv3.str hG3 h3.2⟩)
 ·cases rx3
  split at h3
  ·rename_i us eu
   obtain ⟨vs,sq,rs⟩:=hG3.ls eu
   exact .inr (.inl ⟨_,vs,rfl,sq,fun p hp=>lv3.lst hp (rs.cut l u) hG3 h3⟩)
  ·exact h3.elim
 ·exact h3.elim
theorem jm6 {st:Expr}{p2:Pos}(ha:PE X a (lE X ta))(hb:PE X st (lE X tb)):PE X (.Subscript a (.Slice none none (some st) p2) pos) (lE X fun ς G Q E=>ta ς G (fun x G1=>tb ς G1 (fun y G2=>revU x y G2 Q) E) E):=by
 refine (jjN ha hb).imp fun σ H Q0 h=>lE.two h fun x y v v' G H' Q rx ry hG q lv=>?_
 unfold revU at q
 split at q
 ·obtain ⟨a,vs,rfl,ea,rs⟩:=rx
  cases ry
  obtain ⟨rfl,q⟩:=q
  exact .inr ⟨a,vs,rfl,.of ea,rfl,fun p hp=>lv.tup hp rs.reverse hG q⟩
 ·cases rx; cases ry
  split at q
  ·rename_i us eu
   obtain ⟨vs,sq,rs⟩:=hG.ls eu
   obtain ⟨hi,q⟩:=q
   rcases hi with rfl | rfl
   ·exact .inl ⟨_,vs,rfl,sq,.inl ⟨rfl,fun p hp=>lv.lst hp rs hG q⟩⟩
   ·exact .inl ⟨_,vs,rfl,sq,.inr ⟨rfl,fun p hp=>lv.lst hp rs.reverse hG q⟩⟩
  ·exact q.elim
 ·exact q.elim
end
end Z

namespace L2
open PySem PySem.Spec PyProof.Rows
set_option maxHeartbeats 4000000
section
variable {X:Cx}
end
end L2
namespace Z
open PySem L2
set_option maxHeartbeats 4000000
noncomputable def bltN:Blt->Str
 | .len => "len" | .repr => "repr" | .min => "min" | .max => "max" | .sum => "sum" | .all => "all" | .any => "any" | .sorted => "sorted" | .int => "int" | .str => "str" | .isi => "isinstance"
noncomputable def bltV:Blt->Value
 | .len=>.builtin "len" | .repr=>.builtin "repr" | .min=>.builtin "min" | .max=>.builtin "max" | .sum=>.builtin "sum" | .all=>.builtin "all" | .any=>.builtin "any" | .sorted=>.builtin "sorted" | .int=>.type "int" | .str=>.type "str" | .isi=>.builtin "isinstance"
section
variable {X:Cx}
theorem RUs.one {K:Yac}{H:Hp}{u:U}{vs:List V}(r:RUs K H [u] vs):∃ v,vs=[v]/\RU K H u v:=by
 obtain ⟨v,vr,rfl,r1,rs⟩:=r
 cases rs
 exact ⟨v,rfl,r1⟩
noncomputable def BlU (X:Cx)(b:Blt):Prop:=∃ r,ja2 X (bltV b) r/\∀ us vs G H Q Q0,RUs X.K H us vs->HR X.K H G->bltU b us G Q->LV X H G Q Q0->r vs H Q0
theorem jmq {k:Nat}(hr:Room k X.A)(hc:X.calm=true)(b:Blt):BlU X b:=by
 cases b with
 | len=>
  refine ⟨_,ja2.or (jig (X:=X)) jhe,fun us vs G H Q Q0 r hG h lv=>?_⟩
  change lenU us G Q at h
  unfold lenU at h
  split at h <;> first | exact h.elim | skip
  ·obtain ⟨v,rfl,r1⟩:=r.one
   obtain ⟨a,ws,rfl,e,rs⟩:=r1
   exact .inl ⟨_,_,rfl,.inr ⟨ws,.of e,rfl⟩,by rw [<- rs.length]; exact lv.int hG h⟩
  ·obtain ⟨v,rfl,r1⟩:=r.one
   cases r1
   exact .inl ⟨_,_,rfl,⟨h.1,rfl⟩,lv.int hG h.2⟩
  ·obtain ⟨v,rfl,r1⟩:=r.one
   cases r1
   split at h
   ·rename_i g
    obtain ⟨ws,e,rs⟩:=hG.lst g
    exact .inl ⟨_,_,rfl,.inl ⟨ws,.of e,rfl⟩,by rw [<- rs.length]; exact lv.int hG h⟩
   ·rename_i g
    obtain ⟨ob,ws,e,rs⟩:=hG _ _ g
    exact .inl ⟨_,_,rfl,.inl ⟨ws,.inl (.inr ⟨ob,e⟩),rfl⟩,by rw [<- rs.length]; exact lv.int hG h⟩
   ·rename_i kvs g
    obtain ⟨l,e,rs⟩:=hG _ _ g
    refine .inr ⟨_,l,rfl,e,?_⟩
    have:∀ {kvs:List (Key×U)} {l:List (Key×V)},RKs X.K H kvs l->kvs.length=l.length:=by
     intro kvs
     induction kvs with
     | nil=>intro l r; cases r; rfl
     | cons p q ih=>intro l r; obtain ⟨v,l',rfl,_,rs⟩:=r; simp [ih rs]
    rw [<- this rs]
    exact lv.int hG h
   ·exact h.elim
 | repr=>
  refine ⟨_,jf8 hr,fun us vs G H Q Q0 r hG h lv=>?_⟩
  change jcx us G Q at h
  unfold jcx at h
  split at h <;> first | exact h.elim | skip
  obtain ⟨v,rfl,r1⟩:=r.one
  obtain ⟨d,h1,h2,h3⟩:=h
  exact ⟨v,d,rfl,h1.dv hG r1,h2,lv.str hG h3⟩
 | min=>exact ⟨fun _ _ _=>False,fun _ _ _ _ _ _ _ _ _ h=>h.elim,fun _ _ _ _ _ _ _ _ h _=>h.elim⟩
 | max=>exact ⟨fun _ _ _=>False,fun _ _ _ _ _ _ _ _ _ h=>h.elim,fun _ _ _ _ _ _ _ _ h _=>h.elim⟩
 | sum=>
  refine ⟨_,jif hc,fun us vs G H Q Q0 r hG h lv=>?_⟩
  change sumU us G Q at h
  unfold sumU at h
  split at h <;> first | exact h.elim | skip
  obtain ⟨v,rfl,r1⟩:=r.one
  cases r1
  split at h
  ·rename_i g
   obtain ⟨ws,e,rs⟩:=hG.lst g
   split at h
   ·rename_i ns en
    have:=rs.ints en
    subst this
    exact ⟨_,ns,rfl,.of e,lv.int hG h⟩
   ·exact h.elim
  ·exact h.elim
 | any=>
  refine ⟨_,jih hc,fun us vs G H Q Q0 r hG h lv=>?_⟩
  change anyU us G Q at h
  unfold anyU at h
  split at h <;> first | exact h.elim | skip
  obtain ⟨v,rfl,r1⟩:=r.one
  cases r1
  split at h
  ·rename_i g
   obtain ⟨ws,e,rs⟩:=hG.lst g
   split at h
   ·rename_i ns en
    have:=rs.bools en
    subst this
    exact ⟨_,ns,rfl,.of e,lv.bl hG h⟩
   ·exact h.elim
  ·exact h.elim
 | all=>exact ⟨fun _ _ _=>False,fun _ _ _ _ _ _ _ _ _ h=>h.elim,fun _ _ _ _ _ _ _ _ h _=>h.elim⟩
 | sorted=>
  refine ⟨_,jei hc (by have:=hr.un; omega),fun us vs G H Q Q0 r hG h lv=>?_⟩
  change jbY us G Q at h
  unfold jbY at h
  split at h <;> first | exact h.elim | skip
  obtain ⟨v,rfl,r1⟩:=r.one
  cases r1
  split at h <;> first | exact h.elim | skip
  rename_i us g
  obtain ⟨ws,e,rs⟩:=hG.lst g
  obtain ⟨ks,hnd,h64,hl,hk,q⟩:=h
  refine ⟨_,ws,ks,rfl,.inl (.of e),by rw [<- rs.length]; exact hl,hnd,by rw [<- rs.length]; exact h64,?_,fun l π hn hp hs=>?_⟩
  ·rcases hk with ⟨ns,rfl,rfl⟩ | ⟨as,rfl,hk⟩ | ⟨rfl,hk⟩
   ·refine .inl fun i v k e1 e2=>?_
    rw [YaE] at e2
    cases en:ns[i]? with
    | none=>rw [en] at e2; cases e2
    | some n=>
     rw [en] at e2; cases e2
     obtain ⟨v',e3,r3⟩:=rs.get (i:=i) (u:=.int n) (by rw [YaE,en]; rfl)
     rw [e1] at e3; cases e3
     exact ⟨n,r3,rfl⟩
   ·refine .inr (.inl fun i v k e1 e2=>?_)
    have hi:i < as.length:=by
     have:=(List.getElem?_eq_some_iff.mp e1).1
     rw [<- rs.length,Yai] at this; exact this
    obtain ⟨v',e3,r3⟩:=rs.get (i:=i) (u:=.loc as[i]) (by rw [YaE,Yah hi]; rfl)
    rw [e1] at e3; cases e3
    obtain ⟨ws2,e4,r4⟩:=hG.lst (hk i _ k (Yah hi) e2)
    rw [jdy r4] at e4
    exact ⟨as[i],r3,.inl (.of e4)⟩
   ·refine .inr (.inr fun i v k e1 e2=>⟨?_,hk k (YaD e2)⟩)
    obtain ⟨v',e3,r3⟩:=rs.get (i:=i) (u:=.tup (k.map .int)) (by rw [YaE,e2]; rfl)
    rw [e1] at e3; cases e3
    obtain ⟨t,ws2,rfl,et,rt⟩:=r3
    rw [jdy rt] at et
    exact ⟨t,rfl,.of et⟩
  ·rw [<- rs.length] at hp hs
   refine lv.lst hn ?_ hG (q π hp hs)
   have:∀ l:List Nat,(∀ i∈l,i < us.length)->RUs X.K H (l.map fun i=>us.getD i .non) (l.map fun i=>ws.getD i .non):=fun l=>by
    induction l with
    | nil=>intro _; rfl
    | cons i l ih=>
     intro hl'
     have hi:=hl' i (by simp)
     obtain ⟨v',e3,r3⟩:=rs.get (Yah hi)
     refine ⟨_,_,rfl,?_,ih fun j hj=>hl' j (Yap _ hj)⟩
     refine (?_:RU X.K H (us.getD i .non) (ws.getD i .non))
     rw [YaO,Yah hi,YaO,e3]
     exact r3
   exact this π fun i hi=>List.mem_range.mp (hp.mem_iff.mp hi)
 | int=>
  refine ⟨_,jhi,fun us vs G H Q Q0 r hG h lv=>?_⟩
  change intU us G Q at h
  unfold intU at h
  split at h <;> first | exact h.elim | skip
  ·obtain ⟨v,rfl,r1⟩:=r.one
   cases r1
   exact .inl ⟨_,rfl,lv.int hG h⟩
  ·obtain ⟨v,rfl,r1⟩:=r.one
   cases r1
   exact .inr ⟨_,rfl,lv.int hG h⟩
 | str=>exact ⟨fun _ _ _=>False,fun _ _ _ _ _ _ _ _ _ h=>h.elim,fun _ _ _ _ _ _ _ _ h _=>h.elim⟩
 | isi=>exact ⟨fun _ _ _=>False,fun _ _ _ _ _ _ _ _ _ h=>h.elim,fun _ _ _ _ _ _ _ _ h _=>h.elim⟩
theorem jii (b:Blt):YcR (bltN b)=some (bltV b):=by
 cases b with
 | len=>exact PySem.boot_len
 | repr=>exact (by with_unfolding_all rfl)
 | min=>exact PyProof.Rows.boot_min
 | max=>exact PyProof.Rows.boot_max
 | sum=>exact PyProof.Rows.boot_sum
 | any=>exact PyProof.Rows.boot_any
 | all=>exact PyProof.Rows.boot_all
 | sorted=>exact PyProof.Rows.boot_sorted
 | int=>exact PyProof.Rows.boot_int
 | str=>exact PyProof.Rows.boot_str
 | isi=>exact YdR
theorem jmr (b:Blt):bltN b ≠ "__name__" /\ (bltN b == ("__debug__" : Str))=false:=by cases b <;> decide
theorem jng {b:Blt}{e:Expr}{es:List Expr}{ts:UA}{p pos:Pos}(hb:BlU X b)(hg:Gl X (bltN b))(hm:X.mg (bltN b)=none)(ha:PA X (e::es) (lA X ts))
  (he:YaM (e::es) X.env=(false,eval e X.env)::YaM es X.env) (hpl:(backTo pos (YaM es X.env)).any (·.1)=false) :
  PE X (.Call (.Name (bltN b) p) (e::es) [] pos) (lE X fun ς G Q E=>ts ς G (fun us G1=>bltU b us G1 Q) E):=by
 obtain ⟨r,h1,h2⟩:=hb
 have fin:∀ σ H Q0,lE X (fun ς G Q E=>ts ς G (fun us G1=>bltU b us G1 Q) E) σ H Q0->tCB r (lA X ts) σ H Q0:=fun σ H Q0 h=>lE.many h fun us vs G H' Q rs hG q lv=>h2 us vs G H' Q Q0 rs hG q lv
 have hv:=jii b
 obtain ⟨n1,n2⟩:=jmr b
 cases b
 all_goals first
  | exact (jcn h1 hg hm hv ha n1 n2 he hpl).imp fin
  | exact (jcy h1 hg hm hv ha n1 n2 he hpl).imp fin
end
noncomputable def mthN:Mth->Str
 | .append => "append" | .extend => "extend" | .insert => "insert" | .pop => "pop" | .reverse => "reverse" | .index => "index" | .join => "join" | .get => "get"
section
variable {X:Cx}
theorem RUs.mk {K:Yac}{H:Hp}{u:U}{v:V}{us:List U}{vs:List V}(r:RU K H u v)(rs:RUs K H us vs):RUs K H (u::us) (v::vs):=⟨v,vs,rfl,r,rs⟩
structure MtK (X:Cx)(m:Mth)(T id:String):Prop where
 pa:PlainAttrs T
 sl:Slot T (mthN m) id
 ty:typeOf (.builtin id)=pure (.type "method_descriptor")
noncomputable def MtU (X:Cx)(m:Mth):Prop:=∀ x G1 T id,mtU m x G1=some (T,id)->MtK X m T id/\(∀ v H1,RU X.K H1 x v->HR X.K H1 G1->tyV X.K T v H1)/\
 ∃ r,MtR X id r/\∀ us v vs G H Q Q0,RU X.K H x v->RUs X.K H us vs->HR X.K H G->jcC m x us G Q->LV X H G Q Q0->r v vs H Q0
theorem jkV {a:Addr}{G:Gp}{us:List U}(g:G a=some (.lst us)):∀ v H1,RU X.K H1 (.loc a) v->HR X.K H1 G->tyV X.K "list" v H1:=fun v H1 r hG=>by
 cases r
 obtain ⟨vs,e,_⟩:=hG.lst g
 exact .inl ⟨rfl,vs,.of e⟩
theorem jgM:MtU X .append:=by
 intro x G1 T id h
 dsimp only [mtU] at h
 split at h <;> first | contradiction | skip
 split at h
 ·rename_i g
  cases h
  refine ⟨⟨PySem.F.plainAttrs_list,PySem.F.slot_list_append,PySem.F.type_list_append⟩,jkV g,_,jd1,fun us v vs G H Q Q0 rx rs hG h lv=>?_⟩
  cases rx
  dsimp only [jcC] at h
  unfold je2 at h
  split at h <;> first | exact h.elim | skip
  rename_i e2
  cases e2
  split at h
  ·rename_i g2
   obtain ⟨ws,e,r⟩:=hG.lst g2
   obtain ⟨y,rfl,ry⟩:=rs.one
   refine ⟨_,ws,y,rfl,rfl,e,by rw [<- r.length]; exact h.1,?_⟩
   exact lv.wl g2 (r.append (RUs.mk (us:=[]) (vs:=[]) ry rfl)) hG (w:=.non) rfl h.2
  ·exact h.elim
 ·cases h
theorem jiI (m:Mth):MtU X m:=by
 cases m with
 | append=>exact jgM
 | extend=>intro x G1 T id h; cases h
 | insert=>intro x G1 T id h; cases h
 | pop=>intro x G1 T id h; cases h
 | reverse=>intro x G1 T id h; cases h
 | index=>intro x G1 T id h; cases h
 | join=>intro x G1 T id h; cases h
 | get=>intro x G1 T id h; unfold mtU at h; split at h <;> contradiction
variable {m:Mth}{o e:Expr}{es:List Expr}{to:UE}{ts:UA}{apos cpos:Pos}
theorem jkO (hm:MtU X m)(ho:PE X o (lE X to))(ha:PA X (e::es) (lA X ts))(hbase:Ycz o (mthN m) X.env (eval o X.env)=eval o X.env)
  (hfew:((backTo cpos (YaM (e::es) X.env)).all (fun x=>!x.1) && (backToKw cpos (Yfg [] X.env)).all (fun x=>x.1.isSome)
   && decide ((e::es).length + ([]:List Keyword).length + (if ([]:List Keyword).isEmpty then 0 else 1) < 30))=true)
  (hline:(apos.endLine == cpos.line)=true) (hs:YaM (e::es) X.env=(false,eval e X.env)::YaM es X.env) (hplain:(backTo cpos (YaM es X.env)).any (·.1)=false) :
  PE X (.Call (.Attribute o (mthN m) apos) (e::es) [] cpos) (lE X fun ς G Q E=>to ς G (fun x G1=>match mtU m x G1 with | some _=>ts ς G1 (fun us G2=>jcC m x us G2 Q) E | none=>False) E):=by
 intro pins s σ H Q0 I h
 obtain ⟨ς,G,Q,E,hς,hG,h,lv,lx⟩:=h
 refine PySem.wpAny_Call_method_late hbase hfew hline rfl (thn (ho pins s σ H (fun v H1=>∃ x G1 T id,RU X.K H1 x v/\HR X.K H1 G1/\Fr H G H1 G1/\mtU m x G1=some (T,id)/\ts ς G1 (fun us G2=>jcC m x us G2 Q) E) I
  ⟨ς,G,_,E,hς,hG,h,fun x v G1 H1 rx hG1 f1 h1=>?_,lx⟩) fun v s1 ⟨xv,H1,I1,r1,x,G1,T,id,rx,hG1,f1,em,h1⟩=>?_)
 ·dsimp only at h1
  split at h1
  ·rename_i p ep
   exact ⟨x,G1,p.1,p.2,rx,hG1,f1,ep,h1⟩
  ·exact h1.elim
 ·obtain ⟨k,hty,r,hr1,hr2⟩:=hm x G1 T id em
  obtain ⟨t1,t2⟩:=jir I1 r1 (hty xv H1 rx hG1)
  refine ⟨T,id,k.pa,k.sl,k.ty,t1,t2,?_⟩
  have hA:=ha cpos pins s1 σ H1 (fun vs H2=>∃ us G2,RUs X.K H2 us vs/\HR X.K H2 G2/\Fr H1 G1 H2 G2/\jcC m x us G2 Q) I1 ⟨ς,G1,_,E,hς.ts (f1.ts hG),hG1,h1,fun us vs G2 H2 rs hG2 f2 h2=>⟨us,G2,rs,hG2,f2,h2⟩,lx.fr f1⟩
  rw [hs] at hA ⊢
  refine Ye9 (by show (false || (backTo cpos (YaM es X.env)).any (·.1))=false; rw [hplain] <;> rfl) (Calls.evalArgs_plain ?_)
  exact thn hA fun us s2 ⟨vs,H2,I2,r2,ws,G2,rs,hG2,f2,h2⟩=>hr1 pins s2 σ H2 xv vs v us Q0 I2 r1 r2 (hr2 ws xv vs G2 H2 Q Q0 (rx.ts (f2.ts hG1)) rs hG2 h2 (lv.fr (f1.trans f2)))
theorem jjc (hm:MtU X m)(ho:PE X o (lE X to))(hbase:Ycz o (mthN m) X.env (eval o X.env)=eval o X.env)(hline:(apos.endLine == cpos.line)=true) :
  PE X (.Call (.Attribute o (mthN m) apos) [] [] cpos) (lE X fun ς G Q E=>to ς G (fun x G1=>match mtU m x G1 with | some _=>jcC m x [] G1 Q | none=>False) E):=by
 intro pins s σ H Q0 I h
 obtain ⟨ς,G,Q,E,hς,hG,h,lv,lx⟩:=h
 refine PySem.wpAny_Call_method0_late hbase hline (thn (ho pins s σ H (fun v H1=>∃ x G1 T id,RU X.K H1 x v/\HR X.K H1 G1/\Fr H G H1 G1/\mtU m x G1=some (T,id)/\jcC m x [] G1 Q) I
  ⟨ς,G,_,E,hς,hG,h,fun x v G1 H1 rx hG1 f1 h1=>?_,lx⟩) fun v s1 ⟨xv,H1,I1,r1,x,G1,T,id,rx,hG1,f1,em,h1⟩=>?_)
 ·dsimp only at h1
  split at h1
  ·rename_i p ep
   exact ⟨x,G1,p.1,p.2,rx,hG1,f1,ep,h1⟩
  ·exact h1.elim
 ·obtain ⟨k,hty,r,hr1,hr2⟩:=hm x G1 T id em
  obtain ⟨t1,t2⟩:=jir I1 r1 (hty xv H1 rx hG1)
  exact ⟨T,id,k.pa,k.sl,k.ty,t1,t2,Ye9 rfl (PySem.evalArgs_none (hr1 pins s1 σ H1 xv [] v [] Q0 I1 r1 .nil (hr2 [] xv [] G1 H1 Q Q0 rx rfl hG1 h1 (lv.fr f1))))⟩
end
end Z

namespace L2
open PySem PySem.Spec PyProof.Rows
set_option maxHeartbeats 4000000
section
variable {X:Cx}{tg:Expr}
noncomputable def iSeq (K:Yac)(tl:TE):TI:=fun σ H R=>tl σ H fun x H1=>∃ a,x=.ref a/\(((∃ xs,SqL K H1 a xs)/\R (Itl K a) H1)\/((∃ xs,SqT K H1 a xs)/\R (Itt K a) H1))
theorem jln {l:Expr}{tl:TE}(hl:PE X l tl):PI X tg l (iSeq X.K tl):=by
 intro pins s σ H R I h
 refine thn (hl pins s σ H _ I h) fun v s1 ⟨x,H1,I1,r1,q1⟩=>?_
 obtain ⟨a,e,⟨⟨xs,hq⟩,q⟩ | ⟨⟨xs,hq⟩,q⟩⟩:=q1
 ·subst e
  cases r1
  obtain ⟨its,rv,p,hz⟩:=I1.list hq
  refine wpAny_pyIter_list p.isList ?_
  refine ⟨s1.heap.objs.size,[s1.heap.objs.size],_,_,H1,rfl,I1.kept (t':=s1.toks) fun b o e=>Yaf _ e,jgj a _,⟨_,YaR _ rfl,rfl,rfl⟩,fun b hb=>?_,q⟩
  have e:b=s1.heap.objs.size:=by simpa using hb
  subst e
  exact I1.fpOk (Yak _) (I1.hok.fresh (Yak _))
 ·subst e
  cases r1
  obtain ⟨its,rv,p,hz⟩:=I1.tuple hq
  refine wpAny_pyIter_tuple (show s1.heap.IsTuple a its.toArray from p) ?_
  refine ⟨s1.heap.objs.size,[s1.heap.objs.size],_,_,H1,rfl,I1.kept (t':=s1.toks) fun b o e=>Yaf _ e,jfM a _,⟨_,YaR _ rfl,rfl,rfl⟩,fun b hb=>?_,q⟩
  have e:b=s1.heap.objs.size:=by simpa using hb
  subst e
  exact I1.fpOk (Yak _) (I1.hok.fresh (Yak _))
theorem PI.imp {iter:Expr}{t t':TI}(h:PI X tg iter t)(i:∀ σ H R,t' σ H R->t σ H R):PI X tg iter t':=fun pins s σ H R I q=>h pins s σ H R I (i σ H R q)
theorem PG.imp {target:Expr}{t t':TG}(h:PG X target t)(i:∀ v σ H Q,t' v σ H Q->t v σ H Q):PG X target t':=fun pins s σ H v u Q I r q=>h pins s σ H v u Q I r (i v σ H Q q)
theorem PGs.imp {ts:List Expr}{t t':TGs}(h:PGs X ts t)(i:∀ v σ H Q,t' v σ H Q->t v σ H Q):PGs X ts t':=fun pins s σ H v u Q I r q=>h pins s σ H v u Q I r (i v σ H Q q)
theorem PIfs.imp {ifs:List Expr}{t t':TT}(h:PIfs X ifs t)(i:∀ σ H Q,t' σ H Q->t σ H Q):PIfs X ifs t':=fun pins s σ H Q I q=>h pins s σ H Q I (i σ H Q q)
end
end L2
namespace Z
open PySem L2
set_option maxHeartbeats 4000000
noncomputable abbrev UI:=Sg->Gp->(List U->(Gp->Prop)->Gp->Prop)->KX->Prop
noncomputable def je4 (K:Yac)(J:L2.It)(H:Hp)(G:Gp)(xs:List U)(ok:Gp->Prop):Prop:=∀ i H' G',TS H H'->HR K H' G'->ok G'->
 (∀ u,xs[i]?=some u->J.go i H'/\∀ v H'',J.yld i H' v H''->RU K H'' u v/\HR K H'' G'/\Fr H' G' H'' G')/\(i=xs.length->J.stop i H')
theorem je4.mono {K:Yac}{J:L2.It}{H H2:Hp}{G G2:Gp}{xs:List U}{ok:Gp->Prop}(h:je4 K J H G xs ok)(t:TS H H2):je4 K J H2 G2 xs ok:=fun i H' G' t'=>h i H' G' fun a ys e=>t' a ys (t a ys e)
section
variable (X:Cx)
noncomputable def lI (t:UI):TI:=fun σ H R=>∃ ς G Q E,SR X.K H ς σ/\HR X.K H G/\t ς G Q E/\(∀ xs ok G' H' J,HR X.K H' G'->Fr H G H' G'->je4 X.K J H' G' xs ok->Q xs ok G'->R J H')/\LX X σ H G E
noncomputable def lG (K:Yac)(t:U->Sg->(Sg->Prop)->Prop):TG:=fun v σ H Q0=>∃ u ς k,RU K H u v/\SR K H ς σ/\t u ς k/\∀ ς' σ',SR K H ς' σ'->k ς'->Q0 σ' H
noncomputable def lGs (K:Yac)(t:List U->Sg->(Sg->Prop)->Prop):TGs:=fun vs σ H Q0=>∃ us ς k,RUs K H us vs/\SR K H ς σ/\t us ς k/\∀ ς' σ',SR K H ς' σ'->k ς'->Q0 σ' H
end
section
variable {X:Cx}{tg:Expr}{pos:Pos}{te ta tb:UE}
theorem u_ie {l:Expr}(hl:PE X l (lE X te)):PI X tg l (lI X fun ς G Q E=>te ς G (fun x G1=>itU x G1 fun xs ok=>Q xs ok G1) E):=by
 refine (jln hl).imp fun σ H R h=>?_
 obtain ⟨ς,G,Q,E,hς,hG,h,lv,lx⟩:=h
 refine ⟨ς,G,_,E,hς,hG,h,fun x v G1 H1 rx hG1 f1 h1=>?_,lx⟩
 dsimp only at h1
 unfold itU at h1
 split at h1
 ·obtain ⟨a,vs,rfl,ea,rs⟩:=rx
  refine ⟨a,rfl,.inr ⟨⟨vs,.of ea⟩,lv _ _ _ H1 _ hG1 f1 (fun i H' G' f hr _=>?_) h1⟩⟩
  have e':H' a=some (.tup vs):=f a _ ea
  refine ⟨fun u eu=>?_,fun e=>⟨vs,.of e',by rw [e,rs.length]; exact Yak _⟩⟩
  obtain ⟨w,ew,rw'⟩:=rs.get eu
  refine ⟨⟨vs,w,.of e',ew⟩,fun v H'' y=>?_⟩
  obtain ⟨rfl,y⟩:=y
  have:=y vs (.of e')
  rw [ew] at this
  cases this
  exact ⟨rw'.ts f,hr,Fr.refl _ _⟩
 ·cases rx
  rename_i a
  split at h1
  ·rename_i us eu
   obtain ⟨vs,sq,rs⟩:=hG1.ls eu
   refine ⟨_,rfl,.inl ⟨⟨vs,sq⟩,lv _ _ _ H1 _ hG1 f1 (fun i H' G' f hr ok=>?_) h1⟩⟩
   obtain ⟨vs',sq',rs'⟩:=hr.ls ok
   refine ⟨fun u eu=>?_,fun e=>⟨vs',sq',by rw [e,rs'.length]; exact Yak _⟩⟩
   obtain ⟨w,ew,rw'⟩:=rs'.get eu
   refine ⟨⟨vs',w,sq',ew⟩,fun v H'' y=>?_⟩
   obtain ⟨rfl,y⟩:=y
   have:=y vs' sq'
   rw [ew] at this
   cases this
   exact ⟨rw',hr,Fr.refl _ _⟩
  ·exact h1.elim
 ·exact h1.elim
theorem jhE {K:Yac}{H:Hp}{G:Gp}(lo:Int)(n:Nat):je4 K (Itr lo n) H G (rngU lo n) fun _=>True:=by
 intro i H' G' f hr _
 have hl:(rngU lo n).length=n:=by simp [rngU]
 refine ⟨fun u eu=>?_,fun e=>by rw [hl] at e; exact Yem e.symm⟩
 have hi:i < n:=by have:=(List.getElem?_eq_some_iff.mp eu).1; omega
 refine ⟨hi,fun v H'' y=>?_⟩
 obtain ⟨rfl,rfl⟩:=y
 have:(rngU lo n)[i]?=some (.int (lo + i)):=by simp [rngU,YaE,YbP hi]
 rw [this] at eu
 cases eu
 exact ⟨rfl,hr,Fr.refl _ _⟩
theorem u_r1 {a : Expr}{p : Pos}(hg : Gl X "range")(hm : X.mg "range" = none)(ha : PE X a (lE X ta))(hs : YaM [a] X.env = [(false, eval a X.env)]) : PI X tg (.Call (.Name "range" p) [a] [] pos) (lI X fun ς G Q E => ta ς G (fun x G1 => match x with
      | .int j => -(2 ^ 62) <= j /\ j < 2 ^ 62 /\ Q (rngU 0 j.toNat) (fun _ => True) G1
      | _ => False) E) := by
  refine (jgB hg hm (jdM ha jgi hs) hs).imp fun σ H R h => ?_
  obtain ⟨ς, G, Q, E, hς, hG, h, lv, lx⟩ := h
  refine ⟨ς, G, fun us G1 => match us with | [x] => (match x with | .int j => -(2 ^ 62) <= j /\ j < 2 ^ 62 /\ Q (rngU 0 j.toNat) (fun _ => True) G1 | _ => False) | _ => False, E, hς, hG, h, fun us vs G1 H1 rs hG1 f1 h1 => ?_, lx⟩
  dsimp only at h1
  split at h1
  · obtain ⟨v, rfl, r⟩ := rs.one
    split at h1
    · cases r
      exact ⟨_, rfl, h1.1, h1.2.1, lv _ _ G1 H1 _ hG1 f1 (jhE 0 _) h1.2.2⟩
    · exact h1.elim
  · exact h1.elim
theorem RKs.len {κ:Type}{K:Yac}{H:Hp}:∀ {kvs:List (κ×U)} {l:List (κ×V)},RKs K H kvs l->kvs.length=l.length
 | [],_,h=>by cases h; rfl
 | (_,_)::_,_,h=>by
  obtain ⟨v,l',rfl,_,rs⟩:=h
  simp [RKs.len rs]
theorem RKs.key {κ:Type}{K:Yac}{H:Hp}:∀ {kvs:List (κ×U)} {l:List (κ×V)} {i:Nat} {p:κ×V},RKs K H kvs l->l[i]?=some p->∃ u,kvs[i]?=some (p.1,u)
 | [],_,_,_,h,e=>by cases h; simp at e
 | (_,_)::_,_,0,_,h,e=>by
  obtain ⟨v,l',rfl,_,rs⟩:=h
  simp at e; subst e
  exact ⟨_,rfl⟩
 | (_,_)::_,_,i + 1,_,h,e=>by
  obtain ⟨v,l',rfl,_,rs⟩:=h
  simp at e
  simpa using RKs.key rs e
theorem RUs.keys {K:Yac}{H:Hp}:∀ (ks:List Key),RUs K H (ks.map Ku) (ks.map kV)
 | []=>rfl
 | k::ks=>⟨kV k,ks.map kV,rfl,by cases k <;> rfl,RUs.keys ks⟩
theorem u_dk {l:Expr}(hl:PE X l (lE X te)):PI X tg l (lI X fun ς G Q E=>te ς G (fun x G1=>jfL x G1 Q) E):=by
 refine (jnE hl).imp fun σ H R h=>?_
 obtain ⟨ς,G,Q,E,hς,hG,h,lv,lx⟩:=h
 refine ⟨ς,G,_,E,hς,hG,h,fun x v G1 H1 rx hG1 f1 h1=>?_,lx⟩
 dsimp only at h1
 unfold jfL at h1
 split at h1
 ·cases rx
  rename_i a
  split at h1
  ·rename_i kvs g
   obtain ⟨l,e,rk⟩:=hG1 _ _ g
   refine ⟨a,l,rfl,e,fun o=>?_⟩
   have hG2:HR X.K (upd H1 a (.frz o (.dT l))) (gup G1 a (.frd o kvs)):=hG1.write g ⟨l,jaf,rk.ts (TS.write hG1 g)⟩
   refine lv _ _ _ _ _ hG2 (f1.trans (Fr.write g)) (fun i H' G' f hr ok=>?_) (h1 o _ ⟨rfl⟩)
   obtain ⟨l',e',rk'⟩:=hr _ _ ok
   refine ⟨fun u eu=>?_,fun z=>⟨l',e',by rw [z,Yai,rk'.len]; exact Yak _⟩⟩
   have hi:i < l'.length:=by
    have:=(List.getElem?_eq_some_iff.mp eu).1
    rw [Yai,rk'.len] at this
    exact this
   refine ⟨⟨l',e',hi⟩,fun v H'' y=>?_⟩
   obtain ⟨rfl,l2,k,v2,b,e2,ek,rfl,eb⟩:=y
   rw [e'] at e2
   cases e2
   obtain ⟨u2,eu2⟩:=rk'.key ek
   rw [YaE,eu2] at eu
   cases eu
   exact ⟨⟨b,_,rfl,eb,RUs.keys k⟩,hr,Fr.refl _ _⟩
  ·exact h1.elim
 ·exact h1.elim
theorem SR.set {K:Yac}{H:Hp}{ς:Sg}{σ:St}{u:U}{v:V}(h:SR K H ς σ)(r:RU K H u v)(i:Nat):SR K H (ς.set i (some u)) (σ.set i (some v)):=by
 refine ⟨by simp [h.1],fun j w e=>?_⟩
 by_cases hj:j=i
 ·subst hj
  by_cases hl:j < ς.length
  ·rw [YbS hl] at e
   cases e
   exact ⟨v,YbS (by rw [<- h.1]; exact hl),r⟩
  ·rw [YdK (by simp; omega)] at e
   cases e
 ·rw [YbC (Ne.symm hj)] at e ⊢
  exact h.2 j w e
theorem u_tn {i:Nat}{x:Str}(hN:X.N.Nodup)(hi:X.N[i]?=some x)(hx:Loc X.env.scope x)(hf:X.fn x=true\/X.env.scope.names.lookup x=some .local):PG X (.Name x pos) (lG X.K (tgU (.n i))):=by
 refine (jeH hN hi hx hf).imp fun v σ H Q h=>?_
 obtain ⟨u,ς,k,r,hς,h,q⟩:=h
 exact q _ _ (hς.set r i) h
theorem u_tt {es:List Expr}{k n:Nat}{ts:Tgs}(hc:X.calm=true)(h:PGs X es (lGs X.K (tgsU ts)))(hn:(YbH es X.env).length=n)(hst:(YbH es X.env).findIdx? (·.1)=none)(hl:∀ us ς k,tgsU ts us ς k->us.length=n) :
  PG X (.Tuple es k pos) (lG X.K (tgU (.t ts))):=by
 refine (jlo hc h hn hst).imp fun v σ H Q h=>?_
 obtain ⟨u,ς,k,r,hς,h,q⟩:=h
 cases u with
 | tup us=>
  obtain ⟨a,vs,rfl,e,rs⟩:=r
  have h':tgsU ts us ς k:=h
  exact ⟨a,vs,rfl,.of e,by rw [<- rs.length]; exact hl _ _ _ h',us,ς,k,rs,hς,h',q⟩
 | _=>exact h.elim
theorem jm3:PGs X [] (lGs X.K (tgsU .nil)):=by
 refine jjL.imp fun vs σ H Q h=>?_
 obtain ⟨us,ς,k,r,hς,h,q⟩:=h
 obtain ⟨rfl,h⟩:=h
 cases r
 exact ⟨rfl,q _ _ hς h⟩
theorem jm4 {e:Expr}{es:List Expr}{t:Tg}{ts:Tgs}(h1:PG X e (lG X.K (tgU t)))(h2:PGs X es (lGs X.K (tgsU ts)))(hs:(YbH (e::es) X.env).map (·.2)=assign e X.env::(YbH es X.env).map (·.2)) :
  PGs X (e::es) (lGs X.K (tgsU (.cons t ts))):=by
 refine (jhQ h1 h2 hs).imp fun vs σ H Q h=>?_
 obtain ⟨us,ς,k,r,hς,h,q⟩:=h
 cases us with
 | nil=>exact h.elim
 | cons u us=>
  obtain ⟨v,vr,rfl,r1,rs⟩:=r
  exact ⟨v,vr,rfl,u,ς,_,r1,hς,h,fun ς' σ' hs' h'=>⟨us,ς',k,rs,hs',h',q⟩⟩
end
noncomputable def lE0 (K:Yac)(t:UE):TE:=fun τ H Q0=>∃ ς G Q,SR K H ς τ/\HR K H G/\t ς G Q (fun _ _=>False)/\∀ w v G' H',RU K H' w v->HR K H' G'->Fr H G H' G'->Q w G'->Q0 v H'
noncomputable def lT0 (K:Yac)(t:Sg->Gp->(Bool->Gp->Prop)->Prop):TT:=fun τ H Q0=>∃ ς G Q,SR K H ς τ/\HR K H G/\t ς G Q/\∀ b G' H',HR K H' G'->Fr H G H' G'->Q b G'->Q0 b H'
theorem LX.no {X:Cx}{σ:St}{H:Hp}{G:Gp}:LX X σ H G fun _ _=>False:=fun _ _ _ _ _ _ _ _ _ _ h=>h.elim
theorem lE0.of {X:Cx}{e:Expr}{t:UE}(h:PE X e (lE X t)):PE X e (lE0 X.K t):=h.imp fun σ H Q0 ⟨ς,G,Q,h1,h2,h3,h4⟩=>⟨ς,G,Q,_,h1,h2,h3,h4,LX.no⟩
theorem lT0.of {X:Cx}{e:Expr}{t:UT}(h:PT X e (lT X t)):PT X e (lT0 X.K fun ς G Q=>t ς G Q fun _ _=>False):=h.imp fun σ H Q0 ⟨ς,G,Q,h1,h2,h3,h4⟩=>⟨ς,G,Q,_,h1,h2,h3,h4,LX.no⟩
mutual
noncomputable def tgS:Tg->List Nat
 | .n i=>[i]
 | .t ts=>tgsS ts
noncomputable def tgsS:Tgs->List Nat
 | .nil=>[]
 | .cons t ts=>tgS t++tgsS ts
end
noncomputable def Ext (ς0 ς:Sg):Prop:=ς0.length=ς.length/\∀ (j:Nat) (w:U),ς0[j]?=some (some w)->ς[j]?=some (some w)
mutual
theorem jis {ς0:Sg}:∀ {t:Tg} {u:U} {ς:Sg} {k:Sg->Prop},(∀ i∈tgS t,∀ w,ς0[i]?≠some (some w))->Ext ς0 ς->tgU t u ς k->tgU t u ς fun ς'=>k ς'/\Ext ς0 ς'
 | .n i,u,ς,k,hf,he,h=>by
  refine ⟨h,by simp [he.1],fun j w e=>?_⟩
  have hj:j≠i:=fun z=>hf i (by simp [tgS]) w (z ▸ e)
  rw [YbC (Ne.symm hj)]
  exact he.2 j w e
 | .t ts,u,ς,k,hf,he,h=>by
  cases u with
  | tup us=>exact jgl (ts:=ts) (us:=us) (fun i hi=>hf i hi) he h
  | _=>exact h
theorem jgl {ς0:Sg}:∀ {ts:Tgs} {us:List U} {ς:Sg} {k:Sg->Prop},(∀ i∈tgsS ts,∀ w,ς0[i]?≠some (some w))->Ext ς0 ς->tgsU ts us ς k->tgsU ts us ς fun ς'=>k ς'/\Ext ς0 ς'
 | .nil,us,ς,k,_,he,h=>⟨h.1,h.2,he⟩
 | .cons t ts,us,ς,k,hf,he,h=>by
  cases us with
  | nil=>exact h
  | cons u r=>
   have:=jis (t:=t) (u:=u) (fun i hi=>hf i (by simp [tgsS,hi])) he h
   refine jcv this fun ς' ⟨h1,h2⟩=>jgl (fun i hi=>hf i (by simp [tgsS,hi])) h2 h1
theorem jcv:∀ {t:Tg} {u:U} {ς:Sg} {k k':Sg->Prop},tgU t u ς k->(∀ ς,k ς->k' ς)->tgU t u ς k'
 | .n _,_,_,_,_,h,i=>i _ h
 | .t ts,u,ς,_,_,h,i=>by
  cases u with
  | tup us=>exact jfg (ts:=ts) (us:=us) h i
  | _=>exact h
theorem jfg:∀ {ts:Tgs} {us:List U} {ς:Sg} {k k':Sg->Prop},tgsU ts us ς k->(∀ ς,k ς->k' ς)->tgsU ts us ς k'
 | .nil,_,_,_,_,h,i=>⟨h.1,i _ h.2⟩
 | .cons t ts,us,ς,_,_,h,i=>by
  cases us with
  | nil=>exact h
  | cons u r=>exact jcv (t:=t) h fun ς' h'=>jfg h' i
end
theorem SR.ext {K:Yac}{H:Hp}{ς0 ς:Sg}{σ:St}(h:SR K H ς σ)(e:Ext ς0 ς):SR K H ς0 σ:=⟨e.1.trans h.1,fun i u q=>h.2 i u (e.2 i u q)⟩
theorem SR.pick {K:Yac}{H:Hp}{ς:Sg}{σ:St}(h:SR K H ς σ)(pick:List (Option Nat)):SR K H (jbA pick ς) (pick.map fun o=>o.bind fun j=>(σ[j]?).join):=by
 refine ⟨by simp [jbA],fun i u e=>?_⟩
 unfold jbA at e
 rw [YaE] at e ⊢
 cases q:pick[i]? with
 | none=>rw [q] at e; cases e
 | some o=>
  rw [q] at e
  cases o with
  | none=>simp at e
  | some j=>
   simp only [Option.map_some,Option.bind_some,Ycl.injEq] at e ⊢
   have e':ς[j]?=some (some u):=by
    cases z:ς[j]? with
    | none=>rw [z] at e; cases e
    | some w=>rw [z] at e; simp at e; rw [e]
   obtain ⟨v,ev,r⟩:=h.2 j u e'
   exact ⟨v,by rw [ev]; rfl,r⟩
section
variable {K:Yac}{H:Hp}{G:Gp}
theorem HR.newH (h:HR K H G){p:Addr}{o:HO}(e:H p=none):HR K (upd H p o) G:=fun a ob q=>by
 have m:=h a ob q
 obtain ⟨ho,e2⟩:=m.there
 exact m.keep (jab (jag e2 e)) (TS.new e)
theorem TS.hid {p:Addr}{ys:List V}{o:HO}(e:H p=some (.lst ys)):TS H (upd H p o):=fun a xs h=>by
 have:a≠p:=fun z=>by subst z; rw [e] at h; cases h
 rw [jab this]; exact h
theorem HR.hid (h:HR K H G){p:Addr}{ys:List V}{o:HO}(e:H p=some (.lst ys))(g:G p=none):HR K (upd H p o) G:=fun a ob q=>by
 have:a≠p:=fun z=>by subst z; rw [g] at q; cases q
 exact (h a ob q).keep (jab this) (TS.hid e)
theorem HR.know (h:HR K H G){p:Addr}{ys:List V}{us:List U}(e:H p=some (.lst ys))(r:RUs K H us ys):HR K H (gup G p (.lst us)):=fun a ob q=>by
 by_cases z:a=p
 ·subst z
  rw [jap] at q
  cases q
  exact ⟨ys,e,r⟩
 ·rw [jbh z] at q
  exact h a ob q
end
section
variable {X:Cx}{pick:List (Option Nat)}{ti:UI}{t:Tg}{tc:Sg->Gp->(Bool->Gp->Prop)->Prop}{te:UE}{σ:St}{H:Hp}{Q0:VK}
noncomputable abbrev lcD (pick : List (Option Nat))(ti : UI)(t : Tg)(tc : Sg -> Gp -> (Bool -> Gp -> Prop) -> Prop)(te : UE) : UE := fun ς G Q E => ti ς G (fun xs ok G1 => xs.length <= Yan /\ jcP ok (fun x G2 k => tgU t x (jbA pick ς) fun τ => tc τ G2 (fun b G3 => if b = true then te τ G3 (fun u G4 => k (some u) G4) (fun _ _ => False) else k none G3)) xs [] G1
      fun us G5 => newO G5 (.lst us) Q) E
noncomputable def FrX (D:Addr)(H:Hp)(G:Gp)(H':Hp)(G':Gp):Prop:=∀ a o,a≠D->H a=some o->G a=none->H' a=some o/\G' a=none
theorem jlX {xs:List U}{ok:Gp->Prop}{G1:Gp}{H1:Hp}{J:L2.It}{τu:Sg}{τ0:St}{D:Addr}{acc0:List U}{ys0:List V}{kk:List U->Gp->Prop}{QQ:St->List V->Hp->Prop}
  (free:∀ i∈tgS t,∀ w,τu[i]?≠some (some w)) (wk:je4 X.K J H1 G1 xs ok) (hG1:HR X.K H1 G1) (eD1:H1 D=some (.lst ys0)) (gD1:G1 D=none) (ra1:RUs X.K H1 acc0 ys0) (sr1:SR X.K H1 τu τ0) (hl:acc0.length + xs.length<=Yan)
  (h1:jcP ok (fun x G2 k=>tgU t x τu fun τ=>tc τ G2 (fun b G3=>if b=true then te τ G3 (fun u G4=>k (some u) G4) (fun _ _=>False) else k none G3)) xs acc0 G1 kk)
  (fin:∀ τ' acc' ys' G' H',SR X.K H' τu τ'->HR X.K H' G'->FrX D H1 G1 H' G'->H' D=some (.lst ys')->G' D=none->RUs X.K H' acc' ys'->kk acc' G'->QQ τ' ys' H') :
  jho J (lG X.K (tgU t)) (lT0 X.K tc) (emA (lE0 X.K te) D) QQ τ0 ys0 H1:=by
 refine ⟨fun i m τ ys H'=>m=xs.length - i/\i<=xs.length/\∃ acc G',SR X.K H' τu τ/\HR X.K H' G'/\FrX D H1 G1 H' G'/\H' D=some (.lst ys)/\G' D=none/\RUs X.K H' acc ys/\acc.length<=acc0.length + i/\
  jcP ok (fun x G2 k=>tgU t x τu fun τ=>tc τ G2 (fun b G3=>if b=true then te τ G3 (fun u G4=>k (some u) G4) (fun _ _=>False) else k none G3)) (xs.drop i) acc G' kk,⟨xs.length,by simp,YbA _,acc0,G1,sr1,hG1,fun _ _ _ a b=>⟨a,b⟩,eD1,gD1,ra1,by omega,by simpa using h1⟩,?_⟩
 rintro i m τ ys H' ⟨rfl,hi,acc,G',sr,hr,f,eD,gD',ra,hal,hc⟩
 have ts:TS H1 H':=fun a zs e=>(f a _ (fun z=>by rw [z,eD1] at e; cases e) e (hG1.tupNone e)).1
 by_cases hlt:i < xs.length
 ·rw [YaY hlt] at hc
  obtain ⟨hok,hb⟩:=hc
  obtain ⟨w1,_⟩:=wk i H' G' ts hr hok
  obtain ⟨go,yl⟩:=w1 xs[i] (by simp [hlt])
  refine .inr ⟨go,fun v H'' y=>?_⟩
  obtain ⟨rx,hr2,f2⟩:=yl v H'' y
  have sr2:=sr.ts (f2.ts hr)
  refine ⟨xs[i],τu,_,rx,sr2,jis free ⟨rfl,fun _ _ e=>e⟩ hb,fun τv σ' hs' ⟨hk,he⟩=>?_⟩
  refine ⟨τv,G',_,hs',hr2,hk,fun b G3 H3 hr3 f3 h3=>?_⟩
  have f13:FrX D H1 G1 H3 G3:=fun a o n h g=>let ⟨a1,a2⟩:=f a o n h g; let ⟨b1,b2⟩:=f2 a o a1 a2; f3 a o b1 b2
  have hs3:SR X.K H3 τu σ':=(hs'.ext he).ts (f3.ts hr2)
  obtain ⟨eD2,gD2⟩:=f2 D _ eD gD'
  obtain ⟨eD3,gD3⟩:=f3 D _ eD2 gD2
  have ra3:=(ra.ts (f2.ts hr)).ts (f3.ts hr2)
  cases b with
  | false=>
   rw [if_neg Yas] at h3
   dsimp only
   rw [if_neg Yas]
   exact ⟨xs.length - (i + 1),by omega,rfl,hlt,acc,G3,hs3,hr3,f13,eD3,gD3,ra3,by omega,h3⟩
  | true=>
   rw [if_pos rfl] at h3
   dsimp only
   rw [if_pos rfl]
   refine ⟨τv,G3,_,hs'.ts (f3.ts hr2),hr3,h3,fun u v G4 H4 ru hr4 f4 h4=>?_⟩
   obtain ⟨eD4,gD4⟩:=f4 D _ eD3 gD3
   have ra4:=ra3.ts (f4.ts hr3)
   have tsn:=TS.hid (o:=.lst (ys++[v])) eD4
   refine ⟨eD4,by rw [<- ra.length]; omega,xs.length - (i + 1),by omega,rfl,hlt,acc++[u],G4,(hs3.ts (f4.ts hr3)).ts tsn,hr4.hid eD4 gD4,?_,jaf,gD4,(ra4.append (RUs.mk (us:=[]) (vs:=[]) ru rfl)).ts tsn,by simp; omega,h4⟩
   intro a o n ha ga
   obtain ⟨x1,x2⟩:=f13 a o n ha ga
   obtain ⟨y1,y2⟩:=f4 a o x1 x2
   exact ⟨by rw [jab n]; exact y1,y2⟩
 ·have e:i=xs.length:=by omega
  subst e
  rw [Yep] at hc
  obtain ⟨hok,q⟩:=hc
  obtain ⟨_,w2⟩:=wk xs.length H' G' ts hr hok
  exact .inl ⟨w2 rfl,fin τ acc ys G' H' sr hr f eD gD' ra q⟩
theorem jgA {is:List Nat}(hp:is.all (fun i=>(pick[i]?).join.isNone)=true)(ς:Sg):∀ i∈is,∀ w,(jbA pick ς)[i]?≠some (some w):=fun i hi w e=>by
 have:=List.all_eq_true.mp hp i hi
 unfold jbA at e
 rw [YaE] at e
 cases q:pick[i]? with
 | none=>rw [q] at e; cases e
 | some o=>
  rw [q] at e this
  cases o with
  | none=>simp at e
  | some j=>simp at this
theorem jiN (hp:(tgS t).all (fun i=>(pick[i]?).join.isNone)=true)(h:lE X (lcD pick ti t tc te) σ H Q0):tLc pick (lI X ti) (lG X.K (tgU t)) (lT0 X.K tc) (lE0 X.K te) σ H Q0:=by
 obtain ⟨ς,G,Q,E,hς,hG,h,lv,lx⟩:=h
 refine ⟨ς,G,_,E,hς,hG,h,fun xs ok G1 H1 J hG1 f1 wk h1=>?_,lx⟩
 obtain ⟨hl,h1⟩:=h1
 intro D hD
 refine jlX (acc0:=[]) (jgA hp ς) (wk.mono (TS.new hD)) (hG1.newH hD) jaf (hG1.nope hD) rfl (((hς.ts (f1.ts hG)).ts (TS.new hD)).pick pick) (by simpa using hl) h1 fun τ' acc' ys' G' H' sr hr f eD gD' ra q=>?_
 refine lv (.loc D) (.ref D) _ H' rfl (hr.know eD ra) ?_ (q.at D gD')
 intro a o ha ga
 obtain ⟨x1,x2⟩:=f1 a o ha ga
 obtain ⟨y1,y2⟩:=f a o (jag x1 hD) (by rw [jab (jag x1 hD)]; exact x1) x2
 exact ⟨y1,by rw [jbh (jag x1 hD)]; exact y2⟩
noncomputable def lI0 (K:Yac)(t:UI):TI:=fun σ H R=>∃ ς G Q,SR K H ς σ/\HR K H G/\t ς G Q (fun _ _=>False)/\∀ xs ok G' H' J,HR K H' G'->Fr H G H' G'->je4 K J H' G' xs ok->Q xs ok G'->R J H'
mutual
theorem jjg {is:List Nat}:∀ {t:Tg} {u:U} {ς:Sg} {k:Sg->Prop},(∀ i∈is,i∉tgS t)->(∀ i∈is,∀ w,ς[i]?≠some (some w))->tgU t u ς k->tgU t u ς fun ς'=>k ς'/\∀ i∈is,∀ w,ς'[i]?≠some (some w)
 | .n j,u,ς,k,hf,he,h=>by
  refine ⟨h,fun i hi w e=>?_⟩
  have hj:i≠j:=fun z=>hf i hi (by simp [tgS,z])
  rw [YbC (Ne.symm hj)] at e
  exact he i hi w e
 | .t ts,u,ς,k,hf,he,h=>by
  cases u with
  | tup us=>exact jfh (ts:=ts) (us:=us) (fun i hi=>hf i hi) he h
  | _=>exact h
theorem jfh {is:List Nat}:∀ {ts:Tgs} {us:List U} {ς:Sg} {k:Sg->Prop},(∀ i∈is,i∉tgsS ts)->(∀ i∈is,∀ w,ς[i]?≠some (some w))->tgsU ts us ς k->tgsU ts us ς fun ς'=>k ς'/\∀ i∈is,∀ w,ς'[i]?≠some (some w)
 | .nil,us,ς,k,_,he,h=>⟨h.1,h.2,he⟩
 | .cons t ts,us,ς,k,hf,he,h=>by
  cases us with
  | nil=>exact h
  | cons u r=>
   have:=jjg (t:=t) (u:=u) (fun i hi z=>hf i hi (by simp [tgsS,z])) he h
   refine jcv this fun ς' ⟨h1,h2⟩=>jfh (fun i hi z=>hf i hi (by simp [tgsS,z])) h2 h1
end
variable {tg iter elt:Expr}{ifs:List Expr}{pos:Pos}{N:List Str}{scope:Scope}
theorem u_lc (hc:X.calm=true)(S:CScope X N pick scope)(hw:PI X tg iter (lI X ti))(hp:(tgS t).all (fun i=>(pick[i]?).join.isNone)=true)
  (hg:∀ cl C s₀ H₀ fp,PG (jai X N scope cl C s₀ H₀ fp) tg (lG X.K (tgU t))) (hi:∀ cl C s₀ H₀ fp,PIfs (jai X N scope cl C s₀ H₀ fp) ifs (lT0 X.K tc)) (he:∀ cl C s₀ H₀ fp,PE (jai X N scope cl C s₀ H₀ fp) elt (lE0 X.K te))
  (hs:∀ x,Ybv iter X.env x=pure x):PE X (.ListComp elt [⟨tg,iter,ifs,0⟩] scope pos) (lE X (lcD pick ti t tc te)):=
 (jnI hc S hw hg hi he hs).imp fun _ _ _ h=>jiN hp h
end
section
variable {X:Cx}{e:Expr}{te ta tb:UE}{p pos:Pos}
theorem jnb (hg:Gl X "list")(hm:X.mg "list" = none)(ha:PE X e (lE X te))(he:YaM [e] X.env=[(false,eval e X.env)]) :
  PE X (.Call (.Name "list" p) [e] [] pos) (lE X fun ς G Q E=>te ς G (fun x G1=>itU x G1 fun xs _=>newO G1 (.lst xs) Q) E):=by
 refine (jcy (jej (X:=X)) hg hm PyProof.Rows.boot_list (jdM ha jgi he) (by decide) (by decide) he rfl).imp fun σ H Q0 h=>?_
 obtain ⟨ς,G,Q,E,hς,hG,h,lv,lx⟩:=h
 refine ⟨ς,G,fun us G1=>match us with | [x]=>(itU x G1 fun xs _=>newO G1 (.lst xs) Q) | _=>False,E,hς,hG,h,fun us vs G1 H1 rs hG1 f1 h1=>?_,lx⟩
 dsimp only at h1
 split at h1
 ·obtain ⟨v,rfl,r⟩:=rs.one
  unfold itU at h1
  split at h1
  ·obtain ⟨a,ws,rfl,ea,rr⟩:=r
   exact ⟨a,ws,rfl,.inr (.of ea),fun l hl=>(lv.fr f1).lst hl rr hG1 h1⟩
  ·cases r
   split at h1
   ·rename_i us eu
    obtain ⟨ws,sq,rr⟩:=hG1.ls eu
    exact ⟨_,ws,rfl,.inl sq,fun l hl=>(lv.fr f1).lst hl rr hG1 h1⟩
   ·exact h1.elim
  ·exact h1.elim
 ·exact h1.elim
theorem jna (hg:Gl X "tuple")(hm:X.mg "tuple" = none)(ha:PE X e (lE X te))(he:YaM [e] X.env=[(false,eval e X.env)]) :
  PE X (.Call (.Name "tuple" p) [e] [] pos) (lE X fun ς G Q E=>te ς G (fun x G1=>itU x G1 fun xs _=>Q (.tup xs) G1) E):=by
 refine (jcy (jdH (X:=X)) hg hm PyProof.Rows.boot_tuple (jdM ha jgi he) (by decide) (by decide) he rfl).imp fun σ H Q0 h=>?_
 obtain ⟨ς,G,Q,E,hς,hG,h,lv,lx⟩:=h
 refine ⟨ς,G,fun us G1=>match us with | [x]=>(itU x G1 fun xs _=>Q (.tup xs) G1) | _=>False,E,hς,hG,h,fun us vs G1 H1 rs hG1 f1 h1=>?_,lx⟩
 dsimp only at h1
 split at h1
 ·obtain ⟨v,rfl,r⟩:=rs.one
  unfold itU at h1
  split at h1
  ·obtain ⟨a,ws,rfl,ea,rr⟩:=r
   exact ⟨a,ws,rfl,.inr ⟨.of ea,(lv.fr f1).here (w:=.tup _) ⟨a,ws,rfl,ea,rr⟩ hG1 h1⟩⟩
  ·cases r
   split at h1
   ·rename_i us eu
    obtain ⟨ws,sq,rr⟩:=hG1.ls eu
    exact ⟨_,ws,rfl,.inl ⟨sq,fun l hl=>(lv.fr f1).tup hl rr hG1 h1⟩⟩
   ·exact h1.elim
  ·exact h1.elim
 ·exact h1.elim
theorem jju {K:Yac}{H:Hp}(i:Int)(n:Nat):RUs K H (rngU i n) ((YaV n).map fun k:Nat=>V.int (i + (k:Int))):=by
 unfold rngU
 induction (YaV n) with
 | nil=>rfl
 | cons a r ih=>exact ⟨_,_,rfl,rfl,ih⟩
theorem jkM {p2 pos2:Pos}{a:Expr}(hc:X.calm=true)(hgl:Gl X "list")(hml:X.mg "list" = none)(hgr:Gl X "range")(hmr:X.mg "range" = none)(ha:PE X a (lE X ta))(hs:YaM [a] X.env=[(false,eval a X.env)])
  (hs2:YaM [.Call (.Name "range" p2) [a] [] pos2] X.env=[(false,eval (.Call (.Name "range" p2) [a] [] pos2) X.env)]) :
  PE X (.Call (.Name "list" p) [.Call (.Name "range" p2) [a] [] pos2] [] pos) (lE X fun ς G Q E=>ta ς G (fun x G1=>match x with
   | .int j=>0<=j/\j<=1000000/\newO G1 (.lst (rngU 0 j.toNat)) Q
   | _=>False) E):=by
 refine (jdW hc hgl hml hgr hmr (jdM ha jgi hs) hs hs2).imp fun σ H Q0 h=>?_
 obtain ⟨ς,G,Q,E,hς,hG,h,lv,lx⟩:=h
 refine ⟨ς,G,fun us G1=>match us with | [x]=>(match x with | .int j=>0<=j/\j<=1000000/\newO G1 (.lst (rngU 0 j.toNat)) Q | _=>False) | _=>False,E,hς,hG,h,fun us vs G1 H1 rs hG1 f1 h1=>?_,lx⟩
 dsimp only at h1
 split at h1
 ·obtain ⟨v,rfl,r⟩:=rs.one
  split at h1
  ·rename_i j
   cases r
   refine ⟨_,rfl,h1.1,h1.2.1,fun l hl=>?_⟩
   have:=jju (K:=X.K) (H:=H1) 0 j.toNat
   simp only [Int.zero_add] at this
   exact (lv.fr f1).lst hl this hG1 h1.2.2
  ·exact h1.elim
 ·exact h1.elim
theorem jkQ:PE X (.Dict [] [] pos) (lE X fun _ G Q _=>newO G (.dT []) Q):=by
 refine jhT.imp fun σ H Q0 h p hp=>?_
 obtain ⟨ς,G,Q,E,hς,hG,h,lv,lx⟩:=h
 exact lv (.loc p) (.ref p) _ _ rfl (hG.newO (mo:=.dT []) hp ⟨[],jaf,rfl⟩) (Fr.newO hp) (h.at p (hG.nope hp))
theorem jkR:PE X (.Dict [] [] pos) (lE X fun _ G Q _=>newO G (.dK []) Q):=by
 refine jhU.imp fun σ H Q0 h p hp=>?_
 obtain ⟨ς,G,Q,E,hς,hG,h,lv,lx⟩:=h
 exact lv (.loc p) (.ref p) _ _ rfl (hG.newO (mo:=.dK []) hp ⟨[],jaf,rfl⟩) (Fr.newO hp) (h.at p (hG.nope hp))
theorem RKs.put {κ:Type}[DecidableEq κ]{K:Yac}{H:Hp}{k:κ}{u:U}{v:V}(r:RU K H u v):∀ {kvs:List (κ×U)} {l:List (κ×V)},RKs K H kvs l->RKs K H (dPut kvs k u) (putK l k v):=by
 intro kvs l h
 have any:∀ {kvs:List (κ×U)} {l:List (κ×V)},RKs K H kvs l->(kvs.any fun kv=>decide (kv.1=k))=l.any fun kv=>decide (kv.1=k):=by
  intro kvs
  induction kvs with
  | nil=>intro l h; cases h; rfl
  | cons p q ih=>intro l h; obtain ⟨w,l',rfl,_,rs⟩:=h; simp only [YbY]; rw [ih rs]
 have repl:∀ {kvs:List (κ×U)} {l:List (κ×V)},RKs K H kvs l->RKs K H (kvs.map fun kv=>if kv.1=k then (kv.1,u) else kv) (l.map fun kv=>if kv.1=k then (kv.1,v) else kv):=by
  intro kvs
  induction kvs with
  | nil=>intro l h; cases h; rfl
  | cons p q ih=>
   intro l h
   obtain ⟨k',u'⟩:=p
   obtain ⟨w,l',rfl,rw',rs⟩:=h
   simp only [Ya4]
   by_cases e:k'=k
   ·rw [if_pos e,if_pos e]; exact ⟨v,_,rfl,r,ih rs⟩
   ·rw [if_neg e,if_neg e]; exact ⟨w,_,rfl,rw',ih rs⟩
 have snoc:∀ {kvs:List (κ×U)} {l:List (κ×V)},RKs K H kvs l->RKs K H (kvs++[(k,u)]) (l++[(k,v)]):=by
  intro kvs
  induction kvs with
  | nil=>intro l h; cases h; exact ⟨v,[],rfl,r,rfl⟩
  | cons p q ih=>intro l h; obtain ⟨k',u'⟩:=p; obtain ⟨w,l',rfl,rw',rs⟩:=h; exact ⟨w,_,rfl,rw',ih rs⟩
 unfold dPut putK
 rw [any h]
 split
 ·exact repl h
 ·exact snoc h
theorem RKs.length {κ:Type}{K:Yac}{H:Hp}:∀ {kvs:List (κ×U)} {l:List (κ×V)},RKs K H kvs l->kvs.length=l.length
 | [],_,h=>by cases h; rfl
 | (_,_)::_,_,h=>by obtain ⟨v,l',rfl,_,rs⟩:=h; simp [rs.length]
theorem RKs.merge {K:Yac}{H:Hp}:∀ {more:List (Key×U)} {m:List (Key×V)},RKs K H more m->∀ {kvs:List (Key×U)} {l:List (Key×V)},RKs K H kvs l->RKs K H (more.foldl (fun acc kv=>dPut acc kv.1 kv.2) kvs) (jcD l m)
 | [],_,h,_,_,h'=>by cases h; exact h'
 | (k,u)::more,_,h,_,_,h'=>by
  obtain ⟨v,l',rfl,r,rs⟩:=h
  exact RKs.merge rs (h'.put r)
noncomputable def lD (X:Cx)(t:Sg->Gp->(List (Key×U)->Gp->Prop)->KX->Prop)(trs:List (TE×TE)):Prop:=
 ∀ σ H ς G Q E (Q0:List (V×V)->Hp->Prop),SR X.K H ς σ->HR X.K H G->t ς G Q E->LX X σ H G E->
  (∀ kvs (l:List (Key×V)) G' H',RKs X.K H' kvs l->HR X.K H' G'->Fr H G H' G'->Q kvs G'->Q0 (l.map fun kv=>(kV kv.1,kv.2)) H')->jfj trs σ H Q0
theorem jne {keys:List (Option Expr)}{values:List Expr}{trs:List (TE×TE)}{t:Sg->Gp->(List (Key×U)->Gp->Prop)->KX->Prop}(hp:PPs X pos keys values trs)(hd:lD X t trs)(hall:keys.all (·.isSome)=true)(hl:keys.length=values.length)(h0:keys≠[])
  (h15:keys.length<=15):PE X (.Dict keys values pos) (lE X fun ς G Q E=>t ς G (fun kvs G1=>kvs.length<=15/\newO G1 (.dK (jcN kvs)) Q) E):=by
 refine (jjP hp hall hl h0 h15).imp fun σ H Q0 h p hp=>?_
 obtain ⟨ς,G,Q,E,hς,hG,h,lv,lx⟩:=h
 have gp:=hG.nope hp
 refine hd σ _ ς G _ E _ (hς.ts (TS.new hp)) (hG.newH hp) h (lx.fr (Fr.new hp)) fun kvs l G' H' r hG' f q=>?_
 obtain ⟨e,g⟩:=f p _ jaf gp
 refine ⟨e,l,rfl,by rw [<- r.length]; exact q.1,?_⟩
 have ts:TS H' (upd H' p (.dK (jcD [] l))):=fun a xs h=>by
  have:a≠p:=fun z=>by subst z; rw [e] at h; cases h
  rw [jab this]; exact h
 refine lv (.loc p) (.ref p) (gup G' p (.dK (jcN kvs))) _ rfl (fun a ob z=>?_) (fun a o ha ga=>?_) (q.2.at p g)
 ·by_cases ea:a=p
  ·subst ea
   rw [jap] at z
   cases z
   exact ⟨_,jaf,(RKs.merge r (kvs:=[]) (l:=[]) rfl).ts ts⟩
  ·rw [jbh ea] at z
   exact (hG' a ob z).keep (jab ea) ts
 ·have ea:a≠p:=jag ha hp
  obtain ⟨x1,x2⟩:=f a o (by rw [jab ea]; exact ha) ga
  exact ⟨by rw [jab ea]; exact x1,by rw [jbh ea]; exact x2⟩
theorem jlY:lD X (fun _ G Q _=>Q [] G) []:=fun σ H ς G Q E Q0 hς hG h lx q=>q [] [] G H rfl hG (Fr.refl _ _) h
theorem jkc {tk tv : UE}{t : Sg -> Gp -> (List (Key × U) -> Gp -> Prop) -> KX -> Prop}{trs : List (TE × TE)}(hr : lD X t trs) : lD X (fun ς G Q E => tk ς G (fun x G1 => tv ς G1 (fun y G2 => match kU x with
      | some k => t ς G2 (fun kvs G3 => Q ((k, y) :: kvs) G3) E
      | none => False) E) E) ((lE X tk, lE X tv) :: trs) := by
  intro σ H ς G Q E Q0 hς hG h lx q
  refine ⟨ς, G, _, E, hς, hG, h, fun x v G1 H1 rx hG1 f1 h1 => ?_, lx⟩
  refine ⟨ς, G1, _, E, hς.ts (f1.ts hG), hG1, h1, fun y v' G2 H2 ry hG2 f2 h2 => ?_, lx.fr f1⟩
  dsimp only at h2
  split at h2
  · rename_i k ek
    have := jgU rx ek
    subst this
    refine hr σ H2 ς G2 _ E _ ((hς.ts (f1.ts hG)).ts (f2.ts hG1)) hG2 h2 (lx.fr (f1.trans f2)) fun kvs l G3 H3 r hG3 f3 h3 => ?_
    exact q ((k, y) :: kvs) ((k, v') :: l) G3 H3 ⟨v', l, rfl, ry.ts (f3.ts hG2), r⟩ hG3 ((f1.trans f2).trans f3) h3
  · exact h2.elim
end
end Z

namespace L2
open PySem
end L2
namespace Z
open PySem L2
set_option maxHeartbeats 4000000
structure LD (X:Cx)(H:Hp)(G:Gp)(De:En)(D:Ends):Prop where
 nx:∀ ς' σ' G' H',SR X.K H' ς' σ'->HR X.K H' G'->Fr H G H' G'->De.nx ς' G'->D.nx σ' H'
 rt:∀ w v G' H',RU X.K H' w v->HR X.K H' G'->Fr H G H' G'->De.rt w G'->D.rt v H'
 ex:∀ (pins:List (Addr×Obj)) (e:Value) (s':Shared) (x:XV) ς' σ' G' H',Inv X pins σ' H' s'->SR X.K H' ς' σ'->XAt X H' s' e x->HR X.K H' G'->Fr H G H' G'->De.ex x ς' G'->X.xe e s'
noncomputable abbrev US:=En->Sg->Gp->Prop
noncomputable def lS (X:Cx)(t:US):L2.TS:=fun D σ H=>∃ De ς G,SR X.K H ς σ/\HR X.K H G/\t De ς G/\LD X H G De D
section
variable {X:Cx}{H H1:Hp}{G G1:Gp}{De:En}{D:Ends}{ς:Sg}{σ:St}
theorem LD.fr (h:LD X H G De D)(f:Fr H G H1 G1):LD X H1 G1 De D:=
 ⟨fun ς' σ' G' H' a b c=>h.nx ς' σ' G' H' a b (f.trans c),fun w v G' H' a b c=>h.rt w v G' H' a b (f.trans c),fun pins e s' x ς' σ' G' H' i a b c d=>h.ex pins e s' x ς' σ' G' H' i a b c (f.trans d)⟩
theorem LD.lx (h:LD X H G De D)(hς:SR X.K H ς σ)(hG:HR X.K H G):LX X σ H G fun x G1=>De.ex x ς G1:=fun pins e s' x G' H' I a hr f q=>h.ex pins e s' x ς σ G' H' I (hς.ts (f.ts hG)) a hr f q
theorem LD.here (h:LD X H G De D)(hς:SR X.K H ς σ)(hG:HR X.K H G)(q:De.nx ς G):D.nx σ H:=h.nx ς σ G H hς hG (Fr.refl _ _) q
theorem LD.with {k:Sg->Gp->Prop}{D':Ends}(h:LD X H G De D)(hn:∀ ς' σ' G' H',SR X.K H' ς' σ'->HR X.K H' G'->Fr H G H' G'->k ς' G'->D'.nx σ' H')(hr:D'.rt=D.rt):LD X H G { De with nx:=k } D':=
 ⟨hn,fun w v G' H' a b c d=>by rw [hr]; exact h.rt w v G' H' a b c d,h.ex⟩
end
section
variable {X:Cx}{st:Stmt}{rest:List Stmt}{pos:Pos}{e:Expr}{te:UE}{t u:US}
theorem s_nil:PSs X [] (lS X fun D ς G=>D.nx ς G):=jeE.imp fun D σ H ⟨De,ς,G,hς,hG,h,ld⟩=>ld.here hς hG h
theorem s_cons (h1:PS X st (lS X t))(h2:PSs X rest (lS X u)):PSs X (st::rest) (lS X fun D ς G=>t { D with nx:=fun ς' G'=>u D ς' G' } ς G):=by
 refine (jds h1 h2).imp fun D σ H ⟨De,ς,G,hς,hG,h,ld⟩=>?_
 exact ⟨_,ς,G,hς,hG,h,ld.with (fun ς' σ' G' H' a b c d=>⟨De,ς',G',a,b,d,ld.fr c⟩) rfl⟩
theorem s_expr (he:PE X e (lE X te))(hs:YcI e none pos.line X.env=pure false):PS X (.Expr e pos) (lS X fun D ς G=>te ς G (fun _ G1=>D.nx ς G1) fun x G1=>D.ex x ς G1):=
 (jjD he hs).imp fun D σ H ⟨De,ς,G,hς,hG,h,ld⟩=>⟨ς,G,_,_,hς,hG,h,fun w v G' H' _ hr f q=>ld.nx ς σ G' H' (hς.ts (f.ts hG)) hr f q,ld.lx hς hG⟩
theorem s_ret (he:PE X e (lE X te)):PS X (.Return (some e) pos) (lS X fun D ς G=>te ς G D.rt fun x G1=>D.ex x ς G1):=
 (jlh he).imp fun D σ H ⟨De,ς,G,hς,hG,h,ld⟩=>⟨ς,G,_,_,hς,hG,h,fun w v G' H' r hr f q=>ld.rt w v G' H' r hr f q,ld.lx hς hG⟩
theorem s_if {c:Expr}{a b:List Stmt}{tc:UT}(hc:PT X c (lT X tc))(ha:PSs X a (lS X t))(hb:PSs X b (lS X u)):PS X (.If c a b pos) (lS X fun D ς G=>tc ς G (fun x G1=>if x=true then t D ς G1 else u D ς G1) fun x G1=>D.ex x ς G1):=by
 refine (jlj hc ha hb).imp fun D σ H ⟨De,ς,G,hς,hG,h,ld⟩=>⟨ς,G,_,_,hς,hG,h,fun b G' H' hr f q=>?_,ld.lx hς hG⟩
 cases b with
 | true=>rw [if_pos rfl] at q ⊢; exact ⟨De,ς,G',hς.ts (f.ts hG),hr,q,ld.fr f⟩
 | false=>rw [if_neg Yas] at q ⊢; exact ⟨De,ς,G',hς.ts (f.ts hG),hr,q,ld.fr f⟩
theorem jkF {g:Tg}{D:Ends}{σ:St}{H:Hp}(h:lS X (fun D ς G=>te ς G (fun u G1=>tgU g u ς fun ς'=>D.nx ς' G1) fun x G1=>D.ex x ς G1) D σ H) :
  lE X te σ H fun x H1=>lG X.K (tgU g) x σ H1 D.nx:=by
 obtain ⟨De,ς,G,hς,hG,h,ld⟩:=h
 exact ⟨ς,G,_,_,hς,hG,h,fun w v G' H' r hr f q=>⟨w,ς,_,r,hς.ts (f.ts hG),q,fun ς' σ' hs hk=>ld.nx ς' σ' G' H' hs hr f hk⟩,ld.lx hς hG⟩
theorem s_asg {tg:Expr}{g:Tg}(he:PE X e (lE X te))(hg:PG X tg (lG X.K (tgU g)))(hs:Ycy [tg] e pos.line X.env=pure false)(hw:Yci [tg] e X.env=pure none)
  (h1:(YbH [tg] X.env).map (·.2)=[assign tg X.env]):PS X (.Assign [tg] e pos) (lS X fun D ς G=>te ς G (fun u G1=>tgU g u ς fun ς'=>D.nx ς' G1) fun x G1=>D.ex x ς G1):=
 (jgx he hg hs hw h1).imp fun _ _ _ h=>jkF h
theorem s_lc {i:Nat}{y:Str}{py spos:Pos}{tg iter elt:Expr}{ifs:List Expr}{pick:List (Option Nat)}{N:List Str}{scope:Scope}{ti:UI}{g:Tg}{tc:Sg->Gp->(Bool->Gp->Prop)->Prop}
  (hN:X.N.Nodup) (hi':X.N[i]?=some y) (hy:X.env.scope.names.lookup y=some .local) (hc:X.calm=true) (S:CScope X N pick scope) (hw:PI X tg iter (lI X ti)) (hp:(tgS g).all (fun i=>(pick[i]?).join.isNone)=true)
  (hg:∀ cl C s₀ H₀ fp,PG (jai X N scope cl C s₀ H₀ fp) tg (lG X.K (tgU g))) (hi:∀ cl C s₀ H₀ fp,PIfs (jai X N scope cl C s₀ H₀ fp) ifs (lT0 X.K tc)) (he:∀ cl C s₀ H₀ fp,PE (jai X N scope cl C s₀ H₀ fp) elt (lE0 X.K te))
  (hsw:YcI (.ListComp elt [⟨tg,iter,ifs,0⟩] scope pos) (some (.Name y py)) spos.line X.env=pure true) (hs:∀ x,Ybv iter X.env x=pure x) :
  PS X (.Assign [.Name y py] (.ListComp elt [⟨tg,iter,ifs,0⟩] scope pos) spos) (lS X fun D ς G=>lcD pick ti g tc te ς G (fun u G1=>tgU (.n i) u ς fun ς'=>D.nx ς' G1) fun x G1=>D.ex x ς G1):=by
 refine (jnD hN hi' hy hc S hw hg hi he hsw hs).imp fun D σ H h=>?_
 obtain ⟨De,ς,G,hς,hG,h,ld⟩:=h
 exact jiN hp ⟨ς,G,_,_,hς,hG,h,fun w v G' H' r hr f q=>ld.nx _ _ G' H' ((hς.ts (f.ts hG)).set r i) hr f q,ld.lx hς hG⟩
noncomputable def jle:TSet:=fun o i v H Q=>∃ a H',o=.ref a/\DPut H a i v H'/\Q H'
theorem jhB (hu:X.A.units + 1 < cLine):PSet X jle:=by
 intro pins s σ H o i v ov iv u Q I ro ri rv h
 obtain ⟨a,H',rfl,g,q⟩:=h
 cases ro
 exact jha hu I g ri rv fun s' I'=>⟨H',I',q⟩
theorem _root_.L2.PSet.or {t t':TSet}(h:PSet X t)(h':PSet X t'):PSet X fun o i v H Q=>t o i v H Q\/t' o i v H Q:=by
 intro pins s σ H o i v ov iv u Q I ro ri rv q
 rcases q with q | q
 ·exact h pins s σ H o i v ov iv u Q I ro ri rv q
 ·exact h' pins s σ H o i v ov iv u Q I ro ri rv q
theorem jjp {H:Hp}{G:Gp}{x y w:U}{v v' v'':V}{k:Gp->Prop}{Q0:Hp->Prop}(rx:RU X.K H x v)(ry:RU X.K H y v')(rw':RU X.K H w v'')(hG:HR X.K H G)(h:setU x y w G k)
  (q:∀ G' H',HR X.K H' G'->Fr H G H' G'->k G'->Q0 H'):jld v v' v'' H Q0\/jle v v' v'' H Q0:=by
 cases x with
 | loc a=>
  cases rx
  unfold setU at h
  dsimp only at h
  split at h
  ·rename_i xs g
   obtain ⟨vs,e,rs⟩:=hG.lst g
   cases y with
   | int i=>
    cases ry
    dsimp only at h
    split at h
    ·rename_i j ej
     refine .inl ⟨a,vs,i,j,rfl,rfl,e,by rw [<- rs.length]; exact ej,?_⟩
     exact q _ _ (hG.write (mo':=.lst (xs.set j w)) g ⟨_,jaf,(rs.set rw' j).ts (TS.write hG g)⟩) (Fr.write g) h.at
    ·exact h.elim
   | _=>exact h.elim
  ·rename_i kvs g
   obtain ⟨l,e,rs⟩:=hG a _ g
   split at h
   ·rename_i k' ek
    have:=jgU ry ek
    subst this
    refine .inr ⟨a,_,rfl,DPut.k e (by rw [<- rs.length]; exact h.1),?_⟩
    exact q _ _ (hG.write (mo':=.dK (dPut kvs k' w)) g ⟨_,jaf,(rs.put rw').ts (TS.write hG g)⟩) (Fr.write g) h.2.at
   ·exact h.elim
  ·rename_i kvs g
   obtain ⟨l,e,rs⟩:=hG a _ g
   cases y with
   | tup ys=>
    obtain ⟨b,ws,rfl,eb,rb⟩:=ry
    dsimp only at h
    split at h
    ·rename_i k' ek
     have:=jfv rb ek
     subst this
     refine .inr ⟨a,_,rfl,DPut.t e eb (by rw [<- rs.length]; exact h.1),?_⟩
     exact q _ _ (hG.write (mo':=.dT (dPut kvs k' w)) g ⟨_,jaf,(rs.put rw').ts (TS.write hG g)⟩) (Fr.write g) h.2.at
    ·exact h.elim
   | _=>exact h.elim
  ·exact h.elim
 | _=>exact h.elim
theorem s_set {o i:Expr}{to ti:UE}{tpos:Pos}(hu:X.A.units + 1 < cLine)(he:PE X e (lE X te))(ho:PE X o (lE X to))(hi:PE X i (lE X ti))(hs:Ycy [.Subscript o i tpos] e pos.line X.env=pure false)(hw:Yci [.Subscript o i tpos] e X.env=pure none)
  (h1:(YbH [.Subscript o i tpos] X.env).map (·.2)=[assign (.Subscript o i tpos) X.env]) (ha:∀ v,assign (.Subscript o i tpos) X.env v=(do
   let ov <- holding [v] (eval o X.env)
   let iv <- holding [v,ov] (eval i X.env)
   standAt tpos
   holding [v,ov,iv] (setItem ov iv v)
   release [v,ov,iv] [])):PS X (.Assign [.Subscript o i tpos] e pos) (lS X fun D ς G=>te ς G (fun v G1=>to ς G1 (fun x G2=>ti ς G2 (fun y G3=>setU x y v G3 fun G4=>D.nx ς G4) fun x G1=>D.ex x ς G1) fun x G1=>D.ex x ς G1) fun x G1=>D.ex x ς G1):=by
 refine (jgx he (jlp ho hi (PSet.or jhA (jhB hu)) ha) hs hw h1).imp fun D σ H ⟨De,ς,G,hς,hG,h,ld⟩=>?_
 refine ⟨ς,G,_,_,hς,hG,h,fun w v G1 H1 rw' hG1 f1 h1=>?_,ld.lx hς hG⟩
 have hς1:=hς.ts (f1.ts hG)
 refine ⟨ς,G1,_,_,hς1,hG1,h1,fun x vx G2 H2 rx hG2 f2 h2=>?_,(ld.fr f1).lx hς1 hG1⟩
 have hς2:=hς1.ts (f2.ts hG1)
 refine ⟨ς,G2,_,_,hς2,hG2,h2,fun y vy G3 H3 ry hG3 f3 h3=>?_,(ld.fr (f1.trans f2)).lx hς2 hG2⟩
 have hς3:=hς2.ts (f3.ts hG2)
 exact jjp (rx.ts (f3.ts hG2)) ry ((rw'.ts (f2.ts hG1)).ts (f3.ts hG2)) hG3 h3 fun G' H' hr f q=>ld.nx ς σ G' H' (hς3.ts (f.ts hG3)) hr (((f1.trans f2).trans f3).trans f) q
noncomputable def IpU (X:Cx)(o:Ycs):Prop:=∃ r:TIp,PIp X o r/\∀ x y v v' G H Q Q0,RU X.K H x v->RU X.K H y v'->HR X.K H G->jdB o x y G Q->LV X H G Q Q0->r v v' H Q0
theorem jmb (o:Ycs):IpU X o:=by
 cases o with
 | Add=>
  refine ⟨_,(OpR.or (jkl (X:=X)) jeR),fun x y v v' G H Q Q0 rx ry hG h lv=>?_⟩
  unfold jdB at h
  split at h <;> first | contradiction | skip
  ·cases rx; cases ry; exact .inl ⟨_,_,rfl,rfl,lv.int hG h⟩
  ·cases rx; cases ry; exact .inr ⟨_,_,rfl,rfl,h.1,lv.str hG h.2⟩
 | Sub=>
  refine ⟨_,jkj (X:=X),fun x y v v' G H Q Q0 rx ry hG h lv=>?_⟩
  unfold jdB at h
  split at h <;> first | contradiction | skip
  cases rx; cases ry; exact ⟨_,_,rfl,rfl,lv.int hG h⟩
 | Mult=>
  refine ⟨_,jkk (X:=X),fun x y v v' G H Q Q0 rx ry hG h lv=>?_⟩
  unfold jdB at h
  split at h <;> first | contradiction | skip
  cases rx; cases ry; exact ⟨_,_,rfl,rfl,h.1,lv.int hG h.2⟩
 | _=>exact ⟨fun _ _ _ _=>False,fun _ _ _ _ _ _ _ _ _ _ _ _ h=>h.elim,fun _ _ _ _ _ _ _ _ _ _ _ h _=>by unfold jdB at h; split at h <;> first | contradiction | exact h⟩
theorem s_aug {i:Nat}{x:Str}{o:Ycs}{pos':Pos}(hN:X.N.Nodup)(hi:X.N[i]?=some x)(hx:Loc X.env.scope x)(hf:X.fn x=true\/X.env.scope.names.lookup x=some .local)(he:PE X e (lE X te)) :
  PS X (.AugAssign (.Name x pos') o e pos) (lS X fun D ς G=>slot ς i fun x=>te ς G (fun y G1=>jdB o x y G1 fun z G2=>D.nx (ς.set i (some z)) G2) fun x G1=>D.ex x ς G1):=by
 obtain ⟨r,h1,h2⟩:=jmb (X:=X) o
 refine (jll hN hi hx he h1 hf).imp fun D σ H ⟨De,ς,G,hς,hG,h,ld⟩=>?_
 dsimp only at h
 unfold slot at h
 split at h
 ·rename_i u eu
  obtain ⟨v,ev,ru⟩:=hς.2 i u eu
  refine ⟨v,ev,ς,G,_,_,hς,hG,h,fun y vy G1 H1 ry hG1 f1 h1=>?_,ld.lx hς hG⟩
  exact h2 u y v vy G1 H1 _ _ (ru.ts (f1.ts hG)) ry hG1 h1 fun w vw G2 H2 rw' hr2 f2 q=>ld.nx _ _ G2 H2 (((hς.ts (f1.ts hG)).ts (f2.ts hG1)).set rw' i) hr2 (f1.trans f2) q
 ·exact h.elim
theorem _root_.L2.PGet.or {t t':V->V->Hp->VK->Prop}(h:PGet X t)(h':PGet X t'):PGet X fun o i H Q=>t o i H Q\/t' o i H Q:=by
 intro pins s σ H o i ov iv Q I ro ri q
 rcases q with q | q
 ·exact h pins s σ H o i ov iv Q I ro ri q
 ·exact h' pins s σ H o i ov iv Q I ro ri q
theorem s_for {tg iter:Expr}{body:List Stmt}{ti:UI}{g:Tg}{tb:US}(hp:Yey (model X.prog X.w) X.A X.env X.xe)(hc:X.calm=true)(hi:PI X tg iter (lI X ti))(hg:PG X tg (lG X.K (tgU g)))(hb:PSs X body (lS X tb))
  (hs:∀ x,Ybv iter X.env x=pure x):PS X (.For tg iter body [] pos) (lS X fun D ς G=>ti ς G (fun xs ok G1=>forL ok (fun x ς1 G2 k=>tgU g x ς1 fun ς2=>tb { D with nx:=k } ς2 G2) xs ς G1 D.nx) fun x G1=>D.ex x ς G1):=by
 refine (jlk hp hc hi hg hb hs).imp fun D σ H ⟨De,ς,G,hς,hG,h,ld⟩=>?_
 refine ⟨ς,G,_,_,hς,hG,h,fun xs ok G1 H1 J hG1 f1 wk h1=>?_,ld.lx hς hG⟩
 refine ⟨fun i m σ' H'=>m=xs.length - i/\i<=xs.length/\∃ ς' G',SR X.K H' ς' σ'/\HR X.K H' G'/\Fr H1 G1 H' G'/\forL ok (fun x ς1 G2 k=>tgU g x ς1 fun ς2=>tb { De with nx:=k } ς2 G2) (xs.drop i) ς' G' De.nx,⟨xs.length,by simp,YbA _,ς,G1,hς.ts (f1.ts hG),hG1,Fr.refl _ _,by simpa using h1⟩,?_⟩
 rintro i m σ' H' ⟨rfl,hi',ς',G',sr,hr,f,hc'⟩
 by_cases hlt:i < xs.length
 ·rw [YaY hlt] at hc'
  obtain ⟨hok,hb'⟩:=hc'
  obtain ⟨w1,_⟩:=wk i H' G' (f.ts hG1) hr hok
  obtain ⟨go,yl⟩:=w1 xs[i] (by simp [hlt])
  refine .inr ⟨go,fun σ2 H2=>∃ ς2 G2,SR X.K H2 ς2 σ2/\HR X.K H2 G2/\Fr H1 G1 H2 G2/\forL ok (fun x ς1 G2 k=>tgU g x ς1 fun ς2=>tb { De with nx:=k } ς2 G2) (xs.drop (i + 1)) ς2 G2 De.nx,fun σ2 H2 q=>⟨xs.length - (i + 1),by omega,rfl,hlt,q⟩,fun v H'' y=>?_⟩
  obtain ⟨rx,hr2,f2⟩:=yl v H'' y
  refine ⟨xs[i],ς',_,rx,sr.ts (f2.ts hr),hb',fun ς2 σ2 hs2 hk=>?_⟩
  have f3:=(f1.trans f).trans f2
  refine ⟨_,ς2,G',hs2,hr2,hk,(ld.fr f3).with (fun ς3 σ3 G3 H3 a b c d=>⟨ς3,G3,a,b,(f.trans f2).trans c,d⟩) rfl⟩
 ·have e:i=xs.length:=by omega
  subst e
  rw [Yep] at hc'
  obtain ⟨hok,q⟩:=hc'
  exact .inl ⟨(wk xs.length H' G' (f.ts hG1) hr hok).2 rfl,ld.nx ς' σ' G' H' sr hr (f1.trans f) q⟩
end
structure Ctx where
 N:List Str
 sc:List (Str×YbR)
noncomputable def kd (c:Ctx)(x:Str)(k:YbR):Bool:=c.sc.lookup x == some k
noncomputable def glo (c:Ctx)(x:Str):Bool:=kd c x .globalImplicit && !(x == ("__debug__" : Str))
noncomputable def nm1:Expr->List Str
 | .Name x _=>[x]
 | _=>[]
noncomputable def nm2:Expr->List Str
 | .Tuple es _ _=>es.flatMap nm1
 | e=>nm1 e
noncomputable def jeA:Expr->List Str
 | .Tuple es _ _=>es.flatMap nm2
 | e=>nm1 e
noncomputable def cOkS (c:Ctx)(N:List Str)(pick:List (Option Nat))(scope:Scope):Bool:=
 decide (scope.kind=.function) && scope.names.all (fun y=>y.2 != .cell || scope.names.lookup y.1 == some .cell) && scope.names.all (fun y=>y.2 != .local || scope.names.lookup y.1 == some .local)
  && scope.names.all (fun y=>y.2 != .free || (scope.names.lookup y.1 == some .free && (kd c y.1 .cell || kd c y.1 .free)))
  && pick.length == N.length && (N.zip pick).all (fun p=>match p.2 with | none=>true | some j=>c.N[j]? == some p.1 && scope.names.lookup p.1 == some .free) && decide N.Nodup
noncomputable def jiH:Expr->Bool
 | .Call (.Name _ _) [] [] _=>false
 | _=>true
noncomputable def e0:Expr:=.Name "" ⟨0,0,0,0⟩
noncomputable def hd:List Expr->Expr
 | []=>e0
 | e::_=>e
noncomputable def c0:Expr->Expr
 | .BinOp l _ _ _=>l
 | .UnaryOp _ x _=>x
 | .IfExp t _ _ _=>t
 | .Compare l _ _ _=>l
 | .Subscript v _ _=>v
 | .Attribute v _ _=>v
 | .Call f _ _ _=>f
 | .ListComp e _ _ _=>e
 | _=>e0
noncomputable def c1:Expr->Expr
 | .BinOp _ _ r _=>r
 | .IfExp _ b _ _=>b
 | .Subscript _ s _=>s
 | _=>e0
noncomputable def c2:Expr->Expr
 | .IfExp _ _ b _=>b
 | _=>e0
noncomputable def cl:Expr->List Expr
 | .BoolOp _ vs _=>vs
 | .Compare _ _ vs _=>vs
 | .Call _ vs _ _=>vs
 | .List vs _=>vs
 | .Tuple vs _ _=>vs
 | .Dict _ vs _=>vs
 | _=>[]
noncomputable def kw0:Expr->Keyword
 | .Call _ _ (k::_) _=>k
 | _=>⟨none,e0,⟨0,0,0,0⟩⟩
noncomputable def kk:Expr->Nat
 | .Constant _ k _=>k
 | .Tuple _ k _=>k
 | _=>0
noncomputable def oe:Option Expr->Expr
 | some e=>e
 | none=>e0
noncomputable def dk:Expr->List Expr
 | .Dict ks _ _=>ks.map oe
 | _=>[]
noncomputable def gen1:Expr->Yck
 | .ListComp _ (g::_) _ _=>g
 | _=>⟨e0,e0,[],0⟩
noncomputable def gen2:Expr->Yck
 | .ListComp _ (_::g::_) _ _=>g
 | _=>⟨e0,e0,[],0⟩
noncomputable def scp:Expr->Scope
 | .ListComp _ _ s _=>s
 | _=>⟨.module,[],false,false,[]⟩
noncomputable def s0:Expr->Expr
 | .Slice (some e) _ _ _=>e
 | _=>e0
noncomputable def s1:Expr->Expr
 | .Slice _ (some e) _ _=>e
 | _=>e0
noncomputable def s2:Expr->Expr
 | .Slice _ _ (some e) _=>e
 | _=>e0
noncomputable def nmA (c:Ctx)(i:Nat):Str:=c.N.getD i ""
noncomputable def boU:Bool->PySem.BoolOp
 | true=>.And
 | false=>.Or
noncomputable def jb2:Es->Nat
 | .nil=>0
 | .cons _ es=>jb2 es + 1
noncomputable def jdO:Tgs->Nat
 | .nil=>0
 | .cons _ ts=>jdO ts + 1
noncomputable def isLc:E->Bool
 | .lc ..=>true
 | .lc2 ..=>true
 | _=>false
noncomputable def cc (c:Ctx)(pick:List (Option Nat))(h:Expr):Ctx:=⟨jeA (gen1 h).target++(pick.filterMap id).filterMap (fun j=>c.N[j]?),(scp h).names⟩
noncomputable def cc2 (c:Ctx)(pick:List (Option Nat))(h:Expr):Ctx:=⟨jeA (gen1 h).target++jeA (gen2 h).target++(pick.filterMap id).filterMap (fun j=>c.N[j]?),(scp h).names⟩
mutual
noncomputable def unTg (c:Ctx):Tg->Expr->Expr
 | .n i,h=>.Name (nmA c i) h.pos
 | .t ts,h=>.Tuple (jdL c ts (cl h)) (kk h) h.pos
noncomputable def jdL (c:Ctx):Tgs->List Expr->List Expr
 | .nil,_=>[]
 | .cons t ts,hs=>unTg c t (hd hs)::jdL c ts hs.tail
end
noncomputable def okN (c:Ctx)(i:Nat):Bool:=decide (i < c.N.length) && (kd c (nmA c i) .local || kd c (nmA c i) .cell)
mutual
noncomputable def okTg (c:Ctx):Tg->Bool
 | .n i=>okN c i
 | .t ts=>jj3 c ts
noncomputable def jj3 (c:Ctx):Tgs->Bool
 | .nil=>true
 | .cons t ts=>okTg c t && jj3 c ts
end
section
variable (T:Tab)
noncomputable def fnN (n:Nat):Str:=match T.funs[n]? with
 | some d=>d.name
 | none => ""
mutual
noncomputable def unE (c:Ctx):E->Expr->Expr
 | .v i,h=>.Name (nmA c i) h.pos
 | .non,h=>.Constant .none (kk h) h.pos
 | .bl b,h=>.Constant (.bool b) (kk h) h.pos
 | .int i,h=>.Constant (.int i) (kk h) h.pos
 | .str x,h=>.Constant (.str x) (kk h) h.pos
 | .g n,h=>.Name (T.gn.getD n "") h.pos
 | .ty n,h=>.Name (Yaa n) h.pos
 | .bin o a b,h=>.BinOp (unE c a (c0 h)) o (unE c b (c1 h)) h.pos
 | .neg a,h=>.UnaryOp .USub (unE c a (c0 h)) h.pos
 | .not a,h=>.UnaryOp .Not (unE c a (c0 h)) h.pos
 | .bop k a es,h=>.BoolOp (boU k) (unE c a (hd (cl h))::unEs c es (cl h).tail) h.pos
 | .cmp o a b,h=>.Compare (unE c a (c0 h)) [o] [unE c b (hd (cl h))] h.pos
 | .cmp2 o p a b d,h=>.Compare (unE c a (c0 h)) [o,p] [unE c b (hd (cl h)),unE c d (hd (cl h).tail)] h.pos
 | .ife t a b,h=>.IfExp (unE c t (c0 h)) (unE c a (c1 h)) (unE c b (c2 h)) h.pos
 | .tup es,h=>.Tuple (unEs c es (cl h)) (kk h) h.pos
 | .lst es,h=>.List (unEs c es (cl h)) h.pos
 | .dic es,h=>.Dict (unK c es (dk h)) (unV c es (cl h)) h.pos
 | .dicT,h=>.Dict [] [] h.pos
 | .ix a b,h=>.Subscript (unE c a (c0 h)) (unE c b (c1 h)) h.pos
 | .sl a lo hi,h=>.Subscript (unE c a (c0 h)) (.Slice (unO c lo (s0 (c1 h))) (unO c hi (s1 (c1 h))) none (c1 h).pos) h.pos
 | .rev a b,h=>.Subscript (unE c a (c0 h)) (.Slice none none (some (unE c b (s2 (c1 h)))) (c1 h).pos) h.pos
 | .call n es,h=>.Call (.Name (fnN T n) (c0 h).pos) (unEs c es (cl h)) [] h.pos
 | .app _ _,_=>e0
 | .blt b es,h=>.Call (.Name (bltN b) (c0 h).pos) (unEs c es (cl h)) [] h.pos
 | .meth m o es,h=>.Call (.Attribute (unE c o (c0 (c0 h))) (mthN m) (c0 h).pos) (unEs c es (cl h)) [] h.pos
 | .lc pick t it ifs d,h=>.ListComp (unE (cc c pick h) d (c0 h)) [⟨unTg (cc c pick h) t (gen1 h).target,unI c it (gen1 h).iter,unEs (cc c pick h) ifs (gen1 h).ifs,0⟩] (scp h) h.pos
 | .lc2 pick t it ifs t2 it2 ifs2 d,h=>.ListComp (unE (cc2 c pick h) d (c0 h)) [⟨unTg (cc2 c pick h) t (gen1 h).target,unI c it (gen1 h).iter,unEs (cc2 c pick h) ifs (gen1 h).ifs,0⟩,⟨unTg (cc2 c pick h) t2 (gen2 h).target,unI (cc2 c pick h) it2 (gen2 h).iter,unEs (cc2 c pick h) ifs2 (gen2 h).ifs,0⟩] (scp h) h.pos
 | .mkD d,h=>.Call (.Name "list" (c0 h).pos) [unE c d (hd (cl h))] [] h.pos
 | .maxD d,h=>.Call (.Name "max" (c0 h).pos) [unE c d (hd (cl h))] [⟨some "default",.Constant (.int 0) (kk (kw0 h).value) (kw0 h).value.pos,(kw0 h).pos⟩] h.pos
 | .minD d,h=>.Call (.Name "min" (c0 h).pos) [unE c d (hd (cl h))] [⟨some "default",.Constant .none (kk (kw0 h).value) (kw0 h).value.pos,(kw0 h).pos⟩] h.pos
 | .mkL d,h=>.Call (.Name "list" (c0 h).pos) [unE c d (hd (cl h))] [] h.pos
 | .mkT d,h=>.Call (.Name "tuple" (c0 h).pos) [unE c d (hd (cl h))] [] h.pos
 | .rngL d,h=>.Call (.Name "list" (c0 h).pos) [.Call (.Name "range" (c0 (hd (cl h))).pos) [unE c d (hd (cl (hd (cl h))))] [] (hd (cl h)).pos] [] h.pos
 | .rngT d,h=>.Call (.Name "tuple" (c0 h).pos) [.Call (.Name "range" (c0 (hd (cl h))).pos) [unE c d (hd (cl (hd (cl h))))] [] (hd (cl h)).pos] [] h.pos
 | .rngL2 _ _,_=>e0
noncomputable def unO (c:Ctx):Eo->Expr->Option Expr
 | .no,_=>none
 | .so d,h=>some (unE c d h)
noncomputable def unEs (c:Ctx):Es->List Expr->List Expr
 | .nil,_=>[]
 | .cons d es,hs=>unE c d (hd hs)::unEs c es hs.tail
noncomputable def unK (c:Ctx):Es->List Expr->List (Option Expr)
 | .cons d (.cons _ es),hs=>some (unE c d (hd hs))::unK c es hs.tail
 | _,_=>[]
noncomputable def unV (c:Ctx):Es->List Expr->List Expr
 | .cons _ (.cons d es),hs=>unE c d (hd hs)::unV c es hs.tail
 | _,_=>[]
noncomputable def unI (c:Ctx):It->Expr->Expr
 | .e d,h=>unE c d h
 | .r1 d,h=>.Call (.Name "range" (c0 h).pos) [unE c d (hd (cl h))] [] h.pos
 | .r2 a b,h=>.Call (.Name "range" (c0 h).pos) [unE c a (hd (cl h)),unE c b (hd (cl h).tail)] [] h.pos
 | .enum d,h=>.Call (.Name "enumerate" (c0 h).pos) [unE c d (hd (cl h))] [] h.pos
 | .dk d,h=>unE c d h
end
mutual
noncomputable def okE (c:Ctx):E->Expr->Bool
 | .v i,_=>decide (i < c.N.length) && (kd c (nmA c i) .local || kd c (nmA c i) .cell || kd c (nmA c i) .free) && !(nmA c i == ("__debug__" : Str)) && !(nmA c i == ("__classdict__" : Str))
 | .non,_=>true
 | .bl _,_=>true
 | .int _,_=>true
 | .str _,_=>true
 | .g _,_=>false
 | .ty _,_=>false
 | .bin _ a b,h=>okE c a (c0 h) && okE c b (c1 h)
 | .neg a,h=>okE c a (c0 h)
 | .not a,h=>okE c a (c0 h)
 | .bop _ a es,h=>okE c a (hd (cl h)) && okEs c es (cl h).tail
 | .cmp o a b,h=>okE c a (c0 h) && okE c b (hd (cl h)) && !behindInMarks o (unE T c b (hd (cl h)))
 | .cmp2 _ _ _ _ _,_=>false
 | .ife t a b,h=>okE c t (c0 h) && okE c a (c1 h) && okE c b (c2 h)
 | .tup es,h=>okEs c es (cl h)
 | .lst es,h=>okEs c es (cl h)
 | .dic es,h=>okD c es (dk h) (cl h) && decide (jb2 es<=30)
 | .dicT,_=>true
 | .ix a b,h=>okE c a (c0 h) && okE c b (c1 h)
 | .sl a lo hi,h=>okE c a (c0 h) && okO c lo (s0 (c1 h)) && okO c hi (s1 (c1 h))
 | .rev a b,h=>okE c a (c0 h) && okE c b (s2 (c1 h))
 | .call n es,h=>decide (n < T.funs.length) && glo c (fnN T n) && okEs c es (cl h)
 | .app _ _,_=>false
 | .blt b es,h=>decide (0 < jb2 es) && glo c (bltN b) && okEs c es (cl h)
 | .meth _ o es,h=>okE c o (c0 (c0 h)) && okEs c es (cl h) && ((c0 h).pos.endLine == h.pos.line) && decide (jb2 es < 30) && jiH (unE T c o (c0 (c0 h)))
 | .lc pick t it ifs d,h=>cOkS c (cc c pick h).N pick (scp h) && (tgS t).all (fun i=>(pick[i]?).join.isNone) && okTg (cc c pick h) t && okI c t it (gen1 h).iter && okEs (cc c pick h) ifs (gen1 h).ifs && decide (jb2 ifs<=1) && okE (cc c pick h) d (c0 h)
 | .lc2 _ _ _ _ _ _ _ _,_=>false
 | .mkD _,_=>false
 | .maxD _,_=>false
 | .minD _,_=>false
 | .mkL d,h=>glo c "list" && okE c d (hd (cl h))
 | .mkT d,h=>glo c "tuple" && okE c d (hd (cl h))
 | .rngL d,h=>glo c "list" && glo c "range" && okE c d (hd (cl (hd (cl h))))
 | .rngT _,_=>false
 | .rngL2 _ _,_=>false
noncomputable def okO (c:Ctx):Eo->Expr->Bool
 | .no,_=>true
 | .so d,h=>okE c d h
noncomputable def okEs (c:Ctx):Es->List Expr->Bool
 | .nil,_=>true
 | .cons d es,hs=>okE c d (hd hs) && okEs c es hs.tail
noncomputable def okD (c:Ctx):Es->List Expr->List Expr->Bool
 | .nil,_,_=>true
 | .cons d (.cons f es),hs,gs=>okE c d (hd hs) && okE c f (hd gs) && okD c es hs.tail gs.tail
 | .cons _ .nil,_,_=>false
noncomputable def okI (c:Ctx)(t:Tg):It->Expr->Bool
 | .e d,h=>okE c d h
 | .r1 d,h=>glo c "range" && okE c d (hd (cl h))
 | .r2 _ _,_=>false
 | .enum _,_=>false
 | .dk d,h=>okE c d h
end
noncomputable def jiu (ts:List Expr):Nat:=(ts.head?.map (·.pos.line)).getD 0
noncomputable def jaT (c:Ctx)(ts:List Expr):List Str:=ts.filterMap fun
  | .Name id pos=>if c.sc.lookup id == some .local && pos.line == jiu ts then some id else none
  | _=>none
noncomputable def jgX:Expr->Bool
 | .Starred ..=>true
 | _=>false
noncomputable def jbZ (c:Ctx)(ts vs:List Expr):Bool:=
 !(ts.length == 2 || ts.length == 3) || vs.length != ts.length || (!(vs.any jgX) && ((jaT c ts).length != ts.length || (jaT c ts).eraseDups.length != (jaT c ts).length || vs.all (foldedForSure 8)))
noncomputable def lcSw (c:Ctx)(y:Str)(py p:Pos)(s:Scope):Bool:=c.sc.lookup y == some .local && py.line == p.line && !(s.names.any fun (n,k)=>n == y && (k == .local || k == .cell))
noncomputable def q0:Stmt->Expr
 | .Expr e _=>e
 | .Assign _ e _=>e
 | .Return (some e) _=>e
 | .AugAssign _ _ e _=>e
 | .If e _ _ _=>e
 | .While e _ _ _=>e
 | .For _ e _ _ _=>e
 | _=>e0
noncomputable def q1:Stmt->Expr
 | .Assign (t::_) _ _=>t
 | .AugAssign t _ _ _=>t
 | .For t _ _ _ _=>t
 | _=>e0
noncomputable def qr:Stmt->Expr
 | .Raise (some e) _ _=>e
 | _=>e0
noncomputable def hTy:Stmt->Expr
 | .Try _ (.ExceptHandler (some t) _ _ _::_) _ _ _=>t
 | _=>e0
noncomputable def hBd:Stmt->List Stmt
 | .Try _ (.ExceptHandler _ _ b _::_) _ _ _=>b
 | _=>[]
noncomputable def hPs:Stmt->Pos
 | .Try _ (.ExceptHandler _ _ _ p::_) _ _ _=>p
 | _=>⟨0,0,0,0⟩
noncomputable def qa:Stmt->List Stmt
 | .Try a _ _ _ _=>a
 | .If _ a _ _=>a
 | .While _ a _ _=>a
 | .For _ _ a _ _=>a
 | _=>[]
noncomputable def qb:Stmt->List Stmt
 | .If _ _ b _=>b
 | _=>[]
noncomputable def qh:List Stmt->Stmt
 | []=>.Pass ⟨0,0,0,0⟩
 | s::_=>s
noncomputable def unNs (c:Ctx):List Nat->List Expr->List Expr
 | [],_=>[]
 | i::is,hs=>.Name (nmA c i) (hd hs).pos::unNs c is hs.tail
noncomputable def unCs:List Nat->List Expr->List Expr
 | [],_=>[]
 | k::ks,hs=>.Name (clsN k) (hd hs).pos::unCs ks hs.tail
section
variable (c:Ctx)(n:Nat)
noncomputable def unHL:HL->Expr->Expr
 | .v i,h=>.Name (nmA c i) h.pos
 | .isiV,h=>.Call (.Name "isinstance" (c0 h).pos) [.Name (nmA c n) (hd (cl h)).pos,.Name "ValueError" (hd (cl h).tail).pos] [] h.pos
 | .is1 k,h=>.Call (.Name "isinstance" (c0 h).pos) [.Name (nmA c n) (hd (cl h)).pos,.Name (clsN k) (hd (cl h).tail).pos] [] h.pos
 | .isi ks,h=>.Call (.Name "isinstance" (c0 h).pos) [.Name (nmA c n) (hd (cl h)).pos,.Tuple (unCs ks (cl (hd (cl h).tail))) (kk (hd (cl h).tail)) (hd (cl h).tail).pos] [] h.pos
noncomputable def jew:Bool×HL->Expr->Expr
 | (true,l),h=>.UnaryOp .Not (unHL c n l (c0 h)) h.pos
 | (false,l),h=>unHL c n l h
noncomputable def jfc:List (Bool×HL)->List Expr->List Expr
 | [],_=>[]
 | a::r,hs=>jew c n a (hd hs)::jfc r hs.tail
noncomputable def jfd (k:Bool)(a:Bool×HL):List (Bool×HL)->Expr->Expr
 | [],h=>jew c n a h
 | b::r,h=>.BoolOp (boU k) (jew c n a (hd (cl h))::jfc c n (b::r) (cl h).tail) h.pos
noncomputable def unHA:HA->Expr->Expr
 | .str x,h=>.Constant (.str x) (kk h) h.pos
 | .att f,h=>.Attribute (.Name (nmA c n) (c0 h).pos) f h.pos
noncomputable def jhs:List HA->List Expr->List Expr
 | [],_=>[]
 | a::r,hs=>unHA c n a (hd hs)::jhs r hs.tail
noncomputable def unHV:HV->Expr->Expr
 | .cond k a as,h=>jfd c n k a as h
 | .one a,h=>unHA c n a h
 | .bl b,h=>.Constant (.bool b) (kk h) h.pos
 | .tup as,h=>.Tuple (jhs c n as (cl h)) (kk h) h.pos
 | .lst as,h=>.List (jhs c n as (cl h)) h.pos
noncomputable def jjb (i:Nat)(e:HV)(h:Stmt):Stmt:=.Assign [.Name (nmA c i) (q1 h).pos] (unHV c n e (q0 h)) h.pos
noncomputable def unHS:HS->Stmt->Stmt
 | .asg i e,h=>jjb c n i e h
 | .ifa k a as i e,h=>.If (jfd c n k a as (q0 h)) [jjb c n i e (qh (qa h))] [] h.pos
noncomputable def jex:List HS->List Stmt->List Stmt
 | [],_=>[]
 | s::r,hs=>unHS c n s (qh hs)::jex r hs.tail
end
section
variable (cs:List Nat)(c:Ctx)
noncomputable def okC (k:Nat):Bool:=decide (1<=k) && decide (k < 6) && cs.contains k && glo c (clsN k)
noncomputable def okHL:HL->Bool
 | .v i=>decide (i < c.N.length) && (kd c (nmA c i) .local || kd c (nmA c i) .cell || kd c (nmA c i) .free) && !(nmA c i == ("__debug__" : Str)) && !(nmA c i == ("__classdict__" : Str))
 | .isiV=>glo c "isinstance" && glo c "ValueError"
 | .is1 k=>glo c "isinstance" && okC cs c k
 | .isi ks=>glo c "isinstance" && ks.all (okC cs c) && decide (ks.length<=8)
noncomputable def jcA (as:List (Bool×HL)):Bool:=as.all fun p=>okHL cs c p.2
noncomputable def okHA:HA->Bool
 | .str _=>true
 | .att f=>fldN.contains f
noncomputable def okHV:HV->Bool
 | .cond _ a as=>okHL cs c a.2 && jcA cs c as
 | .one a=>okHA a
 | .bl _=>true
 | .tup as=>as.all okHA && decide (as.length<=8)
 | .lst as=>as.all okHA && decide (as.length<=8)
noncomputable def okHS (n:Nat):HS->Bool
 | .asg i e=>okN c i && decide (i≠n) && okHV cs c e
 | .ifa _ a as i e=>okHL cs c a.2 && jcA cs c as && okN c i && decide (i≠n) && okHV cs c e
end
mutual
noncomputable def unS (c:Ctx):S->Stmt->Stmt
 | .pass,h=>.Pass h.pos
 | .expr d,h=>.Expr (unE T c d (q0 h)) h.pos
 | .asg t d,h=>.Assign [unTg c t (q1 h)] (unE T c d (q0 h)) h.pos
 | .asgC i d,h=>.Assign [.Name (nmA c i) (q1 h).pos] (unE T c d (q0 h)) h.pos
 | .setS o i d,h=>.Assign [.Subscript (unE T c o (c0 (q1 h))) (unE T c i (c1 (q1 h))) (q1 h).pos] (unE T c d (q0 h)) h.pos
 | .par is es,h=>.Assign [.Tuple (unNs c is (cl (q1 h))) (kk (q1 h)) (q1 h).pos] (.Tuple (unEs T c es (cl (q0 h))) (kk (q0 h)) (q0 h).pos) h.pos
 | .aug i o d,h=>.AugAssign (.Name (nmA c i) (q1 h).pos) o (unE T c d (q0 h)) h.pos
 | .augS a i o d,h=>.AugAssign (.Subscript (unE T c a (c0 (q1 h))) (unE T c i (c1 (q1 h))) (q1 h).pos) o (unE T c d (q0 h)) h.pos
 | .ite t a b,h=>.If (unE T c t (q0 h)) (unSs c a (qa h)) (unSs c b (qb h)) h.pos
 | .fr t it b,h=>.For (unTg c t (q1 h)) (unI T c it (q0 h)) (unSs c b (qa h)) [] h.pos
 | .wh t b,h=>.While (unE T c t (q0 h)) (unSs c b (qa h)) [] h.pos
 | .ret d,h=>.Return (some (unE T c d (q0 h))) h.pos
 | .retN,h=>.Return none h.pos
 | .never,h=>h
 | .raise k es,h=>.Raise (some (.Call (.Name (clsN k) (c0 (qr h)).pos) (unEs T c es (cl (qr h))) [] (qr h).pos)) none h.pos
 | .tr b k n hs,h=>.Try (unSs c b (qa h)) [.ExceptHandler (some (.Name (clsN k) (hTy h).pos)) (some (nmA c n)) (jex c n hs (hBd h)) (hPs h)] [] [] h.pos
noncomputable def unSs (c:Ctx):Ss->List Stmt->List Stmt
 | .nil,_=>[]
 | .cons s r,hs=>unS c s (qh hs)::unSs c r hs.tail
end
noncomputable def okA (c:Ctx):Tg->E->Stmt->Bool
 | .n i,.lc ..,_=>!(kd c (nmA c i) .local)
 | .n i,.lc2 ..,_=>!(kd c (nmA c i) .local)
 | .t _,.lc ..,_=>false
 | .t _,.lc2 ..,_=>false
 | .t ts,.tup es,h=>jbZ c (jdL c ts (cl (q1 h))) (unEs T c es (cl (q0 h)))
 | _,_,_=>true
mutual
noncomputable def okS (c:Ctx):S->Stmt->Bool
 | .pass,_=>false
 | .expr d,h=>okE T c d (q0 h) && !isLc d
 | .asg t d,h=>okE T c d (q0 h) && okTg c t && okA T c t d h
 | .asgC i d,h=>isLc d && okE T c d (q0 h) && decide (i < c.N.length) && lcSw c (nmA c i) (q1 h).pos (q0 h).pos (scp (q0 h))
 | .setS o i d,h=>okE T c d (q0 h) && okE T c o (c0 (q1 h)) && okE T c i (c1 (q1 h))
 | .par _ _,_=>false
 | .aug i _ d,h=>okN c i && okE T c d (q0 h)
 | .augS _ _ _ _,_=>false
 | .ite t a b,h=>okE T c t (q0 h) && okSs c a (qa h) && okSs c b (qb h)
 | .fr t it b,h=>okTg c t && okI T c t it (q0 h) && okSs c b (qa h)
 | .wh _ _,_=>false
 | .ret d,h=>okE T c d (q0 h)
 | .retN,_=>false
 | .never,_=>true
 | .raise k es,h=>okC T.cs c k && decide (0 < jb2 es) && okEs T c es (cl (qr h))
 | .tr b k n hs,h=>okSs c b (qa h) && (decide (k=0) || okC T.cs c k) && glo c (clsN k) && decide (n < c.N.length) && kd c (nmA c n) .local && !(nmA c n == ("__debug__" : Str)) && !(nmA c n == ("__classdict__" : Str)) && !hs.isEmpty && hs.all (okHS T.cs c n)
noncomputable def okSs (c:Ctx):Ss->List Stmt->Bool
 | .nil,_=>true
 | .cons s r,hs=>okS c s (qh hs) && okSs c r hs.tail
end
end
noncomputable def lSp (K:Yac)(t:List U->Gp->K1->KX->Prop):Sp:=fun vs H Q0 E0=>∃ us G Q E,RUs K H us vs/\HR K H G/\t us G Q E/\(∀ w v G' H',RU K H' w v->HR K H' G'->Fr H G H' G'->Q w G'->Q0 v H')/\
 ∀ x G' H' C dx,XD K H' C dx x->HR K H' G'->Fr H G H' G'->E x G'->E0 (.ref C) (some dx) H'
noncomputable def FnU (P:Program)(w:World)(K:Yac)(mg:Str->Option Value)(base:Heap)(k:Nat)(d:Fun)(t:List U->Gp->K1->KX->Prop):Prop:=
 ∃ (f:Addr) (fd:YbT),FnOk P w K mg base (CX1 P w) (k + 2) f fd d.ps (lSp K t)/\mg d.name=some (.ref f)/\YaN K (.ref f)=true/\Binds K fd d.ps []
noncomputable def jcR:List Str:=["len", "repr", "min", "max", "sum", "all", "any", "sorted", "int", "str", "isinstance", "range", "enumerate", "list", "tuple", "bool", "dict", "ValueError"]
structure Cok (T:Tab)(k:Nat)(X:Cx)(c:Ctx):Prop where
 hN:X.N=c.N
 nd:c.N.Nodup
 loc:∀ x,kd c x .local=true->X.env.scope.names.lookup x=some .local
 cel:∀ x,kd c x .cell=true->X.env.scope.names.lookup x=some .cell/\X.fn x=true
 fre:∀ x,kd c x .free=true->X.env.scope.names.lookup x=some .cell\/X.env.scope.names.lookup x=some .free
 glb:∀ x,kd c x .globalImplicit=true->Gl X x
 room:Room k X.A
 calm:X.calm=true
 po:Yey (model X.prog X.w) X.A X.env X.xe
 blt:∀ x∈jcR,X.mg x=none
 fns:∀ (n:Nat) (d:Fun),T.funs[n]?=some d->FnU X.prog X.w X.K X.mg X.base k d (jac T k n)
 gls:∀ (n:Nat) (x:Str) (u:U),T.gn[n]?=some x->T.gs[n]?=some u->∃ v w,X.mg x=some w/\RelV v w/\∀ H,RU X.K H u v
 room2:Room (k + 2) X.A
 cls:∀ n∈T.cs,1<=n->∃ C,XCls X.K (gK X.K) (clsN n) (clsF n) C
 mgK:∀ x v,gK X.K x=some v->X.mg x=some v
structure Cos (T:Tab)(k:Nat)(X:Cx)(c:Ctx):Prop extends Cok T k X c where
 sc:X.env.scope.names=c.sc
 kind:X.env.scope.kind=.function
 stk:X.stack=X.env::X.outer/\X.env.frame=some X.env.locals
section
variable {T:Tab}{k:Nat}{X:Cx}{c:Ctx}
theorem Cok.hu (h:Cok T k X c):X.A.units + 1 < cLine:=jn2 h.room
theorem Cok.vis (h:Cok T k X c){x:Str}(v:(kd c x .local || kd c x .cell || kd c x .free)=true):Vis X.env.scope x:=by
 simp only [Ydj] at v
 rcases v with (v | v) | v
 ·exact .inl (h.loc x v)
 ·exact .inr (.inl (h.cel x v).1)
 ·rcases h.fre x v with z | z
  ·exact .inr (.inl z)
  ·exact .inr (.inr z)
theorem Cok.store (h:Cok T k X c){x:Str}(v:(kd c x .local || kd c x .cell)=true):Loc X.env.scope x/\(X.fn x=true\/X.env.scope.names.lookup x=some .local):=by
 simp only [Ydj] at v
 rcases v with v | v
 ·exact ⟨.inl (h.loc x v),.inr (h.loc x v)⟩
 ·exact ⟨.inr (h.cel x v).1,.inl (h.cel x v).2⟩
theorem Cok.gl (h:Cok T k X c){x:Str}(v:glo c x=true):Gl X x/\(x == ("__debug__" : Str))=false:=by
 unfold glo at v
 rw [YaP] at v
 exact ⟨h.glb x v.1,by simpa using v.2⟩
end
noncomputable def jd7:Expr->Bool
 | .BoolOp .. | .BinOp .. | .UnaryOp .. | .IfExp .. | .Dict .. | .ListComp .. | .Compare .. | .Call .. | .Constant .. | .Subscript .. | .Name .. | .List .. | .Tuple ..=>true
 | _=>false
section
variable {T:Tab}{c:Ctx}
theorem jar (ir:E)(h:Expr):jd7 (unE T c ir h)=true:=by cases ir <;> rfl
theorem jak {e:Expr}(h:jd7 e=true)(es:List Expr)(env:Env):YaM (e::es) env=(false,eval e env)::YaM es env:=by
 cases e <;> first | rfl | cases h
theorem jkm {e:Expr}(h:jd7 e=true):je5 e:=by
 intro o i
 cases e <;> first | rfl | cases h
theorem jbN {e:Expr}(h:jd7 e=true)(env:Env):∀ x,Ybv e env x=pure x:=by
 intro x
 cases e <;> first | rfl | cases h
theorem ji8 (it:It)(h:Expr)(env:Env):∀ x,Ybv (unI T c it h) env x=pure x:=by
 cases it with
 | e d=>exact jbN (jar d _) env
 | dk d=>exact jbN (jar d _) env
 | _=>exact fun _=>rfl
theorem jh6 {o i:Expr}(h:jd7 i=true)(env:Env)(tpos:Pos):∀ v,assign (.Subscript o i tpos) env v=(holding [v] (eval o env) >>= fun a=>holding [v,a] (eval i env) >>= fun b=>standAt tpos >>= fun _=>holding [v,a,b] (setItem a b v) >>= fun _=>release [v,a,b] []):=by
 intro v
 cases i <;> first | rfl | cases h
theorem jja {ir:E}(q:isLc ir=false)(h:Expr)(env:Env)(l:Nat):YcI (unE T c ir h) none l env=pure false:=by
 cases ir <;> first | rfl | cases q
theorem ji7 {ir:E}(q:isLc ir=false)(h tg:Expr)(env:Env)(l:Nat):Ycy [tg] (unE T c ir h) l env=pure false:=by
 cases ir <;> first | rfl | cases q
theorem jip (ir:E)(h x y:Expr)(p:Pos)(env:Env)(l:Nat):Ycy [.Subscript x y p] (unE T c ir h) l env=pure false/\Yci [.Subscript x y p] (unE T c ir h) env=pure none:=by
 cases ir <;> exact ⟨rfl,rfl⟩
theorem jm0 (ir:E)(h:Expr)(x:Str)(p:Pos)(env:Env):Yci [.Name x p] (unE T c ir h) env=pure none:=by
 cases ir <;> rfl
theorem ji9 (t:Tg)(h:Expr)(env:Env):(YbH [unTg c t h] env).map (·.2)=[assign (unTg c t h) env]:=by
 cases t <;> rfl
theorem jcT {o:Expr}(h:jiH o=true)(m:Str)(env:Env)(w:Sem Value):Ycz o m env w=w:=by
 unfold Ycz
 split
 ·cases h
 ·rfl
theorem jbR:∀ (es:Es) (hs:List Expr) (env:Env) (pos:Pos),(backTo pos (YaM (unEs T c es hs) env)).any (·.1)=false/\(backTo pos (YaM (unEs T c es hs) env)).all (fun x=>!x.1)=true
 | .nil,_,_,_=>⟨rfl,rfl⟩
 | .cons d es,hs,env,pos=>by
  obtain ⟨h1,h2⟩:=jbR es hs.tail env pos
  show (backTo pos (YaM (unE T c d (hd hs)::unEs T c es hs.tail) env)).any (·.1)=false/\(backTo pos (YaM (unE T c d (hd hs)::unEs T c es hs.tail) env)).all (fun x=>!x.1)=true
  rw [jak (jar d _)]
  exact ⟨by show (false || (backTo pos (YaM (unEs T c es hs.tail) env)).any (·.1))=false; rw [h1]; rfl,by show (!false && (backTo pos (YaM (unEs T c es hs.tail) env)).all (fun x=>!x.1))=true; rw [h2]; rfl⟩
theorem jiq:∀ (es:Es) (hs:List Expr),(unEs T c es hs).length=jb2 es
 | .nil,_=>rfl
 | .cons _ es,hs=>congrArg (·+ 1) (jiq es hs.tail)
theorem ba {a b:Bool}(h:(a && b)=true):a=true/\b=true:=by simpa using h
theorem bn {a:Bool}(h:(!a)=true):a=false:=by simpa using h
theorem jgK {i:Nat}(h:decide (i < c.N.length)=true):c.N[i]?=some (nmA c i):=by
 unfold nmA
 rw [YaO,Yah (of_decide_eq_true h)]
 rfl
end
theorem jgk:∀ {ts:Tgs} {us:List U} {ς:Sg} {k:Sg->Prop},tgsU ts us ς k->us.length=jdO ts
 | .nil,us,ς,k,h=>by rw [h.1]; rfl
 | .cons t ts,us,ς,k,h=>by
  cases us with
  | nil=>exact h.elim
  | cons u r=>
   have:∃ ς',tgsU ts r ς' k:=tg_some h
   obtain ⟨ς',h'⟩:=this
   show r.length + 1=jdO ts + 1
   rw [jgk h']
where
 tg_some {t:Tg} {u:U} {ς:Sg} {P:Sg->Prop} (h:tgU t u ς P):∃ ς',P ς':=by
  have:=jcv (k':=fun _=>∃ ς',P ς') h fun ς' h'=>⟨ς',h'⟩
  exact tg_const this
 tg_const:∀ {t:Tg} {u:U} {ς:Sg} {P:Prop},tgU t u ς (fun _=>P)->P
  | .n _,_,_,_,h=>h
  | .t ts,u,ς,P,h=>by
   cases u with
   | tup us=>exact tgs_const (ts:=ts) (us:=us) h
   | _=>exact h.elim
 tgs_const:∀ {ts:Tgs} {us:List U} {ς:Sg} {P:Prop},tgsU ts us ς (fun _=>P)->P
  | .nil,_,_,_,h=>h.2
  | .cons t ts,us,ς,P,h=>by
   cases us with
   | nil=>exact h.elim
   | cons u r=>exact tg_const (jcv (t:=t) h fun ς' h'=>tgs_const h')
section
variable {T:Tab}{k:Nat}{X:Cx}{c:Ctx}
theorem jez:∀ (ts:Tgs) (hs:List Expr) (env:Env),(YbH (jdL c ts hs) env).length=jdO ts/\(YbH (jdL c ts hs) env).findIdx? (·.1)=none
 | .nil,_,_=>⟨rfl,rfl⟩
 | .cons t ts,hs,env=>by
  obtain ⟨h1,h2⟩:=jez ts hs.tail env
  have e:YbH (jdL c (.cons t ts) hs) env=(false,assign (unTg c t (hd hs)) env)::YbH (jdL c ts hs.tail) env:=by cases t <;> rfl
  rw [e]
  exact ⟨by simp [h1,jdO],by simp [List.findIdx?_cons,h2]⟩
theorem Cok.nm {i:Nat}(C:Cok T k X c)(h:decide (i < c.N.length)=true):X.N[i]?=some (nmA c i):=by rw [C.hN]; exact jgK h
mutual
theorem sTg (C:Cok T k X c):∀ (t:Tg) (h:Expr),okTg c t=true->PG X (unTg c t h) (lG X.K (tgU t))
 | .n _,_,q=>let s:=C.store (ba q).2; u_tn (by rw [C.hN]; exact C.nd) (C.nm (ba q).1) s.1 s.2
 | .t ts,h,q=>u_tt C.calm (sTgs C ts (cl h) q) (jez ts _ X.env).1 (jez ts _ X.env).2 fun us ς k q=>jgk q
theorem sTgs (C:Cok T k X c):∀ (ts:Tgs) (hs:List Expr),jj3 c ts=true->PGs X (jdL c ts hs) (lGs X.K (tgsU ts))
 | .nil,_,_=>jm3
 | .cons t ts,hs,q=>jm4 (sTg C t (hd hs) (ba q).1) (sTgs C ts hs.tail (ba q).2) (by cases t <;> rfl)
end
noncomputable def EB (X:Cx)(σ:St):XK:=fun cls dx H'=>∀ (pins:List (Addr×Obj)) (ea:Addr) (s':Shared),Inv X pins σ H' s'->Lies X.s₀.heap.objs.size X.pn H' s'.heap ea cls dx->X.xe (.ref ea) s'
theorem jgv {j:Nat}{f:Addr}{fd:YbT}{ps:List Str}{sp:Sp}{pins:List (Addr×Obj)}{σ:St}{H:Hp}{s:Shared}{Q:VK}{us:List Value}{vs:List V}(F:FnOk X.prog X.w X.K X.mg X.base (CX1 X.prog X.w) j f fd ps sp)(hr:Room j X.A)(hb:Binds X.K fd ps [])
  (I:Inv X pins σ H s) (r:Vals vs us) (h:sp vs H Q (EB X σ)):wpAny (model X.prog X.w) X.A (call (.ref f) us) (EP X pins σ Q) X.xe s:=by
 have hl:(us++[]).length=ps.length:=by rw [Ya7,<- r.length]; exact F.len _ _ _ _ h
 have hbs:=hb s us I.kIn hl
 rw [Ya7] at hbs
 refine wpAny_call (YeO (F.run X.A X.stack s H ⟨us,[]⟩ us vs Q (EB X σ) hr I.env0 hbs r h) fun r s' hq=>?_)
 cases r with
 | error e=>
  obtain ⟨ea,H',cls,dx,rfl,I',l,q⟩:=CX1.back I hq
  exact q pins ea s' I' l
 | ok fl=>
  cases fl with
  | ret u=>exact I.after hq
  | next=>exact YcC hq
  | brk=>exact YcC hq
  | cont=>exact YcC hq
theorem jgr {n:Nat}{σ:St}{H:Hp}{G:Gp}{us:List U}{vs:List V}{Q:K1}{E:KX}{Q0:VK}(r:RUs X.K H us vs)(hG:HR X.K H G)(h:jac T k n us G Q E)(lv:LV X H G Q Q0)(lx:LX X σ H G E):lSp X.K (jac T k n) vs H Q0 (EB X σ):=
 ⟨us,G,Q,E,r,hG,h,lv,fun x G' H' C dx xd hr f q pins ea s' I' l=>lx pins (.ref ea) s' x G' H' I' ⟨ea,C,dx,rfl,l,xd⟩ hr f q⟩
theorem jkT {n:Nat}{d:Fun}{x:Str}{e:Expr}{es:List Expr}{ts:UA}{p pos:Pos}(C:Cok T k X c)(hd:T.funs[n]?=some d)(hx:d.name=x)(hg:glo c x=true)(ha:PA X (e::es) (lA X ts))
  (he:YaM (e::es) X.env=(false,eval e X.env)::YaM es X.env) (hpl:(backTo pos (YaM es X.env)).any (·.1)=false) :
  PE X (.Call (.Name x p) (e::es) [] pos) (lE X fun ς G Q E=>ts ς G (fun us G1=>jac T k n us G1 Q E) E):=by
 obtain ⟨f,fd,F,hm,hk,hb⟩:=C.fns n d hd
 obtain ⟨g1,g2⟩:=C.gl hg
 rw [hx] at hm
 intro pins s σ H Q0 I ⟨ς,G,Q,E,hς,hG,h,lv,lx⟩
 refine Ycr (jb3 I g1 hm ?_ g2)
 have h':lA X ts σ H fun vs H1=>lSp X.K (jac T k n) vs H1 Q0 (EB X σ):=⟨ς,G,_,E,hς,hG,h,fun us vs G1 H1 rs hG1 f1 h1=>jgr rs hG1 h1 (lv.fr f1) (lx.fr f1),lx⟩
 refine Yfn (h₀:=X.base) I.ok.mod.kin hk (thn (ha pos pins s σ H _ I h') fun us s1 ⟨vs,H1,I1,r,q⟩=>⟨I1.kIn,?_⟩) he hpl
 exact jgv F C.room2 hb I1 r q
theorem jjd {n:Nat}{d:Fun}{x:Str}{p pos:Pos}(C:Cok T k X c)(hd:T.funs[n]?=some d)(hx:d.name=x)(hg:glo c x=true) :
  PE X (.Call (.Name x p) [] [] pos) (lE X fun _ G Q E=>jac T k n [] G Q E):=by
 obtain ⟨f,fd,F,hm,hk,hb⟩:=C.fns n d hd
 obtain ⟨g1,g2⟩:=C.gl hg
 rw [hx] at hm
 intro pins s σ H Q0 I ⟨ς,G,Q,E,hς,hG,h,lv,lx⟩
 refine Ycr (jb3 I g1 hm ?_ g2)
 exact PySem.W.callWith_K0 I.kIn hk (jgv (us:=[]) (vs:=[]) F C.room2 hb I .nil (jgr (show RUs X.K H [] [] from rfl) hG h lv lx))
theorem Cok.comp {pick:List (Option Nat)}{scope:Scope}{N:List Str}(C:Cok T k X c)(h:cOkS c N pick scope=true):CScope X N pick scope/\∀ cl A s₀ H₀ fp,Cok T k (jai X N scope cl A s₀ H₀ fp) ⟨N,scope.names⟩:=by
 unfold cOkS at h
 simp only [YaP,decide_eq_true_eq] at h
 obtain ⟨⟨⟨⟨⟨⟨h1,h2⟩,h3⟩,h4⟩,h5⟩,h6⟩,h7⟩:=h
 have cells:∀ y∈scope.names,y.2=.cell->scope.names.lookup y.1=some .cell:=fun y hy hc=>by
  have:=List.all_eq_true.mp h2 y hy
  rw [hc] at this
  simpa using this
 refine ⟨⟨h1,cells,fun y hy hl=>?_,fun y hy hf=>?_,by simpa using h5,fun i j x e1 e2=>?_⟩,fun cl A s₀ H₀ fp=>?_⟩
 ·have:=List.all_eq_true.mp h3 y hy
  rw [hl] at this
  simpa using this
 ·have:=List.all_eq_true.mp h4 y hy
  rw [hf] at this
  simp only [bne_self_eq_false,Yfa,YaP,Ydj,beq_iff_eq] at this
  refine ⟨this.1,?_⟩
  rcases this.2 with z | z
  ·exact .inl (C.cel _ z).1
  ·exact C.fre _ z
 ·have hz:(N.zip pick)[i]?=some (x,some j):=by rw [YeR]; exact ⟨e1,e2⟩
  have:=List.all_eq_true.mp h6 _ (YaD hz)
  rw [C.hN]
  simpa using this
 ·refine ⟨rfl,h7,fun x z=>?_,fun x z=>?_,fun x z=>?_,fun x z=>?_,C.room,C.calm,Yey.never,C.blt,C.fns,C.gls,C.room2,C.cls,C.mgK⟩
  ·exact jat (by decide) (eq_of_beq z)
  ·exact ⟨jat (by decide) (eq_of_beq z),z⟩
  ·exact jaV (eq_of_beq z)
  ·exact glc (eq_of_beq z)
end
end Z

namespace Z
open PySem L2
set_option maxHeartbeats 8000000
section
variable {K:Yac}{H H':Hp}{G G':Gp}
theorem HR.newX (h:HR K H G){p:Addr}{l:List (Str×V)}(e:H p=none):HR K (upd H p (.xd l)) G:=fun a o q=>by
 have m:=h a o q
 obtain ⟨ho,e2⟩:=m.there
 exact m.keep (jab (jag e2 e)) (TS.new e)
theorem HR.xdNone (h:HR K H G){a:Addr}{l:List (Str×V)}(e:H a=some (.xd l)):G a=none:=by
 cases q:G a with
 | none=>rfl
 | some o=>
  have m:=h a o q
  cases o with
  | lst us=>obtain ⟨_,e2,_⟩:=m; rw [e] at e2; cases e2
  | fro us=>obtain ⟨_,_,e2,_⟩:=m; rw [e] at e2; cases e2
  | dK us=>obtain ⟨_,e2,_⟩:=m; rw [e] at e2; cases e2
  | dT us=>obtain ⟨_,e2,_⟩:=m; rw [e] at e2; cases e2
  | frd _ us=>obtain ⟨_,e2,_⟩:=m; rw [e] at e2; cases e2
theorem XD.fr {C dx:Addr}{x:XV}(h:XD K H C dx x)(hG:HR K H G)(f:Fr H G H' G'):XD K H' C dx x:=by
 obtain ⟨h1,h2,h3,l,hl,hn,r⟩:=h
 exact ⟨h1,h2,h3,l,(f dx _ hl (hG.xdNone hl)).1,hn,r.ts (f.ts hG)⟩
end
theorem jhc:∀ k < 6,∀ f∈clsF k,f∈fldN:=by decide +kernel
theorem jie (k:Nat):∀ f∈clsF k,f∈fldN:=by
 by_cases h:k < 6
 ·exact jhc k h
 ·intro f hf
  have:clsF k=[]:=by
   unfold clsF
   rw [YaO,YdK (by show clsA.length<=k; simp only [clsA,YbJ,YcK]; omega)]; rfl
  rw [this] at hf
  cases hf
theorem jfF:∀ i < 6,∀ j < 6,clsN i=clsN j->i=j:=by decide +kernel
theorem jeh:∀ i < 6,1<=i->clsN i ≠ "PlanError" := by decide +kernel
section
variable {T:Tab}{k:Nat}{X:Cx}{c:Ctx}
theorem jdY {cs:List Nat}{n:Nat}(h:okC cs c n=true):1<=n/\n < 6/\n∈cs/\glo c (clsN n)=true:=by
 unfold okC at h
 simp only [YaP,decide_eq_true_eq] at h
 exact ⟨h.1.1.1,h.1.1.2,by simpa using h.1.2,h.2⟩
theorem s_raise {n:Nat}{e:Expr}{es:List Expr}{ts:UA}{p cpos pos:Pos}(C:Cok T k X c)(hn:okC T.cs c n=true)(ha:PA X (e::es) (lA X ts))(he:YaM (e::es) X.env=(false,eval e X.env)::YaM es X.env)(hpl:(backTo cpos (YaM es X.env)).any (·.1)=false) :
  PS X (.Raise (some (.Call (.Name (clsN n) p) (e::es) [] cpos)) none pos) (lS X fun D ς G=>ts ς G (fun us G1=>us.length=(clsF n).length/\D.ex ⟨n,us⟩ ς G1) fun x G1=>D.ex x ς G1):=by
 obtain ⟨n1,n2,n3,n4⟩:=jdY hn
 obtain ⟨Ca,cl⟩:=C.cls n n3 n1
 obtain ⟨g1,g2⟩:=C.gl n4
 refine (jgw (k:=k) cl (jie n) C.room2 g1 (C.mgK _ _ cl.m) ha g2 he hpl).imp fun D σ H ⟨De,ς,G,hς,hG,h,ld⟩=>?_
 refine ⟨ς,G,_,_,hς,hG,h,fun us vs G1 H1 rs hG1 f1 h1=>?_,ld.lx hς hG⟩
 have hl:vs.length=(clsF n).length:=rs.length.symm.trans h1.1
 refine ⟨hl,fun pins ea dx s' hd I l=>?_⟩
 have f2:Fr H1 G1 (upd H1 dx (.xd ((clsF n).zip vs))) G1:=Fr.new hd
 refine ld.ex pins (.ref ea) s' ⟨n,us⟩ ς σ G1 _ I ((hς.ts (f1.ts hG)).ts (f2.ts hG1)) ⟨ea,Ca,dx,rfl,l,n1,n2,cl,_,jaf,?_,?_⟩ (hG1.newX hd) (f1.trans f2) h1.2
 ·exact List.map_fst_zip (by omega)
 ·rw [List.map_snd_zip (by omega)]
  exact rs.ts (f2.ts hG1)
end
structure HC (T:Tab)(X:Cx)(c:Ctx)(n:Nat)(ea C dx:Addr)(x:XV):Prop where
 hN:X.N=c.N
 nd:c.N.Nodup
 loc:∀ y,kd c y .local=true->X.env.scope.names.lookup y=some .local
 cel:∀ y,kd c y .cell=true->X.env.scope.names.lookup y=some .cell/\X.fn y=true
 fre:∀ y,kd c y .free=true->X.env.scope.names.lookup y=some .cell\/X.env.scope.names.lookup y=some .free
 glb:∀ y,kd c y .globalImplicit=true->Gl X y
 blt:∀ y∈jcR,X.mg y=none
 cls:∀ n∈T.cs,1<=n->∃ C,XCls X.K (gK X.K) (clsN n) (clsF n) C
 me:XCls X.K (gK X.K) (clsN x.c) (clsF x.c) C
 lo:1<=x.c
 hi:x.c < 6
 pin:XPin X ea C dx
 mgK:∀ y v,gK X.K y=some v->X.mg y=some v
 en:n < c.N.length/\kd c (nmA c n) .local=true/\(nmA c n == ("__debug__" : Str))=false/\(nmA c n == ("__classdict__" : Str))=false
structure HSt (X:Cx)(n:Nat)(ea C dx:Addr)(x:XV)(σ:St)(H:Hp)(ς:Sg)(G:Gp):Prop where
 sr:SR X.K H ς σ
 hr:HR X.K H G
 en:σ[n]?=some (some (.ref ea))
 xd:XD X.K H C dx x
noncomputable def hB (X:Cx)(n:Nat)(ea C dx:Addr)(x:XV)(f:Sg->Option Bool):TE:=fun σ H Q=>∃ ς G b,HSt X n ea C dx x σ H ς G/\f ς=some b/\∀ H',HR X.K H' G->Fr H G H' G->Q (.bl b) H'
noncomputable def hT (X:Cx)(n:Nat)(ea C dx:Addr)(x:XV)(f:Sg->Option Bool):TT:=fun σ H Q=>∃ ς G b,HSt X n ea C dx x σ H ς G/\f ς=some b/\∀ H',HR X.K H' G->Fr H G H' G->Q b H'
section
variable {T:Tab}{X:Cx}{c:Ctx}{n:Nat}{ea C dx:Addr}{x:XV}
theorem HSt.fr {σ:St}{H H':Hp}{ς:Sg}{G G':Gp}(h:HSt X n ea C dx x σ H ς G)(hr:HR X.K H' G')(f:Fr H G H' G'):HSt X n ea C dx x σ H' ς G':=⟨h.sr.ts (f.ts h.hr),hr,h.en,h.xd.fr h.hr f⟩
theorem HC.pe (h:HC T X c n ea C dx x){p:Pos}:PE X (.Name (nmA c n) p) (tVar n):=by
 obtain ⟨h1,h2,h3,h4⟩:=h.en
 exact jbJ (by rw [h.hN]; exact jgK (decide_eq_true h1)) (.inl (h.loc _ h2)) h3 h4
theorem HC.gl (h:HC T X c n ea C dx x){y:Str}(v:glo c y=true):Gl X y/\(y == ("__debug__" : Str))=false:=by
 unfold glo at v
 rw [YaP] at v
 exact ⟨h.glb y v.1,by simpa using v.2⟩
theorem HC.ownC (h:HC T X c n ea C dx x){m:Nat}(q:okC T.cs c m=true):∃ C',XCls X.K (gK X.K) (clsN m) (clsF m) C'/\clsN m ≠ "PlanError" /\ ∀ p,PE X (.Name (clsN m) p) (tC (.ref C')):=by
 obtain ⟨m1,m2,m3,m4⟩:=jdY q
 obtain ⟨C',cl⟩:=h.cls m m3 m1
 obtain ⟨g1,g2⟩:=h.gl m4
 exact ⟨C',cl,jeh m m2 m1,fun p=>jjO g1 (h.mgK _ _ cl.m) rfl g2⟩
theorem HC.pcs (h:HC T X c n ea C dx x):∀ {ks:List Nat},ks.all (okC T.cs c)=true->∀ hs:List Expr,∃ (xs:List Str) (Cs:List Addr),xs=ks.map clsN/\XMany X (gK X.K) xs Cs/\Cs.length=ks.length/\PA X (unCs ks hs) (fun _ H Q=>Q (Cs.map .ref) H)
 | [],_,_=>⟨[],[],rfl,.nil,rfl,jc2⟩
 | m::ks,q,hs=>by
  simp only [YbZ,YaP] at q
  obtain ⟨C',cl,np,pe⟩:=h.ownC q.1
  obtain ⟨xs,Cs,e,mn,ln,pa⟩:=h.pcs q.2 hs.tail
  subst e
  exact ⟨_,C'::Cs,rfl,.cons cl np mn,by simp [ln],ja4 (pe _) pa⟩
theorem jeQ:YcR "isinstance" = some (.builtin "isinstance"):=YdR
theorem HC.isiT (h:HC T X c n ea C dx x)(g1:Gl X "isinstance")(g2:(("isinstance" : Str) == ("__debug__" : Str))=false){Cs:List Addr}{xs:List Str}(mn:XMany X (gK X.K) xs Cs){p1 p2 p3 p4:Pos}{kq:Nat}{es:List Expr}(pa:PA X es (fun _ H Q=>Q (Cs.map .ref) H)) :
  PE X (.Call (.Name "isinstance" p3) [.Name (nmA c n) p1,.Tuple es kq p2] [] p4) (fun σ H Q=>σ[n]?=some (some (.ref ea))/\Cs.length<=8/\∀ p,H p=none->(∃ l,upd H p (.tup (Cs.map .ref)) dx=some (.xd l))/\Q (.bl (xs.contains (clsN x.c))) (upd H p (.tup (Cs.map .ref)))):=by
 have isn:X.mg "isinstance" = none:=h.blt _ (by decide)
 have a1:PA X [.Tuple es kq p2] _:=ja4 (jgD pa) jc2 (jak rfl _ _)
 have a2:PA X [.Name (nmA c n) p1,.Tuple es kq p2] _:=ja4 (h.pe) a1 (jak rfl _ _)
 have cr:=jhg h.me mn h.pin
 have hh:YaM [.Name (nmA c n) p1,.Tuple es kq p2] X.env=(false,eval (.Name (nmA c n) p1) X.env)::YaM [.Tuple es kq p2] X.env:=jak rfl _ _
 have hp:(backTo p4 (YaM [.Tuple es kq p2] X.env)).any (·.1)=false:=by rw [jak rfl]; rfl
 refine PE.imp (jcn (p:=p3) (pos:=p4) cr g1 isn jeQ a2 (by decide) g2 hh hp) fun σ H Q ⟨e1,e2,k⟩=>?_
 refine ⟨_,e1,?_,fun p hp=>⟨p,rfl,jaf,(k p hp).1,(k p hp).2⟩⟩
 rw [Yai,YbK]; omega
theorem HC.lit (h:HC T X c n ea C dx x){l:HL}(q:okHL T.cs c l=true)(hx:Expr):PE X (unHL c n l hx) (hB X n ea C dx x fun ς=>litH x ς l)/\PT X (unHL c n l hx) (hT X n ea C dx x fun ς=>litH x ς l):=by
 have fin:PE X (unHL c n l hx) (hB X n ea C dx x fun ς=>litH x ς l):=by
  have isn:X.mg "isinstance" = none:=h.blt _ (by decide)
  have ven:X.mg "ValueError" = none:=h.blt _ (by decide)
  cases l with
  | v i=>
   have q':((decide (i < c.N.length) && (kd c (nmA c i) .local || kd c (nmA c i) .cell || kd c (nmA c i) .free) && !(nmA c i == ("__debug__" : Str)) && !(nmA c i == ("__classdict__" : Str))))=true:=q
   obtain ⟨⟨⟨h1,h2⟩,h3⟩,h4⟩:=(⟨⟨ba (ba (ba q').1).1,(ba (ba q').1).2⟩,(ba q').2⟩:((_/\_)/\_)/\_)
   have vis:Vis X.env.scope (nmA c i):=by
    simp only [Ydj] at h2
    rcases h2 with (z | z) | z
    ·exact .inl (h.loc _ z)
    ·exact .inr (.inl (h.cel _ z).1)
    ·exact (h.fre _ z).elim (fun z=>.inr (.inl z)) fun z=>.inr (.inr z)
   refine (jbJ (by rw [h.hN]; exact jgK h1) vis (bn h3) (bn h4)).imp fun σ H Q ⟨ς,G,b,st,e,k⟩=>?_
   have e':(match ς[i]? with | some (some (U.bl b))=>some b | _=>none)=some b:=e
   split at e'
   ·rename_i b' eb
    cases e'
    obtain ⟨v,ev,r⟩:=st.sr.2 i _ eb
    cases r
    exact ⟨_,ev,k H st.hr (Fr.refl _ _)⟩
   ·cases e'
  | isiV=>
   have q':(glo c "isinstance" && glo c "ValueError")=true:=q
   obtain ⟨g1,g2⟩:=h.gl (ba q').1
   obtain ⟨g3,g4⟩:=h.gl (ba q').2
   refine (jcn (jhf h.me h.pin) g1 isn jeQ (ja4 h.pe (ja4 (jjR (v:=.ty "ValueError") g3 ven (by decide +kernel) rfl (by decide) g4) jc2)) (by decide) g2 rfl rfl).imp fun σ H Q ⟨ς,G,b,st,e,k⟩=>?_
   cases (show true=b from YaU e)
   obtain ⟨_,_,_,l,hl,_⟩:=st.xd
   exact ⟨_,st.en,rfl,⟨l,hl⟩,k H st.hr (Fr.refl _ _)⟩
  | is1 m=>
   have q':(glo c "isinstance" && okC T.cs c m)=true:=q
   obtain ⟨g1,g2⟩:=h.gl (ba q').1
   obtain ⟨C',cl,np,pe⟩:=h.ownC (ba q').2
   refine (jcn (jhh h.me cl np h.pin) g1 isn jeQ (ja4 h.pe (ja4 (pe _) jc2)) (by decide) g2 rfl rfl).imp fun σ H Q ⟨ς,G,b,st,e,k⟩=>?_
   have eb:decide (x.c=m)=b:=YaU e
   have e2:decide (clsN x.c=clsN m)=b:=by
    rw [<- eb]
    obtain ⟨_,m2,_⟩:=jdY (ba q').2
    by_cases z:x.c=m
    ·simp [z]
    ·have:clsN x.c≠clsN m:=fun y=>z (jfF _ h.hi _ m2 y)
     simp [z,this]
   obtain ⟨_,_,_,l,hl,_⟩:=st.xd
   exact ⟨_,st.en,rfl,⟨l,hl⟩,by rw [e2]; exact k H st.hr (Fr.refl _ _)⟩
  | isi ks=>
   have q':(glo c "isinstance" && ks.all (okC T.cs c) && decide (ks.length<=8))=true:=q
   obtain ⟨g1,g2⟩:=h.gl (ba (ba q').1).1
   obtain ⟨xs,Cs,exs,mn,ln,pa⟩:=h.pcs (ba (ba q').1).2 (cl (hd (cl hx).tail))
   refine PE.imp (h.isiT g1 g2 mn pa) fun σ H Q ⟨ς,G,b,st,e,k⟩=>?_
   have eb:ks.contains x.c=b:=YaU e
   have e2:xs.contains (clsN x.c)=b:=by
    rw [<- eb,exs]
    have all:∀ m∈ks,m < 6:=fun m hm=>(jdY (List.all_eq_true.mp (ba (ba q').1).2 m hm)).2.1
    rw [Ydk]
    simp only [List.contains_iff_mem,Yfp]
    constructor
    ·rintro ⟨m,hm,em⟩
     have:=jfF _ (all m hm) _ h.hi em
     rw [<- this]; exact hm
    ·intro hm
     exact ⟨_,hm,rfl⟩
   refine ⟨st.en,?_,fun p hp=>⟨?_,?_⟩⟩
   ·have:=of_decide_eq_true (ba q').2
    omega
   ·obtain ⟨_,_,_,l,hl,_⟩:=(st.fr (st.hr.newT hp) (Fr.new hp)).xd
    exact ⟨l,hl⟩
   ·rw [e2]; exact k _ (st.hr.newT hp) (Fr.new hp)
 refine ⟨fin,?_⟩
 have tr:∀ whole,isTrue (unHL c n l hx) X.env whole=(do let v <- whole; standAt (unHL c n l hx).pos; holding [v] (truthy v)):=by
  intro whole
  cases l <;> rfl
 refine (jlg fin tr).imp fun σ H Q ⟨ς,G,b,st,e,k⟩=>?_
 exact ⟨ς,G,b,st,e,fun H' a f=>⟨b,rfl,k H' a f⟩⟩
theorem HC.litN (h:HC T X c n ea C dx x){p:Bool×HL}(q:okHL T.cs c p.2=true)(hx:Expr):PE X (jew c n p hx) (hB X n ea C dx x fun ς=>lit1 x ς p)/\PT X (jew c n p hx) (hT X n ea C dx x fun ς=>lit1 x ς p):=by
 obtain ⟨neg,l⟩:=p
 cases neg with
 | false=>
  obtain ⟨h1,h2⟩:=h.lit q hx
  refine ⟨PE.imp h1 fun σ H Q ⟨ς,G,b,st,e,k⟩=>⟨ς,G,b,st,?_,k⟩,PT.imp h2 fun σ H Q ⟨ς,G,b,st,e,k⟩=>⟨ς,G,b,st,?_,k⟩⟩ <;>
  ·unfold lit1 at e
   dsimp only at e
   split at e
   ·rename_i b' eb
    show litH x ς l=some b
    rw [eb]; simpa using e
   ·cases e
 | true=>
  obtain ⟨h1,h2⟩:=h.lit q (c0 hx)
  refine ⟨PE.imp (jlr h1) fun σ H Q ⟨ς,G,b,st,e,k⟩=>⟨ς,G,!b,st,?_,fun H' a f=>⟨!b,rfl,by rw [Yft]; exact k H' a f⟩⟩,PT.imp (jiz h2) fun σ H Q ⟨ς,G,b,st,e,k⟩=>⟨ς,G,!b,st,?_,fun H' a f=>by show Q (!!b) H'; rw [Yft]; exact k H' a f⟩⟩ <;>
  ·unfold lit1 at e
   dsimp only at e
   split at e
   ·rename_i b' eb
    show litH x ς l=some (!b)
    rw [eb]
    have:(!b')=b:=by simpa using e
    rw [<- this,Yft]
   ·cases e
theorem HC.conds (h : HC T X c n ea C dx x)(k : Bool) : ∀ (as : List (Bool × HL)) (a : Bool × HL) (hx : Expr) (hs : List Expr) (pos : Pos), okHL T.cs c a.2 = true -> jcA T.cs c as = true ->
    PE X (.BoolOp (boU k) (jew c n a hx :: jfc c n as hs) pos) (hB X n ea C dx x fun ς => ja1 x ς k a as) /\ PW X (.BoolOp (boU k) (jew c n a hx :: jfc c n as hs) pos) (hT X n ea C dx x fun ς => ja1 x ς k a as)
  | [], a, hx, hs, pos, q, _ => by
    obtain ⟨h1, h2⟩ := h.litN q hx
    cases k with
    | true => exact ⟨jfn h1, pw_and1 h2⟩
    | false => exact ⟨jfn h1, pw_or1 h2⟩
  | b :: r, a, hx, hs, pos, q, qs => by
    unfold jcA at qs
    simp only [YbZ, YaP] at qs
    obtain ⟨h1, h2⟩ := h.litN q hx
    obtain ⟨r1, r2⟩ := h.conds k r b (hd hs) hs.tail pos qs.1 qs.2
    have red : ∀ {ς : Sg} {t b' : Bool}, lit1 x ς a = some t -> ja1 x ς k a (b :: r) = some b' -> (if t = k then ja1 x ς k b r else some t) = some b' := fun {ς t b'} e1 e2 => by
      have e3 : (match lit1 x ς a with | some t => if t = k then ja1 x ς k b r else some t | none => none) = some b' := e2
      rw [e1] at e3
      exact e3
    have some1 : ∀ {ς : Sg} {b' : Bool}, ja1 x ς k a (b :: r) = some b' -> ∃ t, lit1 x ς a = some t := fun {ς b'} e2 => by
      have e3 : (match lit1 x ς a with | some t => if t = k then ja1 x ς k b r else some t | none => none) = some b' := e2
      cases z : lit1 x ς a with
      | none => rw [z] at e3; cases e3
      | some t => exact ⟨t, rfl⟩
    cases k with
    | true =>
      refine ⟨PE.imp (jlw h1 r1) fun σ H Q ⟨ς, G, b', st, e, kk⟩ => ?_, PW.imp (pw_and h2 r2) fun σ H Q ⟨ς, G, b', st, e, kk⟩ => ?_⟩ <;>
      · obtain ⟨t, et⟩ := some1 e
        have e' := red et e
        first
          | (refine ⟨ς, G, t, st, et, fun H' hr f => ⟨t, rfl, ?_⟩⟩
             cases t with
             | true => exact ⟨ς, G, b', st.fr hr f, by simpa using e', fun H'' a b => kk H'' a (f.trans b)⟩
             | false => cases (by simpa using e' : false = b'); exact kk H' hr f)
          | (refine ⟨ς, G, t, st, et, fun H' hr f => ?_⟩
             cases t with
             | true => exact ⟨ς, G, b', st.fr hr f, by simpa using e', fun H'' a b => kk H'' a (f.trans b)⟩
             | false => cases (by simpa using e' : false = b'); exact kk H' hr f)
    | false =>
      refine ⟨PE.imp (jnG h1 r1) fun σ H Q ⟨ς, G, b', st, e, kk⟩ => ?_, PW.imp (pw_or h2 r2) fun σ H Q ⟨ς, G, b', st, e, kk⟩ => ?_⟩ <;>
      · obtain ⟨t, et⟩ := some1 e
        have e' := red et e
        first
          | (refine ⟨ς, G, t, st, et, fun H' hr f => ⟨t, rfl, ?_⟩⟩
             cases t with
             | false => exact ⟨ς, G, b', st.fr hr f, by simpa using e', fun H'' a b => kk H'' a (f.trans b)⟩
             | true => cases (by simpa using e' : true = b'); exact kk H' hr f)
          | (refine ⟨ς, G, t, st, et, fun H' hr f => ?_⟩
             cases t with
             | false => exact ⟨ς, G, b', st.fr hr f, by simpa using e', fun H'' a b => kk H'' a (f.trans b)⟩
             | true => cases (by simpa using e' : true = b'); exact kk H' hr f)
theorem HC.cond (h:HC T X c n ea C dx x)(k:Bool)(a:Bool×HL)(as:List (Bool×HL))(hx:Expr)(q:okHL T.cs c a.2=true)(qs:jcA T.cs c as=true) :
  PE X (jfd c n k a as hx) (hB X n ea C dx x fun ς=>ja1 x ς k a as)/\PT X (jfd c n k a as hx) (hT X n ea C dx x fun ς=>ja1 x ς k a as):=by
 cases as with
 | nil=>exact h.litN q hx
 | cons b r=>let z:=h.conds k (b::r) a (hd (cl hx)) (cl hx).tail hx.pos q qs; exact ⟨z.1,z.2.pt⟩
noncomputable def hV (X:Cx)(n:Nat)(ea C dx:Addr)(x:XV)(f:Sg->Gp->K1->Prop):TE:=fun σ H Q0=>∃ ς G Q,HSt X n ea C dx x σ H ς G/\f ς G Q/\LV X H G Q Q0
theorem jgb {K:Yac}{H:Hp}{f:Str}{u:U}:∀ {l:List (Str×V)} {us:List U},RUs K H us (l.map (·.2))->((l.map (·.1)).zip us).lookup f=some u->∃ v,l.lookup f=some v/\RU K H u v
 | [],us,_,e=>by simp at e
 | (y,v)::l,[],r,e=>by simp at e
 | (y,v)::l,w::us,r,e=>by
  obtain ⟨v',vr,ev,r1,rs⟩:=r
  simp only [Ya4,Yb3] at ev
  obtain ⟨rfl,rfl⟩:=ev
  simp only [Ya4,Yf1,Ybj] at e ⊢
  split at e
  ·rename_i z
   cases e
   exact ⟨v,rfl,r1⟩
  ·rename_i z
   obtain ⟨v',h1,h2⟩:=jgb rs e
   exact ⟨v',h1,h2⟩
theorem XD.get {K:Yac}{H:Hp}{f:Str}{u:U}(xd:XD K H C dx x)(e:atH x (.att f)=some u):∃ l v,H dx=some (.xd l)/\l.lookup f=some v/\RU K H u v:=by
 obtain ⟨_,_,_,l,hl,hn,r⟩:=xd
 have e':((clsF x.c).zip x.fs).lookup f=some u:=e
 rw [<- hn] at e'
 obtain ⟨v,h1,h2⟩:=jgb r e'
 exact ⟨l,v,hl,h1,h2⟩
theorem HC.at (h:HC T X c n ea C dx x){a:HA}(q:okHA a=true)(hx:Expr):PE X (unHA c n a hx) (fun σ H Q0=>∃ ς G u,HSt X n ea C dx x σ H ς G/\atH x a=some u/\∀ v,RU X.K H u v->Q0 v H):=by
 cases a with
 | str y=>exact PE.imp jiC fun σ H Q ⟨ς,G,u,st,e,k⟩=>by cases e; exact k _ rfl
 | att f=>
  have hf:f∈fldN:=by simpa [okHA] using q
  refine PE.imp (jjM h.me h.pin hf h.pe rfl) fun σ H Q ⟨ς,G,u,st,e,k⟩=>?_
  obtain ⟨l,v,hl,h1,h2⟩:=st.xd.get e
  exact ⟨_,st.en,rfl,l,v,hl,h1,k v h2⟩
theorem jkn (a:HA)(hx:Expr)(es:List Expr)(env:Env):YaM (unHA c n a hx::es) env=(false,eval (unHA c n a hx) env)::YaM es env:=by cases a <;> rfl
theorem HC.ats (h:HC T X c n ea C dx x):∀ {as:List HA} (_:as.all okHA=true) (hs:List Expr),PA X (jhs c n as hs) (fun σ H Q0=>∃ ς G us,HSt X n ea C dx x σ H ς G/\atsH x as=some us/\∀ vs,RUs X.K H us vs->Q0 vs H)
 | [],_,_=>fun pos pins s σ H Q0 I ⟨ς,G,us,st,e,k⟩=>by cases e; exact jc2 pos pins s σ H Q0 I (k [] rfl)
 | a::r,q,hs=>by
  simp only [YbZ,YaP] at q
  refine PA.imp (ja4 (h.at q.1 (hd hs)) (h.ats q.2 hs.tail) (jkn a _ _ _)) fun σ H Q0 ⟨ς,G,us,st,e,k⟩=>?_
  have e':(match atH x a,atsH x r with | some u,some us=>some (u::us) | _,_=>none)=some us:=e
  split at e'
  ·rename_i u us' e1 e2
   cases e'
   exact ⟨ς,G,u,st,e1,fun v rv=>⟨ς,G,us',st,e2,fun vs rvs=>k (v::vs) ⟨v,vs,rfl,rv,rvs⟩⟩⟩
  ·cases e'
theorem je0:∀ {as:List HA} {us:List U},atsH x as=some us->us.length=as.length
 | [],us,e=>by cases e; rfl
 | a::r,us,e=>by
  have e':(match atH x a,atsH x r with | some u,some us=>some (u::us) | _,_=>none)=some us:=e
  split at e'
  ·rename_i u us' e1 e2
   cases e'
   simp [je0 e2]
  ·cases e'
theorem HC.val (h:HC T X c n ea C dx x){e:HV}(q:okHV T.cs c e=true)(hx:Expr):PE X (unHV c n e hx) (hV X n ea C dx x fun ς G Q=>hvH x ς e G Q):=by
 cases e with
 | cond k a as=>
  have q':(okHL T.cs c a.2 && jcA T.cs c as)=true:=q
  refine PE.imp (h.cond k a as hx (ba q').1 (ba q').2).1 fun σ H Q0 ⟨ς,G,Q,st,e,lv⟩=>?_
  have e':(match ja1 x ς k a as with | some b=>Q (.bl b) G | none=>False):=e
  split at e'
  ·rename_i b eb
   exact ⟨ς,G,b,st,eb,fun H' hr f=>lv (.bl b) (.bl b) G H' rfl hr f e'⟩
  ·exact e'.elim
 | one a=>
  refine PE.imp (h.at (show okHA a=true from q) hx) fun σ H Q0 ⟨ς,G,Q,st,e,lv⟩=>?_
  have e':(match atH x a with | some u=>Q u G | none=>False):=e
  split at e'
  ·rename_i u eu
   exact ⟨ς,G,u,st,eu,fun v rv=>lv.here rv st.hr e'⟩
  ·exact e'.elim
 | bl b=>exact PE.imp jlv fun σ H Q0 ⟨ς,G,Q,st,e,lv⟩=>lv.bl st.hr e
 | tup as=>
  have q':(as.all okHA && decide (as.length<=8))=true:=q
  refine PE.imp (jgD (h.ats (ba q').1 (cl hx))) fun σ H Q0 ⟨ς,G,Q,st,e,lv⟩=>?_
  have e':(match atsH x as with | some us=>Q (.tup us) G | none=>False):=e
  split at e'
  ·rename_i us eu
   refine ⟨ς,G,us,st,eu,fun vs rvs=>⟨?_,fun p hp=>lv.tup hp rvs st.hr e'⟩⟩
   have:=of_decide_eq_true (ba q').2
   rw [<- rvs.length,je0 eu,YbK]; omega
  ·exact e'.elim
 | lst as=>
  have q':(as.all okHA && decide (as.length<=8))=true:=q
  refine PE.imp (jiD (h.ats (ba q').1 (cl hx))) fun σ H Q0 ⟨ς,G,Q,st,e,lv⟩=>?_
  have e':(match atsH x as with | some us=>newO G (.lst us) Q | none=>False):=e
  split at e'
  ·rename_i us eu
   refine ⟨ς,G,us,st,eu,fun vs rvs=>⟨?_,fun p hp=>lv.lst hp rvs st.hr e'⟩⟩
   have:=of_decide_eq_true (ba q').2
   rw [<- rvs.length,je0 eu,YbK]; omega
  ·exact e'.elim
theorem jg0 (e:HV)(hx:Expr)(y:Str)(p:Pos)(env:Env)(l:Nat):Ycy [.Name y p] (unHV c n e hx) l env=pure false/\Yci [.Name y p] (unHV c n e hx) env=pure none:=by
 cases e with
 | cond k a as=>
  cases as with
  | nil=>
   obtain ⟨neg,l⟩:=a
   cases neg <;> cases l <;> exact ⟨rfl,rfl⟩
  | cons=>exact ⟨rfl,rfl⟩
 | one a=>cases a <;> exact ⟨rfl,rfl⟩
 | _=>exact ⟨rfl,rfl⟩
theorem HC.store (h:HC T X c n ea C dx x){i:Nat}(q:okN c i=true){p:Pos}:PG X (.Name (nmA c i) p) (jg3 i):=by
 have q':(decide (i < c.N.length) && (kd c (nmA c i) .local || kd c (nmA c i) .cell))=true:=q
 have v:=(ba q').2
 simp only [Ydj] at v
 rcases v with v | v
 ·exact jeH (by rw [h.hN]; exact h.nd) (by rw [h.hN]; exact jgK (ba q').1) (.inl (h.loc _ v)) (.inr (h.loc _ v))
 ·exact jeH (by rw [h.hN]; exact h.nd) (by rw [h.hN]; exact jgK (ba q').1) (.inr (h.cel _ v).1) (.inl (h.cel _ v).2)
theorem HSt.set {σ:St}{H:Hp}{ς:Sg}{G:Gp}{i:Nat}{u:U}{v:V}(h:HSt X n ea C dx x σ H ς G)(hi:i≠n)(r:RU X.K H u v):HSt X n ea C dx x (σ.set i (some v)) H (ς.set i (some u)) G:=
 ⟨h.sr.set r i,h.hr,by rw [YbC hi]; exact h.en,h.xd⟩
theorem HC.asg (h:HC T X c n ea C dx x){i:Nat}{e:HV}(qi:okN c i=true)(hi:i≠n)(qe:okHV T.cs c e=true)(st:Stmt) :
  PS X (jjb c n i e st) (fun D σ H=>∃ (ς:Sg) (G:Gp) (k:Sg->Gp->Prop),HSt X n ea C dx x σ H ς G/\hvH x ς e G (fun u G1=>k (ς.set i (some u)) G1)/\∀ ς' σ' G' H',HSt X n ea C dx x σ' H' ς' G'->Fr H G H' G'->k ς' G'->D.nx σ' H'):=by
 refine PS.imp (jgx (h.val qe (q0 st)) (h.store qi) (jg0 e _ _ _ _ _).1 (jg0 e _ _ _ _ 0).2 rfl) fun D σ H ⟨ς,G,k,hs,hv,fin⟩=>?_
 exact ⟨ς,G,_,hs,hv,fun u v G' H' r hr f q=>fin _ _ G' H' ((hs.fr hr f).set hi r) f q⟩
noncomputable def hS (X:Cx)(n:Nat)(ea C dx:Addr)(x:XV)(hs:List HS):L2.TS:=fun D σ H=>∃ ς G k,HSt X n ea C dx x σ H ς G/\hsH x hs ς G k/\∀ ς' σ' G' H',HSt X n ea C dx x σ' H' ς' G'->Fr H G H' G'->k ς' G'->D.nx σ' H'
theorem HC.stmts (h:HC T X c n ea C dx x):∀ {hs:List HS} (_:hs.all (okHS T.cs c n)=true) (sts:List Stmt),PSs X (jex c n hs sts) (hS X n ea C dx x hs)
 | [],_,_=>PSs.imp jeE fun D σ H ⟨ς,G,k,st,q,fin⟩=>fin ς σ G H st (Fr.refl _ _) q
 | .asg i e::r,q,sts=>by
  simp only [YbZ,YaP] at q
  have q1:(okN c i && decide (i≠n) && okHV T.cs c e)=true:=q.1
  refine PSs.imp (jds (h.asg (ba (ba q1).1).1 (of_decide_eq_true (ba (ba q1).1).2) (ba q1).2 (qh sts)) (h.stmts q.2 sts.tail)) fun D σ H ⟨ς,G,k,st,hq,fin⟩=>?_
  exact ⟨ς,G,fun ς1 G1=>hsH x r ς1 G1 k,st,hq,fun ς' σ' G' H' st' f q'=>⟨ς',G',k,st',q',fun ς2 σ2 G2 H2 st2 f2 q2=>fin ς2 σ2 G2 H2 st2 (f.trans f2) q2⟩⟩
 | .ifa kk a as i e::r,q,sts=>by
  simp only [YbZ,YaP] at q
  have q1:(okHL T.cs c a.2 && jcA T.cs c as && okN c i && decide (i≠n) && okHV T.cs c e)=true:=q.1
  have p1:=jlj (pos:=(qh sts).pos) (h.cond kk a as (q0 (qh sts)) (ba (ba (ba (ba q1).1).1).1).1 (ba (ba (ba (ba q1).1).1).1).2).2 (jjA (h.asg (ba (ba (ba q1).1).1).2 (of_decide_eq_true (ba (ba q1).1).2) (ba q1).2 (qh (qa (qh sts))))) jeE
  refine PSs.imp (jds p1 (h.stmts q.2 sts.tail)) fun D σ H ⟨ς,G,k,st,hq,fin⟩=>?_
  have nxt:∀ ς' σ' G' H',HSt X n ea C dx x σ' H' ς' G'->Fr H G H' G'->hsH x r ς' G' k->hS X n ea C dx x r D σ' H':=fun ς' σ' G' H' st' f q'=>⟨ς',G',k,st',q',fun ς2 σ2 G2 H2 st2 f2 q2=>fin ς2 σ2 G2 H2 st2 (f.trans f2) q2⟩
  have hq':(match ja1 x ς kk a as with | some true=>hvH x ς e G fun u G1=>hsH x r (ς.set i (some u)) G1 k | some false=>hsH x r ς G k | none=>False):=hq
  split at hq'
  ·rename_i ec
   refine ⟨ς,G,true,st,ec,fun H' hr f=>?_⟩
   refine iteT ?_
   exact ⟨ς,G,fun ς1 G1=>hsH x r ς1 G1 k,st.fr hr f,hq',fun ς' σ' G' H'' st' f' q'=>nxt ς' σ' G' H'' st' (f.trans f') q'⟩
  ·rename_i ec
   refine ⟨ς,G,false,st,ec,fun H' hr f=>?_⟩
   refine iteF ?_
   exact nxt ς σ G H' (st.fr hr f) f hq'
  ·exact hq'.elim
end
theorem SR.hide {K:Yac}{H:Hp}{ς:Sg}{σ:St}(h:SR K H ς σ)(n:Nat)(o:Option V):SR K H (ς.set n none) (σ.set n o):=by
 refine ⟨by simp [h.1],fun i u e=>?_⟩
 by_cases z:i=n
 ·subst z
  rw [List.getElem?_set] at e
  simp only [if_true] at e
  split at e <;> cases e
 ·rw [YbC (Ne.symm z)] at e ⊢
  exact h.2 i u e
section
variable {T:Tab}{k:Nat}{X:Cx}{c:Ctx}
theorem s_try {n m : Nat}{b : List Stmt}{hs : List HS}{sts : List Stmt}{tb : US}{pt ph pos : Pos}(C : Cos T k X c)(hm : (decide (m = 0) || okC T.cs c m) = true)(hg : glo c (clsN m) = true)(hn : decide (n < c.N.length) = true)(hl : kd c (nmA c n) .local = true)(hd1 : (nmA c n == ("__debug__" : Str)) = false)(hd2 : (nmA c n == ("__classdict__" : Str)) = false)
    (hne : hs.isEmpty = false) (hok : hs.all (okHS T.cs c n) = true) (hb : ∀ (pins : List (Addr × Obj)) (xe : Value -> Shared -> Prop), Yey (model X.prog X.w) X.A X.env xe -> PSs (X.tryC pins xe) b (lS (X.tryC pins xe) tb)) :
    PS X (.Try b [.ExceptHandler (some (.Name (clsN m) pt)) (some (nmA c n)) (jex c n hs sts) ph] [] [] pos)
      (lS X fun D ς G => tb { D with ex := fun x ς1 G1 => (m = 0 \/ x.c = m) /\ hsH x hs (ς1.set n none) G1 fun ς2 G2 => D.nx (ς2.set n none) G2 } ς G) := by
  intro pins s σ H D I ⟨De, ς, G, hς, hG, h0, ld⟩
  obtain ⟨s0, sr, hse⟩ : ∃ s0 sr, jex c n hs sts = s0 :: sr := by
    cases hs with
    | nil => cases hne
    | cons a r => exact ⟨_, _, rfl⟩
  have nd : X.N.Nodup := by rw [C.hN]; exact C.nd
  have hi : X.N[n]? = some (nmA c n) := C.toCok.nm hn
  have hlc := C.loc _ hl
  obtain ⟨gl1, gl2⟩ := C.toCok.gl hg
  let XT : Value -> Shared -> Prop := fun e s₁ => wpAny (model X.prog X.w) X.A (Yge e X.env) (fun _ s₂ => wpAny (model X.prog X.w) X.A (Yeu e none) (fun _ s₃ => wpAny (model X.prog X.w) X.A (handleBy e X.env [.ExceptHandler (some (.Name (clsN m) pt)) (some (nmA c n)) (jex c n hs sts) ph]) (SP X pins D) X.xe s₃) X.xe s₂) X.xe s₁
  have main : ∀ (pins' : List (Addr × Obj)) (e : Value) (s' : Shared) (x : XV) ς' σ' G' H', Inv (X.tryC pins XT) pins' σ' H' s' -> SR X.K H' ς' σ' -> XAt (X.tryC pins XT) H' s' e x -> HR X.K H' G' -> Fr H G H' G' -> ((m = 0 \/ x.c = m) /\ hsH x hs (ς'.set n none) G' fun ς2 G2 => De.nx (ς2.set n none) G2) -> XT e s' := by
    intro pins' e s' x ς' σ' G' H' I' sr' xat hr' f' ⟨hmx, hq⟩
    obtain ⟨ea, C0, dx, rfl, l, xd⟩ := xat
    have xd0 := xd
    obtain ⟨x1, x2, xc, lx, hlx, hnx, rx⟩ := xd0
    have I0 : Inv (X.tryC pins XT) [] σ' H' s' := I'.pins_of fun p hp => absurd hp (by simp)
    refine jiM (X := X.tryC pins XT) (E := X.xe) I0 C.stk.1 C.stk.2 l fun h' J l' => ?_
    refine wpAny_handleBy_cons ?_ (by intro z; cases z)
    refine codeAny_handlers_test ?_
    have J' : Inv ((X.tryC pins XT).inH (.ref ea) []) [] σ' H' { s' with heap := h' } := J.hIn fun q hq => absurd hq (by simp)
    have fin : ∀ s2 : Shared, s2 = { s' with heap := h' } -> codeAny (model X.prog X.w) (X.A.mark (some (.ref ea))) (Code.handlers (.ref ea) [.ExceptHandler none (some (nmA c n)) (jex c n hs sts) ph] X.env)
        (fun r s₂ => match r with
          | .ok f => wpAny (model X.prog X.w) X.A (do bindName X.env (nmA c n) .none; unbindBehindTheSuite X.env (nmA c n) ph) (fun _ s₃ => SP X pins D f s₃) X.xe s₂
          | .error y => cameBackBy (model X.prog X.w) X.A X.env X.xe y s₂) s2 := by
      intro s2 es2
      subst es2
      rw [hse]
      refine codeAny_handlers_suite_as ?_
      refine jd9 (X := X.tryC pins XT) J l' fun h2 J2 l2 => ?_
      obtain ⟨oe, g1, g2, g3, ⟨vs, g4⟩, g5⟩ := l2.pinned J2
      have J3 : Inv ((X.tryC pins XT).inH (.ref ea) [(ea, oe)]) [] σ' H' { s' with heap := h2 } := J2.hIn g5
      refine jdo (X := (X.tryC pins XT).inH (.ref ea) [(ea, oe)]) (v := .ref ea) J3 nd hi (.inl hlc) rfl (fun s3 J4 => ?_) (.inr hlc)
      have hc : HC T ((X.tryC pins XT).inH (.ref ea) [(ea, oe)]) c n ea C0 dx x := ⟨C.hN, C.nd, C.loc, C.cel, C.fre, C.glb, C.blt, C.cls, xc, x1, x2, ⟨oe, vs, by simp only [Cx.inH]; exact Ya5 _ (List.mem_singleton.mpr rfl), g2, g3, g4⟩, C.mgK, of_decide_eq_true hn, hl, hd1, hd2⟩
      have hσ : n < σ'.length := by
        have := J3.len
        rw [this]
        exact (List.getElem?_eq_some_iff.mp hi).1
      have hst : HSt ((X.tryC pins XT).inH (.ref ea) [(ea, oe)]) n ea C0 dx x (σ'.set n (some (.ref ea))) H' (ς'.set n none) G' := ⟨sr'.hide n _, hr', by rw [YbS hσ], xd⟩
      rw [<- hse]
      refine Ybc (hc.stmts hok sts [] s3 _ H' ⟨fun σ2 H2 => D.nx (σ2.set n none) H2, fun _ _ => False, fun _ _ => False, fun _ _ => False⟩ J4 ⟨_, G', _, hst, hq, fun ς2 σ2 G2 H2 st2 f2 q2 => ?_⟩) (fun fl s4 q4 => ?_) fun _ _ z => YcC z
      · exact ld.nx _ _ G2 H2 (st2.sr.hide n none) st2.hr (f'.trans f2) q2
      · cases fl with
        | next =>
          obtain ⟨σ2, H2, J5, q5⟩ := q4
          exact jgL (X := X.tryC pins XT) (J5.hOut J.ok) nd hi hlc fun s5 J6 => ⟨σ2.set n none, H2, J6.tryOut, q5⟩
        | brk => obtain ⟨_, _, _, z⟩ := q4; exact z.elim
        | cont => obtain ⟨_, _, _, z⟩ := q4; exact z.elim
        | ret u => obtain ⟨_, _, _, _, _, z⟩ := q4; exact z.elim
    obtain ⟨oe, vs, he, hcl, _⟩ := l'.ob
    by_cases m0 : m = 0
    · obtain ⟨D0, N0, fI, mN, mD, B, _⟩ := xc.ex
      have hmg : X.mg (clsN m) = some (.ref D0) := by rw [m0]; exact C.mgK _ _ B.m
      refine jb3 J' gl1 hmg ?_ gl2
      refine jfZ (X := X) xc B J'.kIn he hcl ?_
      exact fin _ rfl
    · have hm' : okC T.cs c m = true := by simpa [m0] using hm
      have hxm : x.c = m := hmx.resolve_left m0
      obtain ⟨m1, m2, m3, m4⟩ := jdY hm'
      obtain ⟨Cm, cm⟩ := C.cls m m3 m1
      refine jb3 J' gl1 (C.mgK _ _ cm.m) ?_ gl2
      refine jgN (X := X) xc cm (jeh m m2 m1) J'.kIn he hcl ?_
      rw [hxm, decide_eq_true rfl]
      exact fin _ rfl
  refine wpAny_Try_except (Ybc (hb pins XT Yfi [] s σ H ⟨D.nx, D.rt, D.bk, D.ct⟩ I.tryIn ⟨_, ς, G, hς, hG, h0, ⟨ld.nx, ld.rt, main⟩⟩) (fun fl s1 q1 => ?_) fun e s1 z => z)
  cases fl with
  | next =>
    obtain ⟨σ', H', J, q⟩ := q1
    exact Yd1 ⟨σ', H', J.tryOut, q⟩
  | brk => obtain ⟨σ', H', J, q⟩ := q1; exact ⟨σ', H', J.tryOut, q⟩
  | cont => obtain ⟨σ', H', J, q⟩ := q1; exact ⟨σ', H', J.tryOut, q⟩
  | ret u => obtain ⟨v, σ', H', J, r, q⟩ := q1; exact ⟨v, σ', H', J.tryOut, r, q⟩
end
section
variable {T:Tab}{k:Nat}
theorem jj7 (b:Blt):bltN b∈jcR:=by cases b <;> decide
noncomputable abbrev SE (T:Tab)(k:Nat)(X:Cx)(c:Ctx)(ir:E)(h:Expr):Prop:=PE X (unE T c ir h) (lE X (den T.gs (jac T k) ir).1)/\PT X (unE T c ir h) (lT X (den T.gs (jac T k) ir).2)
section
variable {X:Cx}{c:Ctx}
theorem tru {e:Expr}{t:UE}(h:PE X e (lE X t))(hp:∀ whole,isTrue e X.env whole=(do let v <- whole; standAt e.pos; holding [v] (truthy v))):PE X e (lE X t)/\PT X e (lT X (truT t)):=⟨h,jm5 h hp⟩
theorem jk8 {a b:Expr}{rest:List Expr}{pos:Pos}{p q:UE×UT}(ha:PE X a (lE X p.1)/\PT X a (lT X p.2))(hb:PE X (.BoolOp .And (b::rest) pos) (lE X q.1)/\PW X (.BoolOp .And (b::rest) pos) (lT X q.2)) :
  PE X (.BoolOp .And (a::b::rest) pos) (lE X (comb true p q).1)/\PW X (.BoolOp .And (a::b::rest) pos) (lT X (comb true p q).2):=⟨jni ha.1 hb.1,jkU ha.2 hb.2⟩
theorem jnx {a b:Expr}{rest:List Expr}{pos:Pos}{p q:UE×UT}(ha:PE X a (lE X p.1)/\PT X a (lT X p.2))(hb:PE X (.BoolOp .Or (b::rest) pos) (lE X q.1)/\PW X (.BoolOp .Or (b::rest) pos) (lT X q.2)) :
  PE X (.BoolOp .Or (a::b::rest) pos) (lE X (comb false p q).1)/\PW X (.BoolOp .Or (a::b::rest) pos) (lT X (comb false p q).2):=⟨u_or ha.1 hb.1,jm7 ha.2 hb.2⟩
theorem se_v {i:Nat}{h:Expr}(C:Cok T k X c)(q:okE T c (.v i) h=true):SE T k X c (.v i) h:=tru (jm1 (C.nm (ba (ba (ba q).1).1).1) (C.vis (ba (ba (ba q).1).1).2) (bn (ba (ba q).1).2) (bn (ba q).2)) fun _=>rfl
theorem jk4 {es:Es}{h:Expr}{trs:List (TE×TE)}(h1:PPs X h.pos (unK T c es (dk h)) (unV T c es (cl h)) trs)(h2:lD X (denD T.gs (jac T k) es) trs)(h3:(unK T c es (dk h)).all (·.isSome)=true)(h4:(unK T c es (dk h)).length=(unV T c es (cl h)).length)
  (h5:(unK T c es (dk h)).length<=15):SE T k X c (.dic es) h:=by
 refine tru ?_ fun _=>rfl
 match es,h1,h2,h3,h4,h5 with
 | .nil,_,_,_,_,_=>exact PE.imp jkR fun σ H Q0 ⟨ς,G,Q,E,hς,hG,h,lv,lx⟩=>⟨ς,G,Q,E,hς,hG,(show ([]:List (Key×U)).length<=15/\newO G (.dK (jcN [])) Q from h).2,lv,lx⟩
 | .cons _ .nil,_,_,_,_,_=>exact fun pins s σ H Q0 I ⟨ς,G,Q,E,hς,hG,h,lv,lx⟩=>(show False from h).elim
 | .cons d (.cons f es),h1,h2,h3,h4,h5=>exact jne h1 h2 h3 h4 (fun z=>nomatch z) h5
theorem jjr {n:Nat}{es:Es}{h:Expr}(C:Cok T k X c)(q:okE T c (.call n es) h=true)(ha:PA X (unEs T c es (cl h)) (lA X (jaZ T.gs (jac T k) es))):SE T k X c (.call n es) h:=by
 refine tru ?_ fun _=>rfl
 have hn:=of_decide_eq_true (ba (ba q).1).1
 have hd':T.funs[n]?=some T.funs[n]:=by simp [hn]
 have hx:T.funs[n].name=fnN T n:=by unfold fnN; rw [hd']
 match es,ha with
 | .nil,_=>exact jjd C hd' hx (ba (ba q).1).2
 | .cons d es,ha=>exact jkT C hd' hx (ba (ba q).1).2 ha (jak (jar d _) _ _) (jbR es _ _ _).1
theorem jk5 {b:Blt}{es:Es}{h:Expr}(C:Cok T k X c)(q:okE T c (.blt b es) h=true)(ha:PA X (unEs T c es (cl h)) (lA X (jaZ T.gs (jac T k) es))):SE T k X c (.blt b es) h:=by
 refine tru ?_ fun _=>rfl
 obtain ⟨g1,g2⟩:=C.gl (ba (ba q).1).2
 match es,ha,q with
 | .nil,_,q=>exact absurd (of_decide_eq_true (ba (ba q).1).1) (YbB 0)
 | .cons d es,ha,_=>exact jng (jmq C.room C.calm b) g1 (C.blt _ (jj7 b)) ha (jak (jar d _) _ _) (jbR es _ _ _).1
theorem jjq {m:Mth}{o:E}{es:Es}{h:Expr}(q:okE T c (.meth m o es) h=true)(ho:PE X (unE T c o (c0 (c0 h))) (lE X (den T.gs (jac T k) o).1))(ha:PA X (unEs T c es (cl h)) (lA X (jaZ T.gs (jac T k) es))):SE T k X c (.meth m o es) h:=by
 refine tru ?_ fun _=>rfl
 have h6:=(ba q).2
 have h5:=of_decide_eq_true (ba (ba q).1).2
 have h4:=(ba (ba (ba q).1).1).2
 match es,ha,h5 with
 | .nil,_,_=>exact jjc (jiI m) ho (jcT h6 _ _ _) h4
 | .cons d es,ha,h5=>
  refine jkO (jiI m) ho ha (jcT h6 _ _ _) ?_ h4 (jak (jar d _) _ _) (jbR es _ _ _).1
  have e:=(jbR (T:=T) (c:=c) (.cons d es) (cl h) X.env h.pos).2
  show ((backTo h.pos (YaM (unEs T c (.cons d es) (cl h)) X.env)).all (fun x=>!x.1) && _ && decide ((unEs T c (.cons d es) (cl h)).length + 0 + 0 < 30))=true
  rw [e,jiq]
  exact decide_eq_true h5
theorem jk6 {d:E}{e:Expr}(h:PT X e (lT X (den T.gs (jac T k) d).2)):PIfs X [e] (lT0 X.K (denC T.gs (jac T k) (.cons d .nil))):=by
 refine PIfs.imp (jjJ (lT0.of h)) fun σ H Q0 ⟨ς,G,Q,h1,h2,h3,h4⟩=>⟨ς,G,fun b G'=>Q b G',h1,h2,?_,h4⟩
 have h3':(den T.gs (jac T k) d).2 ς G (fun b G1=>if b=true then Q true G1 else Q false G1) (fun _ _=>False):=h3
 have e:(fun (b:Bool) (G1:Gp)=>if b=true then Q true G1 else Q false G1)=fun b G'=>Q b G':=by
  funext b G1
  cases b <;> simp
 rw [e] at h3'
 exact h3'
theorem jk7:PIfs X [] (lT0 X.K (denC T.gs (jac T k) .nil)):=PIfs.imp jjK fun σ H Q0 ⟨ς,G,Q,h1,h2,h3,h4⟩=>h4 true G H h2 (Fr.refl _ _) h3
theorem jl4:∀ (es:Es) (hs:List Expr),2 * (unK T c es hs).length<=jb2 es
 | .nil,_=>Yak _
 | .cons _ .nil,_=>YbA _
 | .cons _ (.cons _ es),hs=>by
  have:=jl4 es hs.tail
  show 2 * ((unK T c es hs.tail).length + 1)<=jb2 es + 1 + 1
  omega
theorem k_le {es:Es}{hs:List Expr}(h:jb2 es<=30):(unK T c es hs).length<=15:=by
 have:=jl4 (T:=T) (c:=c) es hs
 omega
end
mutual
theorem sE : ∀ (ir : E) {X : Cx} {c : Ctx} {h : Expr}, Cok T k X c -> okE T c ir h = true -> SE T k X c ir h
  | .v _, _, _, _, C, q => se_v C q
  | .non, _, _, _, _, _ => tru (jdl (u := .non) jls fun _ => rfl) fun _ => rfl
  | .bl b, _, _, _, _, _ => tru (jdl (u := .bl b) jlv fun _ => rfl) fun _ => rfl
  | .int i, _, _, _, _, _ => tru (jdl (u := .int i) jlu fun _ => rfl) fun _ => rfl
  | .str x, _, _, _, _, _ => tru (jdl (u := .str x) jiC fun _ => rfl) fun _ => rfl
  | .g _, _, _, _, _, q => nomatch q
  | .ty _, _, _, _, _, q => nomatch q
  | .bin o a b, _, _, _, C, q => tru (jnh (jlC o) (sE a C (ba q).1).1 (sE b C (ba q).2).1) fun _ => rfl
  | .neg a, _, _, _, C, q => tru (jm9 (sE a C q).1) fun _ => rfl
  | .not a, _, _, _, C, q => ⟨jm8 (sE a C q).1, jkN (sE a C q).2⟩
  | .bop k a es, _, _, h, C, q => let r := sB es k C (sE a C (ba q).1) (ba q).2 h.pos; ⟨r.1, r.2.pt⟩
  | .cmp o a b, _, _, _, C, q => ⟨jnf (ji1 C.room o) (sE a C (ba (ba q).1).1).1 (sE b C (ba (ba q).1).2).1 (bn (ba q).2), jkS (ji1 C.room o) (sE a C (ba (ba q).1).1).1 (sE b C (ba (ba q).1).2).1 (bn (ba q).2)⟩
  | .cmp2 _ _ _ _ _, _, _, _, _, q => nomatch q
  | .ife t a b, _, _, _, C, q => ⟨jnd (sE t C (ba (ba q).1).1).2 (sE a C (ba (ba q).1).2).1 (sE b C (ba q).2).1, jkP (sE t C (ba (ba q).1).1).2 (sE a C (ba (ba q).1).2).2 (sE b C (ba q).2).2⟩
  | .tup es, _, _, _, C, q => tru (jm2 (sEs es C q)) fun _ => rfl
  | .lst es, _, _, _, C, q => tru (jnc (sEs es C q)) fun _ => rfl
  | .dic es, _, _, h, C, q => let ⟨_, h1, h2, h3, h4⟩ := sD es C h.pos (ba q).1; jk4 h1 h2 h3 h4 (k_le (of_decide_eq_true (ba q).2))
  | .dicT, _, _, _, _, _ => tru jkQ fun _ => rfl
  | .ix a b, _, _, _, C, q => tru (u_ix C.hu (sE a C (ba q).1).1 (sE b C (ba q).2).1 (jkm (jar b _))) fun _ => rfl
  | .sl a lo hi, _, _, _, C, q => tru (u_sl (sE a C (ba (ba q).1).1).1 (sO lo C (ba (ba q).1).2) (sO hi C (ba q).2)) fun _ => rfl
  | .rev a b, _, _, _, C, q => tru (jm6 (sE a C (ba q).1).1 (sE b C (ba q).2).1) fun _ => rfl
  | .call _ es, _, _, _, C, q => jjr C q (sEs es C (ba q).2)
  | .app _ _, _, _, _, _, q => nomatch q
  | .blt _ es, _, _, _, C, q => jk5 C q (sEs es C (ba q).2)
  | .meth _ o es, _, _, _, C, q => jjq q (sE o C (ba (ba (ba (ba q).1).1).1).1).1 (sEs es C (ba (ba (ba (ba q).1).1).1).2)
  | .lc _ t it ifs d, _, _, _, C, q => let S := C.comp (ba (ba (ba (ba (ba (ba q).1).1).1).1).1).1
      tru (u_lc C.calm S.1 (sI it t _ _ C (ba (ba (ba (ba q).1).1).1).2).1 (ba (ba (ba (ba (ba (ba q).1).1).1).1).1).2 (fun cl A s₀ H₀ fp => sTg (S.2 cl A s₀ H₀ fp) t _ (ba (ba (ba (ba (ba q).1).1).1).1).2)
        (fun cl A s₀ H₀ fp => sC ifs (S.2 cl A s₀ H₀ fp) (of_decide_eq_true (ba (ba q).1).2) (ba (ba (ba q).1).1).2) (fun cl A s₀ H₀ fp => lE0.of (sE d (S.2 cl A s₀ H₀ fp) (ba q).2).1) (sI it t ⟨[], []⟩ e0 C (ba (ba (ba (ba q).1).1).1).2).2) fun _ => rfl
  | .lc2 _ _ _ _ _ _ _ _, _, _, _, _, q => nomatch q
  | .mkD _, _, _, _, _, q => nomatch q
  | .maxD _, _, _, _, _, q => nomatch q
  | .minD _, _, _, _, _, q => nomatch q
  | .mkL d, _, _, _, C, q => tru (jnb (C.gl (ba q).1).1 (C.blt _ (by decide)) (sE d C (ba q).2).1 (jak (jar d _) _ _)) fun _ => rfl
  | .mkT d, _, _, _, C, q => tru (jna (C.gl (ba q).1).1 (C.blt _ (by decide)) (sE d C (ba q).2).1 (jak (jar d _) _ _)) fun _ => rfl
  | .rngL d, _, _, _, C, q => tru (jkM C.calm (C.gl (ba (ba q).1).1).1 (C.blt _ (by decide)) (C.gl (ba (ba q).1).2).1 (C.blt _ (by decide)) (sE d C (ba q).2).1 (jak (jar d _) _ _) rfl) fun _ => rfl
  | .rngT _, _, _, _, _, q => nomatch q
  | .rngL2 _ _, _, _, _, _, q => nomatch q
theorem sO : ∀ (ir : Eo) {X : Cx} {c : Ctx} {h : Expr}, Cok T k X c -> okO T c ir h = true -> PO X (unO T c ir h) (lO X (denO T.gs (jac T k) ir))
  | .no, _, _, _, _, _ => u_no
  | .so d, _, _, _, C, q => u_so (sE d C q).1
theorem sEs : ∀ (ir : Es) {X : Cx} {c : Ctx} {hs : List Expr}, Cok T k X c -> okEs T c ir hs = true -> PA X (unEs T c ir hs) (lA X (jaZ T.gs (jac T k) ir))
  | .nil, _, _, _, _, _ => jgi
  | .cons d ir, _, _, _, C, q => jdM (sE d C (ba q).1).1 (sEs ir C (ba q).2) (jak (jar d _) _ _)
theorem sB : ∀ (ir : Es) (b : Bool) {X : Cx} {c : Ctx} {hs : List Expr} {a : Expr} {p : UE × UT}, Cok T k X c -> PE X a (lE X p.1) /\ PT X a (lT X p.2) -> okEs T c ir hs = true -> ∀ pos : Pos,
    PE X (.BoolOp (boU b) (a :: unEs T c ir hs) pos) (lE X (denB T.gs (jac T k) b p ir).1) /\ PW X (.BoolOp (boU b) (a :: unEs T c ir hs) pos) (lT X (denB T.gs (jac T k) b p ir).2)
  | .nil, true, _, _, _, _, _, _, ha, _, _ => ⟨jfn ha.1, pw_and1 ha.2⟩
  | .nil, false, _, _, _, _, _, _, ha, _, _ => ⟨jfn ha.1, pw_or1 ha.2⟩
  | .cons d ir, true, _, _, _, _, _, C, ha, q, pos => jk8 ha (sB ir true C (sE d C (ba q).1) (ba q).2 pos)
  | .cons d ir, false, _, _, _, _, _, C, ha, q, pos => jnx ha (sB ir false C (sE d C (ba q).1) (ba q).2 pos)
theorem sC : ∀ (ir : Es) {X : Cx} {c : Ctx} {hs : List Expr}, Cok T k X c -> jb2 ir <= 1 -> okEs T c ir hs = true -> PIfs X (unEs T c ir hs) (lT0 X.K (denC T.gs (jac T k) ir))
  | .nil, _, _, _, _, _, _ => jk7
  | .cons d .nil, _, _, _, C, _, q => jk6 (sE d C (ba q).1).2
  | .cons _ (.cons _ es), _, _, _, _, l, _ => absurd l (by show ¬ (jb2 es + 1 + 1 <= 1); omega)
theorem sD : ∀ (ir : Es) {X : Cx} {c : Ctx} {hs gs : List Expr}, Cok T k X c -> (p : Pos) -> okD T c ir hs gs = true -> ∃ trs, PPs X p (unK T c ir hs) (unV T c ir gs) trs /\ lD X (denD T.gs (jac T k) ir) trs /\ (unK T c ir hs).all (·.isSome) = true /\ (unK T c ir hs).length = (unV T c ir gs).length
  | .nil, _, _, _, _, _, _, _ => ⟨[], jjE, jlY, rfl, rfl⟩
  | .cons d (.cons f ir), _, _, _, _, C, p, q => let ⟨_, h1, h2, h3, h4⟩ := sD ir C p (ba q).2; ⟨_, jhM (sE d C (ba (ba q).1).1).1 (sE f C (ba (ba q).1).2).1 h1, jkc h2, h3, congrArg (· + 1) h4⟩
  | .cons _ .nil, _, _, _, _, _, _, q => nomatch q
theorem sI : ∀ (ir : It) (t : Tg) (ct : Ctx) (ht : Expr) {X : Cx} {c : Ctx} {h : Expr}, Cok T k X c -> okI T c t ir h = true -> PI X (unTg ct t ht) (unI T c ir h) (lI X (denI T.gs (jac T k) ir)) /\ ∀ x, Ybv (unI T c ir h) X.env x = pure x
  | .e d, _, _, _, _, _, _, C, q => ⟨u_ie (sE d C q).1, jbN (jar d _) _⟩
  | .r1 d, _, _, _, _, _, _, C, q => ⟨u_r1 (C.gl (ba q).1).1 (C.blt _ (by decide)) (sE d C (ba q).2).1 (jak (jar d _) _ _), fun _ => rfl⟩
  | .r2 _ _, _, _, _, _, _, _, _, q => nomatch q
  | .enum _, _, _, _, _, _, _, _, q => nomatch q
  | .dk d, _, _, _, _, _, _, C, q => ⟨u_dk (sE d C q).1, jbN (jar d _) _⟩
end
end
section
variable {c:Ctx}{env:Env}
noncomputable def swF (sb:Bool)(names:List Str)(bk:ScopeKind)(ts vs:List Expr):Sem (Option (List Str)):=
 if (!(ts.length == 2 || ts.length == 3) || vs.length != ts.length || bk != .function)=true then pure none
 else if sb=true then pure none
 else if (names.length != ts.length || names.eraseDups.length != names.length)=true then pure none
 else if vs.all (foldedForSure 8)=true then pure none
 else if vs.all (constantsAlone 8)=true then do unsupported "assign.tuple-of-constant-expressions:order-of-the-stores"; pure (some names)
 else pure (some names)
noncomputable def jdn (env:Env)(ts:List Expr):List Str:=ts.filterMap fun
  | .Name id pos=>if env.kindOf id == some .local && pos.line == jiu ts then some id else none
  | _=>none
theorem jnt {ts vs:List Expr}{a b:Nat}{p q:Pos}:Yci [.Tuple ts a p] (.Tuple vs b q) env=swF (vs.any jgX) (jdn env ts) env.blockKind ts vs:=by
 have e1:jgX=fun | .Starred ..=>true | _=>false:=by funext e; cases e <;> rfl
 with_unfolding_all rfl
theorem jhw (hk:∀ x,env.kindOf x=c.sc.lookup x)(ts:List Expr):jdn env ts=jaT c ts:=by
 unfold jaT jdn
 congr 1
 funext e
 cases e <;> first | rfl | (dsimp only; rw [hk])
theorem jgp (hk:∀ x,env.kindOf x=c.sc.lookup x)(hb:env.blockKind=.function){ts vs:List Expr}{a b:Nat}{p q:Pos}(h:jbZ c ts vs=true):Yci [.Tuple ts a p] (.Tuple vs b q) env=pure none:=by
 rw [jnt,jhw hk,hb]
 unfold swF
 unfold jbZ at h
 by_cases h1:(!(ts.length == 2 || ts.length == 3) || vs.length != ts.length)=true
 ·rw [if_pos (by rw [h1]; rfl)]
 ·have h1':(!(ts.length == 2 || ts.length == 3) || vs.length != ts.length)=false:=by simpa using h1
  rw [h1'] at h
  rw [if_neg (by rw [h1']; decide)]
  simp only [Yfa,YaP,Ygb] at h
  obtain ⟨h2,h3⟩:=h
  rw [if_neg (by rw [h2]; decide)]
  by_cases h4:((jaT c ts).length != ts.length || (jaT c ts).eraseDups.length != (jaT c ts).length)=true
  ·rw [if_pos h4]
  ·rw [if_neg h4]
   have h4':((jaT c ts).length != ts.length || (jaT c ts).eraseDups.length != (jaT c ts).length)=false:=by simpa using h4
   rw [h4'] at h3
   rw [if_pos (by simpa using h3)]
theorem jhv (hk:∀ x,env.kindOf x=c.sc.lookup x)(hb:env.blockKind=.function){elt:Expr}{gs:List Yck}{s:Scope}{p py:Pos}{y:Str}{l:Nat}(h:lcSw c y py p s=true) :
  YcI (.ListComp elt gs s p) (some (.Name y py)) l env=pure true:=by
 unfold lcSw at h
 simp only [YaP] at h
 unfold YcI
 dsimp only
 show (pure (env.blockKind == .function && env.kindOf y == some .local && py.line == p.line && !(s.names.any fun (n,k)=>n == y && (k == .local || k == .cell))):Sem Bool)=pure true
 rw [hb,hk,h.1.1,h.1.2,h.2]
 rfl
theorem jfk (hk:∀ x,env.kindOf x=c.sc.lookup x){elt:Expr}{gs:List Yck}{s:Scope}{p py:Pos}{y:Str}{l:Nat}(h:(c.sc.lookup y == some .local)=false) :
  Ycy [.Name y py] (.ListComp elt gs s p) l env=pure false:=by
 show (pure (env.blockKind == .function && env.kindOf y == some .local && py.line == p.line && !(s.names.any fun (n,k)=>n == y && (k == .local || k == .cell))):Sem Bool)=pure false
 rw [hk,h]
 simp
end
section
variable {T:Tab}{k:Nat}
theorem Cos.kindOf {X:Cx}{c:Ctx}(C:Cos T k X c):∀ x,X.env.kindOf x=c.sc.lookup x:=fun x=>by
 unfold Env.kindOf
 rw [C.sc]
theorem Cos.block {X:Cx}{c:Ctx}(C:Cos T k X c):X.env.blockKind=.function:=by
 unfold Env.blockKind
 rw [C.kind]
 rfl
section
variable {X:Cx}{c:Ctx}
theorem jkY {t:Tg}{d:E}{h:Stmt}(C:Cos T k X c)(q:okS T c (.asg t d) h=true)(hs:PE X (unE T c d (q0 h)) (lE X (den T.gs (jac T k) d).1)):PS X (unS T c (.asg t d) h) (lS X (denS T.gs (jac T k) (.asg t d))):=by
 have hg:=sTg C.toCok t (q1 h) (ba (ba q).1).2
 have q3:=(ba q).2
 have fin:Ycy [unTg c t (q1 h)] (unE T c d (q0 h)) h.pos.line X.env=pure false/\Yci [unTg c t (q1 h)] (unE T c d (q0 h)) X.env=pure none:=by
  cases t with
  | n i=>
   refine ⟨?_,jm0 d _ _ _ _⟩
   by_cases hl:isLc d=true
   ·cases d with
    | lc=>exact jfk C.kindOf (bn q3)
    | lc2=>exact jfk C.kindOf (bn q3)
    | _=>cases hl
   ·exact ji7 (by simpa using hl) _ _ _ _
  | t ts=>
   cases d with
   | lc=>cases q3
   | lc2=>cases q3
   | tup es=>exact ⟨rfl,jgp C.kindOf C.block q3⟩
   | _=>exact ⟨rfl,rfl⟩
 exact s_asg hs hg fin.1 fin.2 (ji9 t _ _)
theorem jjl {i:Nat}{d:E}{h:Stmt}(C:Cos T k X c)(q:okS T c (.asgC i d) h=true):PS X (unS T c (.asgC i d) h) (lS X (denS T.gs (jac T k) (.asgC i d))):=by
 have qd:=(ba (ba (ba q).1).1)
 have hl:=(ba q).2
 have hi:=C.nm (ba (ba q).1).2
 have hy:=eq_of_beq (ba (ba hl).1).1
 cases d with
 | lc pick t it ifs d=>
  have q1':=qd.2
  have S:=C.toCok.comp (ba (ba (ba (ba (ba (ba q1').1).1).1).1).1).1
  exact s_lc (by rw [C.hN]; exact C.nd) hi (by rw [C.sc]; exact hy) C.calm S.1 (sI it t _ _ C.toCok (ba (ba (ba (ba q1').1).1).1).2).1 (ba (ba (ba (ba (ba (ba q1').1).1).1).1).1).2
   (fun cl A s₀ H₀ fp=>sTg (S.2 cl A s₀ H₀ fp) t _ (ba (ba (ba (ba (ba q1').1).1).1).1).2) (fun cl A s₀ H₀ fp=>sC ifs (S.2 cl A s₀ H₀ fp) (of_decide_eq_true (ba (ba q1').1).2) (ba (ba (ba q1').1).1).2)
   (fun cl A s₀ H₀ fp=>lE0.of (sE d (S.2 cl A s₀ H₀ fp) (ba q1').2).1) (jhv C.kindOf C.block hl) (ji8 it _ _)
 | lc2 pick t it ifs t2 it2 ifs2 d=>exact Bool.noConfusion (show false=true from qd.2)
 | _=>cases qd.1
theorem jhx {n:Nat}{es:Es}{h:Stmt}(C:Cos T k X c)(q:okS T c (.raise n es) h=true):PS X (unS T c (.raise n es) h) (lS X (denS T.gs (jac T k) (.raise n es))):=by
 have q':(okC T.cs c n && decide (0 < jb2 es) && okEs T c es (cl (qr h)))=true:=q
 match es,q' with
 | .nil,q'=>exact absurd (of_decide_eq_true (ba (ba q').1).2) (YbB 0)
 | .cons d es,q'=>exact s_raise C.toCok (ba (ba q').1).1 (sEs (.cons d es) C.toCok (ba q').2) (jak (jar d _) _ _) (jbR es _ _ _).1
theorem Cos.tryC {pins:List (Addr×Obj)}{xe:Value->Shared->Prop}(C:Cos T k X c)(po:Yey (model X.prog X.w) X.A X.env xe):Cos T k (X.tryC pins xe) c:=
 ⟨⟨C.hN,C.nd,C.loc,C.cel,C.fre,C.glb,C.room,C.calm,po,C.blt,C.fns,C.gls,C.room2,C.cls,C.mgK⟩,C.sc,C.kind,C.stk⟩
end
mutual
theorem sS : ∀ (ir : S) {X : Cx} {c : Ctx} {h : Stmt}, Cos T k X c -> okS T c ir h = true -> PS X (unS T c ir h) (lS X (denS T.gs (jac T k) ir))
  | .pass, _, _, _, _, q => nomatch q
  | .expr d, _, _, _, C, q => s_expr (sE d C.toCok (ba q).1).1 (jja (bn (ba q).2) _ _ _)
  | .asg _ d, _, _, _, C, q => jkY C q (sE d C.toCok (ba (ba q).1).1).1
  | .asgC _ _, _, _, _, C, q => jjl C q
  | .setS o i d, _, _, _, C, q => s_set C.toCok.hu (sE d C.toCok (ba (ba q).1).1).1 (sE o C.toCok (ba (ba q).1).2).1 (sE i C.toCok (ba q).2).1 (jip d _ _ _ _ _ _).1 (jip d _ _ _ _ _ 0).2 rfl (jh6 (jar i _) _ _)
  | .par _ _, _, _, _, _, q => nomatch q
  | .aug _ _ d, _, _, _, C, q => let s := C.toCok.store (ba (ba q).1).2; s_aug (by rw [C.hN]; exact C.nd) (C.nm (ba (ba q).1).1) s.1 s.2 (sE d C.toCok (ba q).2).1
  | .augS _ _ _ _, _, _, _, _, q => nomatch q
  | .ite t a b, _, _, _, C, q => s_if (sE t C.toCok (ba (ba q).1).1).2 (sSs a C (ba (ba q).1).2) (sSs b C (ba q).2)
  | .fr t it b, _, _, _, C, q => s_for C.po C.calm (sI it t _ _ C.toCok (ba (ba q).1).2).1 (sTg C.toCok t _ (ba (ba q).1).1) (sSs b C (ba q).2) (sI it t ⟨[], []⟩ e0 C.toCok (ba (ba q).1).2).2
  | .wh _ _, _, _, _, _, q => nomatch q
  | .ret d, _, _, _, C, q => s_ret (sE d C.toCok q).1
  | .retN, _, _, _, _, q => nomatch q
  | .never, _, _, _, _, _ => fun _ _ _ _ _ _ ⟨_, _, _, _, _, q, _⟩ => (show False from q).elim
  | .raise _ _, _, _, _, C, q => jhx C q
  | .tr b _ _ _, _, _, _, C, q => s_try C (ba (ba (ba (ba (ba (ba (ba (ba q).1).1).1).1).1).1).1).2 (ba (ba (ba (ba (ba (ba (ba q).1).1).1).1).1).1).2 (ba (ba (ba (ba (ba (ba q).1).1).1).1).1).2 (ba (ba (ba (ba (ba q).1).1).1).1).2 (bn (ba (ba (ba (ba q).1).1).1).2) (bn (ba (ba (ba q).1).1).2) (bn (ba (ba q).1).2) (ba q).2
      fun _ _ po => sSs b (C.tryC po) (ba (ba (ba (ba (ba (ba (ba (ba q).1).1).1).1).1).1).1).1
theorem sSs : ∀ (ir : Ss) {X : Cx} {c : Ctx} {hs : List Stmt}, Cos T k X c -> okSs T c ir hs = true -> PSs X (unSs T c ir hs) (lS X (jaD T.gs (jac T k) ir))
  | .nil, _, _, _, _, _ => s_nil
  | .cons s r, _, _, _, C, q => s_cons (t := denS T.gs (jac T k) s) (u := jaD T.gs (jac T k) r) (sS s C (ba q).1) (sSs r C (ba q).2)
end
end
noncomputable def scB (N ps:List Str)(sc:Scope):Bool:=
 decide (sc.kind=.function) && !sc.isCoroutine && !sc.isGenerator && decide N.Nodup && (N.take ps.length == ps) && ps.all (fun x=>sc.names.lookup x == some .local || sc.names.lookup x == some .cell) && sc.names.all (fun y=>y.2 != .free)
theorem jjs {N ps:List Str}{sc:Scope}(h:scB N ps sc=true):FnScope N ps sc:=by
 unfold scB at h
 simp only [YaP,decide_eq_true_eq,Ygb] at h
 obtain ⟨⟨⟨⟨⟨⟨h1,h2⟩,h3⟩,h4⟩,h5⟩,h6⟩,h7⟩:=h
 refine ⟨h1,h2,h3,h4,eq_of_beq h5,fun x hx=>?_,fun y hy=>?_⟩
 ·have:=List.all_eq_true.mp h6 x hx
  simpa using this
 ·simpa using List.all_eq_true.mp h7 y hy
noncomputable def jeG (T:Tab):List Fun->List Stmt->Bool
 | [],[]=>true
 | d::ds,st::sts=>scB d.N d.ps (defScope st) && okSs T ⟨d.N,(defScope st).names⟩ d.body (defBody st) && jeG T ds sts
 | _,_=>false
noncomputable def jfR (T:Tab):List Fun->List Stmt->Prop
 | [],_=>True
 | d::ds,st::sts=>unSs T ⟨d.N,(defScope st).names⟩ d.body (defBody st)=defBody st/\jfR T ds sts
 | _::_,[]=>False
theorem jdt {T:Tab}:∀ {ds:List Fun} {sts:List Stmt},jeG T ds sts=true->jfR T ds sts->∀ {n:Nat} {d:Fun},ds[n]?=some d->∃ st,sts[n]?=some st/\scB d.N d.ps (defScope st)=true/\okSs T ⟨d.N,(defScope st).names⟩ d.body (defBody st)=true/\unSs T ⟨d.N,(defScope st).names⟩ d.body (defBody st)=defBody st
 | [],_,_,_,_,_,e=>by simp at e
 | _::_,[],h,_,_,_,_=>by unfold jeG at h; cases h
 | d::ds,st::sts,h,g,n,d',e=>by
  unfold jeG at h
  unfold jfR at g
  simp only [YaP] at h
  cases n with
  | zero=>
   simp at e
   subst e
   exact ⟨st,rfl,h.1.1,h.1.2,g.1⟩
  | succ n=>
   obtain ⟨st',e',q⟩:=jdt h.2 g.2 (n:=n) (by simpa using e)
   exact ⟨st',by simpa using e',q⟩
theorem jiA {X:Cx}{a b:List Stmt}{t:L2.TS}(e:a=b)(h:PSs X a t):PSs X b t:=e ▸ h
theorem jdQ {K:Yac}{H:Hp}{N:List Str}{us:List U}{vs:List V}(r:RUs K H us vs):SR K H (jaq N.length us) (L2.start N vs):=by
 unfold jaq L2.start
 refine ⟨by simp [r.length],fun i u e=>?_⟩
 by_cases hi:i < us.length
 ·rw [Ybw (by simpa using hi),YaE] at e
  cases q:us[i]? with
  | none=>rw [q] at e; cases e
  | some w=>
   rw [q] at e
   have:w=u:=by simpa using e
   subst this
   obtain ⟨v,ev,rv⟩:=r.get q
   have hv:i < vs.length:=by rw [<- r.length]; exact hi
   exact ⟨v,by rw [Ybw (by simpa using hv),YaE,ev]; rfl,rv⟩
 ·rw [Ybt (by simpa using hi),Ye6] at e
  split at e <;> cases e
section
variable {T:Tab}{P:Program}{w:World}{K:Yac}{mg:Str->Option Value}{base:Heap}
theorem jeF {sts:List Stmt}(hst:jeG T T.funs sts=true)(heq:jfR T T.funs sts)
  (dyn:∀ (n:Nat) (d:Fun) (st:Stmt),T.funs[n]?=some d->sts[n]?=some st->∃ (f:Addr) (fd:YbT),L2.Fun K d.name d.name st f fd/\mg d.name=some (.ref f)/\Binds K fd d.ps [])
  (hb:∀ x∈jcR,mg x=none) (hg:∀ (n:Nat) (x:Str) (u:U),T.gn[n]?=some x->T.gs[n]?=some u->∃ v w,mg x=some w/\RelV v w/\∀ H,RU K H u v) (hc:∀ n∈T.cs,1<=n->∃ C,XCls K (gK K) (clsN n) (clsF n) C) (hm:∀ x v,gK K x=some v->mg x=some v) :
  ∀ (k n:Nat) (d:Fun),T.funs[n]?=some d->FnU P w K mg base k d (jac T k n):=by
 intro k
 induction k with
 | zero=>
  intro n d hd
  obtain ⟨st,e,_⟩:=jdt hst heq hd
  obtain ⟨f,fd,F,m,b⟩:=dyn n d st hd e
  exact ⟨f,fd,⟨fun vs H Q E ⟨_,_,_,_,_,_,h,_⟩=>h.elim,fun A outer s H args us vs Q E _ _ _ _ ⟨_,_,_,_,_,_,h,_⟩=>h.elim⟩,m,F.kp,b⟩
 | succ k ih=>
  intro n d hd
  obtain ⟨st,e,h1,h2,h3⟩:=jdt hst heq hd
  obtain ⟨f,fd,F,m,b⟩:=dyn n d st hd e
  have S:=jjs h1
  have un:∀ {us:List U} {G:Gp} {Q:K1} {E:KX},jac T (k + 1) n us G Q E->us.length=d.ps.length/\jaD T.gs (jac T k) d.body ⟨fun _ G'=>Q .non G',Q,fun x _ G'=>E x G'⟩ (jaq d.N.length us) G:=fun {us G Q E} h=>by
   have h':(match T.funs[n]? with | some d=>us.length=d.ps.length/\jaD T.gs (jac T k) d.body ⟨fun _ G'=>Q .non G',Q,fun x _ G'=>E x G'⟩ (jaq d.N.length us) G | none=>False):=h
   rw [hd] at h'
   exact h'
  refine ⟨f,fd,F.okX S (fun vs H Q E ⟨us,G,Q',E',r,hG,h,lv,lx⟩=>by rw [<- r.length]; exact (un h).1) fun cdv A outer s H vs Q E hr hsp=>?_,m,F.kp,b⟩
  obtain ⟨us,G,Q',E',r,hG,h,lv,lx⟩:=hsp
  obtain ⟨hl,h⟩:=un h
  refine ⟨_,jiA h3 (sSs d.body (k:=k) (c:=⟨d.N,(defScope st).names⟩) (hs:=defBody st) ⟨⟨rfl,S.nd,fun x z=>eq_of_beq z,fun x z=>⟨eq_of_beq z,rfl⟩,fun x z=>.inr (eq_of_beq z),fun x z=>eq_of_beq z,hr.mono (by omega),rfl,jlm,hb,ih,hg,hr,hc,hm⟩,rfl,S.kind,rfl,rfl⟩ h2),?_⟩
  exact ⟨_,_,G,jdQ r,hG,h,⟨fun ς' σ' G' H' a b c q=>lv .non .non G' H' rfl b c q,fun w v G' H' a b c q=>lv w v G' H' a b c q,fun pins e s' x ς' σ' G' H' I sr xat hr' f q=>by obtain ⟨ea,C0,dx,rfl,l,xd⟩:=xat; exact CX1.out1 I l (lx x G' H' C0 dx xd hr' f q)⟩⟩
theorem jiK {α β:Type}[BEq α][LawfulBEq α]:∀ {l:List (α×β)} {a:α} {b:β},l.lookup a=some b->(a,b)∈l
 | (x,y)::r,a,b,h=>by
  simp only [Ybj] at h
  split at h
  ·rename_i e
   cases h
   rw [eq_of_beq e]; exact YaH
  ·exact Yap _ (jiK h)
noncomputable def G0 (a:Addr)(ns:List Int):Gp:=fun b=>if b=a then some (.fro (ns.map .int)) else none
theorem jgY {H:Hp}:∀ ns:List Int,RUs K H (ns.map .int) (ns.map V.int)
 | []=>rfl
 | _::r=>⟨_,_,rfl,rfl,jgY r⟩
theorem law_sp {k n:Nat}{H:Hp}{a:Addr}{ns:List Int}(hK:(K.all fun p=>p.2.cls != .type "list")=true)(hO:Only H)(hS:SqL K H a (ns.map V.int))(h:jac T k n [.loc a] (G0 a ns) (fun u _=>u=.bl true) fun _ _=>False) :
  lSp K (jac T k n) [.ref a] H (fun v _=>v=.bl true) fun _ _ _=>False:=by
 have fr:∃ o,H a=some (.frz o (.lst (ns.map V.int))):=by
  rcases hS with (q | q) | ⟨o,its,m,lk,hc,_⟩
  ·rcases hO a with z | ⟨o,xs,z⟩ <;> (rw [q] at z; cases z)
  ·exact q
  ·have:=List.all_eq_true.mp hK (a,o) (jiK lk)
   simp [hc] at this
 obtain ⟨o,fr⟩:=fr
 refine ⟨[.loc a],G0 a ns,_,_,⟨_,_,rfl,rfl,rfl⟩,fun b mo e=>?_,h,fun w v G' H' r _ _ q=>?_,fun _ _ _ _ _ _ _ _ z=>z.elim⟩
 ·unfold G0 at e
  split at e
  ·rename_i z
   subst z
   cases e
   exact ⟨o,_,fr,jgY ns⟩
  ·cases e
 ·subst q
  exact r
end
section
variable {T:Tab}{P:Program}{w:World}{K:Yac}{mg:Str->Option Value}{base:Heap}
theorem jfQ {sts:List Stmt}{k n:Nat}{d:Fun}{st:Stmt}{f:Addr}{fd:YbT}(F:L2.Fun K d.name d.name st f fd)(hst:jeG T T.funs sts=true)(heq:jfR T T.funs sts)
  (dyn:∀ (n:Nat) (d:Fun) (st:Stmt),T.funs[n]?=some d->sts[n]?=some st->∃ (f:Addr) (fd:YbT),L2.Fun K d.name d.name st f fd/\mg d.name=some (.ref f)/\Binds K fd d.ps [])
  (hb:∀ x∈jcR,mg x=none) (hg:∀ (n:Nat) (x:Str) (u:U),T.gn[n]?=some x->T.gs[n]?=some u->∃ v w,mg x=some w/\RelV v w/\∀ H,RU K H u v) (hc:∀ n∈T.cs,1<=n->∃ C,XCls K (gK K) (clsN n) (clsF n) C) (hm:∀ x v,gK K x=some v->mg x=some v) (hd:T.funs[n]?=some d) (hs:sts[n]?=some st) (m:mg d.name=some (.ref f)) (b:Binds K fd d.ps []) :
  FnOk P w K mg base (CX1 P w) (k + 2) f fd d.ps (lSp K (jac T k n)):=by
 have all:=jeF (P:=P) (w:=w) (base:=base) hst heq (fun n' d' st' h1 h2=>by
  by_cases e:n'=n
  ·subst e
   rw [hd] at h1
   rw [hs] at h2
   cases h1; cases h2
   exact ⟨f,fd,F,m,b⟩
  ·exact dyn n' d' st' h1 h2) hb hg hc hm k
 cases k with
 | zero=>exact ⟨fun vs H Q E ⟨_,_,_,_,_,_,h,_⟩=>h.elim,fun A outer s H args us vs Q E _ _ _ _ ⟨_,_,_,_,_,_,h,_⟩=>h.elim⟩
 | succ k=>
  have ih:=jeF (P:=P) (w:=w) (base:=base) hst heq dyn hb hg hc hm k
  obtain ⟨st',e,h1,h2,h3⟩:=jdt hst heq hd
  rw [hs] at e
  cases e
  have S:=jjs h1
  have un:∀ {us:List U} {G:Gp} {Q:K1} {E:KX},jac T (k + 1) n us G Q E->us.length=d.ps.length/\jaD T.gs (jac T k) d.body ⟨fun _ G'=>Q .non G',Q,fun x _ G'=>E x G'⟩ (jaq d.N.length us) G:=fun {us G Q E} h=>by
   have h':(match T.funs[n]? with | some d=>us.length=d.ps.length/\jaD T.gs (jac T k) d.body ⟨fun _ G'=>Q .non G',Q,fun x _ G'=>E x G'⟩ (jaq d.N.length us) G | none=>False):=h
   rw [hd] at h'
   exact h'
  refine F.okX S (fun vs H Q E ⟨us,G,Q',E',r,hG,h,lv,lx⟩=>by rw [<- r.length]; exact (un h).1) fun cdv A outer s H vs Q E hr hsp=>?_
  obtain ⟨us,G,Q',E',r,hG,h,lv,lx⟩:=hsp
  obtain ⟨hl,h⟩:=un h
  refine ⟨_,jiA h3 (sSs d.body (k:=k) (c:=⟨d.N,(defScope st).names⟩) (hs:=defBody st) ⟨⟨rfl,S.nd,fun x z=>eq_of_beq z,fun x z=>⟨eq_of_beq z,rfl⟩,fun x z=>.inr (eq_of_beq z),fun x z=>eq_of_beq z,hr.mono (by omega),rfl,jlm,hb,ih,hg,hr,hc,hm⟩,rfl,S.kind,rfl,rfl⟩ h2),?_⟩
  exact ⟨_,_,G,jdQ r,hG,h,⟨fun ς' σ' G' H' a b c q=>lv .non .non G' H' rfl b c q,fun w v G' H' a b c q=>lv w v G' H' a b c q,fun pins e s' x ς' σ' G' H' I sr xat hr' f q=>by obtain ⟨ea,C0,dx,rfl,l,xd⟩:=xat; exact CX1.out1 I l (lx x G' H' C0 dx xd hr' f q)⟩⟩
end
section
variable {K:Yac}
theorem jn3 {x:Str}{v:Value}(h:gK K x=some v):YaA K Yax x=some (some v):=by
 unfold gK at h
 cases q:YaA K Yax x with
 | none=>rw [q] at h; cases h
 | some o=>rw [q] at h; rw [show o=some v from h]
theorem jlS {h:Heap}{mg:Str->Option Value}(X:K.In h)(G:h.Ns Yax mg):∀ x v,gK K x=some v->mg x=some v:=fun _ _ e=>Yba X G (jn3 e)
theorem jmh {x:Str}{v:Value}(h:YaA K Yax x=some (some v)):gK K x=some v:=by unfold gK; rw [h]; rfl
noncomputable def ksB:List Str:=["__module__", "__firstlineno__", "__static_attributes__", "__weakref__", "__doc__"]
noncomputable def ksC:List Str:=["__module__", "__firstlineno__", "__init__", "__static_attributes__", "__doc__"]
noncomputable def offB (ks:List Str):Bool:=offN.all fun y=>!ks.contains y
theorem jiG {ks:List Str}{m:Str->Option Value}(h:offB ks=true)(hm:∀ x,x∉ks->m x=none):∀ y∈offN,m y=none:=fun y hy=>hm y (by
 have:=List.all_eq_true.mp h y hy
 simpa using this)
theorem jhp {D ND:Addr}{q:Str}{bs sub:List Value}{hd ab:Bool}{sn ks:List Str}{col:Option Bool}{dd:Option Addr}{k0 k1 k2 k3 k5:Option Value}{nid:String}(a:YaA K Yax "PlanError" = some (some (.ref D)))(kp:YaN K (.ref D)=true)
  (l:K.lookup D=some (YcN "PlanError" q D ND bs bmV hd sn sub ab col dd k0 k1 k2 k3 k5 nid)) (n:jdb K ND=some ks) (h1:offB ks=true) (h2:ks.contains ("__init__" : Str)=false):∃ mD,XBase K (gK K) D mD:=by
 obtain ⟨m,hn,hno,_⟩:=jlQ n
 exact ⟨m,jmh a,kp,⟨_,_,_,_,_,_,_,_,_,_,_,_,_,_,_,l,hn⟩,jiG h1 hno,hno _ (by simpa using h2)⟩
theorem ji4 {C D N fI:Addr}{x q qual:Str}{fs:List Str}{bs sub:List Value}{ab:Bool}{sn ks:List Str}{col:Option Bool}{dd od:Option Addr}{k0 k1 k2 k3 k5:Option Value}{mD:Str->Option Value}{st:Stmt}{fd:YbT}{osl:Array (Option Value)}(B:XBase K (gK K) D mD)(a:YaA K Yax x=some (some (.ref C)))(kp:YaN K (.ref C)=true)
  (l:K.lookup C=some (YcN x q C N bs (.ref D::bmV) true sn sub ab col dd k0 k1 k2 k3 k5 "ValueError.__new__")) (n:jdb K N=some ks) (h1:offB ks=true) (i:YaA K N "__init__" = some (some (.ref fI))) (F:L2.Fun K "__init__" qual st fI fd) (lf:K.lookup fI=some ⟨.type "function",od,.func fd,osl⟩)
  (S:scB (("self" : Str)::fs) ("self" :: fs) (defScope st)=true) (b:Binds K fd (("self" : Str)::fs) []) (hloc:((("self" : Str)::fs).all fun y=>(defScope st).names.lookup y == some .local)=true)
  (bd:(∃ f p1 p2 p3 pos,fs=[f]/\defBody st=[.Assign [.Attribute (.Name "self" p1) f p2] (.Name f p3) pos])\/∃ f f2 p1 p2 p3 pos q1 q2 q3 qos,fs=[f,f2]/\f≠f2/\defBody st=[.Assign [.Attribute (.Name "self" p1) f p2] (.Name f p3) pos,.Assign [.Attribute (.Name "self" q1) f2 q2] (.Name f2 q3) qos]):XCls K (gK K) x fs C:=by
 obtain ⟨m,hn,hno,hso⟩:=jlQ n
 exact ⟨jmh a,kp,D,N,fI,m,mD,B,⟨_,_,_,_,_,_,_,_,_,_,_,_,l⟩,hn,jiG h1 hno,hso _ _ i,st,qual,fd,F,⟨_,_,lf⟩,jjs S,b,fun y hy=>eq_of_beq (List.all_eq_true.mp hloc y hy),bd⟩
end
theorem jeT {G:Gp}{a:Addr}{o u:MO}:gup (gup G a o) a u=gup G a u:=by funext b; unfold gup; split <;> rfl
noncomputable def Sm (f:Addr)(G G':Gp):Prop:=∀ b o,b≠f->G b=some o->G' b=some o
noncomputable def Sa (G G':Gp):Prop:=∀ b o,G b=some o->G' b=some o
theorem Sa.refl {G:Gp}:Sa G G:=fun _ _ h=>h
theorem Sm.trans {f:Addr}{G G1 G2:Gp}(a:Sm f G G1)(b:Sm f G1 G2):Sm f G G2:=fun c o n h=>b c o n (a c o n h)
theorem Sa.trans {G G1 G2:Gp}(a:Sa G G1)(b:Sa G1 G2):Sa G G2:=fun c o h=>b c o (a c o h)
theorem Sa.sm {f:Addr}{G G':Gp}(a:Sa G G'):Sm f G G':=fun c o _ h=>a c o h
theorem Sa.new {G:Gp}{p:Addr}{o:MO}(h:G p=none):Sa G (gup G p o):=fun c u e=>by
 rw [jbh (fun z=>by rw [z,h] at e; cases e)]; exact e
theorem Sm.put {G:Gp}{f:Addr}{o:MO}:Sm f G (gup G f o):=fun c u n e=>by rw [jbh n]; exact e
theorem jeJ {G:Gp}{a p:Addr}{o:MO}(h:G a=some o)(hp:G p=none):p≠a:=fun z=>by rw [z,h] at hp; cases hp
theorem New.at {G G':Gp}{p:Addr}{o:MO}(n:New G p o G'):G' p=some o:=by rw [n.eq]; exact jap
theorem New.sa {G G':Gp}{p:Addr}{o:MO}(n:New G p o G'):Sa G G':=by rw [n.eq]; exact Sa.new n.no
theorem Put.at {G G':Gp}{p:Addr}{o:MO}(n:Put G p o G'):G' p=some o:=by rw [n.eq]; exact jap
theorem Put.sm {G G':Gp}{p:Addr}{o:MO}(n:Put G p o G'):Sm p G G':=by rw [n.eq]; exact Sm.put
mutual
noncomputable def pd:U->PyData
 | .non=>.none
 | .bl b=>.bool b
 | .int i=>.int i
 | .str x=>.str x
 | .tup us=>.tuple (pds us)
 | .loc _=>.none
 | .fn _=>.none
 | .ty _=>.none
 | .exc _ _=>.none
 | .own _=>.none
 | .clo _ _=>.none
noncomputable def pds:List U->List PyData
 | []=>[]
 | u::us=>pd u::pds us
end
mutual
noncomputable def bare:U->Bool
 | .non=>true
 | .bl _=>true
 | .int _=>true
 | .str _=>true
 | .tup us=>bares us
 | .loc _=>false
 | .fn _=>false
 | .ty _=>false
 | .exc _ _=>false
 | .own _=>false
 | .clo _ _=>false
noncomputable def bares:List U->Bool
 | []=>true
 | u::us=>bare u && bares us
end
mutual
theorem jmn {G:Gp}:∀ {u:U},bare u=true->DU G u (pd u)
 | .non,_=>.non
 | .bl b,_=>.bl b
 | .int i,_=>.int i
 | .str x,_=>.str x
 | .tup _,h=>.tup (jiY h)
 | .loc _,h=>nomatch h
 | .fn _,h=>nomatch h
 | .ty _,h=>nomatch h
 | .exc _ _,h=>nomatch h
 | .own _,h=>nomatch h
 | .clo _ _,h=>nomatch h
theorem jiY {G:Gp}:∀ {us:List U},bares us=true->DUs G us (pds us)
 | [],_=>.nil
 | _::_,h=>.cons (jmn (ba h).1) (jiY (ba h).2)
end
theorem jfI:∀ {us:List U},(∀ u∈us,bare u=true)->bares us=true
 | [],_=>rfl
 | u::us,h=>by
  show (bare u && bares us)=true
  rw [h u YaH,jfI fun v hv=>h v (Yap _ hv)]; rfl
theorem jiE:∀ us:List U,pds us=us.map pd
 | []=>rfl
 | u::us=>by
  show pd u::pds us=_
  rw [jiE us]; rfl
theorem jlb {G:Gp}{u:U}{Q:K1}(h:bare u=true)(f:Fits 16000000 60 (pd u))(q:Q (.str (pd u).shown) G):jcx [u] G Q:=⟨pd u,jmn h,f,q⟩
structure Sml (n:Nat)(u:U):Prop where
 b:bare u=true
 l:(pd u).canLay0=true
 d:(pd u).depth<=n
structure Ft (n k:Nat)(u:U):Prop where
 b:bare u=true
 f:Fits n k (pd u)
theorem Ft.mono {n n' k k':Nat}{u:U}(h:Ft n k u)(h1:n<=n')(h2:k<=k'):Ft n' k' u:=⟨h.b,h.f.mono h1 h2⟩
theorem Ft.int {i:Int}(h:i.natAbs < 2 ^ 1000):Ft 1921 0 (.int i):=⟨rfl,Fits.int h⟩
theorem Ft.str {x:Str}{m:Nat}(h:x.length<=m)(hc:∀ c∈x.cps.toList,c < 128):Ft (10 * m + 2) 0 (.str x):=⟨rfl,Fits.str h fun c hc'=>Yel (hc c hc') (by decide)⟩
theorem Ft.tup {n k m N:Nat}{us:List U}(hl:us.length<=m)(h:∀ u∈us,Ft n k u)(hN:m * (n + 2) + 3<=N):Ft N (k + 1) (.tup us):=by
 refine ⟨jfI fun u hu=>(h u hu).b,?_⟩
 show Fits N (k + 1) (.tuple (pds us))
 rw [jiE]
 refine Fits.tupLe (m:=m) (n:=n) (by rw [Yai]; exact hl) (fun d hd=>?_) hN
 obtain ⟨u,hu,rfl⟩:=Yfp.mp hd
 exact (h u hu).f
theorem jix {G:Gp}{n k:Nat}{u:U}{Q:K1}(h:Ft n k u)(h1:n<=16000000)(h2:k<=60)(q:Q (.str (pd u).shown) G):jcx [u] G Q:=jlb h.b (h.f.mono h1 h2) q
theorem jbE {ok:Gp->Prop}{b:U->Sg->Gp->(Sg->Gp->Prop)->Prop}{k:Sg->Gp->Prop}:∀ {xs:List U} (I:Nat->Sg->Gp->Prop) (_:∀ ς G,I xs.length ς G->ok G/\k ς G)
  (_:∀ i x ς G (K:Sg->Gp->Prop),xs[i]?=some x->I i ς G->(∀ ς' G',I (i + 1) ς' G'->K ς' G')->ok G/\b x ς G K) {ς:Sg} {G:Gp} (_:I 0 ς G),forL ok b xs ς G k
 | [],_,h0,_,_,_,h=>h0 _ _ h
 | x::_,I,h0,h1,_,_,h=>h1 0 x _ _ _ rfl h fun _ _ h'=>jbE (fun i=>I (i + 1)) h0 (fun i y ς G K e hi hk=>h1 (i + 1) y ς G K e hi hk) h'
theorem jaO {ok:Gp->Prop}{b:U->Gp->(Option U->Gp->Prop)->Prop}{k:List U->Gp->Prop}:∀ {xs:List U} (I:Nat->List U->Gp->Prop) (_:∀ acc G,I xs.length acc G->ok G/\k acc G)
  (_:∀ i x acc G (K:Option U->Gp->Prop),xs[i]?=some x->I i acc G->(∀ u G',I (i + 1) (acc++[u]) G'->K (some u) G')->(∀ G',I (i + 1) acc G'->K none G')->ok G/\b x G K) {acc:List U} {G:Gp} (_:I 0 acc G),jcP ok b xs acc G k
 | [],_,h0,_,_,_,h=>h0 _ _ h
 | x::_,I,h0,h1,_,_,h=>h1 0 x _ _ _ rfl h (fun _ _ h'=>jaO (fun i=>I (i + 1)) h0 (fun i y a G K e hi hk hn=>h1 (i + 1) y a G K e hi hk hn) h') (fun _ h'=>jaO (fun i=>I (i + 1)) h0 (fun i y a G K e hi hk hn=>h1 (i + 1) y a G K e hi hk hn) h')
theorem jbQ {ok:Gp->Prop}{b:U->Gp->(Option U->Gp->Prop)->Prop}{k:List U->Gp->Prop}{G:Gp}(f:U->U)(hok:ok G):∀ {xs:List U} (_:∀ x∈xs,∀ K:Option U->Gp->Prop,K (some (f x)) G->b x G K) {acc:List U} (_:k (acc++xs.map f) G),jcP ok b xs acc G k
 | [],_,acc,q=>⟨hok,by simpa using q⟩
 | x::xs,hb,acc,q=>⟨hok,hb x YaH _ (jbQ f hok (fun y hy=>hb y (Yap _ hy)) (by simpa using q))⟩
theorem jcf {ok : Gp -> Prop}{b : U -> Gp -> (Option U -> Gp -> Prop) -> Prop}{k : List U -> Gp -> Prop}{G : Gp}(f : U -> Option U)(hok : ok G) : ∀ {xs : List U} (_ : ∀ x ∈ xs, ∀ K : Option U -> Gp -> Prop, K (f x) G -> b x G K) {acc : List U} (_ : k (acc ++ xs.filterMap f) G), jcP ok b xs acc G k
  | [], _, acc, q => ⟨hok, by simpa using q⟩
  | x :: xs, hb, acc, q => ⟨hok, hb x YaH _ (jcf f hok (fun y hy => hb y (Yap _ hy)) (by
      cases e : f x with
      | none => rw [List.filterMap_cons_none e] at q; exact q
      | some u => rw [List.filterMap_cons_some e] at q; simpa using q))⟩
theorem jaE (i:Int)(n:Nat):(rngU i n).length=n:=by unfold rngU; simp
theorem ja3 {n i:Nat}{x:U}(h:(rngU 0 n)[i]?=some x):i < n/\x=.int i:=by
 unfold rngU at h
 rw [YaE] at h
 by_cases hi:i < n
 ·rw [YbP hi] at h
  exact ⟨hi,by simpa using h.symm⟩
 ·rw [YdK (by simpa using hi)] at h
  cases h
theorem jdI {α β:Type}(f:α->β)(l:List α)(i:Int):atI (l.map f) i=(atI l i).map f:=by
 unfold atI
 rw [Yai]
 cases ixN l.length i with
 | none=>rfl
 | some j=>simp
theorem joa {α:Type}(a:α)(l:List α):atI (a::l) 0=some a:=jbj (xs:=a::l) (j:=0) rfl
theorem jhl {α:Type}(a b:α)(l:List α):atI (a::b::l) 1=some b:=jbj (xs:=a::b::l) (j:=1) rfl
theorem jhk {α:Type}{l:List α}{r:Int}(h0:0<=r)(h1:r < l.length):∃ x,x∈l/\atI l r=some x:=by
 obtain ⟨j,rfl⟩:=Ybs h0
 have hj:j < l.length:=by omega
 exact ⟨l[j],Ycd hj,jbj (Yah hj)⟩
noncomputable def fdU (c:Addr)(a l t:Int):List (Key×U):=[(.inr "cells",.loc c),(.inr "at",.int a),(.inr "left",.int l),(.inr "turn",.int t)]
structure Fd (G:Gp)(f c:Addr):Prop where
 ex:∃ (ns:List Int) (a l t:Int),G f=some (.dK (fdU c a l t))/\G c=some (.lst (ns.map .int))/\ns≠[]
section
theorem k_ca:¬ ((Sum.inr ("cells" : Str):Key)=Sum.inr ("at" : Str)):=by decide +kernel
theorem k_cl:¬ ((Sum.inr ("cells" : Str):Key)=Sum.inr ("left" : Str)):=by decide +kernel
theorem k_ct:¬ ((Sum.inr ("cells" : Str):Key)=Sum.inr ("turn" : Str)):=by decide +kernel
theorem k_al:¬ ((Sum.inr ("at" : Str):Key)=Sum.inr ("left" : Str)):=by decide +kernel
theorem k_at:¬ ((Sum.inr ("at" : Str):Key)=Sum.inr ("turn" : Str)):=by decide +kernel
theorem k_lt:¬ ((Sum.inr ("left" : Str):Key)=Sum.inr ("turn" : Str)):=by decide +kernel
variable {c:Addr}{a l t:Int}
theorem jko:dGet (fdU c a l t) (.inr "cells")=some (.loc c):=by simp [dGet,fdU]
theorem g_at:dGet (fdU c a l t) (.inr "at")=some (.int a):=by simp [dGet,fdU,k_ca,-YcD]
theorem jmg:dGet (fdU c a l t) (.inr "left")=some (.int l):=by simp [dGet,fdU,k_cl,k_al,-YcD]
theorem jiR:dGet (fdU c a l t) (.inr "turn")=some (.int t):=by simp [dGet,fdU,k_ct,k_at,k_lt,-YcD]
theorem jiF (x:Int):dPut (fdU c a l t) (.inr "turn") (.int x)=fdU c a l x:=by simp [dPut,fdU,k_ct,k_at,k_lt,-YcD]
theorem p_at (x:Int):dPut (fdU c a l t) (.inr "at") (.int x)=fdU c x l t:=by simp [dPut,fdU,k_ca,Ne.symm k_al,Ne.symm k_at,-YcD]
theorem jlx (x:Int):dPut (fdU c a l t) (.inr "left") (.int x)=fdU c a x t:=by simp [dPut,fdU,k_cl,k_al,Ne.symm k_lt,-YcD]
theorem jlU {p:Addr}:jcN [((Sum.inr ("cells" : Str):Key),U.loc p),(.inr "at",.int 0),(.inr "left",.int 0),(.inr "turn",.int 0)]=fdU p 0 0 0:=by
 simp [jcN,dPut,fdU,k_ca,k_cl,k_ct,k_al,k_at,k_lt,-YcD]
theorem jfB:(fdU c a l t).length < Yan:=by show 4 < Yan; decide
theorem Fd.put {G G':Gp}{f c:Addr}{ns:List Int}{kvs:List (Key×U)}{a l t:Int}(p:Put G f (.dK (fdU c a l t)) G')(h:G f=some (.dK kvs))(hc:G c=some (.lst (ns.map .int)))(hn:ns≠[]):Fd G' f c:=
 ⟨ns,a,l,t,p.at,p.sm _ _ (fun z=>by rw [z,h] at hc; cases hc) hc,hn⟩
theorem Fd.sa {G G':Gp}{f c:Addr}(h:Fd G f c)(s:Sa G G'):Fd G' f c:=let ⟨ns,a,l,t,h1,h2,h3⟩:=h.ex; ⟨ns,a,l,t,s _ _ h1,s _ _ h2,h3⟩
theorem Fd.new {G G':Gp}{f c p:Addr}{o:MO}(h:Fd G f c)(n:New G p o G'):Fd G' f c:=h.sa n.sa
theorem Fd.away {G G':Gp}{f c p:Addr}{o:MO}(h:Fd G f c)(n:New G p o G'):p≠f/\p≠c:=by
 obtain ⟨ns,a,l,t,h1,h2,_⟩:=h.ex
 exact ⟨jeJ h1 n.no,jeJ h2 n.no⟩
theorem Fd.off {G G':Gp}{f c p:Addr}{o:MO}(h:Fd G f c)(hp:p≠f/\p≠c)(w:Put G p o G'):Fd G' f c:=let ⟨ns,a,l,t,h1,h2,h3⟩:=h.ex; ⟨ns,a,l,t,w.sm _ _ (Ne.symm hp.1) h1,w.sm _ _ (Ne.symm hp.2) h2,h3⟩
theorem Sm.wr {f p:Addr}{G G1 G2 G3:Gp}{o:MO}(s1:Sm f G G1)(n:G1 p=none)(s2:Sm f G G2)(w:Put G2 p o G3):Sm f G G3:=fun b u hb e=>w.sm b u (fun z=>by
 have:=s1 _ _ hb e
 rw [z,n] at this; cases this) (s2 b u hb e)
theorem Sm.nw {f p:Addr}{G G1 G2:Gp}{o:MO}(s:Sm f G G1)(n:New G1 p o G2):Sm f G G2:=s.trans n.sa.sm
end
theorem D_v {gs:List U}{Δ:Cl}{ς:Sg}{G:Gp}{Q:K1}{X:KX}(i:Nat):(den gs Δ (.v i)).1 ς G Q X=(slot ς i fun u=>Q u G):=rfl
theorem T_v {gs:List U}{Δ:Cl}{ς:Sg}{G:Gp}{R:Bool->Gp->Prop}{X:KX}(i:Nat):(den gs Δ (.v i)).2 ς G R X=(den gs Δ (.v i)).1 ς G (fun x G1=>truU x G1 fun b=>R b G1) X:=rfl
theorem joT {gs:List U}{Δ:Cl}{ς:Sg}{G:Gp}{Q:K1}{X:KX}  : (den gs Δ (.non)).1 ς G Q X=(Q .non G):=rfl
theorem D_bl {gs:List U}{Δ:Cl}{ς:Sg}{G:Gp}{Q:K1}{X:KX}(b:Bool):(den gs Δ (.bl b)).1 ς G Q X=(Q (.bl b) G):=rfl
theorem joZ {gs:List U}{Δ:Cl}{ς:Sg}{G:Gp}{Q:K1}{X:KX}(i:Int):(den gs Δ (.int i)).1 ς G Q X=(Q (.int i) G):=rfl
theorem joQ {gs:List U}{Δ:Cl}{ς:Sg}{G:Gp}{Q:K1}{X:KX}(x:Str):(den gs Δ (.str x)).1 ς G Q X=(Q (.str x) G):=rfl
theorem jo4 {gs:List U}{Δ:Cl}{ς:Sg}{G:Gp}{Q:K1}{X:KX}(o:Ycs)(a b:E):(den gs Δ (.bin o a b)).1 ς G Q X=((den gs Δ a).1 ς G (fun x G1=>(den gs Δ b).1 ς G1 (fun y G2=>binU o x y G2 Q) X) X):=rfl
theorem joA {gs:List U}{Δ:Cl}{ς:Sg}{G:Gp}{R:Bool->Gp->Prop}{X:KX}(o:Ycs)(a b:E):(den gs Δ (.bin o a b)).2 ς G R X=(den gs Δ (.bin o a b)).1 ς G (fun x G1=>truU x G1 fun b=>R b G1) X:=rfl
theorem joU {gs:List U}{Δ:Cl}{ς:Sg}{G:Gp}{Q:K1}{X:KX}(a:E):(den gs Δ (.neg a)).1 ς G Q X=((den gs Δ a).1 ς G (fun x G1=>negU x G1 Q) X):=rfl
theorem jo2 {gs:List U}{Δ:Cl}{ς:Sg}{G:Gp}{Q:K1}{X:KX}(o:CmpOp)(a b:E):(den gs Δ (.cmp o a b)).1 ς G Q X=((den gs Δ a).1 ς G (fun x G1=>(den gs Δ b).1 ς G1 (fun y G2=>cmpU o x y G2 fun c=>Q (.bl c) G2) X) X):=rfl
theorem joy {gs:List U}{Δ:Cl}{ς:Sg}{G:Gp}{R:Bool->Gp->Prop}{X:KX}(o:CmpOp)(a b:E):(den gs Δ (.cmp o a b)).2 ς G R X=(den gs Δ (.cmp o a b)).1 ς G (fun x G1=>truU x G1 fun b=>R b G1) X:=rfl
theorem joP {gs:List U}{Δ:Cl}{ς:Sg}{G:Gp}{Q:K1}{X:KX}(es:Es):(den gs Δ (.tup es)).1 ς G Q X=(jaZ gs Δ es ς G (fun us G1=>us.length<=Yan/\Q (.tup us) G1) X):=rfl
theorem joX {gs:List U}{Δ:Cl}{ς:Sg}{G:Gp}{Q:K1}{X:KX}(es:Es):(den gs Δ (.lst es)).1 ς G Q X=(jaZ gs Δ es ς G (fun us G1=>us.length<=Yan/\newO G1 (.lst us) Q) X):=rfl
theorem jo1 {gs:List U}{Δ:Cl}{ς:Sg}{G:Gp}{Q:K1}{X:KX}(es:Es):(den gs Δ (.dic es)).1 ς G Q X=(denD gs Δ es ς G (fun kvs G1=>kvs.length<=15/\newO G1 (.dK (jcN kvs)) Q) X):=rfl
theorem jmT {gs:List U}{Δ:Cl}{ς:Sg}{G:Gp}{Q:K1}{X:KX}  : (den gs Δ (.dicT)).1 ς G Q X=(newO G (.dT []) Q):=rfl
theorem jmF {gs:List U}{Δ:Cl}{ς:Sg}{G:Gp}{R:Bool->Gp->Prop}{X:KX}  : (den gs Δ (.dicT)).2 ς G R X=(den gs Δ (.dicT)).1 ς G (fun x G1=>truU x G1 fun b=>R b G1) X:=rfl
theorem D_ix {gs:List U}{Δ:Cl}{ς:Sg}{G:Gp}{Q:K1}{X:KX}(a b:E):(den gs Δ (.ix a b)).1 ς G Q X=((den gs Δ a).1 ς G (fun x G1=>(den gs Δ b).1 ς G1 (fun y G2=>ixU x y G2 Q) X) X):=rfl
theorem T_ix {gs:List U}{Δ:Cl}{ς:Sg}{G:Gp}{R:Bool->Gp->Prop}{X:KX}(a b:E):(den gs Δ (.ix a b)).2 ς G R X=(den gs Δ (.ix a b)).1 ς G (fun x G1=>truU x G1 fun b=>R b G1) X:=rfl
theorem D_sl {gs:List U}{Δ:Cl}{ς:Sg}{G:Gp}{Q:K1}{X:KX}(a:E)(lo hi:Eo):(den gs Δ (.sl a lo hi)).1 ς G Q X=((den gs Δ a).1 ς G (fun x G1=>denO gs Δ lo ς G1 (fun l G2=>denO gs Δ hi ς G2 (fun h G3=>slU x l h G3 Q) X) X) X):=rfl
theorem joR {gs:List U}{Δ:Cl}{ς:Sg}{G:Gp}{Q:K1}{X:KX}(a b:E):(den gs Δ (.rev a b)).1 ς G Q X=((den gs Δ a).1 ς G (fun x G1=>(den gs Δ b).1 ς G1 (fun y G2=>revU x y G2 Q) X) X):=rfl
theorem jmU {gs:List U}{Δ:Cl}{ς:Sg}{G:Gp}{Q:K1}{X:KX}(n:Nat)(es:Es):(den gs Δ (.call n es)).1 ς G Q X=(jaZ gs Δ es ς G (fun us G1=>Δ n us G1 Q X) X):=rfl
theorem jmG {gs:List U}{Δ:Cl}{ς:Sg}{G:Gp}{R:Bool->Gp->Prop}{X:KX}(n:Nat)(es:Es):(den gs Δ (.call n es)).2 ς G R X=(den gs Δ (.call n es)).1 ς G (fun x G1=>truU x G1 fun b=>R b G1) X:=rfl
theorem jo3 {gs:List U}{Δ:Cl}{ς:Sg}{G:Gp}{Q:K1}{X:KX}(b:Blt)(es:Es):(den gs Δ (.blt b es)).1 ς G Q X=(jaZ gs Δ es ς G (fun us G1=>bltU b us G1 Q) X):=rfl
theorem joz {gs:List U}{Δ:Cl}{ς:Sg}{G:Gp}{R:Bool->Gp->Prop}{X:KX}(b:Blt)(es:Es):(den gs Δ (.blt b es)).2 ς G R X=(den gs Δ (.blt b es)).1 ς G (fun x G1=>truU x G1 fun b=>R b G1) X:=rfl
theorem jmS {gs:List U}{Δ:Cl}{ς:Sg}{G:Gp}{Q:K1}{X:KX}(m:Mth)(o:E)(es:Es):(den gs Δ (.meth m o es)).1 ς G Q X=((den gs Δ o).1 ς G (fun x G1=>match mtU m x G1 with | some _=>jaZ gs Δ es ς G1 (fun us G2=>jcC m x us G2 Q) X | none=>False) X):=rfl
theorem D_lc {gs:List U}{Δ:Cl}{ς:Sg}{G:Gp}{Q:K1}{X:KX}(pick:List (Option Nat))(t:Tg)(it:It)(ifs:Es)(e:E):(den gs Δ (.lc pick t it ifs e)).1 ς G Q X=(denI gs Δ it ς G (fun xs ok G1=>xs.length<=Yan/\jcP ok (fun x G2 k=>tgU t x (jbA pick ς) fun τ=>denC gs Δ ifs τ G2 (fun b G3=>if b=true then (den gs Δ e).1 τ G3 (fun u G4=>k (some u) G4) (fun _ _=>False) else k none G3)) xs [] G1 fun us G5=>newO G5 (.lst us) Q) X):=rfl
theorem joY {gs:List U}{Δ:Cl}{ς:Sg}{G:Gp}{Q:K1}{X:KX}(pick:List (Option Nat))(t:Tg)(it:It)(ifs:Es)(t2:Tg)(it2:It)(ifs2:Es)(e:E):(den gs Δ (.lc2 pick t it ifs t2 it2 ifs2 e)).1 ς G Q X=(denI gs Δ it ς G (fun xs ok G1=>jkC ok (fun x acc G2 k=>tgU t x (jbA pick ς) fun τ=>denC gs Δ ifs τ G2 (fun b G3=>if b=true then denI gs Δ it2 τ G3 (fun ys ok2 G4=>acc.length + ys.length<=Yan/\jcP ok2 (fun y G5 k5=>tgU t2 y τ fun τ'=>denC gs Δ ifs2 τ' G5 (fun b2 G6=>if b2=true then (den gs Δ e).1 τ' G6 (fun u G7=>k5 (some u) G7) (fun _ _=>False) else k5 none G6)) ys acc G4 k) (fun _ _=>False) else k acc G3)) xs [] G1 fun us G5=>newO G5 (.lst us) Q) X):=rfl
theorem jow {gs:List U}{Δ:Cl}{ς:Sg}{G:Gp}{R:Bool->Gp->Prop}{X:KX}(pick:List (Option Nat))(t:Tg)(it:It)(ifs:Es)(t2:Tg)(it2:It)(ifs2:Es)(e:E):(den gs Δ (.lc2 pick t it ifs t2 it2 ifs2 e)).2 ς G R X=(den gs Δ (.lc2 pick t it ifs t2 it2 ifs2 e)).1 ς G (fun x G1=>truU x G1 fun b=>R b G1) X:=rfl
theorem joW {gs:List U}{Δ:Cl}{ς:Sg}{G:Gp}{Q:K1}{X:KX}(e:E):(den gs Δ (.mkL e)).1 ς G Q X=((den gs Δ e).1 ς G (fun x G1=>itU x G1 fun xs _=>newO G1 (.lst xs) Q) X):=rfl
theorem joV {gs:List U}{Δ:Cl}{ς:Sg}{G:Gp}{Q:K1}{X:KX}(e:E):(den gs Δ (.mkT e)).1 ς G Q X=((den gs Δ e).1 ς G (fun x G1=>itU x G1 fun xs _=>Q (.tup xs) G1) X):=rfl
theorem joS {gs:List U}{Δ:Cl}{ς:Sg}{G:Gp}{Q:K1}{X:KX}(a:E):(den gs Δ (.not a)).1 ς G Q X=((den gs Δ a).1 ς G (fun x G1=>truU x G1 fun b=>Q (.bl (!b)) G1) X):=rfl
theorem jov {gs:List U}{Δ:Cl}{ς:Sg}{G:Gp}{R:Bool->Gp->Prop}{X:KX}(a:E):(den gs Δ (.not a)).2 ς G R X=((den gs Δ a).2 ς G (fun b G1=>R (!b) G1) X):=rfl
theorem jo0 {gs:List U}{Δ:Cl}{ς:Sg}{G:Gp}{Q:K1}{X:KX}(c a b:E):(den gs Δ (.ife c a b)).1 ς G Q X=((den gs Δ c).2 ς G (fun t G1=>if t=true then (den gs Δ a).1 ς G1 Q X else (den gs Δ b).1 ς G1 Q X) X):=rfl
theorem jox {gs:List U}{Δ:Cl}{ς:Sg}{G:Gp}{R:Bool->Gp->Prop}{X:KX}(c a b:E):(den gs Δ (.ife c a b)).2 ς G R X=((den gs Δ c).2 ς G (fun t G1=>if t=true then (den gs Δ a).2 ς G1 R X else (den gs Δ b).2 ς G1 R X) X):=rfl
theorem jmV {gs:List U}{Δ:Cl}{k:Bool}{a:E}:den gs Δ (.bop k a .nil)=den gs Δ a:=rfl
theorem jo5 {gs:List U}{Δ:Cl}{ς:Sg}{G:Gp}{Q:K1}{X:KX}{a b:E}{es:Es}:(den gs Δ (.bop true a (.cons b es))).1 ς G Q X=(den gs Δ a).1 ς G (fun x G1=>truU x G1 fun c=>if c=true then (den gs Δ (.bop true b es)).1 ς G1 Q X else Q x G1) X:=rfl
theorem D_or {gs:List U}{Δ:Cl}{ς:Sg}{G:Gp}{Q:K1}{X:KX}{a b:E}{es:Es}:(den gs Δ (.bop false a (.cons b es))).1 ς G Q X=(den gs Δ a).1 ς G (fun x G1=>truU x G1 fun c=>if c=true then Q x G1 else (den gs Δ (.bop false b es)).1 ς G1 Q X) X:=rfl
theorem joB {gs:List U}{Δ:Cl}{ς:Sg}{G:Gp}{R:Bool->Gp->Prop}{X:KX}{a b:E}{es:Es}:(den gs Δ (.bop true a (.cons b es))).2 ς G R X=(den gs Δ a).2 ς G (fun c G1=>if c=true then (den gs Δ (.bop true b es)).2 ς G1 R X else R false G1) X:=rfl
theorem T_or {gs:List U}{Δ:Cl}{ς:Sg}{G:Gp}{R:Bool->Gp->Prop}{X:KX}{a b:E}{es:Es}:(den gs Δ (.bop false a (.cons b es))).2 ς G R X=(den gs Δ a).2 ς G (fun c G1=>if c=true then R true G1 else (den gs Δ (.bop false b es)).2 ς G1 R X) X:=rfl
theorem O_no {gs:List U}{Δ:Cl}{ς:Sg}{G:Gp}{X:KX}{Q:Option Int->Gp->Prop}:denO gs Δ .no ς G Q X=Q none G:=rfl
theorem O_so {gs:List U}{Δ:Cl}{ς:Sg}{G:Gp}{X:KX}{Q:Option Int->Gp->Prop}{e:E}:denO gs Δ (.so e) ς G Q X=(den gs Δ e).1 ς G (fun x G1=>match x with | .int i=>Q (some i) G1 | _=>False) X:=rfl
theorem jo8 {gs:List U}{Δ:Cl}{ς:Sg}{G:Gp}{X:KX}{Q:List U->Gp->Prop}:jaZ gs Δ .nil ς G Q X=Q [] G:=rfl
theorem jmY {gs:List U}{Δ:Cl}{ς:Sg}{G:Gp}{X:KX}{Q:List U->Gp->Prop}{e:E}{es:Es}:jaZ gs Δ (.cons e es) ς G Q X=(den gs Δ e).1 ς G (fun x G1=>jaZ gs Δ es ς G1 (fun xs G2=>Q (x::xs) G2) X) X:=rfl
theorem jo6 {gs:List U}{Δ:Cl}{ς:Sg}{G:Gp}{Q:Bool->Gp->Prop}:denC gs Δ .nil ς G Q=Q true G:=rfl
theorem jmW {gs:List U}{Δ:Cl}{ς:Sg}{G:Gp}{Q:Bool->Gp->Prop}{e:E}{es:Es}:denC gs Δ (.cons e es) ς G Q=(den gs Δ e).2 ς G (fun b G1=>if b=true then denC gs Δ es ς G1 Q else Q false G1) (fun _ _=>False):=rfl
theorem joG {gs:List U}{Δ:Cl}{ς:Sg}{G:Gp}{X:KX}{Q:List (Key×U)->Gp->Prop}:denD gs Δ .nil ς G Q X=Q [] G:=rfl
theorem jmK {gs:List U}{Δ:Cl}{ς:Sg}{G:Gp}{X:KX}{Q:List (Key×U)->Gp->Prop}{e f:E}{es:Es}:denD gs Δ (.cons e (.cons f es)) ς G Q X=(den gs Δ e).1 ς G (fun x G1=>(den gs Δ f).1 ς G1 (fun y G2=>match kU x with | some k=>denD gs Δ es ς G2 (fun kvs G3=>Q ((k,y)::kvs) G3) X | none=>False) X) X:=rfl
theorem I_e {gs:List U}{Δ:Cl}{ς:Sg}{G:Gp}{X:KX}{Q:List U->(Gp->Prop)->Gp->Prop}{e:E}:denI gs Δ (.e e) ς G Q X=(den gs Δ e).1 ς G (fun x G1=>itU x G1 fun xs ok=>Q xs ok G1) X:=rfl
theorem I_r1 {gs:List U}{Δ:Cl}{ς:Sg}{G:Gp}{X:KX}{Q:List U->(Gp->Prop)->Gp->Prop}{e:E}:denI gs Δ (.r1 e) ς G Q X=(den gs Δ e).1 ς G (fun x G1=>match x with | .int j=>-(2 ^ 62)<=j/\j < 2 ^ 62/\Q (rngU 0 j.toNat) (fun _=>True) G1 | _=>False) X:=rfl
theorem I_dk {gs:List U}{Δ:Cl}{ς:Sg}{G:Gp}{X:KX}{Q:List U->(Gp->Prop)->Gp->Prop}{e:E}:denI gs Δ (.dk e) ς G Q X=(den gs Δ e).1 ς G (fun x G1=>jfL x G1 Q) X:=rfl
theorem jmI {gs:List U}{Δ:Cl}{D:En}{ς:Sg}{G:Gp}{e:E}:denS gs Δ (.expr e) D ς G=(den gs Δ e).1 ς G (fun _ G1=>D.nx ς G1) fun x G1=>D.ex x ς G1:=rfl
theorem joF {gs:List U}{Δ:Cl}{D:En}{ς:Sg}{G:Gp}{t:Tg}{e:E}:denS gs Δ (.asg t e) D ς G=(den gs Δ e).1 ς G (fun u G1=>tgU t u ς fun ς'=>D.nx ς' G1) fun x G1=>D.ex x ς G1:=rfl
theorem jmJ {gs:List U}{Δ:Cl}{D:En}{ς:Sg}{G:Gp}{i:Nat}{e:E}:denS gs Δ (.asgC i e) D ς G=(den gs Δ e).1 ς G (fun u G1=>D.nx (ς.set i (some u)) G1) fun x G1=>D.ex x ς G1:=rfl
theorem jmH {gs:List U}{Δ:Cl}{D:En}{ς:Sg}{G:Gp}{o i e:E}:denS gs Δ (.setS o i e) D ς G=(den gs Δ e).1 ς G (fun v G1=>(den gs Δ o).1 ς G1 (fun x G2=>(den gs Δ i).1 ς G2 (fun y G3=>setU x y v G3 fun G4=>D.nx ς G4) (fun x G1=>D.ex x ς G1)) (fun x G1=>D.ex x ς G1)) (fun x G1=>D.ex x ς G1):=rfl
theorem joE {gs:List U}{Δ:Cl}{D:En}{ς:Sg}{G:Gp}{i:Nat}{o:Ycs}{e:E}:denS gs Δ (.aug i o e) D ς G=slot ς i fun x=>(den gs Δ e).1 ς G (fun y G1=>jdB o x y G1 fun z G2=>D.nx (ς.set i (some z)) G2) fun x G1=>D.ex x ς G1:=rfl
theorem joD {gs:List U}{Δ:Cl}{D:En}{ς:Sg}{G:Gp}{c:E}{a b:Ss}:denS gs Δ (.ite c a b) D ς G=(den gs Δ c).2 ς G (fun t G1=>if t=true then jaD gs Δ a D ς G1 else jaD gs Δ b D ς G1) fun x G1=>D.ex x ς G1:=rfl
theorem S_fr {gs:List U}{Δ:Cl}{D:En}{ς:Sg}{G:Gp}{t:Tg}{it:It}{b:Ss}:denS gs Δ (.fr t it b) D ς G=denI gs Δ it ς G (fun xs ok G1=>forL ok (fun x ς1 G2 k=>tgU t x ς1 fun ς2=>jaD gs Δ b { D with nx:=k } ς2 G2) xs ς G1 D.nx) fun x G1=>D.ex x ς G1:=rfl
theorem joC {gs:List U}{Δ:Cl}{D:En}{ς:Sg}{G:Gp}{e:E}:denS gs Δ (.ret e) D ς G=(den gs Δ e).1 ς G D.rt fun x G1=>D.ex x ς G1:=rfl
theorem jkI {gs:List U}{Δ:Cl}{D:En}{ς:Sg}{G:Gp}{c:Nat}{es:Es}:denS gs Δ (.raise c es) D ς G=jaZ gs Δ es ς G (fun us G1=>us.length=(clsF c).length/\D.ex ⟨c,us⟩ ς G1) fun x G1=>D.ex x ς G1:=rfl
theorem S_tr {gs:List U}{Δ:Cl}{D:En}{ς:Sg}{G:Gp}{b:Ss}{c n:Nat}{h:List HS}:denS gs Δ (.tr b c n h) D ς G=jaD gs Δ b { D with ex:=fun x ς1 G1=>(c=0\/x.c=c)/\hsH x h (ς1.set n none) G1 fun ς2 G2=>D.nx (ς2.set n none) G2 } ς G:=rfl
theorem jo7 {gs:List U}{Δ:Cl}{D:En}{ς:Sg}{G:Gp}:jaD gs Δ .nil D ς G=D.nx ς G:=rfl
theorem jmX {gs:List U}{Δ:Cl}{D:En}{ς:Sg}{G:Gp}{s:S}{r:Ss}:jaD gs Δ (.cons s r) D ς G=denS gs Δ s { D with nx:=fun ς' G'=>jaD gs Δ r D ς' G' } ς G:=rfl
theorem jou {G:Gp}{Q:K1}{i j:Int}:binU .Add (.int i) (.int j) G Q=Q (.int (i + j)) G:=rfl
theorem jot {G:Gp}{Q:K1}{xs ys:List U}:binU .Add (.tup xs) (.tup ys) G Q=(xs.length + ys.length<=Yan/\Q (.tup (xs++ys)) G):=rfl
theorem jmD {G:Gp}{Q:K1}{a b:Addr}:binU .Add (.loc a) (.loc b) G Q=∃ xs ys,G a=some (.lst xs)/\G b=some (.lst ys)/\xs.length + ys.length<=Yan/\newO G (.lst (xs++ys)) Q:=rfl
theorem joo {G:Gp}{Q:K1}{i j:Int}:binU .Sub (.int i) (.int j) G Q=Q (.int (i - j)) G:=rfl
theorem jor {G:Gp}{Q:K1}{i j:Int}:binU .Mult (.int i) (.int j) G Q=(CMul i j/\Q (.int (i * j)) G):=rfl
theorem jmB {G:Gp}{Q:K1}{a:Addr}{k:Int}:binU .Mult (.loc a) (.int k) G Q=∃ xs,G a=some (.lst xs)/\-(2 ^ 63)<=k/\k < 2 ^ 63/\xs.length * k.toNat<=Yan/\newO G (.lst (Yaq k.toNat xs).flatten) Q:=rfl
theorem jmA {G:Gp}{Q:K1}{xs:List U}{k:Int}:binU .Mult (.tup xs) (.int k) G Q=(xs≠[]/\1<=k/\k < 2 ^ 62/\xs.length * k.toNat<=Yan/\Q (.tup (Yaq k.toNat xs).flatten) G):=rfl
theorem jmC {G:Gp}{Q:K1}{i j:Int}:binU .FloorDiv (.int i) (.int j) G Q=(0 < j/\j < 1073741824/\Q (.int (i / j)) G):=rfl
theorem jos {G:Gp}{Q:K1}{i j:Int}:binU .Mod (.int i) (.int j) G Q=(0 < j/\Q (.int (i % j)) G):=rfl
theorem jop {G:Gp}{Q:K1}{i j:Int}:binU .Pow (.int i) (.int j) G Q=(CPow i j/\Q (.int (i ^ j.toNat)) G):=rfl
theorem joq {G:Gp}{Q:K1}{i:Int}:negU (.int i) G Q=Q (.int (-i)) G:=rfl
theorem jon {G:Gp}{k:Bool->Prop}{i j:Int}:cmpU .Eq (.int i) (.int j) G k=k (decide (i=j)):=rfl
theorem joj {G:Gp}{k:Bool->Prop}{i j:Int}:cmpU .NotEq (.int i) (.int j) G k=k (!decide (i=j)):=rfl
theorem jol {G:Gp}{k:Bool->Prop}{i j:Str}:cmpU .Eq (.str i) (.str j) G k=k (decide (i=j)):=rfl
theorem joh {G:Gp}{k:Bool->Prop}{i j:Str}:cmpU .NotEq (.str i) (.str j) G k=k (!decide (i=j)):=rfl
theorem W_lt {G:Gp}{k:Bool->Prop}{i j:Int}:cmpU .Lt (.int i) (.int j) G k=k (decide (i < j)):=rfl
theorem W_gt {G:Gp}{k:Bool->Prop}{i j:Int}:cmpU .Gt (.int i) (.int j) G k=k (decide (j < i)):=rfl
theorem jog {G:Gp}{k:Bool->Prop}{xs ys:List U}:cmpU .NotEq (.tup xs) (.tup ys) G k=eqU (.tup xs) (.tup ys) G fun b=>k (!b):=rfl
theorem jok {G:Gp}{k:Bool->Prop}{xs ys:List U}{y:U}:cmpU .Eq (.tup xs) (.tup (y::ys)) G k=eqU (.tup xs) (.tup (y::ys)) G k:=rfl
theorem jmx {G:Gp}{k:Bool->Prop}{xs:List U}:cmpU .Eq (.tup xs) (.tup []) G k=k xs.isEmpty:=rfl
theorem joi {G:Gp}{k:Bool->Prop}{a b:Addr}:cmpU .NotEq (.loc a) (.loc b) G k=eqU (.loc a) (.loc b) G fun b=>k (!b):=rfl
theorem jom {G:Gp}{k:Bool->Prop}{a b:Addr}:cmpU .Eq (.loc a) (.loc b) G k=eqU (.loc a) (.loc b) G k:=rfl
theorem W_in {G:Gp}{k:Bool->Prop}{x y:U}:cmpU .In x y G k=inU x y G k:=rfl
theorem Y_bl {G:Gp}{k:Bool->Prop}{b:Bool}:truU (.bl b) G k=k b:=rfl
theorem joc {G:Gp}{k:Bool->Prop}:truU .non G k=k false:=rfl
theorem jod {G:Gp}{k:Bool->Prop}{i:Int}:truU (.int i) G k=k (i != 0):=rfl
theorem job {G:Gp}{k:Bool->Prop}{xs:List U}:truU (.tup xs) G k=k (!xs.isEmpty):=rfl
theorem joJ {G:Gp}{k:List U->(Gp->Prop)->Prop}{xs:List U}:itU (.tup xs) G k=k xs fun _=>True:=rfl
theorem joe {G:Gp}{Q:K1}{lo hi:Option Int}{xs:List U}:slU (.tup xs) lo hi G Q=Q (.tup (cut xs lo hi)) G:=rfl
theorem joM {us:List U}{G:Gp}{Q:K1}:bltU .len us G Q=lenU us G Q:=rfl
theorem jmM {us:List U}{G:Gp}{Q:K1}:bltU .repr us G Q=jcx us G Q:=rfl
theorem joL {us:List U}{G:Gp}{Q:K1}:bltU .sum us G Q=sumU us G Q:=rfl
theorem joO {us:List U}{G:Gp}{Q:K1}:bltU .any us G Q=anyU us G Q:=rfl
theorem jil {us:List U}{G:Gp}{Q:K1}:bltU .sorted us G Q=jbY us G Q:=rfl
theorem joN {us:List U}{G:Gp}{Q:K1}:bltU .int us G Q=intU us G Q:=rfl
theorem jof {G:Gp}{Q:K1}{lo hi:Option Int}{x:Str}:slU (.str x) lo hi G Q=(x.length<=Yan/\Q (.str (Yfx x lo hi)) G):=rfl
theorem jmE {G:Gp}{Q:K1}{b:Bool}{j:Int}:binU .Add (.bl b) (.int j) G Q=Q (.int ((if b=true then (1:Int) else 0) + j)) G:=rfl
theorem jmz {G:Gp}{Q:K1}{b:Bool}{j:Int}:binU .Sub (.bl b) (.int j) G Q=Q (.int ((if b=true then (1:Int) else 0) - j)) G:=rfl
theorem jmy {G:Gp}{Q:K1}{b:Bool}{i:Int}:binU .Sub (.int i) (.bl b) G Q=Q (.int (i - if b=true then (1:Int) else 0)) G:=rfl
theorem jmP {G:Gp}{Q:K1}{xs:List U}:lenU [.tup xs] G Q=Q (.int xs.length) G:=rfl
theorem jmN {G:Gp}{Q:K1}{i j:Int}:minU [.int i,.int j] G Q=Q (.int (if j < i then j else i)) G:=rfl
theorem jmO {G:Gp}{Q:K1}{i j:Int}:maxU [.int i,.int j] G Q=Q (.int (if j > i then j else i)) G:=rfl
theorem jmR {G:Gp}{Q:K1}{b:Bool}:intU [.bl b] G Q=Q (.int (if b then 1 else 0)) G:=rfl
theorem jmQ {G:Gp}{Q:K1}{i:Int}:intU [.int i] G Q=Q (.int i) G:=rfl
theorem G_n {i:Nat}{u:U}{ς:Sg}{k:Sg->Prop}:tgU (.n i) u ς k=k (ς.set i (some u)):=rfl
theorem G_t {ts:Tgs}{us:List U}{ς:Sg}{k:Sg->Prop}:tgU (.t ts) (.tup us) ς k=tgsU ts us ς k:=rfl
theorem joK {us:List U}{ς:Sg}{k:Sg->Prop}:tgsU .nil us ς k=(us=[]/\k ς):=rfl
theorem jmL {t:Tg}{ts:Tgs}{u:U}{r:List U}{ς:Sg}{k:Sg->Prop}:tgsU (.cons t ts) (u::r) ς k=tgU t u ς fun ς'=>tgsU ts r ς' k:=rfl
theorem sl_0 {u:U}{ς:Sg}{k:U->Prop}:slot (some u::ς) 0 k=k u:=rfl
theorem sl_s {o:Option U}{ς:Sg}{i:Nat}{k:U->Prop}:slot (o::ς) (i + 1) k=slot ς i k:=rfl
theorem jdr {G:Gp}{a:Addr}{o:MO}{Q:Gp->Prop}:putO G a o Q=Q (gup G a o):=propext ⟨fun h=>h.at,fun h G1 p=>by rw [p.eq]; exact h⟩
theorem ix_t {xs:List U}{i:Int}{u:U}{G:Gp}{Q:K1}(h:atI xs i=some u):ixU (.tup xs) (.int i) G Q=Q u G:=by unfold ixU; dsimp only; rw [h]
theorem ix_l {a:Addr}{xs:List U}{i:Int}{u:U}{G:Gp}{Q:K1}(g:G a=some (.lst xs))(h:atI xs i=some u):ixU (.loc a) (.int i) G Q=Q u G:=by unfold ixU; dsimp only; rw [g]; dsimp only; rw [h]
theorem ix_d {a:Addr}{kvs:List (Key×U)}{x:Str}{u:U}{G:Gp}{Q:K1}(g:G a=some (.dK kvs))(h:dGet kvs (.inr x)=some u):ixU (.loc a) (.str x) G Q=Q u G:=by unfold ixU; dsimp only; rw [g]; show (match dGet kvs (.inr x) with | some u=>Q u G | none=>False)=_; rw [h]
theorem jkg {a:Addr}{xs:List U}{r:Int}{G:Gp}{Q:K1}(g:G a=some (.lst xs))(h0:0<=r)(h1:r < xs.length)(q:∀ u∈xs,Q u G):ixU (.loc a) (.int r) G Q:=by
 obtain ⟨u,hu,e⟩:=jhk h0 h1
 rw [ix_l g e]
 exact q u hu
theorem jfw (zs:List Int){a:Addr}{r:Int}{G:Gp}{Q:K1}(g:G a=some (.lst (zs.map .int)))(h0:0<=r)(h1:r < zs.length)(q:∀ z∈zs,Q (.int z) G):ixU (.loc a) (.int r) G Q:=
 jkg g h0 (by rw [Yai]; exact h1) fun u hu=>by
  obtain ⟨z,hz,rfl⟩:=Yfp.mp hu
  exact q z hz
theorem jco:∀ zs:List Int,jdz (zs.map .int)=some zs
 | []=>rfl
 | x::r=>by show (match jdz (r.map .int) with | some l=>some (x::l) | none=>none)=_; rw [jco r]
theorem jgP {a:Addr}{xs:List U}{G:Gp}{Q:K1}(g:G a=some (.lst xs)):lenU [.loc a] G Q=Q (.int xs.length) G:=by unfold lenU; dsimp only; rw [g]
theorem jnS {a:Addr}{xs:List U}{G:Gp}{Q:K1}(g:G a=some (.fro xs)):lenU [.loc a] G Q=Q (.int xs.length) G:=by unfold lenU; dsimp only; rw [g]
theorem it_l {a:Addr}{xs:List U}{G:Gp}{k:List U->(Gp->Prop)->Prop}(g:G a=some (.lst xs)):itU (.loc a) G k=k xs fun G'=>lsG G' a=some xs:=by unfold itU; dsimp only; have e:lsG G a=some xs:=(by unfold lsG; rw [g]); rw [e]
theorem jmv {a:Addr}{xs:List U}{v:U}{G:Gp}{Q:K1}(g:G a=some (.lst xs)):jcC .append (.loc a) [v] G Q=(xs.length < Yan/\putO G a (.lst (xs++[v])) (Q .non)):=by unfold jcC je2; dsimp only; rw [g]
theorem jiJ {a:Addr}{xs:List U}{G:Gp}(g:G a=some (.lst xs)):mtU .append (.loc a) G=some ("list", "list.append"):=by unfold mtU; dsimp only; rw [g]
theorem jhC {a:Addr}{kvs:List (Key×U)}{x:Str}{v:U}{G:Gp}{Q:Gp->Prop}(g:G a=some (.dK kvs)):setU (.loc a) (.str x) v G Q=(kvs.length < Yan/\putO G a (.dK (dPut kvs (.inr x) v)) Q):=by unfold setU; dsimp only; rw [g]; rfl
noncomputable def jib:Nat->Ss->Ss
 | 0,s=>s
 | _ + 1,.nil=>.nil
 | n + 1,.cons _ r=>jib n r
theorem dr_0 {s:Ss}:jib 0 s=s:=rfl
theorem dr_s {n:Nat}{s:S}{r:Ss}:jib (n + 1) (.cons s r)=jib n r:=rfl
theorem pk_nil {ς:Sg}:jbA [] ς=[]:=rfl
theorem jjI {ς:Sg}{r:List (Option Nat)}:jbA (none::r) ς=none::jbA r ς:=rfl
theorem jjH {ς:Sg}{j:Nat}{r:List (Option Nat)}:jbA (some j::r) ς=(ς[j]?).join::jbA r ς:=rfl
theorem joH {x:Str}:kU (.str x)=some (.inr x):=rfl
theorem joI {i:Int}:kU (.int i)=some (.inl i):=rfl
theorem sl_f {a:Addr}{xs:List U}{lo hi:Option Int}{G:Gp}{Q:K1}(g:G a=some (.fro xs)):slU (.loc a) lo hi G Q=newO G (.lst (cut xs lo hi)) Q:=by unfold slU; dsimp only; have e:lsG G a=some xs:=(by unfold lsG; rw [g]); rw [e]
theorem jkB {α β:Type}(f:α->β)(xs:List α)(lo hi:Option Int):cut (xs.map f) lo hi=(cut xs lo hi).map f:=by unfold cut; rw [Yai,<- Ye5,<- Yd7]
theorem jee {α:Type}(xs:List α)(n:Nat):cut xs none (some (n:Int))=xs.take n:=by
 unfold cut
 rw [HT.sIx_none,HT.sIx_nat,YdS,Nat.sub_zero,List.take_eq_take_iff]
 omega
theorem jfE {α:Type}(xs:List α)(n:Nat):cut xs (some (n:Int)) none=xs.drop n:=by
 unfold cut
 rw [HT.sIx_none,HT.sIx_nat]
 by_cases h:n<=xs.length
 ·rw [Ydn h,Ycf (by simp)]
 ·rw [Nat.min_eq_right (by omega),YbE (Yak _),YbE (by omega),List.take_nil]
theorem jh8 {G:Gp}{f c:Addr}{a l t:Int}{Q:K1}:ixU (.loc f) (.str "cells") (gup G f (.dK (fdU c a l t))) Q=Q (.loc c) (gup G f (.dK (fdU c a l t))):=ix_d jap jko
theorem jn5 {G:Gp}{f c:Addr}{a l t:Int}{Q:K1}:ixU (.loc f) (.str "at") (gup G f (.dK (fdU c a l t))) Q=Q (.int a) (gup G f (.dK (fdU c a l t))):=ix_d jap g_at
theorem jkq {G:Gp}{f c:Addr}{a l t:Int}{Q:K1}:ixU (.loc f) (.str "left") (gup G f (.dK (fdU c a l t))) Q=Q (.int l) (gup G f (.dK (fdU c a l t))):=ix_d jap jmg
theorem jkp {G:Gp}{f c:Addr}{a l t:Int}{Q:K1}:ixU (.loc f) (.str "turn") (gup G f (.dK (fdU c a l t))) Q=Q (.int t) (gup G f (.dK (fdU c a l t))):=ix_d jap jiR
theorem jn6 {G:Gp}{f c:Addr}{a l t x:Int}{Q:Gp->Prop}:setU (.loc f) (.str "at") (.int x) (gup G f (.dK (fdU c a l t))) Q=Q (gup G f (.dK (fdU c x l t))):=by rw [jhC jap,p_at,jdr,jeT]; exact propext ⟨fun h=>h.2,fun h=>⟨jfB,h⟩⟩
theorem jkv {G:Gp}{f c:Addr}{a l t x:Int}{Q:Gp->Prop}:setU (.loc f) (.str "left") (.int x) (gup G f (.dK (fdU c a l t))) Q=Q (gup G f (.dK (fdU c a x t))):=by rw [jhC jap,jlx,jdr,jeT]; exact propext ⟨fun h=>h.2,fun h=>⟨jfB,h⟩⟩
theorem jku {G:Gp}{f c:Addr}{a l t x:Int}{Q:Gp->Prop}:setU (.loc f) (.str "turn") (.int x) (gup G f (.dK (fdU c a l t))) Q=Q (gup G f (.dK (fdU c a l x))):=by rw [jhC jap,jiF,jdr,jeT]; exact propext ⟨fun h=>h.2,fun h=>⟨jfB,h⟩⟩
noncomputable abbrev jaF:Nat:=0
noncomputable abbrev jdZ:Nat:=1
noncomputable abbrev jd0:Nat:=2
noncomputable abbrev jbC:Nat:=3
noncomputable abbrev jaS:Nat:=4
noncomputable abbrev jbg:Nat:=5
noncomputable abbrev ja5:Nat:=6
noncomputable abbrev jc4:Nat:=7
noncomputable abbrev jae:Nat:=8
noncomputable abbrev jcB:Nat:=9
noncomputable abbrev jcb:Nat:=10
noncomputable abbrev jc3:Nat:=11
noncomputable abbrev jb0:Nat:=12
noncomputable abbrev ja8:Nat:=13
noncomputable abbrev jfY:Nat:=14
noncomputable def jcL:Fun:=⟨"length_of",["plan", "period", "beats", "s"],["plan", "period", "beats", "s", "word", "one", "other", "low", "high"],
  (.cons (.asg (.t (.cons (.n 4) (.cons (.n 5) (.cons (.n 6) (.cons (.n 7) (.cons (.n 8) .nil)))))) (.ix (.ix (.v 0) (.int 1)) (.v 3)))
  (.cons (.ret (.bin .Add (.v 7) (.bin .Mod (.bin .Sub (.bin .Sub (.ix (.v 2) (.v 6)) (.ix (.v 2) (.v 5))) (.v 7)) (.v 1))))
  .nil))⟩
noncomputable def jec:Fun:=⟨"step_of",["plan", "period", "beats", "s"],["plan", "period", "beats", "s", "word", "one", "other", "low", "high"],
  (.cons (.asg (.t (.cons (.n 4) (.cons (.n 5) (.cons (.n 6) (.cons (.n 7) (.cons (.n 8) .nil)))))) (.ix (.ix (.v 0) (.int 1)) (.v 3)))
  (.cons (.ret (.bin .FloorDiv (.bin .Sub (.bin .Add (.ix (.v 2) (.v 5)) (.call jaF (.cons (.v 0) (.cons (.v 1) (.cons (.v 2) (.cons (.v 3) .nil)))))) (.ix (.v 2) (.v 6))) (.v 1)))
  .nil))⟩
noncomputable def jed:Fun:=⟨"ends_of",["plan", "entry"],["plan", "entry", "s", "way", "word", "one", "other", "low", "high"],
  (.cons (.ite (.cmp .Eq (.blt .len (.cons (.v 1) .nil)) (.int 3)) (.cons (.ret (.tup (.cons (.ix (.v 1) (.int 1)) (.cons (.ix (.v 1) (.int 2)) .nil))))
  .nil) .nil)
  (.cons (.asg (.t (.cons (.n 2) (.cons (.n 3) .nil))) (.v 1))
  (.cons (.asg (.t (.cons (.n 4) (.cons (.n 5) (.cons (.n 6) (.cons (.n 7) (.cons (.n 8) .nil)))))) (.ix (.ix (.v 0) (.int 1)) (.v 2)))
  (.cons (.ret (.ife (.cmp .Eq (.v 3) (.int 1)) (.tup (.cons (.v 5) (.cons (.v 6) .nil))) (.tup (.cons (.v 6) (.cons (.v 5) .nil)))))
  .nil))))⟩
noncomputable def jcK:Fun:=⟨"rounds_in",["plan", "period", "beats", "ring"],["plan", "period", "beats", "ring"],
  (.cons (.ret (.bin .FloorDiv (.blt .sum (.cons (.lc [none,none,some 0,some 1,some 2] (.t (.cons (.n 0) (.cons (.n 1) .nil))) (.e (.v 3)) .nil (.bin .Mult (.v 1) (.call jaF (.cons (.v 2) (.cons (.v 3) (.cons (.v 4) (.cons (.v 0) .nil))))))) .nil)) (.v 1)))
  .nil)⟩
noncomputable def jdd:Fun:=⟨"vehicles",["plan", "period", "beats", "ring"],["plan", "period", "beats", "ring", "many"],
  (.cons (.ite (.blt .any (.cons (.lc [none,none] (.t (.cons (.n 0) (.cons (.n 1) .nil))) (.e (.v 3)) .nil (.cmp .Eq (.v 1) (.neg (.int 1)))) .nil)) (.cons (.raise 3 (.cons (.str "back") .nil))
  .nil) .nil)
  (.cons (.asg (.n 4) (.call jbC (.cons (.v 0) (.cons (.v 1) (.cons (.v 2) (.cons (.v 3) .nil))))))
  (.cons (.ite (.cmp .Eq (.v 4) (.int 0)) (.cons (.raise 3 (.cons (.str "none") .nil))
  .nil) .nil)
  (.cons (.ret (.v 4))
  .nil))))⟩
noncomputable def jcd:Fun:=⟨"vehicle_at",["plan", "period", "beats", "ring", "place", "turn"],["plan", "period", "beats", "ring", "place", "turn", "many", "ahead"],
  (.cons (.asg (.n 6) (.call jaS (.cons (.v 0) (.cons (.v 1) (.cons (.v 2) (.cons (.v 3) .nil))))))
  (.cons (.asg (.n 7) (.blt .sum (.cons (.lc [none,none,some 0,some 1,some 2] (.t (.cons (.n 0) (.cons (.n 1) .nil))) (.e (.sl (.v 3) .no (.so (.v 4)))) .nil (.call jdZ (.cons (.v 2) (.cons (.v 3) (.cons (.v 4) (.cons (.v 0) .nil)))))) .nil)))
  (.cons (.ret (.bin .Mod (.bin .Sub (.v 5) (.v 7)) (.v 6)))
  .nil)))⟩
noncomputable def jaW:Ss:=
  (.cons (.asg (.n 11) (.bin .Mod (.v 10) (.blt .len (.cons (.v 3) .nil))))
  (.cons (.expr (.meth .append (.v 9) (.cons (.tup (.cons (.v 8) (.cons (.v 11) .nil))) .nil)))
  (.cons (.aug 8 .Add (.call jaF (.cons (.v 0) (.cons (.v 1) (.cons (.v 2) (.cons (.ix (.ix (.v 3) (.v 11)) (.int 0)) .nil))))))
  .nil)))
noncomputable def jba:Ss:=
  (.cons (.fr (.n 10) (.r1 (.v 5)) jaW)
  (.cons (.ret (.v 9))
  .nil))
noncomputable def jbP:Fun:=⟨"vehicle_row",["plan", "period", "beats", "ring", "vehicle", "many"],["plan", "period", "beats", "ring", "vehicle", "many", "start", "end", "beat", "row", "at", "place"],
  (.cons (.expr (.call jaS (.cons (.v 0) (.cons (.v 1) (.cons (.v 2) (.cons (.v 3) .nil))))))
  (.cons (.asg (.t (.cons (.n 6) (.cons (.n 7) .nil))) (.call jd0 (.cons (.v 0) (.cons (.ix (.v 3) (.int 0)) .nil))))
  (.cons (.asg (.n 8) (.bin .Add (.ix (.v 2) (.v 6)) (.bin .Mult (.v 4) (.v 1))))
  (.cons (.asg (.n 9) (.lst .nil))
  jba))))⟩
noncomputable def jdg:Fun:=⟨"_law_feed",["_law_script"],["_law_script"],
  (.cons (.ret (.dic (.cons (.str "cells") (.cons (.bin .Add (.mkL (.sl (.v 0) .no (.so (.int 63)))) (.bin .Mult (.lst (.cons (.int 0) .nil)) (.blt .int (.cons (.cmp .Eq (.blt .len (.cons (.v 0) .nil)) (.int 0)) .nil)))) (.cons (.str "at") (.cons (.int 0) (.cons (.str "left") (.cons (.int 0) (.cons (.str "turn") (.cons (.int 0) .nil))))))))))
  .nil)⟩
noncomputable def jdh:Fun:=⟨"_law_draw",["_law_feed_here", "_law_many"],["_law_feed_here", "_law_many", "_law_cell", "_law_mixed", "_law_found"],
  (.cons (.setS (.v 0) (.str "turn") (.bin .Add (.ix (.v 0) (.str "turn")) (.int 1)))
  (.cons (.ite (.cmp .Eq (.ix (.v 0) (.str "left")) (.int 0)) (.cons (.asg (.n 2) (.ix (.ix (.v 0) (.str "cells")) (.bin .Mod (.ix (.v 0) (.str "at")) (.blt .len (.cons (.ix (.v 0) (.str "cells")) .nil)))))
  (.cons (.setS (.v 0) (.str "at") (.bin .Add (.ix (.v 0) (.str "at")) (.int 1)))
  (.cons (.ite (.cmp .Lt (.v 2) (.bin .Pow (.int 10) (.int 18))) (.cons (.asg (.n 3) (.bin .Mod (.bin .Mult (.bin .Add (.bin .Mod (.v 2) (.int 2147483629)) (.bin .Mult (.int 1019) (.ix (.v 0) (.str "turn")))) (.int 48271)) (.int 2147483647)))
  (.cons (.asg (.n 3) (.bin .Mod (.bin .Mult (.bin .Add (.bin .FloorDiv (.v 3) (.int 13)) (.bin .Mult (.int 43) (.ix (.v 0) (.str "turn")))) (.int 69621)) (.int 2147483587)))
  (.cons (.ret (.bin .Mod (.bin .FloorDiv (.v 3) (.int 11)) (.v 1)))
  .nil))) .nil)
  (.cons (.setS (.v 0) (.str "left") (.v 2))
  .nil)))) .nil)
  (.cons (.asg (.n 4) (.bin .Mod (.ix (.v 0) (.str "left")) (.v 1)))
  (.cons (.setS (.v 0) (.str "left") (.bin .FloorDiv (.ix (.v 0) (.str "left")) (.v 1)))
  (.cons (.ret (.v 4))
  .nil)))))⟩
noncomputable def jcM:Fun:=⟨"_law_names",["_law_feed_here", "_law_many"],["_law_feed_here", "_law_many", "_law_some", "_law_first", "_law_step"],
  (.cons (.asg (.n 2) (.lst (.cons (.str "a") (.cons (.str "ab") (.cons (.str "abc") (.cons (.str "b") (.cons (.str "ba") (.cons (.str "works") (.cons (.str "span") (.cons (.str "apart") (.cons (.str "at") (.cons (.str "none") (.cons (.str "hold") (.cons (.str "zzzzzzzz") (.cons (.str "z") (.cons (.str "o") (.cons (.str "find") .nil)))))))))))))))))
  (.cons (.asg (.n 2) (.bin .Add (.v 2) (.lst (.cons (.str "late") (.cons (.str "n") .nil)))))
  (.cons (.asg (.n 3) (.call jae (.cons (.v 0) (.cons (.int 17) .nil))))
  (.cons (.asg (.n 4) (.bin .Add (.int 1) (.call jae (.cons (.v 0) (.cons (.int 16) .nil)))))
  (.cons (.ret (.mkT (.lc [none,some 2,some 3,some 4] (.n 0) (.r1 (.v 1)) .nil (.ix (.v 1) (.bin .Mod (.bin .Add (.v 2) (.bin .Mult (.v 3) (.v 0))) (.int 17))))))
  .nil)))))⟩
noncomputable def jce:Fun:=⟨"_law_number",["_law_feed_here", "_law_cycle"],["_law_feed_here", "_law_cycle"],
  (.cons (.ret (.ix (.lst (.cons (.int 0) (.cons (.call jae (.cons (.v 0) (.cons (.v 1) .nil))) (.cons (.call jae (.cons (.v 0) (.cons (.v 1) .nil))) (.cons (.call jae (.cons (.v 0) (.cons (.bin .Add (.bin .Mult (.int 3) (.v 1)) (.int 1)) .nil))) .nil))))) (.call jae (.cons (.v 0) (.cons (.int 4) .nil)))))
  .nil)⟩
noncomputable def jbb:Ss:=
  (.cons (.asg (.n 6) (.call jcb (.cons (.v 0) (.cons (.v 1) .nil))))
  (.cons (.expr (.meth .append (.v 4) (.cons (.tup (.cons (.str "span") (.cons (.ix (.v 3) (.v 5)) (.cons (.ix (.v 3) (.bin .Mod (.bin .Add (.v 5) (.int 1)) (.blt .len (.cons (.v 3) .nil)))) (.cons (.v 6) (.cons (.bin .Add (.v 6) (.call jae (.cons (.v 0) (.cons (.bin .Mult (.int 2) (.v 1)) .nil)))) .nil)))))) .nil)))
  .nil))
noncomputable def jb8:Ss:=
  (.cons (.fr (.n 5) (.r1 (.blt .len (.cons (.v 3) .nil))) jbb)
  (.cons (.ret (.tup (.cons (.tup (.cons (.call jcB (.cons (.v 0) (.cons (.v 2) .nil))) (.cons (.mkT (.v 4)) .nil))) (.cons (.mkT (.lc [none] (.n 0) (.r1 (.blt .len (.cons (.v 4) .nil))) .nil (.tup (.cons (.v 0) (.cons (.int 1) .nil))))) .nil))))
  .nil))
noncomputable def jdf:Fun:=⟨"_law_plan",["_law_feed_here", "_law_cycle"],["_law_feed_here", "_law_cycle", "_law_works", "_law_line", "_law_spans", "_law_k", "_law_low"],
  (.cons (.asg (.n 2) (.bin .Add (.int 1) (.call jae (.cons (.v 0) (.cons (.int 8) .nil)))))
  (.cons (.asgC 3 (.lc [none,some 0,some 2] (.n 0) (.r1 (.bin .Add (.int 1) (.call jae (.cons (.v 0) (.cons (.int 8) .nil))))) .nil (.call jae (.cons (.v 1) (.cons (.v 2) .nil)))))
  (.cons (.asg (.n 4) (.lst .nil))
  jb8)))⟩
noncomputable def jde:Fun:=⟨"_law_word",["_law_way", "_law_plan_here", "_law_cycle", "_law_beats", "_law_ring"],["_law_way", "_law_plan_here", "_law_cycle", "_law_beats", "_law_ring", "_law_found", "e"],
  (.cons (.asg (.n 5) (.str "told"))
  (.cons (.tr (.cons (.ite (.cmp .Eq (.v 0) (.int 0)) (.cons (.expr (.call jaS (.cons (.v 1) (.cons (.v 2) (.cons (.v 3) (.cons (.v 4) .nil))))))
  .nil) (.cons (.ite (.cmp .Eq (.v 0) (.int 1)) (.cons (.expr (.call jbg (.cons (.v 1) (.cons (.v 2) (.cons (.v 3) (.cons (.v 4) (.cons (.int 0) (.cons (.int 0) .nil))))))))
  .nil) (.cons (.expr (.call ja5 (.cons (.v 1) (.cons (.v 2) (.cons (.v 3) (.cons (.v 4) (.cons (.int 0) (.cons (.int 3) .nil))))))))
  .nil))
  .nil))
  .nil) 3 6 [.asg 5 (.one (.att "word"))])
  (.cons (.ret (.v 5))
  .nil)))⟩
noncomputable def jaX:Ss:=
  (.cons (.asgC 15 (.lc [none,none] (.t (.cons (.n 0) (.cons (.n 1) .nil))) (.dk (.v 7)) (.cons (.cmp .Eq (.v 0) (.int 0)) .nil) (.v 1)))
  (.cons (.ret (.cmp .Eq (.blt .sorted (.cons (.v 15) .nil)) (.rngL (.bin .Mult (.v 4) (.v 5)))))
  .nil))
noncomputable def jaI:Ss:=
  (.cons (.ite (.cmp .NotEq (.ix (.ix (.ix (.v 6) (.v 8)) (.int 0)) (.int 0)) (.bin .Add (.bin .Mult (.v 8) (.v 1)) (.ix (.v 2) (.ix (.ix (.ix (.v 0) (.int 1)) (.ix (.ix (.v 3) (.int 0)) (.int 0))) (.int 1))))) (.cons (.ret (.bl false))
  .nil) .nil)
  .nil)
noncomputable def jav:Ss:=
  (.cons (.ite (.cmp .Gt (.v 9) (.int 0)) (.cons (.asg (.n 14) (.call jaF (.cons (.v 0) (.cons (.v 1) (.cons (.v 2) (.cons (.ix (.ix (.v 3) (.bin .Sub (.v 11) (.int 1))) (.int 0)) .nil))))))
  (.cons (.ite (.cmp .NotEq (.bin .Sub (.v 10) (.ix (.ix (.ix (.v 6) (.v 8)) (.bin .Sub (.v 9) (.int 1))) (.int 0))) (.v 14)) (.cons (.ret (.bl false))
  .nil) .nil)
  .nil)) .nil)
  .nil)
noncomputable def jaw:Ss:=
  (.cons (.setS (.v 7) (.tup (.cons (.v 11) (.cons (.v 13) .nil))) (.v 8))
  jav)
noncomputable def jax:Ss:=
  (.cons (.ite (.bop false (.cmp .NotEq (.call jbg (.cons (.v 0) (.cons (.v 1) (.cons (.v 2) (.cons (.v 3) (.cons (.v 11) (.cons (.v 13) .nil))))))) (.v 8)) (.cons (.cmp .In (.tup (.cons (.v 11) (.cons (.v 13) .nil))) (.v 7)) .nil)) (.cons (.ret (.bl false))
  .nil) .nil)
  jaw)
noncomputable def jay:Ss:=
  (.cons (.ite (.bop false (.cmp .NotEq (.v 11) (.bin .Mod (.v 9) (.blt .len (.cons (.v 3) .nil)))) (.cons (.cmp .NotEq (.bin .Mod (.bin .Sub (.v 10) (.ix (.v 2) (.v 12))) (.v 1)) (.int 0)) .nil)) (.cons (.ret (.bl false))
  .nil) .nil)
  (.cons (.asg (.n 13) (.bin .FloorDiv (.bin .Sub (.v 10) (.ix (.v 2) (.v 12))) (.v 1)))
  jax))
noncomputable def jal:Ss:=
  (.cons (.asg (.t (.cons (.n 10) (.cons (.n 11) .nil))) (.ix (.ix (.v 6) (.v 8)) (.v 9)))
  (.cons (.asg (.n 12) (.ix (.ix (.ix (.v 0) (.int 1)) (.ix (.ix (.v 3) (.v 11)) (.int 0))) (.int 1)))
  jay))
noncomputable def jaJ:Ss:=
  (.cons (.fr (.n 9) (.r1 (.blt .len (.cons (.ix (.v 6) (.v 8)) .nil))) jal)
  jaI)
noncomputable def jaY:Ss:=
  (.cons (.fr (.n 8) (.r1 (.v 4)) jaJ)
  jaX)
noncomputable def ja9:Fun:=⟨"_law_rows_right",["_law_plan_here", "_law_cycle", "_law_beats", "_law_ring", "_law_many", "_law_turns"],["_law_plan_here", "_law_cycle", "_law_beats", "_law_ring", "_law_many", "_law_turns", "_law_rows", "_law_met", "_law_k", "_law_at", "_law_beat", "_law_place", "_law_work", "_law_turn", "_law_length", "_law_firsts"],
  (.cons (.asgC 6 (.lc [none,some 0,some 1,some 2,some 3,some 5] (.n 0) (.r1 (.v 4)) .nil (.call ja5 (.cons (.v 1) (.cons (.v 2) (.cons (.v 3) (.cons (.v 4) (.cons (.v 0) (.cons (.bin .Mult (.v 5) (.blt .len (.cons (.v 4) .nil))) .nil)))))))))
  (.cons (.asg (.n 7) .dicT)
  jaY))⟩
noncomputable def jbx:Ss:=
  (.cons (.ite (.cmp .NotEq (.blt .repr (.cons (.tup (.cons (.v 4) (.cons (.v 6) (.cons (.bin .Add (.sl (.v 5) (.so (.bin .Sub (.blt .len (.cons (.v 5) .nil)) (.v 8))) .no) (.sl (.v 5) .no (.so (.bin .Sub (.blt .len (.cons (.v 5) .nil)) (.v 8))))) .nil)))) .nil)) (.v 7)) (.cons (.ret (.bl false))
  .nil) .nil)
  .nil)
noncomputable def jbq:Ss:=
  (.cons (.ite (.not (.call ja8 (.cons (.v 4) (.cons (.v 3) (.cons (.v 6) (.cons (.v 5) (.cons (.v 9) (.cons (.v 13) .nil)))))))) (.cons (.ret (.bl false))
  .nil) .nil)
  .nil)
noncomputable def jbr:Ss:=
  (.cons (.asg (.n 13) (.bin .Add (.int 1) (.call jae (.cons (.v 1) (.cons (.int 3) .nil)))))
  jbq)
noncomputable def jbs:Ss:=
  (.cons (.ite (.cmp .NotEq (.call jaS (.cons (.v 4) (.cons (.v 3) (.cons (.v 6) (.cons (.bin .Add (.v 5) (.v 5)) .nil))))) (.bin .Mult (.int 2) (.v 9))) (.cons (.ret (.bl false))
  .nil) .nil)
  jbr)
noncomputable def jbt:Ss:=
  (.cons (.ite (.cmp .NotEq (.blt .repr (.cons (.call jaS (.cons (.v 4) (.cons (.v 3) (.cons (.v 6) (.cons (.v 5) .nil))))) .nil)) (.blt .repr (.cons (.v 9) .nil))) (.cons (.ret (.bl false))
  .nil) .nil)
  jbs)
noncomputable def jby:Ss:=
  (.cons (.ite (.cmp .Gt (.v 9) (.int 0)) jbt .nil)
  jbx)
noncomputable def jbu:Ss:=
  (.cons (.ite (.cmp .NotEq (.call jb0 (.cons (.v 12) (.cons (.v 4) (.cons (.v 3) (.cons (.v 6) (.cons (.v 11) .nil)))))) (.str "back")) (.cons (.ret (.bl false))
  .nil) .nil)
  (.cons (.ite (.cmp .NotEq (.call jb0 (.cons (.v 12) (.cons (.v 4) (.cons (.v 3) (.cons (.v 6) (.cons (.v 5) .nil)))))) (.ix (.lst (.cons (.str "told") (.cons (.str "none") .nil))) (.blt .int (.cons (.cmp .Eq (.v 9) (.int 0)) .nil)))) (.cons (.ret (.bl false))
  .nil) .nil)
  .nil))
noncomputable def jbz:Ss:=
  (.cons (.fr (.n 12) (.r1 (.int 3)) jbu)
  jby)
noncomputable def jc0:Ss:=
  (.cons (.ite (.cmp .NotEq (.bin .Mult (.v 9) (.v 3)) (.v 10)) (.cons (.ret (.bl false))
  .nil) .nil)
  (.cons (.asg (.n 11) (.mkT (.lc [none,none] (.t (.cons (.n 0) (.cons (.n 1) .nil))) (.e (.rev (.v 5) (.neg (.int 1)))) .nil (.tup (.cons (.v 0) (.cons (.neg (.int 1)) .nil))))))
  jbz))
noncomputable def jbS:Ss:=
  (.cons (.asg (.n 9) (.call jbC (.cons (.v 4) (.cons (.v 3) (.cons (.v 6) (.cons (.v 5) .nil))))))
  (.cons (.asg (.n 10) (.blt .sum (.cons (.lc [none,none,some 3,some 4,some 6] (.t (.cons (.n 0) (.cons (.n 1) .nil))) (.e (.v 5)) .nil (.call jaF (.cons (.v 3) (.cons (.v 2) (.cons (.v 4) (.cons (.v 0) .nil)))))) .nil)))
  jc0))
noncomputable def jc1:Ss:=
  (.cons (.asg (.n 5) (.bin .Add (.sl (.v 5) (.so (.v 8)) .no) (.sl (.v 5) .no (.so (.v 8)))))
  jbS)
noncomputable def jbT:Ss:=
  (.cons (.asg (.n 8) (.call jae (.cons (.v 1) (.cons (.blt .len (.cons (.v 5) .nil)) .nil))))
  jc1)
noncomputable def jbU:Ss:=
  (.cons (.asg (.n 6) (.mkT (.lc [none,some 1,some 3] (.n 0) (.e (.ix (.v 4) (.int 0))) .nil (.call jae (.cons (.v 1) (.cons (.v 2) .nil))))))
  (.cons (.asg (.n 7) (.blt .repr (.cons (.tup (.cons (.v 4) (.cons (.v 6) (.cons (.v 5) .nil)))) .nil)))
  jbT))
noncomputable def jbV:Ss:=
  (.cons (.asg (.n 3) (.ix (.lst (.cons (.int 1) (.cons (.int 2) (.cons (.int 3) (.cons (.int 5) (.cons (.int 7) (.cons (.int 12) (.cons (.int 60) (.cons (.int 600) (.cons (.bin .Add (.int 1) (.call jae (.cons (.v 1) (.cons (.int 60) .nil)))) (.cons (.int 4) .nil))))))))))) (.call jae (.cons (.v 1) (.cons (.int 10) .nil)))))
  (.cons (.asg (.t (.cons (.n 4) (.cons (.n 5) .nil))) (.call jc3 (.cons (.v 1) (.cons (.v 3) .nil))))
  jbU))
noncomputable def jgo:Ss:=
  (.cons (.fr (.n 2) (.r1 (.int 3)) jbV)
  (.cons (.ret (.bl true))
  .nil))
noncomputable def jic:Fun:=⟨"law",["_law_script"],["_law_script", "_law_feed_here", "_law_k", "_law_cycle", "_law_plan_here", "_law_ring", "_law_beats", "_law_kept", "_law_at", "_law_many", "_law_total", "_law_back", "_law_way", "_law_turns"],
  (.cons (.asg (.n 1) (.call jc4 (.cons (.v 0) .nil)))
  jgo)⟩
noncomputable def T:Tab:=⟨[jcL,jec,jed,jcK,jdd,jcd,jbP,jdg,jdh,jcM,jce,jdf,jde,ja9,jic],[],[],[3]⟩
def top (i:Nat):Stmt:=PySem.Challenge.pw_beatplans_k98_whole_vehicles_go_around.main.body.getD i (.Pass ⟨0,0,0,0⟩)
noncomputable abbrev s_length_of:Stmt:=top 4
noncomputable abbrev s_step_of:Stmt:=top 6
noncomputable abbrev s_ends_of:Stmt:=top 8
noncomputable abbrev s_rounds_in:Stmt:=top 9
noncomputable abbrev s_vehicles:Stmt:=top 11
noncomputable abbrev s_vehicle_at:Stmt:=top 12
noncomputable abbrev s_vehicle_row:Stmt:=top 13
noncomputable abbrev s_law_feed:Stmt:=top 15
noncomputable abbrev s_law_draw:Stmt:=top 16
noncomputable abbrev s_law_names:Stmt:=top 17
noncomputable abbrev s_law_number:Stmt:=top 18
noncomputable abbrev s_law_plan:Stmt:=top 19
noncomputable abbrev s_law_word:Stmt:=top 20
noncomputable abbrev s_law_rows_right:Stmt:=top 21
noncomputable abbrev s_law:Stmt:=top 22
local macro_rules
 | `(tactic| simp! only [$xs,*])=>`(tactic| try simp only [D_v,T_v,joT,D_bl,joZ,joQ,jo4,joA,joU,jo2,joy,joP,joX,jo1,jmT,jmF,D_ix,T_ix,D_sl,joR,jmU,jmG,jo3,joz,jmS,D_lc,joY,jow,joW,joV,joS,jov,jo0,jox,jmV,jo5,D_or,joB,T_or,O_no,O_so,jo8,jmY,jo6,jmW,joG,jmK,I_e,I_r1,I_dk,jmI,joF,jmJ,jmH,joE,joD,S_fr,joC,jkI,S_tr,jo7,jmX,jou,jot,jmD,joo,jor,jmB,jmA,jmC,jos,jop,joq,jon,joj,jol,joh,W_lt,W_gt,jog,jok,jmx,joi,jom,W_in,Y_bl,joc,jod,job,joJ,joe,joM,jmM,joL,joO,jil,joN,jof,jmE,jmz,jmy,jmP,jmN,jmO,jmR,jmQ,G_n,G_t,joK,jmL,sl_0,sl_s,dr_0,dr_s,pk_nil,jjI,jjH,joH,joI,jh8,jn5,jkq,jkp,jn6,jkv,jku,Ya4,Yc5,Ygk,Yb9,YbJ,YcK,List.set_cons_zero,List.set_cons_succ,Yf1,List.zip_nil_right,List.zip_nil_left,YeD,List.foldl_nil,List.getElem?_cons_zero,List.getElem?_cons_succ,Option.join_some,ite_true,ite_false,Ybb,Yc2,$xs,*])
set_option maxHeartbeats 1000000
section
variable {k:Nat}{G:Gp}{Q:K1}{X:KX}
theorem jau {f c:Addr}{m:Int}(hf:Fd G f c)(h0:0 < m)(h1:m < 1000000000)(q:∀ (r:Int) (G':Gp),0<=r->r < m->Fd G' f c->Sm f G G'->Q (.int r) G'):jac T (k + 1) jae [.loc f,.int m] G Q X:=by
 obtain ⟨ns,a,l,t,g1,g2,hn⟩:=hf.ex
 have fin:∀ (z a' l' t':Int),Q (.int (z % m)) (gup G f (.dK (fdU c a' l' t'))):=fun z a' l' t'=>q _ _ (YdO z (by omega)) (Ydr z h0) (Fd.put ⟨rfl⟩ g1 g2 hn) Sm.put
 have hlen:0 < ns.length:=List.length_pos_iff.mpr hn
 have gc:∀ kvs,gup G f (.dK kvs) c=some (.lst (ns.map .int)):=fun kvs=>by rw [jbh (fun z=>by rw [z,g1] at g2; cases g2)]; exact g2
 obtain ⟨z,hz,ez⟩:=jhk (l:=ns) (r:=a % ns.length) (YdO _ (by omega)) (Ydr _ (by omega))
 refine ⟨rfl,?_⟩
 simp! only [jdh,jaq,Yaq,ix_d g1 jiR,jhC g1,jdr,jiF,jfB,true_and,jgP (gc _),Yai,ix_l (gc _) ((jdI U.int ns _).trans (congrArg _ ez))]
 have cut:∀ (l' a' t':Int),(0 < m/\0 < m/\m < 1073741824/\Q (.int (l' % m)) (gup G f (.dK (fdU c a' (l' / m) t')))):=fun l' a' t'=>⟨h0,h0,by omega,fin _ _ _ _⟩
 by_cases hl:l=0
 ·rw [if_pos (by simpa using hl)]
  refine ⟨by omega,by constructor <;> decide,?_⟩
  by_cases hc:z < 10 ^ Int.toNat 18
  ·rw [if_pos (by simpa using hc)]
   exact ⟨by decide,.inl (by decide),.inr (by decide),by decide,by decide,by decide,.inl (by decide),.inr (by decide),by decide,by decide,by decide,h0,fin _ _ _ _⟩
  ·rw [if_neg (by simpa using hc)]
   exact cut _ _ _
 ·rw [if_neg (by simpa using hl)]
  exact cut _ _ _
theorem jj2 {a:Addr}{ns:List Int}(ha:G a=some (.fro (ns.map .int)))(hl:ns.length<=63)(q:∀ (f c:Addr) (G':Gp),Fd G' f c->Q (.loc f) G'):jac T (k + 1) jc4 [.loc a] G Q X:=by
 have hcl:(cut ns none (some 63)).length<=63:=by rw [show (63:Int)=((63:Nat):Int) from rfl,jee]; simp; omega
 refine ⟨rfl,?_⟩
 simp! only [jdg,jaq,Yaq,sl_f ha,jkB]
 intro p1 G1 n1
 rw [it_l n1.at]
 intro p2 G2 n2
 refine ⟨by decide,fun p3 G3 n3=>?_⟩
 simp! only [jnS (n3.sa _ _ (n2.sa _ _ (n1.sa _ _ ha)))]
 obtain ⟨zs,ez,lz,hz⟩:∃ zs:List Int,(Yaq (Int.toNat (if decide (((ns.map U.int).length:Int)=0)=true then 1 else 0)) [U.int 0]).flatten=zs.map U.int/\zs.length<=1/\(ns=[]->zs≠[]):=by
  by_cases h:ns=[]
  ·subst h
   exact ⟨[0],rfl,by decide,fun _=>by simp⟩
  ·refine ⟨[],?_,by decide,fun z=>absurd z h⟩
   rw [if_neg (by simpa using h)]
   rfl
 refine ⟨_,n3.at,by split <;> decide,by split <;> decide,by split <;> decide,fun p4 G4 n4=>?_⟩
 rw [ez] at n4
 refine ⟨_,_,n4.sa _ _ (n3.sa _ _ n2.at),n4.at,?_,fun p5 G5 n5=>⟨by decide,fun p6 G6 n6=>?_⟩⟩
 ·rw [Yai,Yai]
  exact Yaw (Nat.add_le_add hcl lz) (by decide:63 + 1<=Yan)
 rw [jlU] at n6
 rw [<- Ybn] at n5
 refine q _ p5 _ ⟨_,0,0,0,n6.at,n6.sa _ _ n5.at,fun z=>?_⟩
 obtain ⟨z1,z2⟩:=List.append_eq_nil_iff.mp z
 refine hz ?_ z2
 rw [show (63:Int)=((63:Nat):Int) from rfl,jee] at z1
 cases ns with
 | nil=>rfl
 | cons _ _=>cases z1
end

set_option maxHeartbeats 2000000
structure Nm (x:Str):Prop where
 l8:x.length<=8
 ch:∀ c∈x.cps.toList,c < 128
structure Spn where
 w:Str
 o:Nat
 t:Nat
 lo:Int
 hi:Int
noncomputable def Spn.u (s:Spn):U:=.tup [.str s.w,.int s.o,.int s.t,.int s.lo,.int s.hi]
structure Spn.Ok (W:Nat)(s:Spn):Prop where
 w:s.w = "apart" \/ s.w = "span"
 o:s.o < W
 t:s.t < W
 lo:0<=s.lo/\s.lo<=9999
 hi:0<=s.hi/\s.hi<=9999
noncomputable def jaA (l:List Int):U:=.tup (l.map .int)
theorem jgg {x:Str}(h:x = "apart" \/ x = "span"):x.length<=8/\∀ c∈x.cps.toList,c < 128:=by
 rcases h with rfl | rfl
 ·exact ⟨by decide +kernel,by decide +kernel⟩
 ·exact ⟨by decide +kernel,by decide +kernel⟩
theorem jd8 {i:Int}(h:-100000<=i/\i<=100000):Ft 1921 0 (.int i):=Ft.int (Ycm (show i.natAbs<=100000 by omega) (by decide))
theorem Spn.Ok.ft {W:Nat}{s:Spn}(h:s.Ok W)(hW:W<=8):Ft 10000 1 s.u:=by
 have:=h.o
 have:=h.t
 have:=h.lo
 have:=h.hi
 refine Ft.tup (n:=1921) (m:=5) (Yak _) (fun u hu=>?_) (by decide)
 simp only [YbW,YbI,or_false] at hu
 rcases hu with rfl | rfl | rfl | rfl | rfl
 ·exact (Ft.str (m:=8) (jgg h.w).1 (jgg h.w).2).mono (by decide) (Yak _)
 all_goals exact jd8 (by omega)

noncomputable def menu:List Str:=["a", "ab", "abc", "b", "ba", "works", "span", "apart", "at", "none", "hold", "zzzzzzzz", "z", "o", "find", "late", "n"]
theorem jj6:∀ x∈menu,Nm x:=by
 have h:∀ x∈menu,x.length<=8/\∀ c∈x.cps.toList,c < 128:=by decide +kernel
 exact fun x hx=>⟨(h x hx).1,(h x hx).2⟩
noncomputable def jas (xs:List Str)(ss:List Spn):U:=.tup [.tup (xs.map .str),.tup (ss.map Spn.u)]
theorem atM {α:Type}{f:α->U}{l:List α}{n:Nat}{a:α}(h:l[n]?=some a):atI (l.map f) (n:Int)=some (f a):=(jdI f l _).trans (congrArg _ (jbj h))
noncomputable def s0Z:Spn:=⟨"span",0,0,0,0⟩
noncomputable def eU (e:Nat×Int):U:=.tup [.int e.1,.int e.2]
noncomputable def rU (r:List (Nat×Int)):U:=.tup (r.map eU)
noncomputable def nU (n:Nat):U:=.int (n:Int)
noncomputable def Clo (ss:List Spn):Prop:=∀ j,j < ss.length->(ss.getD j s0Z).t=(ss.getD ((j + 1) % ss.length) s0Z).o
noncomputable def jaL (n:Nat):List (Nat×Int):=(YaV n).map fun j=>(j,1)
section
variable {k:Nat}{G:Gp}{Q:K1}{X:KX}
theorem jhV {f c:Addr}{m:Nat}(hf:Fd G f c)(h1:m<=8)(q:∀ (xs:List Str) (G':Gp),xs.length=m->(∀ x∈xs,Nm x)->Fd G' f c->Sm f G G'->Q (.tup (xs.map .str)) G'):jac T (k + 2) jcB [.loc f,.int m] G Q X:=by
 refine ⟨rfl,?_⟩
 simp! only [jcM,jaq,Yaq]
 refine ⟨by decide,fun p G1 n1=>⟨by decide,fun p2 G2 n2=>⟨_,_,n2.sa _ _ n1.at,n2.at,by decide,fun p3 G3 n3=>?_⟩⟩⟩
 have f3:=((hf.new n1).new n2).new n3
 have s3:Sm f G G3:=n1.sa.sm.trans (n2.sa.sm.trans n3.sa.sm)
 have hp:=((hf.new n1).new n2).away n3
 have g3:G3 p3=some (.lst (menu.map .str)):=n3.at
 refine jau f3 (by decide) (by decide) fun first G4 a4 b4 f4 s4=>jau f4 (by decide) (by decide) fun r5 G5 a5 b5 f5 s5=>?_
 have g5:=s5 _ _ hp.1 (s4 _ _ hp.1 g3)
 simp! only []
 refine ⟨by omega,by omega,by rw [jaE]; exact Yaw (show ((m:Int)).toNat<=8 by omega) (by decide),?_⟩
 refine jaO (fun i acc G'=>G'=G5/\∃ xs:List Str,acc=xs.map .str/\xs.length=i/\∀ x∈xs,Nm x) ?_ ?_ ⟨rfl,[],rfl,rfl,fun _ h=>nomatch h⟩
 ·rintro acc G' ⟨rfl,xs,rfl,hl,hx⟩
  rw [jaE] at hl
  refine ⟨trivial,fun p6 G6 n6=>?_⟩
  simp! only [it_l n6.at]
  exact q xs G6 (by omega) hx (f5.new n6) ((s3.trans (s4.trans s5)).nw n6)
 ·rintro i x acc G' K hx ⟨rfl,xs,rfl,hl,hn⟩ hk _
  obtain ⟨hi,rfl⟩:=ja3 hx
  simp! only []
  obtain ⟨y,hy,ey⟩:=jhk (l:=menu) (r:=(first + (1 + r5) * (i:Int)) % 17) (YdO _ (by decide)) (Ydr _ (by decide))
  refine ⟨trivial,.inr (by constructor <;> omega),by decide,?_⟩
  rw [ix_l g5 ((jdI U.str menu _).trans (congrArg _ ey))]
  exact hk _ _ ⟨rfl,xs++[y],by simp,by simp [hl],fun z hz=>by
   rcases List.mem_append.mp hz with z' | z'
   ·exact hn z z'
   ·rw [List.mem_singleton.mp z']; exact jj6 y hy⟩
theorem jgI {f c:Addr}{P:Int}(hf:Fd G f c)(h1:1<=P)(h2:P<=600)(q:∀ (z:Int) (G':Gp),0<=z->z<=1801->Fd G' f c->Sm f G G'->Q (.int z) G'):jac T (k + 2) jcb [.loc f,.int P] G Q X:=by
 refine ⟨rfl,?_⟩
 simp! only [jce,jaq,Yaq]
 refine jau hf (by omega) (by omega) fun r1 G1 a1 b1 f1 s1=>jau f1 (by omega) (by omega) fun r2 G2 a2 b2 f2 s2=>⟨.inl (by decide),jau f2 (by omega) (by omega) fun r3 G3 a3 b3 f3 s3=>⟨by decide,fun p G4 n4=>jau (f3.new n4) (by decide) (by decide) fun r5 G5 a5 b5 f5 s5=>?_⟩⟩
 refine jfw [0,r1,r2,r3] (s5 _ _ (f3.away n4).1 n4.at) a5 b5 fun z hz=>?_
 have:0<=z/\z<=1801:=by simp only [YbW,YbI,or_false] at hz; omega
 exact q z _ this.1 this.2 f5 (((s1.trans (s2.trans s3)).nw n4).trans s5)
theorem jj1 {f c:Addr}{P:Int}(hf:Fd G f c)(h1:1<=P)(h2:P<=600)
  (q:∀ (xs:List Str) (ss:List Spn) (G':Gp),0 < xs.length->xs.length<=8->(∀ x∈xs,Nm x)->0 < ss.length->ss.length<=8->(∀ s∈ss,s.Ok xs.length/\s.lo<=1801)->Clo ss->Fd G' f c->Sm f G G'->Q (.tup [jas xs ss,rU (jaL ss.length)]) G'):jac T (k + 4) jc3 [.loc f,.int P] G Q X:=by
 refine ⟨rfl,?_⟩
 simp! only [jdf,jaq,Yaq]
 refine jau hf (by decide) (by decide) fun w' G1 a1 b1 f1 s1=>?_
 simp! only []
 refine jau f1 (by decide) (by decide) fun m' G2 a2 b2 f2 s2=>?_
 obtain ⟨W,hW⟩:∃ W:Nat,1 + w'=(W:Int):=Ybs (by omega)
 obtain ⟨n,hn⟩:∃ n:Nat,1 + m'=(n:Int):=Ybs (by omega)
 simp! only []
 rw [hW,hn]
 have S2:=s1.trans s2
 refine ⟨by omega,by omega,by rw [jaE]; exact Yaw (show ((n:Int)).toNat<=8 by omega) (by decide),?_⟩
 refine jaO (fun i acc G'=>Fd G' f c/\Sm f G G'/\∃ line:List Nat,acc=line.map nU/\line.length=i/\∀ x∈line,x < W) ?_ ?_ ⟨f2,S2,[],rfl,rfl,fun _ h=>nomatch h⟩
 ·rintro acc G3 ⟨f3,s3,line,rfl,ll,lW⟩
  rw [jaE] at ll
  refine ⟨trivial,fun pl G4 n4=>?_⟩
  have f4:=f3.new n4
  have hl:=f3.away n4
  simp! only []
  refine ⟨by decide,fun ps G5 n5=>?_⟩
  have f5:=f4.new n5
  have hs:=f4.away n5
  have gl:G5 pl=some (.lst (line.map nU)):=n5.sa _ _ n4.at
  have s5:Sm f G G5:=(s3.nw n4).nw n5
  have hls:ps≠pl:=jeJ n4.at n5.no
  simp! only [jb8,jgP gl,Yai]
  refine ⟨by omega,by omega,?_⟩
  refine jbE (fun i ς G'=>∃ (ss:List Spn) (o5 o6:Option U),ς=[some (.loc f),some (.int P),some (.int W),some (.loc pl),some (.loc ps),o5,o6]/\Fd G' f c/\Sm f G G'/\G' pl=some (.lst (line.map nU))/\G' ps=some (.lst (ss.map Spn.u))/\ss.length=i/\(∀ s∈ss,s.Ok W/\s.lo<=1801)/\∀ j,j < i->(ss.getD j s0Z).o=line.getD j 0/\(ss.getD j s0Z).t=line.getD ((j + 1) % n) 0) ?_ ?_
   ⟨[],_,_,rfl,f5,s5,gl,n5.at,rfl,fun _ h=>(nomatch h),fun _ h=>(nomatch h)⟩
  ·rintro ς G6 ⟨ss,o5,o6,rfl,f6,s6,g6,gs6,l6,ok6,c6⟩
   rw [jaE] at l6
   have ln:ss.length=n:=by omega
   refine ⟨trivial,?_⟩
   simp! only []
   refine jhV f6 (show W<=8 by omega) fun xs G7 xl xn f7 s7=>?_
   have g7:=s7 _ _ hs.1 gs6
   simp! only [it_l g7,jgP g7,Yai]
   refine ⟨by decide,by omega,by omega,by rw [jaE]; exact Yaw (show ((ss.length:Int)).toNat<=8 by omega) (by decide),?_⟩
   refine jbQ (fun u=>.tup [u,.int 1]) trivial (fun x hx K hk=>?_) (fun p8 G8 n8=>?_)
   ·simp! only []
    exact ⟨by decide,hk⟩
   ·simp! only [it_l n8.at]
    have e:((rngU 0 ss.length).map fun u=>U.tup [u,.int 1])=(jaL ss.length).map eU:=by
     simp [rngU,jaL,eU,Yc6,Function.comp_def]
    refine ⟨by decide,?_⟩
    rw [e]
    refine q xs ss G8 (by omega) (by omega) xn (by omega) (by omega) (fun s hs=>by rw [xl]; exact ok6 s hs) (fun j hj=>?_) (f7.new n8) ((s6.trans s7).nw n8)
    have z1:=c6 j (by rw [jaE]; omega)
    have z2:=c6 ((j + 1) % n) (by rw [jaE]; have:=YcF (j + 1) (show 0 < n by omega); omega)
    rw [ln,z1.2,z2.1]
  ·rintro i x ς G6 K hx ⟨ss,o5,o6,rfl,f6,s6,g6,gs6,l6,ok6,c6⟩ hk
   obtain ⟨hi,rfl⟩:=ja3 hx
   refine ⟨trivial,?_⟩
   simp! only [jbb]
   refine jgI f6 h1 h2 fun lo G7 a7 b7 f7 s7=>?_
   have g7:=s7 _ _ hl.1 g6
   have gs7:=s7 _ _ hs.1 gs6
   have hin:i < line.length:=by omega
   have hin2:(i + 1) % n < line.length:=by rw [ll]; have:=YcF (i + 1) (show 0 < n by omega); omega
   have e1:atI (line.map nU) ((i:Nat):Int)=some (nU line[i]):=atM (Yah hin)
   have e2:atI (line.map nU) (((i + 1) % n:Nat):Int)=some (nU line[(i + 1) % n]):=atM (Yah hin2)
   have e3:(((i:Int) + 1) % (line.length:Int))=(((i + 1) % n:Nat):Int):=by rw [ll]; simp; try omega
   simp! only [jiJ gs7,ix_l g7 e1,jgP g7,Yai,e3,ix_l g7 e2]
   refine ⟨by omega,.inl (by decide),jau f7 (by omega) (by omega) fun r8 G8 a8 b8 f8 s8=>?_⟩
   simp! only []
   have gs8:=s8 _ _ hs.1 gs7
   refine ⟨by decide,?_⟩
   rw [jmv gs8]
   refine ⟨by rw [Yai]; exact YaF (show ss.length < 25 by omega) (by decide),fun G9 p9=>?_⟩
   simp! only []
   refine hk _ _ ⟨ss++[⟨"span",line[i],line[(i + 1) % n],lo,lo + r8⟩],_,_,rfl,f8.off hs p9,Sm.wr (s3.nw n4) n5.no ((s6.trans s7).trans s8) p9,p9.sm _ _ (Ne.symm hls) (s8 _ _ hl.1 g7),by rw [Ybn]; exact p9.at,by simp [l6],fun s hs'=>?_,fun j hj=>?_⟩
   ·rcases List.mem_append.mp hs' with z | z
    ·exact ok6 s z
    ·rw [List.mem_singleton.mp z]
     have:=lW _ (Ycd hin)
     have:=lW _ (Ycd hin2)
     exact ⟨⟨.inr rfl,by dsimp only; omega,by dsimp only; omega,by dsimp only; omega,by dsimp only; omega⟩,by dsimp only; omega⟩
   ·by_cases hji:j=i
    ·subst hji
     have e:(ss++[(⟨"span",line[j],line[(j + 1) % n],lo,lo + r8⟩:Spn)]).getD j s0Z=⟨"span",line[j],line[(j + 1) % n],lo,lo + r8⟩:=by simp [Ybk,<- l6]
     rw [e]
     exact ⟨by simp [Ybk,hin],by simp [Ybk,hin2]⟩
    ·have hlt:j < ss.length:=by omega
     have e:(ss++[(⟨"span",line[i],line[(i + 1) % n],lo,lo + r8⟩:Spn)]).getD j s0Z=ss.getD j s0Z:=by simp [Ybk,Ybw hlt]
     rw [e]
     exact c6 j (by omega)
 ·rintro i x acc G3 K hx ⟨f3,s3,line,rfl,ll,lW⟩ hk _
  obtain ⟨hi,rfl⟩:=ja3 hx
  refine ⟨trivial,?_⟩
  simp! only []
  refine jau f3 (by omega) (by omega) fun z G4 a4 b4 f4 s4=>?_
  obtain ⟨y,rfl⟩:=Ybs a4
  refine hk _ _ ⟨f4,s3.trans s4,line++[y],by simp [nU],by simp [ll],fun z hz=>?_⟩
  rcases List.mem_append.mp hz with z' | z'
  ·exact lW z z'
  ·rw [List.mem_singleton.mp z']; omega
end

set_option maxHeartbeats 2000000
noncomputable def gapZ (P:Int)(bs:List Int)(s:Spn):Int:=(bs.getD s.t 0 - bs.getD s.o 0 - s.lo) % P
noncomputable def lenZ (P:Int)(bs:List Int)(s:Spn):Int:=s.lo + gapZ P bs s
noncomputable def stpZ (P:Int)(bs:List Int)(s:Spn):Int:=(bs.getD s.o 0 + lenZ P bs s - bs.getD s.t 0) / P
theorem jbB {bs:List Int}{n:Nat}(h:n < bs.length):atI (bs.map U.int) (n:Int)=some (.int (bs.getD n 0)):=by
 have:bs[n]?=some (bs.getD n 0):=by simp [Ybk,h]
 exact atM this
noncomputable def jaC (r:List (Nat×Int)):Bool:=r.any fun e=>decide (e.2=-1)
noncomputable def sumZ (P:Int)(bs:List Int)(ss:List Spn)(r:List (Nat×Int)):Int:=(r.map fun e=>e.2 * lenZ P bs (ss.getD e.1 s0Z)).sum
noncomputable def jaj (P:Int)(bs:List Int)(ss:List Spn)(r:List (Nat×Int)):Int:=sumZ P bs ss r / P
structure Rg (xs:List Str)(ss:List Spn)(P:Int)(bs:List Int)(r:List (Nat×Int)):Prop where
 p1:1<=P
 p2:P<=600
 x0:0 < xs.length
 x8:xs.length<=8
 nm:∀ x∈xs,Nm x
 bl:bs.length=xs.length
 bb:∀ b∈bs,0<=b/\b < P
 so:∀ s∈ss,s.Ok xs.length
 sl:ss.length<=24
 r0:0 < r.length
 rl:r.length<=60
 rr:∀ e∈r,e.1 < ss.length/\(e.2=1\/e.2=-1)
theorem Sa.wr {p:Addr}{G1 G2 G3:Gp}{o:MO}(s:Sa G1 G2)(n:G1 p=none)(w:Put G2 p o G3):Sa G1 G3:=fun b u e=>w.sm b u (fun z=>by rw [z,n] at e; cases e) (s b u e)
theorem jji {a:Addr}{xs:List U}{ns:List Int}{G:Gp}{Q:K1}(g:G a=some (.lst xs))(h:jdz xs=some ns):sumU [.loc a] G Q=Q (.int ns.sum) G:=by
 unfold sumU
 dsimp only
 rw [g]
 dsimp only
 rw [h]
section
variable {k:Nat}{G:Gp}{Q:K1}{X:KX}{xs:List Str}{ss:List Spn}{P:Int}{bs:List Int}{s:Spn}{j W:Nat}{r:List (Nat×Int)}
theorem Rg.at (h:Rg xs ss P bs r){e:Nat×Int}(he:e∈r):ss[e.1]?=some (ss.getD e.1 s0Z)/\(ss.getD e.1 s0Z).Ok xs.length:=by
 have h1:=(h.rr e he).1
 have e1:ss[e.1]?=some (ss.getD e.1 s0Z):=by simp [Ybk,h1]
 exact ⟨e1,h.so _ (YaD e1)⟩
theorem jeO (hP:0 < P)(o:s.Ok W):0<=lenZ P bs s/\lenZ P bs s<=9999 + P:=by
 have h0:0<=gapZ P bs s:=YdO _ (by omega)
 have h1:gapZ P bs s < P:=Ydr _ hP
 have:=o.lo
 unfold lenZ
 omega
theorem jaM (hP:0 < P)(bl:bs.length=W)(os:s.Ok W)(h:ss[j]?=some s)(q:Q (.int (lenZ P bs s)) G):jac T (k + 1) jaF [jas xs ss,.int P,jaA bs,.int j] G Q X:=by
 have o:=os.o
 have t:=os.t
 refine ⟨rfl,?_⟩
 simp! only [jcL,jaq,Yaq,jas,ix_t (jhl _ _ _),ix_t (atM h),Spn.u,jaA,ix_t (jbB (show s.o < bs.length by omega)),ix_t (jbB (show s.t < bs.length by omega))]
 exact ⟨trivial,by omega,q⟩
theorem jfX {e:Nat×Int}(h:ss[e.1]?=some s)(q:Q (if e.2=1 then .tup [.int s.o,.int s.t] else .tup [.int s.t,.int s.o]) G):jac T (k + 1) jd0 [jas xs ss,eU e] G Q X:=by
 refine ⟨rfl,?_⟩
 simp! only [jed,jaq,Yaq,eU]
 rw [if_neg (by decide)]
 simp! only [jas,ix_t (jhl _ _ _),ix_t (atM h),Spn.u]
 refine ⟨trivial,trivial,?_⟩
 by_cases he:e.2=1
 ·rw [if_pos he] at q
  rw [if_pos (by simpa using he)]
  exact ⟨by decide,q⟩
 ·rw [if_neg he] at q
  rw [if_neg (by simpa using he)]
  exact ⟨by decide,q⟩
theorem jca (h:Rg xs ss P bs r)(q:∀ G',Sa G G'->Q (.int (jaj P bs ss r)) G'):jac T (k + 2) jbC [jas xs ss,.int P,jaA bs,rU r] G Q X:=by
 have hp1:=h.p1
 have hp2:=h.p2
 refine ⟨rfl,?_⟩
 simp! only [jcK,jaq,Yaq,rU]
 refine ⟨by rw [Yai]; exact Yaw h.rl (by decide),?_⟩
 refine jaO (fun i acc G'=>G'=G/\acc=((r.take i).map fun e=>e.2 * lenZ P bs (ss.getD e.1 s0Z)).map .int) ?_ ?_ ⟨rfl,rfl⟩
 ·rintro acc G1 ⟨rfl,rfl⟩
  rw [Yai,YcB]
  refine ⟨trivial,fun p G2 n2=>?_⟩
  show sumU [.loc p] G2 _
  rw [jji n2.at (jco _)]
  simp! only []
  exact ⟨by omega,by omega,q _ n2.sa⟩
 ·rintro i x acc G1 K hx ⟨rfl,rfl⟩ hk _
  rw [YaE] at hx
  obtain ⟨e,ee,rfl⟩:∃ e,r[i]?=some e/\eU e=x:=by
   cases z:r[i]? with
   | none=>rw [z] at hx; cases hx
   | some e=>rw [z] at hx; exact ⟨e,rfl,by simpa using hx⟩
  have he:=YaD ee
  obtain ⟨h1,h2⟩:=h.at he
  refine ⟨trivial,?_⟩
  simp! only [eU]
  refine ⟨trivial,jaM (by omega) h.bl h2 h1 ⟨.inl (by rcases (h.rr e he).2 with z | z <;> rw [z] <;> decide),hk _ _ ⟨rfl,?_⟩⟩⟩
  rw [Yc1,ee]
  simp
theorem jhm {l:List (Nat×Int)}{g:U->U}(h:∀ e:Nat×Int,g (eU e)=.bl (decide (e.2=-1))):jcQ ((l.map eU).map g)=some (l.map fun e=>decide (e.2=-1)):=by
 induction l with
 | nil=>rfl
 | cons e r ih=>rw [Ya4,Ya4,h]; show (match jcQ ((r.map eU).map g) with | some l=>some (decide (e.2=-1)::l) | none=>none)=_; rw [ih]; rfl
noncomputable def isB:U->U
 | .tup [_,.int w]=>.bl (decide (w=-1))
 | u=>u
theorem jgq:∀ l:List Int,(∀ z∈l,0<=z)->0<=l.sum
 | [],_=>by simp
 | z::l,h=>by
  rw [Yd6]
  have:=h z (by simp)
  have:=jgq l fun y hy=>h y (by simp [hy])
  omega
theorem Rg.all1 (h:Rg xs ss P bs r)(hb:jaC r=false):∀ e∈r,e.2=1:=fun e he=>by
 have:=List.any_eq_false.mp hb e he
 have:=(h.rr e he).2
 simp at *
 omega
theorem Rg.nn (h:Rg xs ss P bs r)(hb:jaC r=false):0<=jaj P bs ss r:=by
 have hp1:=h.p1
 refine Int.ediv_nonneg (jgq _ fun z hz=>?_) (by omega)
 obtain ⟨e,he,rfl⟩:=Yfp.mp hz
 show 0<=e.2 * lenZ P bs (ss.getD e.1 s0Z)
 rw [h.all1 hb e he,YeN]
 exact (jeO (by omega) (h.at he).2).1
theorem jaU (h:Rg xs ss P bs r)(q0:jaC r=true->∀ G',Sa G G'->X ⟨3,[.str "back"]⟩ G')(q1:jaC r=false->jaj P bs ss r=0->∀ G',Sa G G'->X ⟨3,[.str "none"]⟩ G')(q2:jaC r=false->0 < jaj P bs ss r->∀ G',Sa G G'->Q (.int (jaj P bs ss r)) G') :
  jac T (k + 3) jaS [jas xs ss,.int P,jaA bs,rU r] G Q X:=by
 refine ⟨rfl,?_⟩
 simp! only [jdd,jaq,Yaq,rU]
 refine ⟨by rw [Yai]; exact Yaw h.rl (by decide),?_⟩
 refine jbQ isB trivial (fun x hx K hk=>?_) (fun p G1 n1=>?_)
 ·obtain ⟨e,he,rfl⟩:=Yfp.mp hx
  rw [show eU e=.tup [.int e.1,.int e.2] from rfl] at hk ⊢
  simp! only []
  exact ⟨trivial,hk⟩
 ·show anyU [.loc p] G1 _
  unfold anyU
  dsimp only
  rw [n1.at]
  dsimp only
  rw [Yb9,jhm fun e=>rfl]
  dsimp only
  have e2:(r.map fun e=>decide (e.2=-1)).any id=jaC r:=by unfold jaC; simp
  rw [e2]
  simp! only []
  by_cases hb:jaC r=true
  ·rw [if_pos hb]
   exact ⟨rfl,q0 hb _ n1.sa⟩
  ·rw [if_neg hb]
   have hb':jaC r=false:=by simpa using hb
   refine jca (k:=k) h fun G2 s2=>?_
   simp! only []
   by_cases hm:jaj P bs ss r=0
   ·rw [if_pos (by simpa using hm)]
    exact ⟨rfl,q1 hb' hm _ (n1.sa.trans s2)⟩
   ·rw [if_neg (by simpa using hm)]
    have:=h.nn hb'
    exact q2 hb' (by omega) _ (n1.sa.trans s2)
theorem jfW (hP:0 < P)(hP2:P<=600)(bl:bs.length=W)(os:s.Ok W)(h:ss[j]?=some s)(q:Q (.int (stpZ P bs s)) G):jac T (k + 2) jdZ [jas xs ss,.int P,jaA bs,.int j] G Q X:=by
 have o:=os.o
 have t:=os.t
 refine ⟨rfl,?_⟩
 simp! only [jec,jaq,Yaq,jas,ix_t (jhl _ _ _),ix_t (atM h),Spn.u,jaA,ix_t (jbB (show s.o < bs.length by omega)),ix_t (jbB (show s.t < bs.length by omega))]
 refine ⟨trivial,?_⟩
 refine jaM (k:=k) (xs:=xs) hP bl os h ?_
 simp! only []
 exact ⟨by omega,by omega,q⟩
noncomputable def jeo (P:Int)(bs:List Int)(ss:List Spn)(r:List (Nat×Int))(p:Nat):Int:=((r.take p).map fun e=>stpZ P bs (ss.getD e.1 s0Z)).sum
theorem jbK {p:Nat}{t:Int}(h:Rg xs ss P bs r)(q0:jaC r=true->∀ G',Sa G G'->X ⟨3,[.str "back"]⟩ G')(q1:jaC r=false->jaj P bs ss r=0->∀ G',Sa G G'->X ⟨3,[.str "none"]⟩ G')(q2:jaC r=false->0 < jaj P bs ss r->∀ G',Sa G G'->Q (.int ((t - jeo P bs ss r p) % jaj P bs ss r)) G') :
  jac T (k + 4) jbg [jas xs ss,.int P,jaA bs,rU r,.int p,.int t] G Q X:=by
 have hp1:=h.p1
 have hp2:=h.p2
 refine ⟨rfl,?_⟩
 simp! only [jcd,jaq,Yaq]
 refine jaU h q0 q1 fun hb hm G1 s1=>?_
 have e:cut (r.map eU) none (some (p:Int))=(r.take p).map eU:=by rw [jee,Yd7]
 simp! only [rU,e]
 refine ⟨by rw [Yai]; exact Yaw (List.length_take_le' _ _) (Yaw h.rl (by decide)),?_⟩
 refine jaO (fun i acc G'=>G'=G1/\acc=(((r.take p).take i).map fun e=>stpZ P bs (ss.getD e.1 s0Z)).map .int) ?_ ?_ ⟨rfl,rfl⟩
 ·rintro acc G2 ⟨rfl,rfl⟩
  rw [Yai,YcB]
  refine ⟨trivial,fun p3 G3 n3=>?_⟩
  show sumU [.loc p3] G3 _
  rw [jji n3.at (jco _)]
  simp! only []
  exact ⟨hm,q2 hb hm _ (s1.trans n3.sa)⟩
 ·rintro i x acc G2 K hx ⟨rfl,rfl⟩ hk _
  rw [YaE] at hx
  obtain ⟨e,ee,rfl⟩:∃ e,(r.take p)[i]?=some e/\eU e=x:=by
   cases z:(r.take p)[i]? with
   | none=>rw [z] at hx; cases hx
   | some e=>rw [z] at hx; exact ⟨e,rfl,by simpa using hx⟩
  have he:e∈r:=Yb7 (YaD ee)
  obtain ⟨h1,h2⟩:=h.at he
  refine ⟨trivial,?_⟩
  simp! only [eU]
  refine ⟨trivial,jfW (by omega) hp2 h.bl h2 h1 (hk _ _ ⟨rfl,?_⟩)⟩
  rw [Yc1,ee]
  simp
noncomputable def jb7 (P:Int)(bs:List Int)(ss:List Spn)(r:List (Nat×Int))(b:Int):Nat->Int
 | 0=>b
 | i + 1=>jb7 P bs ss r b i + lenZ P bs (ss.getD (r.getD (i % r.length) (0,1)).1 s0Z)
noncomputable def rowU (P:Int)(bs:List Int)(ss:List Spn)(r:List (Nat×Int))(b:Int)(m:Nat):List U:=(YaV m).map fun i=>.tup [.int (jb7 P bs ss r b i),.int ((i % r.length:Nat):Int)]
theorem jbw {v:Int}{m:Nat}(h:Rg xs ss P bs r)(hm2:m<=1000)(v0:0<=v)(v1:v<=100000)(q0:jaC r=true->∀ G',Sa G G'->X ⟨3,[.str "back"]⟩ G')(q1:jaC r=false->jaj P bs ss r=0->∀ G',Sa G G'->X ⟨3,[.str "none"]⟩ G')
  (q2:jaC r=false->0 < jaj P bs ss r->∀ p G',Sa G G'->G p=none->G' p=some (.lst (rowU P bs ss r (bs.getD (ss.getD (r.getD 0 (0,1)).1 s0Z).o 0 + v * P) m))->Q (.loc p) G') :
  jac T (k + 4) ja5 [jas xs ss,.int P,jaA bs,rU r,.int v,.int m] G Q X:=by
 refine ⟨rfl,?_⟩
 simp! only [jbP,jaq,Yaq]
 refine jaU h q0 q1 fun hb hm G1 s1=>?_
 have r0:=h.r0
 have he:r[0]?=some (r.getD 0 (0,1)):=by simp [Ybk,r0]
 obtain ⟨e,ee⟩:∃ e,e=r.getD 0 (0,1):=⟨_,rfl⟩
 rw [<- ee] at he q2
 obtain ⟨h1,h2⟩:=h.at (YaD he)
 have a0:atI (r.map eU) 0=some (eU e):=atM (n:=0) he
 simp! only [rU,ix_t a0]
 refine jfX (k:=k + 2) h1 ?_
 rw [if_pos (h.all1 hb e (YaD he))]
 have ha:(ss.getD e.1 s0Z).o < bs.length:=by rw [h.bl]; exact h2.o
 simp! only [jaA,ix_t (jbB ha)]
 have hp1:=h.p1
 have hp2:=h.p2
 refine ⟨trivial,.inr (by constructor <;> omega),YbA _,fun p G2 n2=>?_⟩
 obtain ⟨b,hb0⟩:∃ b,b=bs.getD (ss.getD e.1 s0Z).o 0 + v * P:=⟨_,rfl⟩
 rw [<- hb0] at q2 ⊢
 simp! only [jba]
 refine ⟨by omega,by omega,?_⟩
 refine jbE (fun i ς G'=>∃ o10 o11:Option U,ς=[some (jas xs ss),some (.int P),some (jaA bs),some (rU r),some (.int v),some (.int m),some (.int (ss.getD e.1 s0Z).o),some (.int (ss.getD e.1 s0Z).t),some (.int (jb7 P bs ss r b i)),some (.loc p),o10,o11]/\Sa G1 G'/\G' p=some (.lst (rowU P bs ss r b i))) ?_ ?_
  ⟨_,_,rfl,n2.sa,n2.at⟩
 ·rintro ς G3 ⟨o10,o11,rfl,s3,g3⟩
  rw [jaE] at g3
  refine ⟨trivial,?_⟩
  simp! only []
  exact q2 hb hm p G3 (s1.trans s3) (by cases z:G p with | none=>rfl | some o=>exact absurd n2.no (by rw [s1 _ _ z]; exact fun z=>nomatch z)) (by simpa using g3)
 ·rintro i x ς G3 K hx ⟨o10,o11,rfl,s3,g3⟩ hk
  obtain ⟨hi,rfl⟩:=ja3 hx
  refine ⟨trivial,?_⟩
  have hpl:i % r.length < r.length:=YcF _ r0
  have e3:((i:Int) % (r.length:Int))=((i % r.length:Nat):Int):=by simp
  have hr:r[i % r.length]?=some (r.getD (i % r.length) (0,1)):=by simp [Ybk,hpl]
  obtain ⟨h1',h2'⟩:=h.at (YaD hr)
  simp! only [jaW,rU,Yai,e3,jiJ g3,jmv g3]
  refine ⟨by omega,by decide,by simp only [rowU,Yai,Yct]; exact YaF (show i < 1001 by omega) (by decide),fun G4 p4=>?_⟩
  simp! only [ix_t (atM hr),eU]
  refine jaM (k:=k + 2) (xs:=xs) (by omega) h.bl h2' h1' ?_
  simp! only []
  refine hk _ _ ⟨_,_,rfl,?_,?_⟩
  ·exact Sa.wr s3 n2.no p4
  ·have:=p4.at
   rw [this]
   simp [rowU,Ydf]
end

set_option maxHeartbeats 2000000
noncomputable def spZ (ss:List Spn)(r:List (Nat×Int))(i:Nat):Spn:=ss.getD (r.getD (i % r.length) (0,1)).1 s0Z
noncomputable def oZ (bs:List Int)(ss:List Spn)(r:List (Nat×Int))(i:Nat):Int:=bs.getD (spZ ss r i).o 0
noncomputable def aZ (P:Int)(bs:List Int)(ss:List Spn)(r:List (Nat×Int)):Nat->Int
 | 0=>0
 | i + 1=>aZ P bs ss r i + stpZ P bs (spZ ss r i)
structure Rd (ss:List Spn)(r:List (Nat×Int)):Prop where
 r0:0 < r.length
 one:∀ e∈r,e.2=1
 cl:∀ i,(spZ ss r i).t=(spZ ss r (i + 1)).o
section
variable {P:Int}{bs:List Int}{ss:List Spn}{r:List (Nat×Int)}
theorem jh0 (hP:0 < P)(s:Spn):bs.getD s.o 0 + lenZ P bs s=bs.getD s.t 0 + P * stpZ P bs s:=by
 have e:bs.getD s.o 0 + lenZ P bs s - bs.getD s.t 0=P * (-((bs.getD s.t 0 - bs.getD s.o 0 - s.lo) / P)):=by
  unfold lenZ gapZ
  have:=Int.emod_add_mul_ediv (bs.getD s.t 0 - bs.getD s.o 0 - s.lo) P
  rw [Int.mul_neg]
  omega
 unfold stpZ
 rw [e,YcH _ (by omega)]
 omega
theorem jcS (hP:0 < P)(c:Rd ss r)(b:Int):∀ i,jb7 P bs ss r b i=b - oZ bs ss r 0 + oZ bs ss r i + P * aZ P bs ss r i
 | 0=>by simp [jb7,aZ]
 | i + 1=>by
  have ih:=jcS hP c b i
  have h:=jh0 (bs:=bs) hP (spZ ss r i)
  have hc:=c.cl i
  show jb7 P bs ss r b i + lenZ P bs (spZ ss r i)=b - oZ bs ss r 0 + oZ bs ss r (i + 1) + P * (aZ P bs ss r i + stpZ P bs (spZ ss r i))
  rw [ih,Yf3]
  unfold oZ at *
  rw [<- hc]
  omega
theorem jiw (i:Nat):spZ ss r (i + r.length)=spZ ss r i:=by unfold spZ; rw [Nat.add_mod_right]
theorem jmw:∀ i,aZ P bs ss r (i + r.length)=aZ P bs ss r i + aZ P bs ss r r.length
 | 0=>by simp [aZ]
 | i + 1=>by
  have ih:=jmw i
  show aZ P bs ss r (i + 1 + r.length)=aZ P bs ss r i + stpZ P bs (spZ ss r i) + _
  rw [show i + 1 + r.length=(i + r.length) + 1 by omega]
  show aZ P bs ss r (i + r.length) + stpZ P bs (spZ ss r (i + r.length))=_
  rw [ih,jiw]
  omega
theorem jkH (i:Nat):∀ q:Nat,aZ P bs ss r (i + r.length * q)=aZ P bs ss r i + q * aZ P bs ss r r.length
 | 0=>by simp
 | q + 1=>by
  rw [show i + r.length * (q + 1)=(i + r.length * q) + r.length by rw [Nat.mul_succ]; omega,jmw,jkH i q]
  push_cast
  rw [Int.add_mul]
  omega
theorem jik (i:Nat):aZ P bs ss r i=aZ P bs ss r (i % r.length) + ((i / r.length:Nat):Int) * aZ P bs ss r r.length:=by
 have:=jkH (P:=P) (bs:=bs) (ss:=ss) (r:=r) (i % r.length) (i / r.length)
 rw [YdM] at this
 exact this
theorem jk0 {i:Nat}(h:i < r.length):spZ ss r i=ss.getD (r.getD i (0,1)).1 s0Z:=by unfold spZ; rw [YdC h]
theorem jhn:∀ p,p<=r.length->jeo P bs ss r p=aZ P bs ss r p
 | 0,_=>by simp [jeo,aZ]
 | p + 1,h=>by
  have ih:=jhn p (by omega)
  unfold jeo at *
  have e:r[p]?=some (r.getD p (0,1)):=by simp [Ybk,show p < r.length by omega]
  rw [Yc1,e]
  simp only [YfA,Ybn,Ya4,Yc5,YeB,Yd6,List.sum_nil,Int.add_zero]
  rw [ih]
  show _=aZ P bs ss r p + stpZ P bs (spZ ss r p)
  rw [jk0 (by omega)]
theorem jfH (c:Rd ss r)(b:Int):∀ p,p<=r.length->jb7 P bs ss r b p=b + ((r.take p).map fun e=>e.2 * lenZ P bs (ss.getD e.1 s0Z)).sum
 | 0,_=>by simp [jb7]
 | p + 1,h=>by
  have ih:=jfH c b p (by omega)
  have e:r[p]?=some (r.getD p (0,1)):=by simp [Ybk,show p < r.length by omega]
  have e1:(r.getD p (0,1)).2=1:=c.one _ (YaD e)
  rw [Yc1,e]
  simp only [YfA,Ybn,Ya4,Yc5,YeB,Yd6,List.sum_nil,Int.add_zero]
  show jb7 P bs ss r b p + lenZ P bs (spZ ss r p)=_
  rw [ih,jk0 (by omega),e1]
  omega
theorem jjk (hP:0 < P)(c:Rd ss r):sumZ P bs ss r=P * aZ P bs ss r r.length:=by
 have h1:=jfH (P:=P) (bs:=bs) c 0 r.length (Yak _)
 have h2:=jcS (bs:=bs) hP c 0 r.length
 have h3:oZ bs ss r r.length=oZ bs ss r 0:=by
  unfold oZ
  have:=jiw (ss:=ss) (r:=r) 0
  rw [Ycb] at this
  rw [this]
 rw [YcB] at h1
 unfold sumZ
 omega
theorem jc6 (hP:0 < P)(c:Rd ss r):jaj P bs ss r=aZ P bs ss r r.length:=by
 unfold jaj
 rw [jjk hP c,YcH _ (by omega)]
theorem jey (hP:0 < P)(c:Rd ss r){v:Int}(h0:0<=v)(h1:v < jaj P bs ss r)(i:Nat) :
  (v + aZ P bs ss r i - jeo P bs ss r (i % r.length)) % jaj P bs ss r=v:=by
 rw [jhn _ (Ycq (YcF _ c.r0)),jik i,<- jc6 hP c]
 rw [show v + (aZ P bs ss r (i % r.length) + ((i / r.length:Nat):Int) * jaj P bs ss r) - aZ P bs ss r (i % r.length)=v + ((i / r.length:Nat):Int) * jaj P bs ss r by omega]
 rw [Int.add_mul_emod_self_right]
 exact Int.emod_eq_of_lt h0 h1
theorem jfe (hP:0 < P)(c:Rd ss r){v u:Int}(h0:0<=v)(h1:v < jaj P bs ss r)(g0:0<=u)(g1:u < jaj P bs ss r){i j:Nat}(hm:i % r.length=j % r.length)(ht:v + aZ P bs ss r i=u + aZ P bs ss r j):v=u/\i=j:=by
 have e1:=jey hP c h0 h1 i
 have e2:=jey hP c g0 g1 j
 rw [ht,hm,e2] at e1
 subst e1
 refine ⟨rfl,?_⟩
 have e3:aZ P bs ss r i=aZ P bs ss r j:=by omega
 rw [jik i,jik j,hm,<- jc6 hP c] at e3
 have e4:((i / r.length:Nat):Int) * jaj P bs ss r=((j / r.length:Nat):Int) * jaj P bs ss r:=by omega
 have e5:=Int.eq_of_mul_eq_mul_right (show jaj P bs ss r≠0 by omega) e4
 have e6:i / r.length=j / r.length:=by exact_mod_cast e5
 rw [<- YdM i r.length,<- YdM j r.length,hm,e6]
end

set_option maxHeartbeats 2000000
noncomputable def keyZ (P:Int)(bs:List Int)(ss:List Spn)(r:List (Nat×Int))(p:Nat×Nat):List Key:=[.inl ((p.2 % r.length:Nat):Int),.inl ((p.1:Int) + aZ P bs ss r p.2)]
noncomputable def psZ (m v i:Nat):List (Nat×Nat):=((YaV v).flatMap fun k=>(YaV m).map fun i=>(k,i))++(YaV i).map fun i=>(v,i)
noncomputable def metZ (P:Int)(bs:List Int)(ss:List Spn)(r:List (Nat×Int))(ps:List (Nat×Nat)):List (List Key×U):=ps.map fun p=>(keyZ P bs ss r p,.int (p.1:Int))
theorem jfl {m v i:Nat}{p:Nat×Nat}:p∈psZ m v i↔(p.1 < v/\p.2 < m)\/(p.1=v/\p.2 < i):=by
 unfold psZ
 simp only [List.mem_append,List.mem_flatMap,Yfp,List.mem_range]
 constructor
 ·rintro (⟨k,hk,j,hj,rfl⟩ | ⟨j,hj,rfl⟩)
  ·exact .inl ⟨hk,hj⟩
  ·exact .inr ⟨rfl,hj⟩
 ·rintro (⟨h1,h2⟩ | ⟨h1,h2⟩)
  ·exact .inl ⟨p.1,h1,p.2,h2,rfl⟩
  ·exact .inr ⟨p.2,h2,by rw [<- h1]⟩
theorem jjB (m v:Nat):psZ m v m=psZ m (v + 1) 0:=by
 unfold psZ
 rw [Ydf,YfP]
 simp
theorem jjC (m v i:Nat):psZ m v (i + 1)=psZ m v i++[(v,i)]:=by
 unfold psZ
 rw [Ydf,Ybn,Yay]
 rfl
theorem jhL (m v:Nat):(psZ m v 0).Nodup:=by
 unfold psZ
 simp only [List.range_zero,Yc5,Ya7]
 refine List.pairwise_flatMap.mpr ⟨fun k _=>?_,?_⟩
 ·refine List.pairwise_map.mpr ((Yen (n:=m)).imp fun h z=>h (by simpa using z))
 ·refine (Yen (n:=v)).imp fun h x hx y hy z=>?_
  obtain ⟨i,_,rfl⟩:=Yfp.mp hx
  obtain ⟨j,_,rfl⟩:=Yfp.mp hy
  exact h (by simpa using (Yfh z).1)
theorem jiB (m v i:Nat):(psZ m v i).length=v * m + i:=by
 unfold psZ
 induction v with
 | zero=>simp
 | succ v ih=>
  rw [Ydf,YfP]
  simp only [Ya2,Yai,Yct,List.flatMap_cons,List.flatMap_nil,Ya7] at *
  rw [YfB]
  omega
section
variable {P:Int}{bs:List Int}{ss:List Spn}{r:List (Nat×Int)}
theorem jke (hP:0 < P)(c:Rd ss r){p q:Nat×Nat}(hp:(p.1:Int) < jaj P bs ss r)(hq:(q.1:Int) < jaj P bs ss r)(e:keyZ P bs ss r p=keyZ P bs ss r q):p=q:=by
 unfold keyZ at e
 simp only [Yb3,Sum.inl.injEq,and_true] at e
 obtain ⟨h1,h2⟩:=jfe hP c (by omega) hp (by omega) hq (show p.2 % r.length=q.2 % r.length by omega) e.2
 exact Prod.ext (by omega) h2
theorem jj5 (hP:0 < P)(c:Rd ss r){m v i:Nat}(hv:(v:Int) < jaj P bs ss r):dGet (metZ P bs ss r (psZ m v i)) (keyZ P bs ss r (v,i))=none/\∀ u,dPut (metZ P bs ss r (psZ m v i)) (keyZ P bs ss r (v,i)) u=metZ P bs ss r (psZ m v i)++[(keyZ P bs ss r (v,i),u)]:=by
 have no:∀ kv∈metZ P bs ss r (psZ m v i),kv.1≠keyZ P bs ss r (v,i):=fun kv hk z=>by
  obtain ⟨p,hp,rfl⟩:=Yfp.mp hk
  have hp':=jfl.mp hp
  have:=jke hP c (p:=p) (q:=(v,i)) (by rcases hp' with h | h <;> omega) hv z
  subst this
  simp at hp'
 constructor
 ·unfold dGet
  rw [List.find?_eq_none.mpr fun kv hk=>by simpa using no kv hk]
  rfl
 ·intro u
  unfold dPut
  rw [if_neg]
  intro h
  obtain ⟨kv,hk,e⟩:=List.any_eq_true.mp h
  exact no kv hk (of_decide_eq_true e)
noncomputable def firZ (P:Int)(bs:List Int)(ss:List Spn)(r:List (Nat×Int))(ps:List (Nat×Nat)):List Int:=ps.filterMap fun p=>if p.2 % r.length=0 then some ((p.1:Int) + aZ P bs ss r p.2) else none
theorem jea (hP:0 < P)(c:Rd ss r){m v:Nat}(hv:(v:Int)<=jaj P bs ss r):(firZ P bs ss r (psZ m v 0)).Nodup:=by
 unfold firZ
 refine List.pairwise_filterMap.mpr ((jhL m v).imp_of_mem fun {p q} hp hq ne a ha b hb e=>?_)
 have hp:=jfl.mp hp
 have hq:=jfl.mp hq
 split at ha
 ·split at hb
  ·cases ha; cases hb
   rename_i h1 h2
   obtain ⟨e1,e2⟩:=jfe hP c (by omega) (show (p.1:Int) < _ by omega) (by omega) (show (q.1:Int) < _ by omega) (h1.trans h2.symm) e
   exact ne (Prod.ext (by omega) e2)
  ·cases hb
 ·cases ha
theorem jkw (hP:0 < P)(c:Rd ss r){v tn:Nat}(hv:(v:Int)=jaj P bs ss r)(v0:0 < v)(z:Int):z∈firZ P bs ss r (psZ (tn * r.length) v 0)↔0<=z/\z < ((v * tn:Nat):Int):=by
 have r0:=c.r0
 unfold firZ
 simp only [List.mem_filterMap,jfl,Nat.not_lt_zero,and_false,or_false]
 constructor
 ·rintro ⟨p,⟨h1,h2⟩,h3⟩
  split at h3
  ·rename_i h4
   cases h3
   rw [jik p.2,h4,<- jc6 hP c,<- hv]
   have h5:p.2 / r.length < tn:=(YfD r0).mpr h2
   have h6:p.1 + p.2 / r.length * v < v * tn:=by
    have:(p.2 / r.length + 1) * v<=tn * v:=YfN v h5
    rw [YfB] at this
    rw [Yc8 v tn]
    omega
   have h7:(p.1:Int) + (aZ P bs ss r 0 + ((p.2 / r.length:Nat):Int) * (v:Int))=((p.1 + p.2 / r.length * v:Nat):Int):=by
    show (p.1:Int) + (0 + _)=_
    push_cast
    omega
   rw [h7]
   omega
  ·cases h3
 ·rintro ⟨h1,h2⟩
  obtain ⟨y,rfl⟩:=Ybs h1
  have h2:y < v * tn:=by omega
  refine ⟨(y % v,r.length * (y / v)),⟨YcF _ v0,?_⟩,?_⟩
  ·have:y / v < tn:=(YfD v0).mpr (by rw [Yc8]; exact h2)
   rw [Yc8 tn]
   exact Nat.mul_lt_mul_of_pos_left this r0
  ·rw [if_pos (by simp)]
   have e:=jkH (P:=P) (bs:=bs) (ss:=ss) (r:=r) 0 (y / v)
   rw [Ycb] at e
   dsimp only
   rw [e,<- jc6 hP c,<- hv]
   show some (((y % v:Nat):Int) + (0 + ((y / v:Nat):Int) * (v:Int)))=some (y:Int)
   have:=YdM y v
   rw [Yc8] at this
   congr 1
   rw [Int.zero_add]
   exact_mod_cast this
end

set_option maxHeartbeats 2000000
theorem pw_ext {α:Type}{r:α->α->Prop}(as:∀ a b,r a b->r b a->False):∀ {l l':List α},l.Pairwise r->l'.Pairwise r->(∀ x,x∈l↔x∈l')->l=l'
 | [],[],_,_,_=>rfl
 | [],b::l',_,_,h=>absurd ((h b).mpr (by simp)) (by simp)
 | a::l,[],_,_,h=>absurd ((h a).mp (by simp)) (by simp)
 | a::l,b::l',h1,h2,h=>by
  obtain ⟨p1,p2⟩:=List.pairwise_cons.mp h1
  obtain ⟨q1,q2⟩:=List.pairwise_cons.mp h2
  have e:a=b:=by
   rcases YbW.mp ((h a).mp (by simp)) with z | z
   ·exact z
   ·rcases YbW.mp ((h b).mpr (by simp)) with y | y
    ·exact y.symm
    ·exact (as _ _ (p1 b y) (q1 a z)).elim
  subst e
  rw [pw_ext as p2 q2 fun x=>?_]
  constructor
  ·intro hx
   rcases YbW.mp ((h x).mp (Yap _ hx)) with z | z
   ·subst z; exact (as _ _ (p1 x hx) (p1 x hx)).elim
   ·exact z
  ·intro hx
   rcases YbW.mp ((h x).mpr (Yap _ hx)) with z | z
   ·subst z; exact (as _ _ (q1 x hx) (q1 x hx)).elim
   ·exact z
theorem jnR (a b:Int)(h:a < b)(g:b < a):False:=by omega
theorem ji3 {α:Type}{r:α->α->Prop}(tr:∀ a b c,r a b->r b c->r a c):∀ {l:List α},(∀ i (h:i + 1 < l.length),r l[i] l[i + 1])->l.Pairwise r
 | [],_=>.nil
 | [a],_=>List.pairwise_singleton _ _
 | a::b::l,h=>by
  have ih:=ji3 tr (l:=b::l) fun i hi=>h (i + 1) (by simpa using hi)
  refine List.pairwise_cons.mpr ⟨fun x hx=>?_,ih⟩
  have h0:=h 0 (by simp)
  rcases YbW.mp hx with rfl | hx
  ·exact h0
  ·exact tr _ _ _ h0 ((List.pairwise_cons.mp ih).1 x hx)
theorem jgC {α:Type}(l:List α)(d:α){π:List Nat}(h:π.Perm (YaV l.length)):(π.map fun i=>l.getD i d).Perm l:=by
 have:=h.map fun i=>l.getD i d
 have e:(YaV l.length).map (fun i=>l.getD i d)=l:=by
  refine Yeo (by simp) fun i h1 h2=>?_
  simp [Ybk,h2]
 rw [e] at this
 exact this
section
variable {G:Gp}{Q:K1}{a:Addr}
theorem jnv {ns:List Int}(g:G a=some (.lst (ns.map .int)))(nd:ns.Nodup)(h64:ns.length < jbd)(q:∀ zs:List Int,zs.Perm ns->zs.Pairwise (·< ·)->newO G (.lst (zs.map .int)) Q):jbY [.loc a] G Q:=by
 unfold jbY
 dsimp only
 rw [g]
 refine ⟨ns.map fun n=>[n],?_,by rw [Yai]; exact h64,by rw [Yai,Yai],.inl ⟨ns,rfl,rfl⟩,fun π hp hs=>?_⟩
 ·exact List.pairwise_map.mpr (nd.imp fun h z=>h (YdN z).1)
 ·rw [Yai] at hp hs
  have hfl:∀ i∈π,i < ns.length:=fun i hi=>List.mem_range.mp (hp.mem_iff.mp hi)
  have pl:π.length=ns.length:=by rw [hp.length_eq,Yct]
  have e:(π.map fun i=>(ns.map U.int).getD i .non)=(π.map fun i=>ns.getD i 0).map .int:=by
   rw [Yc6]
   refine Ydg fun i hi=>?_
   simp [Ybk,hfl i hi]
  rw [e]
  refine q _ (jgC ns 0 hp) (ji3 (r:=fun a b:Int=>a < b) (fun _ _ _ h g=>Int.lt_trans h g) fun i hi=>?_)
  have hi:i + 1 < ns.length:=by simpa [pl] using hi
  have h1:i < π.length:=by omega
  have h2:i + 1 < π.length:=by omega
  have b1:=hfl _ (Ycd h1)
  have b2:=hfl _ (Ycd h2)
  have:=hs i hi
  rw [show π.getD i 0=π[i] by simp [Ybk,h1],show π.getD (i + 1) 0=π[i + 1] by simp [Ybk,h2]] at this
  have k1:(ns.map fun n=>[n]).getD π[i] []=[ns[π[i]]]:=by simp [Ybk,b1]
  have k2:(ns.map fun n=>[n]).getD π[i + 1] []=[ns[π[i + 1]]]:=by simp [Ybk,b2]
  rw [k1,k2] at this
  have l1:HT.lexLt [ns[π[i]]] [ns[π[i + 1]]]=decide (ns[π[i]] < ns[π[i + 1]]):=by
   rw [HT.lexLt_cons]
   split
   ·rename_i z; rw [z,HT.lexLt_nil_nil]; simp
   ·rfl
  rw [l1] at this
  simpa [Ybk,b1,b2] using of_decide_eq_true this
end
theorem jeX {G:Gp}:∀ l:List Int,DUs G (l.map .int) (l.map .int)
 | []=>.nil
 | i::l=>.cons (.int i) (jeX l)
theorem jdS (l:List Int):Small (.list (l.map .int)):=⟨(jb4 l).1,by show Ydb (l.map .int) + 1<=100; rw [(jb4 l).2.1]; decide⟩
section
variable {G:Gp}{bs:List Int}{p p2:Addr}
theorem jmi {kk:Bool->Prop}(g:G p=some (.lst (bs.map .int)))(g':G p2=some (.lst (bs.map .int)))(q:kk true):eqU (.loc p) (.loc p2) G kk:=by
 refine ⟨.list (bs.map .int),.list (bs.map .int),.lst (by unfold lsG; rw [g]) (jeX _),.lst (by unfold lsG; rw [g']) (jeX _),jdS _,jdS _,?_⟩
 rw [jkz,decide_eq_true rfl]; exact q
end

set_option maxHeartbeats 2000000
theorem jn0 {G:Gp}{a:Addr}{kvs:List (List Key×U)}{r c:Int}{k:Bool->Prop}(g:G a=some (.dT kvs)):inU (.tup [.int r,.int c]) (.loc a) G k=k (dGet kvs [.inl r,.inl c]).isSome:=by unfold inU; dsimp only; rw [g]; rfl
theorem jk3 {G:Gp}{a:Addr}{kvs:List (List Key×U)}{r c:Int}{v:U}{Q:Gp->Prop}(g:G a=some (.dT kvs)):setU (.loc a) (.tup [.int r,.int c]) v G Q=(kvs.length < Yan/\putO G a (.dT (dPut kvs [.inl r,.inl c] v)) Q):=by unfold setU; dsimp only; rw [g]; rfl
structure Rows (G:Gp)(p:Addr)(as:List Addr)(rs:List (List U)):Prop where
 gp:G p=some (.lst (as.map .loc))
 l:as.length=rs.length
 ga:∀ (i:Nat) a x,as[i]?=some a->rs[i]?=some x->G a=some (.lst x)
theorem Rows.sa {G G':Gp}{p:Addr}{as:List Addr}{rs:List (List U)}(h:Rows G p as rs)(s:Sa G G'):Rows G' p as rs:=⟨s _ _ h.gp,h.l,fun i a x e1 e2=>s _ _ (h.ga i a x e1 e2)⟩
theorem Rows.get {G:Gp}{p:Addr}{as:List Addr}{rs:List (List U)}(h:Rows G p as rs){i:Nat}{x:List U}(e:rs[i]?=some x):∃ a,atI (as.map U.loc) (i:Int)=some (U.loc a)/\G a=some (.lst x):=by
 have hi:i < as.length:=by rw [h.l]; exact (List.getElem?_eq_some_iff.mp e).1
 exact ⟨as[i],atM (Yah hi),h.ga i _ x (Yah hi) e⟩
noncomputable def vrow (P:Int)(bs:List Int)(ss:List Spn)(r:List (Nat×Int))(m v:Nat):List U:=rowU P bs ss r (bs.getD (ss.getD (r.getD 0 (0,1)).1 s0Z).o 0 + (v:Int) * P) m
section
variable {k:Nat}{G:Gp}{Q:K1}{X:KX}{xs:List Str}{ss:List Spn}{P:Int}{bs:List Int}{r:List (Nat×Int)}
theorem jlP (c:Rd ss r):bs.getD (ss.getD (r.getD 0 (0,1)).1 s0Z).o 0=oZ bs ss r 0:=by unfold oZ spZ; rw [Nat.zero_mod]
theorem jev {m v i:Nat}(h:i < m):(vrow P bs ss r m v)[i]?=some (.tup [.int (jb7 P bs ss r (bs.getD (ss.getD (r.getD 0 (0,1)).1 s0Z).o 0 + (v:Int) * P) i),.int ((i % r.length:Nat):Int)]):=by
 unfold vrow rowU
 rw [YaE,YbP h]
 rfl
theorem jmu (hP:0 < P)(c:Rd ss r)(v i:Nat):jb7 P bs ss r (bs.getD (ss.getD (r.getD 0 (0,1)).1 s0Z).o 0 + (v:Int) * P) i=oZ bs ss r i + P * ((v:Int) + aZ P bs ss r i):=by
 rw [jcS hP c,jlP c,Yf3,Int.mul_comm P (v:Int)]
 omega
theorem jcU (c:Rd ss r):jaC r=false:=by
 unfold jaC
 rw [List.any_eq_false]
 intro e he
 have:=c.one e he
 simp; omega
theorem jkE {α:Type}{l:List α}(d:α)(h0:0 < l.length)(j:Nat):atI l ((((j + 1) % l.length:Nat):Int) - 1)=some (l.getD (j % l.length) d):=by
 have hj:j % l.length < l.length:=YcF _ h0
 have hg:l[j % l.length]?=some (l.getD (j % l.length) d):=by simp [Ybk,hj]
 have e:=(Nat.mod_add_mod j l.length 1).symm
 by_cases hc:j % l.length + 1=l.length
 ·rw [hc,Nat.mod_self] at e
  rw [e]
  unfold atI ixN
  rw [if_neg (by omega),if_pos (by omega)]
  show l[_]?=_
  rw [<- hg]
  congr 1
  omega
 ·rw [YdC (show j % l.length + 1 < l.length by omega)] at e
  rw [e,show ((j % l.length + 1:Nat):Int) - 1=((j % l.length:Nat):Int) by omega]
  exact jbj hg
theorem jhW {tn m M v i:Nat}{p6 p7:Addr}{as:List Addr}{G2 G3:Gp}{D:En}{o10 o11 o12 o13 o14 o15:Option U}(h:Rg xs ss P bs r)(c:Rd ss r)(hM:(M:Int)=jaj P bs ss r)(hv:v < M)(hi:i < m)(m1:M<=90000)(m24:m<=24)
  (rw6:Rows G2 p6 as ((YaV M).map fun v=>vrow P bs ss r (m) v)) (n7:G2 p7=none) (s3:Sa G2 G3) (g7:G3 p7=some (.dT (metZ P bs ss r (psZ (m) v i))))
  (hk:∀ o10 o11 o12 o13 o14 o15 G',Sa G2 G'->G' p7=some (.dT (metZ P bs ss r (psZ (m) v (i + 1))))->D.nx [some (jas xs ss),some (.int P),some (jaA bs),some (rU r),some (.int M),some (.int tn),some (.loc p6),some (.loc p7),some (.int v),some (.int i),o10,o11,o12,o13,o14,o15] G') :
  jaD T.gs (jac T (k + 5)) jal D [some (jas xs ss),some (.int P),some (jaA bs),some (rU r),some (.int M),some (.int tn),some (.loc p6),some (.loc p7),some (.int v),some (.int i),o10,o11,o12,o13,o14,o15] G3:=by
 have hp1:=h.p1
 have hp2:=h.p2
 have hb:=jcU c
 have r0:=c.r0
 have R3:=rw6.sa s3
 have ev:((YaV M).map fun v=>vrow P bs ss r m v)[v]?=some (vrow P bs ss r m v):=by rw [YaE,YbP hv]; rfl
 obtain ⟨a,ea,ga⟩:=R3.get ev
 obtain ⟨b,hb0⟩:∃ b,b=jb7 P bs ss r (bs.getD (ss.getD (r.getD 0 (0,1)).1 s0Z).o 0 + (v:Int) * P) i:=⟨_,rfl⟩
 have bv:=jmu (bs:=bs) (by omega:0 < P) c v i
 rw [<- hb0] at bv
 have hpl:i % r.length < r.length:=YcF _ r0
 have hr:r[i % r.length]?=some (r.getD (i % r.length) (0,1)):=by simp [Ybk,hpl]
 obtain ⟨h1,h2⟩:=h.at (YaD hr)
 have eo:oZ bs ss r i=bs.getD (ss.getD (r.getD (i % r.length) (0,1)).1 s0Z).o 0:=rfl
 rw [eo] at bv
 obtain ⟨⟨e1,e2⟩,he⟩:∃ e,r.getD (i % r.length) (0,1)=e:=⟨_,rfl⟩
 rw [he] at hr h1 h2 bv
 obtain ⟨s,hs⟩:∃ s,ss.getD e1 s0Z=s:=⟨_,rfl⟩
 rw [show ss.getD (e1,e2).1 s0Z=s from hs] at h1 h2 bv
 have er:atI (vrow P bs ss r m v) ((i:Nat):Int)=some (.tup [.int b,.int ((i % r.length:Nat):Int)]):=by
  rw [hb0]
  exact jbj (jev hi)
 have hob:s.o < bs.length:=by rw [h.bl]; exact h2.o
 simp! only [jal,ix_l R3.gp ea,ix_l ga er,rU,ix_t (atM hr),jas,ix_t (jhl _ _ _),eU]
 refine ⟨trivial,?_⟩
 have ez:atI (ss.map Spn.u) (e1:Int)=some s.u:=atM h1
 simp! only [ix_t (show atI [U.int e1,U.int e2] 0=some (U.int e1) from rfl),ix_t ez,Spn.u,ix_t (show atI [U.str s.w,U.int s.o,U.int s.t,U.int s.lo,U.int s.hi] 1=some (U.int s.o) from rfl)]
 obtain ⟨tv,htv⟩:∃ tv,tv=(v:Int) + aZ P bs ss r i:=⟨_,rfl⟩
 have hbo:b - bs.getD s.o 0=P * tv:=by
  rw [htv]
  omega
 have e3:((i:Int) % (r.length:Int))=((i % r.length:Nat):Int):=by simp
 simp! only [jay,Yai,e3,jaA,ix_t (jbB hob),hbo]
 refine ⟨by omega,?_⟩
 rw [if_neg (by decide)]
 refine ⟨by omega,?_⟩
 rw [Int.mul_emod_right,if_neg (by decide)]
 refine ⟨by omega,by omega,?_⟩
 rw [YcH _ (by omega)]
 simp! only [jax]
 refine jbK (k:=k + 1) (p:=i % r.length) (t:=tv) h (fun z=>by rw [hb] at z; cases z) (fun _ z=>by omega) fun _ _ G4 s4=>?_
 rw [htv,jey (by omega) c (by omega) (by omega) i]
 have g4:=s4 _ _ g7
 obtain ⟨mn,mp⟩:=jj5 (bs:=bs) (by omega:0 < P) c (m:=m) (v:=v) (i:=i) (by omega)
 have kz:keyZ P bs ss r (v,i)=[.inl ((i % r.length:Nat):Int),.inl ((v:Int) + aZ P bs ss r i)]:=rfl
 rw [kz] at mn mp
 simp! only [jn0 g4,mn]
 rw [if_neg (by decide)]
 refine ⟨by decide,?_⟩
 rw [if_neg (by decide)]
 simp! only [jaw,jk3 g4,mp]
 have hlen:(metZ P bs ss r (psZ m v i)).length < 3000000:=by
  unfold metZ
  rw [Yai,jiB]
  have:v * m<=90000 * 24:=Yc4 (by omega) m24
  omega
 refine ⟨by decide,YaF hlen (by decide),fun G5 p5=>?_⟩
 have S5:Sa G2 G5:=Sa.wr (s3.trans s4) n7 p5
 have g5:G5 p7=some (.dT (metZ P bs ss r (psZ m v (i + 1)))):=by
  rw [p5.at,jjC]
  unfold metZ
  rw [Ybn]
  rfl
 have R5:=rw6.sa S5
 simp! only [jav]
 cases i with
 | zero=>
  rw [if_neg (by decide)]
  exact hk _ _ _ _ _ _ _ S5 g5
 | succ j=>
  rw [if_pos (by simp; try omega)]
  obtain ⟨⟨f1,f2⟩,hf⟩:∃ e,r.getD (j % r.length) (0,1)=e:=⟨_,rfl⟩
  have hjl:j % r.length < r.length:=YcF _ r0
  have hrj:r[j % r.length]?=some (f1,f2):=by rw [<- hf]; simp [Ybk,hjl]
  obtain ⟨k1,k2⟩:=h.at (YaD hrj)
  have ap:atI (r.map eU) ((((j + 1) % r.length:Nat):Int) - 1)=some (.tup [.int f1,.int f2]):=by
   rw [jdI,jkE (0,1) r0 j,hf]
   rfl
  obtain ⟨b1,hb1⟩:∃ b1,b1=jb7 P bs ss r (bs.getD (ss.getD (r.getD 0 (0,1)).1 s0Z).o 0 + (v:Int) * P) j:=⟨_,rfl⟩
  have hbb:b=b1 + lenZ P bs (ss.getD f1 s0Z):=by
   rw [hb0,hb1]
   show _ + lenZ P bs (ss.getD (r.getD (j % r.length) (0,1)).1 s0Z)=_
   rw [hf]
  obtain ⟨a5,ea5,ga5⟩:=R5.get ev
  have er5:atI (vrow P bs ss r m v) (((j + 1:Nat):Int) - 1)=some (.tup [.int b1,.int ((j % r.length:Nat):Int)]):=by
   rw [hb1,show (((j + 1:Nat):Int) - 1)=((j:Nat):Int) by omega]
   exact jbj (jev (by omega))
  simp! only [ix_t ap,ix_t (show atI [U.int f1,U.int f2] 0=some (U.int f1) from rfl)]
  refine jaM (k:=k + 4) (xs:=xs) (by omega) h.bl k2 k1 ?_
  simp! only [ix_l R5.gp ea5,ix_l ga5 er5,ix_t (show atI [U.int b1,U.int ((j % r.length:Nat):Int)] 0=some (U.int b1) from rfl)]
  have hd:b - b1=lenZ P bs (ss.getD (f1,f2).1 s0Z):=by show b - b1=lenZ P bs (ss.getD f1 s0Z); omega
  rw [hd,if_neg (by simp)]
  exact hk _ _ _ _ _ _ _ S5 g5
theorem jkJ {G:Gp}{a:Addr}{kvs:List (List Key×U)}{Q:List U->(Gp->Prop)->Gp->Prop}(g:G a=some (.dT kvs)):jfL (.loc a) G Q=∀ o G',Put G a (.frd o kvs) G'->Q (kvs.map fun p=>.tup (p.1.map Ku)) (fun G'=>G' a=some (.frd o kvs)) G':=by unfold jfL; dsimp only; rw [g]
theorem jfo:∀ (W:Nat) (l:List Int),l.Nodup->(∀ x∈l,0<=x/\x < W)->l.length<=W
 | 0,l,_,h=>by
  cases l with
  | nil=>exact Yak _
  | cons a l=>have:=h a (by simp); omega
 | W + 1,l,nd,h=>by
  have ih:=jfo W (l.erase (W:Int)) (nd.erase _) fun x hx=>by
   obtain ⟨h1,h2⟩:=nd.mem_erase_iff.mp hx
   have:=h x h2
   omega
  by_cases hm:(W:Int)∈l
  ·rw [List.length_erase_of_mem hm] at ih; omega
  ·rw [List.erase_of_not_mem hm] at ih; omega
noncomputable def firU:U->Option U
 | .tup [.int p,.int t]=>if p=0 then some (.int t) else none
 | _=>none
theorem jj0 {tn M : Nat}(h : Rg xs ss P bs r)(c : Rd ss r)(hM : (M : Int) = jaj P bs ss r)(m0 : 0 < M)(m1 : M <= 90000)(t0 : 0 < tn)(t1 : tn <= 3)(rl : r.length <= 8)(q : ∀ G', Sa G G' -> Q (.bl true) G') :
    jac T (k + 6) ja8 [jas xs ss, .int P, jaA bs, rU r, .int M, .int tn] G Q X := by
  have hp1 := h.p1
  have hp2 := h.p2
  have hb := jcU c
  have r0 := c.r0
  refine ⟨rfl, ?_⟩
  simp! only [ja9, jaq, Yaq]
  refine ⟨by omega, by omega, by rw [jaE]; exact Yaw (show ((M : Int)).toNat <= 90000 by omega) (by decide), ?_⟩
  refine jaO (fun i acc G' => Sa G G' /\ ∃ as : List Addr, acc = as.map .loc /\ as.length = i /\ ∀ (j : Nat) a, as[j]? = some a -> G' a = some (.lst (vrow P bs ss r (tn * r.length) j))) ?_ ?_ ⟨Sa.refl, [], rfl, rfl, fun j a e => by simp at e⟩
  · rintro acc G1 ⟨s1, as, rfl, al, ga⟩
    rw [jaE] at al
    refine ⟨trivial, fun p6 G2 n2 => ?_⟩
    have rw6 : Rows G2 p6 as ((YaV M).map fun v => vrow P bs ss r (tn * r.length) v) := by
      refine ⟨n2.at, by simp; omega, fun i a x e1 e2 => ?_⟩
      rw [YaE] at e2
      have hi : i < M := by have := (List.getElem?_eq_some_iff.mp e1).1; omega
      rw [YbP hi] at e2
      cases e2
      exact n2.sa _ _ (ga i a e1)
    have S2 : Sa G G2 := s1.trans n2.sa
    simp! only []
    refine fun p7 G3 n3 => ?_
    simp! only [jaY]
    refine ⟨by omega, by omega, ?_⟩
    refine jbE (fun v ς G' => ∃ o8 o9 o10 o11 o12 o13 o14 o15 : Option U, ς = [some (jas xs ss), some (.int P), some (jaA bs), some (rU r), some (.int M), some (.int tn), some (.loc p6), some (.loc p7), o8, o9, o10, o11, o12, o13, o14, o15] /\ Sa G2 G' /\ G' p7 = some (.dT (metZ P bs ss r (psZ (tn * r.length) v 0)))) ?_ ?_
      ⟨_, _, _, _, _, _, _, _, rfl, n3.sa, n3.at⟩
    · rintro ς G4 ⟨o8, o9, o10, o11, o12, o13, o14, o15, rfl, s4, g4⟩
      rw [jaE] at g4
      have hmn : tn * r.length <= 24 := Yc4 t1 rl
      refine ⟨trivial, ?_⟩
      simp! only [jaX, jkJ g4]
      intro o G5 p5
      refine ⟨?_, ?_⟩
      · rw [Yai]
        unfold metZ
        rw [Yai, jiB]
        have : M * (tn * r.length) <= 90000 * 24 := Yc4 m1 hmn
        exact Yaw (show M * (tn * r.length) + 0 <= 3000000 by omega) (by decide)
      refine jcf firU p5.at (fun x hx K hk => ?_) (fun p8 G6 n6 => ?_)
      · obtain ⟨kv, hkv, rfl⟩ := Yfp.mp hx
        obtain ⟨p, hp, rfl⟩ := Yfp.mp hkv
        show tgU _ (.tup [.int ((p.2 % r.length : Nat) : Int), .int ((p.1 : Int) + aZ P bs ss r p.2)]) _ _
        replace hk : K (if ((p.2 % r.length : Nat) : Int) = 0 then some (.int ((p.1 : Int) + aZ P bs ss r p.2)) else none) G5 := hk
        simp! only []
        refine ⟨trivial, ?_⟩
        by_cases hz : ((p.2 % r.length : Nat) : Int) = 0
        · rw [if_pos hz] at hk
          rw [if_pos (decide_eq_true hz)]
          exact hk
        · rw [if_neg hz] at hk
          rw [if_neg (by simpa using hz)]
          exact hk
      · have ef : ([] ++ ((metZ P bs ss r (psZ (tn * r.length) M 0)).map fun p => U.tup (p.1.map Ku)).filterMap firU) = (firZ P bs ss r (psZ (tn * r.length) M 0)).map .int := by
          unfold metZ firZ
          rw [Yb9, Yc6, Yd8, List.map_filterMap]
          refine congrArg (fun f => YeS f _) (funext fun p => ?_)
          show (if ((p.2 % r.length : Nat) : Int) = 0 then some (U.int ((p.1 : Int) + aZ P bs ss r p.2)) else none) = _
          by_cases hz : p.2 % r.length = 0
          · rw [if_pos (by omega), if_pos hz]; rfl
          · rw [if_neg (by omega), if_neg hz]; rfl
        have g8 := n6.at
        rw [ef] at g8
        have fm := jkw (bs := bs) (by omega : 0 < P) c (tn := tn) hM m0
        have fl : (firZ P bs ss r (psZ (tn * r.length) M 0)).length <= M * tn := jfo _ _ (jea (by omega) c (by omega)) fun z hz => (fm z).mp hz
        have hmt : M * tn <= 90000 * 3 := Yc4 m1 t1
        simp! only []
        refine jnv g8 (jea (by omega) c (by omega)) (Ycm fl (by unfold jbd; omega)) fun zs pm pw p9 G7 n7 => ?_
        have em : (M : Int) * (tn : Int) = ((M * tn : Nat) : Int) := by push_cast; rfl
        simp! only [em]
        refine ⟨.inr (by constructor <;> omega), by omega, by omega, fun p10 G8 n8 => ?_⟩
        have ez : zs = (YaV (M * tn)).map fun (i : Nat) => (0 : Int) + (i : Int) := by
          refine pw_ext jnR pw (List.pairwise_map.mpr (List.pairwise_lt_range.imp fun h => by omega)) fun z => ?_
          rw [pm.mem_iff, fm z]
          simp only [Yfp, List.mem_range]
          constructor
          · rintro ⟨h1, h2⟩
            exact ⟨z.toNat, by omega, by omega⟩
          · rintro ⟨i, hi, rfl⟩
            omega
        have g9 : G8 p9 = some (.lst (zs.map .int)) := n8.sa _ _ n7.at
        have g10 : G8 p10 = some (.lst (zs.map .int)) := by
          rw [n8.at, ez, em, Yc2, Yc6]
          rfl
        show eqU (.loc p9) (.loc p10) G8 fun c => Q (.bl c) G8
        exact jmi g9 g10 (q _ (S2.trans ((Sa.wr s4 n3.no p5).trans (n6.sa.trans (n7.sa.trans n8.sa)))))
    · rintro v x ς G4 K hx ⟨o8, o9, o10, o11, o12, o13, o14, o15, rfl, s4, g4⟩ hk
      obtain ⟨hv, rfl⟩ := ja3 hx
      refine ⟨trivial, ?_⟩
      have hvM : v < M := by omega
      have ev : ((YaV M).map fun v => vrow P bs ss r (tn * r.length) v)[v]? = some (vrow P bs ss r (tn * r.length) v) := by rw [YaE, YbP hvM]; rfl
      obtain ⟨a, ea, ga4⟩ := (rw6.sa s4).get ev
      have hmn : tn * r.length <= 24 := Yc4 t1 rl
      have hm0 : 0 < tn * r.length := Nat.mul_pos t0 r0
      have vl : (vrow P bs ss r (tn * r.length) v).length = tn * r.length := by simp [vrow, rowU]
      simp! only [jaJ, ix_l (rw6.sa s4).gp ea, jgP ga4, vl]
      refine ⟨by omega, by omega, ?_⟩
      refine jbE (fun i ς G' => ∃ o9 o10 o11 o12 o13 o14 o15 : Option U, ς = [some (jas xs ss), some (.int P), some (jaA bs), some (rU r), some (.int M), some (.int tn), some (.loc p6), some (.loc p7), some (.int v), o9, o10, o11, o12, o13, o14, o15] /\ Sa G2 G' /\ G' p7 = some (.dT (metZ P bs ss r (psZ (tn * r.length) v i)))) ?_ ?_
        ⟨_, _, _, _, _, _, _, rfl, s4, g4⟩
      · rintro ς G5 ⟨o9, o10, o11, o12, o13, o14, o15, rfl, s5, g5⟩
        rw [jaE] at g5
        refine ⟨trivial, ?_⟩
        obtain ⟨a5, ea5, ga5⟩ := (rw6.sa s5).get ev
        have hr0 : r[0]? = some (r.getD 0 (0, 1)) := by simp [Ybk, r0]
        obtain ⟨h1, h2⟩ := h.at (YaD hr0)
        have er0 : atI (vrow P bs ss r (tn * r.length) v) 0 = some (.tup [.int (bs.getD (ss.getD (r.getD 0 (0, 1)).1 s0Z).o 0 + (v : Int) * P), .int ((0 % r.length : Nat) : Int)]) := jbj (j := 0) (jev hm0)
        obtain ⟨⟨e1, e2⟩, he⟩ : ∃ e, r.getD 0 (0, 1) = e := ⟨_, rfl⟩
        rw [he] at hr0 h1 h2 er0
        obtain ⟨s, hs⟩ : ∃ s, ss.getD e1 s0Z = s := ⟨_, rfl⟩
        rw [show ss.getD (e1, e2).1 s0Z = s from hs] at h1 h2 er0
        have hob : s.o < bs.length := by rw [h.bl]; exact h2.o
        have ez : atI (ss.map Spn.u) (e1 : Int) = some s.u := atM h1
        have a0 : atI (r.map eU) 0 = some (eU (e1, e2)) := atM (n := 0) hr0
        simp! only [jaI, ix_l (rw6.sa s5).gp ea5, ix_l ga5 er0, rU, ix_t a0, jas, ix_t (jhl _ _ _), eU, ix_t (show atI [U.int e1, U.int e2] 0 = some (U.int e1) from rfl), ix_t ez, Spn.u, ix_t (show atI [U.str s.w, U.int s.o, U.int s.t, U.int s.lo, U.int s.hi] 1 = some (U.int s.o) from rfl), jaA, ix_t (jbB hob), ix_t (show atI [U.int (bs.getD s.o 0 + (v : Int) * P), U.int ((0 % r.length : Nat) : Int)] 0 = some (U.int (bs.getD s.o 0 + (v : Int) * P)) from rfl)]
        refine ⟨.inr (by constructor <;> omega), ?_⟩
        rw [if_neg (by simp; omega)]
        refine hk _ _ ⟨_, _, _, _, _, _, _, _, rfl, s5, ?_⟩
        rw [g5, <- jjB]
      · rintro i x ς G5 K' hx ⟨o9, o10, o11, o12, o13, o14, o15, rfl, s5, g5⟩ hk'
        obtain ⟨hi, rfl⟩ := ja3 hx
        refine ⟨trivial, ?_⟩
        simp! only []
        exact jhW (k := k) h c hM hvM (by omega) m1 hmn rw6 n3.no s5 g5 fun _ _ _ _ _ _ G' s' g' => hk' _ _ ⟨_, _, _, _, _, _, _, rfl, s', g'⟩
  · rintro i x acc G1 K hx ⟨s1, as, rfl, al, ga⟩ hk _
    obtain ⟨hi, rfl⟩ := ja3 hx
    refine ⟨trivial, ?_⟩
    simp! only [rU, Yai]
    refine ⟨.inr (by constructor <;> omega), ?_⟩
    have em : (tn : Int) * (r.length : Int) = ((tn * r.length : Nat) : Int) := by push_cast; rfl
    rw [em]
    have hmn : tn * r.length <= 24 := Yc4 t1 rl
    refine jbw (k := k + 1) (v := (i : Int)) (m := tn * r.length) h (by omega) (by omega) (by omega) (fun z => by rw [hb] at z; cases z) (fun _ z => by omega) fun _ _ p G2 s2 pn g2 => ?_
    refine hk _ _ ⟨s1.trans s2, as ++ [p], by simp, by simp [al], fun j a e => ?_⟩
    by_cases hj : j < as.length
    · rw [Ybw hj] at e
      exact s2 _ _ (ga j a e)
    · rw [Ybt (by omega)] at e
      have : j = as.length := by
        have := (List.getElem?_eq_some_iff.mp e).1
        simp at this
        omega
      subst this
      simp at e
      subst e
      rw [al]
      exact g2
end

set_option maxHeartbeats 2000000
section
variable {k:Nat}{G:Gp}{Q:K1}{X:KX}{xs:List Str}{ss:List Spn}{P:Int}{bs:List Int}{r:List (Nat×Int)}
noncomputable def jct (P:Int)(bs:List Int)(ss:List Spn)(r:List (Nat×Int)):Str:=if jaC r=true then "back" else if jaj P bs ss r=0 then "none" else "told"
theorem jgH {w:Int}(h:Rg xs ss P bs r)(q:∀ G',Sa G G'->Q (.str (jct P bs ss r)) G'):jac T (k + 5) jb0 [.int w,jas xs ss,.int P,jaA bs,rU r] G Q X:=by
 have wb:jaC r=true->jct P bs ss r = "back" := fun z=>by unfold jct; rw [if_pos z]
 have wn:jaC r=false->jaj P bs ss r=0->jct P bs ss r = "none" := fun z y=>by unfold jct; rw [if_neg (by rw [z]; decide),if_pos y]
 have wt:jaC r=false->0 < jaj P bs ss r->jct P bs ss r = "told" := fun z y=>by unfold jct; rw [if_neg (by rw [z]; decide),if_neg (by omega)]
 refine ⟨rfl,?_⟩
 simp! only [jde,jaq,Yaq]
 have eb:jaC r=true->∀ G1,Sa G G1->Q (.str "back") G1:=fun hb G1 s1=>by have:=q _ s1; rw [wb hb] at this; exact this
 have en:jaC r=false->jaj P bs ss r=0->∀ G1,Sa G G1->Q (.str "none") G1:=fun hb hm G1 s1=>by have:=q _ s1; rw [wn hb hm] at this; exact this
 have et:jaC r=false->0 < jaj P bs ss r->∀ G1,Sa G G1->Q (.str "told") G1:=fun hb hm G1 s1=>by have:=q _ s1; rw [wt hb hm] at this; exact this
 by_cases w0:w=0
 ·rw [if_pos (by simpa using w0)]
  refine jaU (k:=k + 1) h (fun hb G1 s1=>⟨.inr rfl,?_⟩) (fun hb hm G1 s1=>⟨.inr rfl,?_⟩) (fun hb hm G1 s1=>?_)
  ·simp [hsH,hvH,ja1,lit1,litH,atsH,atH,clsF,clsA,-Yb3]
   exact eb hb G1 s1
  ·simp [hsH,hvH,ja1,lit1,litH,atsH,atH,clsF,clsA,-Yb3]
   exact en hb hm G1 s1
  ·simp! only []
   exact et hb hm G1 s1
 ·rw [if_neg (by simpa using w0)]
  by_cases w1:w=1
  ·rw [if_pos (by simpa using w1)]
   refine jbK (k:=k) (p:=0) (t:=0) h (fun hb G1 s1=>⟨.inr rfl,?_⟩) (fun hb hm G1 s1=>⟨.inr rfl,?_⟩) (fun hb hm G1 s1=>?_)
   ·simp [hsH,hvH,ja1,lit1,litH,atsH,atH,clsF,clsA,-Yb3]
    exact eb hb G1 s1
   ·simp [hsH,hvH,ja1,lit1,litH,atsH,atH,clsF,clsA,-Yb3]
    exact en hb hm G1 s1
   ·simp! only []
    exact et hb hm G1 s1
  ·rw [if_neg (by simpa using w1)]
   refine jbw (k:=k) (v:=0) (m:=3) h (by decide) (by decide) (by decide) (fun hb G1 s1=>⟨.inr rfl,?_⟩) (fun hb hm G1 s1=>⟨.inr rfl,?_⟩) (fun hb hm p1 G1 s1 _ g1=>?_)
   ·simp [hsH,hvH,ja1,lit1,litH,atsH,atH,clsF,clsA,-Yb3]
    exact eb hb G1 s1
   ·simp [hsH,hvH,ja1,lit1,litH,atsH,atH,clsF,clsA,-Yb3]
    exact en hb hm G1 s1
   ·simp! only []
    exact et hb hm G1 s1
end

set_option maxHeartbeats 2000000
theorem jks {xs:List Str}{ss:List Spn}{W:Nat}(w8:W<=8)(x8:xs.length<=8)(nm:∀ x∈xs,Nm x)(sl:ss.length<=24)(so:∀ s∈ss,s.Ok W):Ft 600000 3 (jas xs ss):=by
 refine Ft.tup (n:=250000) (m:=2) (k:=2) (Yak _) (fun u hu=>?_) (by decide)
 simp only [YbW,YbI,or_false] at hu
 rcases hu with rfl | rfl
 ·refine (Ft.tup (n:=82) (m:=8) (k:=0) (N:=1000) (by rw [Yai]; exact x8) (fun u hu=>?_) (by decide)).mono (by decide) (by decide)
  obtain ⟨x,hx,rfl⟩:=Yfp.mp hu
  exact Ft.str (m:=8) (nm x hx).l8 (nm x hx).ch
 ·refine Ft.tup (n:=10000) (m:=24) (k:=1) (by rw [Yai]; exact sl) (fun u hu=>?_) (by decide)
  obtain ⟨s,hs,rfl⟩:=Yfp.mp hu
  exact (so s hs).ft w8
theorem jkt {l:List Int}(h8:l.length<=24)(h:∀ z∈l,-100000<=z/\z<=100000):Ft 50000 1 (jaA l):=by
 refine Ft.tup (n:=1921) (m:=24) (k:=0) (by rw [Yai]; exact h8) (fun u hu=>?_) (by decide)
 obtain ⟨z,hz,rfl⟩:=Yfp.mp hu
 exact jd8 (h z hz)
theorem jkr {r:List (Nat×Int)}(h8:r.length<=60)(h:∀ e∈r,e.1<=100/\(e.2=1\/e.2=-1)):Ft 300000 2 (rU r):=by
 refine Ft.tup (n:=4000) (m:=60) (k:=1) (by rw [Yai]; exact h8) (fun u hu=>?_) (by decide)
 obtain ⟨e,he,rfl⟩:=Yfp.mp hu
 have:=h e he
 refine Ft.tup (n:=1921) (m:=2) (k:=0) (Yak _) (fun u hu=>?_) (by decide)
 simp only [YbW,YbI,or_false] at hu
 rcases hu with rfl | rfl
 ·exact jd8 (by omega)
 ·exact jd8 (by omega)
theorem jiv {B:Int}:∀ l:List Int,(∀ z∈l,z<=B)->l.sum<=l.length * B
 | [],_=>by simp
 | z::l,h=>by
  rw [Yd6,YbJ,Int.natCast_succ,Int.add_mul,YeN]
  have:=h z (by simp)
  have:=jiv l fun y hy=>h y (by simp [hy])
  omega
section
variable {k:Nat}{G:Gp}{X:KX}{xs:List Str}{ss:List Spn}{P:Int}{bs:List Int}{r:List (Nat×Int)}{a f c:Addr}{K:Sg->Gp->Prop}{Q:K1}
theorem Rg.up (h:Rg xs ss P bs r)(hb:jaC r=false)(r8:r.length<=8):jaj P bs ss r<=90000:=by
 have hp1:=h.p1
 have hp2:=h.p2
 have h1:sumZ P bs ss r<=(r.map fun e=>e.2 * lenZ P bs (ss.getD e.1 s0Z)).length * 10599:=jiv _ fun z hz=>by
  obtain ⟨e,he,rfl⟩:=Yfp.mp hz
  show e.2 * lenZ P bs (ss.getD e.1 s0Z)<=10599
  rw [h.all1 hb e he,YeN]
  have:=(jeO (P:=P) (bs:=bs) (by omega) (h.at he).2).2
  omega
 rw [Yai] at h1
 have h2:0<=sumZ P bs ss r:=jgq _ fun z hz=>by
  obtain ⟨e,he,rfl⟩:=Yfp.mp hz
  show 0<=e.2 * lenZ P bs (ss.getD e.1 s0Z)
  rw [h.all1 hb e he,YeN]
  exact (jeO (by omega) (h.at he).2).1
 have h3:sumZ P bs ss r / P<=sumZ P bs ss r:=Int.ediv_le_self _ h2
 unfold jaj
 omega
noncomputable def rotZ (n m:Nat):List (Nat×Int):=(jaL n).drop m++(jaL n).take m
theorem jaK (n:Nat):(jaL n).length=n:=by simp [jaL]
theorem jcw {n m:Nat}(h:m < n):(rotZ n m).length=n:=by simp [rotZ,jaK]; omega
theorem jdq {n m:Nat}{e:Nat×Int}(h:e∈rotZ n m):e.1 < n/\e.2=1:=by
 have:e∈jaL n:=by
  rcases List.mem_append.mp h with z | z
  ·exact Ycw z
  ·exact Yb7 z
 obtain ⟨j,hj,rfl⟩:=Yfp.mp this
 exact ⟨List.mem_range.mp hj,rfl⟩
theorem jjt {n m j:Nat}(h:m < n)(hj:j < n):(rotZ n m).getD j (0,1)=((m + j) % n,1):=by
 have l0:(jaL n).length=n:=jaK n
 have g:∀ i,i < n->(jaL n)[i]?=some (i,1):=fun i hi=>by simp [jaL,hi]
 unfold rotZ Ybk
 by_cases hc:j < n - m
 ·rw [Ybw (by rw [Ybo,l0]; exact hc),YcL,g _ (by omega),YdC (by omega)]
  rfl
 ·rw [Ybt (by rw [Ybo,l0]; omega),Ybo,l0,Ye1 (by omega),g _ (by omega)]
  have:(m + j) % n=m + j - n:=by rw [Nat.mod_eq_sub_mod (by omega),YdC (by omega)]
  rw [this]
  show (j - (n - m),(1:Int))=_
  rw [show j - (n - m)=m + j - n by omega]
theorem jhD {n m:Nat}(h:m < n):(rotZ n m).drop (n - m)++(rotZ n m).take (n - m)=jaL n:=by
 have l1:((jaL n).drop m).length=n - m:=by rw [Ybo,jaK]
 unfold rotZ
 rw [List.drop_append_of_le_length (by omega),List.take_append_of_le_length (by omega),<- l1,Yep,YcB,Yb9,YaS]
theorem jla {n m:Nat}(h:m < n)(hn:ss.length=n)(cl:Clo ss):Rd ss (rotZ n m):=by
 have l:=jcw h
 refine ⟨by omega,fun e he=>(jdq he).2,fun i=>?_⟩
 have e:∀ i,spZ ss (rotZ n m) i=ss.getD ((m + i) % n) s0Z:=fun i=>by
  unfold spZ
  rw [l,jjt h (YcF _ (by omega))]
  show ss.getD ((m + i % n) % n) s0Z=_
  rw [Nat.add_mod_mod]
 rw [e,e]
 have:=cl ((m + i) % n) (by rw [hn]; exact YcF _ (by omega))
 rw [this,hn,Nat.mod_add_mod]
 rfl
noncomputable def Rest (a f:Addr)(ς:Sg):Prop:=∃ o2 o3 o4 o5 o6 o7 o8 o9 o10 o11 o12 o13:Option U,ς=[some (.loc a),some (.loc f),o2,o3,o4,o5,o6,o7,o8,o9,o10,o11,o12,o13]
end

set_option maxHeartbeats 2000000
theorem jny {us:List U}{G:Gp}{Q:K1}:revU (.tup us) (.int (-1)) G Q=Q (.tup us.reverse) G:=by
 unfold revU
 exact propext ⟨fun h=>h.2,fun h=>⟨rfl,h⟩⟩
section
variable {k:Nat}{G:Gp}{X:KX}{xs:List Str}{ss:List Spn}{P:Int}{bs:List Int}{r:List (Nat×Int)}{a f c:Addr}{K:Sg->Gp->Prop}{Q:K1}{n m:Nat}{z0:Str}{u2 u9 u10 u11 u12 u13:Option U}
theorem jiP (hm:m < n)(n8:n<=8)(hz:∀ (G:Gp) (Q:K1),Q (.str z0) G->jcx [.tup [jas xs ss,jaA bs,rU (jaL n)]] G Q)(hf:Fd G f c)(kk:∀ ς G',Rest a f ς->Fd G' f c->K ς G') :
  jaD T.gs (jac T (k + 8)) jbx ⟨K,Q,fun x _ G'=>X x G'⟩ [some (.loc a),some (.loc f),u2,some (.int P),some (jas xs ss),some (rU (rotZ n m)),some (jaA bs),some (.str z0),some (.int m),u9,u10,u11,u12,u13] G:=by
 have l:=jcw hm
 rw [show rU (rotZ n m)=.tup ((rotZ n m).map eU) from rfl]
 have e:(n:Int) - (m:Int)=((n - m:Nat):Int):=by omega
 have eb:((rotZ n m).map eU).drop (n - m)++((rotZ n m).map eU).take (n - m)=(jaL n).map eU:=by rw [<- Ye5,<- Yd7,<- Ybn,jhD hm]
 simp! only [jbx,Yai,l,e,jfE,jee,eb]
 refine ⟨?_,by decide,?_⟩
 ·rw [Ybo,Ybe,Yai,l]
  exact Yaw (show n - (n - m) + min (n - m) n<=16 by omega) (by decide)
 refine hz _ _ ?_
 simp! only []
 exact kk _ _ ⟨_,_,_,_,_,_,_,_,_,_,_,_,rfl⟩ hf
theorem jjj (r r':List (Nat×Int)):sumZ P bs ss (r++r')=sumZ P bs ss r + sumZ P bs ss r':=by unfold sumZ; rw [Ybn,YeB]
structure Wd (xs:List Str)(ss:List Spn)(P:Int)(bs:List Int)(n m:Nat)(z0:Str):Prop where
 g:Rg xs ss P bs (rotZ n m)
 c:Rd ss (rotZ n m)
 hm:m < n
 n8:n<=8
 hz:∀ (G:Gp) (Q:K1),Q (.str z0) G->jcx [.tup [jas xs ss,jaA bs,rU (jaL n)]] G Q
theorem Rg.ring (h:Rg xs ss P bs r){r':List (Nat×Int)}(h0:0 < r'.length)(hl:r'.length<=60)(hr:∀ e∈r',e.1 < ss.length/\(e.2=1\/e.2=-1)):Rg xs ss P bs r':=
 ⟨h.p1,h.p2,h.x0,h.x8,h.nm,h.bl,h.bb,h.so,h.sl,h0,hl,hr⟩
theorem jl5 (w:Wd xs ss P bs n m z0)(hf:Fd G f c)(kk:∀ ς G',Rest a f ς->Fd G' f c->K ς G') :
  jaD T.gs (jac T (k + 8)) jby ⟨K,Q,fun x _ G'=>X x G'⟩ [some (.loc a),some (.loc f),u2,some (.int P),some (jas xs ss),some (rU (rotZ n m)),some (jaA bs),some (.str z0),some (.int m),some (.int (jaj P bs ss (rotZ n m))),u10,u11,u12,u13] G:=by
 have l:=jcw w.hm
 have hb:=jcU w.c
 have hn8:=w.n8
 have p1:=w.g.p1
 have M0:=w.g.nn hb
 have M1:=w.g.up hb (by omega)
 obtain ⟨M,hM⟩:∃ M:Nat,jaj P bs ss (rotZ n m)=(M:Int):=Ybs M0
 rw [hM] at M0 M1 ⊢
 simp! only [jby]
 by_cases hp:0 < (M:Int)
 ·rw [if_pos (by simpa using hp)]
  obtain ⟨y,hy⟩:∃ y:Str,∀ (G:Gp) (Q:K1),Q (.str y) G->jcx [.int (M:Int)] G Q:=⟨_,fun G Q q=>jix (jd8 (by omega)) (by decide) (by decide) q⟩
  simp! only [jbt]
  refine jaU (k:=k + 5) w.g (fun z=>by rw [hb] at z; cases z) (fun _ z=>by omega) fun _ _ G1 s1=>?_
  rw [hM]
  refine hy _ _ ?_
  simp! only []
  refine hy _ _ ?_
  simp! only [jbs,rU]
  have rr:Rg xs ss P bs (rotZ n m++rotZ n m):=w.g.ring (by simp [l]; have:=w.hm; omega) (by simp [l]; omega) fun e he=>w.g.rr e (by simpa using he)
  have hmm:jaj P bs ss (rotZ n m++rotZ n m)=2 * (M:Int):=by
   have s:=jjk (bs:=bs) (by omega:0 < P) w.c
   have t:=jc6 (bs:=bs) (by omega:0 < P) w.c
   unfold jaj
   rw [jjj,s,<- t,hM,show P * (M:Int) + P * (M:Int)=P * (2 * (M:Int)) by rw [<- Yf3]; congr 1; omega,YcH _ (by omega)]
  have hbb:jaC (rotZ n m++rotZ n m)=false:=by unfold jaC at *; rw [List.any_append,hb]; rfl
  refine ⟨by rw [Yai,l]; exact Yaw (show n + n<=16 by omega) (by decide),?_⟩
  rw [<- Ybn]
  refine jaU (k:=k + 5) (r:=rotZ n m++rotZ n m) rr (fun z=>by rw [hbb] at z; cases z) (fun _ z=>by omega) fun _ _ G2 s2=>?_
  rw [hmm]
  simp! only []
  refine ⟨.inr (by constructor <;> omega),?_⟩
  simp! only [jbr]
  have f2:=(hf.sa s1).sa s2
  refine jau (k:=k + 7) f2 (by decide) (by decide) fun t3 G3 a3 b3 f3 s3=>?_
  obtain ⟨tn,ht⟩:∃ tn:Nat,1 + t3=(tn:Int):=Ybs (by omega)
  simp! only [jbq]
  rw [ht]
  refine jj0 (k:=k + 2) (M:=M) (tn:=tn) w.g w.c hM.symm (by omega) (by omega) (by omega) (by omega) (by omega) fun G4 s4=>?_
  simp! only []
  exact jiP (k:=k) w.hm w.n8 w.hz (f3.sa s4) kk
 ·rw [if_neg (by simpa using hp)]
  exact jiP (k:=k) w.hm w.n8 w.hz hf kk
end

set_option maxHeartbeats 2000000
noncomputable def bkE (e:Nat×Int):Nat×Int:=(e.1,-1)
noncomputable def bkU:U->U
 | .tup [a,_]=>.tup [a,.int (-1)]
 | u=>u
theorem jms (r:List (Nat×Int)):(r.map eU).map bkU=(r.map bkE).map eU:=by
 rw [Yc6,Yc6]
 exact Ydg fun e _=>rfl
section
variable {k:Nat}{G:Gp}{X:KX}{xs:List Str}{ss:List Spn}{P:Int}{bs:List Int}{r:List (Nat×Int)}{a f c:Addr}{K:Sg->Gp->Prop}{Q:K1}{n m:Nat}{z0:Str}{u2 u9 u10 u11 u12 u13:Option U}
theorem jl6 {bk:List (Nat×Int)}(w:Wd xs ss P bs n m z0)(hbk:Rg xs ss P bs bk)(bb:jaC bk=true)(hf:Fd G f c)(kk:∀ ς G',Rest a f ς->Fd G' f c->K ς G') :
  jaD T.gs (jac T (k + 8)) jbz ⟨K,Q,fun x _ G'=>X x G'⟩ [some (.loc a),some (.loc f),u2,some (.int P),some (jas xs ss),some (rU (rotZ n m)),some (jaA bs),some (.str z0),some (.int m),some (.int (jaj P bs ss (rotZ n m))),u10,some (rU bk),u12,u13] G:=by
 have hb:=jcU w.c
 have M0:=w.g.nn hb
 simp! only [jbz]
 refine ⟨by decide,by decide,?_⟩
 refine jbE (fun i ς G'=>∃ o12:Option U,ς=[some (.loc a),some (.loc f),u2,some (.int P),some (jas xs ss),some (rU (rotZ n m)),some (jaA bs),some (.str z0),some (.int m),some (.int (jaj P bs ss (rotZ n m))),u10,some (rU bk),o12,u13]/\Fd G' f c) ?_ ?_ ⟨_,rfl,hf⟩
 ·rintro ς G1 ⟨o12,rfl,f1⟩
  refine ⟨trivial,?_⟩
  exact jl5 (k:=k) w f1 kk
 ·rintro i x ς G1 K' hx ⟨o12,rfl,f1⟩ hk
  obtain ⟨hi,rfl⟩:=ja3 hx
  refine ⟨trivial,?_⟩
  simp! only [jbu]
  refine jgH (k:=k + 3) hbk fun G2 s2=>?_
  rw [show jct P bs ss bk = "back" by unfold jct; rw [if_pos bb]]
  simp! only []
  refine jgH (k:=k + 3) w.g fun G3 s3=>?_
  have ew:jct P bs ss (rotZ n m)=if jaj P bs ss (rotZ n m)=0 then Yaa "none" else Yaa "told" := by unfold jct; rw [if_neg (by rw [hb]; decide)]
  rw [ew]
  simp! only []
  refine ⟨by decide,fun p4 G4 n4=>?_⟩
  have f4:=((f1.sa s2).sa s3).new n4
  by_cases hM:jaj P bs ss (rotZ n m)=0
  ·rw [if_pos hM,if_pos (decide_eq_true hM)]
   simp! only [ix_l n4.at (show atI [U.str (Yaa "told"),U.str (Yaa "none")] 1=some (U.str (Yaa "none")) from rfl)]
   exact hk _ _ ⟨_,rfl,f4⟩
  ·rw [if_neg hM,if_neg (by simpa using hM)]
   simp! only [ix_l n4.at (show atI [U.str (Yaa "told"),U.str (Yaa "none")] 0=some (U.str (Yaa "told")) from rfl)]
   exact hk _ _ ⟨_,rfl,f4⟩
theorem jnT (w:Wd xs ss P bs n m z0)(hf:Fd G f c)(kk:∀ ς G',Rest a f ς->Fd G' f c->K ς G') :
  jaD T.gs (jac T (k + 8)) jbS ⟨K,Q,fun x _ G'=>X x G'⟩ [some (.loc a),some (.loc f),u2,some (.int P),some (jas xs ss),some (rU (rotZ n m)),some (jaA bs),some (.str z0),some (.int m),u9,u10,u11,u12,u13] G:=by
 have hb:=jcU w.c
 have p1:=w.g.p1
 have p2:=w.g.p2
 have l:=jcw w.hm
 have hn8:=w.n8
 have M0:=w.g.nn hb
 have M1:=w.g.up hb (by omega)
 simp! only [jbS]
 refine jca (k:=k + 6) w.g fun G1 s1=>?_
 simp! only []
 rw [show rU (rotZ n m)=.tup ((rotZ n m).map eU) from rfl]
 simp! only []
 refine ⟨by rw [Yai]; exact Yaw w.g.rl (by decide),?_⟩
 refine jaO (fun i acc G'=>G'=G1/\acc=(((rotZ n m).take i).map fun e=>e.2 * lenZ P bs (ss.getD e.1 s0Z)).map .int) ?_ ?_ ⟨rfl,rfl⟩
 ·rintro acc G2 ⟨rfl,rfl⟩
  rw [Yai,YcB]
  refine ⟨trivial,fun p G3 n3=>?_⟩
  show sumU [.loc p] G3 _
  rw [jji n3.at (jco _)]
  have es:((rotZ n m).map fun e=>e.2 * lenZ P bs (ss.getD e.1 s0Z)).sum=jaj P bs ss (rotZ n m) * P:=by
   show sumZ P bs ss (rotZ n m)=_
   rw [jjk (by omega) w.c,jc6 (by omega) w.c,Int.mul_comm]
  rw [es]
  simp! only [jc0,jny]
  refine ⟨.inr (by constructor <;> omega),?_⟩
  simp! only []
  refine ⟨by rw [Ydh,Yai]; exact Yaw w.g.rl (by decide),?_⟩
  rw [<- List.map_reverse]
  refine jbQ bkU trivial (fun x hx K' hk=>?_) (fun p4 G4 n4=>?_)
  ·obtain ⟨y,hy,rfl⟩:=Yfp.mp hx
   rw [show eU y=.tup [.int y.1,.int y.2] from rfl] at hk ⊢
   simp! only []
   exact ⟨trivial,by decide,hk⟩
  rw [Yb9,jms] at n4
  simp! only [it_l n4.at]
  have hr0:=w.g.r0
  have rbk:Rg xs ss P bs ((rotZ n m).reverse.map bkE):=w.g.ring (by simp; omega) (by simp; omega) fun x hx=>by
   obtain ⟨y,hy,rfl⟩:=Yfp.mp hx
   exact ⟨(w.g.rr y (List.mem_reverse.mp hy)).1,.inr rfl⟩
  have bb:jaC ((rotZ n m).reverse.map bkE)=true:=by
   obtain ⟨e,he⟩:∃ e,(rotZ n m)[0]?=some e:=⟨_,Yah hr0⟩
   exact List.any_eq_true.mpr ⟨bkE e,Yfp.mpr ⟨e,List.mem_reverse.mpr (YaD he),rfl⟩,rfl⟩
  exact jl6 (k:=k) w rbk bb (((hf.sa s1).new n3).new n4) kk
 ·rintro i x acc G2 K' hx ⟨rfl,rfl⟩ hk _
  rw [YaE] at hx
  obtain ⟨e,ee,rfl⟩:∃ e,(rotZ n m)[i]?=some e/\eU e=x:=by
   cases z:(rotZ n m)[i]? with
   | none=>rw [z] at hx; cases hx
   | some e=>rw [z] at hx; exact ⟨e,rfl,by simpa using hx⟩
  have he:=YaD ee
  obtain ⟨h1,h2⟩:=w.g.at he
  refine ⟨trivial,?_⟩
  simp! only [eU]
  refine ⟨trivial,jaM (k:=k + 7) (xs:=xs) (by omega) w.g.bl h2 h1 (hk _ _ ⟨rfl,?_⟩)⟩
  rw [Yc1,ee]
  simp [(jdq he).2]
end

set_option maxHeartbeats 2000000
section
variable {k:Nat}{G:Gp}{X:KX}{xs:List Str}{ss:List Spn}{P:Int}{bs:List Int}{r:List (Nat×Int)}{a f c:Addr}{K:Sg->Gp->Prop}{Q:K1}{u2 u6 u7 u8 u9 u10 u11 u12 u13:Option U}
theorem jnU {z0:Str}(h:Rg xs ss P bs (jaL ss.length))(s8:ss.length<=8)(cl:Clo ss)(hz:∀ (G:Gp) (Q:K1),Q (.str z0) G->jcx [.tup [jas xs ss,jaA bs,rU (jaL ss.length)]] G Q)(hf:Fd G f c)(kk:∀ ς G',Rest a f ς->Fd G' f c->K ς G') :
  jaD T.gs (jac T (k + 8)) jbT ⟨K,Q,fun x _ G'=>X x G'⟩ [some (.loc a),some (.loc f),u2,some (.int P),some (jas xs ss),some (rU (jaL ss.length)),some (jaA bs),some (.str z0),u8,u9,u10,u11,u12,u13] G:=by
 have r0:=h.r0
 rw [jaK] at r0
 rw [show rU (jaL ss.length)=.tup ((jaL ss.length).map eU) from rfl]
 simp! only [jbT,Yai,jaK]
 refine jau (k:=k + 7) hf (by omega) (by omega) fun m' G1 a1 b1 f1 s1=>?_
 obtain ⟨m,rfl⟩:=Ybs a1
 have hm:m < ss.length:=by omega
 have e:((jaL ss.length).map eU).drop m++((jaL ss.length).map eU).take m=(rotZ ss.length m).map eU:=by
  unfold rotZ
  rw [Ybn,Ye5,Yd7]
 simp! only [jc1,jfE,jee,e]
 refine ⟨?_,?_⟩
 ·rw [Ybo,Ybe,Yai,jaK]
  exact Yaw (show ss.length - m + min m ss.length<=16 by omega) (by decide)
 have l:=jcw hm
 exact jnT (k:=k) ⟨h.ring (by omega) (by omega) fun e he=>⟨(jdq he).1,.inl (jdq he).2⟩,jla hm rfl cl,hm,s8,hz⟩ f1 kk
theorem jnV (p1:1<=P)(p2:P<=600)(x0:0 < xs.length)(x8:xs.length<=8)(nm:∀ x∈xs,Nm x)(s0:0 < ss.length)(s8:ss.length<=8)(so:∀ s∈ss,s.Ok xs.length)(cl:Clo ss)(hf:Fd G f c)(kk:∀ ς G',Rest a f ς->Fd G' f c->K ς G') :
  jaD T.gs (jac T (k + 8)) jbU ⟨K,Q,fun x _ G'=>X x G'⟩ [some (.loc a),some (.loc f),u2,some (.int P),some (jas xs ss),some (rU (jaL ss.length)),u6,u7,u8,u9,u10,u11,u12,u13] G:=by
 simp! only [jbU,ix_t (show atI [U.tup (xs.map .str),U.tup (ss.map Spn.u)] 0=_ from joa _ _),jas]
 refine ⟨by rw [Yai]; exact Yaw x8 (by decide),?_⟩
 refine jaO (fun i acc G'=>Fd G' f c/\∃ bs:List Int,acc=bs.map .int/\bs.length=i/\∀ b∈bs,0<=b/\b < P) ?_ ?_ ⟨hf,[],rfl,rfl,fun _ h=>nomatch h⟩
 ·rintro acc G1 ⟨f1,bs,rfl,bl,bb⟩
  rw [Yai] at bl
  refine ⟨trivial,fun p2 G2 n2=>?_⟩
  simp! only [it_l n2.at]
  have h:Rg xs ss P bs (jaL ss.length):=⟨p1,by assumption,x0,x8,nm,bl,bb,so,by omega,by rw [jaK]; exact s0,by rw [jaK]; omega,fun e he=>by
   obtain ⟨j,hj,rfl⟩:=Yfp.mp he
   exact ⟨List.mem_range.mp hj,.inl rfl⟩⟩
  obtain ⟨z0,hz⟩:∃ z:Str,∀ (G:Gp) (Q:K1),Q (.str z) G->jcx [.tup [jas xs ss,jaA bs,rU (jaL ss.length)]] G Q:=⟨_,fun G Q q=>jix (Ft.tup (n:=600000) (m:=3) (k:=3) (N:=3000000) (Yak _) (fun u hu=>by
   simp only [YbW,YbI,or_false] at hu
   rcases hu with rfl | rfl | rfl
   ·exact jks h.x8 h.x8 h.nm h.sl h.so
   ·exact (jkt (by have:=h.bl; have:=h.x8; omega) (fun z hz=>by have:=h.bb z hz; omega)).mono (by decide) (by decide)
   ·exact (jkr h.rl fun e he=>by have:=h.rr e he; omega).mono (by decide) (by decide)) (by decide)) (by decide) (by decide) q⟩
  refine ⟨by decide,hz _ _ ?_⟩
  exact jnU (k:=k) h s8 cl hz (f1.new n2) kk
 ·rintro i x acc G1 K' hx ⟨f1,bs,rfl,bl,bb⟩ hk _
  refine ⟨trivial,?_⟩
  simp! only []
  refine jau (k:=k + 7) f1 (by omega) (by omega) fun z G2 a2 b2 f2 s2=>?_
  refine hk _ _ ⟨f2,bs++[z],by simp,by simp [bl],fun y hy=>?_⟩
  rcases List.mem_append.mp hy with h | h
  ·exact bb y h
  ·rw [List.mem_singleton.mp h]; exact ⟨a2,b2⟩
theorem jnW {ς:Sg}(rs:Rest a f ς){i:Int}(hf:Fd G f c)(kk:∀ ς G',Rest a f ς->Fd G' f c->K ς G') :
  jaD T.gs (jac T (k + 8)) jbV ⟨K,Q,fun x _ G'=>X x G'⟩ (ς.set 2 (some (.int i))) G:=by
 obtain ⟨o2,o3,o4,o5,o6,o7,o8,o9,o10,o11,o12,o13,rfl⟩:=rs
 simp! only [jbV]
 refine jau (k:=k + 7) hf (by decide) (by decide) fun r1 G1 a1 b1 f1 s1=>?_
 simp! only []
 refine ⟨by decide,fun p2 G2 n2=>jau (k:=k + 7) (f1.new n2) (by decide) (by decide) fun r3 G3 a3 b3 f3 s3=>?_⟩
 refine jfw [1,2,3,5,7,12,60,600,1 + r1,4] (s3 _ _ (f1.away n2).1 n2.at) a3 b3 fun P hP=>?_
 have hp:1<=P/\P<=600:=by simp only [YbW,YbI,or_false] at hP; omega
 simp! only []
 refine jj1 (k:=k + 4) f3 hp.1 hp.2 fun xs ss G4 x0 x8 nm s0 s8 so cl f4 s4=>?_
 refine ⟨rfl,?_⟩
 exact jnV (k:=k) hp.1 hp.2 x0 x8 nm s0 s8 (fun s hs=>(so s hs).1) cl f4 kk
end
theorem law_ir (a:Addr)(ns:List Int)(hl:ns.length<=63):jac T 300 jfY [.loc a] (G0 a ns) (fun u _=>u=.bl true) fun _ _=>False:=by
 refine ⟨rfl,?_⟩
 simp! only [jic,jaq,Yaq]
 refine jj2 (k:=298) (ns:=ns) (by unfold G0; rw [if_pos rfl]) hl fun f c G1 f1=>?_
 simp! only [jgo]
 refine ⟨by decide,by decide,?_⟩
 refine jbE (fun i ς G'=>Rest a f ς/\Fd G' f c) ?_ ?_ ⟨⟨_,_,_,_,_,_,_,_,_,_,_,_,rfl⟩,f1⟩
 ·rintro ς G2 ⟨⟨o2,o3,o4,o5,o6,o7,o8,o9,o10,o11,o12,o13,rfl⟩,f2⟩
  refine ⟨trivial,?_⟩
  simp! only []
 ·rintro i x ς G2 K hx ⟨r,f2⟩ hk
  obtain ⟨hi,rfl⟩:=ja3 hx
  refine ⟨trivial,?_⟩
  exact jnW (k:=291) r f2 fun ς' G' r' f'=>hk _ _ ⟨r',f'⟩

noncomputable def sts:List Stmt:=[s_length_of,s_step_of,s_ends_of,s_rounds_in,s_vehicles,s_vehicle_at,s_vehicle_row,s_law_feed,s_law_draw,s_law_names,s_law_number,s_law_plan,s_law_word,s_law_rows_right,s_law]
theorem jfm:jeG T T.funs sts=true:=by decide +kernel
theorem jgy:jfR T T.funs sts:=⟨rfl,rfl,rfl,rfl,rfl,rfl,rfl,rfl,rfl,rfl,rfl,rfl,rfl,rfl,rfl,trivial⟩
theorem ln1 {α:Type}(us:List α)(h:us.length=1):∃ u0,us=[u0]:=by
 obtain _ | ⟨u0,us⟩:=us
 ·cases h
 obtain _ | ⟨_,_⟩:=us
 ·exact ⟨_,rfl⟩
 ·cases h
theorem ln2 {α:Type}(us:List α)(h:us.length=2):∃ u0 u1,us=[u0,u1]:=by
 obtain _ | ⟨u0,us⟩:=us
 ·cases h
 obtain _ | ⟨u1,us⟩:=us
 ·cases h
 obtain _ | ⟨_,_⟩:=us
 ·exact ⟨_,_,rfl⟩
 ·cases h
theorem ln4 {α:Type}(us:List α)(h:us.length=4):∃ u0 u1 u2 u3,us=[u0,u1,u2,u3]:=by
 obtain _ | ⟨u0,us⟩:=us
 ·cases h
 obtain _ | ⟨u1,us⟩:=us
 ·cases h
 obtain _ | ⟨u2,us⟩:=us
 ·cases h
 obtain _ | ⟨u3,us⟩:=us
 ·cases h
 obtain _ | ⟨_,_⟩:=us
 ·exact ⟨_,_,_,_,rfl⟩
 ·cases h
theorem ln5 {α:Type}(us:List α)(h:us.length=5):∃ u0 u1 u2 u3 u4,us=[u0,u1,u2,u3,u4]:=by
 obtain _ | ⟨u0,us⟩:=us
 ·cases h
 obtain _ | ⟨u1,us⟩:=us
 ·cases h
 obtain _ | ⟨u2,us⟩:=us
 ·cases h
 obtain _ | ⟨u3,us⟩:=us
 ·cases h
 obtain _ | ⟨u4,us⟩:=us
 ·cases h
 obtain _ | ⟨_,_⟩:=us
 ·exact ⟨_,_,_,_,_,rfl⟩
 ·cases h
theorem ln6 {α:Type}(us:List α)(h:us.length=6):∃ u0 u1 u2 u3 u4 u5,us=[u0,u1,u2,u3,u4,u5]:=by
 obtain _ | ⟨u0,us⟩:=us
 ·cases h
 obtain _ | ⟨u1,us⟩:=us
 ·cases h
 obtain _ | ⟨u2,us⟩:=us
 ·cases h
 obtain _ | ⟨u3,us⟩:=us
 ·cases h
 obtain _ | ⟨u4,us⟩:=us
 ·cases h
 obtain _ | ⟨u5,us⟩:=us
 ·cases h
 obtain _ | ⟨_,_⟩:=us
 ·exact ⟨_,_,_,_,_,_,rfl⟩
 ·cases h
theorem all_mk {l:YdB}{w:World}{K:Yac}{h:Heap}{mg:Str->Option Value}{fa:Addr}(X:K.In h)(G:h.Ns Yax mg)(hfa:mg "law" = some (.ref fa))
  {f0:Addr} {od0 an0:Option Addr} {sl0:Array (Option Value)} {oc0 kV0 dc0 pm0 cd0 ct0:Value}
  (a0:YaA K Yax "length_of" = some (some (.ref f0))) (l0:K.lookup f0=some ⟨oc0,od0,.func (YaX "length_of" "length_of" (defArgs s_length_of) (defBody s_length_of) (defScope s_length_of) .none kV0 dc0 pm0 an0 cd0 ct0),sl0⟩) (c0:Ya0 K cd0 "length_of" = true) (k0:YaN K (.ref f0)=true)
  {f1:Addr} {od1 an1:Option Addr} {sl1:Array (Option Value)} {oc1 kV1 dc1 pm1 cd1 ct1:Value}
  (a1:YaA K Yax "step_of" = some (some (.ref f1))) (l1:K.lookup f1=some ⟨oc1,od1,.func (YaX "step_of" "step_of" (defArgs s_step_of) (defBody s_step_of) (defScope s_step_of) .none kV1 dc1 pm1 an1 cd1 ct1),sl1⟩) (c1:Ya0 K cd1 "step_of" = true) (k1:YaN K (.ref f1)=true)
  {f2:Addr} {od2 an2:Option Addr} {sl2:Array (Option Value)} {oc2 kV2 dc2 pm2 cd2 ct2:Value}
  (a2:YaA K Yax "ends_of" = some (some (.ref f2))) (l2:K.lookup f2=some ⟨oc2,od2,.func (YaX "ends_of" "ends_of" (defArgs s_ends_of) (defBody s_ends_of) (defScope s_ends_of) .none kV2 dc2 pm2 an2 cd2 ct2),sl2⟩) (c2:Ya0 K cd2 "ends_of" = true) (k2:YaN K (.ref f2)=true)
  {f3:Addr} {od3 an3:Option Addr} {sl3:Array (Option Value)} {oc3 kV3 dc3 pm3 cd3 ct3:Value}
  (a3:YaA K Yax "rounds_in" = some (some (.ref f3))) (l3:K.lookup f3=some ⟨oc3,od3,.func (YaX "rounds_in" "rounds_in" (defArgs s_rounds_in) (defBody s_rounds_in) (defScope s_rounds_in) .none kV3 dc3 pm3 an3 cd3 ct3),sl3⟩) (c3:Ya0 K cd3 "rounds_in" = true) (k3:YaN K (.ref f3)=true)
  {f4:Addr} {od4 an4:Option Addr} {sl4:Array (Option Value)} {oc4 kV4 dc4 pm4 cd4 ct4:Value}
  (a4:YaA K Yax "vehicles" = some (some (.ref f4))) (l4:K.lookup f4=some ⟨oc4,od4,.func (YaX "vehicles" "vehicles" (defArgs s_vehicles) (defBody s_vehicles) (defScope s_vehicles) .none kV4 dc4 pm4 an4 cd4 ct4),sl4⟩) (c4:Ya0 K cd4 "vehicles" = true) (k4:YaN K (.ref f4)=true)
  {f5:Addr} {od5 an5:Option Addr} {sl5:Array (Option Value)} {oc5 kV5 dc5 pm5 cd5 ct5:Value}
  (a5:YaA K Yax "vehicle_at" = some (some (.ref f5))) (l5:K.lookup f5=some ⟨oc5,od5,.func (YaX "vehicle_at" "vehicle_at" (defArgs s_vehicle_at) (defBody s_vehicle_at) (defScope s_vehicle_at) .none kV5 dc5 pm5 an5 cd5 ct5),sl5⟩) (c5:Ya0 K cd5 "vehicle_at" = true) (k5:YaN K (.ref f5)=true)
  {f6:Addr} {od6 an6:Option Addr} {sl6:Array (Option Value)} {oc6 kV6 dc6 pm6 cd6 ct6:Value}
  (a6:YaA K Yax "vehicle_row" = some (some (.ref f6))) (l6:K.lookup f6=some ⟨oc6,od6,.func (YaX "vehicle_row" "vehicle_row" (defArgs s_vehicle_row) (defBody s_vehicle_row) (defScope s_vehicle_row) .none kV6 dc6 pm6 an6 cd6 ct6),sl6⟩) (c6:Ya0 K cd6 "vehicle_row" = true) (k6:YaN K (.ref f6)=true)
  {f7:Addr} {od7 an7:Option Addr} {sl7:Array (Option Value)} {oc7 kV7 dc7 pm7 cd7 ct7:Value}
  (a7:YaA K Yax "_law_feed" = some (some (.ref f7))) (l7:K.lookup f7=some ⟨oc7,od7,.func (YaX "_law_feed" "_law_feed" (defArgs s_law_feed) (defBody s_law_feed) (defScope s_law_feed) .none kV7 dc7 pm7 an7 cd7 ct7),sl7⟩) (c7:Ya0 K cd7 "_law_feed" = true) (k7:YaN K (.ref f7)=true)
  {f8:Addr} {od8 an8:Option Addr} {sl8:Array (Option Value)} {oc8 kV8 dc8 pm8 cd8 ct8:Value}
  (a8:YaA K Yax "_law_draw" = some (some (.ref f8))) (l8:K.lookup f8=some ⟨oc8,od8,.func (YaX "_law_draw" "_law_draw" (defArgs s_law_draw) (defBody s_law_draw) (defScope s_law_draw) .none kV8 dc8 pm8 an8 cd8 ct8),sl8⟩) (c8:Ya0 K cd8 "_law_draw" = true) (k8:YaN K (.ref f8)=true)
  {f9:Addr} {od9 an9:Option Addr} {sl9:Array (Option Value)} {oc9 kV9 dc9 pm9 cd9 ct9:Value}
  (a9:YaA K Yax "_law_names" = some (some (.ref f9))) (l9:K.lookup f9=some ⟨oc9,od9,.func (YaX "_law_names" "_law_names" (defArgs s_law_names) (defBody s_law_names) (defScope s_law_names) .none kV9 dc9 pm9 an9 cd9 ct9),sl9⟩) (c9:Ya0 K cd9 "_law_names" = true) (k9:YaN K (.ref f9)=true)
  {f10:Addr} {od10 an10:Option Addr} {sl10:Array (Option Value)} {oc10 kV10 dc10 pm10 cd10 ct10:Value}
  (a10:YaA K Yax "_law_number" = some (some (.ref f10))) (l10:K.lookup f10=some ⟨oc10,od10,.func (YaX "_law_number" "_law_number" (defArgs s_law_number) (defBody s_law_number) (defScope s_law_number) .none kV10 dc10 pm10 an10 cd10 ct10),sl10⟩) (c10:Ya0 K cd10 "_law_number" = true) (k10:YaN K (.ref f10)=true)
  {f11:Addr} {od11 an11:Option Addr} {sl11:Array (Option Value)} {oc11 kV11 dc11 pm11 cd11 ct11:Value}
  (a11:YaA K Yax "_law_plan" = some (some (.ref f11))) (l11:K.lookup f11=some ⟨oc11,od11,.func (YaX "_law_plan" "_law_plan" (defArgs s_law_plan) (defBody s_law_plan) (defScope s_law_plan) .none kV11 dc11 pm11 an11 cd11 ct11),sl11⟩) (c11:Ya0 K cd11 "_law_plan" = true) (k11:YaN K (.ref f11)=true)
  {f12:Addr} {od12 an12:Option Addr} {sl12:Array (Option Value)} {oc12 kV12 dc12 pm12 cd12 ct12:Value}
  (a12:YaA K Yax "_law_word" = some (some (.ref f12))) (l12:K.lookup f12=some ⟨oc12,od12,.func (YaX "_law_word" "_law_word" (defArgs s_law_word) (defBody s_law_word) (defScope s_law_word) .none kV12 dc12 pm12 an12 cd12 ct12),sl12⟩) (c12:Ya0 K cd12 "_law_word" = true) (k12:YaN K (.ref f12)=true)
  {f13:Addr} {od13 an13:Option Addr} {sl13:Array (Option Value)} {oc13 kV13 dc13 pm13 cd13 ct13:Value}
  (a13:YaA K Yax "_law_rows_right" = some (some (.ref f13))) (l13:K.lookup f13=some ⟨oc13,od13,.func (YaX "_law_rows_right" "_law_rows_right" (defArgs s_law_rows_right) (defBody s_law_rows_right) (defScope s_law_rows_right) .none kV13 dc13 pm13 an13 cd13 ct13),sl13⟩) (c13:Ya0 K cd13 "_law_rows_right" = true) (k13:YaN K (.ref f13)=true)
  {f14:Addr} {od14 an14:Option Addr} {sl14:Array (Option Value)} {oc14 kV14 dc14 pm14 cd14 ct14:Value}
  (a14:YaA K Yax "law" = some (some (.ref f14))) (l14:K.lookup f14=some ⟨oc14,od14,.func (YaX "law" "law" (defArgs s_law) (defBody s_law) (defScope s_law) .none kV14 dc14 pm14 an14 cd14 ct14),sl14⟩) (c14:Ya0 K cd14 "law" = true) (k14:YaN K (.ref f14)=true)
  (z_len:YaA K Yax "len" = some none)
  (z_repr:YaA K Yax "repr" = some none)
  (z_min:YaA K Yax "min" = some none)
  (z_max:YaA K Yax "max" = some none)
  (z_sum:YaA K Yax "sum" = some none)
  (z_all:YaA K Yax "all" = some none)
  (z_any:YaA K Yax "any" = some none)
  (z_sorted:YaA K Yax "sorted" = some none)
  (z_int:YaA K Yax "int" = some none)
  (z_str:YaA K Yax "str" = some none)
  (z_isinstance:YaA K Yax "isinstance" = some none)
  (z_range:YaA K Yax "range" = some none)
  (z_enumerate:YaA K Yax "enumerate" = some none)
  (z_list:YaA K Yax "list" = some none)
  (z_tuple:YaA K Yax "tuple" = some none)
  (z_bool:YaA K Yax "bool" = some none)
  (z_dict:YaA K Yax "dict" = some none)
  (z_ValueError:YaA K Yax "ValueError" = some none)
  {vD:Addr} {vDq:Str} {vDN:Addr} {vDbs vDsub:List Value} {vDhd vDab:Bool} {vDsn:List Str} {vDcol:Option Bool} {vDdd:Option Addr} {vDk0 vDk1 vDk2 vDk3 vDk5:Option Value} {vDnid:String} (vDa:YaA K Yax "PlanError" = some (some (.ref vD))) (vDl:K.lookup vD=some (YcN "PlanError" vDq vD vDN vDbs bmV vDhd vDsn vDsub vDab vDcol vDdd vDk0 vDk1 vDk2 vDk3 vDk5 vDnid)) (vDk:YaN K (.ref vD)=true) (vDn:jdb K vDN=some ksB)
  {vNoRing vNoRingI:Addr} {vNoRingq:Str} {vNoRingN:Addr} {vNoRingbs vNoRingsub:List Value} {vNoRingab:Bool} {vNoRingsn:List Str} {vNoRingcol:Option Bool} {vNoRingdd:Option Addr} {vNoRingk0 vNoRingk1 vNoRingk2 vNoRingk3 vNoRingk5:Option Value} {vNoRingod vNoRingan:Option Addr} {vNoRingsl:Array (Option Value)} {vNoRingkV vNoRingdc vNoRingpm vNoRingcd vNoRingct:Value}
  (vNoRinga:YaA K Yax "NoRing" = some (some (.ref vNoRing))) (vNoRingl:K.lookup vNoRing=some (YcN "NoRing" vNoRingq vNoRing vNoRingN vNoRingbs (.ref vD::bmV) true vNoRingsn vNoRingsub vNoRingab vNoRingcol vNoRingdd vNoRingk0 vNoRingk1 vNoRingk2 vNoRingk3 vNoRingk5 "ValueError.__new__")) (vNoRingk:YaN K (.ref vNoRing)=true) (vNoRingn:jdb K vNoRingN=some ksC) (vNoRingi:YaA K vNoRingN "__init__" = some (some (.ref vNoRingI)))
  (vNoRingf:K.lookup vNoRingI=some ⟨.type "function",vNoRingod,.func (YaX "__init__" "NoRing.__init__" (defArgs (jdA (top 2) 0)) (defBody (jdA (top 2) 0)) (defScope (jdA (top 2) 0)) .none vNoRingkV vNoRingdc vNoRingpm vNoRingan vNoRingcd vNoRingct),vNoRingsl⟩) (vNoRingc:Ya0 K vNoRingcd "NoRing.__init__" = true) (vNoRingkf:YaN K (.ref vNoRingI)=true)
  : ∃ fd:YbT,(∀ (s:Shared) (v:Value),BindsTo s fd ⟨[v],[]⟩ [("_law_script",v)])/\∀ base:Heap,K.In base->base.Ns Yax mg->FnOk l.prog w K mg base (CX1 l.prog w) 302 fa fd ["_law_script"] (lSp K (jac T 300 jfY)):=by
 have e:=hfa.symm.trans (Yba X G a14)
 cases e
 have F0:=jaN (st:=s_length_of) l0 c0 k0
 have b0:=F0.binds (ps:=["plan", "period", "beats", "s"]) fun _ _ _ _ _ _ us hl=>by obtain ⟨u0,u1,u2,u3,rfl⟩:=ln4 us hl; rfl
 have F1:=jaN (st:=s_step_of) l1 c1 k1
 have b1:=F1.binds (ps:=["plan", "period", "beats", "s"]) fun _ _ _ _ _ _ us hl=>by obtain ⟨u0,u1,u2,u3,rfl⟩:=ln4 us hl; rfl
 have F2:=jaN (st:=s_ends_of) l2 c2 k2
 have b2:=F2.binds (ps:=["plan", "entry"]) fun _ _ _ _ _ _ us hl=>by obtain ⟨u0,u1,rfl⟩:=ln2 us hl; rfl
 have F3:=jaN (st:=s_rounds_in) l3 c3 k3
 have b3:=F3.binds (ps:=["plan", "period", "beats", "ring"]) fun _ _ _ _ _ _ us hl=>by obtain ⟨u0,u1,u2,u3,rfl⟩:=ln4 us hl; rfl
 have F4:=jaN (st:=s_vehicles) l4 c4 k4
 have b4:=F4.binds (ps:=["plan", "period", "beats", "ring"]) fun _ _ _ _ _ _ us hl=>by obtain ⟨u0,u1,u2,u3,rfl⟩:=ln4 us hl; rfl
 have F5:=jaN (st:=s_vehicle_at) l5 c5 k5
 have b5:=F5.binds (ps:=["plan", "period", "beats", "ring", "place", "turn"]) fun _ _ _ _ _ _ us hl=>by obtain ⟨u0,u1,u2,u3,u4,u5,rfl⟩:=ln6 us hl; rfl
 have F6:=jaN (st:=s_vehicle_row) l6 c6 k6
 have b6:=F6.binds (ps:=["plan", "period", "beats", "ring", "vehicle", "many"]) fun _ _ _ _ _ _ us hl=>by obtain ⟨u0,u1,u2,u3,u4,u5,rfl⟩:=ln6 us hl; rfl
 have F7:=jaN (st:=s_law_feed) l7 c7 k7
 have b7:=F7.binds (ps:=["_law_script"]) fun _ _ _ _ _ _ us hl=>by obtain ⟨u0,rfl⟩:=ln1 us hl; rfl
 have F8:=jaN (st:=s_law_draw) l8 c8 k8
 have b8:=F8.binds (ps:=["_law_feed_here", "_law_many"]) fun _ _ _ _ _ _ us hl=>by obtain ⟨u0,u1,rfl⟩:=ln2 us hl; rfl
 have F9:=jaN (st:=s_law_names) l9 c9 k9
 have b9:=F9.binds (ps:=["_law_feed_here", "_law_many"]) fun _ _ _ _ _ _ us hl=>by obtain ⟨u0,u1,rfl⟩:=ln2 us hl; rfl
 have F10:=jaN (st:=s_law_number) l10 c10 k10
 have b10:=F10.binds (ps:=["_law_feed_here", "_law_cycle"]) fun _ _ _ _ _ _ us hl=>by obtain ⟨u0,u1,rfl⟩:=ln2 us hl; rfl
 have F11:=jaN (st:=s_law_plan) l11 c11 k11
 have b11:=F11.binds (ps:=["_law_feed_here", "_law_cycle"]) fun _ _ _ _ _ _ us hl=>by obtain ⟨u0,u1,rfl⟩:=ln2 us hl; rfl
 have F12:=jaN (st:=s_law_word) l12 c12 k12
 have b12:=F12.binds (ps:=["_law_way", "_law_plan_here", "_law_cycle", "_law_beats", "_law_ring"]) fun _ _ _ _ _ _ us hl=>by obtain ⟨u0,u1,u2,u3,u4,rfl⟩:=ln5 us hl; rfl
 have F13:=jaN (st:=s_law_rows_right) l13 c13 k13
 have b13:=F13.binds (ps:=["_law_plan_here", "_law_cycle", "_law_beats", "_law_ring", "_law_many", "_law_turns"]) fun _ _ _ _ _ _ us hl=>by obtain ⟨u0,u1,u2,u3,u4,u5,rfl⟩:=ln6 us hl; rfl
 have F14:=jaN (st:=s_law) l14 c14 k14
 have b14:=F14.binds (ps:=["_law_script"]) fun _ _ _ _ _ _ us hl=>by obtain ⟨u0,rfl⟩:=ln1 us hl; rfl
 refine ⟨YaX "law" "law" (defArgs s_law) (defBody s_law) (defScope s_law) .none kV14 dc14 pm14 an14 cd14 ct14,fun s v=>.of_eq rfl,fun base _ _=>?_⟩
 have dyn:∀ (n:Nat) (d:Fun) (st:Stmt),T.funs[n]?=some d->sts[n]?=some st->∃ (f:Addr) (fd:YbT),L2.Fun K d.name d.name st f fd/\mg d.name=some (.ref f)/\Binds K fd d.ps []:=by
  intro n d st h1 h2
  rcases n with _ | n
  ·cases h1; cases h2; exact ⟨_,_,F0,Yba X G a0,b0⟩
  rcases n with _ | n
  ·cases h1; cases h2; exact ⟨_,_,F1,Yba X G a1,b1⟩
  rcases n with _ | n
  ·cases h1; cases h2; exact ⟨_,_,F2,Yba X G a2,b2⟩
  rcases n with _ | n
  ·cases h1; cases h2; exact ⟨_,_,F3,Yba X G a3,b3⟩
  rcases n with _ | n
  ·cases h1; cases h2; exact ⟨_,_,F4,Yba X G a4,b4⟩
  rcases n with _ | n
  ·cases h1; cases h2; exact ⟨_,_,F5,Yba X G a5,b5⟩
  rcases n with _ | n
  ·cases h1; cases h2; exact ⟨_,_,F6,Yba X G a6,b6⟩
  rcases n with _ | n
  ·cases h1; cases h2; exact ⟨_,_,F7,Yba X G a7,b7⟩
  rcases n with _ | n
  ·cases h1; cases h2; exact ⟨_,_,F8,Yba X G a8,b8⟩
  rcases n with _ | n
  ·cases h1; cases h2; exact ⟨_,_,F9,Yba X G a9,b9⟩
  rcases n with _ | n
  ·cases h1; cases h2; exact ⟨_,_,F10,Yba X G a10,b10⟩
  rcases n with _ | n
  ·cases h1; cases h2; exact ⟨_,_,F11,Yba X G a11,b11⟩
  rcases n with _ | n
  ·cases h1; cases h2; exact ⟨_,_,F12,Yba X G a12,b12⟩
  rcases n with _ | n
  ·cases h1; cases h2; exact ⟨_,_,F13,Yba X G a13,b13⟩
  rcases n with _ | n
  ·cases h1; cases h2; exact ⟨_,_,F14,Yba X G a14,b14⟩
  cases h1
 have hb:∀ x∈jcR,mg x=none:=by
  intro x hx
  simp only [jcR,YbW,YbI,or_false] at hx
  rcases hx with rfl | rfl | rfl | rfl | rfl | rfl | rfl | rfl | rfl | rfl | rfl | rfl | rfl | rfl | rfl | rfl | rfl | rfl
  ·exact YaW X G z_len
  ·exact YaW X G z_repr
  ·exact YaW X G z_min
  ·exact YaW X G z_max
  ·exact YaW X G z_sum
  ·exact YaW X G z_all
  ·exact YaW X G z_any
  ·exact YaW X G z_sorted
  ·exact YaW X G z_int
  ·exact YaW X G z_str
  ·exact YaW X G z_isinstance
  ·exact YaW X G z_range
  ·exact YaW X G z_enumerate
  ·exact YaW X G z_list
  ·exact YaW X G z_tuple
  ·exact YaW X G z_bool
  ·exact YaW X G z_dict
  ·exact YaW X G z_ValueError
 have hg:∀ (n:Nat) (x:Str) (u:U),T.gn[n]?=some x->T.gs[n]?=some u->∃ v w,mg x=some w/\RelV v w/\∀ H,RU K H u v:=by
  intro n x u h1 h2
  cases h1
 obtain ⟨mD,XB⟩:=jhp vDa vDk vDl vDn (by decide +kernel) (by decide +kernel)
 have XvNoRing:=ji4 (fs:=["word"]) (st:=jdA (top 2) 0) XB vNoRinga vNoRingk vNoRingl vNoRingn (by decide +kernel) vNoRingi (jaN vNoRingf vNoRingc vNoRingkf) vNoRingf (by decide +kernel) ((jaN vNoRingf vNoRingc vNoRingkf).binds (ps:=["self", "word"]) fun _ _ _ _ _ _ us hl=>match us,hl with | [_,_],_=>rfl) (by decide +kernel) (.inl ⟨_,_,_,_,_,rfl,rfl⟩)
 have hc:∀ n∈T.cs,1<=n->∃ C,XCls K (gK K) (clsN n) (clsF n) C:=by
  intro n hn h1
  have hn':n∈[3]:=hn
  simp only [YbW,YbI,or_false] at hn'
  rcases hn' with rfl
  ·exact ⟨_,XvNoRing⟩
 have hm:=jlS X G
 obtain ⟨f,fd,F,m,_,_⟩:=jeF (P:=l.prog) (w:=w) (base:=base) jfm jgy dyn hb hg hc hm 300 jfY jic rfl
 have e2:=m.symm.trans (Yba X G a14)
 cases e2
 exact jfQ F14 jfm jgy dyn hb hg hc hm (d:=jic) (n:=jfY) rfl rfl (Yba X G a14) b14
theorem walk {l:YdB}{q:Program}{loose:List Str}{XP:(Str->Option Value)->Heap->Prop}{YP:World->Heap->Prop}{d:DefRec}{K:Params->Yac}(hn:l.most=some 63)(hdf:d.params.defaults=[])
  (hY:∀ (w:World) (h:Heap),YP w h->(K w.params).In h) (hK:∀ w:World,((K w.params).all fun p=>p.2.cls != .type "list")=true) (hsy:∀ w:World,∃ o,(K w.params).lookup Ybq=some o/\o.cls=.type "dict")
  (F:∀ (w:World) (mg:Str->Option Value) (fa:Addr) (h:Heap),(K w.params).In h->h.Ns Yax mg->mg d.name=some (.ref fa)->
   ∃ fd:YbT,(∀ (s:Shared) (u:Value),BindsTo s fd ⟨[u],[]⟩ [("_law_script",u)])/\∀ base:Heap,(K w.params).In base->base.Ns Yax mg->FnOk l.prog w (K w.params) mg base (CX1 l.prog w) 302 fa fd ["_law_script"] (lSp (K w.params) (jac T 300 jfY))) :
  Ygi q loose XP YP l.row.toRowW d [] (fun f vs=>YfX f vs):=
 L2.walk_of (n:=63) (k:=302) (x := "_law_script") (CX:=fun w=>CX1 l.prog w) (sp:=fun w=>lSp (K w.params) (jac T 300 jfY)) hn (by decide) hdf ⟨rfl,by decide,by decide,rfl⟩ hY hsy F (fun w _ a ns hl hO hS=>law_sp (hK w) hO hS (law_ir a ns hl)) fun _ _ _ _ _ ⟨_,_,_,_,_,_,_,_,_,_,z⟩=>z
end Z
def Z.bY4:List YaC:=L2.defBody (Z.top 4)
def Z.cY4:YaT:=L2.defScope (Z.top 4)
def Z.bY6:List YaC:=L2.defBody (Z.top 6)
def Z.cY6:YaT:=L2.defScope (Z.top 6)
def Z.bY8:List YaC:=L2.defBody (Z.top 8)
def Z.cY8:YaT:=L2.defScope (Z.top 8)
def Z.bY9:List YaC:=L2.defBody (Z.top 9)
def Z.cY9:YaT:=L2.defScope (Z.top 9)
def Z.bY11:List YaC:=L2.defBody (Z.top 11)
def Z.cY11:YaT:=L2.defScope (Z.top 11)
def Z.bY12:List YaC:=L2.defBody (Z.top 12)
def Z.cY12:YaT:=L2.defScope (Z.top 12)
def Z.bY13:List YaC:=L2.defBody (Z.top 13)
def Z.cY13:YaT:=L2.defScope (Z.top 13)
def Z.bY15:List YaC:=L2.defBody (Z.top 15)
def Z.cY15:YaT:=L2.defScope (Z.top 15)
def Z.bY16:List YaC:=L2.defBody (Z.top 16)
def Z.cY16:YaT:=L2.defScope (Z.top 16)
def Z.bY17:List YaC:=L2.defBody (Z.top 17)
def Z.cY17:YaT:=L2.defScope (Z.top 17)
def Z.bY18:List YaC:=L2.defBody (Z.top 18)
def Z.cY18:YaT:=L2.defScope (Z.top 18)
def Z.bY19:List YaC:=L2.defBody (Z.top 19)
def Z.cY19:YaT:=L2.defScope (Z.top 19)
def Z.bY20:List YaC:=L2.defBody (Z.top 20)
def Z.cY20:YaT:=L2.defScope (Z.top 20)
def Z.bY21:List YaC:=L2.defBody (Z.top 21)
def Z.cY21:YaT:=L2.defScope (Z.top 21)
def Z.bY22:List YaC:=L2.defBody (Z.top 22)
def Z.cY22:YaT:=L2.defScope (Z.top 22)
def Z.sY0:YaC:=(YbV (targets:=[(YbD "__name__" ⟨1,0,1,8⟩)]) (value:=(Yb4 (Ycx "beatplans.errors") 0 ⟨1,11,1,29⟩)) (pos:=⟨1,0,1,29⟩))
def Z.sY1:YaC:=(YeQ (name := "PlanError") (bases:=[(YbD "ValueError" ⟨2,16,2,26⟩)]) (keywords:=[]) (body:=[(YaC.Pass ⟨3,4,3,8⟩)]) (decorator_list:=[]) (type_params:=[]) (scope:={ kind:=PySem.ScopeKind.class,names:=[],isGenerator:=false,isCoroutine:=false,more:=[]:YaT }) (tscope:=none) (bind := "PlanError") (static_attributes:=[]) (pos:=⟨2,0,3,8⟩))
def Z.sY2:YaC:=(YeQ (name := "NoRing") (bases:=[(YbD "PlanError" ⟨4,13,4,22⟩)]) (keywords:=[]) (body:=[ (YaJ (name := "__init__") (args:={ posonlyargs:=[],args:=[ { arg := "self",annotation:=none,pos:=⟨6,17,6,21⟩:YaI },{ arg := "word",annotation:=none,pos:=⟨6,23,6,27⟩:YaI }],vararg:=none,kwonlyargs:=[],kw_defaults:=[],kwarg:=none,defaults:=[]:Yao }) (body:=[ (YbV (targets:=[(PySem.Expr.Attribute (YbD "self" ⟨7,8,7,12⟩) "word" ⟨7,8,7,17⟩)]) (value:=(YbD "word" ⟨7,20,7,24⟩)) (pos:=⟨7,8,7,24⟩))]) (decorator_list:=[]) (returns:=none) (type_params:=[]) (scope:={ kind:=PySem.ScopeKind.function,names:=[(YaB "self",PySem.NameKind.local),(YaB "word",PySem.NameKind.local)],isGenerator:=false,isCoroutine:=false,more:=[]:YaT }) (tscope:=none) (bind := "__init__") (pos:=⟨6,4,7,24⟩))]) (decorator_list:=[]) (type_params:=[]) (scope:={ kind:=PySem.ScopeKind.class,names:=[(YaB "__init__",PySem.NameKind.local)],isGenerator:=false,isCoroutine:=false,more:=[]:YaT }) (tscope:=none) (bind := "NoRing") (static_attributes:=[YaB "word"]) (pos:=⟨4,0,7,24⟩))
def Z.sY3:YaC:=(YbV (targets:=[(YbD "__name__" ⟨8,0,8,8⟩)]) (value:=(Yb4 (Ycx "beatplans.plans") 0 ⟨8,11,8,28⟩)) (pos:=⟨8,0,8,28⟩))
def Z.sY4:YaC:=(YaJ (name := "length_of") (args:={ posonlyargs:=[],args:=[ { arg := "plan",annotation:=none,pos:=⟨9,14,9,18⟩:YaI },{ arg := "period",annotation:=none,pos:=⟨9,20,9,26⟩:YaI },{ arg := "beats",annotation:=none,pos:=⟨9,28,9,33⟩:YaI },{ arg := "s",annotation:=none,pos:=⟨9,35,9,36⟩:YaI }],vararg:=none,kwonlyargs:=[],kw_defaults:=[],kwarg:=none,defaults:=[]:Yao }) (body:=Z.bY4) (decorator_list:=[]) (returns:=none) (type_params:=[]) (scope:=Z.cY4) (tscope:=none) (bind := "length_of") (pos:=⟨9,0,11,59⟩))
def Z.sY5:YaC:=(YbV (targets:=[(YbD "__name__" ⟨12,0,12,8⟩)]) (value:=(Yb4 (Ycx "beatplans.late") 0 ⟨12,11,12,27⟩)) (pos:=⟨12,0,12,27⟩))
def Z.sY6:YaC:=(YaJ (name := "step_of") (args:={ posonlyargs:=[],args:=[ { arg := "plan",annotation:=none,pos:=⟨13,12,13,16⟩:YaI },{ arg := "period",annotation:=none,pos:=⟨13,18,13,24⟩:YaI },{ arg := "beats",annotation:=none,pos:=⟨13,26,13,31⟩:YaI },{ arg := "s",annotation:=none,pos:=⟨13,33,13,34⟩:YaI }],vararg:=none,kwonlyargs:=[],kw_defaults:=[],kwarg:=none,defaults:=[]:Yao }) (body:=Z.bY6) (decorator_list:=[]) (returns:=none) (type_params:=[]) (scope:=Z.cY6) (tscope:=none) (bind := "step_of") (pos:=⟨13,0,15,84⟩))
def Z.sY7:YaC:=(YbV (targets:=[(YbD "__name__" ⟨16,0,16,8⟩)]) (value:=(Yb4 (Ycx "beatplans.rings") 0 ⟨16,11,16,28⟩)) (pos:=⟨16,0,16,28⟩))
def Z.sY8:YaC:=(YaJ (name := "ends_of") (args:={ posonlyargs:=[],args:=[ { arg := "plan",annotation:=none,pos:=⟨17,12,17,16⟩:YaI },{ arg := "entry",annotation:=none,pos:=⟨17,18,17,23⟩:YaI }],vararg:=none,kwonlyargs:=[],kw_defaults:=[],kwarg:=none,defaults:=[]:Yao }) (body:=Z.bY8) (decorator_list:=[]) (returns:=none) (type_params:=[]) (scope:=Z.cY8) (tscope:=none) (bind := "ends_of") (pos:=⟨17,0,22,53⟩))
def Z.sY9:YaC:=(YaJ (name := "rounds_in") (args:={ posonlyargs:=[],args:=[ { arg := "plan",annotation:=none,pos:=⟨23,14,23,18⟩:YaI },{ arg := "period",annotation:=none,pos:=⟨23,20,23,26⟩:YaI },{ arg := "beats",annotation:=none,pos:=⟨23,28,23,33⟩:YaI },{ arg := "ring",annotation:=none,pos:=⟨23,35,23,39⟩:YaI }],vararg:=none,kwonlyargs:=[],kw_defaults:=[],kwarg:=none,defaults:=[]:Yao }) (body:=Z.bY9) (decorator_list:=[]) (returns:=none) (type_params:=[]) (scope:=Z.cY9) (tscope:=none) (bind := "rounds_in") (pos:=⟨23,0,24,86⟩))
def Z.sY10:YaC:=(YbV (targets:=[(YbD "__name__" ⟨25,0,25,8⟩)]) (value:=(Yb4 (Ycx "beatplans.turns") 0 ⟨25,11,25,28⟩)) (pos:=⟨25,0,25,28⟩))
def Z.sY11:YaC:=(YaJ (name := "vehicles") (args:={ posonlyargs:=[],args:=[ { arg := "plan",annotation:=none,pos:=⟨26,13,26,17⟩:YaI },{ arg := "period",annotation:=none,pos:=⟨26,19,26,25⟩:YaI },{ arg := "beats",annotation:=none,pos:=⟨26,27,26,32⟩:YaI },{ arg := "ring",annotation:=none,pos:=⟨26,34,26,38⟩:YaI }],vararg:=none,kwonlyargs:=[],kw_defaults:=[],kwarg:=none,defaults:=[]:Yao }) (body:=Z.bY11) (decorator_list:=[]) (returns:=none) (type_params:=[]) (scope:=Z.cY11) (tscope:=none) (bind := "vehicles") (pos:=⟨26,0,32,15⟩))
def Z.sY12:YaC:=(YaJ (name := "vehicle_at") (args:={ posonlyargs:=[],args:=[ { arg := "plan",annotation:=none,pos:=⟨33,15,33,19⟩:YaI },{ arg := "period",annotation:=none,pos:=⟨33,21,33,27⟩:YaI },{ arg := "beats",annotation:=none,pos:=⟨33,29,33,34⟩:YaI },{ arg := "ring",annotation:=none,pos:=⟨33,36,33,40⟩:YaI },{ arg := "place",annotation:=none,pos:=⟨33,42,33,47⟩:YaI },{ arg := "turn",annotation:=none,pos:=⟨33,49,33,53⟩:YaI }],vararg:=none,kwonlyargs:=[],kw_defaults:=[],kwarg:=none,defaults:=[]:Yao }) (body:=Z.bY12) (decorator_list:=[]) (returns:=none) (type_params:=[]) (scope:=Z.cY12) (tscope:=none) (bind := "vehicle_at") (pos:=⟨33,0,36,32⟩))
def Z.sY13:YaC:=(YaJ (name := "vehicle_row") (args:={ posonlyargs:=[],args:=[ { arg := "plan",annotation:=none,pos:=⟨37,16,37,20⟩:YaI },{ arg := "period",annotation:=none,pos:=⟨37,22,37,28⟩:YaI },{ arg := "beats",annotation:=none,pos:=⟨37,30,37,35⟩:YaI },{ arg := "ring",annotation:=none,pos:=⟨37,37,37,41⟩:YaI },{ arg := "vehicle",annotation:=none,pos:=⟨37,43,37,50⟩:YaI },{ arg := "many",annotation:=none,pos:=⟨37,52,37,56⟩:YaI }],vararg:=none,kwonlyargs:=[],kw_defaults:=[],kwarg:=none,defaults:=[]:Yao }) (body:=Z.bY13) (decorator_list:=[]) (returns:=none) (type_params:=[]) (scope:=Z.cY13) (tscope:=none) (bind := "vehicle_row") (pos:=⟨37,0,46,14⟩))
def Z.sY14:YaC:=(YbV (targets:=[(YbD "__name__" ⟨47,0,47,8⟩)]) (value:=(Yb4 (Ycx "law_beatplans_k98_whole_vehicles_go_around") 0 ⟨47,11,47,55⟩)) (pos:=⟨47,0,47,55⟩))
def Z.sY15:YaC:=(YaJ (name := "_law_feed") (args:={ posonlyargs:=[],args:=[{ arg := "_law_script",annotation:=none,pos:=⟨48,14,48,25⟩:YaI }],vararg:=none,kwonlyargs:=[],kw_defaults:=[],kwarg:=none,defaults:=[]:Yao }) (body:=Z.bY15) (decorator_list:=[]) (returns:=none) (type_params:=[]) (scope:=Z.cY15) (tscope:=none) (bind := "_law_feed") (pos:=⟨48,0,49,110⟩))
def Z.sY16:YaC:=(YaJ (name := "_law_draw") (args:={ posonlyargs:=[],args:=[ { arg := "_law_feed_here",annotation:=none,pos:=⟨50,14,50,28⟩:YaI },{ arg := "_law_many",annotation:=none,pos:=⟨50,30,50,39⟩:YaI }],vararg:=none,kwonlyargs:=[],kw_defaults:=[],kwarg:=none,defaults:=[]:Yao }) (body:=Z.bY16) (decorator_list:=[]) (returns:=none) (type_params:=[]) (scope:=Z.cY16) (tscope:=none) (bind := "_law_draw") (pos:=⟨50,0,62,21⟩))
def Z.sY17:YaC:=(YaJ (name := "_law_names") (args:={ posonlyargs:=[],args:=[ { arg := "_law_feed_here",annotation:=none,pos:=⟨63,15,63,29⟩:YaI },{ arg := "_law_many",annotation:=none,pos:=⟨63,31,63,40⟩:YaI }],vararg:=none,kwonlyargs:=[],kw_defaults:=[],kwarg:=none,defaults:=[]:Yao }) (body:=Z.bY17) (decorator_list:=[]) (returns:=none) (type_params:=[]) (scope:=Z.cY17) (tscope:=none) (bind := "_law_names") (pos:=⟨63,0,68,100⟩))
def Z.sY18:YaC:=(YaJ (name := "_law_number") (args:={ posonlyargs:=[],args:=[ { arg := "_law_feed_here",annotation:=none,pos:=⟨69,16,69,30⟩:YaI },{ arg := "_law_cycle",annotation:=none,pos:=⟨69,32,69,42⟩:YaI }],vararg:=none,kwonlyargs:=[],kw_defaults:=[],kwarg:=none,defaults:=[]:Yao }) (body:=Z.bY18) (decorator_list:=[]) (returns:=none) (type_params:=[]) (scope:=Z.cY18) (tscope:=none) (bind := "_law_number") (pos:=⟨69,0,70,169⟩))
def Z.sY19:YaC:=(YaJ (name := "_law_plan") (args:={ posonlyargs:=[],args:=[ { arg := "_law_feed_here",annotation:=none,pos:=⟨71,14,71,28⟩:YaI },{ arg := "_law_cycle",annotation:=none,pos:=⟨71,30,71,40⟩:YaI }],vararg:=none,kwonlyargs:=[],kw_defaults:=[],kwarg:=none,defaults:=[]:Yao }) (body:=Z.bY19) (decorator_list:=[]) (returns:=none) (type_params:=[]) (scope:=Z.cY19) (tscope:=none) (bind := "_law_plan") (pos:=⟨71,0,78,131⟩))
def Z.sY20:YaC:=(YaJ (name := "_law_word") (args:={ posonlyargs:=[],args:=[ { arg := "_law_way",annotation:=none,pos:=⟨79,14,79,22⟩:YaI },{ arg := "_law_plan_here",annotation:=none,pos:=⟨79,24,79,38⟩:YaI },{ arg := "_law_cycle",annotation:=none,pos:=⟨79,40,79,50⟩:YaI },{ arg := "_law_beats",annotation:=none,pos:=⟨79,52,79,62⟩:YaI },{ arg := "_law_ring",annotation:=none,pos:=⟨79,64,79,73⟩:YaI }],vararg:=none,kwonlyargs:=[],kw_defaults:=[],kwarg:=none,defaults:=[]:Yao }) (body:=Z.bY20) (decorator_list:=[]) (returns:=none) (type_params:=[]) (scope:=Z.cY20) (tscope:=none) (bind := "_law_word") (pos:=⟨79,0,90,21⟩))
def Z.sY21:YaC:=(YaJ (name := "_law_rows_right") (args:={ posonlyargs:=[],args:=[ { arg := "_law_plan_here",annotation:=none,pos:=⟨91,20,91,34⟩:YaI },{ arg := "_law_cycle",annotation:=none,pos:=⟨91,36,91,46⟩:YaI },{ arg := "_law_beats",annotation:=none,pos:=⟨91,48,91,58⟩:YaI },{ arg := "_law_ring",annotation:=none,pos:=⟨91,60,91,69⟩:YaI },{ arg := "_law_many",annotation:=none,pos:=⟨91,71,91,80⟩:YaI },{ arg := "_law_turns",annotation:=none,pos:=⟨91,82,91,92⟩:YaI }],vararg:=none,kwonlyargs:=[],kw_defaults:=[],kwarg:=none,defaults:=[]:Yao }) (body:=Z.bY21) (decorator_list:=[]) (returns:=none) (type_params:=[]) (scope:=Z.cY21) (tscope:=none) (bind := "_law_rows_right") (pos:=⟨91,0,111,69⟩))
def Z.sY22:YaC:=(YaJ (name := "law") (args:={ posonlyargs:=[],args:=[{ arg := "_law_script",annotation:=none,pos:=⟨112,8,112,19⟩:YaI }],vararg:=none,kwonlyargs:=[],kw_defaults:=[],kwarg:=none,defaults:=[]:Yao }) (body:=Z.bY22) (decorator_list:=[]) (returns:=none) (type_params:=[]) (scope:=Z.cY22) (tscope:=none) (bind := "law") (pos:=⟨112,0,141,15⟩))
set_option maxRecDepth 100000 in
def Z.pwS:PySem.Program:={ main:={ body:=[Z.sY0,Z.sY1,Z.sY2,Z.sY3,Z.sY4,Z.sY5,Z.sY6,Z.sY7,Z.sY8,Z.sY9,Z.sY10,Z.sY11,Z.sY12,Z.sY13,Z.sY14,Z.sY15,Z.sY16,Z.sY17,Z.sY18,Z.sY19,Z.sY20,Z.sY21,Z.sY22],scope:={ kind:=PySem.ScopeKind.module,names:=[ (YaB "__name__",PySem.NameKind.local),(YaB "PlanError",PySem.NameKind.local),(YaB "ValueError",PySem.NameKind.globalImplicit),(YaB "NoRing",PySem.NameKind.local),(YaB "length_of",PySem.NameKind.local),(YaB "step_of",PySem.NameKind.local),(YaB "ends_of",PySem.NameKind.local),(YaB "rounds_in",PySem.NameKind.local),(YaB "vehicles",PySem.NameKind.local),(YaB "vehicle_at",PySem.NameKind.local),(YaB "vehicle_row",PySem.NameKind.local),(YaB "_law_feed",PySem.NameKind.local),(YaB "_law_draw",PySem.NameKind.local),(YaB "_law_names",PySem.NameKind.local),(YaB "_law_number",PySem.NameKind.local),(YaB "_law_plan",PySem.NameKind.local),(YaB "_law_word",PySem.NameKind.local),(YaB "_law_rows_right",PySem.NameKind.local),(YaB "law",PySem.NameKind.local)],isGenerator:=false,isCoroutine:=false,more:=[]:YaT },futureAnnotations:=false,file := "/claim/cut.py",more:=[]:PySem.Module },modules:=[],parses:=[],absent:=[],harvested:=[],given:={ argv:=[],stdin:=[],environ:=(some [([76,67,95,65,76,76],[67,46,85,84,70,45,56])]):PySem.Given }:PySem.Program } 
def Z.rwS:YdB :={ prog:=Z.pwS,name:=(YaB "law"),about:=[(YaB "vehicle_row")],foot:=8,most:=some 63,bound:=none,writes:=false }
theorem Z.rw_eq:PySem.Challenge.rw_beatplans_k98_whole_vehicles_go_around=Z.rwS:=rfl
noncomputable def Z.aY4:Yao:=L2.defArgs (Z.top 4)
noncomputable def Z.aY6:Yao:=L2.defArgs (Z.top 6)
noncomputable def Z.aY8:Yao:=L2.defArgs (Z.top 8)
noncomputable def Z.aY9:Yao:=L2.defArgs (Z.top 9)
noncomputable def Z.aY11:Yao:=L2.defArgs (Z.top 11)
noncomputable def Z.aY12:Yao:=L2.defArgs (Z.top 12)
noncomputable def Z.aY13:Yao:=L2.defArgs (Z.top 13)
noncomputable def Z.aY15:Yao:=L2.defArgs (Z.top 15)
noncomputable def Z.aY16:Yao:=L2.defArgs (Z.top 16)
noncomputable def Z.aY17:Yao:=L2.defArgs (Z.top 17)
noncomputable def Z.aY18:Yao:=L2.defArgs (Z.top 18)
noncomputable def Z.aY19:Yao:=L2.defArgs (Z.top 19)
noncomputable def Z.aY20:Yao:=L2.defArgs (Z.top 20)
noncomputable def Z.aY21:Yao:=L2.defArgs (Z.top 21)
noncomputable def Z.aY22:Yao:=L2.defArgs (Z.top 22)
open PySem in
noncomputable def Z.KK:Params->W.Frag:=fun P=>
 ((nat_lit 1:Addr),(W.boot_o_1 P:Obj))::
  ((nat_lit 3:Addr),({ cls:=YaG "dict",data:=Yfq (Yeg (({ hash:=Yaz P (Yaa "__name__"),key:=Yag (Yaa "__name__") 165,val:=Yag (Yaa "law_beatplans_k98_whole_vehicles_go_around") 321 }:Ya6)::({ hash:=Yaz P (Yaa "__doc__"),key:=Yag (Yaa "__doc__") 166,val:=Yaj }:Ya6)::({ hash:=Yaz P (Yaa "__package__"),key:=Yag (Yaa "__package__") 167,val:=Yaj }:Ya6)::({ hash:=Yaz P (Yaa "__loader__"),key:=Yag (Yaa "__loader__") 168,val:=Yco "__main__.__loader__#opaque" }:Ya6)::({ hash:=Yaz P (Yaa "__spec__"),key:=Yag (Yaa "__spec__") 169,val:=Yaj }:Ya6)::({ hash:=Yaz P (Yaa "__annotations__"),key:=Yag (Yaa "__annotations__") 170,val:=Yae 6 }:Ya6)::({ hash:=Yaz P (Yaa "__builtins__"),key:=Yag (Yaa "__builtins__") 171,val:=Yae 4 }:Ya6)::({ hash:=Yaz P (Yaa "__file__"),key:=Yag (Yaa "__file__") 173,val:=Yag (Yaa "/claim/cut.py") 172 }:Ya6)::({ hash:=Yaz P (Yaa "__cached__"),key:=Yag (Yaa "__cached__") 174,val:=Yaj }:Ya6)::({ hash:=Yaz P (Yaa "PlanError"),key:=Yag (Yaa "PlanError") 206,val:=Yae 24 }:Ya6)::({ hash:=Yaz P (Yaa "NoRing"),key:=Yag (Yaa "NoRing") 231,val:=Yae 44 }:Ya6)::({ hash:=Yaz P (Yaa "length_of"),key:=Yag (Yaa "length_of") 248,val:=Yae 53 }:Ya6)::({ hash:=Yaz P (Yaa "step_of"),key:=Yag (Yaa "step_of") 265,val:=Yae 60 }:Ya6)::({ hash:=Yaz P (Yaa "ends_of"),key:=Yag (Yaa "ends_of") 282,val:=Yae 67 }:Ya6)::({ hash:=Yaz P (Yaa "rounds_in"),key:=Yag (Yaa "rounds_in") 288,val:=Yae 72 }:Ya6)::({ hash:=Yaz P (Yaa "vehicles"),key:=Yag (Yaa "vehicles") 296,val:=Yae 77 }:Ya6)::({ hash:=Yaz P (Yaa "vehicle_at"),key:=Yag (Yaa "vehicle_at") 302,val:=Yae 82 }:Ya6)::({ hash:=Yaz P (Yaa "vehicle_row"),key:=Yag (Yaa "vehicle_row") 320,val:=Yae 89 }:Ya6)::({ hash:=Yaz P (Yaa "_law_feed"),key:=Yag (Yaa "_law_feed") 329,val:=Yae 96 }:Ya6)::({ hash:=Yaz P (Yaa "_law_draw"),key:=Yag (Yaa "_law_draw") 340,val:=Yae 103 }:Ya6)::({ hash:=Yaz P (Yaa "_law_names"),key:=Yag (Yaa "_law_names") 346,val:=Yae 108 }:Ya6)::({ hash:=Yaz P (Yaa "_law_number"),key:=Yag (Yaa "_law_number") 354,val:=Yae 115 }:Ya6)::({ hash:=Yaz P (Yaa "_law_plan"),key:=Yag (Yaa "_law_plan") 360,val:=Yae 120 }:Ya6)::({ hash:=Yaz P (Yaa "_law_word"),key:=Yag (Yaa "_law_word") 373,val:=Yae 127 }:Ya6)::({ hash:=Yaz P (Yaa "_law_rows_right"),key:=Yag (Yaa "_law_rows_right") 379,val:=Yae 132 }:Ya6)::({ hash:=Yaz P (Yaa "law"),key:=Yag (Yaa "law") 385,val:=Yae 137 }:Ya6)::[])) 26 }:Obj))::
  ((nat_lit 23:Addr),({ cls:=YaG "dict",data:=Yfq #[{ hash:=Yaz P (Yaa "__module__"),key:=Yag (Yaa "__module__") 196,val:=Yag (Yaa "beatplans.errors") 187 },{ hash:=Yaz P (Yaa "__firstlineno__"),key:=Yag (Yaa "__firstlineno__") 200,val:=Yad 2 199 },{ hash:=Yaz P (Yaa "__static_attributes__"),key:=Yag (Yaa "__static_attributes__") 201,val:=Yae 22 },{ hash:=Yaz P (Yaa "__weakref__"),key:=Yag (Yaa "__weakref__") 203,val:=Yae 25 },{ hash:=Yaz P (Yaa "__doc__"),key:=Yag (Yaa "__doc__") 204,val:=Yaj }] 3 }:Obj))::
  ((nat_lit 24:Addr),({ cls:=YaG "type",data:=Data.cls { name:=Yaa "PlanError",bases:=[YaG "ValueError"],mro:=[Yae 24,YaG "ValueError",YaG "Exception",YaG "BaseException",YaG "object"],ns:=23,qualname:=Yaa "PlanError",subclasses:=[Yae 44] },slots:=#[Ycl (Yae 15),Ydw,Ycl (Yag (Yaa "PlanError") 189),Ycl (Yag (Yaa "PlanError") 197),Ycl (Yco "ValueError.__new__"),Ycl (Ybr Bool.true)] }:Obj))::
  ((nat_lit 40:Addr),({ cls:=YaG "code",data:=Yby #[Yag (Yaa "__init__") 219,Yag (Yaa "NoRing.__init__") 220,Yag (Yaa "/claim/cut.py") 221,Yad 6 0,Yad 2 0,Yad 0 0,Yad 0 0,Yad 3 0,Yae 35,Ybr Bool.true,Yad 181 0,Yae 36,Yaj,Yae 37,Yae 38,Yae 39,Yad 224 0,Yad 6 0,Yag (Yaa "/claim/cut.py") 225] }:Obj))::
  ((nat_lit 41:Addr),({ cls:=YaG "function",data:=Yb1 { name:=Yaa "__init__",qualname:=Yaa "NoRing.__init__",params:={ posonlyargs:=[],args:=[{ arg:=Yaa "self",annotation:=Ydw,pos:={ line:=6,col:=17,endLine:=6,endCol:=21 } },{ arg:=Yaa "word",annotation:=Ydw,pos:={ line:=6,col:=23,endLine:=6,endCol:=27 } }],vararg:=Ydw,kwonlyargs:=[],kw_defaults:=[],kwarg:=Ydw,defaults:=[] },body:=Ybf [Stmt.Assign [(Expr.Name (Yaa "self") { line:=7,col:=8,endLine:=7,endCol:=12 }).Attribute (Yaa "word") { line:=7,col:=8,endLine:=7,endCol:=17 }] (Expr.Name (Yaa "word") { line:=7,col:=20,endLine:=7,endCol:=24 }) { line:=7,col:=8,endLine:=7,endCol:=24 }],scope:={ kind:=ScopeKind.function,names:=[(Yaa "self",YbR.local),(Yaa "word",YbR.local)],isGenerator:=Bool.false,isCoroutine:=Bool.false },globals:=3,closure:=[],defaults:=Yaj,kwdefaults:=Yaj,pyModule:=Yag (Yaa "beatplans.errors") 187,code:=Yae 40 } }:Obj))::
  ((nat_lit 43:Addr),({ cls:=YaG "dict",data:=Yfq #[{ hash:=Yaz P (Yaa "__module__"),key:=Yag (Yaa "__module__") 214,val:=Yag (Yaa "beatplans.errors") 187 },{ hash:=Yaz P (Yaa "__firstlineno__"),key:=Yag (Yaa "__firstlineno__") 218,val:=Yad 4 217 },{ hash:=Yaz P (Yaa "__init__"),key:=Yag (Yaa "__init__") 226,val:=Yae 41 },{ hash:=Yaz P (Yaa "__static_attributes__"),key:=Yag (Yaa "__static_attributes__") 228,val:=Yae 42 },{ hash:=Yaz P (Yaa "__doc__"),key:=Yag (Yaa "__doc__") 229,val:=Yaj }] 2 }:Obj))::
  ((nat_lit 44:Addr),({ cls:=YaG "type",data:=Data.cls { name:=Yaa "NoRing",bases:=[Yae 24],mro:=[Yae 44,Yae 24,YaG "ValueError",YaG "Exception",YaG "BaseException",YaG "object"],ns:=43,qualname:=Yaa "NoRing" },slots:=#[Ycl (Yae 28),Ydw,Ycl (Yag (Yaa "NoRing") 207),Ycl (Yag (Yaa "NoRing") 215),Ycl (Yco "ValueError.__new__"),Ycl (Ybr Bool.true)] }:Obj))::
  ((nat_lit 52:Addr),({ cls:=YaG "code",data:=Yby #[Yag (Yaa "length_of") 234,Yag (Yaa "length_of") 235,Yag (Yaa "/claim/cut.py") 236,Yad 9 0,Yad 4 0,Yad 0 0,Yad 0 0,Yad 3 0,Yae 47,Ybr Bool.true,Yad 181 0,Yae 48,Yaj,Yae 49,Yae 50,Yae 51,Yad 246 0,Yad 9 0,Yag (Yaa "/claim/cut.py") 247] }:Obj))::
  ((nat_lit 53:Addr),({ cls:=YaG "function",data:=Yb1 { name:=Yaa "length_of",qualname:=Yaa "length_of",params:=Z.aY4,body:=Ybf Z.bY4,scope:=Z.cY4,globals:=3,closure:=[],defaults:=Yaj,kwdefaults:=Yaj,pyModule:=Yag (Yaa "beatplans.plans") 232,code:=Yae 52 } }:Obj))::
  ((nat_lit 59:Addr),({ cls:=YaG "code",data:=Yby #[Yag (Yaa "step_of") 251,Yag (Yaa "step_of") 252,Yag (Yaa "/claim/cut.py") 253,Yad 13 0,Yad 4 0,Yad 0 0,Yad 0 0,Yad 3 0,Yae 54,Ybr Bool.true,Yad 181 0,Yae 55,Yaj,Yae 56,Yae 57,Yae 58,Yad 263 0,Yad 13 0,Yag (Yaa "/claim/cut.py") 264] }:Obj))::
  ((nat_lit 60:Addr),({ cls:=YaG "function",data:=Yb1 { name:=Yaa "step_of",qualname:=Yaa "step_of",params:=Z.aY6,body:=Ybf Z.bY6,scope:=Z.cY6,globals:=3,closure:=[],defaults:=Yaj,kwdefaults:=Yaj,pyModule:=Yag (Yaa "beatplans.late") 249,code:=Yae 59 } }:Obj))::
  ((nat_lit 66:Addr),({ cls:=YaG "code",data:=Yby #[Yag (Yaa "ends_of") 268,Yag (Yaa "ends_of") 269,Yag (Yaa "/claim/cut.py") 270,Yad 17 0,Yad 2 0,Yad 0 0,Yad 0 0,Yad 3 0,Yae 61,Ybr Bool.true,Yad 181 0,Yae 62,Yaj,Yae 63,Yae 64,Yae 65,Yad 280 0,Yad 17 0,Yag (Yaa "/claim/cut.py") 281] }:Obj))::
  ((nat_lit 67:Addr),({ cls:=YaG "function",data:=Yb1 { name:=Yaa "ends_of",qualname:=Yaa "ends_of",params:=Z.aY8,body:=Ybf Z.bY8,scope:=Z.cY8,globals:=3,closure:=[],defaults:=Yaj,kwdefaults:=Yaj,pyModule:=Yag (Yaa "beatplans.rings") 266,code:=Yae 66 } }:Obj))::
  ((nat_lit 71:Addr),({ cls:=YaG "code",data:=Yby #[Yag (Yaa "rounds_in") 283,Yag (Yaa "rounds_in") 284,Yag (Yaa "/claim/cut.py") 285,Yad 23 0,Yad 4 0,Yad 0 0,Yad 0 0,Yad 3 0,Yae 68,Ybr Bool.true,Yad 181 0,Yae 69,Yaj,Yaj,Yaj,Yae 70,Yad 286 0,Yad 23 0,Yag (Yaa "/claim/cut.py") 287] }:Obj))::
  ((nat_lit 72:Addr),({ cls:=YaG "function",data:=Yb1 { name:=Yaa "rounds_in",qualname:=Yaa "rounds_in",params:=Z.aY9,body:=Ybf Z.bY9,scope:=Z.cY9,globals:=3,closure:=[],defaults:=Yaj,kwdefaults:=Yaj,pyModule:=Yag (Yaa "beatplans.rings") 266,code:=Yae 71 } }:Obj))::
  ((nat_lit 76:Addr),({ cls:=YaG "code",data:=Yby #[Yag (Yaa "vehicles") 291,Yag (Yaa "vehicles") 292,Yag (Yaa "/claim/cut.py") 293,Yad 26 0,Yad 4 0,Yad 0 0,Yad 0 0,Yad 3 0,Yae 73,Ybr Bool.true,Yad 181 0,Yae 74,Yaj,Yaj,Yaj,Yae 75,Yad 294 0,Yad 26 0,Yag (Yaa "/claim/cut.py") 295] }:Obj))::
  ((nat_lit 77:Addr),({ cls:=YaG "function",data:=Yb1 { name:=Yaa "vehicles",qualname:=Yaa "vehicles",params:=Z.aY11,body:=Ybf Z.bY11,scope:=Z.cY11,globals:=3,closure:=[],defaults:=Yaj,kwdefaults:=Yaj,pyModule:=Yag (Yaa "beatplans.turns") 289,code:=Yae 76 } }:Obj))::
  ((nat_lit 81:Addr),({ cls:=YaG "code",data:=Yby #[Yag (Yaa "vehicle_at") 297,Yag (Yaa "vehicle_at") 298,Yag (Yaa "/claim/cut.py") 299,Yad 33 0,Yad 6 0,Yad 0 0,Yad 0 0,Yad 3 0,Yae 78,Ybr Bool.true,Yad 181 0,Yae 79,Yaj,Yaj,Yaj,Yae 80,Yad 300 0,Yad 33 0,Yag (Yaa "/claim/cut.py") 301] }:Obj))::
  ((nat_lit 82:Addr),({ cls:=YaG "function",data:=Yb1 { name:=Yaa "vehicle_at",qualname:=Yaa "vehicle_at",params:=Z.aY12,body:=Ybf Z.bY12,scope:=Z.cY12,globals:=3,closure:=[],defaults:=Yaj,kwdefaults:=Yaj,pyModule:=Yag (Yaa "beatplans.turns") 289,code:=Yae 81 } }:Obj))::
  ((nat_lit 88:Addr),({ cls:=YaG "code",data:=Yby #[Yag (Yaa "vehicle_row") 303,Yag (Yaa "vehicle_row") 304,Yag (Yaa "/claim/cut.py") 305,Yad 37 0,Yad 6 0,Yad 0 0,Yad 0 0,Yad 3 0,Yae 83,Ybr Bool.true,Yad 181 0,Yae 84,Yaj,Yae 85,Yae 86,Yae 87,Yad 318 0,Yad 37 0,Yag (Yaa "/claim/cut.py") 319] }:Obj))::
  ((nat_lit 89:Addr),({ cls:=YaG "function",data:=Yb1 { name:=Yaa "vehicle_row",qualname:=Yaa "vehicle_row",params:=Z.aY13,body:=Ybf Z.bY13,scope:=Z.cY13,globals:=3,closure:=[],defaults:=Yaj,kwdefaults:=Yaj,pyModule:=Yag (Yaa "beatplans.turns") 289,code:=Yae 88 } }:Obj))::
  ((nat_lit 95:Addr),({ cls:=YaG "code",data:=Yby #[Yag (Yaa "_law_feed") 323,Yag (Yaa "_law_feed") 324,Yag (Yaa "/claim/cut.py") 325,Yad 48 0,Yad 1 0,Yad 0 0,Yad 0 0,Yad 3 0,Yae 90,Ybr Bool.true,Yad 181 0,Yae 91,Yaj,Yae 92,Yae 93,Yae 94,Yad 327 0,Yad 48 0,Yag (Yaa "/claim/cut.py") 328] }:Obj))::
  ((nat_lit 96:Addr),({ cls:=YaG "function",data:=Yb1 { name:=Yaa "_law_feed",qualname:=Yaa "_law_feed",params:=Z.aY15,body:=Ybf Z.bY15,scope:=Z.cY15,globals:=3,closure:=[],defaults:=Yaj,kwdefaults:=Yaj,pyModule:=Yag (Yaa "law_beatplans_k98_whole_vehicles_go_around") 321,code:=Yae 95 } }:Obj))::
  ((nat_lit 102:Addr),({ cls:=YaG "code",data:=Yby #[Yag (Yaa "_law_draw") 330,Yag (Yaa "_law_draw") 331,Yag (Yaa "/claim/cut.py") 332,Yad 50 0,Yad 2 0,Yad 0 0,Yad 0 0,Yad 3 0,Yae 97,Ybr Bool.true,Yad 181 0,Yae 98,Yaj,Yae 99,Yae 100,Yae 101,Yad 338 0,Yad 50 0,Yag (Yaa "/claim/cut.py") 339] }:Obj))::
  ((nat_lit 103:Addr),({ cls:=YaG "function",data:=Yb1 { name:=Yaa "_law_draw",qualname:=Yaa "_law_draw",params:=Z.aY16,body:=Ybf Z.bY16,scope:=Z.cY16,globals:=3,closure:=[],defaults:=Yaj,kwdefaults:=Yaj,pyModule:=Yag (Yaa "law_beatplans_k98_whole_vehicles_go_around") 321,code:=Yae 102 } }:Obj))::
  ((nat_lit 107:Addr),({ cls:=YaG "code",data:=Yby #[Yag (Yaa "_law_names") 341,Yag (Yaa "_law_names") 342,Yag (Yaa "/claim/cut.py") 343,Yad 63 0,Yad 2 0,Yad 0 0,Yad 0 0,Yad 3 0,Yae 104,Ybr Bool.true,Yad 181 0,Yae 105,Yaj,Yaj,Yaj,Yae 106,Yad 344 0,Yad 63 0,Yag (Yaa "/claim/cut.py") 345] }:Obj))::
  ((nat_lit 108:Addr),({ cls:=YaG "function",data:=Yb1 { name:=Yaa "_law_names",qualname:=Yaa "_law_names",params:=Z.aY17,body:=Ybf Z.bY17,scope:=Z.cY17,globals:=3,closure:=[],defaults:=Yaj,kwdefaults:=Yaj,pyModule:=Yag (Yaa "law_beatplans_k98_whole_vehicles_go_around") 321,code:=Yae 107 } }:Obj))::
  ((nat_lit 114:Addr),({ cls:=YaG "code",data:=Yby #[Yag (Yaa "_law_number") 347,Yag (Yaa "_law_number") 348,Yag (Yaa "/claim/cut.py") 349,Yad 69 0,Yad 2 0,Yad 0 0,Yad 0 0,Yad 3 0,Yae 109,Ybr Bool.true,Yad 181 0,Yae 110,Yaj,Yae 111,Yae 112,Yae 113,Yad 352 0,Yad 69 0,Yag (Yaa "/claim/cut.py") 353] }:Obj))::
  ((nat_lit 115:Addr),({ cls:=YaG "function",data:=Yb1 { name:=Yaa "_law_number",qualname:=Yaa "_law_number",params:=Z.aY18,body:=Ybf Z.bY18,scope:=Z.cY18,globals:=3,closure:=[],defaults:=Yaj,kwdefaults:=Yaj,pyModule:=Yag (Yaa "law_beatplans_k98_whole_vehicles_go_around") 321,code:=Yae 114 } }:Obj))::
  ((nat_lit 119:Addr),({ cls:=YaG "code",data:=Yby #[Yag (Yaa "_law_plan") 355,Yag (Yaa "_law_plan") 356,Yag (Yaa "/claim/cut.py") 357,Yad 71 0,Yad 2 0,Yad 0 0,Yad 0 0,Yad 3 0,Yae 116,Ybr Bool.true,Yad 181 0,Yae 117,Yaj,Yaj,Yaj,Yae 118,Yad 358 0,Yad 71 0,Yag (Yaa "/claim/cut.py") 359] }:Obj))::
  ((nat_lit 120:Addr),({ cls:=YaG "function",data:=Yb1 { name:=Yaa "_law_plan",qualname:=Yaa "_law_plan",params:=Z.aY19,body:=Ybf Z.bY19,scope:=Z.cY19,globals:=3,closure:=[],defaults:=Yaj,kwdefaults:=Yaj,pyModule:=Yag (Yaa "law_beatplans_k98_whole_vehicles_go_around") 321,code:=Yae 119 } }:Obj))::
  ((nat_lit 126:Addr),({ cls:=YaG "code",data:=Yby #[Yag (Yaa "_law_word") 361,Yag (Yaa "_law_word") 362,Yag (Yaa "/claim/cut.py") 363,Yad 79 0,Yad 5 0,Yad 0 0,Yad 0 0,Yad 3 0,Yae 121,Ybr Bool.true,Yad 181 0,Yae 122,Yaj,Yae 123,Yae 124,Yae 125,Yad 371 0,Yad 79 0,Yag (Yaa "/claim/cut.py") 372] }:Obj))::
  ((nat_lit 127:Addr),({ cls:=YaG "function",data:=Yb1 { name:=Yaa "_law_word",qualname:=Yaa "_law_word",params:=Z.aY20,body:=Ybf Z.bY20,scope:=Z.cY20,globals:=3,closure:=[],defaults:=Yaj,kwdefaults:=Yaj,pyModule:=Yag (Yaa "law_beatplans_k98_whole_vehicles_go_around") 321,code:=Yae 126 } }:Obj))::
  ((nat_lit 131:Addr),({ cls:=YaG "code",data:=Yby #[Yag (Yaa "_law_rows_right") 374,Yag (Yaa "_law_rows_right") 375,Yag (Yaa "/claim/cut.py") 376,Yad 91 0,Yad 6 0,Yad 0 0,Yad 0 0,Yad 3 0,Yae 128,Ybr Bool.true,Yad 181 0,Yae 129,Yaj,Yaj,Yaj,Yae 130,Yad 377 0,Yad 91 0,Yag (Yaa "/claim/cut.py") 378] }:Obj))::
  ((nat_lit 132:Addr),({ cls:=YaG "function",data:=Yb1 { name:=Yaa "_law_rows_right",qualname:=Yaa "_law_rows_right",params:=Z.aY21,body:=Ybf Z.bY21,scope:=Z.cY21,globals:=3,closure:=[],defaults:=Yaj,kwdefaults:=Yaj,pyModule:=Yag (Yaa "law_beatplans_k98_whole_vehicles_go_around") 321,code:=Yae 131 } }:Obj))::
  ((nat_lit 136:Addr),({ cls:=YaG "code",data:=Yby #[Yag (Yaa "law") 380,Yag (Yaa "law") 381,Yag (Yaa "/claim/cut.py") 382,Yad 112 0,Yad 1 0,Yad 0 0,Yad 0 0,Yad 3 0,Yae 133,Ybr Bool.true,Yad 181 0,Yae 134,Yaj,Yaj,Yaj,Yae 135,Yad 383 0,Yad 112 0,Yag (Yaa "/claim/cut.py") 384] }:Obj))::
  ((nat_lit 137:Addr),({ cls:=YaG "function",data:=Yb1 { name:=Yaa "law",qualname:=Yaa "law",params:=Z.aY22,body:=Ybf Z.bY22,scope:=Z.cY22,globals:=3,closure:=[],defaults:=Yaj,kwdefaults:=Yaj,pyModule:=Yag (Yaa "law_beatplans_k98_whole_vehicles_go_around") 321,code:=Yae 136 } }:Obj))::[]
open PySem in
noncomputable def Z.KA:List Addr:=(nat_lit 1)::(nat_lit 3)::(nat_lit 23)::(nat_lit 24)::(nat_lit 40)::(nat_lit 41)::(nat_lit 43)::(nat_lit 44)::(nat_lit 52)::(nat_lit 53)::(nat_lit 59)::(nat_lit 60)::(nat_lit 66)::(nat_lit 67)::(nat_lit 71)::(nat_lit 72)::(nat_lit 76)::(nat_lit 77)::(nat_lit 81)::(nat_lit 82)::(nat_lit 88)::(nat_lit 89)::(nat_lit 95)::(nat_lit 96)::(nat_lit 102)::(nat_lit 103)::(nat_lit 107)::(nat_lit 108)::(nat_lit 114)::(nat_lit 115)::(nat_lit 119)::(nat_lit 120)::(nat_lit 126)::(nat_lit 127)::(nat_lit 131)::(nat_lit 132)::(nat_lit 136)::(nat_lit 137)::[]

noncomputable def PySem.W.Fast.tw13824537170926309635:List YaC:=Z.bY4
theorem PySem.W.Fast.te13824537170926309635:Z.bY4=PySem.W.Fast.tw13824537170926309635:=rfl
noncomputable def PySem.W.Fast.tw853859412168447107:YaT:=Z.cY4
theorem PySem.W.Fast.te853859412168447107:Z.cY4=PySem.W.Fast.tw853859412168447107:=rfl
noncomputable def PySem.W.Fast.tw14051996984328462559:Yao:=Z.aY4
theorem PySem.W.Fast.te14051996984328462559:Z.aY4=PySem.W.Fast.tw14051996984328462559:=rfl
noncomputable def PySem.W.Fast.tw4333012738630735508:List YaC:=Z.bY6
theorem PySem.W.Fast.te4333012738630735508:Z.bY6=PySem.W.Fast.tw4333012738630735508:=rfl
noncomputable def PySem.W.Fast.tw9351588486136842362:YaT:=Z.cY6
theorem PySem.W.Fast.te9351588486136842362:Z.cY6=PySem.W.Fast.tw9351588486136842362:=rfl
noncomputable def PySem.W.Fast.tw17812285979442850112:Yao:=Z.aY6
theorem PySem.W.Fast.te17812285979442850112:Z.aY6=PySem.W.Fast.tw17812285979442850112:=rfl
noncomputable def PySem.W.Fast.tw7891013550986899784:List YaC:=Z.bY8
theorem PySem.W.Fast.te7891013550986899784:Z.bY8=PySem.W.Fast.tw7891013550986899784:=rfl
noncomputable def PySem.W.Fast.tw9080550850168601643:YaT:=Z.cY8
theorem PySem.W.Fast.te9080550850168601643:Z.cY8=PySem.W.Fast.tw9080550850168601643:=rfl
noncomputable def PySem.W.Fast.tw10738812580571829077:Yao:=Z.aY8
theorem PySem.W.Fast.te10738812580571829077:Z.aY8=PySem.W.Fast.tw10738812580571829077:=rfl
noncomputable def PySem.W.Fast.tw10276996883930140848:List YaC:=Z.bY9
theorem PySem.W.Fast.te10276996883930140848:Z.bY9=PySem.W.Fast.tw10276996883930140848:=rfl
noncomputable def PySem.W.Fast.tw16118459055452923545:YaT:=Z.cY9
theorem PySem.W.Fast.te16118459055452923545:Z.cY9=PySem.W.Fast.tw16118459055452923545:=rfl
noncomputable def PySem.W.Fast.tw8409190299368717739:Yao:=Z.aY9
theorem PySem.W.Fast.te8409190299368717739:Z.aY9=PySem.W.Fast.tw8409190299368717739:=rfl
noncomputable def PySem.W.Fast.tw14519903988610552633:List YaC:=Z.bY11
theorem PySem.W.Fast.te14519903988610552633:Z.bY11=PySem.W.Fast.tw14519903988610552633:=rfl
noncomputable def PySem.W.Fast.tw3058807829669123397:YaT:=Z.cY11
theorem PySem.W.Fast.te3058807829669123397:Z.cY11=PySem.W.Fast.tw3058807829669123397:=rfl
noncomputable def PySem.W.Fast.tw17676326535124858346:Yao:=Z.aY11
theorem PySem.W.Fast.te17676326535124858346:Z.aY11=PySem.W.Fast.tw17676326535124858346:=rfl
noncomputable def PySem.W.Fast.tw18164753679283922878:List YaC:=Z.bY12
theorem PySem.W.Fast.te18164753679283922878:Z.bY12=PySem.W.Fast.tw18164753679283922878:=rfl
noncomputable def PySem.W.Fast.tw18339184722527120439:YaT:=Z.cY12
theorem PySem.W.Fast.te18339184722527120439:Z.cY12=PySem.W.Fast.tw18339184722527120439:=rfl
noncomputable def PySem.W.Fast.tw1446015608239144218:Yao:=Z.aY12
theorem PySem.W.Fast.te1446015608239144218:Z.aY12=PySem.W.Fast.tw1446015608239144218:=rfl
noncomputable def PySem.W.Fast.tw17739840880004349974:List YaC:=Z.bY13
theorem PySem.W.Fast.te17739840880004349974:Z.bY13=PySem.W.Fast.tw17739840880004349974:=rfl
noncomputable def PySem.W.Fast.tw4228003467210183882:YaT:=Z.cY13
theorem PySem.W.Fast.te4228003467210183882:Z.cY13=PySem.W.Fast.tw4228003467210183882:=rfl
noncomputable def PySem.W.Fast.tw5854879517739080986:Yao:=Z.aY13
theorem PySem.W.Fast.te5854879517739080986:Z.aY13=PySem.W.Fast.tw5854879517739080986:=rfl
noncomputable def PySem.W.Fast.tw7833547661901591470:List YaC:=Z.bY15
theorem PySem.W.Fast.te7833547661901591470:Z.bY15=PySem.W.Fast.tw7833547661901591470:=rfl
noncomputable def PySem.W.Fast.tw8101764399625425153:YaT:=Z.cY15
theorem PySem.W.Fast.te8101764399625425153:Z.cY15=PySem.W.Fast.tw8101764399625425153:=rfl
noncomputable def PySem.W.Fast.tw6856576199937072082:Yao:=Z.aY15
theorem PySem.W.Fast.te6856576199937072082:Z.aY15=PySem.W.Fast.tw6856576199937072082:=rfl
noncomputable def PySem.W.Fast.tw11446803262430998167:List YaC:=Z.bY16
theorem PySem.W.Fast.te11446803262430998167:Z.bY16=PySem.W.Fast.tw11446803262430998167:=rfl
noncomputable def PySem.W.Fast.tw9530570746764545675:YaT:=Z.cY16
theorem PySem.W.Fast.te9530570746764545675:Z.cY16=PySem.W.Fast.tw9530570746764545675:=rfl
noncomputable def PySem.W.Fast.tw13100361516219107942:Yao:=Z.aY16
theorem PySem.W.Fast.te13100361516219107942:Z.aY16=PySem.W.Fast.tw13100361516219107942:=rfl
noncomputable def PySem.W.Fast.tw7606716932492997581:List YaC:=Z.bY17
theorem PySem.W.Fast.te7606716932492997581:Z.bY17=PySem.W.Fast.tw7606716932492997581:=rfl
noncomputable def PySem.W.Fast.tw502235002237357205:YaT:=Z.cY17
theorem PySem.W.Fast.te502235002237357205:Z.cY17=PySem.W.Fast.tw502235002237357205:=rfl
noncomputable def PySem.W.Fast.tw4003557264338402016:Yao:=Z.aY17
theorem PySem.W.Fast.te4003557264338402016:Z.aY17=PySem.W.Fast.tw4003557264338402016:=rfl
noncomputable def PySem.W.Fast.tw5727634772876231:List YaC:=Z.bY18
theorem PySem.W.Fast.te5727634772876231:Z.bY18=PySem.W.Fast.tw5727634772876231:=rfl
noncomputable def PySem.W.Fast.tw6865636664558906297:YaT:=Z.cY18
theorem PySem.W.Fast.te6865636664558906297:Z.cY18=PySem.W.Fast.tw6865636664558906297:=rfl
noncomputable def PySem.W.Fast.tw4956039584453317913:Yao:=Z.aY18
theorem PySem.W.Fast.te4956039584453317913:Z.aY18=PySem.W.Fast.tw4956039584453317913:=rfl
noncomputable def PySem.W.Fast.tw11194721788962368185:List YaC:=Z.bY19
theorem PySem.W.Fast.te11194721788962368185:Z.bY19=PySem.W.Fast.tw11194721788962368185:=rfl
noncomputable def PySem.W.Fast.tw16727905199392536027:YaT:=Z.cY19
theorem PySem.W.Fast.te16727905199392536027:Z.cY19=PySem.W.Fast.tw16727905199392536027:=rfl
noncomputable def PySem.W.Fast.tw17378076412252255655:Yao:=Z.aY19
theorem PySem.W.Fast.te17378076412252255655:Z.aY19=PySem.W.Fast.tw17378076412252255655:=rfl
noncomputable def PySem.W.Fast.tw5086509110111126984:List YaC:=Z.bY20
theorem PySem.W.Fast.te5086509110111126984:Z.bY20=PySem.W.Fast.tw5086509110111126984:=rfl
noncomputable def PySem.W.Fast.tw8613126992762786810:YaT:=Z.cY20
theorem PySem.W.Fast.te8613126992762786810:Z.cY20=PySem.W.Fast.tw8613126992762786810:=rfl
noncomputable def PySem.W.Fast.tw7742198557474056662:Yao:=Z.aY20
theorem PySem.W.Fast.te7742198557474056662:Z.aY20=PySem.W.Fast.tw7742198557474056662:=rfl
noncomputable def PySem.W.Fast.tw9887112076633143260:List YaC:=Z.bY21
theorem PySem.W.Fast.te9887112076633143260:Z.bY21=PySem.W.Fast.tw9887112076633143260:=rfl
noncomputable def PySem.W.Fast.tw16652175780040137316:YaT:=Z.cY21
theorem PySem.W.Fast.te16652175780040137316:Z.cY21=PySem.W.Fast.tw16652175780040137316:=rfl
noncomputable def PySem.W.Fast.tw771454083561337269:Yao:=Z.aY21
theorem PySem.W.Fast.te771454083561337269:Z.aY21=PySem.W.Fast.tw771454083561337269:=rfl
noncomputable def PySem.W.Fast.tw3184669192085748957:List YaC:=Z.bY22
theorem PySem.W.Fast.te3184669192085748957:Z.bY22=PySem.W.Fast.tw3184669192085748957:=rfl
noncomputable def PySem.W.Fast.tw4757630134925260912:YaT:=Z.cY22
theorem PySem.W.Fast.te4757630134925260912:Z.cY22=PySem.W.Fast.tw4757630134925260912:=rfl
noncomputable def PySem.W.Fast.tw7465873080701871002:Yao:=Z.aY22
theorem PySem.W.Fast.te7465873080701871002:Z.aY22=PySem.W.Fast.tw7465873080701871002:=rfl
noncomputable def PySem.W.Fast.tw5160444039759204164:PySem.Params->Yac:=Z.KK
theorem PySem.W.Fast.te5160444039759204164:Z.KK=PySem.W.Fast.tw5160444039759204164:=rfl
set_option maxRecDepth 100000 in
set_option maxHeartbeats 0 in
theorem Z.wellS:PySem.Challenge.rw_beatplans_k98_whole_vehicles_go_around.wellSaid=true:=by decide +kernel
open PySem PySem.W PyProof.Rows
set_option maxRecDepth 100000 in
set_option maxHeartbeats 0 in
theorem PySem.Challenge.cw_beatplans_k98_whole_vehicles_go_around_holds : PySem.Challenge.rw_beatplans_k98_whole_vehicles_go_around.Holds := by
 w_on; refine PySem.W.holds_law Z.wellS fun said=>?_
 rw [Z.rw_eq] at said ⊢
 o_head (kHook Z.KK Z.KA (fun _=>by kernel_rfl)); (case hw=>w_witness2)
 k_fill
 refine Z.walk (l:=Z.rwS) rfl rfl (fun w h Y=>PySem.W.kIn_of Y) ?K ?S ?F
 case K=>intro w; rfl
 case S=>intro w; exact ⟨_,rfl,rfl⟩
 case F=>
  intro w mg fa h KX G hmg
  refine' Z.all_mk KX G hmg ?a0 ?l0 ?c0 ?k0 ?a1 ?l1 ?c1 ?k1 ?a2 ?l2 ?c2 ?k2 ?a3 ?l3 ?c3 ?k3 ?a4 ?l4 ?c4 ?k4 ?a5 ?l5 ?c5 ?k5 ?a6 ?l6 ?c6 ?k6 ?a7 ?l7 ?c7 ?k7 ?a8 ?l8 ?c8 ?k8 ?a9 ?l9 ?c9 ?k9 ?a10 ?l10 ?c10 ?k10 ?a11 ?l11 ?c11 ?k11 ?a12 ?l12 ?c12 ?k12 ?a13 ?l13 ?c13 ?k13 ?a14 ?l14 ?c14 ?k14 ?z_len ?z_repr ?z_min ?z_max ?z_sum ?z_all ?z_any ?z_sorted ?z_int ?z_str ?z_isinstance ?z_range ?z_enumerate ?z_list ?z_tuple ?z_bool ?z_dict ?z_ValueError ?vDa ?vDl ?vDk ?vDn ?vNoRinga ?vNoRingl ?vNoRingk ?vNoRingn ?vNoRingi ?vNoRingf ?vNoRingc ?vNoRingkf
  (case a0=>k_is)
  (case l0=>k_is)
  (case c0=>k_is)
  (case k0=>k_is)
  (case a1=>k_is)
  (case l1=>k_is)
  (case c1=>k_is)
  (case k1=>k_is)
  (case a2=>k_is)
  (case l2=>k_is)
  (case c2=>k_is)
  (case k2=>k_is)
  (case a3=>k_is)
  (case l3=>k_is)
  (case c3=>k_is)
  (case k3=>k_is)
  (case a4=>k_is)
  (case l4=>k_is)
  (case c4=>k_is)
  (case k4=>k_is)
  (case a5=>k_is)
  (case l5=>k_is)
  (case c5=>k_is)
  (case k5=>k_is)
  (case a6=>k_is)
  (case l6=>k_is)
  (case c6=>k_is)
  (case k6=>k_is)
  (case a7=>k_is)
  (case l7=>k_is)
  (case c7=>k_is)
  (case k7=>k_is)
  (case a8=>k_is)
  (case l8=>k_is)
  (case c8=>k_is)
  (case k8=>k_is)
  (case a9=>k_is)
  (case l9=>k_is)
  (case c9=>k_is)
  (case k9=>k_is)
  (case a10=>k_is)
  (case l10=>k_is)
  (case c10=>k_is)
  (case k10=>k_is)
  (case a11=>k_is)
  (case l11=>k_is)
  (case c11=>k_is)
  (case k11=>k_is)
  (case a12=>k_is)
  (case l12=>k_is)
  (case c12=>k_is)
  (case k12=>k_is)
  (case a13=>k_is)
  (case l13=>k_is)
  (case c13=>k_is)
  (case k13=>k_is)
  (case a14=>k_is)
  (case l14=>k_is)
  (case c14=>k_is)
  (case k14=>k_is)
  (case z_len=>k_is)
  (case z_repr=>k_is)
  (case z_min=>k_is)
  (case z_max=>k_is)
  (case z_sum=>k_is)
  (case z_all=>k_is)
  (case z_any=>k_is)
  (case z_sorted=>k_is)
  (case z_int=>k_is)
  (case z_str=>k_is)
  (case z_isinstance=>k_is)
  (case z_range=>k_is)
  (case z_enumerate=>k_is)
  (case z_list=>k_is)
  (case z_tuple=>k_is)
  (case z_bool=>k_is)
  (case z_dict=>k_is)
  (case z_ValueError=>k_is)
  (case vDa=>k_is)
  (case vDl=>k_is)
  (case vDk=>k_is)
  (case vDn=>rfl)
  (case vNoRinga=>k_is)
  (case vNoRingl=>k_is)
  (case vNoRingk=>k_is)
  (case vNoRingn=>rfl)
  (case vNoRingi=>k_is)
  (case vNoRingf=>k_is)
  (case vNoRingc=>k_is)
  (case vNoRingkf=>k_is)
