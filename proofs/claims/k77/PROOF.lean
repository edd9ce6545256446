import PyProof.Rows.All
import Wide.All
import OpenK.AllK
import Wide.FinOn
import Lean
import PyProof.EqAt
import PyProof.EqKinds
import PyProof.TupleCall
import PySem.Challenge.RW_beatplans_k77_boards_that_can_not_be_rea
set_option compiler.extract_closed false
set_option Elab.async false
set_option linter.all false
set_option maxRecDepth 100000
open PySem.W renaming BT → Ycl, CodeHd → YfR, Frag → Yaa, OpenLaw → Yd4, WalkO → Yf5, boot_heap → YbP, boot_o_0 → Yb5, boot_o_1 → YbB, boot_o_10 → YbO, boot_o_2 → Yb4, boot_o_3 → Yfo, boot_o_4 → Yb3, boot_o_5 → Yb2, boot_o_6 → Yb1, boot_o_7 → Yb0, boot_o_8 → YbZ, boot_o_9 → YbY, callWith_K → Ydv, cellsFrom_some → Ycg, codeIn → Ybu, codeRec_of → Ydu, findIn → YcJ, fnMade → Yek, fnOf → Ya2, instObj → YfH, keepIn → Ya5, methodObj → YdI, mg_of → YcZ, nsIn → Ya7, piece_app → YdH, piecesOf → YdW, segRunT → Yd3, segRun_of → YdG, specialIn → Yfc, topRun → YfQ, topStub → YfG
open PySem renaming Arguments → YcF, Comprehension → YbK, DictEntry → Ycu, ExcBaseFacts → YeF, FuncData → Ybh, GenState → Yen, NameKind → Ya3, Operator → Yda, PassesOwn → Yel, Spec → YaG, StoreFacts → Ydi, assignEach → YaY, attributeBase → Yca, behindInMarks → Yei, binaryOp → Ybl, bindArgs → YfE, bootBuiltins → Yco, builtinLookup_eq_fast → Ybz, builtinsNs → YdP, call → YfF, call_meets → Ycn, cellsFrom → Ybd, checkBuiltinCall → Ydo, closureFor → Yfm, codeAny_call_builtin → YcL, codeAny_call_function → YdF, codeAny_func → Yf2, codeAny_mono → Yc9, compTurn → YeQ, compareOp → YaV, concat_meets → Yf1, dictSetDefault → Yfb, evalPart_none → YfD, excClassObj → YcY, foldedSetIterable → Ya1, isInstance → Yfl, keywordEach → YeZ, length_partsBetween → YcX, letOwnedTupleGo → YcW, lookupAlong_cons → YeI, mainGlobals → YaB, mem_of_lookup → Yax, newFunctionEnv → Yfa, noFill_tuple_add → YeH, noteFrame → Yf0, post_val_or_str → YdE, pushCells → YeY, qualnameIn → YcS, repr_of_reads' → Ye9, seqIndex_neg → YfZ, seq_tuple_add → YfC, setFlight → Yeh, sizeLine → Yae, sizeLine_eq → YbJ, sliceBounds → Yck, slicePick → Yeg, starEach → Yar, strLen_append → YfB, swappedStores → Ybt, swapsWith → Ycf, swapsWithSole → Yby, sysModules → Ya0, treeTable → Ydh, tupleKind → YeX, tupleKind_room_in1 → Yc8, typeIs_str → Yb9, typeLookup → YaX, typeLookup_eq → Yfz, typeLookup_type → Yct, wpAny_Call_Name_kw → Ybx, wpAny_Call_method_late → Yea, wpAny_Name → YdO, wpAny_bind → Yab, wpAny_call → YdN, wpAny_callSpecial?_slot → Ydk, wpAny_call_entry → YeG, wpAny_comprehension_free → Yfk, wpAny_execs_cons → YbN, wpAny_execs_nil → YdD, wpAny_field → YbI, wpAny_getItem_list_slice → Ydg, wpAny_getItem_str_slice → Ycs, wpAny_holding → Ybc, wpAny_isSubtype_exc → YbH, wpAny_loadPart_at → Yau, wpAny_mono → YaL, wpAny_mroOf_exc → YeW, wpAny_newFunctionEnv_cells → Yc4, wpAny_newObj_type → Ya6, wpAny_passesOwn → YcV, wpAny_pure → Yah, wpAny_pyIter_list → Yex, wpAny_pyNext_list_end → YfY, wpAny_pyNext_list_item → YfO, wpAny_sequenceKey → Yew, wpAny_setField → Ye8, wpAny_standAt → Yb8, wpAny_truthy_bool → Yb7, wpAny_typeOf → YdC
open List renaming all_cons → Ybw, all_eq_true → Yee, any_cons → Ybo, any_eq_true → Yga, append_assoc → Yc2, append_nil → Ybj, cons_append → Yed, contains_cons → Ybv, drop_eq_getElem_cons → Ybg, drop_length → Yf9, drop_of_length_le → Ye2, drop_zero → Ydx, filterMap → YeE, filterMap_cons → YcH, filterMap_map → YfK, find?_cons → Ybs, find?_cons_of_neg → Ycp, find?_eq_none → YfJ, flatten_cons → YbX, foldl → YfU, foldl_cons → Yeu, forIn_cons → Yet, getD_eq_getElem?_getD → YaZ, getElem?_append_left → YaC, getElem?_append_right → YaP, getElem?_eq_getElem → Yat, getElem?_eq_none → YbS, getElem?_map → Yay, getElem?_range → Yfv, getElem?_replicate → Ycj, getElem?_set_ne → YaS, getElem?_set_self → Ybf, getElem?_take_of_lt → YeP, getElem_idxOf → YdV, getElem_inj → Yf8, getElem_map → Ydc, getElem_mem → Ycz, getElem_take → Yd0, getElem_toArray → YcA, idxOf_lt_length_of_mem → Yes, length → Yfu, length_append → YaD, length_cons → YaW, length_drop → Yec, length_map → Yac, length_nil → Ydj, length_replicate → Ye4, length_reverse → YcG, length_tail → Ycb, length_take → Ybm, lookup → Ybr, lookup_cons → YaJ, map_append → YaE, map_cons → Yas, map_fst_zip → Yf7, map_map → YcP, map_nil → YcO, map_take → YeT, mem_append_left → YaR, mem_append_right → YaA, mem_cons → YaI, mem_cons_of_mem → Yag, mem_cons_self → Yao, mem_map_of_mem → YdA, mem_of_getElem? → Yba, mem_of_mem_drop → Yds, mem_of_mem_take → Ydr, mem_or_eq_of_mem_set → Yb6, nil_append → Yer, nodup_append → YfT, not_mem_nil → Yaw, of_mem_zip → Yci, range → YaK, range' → Yft, range_succ → Ych, replicate → Yai, replicate_succ → Ybq, reverse_cons → YbW, set_cons_succ → YdU, set_cons_zero → YdT, size_toArray → Yam, take_length → Yf6, take_of_length_le → YbF, take_sublist → Ycr, zip_cons_cons → YdS
open PySem.Heap renaming SameBut → YcQ, get?_none_of_le → Ydt, get?_push_at → YfV, get?_push_of_some → Yad, get?_push_size → Yav, get?_update_ne → Yfw, get?_update_other → Ydf, get?_update_self → YbT, lt_size → Yaj, size_push → Ydy
open Nat renaming add_le_add → YeO, add_le_add_left → YdK, add_le_add_right → YcC, add_sub_cancel → YdX, le_of_eq → Yeb, le_of_lt → YbD, le_refl → Yaf, le_succ → YdJ, le_trans → Yal, lt_irrefl → Ybi, lt_of_le_of_lt → Ya9, lt_of_lt_of_le → Yaq, lt_trans → YcU, mul_le_mul_right → YcB, ne_of_gt → Yfg, ne_of_lt → YaF, not_lt_zero → YcK, succ_le_succ → Yem, toDigits → Yff, zero_add → Ycx, zero_le → Ybn
open Bool renaming and_eq_true → Yap, eq_iff_iff → YbU, false_eq_true → YbL, false_ne_true → Yak, false_or → YeU, not_eq_true' → Yc3, not_not → Ye7, or_eq_true → YcI, or_true → Ycw
open Option.some renaming inj → Yan
open PySem.NameKind renaming cell → YaH, free → Yaz
open PySem.PyData renaming canLayAll0 → Yfq, depthAll → Yce, eqv → YaM, eqvAll → Ycy, int → YdR, showable → Yde, showableAll → Yfe, shown → Ycq, shownAll → YbM, str → Yfp
open PySem.W.Fast renaming te10110043849684766642 → YbR, te14364793385576792824 → YaN, te5923862056798008813 → Ydb
open PySem.Builtin.Slice renaming sliceAdjust → Ybp, sliceApplied → YbE, sliceFields → YdM, slicePlaces → YaO
open PySem.Builtin.Tuple renaming tupleExact → YaQ, tupleIsExact → YdB, tupleItemsOf → Ycv
open PyProof.Rows renaming SortKind → YdQ, args_tuple_getitem → Yej, boot_isinstance → Ydw, boot_list → Yd5, callWith_type1 → YbC, entry_tuple_getitem → Yd2, slot_tuple_getitem → YaT, subscriptTail → Yef, subscriptTail_builtinR → YfP, tupleItemsOf_ → YfA
open PySem.Builtin.Str renaming occurrences → YaU, partsBetween → Yd1, strKind → YeC
open PySem.Str renaming join → Ya4, ofString → Yd9
open PySem.Txt renaming slice → Ydm, slice_le → Ydl, split → Ya8, split → Yfd
open Int renaming ediv_one → Yfi, emod_lt_of_pos → YdZ, emod_nonneg → YeA, eq_ofNat_of_zero_le → Ybb, natCast_nonneg → YdY, toNat_natCast → Ygb, toNat_of_nonneg → YdL
open PySem.Value renaming builtin → Yc5, int → Yf3, none → YbA, ref → Ybe, str → Ye0
open False renaming elim → Ybk
open PySem.Calls renaming Constant_str → YcM, Name_function_global → Yev, callWith_builtin → Ydd, evalArgs_plain → Ye6, spliced_cons → YbG, spliced_nil → YfM
open Array renaming append_assoc → Yfy, find?_toList → Yfx, getElem?_eq_getElem → YcR, getElem?_setIfInBounds_self_of_lt → YbQ, length_toList → Ycc, size_append → Yc1, toList_append → Yfj
open Classical renaming byContradiction → YbV
open Sum.inr renaming injEq → Ycd
open PySem.Obj renaming data_mapDictKeys → Yfs, data_mapFields → YfS, isFreed_of_fields → Ydn, mapFields → Ycm, mapSeq → Yd6
open PySem.Builtin.List renaming listTooLong → YcD
open True renaming intro → YcE
open PySem.F renaming args_object_init_2 → YfW, args_str_split_2 → Yd7, args_tuple_add_2 → YcN, entry_str_split → Yeo, entry_tuple_add → Yc0, plainAttrs_list → Yey, plainAttrs_str → Yc7, slot_str_split → YeB, slot_tuple_add → Yc6
open Option renaming getD_none → YfI, isSome_map → YcT, map → Yfr, map_eq_none_iff → YeN, none_or → Yeq, some_or → Yep
open PySem.W.Hook renaming obs → Ydq, val → Ydp
open PySem.Paired renaming length → Ydz
open PySem.StrLaws renaming glued_between_self → Yd8, glued_eq_join → YeK, occ_length_le → YeJ
open List.Pairwise renaming nil → Yez
open PySem.SeqAt renaming EqAt → YeD, in_listAt → Yf4, notIn_listAt → Yfn
open PySem.SeqAt.EqAt renaming int_str → YeM, str_int → YeL
open PySem.Draws renaming list → YeR
open PySem.Manifest renaming signature? → YeS
open PySem.Around renaming frames_deeper → Ye3, in1_units → YfN, under → YeV
open PySem.PassesOwn renaming looking → Ye1
open PySem.Code renaming isFrame → Ye5, quiet_builtin → YfL
open List.cons renaming injEq → Yfh
open Char renaming toNat → YfX
namespace L2
open PySem PySem.Spec PyProof.Rows

noncomputable abbrev Key:=Sum Int Str
noncomputable def jen:Key->Value->Bool
 | .inl k,v=>Value.isInt k v
 | .inr x,v=>Value.isStrOf x v
noncomputable def keyH (w:World):Key->Int
 | .inl k=>hashInt k
 | .inr x=>hashStr w x
theorem jap:∀ {k:Key} {v:Value},jen k v=true->(∃ i t,k=Sum.inl i/\v=Yf3 i t)\/(∃ x t,k=Sum.inr x/\v=Ye0 x t)
 | .inl i,v,h=>by
  obtain ⟨t,e⟩:=Value.isInt_shape (k:=i) (v:=v) h
  exact .inl ⟨i,t,rfl,e⟩
 | .inr x,v,h=>by
  obtain ⟨t,e⟩:=Value.isStrOf_shape (x:=x) (v:=v) h
  exact .inr ⟨x,t,rfl,e⟩
theorem jgF (i:Int)(t:Tok):jen (.inl i) (.int i t)=true:=by simp [jen,Value.isInt]
theorem jgE (x:Str)(t:Tok):jen (.inr x) (.str x t)=true:=by simp [jen,Value.isStrOf]
theorem jlV (a b:Int):decide ((Sum.inl a:Key)=Sum.inl b)=(a == b):=by
 by_cases e:a=b
 ·subst e; simp
 ·have h:¬ (Sum.inl a:Key)=Sum.inl b:=fun q=>e (Sum.inl.inj q)
  rw [decide_eq_false h]
  exact (beq_eq_false_iff_ne.mpr e).symm
theorem jlS (a b:Str):decide ((Sum.inr a:Key)=Sum.inr b)=decide (a=b):=by
 by_cases e:a=b
 ·subst e; simp
 ·have h:¬ (Sum.inr a:Key)=Sum.inr b:=fun q=>e (Sum.inr.inj q)
  rw [decide_eq_false h,decide_eq_false e]
theorem jlU (a:Int)(b:Str):decide ((Sum.inl a:Key)=Sum.inr b)=false:=decide_eq_false (fun q=>nomatch q)
theorem jlT (a:Str)(b:Int):decide ((Sum.inr a:Key)=Sum.inl b)=false:=decide_eq_false (fun q=>nomatch q)

noncomputable def jao (prog:Program)(w:World):PySem.KeyKind prog w Key where
 is:=jen
 hash:=keyH w
 inj:=fun v a b ha hb=>by
  rcases jap ha with ⟨i,t,rfl,rfl⟩ | ⟨x,t,rfl,rfl⟩
  ·rcases jap hb with ⟨j,u,rfl,e⟩ | ⟨y,u,rfl,e⟩
   ·injection e with e1 _; rw [e1]
   ·exact nomatch e
  ·rcases jap hb with ⟨j,u,rfl,e⟩ | ⟨y,u,rfl,e⟩
   ·exact nomatch e
   ·injection e with e1 _; rw [e1]
 byValue:=fun k v h=>by
  rcases jap h with ⟨i,t,rfl,rfl⟩ | ⟨x,t,rfl,rfl⟩ <;> rfl
 pyHash:=fun hv h=>by
  rcases jap hv with ⟨i,t,rfl,rfl⟩ | ⟨x,t,rfl,rfl⟩
  ·exact wpAny_pyHash_int h
  ·exact wpAny_pyHash_str h
 eqBool:=fun hu hv h=>by
  rcases jap hu with ⟨i,t,rfl,rfl⟩ | ⟨x,t,rfl,rfl⟩
  ·rcases jap hv with ⟨j,u,rfl,rfl⟩ | ⟨y,u,rfl,rfl⟩
   ·rw [jlV] at h; exact wpAny_eqBool_int h
   ·rw [jlU] at h; exact YeM i t y u _ _ _ _ h
  ·rcases jap hv with ⟨j,u,rfl,rfl⟩ | ⟨y,u,rfl,rfl⟩
   ·rw [jlT] at h; exact YeL x t j u _ _ _ _ h
   ·rw [jlS] at h; exact wpAny_eqBool_str h
 «strs»:=fun k x t v h=>by
  rcases jap h with ⟨i,u,rfl,e⟩ | ⟨y,u,rfl,e⟩
  ·exact nomatch e
  ·injection e with e1 _
   subst e1
   cases v <;> rfl

theorem jek (prog:Program)(w:World)(i:Int)(t:Tok):(jao prog w).is (.inl i) (.int i t)=true:=jgF i t
theorem jej (prog:Program)(w:World)(x:Str)(t:Tok):(jao prog w).is (.inr x) (.str x t)=true:=jgE x t

inductive V where
 | non | bl (b:Bool) | int (i:Int) | str (x:Str) | byt (b:Array UInt8) | flt (b:UInt64) | ref (a:Addr) | ty (n:String)
 deriving DecidableEq

noncomputable def RelV:V->Value->Prop
 | .non,u=>u=YbA
 | .bl b,u=>u=Value.bool b
 | .int i,u=>∃ t,u=Yf3 i t
 | .str x,u=>∃ t,u=Ye0 x t
 | .byt b,u=>∃ t,u=Value.bytes b t
 | .flt b,u=>∃ t,u=Value.float b t
 | .ref a,u=>u=Ybe a
 | .ty n,u=>u=Value.type n

noncomputable abbrev Vals:List V->List Value->Prop:=Paired RelV
theorem Vals.length {xs:List V}{us:List Value}(r:Vals xs us):xs.length=us.length:=Ydz r
theorem Vals.get:∀ {xs:List V} {us:List Value} {i:Nat} {x:V},Vals xs us->xs[i]?=some x->∃ u,us[i]?=some u/\RelV x u
 | _,_,_,_,.nil,e=>by simp at e
 | _,_,0,_,.cons r _,e=>by simp at e; subst e; exact ⟨_,rfl,r⟩
 | _,_,i + 1,x,.cons _ t,e=>by
  obtain ⟨u,h1,h2⟩:=Vals.get (i:=i) (x:=x) t (by simpa using e)
  exact ⟨u,by simpa using h1,h2⟩
theorem Vals.set {x:V}{u:Value}(r:RelV x u):∀ {xs:List V} {us:List Value} (i:Nat),Vals xs us->Vals (xs.set i x) (us.set i u)
 | _,_,_,.nil=>.nil
 | _,_,0,.cons _ t=>.cons r t
 | _,_,i + 1,.cons q t=>.cons q (Vals.set r i t)
theorem Vals.append:∀ {xs ys:List V} {us ws:List Value},Vals xs us->Vals ys ws->Vals (xs++ys) (us++ws)
 | _,_,_,_,.nil,s=>s
 | _,_,_,_,.cons r t,s=>.cons r (Vals.append t s)
theorem Vals.take:∀ {xs:List V} {us:List Value} (n:Nat),Vals xs us->Vals (xs.take n) (us.take n)
 | _,_,0,_=>.nil
 | _,_,_ + 1,.nil=>.nil
 | _,_,n + 1,.cons r t=>.cons r (Vals.take n t)
theorem Vals.drop:∀ {xs:List V} {us:List Value} (n:Nat),Vals xs us->Vals (xs.drop n) (us.drop n)
 | _,_,0,r=>r
 | _,_,_ + 1,.nil=>.nil
 | _,_,n + 1,.cons _ t=>Vals.drop n t
noncomputable def RelO:Option V->Option Value->Prop
 | some v,some u=>RelV v u
 | none,none=>True
 | _,_=>False
noncomputable def KV {κ:Type}:List (κ×V)->List (κ×Value)->Prop:=Paired fun (p:κ×V) (q:κ×Value)=>p.1=q.1/\RelV p.2 q.2

noncomputable def kV:Key->V
 | .inl i=>.int i
 | .inr x=>.str x

inductive HO where
 | lst (xs:List V)
 | tup (xs:List V)
 | dK (kvs:List (Key×V)) | dT (kvs:List (List Key×V))
 | set (S:Int->Bool) (n:Nat)
 | ins (C dx:Addr) (fs:List (Str×V))
 | own (x:Addr)
 | xd (fs:List (Str×V))
 | met (f x:Addr)
 | rng (lo hi:Int)
 | frz (o:Obj) (u:HO)
 | tbl (ps:Array Value)
 | ext (φ:Heap->Prop)

noncomputable abbrev Hp:=Addr->Option HO
noncomputable def upd (H:Hp)(a:Addr)(o:HO):Hp:=fun b=>if b=a then some o else H b
theorem jag {H:Hp}{a:Addr}{o:HO}:upd H a o a=some o:=by unfold upd; rw [if_pos rfl]
theorem jac {H:Hp}{a b:Addr}{o:HO}(h:b≠a):upd H a o b=H b:=by unfold upd; rw [if_neg h]
theorem jnU {H:Hp}{a b:Addr}{o u:HO}(h:H a=some o)(h':H b=some u)(d:o≠u):a≠b:=by
 intro e; subst e; rw [h] at h'; exact d (Yan h')
theorem jai {H:Hp}{a b:Addr}{o:HO}(h:H a=some o)(h':H b=none):a≠b:=by
 intro e; subst e; rw [h] at h'; cases h'

noncomputable def TupD (h:Heap)(a:Addr)(items:Array Value):Prop:=∃ o,h.get? a=some o/\o.cls=.type "tuple" /\ ∃ n,o.data=.seq items n/\o.dict=none
theorem TupD.tup {h:Heap}{a:Addr}{items:Array Value}(x:TupD h a items):IsTup h a items:=let ⟨o,e,c,n,d,_⟩:=x; ⟨o,e,c,n,d⟩
theorem TupD.new (h:Heap)(items:Array Value):TupD (h.push { cls:=.type "tuple",data:=.seq items }) h.objs.size items:=⟨_,Yav _ rfl,rfl,_,rfl,rfl⟩
section
variable (P:Program)(w:World)
noncomputable def jaB (H:Hp)(h:Heap)(a:Addr):HO->Prop
 | .lst xs=>xs.length<=Yae/\∃ (its:List Value) (n:Nat),Vals xs its/\h.get? a=some { cls:=.type "list",data:=.seq its.toArray n }
 | .tup xs=>xs.length<=Yae/\∃ its:List Value,Vals xs its/\TupD h a its.toArray
 | .dK kvs=>kvs.length<=Yae/\(a == Ya0)=false/\∃ vs,KV kvs vs/\h.DictOf (jao P w) a vs
 | .dT kvs=>kvs.length<=Yae/\(a == Ya0)=false/\∃ xs:List (List Key×Addr×Value),
   Paired (fun (p:List Key×V) (q:List Key×Addr×Value)=>p.1=q.1/\H q.2.1=some (.tup (p.1.map kV))/\RelV p.2 q.2.2) kvs xs/\
   ∃ o es ep,h.get? a=some o/\o.ExactDict/\o.data=.dict es ep/\es.toList=xs.map (entryOfKey (YeX (jao P w)))/\(xs.map (·.1)).Nodup
 | .set S n=>h.SetOf (intKind P w) a S n
 | .ins C dx fs=>H dx=some (.own a)/\fs.length<=1000/\dx≠a/\h.get? a=some (YfH C dx)/\
   ∃ mA,h.Ns1 dx mA/\(∀ f,RelO (fs.lookup f) (mA f))/\PySem.Within mA (fs.map (·.1))
 | .own _=>∃ o,h.get? a=some o
 | .xd fs=>∃ mA,h.Ns1 a mA/\∀ f,RelO (fs.lookup f) (mA f)
 | .rng lo hi=>∃ t u v,h.get? a=some { cls:=.type "range",data:=.fields #[.int lo t,.int hi u,.int 1 v] }
 | .frz o u=>h.get? a=some o/\jaB H h a u
 | .tbl ps=>h.get? a=some { cls:=.none,data:=.fields ps }
 | .met f x=>h.get? a=some (YdI (.ref f) (.ref x))
 | .ext φ=>φ h/\(∃ o,h.get? a=some o)/\∀ h1 h2:Heap,φ h1->(∀ o,h1.get? a=some o->h2.get? a=some o)->φ h2
noncomputable def HOk (H:Hp)(h:Heap):Prop:=∀ a o,H a=some o->jaB P w H h a o
end

section
variable {P:Program}{w:World}{H H':Hp}{h h':Heap}{a:Addr}{o:HO}
theorem jaB.lt (x:jaB P w H h a o):a < h.objs.size:=by
 cases o with
 | lst xs=>obtain ⟨_,_,_,_,e⟩:=x; exact Yaj e
 | tup xs=>obtain ⟨_,_,_,p⟩:=x; exact p.tup.lt
 | dK kvs=>obtain ⟨_,_,_,_,o,_,_,e,_⟩:=x; exact Yaj e
 | dT kvs=>obtain ⟨_,_,_,_,o,_,_,e,_⟩:=x; exact Yaj e
 | set S n=>obtain ⟨o,_,_,_,e,_⟩:=x; exact Yaj e
 | ins C dx fs=>obtain ⟨_,_,_,e,_⟩:=x; exact Yaj e
 | own y=>obtain ⟨_,e⟩:=x; exact Yaj e
 | xd fs=>obtain ⟨_,⟨_,_,_,e,_⟩,_⟩:=x; exact Yaj e
 | rng lo hi=>obtain ⟨_,_,_,e⟩:=x; exact Yaj e
 | frz ob u=>obtain ⟨e,_⟩:=x; exact Yaj e
 | tbl ps=>exact Yaj (show h.get? a=some _ from x)
 | met f y=>exact Yaj (show h.get? a=some _ from x)
 | ext φ=>obtain ⟨_,⟨_,e⟩,_⟩:=x; exact Yaj e
theorem Paired.mapP {α β:Type}{F G:α->β->Prop}:∀ {l₁:List α} {l₂:List β},Paired F l₁ l₂->(∀ a b,F a b->G a b)->Paired G l₁ l₂
 | _,_,.nil,_=>.nil
 | _,_,.cons r t,f=>.cons (f _ _ r) (Paired.mapP t f)
theorem jaB.stay (x:jaB P w H h a o)(k:∀ b u,(b=a\/H b=some (.own a))->h.get? b=some u->h'.get? b=some u)
  (ho:∀ b,H b=some (.own a)->H' b=some (.own a)) (ht:∀ b xs,H b=some (.tup xs)->H' b=some (.tup xs)):jaB P w H' h' a o:=by
 induction o with
 | lst xs=>obtain ⟨z,its,n,r,e⟩:=x; exact ⟨z,its,n,r,k _ _ (.inl rfl) e⟩
 | tup xs=>obtain ⟨z,its,r,ob,e,c⟩:=x; exact ⟨z,its,r,ob,k _ _ (.inl rfl) e,c⟩
 | dK kvs=>obtain ⟨z,y,vs,r,ob,es,ep,e,c⟩:=x; exact ⟨z,y,vs,r,ob,es,ep,k _ _ (.inl rfl) e,c⟩
 | dT kvs=>
  obtain ⟨z,y,xs,r,ob,es,ep,e,c⟩:=x
  exact ⟨z,y,xs,Paired.mapP r fun p q z=>⟨z.1,ht _ _ z.2.1,z.2.2⟩,ob,es,ep,k _ _ (.inl rfl) e,c⟩
 | set S n=>obtain ⟨ob,es,ep,t,e,c⟩:=x; exact ⟨ob,es,ep,t,k _ _ (.inl rfl) e,c⟩
 | ins C dx fs=>
  obtain ⟨d,z,ne,e,mA,⟨od,es,ep,e2,c⟩,r⟩:=x
  exact ⟨ho _ d,z,ne,k _ _ (.inl rfl) e,mA,⟨od,es,ep,k _ _ (.inr d) e2,c⟩,r⟩
 | own y=>obtain ⟨ob,e⟩:=x; exact ⟨ob,k _ _ (.inl rfl) e⟩
 | xd fs=>obtain ⟨mA,⟨od,es,ep,e,c⟩,r⟩:=x; exact ⟨mA,⟨od,es,ep,k _ _ (.inl rfl) e,c⟩,r⟩
 | rng lo hi=>obtain ⟨t,u,v,e⟩:=x; exact ⟨t,u,v,k _ _ (.inl rfl) e⟩
 | frz ob u ih=>obtain ⟨e,q⟩:=x; exact ⟨k _ _ (.inl rfl) e,ih q⟩
 | tbl ps=>
  have e:h.get? a=some { cls:=.none,data:=.fields ps }:=x
  show h'.get? a=some { cls:=.none,data:=.fields ps }
  exact k a _ (.inl rfl) e
 | met f y=>
  have e:h.get? a=some (YdI (.ref f) (.ref y)):=x
  show h'.get? a=some (YdI (.ref f) (.ref y))
  exact k a _ (.inl rfl) e
 | ext φ=>obtain ⟨p,⟨o,e⟩,st⟩:=x; exact ⟨st _ _ p fun o q=>k _ _ (.inl rfl) q,⟨o,k _ _ (.inl rfl) e⟩,st⟩
theorem HOk.lt (x:HOk P w H h)(e:H a=some o):a < h.objs.size:=(x a o e).lt
theorem HOk.fresh (x:HOk P w H h)(e:h.objs.size<=a):H a=none:=by
 cases q:H a with
 | none=>rfl
 | some u=>exact absurd (Yaq (x.lt q) e) (Ybi _)
theorem HOk.kept (x:HOk P w H h)(k:∀ b u,h.get? b=some u->h'.get? b=some u):HOk P w H h':=fun a o e=>
 (x a o e).stay (fun b u _ q=>k b u q) (fun _ q=>q) fun _ _ q=>q
theorem HOk.laid (x:HOk P w H h)(k:∀ b u,h.get? b=some u->h'.get? b=some u)(hp:h.objs.size<=a)(new:jaB P w (upd H a o) h' a o):HOk P w (upd H a o) h':=fun b u e=>by
 have hn:=x.fresh hp
 by_cases hb:b=a
 ·subst hb; rw [jag] at e; cases e; exact new
 ·rw [jac hb] at e
  exact (x b u e).stay (fun c v _ q=>k c v q) (fun c q=>by rw [jac (jai q hn)]; exact q) fun c xs q=>by rw [jac (jai q hn)]; exact q
end

noncomputable def Rd (H:Hp)(a:Addr)(u:HO):Prop:=H a=some u\/∃ o,H a=some (.frz o u)
theorem Rd.of {H:Hp}{a:Addr}{u:HO}(h:H a=some u):Rd H a u:=.inl h
theorem Rd.ok {P:Program}{w:World}{H:Hp}{h:Heap}{a:Addr}{u:HO}(r:Rd H a u)(x:HOk P w H h):jaB P w H h a u:=by
 rcases r with r | ⟨o,r⟩
 ·exact x a u r
 ·obtain ⟨_,q⟩:=x a _ r
  exact q
noncomputable def Mut:Option HO->Prop
 | some (.lst _)=>True
 | some (.dK _)=>True
 | some (.dT _)=>True
 | some (.set _ _)=>True
 | some (.ins _ _ _)=>True
 | some (.ext _)=>True
 | _=>False
section
variable {P:Program}{w:World}{H:Hp}{h h':Heap}{x e:Addr}{o':HO}
theorem HOk.write (ok:HOk P w H h)(mu:Mut (H x))(he:e=x\/H e=some (.own x))(k:∀ b u,b≠e->h.get? b=some u->h'.get? b=some u)(heo:∃ u,h'.get? e=some u)
  (new:jaB P w (upd H x o') h' x o'):HOk P w (upd H x o') h':=fun b u q=>by
 have nown:∀ c y,H c=some (.own y)->c≠x:=fun c y r z=>by subst z; rw [r] at mu; exact mu
 have ntup:∀ c xs,H c=some (.tup xs)->c≠x:=fun c xs r z=>by subst z; rw [r] at mu; exact mu
 by_cases hb:b=x
 ·subst hb; rw [jag] at q; cases q; exact new
 ·rw [jac hb] at q
  by_cases hbe:b=e
  ·have q':H b=some (.own x):=by
    rcases he with z | z
    ·exact absurd (hbe.trans z) hb
    ·rw [hbe]; exact z
   rw [q] at q'; cases q'
   obtain ⟨v,hv⟩:=heo
   exact ⟨v,by rw [hbe]; exact hv⟩
  ·refine (ok b u q).stay (fun c v hc r=>k c v ?_ r) (fun c r=>by rw [jac (nown c b r)]; exact r) fun c xs r=>by rw [jac (ntup c xs r)]; exact r
   rcases hc with rfl | hc
   ·exact hbe
   ·rintro rfl
    rcases he with z | z
    ·exact nown c b hc z
    ·rw [hc] at z; cases z; exact hb rfl
end

structure Un (fs ex:List Addr)(H H':Hp)(h h':Heap):Prop where
 keep:∀ b o,h.get? b=some o->H b=none->b∉fs->b∉ex->h'.get? b=some o
 slot:∀ b o,h.get? b=some o->H b=none->b∈fs->b∉ex->∃ sl,h'.get? b=some { o with slots:=sl }
 free:∀ b o,h.get? b=some o->H b=none->b∉ex->H' b=none
 there:∀ b o,h.get? b=some o->b∉ex->∃ o',h'.get? b=some o'
 tups:∀ b xs,H b=some (.tup xs)->H' b=some (.tup xs)
 frzs:∀ b o u,H b=some (.frz o u)->H' b=some (.frz o u)
 tbls:∀ b ps,H b=some (.tbl ps)->∃ more,H' b=some (.tbl (ps++more))
section
variable {fs fs' ex ex':List Addr}{H H1 H2:Hp}{h h1 h2 h':Heap}{a x e:Addr}{o:HO}
theorem Un.any (u:Un fs ex H H1 h h1){b:Addr}{ob:Obj}(q:h.get? b=some ob)(n:H b=none)(hx:b∉ex):∃ sl,h1.get? b=some { ob with slots:=sl }:=by
 by_cases hb:b∈fs
 ·exact u.slot b ob q n hb hx
 ·exact ⟨ob.slots,u.keep b ob q n hb hx⟩
theorem Un.trans (a:Un fs ex H H1 h h1)(b:Un fs ex H1 H2 h1 h2):Un fs ex H H2 h h2 where
 keep:=fun c ob q n hc hx=>b.keep c ob (a.keep c ob q n hc hx) (a.free c ob q n hx) hc hx
 slot:=fun c ob q n hc hx=>by
  obtain ⟨sl,e1⟩:=a.slot c ob q n hc hx
  obtain ⟨sl',e2⟩:=b.slot c _ e1 (a.free c ob q n hx) hc hx
  exact ⟨sl',e2⟩
 free:=fun c ob q n hx=>by
  obtain ⟨o',e1⟩:=a.there c ob q hx
  exact b.free c o' e1 (a.free c ob q n hx) hx
 there:=fun c ob q hx=>by
  obtain ⟨o',e1⟩:=a.there c ob q hx
  exact b.there c o' e1 hx
 tups:=fun c xs q=>b.tups c xs (a.tups c xs q)
 frzs:=fun c ob xs q=>b.frzs c ob xs (a.frzs c ob xs q)
 tbls:=fun c ps q=>by
  obtain ⟨m1,e1⟩:=a.tbls c ps q
  obtain ⟨m2,e2⟩:=b.tbls c _ e1
  exact ⟨m1++m2,by rw [e2,Yfy]⟩
theorem Un.kept (k:∀ b u,h.get? b=some u->h'.get? b=some u):Un fs ex H H h h':=
 ⟨fun b ob q _ _ _=>k b ob q,fun b ob q _ _ _=>⟨ob.slots,k b ob q⟩,fun _ _ _ n _=>n,fun b ob q _=>⟨ob,k b ob q⟩,fun _ _ q=>q,fun _ _ _ q=>q,fun _ ps q=>⟨#[],by rw [q]; simp⟩⟩
theorem Un.refl:Un fs ex H H h h:=Un.kept fun _ _ q=>q
theorem Un.laid (k:∀ b u,h.get? b=some u->h'.get? b=some u)(hp:h.objs.size<=a)(hn:H a=none):Un fs ex H (upd H a o) h h' where
 keep:=fun b u q _ _ _=>k b u q
 slot:=fun b u q _ _ _=>⟨u.slots,k b u q⟩
 free:=fun b u q n _=>by rw [jac (YaF (Yaq (Yaj q) hp))]; exact n
 there:=fun b u q _=>⟨u,k b u q⟩
 tups:=fun b xs q=>by rw [jac (jai q hn)]; exact q
 frzs:=fun b u xs q=>by rw [jac (jai q hn)]; exact q
 tbls:=fun b ps q=>⟨#[],by rw [jac (jai q hn),q]; simp⟩
theorem Un.write (mu:Mut (H x))(he:e=x\/H e=some (.own x))(k:∀ b u,b≠e->h.get? b=some u->h'.get? b=some u)(heo:∃ u,h'.get? e=some u):Un fs ex H (upd H x o) h h':=by
 have hx:∀ b,H b=none->b≠x:=fun b n z=>by subst z; rw [n] at mu; exact mu
 have hb:∀ b,H b=none->b≠e:=fun b n z=>by
  subst z
  rcases he with r | r
  ·exact hx b n r
  ·rw [n] at r; cases r
 have hm:∀ b u,H b=some u->¬ Mut (some u)->b≠x:=fun b u q nm z=>by subst z; rw [q] at mu; exact nm mu
 refine ⟨fun b u q n _ _=>k b u (hb b n) q,fun b u q n _ _=>⟨u.slots,k b u (hb b n) q⟩,fun b u q n _=>by rw [jac (hx b n)]; exact n,fun b u q _=>?_,
  fun b xs q=>by rw [jac (hm b _ q fun z=>z)]; exact q,fun b u xs q=>by rw [jac (hm b _ q fun z=>z)]; exact q,fun b ps q=>⟨#[],by rw [jac (hm b _ q fun z=>z),q]; simp⟩⟩
 by_cases hbe:b=e
 ·subst hbe; exact heo
 ·exact ⟨u,k b u hbe q⟩
end

noncomputable def trk (h:Heap)(H:Hp):List Addr:=(YaK h.objs.size).filter fun a=>(H a).isSome
noncomputable def hidT (h:Heap)(H:Hp):Heap:=PySem.W.hideAll h (trk h H)
theorem jgQ (h:Heap)(H:Hp):(hidT h H).objs.size=h.objs.size:=PySem.W.hideAll_size _ _
theorem jdg {h:Heap}{H:Hp}{b:Addr}{o:Obj}(e:h.get? b=some o)(n:H b=none):(hidT h H).get? b=some o:=
 PySem.W.hideAll_get _ e fun hm=>by
  have q:(H b).isSome=true:=(List.mem_filter.mp hm).2
  rw [n] at q; simp at q
theorem jjN {h:Heap}{H:Hp}{b:Addr}{o:Obj}(e:(hidT h H).get? b=some o):h.get? b=some o/\H b=none:=by
 have e':h.get? b=some o:=PySem.W.of_hideAll (trk h H) e
 refine ⟨e',?_⟩
 cases q:H b with
 | none=>rfl
 | some x=>
  have hm:b∈trk h H:=List.mem_filter.mpr ⟨List.mem_range.mpr (Yaj e'),by simp [q]⟩
  have z:(hidT h H).get? b=none:=PySem.W.hideAll_none (trk h H) hm
  rw [z] at e; cases e

noncomputable def jku (g h:Heap)(L:Addr):List (Addr×Obj):=(YaK h.objs.size).filterMap fun a=>if a=L\/(g.get? a).isSome=true then none else (h.get? a).map fun o=>(a,o)
noncomputable def rest (g h:Heap)(L d:Addr):List (Addr×Obj):=(jku g h L).filter fun p=>decide (p.1≠d)

structure Mod (K:Yaa)(mg:Str->Option Value)(base:Heap):Prop where
 kin:K.In base
 glob:base.Ns YaB mg
 blt:∃ mb,base.Ns YdP mb/\∀ x:Str,x ≠ "__name__" -> mb x=Yco x
 nolimit:base.NoLimit
 sys:∃ o,K.lookup Ya0=some o/\o.cls=.type "dict"

structure Cx where
 prog:Program
 w:World
 K:Yaa
 mg:Str->Option Value
 base:Heap
 A:Around
 N:List Str
 s₀:Shared
 H₀:Hp
 env:Env
 outer:List Env
 stack:List Env
 ex:List Addr
 fn:Str->Bool
 calm:Bool
 pn:List (Addr×Obj)
 xe:Value->Shared->Prop
noncomputable def frs (l:List Env):List Addr:=l.filterMap (·.frame)
noncomputable abbrev Cx.fs (X:Cx):List Addr:=frs X.outer

noncomputable def Vis (sc:Scope)(x:Str):Prop:=sc.names.lookup x=some .local\/sc.names.lookup x=some .cell\/sc.names.lookup x=some .free
noncomputable def Loc (sc:Scope)(x:Str):Prop:=sc.names.lookup x=some .local\/sc.names.lookup x=some .cell
noncomputable def Look (env:Env)(h:Heap)(m:Str->Option Value)(x:Str)(u:Value):Prop:=
 (env.kindOf x=some .local/\m x=some u)\/((env.kindOf x=some .cell\/env.kindOf x=some .free)/\∃ c,env.cells.lookup x=some c/\h.IsCell c (some u))

structure Cx.Ok (X:Cx):Prop where
 mod:Mod X.K X.mg X.base
 kind:X.env.scope.kind=.function
 glob:X.env.globals=YaB
 blt:X.env.builtins=YdP
 above:X.s₀.heap.objs.size<=X.env.locals
 inj:∀ x y c,X.env.cells.lookup x=some c->X.env.cells.lookup y=some c->x=y
 has:∀ x,(X.env.kindOf x=some .cell\/X.env.kindOf x=some .free)->∃ c,X.env.cells.lookup x=some c
 cab:∀ x c,X.fn x=true->X.env.cells.lookup x=some c->X.s₀.heap.objs.size<=c
 hd:X.calm=true->X.A.handled=none
 frames:X.A.frames=some X.stack
 stk:X.stack=X.outer\/(X.stack=X.env::X.outer/\X.env.frame=some X.env.locals)
 exf:∀ b∈X.ex,b≠X.env.locals/\∀ x c,X.env.cells.lookup x=some c->c≠b
 bs:∀ b o,X.base.get? b=some o->X.s₀.heap.get? b=some o/\X.H₀ b=none
 bsz:X.base.objs.size<=X.s₀.heap.objs.size
 noex:∀ b o,X.base.get? b=some o->b∉X.ex
 exfs:∀ b∈X.ex,b∉X.fs
 funs:X.s₀.heap.FunFrames X.base X.outer
 frf:∀ b∈X.fs,X.H₀ b=none

structure Inv (X:Cx)(pins:List (Addr×Obj))(σ:List (Option V))(H:Hp)(s:Shared):Prop where
 ok:X.Ok
 os:s.os=X.s₀.os
 bare:AllBare s.gens
 base:Un X.fs X.ex X.H₀ H X.s₀.heap s.heap
 loc:∃ m,s.heap.Ns X.env.locals m/\∀ (i:Nat) (x:Str) (v:V),X.N[i]?=some x->σ[i]?=some (some v)->Vis X.env.scope x->∃ u,RelV v u/\Look X.env s.heap m x u
 cell:∀ x c,X.env.cells.lookup x=some c->∃ v,s.heap.IsCell c v
 free:H X.env.locals=none
 freeC:∀ x c,X.env.cells.lookup x=some c->H c=none
 pin:∀ p∈X.pn++pins,s.heap.get? p.1=some p.2/\H p.1=none/\p.1≠X.env.locals/\p.1∉X.fs/\∀ v,p.2.data≠.cell v
 hok:HOk X.prog X.w H s.heap
 len:σ.length=X.N.length

section
variable {X:Cx}{pins:List (Addr×Obj)}{σ:List (Option V)}{H H':Hp}{s:Shared}{h':Heap}

theorem Cx.Ok.nofr (ok:X.Ok){b:Addr}{o:Obj}(e:X.base.get? b=some o):b∉X.fs:=fun hb=>by
 have:=(ok.funs.mem hb).1
 rw [e] at this; cases this
theorem Inv.bs (I:Inv X pins σ H s):∀ b o,X.base.get? b=some o->s.heap.get? b=some o/\H b=none:=fun b o e=>
 ⟨I.base.keep b o (I.ok.bs b o e).1 (I.ok.bs b o e).2 (I.ok.nofr e) (I.ok.noex b o e),I.base.free b o (I.ok.bs b o e).1 (I.ok.bs b o e).2 (I.ok.noex b o e)⟩
theorem Inv.bk (I:Inv X pins σ H s):∀ b o,X.base.get? b=some o->s.heap.get? b=some o:=fun b o e=>(I.bs b o e).1
theorem Inv.mod (I:Inv X pins σ H s):Mod X.K X.mg X.base:=I.ok.mod
theorem Inv.kIn (I:Inv X pins σ H s):X.K.In s.heap:=I.ok.mod.kin.keeps I.bk
theorem Inv.lt (I:Inv X pins σ H s):X.env.locals < s.heap.objs.size:=let ⟨_,hn,_⟩:=I.loc; hn.lt
theorem Inv.sz (I:Inv X pins σ H s):X.s₀.heap.objs.size<=s.heap.objs.size:=Yal I.ok.above (YbD I.lt)
theorem Inv.nofs (I:Inv X pins σ H s){a:Addr}(h:s.heap.objs.size<=a):a∉X.fs:=fun hb=>by
 obtain ⟨_,o,ho,_⟩:=I.ok.funs.mem hb
 exact absurd (Yaq (Yaj ho) (Yal I.sz h)) (Ybi _)
theorem Inv.cne (I:Inv X pins σ H s):∀ x c,X.env.cells.lookup x=some c->c≠X.env.locals:=fun x c e z=>by
 obtain ⟨v,o,ho,hd⟩:=I.cell x c e
 obtain ⟨m,⟨o',es,ep,ho',hd',_⟩,_⟩:=I.loc
 rw [z,ho'] at ho; cases ho; rw [hd'] at hd; cases hd
theorem Inv.funs (I:Inv X pins σ H s):s.heap.FunFrames X.base X.outer:=by
 have all:∀ (l:List Env),(∀ b∈frs l,b∈X.fs)->X.s₀.heap.FunFrames X.base l->s.heap.FunFrames X.base l:=by
  intro l
  induction l with
  | nil=>intro _ _; trivial
  | cons env r ih=>
   intro hs hl
   obtain ⟨hk,⟨L,o,hf,hn,ho,hd⟩,hr⟩:=hl
   have hL:L∈X.fs:=hs L (by unfold frs; rw [YcH,hf]; exact Yao)
   obtain ⟨sl,e⟩:=I.base.slot L o ho (I.ok.frf L hL) hL fun z=>I.ok.exfs L z hL
   exact ⟨hk,⟨L,_,hf,hn,e,hd⟩,ih (fun b hb=>hs b (by unfold frs; rw [YcH,hf]; exact Yag _ hb)) hr⟩
 exact all X.outer (fun _ hb=>hb) I.ok.funs

theorem Inv.stack (I:Inv X pins σ H s):s.heap.FunFrames X.base X.stack:=by
 rcases I.ok.stk with e | ⟨e,hf⟩
 ·rw [e]; exact I.funs
 ·rw [e]
  obtain ⟨m,hn,_⟩:=I.loc
  refine .cons (by rw [I.ok.kind]; decide) hf hn ?_ I.funs
  exact Ydt (Yal I.ok.bsz I.ok.above)
theorem Inv.stkSub (I:Inv X pins σ H s):∀ b∈frs X.stack,b∈X.env.locals::X.fs:=fun b hb=>by
 rcases I.ok.stk with e | ⟨e,hf⟩
 ·rw [e] at hb; exact Yag _ hb
 ·rw [e] at hb
  unfold frs at hb
  rw [YcH,hf] at hb
  exact hb
theorem Inv.stkFree (I:Inv X pins σ H s):∀ b∈frs X.stack,H b=none:=fun b hb=>by
 rcases YaI.mp (I.stkSub b hb) with e | hb
 ·rw [e]; exact I.free
 ·obtain ⟨_,o,ho,_⟩:=I.ok.funs.mem hb
  exact I.base.free b o ho (I.ok.frf b hb) fun z=>I.ok.exfs b z hb

theorem Inv.step {g':Array Yen}{t':Nat}{d':Drawn}{ch:List Addr}(I:Inv X pins σ H s)
  (hch:∀ b∈ch,(b∈X.ex\/X.s₀.heap.objs.size<=b)/\b≠X.env.locals/\(∀ x c,X.env.cells.lookup x=some c->c≠b)/\∀ p∈X.pn++pins,p.1≠b)
  (keep:∀ b o,b≠X.env.locals->b∉X.fs->b∉ch->s.heap.get? b=some o->H b=none->h'.get? b=some o)
  (slot:∀ b o,b≠X.env.locals->b∈X.fs->b∉ch->s.heap.get? b=some o->H b=none->∃ sl,h'.get? b=some { o with slots:=sl }) (free:∀ b o,b∉ch->s.heap.get? b=some o->H b=none->H' b=none)
  (there:∀ b o,b∉ch->s.heap.get? b=some o->∃ o',h'.get? b=some o')
  (tups:∀ b xs,H b=some (.tup xs)->H' b=some (.tup xs)) (frzs:∀ b o u,H b=some (.frz o u)->H' b=some (.frz o u)) (tbls:∀ b ps,H b=some (.tbl ps)->∃ more,H' b=some (.tbl (ps++more)))
  (ns:∀ m,s.heap.Ns X.env.locals m->h'.Ns X.env.locals m) (hok:HOk X.prog X.w H' h') (hg:AllBare g') :
  Inv X pins σ H' { s with heap:=h',gens:=g',drawn:=d',toks:=t' }:=by
 have neL:∀ b o,X.s₀.heap.get? b=some o->b≠X.env.locals:=fun b o e=>YaF (Yaq (Yaj e) I.ok.above)
 have neC:∀ b o,X.s₀.heap.get? b=some o->b∉X.ex->b∉ch:=fun b o e hx hb=>by
  rcases (hch b hb).1 with z | z
  ·exact hx z
  ·exact absurd (Yaq (Yaj e) z) (Ybi _)
 have cellK:∀ x c,X.env.cells.lookup x=some c->∀ v,s.heap.IsCell c v->h'.IsCell c v:=fun x c e v ⟨o,ho,hd⟩=>by
  have nch:c∉ch:=fun z=>(hch c z).2.2.1 x c e rfl
  by_cases hc:c∈X.fs
  ·obtain ⟨sl,q⟩:=slot c o (I.cne x c e) hc nch ho (I.freeC x c e)
   exact ⟨_,q,hd⟩
  ·exact ⟨o,keep c o (I.cne x c e) hc nch ho (I.freeC x c e),hd⟩
 refine ⟨I.ok,I.os,hg,⟨fun b o e n hb hx=>?_,fun b o e n hb hx=>?_,fun b o e n hx=>?_,fun b o e hx=>?_,fun b xs e=>tups b xs (I.base.tups b xs e),fun b o xs e=>frzs b o xs (I.base.frzs b o xs e),fun b ps e=>?_⟩,?_,fun x c e=>?_,?_,fun x c e=>?_,fun p hp=>?_,hok,I.len⟩
 ·exact keep b o (neL b o e) hb (neC b o e hx) (I.base.keep b o e n hb hx) (I.base.free b o e n hx)
 ·obtain ⟨sl,e1⟩:=I.base.slot b o e n hb hx
  obtain ⟨sl',e2⟩:=slot b _ (neL b o e) hb (neC b o e hx) e1 (I.base.free b o e n hx)
  exact ⟨sl',e2⟩
 ·obtain ⟨o',e1⟩:=I.base.there b o e hx
  exact free b o' (neC b o e hx) e1 (I.base.free b o e n hx)
 ·obtain ⟨o',e1⟩:=I.base.there b o e hx
  exact there b o' (neC b o e hx) e1
 ·obtain ⟨m1,e1⟩:=I.base.tbls b ps e
  obtain ⟨m2,e2⟩:=tbls b _ e1
  exact ⟨m1++m2,by rw [e2,Yfy]⟩
 ·obtain ⟨m,hn,hl⟩:=I.loc
  refine ⟨m,ns m hn,fun i x v e1 e2 e3=>?_⟩
  obtain ⟨u,r,l⟩:=hl i x v e1 e2 e3
  refine ⟨u,r,?_⟩
  rcases l with l | ⟨k,c,e,z⟩
  ·exact .inl l
  ·exact .inr ⟨k,c,e,cellK x c e _ z⟩
 ·obtain ⟨v,z⟩:=I.cell x c e
  exact ⟨v,cellK x c e v z⟩
 ·obtain ⟨m,⟨o,_,_,ho,_⟩,_⟩:=I.loc
  exact free _ o (fun z=>(hch _ z).2.1 rfl) ho I.free
 ·obtain ⟨v,o,ho,hd⟩:=I.cell x c e
  exact free c o (fun z=>(hch c z).2.2.1 x c e rfl) ho (I.freeC x c e)
 ·obtain ⟨e,n,ne,nf,d⟩:=I.pin p hp
  have nch:p.1∉ch:=fun z=>(hch p.1 z).2.2.2 p hp rfl
  exact ⟨keep p.1 p.2 ne nf nch e n,free p.1 p.2 nch e n,ne,nf,d⟩
theorem Inv.un {t':Nat}(I:Inv X pins σ H s)(u:Un X.fs [] H H' s.heap h')(hok:HOk X.prog X.w H' h'):Inv X pins σ H' { s with heap:=h',toks:=t' }:=by
 obtain ⟨m,⟨o,es,ep,ho,r⟩,_⟩:=id I.loc
 obtain ⟨sl,hL⟩:=u.any ho I.free (by simp)
 exact I.step (g':=s.gens) (d':=s.drawn) (ch:=[]) (fun _ z=>nomatch z) (fun b o _ hb _ e n=>u.keep b o e n hb (by simp)) (fun b o _ hb _ e n=>u.slot b o e n hb (by simp)) (fun b o _ e n=>u.free b o e n (by simp)) (fun b o _ e=>u.there b o e (by simp)) u.tups u.frzs u.tbls (fun m' hm=>by
  obtain ⟨o',es',ep',ho',r'⟩:=hm
  rw [ho] at ho'; cases ho'
  exact ⟨_,es',ep',hL,r'⟩) hok I.bare
theorem Inv.call {g':Array Yen}{t':Nat}{d':Drawn}{ch:List Addr}(I:Inv X pins σ H s)(u:Un (frs X.stack) ch H H' s.heap h')(hok:HOk X.prog X.w H' h')(hg:AllBare g')
  (hch:∀ b∈ch,(b∈X.ex\/X.s₀.heap.objs.size<=b)/\b≠X.env.locals/\(∀ x c,X.env.cells.lookup x=some c->c≠b)/\∀ p∈X.pn++pins,p.1≠b) :
  Inv X pins σ H' { s with heap:=h',gens:=g',drawn:=d',toks:=t' }:=by
 obtain ⟨m,⟨o,es,ep,ho,r⟩,_⟩:=id I.loc
 obtain ⟨sl,hL⟩:=u.any ho I.free fun z=>(hch _ z).2.1 rfl
 exact I.step (ch:=ch) hch (fun b o hL hb hc e n=>u.keep b o e n (fun z=>(YaI.mp (I.stkSub b z)).elim hL hb) hc) (fun b o _ _ hc e n=>u.any e n hc) (fun b o hc e n=>u.free b o e n hc) (fun b o hc e=>u.there b o e hc) u.tups u.frzs u.tbls (fun m' hm=>by
  obtain ⟨o',es',ep',ho',r'⟩:=hm
  rw [ho] at ho'; cases ho'
  exact ⟨_,es',ep',hL,r'⟩) hok hg
theorem Inv.turned {t':Nat}{it:Addr}(I:Inv X pins σ H s)(k:∀ b o,b≠it->s.heap.get? b=some o->h'.get? b=some o)(hn:H it=none)(hL:it≠X.env.locals)
  (h1:it∈X.ex\/X.s₀.heap.objs.size<=it) (h2:∀ x c,X.env.cells.lookup x=some c->c≠it) (h3:∀ p∈X.pn++pins,p.1≠it):Inv X pins σ H { s with heap:=h',toks:=t' }:=by
 have nit:∀ b u,H b=some u->b≠it:=fun b u e z=>by rw [z,hn] at e; cases e
 refine I.step (g':=s.gens) (d':=s.drawn) (ch:=[it]) (fun b hb=>?_) (fun b o _ _ hc e _=>k b o (fun z=>hc (by simp [z])) e) (fun b o _ _ hc e _=>⟨o.slots,k b o (fun z=>hc (by simp [z])) e⟩) (fun _ _ _ _ n=>n)
  (fun b o hc e=>⟨o,k b o (fun z=>hc (by simp [z])) e⟩) (fun _ _ e=>e) (fun _ _ _ e=>e) (fun b ps e=>⟨#[],by rw [e]; simp⟩) (fun m hm=>?_) (fun b u e=>?_) I.bare
 ·have e:b=it:=by simpa using hb
  subst e
  exact ⟨h1,hL,h2,h3⟩
 ·obtain ⟨o,es,ep,ho,r⟩:=hm
  exact ⟨o,es,ep,k _ o (Ne.symm hL) ho,r⟩
 ·refine (I.hok b u e).stay (fun c v hc q=>k c v ?_ q) (fun _ q=>q) fun _ _ q=>q
  rcases hc with z | z
  ·rw [z]; exact nit b u e
  ·exact nit c _ z
theorem Inv.tok (I:Inv X pins σ H s)(t:Nat):Inv X pins σ H { s with toks:=t }:=I.un (h':=s.heap) (t':=t) Un.refl I.hok
theorem Inv.kept {t':Nat}(I:Inv X pins σ H s)(k:∀ b u,s.heap.get? b=some u->h'.get? b=some u):Inv X pins σ H { s with heap:=h',toks:=t' }:=I.un (Un.kept k) (I.hok.kept k)
theorem Inv.laid {a:Addr}{o:HO}{t':Nat}(I:Inv X pins σ H s)(k:∀ b u,s.heap.get? b=some u->h'.get? b=some u)(hp:s.heap.objs.size<=a)(new:jaB X.prog X.w (upd H a o) h' a o) :
  Inv X pins σ (upd H a o) { s with heap:=h',toks:=t' }:=I.un (Un.laid k hp (I.hok.fresh hp)) (I.hok.laid k hp new)
theorem Inv.write {x e:Addr}{o:HO}{t':Nat}(I:Inv X pins σ H s)(mu:Mut (H x))(he:e=x\/H e=some (.own x))(k:∀ b u,b≠e->s.heap.get? b=some u->h'.get? b=some u)(heo:∃ u,h'.get? e=some u)
  (new:jaB X.prog X.w (upd H x o) h' x o):Inv X pins σ (upd H x o) { s with heap:=h',toks:=t' }:=I.un (Un.write mu he k heo) (I.hok.write mu he k heo new)
theorem Inv.pins_of {pins':List (Addr×Obj)}(I:Inv X pins σ H s)(h:∀ p∈pins',s.heap.get? p.1=some p.2/\H p.1=none/\p.1≠X.env.locals/\p.1∉X.fs/\∀ v,p.2.data≠.cell v):Inv X pins' σ H s:=
 ⟨I.ok,I.os,I.bare,I.base,I.loc,I.cell,I.free,I.freeC,fun p hp=>(List.mem_append.mp hp).elim (fun z=>I.pin p (YaR _ z)) (h p),I.hok,I.len⟩

theorem jb2 {N:List Str}(hN:N.Nodup){i j:Nat}{x:Str}(a:N[i]?=some x)(b:N[j]?=some x):i=j:=by
 obtain ⟨h1,e1⟩:=List.getElem?_eq_some_iff.mp a
 obtain ⟨h2,e2⟩:=List.getElem?_eq_some_iff.mp b
 exact (Yf8 hN).mp (e1.trans e2.symm)

theorem jdw {M:Model}{A:Around}{E:Value->Shared->Prop}{i:Nat}{x:Str}{v:V}{u:Value}{Q:Unit->Shared->Prop}(I:Inv X pins σ H s)(hN:X.N.Nodup)(hi:X.N[i]?=some x)(hx:Loc X.env.scope x)(r:RelV v u)
  (h:∀ s',Inv X pins (σ.set i (some v)) H s'->(∃ a,YcQ a s.heap s'.heap/\(a=X.env.locals\/X.env.cells.lookup x=some a))->Q () s') (hf:X.fn x=true\/X.env.scope.names.lookup x=some .local:=by first | exact .inl rfl | exact .inr rfl | assumption):wpAny M A (storeName X.env x u) Q E s:=by
 obtain ⟨m,hn,hl⟩:=id I.loc
 have hcls:(X.env.scope.kind == .class || (X.env.scope.kind == .module && X.env.locals != X.env.globals))=false:=by rw [I.ok.kind]; rfl
 have hiσ:i < σ.length:=by rw [I.len]; exact (List.getElem?_eq_some_iff.mp hi).1
 have cne:=I.cne
 have tracked:∀ {a:Addr} {h':Heap},(∃ o,s.heap.get? a=some o/\H a=none)->YcQ a s.heap h'->HOk X.prog X.w H h':=fun {a h'} ha hs b ob e=>by
  obtain ⟨_,_,hfree⟩:=ha
  refine (I.hok b ob e).stay (fun c w' hc q=>(hs.2 c ?_).trans q) (fun _ q=>q) fun _ _ q=>q
  rintro rfl
  rcases hc with rfl | hc
  ·rw [hfree] at e; cases e
  ·rw [hfree] at hc; cases hc
 rcases hx with hk | hk
 ·refine wpAny_storeName_local hk hn (fun h' hn' hs=>?_) hcls
  obtain ⟨oL,_,_,hoL,_⟩:=id hn
  refine h _ ⟨I.ok,I.os,I.bare,⟨fun b o e n hb hx=>?_,fun b o e n hb hx=>?_,I.base.free,fun b o e hx=>?_,I.base.tups,I.base.frzs,I.base.tbls⟩,⟨_,hn',fun j y v' e1 e2 e3=>?_⟩,fun y c e=>?_,I.free,I.freeC,fun p hp=>?_,tracked ⟨oL,hoL,I.free⟩ hs,by simpa using I.len⟩ ⟨_,hs,.inl rfl⟩
  ·exact (hs.2 b (YaF (Yaq (Yaj e) I.ok.above))).trans (I.base.keep b o e n hb hx)
  ·obtain ⟨sl,e1⟩:=I.base.slot b o e n hb hx
   exact ⟨sl,(hs.2 b (YaF (Yaq (Yaj e) I.ok.above))).trans e1⟩
  ·obtain ⟨o',e1⟩:=I.base.there b o e hx
   exact ⟨o',(hs.2 b (YaF (Yaq (Yaj e) I.ok.above))).trans e1⟩
  ·by_cases hj:j=i
   ·subst hj
    rw [hi] at e1; cases e1
    rw [Ybf hiσ] at e2
    cases e2
    exact ⟨u,r,.inl ⟨hk,by simp⟩⟩
   ·rw [YaS (Ne.symm hj)] at e2
    obtain ⟨u',r',q⟩:=hl j y v' e1 e2 e3
    refine ⟨u',r',?_⟩
    rcases q with ⟨k,e⟩ | ⟨k,c,e,z⟩
    ·refine .inl ⟨k,?_⟩
     have:y≠x:=fun e=>hj (jb2 hN e1 (e ▸ hi))
     simp [this,e]
    ·exact .inr ⟨k,c,e,z.sameBut hs (cne y c e)⟩
  ·obtain ⟨w',z⟩:=I.cell y c e
   exact ⟨w',z.sameBut hs (cne y c e)⟩
  ·obtain ⟨e,n,ne,nf,d⟩:=I.pin p hp
   exact ⟨(hs.2 p.1 ne).trans e,n,ne,nf,d⟩
 ·have hfn:X.fn x=true:=by
   rcases hf with z | z
   ·exact z
   ·rw [z] at hk; cases hk
  obtain ⟨c,hc⟩:=I.ok.has x (.inl hk)
  obtain ⟨w',z⟩:=I.cell x c hc
  refine wpAny_storeName_cell I.ok.kind hk hc z (fun h' hc' hs=>?_)
  obtain ⟨oc,hoc,hocd⟩:=id z
  refine h { s with heap:=h' } ⟨I.ok,I.os,I.bare,⟨fun b o e n hb hx=>?_,fun b o e n hb hx=>?_,I.base.free,fun b o e hx=>?_,I.base.tups,I.base.frzs,I.base.tbls⟩,⟨m,hn.sameBut hs (Ne.symm (cne x c hc)),fun j y v' e1 e2 e3=>?_⟩,fun y c' e=>?_,I.free,I.freeC,fun p hp=>?_,tracked ⟨oc,hoc,I.freeC x c hc⟩ hs,by simpa using I.len⟩ ⟨c,hs,.inr hc⟩
  ·exact (hs.2 b (YaF (Yaq (Yaj e) (I.ok.cab x c hfn hc)))).trans (I.base.keep b o e n hb hx)
  ·obtain ⟨sl,e1⟩:=I.base.slot b o e n hb hx
   exact ⟨sl,(hs.2 b (YaF (Yaq (Yaj e) (I.ok.cab x c hfn hc)))).trans e1⟩
  ·obtain ⟨o',e1⟩:=I.base.there b o e hx
   exact ⟨o',(hs.2 b (YaF (Yaq (Yaj e) (I.ok.cab x c hfn hc)))).trans e1⟩
  ·by_cases hj:j=i
   ·subst hj
    rw [hi] at e1; cases e1
    rw [Ybf hiσ] at e2
    cases e2
    exact ⟨u,r,.inr ⟨.inl hk,c,hc,hc'⟩⟩
   ·rw [YaS (Ne.symm hj)] at e2
    obtain ⟨u',r',q⟩:=hl j y v' e1 e2 e3
    refine ⟨u',r',?_⟩
    rcases q with q | ⟨k,c',e,z'⟩
    ·exact .inl q
    ·refine .inr ⟨k,c',e,z'.sameBut hs ?_⟩
     rintro rfl
     exact hj (jb2 hN e1 (I.ok.inj _ _ _ e hc ▸ hi))
  ·by_cases hcc:c'=c
   ·subst hcc; exact ⟨_,hc'⟩
   ·obtain ⟨w2,z2⟩:=I.cell y c' e
    exact ⟨w2,z2.sameBut hs hcc⟩
  ·obtain ⟨e,n,ne,nf,d⟩:=I.pin p hp
   refine ⟨(hs.2 p.1 ?_).trans e,n,ne,nf,d⟩
   intro q
   rw [q,hoc] at e
   have q':oc=p.2:=Yan e
   exact d w' (by rw [<- q']; exact hocd)
theorem jb0 {M:Model}{A:Around}{E:Value->Shared->Prop}{i:Nat}{x:Str}{v:V}{u:Value}{Q:Unit->Shared->Prop}(I:Inv X pins σ H s)(hN:X.N.Nodup)(hi:X.N[i]?=some x)(hx:Loc X.env.scope x)(r:RelV v u)
  (h:∀ s',Inv X pins (σ.set i (some v)) H s'->Q () s') (hf:X.fn x=true\/X.env.scope.names.lookup x=some .local:=by first | exact .inl rfl | exact .inr rfl | assumption):wpAny M A (storeName X.env x u) Q E s:=
 jdw I hN hi hx r (fun s' I' _=>h s' I') hf
theorem Inv.call' {s':Shared}{ch:List Addr}(I:Inv X pins σ H s)(ho:s'.os=s.os)(u:Un (frs X.stack) ch H H' s.heap s'.heap)(hok:HOk X.prog X.w H' s'.heap)(hg:AllBare s'.gens)
  (hch:∀ b∈ch,(b∈X.ex\/X.s₀.heap.objs.size<=b)/\b≠X.env.locals/\(∀ x c,X.env.cells.lookup x=some c->c≠b)/\∀ p∈X.pn++pins,p.1≠b):Inv X pins σ H' s':=by
 obtain ⟨h',g',d',t',o'⟩:=s'
 have e:o'=s.os:=ho
 subst e
 exact I.call (g':=g') (t':=t') (d':=d') u hok hg hch
end

noncomputable abbrev XK:=Value->Option Addr->Hp->Prop
noncomputable abbrev St:=List (Option V)
noncomputable abbrev VK:=V->Hp->Prop
noncomputable abbrev TE:=St->Hp->VK->Prop
noncomputable abbrev TT:=St->Hp->(Bool->Hp->Prop)->Prop
noncomputable abbrev TA:=St->Hp->(List V->Hp->Prop)->Prop
structure Ends where
 nx:St->Hp->Prop
 rt:VK
 bk:St->Hp->Prop:=fun _ _=>False
 ct:St->Hp->Prop:=fun _ _=>False
noncomputable abbrev TS:=Ends->St->Hp->Prop

noncomputable def EP (X:Cx)(pins:List (Addr×Obj))(σ:St)(Q:VK)(u:Value)(s':Shared):Prop:=∃ v H',Inv X pins σ H' s'/\RelV v u/\Q v H'
noncomputable def TP (X:Cx)(pins:List (Addr×Obj))(σ:St)(Q:Bool->Hp->Prop)(b:Bool)(s':Shared):Prop:=∃ H',Inv X pins σ H' s'/\Q b H'
noncomputable def AP (X:Cx)(pins:List (Addr×Obj))(σ:St)(Q:List V->Hp->Prop)(us:List Value)(s':Shared):Prop:=∃ vs H',Inv X pins σ H' s'/\Vals vs us/\Q vs H'
noncomputable def SP (X:Cx)(pins:List (Addr×Obj))(D:Ends)(f:Flow)(s':Shared):Prop:=
 match f with
 | .next=>∃ σ' H',Inv X pins σ' H' s'/\D.nx σ' H'
 | .brk=>∃ σ' H',Inv X pins σ' H' s'/\D.bk σ' H'
 | .cont=>∃ σ' H',Inv X pins σ' H' s'/\D.ct σ' H'
 | .ret u=>∃ v σ' H',Inv X pins σ' H' s'/\RelV v u/\D.rt v H'

noncomputable def PE (X:Cx)(e:Expr)(t:TE):Prop:=
 ∀ (pins:List (Addr×Obj)) (s:Shared) (σ:St) (H:Hp) (Q:VK),Inv X pins σ H s->t σ H Q->wpAny (model X.prog X.w) X.A (eval e X.env) (EP X pins σ Q) X.xe s
noncomputable def PT (X:Cx)(e:Expr)(t:TT):Prop:=
 ∀ (pins:List (Addr×Obj)) (s:Shared) (σ:St) (H:Hp) (Q:Bool->Hp->Prop),Inv X pins σ H s->t σ H Q->wpAny (model X.prog X.w) X.A (isTrue e X.env (eval e X.env)) (TP X pins σ Q) X.xe s
noncomputable def PW (X:Cx)(e:Expr)(t:TT):Prop:=
 ∀ (whole:Sem Value) (pins:List (Addr×Obj)) (s:Shared) (σ:St) (H:Hp) (Q:Bool->Hp->Prop),Inv X pins σ H s->t σ H Q->wpAny (model X.prog X.w) X.A (isTrue e X.env whole) (TP X pins σ Q) X.xe s
theorem PW.pt {X:Cx}{e:Expr}{t:TT}(h:PW X e t):PT X e t:=h _
noncomputable def PA (X:Cx)(es:List Expr)(t:TA):Prop:=
 ∀ (pos:Pos) (pins:List (Addr×Obj)) (s:Shared) (σ:St) (H:Hp) (Q:List V->Hp->Prop),Inv X pins σ H s->t σ H Q->wpAny (model X.prog X.w) X.A (spliced (backTo pos (Yar es X.env))) (AP X pins σ Q) X.xe s
noncomputable def PS (X:Cx)(st:Stmt)(t:TS):Prop:=
 ∀ (pins:List (Addr×Obj)) (s:Shared) (σ:St) (H:Hp) (D:Ends),Inv X pins σ H s->t D σ H->wpAny (model X.prog X.w) X.A (exec st X.env) (SP X pins D) X.xe s
noncomputable def PSs (X:Cx)(st:List Stmt)(t:TS):Prop:=
 ∀ (pins:List (Addr×Obj)) (s:Shared) (σ:St) (H:Hp) (D:Ends),Inv X pins σ H s->t D σ H->wpAny (model X.prog X.w) X.A (execs st X.env) (SP X pins D) X.xe s
theorem thn {α:Type}{t:Sem α}{Q Q':α->Shared->Prop}{M:Model}{A:Around}{E:Value->Shared->Prop}{s:Shared}(h:wpAny M A t Q E s)(hQ:∀ a s,Q a s->Q' a s):wpAny M A t Q' E s:=YaL h hQ fun _ _ x=>x
section
variable {X:Cx}

noncomputable def tVar (i:Nat):TE:=fun σ H Q=>∃ v,σ[i]?=some (some v)/\Q v H
noncomputable def tC (v:V):TE:=fun _ H Q=>Q v H
theorem ja1 {i:Nat}{x:Str}{pos:Pos}(hN:X.N[i]?=some x)(hv:Vis X.env.scope x)(hd:(x == ("__debug__" : Str))=false:=by decide)(hcd:(x == ("__classdict__" : Str))=false:=by decide):PE X (.Name x pos) (tVar i):=by
 intro pins s σ H Q I h
 obtain ⟨v,e,h⟩:=h
 obtain ⟨m,hn,hl⟩:=I.loc
 obtain ⟨u,r,l⟩:=hl i x v hN e hv
 have fin:EP X pins σ Q u s:=⟨v,H,I,r,h⟩
 rcases l with ⟨hk,hm⟩ | ⟨hk,c,hc,hcell⟩
 ·exact YdO (wpAny_loadName_local I.ok.kind hk hn hm fin) hd
 ·rcases hk with hk | hk
  ·exact YdO (wpAny_loadName_cell I.ok.kind hk hc hcell fin) hd
  ·exact YdO (wpAny_loadName_free I.ok.kind hk hc hcell fin hcd) hd
theorem jit {i j pos}:PE X (.Constant (.int i) j pos) (tC (.int i)):=fun _ _ _ H _ I h=>wpAny_Constant_int ⟨.int i,H,I.tok _,⟨_,rfl⟩,h⟩
theorem jln {b j pos}:PE X (.Constant (.bool b) j pos) (tC (.bl b)):=fun _ _ _ H _ I h=>Constant_bool ⟨.bl b,H,I,rfl,h⟩
theorem jll {j pos}:PE X (.Constant .none j pos) (tC .non):=fun _ _ _ H _ I h=>Constant_none ⟨.non,H,I,rfl,h⟩
theorem jir {x j pos}:PE X (.Constant (.str x) j pos) (tC (.str x)):=fun _ _ _ H _ I h=>YcM ⟨.str x,H,I.tok _,⟨_,rfl⟩,h⟩

noncomputable def Gl (X:Cx)(x:Str):Prop:=X.env.kindOf x=some .globalImplicit
theorem jbM {E:Value->Shared->Prop}{pins:List (Addr×Obj)}{s:Shared}{σ:St}{H:Hp}{x:Str}{u:Value}{pos:Pos}{Q:Value->Shared->Prop}(I:Inv X pins σ H s)(hg:Gl X x)(hm:X.mg x=some u)(h:Q u s)
  (hd:(x == ("__debug__" : Str))=false:=by decide):wpAny (model X.prog X.w) X.A (eval (.Name x pos) X.env) Q E s:=
 Yev I.ok.kind hg (Calls.loadGlobal_global (by rw [I.ok.glob]; exact I.mod.glob.keeps I.bk) hm h) hd
theorem jcL {E:Value->Shared->Prop}{pins:List (Addr×Obj)}{s:Shared}{σ:St}{H:Hp}{x:Str}{u:Value}{pos:Pos}{Q:Value->Shared->Prop}(I:Inv X pins σ H s)(hg:Gl X x)(hm:X.mg x=none)(hv:Yco x=some u)(h:Q u s)
  (hn:x ≠ "__name__" := by decide) (hd:(x == ("__debug__" : Str))=false:=by decide):wpAny (model X.prog X.w) X.A (eval (.Name x pos) X.env) Q E s:=by
 obtain ⟨mb,h1,h2⟩:=I.mod.blt
 exact Yev I.ok.kind hg (Calls.loadGlobal_builtin (by rw [I.ok.glob]; exact I.mod.glob.keeps I.bk) hm (by rw [I.ok.blt]; exact h1.keeps I.bk) ((h2 x hn).trans hv) h) hd
theorem jgf {x:Str}{v:V}{u:Value}{pos:Pos}(hg:Gl X x)(hm:X.mg x=some u)(r:RelV v u)(hd:(x == ("__debug__" : Str))=false:=by decide):PE X (.Name x pos) (tC v):=
 fun _ _ _ H _ I h=>jbM I hg hm ⟨v,H,I,r,h⟩ hd
theorem jjB {x:Str}{v:V}{u:Value}{pos:Pos}(hg:Gl X x)(hm:X.mg x=none)(hv:Yco x=some u)(r:RelV v u)(hn:x ≠ "__name__" := by decide)(hd:(x == ("__debug__" : Str))=false:=by decide):PE X (.Name x pos) (tC v):=
 fun _ _ _ H _ I h=>jcL I hg hm hv ⟨v,H,I,r,h⟩ hn hd

variable {a b:Expr}{ta tb:TE}{pos:Pos}
noncomputable def tB (t:TE):TT:=fun σ H Q=>t σ H fun x H1=>∃ c,x=.bl c/\Q c H1
theorem jk9 {e:Expr}{t:TE}(h:PE X e t)(he:∀ whole,isTrue e X.env whole=(do let v <- whole; standAt e.pos; holding [v] (truthy v)):=by intro _; rfl):PT X e (tB t):=by
 intro pins s σ H Q I hw
 refine isTrue_plain (thn (h pins s σ H _ I hw) fun v s1 ⟨x,H1,I1,r1,q1⟩=>?_) (he _)
 obtain ⟨d,rfl,q⟩:=q1
 cases r1
 exact Yb7 ⟨H1,I1,q⟩

variable {tA tB':TT}{rest:List Expr}
noncomputable def tAnd (t u:TT):TT:=fun σ H Q=>t σ H fun c H1=>if c=true then u σ H1 Q else Q false H1
noncomputable def tOr (t u:TT):TT:=fun σ H Q=>t σ H fun c H1=>if c=true then Q true H1 else u σ H1 Q
noncomputable def tNot (t:TT):TT:=fun σ H Q=>t σ H fun c H1=>Q (!c) H1
theorem pw_and1 (ha:PT X a tA):PW X (.BoolOp .And [a] pos) tA:=by
 intro wh pins s σ H Q I h
 refine isTrue_and (thn (ha pins s σ H Q I h) fun c s1 e=>?_)
 cases c with
 | true=>exact isTrue_and_nil e
 | false=>exact e
theorem pw_or1 (ha:PT X a tA):PW X (.BoolOp .Or [a] pos) tA:=by
 intro wh pins s σ H Q I h
 refine isTrue_or (thn (ha pins s σ H Q I h) fun c s1 e=>?_)
 cases c with
 | false=>exact isTrue_or_nil e
 | true=>exact e
theorem pw_and (ha:PT X a tA)(hb:PW X (.BoolOp .And (b::rest) pos) tB'):PW X (.BoolOp .And (a::b::rest) pos) (tAnd tA tB'):=by
 intro wh pins s σ H Q I h
 refine isTrue_and (thn (ha pins s σ H _ I h) fun c s1 ⟨H1,I1,q1⟩=>?_)
 cases c with
 | true=>exact hb wh pins s1 σ H1 Q I1 q1
 | false=>exact ⟨H1,I1,q1⟩
theorem pw_or (ha:PT X a tA)(hb:PW X (.BoolOp .Or (b::rest) pos) tB'):PW X (.BoolOp .Or (a::b::rest) pos) (tOr tA tB'):=by
 intro wh pins s σ H Q I h
 refine isTrue_or (thn (ha pins s σ H _ I h) fun c s1 ⟨H1,I1,q1⟩=>?_)
 cases c with
 | true=>exact ⟨H1,I1,q1⟩
 | false=>exact hb wh pins s1 σ H1 Q I1 q1
theorem jiq (ha:PT X a tA):PT X (.UnaryOp .Not a pos) (tNot tA):=by
 intro pins s σ H Q I h
 exact isTrue_not (ha pins s σ H (fun c H1=>Q (!c) H1) I h)
noncomputable def jns (ta tb:TE):TE:=fun σ H Q=>ta σ H fun x H1=>∃ c,x=.bl c/\if c=true then tb σ H1 Q else Q (.bl false) H1
noncomputable def tOrV (ta tb:TE):TE:=fun σ H Q=>ta σ H fun x H1=>∃ c,x=.bl c/\if c=true then Q (.bl true) H1 else tb σ H1 Q
noncomputable def jnn (ta:TE):TE:=fun σ H Q=>ta σ H fun x H1=>∃ c,x=.bl c/\Q (.bl (!c)) H1
theorem jeZ {op}{t:TE}(h:PE X a t):PE X (.BoolOp op [a] pos) t:=fun pins s σ H Q I hw=>BoolOp_one (h pins s σ H Q I hw)
theorem jlo (ha:PE X a ta)(hb:PE X (.BoolOp .And (b::rest) pos) tb):PE X (.BoolOp .And (a::b::rest) pos) (jns ta tb):=by
 intro pins s σ H Q I h
 refine BoolOp_and (thn (ha pins s σ H _ I h) fun v s1 ⟨x,H1,I1,r1,q1⟩=>?_)
 obtain ⟨c,rfl,q1⟩:=q1
 cases r1
 refine Yb7 ?_
 cases c with
 | true=>exact hb pins s1 σ H1 Q I1 q1
 | false=>exact ⟨.bl false,H1,I1,rfl,q1⟩
theorem jnK (ha:PE X a ta)(hb:PE X (.BoolOp .Or (b::rest) pos) tb):PE X (.BoolOp .Or (a::b::rest) pos) (tOrV ta tb):=by
 intro pins s σ H Q I h
 refine BoolOp_or (thn (ha pins s σ H _ I h) fun v s1 ⟨x,H1,I1,r1,q1⟩=>?_)
 obtain ⟨c,rfl,q1⟩:=q1
 cases r1
 refine Yb7 ?_
 cases c with
 | false=>exact hb pins s1 σ H1 Q I1 q1
 | true=>exact ⟨.bl true,H1,I1,rfl,q1⟩
theorem jlk (ha:PE X a ta):PE X (.UnaryOp .Not a pos) (jnn ta):=by
 intro pins s σ H Q I h
 refine UnaryOp_ (thn (ha pins s σ H _ I h) fun v s1 ⟨x,H1,I1,r1,q1⟩=>?_)
 obtain ⟨c,rfl,q1⟩:=q1
 cases r1
 exact not_of (Yb7 ⟨.bl (!c),H1,I1,rfl,q1⟩)
noncomputable def tIf (t:TT)(ta tb:TE):TE:=fun σ H Q=>t σ H fun c H1=>if c=true then ta σ H1 Q else tb σ H1 Q
theorem jhO {c:Expr}(hc:PT X c tA)(ha:PE X a ta)(hb:PE X b tb):PE X (.IfExp c a b pos) (tIf tA ta tb):=by
 intro pins s σ H Q I h
 refine wpAny_IfExp (thn (hc pins s σ H _ I h) fun d s1 ⟨H1,I1,q1⟩=>?_)
 cases d with
 | true=>exact ha pins s1 σ H1 Q I1 q1
 | false=>exact hb pins s1 σ H1 Q I1 q1
end

noncomputable def SqL (K:Yaa)(H:Hp)(a:Addr)(xs:List V):Prop:=
 Rd H a (.lst xs)\/
  ∃ (o:Obj) (its:Array Value) (n:Nat),K.lookup a=some o/\o.cls=.type "list" /\ o.dict=none/\o.data=.seq its n/\its.size<=Yae/\Vals xs its.toList
noncomputable def SqT (K:Yaa)(H:Hp)(a:Addr)(xs:List V):Prop:=
 Rd H a (.tup xs)\/
  ∃ (o:Obj) (its:Array Value) (n:Nat),K.lookup a=some o/\o.cls=.type "tuple" /\ o.data=.seq its n/\its.size<=Yae/\Vals xs its.toList
noncomputable def absV:Value->Option V
 | .none=>some .non
 | .bool b=>some (.bl b)
 | .int i _=>some (.int i)
 | .str x _=>some (.str x)
 | .bytes b _=>some (.byt b)
 | .float b _=>some (.flt b)
 | .ref a=>some (.ref a)
 | .type n=>some (.ty n)
 | _=>none
theorem RelV.abs {x:V}{u:Value}(r:RelV x u):absV u=some x:=by
 cases x with
 | non=>cases r; rfl
 | bl _=>cases r; rfl
 | int _=>obtain ⟨t,rfl⟩:=r; rfl
 | str _=>obtain ⟨t,rfl⟩:=r; rfl
 | byt _=>obtain ⟨t,rfl⟩:=r; rfl
 | flt _=>obtain ⟨t,rfl⟩:=r; rfl
 | ref _=>cases r; rfl
 | ty _=>cases r; rfl
theorem RelV.inj {x y:V}{u:Value}(r:RelV x u)(q:RelV y u):x=y:=Yan (r.abs.symm.trans q.abs)
theorem Vals.inj:∀ {xs ys:List V} {us:List Value},Vals xs us->Vals ys us->xs=ys
 | _,_,_,.nil,.nil=>rfl
 | _,_,_,.cons r t,.cons r' t'=>by rw [r.inj r',Vals.inj t t']
section
variable {X:Cx}{pins:List (Addr×Obj)}{σ:St}{H:Hp}{s:Shared}{a:Addr}{xs ys:List V}
theorem SqL.of {K:Yaa}(h:H a=some (.lst xs)):SqL K H a xs:=.inl (.inl h)
theorem SqT.of {K:Yaa}(h:H a=some (.tup xs)):SqT K H a xs:=.inl (.inl h)
theorem Inv.list (I:Inv X pins σ H s)(h:SqL X.K H a xs):∃ its:List Value,Vals xs its/\PlainL s.heap a its.toArray/\xs.length<=Yae:=by
 rcases h with h | ⟨o,its,n,hk,hc,hd,hs,hz,r⟩
 ·obtain ⟨z,its,n,r,e⟩:=h.ok I.hok
  exact ⟨its,r,⟨_,n,e,rfl,rfl,rfl⟩,z⟩
 ·refine ⟨its.toList,r,⟨o,n,I.kIn a o hk,hc,hd,by simpa using hs⟩,?_⟩
  have e:=r.length
  simp only [Ycc] at e
  omega
theorem Inv.tuple (I:Inv X pins σ H s)(h:SqT X.K H a xs):∃ its:List Value,Vals xs its/\IsTup s.heap a its.toArray/\xs.length<=Yae:=by
 rcases h with h | ⟨o,its,n,hk,hc,hs,hz,r⟩
 ·obtain ⟨z,its,r,p⟩:=h.ok I.hok
  exact ⟨its,r,p.tup,z⟩
 ·refine ⟨its.toList,r,⟨o,I.kIn a o hk,hc,n,by simpa using hs⟩,?_⟩
  have e:=r.length
  simp only [Ycc] at e
  omega
theorem Inv.list_inj (I:Inv X pins σ H s)(h:SqL X.K H a xs)(h':SqL X.K H a ys):xs=ys:=by
 obtain ⟨its,r,⟨o,n,e,_,_,d⟩,_⟩:=I.list h
 obtain ⟨its',r',⟨o',n',e',_,_,d'⟩,_⟩:=I.list h'
 rw [e] at e'; cases e'
 rw [d] at d'
 injection d' with d1 _
 have:its=its':=by simpa using congrArg Array.toList d1
 subst this
 exact r.inj r'
theorem Inv.tuple_inj (I:Inv X pins σ H s)(h:SqT X.K H a xs)(h':SqT X.K H a ys):xs=ys:=by
 obtain ⟨its,r,⟨o,e,_,n,d⟩,_⟩:=I.tuple h
 obtain ⟨its',r',⟨o',e',_,n',d'⟩,_⟩:=I.tuple h'
 rw [e] at e'; cases e'
 rw [d] at d'
 injection d' with d1 _
 have:its=its':=by simpa using congrArg Array.toList d1
 subst this
 exact r.inj r'
end

noncomputable abbrev Cx.wish (X:Cx)(E:Value->Shared->Prop):Cx:={ X with xe:=E }
noncomputable abbrev Cx.nox (X:Cx):Cx:=X.wish fun _ _=>False
theorem Cx.Ok.wish {X:Cx}(ok:X.Ok)(E:Value->Shared->Prop):(X.wish E).Ok:=
 ⟨ok.mod,ok.kind,ok.glob,ok.blt,ok.above,ok.inj,ok.has,ok.cab,ok.hd,ok.frames,ok.stk,ok.exf,ok.bs,ok.bsz,ok.noex,ok.exfs,ok.funs,ok.frf⟩
theorem Cx.Ok.unwish {X:Cx}{E:Value->Shared->Prop}(ok:(X.wish E).Ok):X.Ok:=
 ⟨ok.mod,ok.kind,ok.glob,ok.blt,ok.above,ok.inj,ok.has,ok.cab,ok.hd,ok.frames,ok.stk,ok.exf,ok.bs,ok.bsz,ok.noex,ok.exfs,ok.funs,ok.frf⟩
section
variable {X:Cx}{pins:List (Addr×Obj)}{σ:St}{H:Hp}{s:Shared}{E:Value->Shared->Prop}
theorem Inv.wish (I:Inv X pins σ H s)(E:Value->Shared->Prop):Inv (X.wish E) pins σ H s:=⟨I.ok.wish E,I.os,I.bare,I.base,I.loc,I.cell,I.free,I.freeC,I.pin,I.hok,I.len⟩
theorem Inv.unwish (I:Inv (X.wish E) pins σ H s):Inv X pins σ H s:=⟨I.ok.unwish,I.os,I.bare,I.base,I.loc,I.cell,I.free,I.freeC,I.pin,I.hok,I.len⟩
theorem SP.unwish {D:Ends}{f:Flow}{s':Shared}(h:SP (X.wish E) pins D f s'):SP X pins D f s':=by
 cases f with
 | next=>obtain ⟨σ',H',I,q⟩:=h; exact ⟨σ',H',I.unwish,q⟩
 | brk=>obtain ⟨σ',H',I,q⟩:=h; exact ⟨σ',H',I.unwish,q⟩
 | cont=>obtain ⟨σ',H',I,q⟩:=h; exact ⟨σ',H',I.unwish,q⟩
 | ret u=>obtain ⟨v,σ',H',I,r,q⟩:=h; exact ⟨v,σ',H',I.unwish,r,q⟩
end

section
variable {X:Cx}{st:Stmt}{rest:List Stmt}{t u:TS}{e:Expr}{te:TE}{pos:Pos}
noncomputable def jnp:TS:=fun D σ H=>D.nx σ H
noncomputable def tSeq (t u:TS):TS:=fun D σ H=>t { D with nx:=u D } σ H
theorem jef:PSs X [] jnp:=fun _ _ σ H _ I h=>YdD ⟨σ,H,I,h⟩
theorem jc6 (h1:PS X st t)(h2:PSs X rest u):PSs X (st::rest) (tSeq t u):=by
 intro pins s σ H D I h
 refine YbN (thn (h1 pins s σ H { D with nx:=u D } I h) fun f s1 q=>?_)
 cases f with
 | next=>
  obtain ⟨σ',H',I',q⟩:=q
  exact h2 pins s1 σ' H' D I' q
 | ret v=>exact q
 | brk=>exact q
 | cont=>exact q
theorem jjk (h1:PS X st t):PSs X [st] t:=by
 intro pins s σ H D I h
 refine YbN (thn (h1 pins s σ H D I h) fun f s1 q=>?_)
 cases f with
 | next=>exact YdD q
 | ret v=>exact q
 | brk=>exact q
 | cont=>exact q
theorem Inv.quiet {pins:List (Addr×Obj)}{σ:St}{H:Hp}{s:Shared}(I:Inv X pins σ H s):interactive X.env=false:=by simp [interactive,I.ok.kind]
noncomputable def jnq (te:TE):TS:=fun D σ H=>te σ H fun _ H1=>D.nx σ H1
theorem jjm (he:PE X e te)(hs:Ycf e none pos.line X.env=pure false:=by rfl):PS X (.Expr e pos) (jnq te):=by
 intro pins s σ H D I h
 exact wpAny_Expr_any (thn (he pins s σ H _ I h) fun v s1 ⟨x,H1,I1,r1,q1⟩=>⟨σ,H1,I1,q1⟩) I.quiet hs
noncomputable def tRet (te:TE):TS:=fun D σ H=>te σ H D.rt
theorem jla (he:PE X e te):PS X (.Return (some e) pos) (tRet te):=by
 intro pins s σ H D I h
 exact wpAny_Return_some (thn (he pins s σ H _ I h) fun v s1 ⟨x,H1,I1,r1,q1⟩=>⟨x,σ,H1,I1,r1,q1⟩)
noncomputable def tIfS (c:TT)(t u:TS):TS:=fun D σ H=>c σ H fun b H1=>if b=true then t D σ H1 else u D σ H1
theorem jlc {c:Expr}{a b:List Stmt}{tc:TT}(hc:PT X c tc)(ha:PSs X a t)(hb:PSs X b u):PS X (.If c a b pos) (tIfS tc t u):=by
 intro pins s σ H D I h
 refine wpAny_If (thn (hc pins s σ H _ I h) fun d s1 ⟨H1,I1,q1⟩=>?_)
 cases d with
 | true=>exact ha pins s1 σ H1 D I1 q1
 | false=>exact hb pins s1 σ H1 D I1 q1
end

noncomputable abbrev TG:=V->St->Hp->(St->Hp->Prop)->Prop
noncomputable abbrev TGs:=List V->St->Hp->(St->Hp->Prop)->Prop
noncomputable def PG (X:Cx)(target:Expr)(t:TG):Prop:=
 ∀ (pins:List (Addr×Obj)) (s:Shared) (σ:St) (H:Hp) (v:V) (u:Value) (Q:St->Hp->Prop),Inv X pins σ H s->RelV v u->t v σ H Q->
  wpAny (model X.prog X.w) X.A (assign target X.env u) (fun _ s'=>∃ σ' H',Inv X pins σ' H' s'/\Q σ' H') X.xe s
noncomputable def PGs (X:Cx)(ts:List Expr)(t:TGs):Prop:=
 ∀ (pins:List (Addr×Obj)) (s:Shared) (σ:St) (H:Hp) (vs:List V) (us:List Value) (Q:St->Hp->Prop),Inv X pins σ H s->Vals vs us->t vs σ H Q->
  wpAny (model X.prog X.w) X.A (assignInOrder ((YaY ts X.env).map (·.2)) us) (fun _ s'=>∃ σ' H',Inv X pins σ' H' s'/\Q σ' H') X.xe s
noncomputable abbrev TSet:=V->V->V->Hp->(Hp->Prop)->Prop
noncomputable def PSet (X:Cx)(t:TSet):Prop:=
 ∀ (pins:List (Addr×Obj)) (s:Shared) (σ:St) (H:Hp) (o i v:V) (ov iv u:Value) (Q:Hp->Prop),Inv X pins σ H s->RelV o ov->RelV i iv->RelV v u->t o i v H Q->
  wpAny (model X.prog X.w) X.A (setItem ov iv u) (fun _ s'=>∃ H',Inv X pins σ H' s'/\Q H') X.xe s
section
variable {X:Cx}{pos:Pos}
noncomputable def jgS (i:Nat):TG:=fun v σ H Q=>Q (σ.set i (some v)) H
theorem jeg {i:Nat}{x:Str}(hN:X.N.Nodup)(hi:X.N[i]?=some x)(hx:Loc X.env.scope x)(hf:X.fn x=true\/X.env.scope.names.lookup x=some .local:=by first | exact .inl rfl | exact .inr rfl | assumption):PG X (.Name x pos) (jgS i):=by
 intro pins s σ H v u Q I r h
 exact wpAny_assign_Name (jb0 I hN hi hx r (fun s' I'=>⟨_,H,I',h⟩) hf)
noncomputable def gNil:TGs:=fun vs σ H Q=>vs=[]/\Q σ H
noncomputable def joa (t:TG)(u:TGs):TGs:=fun vs σ H Q=>∃ v r,vs=v::r/\t v σ H fun σ' H'=>u r σ' H' Q
theorem jjw:PGs X [] gNil:=by
 intro pins s σ H vs us Q I r h
 obtain ⟨e,h⟩:=h
 subst e
 cases r
 exact assignInOrder_nil ⟨σ,H,I,h⟩
theorem jhM {e:Expr}{es:List Expr}{t:TG}{u:TGs}(h1:PG X e t)(h2:PGs X es u)
  (hs:(YaY (e::es) X.env).map (·.2)=assign e X.env::(YaY es X.env).map (·.2):=by rfl):PGs X (e::es) (joa t u):=by
 intro pins s σ H vs us Q I r h
 obtain ⟨v,vr,e1,h⟩:=h
 subst e1
 cases r with
 | cons r rr=>
  rw [hs]
  refine assignInOrder_cons (thn (h1 pins s σ H _ _ _ I r h) fun _ s1 ⟨σ1,H1,I1,q1⟩=>?_)
  exact h2 pins s1 σ1 H1 _ _ Q I1 rr q1
noncomputable def gTup (K:Yaa)(n:Nat)(t:TGs):TG:=fun v σ H Q=>∃ a xs,v=.ref a/\SqT K H a xs/\xs.length=n/\t xs σ H Q
theorem jlg {es:List Expr}{k:Nat}{t:TGs}{n:Nat}(hc:X.calm=true)(h:PGs X es t)
  (hn:(YaY es X.env).length=n:=by rfl) (hst:(YaY es X.env).findIdx? (·.1)=none:=by rfl):PG X (.Tuple es k pos) (gTup X.K n t):=by
 intro pins s σ H v u Q I r hw
 obtain ⟨a,xs,e1,hq,hl,hw⟩:=hw
 subst e1
 cases r
 obtain ⟨its,rv,ht,hz⟩:=I.tuple hq
 refine assign_Tuple_tuple (I.ok.hd hc) ht (by simp [hn,<- hl,rv.length]) hst fun h' hx=>?_
 have I1:Inv X pins σ H { s with heap:=h' }:=I.kept (t':=s.toks) fun b o e=>hx b o (YaF (Yaj e)) e
 exact h pins _ σ H xs _ Q I1 (by simpa using rv) hw
noncomputable def gSub (to ti:TE)(t:TSet):TG:=fun v σ H Q=>to σ H fun o H1=>ti σ H1 fun i H2=>t o i v H2 fun H3=>Q σ H3
theorem jlh {o i:Expr}{to ti:TE}{t:TSet}(ho:PE X o to)(hi:PE X i ti)(hs:PSet X t)
  (ha:∀ v,assign (.Subscript o i pos) X.env v=(do
   let ov <- holding [v] (eval o X.env)
   let iv <- holding [v,ov] (eval i X.env)
   standAt pos
   holding [v,ov,iv] (setItem ov iv v)
   release [v,ov,iv] []):=by intro _; rfl):PG X (.Subscript o i pos) (gSub to ti t):=by
 intro pins s σ H v u Q I r h
 rw [ha]
 refine Yab (Ybc (thn (ho pins s σ H _ I h) fun ov s1 ⟨x,H1,I1,r1,q1⟩=>?_))
 refine Yab (Ybc (thn (hi pins s1 σ H1 _ I1 q1) fun iv s2 ⟨y,H2,I2,r2,q2⟩=>?_))
 refine Yab (Yb8 (Yab (Ybc (thn (hs pins s2 σ H2 x y v ov iv u _ I2 r1 r2 r q2) fun _ s3 ⟨H3,I3,q3⟩=>?_))))
 exact wpAny_release ⟨σ,H3,I3,q3⟩
noncomputable def tAsg (te:TE)(g:TG):TS:=fun D σ H=>te σ H fun x H1=>g x σ H1 D.nx
theorem jeW {tg e:Expr}{te:TE}{g:TG}(he:PE X e te)(hg:PG X tg g)(hs:Yby [tg] e pos.line X.env=pure false:=by rfl)(hw:Ybt [tg] e X.env=pure none:=by rfl)
  (h1:(YaY [tg] X.env).map (·.2)=[assign tg X.env]:=by rfl):PS X (.Assign [tg] e pos) (tAsg te g):=by
 intro pins s σ H D I h
 refine wpAny_Assign_stores (thn (he pins s σ H _ I h) fun v s1 ⟨x,H1,I1,r1,q1⟩=>?_) hs hw
 rw [h1]
 exact thn (hg pins s1 σ H1 x v _ I1 r1 q1) fun _ s2 q=>q
noncomputable def PGet (X:Cx)(t:V->V->Hp->VK->Prop):Prop:=
 ∀ (pins:List (Addr×Obj)) (s:Shared) (σ:St) (H:Hp) (o i:V) (ov iv:Value) (Q:VK),Inv X pins σ H s->RelV o ov->RelV i iv->t o i H Q->
  wpAny (model X.prog X.w) X.A (getItem ov iv) (EP X pins σ Q) X.xe s
end

section
variable {X:Cx}{pos:Pos}
end

structure It where
 go:Nat->Hp->Prop
 yld:Nat->Hp->V->Hp->Prop
 stop:Nat->Hp->Prop
noncomputable def FpOk (X:Cx)(pins:List (Addr×Obj))(H:Hp)(b:Addr):Prop:=
 H b=none/\b≠X.env.locals/\b∉X.fs/\(b∈X.ex\/X.s₀.heap.objs.size<=b)/\(∀ x c,X.env.cells.lookup x=some c->c≠b)/\∀ p∈X.pn++pins,p.1≠b
theorem Inv.fpOk {X:Cx}{pins:List (Addr×Obj)}{σ:St}{H H':Hp}{s:Shared}{b:Addr}(I:Inv X pins σ H s)(hb:s.heap.objs.size<=b)(hn:H' b=none):FpOk X pins H' b:=by
 refine ⟨hn,Yfg (Yaq I.lt hb),I.nofs hb,.inr (Yal I.sz hb),fun x c e z=>?_,fun p hp z=>?_⟩
 ·obtain ⟨v,q⟩:=I.cell x c e
  exact absurd (Yaq q.lt (by rw [z]; exact hb)) (Ybi _)
 ·exact absurd (Yaq (Yaj (I.pin p hp).1) (by rw [z]; exact hb)) (Ybi _)
structure Turn (P:Program)(w:World)(K:Yaa)(tg:Expr)(J:It)(fp:List Addr)(it:Addr)(tn:Nat->Heap->Prop):Prop where
 mem:it∈fp
 obj:∀ i h,tn i h->∀ b∈fp,∃ o,h.get? b=some o/\∀ v,o.data≠.cell v
 keep:∀ i h h',tn i h->(∀ b∈fp,∀ o,h.get? b=some o->h'.get? b=some o)->tn i h'
 item:∀ (X:Cx),X.prog=P->X.w=w->X.K=K->X.calm=true->∀ (i:Nat) (pins:List (Addr×Obj)) (s:Shared) (σ:St) (H:Hp) (E:Value->Shared->Prop),Inv X pins σ H s->(∀ b∈fp,FpOk X pins H b)->tn i s.heap->J.go i H->
  wpAny (model P w) X.A (pyNext (.ref it)) (fun r s1=>∃ u,r=some u/\
   wpAny (model P w) X.A (YcW tg (.ref it) u) (fun _ s2=>∃ x H',Inv X pins σ H' s2/\RelV x u/\J.yld i H x H'/\tn (i + 1) s2.heap/\∀ b∈fp,H' b=none) E s1) E s
 done:∀ (X:Cx),X.prog=P->X.w=w->X.K=K->X.calm=true->∀ (i:Nat) (pins:List (Addr×Obj)) (s:Shared) (σ:St) (H:Hp) (E:Value->Shared->Prop),Inv X pins σ H s->(∀ b∈fp,FpOk X pins H b)->tn i s.heap->J.stop i H->
  wpAny (model P w) X.A (pyNext (.ref it)) (fun r s1=>r=none/\Inv X pins σ H s1) E s
 self:∀ (A:Around) (i:Nat) (s:Shared) (Q:Value->Shared->Prop) (E:Value->Shared->Prop),tn i s.heap->Q (.ref it) s->wpAny (model P w) A (pyIter (.ref it)) Q E s
noncomputable abbrev TI:=St->Hp->(It->Hp->Prop)->Prop
noncomputable def PIE (X:Cx)(pins:List (Addr×Obj))(σ:St)(tg:Expr)(R:It->Hp->Prop)(itv:Value)(s2:Shared):Prop:=
 ∃ (it:Addr) (fp:List Addr) (tn:Nat->Heap->Prop) (J:It) (H':Hp),itv=.ref it/\Inv X pins σ H' s2/\Turn X.prog X.w X.K tg J fp it tn/\tn 0 s2.heap/\(∀ b∈fp,FpOk X pins H' b)/\R J H'
noncomputable def PI (X:Cx)(tg iter:Expr)(wi:TI):Prop:=
 ∀ (pins:List (Addr×Obj)) (s:Shared) (σ:St) (H:Hp) (R:It->Hp->Prop),Inv X pins σ H s->wi σ H R->
  wpAny (model X.prog X.w) X.A (eval iter X.env) (fun v s1=>wpAny (model X.prog X.w) X.A (pyIter v) (PIE X pins σ tg R) X.xe s1) X.xe s

theorem jh4 {M : Model}{A : Around}{E : Value -> Shared -> Prop}{s : Shared}{tg : Expr}{it : Addr}{u : Value}{o : Obj}{n : String}{vs : Array Value}{Q : Unit -> Shared -> Prop}(ho : s.heap.get? it = some o)(hc : o.cls = .type n)(hd : o.data = .fields vs)
    (hn : ["enumerate", "zip", "dict_itemiterator", "dict_reverseitemiterator", "odict_iterator", "itertools.zip_longest", "itertools.pairwise"].contains n = false) (hQ : Q () s) : wpAny M A (YcW tg (.ref it) u) Q E s := by
  unfold YcW
  cases tg <;> first
    | exact Yah hQ
    | (cases u <;> first
        | exact Yah hQ
        | (refine Yab (wpAny_load ho ?_)
           rw [hc, hd]
           show wpAny M A (if (["enumerate", "zip", "dict_itemiterator", "dict_reverseitemiterator", "odict_iterator", "itertools.zip_longest", "itertools.pairwise"].contains n && vs[0]? == some (rawInt _)) = true then _ else _) Q E s
           rw [if_neg (by intro h; rw [hn, Bool.false_and] at h; cases h)]
           exact Yah hQ))

noncomputable def Itl (K:Yaa)(a:Addr):It:=
 ⟨fun i H=>∃ xs x,SqL K H a xs/\xs[i]?=some x,fun i H x H'=>H'=H/\∀ xs,SqL K H a xs->xs[i]?=some x,fun i H=>∃ xs,SqL K H a xs/\xs.length<=i⟩
noncomputable def Itt (K:Yaa)(a:Addr):It:=
 ⟨fun i H=>∃ xs x,SqT K H a xs/\xs[i]?=some x,fun i H x H'=>H'=H/\∀ xs,SqT K H a xs->xs[i]?=some x,fun i H=>∃ xs,SqT K H a xs/\xs.length<=i⟩
noncomputable def Itr (lo:Int)(n:Nat):It:=⟨fun i _=>i < n,fun i H x H'=>H'=H/\x=.int (lo + i),fun i _=>n<=i⟩
theorem jfN {P:Program}{w:World}{K:Yaa}{tg:Expr}(a it:Addr):Turn P w K tg (Itl K a) [it] it (fun i h=>h.IsListIter it a i) where
 mem:=by simp
 obj:=fun i h st b hb=>by
  have e:b=it:=by simpa using hb
  subst e
  obtain ⟨o,e,c,d⟩:=st
  exact ⟨o,e,fun v z=>by rw [d] at z; cases z⟩
 keep:=fun i h h' st k=>st.at fun o e=>k it (by simp) o e
 item:=by
  intro X hP hw hK hc i pins s σ H E I hf st hg
  subst hP hw hK
  obtain ⟨xs,x,hq,hx⟩:=hg
  obtain ⟨its,rv,p,hz⟩:=I.list hq
  obtain ⟨u,hu,ru⟩:=rv.get hx
  obtain ⟨f0,f1,f2,f3,f4,f5⟩:=hf it (by simp)
  refine YfO st p.isList (x:=u) (by simpa using hu) fun h' st' sb=>?_
  have I1:Inv X pins σ H { s with heap:=h' }:=I.turned (t':=s.toks) (fun b o hb e=>(sb.2 b hb).trans e) f0 f1 f3 f4 f5
  obtain ⟨o,e,c,d⟩:=id st'
  exact ⟨u,rfl,jh4 (s:={ s with heap:=h' }) e c d (by decide) ⟨x,H,I1,ru,⟨rfl,fun ys hy=>by rw [I.list_inj hy hq]; exact hx⟩,st',fun b hb=>(hf b hb).1⟩⟩
 done:=by
  intro X hP hw hK hc i pins s σ H E I hf st hg
  subst hP hw hK
  obtain ⟨xs,hq,hx⟩:=hg
  obtain ⟨its,rv,p,hz⟩:=I.list hq
  obtain ⟨f0,f1,f2,f3,f4,f5⟩:=hf it (by simp)
  have hl:=rv.length
  exact YfY (I.ok.hd hc) st p.isList (by simp; omega) fun h' eb=>⟨rfl,I.turned (t':=s.toks) (fun b o hb e=>eb b o hb e) f0 f1 f3 f4 f5⟩
 self:=fun _ _ _ _ _ st h=>wpAny_pyIter_listiter st h
theorem jfn {P:Program}{w:World}{K:Yaa}{tg:Expr}(a it:Addr):Turn P w K tg (Itt K a) [it] it (fun i h=>h.IsTupleIter it a i) where
 mem:=by simp
 obj:=fun i h st b hb=>by
  have e:b=it:=by simpa using hb
  subst e
  obtain ⟨o,e,c,d⟩:=st
  exact ⟨o,e,fun v z=>by rw [d] at z; cases z⟩
 keep:=fun i h h' st k=>st.at fun o e=>k it (by simp) o e
 item:=by
  intro X hP hw hK hc i pins s σ H E I hf st hg
  subst hP hw hK
  obtain ⟨xs,x,hq,hx⟩:=hg
  obtain ⟨its,rv,p,hz⟩:=I.tuple hq
  obtain ⟨u,hu,ru⟩:=rv.get hx
  obtain ⟨f0,f1,f2,f3,f4,f5⟩:=hf it (by simp)
  refine wpAny_pyNext_tuple_item st (show s.heap.IsTuple a its.toArray from p) (x:=u) (by simpa using hu) fun h' st' sb=>?_
  have I1:Inv X pins σ H { s with heap:=h' }:=I.turned (t':=s.toks) (fun b o hb e=>(sb.2 b hb).trans e) f0 f1 f3 f4 f5
  obtain ⟨o,e,c,d⟩:=id st'
  exact ⟨u,rfl,jh4 (s:={ s with heap:=h' }) e c d (by decide) ⟨x,H,I1,ru,⟨rfl,fun ys hy=>by rw [I.tuple_inj hy hq]; exact hx⟩,st',fun b hb=>(hf b hb).1⟩⟩
 done:=by
  intro X hP hw hK hc i pins s σ H E I hf st hg
  subst hP hw hK
  obtain ⟨xs,hq,hx⟩:=hg
  obtain ⟨its,rv,p,hz⟩:=I.tuple hq
  obtain ⟨f0,f1,f2,f3,f4,f5⟩:=hf it (by simp)
  have hl:=rv.length
  exact wpAny_pyNext_tuple_end (I.ok.hd hc) st (show s.heap.IsTuple a its.toArray from p) (by simp; omega) fun h' eb=>⟨rfl,I.turned (t':=s.toks) (fun b o hb e=>eb b o hb e) f0 f1 f3 f4 f5⟩
 self:=fun _ _ _ _ _ st h=>wpAny_pyIter_tupleiter st h
theorem jfo {P:Program}{w:World}{K:Yaa}{tg:Expr}(it:Addr)(lo:Int)(n:Nat):Turn P w K tg (Itr lo n) [it] it (fun i h=>IsRangeIter h it (lo + (i:Nat) * 1) ((n:Int) - (i:Nat)) 1) where
 mem:=by simp
 obj:=fun i h st b hb=>by
  have e:b=it:=by simpa using hb
  subst e
  exact ⟨_,st,fun v z=>by
   have z':Data.fields _=Data.cell v:=z
   cases z'⟩
 keep:=fun i h h' st k=>k it (by simp) _ st
 item:=by
  intro X hP hw hK hc i pins s σ H E I hf st hg
  subst hP hw hK
  obtain ⟨f0,f1,f2,f3,f4,f5⟩:=hf it (by simp)
  have W:=Walks.range (prog:=X.prog) (w:=X.w) (I.ok.hd hc) it lo 1 n
  refine W.item i s _ _ hg st fun v h' tk hv st' kk=>?_
  obtain ⟨t,rfl⟩:=hv
  have I1:Inv X pins σ H { s with heap:=h',toks:=tk }:=I.turned (fun b o hb e=>kk b o (by simpa using hb) e) f0 f1 f3 f4 f5
  refine ⟨_,rfl,jh4 (s:={ s with heap:=h',toks:=tk }) (n := "range_iterator") st' rfl rfl (by decide) ⟨.int (lo + i),H,I1,⟨t,?_⟩,⟨rfl,rfl⟩,st',fun b hb=>(hf b hb).1⟩⟩
  rw [Int.mul_one]
 done:=by
  intro X hP hw hK hc i pins s σ H E I hf st hg
  subst hP hw hK
  obtain ⟨f0,f1,f2,f3,f4,f5⟩:=hf it (by simp)
  exact wpAny_pyNext_range_end (I.ok.hd hc) st (by have:n<=i:=hg; omega) fun h' eb=>⟨rfl,I.turned (t':=s.toks) (fun b o hb e=>eb b o hb e) f0 f1 f3 f4 f5⟩
 self:=fun _ _ _ _ _ st h=>wpAny_pyIter_rangeiter st h
section
variable {X:Cx}{tg:Expr}
theorem jeV {pins:List (Addr×Obj)}{σ:St}{H:Hp}{s:Shared}{R:It->Hp->Prop}{E:Value->Shared->Prop}{lo hi:Int}{t u v:Tok}{tk:Nat}(I:Inv X pins σ H s)(h1:-(2 ^ 62)<=lo)(h2:lo < 2 ^ 62)(h3:-(2 ^ 62)<=hi)(h4:hi < 2 ^ 62)
  (q:R (Itr lo (hi - lo).toNat) H):wpAny (model X.prog X.w) X.A (pyIter (.ref s.heap.objs.size)) (PIE X pins σ tg R) E { s with heap:=s.heap.push { cls:=.type "range",data:=.fields #[.int lo t,.int hi u,.int 1 v] },toks:=tk }:=by
 refine wpAny_pyIter_range (IsRange.new ..) (small_one h1 h2 h3 h4) ?_
 have I1:Inv X pins σ H { s with heap:=s.heap.push { cls:=.type "range",data:=.fields #[.int lo t,.int hi u,.int 1 v] },toks:=tk }:=I.kept fun b o e=>Yad _ e
 refine ⟨(s.heap.push { cls:=.type "range",data:=.fields #[.int lo t,.int hi u,.int 1 v] }).objs.size,[(s.heap.push { cls:=.type "range",data:=.fields #[.int lo t,.int hi u,.int 1 v] }).objs.size],_,_,H,rfl,
  I1.kept (t':=tk) fun b o e=>Yad _ e,jfo _ lo (hi - lo).toNat,?_,fun b hb=>?_,q⟩
 ·have e1:lo + ((0:Nat):Int) * 1=lo:=by simp
  have e2:(((hi - lo).toNat:Nat):Int) - ((0:Nat):Int)=Builtin.Range.rangeSize lo hi 1:=by rw [rangeSize_one]; split <;> omega
  show IsRangeIter _ _ (lo + ((0:Nat):Int) * 1) ((((hi - lo).toNat:Nat):Int) - ((0:Nat):Int)) 1
  rw [e1,e2]
  exact Yav _ rfl
 ·have e:b=(s.heap.push { cls:=.type "range",data:=.fields #[.int lo t,.int hi u,.int 1 v] }).objs.size:=by simpa using hb
  subst e
  exact I1.fpOk (Yaf _) (I1.hok.fresh (Yaf _))
noncomputable def jn7 (ta:TA):TI:=fun σ H R=>ta σ H fun vs H1=>∃ j:Int,vs=[.int j]/\-(2 ^ 62)<=j/\j < 2 ^ 62/\R (Itr 0 j.toNat) H1
noncomputable def jn6 (ta:TA):TI:=fun σ H R=>ta σ H fun vs H1=>∃ i j:Int,vs=[.int i,.int j]/\(-(2 ^ 62)<=i/\i < 2 ^ 62/\-(2 ^ 62)<=j/\j < 2 ^ 62)/\R (Itr i (j - i).toNat) H1
theorem jgd {a:Expr}{ta:TA}{p pos:Pos}(hg:Gl X "range")(hm:X.mg "range" = none)(ha:PA X [a] ta)(hs:Yar [a] X.env=[(false,eval a X.env)]:=by rfl):PI X tg (.Call (.Name "range" p) [a] [] pos) (jn7 ta):=by
 intro pins s σ H R I h
 refine Call_ (jcL I hg hm boot_range (YbC (thn (ha pos pins s σ H _ I h) fun us s1 ⟨vs,H1,I1,r1,q1⟩=>?_) hs rfl))
 obtain ⟨j,e,q1,q2,q⟩:=q1
 subst e
 cases r1 with
 | cons r rr=>
  cases rr
  obtain ⟨t,rfl⟩:=r
  exact call_range_1 (jeV I1 (by omega) (by omega) q1 q2 (by simpa using q))
theorem jgc {a b:Expr}{ta:TA}{p pos:Pos}(hg:Gl X "range")(hm:X.mg "range" = none)(ha:PA X [a,b] ta)(hs:Yar [a,b] X.env=[(false,eval a X.env),(false,eval b X.env)]:=by rfl)(hs2:Yar [b] X.env=[(false,eval b X.env)]:=by rfl) :
  PI X tg (.Call (.Name "range" p) [a,b] [] pos) (jn6 ta):=by
 intro pins s σ H R I h
 refine Call_ (jcL I hg hm boot_range (YbC (thn (ha pos pins s σ H _ I h) fun us s1 ⟨vs,H1,I1,r1,q1⟩=>?_) (by rw [hs,hs2]) (by rw [hs2]; rfl)))
 obtain ⟨i,j,e,⟨q1,q2,q3,q4⟩,q⟩:=q1
 subst e
 cases r1 with
 | cons r rr=>
  cases rr with
  | cons r' rr=>
   cases rr
   obtain ⟨t,rfl⟩:=r
   obtain ⟨t',rfl⟩:=r'
   exact call_range_2 (jeV I1 q1 q2 q3 q4 q)

noncomputable def tFor (wi:TI)(g:TG)(tb:TS):TS:=fun D σ H=>wi σ H fun J H1=>∃ W:Nat->Nat->St->Hp->Prop,(∃ m,W 0 m σ H1)/\∀ i m σ H,W i m σ H->
 (J.stop i H/\D.nx σ H)\/(J.go i H/\∃ N:St->Hp->Prop,(∀ σ' H',N σ' H'->∃ m',m' < m/\W (i + 1) m' σ' H')/\∀ x H',J.yld i H x H'->g x σ H' fun σ2 H2=>tb { D with nx:=N,ct:=N,bk:=D.nx } σ2 H2)
noncomputable def jdA (fp:List Addr)(h:Heap):List (Addr×Obj):=fp.filterMap fun b=>(h.get? b).map fun o=>(b,o)
theorem jbe {fp:List Addr}{h:Heap}{b:Addr}{o:Obj}(hb:b∈fp)(e:h.get? b=some o):(b,o)∈jdA fp h:=List.mem_filterMap.mpr ⟨b,hb,by rw [e]; rfl⟩
theorem jgp {fp:List Addr}{h:Heap}{p:Addr×Obj}(hp:p∈jdA fp h):p.1∈fp/\h.get? p.1=some p.2:=by
 obtain ⟨b,hb,e⟩:=List.mem_filterMap.mp hp
 cases q:h.get? b with
 | none=>rw [q] at e; cases e
 | some o=>
  rw [q] at e
  have e':(b,o)=p:=Yan e
  subst e'
  exact ⟨hb,q⟩
theorem Inv.pinned {pins:List (Addr×Obj)}{σ:St}{H:Hp}{s:Shared}{fp:List Addr}(I:Inv X pins σ H s)(hf:∀ b∈fp,FpOk X pins H b)(ho:∀ b∈fp,∃ o,s.heap.get? b=some o/\∀ v,o.data≠.cell v):Inv X (pins++jdA fp s.heap) σ H s:=
 I.pins_of fun p hp=>(List.mem_append.mp hp).elim (fun z=>I.pin p (YaA _ z)) fun z=>by
  obtain ⟨hb,e⟩:=jgp z
  obtain ⟨f0,f1,f2,_⟩:=hf p.1 hb
  obtain ⟨o,e',d⟩:=ho p.1 hb
  rw [e] at e'; cases e'
  exact ⟨e,f0,f1,f2,d⟩
theorem Inv.unpinned {pins pl:List (Addr×Obj)}{σ:St}{H:Hp}{s:Shared}(I:Inv X (pins++pl) σ H s):Inv X pins σ H s:=I.pins_of fun p hp=>I.pin p (YaA _ (YaR _ hp))
theorem jld {iter:Expr}{body:List Stmt}{wi:TI}{g:TG}{tb:TS}{pos:Pos}(hp:Yel (model X.prog X.w) X.A X.env X.xe)(hc:X.calm=true)(hi:PI X tg iter wi)(hg:PG X tg g)(hb:PSs X body tb)
  (hs:∀ x,Ya1 iter X.env x=pure x:=by intro _; rfl):PS X (.For tg iter body [] pos) (tFor wi g tb):=by
 intro pins s σ H D I h
 refine wpAny_For (thn (hi pins s σ H _ I h) fun v s1 h1=>thn h1 fun itv s2 h2=>?_) hs
 obtain ⟨it,fp,tn,J,H2,e,I2,T,st2,f2,W,⟨m0,w0⟩,turn⟩:=h2
 subst e
 have stat:∀ {H':Hp},(∀ b∈fp,H' b=none)->∀ b∈fp,FpOk X pins H' b:=fun hn b hb=>⟨hn b hb,(f2 b hb).2⟩
 refine codeAny_forLoop_any (fun n s'=>∃ i σ' H',Inv X pins σ' H' s'/\tn i s'.heap/\(∀ b∈fp,H' b=none)/\W i n σ' H') ?_ m0 ⟨0,σ,H2,I2,st2,fun b hb=>(f2 b hb).1,w0⟩
 rintro n s3 ⟨i,σ3,H3,I3,st3,fr3,w3⟩
 rcases turn i n σ3 H3 w3 with ⟨stop,qn⟩ | ⟨go,N,hN,step⟩
 ·refine YcV hp (thn (T.done X rfl rfl rfl hc i pins s3 σ3 H3 X.xe I3 (stat fr3) st3 stop) fun r s4 ⟨hr,I4⟩=>?_)
  subst hr
  exact YdD ⟨σ3,H3,I4,qn⟩
 ·refine YcV hp (thn (T.item X rfl rfl rfl hc i pins s3 σ3 H3 X.xe I3 (stat fr3) st3 go) fun r s4 ⟨u,hr,h4⟩=>?_)
  subst hr
  refine YcV hp (thn h4 fun _ s5 ⟨x,H5,I5,r5,y5,st5,fr5⟩=>?_)
  have I5':=I5.pinned (stat fr5) (T.obj _ _ st5)
  refine YcV hp (thn (hg _ s5 σ3 H5 x u _ I5' r5 (step x H5 y5)) fun _ s6 ⟨σ6,H6,I6,q6⟩=>?_)
  refine YcV hp (thn (hb _ s6 σ6 H6 _ I6 q6) fun f s7 q7=>?_)
  have again:∀ {σ7:St} {H7:Hp},Inv X (pins++jdA fp s5.heap) σ7 H7 s7->N σ7 H7->∃ m,m < n/\∃ i σ' H',Inv X pins σ' H' s7/\tn i s7.heap/\(∀ b∈fp,H' b=none)/\W i m σ' H':=fun {σ7 H7} I7 n7=>by
   obtain ⟨m',hm,w7⟩:=hN σ7 H7 n7
   refine ⟨m',hm,i + 1,σ7,H7,I7.unpinned,T.keep _ _ _ st5 fun b hb o e=>(I7.pin (b,o) (YaA _ (YaA _ (jbe hb e)))).1,fun b hb=>?_,w7⟩
   obtain ⟨o,e,d⟩:=T.obj _ _ st5 b hb
   exact (I7.pin (b,o) (YaA _ (YaA _ (jbe hb e)))).2.1
  cases f with
  | next=>obtain ⟨σ7,H7,I7,n7⟩:=q7; exact again I7 n7
  | cont=>obtain ⟨σ7,H7,I7,n7⟩:=q7; exact again I7 n7
  | brk=>obtain ⟨σ7,H7,I7,q7⟩:=q7; exact ⟨σ7,H7,I7.unpinned,q7⟩
  | ret v=>obtain ⟨x7,σ7,H7,I7,r7,q7⟩:=q7; exact ⟨x7,σ7,H7,I7.unpinned,r7,q7⟩
end


noncomputable abbrev R2:=V->V->Hp->VK->Prop
noncomputable def OpR (X:Cx)(f:Value->Value->Sem Value)(r:R2):Prop:=
 ∀ (pins:List (Addr×Obj)) (s:Shared) (σ:St) (H:Hp) (x y:V) (v u:Value) (Q:VK),Inv X pins σ H s->RelV x v->RelV y u->r x y H Q->
  wpAny (model X.prog X.w) X.A (f v u) (EP X pins σ Q) X.xe s
noncomputable def UnR (X:Cx)(f:Value->Sem Value)(r:V->Hp->VK->Prop):Prop:=
 ∀ (pins:List (Addr×Obj)) (s:Shared) (σ:St) (H:Hp) (x:V) (v:Value) (Q:VK),Inv X pins σ H s->RelV x v->r x H Q->
  wpAny (model X.prog X.w) X.A (f v) (EP X pins σ Q) X.xe s
noncomputable def jaK (X:Cx)(f:Value)(r:List V->Hp->VK->Prop):Prop:=
 ∀ (pins:List (Addr×Obj)) (s:Shared) (σ:St) (H:Hp) (xs:List V) (us:List Value) (Q:VK),Inv X pins σ H s->Vals xs us->r xs H Q->
  wpAny (model X.prog X.w) X.A (call f us) (EP X pins σ Q) X.xe s
noncomputable def TruR (X:Cx)(r:V->Hp->(Bool->Hp->Prop)->Prop):Prop:=
 ∀ (pins:List (Addr×Obj)) (s:Shared) (σ:St) (H:Hp) (x:V) (v:Value) (Q:Bool->Hp->Prop),Inv X pins σ H s->RelV x v->r x H Q->
  wpAny (model X.prog X.w) X.A (truthy v) (TP X pins σ Q) X.xe s

noncomputable def tOp (r:R2)(ta tb:TE):TE:=fun σ H Q=>ta σ H fun x H1=>tb σ H1 fun y H2=>r x y H2 Q
noncomputable def tUn (r:V->Hp->VK->Prop)(ta:TE):TE:=fun σ H Q=>ta σ H fun x H1=>r x H1 Q
noncomputable def rI (C:Int->Int->Prop)(g:Int->Int->V):R2:=fun x y H Q=>∃ i j,x=.int i/\y=.int j/\C i j/\Q (g i j) H
noncomputable def rI0 (g:Int->Int->V):R2:=fun x y H Q=>∃ i j,x=.int i/\y=.int j/\Q (g i j) H
noncomputable def rU (g:Int->V):V->Hp->VK->Prop:=fun x H Q=>∃ i,x=.int i/\Q (g i) H

section
variable {X:Cx}{a b c:Expr}{ta tb tc:TE}{pos:Pos}

theorem binT (ha:PE X a ta)(hb:PE X b tb){pins:List (Addr×Obj)}{s:Shared}{σ:St}{H:Hp}{R:V->V->Hp->Prop}(I:Inv X pins σ H s)
  (h:ta σ H fun x H1=>tb σ H1 fun y H2=>R x y H2) {Q:Value->Shared->Prop} {f:Value->Value->Sem Value}
  (hf:∀ v u s2 x y H2,Inv X pins σ H2 s2->RelV x v->RelV y u->R x y H2->wpAny (model X.prog X.w) X.A (f v u) Q X.xe s2) :
  wpAny (model X.prog X.w) X.A (eval a X.env) (fun v s₁=>wpAny (model X.prog X.w) X.A (eval b X.env) (fun u s₂=>wpAny (model X.prog X.w) X.A (f v u) Q X.xe s₂) X.xe s₁) X.xe s:=by
 refine thn (ha pins s σ H _ I h) fun v s1 ⟨x,H1,I1,r1,q1⟩=>?_
 refine thn (hb pins s1 σ H1 _ I1 q1) fun u s2 ⟨y,H2,I2,r2,q2⟩=>?_
 exact hf v u s2 x y H2 I2 r1 r2 q2

theorem jnL {op:Yda}{r:R2}(ho:OpR X (Ybl op) r)(ha:PE X a ta)(hb:PE X b tb):PE X (.BinOp a op b pos) (tOp r ta tb):=by
 intro pins s σ H Q I h
 exact wpAny_BinOp (binT ha hb I h fun v u s2 x y H2 I2 rx ry q=>ho pins s2 σ H2 x y v u Q I2 rx ry q)
theorem jnJ {op:UnaryOp}{r:V->Hp->VK->Prop}(ho:UnR X (unaryOp op) r)(ha:PE X a ta):PE X (.UnaryOp op a pos) (tUn r ta):=by
 intro pins s σ H Q I h
 exact UnaryOp_ (thn (ha pins s σ H _ I h) fun v s1 ⟨x,H1,I1,r1,q1⟩=>ho pins s1 σ H1 x v Q I1 r1 q1)
theorem opI {f:Value->Value->Sem Value}{C:Int->Int->Prop}{g:Int->Int->Int}
  (rule:∀ (i j:Int) (t u:Tok) (s:Shared) (Q:Value->Shared->Prop) (E:Value->Shared->Prop),C i j->Q (.int (g i j) s.toks) { s with toks:=s.toks + 1 }->wpAny (model X.prog X.w) X.A (f (.int i t) (.int j u)) Q E s) :
  OpR X f (rI C fun i j=>.int (g i j)):=by
 intro pins s σ H x y v u Q I rx ry h
 obtain ⟨i,j,rfl,rfl,hc,q⟩:=h
 obtain ⟨t,rfl⟩:=rx
 obtain ⟨t',rfl⟩:=ry
 exact rule i j t t' s _ _ hc ⟨.int (g i j),H,I.tok _,⟨_,rfl⟩,q⟩
theorem opI0 {f:Value->Value->Sem Value}{g:Int->Int->Int}
  (rule:∀ (i j:Int) (t u:Tok) (s:Shared) (Q:Value->Shared->Prop) (E:Value->Shared->Prop),Q (.int (g i j) s.toks) { s with toks:=s.toks + 1 }->wpAny (model X.prog X.w) X.A (f (.int i t) (.int j u)) Q E s) :
  OpR X f (rI0 fun i j=>.int (g i j)):=by
 intro pins s σ H x y v u Q I rx ry h
 obtain ⟨i,j,rfl,rfl,q⟩:=h
 obtain ⟨t,rfl⟩:=rx
 obtain ⟨t',rfl⟩:=ry
 exact rule i j t t' s _ _ ⟨.int (g i j),H,I.tok _,⟨_,rfl⟩,q⟩
theorem opB0 {f:Value->Value->Sem Value}{g:Int->Int->Bool}
  (rule:∀ (i j:Int) (t u:Tok) (s:Shared) (Q:Value->Shared->Prop) (E:Value->Shared->Prop),Q (.bool (g i j)) s->wpAny (model X.prog X.w) X.A (f (.int i t) (.int j u)) Q E s) :
  OpR X f (rI0 fun i j=>.bl (g i j)):=by
 intro pins s σ H x y v u Q I rx ry h
 obtain ⟨i,j,rfl,rfl,q⟩:=h
 obtain ⟨t,rfl⟩:=rx
 obtain ⟨t',rfl⟩:=ry
 exact rule i j t t' s _ _ ⟨.bl (g i j),H,I,rfl,q⟩

noncomputable def CDiv (i j:Int):Prop:=0 < j/\j < 1073741824
noncomputable def CPow (i j:Int):Prop:=0<=j/\j<=1000000/\i.natAbs < 2 ^ 64
noncomputable def CMul (i j:Int):Prop:=(-(2 ^ 64) < i/\i < 2 ^ 64)\/(-(2 ^ 64) < j/\j < 2 ^ 64)
theorem CMul.ok {i j:Int}(h:CMul i j):IntMulOk i j:=by
 rcases h with ⟨h1,h2⟩ | ⟨h1,h2⟩
 ·exact .of_left (intBits_le_64 h1 h2)
 ·exact .of_right (intBits_le_64 h1 h2)
theorem jlH:OpR X (Ybl .Add) (rI0 fun i j=>.int (i + j)):=opI0 fun _ _ _ _ _ _ _ q=>add_int q
theorem jlx:OpR X (Ybl .Sub) (rI0 fun i j=>.int (i - j)):=opI0 fun _ _ _ _ _ _ _ q=>sub_int q
theorem jlB:OpR X (Ybl .Mult) (rI CMul fun i j=>.int (i * j)):=opI fun _ _ _ _ _ _ _ hc q=>mul_int q hc.ok
theorem jjF:OpR X (Ybl .FloorDiv) (rI CDiv fun i j=>.int (i / j)):=opI fun i j _ _ _ _ _ hc q=>by
 have h1:(0:Int) < j:=hc.1
 have h2:j < 1073741824:=hc.2
 exact floordiv_int (by omega) (by rw [Int.fdiv_eq_ediv_of_nonneg i (by omega)]; exact q) (.inl (PyProof.noPylong_small (by omega)))
theorem jlC:OpR X (Ybl .Mod) (rI (fun _ j=>0 < j) fun i j=>.int (i % j)):=opI fun i j _ _ _ _ _ hc q=>by
 have h1:(0:Int) < j:=hc
 exact mod_int' (by omega) (by rw [Int.fmod_eq_emod_of_nonneg i (by omega)]; exact q)
theorem jlz:OpR X (Ybl .Pow) (rI CPow fun i j=>.int (i ^ j.toNat)):=opI fun _ _ _ _ _ _ _ hc q=>pow_int_small hc.1 hc.2.1 hc.2.2 q
theorem unI {f:Value->Sem Value}{g:Int->Int}
  (rule:∀ (i:Int) (t:Tok) (s:Shared) (Q:Value->Shared->Prop) (E:Value->Shared->Prop),Q (.int (g i) s.toks) { s with toks:=s.toks + 1 }->wpAny (model X.prog X.w) X.A (f (.int i t)) Q E s) :
  UnR X f (rU fun i=>.int (g i)):=by
 intro pins s σ H x v Q I rx h
 obtain ⟨i,rfl,q⟩:=h
 obtain ⟨t,rfl⟩:=rx
 exact rule i t s _ _ ⟨.int (g i),H,I.tok _,⟨_,rfl⟩,q⟩
theorem jkz:UnR X (unaryOp .USub) (rU fun i=>.int (-i)):=unI fun _ _ _ _ _ q=>neg_int q
end

noncomputable def scal:V->V->Bool
 | .non,.non=>true | .non,.int _=>true | .int _,.non=>true | .non,.bl _=>true | .bl _,.non=>true | .non,.str _=>true | .str _,.non=>true
 | .int _,.int _=>true | .bl _,.bl _=>true | .str _,.str _=>true | .byt _,.byt _=>true
 | .int _,.str _=>true | .str _,.int _=>true | .bl _,.str _=>true | .str _,.bl _=>true
 | _,_=>false
noncomputable def rEq:R2:=fun x y H Q=>scal x y=true/\Q (.bl (decide (x=y))) H
noncomputable def rNe:R2:=fun x y H Q=>scal x y=true/\Q (.bl (!decide (x=y))) H

theorem jgZ {i j:Int}:decide (V.int i=V.int j)=(i == j):=by
 rw [YbU]
 simp
theorem jiK {i j:Bool}:decide (V.bl i=V.bl j)=(i == j):=by
 rw [YbU]
 simp
theorem jgY {i j:Str}:decide (V.str i=V.str j)=(i == j):=by
 rw [YbU]
 simp
theorem jg0 {i j:Array UInt8}:decide (V.byt i=V.byt j)=(i.toList == j.toList):=by
 rw [YbU]
 cases i
 cases j
 simp

section
variable {X:Cx}{a b c:Expr}{ta tb tc:TE}{pos:Pos}
theorem jak {pins:List (Addr×Obj)}{σ:St}{H:Hp}{s:Shared}{Q:VK}{k k':Bool}(I:Inv X pins σ H s)(q:Q (.bl k) H)(e:k=k'):EP X pins σ Q (.bool k') s:=by
 subst e
 exact ⟨.bl k,H,I,rfl,q⟩
theorem jnT:OpR X (YaV .Eq) rEq:=by
 intro pins s σ H x y v u Q I rx ry h
 obtain ⟨hs,q⟩:=h
 cases x with
 | non=>
  cases rx
  cases y with
  | non=>cases ry; exact PySem.EqNone.eq_none_none (jak I q (by simp))
  | bl j=>cases ry; exact PySem.EqNone.eq_none_bool (jak I q (by simp))
  | int j=>obtain ⟨t',rfl⟩:=ry; exact PySem.EqNone.eq_none_int (jak I q (by simp))
  | str j=>obtain ⟨t',rfl⟩:=ry; exact PySem.EqNone.eq_none_str (jak I q (by simp))
  | _=>exact absurd (show false=true from hs) Yak
 | bl i=>
  cases rx
  cases y with
  | non=>cases ry; exact PySem.EqNone.eq_bool_none (jak I q (by simp))
  | bl j=>cases ry; exact eq_bool (jak I q jiK)
  | str j=>obtain ⟨t',rfl⟩:=ry; exact PySem.EqMixed.eq_bool_str (jak I q (by simp))
  | _=>exact absurd (show false=true from hs) Yak
 | int i=>
  obtain ⟨t,rfl⟩:=rx
  cases y with
  | non=>cases ry; exact PySem.EqNone.eq_int_none (jak I q (by simp))
  | int j=>obtain ⟨t',rfl⟩:=ry; exact eq_int (jak I q jgZ)
  | str j=>obtain ⟨t',rfl⟩:=ry; exact PySem.EqMixed.eq_int_str (jak I q (by simp))
  | _=>exact absurd (show false=true from hs) Yak
 | str i=>
  obtain ⟨t,rfl⟩:=rx
  cases y with
  | non=>cases ry; exact PySem.EqNone.eq_str_none (jak I q (by simp))
  | bl j=>cases ry; exact PySem.EqMixed.eq_str_bool (jak I q (by simp))
  | int j=>obtain ⟨t',rfl⟩:=ry; exact PySem.EqMixed.eq_str_int (jak I q (by simp))
  | str j=>obtain ⟨t',rfl⟩:=ry; exact eq_str (jak I q jgY)
  | _=>exact absurd (show false=true from hs) Yak
 | byt i=>
  obtain ⟨t,rfl⟩:=rx
  cases y with
  | byt j=>obtain ⟨t',rfl⟩:=ry; exact PySem.W.eq_bytes (jak I q jg0)
  | _=>exact absurd (show false=true from hs) Yak
 | _=>cases y <;> exact absurd (show false=true from hs) Yak
theorem jnO:OpR X (YaV .NotEq) rNe:=by
 intro pins s σ H x y v u Q I rx ry h
 obtain ⟨hs,q⟩:=h
 cases x with
 | non=>
  cases rx
  cases y with
  | non=>cases ry; exact PySem.EqNone.ne_none_none (jak I q (by simp))
  | bl j=>cases ry; exact PySem.EqNone.ne_none_bool (jak I q (by simp))
  | int j=>obtain ⟨t',rfl⟩:=ry; exact PySem.EqNone.ne_none_int (jak I q (by simp))
  | str j=>obtain ⟨t',rfl⟩:=ry; exact PySem.EqNone.ne_none_str (jak I q (by simp))
  | _=>exact absurd (show false=true from hs) Yak
 | bl i=>
  cases rx
  cases y with
  | non=>cases ry; exact PySem.EqNone.ne_bool_none (jak I q (by simp))
  | bl j=>cases ry; exact ne_bool (jak I q (congrArg not jiK))
  | str j=>obtain ⟨t',rfl⟩:=ry; exact PySem.EqMixed.ne_bool_str (jak I q (by simp))
  | _=>exact absurd (show false=true from hs) Yak
 | int i=>
  obtain ⟨t,rfl⟩:=rx
  cases y with
  | non=>cases ry; exact PySem.EqNone.ne_int_none (jak I q (by simp))
  | int j=>obtain ⟨t',rfl⟩:=ry; exact ne_int (jak I q (congrArg not jgZ))
  | str j=>obtain ⟨t',rfl⟩:=ry; exact PySem.EqMixed.ne_int_str (jak I q (by simp))
  | _=>exact absurd (show false=true from hs) Yak
 | str i=>
  obtain ⟨t,rfl⟩:=rx
  cases y with
  | non=>cases ry; exact PySem.EqNone.ne_str_none (jak I q (by simp))
  | bl j=>cases ry; exact PySem.EqMixed.ne_str_bool (jak I q (by simp))
  | int j=>obtain ⟨t',rfl⟩:=ry; exact PySem.EqMixed.ne_str_int (jak I q (by simp))
  | str j=>obtain ⟨t',rfl⟩:=ry; exact ne_str (jak I q (congrArg not jgY))
  | _=>exact absurd (show false=true from hs) Yak
 | byt i=>
  obtain ⟨t,rfl⟩:=rx
  cases y with
  | byt j=>obtain ⟨t',rfl⟩:=ry; exact PySem.W.ne_bytes (jak I q (congrArg not jg0))
  | _=>exact absurd (show false=true from hs) Yak
 | _=>cases y <;> exact absurd (show false=true from hs) Yak

theorem jnP:OpR X (YaV .Lt) (rI0 fun i j=>.bl (decide (i < j))):=opB0 fun _ _ _ _ _ _ _ q=>lt_int q
theorem jnQ:OpR X (YaV .LtE) (rI0 fun i j=>.bl (decide (i<=j))):=opB0 fun _ _ _ _ _ _ _ q=>le_int q
theorem jnR:OpR X (YaV .Gt) (rI0 fun i j=>.bl (decide (j < i))):=opB0 fun _ _ _ _ _ _ _ q=>gt_int q
theorem jnS:OpR X (YaV .GtE) (rI0 fun i j=>.bl (decide (j<=i))):=opB0 fun _ _ _ _ _ _ _ q=>ge_int q
theorem jgj:OpR X (YaV .In) (fun x y H Q=>∃ i j,x=.str i/\y=.str j/\Q (.bl (!(YaU j i 0 j.length 1).isEmpty)) H):=by
 intro pins s σ H x y v u Q I rx ry h
 obtain ⟨i,j,rfl,rfl,q⟩:=h
 obtain ⟨t,rfl⟩:=rx
 obtain ⟨t',rfl⟩:=ry
 exact in_str (jak I q rfl)

theorem jdC:OpR X (YaV .NotIn) (fun x y H Q=>∃ i j,x=.str i/\y=.str j/\Q (.bl (!(!(YaU j i 0 j.length 1).isEmpty))) H):=by
 intro pins s σ H x y v u Q I rx ry h
 obtain ⟨i,j,rfl,rfl,q⟩:=h
 obtain ⟨t,rfl⟩:=rx
 obtain ⟨t',rfl⟩:=ry
 exact notIn_str (jak I q rfl)
theorem OpR.or {f:Value->Value->Sem Value}{r r':R2}(h:OpR X f r)(h':OpR X f r'):OpR X f (fun x y H Q=>r x y H Q\/r' x y H Q):=by
 intro pins s σ H x y v u Q I rx ry q
 rcases q with q | q
 ·exact h pins s σ H x y v u Q I rx ry q
 ·exact h' pins s σ H x y v u Q I rx ry q

theorem jjA {op:CmpOp}{r:R2}(ho:OpR X (YaV op) r)(ha:PE X a ta)(hb:PE X b tb)(hm:Yei op b=false):PE X (.Compare a [op] [b] pos) (tOp r ta tb):=by
 intro pins s σ H Q I h
 exact wpAny_Compare1 (binT ha hb I h fun v u s2 x y H2 I2 rx ry q=>ho pins s2 σ H2 x y v u Q I2 rx ry q) hm
noncomputable def jnk (t:TE):TT:=fun σ H Q=>t σ H fun x H'=>∃ k,x=.bl k/\Q k H'
theorem jjj {op:CmpOp}{r:R2}(ho:OpR X (YaV op) r)(ha:PE X a ta)(hb:PE X b tb)(hm:Yei op b=false):PT X (.Compare a [op] [b] pos) (jnk (tOp r ta tb)):=by
 intro pins s σ H Q I h
 refine wpAny_isTrue_Compare1 (thn (ha pins s σ H _ I h) fun v s1 ⟨x,H1,I1,r1,q1⟩=>thn (hb pins s1 σ H1 _ I1 q1) fun u s2 ⟨y,H2,I2,r2,q2⟩=>
  thn (ho pins s2 σ H2 x y v u _ I2 r1 r2 q2) fun c s3 ⟨z,H3,I3,r3,k,e,q3⟩=>?_) hm
 subst e
 cases r3
 exact Yb7 ⟨H3,I3,q3⟩
noncomputable def TruV (K:Yaa)(x:V)(H:Hp)(k:Bool):Prop:=
 match x with
 | .non=>k=false
 | .bl b=>k=b
 | .int i=>k=(i != 0)
 | .str y=>y.length<=Yae/\k=((y.length:Int) != 0)
 | .byt y=>y.size<=Yae/\k=((y.size:Int) != 0)
 | .ref p=>(∃ xs,SqL K H p xs/\k = !xs.isEmpty)\/(∃ xs,SqT K H p xs/\k = !xs.isEmpty)\/∃ kvs,H p=some (.dK kvs)/\k = !kvs.isEmpty
 | _=>False
theorem jfB {κ:Type}{kvs:List (κ×V)}{vs:List (κ×Value)}(r:KV kvs vs):(!vs.isEmpty) = !kvs.isEmpty:=by
 cases r <;> rfl
theorem jcO {xs:List V}{its:List Value}(r:Vals xs its):(!its.toArray.isEmpty) = !xs.isEmpty:=by
 cases r <;> simp
theorem jcq:(Yae:Nat) < 2 ^ 63:=by rw [YbJ]; decide
theorem jeM:TruR X (fun x H Q=>∃ k,TruV X.K x H k/\Q k H):=by
 intro pins s σ H x v Q I rx h
 obtain ⟨k,e,q⟩:=h
 have hl:=jcq
 have hs:Yae=16777216:=YbJ
 cases x with
 | non=>
  cases rx
  have e':k=false:=e
  subst e'
  exact truthy_none ⟨H,I,q⟩
 | bl b=>
  cases rx
  have e':k=b:=e
  subst e'
  exact Yb7 ⟨H,I,q⟩
 | int i=>
  obtain ⟨t,rfl⟩:=rx
  have e':k=(i != 0):=e
  subst e'
  exact PySem.P.truthy_int ⟨H,I,q⟩
 | str y=>
  obtain ⟨t,rfl⟩:=rx
  obtain ⟨hy,e'⟩:y.length<=Yae/\k=((y.length:Int) != 0):=e
  subst e'
  exact PySem.P.truthy_str (by omega) ⟨H,I.tok _,q⟩
 | byt y=>
  obtain ⟨t,rfl⟩:=rx
  obtain ⟨hy,e'⟩:y.size<=Yae/\k=((y.size:Int) != 0):=e
  subst e'
  exact PySem.W.truthy_bytes (by omega) ⟨H,I.tok _,q⟩
 | ref p=>
  cases rx
  have e':(∃ xs,SqL X.K H p xs/\k = !xs.isEmpty)\/(∃ xs,SqT X.K H p xs/\k = !xs.isEmpty)\/∃ kvs,H p=some (.dK kvs)/\k = !kvs.isEmpty:=e
  rcases e' with ⟨xs,hx,e'⟩ | ⟨xs,hx,e'⟩ | ⟨kvs,hx,e'⟩
  ·subst e'
   obtain ⟨its,r,pl,hz⟩:=I.list hx
   have hlen:=r.length
   exact wpAny_truthy_list pl.isList (by simp only [Yam]; omega) ⟨H,I.tok _,by rw [jcO r]; exact q⟩
  ·subst e'
   obtain ⟨its,r,pl,hz⟩:=I.tuple hx
   have hlen:=r.length
   exact truthy_tuple pl (by simp only [Yam]; omega) ⟨H,I.tok _,by rw [jcO r]; exact q⟩
  ·subst e'
   obtain ⟨hz,hS,vs,r,m⟩:kvs.length<=Yae/\(p == Ya0)=false/\∃ vs,KV kvs vs/\s.heap.DictOf (jao X.prog X.w) p vs:=I.hok p _ hx
   have hlen:kvs.length=vs.length:=Ydz r
   exact wpAny_truthy_dict hS m (by omega) ⟨H,I.tok _,by rw [jfB r]; exact q⟩
 | _=>exact (show False from e).elim
theorem jhE (ha:PE X a ta)(he:∀ whole,isTrue a X.env whole=(do let v <- whole; standAt a.pos; holding [v] (truthy v))) :
  PT X a (fun σ H Q=>ta σ H fun x H'=>∃ k,TruV X.K x H' k/\Q k H'):=by
 intro pins s σ H Q I h
 exact isTrue_plain (thn (ha pins s σ H _ I h) fun v s1 ⟨x,H1,I1,r1,q1⟩=>jeM pins s1 σ H1 x v Q I1 r1 q1) (he _)

theorem jfv:OpR X (Ybl .Add) (fun x y H Q=>∃ i j,x=.str i/\y=.str j/\i.length + j.length<=Yae/\Q (.str (i++j)) H):=by
 intro pins s σ H x y v u Q I rx ry h
 obtain ⟨i,j,rfl,rfl,hz,q⟩:=h
 obtain ⟨t,rfl⟩:=rx
 obtain ⟨t',rfl⟩:=ry
 exact add_str (fun t' tk=>⟨.str (i++j),H,I.tok _,⟨_,rfl⟩,q⟩) hz
theorem jbW {x:V}{us:List Value}(r:Vals [x] us):∃ u,us=[u]/\RelV x u:=by
 cases r with
 | cons r1 r2=>cases r2; exact ⟨_,rfl,r1⟩
theorem jmX {x y:V}{us:List Value}(r:Vals [x,y] us):∃ u w',us=[u,w']/\RelV x u/\RelV y w':=by
 cases r with
 | cons r1 r2=>
  cases r2 with
  | cons r3 r4=>cases r4; exact ⟨_,_,rfl,r1,r3⟩
theorem jg8 (hc:X.calm=true):jaK X (.builtin "min") (fun xs H Q=>∃ i j,xs=[.int i,.int j]/\Q (.int (if j < i then j else i)) H):=by
 intro pins s σ H xs us Q I r h
 obtain ⟨i,j,rfl,q⟩:=h
 obtain ⟨u,w',rfl,⟨t,rfl⟩,⟨t',rfl⟩⟩:=jmX r
 refine min_two_ints (I.ok.hd hc) fun h' tk k=>⟨_,H,I.kept k,?_,q⟩
 by_cases hj:j < i
 ·rw [if_pos hj,if_pos hj]; exact ⟨_,rfl⟩
 ·rw [if_neg hj,if_neg hj]; exact ⟨_,rfl⟩
theorem jhd:jaK X (.type "int") (fun xs H Q=>(∃ i,xs=[.int i]/\Q (.int i) H)\/∃ k,xs=[.bl k]/\Q (.int (if k then 1 else 0)) H):=by
 intro pins s σ H xs us Q I r h
 rcases h with ⟨i,rfl,q⟩ | ⟨k,rfl,q⟩
 ·obtain ⟨u,rfl,t,rfl⟩:=jbW r
  exact call_int_int ⟨.int i,H,I,⟨_,rfl⟩,q⟩
 ·obtain ⟨u,rfl,r1⟩:=jbW r
  cases r1
  exact call_int_bool ⟨.int (if k then 1 else 0),H,I.tok _,⟨_,rfl⟩,q⟩
theorem jdZ:jaK X (.type "str") (fun xs H Q=>∃ i,xs=[.int i]/\i.natAbs.log2 < 1920/\Q (.str (toString i)) H):=by
 intro pins s σ H xs us Q I r h
 obtain ⟨i,rfl,hz,q⟩:=h
 obtain ⟨u,rfl,t,rfl⟩:=jbW r
 exact PySem.P.str_of_int hz ⟨.str _,H,I.tok _,⟨_,rfl⟩,q⟩
noncomputable def LenV (K:Yaa)(x:V)(H:Hp)(n:Nat):Prop:=
 match x with
 | .str y=>y.length<=Yae/\n=y.length
 | .byt y=>y.size<=Yae/\n=y.size
 | .ref p=>(∃ xs,SqL K H p xs/\n=xs.length)\/∃ xs,SqT K H p xs/\n=xs.length
 | _=>False
theorem jib:jaK X (.builtin "len") (fun xs H Q=>∃ x n,xs=[x]/\LenV X.K x H n/\Q (.int n) H):=by
 intro pins s σ H xs us Q I r h
 obtain ⟨x,n,rfl,e,q⟩:=h
 obtain ⟨u,rfl,rx⟩:=jbW r
 have hl:=jcq
 have hs:Yae=16777216:=YbJ
 cases x with
 | str y=>
  obtain ⟨t,rfl⟩:=rx
  obtain ⟨hy,e'⟩:y.length<=Yae/\n=y.length:=e
  subst e'
  exact len_str (by omega) ⟨.int _,H,I.tok _,⟨_,rfl⟩,q⟩
 | byt y=>
  obtain ⟨t,rfl⟩:=rx
  obtain ⟨hy,e'⟩:y.size<=Yae/\n=y.size:=e
  subst e'
  exact PySem.W.len_bytes (by omega) ⟨.int _,H,I.tok _,⟨_,rfl⟩,q⟩
 | ref p=>
  cases rx
  have e':(∃ xs,SqL X.K H p xs/\n=xs.length)\/∃ xs,SqT X.K H p xs/\n=xs.length:=e
  rcases e' with ⟨xs,hx,e'⟩ | ⟨xs,hx,e'⟩
  ·subst e'
   obtain ⟨its,r',pl,hz⟩:=I.list hx
   have hlen:=r'.length
   exact Calls.call_len_list pl.isList (by simp only [Yam]; omega) ⟨.int xs.length,H,I.tok _,⟨_,by simp only [Yam]; rw [hlen]⟩,q⟩
  ·subst e'
   obtain ⟨its,r',pl,hz⟩:=I.tuple hx
   have hlen:=r'.length
   exact len_tuple pl (by simp only [Yam]; omega) ⟨.int xs.length,H,I.tok _,⟨_,by simp only [Yam]; rw [hlen]⟩,q⟩
 | _=>exact (show False from e).elim
end

structure ObjM (h:Heap)(x dx C:Addr)(mA:Str->Option Value):Prop where
 obj:h.get? x=some (YfH C dx)
 ns:h.Ns1 dx mA
 ne:dx≠x

section
variable {prog:Program}{w:World}{A:Around}{E:Value->Shared->Prop}{s:Shared}{K:Yaa}{x dx C f:Addr}{mA:Str->Option Value}{name:Str}{v:Value}

end

noncomputable def putF (f:Str)(v:V):List (Str×V)->List (Str×V)
 | []=>[(f,v)]
 | (g,x)::r=>if g=f then (g,v)::r else (g,x)::putF f v r
theorem jcp (f g:Str)(v:V):∀ fs:List (Str×V),(putF f v fs).lookup g=if g=f then some v else fs.lookup g
 | []=>by
  show Ybr g [(f,v)]=_
  by_cases h:g=f
  ·have hb:(g == f)=true:=beq_iff_eq.mpr h
   simp only [Ybr,hb,if_pos h]
  ·have hb:(g == f)=false:=beq_eq_false_iff_ne.mpr h
   simp only [Ybr,hb,if_neg h]
 | (k,x)::r=>by
  have ih:=jcp f g v r
  rw [show putF f v ((k,x)::r)=(if k=f then (k,v)::r else (k,x)::putF f v r) from rfl]
  by_cases hk:k=f
  ·rw [if_pos hk]
   by_cases h:g=k
   ·have hb:(g == k)=true:=beq_iff_eq.mpr h
    simp only [Ybr,hb,if_pos (h.trans hk)]
   ·have hb:(g == k)=false:=beq_eq_false_iff_ne.mpr h
    simp only [Ybr,hb,if_neg (fun e:g=f=>h (e.trans hk.symm))]
  ·rw [if_neg hk]
   by_cases h:g=k
   ·have hb:(g == k)=true:=beq_iff_eq.mpr h
    simp only [Ybr,hb,if_neg (fun e:g=f=>hk (h.symm.trans e))]
   ·have hb:(g == k)=false:=beq_eq_false_iff_ne.mpr h
    simp only [Ybr,hb]
    exact ih
theorem RelO.some_of {v:V}{o:Option Value}(r:RelO (some v) o):∃ u,o=some u/\RelV v u:=by
 cases o with
 | none=>exact (show False from r).elim
 | some u=>exact ⟨u,rfl,r⟩
theorem RelO.none_of {o:Option Value}(r:RelO none o):o=none:=by
 cases o with
 | none=>rfl
 | some u=>exact (show False from r).elim
section
variable {P:Program}{w:World}{H H':Hp}{h h':Heap}{a C dx:Addr}{fs fs':List (Str×V)}
end

structure Cls (K:Yaa)(C:Addr):Prop where
 pg:PySem.W.plainGet K C Str.empty=true
 hd:PySem.W.hasDictIn K C=true
 po:PySem.W.plainOver K C=true
 sa:YcJ K (.ref C) "__setattr__" = some (some (.builtin "object.__setattr__"))
structure Con (K:Yaa)(C:Addr)(f:Str)(v:V)(u:Value):Prop where
 at_:YcJ K (.ref C) f=some (some u)
 rel:RelV v u
 get:Yfc K u "__get__" = some none
 cp:PySem.W.copiedNames.contains f=false
structure Meth (K:Yaa)(C:Addr)(m:Str)(f:Addr):Prop where
 at_:YcJ K (.ref C) m=some (some (.ref f))
 fn:PySem.W.isFn K (.ref f)=true
 kp:Ya5 K (.ref f)=true

section
variable {X:Cx}{pins:List (Addr×Obj)}{σ:St}{H:Hp}{s:Shared}{a C dx:Addr}{fs:List (Str×V)}{f:Str}{v:V}{A:Around}{E:Value->Shared->Prop}

theorem jkr {prog:Program}{w:World}{env:Env}{e:Expr}{f:Str}{pos:Pos}{s:Shared}{Q:Value->Shared->Prop}(hb:Yca e f env (eval e env)=eval e env)
  (h:wpAny (model prog w) A (eval e env) (fun o s₁=>wpAny (model prog w) A (getAttr o f true) Q E s₁) E s):wpAny (model prog w) A (eval (.Attribute e f pos) env) Q E s:=
 Attribute_any_ h (by rw [arm_eval_Attribute,hb])
end

section
variable {X:Cx}{o e value:Expr}{f:Str}{pos pos' tpos:Pos}{ta tv:TE}
end

section
variable {X:Cx}{pins:List (Addr×Obj)}{σ:St}{H:Hp}{s:Shared}{A:Around}{E:Value->Shared->Prop}{Q:Value->Shared->Prop}{c:Value}{b:Bool}
inductive TyOf (K:Yaa)(H:Hp):V->Value->Prop where
 | non:TyOf K H .non (.type "NoneType")
 | bl (x:Bool):TyOf K H (.bl x) (.type "bool")
 | int (i:Int):TyOf K H (.int i) (.type "int")
 | str (x:Str):TyOf K H (.str x) (.type "str")
 | flt (x:UInt64):TyOf K H (.flt x) (.type "float")
 | lst {a:Addr} {xs:List V} (e:H a=some (.lst xs)):TyOf K H (.ref a) (.type "list")
 | frz {a:Addr} {o:Obj} {xs:List V} (e:H a=some (.frz o (.lst xs))):TyOf K H (.ref a) (.type "list")
 | tup {a:Addr} {xs:List V} (e:H a=some (.tup xs)):TyOf K H (.ref a) (.type "tuple")
 | dK {a:Addr} {kvs:List (Key×V)} (e:H a=some (.dK kvs)):TyOf K H (.ref a) (.type "dict")
 | dT {a:Addr} {kvs:List (List Key×V)} (e:H a=some (.dT kvs)):TyOf K H (.ref a) (.type "dict")
 | ins {a C dx:Addr} {fs:List (Str×V)} (e:H a=some (.ins C dx fs)) (cl:Cls K C) (ha:YcJ K (.ref C) "__class__" = some (some (.builtin "object.__class__")))
   (hn:Yfc K (.builtin "object.__class__") "__get__" = some (some (.builtin "getset_descriptor.__get__"))) (htk:PySem.W.takesIn K (.builtin "object.__class__")=some true)
   (hm:PySem.W.mroIn K C (.type "object")=some true):TyOf K H (.ref a) (.ref C)
end

structure Room (k:Nat)(A:Around):Prop where
 hd:A.handled=none
 dp:A.depth + k + 20 < recursionLimit
 un:A.units + 8 * k + 200 < cLine
 gd:A.guards=some []
theorem Room.mono {j k:Nat}{A:Around}(r:Room k A)(h:j<=k):Room j A:=⟨r.hd,by have:=r.dp; omega,by have:=r.un; omega,r.gd⟩
theorem Room.deeper {k:Nat}{A:Around}(r:Room (k + 1) A)(env:Env):Room k (A.deeper env):=
 ⟨r.hd,by have:=r.dp; show A.depth + 1 + k + 20 < _; omega,by have:=r.un; show A.units + 3 + 8 * k + 200 < _; omega,r.gd⟩
theorem jfz {A:Around}{C:Addr}{us:List Value}{kw:List (Str×Value)}:(A.under (.builtin "type.__call__" ⟨.ref C::us,kw⟩)).depth=A.depth + 1:=by
 first | rfl | simp [YeV,Code.weight,Code.isCreation,Code.isGuard,Code.isCaller,Code.frames,Ye5,guardIds]
theorem jfy {A:Around}{C:Addr}{us:List Value}{kw:List (Str×Value)}:(A.under (.builtin "type.__call__" ⟨.ref C::us,kw⟩)).units=A.units + 1:=by
 first | rfl | simp [YeV,Code.cUnits,Code.frames,Ye5]
theorem Room.make {k:Nat}{A:Around}(r:Room (k + 1) A)(C:Addr)(us:List Value)(kw:List (Str×Value)):Room k (A.under (.builtin "type.__call__" ⟨.ref C::us,kw⟩)):=
 ⟨r.hd,by have:=r.dp; rw [jfz]; omega,by have:=r.un; rw [jfy]; omega,r.gd⟩
theorem Room.depth {k:Nat}{A:Around}(r:Room k A):A.depth < recursionLimit:=by have:=r.dp; omega
theorem Room.units {k:Nat}{A:Around}(r:Room k A):A.units + 64 < cLine:=by have:=r.un; omega
theorem Room.units0 {k:Nat}{A:Around}(r:Room k A):A.units < cLine:=by have:=r.un; omega

noncomputable def tNil:TA:=fun _ H Q=>Q [] H
noncomputable def jhp (ta:TE)(tr:TA):TA:=fun σ H Q=>ta σ H fun x H1=>tr σ H1 fun xs H2=>Q (x::xs) H2
section
variable {X:Cx}{e:Expr}{es:List Expr}{te:TE}{t:TA}{pos:Pos}
theorem jcf:PA X [] tNil:=fun _ _ _ _ H Q I h=>YfM ⟨[],H,I,.nil,h⟩
theorem jaC (ha:PE X e te)(hr:PA X es t)(hs:Yar (e::es) X.env=(false,eval e X.env)::Yar es X.env:=by rfl):PA X (e::es) (jhp te t):=by
 intro pos pins s σ H Q I h
 rw [hs]
 show wpAny _ _ (spliced ((false,eval e X.env)::backTo pos (Yar es X.env))) _ _ s
 refine YbG (thn (ha pins s σ H _ I h) fun u s1 ⟨x,H1,I1,r1,q1⟩=>?_)
 exact thn (hr pos pins s1 σ H1 _ I1 q1) fun us s2 ⟨xs,H2,I2,r2,q2⟩=>⟨x::xs,H2,I2,.cons r1 r2,q2⟩

noncomputable def tTup (t:TA):TE:=fun σ H Q=>t σ H fun xs H1=>xs.length<=Yae/\∀ p,H1 p=none->Q (.ref p) (upd H1 p (.tup xs))
noncomputable def tLst (t:TA):TE:=fun σ H Q=>t σ H fun xs H1=>xs.length<=Yae/\∀ p,H1 p=none->Q (.ref p) (upd H1 p (.lst xs))
theorem jge {x1}(h:PA X es t):PE X (.Tuple es x1 pos) (tTup t):=by
 intro pins s σ H Q I hq
 refine wpAny_Tuple_spliced (thn (h pos pins s σ H _ I hq) fun us s1 ⟨xs,H1,I1,r,z,q⟩=>⟨by rw [<- r.length]; exact z,?_⟩)
 have hf:H1 s1.heap.objs.size=none:=I1.hok.fresh (Yaf _)
 refine ⟨.ref s1.heap.objs.size,upd H1 s1.heap.objs.size (.tup xs),I1.laid (t':=s1.toks) (fun b u e=>Yad _ e) (Yaf _) ?_,rfl,q _ hf⟩
 exact ⟨z,us,r,⟨_,Yav _ rfl,rfl,_,rfl,rfl⟩⟩
theorem jis (h:PA X es t):PE X (.List es pos) (tLst t):=by
 intro pins s σ H Q I hq
 refine wpAny_List_spliced (thn (h pos pins s σ H _ I hq) fun us s1 ⟨xs,H1,I1,r,z,q⟩=>⟨by rw [<- r.length]; exact z,?_⟩)
 have hf:H1 s1.heap.objs.size=none:=I1.hok.fresh (Yaf _)
 refine ⟨.ref s1.heap.objs.size,upd H1 s1.heap.objs.size (.lst xs),I1.laid (t':=s1.toks) (fun b u e=>Yad _ e) (Yaf _) ?_,rfl,q _ hf⟩
 exact ⟨z,us,0,r,Yav _ rfl⟩
end

noncomputable abbrev Sp:=List V->Hp->VK->XK->Prop
noncomputable abbrev CXT:=List Env->Hp->Shared->XK->Value->Shared->Prop

structure Env0 (P:Program)(w:World)(K:Yaa)(mg:Str->Option Value)(base:Heap)(A:Around)(outer:List Env)(s:Shared)(H:Hp):Prop where
 frames:A.frames=some outer
 mod:Mod K mg base
 bs:∀ b o,base.get? b=some o->s.heap.get? b=some o/\H b=none
 bsz:base.objs.size<=s.heap.objs.size
 funs:s.heap.FunFrames base outer
 frf:∀ b∈frs outer,H b=none
 hok:HOk P w H s.heap
 bare:AllBare s.gens
noncomputable def CE (outer:List Env)(P:Program)(w:World)(H:Hp)(s:Shared)(Q:VK)(u:Value)(s':Shared):Prop:=
 ∃ v H',s'.os=s.os/\AllBare s'.gens/\Un (frs outer) [] H H' s.heap s'.heap/\HOk P w H' s'.heap/\RelV v u/\Q v H'
noncomputable def CR (CX:CXT)(outer:List Env)(P:Program)(w:World)(H:Hp)(s:Shared)(Q:VK)(E:XK)(r:Result)(s':Shared):Prop:=
 match r with
 | .ok (.ret u)=>CE outer P w H s Q u s'
 | .ok _=>False
 | .error e=>CX outer H s E e s'
structure FnOk (P:Program)(w:World)(K:Yaa)(mg:Str->Option Value)(base:Heap)(CX:CXT)(k:Nat)(f:Addr)(fd:Ybh)(ps:List Str)(sp:Sp):Prop where
 len:∀ vs H Q E,sp vs H Q E->vs.length=ps.length
 run:∀ (A:Around) (outer:List Env) (s:Shared) (H:Hp) (args:Args) (us:List Value) (vs:List V) (Q:VK) (E:XK),Room k A->Env0 P w K mg base A outer s H->BindsTo s fd args (ps.zip us)->Vals vs us->sp vs H Q E->
  codeAny (model P w) A (.call (.ref f) args) (CR CX outer P w H s Q E) s
theorem Env0.make {P:Program}{w:World}{K:Yaa}{mg:Str->Option Value}{base:Heap}{A:Around}{outer:List Env}{s:Shared}{H:Hp}(e:Env0 P w K mg base A outer s H)(C:Addr)(us:List Value)(kw:List (Str×Value)) :
  Env0 P w K mg base (A.under (.builtin "type.__call__" ⟨.ref C::us,kw⟩)) outer s H:=⟨by first | exact e.frames | (simpa [YeV,Code.envs,Ye5,pushEnvs] using e.frames),e.mod,e.bs,e.bsz,e.funs,e.frf,e.hok,e.bare⟩
section
variable {X:Cx}{pins:List (Addr×Obj)}{σ:St}{H:Hp}{s s':Shared}
theorem Inv.env0 (I:Inv X pins σ H s):Env0 X.prog X.w X.K X.mg X.base X.A X.stack s H:=
 ⟨I.ok.frames,I.ok.mod,I.bs,Yal I.ok.bsz I.sz,I.stack,I.stkFree,I.hok,I.bare⟩
theorem Inv.after {Q:VK}{u:Value}(I:Inv X pins σ H s)(h:CE X.stack X.prog X.w H s Q u s'):EP X pins σ Q u s':=by
 obtain ⟨v,H',os,bare,un,hok,r,q⟩:=h
 obtain ⟨hh,g,d,t,os'⟩:=s'
 obtain rfl:os'=s.os:=os
 exact ⟨v,H',I.call (h':=hh) (g':=g) (d':=d) (t':=t) (ch:=[]) un hok bare (fun b z=>absurd z (by simp)),r,q⟩
end

noncomputable def Binds (K:Yaa)(fd:Ybh)(ps:List Str)(ds:List Value):Prop:=
 ∀ (s:Shared) (us:List Value),K.In s.heap->(us++ds).length=ps.length->BindsTo s fd ⟨us,[]⟩ (ps.zip (us++ds))
theorem Binds.all {K:Yaa}{fd:Ybh}{ps:List Str}(h:∀ us:List Value,us.length=ps.length->YfE fd ⟨us,[]⟩=pure (ps.zip us)):Binds K fd ps []:=fun s us _ hl=>by
 rw [Ybj] at hl ⊢
 exact .of_eq (h us hl)

section
variable {X:Cx}{CX:CXT}{k:Nat}{f C:Addr}{fd:Ybh}{ps:List Str}{sp:Sp}{dvs:List V}{ds:List Value}{E:XK}{x m:Str}{p pos apos:Pos}{e o:Expr}{es:List Expr}{ta:TE}{t:TA}

structure Mk (K:Yaa)(C f:Addr):Prop where
 makes:PySem.W.makesIn K C=true
 init:YcJ K (.ref C) "__init__" = some (some (.ref f))
 fn:PySem.W.isFn K (.ref f)=true
 kp:Ya5 K (.ref C)=true

end

noncomputable def PK (X:Cx)(kws:List Keyword)(t:TA):Prop:=
 ∀ (pos:Pos) (pins:List (Addr×Obj)) (s:Shared) (σ:St) (H:Hp) (Q:List V->Hp->Prop),Inv X pins σ H s->t σ H Q->wpAny (model X.prog X.w) X.A (evalAll ((backToKw pos (YeZ kws X.env)).map (·.2))) (AP X pins σ Q) X.xe s
section
variable {X:Cx}{CX:CXT}{k:Nat}{f C:Addr}{fd:Ybh}{ps ks:List Str}{sp:Sp}{E:XK}{x m:Str}{p pos apos kpos:Pos}{e o:Expr}{es:List Expr}{kws:List Keyword}{te ta:TE}{t tk:TA}{nm:Option Str}
theorem pk_nil:PK X [] tNil:=fun _ _ _ _ H Q I h=>wpAny_evalAll_nil ⟨[],H,I,.nil,h⟩
structure KBinds (K:Yaa)(fd:Ybh)(ps ks:List Str)(g:List Value->List Value->List Value)(gV:List V->List V->List V):Prop where
 to:∀ (s:Shared) (us ws:List Value),K.In s.heap->(g us ws).length=ps.length->BindsTo s fd ⟨us,ks.zip ws⟩ (ps.zip (g us ws))
 rel:∀ {vs:List V} {us:List Value} {zs:List V} {ws:List Value},Vals vs us->Vals zs ws->Vals (gV vs zs) (g us ws)
variable {g:List Value->List Value->List Value}{gV:List V->List V->List V}
end

structure FnScope (N P:List Str)(sc:Scope):Prop where
 kind:sc.kind=.function
 co:sc.isCoroutine=false
 gen:sc.isGenerator=false
 nd:N.Nodup
 pre:N.take P.length=P
 par:∀ x∈P,sc.names.lookup x=some .local\/sc.names.lookup x=some .cell
 nofree:∀ y∈sc.names,y.2≠.free

theorem jd1 {kindOf:Str->Option Ya3}{x:Str}:∀ {binds:List (Str×Value)} {m:Str->Option Value},(∀ v,(x,v)∉binds)->bindL kindOf binds m x=m x
 | [],_,_=>rfl
 | (n,v)::r,m,h=>by
  unfold bindL
  rw [jd1 fun w hw=>h w (Yag _ hw)]
  split
  ·have:x≠n:=by rintro rfl; exact h v Yao
   simp [this]
  ·rfl
theorem jd3 {kindOf:Str->Option Ya3}{x:Str}:∀ {binds:List (Str×Value)} {m:Str->Option Value},(∀ v,(x,v)∉binds)->bindC kindOf binds m x=m x
 | [],_,_=>rfl
 | (n,v)::r,m,h=>by
  unfold bindC
  rw [jd3 fun w hw=>h w (Yag _ hw)]
  split
  ·rfl
  ·have:x≠n:=by rintro rfl; exact h v Yao
   simp [this]
theorem jd2 {kindOf:Str->Option Ya3}{x:Str}{v:Value}:∀ {P:List Str} {vs:List Value} {i:Nat} {m:Str->Option Value},P.Nodup->P[i]?=some x->vs[i]?=some v->kindOf x=some .local->
  bindL kindOf (P.zip vs) m x=some v
 | [],_,_,_,_,h,_,_=>by simp at h
 | _::_,[],_,_,_,_,h,_=>by simp at h
 | p::P,w::vs,0,m,nd,h1,h2,hk=>by
  simp at h1 h2; subst h1; subst h2
  show bindL kindOf ((p,w)::P.zip vs) m p=_
  unfold bindL
  rw [jd1 fun v hv=>(List.nodup_cons.mp nd).1 (Yci hv).1,if_pos hk]
  simp
 | p::P,w::vs,i + 1,m,nd,h1,h2,hk=>by
  show bindL kindOf ((p,w)::P.zip vs) m x=_
  unfold bindL
  exact jd2 (i:=i) (List.nodup_cons.mp nd).2 (by simpa using h1) (by simpa using h2) hk
theorem jd4 {kindOf:Str->Option Ya3}{x:Str}{v:Value}:∀ {P:List Str} {vs:List Value} {i:Nat} {m:Str->Option Value},P.Nodup->P[i]?=some x->vs[i]?=some v->kindOf x≠some .local->
  bindC kindOf (P.zip vs) m x=some v
 | [],_,_,_,_,h,_,_=>by simp at h
 | _::_,[],_,_,_,_,h,_=>by simp at h
 | p::P,w::vs,0,m,nd,h1,h2,hk=>by
  simp at h1 h2; subst h1; subst h2
  show bindC kindOf ((p,w)::P.zip vs) m p=_
  unfold bindC
  rw [jd3 fun v hv=>(List.nodup_cons.mp nd).1 (Yci hv).1,if_neg hk]
  simp
 | p::P,w::vs,i + 1,m,nd,h1,h2,hk=>by
  show bindC kindOf ((p,w)::P.zip vs) m x=_
  unfold bindC
  exact jd4 (i:=i) (List.nodup_cons.mp nd).2 (by simpa using h1) (by simpa using h2) hk

noncomputable def start (N:List Str)(vs:List V):St:=vs.map some++Yai (N.length - vs.length) none

noncomputable def cxOf (CX:CXT)(P:Program)(w:World)(K:Yaa)(mg:Str->Option Value)(base:Heap)(N:List Str)(qual:Str)(scope:Scope)(f:Addr)(cd:Value)(A:Around)(outer:List Env)(s:Shared)(H:Hp)(E:XK):Cx where
 prog:=P
 w:=w
 K:=K
 mg:=mg
 base:=base
 A:=A.deeper (envOfC qual scope s.heap.objs.size f cd)
 N:=N
 s₀:=s
 H₀:=H
 env:=envOfC qual scope s.heap.objs.size f cd
 outer:=outer
 stack:=envOfC qual scope s.heap.objs.size f cd::outer
 ex:=[]
 calm:=true
 fn:=fun _=>true
 pn:=[]
 xe:=fun e s'=>wpAny (model P w) (A.deeper (envOfC qual scope s.heap.objs.size f cd)) (leaving (envOfC qual scope s.heap.objs.size f cd) e) (fun _ s''=>CX outer H s E e s'') (fun e' s''=>CX outer H s E e' s'') s'

theorem jdo {sc:Scope}{n:Nat}{x:Str}(h:sc.names.lookup x=some .cell):∃ c,(Ybd n sc.names []).lookup x=some c:=by
 have q:=Ycg sc.names n [] (.inl h)
 exact Option.isSome_iff_exists.mp q

theorem jcr {CX:CXT}{P:Program}{w:World}{K:Yaa}{mg:Str->Option Value}{base:Heap}{N ps:List Str}{qual:Str}{scope:Scope}{f:Addr}{cd:Value}{A:Around}{outer:List Env}{s s1:Shared}{H:Hp}{E:XK}{us:List Value}{vs:List V}
  (S:FnScope N ps scope) (hd:A.handled=none) (e0:Env0 P w K mg base A outer s H) (hl:vs.length=ps.length) (r:Vals vs us)
  (x:InCallC s s.heap.objs.size (bindL (envOfC qual scope s.heap.objs.size f cd).kindOf (ps.zip us) fun _=>none) (Ybd (s.heap.objs.size + 1) scope.names []) (bindC (envOfC qual scope s.heap.objs.size f cd).kindOf (ps.zip us) fun _=>none) s1) :
  Inv (cxOf CX P w K mg base N qual scope f cd A outer s H E) [] (start N vs) H s1:=by
 have hpl:ps.length<=N.length:=by have:=congrArg Yfu S.pre; rw [Ybm] at this; omega
 obtain ⟨h1,tk,rfl,hk⟩:=x.done
 have noA:∀ b:Addr,b∉(cxOf CX P w K mg base N qual scope f cd A outer s H E).ex:=fun b z=>absurd (show b∈([]:List Addr) from z) (by simp)
 refine ⟨⟨e0.mod,S.kind,rfl,rfl,Yaf _,fun y z c h1 h2=>?_,fun y hy=>?_,fun y c _ h=>?_,fun _=>hd,Ye3 e0.frames,.inr ⟨rfl,rfl⟩,fun b z=>absurd z (noA b),e0.bs,e0.bsz,fun b _ _=>noA b,fun b z=>absurd z (noA b),e0.funs,e0.frf⟩,
  rfl,e0.bare,Un.kept hk,⟨_,x.toInCall.ns,fun i y v h1 h2 h3=>?_⟩,fun y c h=>⟨_,x.cell y c h⟩,e0.hok.fresh (Yaf _),fun y c h=>?_,fun p hp=>absurd (show p∈([]:List (Addr×Obj)) from hp) (by simp),e0.hok.kept hk,?_⟩
 ·exact name_of_addr x.apart (Yax h1) (Yax h2)
 ·have hy:scope.names.lookup y=some .cell\/scope.names.lookup y=some .free:=hy
  rcases hy with hy | hy
  ·exact jdo hy
  ·exact absurd rfl (S.nofree _ (Yax hy))
 ·exact YbD (x.above y c (Yax h))
 ·have hi:i < vs.length:=by
   unfold start at h2
   by_cases hi:i < vs.length
   ·exact hi
   ·rw [YaP (by simpa using hi)] at h2
    rw [Ycj] at h2
    split at h2 <;> cases h2
  have ha:vs[i]?=some v:=by
   unfold start at h2
   rw [YaC (by simpa using hi),Yay] at h2
   cases e:vs[i]? with
   | none=>rw [e] at h2; cases h2
   | some a=>rw [e] at h2; cases h2; rfl
  obtain ⟨u,hu,rv⟩:=r.get ha
  have hp:ps[i]?=some y:=by
   rw [<- S.pre,YeP (by omega)]; exact h1
  have ndP:ps.Nodup:=by rw [<- S.pre]; exact S.nd.sublist (Ycr _ _)
  refine ⟨u,rv,?_⟩
  rcases S.par y (Yba hp) with k | k
  ·exact .inl ⟨k,jd2 ndP hp hu k⟩
  ·obtain ⟨c,e⟩:=jdo (n:=s.heap.objs.size + 1) k
   refine .inr ⟨.inl k,c,e,?_⟩
   have q:=x.cell y c e
   rw [jd4 ndP hp hu (by show scope.names.lookup y≠_; rw [k]; decide)] at q
   exact q
 ·exact e0.hok.fresh (YbD (x.above y c (Yax h)))
 ·unfold start
  show _=N.length
  rw [YaD,Yac,Ye4]
  omega

theorem jod {CX:CXT}{P:Program}{w:World}{K:Yaa}{mg:Str->Option Value}{base:Heap}{k:Nat}{f:Addr}{name qual:Str}{params:YcF}{body:List Stmt}{scope:Scope}{dV kV doc pm cdv ct oc:Value}{an od:Option Addr}
  {osl:Array (Option Value)} {N ps:List Str} {sp:Sp} (lk:K.lookup f=some ⟨oc,od,.func (Ya2 name qual params body scope dV kV doc pm an cdv ct),osl⟩) (hcd:Ybu K cdv qual=true) (S:FnScope N ps scope)
  (len:∀ vs H Q E,sp vs H Q E->vs.length=ps.length)
  (hbody:∀ (A:Around) (outer:List Env) (s:Shared) (H:Hp) (vs:List V) (Q:VK) (E:XK),Room k (A.deeper (envOfC qual scope s.heap.objs.size f cdv))->sp vs H Q E->
   ∃ t,PSs (cxOf CX P w K mg base N qual scope f cdv A outer s H E) body t/\t { nx:=fun _ H'=>Q .non H',rt:=Q } (start N vs) H) :
  FnOk P w K mg base CX (k + 1) f (Ya2 name qual params body scope dV kV doc pm an cdv ct) ps sp:=by
 refine ⟨len,fun A outer s H args us vs Q E hr e0 hb r hsp=>?_⟩
 have hl:=len _ _ _ _ hsp
 have KX:K.In s.heap:=e0.mod.kin.keeps fun b o e=>(e0.bs b o e).1
 have lim:s.heap.NoLimit:=e0.mod.nolimit.keeps fun b o e=>(e0.bs b o e).1
 have hkind:∀ y∈ps.zip us,scope.names.lookup y.1=some .local\/(scope.names.lookup y.1=some .cell/\((Ybd (s.heap.objs.size + 1) scope.names []).lookup y.1).isSome=true):=fun ⟨n,v⟩ hy=>by
  rcases S.par n (Yci hy).1 with q | q
  ·exact .inl q
  ·exact .inr ⟨q,Ycg _ _ _ (.inl q)⟩
 refine YdF hr.depth (KX _ _ lk) rfl S.co S.gen rfl (Ydu KX hcd) (hb _ _ _ _ ?_)
 refine Yc4 S.kind hkind fun env he s1 x=>?_
 subst he
 refine ⟨lim.keeps x.toInCall.keep,Yf2 ?_⟩
 obtain ⟨t,ht,hq⟩:=hbody A outer s H vs Q E (hr.deeper _) hsp
 have I:Inv (cxOf CX P w K mg base N qual scope f cdv A outer s H E) [] (start N vs) H s1:=jcr S hr.hd e0 hl r x
 refine YaL (ht [] s1 (start N vs) H _ I hq) (fun fl s' hs=>?_) fun e s' hs=>hs
 have fin:∀ {σ':St} {H':Hp} {v:V} {u:Value},Inv (cxOf CX P w K mg base N qual scope f cdv A outer s H E) [] σ' H' s'->RelV v u->Q v H'->CE outer P w H s Q u s':=
  fun {σ' H' v u} J rv q=>⟨v,H',J.os,J.bare,J.base,J.hok,rv,q⟩
 cases fl with
 | ret u=>
  obtain ⟨v,σ',H',J,rv,q⟩:=hs
  exact fin J rv q
 | next=>
  obtain ⟨σ',H',J,q⟩:=hs
  exact fin (v:=V.non) (u:=YbA) J rfl q
 | brk=>
  obtain ⟨_,_,_,q⟩:=hs
  exact Ybk q
 | cont=>
  obtain ⟨_,_,_,q⟩:=hs
  exact Ybk q
section
variable {X:Cx}{x:Str}{p pos:Pos}{e:Expr}{es:List Expr}{t:TA}{id T:String}{r:List V->Hp->VK->Prop}

noncomputable def tCB (r:List V->Hp->VK->Prop)(t:TA):TE:=fun σ H Q=>t σ H fun vs H1=>r vs H1 Q
theorem jb1 (hc:jaK X (.builtin id) r)(hg:Gl X x)(hm:X.mg x=none)(hv:Yco x=some (.builtin id))(ha:PA X (e::es) t)(hn:x ≠ "__name__" := by decide)(hdb:(x == ("__debug__" : Str))=false:=by decide)
  (he:Yar (e::es) X.env=(false,eval e X.env)::Yar es X.env:=by rfl) (hpl:(backTo pos (Yar es X.env)).any (·.1)=false:=by rfl):PE X (.Call (.Name x p) (e::es) [] pos) (tCB r t):=by
 intro pins s σ H Q I h
 refine Ybx (jcL I hg hm hv ?_ hn hdb)
 exact PyProof.Rows.callWith_builtin1 (thn (ha pos pins s σ H _ I h) fun us s1 ⟨vs,H1,I1,r1,q1⟩=>hc pins s1 σ H1 vs us Q I1 r1 q1) he hpl
theorem jby (hc:jaK X (.type T) r)(hg:Gl X x)(hm:X.mg x=none)(hv:Yco x=some (.type T))(ha:PA X (e::es) t)(hn:x ≠ "__name__" := by decide)(hdb:(x == ("__debug__" : Str))=false:=by decide)
  (he:Yar (e::es) X.env=(false,eval e X.env)::Yar es X.env:=by rfl) (hpl:(backTo pos (Yar es X.env)).any (·.1)=false:=by rfl):PE X (.Call (.Name x p) (e::es) [] pos) (tCB r t):=by
 intro pins s σ H Q I h
 refine Ybx (jcL I hg hm hv ?_ hn hdb)
 exact YbC (thn (ha pos pins s σ H _ I h) fun us s1 ⟨vs,H1,I1,r1,q1⟩=>hc pins s1 σ H1 vs us Q I1 r1 q1) he hpl
end
end L2

namespace HT
open PySem PyProof.Rows

noncomputable def lexLt:List Int->List Int->Bool
 | [],[]=>false
 | [],_::_=>true
 | _::_,[]=>false
 | x::xs,y::ys=>if x=y then lexLt xs ys else decide (x < y)
section
open PySem.SeqAt
open PySem.AutoSeq1 (wpAny_loadPart')
open PySem.MeetsSeq PySem.MeetsSeq2 PySem.MeetsSeq3

end

section
variable {prog:Program}{w:World}{A:Around}{E:Value->Shared->Prop}{s:Shared}

theorem cat_tup {t b:Addr}{vs ws:List Value}{Q:Value->Shared->Prop}(ht:IsTup s.heap t vs.toArray)(hb:IsTup s.heap b ws.toArray)(hv:vs≠[])
  (h1:ws=[]->Q (.ref t) s) (h2:ws≠[]->Q (.ref s.heap.objs.size) { s with heap:=s.heap.push { cls:=.type "tuple",data:=.seq (vs++ws).toArray } })
  (hsz:vs.length + ws.length<=Yae):wpAny (model prog w) A (Ybl .Add (.ref t) (.ref b)) Q E s:=by
 obtain ⟨⟨cls,dd,data,sl⟩,ho,hc,n,hd⟩:=id ht
 obtain ⟨⟨cls2,dd2,data2,sl2⟩,ho2,hc2,n2,hd2⟩:=id hb
 simp only at hc hd hc2 hd2
 subst hc hd hc2 hd2
 have e:vs.toArray++ws.toArray=(vs++ws).toArray:=by simp
 by_cases hw:ws=[]
 ·exact Yf1 ⟨_,ho,rfl⟩ ⟨_,ho2,rfl⟩ YeH YfC Yc6 Yc0 (YcN _ _)
   (tuple_addW1 t b vs.toArray ws.toArray n n2 dd dd2 sl sl2 (by simpa using hv) (by simp [hw])) ⟨ho,ho2,h1 hw⟩
 ·refine Yf1 ⟨_,ho,rfl⟩ ⟨_,ho2,rfl⟩ YeH YfC Yc6 Yc0 (YcN _ _)
   (tuple_addW2 t b vs.toArray ws.toArray n n2 dd dd2 sl sl2 (by simpa using hv) (by simpa using hw) (by rw [Yam,Yam]; exact hsz)) ⟨ho,ho2,?_⟩
  rw [e]
  exact h2 hw

noncomputable def sIx (n d:Nat):Option Int->Nat
 | none=>d
 | some v=>if v < 0 then (v + (n:Int)).toNat else min v.toNat n
theorem sIx_none (n d:Nat):sIx n d none=d:=rfl
theorem sIx_nat (n d k:Nat):sIx n d (some (k:Int))=min k n:=by
 show (if (k:Int) < 0 then ((k:Int) + (n:Int)).toNat else min (k:Int).toNat n)=min k n
 rw [if_neg (by omega),Ygb]
theorem jk3 (n d:Nat)(hd:d<=n)(o:Option Int):sIx n d o<=n:=by
 cases o with
 | none=>exact hd
 | some v=>
  show (if v < 0 then (v + (n:Int)).toNat else min v.toNat n)<=n
  by_cases hv:v < 0
  ·rw [if_pos hv]; omega
  ·rw [if_neg hv]; exact Nat.min_le_right _ _
theorem jg6 (v:Int)(n d:Nat):(if v < 0 then max (v + (n:Int)) 0 else min v (n:Int))=((sIx n d (some v):Nat):Int):=by
 show (if v < 0 then max (v + (n:Int)) 0 else min v (n:Int))=(((if v < 0 then (v + (n:Int)).toNat else min v.toNat n):Nat):Int)
 by_cases hv:v < 0
 ·simp only [if_pos hv]; omega
 ·simp only [if_neg hv]; omega
theorem jfJ (lo hi:Option Int)(n:Nat):Ybp lo hi 1 (n:Int)=(((sIx n 0 lo:Nat):Int),((sIx n n hi:Nat):Int)):=by
 have h1:¬ ((1:Int) < 0):=by omega
 unfold Ybp
 simp only [h1,if_false]
 refine Prod.ext ?_ ?_
 ·cases lo with
  | none=>rfl
  | some v=>exact jg6 v n 0
 ·cases hi with
  | none=>rfl
  | some v=>exact jg6 v n n
theorem jft (i j:Nat):YaO (i:Int) (j:Int) 1=j - i:=by
 unfold YaO
 have h1:(1:Int) > 0:=by omega
 simp only [h1,if_true,Yfi]
 split <;> omega
theorem jaQ {v:Value}{o:Option Int}{Q:Option Int->Shared->Prop}(p:IsPart v o)(h:Q o s):wpAny (model prog w) A (Builtin.Slice.slicePartIndex v) Q E s:=by
 cases p with
 | none=>exact slicePart_none h
 | int i t=>exact slicePart_int h
theorem jaZ {sl:Addr}{vl vu:Value}{lo hi:Option Int}{n:Nat}{Q:Int×Int×Nat->Shared->Prop}(hs:s.heap.IsSliceOf sl vl vu .none)(pl:IsPart vl lo)(pu:IsPart vu hi)
  (h:Q (((sIx n 0 lo:Nat):Int),1,sIx n n hi - sIx n 0 lo) s):wpAny (model prog w) A (YbE (.ref sl) (pure (n:Int))) Q E s:=by
 obtain ⟨os,hos,hcs,hds⟩:=id hs
 unfold YbE YdM
 refine Yab (Yab (YbI hos hds (x:=vl) rfl (Yab (YbI hos hds (x:=vu) rfl (Yab (YbI hos hds (x:=.none) rfl (Yah ?_)))))))
 refine Yab (slicePart_none ?_)
 show wpAny _ _ (if ((1:Int) == 0)=true then _ else _) _ _ s
 rw [if_neg (by decide)]
 refine Yab (jaQ pl (Yab (jaQ pu (Yab (Yah ?_)))))
 show wpAny _ _ (match Ybp lo hi 1 (n:Int) with | (lo,hi)=>pure (lo,(1:Int),YaO lo hi 1)) _ _ s
 rw [jfJ lo hi n]
 show wpAny _ _ (pure (((sIx n 0 lo:Nat):Int),(1:Int),YaO ((sIx n 0 lo:Nat):Int) ((sIx n n hi:Nat):Int) 1)) _ _ s
 rw [jft]
 exact Yah h
theorem jhK (xs:Array Value)(i k:Nat):((YaK k).filterMap fun (m:Nat)=>xs[((i:Int) + (m:Int) * 1).toNat]?).toArray=((xs.toList.drop i).take k).toArray:=by
 have e:(fun (m:Nat)=>xs[((i:Int) + (m:Int) * 1).toNat]?)=fun m=>xs[i + m]?:=by
  funext m
  have:((i:Int) + (m:Int) * 1).toNat=i + m:=by omega
  rw [this]
 rw [e]
 have:=pick_run xs i k
 rw [YfK] at this
 have e2:((fun x=>xs[x]?) ∘ fun x=>i + x)=fun m=>xs[i + m]?:=rfl
 rw [e2] at this
 rw [this]

theorem getItem_tuple_cut {t sl:Addr}{items:Array Value}{vl vu:Value}{lo hi:Option Int}{Q:Value->Shared->Prop}(ht:IsTup s.heap t items)(hs:s.heap.IsSliceOf sl vl vu .none)(pl:IsPart vl lo)(pu:IsPart vu hi)
  (hw:¬ (sIx items.size 0 lo=0/\sIx items.size items.size hi=items.size))
  (h:Q (.ref s.heap.objs.size) { s with heap:=s.heap.push { cls:=.type "tuple",data:=.seq ((items.toList.drop (sIx items.size 0 lo)).take (sIx items.size items.size hi - sIx items.size 0 lo)).toArray } })
  (hsz:items.size<=Yae):wpAny (model prog w) A (getItem (.ref t) (.ref sl)) Q E s:=by
 have htake:sizeOk (.seq ((items.toList.drop (sIx items.size 0 lo)).take (sIx items.size items.size hi - sIx items.size 0 lo)).toArray):=by
  show ((items.toList.drop (sIx items.size 0 lo)).take (sIx items.size items.size hi - sIx items.size 0 lo)).toArray.size<=Yae
  rw [Yam,Ybm,Yec,Ycc]
  omega
 have hj:sIx items.size items.size hi<=items.size:=jk3 _ _ (Yaf _) hi
 obtain ⟨os,hos,hcs,hds⟩:=id hs
 have hTs:s.TypeIs (.ref sl) "slice" := ⟨os,hos,hcs⟩
 unfold getItem
 try with_reducible refine Ybc ?_
 first | refine Yab (Yah ?_) | skip
 refine Yab (Yew ht.typeIs (by decide) ?_)
 refine Yab (Ydk (name:=Yd9 "__getitem__") ht.typeIs YaT
  (YeG YaT ht.typeIs Yd2 ?_ (Yej _ _)))
 show wpAny _ _ (Ycv (.ref t) >>= _) _ _ s
 refine Yab (YfA ht ?_)
 refine Yab (YdC hTs ?_)
 rw [if_pos (by decide)]
 refine Yab (jaZ hs pl pu ?_)
 have hno:¬ ((((sIx items.size 0 lo:Nat):Int) == 0 && (1:Int) == 1 && (sIx items.size items.size hi - sIx items.size 0 lo) == items.size)=true):=by
  intro q
  rw [Yap,Yap] at q
  have q1:((sIx items.size 0 lo:Nat):Int)=0:=eq_of_beq q.1.1
  have q2:sIx items.size items.size hi - sIx items.size 0 lo=items.size:=eq_of_beq q.2
  exact hw ⟨by omega,by omega⟩
 show wpAny _ _ (if (((sIx items.size 0 lo:Nat):Int) == 0 && (1:Int) == 1 && (sIx items.size items.size hi - sIx items.size 0 lo) == items.size)=true then _ else _) _ _ s
 rw [if_neg hno,jhK]
 first
  | exact Yab (m:=YaQ _) (Ya6 (Yah ⟨_,rfl,Yah h⟩) htake)
  | exact Yab (m:=YaQ _) (Ya6 (Yab (Yah (Yah ⟨_,rfl,Yah h⟩))) htake)
  | exact Yab (Yab (m:=YaQ _) (Ya6 (Yah (Yah ⟨_,rfl,Yah h⟩)) htake))
  | exact Yab (Yab (m:=YaQ _) (Ya6 (Yah ⟨_,rfl,Yah h⟩) htake))
end
end HT

namespace L2
open PySem PySem.Spec PyProof.Rows

noncomputable abbrev TO:=St->Hp->(Option Int->Hp->Prop)->Prop
noncomputable def PO (X:Cx)(e:Option Expr)(t:TO):Prop:=
 ∀ (pins:List (Addr×Obj)) (s:Shared) (σ:St) (H:Hp) (Q:Option Int->Hp->Prop),Inv X pins σ H s->t σ H Q->
  wpAny (model X.prog X.w) X.A (evalPart e X.env) (fun u s'=>∃ o H',Inv X pins σ H' s'/\IsPart u o/\Q o H') X.xe s
noncomputable def ji5:TO:=fun _ H Q=>Q none H
noncomputable def jnm (t:TE):TO:=fun σ H Q=>t σ H fun x H1=>∃ i,x=.int i/\Q (some i) H1

section
variable {X:Cx}{e:Expr}{te:TE}{lo hi:Option Expr}{tl th:TO}{pos p2:Pos}

theorem jjq:PO X none ji5:=by
 intro pins s σ H Q I h
 rw [YfD]
 exact Yah ⟨none,H,I,.none,h⟩
theorem jjp (h:PE X e te):PO X (some e) (jnm te):=by
 intro pins s σ H Q I hw
 rw [evalPart_some]
 refine thn (h pins s σ H _ I hw) fun u s1 ⟨x,H1,I1,r1,q1⟩=>?_
 obtain ⟨i,rfl,q⟩:=q1
 obtain ⟨t,rfl⟩:=r1
 exact ⟨some i,H1,I1,.int i t,q⟩

noncomputable def SlR (X:Cx)(r:V->Option Int->Option Int->Hp->VK->Prop):Prop:=
 ∀ (pins:List (Addr×Obj)) (s:Shared) (σ:St) (H:Hp) (x:V) (v vl vu:Value) (lo hi:Option Int) (sl:Addr) (Q:VK),Inv X pins σ H s->RelV x v->s.heap.IsSliceOf sl vl vu .none->IsPart vl lo->IsPart vu hi->r x lo hi H Q->
  ∃ T id,YaX (.type T) "__getitem__" = pure (some (.builtin id))/\s.TypeIs v T/\wpAny (model X.prog X.w) X.A (getItem v (.ref sl)) (EP X pins σ Q) X.xe s
theorem SlR.or {r r':V->Option Int->Option Int->Hp->VK->Prop}(h:SlR X r)(h':SlR X r'):SlR X (fun x lo hi H Q=>r x lo hi H Q\/r' x lo hi H Q):=by
 intro pins s σ H x v vl vu lo hi sl Q I rx hs pl pu q
 rcases q with q | q
 ·exact h pins s σ H x v vl vu lo hi sl Q I rx hs pl pu q
 ·exact h' pins s σ H x v vl vu lo hi sl Q I rx hs pl pu q
noncomputable def tSl (r:V->Option Int->Option Int->Hp->VK->Prop)(te:TE)(tl th:TO):TE:=fun σ H Q=>te σ H fun x H1=>tl σ H1 fun l H2=>th σ H2 fun u H3=>r x l u H3 Q
theorem jhN {r:V->Option Int->Option Int->Hp->VK->Prop}(hr:SlR X r)(he:PE X e te)(hl:PO X lo tl)(hu:PO X hi th):PE X (.Subscript e (.Slice lo hi none p2) pos) (tSl r te tl th):=by
 intro pins s σ H Q I h
 refine Subscript_ (thn (he pins s σ H _ I h) fun v s1 ⟨x,H1,I1,r1,q1⟩=>?_)
 refine wpAny_Slice (thn (hl pins s1 σ H1 _ I1 q1) fun vl s2 ⟨l,H2,I2,pl,q2⟩=>thn (hu pins s2 σ H2 _ I2 q2) fun vu s3 ⟨u,H3,I3,pu,q3⟩=>?_)
 rw [YfD]
 refine Yah ?_
 have I4:Inv X pins σ H3 { s3 with heap:=s3.heap.push { cls:=.type "slice",data:=.fields #[vl,vu,.none] } }:=I3.kept (t':=s3.toks) fun b ob q=>Yad _ q
 obtain ⟨T,id,hT,ht,hg⟩:=hr pins { s3 with heap:=s3.heap.push { cls:=.type "slice",data:=.fields #[vl,vu,.none] } } σ H3 x v vl vu l u s3.heap.objs.size Q I4 r1 (Heap.IsSliceOf.new ..) pl pu q3
 show wpAny (model X.prog X.w) X.A (Yef e (.Slice lo hi none p2) v (.ref s3.heap.objs.size)) (EP X pins σ Q) X.xe { s3 with heap:=s3.heap.push { cls:=.type "slice",data:=.fields #[vl,vu,.none] } }
 exact tail_any (ops:=[.ref s3.heap.objs.size,v]) ht hT hg (by with_unfolding_all rfl)

noncomputable def cutV (xs:List V)(lo hi:Option Int):List V:=(xs.drop (HT.sIx xs.length 0 lo)).take (HT.sIx xs.length xs.length hi - HT.sIx xs.length 0 lo)
theorem jcy (xs:List V)(lo hi:Option Int):(cutV xs lo hi).length<=xs.length:=by
 unfold cutV
 rw [Ybm,Yec]
 omega
noncomputable def rSlT (K:Yaa):V->Option Int->Option Int->Hp->VK->Prop:=fun x lo hi H Q=>∃ a xs,x=.ref a/\SqT K H a xs/\
 ¬ (HT.sIx xs.length 0 lo=0/\HT.sIx xs.length xs.length hi=xs.length)/\∀ p,H p=none->Q (.ref p) (upd H p (.tup (cutV xs lo hi)))
theorem jkQ:SlR X (rSlT X.K):=by
 intro pins s σ H x v vl vu lo hi sl Q I rx hs pl pu h
 obtain ⟨a,xs,rfl,hx,hw,q⟩:=h
 cases rx
 obtain ⟨its,r,ht,hz⟩:=I.tuple hx
 have hlen:its.toArray.size=xs.length:=by rw [Yam]; exact r.length.symm
 refine ⟨"tuple",_,YaT.lookup,ht.typeIs,?_⟩
 refine HT.getItem_tuple_cut ht hs pl pu (by rw [hlen]; exact hw) ?_ (by rw [hlen]; exact hz)
 rw [hlen]
 refine ⟨.ref s.heap.objs.size,_,I.laid (t':=s.toks) (o:=.tup (cutV xs lo hi)) (fun b ob q=>Yad _ q) (Yaf _) ?_,rfl,q _ (I.hok.fresh (Yaf _))⟩
 exact ⟨Yal (jcy xs lo hi) hz,_,(r.drop (HT.sIx xs.length 0 lo)).take (HT.sIx xs.length xs.length hi - HT.sIx xs.length 0 lo),TupD.new _ _⟩

noncomputable def jnG (K:Yaa):R2:=fun x y H Q=>∃ a b xs ys,x=.ref a/\y=.ref b/\SqT K H a xs/\SqT K H b ys/\xs≠[]/\xs.length + ys.length<=Yae/\
 (ys=[]->Q (.ref a) H)/\(ys≠[]->∀ p,H p=none->Q (.ref p) (upd H p (.tup (xs++ys))))
theorem Vals.nil_iff {xs:List V}{us:List Value}(r:Vals xs us):us=[]↔xs=[]:=by
 cases r with
 | nil=>simp
 | cons _ _=>simp
theorem jjG:OpR X (Ybl .Add) (jnG X.K):=by
 intro pins s σ H x y v u Q I rx ry h
 obtain ⟨a,b,xs,ys,rfl,rfl,ha,hb,hx,hz,q1,q2⟩:=h
 cases rx
 cases ry
 obtain ⟨its,r1,p1,_⟩:=I.tuple ha
 obtain ⟨its2,r2,p2,_⟩:=I.tuple hb
 refine HT.cat_tup p1 p2 (fun z=>hx (r1.nil_iff.mp z)) (fun z=>⟨.ref a,H,I,rfl,q1 (r2.nil_iff.mp z)⟩) (fun z=>?_) (by rw [<- r1.length,<- r2.length]; exact hz)
 refine ⟨.ref s.heap.objs.size,_,I.laid (t':=s.toks) (o:=.tup (xs++ys)) (fun b ob q=>Yad _ q) (Yaf _) ?_,rfl,q2 (fun w=>z (r2.nil_iff.mpr w)) _ (I.hok.fresh (Yaf _))⟩
 exact ⟨by rw [YaD]; exact hz,_,r1.append r2,TupD.new _ _⟩
end

noncomputable def ixN (n:Nat)(i:Int):Option Nat:=if 0<=i then (if i < n then some i.toNat else none) else if -(n:Int)<=i then some (i + n).toNat else none
noncomputable def atI {α:Type}(xs:List α)(i:Int):Option α:=(ixN xs.length i).bind fun j=>xs[j]?
theorem jgI {n:Nat}{i:Int}{j:Nat}(h:ixN n i=some j):seqIndex? i n=some j/\j < n/\-(n:Int)<=i/\i < n:=by
 unfold ixN at h
 by_cases h0:0<=i
 ·rw [if_pos h0] at h
  by_cases h1:i < n
  ·rw [if_pos h1] at h
   have e:i.toNat=j:=Yan h
   exact ⟨by rw [seqIndex_of h0 h1,e],by omega,by omega,h1⟩
  ·rw [if_neg h1] at h; cases h
 ·rw [if_neg h0] at h
  by_cases h1:-(n:Int)<=i
  ·rw [if_pos h1] at h
   have e:(i + n).toNat=j:=Yan h
   exact ⟨by rw [YfZ (by omega) h1,e],by omega,h1,by omega⟩
  ·rw [if_neg h1] at h; cases h
theorem jeD {α:Type}{xs:List α}{i:Int}{v:α}(h:atI xs i=some v):∃ j,seqIndex? i xs.length=some j/\xs[j]?=some v/\j < xs.length/\-(xs.length:Int)<=i/\i < xs.length:=by
 unfold atI at h
 cases e:ixN xs.length i with
 | none=>rw [e] at h; cases h
 | some j=>
  rw [e] at h
  obtain ⟨h1,h2,h3,h4⟩:=jgI e
  exact ⟨j,h1,h,h2,h3,h4⟩
theorem jbr {α:Type}{xs:List α}{j:Nat}{v:α}(h:xs[j]?=some v):atI xs (j:Int)=some v:=by
 have hj:j < xs.length:=(List.getElem?_eq_some_iff.mp h).1
 have e:ixN xs.length (j:Int)=some j:=by
  unfold ixN
  rw [if_pos (by omega),if_pos (by omega)]; simp
 unfold atI; rw [e]; exact h
noncomputable def jeH (b:Expr):Prop:=∀ o i,subscripted b false o i=operate [o,i] (getItem o i)
noncomputable def IxR (X:Cx)(r:R2):Prop:=
 ∀ (value slice:Expr) (pins:List (Addr×Obj)) (s:Shared) (σ:St) (H:Hp) (x y:V) (v u:Value) (Q:VK),Inv X pins σ H s->RelV x v->RelV y u->r x y H Q->
  subscripted slice false v u=operate [v,u] (getItem v u)->wpAny (model X.prog X.w) X.A (Yef value slice v u) (EP X pins σ Q) X.xe s
noncomputable def MtR (X:Cx)(id:String)(r:V->List V->Hp->VK->Prop):Prop:=
 ∀ (pins:List (Addr×Obj)) (s:Shared) (σ:St) (H:Hp) (x:V) (xs:List V) (v:Value) (us:List Value) (Q:VK),Inv X pins σ H s->RelV x v->Vals xs us->r x xs H Q->
  wpAny (model X.prog X.w) X.A (call (.builtin id) (v::us)) (EP X pins σ Q) X.xe s
section
variable {X:Cx}{a b:Expr}{ta tb:TE}{pos:Pos}
theorem IxR.or {r r':R2}(h:IxR X r)(h':IxR X r'):IxR X (fun x y H Q=>r x y H Q\/r' x y H Q):=by
 intro value slice pins s σ H x y v u Q I rx ry q hs
 rcases q with q | q
 ·exact h value slice pins s σ H x y v u Q I rx ry q hs
 ·exact h' value slice pins s σ H x y v u Q I rx ry q hs
theorem jnN {r:R2}(hr:IxR X r)(ha:PE X a ta)(hb:PE X b tb)(hs:jeH b):PE X (.Subscript a b pos) (tOp r ta tb):=by
 intro pins s σ H Q I h
 exact Subscript_ (binT ha hb I h fun v u s2 x y H2 I2 rx ry q=>hr a b pins s2 σ H2 x y v u Q I2 rx ry q (hs _ _))

noncomputable def rIxL (K:Yaa):R2:=fun x y H Q=>∃ p xs i v,x=.ref p/\y=.int i/\SqL K H p xs/\atI xs i=some v/\Q v H
noncomputable def rIxT (K:Yaa):R2:=fun x y H Q=>∃ p xs i v,x=.ref p/\y=.int i/\SqT K H p xs/\atI xs i=some v/\Q v H
noncomputable def rIxS:R2:=fun x y H Q=>∃ z i c,x=.str z/\y=.int i/\z.length<=Yae/\atI z.cps.toList i=some c/\Q (.str ⟨#[c]⟩) H
theorem jj5:IxR X (rIxL X.K):=by
 intro value slice pins s σ H x y v u Q I rx ry h hs
 obtain ⟨p,xs,i,z,rfl,rfl,hq,he,q⟩:=h
 cases rx
 obtain ⟨t,rfl⟩:=ry
 obtain ⟨its,r,pl,hz⟩:=I.list hq
 obtain ⟨j,h1,h2,h3,h4,h5⟩:=jeD he
 obtain ⟨w,ew,rw'⟩:=r.get h2
 have hl:=r.length
 have hn:=jcq
 have fin:EP X pins σ Q w s:=⟨z,H,I,rw',q⟩
 by_cases h0:0<=i
 ·have hj:i.toNat=j:=by
   rw [seqIndex_of h0 h5] at h1
   exact Yan h1
  exact item_listR pl.isList h0 (by omega) (by rw [hj]; simpa using ew) fin hs
 ·have hj:(i + (its.toArray.size:Int)).toNat=j:=by
   rw [YfZ (by omega) h4] at h1
   rw [Yam,<- hl]
   exact Yan h1
  exact YfP (x:=w) pl.isList.typeIs slot_list_getitem.lookup
   (wpAny_getItem_list_neg (Q:=fun r s'=>r=w/\EP X pins σ Q r s') pl.isList (by omega) (by rw [Yam] <;> omega) (by omega) (by rw [hj]; simpa using ew) ⟨rfl,fin⟩) hs
theorem jlY:IxR X (rIxT X.K):=by
 intro value slice pins s σ H x y v u Q I rx ry h hs
 obtain ⟨p,xs,i,z,rfl,rfl,hq,he,q⟩:=h
 cases rx
 obtain ⟨t,rfl⟩:=ry
 obtain ⟨its,r,pl,hz⟩:=I.tuple hq
 obtain ⟨j,h1,h2,h3,h4,h5⟩:=jeD he
 obtain ⟨w,ew,rw'⟩:=r.get h2
 have hl:=r.length
 have hn:=jcq
 have fin:EP X pins σ Q w s:=⟨z,H,I,rw',q⟩
 exact YfP (x:=w) pl.typeIs slot_tuple_getitem.lookup
  (getItem_tuple (j:=j) (Q:=fun r s'=>r=w/\EP X pins σ Q r s') pl (by omega) (by omega) (by rw [Yam,<- hl]; exact h1) (by simpa using ew) ⟨rfl,fin⟩) hs
theorem jlZ:IxR X rIxS:=by
 intro value slice pins s σ H x y v u Q I rx ry h hs
 obtain ⟨z,i,c,rfl,rfl,hz,he,q⟩:=h
 obtain ⟨t,rfl⟩:=rx
 obtain ⟨t',rfl⟩:=ry
 obtain ⟨j,h1,h2,h3,h4,h5⟩:=jeD he
 have hl:z.cps.toList.length=z.length:=by simp [Str.length]
 rw [hl] at h1 h4 h5
 have hn:=jcq
 exact tail_any (Yb9 s z t) slot_str_getitem.lookup (getItem_str (c:=c) (by
  have e1:decide (i < -(2 ^ 63:Int))=false:=decide_eq_false (by omega)
  have e2:decide (i ≥ 2 ^ 63)=false:=decide_eq_false (by omega)
  rw [e1,e2,Bool.or_false]) (by rw [h1]; simpa using h2) ⟨.str ⟨#[c]⟩,H,I.tok _,⟨_,rfl⟩,q⟩) hs
noncomputable def rIx (K:Yaa):R2:=fun x y H Q=>rIxL K x y H Q\/rIxT K x y H Q\/rIxS x y H Q
theorem jl0:IxR X (rIx X.K):=jj5.or (jlY.or jlZ)

theorem jfx (its:List Value)(n j:Nat)(u:Value):Yd6 (·.setIfInBounds j u) { cls:=.type "list",data:=.seq its.toArray n }={ cls:=.type "list",data:=.seq (its.set j u).toArray n }:=by
 simp [Yd6]
theorem Inv.lst {pins:List (Addr×Obj)}{σ:St}{H:Hp}{s:Shared}{p:Addr}{xs:List V}(I:Inv X pins σ H s)(h:H p=some (.lst xs)) :
  ∃ (its:List Value) (n:Nat),Vals xs its/\s.heap.get? p=some { cls:=.type "list",data:=.seq its.toArray n }/\xs.length<=Yae:=by
 obtain ⟨z,its,n,r,e⟩:=I.hok p _ h
 exact ⟨its,n,r,e,z⟩
theorem Inv.lstUpd {pins:List (Addr×Obj)}{σ:St}{H:Hp}{s:Shared}{p:Addr}{xs ys:List V}{its its':List Value}{n n':Nat}{f:Obj->Obj}(I:Inv X pins σ H s)(h:H p=some (.lst xs))
  (ho:s.heap.get? p=some { cls:=.type "list",data:=.seq its.toArray n }) (hf:f { cls:=.type "list",data:=.seq its.toArray n }={ cls:=.type "list",data:=.seq its'.toArray n' }) (r:Vals ys its') (hz:ys.length<=Yae) (t:Nat) :
  Inv X pins σ (upd H p (.lst ys)) { s with heap:=s.heap.update p f,toks:=t }:=by
 have e:(s.heap.update p f).get? p=some { cls:=.type "list",data:=.seq its'.toArray n' }:=by
  rw [YbT f ho (by rw [hf] <;> rfl),hf]
 refine I.write (x:=p) (e:=p) (by rw [h]; trivial) (.inl rfl) (fun b u hb q=>(Ydf _ _ (Ne.symm hb)).trans q) ⟨_,e⟩ ?_
 exact ⟨hz,its',n',r,e⟩
noncomputable def jk6:V->V->V->Hp->(Hp->Prop)->Prop:=fun o i v H Q=>∃ p xs k j,o=.ref p/\i=.int k/\H p=some (.lst xs)/\ixN xs.length k=some j/\Q (upd H p (.lst (xs.set j v)))
theorem jhw:PSet X jk6:=by
 intro pins s σ H o i v ov iv u Q I ro ri rv h
 obtain ⟨p,xs,k,j,rfl,rfl,hp,hj,q⟩:=h
 cases ro
 obtain ⟨t,rfl⟩:=ri
 obtain ⟨its,n,r,ho,hz⟩:=I.lst hp
 obtain ⟨h1,h2,h3,h4⟩:=jgI hj
 have hl:=r.length
 have hn:=jcq
 have I':Inv X pins σ (upd H p (.lst (xs.set j v))) { s with heap:=s.heap.update p (Yd6 (·.setIfInBounds j u)) }:=
  I.lstUpd hp ho (jfx its n j u) (r.set rv j) (by rw [List.length_set]; exact hz) s.toks
 by_cases h0:0<=k
 ·have hk:k.toNat=j:=by
   rw [seqIndex_of h0 h4] at h1
   exact Yan h1
  exact PySem.W.ki_setAt ho h0 (by omega) (by rw [Yam,<- hl]; exact h4) (by rw [hk]; exact ⟨_,I',q⟩)
 ·have hk:(k + (its.toArray.size:Int)).toNat=j:=by
   rw [YfZ (by omega) h3] at h1
   rw [Yam,<- hl]
   exact Yan h1
  exact PySem.W.ki_setBack ho (by omega) (by rw [Yam,<- hl]; exact h3) (by omega) (by rw [hk]; exact ⟨_,I',q⟩)

theorem jdx (lo hi:Option Int)(n:Nat):(Yck lo hi none n).1=((HT.sIx n 0 lo:Nat):Int)/\(Yck lo hi none n).2.1=((HT.sIx n n hi:Nat):Int)/\(Yck lo hi none n).2.2=1:=by
 refine ⟨?_,?_,rfl⟩
 ·cases lo with
  | none=>simp [Yck,HT.sIx]
  | some i=>
   simp only [Yck,HT.sIx,YfI,show (1:Int) > 0 by decide,if_true]
   by_cases h:i < 0
   ·simp only [h,if_true] <;> omega
   ·simp only [h,if_false] <;> omega
 ·cases hi with
  | none=>simp [Yck,HT.sIx]
  | some i=>
   simp only [Yck,HT.sIx,YfI,show (1:Int) > 0 by decide,if_true]
   by_cases h:i < 0
   ·simp only [h,if_true] <;> omega
   ·simp only [h,if_false] <;> omega
theorem jc4 (its:List Value)(lo hi:Option Int):Yeg its.toArray lo hi none=((its.drop (HT.sIx its.length 0 lo)).take (HT.sIx its.length its.length hi - HT.sIx its.length 0 lo)).toArray:=by
 obtain ⟨h1,h2,h3⟩:=jdx lo hi its.toArray.size
 unfold Yeg
 rw [h1,h2,h3]
 simp only [sliceRange_one,pick_run,Yam] <;> rfl
noncomputable def rSlL (K:Yaa):V->Option Int->Option Int->Hp->VK->Prop:=fun x lo hi H Q=>∃ a xs,x=.ref a/\SqL K H a xs/\∀ p,H p=none->Q (.ref p) (upd H p (.lst (cutV xs lo hi)))
theorem jjb:SlR X (rSlL X.K):=by
 intro pins s σ H x v vl vu lo hi sl Q I rx hs pl pu h
 obtain ⟨a,xs,rfl,hx,q⟩:=h
 cases rx
 obtain ⟨its,r,ht,hz⟩:=I.list hx
 have hlen:=r.length
 refine ⟨"list",_,slot_list_getitem.lookup,ht.isList.typeIs,?_⟩
 refine Ydg ht.isList hs pl pu .none (by simp) ?_ (by rw [Yam] <;> omega)
 rw [jc4,<- hlen]
 refine ⟨.ref s.heap.objs.size,_,I.laid (t':=s.toks) (o:=.lst (cutV xs lo hi)) (fun b ob q=>Yad _ q) (Yaf _) ?_,rfl,q _ (I.hok.fresh (Yaf _))⟩
 exact ⟨Yal (jcy xs lo hi) hz,_,0,(r.drop (HT.sIx xs.length 0 lo)).take (HT.sIx xs.length xs.length hi - HT.sIx xs.length 0 lo),Yav _ rfl⟩

noncomputable def flatV:V->Bool
 | .non=>true
 | .bl _=>true
 | .int _=>true
 | .str _=>true
 | _=>false
noncomputable def eqV:V->V->Bool
 | .non,.non=>true
 | .bl a,.bl b=>a == b
 | .bl a,.int b=>(if a then 1 else 0) == b
 | .int a,.bl b=>a == (if b then 1 else 0)
 | .int a,.int b=>a == b
 | .str a,.str b=>a == b
 | _,_=>false
theorem jmi {A:Around}{s:Shared}{y x:V}{u v:Value}(ry:RelV y u)(rx:RelV x v)(fy:flatV y=true)(fx:flatV x=true):YeD A s u v (eqV y x):=by
 cases y with
 | non=>
  cases ry
  cases x with
  | non=>cases rx; exact YeD.same _
  | bl b=>cases rx; exact YeD.none_bool b
  | int b=>obtain ⟨t,rfl⟩:=rx; exact YeD.none_int b t
  | str b=>obtain ⟨t,rfl⟩:=rx; exact YeD.none_str b t
  | _=>exact absurd (show false=true from fx) Yak
 | bl a=>
  cases ry
  cases x with
  | non=>cases rx; exact YeD.bool_none a
  | bl b=>cases rx; exact YeD.bool_bool a b
  | int b=>obtain ⟨t,rfl⟩:=rx; exact YeD.bool_int a b t
  | str b=>obtain ⟨t,rfl⟩:=rx; exact YeD.bool_str a b t
  | _=>exact absurd (show false=true from fx) Yak
 | int a=>
  obtain ⟨t',rfl⟩:=ry
  cases x with
  | non=>cases rx; exact YeD.int_none a t'
  | bl b=>cases rx; exact YeD.int_bool a t' b
  | int b=>obtain ⟨t,rfl⟩:=rx; exact YeD.int_int a t' b t
  | str b=>obtain ⟨t,rfl⟩:=rx; exact YeM a t' b t
  | _=>exact absurd (show false=true from fx) Yak
 | str a=>
  obtain ⟨t',rfl⟩:=ry
  cases x with
  | non=>cases rx; exact YeD.str_none a t'
  | bl b=>cases rx; exact YeD.str_bool a t' b
  | int b=>obtain ⟨t,rfl⟩:=rx; exact YeL a t' b t
  | str b=>obtain ⟨t,rfl⟩:=rx; exact YeD.str_str a t' b t
  | _=>exact absurd (show false=true from fx) Yak
 | _=>exact absurd (show false=true from fy) Yak
noncomputable def eqU (x:V)(u:Value):Bool:=match u with
 | .none=>eqV .non x
 | .bool b=>eqV (.bl b) x
 | .int i _=>eqV (.int i) x
 | .str z _=>eqV (.str z) x
 | _=>false
theorem jiI {x y:V}{u:Value}(r:RelV y u)(f:flatV y=true):eqU x u=eqV y x:=by
 cases y with
 | non=>cases r; rfl
 | bl b=>cases r; rfl
 | int i=>obtain ⟨t,rfl⟩:=r; rfl
 | str z=>obtain ⟨t,rfl⟩:=r; rfl
 | _=>exact absurd (show false=true from f) Yak
theorem jcB {x:V}:∀ {xs:List V} {us:List Value},Vals xs us->xs.all flatV=true->us.any (eqU x)=xs.any fun y=>eqV y x
 | _,_,.nil,_=>rfl
 | y::xs,u::us,.cons r t,f=>by
  rw [Ybw,Yap] at f
  rw [Ybo,Ybo,jiI r f.1,jcB t f.2]
theorem jaT {A:Around}{s:Shared}{x:V}{v:Value}(rx:RelV x v)(fx:flatV x=true):∀ {xs:List V} {us:List Value},Vals xs us->xs.all flatV=true->∀ u∈us,YeD A s u v (eqU x u)
 | _,_,.nil,_=>fun u hu=>by cases hu
 | y::xs,u::us,.cons r t,f=>fun u' hu=>by
  rw [Ybw,Yap] at f
  rcases YaI.mp hu with rfl | hu
  ·rw [jiI r f.1]; exact jmi r rx f.1 fx
  ·exact jaT rx fx t f.2 u' hu
noncomputable def inV (x:V)(xs:List V):Bool:=xs.any fun y=>eqV y x
noncomputable def rIn (K:Yaa)(neg:Bool):R2:=fun x y H Q=>∃ p xs,y=.ref p/\(SqL K H p xs\/SqT K H p xs)/\flatV x=true/\xs.all flatV=true/\Q (.bl (if neg then !inV x xs else inV x xs)) H
theorem jgk:OpR X (YaV .In) (rIn X.K false):=by
 intro pins s σ H x y v u Q I rx ry h
 obtain ⟨p,xs,rfl,hq,fx,fs,q⟩:=h
 cases ry
 rcases hq with hq | hq
 ·obtain ⟨its,r,pl,hz⟩:=I.list hq
  refine Yf4 (eqU x) pl.isList (fun w hw=>jaT rx fx r fs w (by simpa using hw)) ⟨.bl _,H,I,rfl,?_⟩
  rw [show its.toArray.any (eqU x)=its.any (eqU x) by simp,jcB r fs]
  exact q
 ·obtain ⟨its,r,pl,hz⟩:=I.tuple hq
  refine SeqAt.in_tupleAt (eqU x) pl (fun w hw=>jaT rx fx r fs w (by simpa using hw)) ⟨.bl _,H,I,rfl,?_⟩
  rw [show its.toArray.any (eqU x)=its.any (eqU x) by simp,jcB r fs]
  exact q
theorem jdD:OpR X (YaV .NotIn) (rIn X.K true):=by
 intro pins s σ H x y v u Q I rx ry h
 obtain ⟨p,xs,rfl,hq,fx,fs,q⟩:=h
 cases ry
 rcases hq with hq | hq
 ·obtain ⟨its,r,pl,hz⟩:=I.list hq
  refine Yfn (eqU x) pl.isList (fun w hw=>jaT rx fx r fs w (by simpa using hw)) ⟨.bl _,H,I,rfl,?_⟩
  rw [show its.toArray.any (eqU x)=its.any (eqU x) by simp,jcB r fs]
  exact q
 ·obtain ⟨its,r,pl,hz⟩:=I.tuple hq
  refine SeqAt.notIn_tupleAt (eqU x) pl (fun w hw=>jaT rx fx r fs w (by simpa using hw)) ⟨.bl _,H,I,rfl,?_⟩
  rw [show its.toArray.any (eqU x)=its.any (eqU x) by simp,jcB r fs]
  exact q
theorem jaK.or {f:Value}{r r':List V->Hp->VK->Prop}(h:jaK X f r)(h':jaK X f r'):jaK X f (fun xs H Q=>r xs H Q\/r' xs H Q):=by
 intro pins s σ H xs us Q I rs q
 rcases q with q | q
 ·exact h pins s σ H xs us Q I rs q
 ·exact h' pins s σ H xs us Q I rs q
theorem jd0:jaK X (.type "list") (fun xs H Q=>∃ p ys,xs=[.ref p]/\(SqL X.K H p ys\/SqT X.K H p ys)/\∀ l,H l=none->Q (.ref l) (upd H l (.lst ys))):=by
 intro pins s σ H xs us Q I r h
 obtain ⟨p,ys,rfl,hq,q⟩:=h
 obtain ⟨u,rfl,rx⟩:=jbW r
 cases rx
 have fin:∀ (its:List Value),Vals ys its->ys.length<=Yae->∀ (h':Heap) (c':Nat),(∀ b o',s.heap.get? b=some o'->h'.get? b=some o')->
   h'.get? s.heap.objs.size=some { cls:=.type "list",dict:=none,data:=.seq its.toArray c',slots:=#[] }->EP X pins σ Q (.ref s.heap.objs.size) { s with heap:=h' }:=fun its r' hz h' c' kp e=>
  ⟨.ref s.heap.objs.size,_,I.laid (t':=s.toks) kp (Yaf _) (show jaB X.prog X.w _ h' _ (.lst ys) from ⟨hz,its,c',r',e⟩),rfl,q _ (I.hok.fresh (Yaf _))⟩
 rcases hq with hq | hq
 ·obtain ⟨its,r',pl,hz⟩:=I.list hq
  have hlen:=r'.length
  obtain ⟨o,ho,hc,n,hd⟩:=pl.isList
  exact call_list_seq p (.inl rfl) ho hc hd (fun h' c' kp e=>fin its r' hz h' c' kp e) (by simp only [Yam] <;> omega)
 ·obtain ⟨its,r',pl,hz⟩:=I.tuple hq
  have hlen:=r'.length
  obtain ⟨o,ho,hc,n,hd⟩:=pl
  exact call_list_seq p (.inr rfl) ho hc hd (fun h' c' kp e=>fin its r' hz h' c' kp e) (by simp only [Yam] <;> omega)
theorem jdp:jaK X (.type "tuple") (fun xs H Q=>∃ p ys,xs=[.ref p]/\((SqL X.K H p ys/\∀ l,H l=none->Q (.ref l) (upd H l (.tup ys)))\/(SqT X.K H p ys/\Q (.ref p) H))):=by
 intro pins s σ H xs us Q I r h
 obtain ⟨p,ys,rfl,h⟩:=h
 obtain ⟨u,rfl,rx⟩:=jbW r
 cases rx
 rcases h with ⟨hq,q⟩ | ⟨hq,q⟩
 ·obtain ⟨its,r',pl,hz⟩:=I.list hq
  have hlen:=r'.length
  refine call_tuple_list pl.isList (fun h' kp=>?_) (by simp only [Yam] <;> omega)
  have I1:Inv X pins σ H { s with heap:=h' }:=I.kept (t':=s.toks) kp
  have I2:Inv X pins σ (upd H h'.objs.size (.tup ys)) { s with heap:=h'.push { cls:=.type "tuple",data:=.seq its.toArray } }:=
   I1.laid (t':=s.toks) (fun b o e=>Yad _ e) (Yaf _) (show jaB X.prog X.w _ _ _ (.tup ys) from ⟨hz,its,r',TupD.new _ _⟩)
  exact ⟨.ref h'.objs.size,_,I2,rfl,q _ (I1.hok.fresh (Yaf _))⟩
 ·obtain ⟨its,r',pl,hz⟩:=I.tuple hq
  exact call_tuple_same pl ⟨.ref p,H,I,rfl,q⟩

noncomputable def tyV (K:Yaa)(T:String)(x:V)(H:Hp):Prop:=match x with
 | .str _=>T = "str"
 | .int _=>T = "int"
 | .ref p=>(T = "list" /\ ∃ xs,SqL K H p xs)\/(T = "tuple" /\ ∃ o,K.lookup p=some o/\o.cls=.type "tuple" /\ o.dict=none)\/
   (T = "dict" /\ ((∃ kvs,H p=some (.dK kvs))\/∃ kvs,H p=some (.dT kvs)))\/(T = "set" /\ ∃ S n,H p=some (.set S n))\/(T = "tuple" /\ ∃ xs,H p=some (.tup xs))
 | _=>False
theorem jfM {pins:List (Addr×Obj)}{σ:St}{H:Hp}{s:Shared}{T:String}{x:V}{v:Value}(I:Inv X pins σ H s)(r:RelV x v)(ty:tyV X.K T x H) :
  s.TypeIs v T/\∀ a,v=.ref a->∃ ob,s.heap.get? a=some ob/\ob.dict=none:=by
 cases x with
 | str z=>
  obtain ⟨t,rfl⟩:=r
  cases (show T = "str" from ty)
  exact ⟨Yb9 s z t,fun _ e=>nomatch e⟩
 | int i=>
  obtain ⟨t,rfl⟩:=r
  cases (show T = "int" from ty)
  exact ⟨typeIs_int s i t,fun _ e=>nomatch e⟩
 | ref p=>
  cases r
  rcases ty with ⟨rfl,xs,hq⟩ | ⟨rfl,o,hk,hc,hd⟩ | ⟨rfl,hk⟩ | ⟨rfl,S,n,hk⟩ | ⟨rfl,xs,hk⟩
  ·obtain ⟨its,_,pl,_⟩:=I.list hq
   refine ⟨pl.isList.typeIs,fun a e=>?_⟩
   cases e
   obtain ⟨o,n,e,c,hd,_⟩:=pl
   exact ⟨o,e,hd⟩
  ·refine ⟨⟨o,I.kIn p o hk,hc⟩,fun a e=>?_⟩
   cases e
   exact ⟨o,I.kIn _ o hk,hd⟩
  ·have z:∃ o,s.heap.get? p=some o/\o.ExactDict:=by
    rcases hk with ⟨kvs,hk⟩ | ⟨kvs,hk⟩
    ·obtain ⟨_,_,_,_,o,_,_,e,ex,_⟩:=I.hok p _ hk
     exact ⟨o,e,ex⟩
    ·obtain ⟨_,_,_,_,o,_,_,e,ex,_⟩:=I.hok p _ hk
     exact ⟨o,e,ex⟩
   obtain ⟨o,e,ex⟩:=z
   refine ⟨⟨o,e,ex.1⟩,fun a e2=>?_⟩
   cases e2
   exact ⟨o,e,ex.2.1⟩
  ·obtain ⟨o,_,_,_,e,ex,_⟩:=I.hok p _ hk
   refine ⟨⟨o,e,ex.1⟩,fun a e2=>?_⟩
   cases e2
   exact ⟨o,e,ex.2.1⟩
  ·obtain ⟨_,its,r,o,e,c,n,d,hd⟩:=(show jaB X.prog X.w H s.heap p (.tup xs) from I.hok p _ hk)
   refine ⟨⟨o,e,c⟩,fun a e2=>?_⟩
   cases e2
   exact ⟨o,e,hd⟩
 | _=>exact Ybk ty
variable {o e:Expr}{es:List Expr}{to:TE}{t:TA}{name:Str}{apos cpos:Pos}{T id:String}{r:V->List V->Hp->VK->Prop}
end

noncomputable def MtM (X:Cx)(id:String)(r:V->List V->Hp->VK->Prop):Prop:=
 ∀ (pins:List (Addr×Obj)) (s:Shared) (σ:St) (H:Hp) (x:V) (xs:List V) (v:Value) (us:List Value) (Q:VK),Inv X pins σ H s->RelV x v->Vals xs us->r x xs H Q->
  wpAny (model X.prog X.w) X.A (call (.builtin id) (v::us)) (EP X pins σ Q) X.xe s

theorem Vals.one:∀ {x:V} {us:List Value},Vals [x] us->∃ u,us=[u]/\RelV x u
 | _,_,.cons r .nil=>⟨_,rfl,r⟩
theorem Vals.two:∀ {x y:V} {us:List Value},Vals [x,y] us->∃ u v,us=[u,v]/\RelV x u/\RelV y v
 | _,_,_,.cons r (.cons q .nil)=>⟨_,_,rfl,r,q⟩
theorem Vals.rep {xs:List V}{us:List Value}(h:Vals xs us):∀ k:Nat,Vals (Yai k xs).flatten (Yai k us).flatten
 | 0=>.nil
 | k + 1=>by
  rw [Ybq,Ybq,YbX,YbX]
  exact Vals.append h (Vals.rep h k)
theorem jdS (its:List Value):∀ (k:Nat) (acc:List Value),
  YfU (fun x1 x2=>x1++x2) acc.toArray (Yai k its.toArray)=(acc++(Yai k its).flatten).toArray
 | 0,acc=>by simp
 | k + 1,acc=>by
  have e:acc.toArray++its.toArray=(acc++its).toArray:=by simp
  have e2:(acc++its)++(Yai k its).flatten=acc++(Yai (k + 1) its).flatten:=by
   rw [Ybq,YbX,Yc2]
  rw [<- e2,<- jdS its k (acc++its),<- e,Ybq,Yeu]

section
variable {X:Cx}{pins:List (Addr×Obj)}{σ:St}{H:Hp}{s:Shared}{l b:Addr}{xs ys zs:List V}

theorem Inv.lset {its its':List Value}{n:Nat}{f:Array Value->Array Value}{t':Nat}(I:Inv X pins σ H s)(hH:H l=some (.lst xs))
  (e:s.heap.get? l=some { cls:=.type "list",data:=.seq its.toArray n }) (hf:f its.toArray=its'.toArray) (hv:Vals ys its') (hz:ys.length<=Yae) :
  Inv X pins σ (upd H l (.lst ys)) { s with heap:=s.heap.update l (Yd6 f),toks:=t' }:=by
 have q:=PySem.IsL.update e f
 rw [hf] at q
 refine I.write (x:=l) (e:=l) (by rw [hH]; exact trivial) (.inl rfl) (fun b' u hb hu=>(Ydf s.heap (Yd6 f) (Ne.symm hb)).trans hu) ⟨_,q⟩ ?_
 exact ⟨hz,its',_,hv,q⟩
theorem Inv.lnew {its:List Value}{t':Nat}(I:Inv X pins σ H s)(hv:Vals ys its)(hz:ys.length<=Yae) :
  Inv X pins σ (upd H s.heap.objs.size (.lst ys)) { s with heap:=s.heap.push { cls:=.type "list",data:=.seq its.toArray },toks:=t' }:=
 I.laid (fun _ _ q=>Yad _ q) (Yaf _) ⟨hz,its,0,hv,Yav _ rfl⟩
theorem Inv.fresh (I:Inv X pins σ H s):H s.heap.objs.size=none:=I.hok.fresh (Yaf _)
theorem Inv.lstM (I:Inv X pins σ H s)(hH:H l=some (.lst xs)):xs.length<=Yae/\∃ (its:List Value) (n:Nat),Vals xs its/\xs.length=its.length/\s.heap.get? l=some { cls:=.type "list",data:=.seq its.toArray n }:=by
 obtain ⟨z,its,n,r,e⟩:=I.hok l _ hH
 exact ⟨z,its,n,r,r.length,e⟩

theorem jhV {n:Nat}(h:n<=Yae):YcD n=false:=by
 unfold YcD
 exact decide_eq_false (by omega)
end

section
variable {X:Cx}

noncomputable def jji:V->List V->Hp->VK->Prop:=fun x vs H Q=>∃ l xs y,x=.ref l/\vs=[y]/\H l=some (.lst xs)/\xs.length < Yae/\Q .non (upd H l (.lst (xs++[y])))
theorem jdL:MtM X "list.append" jji:=by
 intro pins s σ H x vs v us Q I rx rv h
 obtain ⟨l,xs,y,rfl,rfl,hH,hz,q⟩:=h
 cases rx
 obtain ⟨u,rfl,ru⟩:=rv.one
 obtain ⟨z,its,n,r,hl,e⟩:=I.lstM hH
 refine Ycn F.slot_list_append ⟨_,e,rfl⟩ F.entry_list_append (F.args_list_append_2 _ _) (PySem.list_append l its.toArray n u (by rw [Yam]; omega)) ⟨e,?_⟩
 refine ⟨.non,_,I.lset (its':=its++[u]) hH e (by simp) (r.append (.cons ru .nil)) ?_,rfl,q⟩
 rw [YaD,List.length_singleton]
 omega

noncomputable def rCat:R2:=fun x y H Q=>∃ l b xs zs,x=.ref l/\y=.ref b/\H l=some (.lst xs)/\H b=some (.lst zs)/\xs.length + zs.length<=Yae/\∀ p,H p=none->Q (.ref p) (upd H p (.lst (xs++zs)))
theorem jlG:OpR X (Ybl .Add) rCat:=by
 intro pins s σ H x y v u Q I rx ry h
 obtain ⟨l,b,xs,zs,rfl,rfl,hH,hB,hz,q⟩:=h
 cases rx
 cases ry
 obtain ⟨z,its,n,r,hl,e⟩:=I.lstM hH
 obtain ⟨z2,its2,n2,r2,hl2,e2⟩:=I.lstM hB
 refine PySem.P.add_list e e2 ?_ (by rw [Yam,Yam]; omega)
 have ea:its.toArray++its2.toArray=(its++its2).toArray:=by simp
 rw [ea]
 exact ⟨.ref _,_,I.lnew (t':=s.toks) (r.append r2) (by rw [YaD]; omega),rfl,q _ I.fresh⟩
noncomputable def rRep:R2:=fun x y H Q=>∃ l k xs,x=.ref l/\y=.int k/\H l=some (.lst xs)/\-(2 ^ 63)<=k/\k < 2 ^ 63/\xs.length * k.toNat<=Yae/\
 ∀ p,H p=none->Q (.ref p) (upd H p (.lst (Yai k.toNat xs).flatten))
theorem jj1 {α:Type}(xs:List α)(k:Nat):(Yai k xs).flatten.length=k * xs.length:=by
 induction k with
 | zero=>simp
 | succ k ih=>rw [Ybq,YbX,YaD,ih,Nat.succ_mul,Nat.add_comm]
theorem jly:OpR X (Ybl .Mult) rRep:=by
 intro pins s σ H x y v u Q I rx ry h
 obtain ⟨l,k,xs,rfl,rfl,hH,h1,h2,hz,q⟩:=h
 cases rx
 obtain ⟨t,rfl⟩:=ry
 obtain ⟨z,its,n,r,hl,e⟩:=I.lstM hH
 have hlen:its.toArray.size * k.toNat<=Yae:=by rw [Yam,<- hl]; exact hz
 have hcap:¬ its.toArray.size * k.toNat > (2 ^ 63 - 1) / 8:=by
  have:(Yae:Nat)<=(2 ^ 63 - 1) / 8:=by decide
  omega
 have hfit:¬ (!Builtin.List.listFitsIndex k)=true:=by
  rw [fitsIndex_both h1 h2]
  exact Yak
 have hlong:¬ YcD (its.toArray.size * k.toNat)=true:=by
  rw [jhV hlen]
  exact Yak
 have hnew:YfU (fun x1 x2=>x1++x2) #[] (Yai (if its.toArray.isEmpty=true then 0 else k.toNat) its.toArray)=(Yai k.toNat its).flatten.toArray:=by
  have f0:∀ m:Nat,YfU (fun x1 x2=>x1++x2) #[] (Yai m its.toArray)=(Yai m its).flatten.toArray:=fun m=>by
   have:=jdS its m []
   rw [Yer] at this
   exact this
  rw [f0]
  cases its with
  | nil=>simp
  | cons a r'=>rw [if_neg (by simp)]
 refine wpAny_binaryOp_repeat_ref (T := "list") (U := "int") (by decide) ⟨_,e,rfl⟩ (fun s'=>typeIs_int s' k t) noFill_list_mul F.fills_int_mul F.slot_int_rmul repeat_list F.slot_int_index.lookup
  (Ycn F.slot_int_rmul (typeIs_int s k t) F.entry_int_rmul (F.args_int_rmul_2 _ _) (int___rmul___int_list k t l its.toArray n)
   ⟨e,rfl,⟨_,e,rfl⟩,Ycn F.slot_list_mul ⟨_,e,rfl⟩ F.entry_list_mul (F.args_list_mul_2 _ _) (AutoListH.list___mul___list_int_3 l its.toArray n k t hfit hcap hlong) ⟨e,?_⟩⟩)
 rw [hnew]
 exact ⟨.ref _,_,I.lnew (t':=s.toks) (r.rep k.toNat) (by rw [jj1,Nat.mul_comm]; exact hz),rfl,q _ I.fresh⟩

end

section
variable {prog:Program}{w:World}{A:Around}{E:Value->Shared->Prop}{s:Shared}
end

section
variable {X:Cx}
end

section
variable {κ:Type}[DecidableEq κ]
noncomputable def valV (kvs:List (κ×V))(k:κ):Option V:=(kvs.find? fun kv=>decide (kv.1=k)).map (·.2)
noncomputable def putK (kvs:List (κ×V))(k:κ)(v:V):List (κ×V):=
 if (kvs.any fun kv=>decide (kv.1=k))=true then kvs.map (fun kv=>if kv.1=k then (kv.1,v) else kv) else kvs++[(k,v)]
noncomputable def jpp (kvs:List (κ×V))(k:κ):List (κ×V):=kvs.filter fun kv=>decide (kv.1≠k)

theorem jbY {p:κ×V}{r:List (κ×V)}{k:κ}(e:p.1=k):valV (p::r) k=some p.2:=by simp [valV,Ybs,e]
theorem jbZ {p:κ×V}{r:List (κ×V)}{k:κ}(e:¬ p.1=k):valV (p::r) k=valV r k:=by simp [valV,Ybs,e]
theorem jeJ (k:κ):∀ kvs:List (κ×V),(kvs.any fun kv=>decide (kv.1=k))=(valV kvs k).isSome
 | []=>rfl
 | p::r=>by
  rw [Ybo]
  by_cases e:p.1=k
  ·simp only [jbY e,decide_eq_true e,Bool.true_or,Option.isSome_some]
  ·rw [jbZ e,decide_eq_false e,YeU]; exact jeJ k r
theorem jaU (kvs:List (κ×V))(k:κ)(v:V):(putK kvs k v).length<=kvs.length + 1:=by
 unfold putK
 split
 ·rw [Yac]; omega
 ·rw [YaD,YaW,Ydj]; omega
theorem RelO.isSome_eq {o:Option V}{u:Option Value}(r:RelO o u):o.isSome=u.isSome:=by
 cases o with
 | none=>cases u with
  | none=>rfl
  | some _=>exact (show False from r).elim
 | some _=>cases u with
  | none=>exact (show False from r).elim
  | some _=>rfl
theorem KV.val {kvs:List (κ×V)}{vs:List (κ×Value)}(r:KV kvs vs)(k:κ):RelO (valV kvs k) (valueAt vs k):=by
 unfold KV at r
 induction r with
 | nil=>exact YcE
 | @cons p q ps qs h t ih=>
  obtain ⟨h1,h2⟩:=h
  by_cases e:p.1=k
  ·have e':q.1=k:=h1.symm.trans e
   have b:valueAt (q::qs) k=some q.2:=by simp [valueAt,Ybs,e']
   rw [jbY e,b]; exact h2
  ·have e':¬ q.1=k:=fun z=>e (h1.trans z)
   have b:valueAt (q::qs) k=valueAt qs k:=by simp [valueAt,Ybs,e']
   rw [jbZ e,b]; exact ih
theorem KV.any {kvs:List (κ×V)}{vs:List (κ×Value)}(r:KV kvs vs)(k:κ):(kvs.any fun kv=>decide (kv.1=k))=vs.any fun kv=>decide (kv.1=k):=by
 unfold KV at r
 induction r with
 | nil=>rfl
 | cons h t ih=>rw [Ybo,Ybo,ih,h.1]
theorem KV.repl {kvs:List (κ×V)}{vs:List (κ×Value)}(r:KV kvs vs)(k:κ){y:V}{u:Value}(ry:RelV y u) :
  KV (kvs.map fun kv=>if kv.1=k then (kv.1,y) else kv) (vs.map fun kv=>if kv.1=k then (kv.1,u) else kv):=by
 unfold KV at r ⊢
 induction r with
 | nil=>exact .nil
 | @cons p q ps qs h t ih=>
  rw [Yas,Yas]
  refine .cons ?_ ih
  obtain ⟨h1,h2⟩:=h
  by_cases e:p.1=k
  ·rw [if_pos e,if_pos (h1.symm.trans e)]; exact ⟨h1,ry⟩
  ·rw [if_neg e,if_neg (fun z=>e (h1.trans z))]; exact ⟨h1,h2⟩
theorem KV.put {kvs:List (κ×V)}{vs:List (κ×Value)}(r:KV kvs vs)(k:κ){y:V}{u:Value}(ry:RelV y u):KV (putK kvs k y) (stored vs k u):=by
 unfold putK stored
 rw [r.any k]
 by_cases e:(vs.any fun kv=>decide (kv.1=k))=true
 ·rw [if_pos e,if_pos e]; exact r.repl k ry
 ·rw [if_neg e,if_neg e]; exact Paired.snoc r ⟨rfl,ry⟩
theorem KV.length {kvs:List (κ×V)}{vs:List (κ×Value)}(r:KV kvs vs):kvs.length=vs.length:=Ydz r
end

theorem jep {P:Program}{w:World}{k:Key}{u:Value}(r:RelV (kV k) u):(jao P w).is k u=true:=by
 cases k with
 | inl i=>obtain ⟨t,e⟩:=(show ∃ t,u=Yf3 i t from r); subst e; exact jek P w i t
 | inr x=>obtain ⟨t,e⟩:=(show ∃ t,u=Ye0 x t from r); subst e; exact jej P w x t
theorem jdO {P:Program}{w:World}:∀ {ks:List Key} {us:List Value},Vals (ks.map kV) us->ItemsAre (jao P w) ks us
 | [],_,r=>by rw [YcO] at r; cases r; exact .nil
 | k::ks,_,r=>by
  rw [Yas] at r
  cases r with
  | cons h t=>exact .cons (jep h) (jdO t)

noncomputable abbrev KT (H:Hp):List (List Key×V)->List (List Key×Addr×Value)->Prop:=Paired fun p q=>p.1=q.1/\H q.2.1=some (.tup (p.1.map kV))/\RelV p.2 q.2.2
theorem KT.val {H:Hp}{kvs:List (List Key×V)}{xs:List (List Key×Addr×Value)}(r:KT H kvs xs)(k:List Key):RelO (valV kvs k) ((atKey xs k).map (·.2)):=by
 induction r with
 | nil=>exact YcE
 | @cons p q ps qs h t ih=>
  obtain ⟨h1,_,h2⟩:=h
  by_cases e:p.1=k
  ·have e':q.1=k:=h1.symm.trans e
   have b:atKey (q::qs) k=some q.2:=by simp [atKey,Ybs,e']
   rw [jbY e,b]; exact h2
  ·have e':¬ q.1=k:=fun z=>e (h1.trans z)
   have b:atKey (q::qs) k=atKey qs k:=by simp [atKey,Ybs,e']
   rw [jbZ e,b]; exact ih
theorem KT.repl {H:Hp}{kvs:List (List Key×V)}{xs:List (List Key×Addr×Value)}(r:KT H kvs xs)(k:List Key){y:V}{u:Value}(ry:RelV y u) :
  KT H (kvs.map fun kv=>if kv.1=k then (kv.1,y) else kv) (xs.map (putAt k u)):=by
 induction r with
 | nil=>exact .nil
 | @cons p q ps qs h t ih=>
  rw [Yas,Yas]
  refine .cons ?_ ih
  obtain ⟨h1,h2,h3⟩:=h
  unfold putAt
  by_cases e:p.1=k
  ·rw [if_pos e,if_pos (h1.symm.trans e)]; exact ⟨h1,h2,ry⟩
  ·rw [if_neg e,if_neg (fun z=>e (h1.trans z))]; exact ⟨h1,h2,h3⟩
theorem KT.put {H:Hp}{kvs:List (List Key×V)}{xs:List (List Key×Addr×Value)}(r:KT H kvs xs)(k:List Key){b:Addr}{y:V}{u:Value}(hb:H b=some (.tup (k.map kV)))(ry:RelV y u) :
  KT H (putK kvs k y) (storedH xs k b u):=by
 have e:(kvs.any fun kv=>decide (kv.1=k))=(atKey xs k).isSome:=by
  rw [jeJ,(r.val k).isSome_eq,YcT]
 unfold putK storedH
 rw [e]
 by_cases q:(atKey xs k).isSome=true
 ·rw [if_pos q,if_pos q]; exact r.repl k ry
 ·rw [if_neg q,if_neg q]; exact Paired.snoc r ⟨rfl,hb,ry⟩
theorem KT.keeps {H H':Hp}{kvs:List (List Key×V)}{xs:List (List Key×Addr×Value)}(r:KT H kvs xs)(ht:∀ b ys,H b=some (.tup ys)->H' b=some (.tup ys)):KT H' kvs xs:=
 Paired.mapP r fun _ _ z=>⟨z.1,ht _ _ z.2.1,z.2.2⟩

section
variable {P:Program}{w:World}{H:Hp}{h:Heap}{a:Addr}
theorem jk4 {u:HO}(ok:HOk P w H h)(e:Rd H a u):jaB P w H h a u:=e.ok ok
theorem jfE {kvs:List (Key×V)}(ok:HOk P w H h)(e:Rd H a (.dK kvs)):kvs.length<=Yae/\(a == Ya0)=false/\∃ vs,KV kvs vs/\h.DictOf (jao P w) a vs:=
 show jaB P w H h a (.dK kvs) from jk4 ok e
theorem jkl {kvs:List (Key×V)}(ok:HOk P w H h)(e:H a=some (.dK kvs)):kvs.length<=Yae/\(a == Ya0)=false/\∃ vs,KV kvs vs/\h.DictOf (jao P w) a vs:=jfE ok (.inl e)
theorem jdN {ks:List Key}(ok:HOk P w H h)(e:H a=some (.tup (ks.map kV))):(YeX (jao P w)).is h ks a:=by
 obtain ⟨_,its,r,o,h1,h2,n,h3,_⟩:=(show jaB P w H h a (.tup (ks.map kV)) from ok a _ e)
 exact ⟨o,its.toArray,n,h1,h2,h3,by simpa using jdO r⟩
theorem jgW {kvs:List (List Key×V)}(ok:HOk P w H h)(e:Rd H a (.dT kvs)):kvs.length<=Yae/\(a == Ya0)=false/\
  ∃ xs,KT H kvs xs/\h.DictOfH (YeX (jao P w)) a xs:=by
 obtain ⟨z,y,xs,r,o,es,ep,h1,h2,h3,h4,h5⟩:=(show jaB P w H h a (.dT kvs) from jk4 ok e)
 refine ⟨z,y,xs,r,o,es,ep,h1,h2,h3,h4,fun x hx=>?_,h5⟩
 have all:∀ {l:List (List Key×V)} {m:List (List Key×Addr×Value)},KT H l m->∀ x∈m,(YeX (jao P w)).is h x.1 x.2.1:=by
  intro l m q
  induction q with
  | nil=>intro x hx; exact nomatch hx
  | @cons p q ps qs hq t ih=>
   intro x hx
   rcases YaI.mp hx with e | hx
   ·subst e
    exact jdN ok (by rw [<- hq.1]; exact hq.2.1)
   ·exact ih x hx
 exact all r x hx
theorem jof {kvs:List (List Key×V)}(ok:HOk P w H h)(e:H a=some (.dT kvs)):kvs.length<=Yae/\(a == Ya0)=false/\
  ∃ xs,KT H kvs xs/\h.DictOfH (YeX (jao P w)) a xs:=jgW ok (.inl e)
end

noncomputable def DGet (H:Hp)(a:Addr)(y:V)(r:Option V):Prop:=
 (∃ kvs k,Rd H a (.dK kvs)/\y=kV k/\r=valV kvs k)\/∃ kvs k b,Rd H a (.dT kvs)/\y=.ref b/\H b=some (.tup (k.map kV))/\r=valV kvs k
noncomputable def DPut (H:Hp)(a:Addr)(y v:V)(H':Hp):Prop:=
 (∃ kvs k,H a=some (.dK kvs)/\y=kV k/\kvs.length < Yae/\H'=upd H a (.dK (putK kvs k v)))\/
 ∃ kvs k b,H a=some (.dT kvs)/\y=.ref b/\H b=some (.tup (k.map kV))/\kvs.length < Yae/\H'=upd H a (.dT (putK kvs k v))
theorem DGet.k {H:Hp}{a:Addr}{kvs:List (Key×V)}{k:Key}(e:H a=some (.dK kvs)):DGet H a (kV k) (valV kvs k):=.inl ⟨kvs,k,.inl e,rfl,rfl⟩
theorem DGet.t {H:Hp}{a b:Addr}{kvs:List (List Key×V)}{k:List Key}(e:H a=some (.dT kvs))(eb:H b=some (.tup (k.map kV))):DGet H a (.ref b) (valV kvs k):=.inr ⟨kvs,k,b,.inl e,rfl,eb,rfl⟩
theorem DPut.k {H:Hp}{a:Addr}{kvs:List (Key×V)}{k:Key}{v:V}(e:H a=some (.dK kvs))(hl:kvs.length < Yae):DPut H a (kV k) v (upd H a (.dK (putK kvs k v))):=.inl ⟨kvs,k,e,rfl,hl,rfl⟩
theorem DPut.t {H:Hp}{a b:Addr}{kvs:List (List Key×V)}{k:List Key}{v:V}(e:H a=some (.dT kvs))(eb:H b=some (.tup (k.map kV)))(hl:kvs.length < Yae) :
  DPut H a (.ref b) v (upd H a (.dT (putK kvs k v))):=.inr ⟨kvs,k,b,e,rfl,eb,hl,rfl⟩

section
variable {X:Cx}{pins:List (Addr×Obj)}{σ:St}{H:Hp}{s:Shared}{a:Addr}{y v:V}{u r:Value}{o:Option V}{A:Around}{E:Value->Shared->Prop}

theorem Inv.big (I:Inv X pins σ H s):Ya0 < s.heap.objs.size:=by
 have h:YaB < s.heap.objs.size:=(I.mod.glob.keeps I.bk).lt
 exact YcU (by decide) h

theorem jg2 {Q:Value->Shared->Prop}(hu:A.units + 1 < cLine)(I:Inv X pins σ H s)(g:DGet H a y (some v))(ry:RelV y u)(h:∀ w' s',Inv X pins σ H s'->RelV v w'->Q w' s') :
  wpAny (model X.prog X.w) A (getItem (.ref a) u) Q E s:=by
 rcases g with ⟨kvs,k,e,ey,l⟩ | ⟨kvs,k,b,e,ey,eb,l⟩
 ·subst ey
  obtain ⟨z,hd,vs,rel,dd⟩:=jfE I.hok e
  obtain ⟨w',hw,rw'⟩:=RelO.some_of (v:=v) (o:=valueAt vs k) (by rw [l]; exact rel.val k)
  exact wpAny_getItem_of (jep ry) dd.mapOf hw (h w' _ (I.tok _) rw')
 ·subst ey
  cases (show u=Ybe b from ry)
  obtain ⟨z,hd,xs,rel,dd⟩:=jgW I.hok e
  obtain ⟨w',hw,rw'⟩:=RelO.some_of (v:=v) (o:=(atKey xs k).map (·.2)) (by rw [l]; exact rel.val k)
  obtain ⟨p,hp,hp2⟩:=Option.map_eq_some_iff.mp hw
  refine wpAny_getItem_heap (Yc8 hu) (jdN I.hok eb) dd hp ?_
  rw [hp2]
  exact h w' _ (I.tok _) rw'
theorem d_in {Q:Value->Shared->Prop}(hu:A.units + 1 < cLine)(I:Inv X pins σ H s)(g:DGet H a y o)(ry:RelV y u)(h:∀ s',Inv X pins σ H s'->Q (.bool o.isSome) s') :
  wpAny (model X.prog X.w) A (YaV .In u (.ref a)) Q E s:=by
 rcases g with ⟨kvs,k,e,ey,l⟩ | ⟨kvs,k,b,e,ey,eb,l⟩
 ·subst ey
  obtain ⟨z,hd,vs,rel,dd⟩:=jfE I.hok e
  refine wpAny_in_of (jep ry) hd dd.mapOf ?_
  rw [<- (rel.val k).isSome_eq,<- l]
  exact h _ (I.tok _)
 ·subst ey
  cases (show u=Ybe b from ry)
  obtain ⟨z,hd,xs,rel,dd⟩:=jgW I.hok e
  refine wpAny_in_heap (Yc8 hu) (jdN I.hok eb) hd dd ?_
  have q:=(rel.val k).isSome_eq
  rw [YcT] at q
  rw [<- q,<- l]
  exact h _ (I.tok _)
theorem jkn {Q:Value->Shared->Prop}(hu:A.units + 1 < cLine)(I:Inv X pins σ H s)(g:DGet H a y o)(ry:RelV y u)(h:∀ s',Inv X pins σ H s'->Q (.bool (!o.isSome)) s') :
  wpAny (model X.prog X.w) A (YaV .NotIn u (.ref a)) Q E s:=by
 rcases g with ⟨kvs,k,e,ey,l⟩ | ⟨kvs,k,b,e,ey,eb,l⟩
 ·subst ey
  obtain ⟨z,hd,vs,rel,dd⟩:=jfE I.hok e
  refine wpAny_notIn_of (jep ry) hd dd.mapOf ?_
  rw [<- (rel.val k).isSome_eq,<- l]
  exact h _ (I.tok _)
 ·subst ey
  cases (show u=Ybe b from ry)
  obtain ⟨z,hd,xs,rel,dd⟩:=jgW I.hok e
  refine wpAny_notIn_heap (Yc8 hu) (jdN I.hok eb) hd dd ?_
  have q:=(rel.val k).isSome_eq
  rw [YcT] at q
  rw [<- q,<- l]
  exact h _ (I.tok _)
theorem jdl {h':Heap}{t':Nat}{ob:HO}(I:Inv X pins σ H s)(mu:Mut (H a))(hs:YcQ a s.heap h')(he:∃ q,h'.get? a=some q)(new:jaB X.prog X.w (upd H a ob) h' a ob) :
  Inv X pins σ (upd H a ob) { s with heap:=h',toks:=t' }:=
 I.write (x:=a) (e:=a) mu (.inl rfl) (fun b q hb z=>(hs.2 b hb).trans z) he new
theorem jgX {P:Program}{w:World}{H':Hp}{h':Heap}{kvs:List (Key×V)}{vs:List (Key×Value)}(z:kvs.length<=Yae)(hd:(a == Ya0)=false)(rel:KV kvs vs)(dd:h'.DictOf (jao P w) a vs) :
  jaB P w H' h' a (.dK kvs):=⟨z,hd,vs,rel,dd⟩
theorem jg1 {H':Hp}{Q:Unit->Shared->Prop}(hu:A.units + 1 < cLine)(I:Inv X pins σ H s)(g:DPut H a y v H')(ry:RelV y u)(rv:RelV v r)(h:∀ s',Inv X pins σ H' s'->Q () s') :
  wpAny (model X.prog X.w) A (setItem (.ref a) u r) Q E s:=by
 rcases g with ⟨kvs,k,e,ey,l,eH⟩ | ⟨kvs,k,b,e,ey,eb,l,eH⟩
 ·subst ey eH
  obtain ⟨z,hd,vs,rel,dd⟩:=jkl I.hok e
  have hz:vs.length<=Yae:=by rw [<- rel.length]; exact z
  have hl:(putK kvs k v).length<=Yae:=by have:=jaU kvs k v; omega
  refine wpAny_setItem_pairs (hsz:=hz) (jep ry) dd fun h' dd' hs=>h _ ?_
  have he:∃ q,h'.get? a=some q:=let ⟨q,_,_,hq,_⟩:=dd'; ⟨q,hq⟩
  exact jdl I (by rw [e]; exact YcE) hs he (jgX hl hd (rel.put k rv) dd')
 ·subst ey eH
  cases (show u=Ybe b from ry)
  obtain ⟨z,hd,xs,rel,dd⟩:=jof I.hok e
  have hz:xs.length<=Yae:=by rw [<- Ydz rel]; exact z
  have hl:(putK kvs k v).length<=Yae:=by have:=jaU kvs k v; omega
  refine wpAny_setItem_heap (hsz:=hz) (Yc8 hu) (jdN I.hok eb) dd fun h' dd' hs=>h _ ?_
  obtain ⟨q,es,ep,hq,h2,h3,h4,_,h5⟩:=dd'
  refine jdl I (by rw [e]; exact YcE) hs ⟨q,hq⟩ ⟨hl,hd,_,(rel.put k eb rv).keeps fun c ys ec=>?_,q,es,ep,hq,h2,h3,h4,h5⟩
  rw [jac (jnU ec e (fun z=>nomatch z))]
  exact ec
end

section
variable {X:Cx}{pins:List (Addr×Obj)}{σ:St}{H:Hp}{s:Shared}{a:Addr}{kvs:List (Key×V)}{k:Key}{u:Value}{A:Around}{E:Value->Shared->Prop}
theorem jog {Q:Value->Shared->Prop}(I:Inv X pins σ H s)(e:Rd H a (.dK kvs))(h:∀ t s',Inv X pins σ H s'->Q (.int kvs.length t) s'):wpAny (model X.prog X.w) A (call (.builtin "len") [.ref a]) Q E s:=by
 obtain ⟨z,hd,vs,rel,dd⟩:=jfE I.hok e
 refine call_len_dict hd dd (by rw [<- rel.length]; rw [YbJ] at z; omega) ?_
 rw [<- rel.length]
 exact h _ _ (I.tok _)
end

theorem jex {X:Cx}{pins:List (Addr×Obj)}{σ:St}{H:Hp}{s:Shared}{a:Addr}{y:V}{o:Option V}(I:Inv X pins σ H s)(g:DGet H a y o):s.TypeIs (.ref a) "dict" := by
 rcases g with ⟨kvs,k,e,_,_⟩ | ⟨kvs,k,b,e,_,_,_⟩
 ·obtain ⟨_,_,vs,_,dd⟩:=jfE I.hok e
  exact dd.typeIs
 ·obtain ⟨_,_,xs,_,dd⟩:=jgW I.hok e
  exact dd.typeIs
section
variable {X:Cx}{o i e value:Expr}{pos pos' tpos:Pos}{td ty tv:TE}
end

theorem jfh {P:Program}{w:World}{H:Hp}(h:Heap)(hb:Ya0 < h.objs.size):jaB P w H (h.push { cls:=.type "dict",data:=.dict #[] }) h.objs.size (.dK []):=
 ⟨Ybn _,beq_eq_false_iff_ne.mpr (Ne.symm (YaF hb)),[],.nil,Heap.DictOf.new h⟩
noncomputable def jkL:TE:=fun _ H Q=>∀ p,H p=none->Q (.ref p) (upd H p (.dK []))
section
variable {X:Cx}{pos:Pos}
theorem jhP:PE X (.Dict [] [] pos) jkL:=fun pins s σ H Q I h=>
 wpAny_Dict_empty ⟨.ref s.heap.objs.size,_,I.laid (a:=s.heap.objs.size) (o:=.dK []) (t':=s.toks) (fun _ _ q=>Yad _ q) (Yaf _) (jfh s.heap I.big),rfl,h _ (I.hok.fresh (Yaf _))⟩
end

noncomputable def jeP:List (TE×TE)->St->Hp->(List (V×V)->Hp->Prop)->Prop
 | [],_,H,Q=>Q [] H
 | (tk,tv)::r,σ,H,Q=>tk σ H fun x H1=>tv σ H1 fun y H2=>jeP r σ H2 fun ps H3=>Q ((x,y)::ps) H3
noncomputable abbrev VV:List (V×V)->List (Value×Value)->Prop:=Paired fun p q=>RelV p.1 q.1/\RelV p.2 q.2
noncomputable def PPs (X:Cx)(pos:Pos)(keys:List (Option Expr))(values:List Expr)(trs:List (TE×TE)):Prop:=
 ∀ (pins:List (Addr×Obj)) (s:Shared) (σ:St) (H:Hp) (Q:List (V×V)->Hp->Prop),Inv X pins σ H s->jeP trs σ H Q->
  wpAny (model X.prog X.w) X.A (evalPairs (pairTrees keys values X.env pos)) (fun vs s'=>∃ ps H',Inv X pins σ H' s'/\VV ps vs/\Q ps H') X.xe s
theorem jjo {X:Cx}{pos:Pos}:PPs X pos [] [] []:=fun pins s σ H Q I h=>pairTrees_nil_walk ⟨[],H,I,.nil,h⟩
theorem jhG {X:Cx}{pos:Pos}{k v:Expr}{ks:List (Option Expr)}{vs:List Expr}{tk tv:TE}{trs:List (TE×TE)}(hk:PE X k tk)(hv:PE X v tv)(hr:PPs X pos ks vs trs) :
  PPs X pos (some k::ks) (v::vs) ((tk,tv)::trs):=fun pins s σ H Q I h=>
 pairTrees_cons_walk (thn (hk pins s σ H _ I h) fun u s1 ⟨x,H1,I1,rx,q1⟩=>thn (hv pins s1 σ H1 _ I1 q1) fun w2 s2 ⟨y,H2,I2,ry,q2⟩=>
  thn (hr pins s2 σ H2 _ I2 q2) fun ws s3 ⟨ps,H3,I3,rel,q3⟩=>⟨(x,y)::ps,H3,I3,.cons ⟨rx,ry⟩ rel,q3⟩)

noncomputable def jco (kvs more:List (Key×V)):List (Key×V):=more.foldl (fun acc kv=>putK acc kv.1 kv.2) kvs
theorem KV.merge:∀ {more:List (Key×V)} {rs:List (Key×Value)} {kvs:List (Key×V)} {vs:List (Key×Value)},KV more rs->KV kvs vs->KV (jco kvs more) (merged vs rs):=by
 intro more rs kvs vs r
 unfold KV at r
 induction r generalizing kvs vs with
 | nil=>intro q; exact q
 | @cons p q ps qs h t ih=>
  intro r0
  have e:KV (putK kvs p.1 p.2) (stored vs q.1 q.2):=by
   have:=r0.put p.1 h.2
   rw [<- h.1]; exact this
  exact ih e
theorem jbB:∀ (more kvs:List (Key×V)),(jco kvs more).length<=kvs.length + more.length
 | [],kvs=>by show kvs.length<=kvs.length + 0; omega
 | p::r,kvs=>by
  have h1:=jbB r (putK kvs p.1 p.2)
  have h2:=jaU kvs p.1 p.2
  show (jco (putK kvs p.1 p.2) r).length<=_
  rw [YaW]; omega
theorem jcX {P:Program}{w:World}:∀ {kvs:List (Key×V)} {ws:List (Value×Value)},VV (kvs.map fun kv=>(kV kv.1,kv.2)) ws->∃ rs,Carries (jao P w) ws rs/\KV kvs rs
 | [],_,r=>by rw [YcO] at r; cases r; exact ⟨[],YcE,.nil⟩
 | p::kvs,_,r=>by
  rw [Yas] at r
  cases r with
  | @cons a b as bs h t=>
   obtain ⟨rs,c,q⟩:=jcX (P:=P) (w:=w) t
   obtain ⟨b1,b2⟩:=b
   exact ⟨(p.1,b2)::rs,⟨jep h.1,rfl,c⟩,.cons ⟨rfl,h.2⟩ q⟩
noncomputable def jnr (trs:List (TE×TE)):TE:=fun σ H Q=>∀ p,H p=none->jeP trs σ (upd H p (.dK [])) fun ps H2=>H2 p=some (.dK [])/\∃ kvs:List (Key×V),ps=kvs.map (fun kv=>(kV kv.1,kv.2))/\kvs.length<=15/\Q (.ref p) (upd H2 p (.dK (jco [] kvs)))
theorem jjz {X:Cx}{pos:Pos}{keys:List (Option Expr)}{values:List Expr}{trs:List (TE×TE)}(h:PPs X pos keys values trs)(hall:keys.all (·.isSome)=true)(hl:keys.length=values.length)(h0:keys≠[])
  (h15:keys.length<=15):PE X (.Dict keys values pos) (jnr trs):=by
 intro pins s σ H Q I q
 have hn:=I.hok.fresh (Yaf s.heap.objs.size)
 have I1:=I.laid (a:=s.heap.objs.size) (o:=.dK []) (h':=s.heap.push { cls:=.type "dict",data:=.dict #[] }) (t':=s.toks) (fun _ _ q=>Yad _ q) (Yaf _) (jfh s.heap I.big)
 refine wpAny_Dict_walk (knd:=jao X.prog X.w) hall hl h0 h15 (thn (h pins _ σ _ _ I1 (q _ hn)) fun ws s2 ⟨ps,H2,I2,rel,e,kvs,ep,lk,q2⟩=>?_)
 subst ep
 obtain ⟨rs,c,rk⟩:=jcX (P:=X.prog) (w:=X.w) rel
 obtain ⟨z,hd,vs0,r0,dd⟩:=jkl I2.hok e
 cases r0
 refine ⟨rs,c,dd,fun h' dd' hs=>⟨.ref s.heap.objs.size,_,?_,rfl,q2⟩⟩
 have hz:(jco [] kvs).length<=Yae:=by
  have h1:=jbB kvs []
  rw [Ydj] at h1
  rw [YbJ]; omega
 have he:∃ q,h'.get? s.heap.objs.size=some q:=let ⟨q,_,_,hq,_⟩:=dd'; ⟨q,hq⟩
 exact jdl I2 (by rw [e]; exact YcE) hs he (jgX hz hd (rk.merge .nil) dd')

structure M1 (X:Cx)(o:Expr)(m:Str)(apos:Pos)(e:Expr)(cpos:Pos):Prop where
 base:Yca o m X.env (eval o X.env)=eval o X.env
 few:((backTo cpos (Yar [e] X.env)).all (fun x=>!x.1) && (backToKw cpos (YeZ [] X.env)).all (fun x=>x.1.isSome)
  && decide (([e]:List Expr).length + ([]:List Keyword).length + (if ([]:List Keyword).isEmpty then 0 else 1) < 30))=true
 line:(apos.endLine == cpos.line)=true
 trees:backTo cpos (Yar [e] X.env)=[(false,eval e X.env)]
structure M2 (X:Cx)(o:Expr)(m:Str)(apos:Pos)(e f:Expr)(cpos:Pos):Prop where
 base:Yca o m X.env (eval o X.env)=eval o X.env
 few:((backTo cpos (Yar [e,f] X.env)).all (fun x=>!x.1) && (backToKw cpos (YeZ [] X.env)).all (fun x=>x.1.isSome)
  && decide (([e,f]:List Expr).length + ([]:List Keyword).length + (if ([]:List Keyword).isEmpty then 0 else 1) < 30))=true
 line:(apos.endLine == cpos.line)=true
 trees:backTo cpos (Yar [e,f] X.env)=[(false,eval e X.env),(false,eval f X.env)]

section
variable {X:Cx}{pins:List (Addr×Obj)}{σ:St}{H:Hp}{s:Shared}{a:Addr}{y d:V}{u r:Value}{o:Option V}{A:Around}{E:Value->Shared->Prop}
end

section
variable {X:Cx}{o e f:Expr}{apos cpos:Pos}{td ty tx:TE}
end

section
variable {X:Cx}{pins:List (Addr×Obj)}{σ:St}{H:Hp}{s:Shared}{a:Addr}{kvs:List (Key×V)}{A:Around}{E:Value->Shared->Prop}
end

section
variable {X:Cx}{pins:List (Addr×Obj)}{σ:St}{H:Hp}{s:Shared}{a:Addr}{y:V}{u:Value}{A:Around}{E:Value->Shared->Prop}
end
end L2

namespace Att
open PySem PySem.W PySem.Calls PyProof.Rows

theorem jcs {P:Params}{h:Heap}:∀ (ns:List Int) (vs:List Value),WellAll P h vs (ns.map WData.int)->IntsAre vs ns:=by
 intro ns
 induction ns with
 | nil=>
  intro vs w
  rw [YcO] at w
  cases w
  exact .nil
 | cons n ns ih=>
  intro vs w
  rw [Yas] at w
  cases w with
  | cons a b=>
   cases a
   exact .cons _ _ (ih _ b)

theorem jfZ {l:OpenLaw}{n:Nat}(hn:l.most=some n){P:Params}{h:Heap}{args:List WData}{vals:List Value}
  (hpre:l.row.toRowW.claim.pre args=true) (hwl:WellAll P h vals args) :
  ∃ a vs ns,vals=[Ybe a]/\args=[WData.list (ns.map WData.int)]/\h.get? a=some { cls:=.type "list",data:=.seq vs.toArray }/\IntsAre vs ns/\ns.length<=n:=by
 have hsh:WShape.hasAll [] args [.list .int]=true:=(pre_splitW hpre).1
 have hc:l.pre.holds [] { args:=args }=true:=(pre_splitW hpre).2
 obtain ⟨d,r,rfl,h1,h2⟩:=hasAllW_cons hsh
 obtain rfl:=hasAllW_nil h2
 obtain ⟨xs,rfl,h3⟩:=hasW_list h1
 obtain ⟨ns,rfl⟩:=items_int h3
 have hlen:ns.length<=n:=by
  unfold OpenLaw.pre at hc
  have h4:(WTm.not (.lt (.lit (.int (n:Int))) (.len (.arg 0)))).holds [] { args:=[.list (ns.map .int)] }=true:=by
   have h4:=(holds_andW hc).1
   rw [hn] at h4
   exact h4
  have h5:=condW_of h4 (w_not (w_lt w_lit (w_len_list (w_arg rfl))))
  rw [Yac] at h5
  refine Nat.le_of_not_lt fun q=>?_
  have q':(n:Int) < ((ns.length:Nat):Int):=by omega
  first
   | (rw [decide_eq_true q'] at h5; exact absurd h5 (by decide))
   | (simp at h5; omega)
 cases hwl with
 | cons w1 w2=>
  cases w2
  cases w1 with
  | list ho hall=>exact ⟨_,_,ns,rfl,rfl,ho,jcs ns _ hall,hlen⟩

theorem jga (l:OpenLaw)(args:List WData):l.row.toRowW.claim.post args (.bool true) args=true:=
 postW_of (r:=l.row.toRowW) (X:=(true == true))
  (show WShape.has [] (.bool true) .bool=true by first | rfl | decide | simp [WShape.has,WShape.arms,WShape.armsAll])
  (show (WTm.eq .res (.lit (.bool true))).value [] { args:=args,res:=some (.bool true),after:=args }=some (.bool (true == true)) from w_eq_bool (w_res rfl) w_lit) rfl

theorem attach_call {l:OpenLaw}{n:Nat}{q:Program}{loose:List Str}{XP:(Str->Option Value)->Heap->Prop}{YP:World->Heap->Prop}{d:DefRec}
  (hn:l.most=some n) (hdf:d.params.defaults=[])
  (call:∀ (w:World) (s₀ s₁:Shared) (mg mb:Str->Option Value) (fa:Addr) (o:Obj) (pm cd doc:Value) (a:Addr) (vs:List Value) (ns:List Int),
   Ground q loose [] XP w s₀ mg mb s₁.heap->YP w s₁.heap->
   s₁.heap.get? fa=some o->o.data=.func (docDef d.name d.params d.body d.scope pm cd doc)->s₁.heap.CodeRec cd d.name->mg d.name=some (.ref fa)->
   s₁.heap.get? a=some { cls:=.type "list",data:=.seq vs.toArray }->IntsAre vs ns->ns.length<=n->s₁.gens=#[]->
   codeAny (model l.prog w) callerA (.call (.ref fa) ⟨[.ref a],[]⟩) (fun r s'=>r=.ok (.ret (.bool true))/\OldK s₁.heap s'.heap/\s'.os=s₁.os/\AllBare s'.gens) s₁) :
  WalkO q loose XP YP l.row.toRowW d [] (fun f vs=>YfF f vs):=by
 intro w s₀ s₁ mg mb G Y fa o pm cd doc dV kV ho hd hcd hD hmg hg args vals as hpre hlay hrd hwl hlo
 obtain rfl:dV=.none:=Dflts.none hD hdf
 obtain rfl:kV=.none:=Dflts.noKw hD
 obtain ⟨a,vs,ns,rfl,rfl,hobj,hints,hlen⟩:=jfZ hn hpre hwl
 refine enter_call (Yc9 (call w s₀ s₁ mg mb fa o pm cd doc a vs ns G Y ho (fd_plain hd) hcd hmg hobj hints hlen hg) fun r s' hq=>?_)
 obtain ⟨rfl,h2,h3,h4⟩:=hq
 exact ⟨.inl ⟨.bool true,.bool true,[],rfl,fun _=>rfl,.bool true,jga l _,fun _=>⟨Yez,fun _ hm=>(nomatch hm)⟩⟩,h2,h3,h4⟩

section
variable {prog:Program}{w:World}{A:Around}{E:Value->Shared->Prop}{s:Shared}{K:Frag}

end
end Att

namespace L2
open PySem PySem.Spec PyProof.Rows

theorem jds:∀ {vs:List Value} {ns:List Int},IntsAre vs ns->Vals (ns.map V.int) vs
 | _,_,.nil=>.nil
 | _,_,.cons n t h=>.cons ⟨t,rfl⟩ (jds h)



noncomputable def jav (s:Stmt)(j:Nat):Stmt:=match s with
 | .ClassDef _ _ _ body _ _ _ _ _ _ _=>body.getD j (.Pass ⟨0,0,0,0⟩)
 | _=>.Pass ⟨0,0,0,0⟩
def jaq (s:Stmt):YcF:=match s with
 | .FunctionDef _ a _ _ _ _ _ _ _ _=>a
 | _=>{ posonlyargs:=[],args:=[],vararg:=none,kwonlyargs:=[],kw_defaults:=[],kwarg:=none,defaults:=[] }
def jae (s:Stmt):List Stmt:=match s with
 | .FunctionDef _ _ b _ _ _ _ _ _ _=>b
 | _=>[]
def jaa (s:Stmt):Scope:=match s with
 | .FunctionDef _ _ _ _ _ _ sc _ _ _=>sc
 | _=>{ kind:=.function,names:=[],isGenerator:=false,isCoroutine:=false }

noncomputable abbrev CX0:CXT:=fun _ _ _ _ _ _=>False
noncomputable abbrev E0:XK:=fun _ _ _=>False
structure Fun (K:Yaa)(x qual:Str)(st:Stmt)(f:Addr)(fd:Ybh):Prop where
 ex:∃ (oc:Value) (od:Option Addr) (kV doc pm:Value) (an:Option Addr) (cdv ct:Value) (osl:Array (Option Value)),
  fd=Ya2 x qual (jaq st) (jae st) (jaa st) .none kV doc pm an cdv ct/\K.lookup f=some ⟨oc,od,.func fd,osl⟩/\Ybu K cdv qual=true
 kp:Ya5 K (.ref f)=true
section
variable {P:Program}{w:World}{K:Yaa}{mg:Str->Option Value}{base:Heap}
theorem Fun.binds {x qual:Str}{st:Stmt}{f:Addr}{fd:Ybh}{ps:List Str}(F:Fun K x qual st f fd)
  (h:∀ (kV doc pm:Value) (an:Option Addr) (cdv ct:Value) (us:List Value),us.length=ps.length->YfE (Ya2 x qual (jaq st) (jae st) (jaa st) .none kV doc pm an cdv ct) ⟨us,[]⟩=pure (ps.zip us)):Binds K fd ps []:=by
 obtain ⟨oc,od,kV,doc,pm,an,cdv,ct,osl,rfl,lk,hcd⟩:=F.ex
 exact .all (h kV doc pm an cdv ct)
theorem jgT {x qual:Str}{st:Stmt}{f:Addr}{oc:Value}{od an:Option Addr}{osl:Array (Option Value)}{kV doc pm cdv ct:Value}(l:K.lookup f=some ⟨oc,od,.func (Ya2 x qual (jaq st) (jae st) (jaa st) .none kV doc pm an cdv ct),osl⟩)
  (c:Ybu K cdv qual=true) (k:Ya5 K (.ref f)=true):Fun K x qual st f (Ya2 x qual (jaq st) (jae st) (jaa st) .none kV doc pm an cdv ct):=⟨⟨oc,od,kV,doc,pm,an,cdv,ct,osl,rfl,l,c⟩,k⟩
end
theorem jn8 {A:Around}{k:Nat}(hr:Room k A):A.units + 1 < cLine:=Ya9 (YdK (by decide:1<=64) _) hr.units
section
variable {X:Cx}
end

theorem iteF {A B:Prop}(h:B):if false=true then A else B:=by
 rw [if_neg Yak]
 exact h
theorem iteT {A B:Prop}(h:A):if true=true then A else B:=by
 rw [if_pos rfl]
 exact h
noncomputable def Same (H H':Hp):Prop:=∀ b o,H b=some o->H' b=some o
section
variable {X:Cx}
theorem jg9:jaK X (.builtin "len") (fun xs H Q=>∃ a kvs,xs=[V.ref a]/\H a=some (.dK kvs)/\Q (.int kvs.length) H):=by
 intro pins s σ H xs us Q I r h
 obtain ⟨a,kvs,rfl,ha,q⟩:=h
 obtain ⟨u,rfl,ru⟩:=jbW r
 cases ru
 exact jog I (.inl ha) fun t s' I'=>⟨.int kvs.length,H,I',⟨t,rfl⟩,q⟩
end
section
variable {κ:Type}[DecidableEq κ]
end
end L2

namespace L2
open PySem PySem.Spec PyProof.Rows
set_option maxHeartbeats 4000000

section
variable {prog:Program}{w:World}{A:Around}{R:Result->Shared->Prop}{s:Shared}
noncomputable def jeh (env:Env)(ifs:List Expr):Sem Bool:=forIn ifs true fun c r=>ite (r=true) (isTrue c env (eval c env) >>= fun b=>pure (.yield b)) (pure (.yield r))
noncomputable def jcg (ip:Pos)(tg:Expr)(ifs:List Expr)(it:Value)(env:Env)(em:Sem Unit)(next:Code):Sem Fin:=
 standAt ip >>= fun _=>pyNext it >>= fun r=>match r with
  | none=>pure (.done .next)
  | some v=>YcW tg it v >>= fun _=>assign tg env v >>= fun _=>jeh env ifs >>= fun ok=>ite (ok=true) (em >>= fun _=>again next) (again next)
noncomputable def ji2 (M:Model)(A:Around)(tg:Expr)(ifs:List Expr)(it:Value)(env:Env)(em:Sem Unit)(fin:Shared->Prop)(less:Shared->Prop):Option Value->Shared->Prop
 | none,s=>fin s
 | some v,s=>wpAny M A (YcW tg it v) (fun _ s=>wpAny M A (assign tg env v) (fun _ s=>wpAny M A (jeh env ifs) (fun ok s=>if ok=true then wpAny M A em (fun _ s=>less s) (fun _ _=>False) s else less s) (fun _ _=>False) s) (fun _ _=>False) s) (fun _ _=>False) s
theorem jdW {elt:Expr}{gens:List YbK}{scope:Scope}{pos:Pos}{dp:Nat}{target:Expr}{ip:Pos}{ifs:List Expr}{it acc:Value}{env:Env}{em:Sem Unit}(I:Nat->Shared->Prop)
  (hct:YeQ (.ListComp elt gens scope pos) dp it acc env=jcg ip target ifs it env em (.compLoop (.ListComp elt gens scope pos) dp it acc env))
  (turn:∀ k t,I k t->wpAny (model prog w) A (pyNext it) (ji2 (model prog w) A target ifs it env em (R (.ok .next)) fun t=>∃ m,m < k/\I m t) (fun _ _=>False) t)
  (n:Nat) (h:I n s):codeAny (model prog w) A (.compLoop (.ListComp elt gens scope pos) dp it acc env) R s:=by
 have no:∀ {Z:Value->Shared->Prop} (e:Value) (t:Shared),False->Z e t:=fun _ _ f=>f.elim
 refine codeAny_loop rfl I (fun k t hk=>wpAny_noted (m:=YeQ (.ListComp elt gens scope pos) dp it acc env) (hct ▸ ?_)) n h
 refine Yab (Yb8 (Yab (YaL (turn k t hk) (fun r t1 p=>?_) no)))
 match r,p with
 | none,p=>exact Yah p
 | some v,p=>
  refine Yab (YaL p (fun _ t2 p=>Yab (YaL p (fun _ t3 p=>Yab (YaL p (fun ok t4 p=>?_) no)) no)) no)
  match ok,p with
  | false,p=>exact Yah ⟨rfl,p⟩
  | true,p=>exact Yab (YaL p (fun _ t5 p=>Yah ⟨rfl,p⟩) no)
end

theorem jbc (env:Env):∀ (names:List (Str×Ya3)) (acc:List (Str×Addr)),(∀ y∈names,y.2=.free->∃ c,env.cells.lookup y.1=some c)->
  ∃ cl:List (Str×Addr),(forIn names acc (fun (y:Str×Ya3) (cs:List (Str×Addr))=>(if (y.2 == Yaz)=true then (do let c <- cellOf env y.1; pure (ForInStep.yield ((y.1,c)::cs))) else pure (ForInStep.yield cs):Sem (ForInStep (List (Str×Addr))))):Sem (List (Str×Addr)))=pure cl/\
   (∀ x c,(x,c)∈cl->(x,c)∈acc\/(env.cells.lookup x=some c/\(x,Yaz)∈names))/\(∀ p∈acc,p∈cl)/\(∀ y∈names,y.2=.free->∃ c,(y.1,c)∈cl)
 | [],acc,_=>⟨acc,rfl,fun _ _ h=>.inl h,fun _ h=>h,fun _ h=>nomatch h⟩
 | (n,k)::r,acc,h=>by
  by_cases hk:k=.free
  ·subst hk
   obtain ⟨c,hc⟩:=h (n,.free) Yao rfl
   obtain ⟨cl,e,h1,h2,h3⟩:=jbc env r ((n,c)::acc) fun y hy=>h y (Yag _ hy)
   refine ⟨cl,?_,fun x d hd=>?_,fun p hp=>h2 p (Yag _ hp),fun y hy hf=>?_⟩
   ·rw [Yet]
    have:(cellOf env n:Sem Addr)=pure c:=by unfold cellOf; rw [hc]
    simp only [beq_self_eq_true,if_true,this,pure_bind]
    exact e
   ·rcases h1 x d hd with z | ⟨z,z'⟩
    ·rcases YaI.mp z with z | z
     ·cases z; exact .inr ⟨hc,Yao⟩
     ·exact .inl z
    ·exact .inr ⟨z,Yag _ z'⟩
   ·rcases YaI.mp hy with z | z
    ·subst z; exact ⟨c,h2 _ Yao⟩
    ·exact h3 y z hf
  ·obtain ⟨cl,e,h1,h2,h3⟩:=jbc env r acc fun y hy=>h y (Yag _ hy)
   have hb:(k == Yaz)=false:=by simpa using hk
   refine ⟨cl,?_,fun x d hd=>?_,h2,fun y hy hf=>?_⟩
   ·rw [Yet]
    simp only [hb,YbL,if_false,pure_bind]
    exact e
   ·rcases h1 x d hd with z | ⟨z,z'⟩
    ·exact .inl z
    ·exact .inr ⟨z,Yag _ z'⟩
   ·rcases YaI.mp hy with z | z
    ·subst z; exact absurd hf hk
    ·exact h3 y z hf
theorem jbA {β:Type}:∀ {l:List (Str×β)} {x:Str} {c:β},(x,c)∈l->∃ d,l.lookup x=some d/\(x,d)∈l
 | (n,k)::r,x,c,h=>by
  cases hx:x == n with
  | true=>
   refine ⟨k,by simp only [YaJ,hx],?_⟩
   rw [eq_of_beq hx]; exact Yao
  | false=>
   rcases YaI.mp h with z | z
   ·cases z; simp at hx
   ·obtain ⟨d,e,m⟩:=jbA z
    exact ⟨d,by simp only [YaJ,hx]; exact e,Yag _ m⟩
theorem jcW {scope:Scope}{env:Env}(h:∀ y∈scope.names,y.2=.free->∃ c,env.cells.lookup y.1=some c) :
  ∃ cl:List (Str×Addr),Yfm scope env=pure cl/\(∀ x c,cl.lookup x=some c->env.cells.lookup x=some c)/\(∀ y∈scope.names,y.2=.free->∃ c,cl.lookup y.1=some c):=by
 obtain ⟨cl,e,h1,_,h3⟩:=jbc env scope.names [] h
 refine ⟨cl,?_,fun x c hx=>?_,fun y hy hf=>?_⟩
 ·unfold Yfm
  rw [<- e]
  simp only [bind_pure]
 ·rcases h1 x c (Yax hx) with z | ⟨z,_⟩
  ·exact nomatch z
  ·exact z
 ·obtain ⟨c,hc⟩:=h3 y hy hf
  obtain ⟨d,e,_⟩:=jbA hc
  exact ⟨d,e⟩

noncomputable def jan (X:Cx)(N:List Str)(scope:Scope)(cl:List (Str×Addr))(C:Addr)(s₀:Shared)(H₀:Hp)(fp:List Addr):Cx where
 prog:=X.prog
 w:=X.w
 K:=X.K
 mg:=X.mg
 base:=X.base
 A:=X.A
 N:=N
 s₀:=s₀
 H₀:=H₀
 env:=compEnvC scope cl C X.env
 outer:=X.stack
 stack:=X.stack
 ex:=fp
 fn:=fun x=>scope.names.lookup x == some .cell
 calm:=X.calm
 pn:=[]
 xe:=fun _ _=>False

noncomputable def cOk (oN:List Str)(on:List (Str×Ya3))(N:List Str)(pick:List (Option Nat))(scope:Scope):Bool:=
 decide (scope.kind=.function) && scope.names.all (fun y=>y.2 != .cell || scope.names.lookup y.1 == some .cell) && scope.names.all (fun y=>y.2 != .local || scope.names.lookup y.1 == some .local)
  && scope.names.all (fun y=>y.2 != .free || (scope.names.lookup y.1 == some .free && (on.lookup y.1 == some .cell || on.lookup y.1 == some .free)))
  && pick.length == N.length && (N.zip pick).all (fun p=>match p.2 with | none=>true | some j=>oN[j]? == some p.1 && scope.names.lookup p.1 == some .free)

structure CScope (X:Cx)(N:List Str)(pick:List (Option Nat))(scope:Scope):Prop where
 kind:scope.kind=.function
 cells:∀ y∈scope.names,y.2=.cell->scope.names.lookup y.1=some .cell
 names:∀ y∈scope.names,y.2=.local->scope.names.lookup y.1=some .local
 fre:∀ y∈scope.names,y.2=.free->scope.names.lookup y.1=some .free/\(X.env.kindOf y.1=some .cell\/X.env.kindOf y.1=some .free)
 len:pick.length=N.length
 caps:∀ (i j:Nat) (x:Str),N[i]?=some x->pick[i]?=some (some j)->X.N[j]?=some x/\scope.names.lookup x=some .free
theorem jbS (f:Str->Ya3->Ya3):∀ (names:List (Str×Ya3)) (x:Str),(names.map fun y=>(y.1,f y.1 y.2)).lookup x=(names.lookup x).map (f x)
 | [],_=>rfl
 | (n,k)::r,x=>by
  rw [Yas,YaJ,YaJ,jbS f r x]
  by_cases e:x=n
  ·subst e; rw [beq_self_eq_true]; rfl
  ·rw [beq_false_of_ne e]
noncomputable def jiA (env:Env)(n:Str)(k:Ya3):Ya3:=if (k == Yaz && env.scope.kind == .function && env.kindOf n == some .cell) then .cell else k
theorem jbw (env:Env)(names:List (Str×Ya3))(x:Str) :
  (names.map fun (n,k)=>if (k == Yaz && env.scope.kind == .function && env.kindOf n == some .cell) then (n,YaH) else (n,k)).lookup x=(names.lookup x).map (jiA env x):=by
 rw [<- jbS (jiA env)]
 congr 2
 funext y
 show ite _ _ _=(y.1,ite _ _ _)
 split <;> rfl
theorem jaH {env:Env}{names:List (Str×Ya3)}{x:Str}(h:names.lookup x=some .free) :
  (names.map fun (n,k)=>if (k == Yaz && env.scope.kind == .function && env.kindOf n == some .cell) then (n,YaH) else (n,k)).lookup x=some .cell\/
  (names.map fun (n,k)=>if (k == Yaz && env.scope.kind == .function && env.kindOf n == some .cell) then (n,YaH) else (n,k)).lookup x=some .free:=by
 rw [jbw,h]
 show some (ite _ _ _)=_\/some (ite _ _ _)=_
 split
 ·exact .inl rfl
 ·exact .inr rfl
theorem jat {env:Env}{q:Ya3}(hq:q≠.free){names:List (Str×Ya3)}{x:Str}(h:names.lookup x=some q) :
  (names.map fun (n,k)=>if (k == Yaz && env.scope.kind == .function && env.kindOf n == some .cell) then (n,YaH) else (n,k)).lookup x=some q:=by
 rw [jbw,h]
 show some (ite _ _ _)=_
 rw [beq_false_of_ne hq]
 rfl
theorem ja5 {env:Env}:∀ {names:List (Str×Ya3)} {x:Str},
  ((names.map fun (n,k)=>if (k == Yaz && env.scope.kind == .function && env.kindOf n == some .cell) then (n,YaH) else (n,k)).lookup x=some .cell\/
  (names.map fun (n,k)=>if (k == Yaz && env.scope.kind == .function && env.kindOf n == some .cell) then (n,YaH) else (n,k)).lookup x=some .free)->(x,Yaz)∈names\/(x,YaH)∈names
 | [],_,h=>by simp at h
 | (n,k)::r,x,h=>by
  have ih:_->_:=@ja5 env r x
  have h':Ybr x ((if (k == Yaz && env.scope.kind == .function && env.kindOf n == some .cell)=true then (n,YaH) else (n,k))::r.map fun (n,k)=>if (k == Yaz && env.scope.kind == .function && env.kindOf n == some .cell) then (n,YaH) else (n,k))=some .cell\/Ybr x ((if (k == Yaz && env.scope.kind == .function && env.kindOf n == some .cell)=true then (n,YaH) else (n,k))::r.map fun (n,k)=>if (k == Yaz && env.scope.kind == .function && env.kindOf n == some .cell) then (n,YaH) else (n,k))=some .free:=h
  by_cases hk:k=.free
  ·cases hx:x == n with
   | true=>rw [eq_of_beq hx,hk]; exact .inl Yao
   | false=>
    refine (ih ?_).imp (Yag _) (Yag _)
    by_cases hcc:(k == Yaz && env.scope.kind == .function && env.kindOf n == some .cell)=true
    ·rw [if_pos hcc] at h'; simpa only [YaJ,hx] using h'
    ·rw [if_neg hcc] at h'; simpa only [YaJ,hx] using h'
  ·have hb:(k == Yaz)=false:=by simpa using hk
   rw [if_neg (by simp [hb])] at h'
   cases hx:x == n with
   | true=>
    simp only [YaJ,hx] at h'
    rcases h' with z | z
    ·rw [eq_of_beq hx,Yan z]; exact .inr Yao
    ·exact absurd (Yan z) hk
   | false=>exact (ih (by simpa only [YaJ,hx] using h')).imp (Yag _) (Yag _)

theorem jay:∀ (names:List (Str×Ya3)) (n:Nat) (acc:List (Str×Addr)),Ybd n names acc=Ybd n names []++acc
 | [],_,_=>rfl
 | (x,k)::r,n,acc=>by
  unfold Ybd
  split
  ·rw [jay r (n + 1) ((x,n)::acc),jay r (n + 1) [(x,n)],Yc2]; rfl
  ·exact jay r n acc
theorem jaE:∀ (names:List (Str×Ya3)) (n:Nat) {x:Str} {c:Addr},(x,c)∈Ybd n names []->(x,YaH)∈names
 | [],_,_,_,h=>nomatch h
 | (y,k)::r,n,x,c,h=>by
  unfold Ybd at h
  split at h
  ·rename_i hk
   rw [jay] at h
   rcases List.mem_append.mp h with h | h
   ·exact Yag _ (jaE r _ h)
   ·have e:(x,c)=(y,n):=by simpa using h
    cases e
    rw [eq_of_beq hk]; exact Yao
  ·exact Yag _ (jaE r _ h)
theorem jcK {β:Type}:∀ (l m:List (Str×β)) (x:Str),(l++m).lookup x=(l.lookup x).or (m.lookup x)
 | [],_,_=>by simp
 | (n,k)::r,m,x=>by
  rw [Yed,YaJ,YaJ]
  cases hx:x == n with
  | true=>simp
  | false=>exact jcK r m x
structure BCells (scope:Scope)(cl cs:List (Str×Addr))(lo:Nat)(h:Heap):Prop where
 lk:∀ x c,cs.lookup x=some c->((x,YaH)∈scope.names/\lo < c/\h.IsCell c none)\/((x,YaH)∉scope.names/\cl.lookup x=some c)
 own:∀ x,scope.names.lookup x=some .cell->∃ c,cs.lookup x=some c/\lo < c
 old:∀ x c,(x,YaH)∉scope.names->cl.lookup x=some c->cs.lookup x=some c
 inj:∀ x y c,cs.lookup x=some c->cs.lookup y=some c->lo < c->x=y
theorem jhf {scope:Scope}{cl:List (Str×Addr)}{h:Heap}{lo:Nat}(hl:h.objs.size=lo + 1)(S:∀ y∈scope.names,y.2=.cell->scope.names.lookup y.1=some .cell)(hcl:∀ x c,cl.lookup x=some c->c<=lo):BCells scope cl (Ybd (lo + 1) scope.names cl) lo (YeY h scope.names):=by
 have ok:=cellsFrom_ok scope.names h (lo + 1) [] ⟨fun _ _ hm=>(nomatch hm),Yez⟩ (by omega)
 rw [hl] at ok
 have look:∀ x,(Ybd (lo + 1) scope.names cl).lookup x=((Ybd (lo + 1) scope.names []).lookup x).or (cl.lookup x):=fun x=>by rw [jay,jcK]
 have own:∀ x,(x,YaH)∈scope.names->∃ c,(Ybd (lo + 1) scope.names []).lookup x=some c:=fun x hx=>jdo (S _ hx rfl)
 refine ⟨fun x c e=>?_,fun x hx=>?_,fun x c hx hc=>?_,fun x y c e1 e2 hc=>?_⟩
 ·rw [look] at e
  by_cases hx:(x,YaH)∈scope.names
  ·obtain ⟨c',e'⟩:=own x hx
   rw [e',Yep] at e
   have e:c'=c:=Yan e
   subst e
   obtain ⟨z1,z2⟩:=ok.empty x c' (Yax e')
   exact .inl ⟨hx,z2,z1⟩
  ·cases q:(Ybd (lo + 1) scope.names []).lookup x with
   | some c'=>exact absurd (jaE _ _ (Yax q)) hx
   | none=>rw [q,Yeq] at e; exact .inr ⟨hx,e⟩
 ·obtain ⟨c,e⟩:=own x (Yax hx)
  exact ⟨c,by rw [look,e,Yep],(ok.empty x c (Yax e)).2⟩
 ·rw [look]
  cases q:(Ybd (lo + 1) scope.names []).lookup x with
  | some c'=>exact absurd (jaE _ _ (Yax q)) hx
  | none=>rw [Yeq]; exact hc
 ·rw [look] at e1 e2
  have new:∀ x,((Ybd (lo + 1) scope.names []).lookup x).or (cl.lookup x)=some c->(Ybd (lo + 1) scope.names []).lookup x=some c:=fun x e=>by
   cases q:(Ybd (lo + 1) scope.names []).lookup x with
   | some c'=>rw [q,Yep] at e; exact e
   | none=>
    rw [q,Yeq] at e
    exact absurd (Yaq hc (hcl x c e)) (Ybi _)
  exact name_of_addr ok.apart (Yax (new x e1)) (Yax (new y e2))
theorem jbt {M:Model}{A:Around}{E:Value->Shared->Prop}{s:Shared}{scope:Scope}{globals:Addr}{cl:List (Str×Addr)}{qual:Str}{env:Env}{Q:Env->Shared->Prop}
  (hQ:Q (newEnv scope s.heap.objs.size globals (Ybd (s.heap.objs.size + 1) scope.names cl) qual none .none (some env) YdP) { s with heap:=YeY (s.heap.push { cls:=.type "dict",data:=.dict #[] }) scope.names }) :
  wpAny M A (Yfa scope globals cl [] qual none .none (some env)) Q E s:=by
 have sz:(s.heap.push { cls:=.type "dict",data:=.dict #[] }).objs.size=s.heap.objs.size + 1:=Ydy ..
 unfold Yfa
 rw [if_pos (by rfl)]
 refine Yab (wpAny_alloc (Yab (wpAny_layCells _ (fun x k c=>by by_cases e:(k == YaH)=true <;> simp [e]) _ _ _ _ ?_)))
 rw [show Heap.objs (Shared.heap _)=(s.heap.push { cls:=.type "dict",data:=.dict #[] }).objs from rfl,sz]
 exact Yab (Yah (Yah hQ))

section
variable {X:Cx}{N:List Str}{scope:Scope}{cl:List (Str×Addr)}{C:Addr}{s₀:Shared}{H₀:Hp}{fp:List Addr}
theorem glc {x:Str}(h:scope.names.lookup x=some .globalImplicit):Gl (jan X N scope cl C s₀ H₀ fp) x:=jat (by decide) h
end

noncomputable def PIfs (X:Cx)(ifs:List Expr)(t:TT):Prop:=
 ∀ (pins:List (Addr×Obj)) (s:Shared) (σ:St) (H:Hp) (Q:Bool->Hp->Prop),Inv X pins σ H s->t σ H Q->
  wpAny (model X.prog X.w) X.A (jeh X.env ifs) (TP X pins σ Q) X.xe s
noncomputable def jno:TT:=fun _ H Q=>Q true H
theorem jjv {X:Cx}:PIfs X [] jno:=fun _ _ _ H _ I h=>wpAny_tests_nil ⟨H,I,h⟩
theorem jju {X:Cx}{c:Expr}{t:TT}(h:PT X c t):PIfs X [c] t:=fun pins s σ H Q I q=>wpAny_tests_one (h pins s σ H Q I q)

noncomputable abbrev TEm:=St->List V->Hp->(St->List V->Hp->Prop)->Prop
noncomputable def jhl (J:It)(g:TG)(tt:TT)(tem:TEm)(QQ:St->List V->Hp->Prop)(τ0:St)(ys0:List V)(H1:Hp):Prop:=∃ W:Nat->Nat->St->List V->Hp->Prop,
 (∃ m,W 0 m τ0 ys0 H1)/\∀ i m τ ys H,W i m τ ys H->
  (J.stop i H/\QQ τ ys H)\/(J.go i H/\∀ x H',J.yld i H x H'->g x τ H' fun τ2 H2=>tt τ2 H2 fun b H3=>if b=true then tem τ2 ys H3 fun τ3 ys' H4=>∃ m',m' < m/\W (i + 1) m' τ3 ys' H4
   else ∃ m',m' < m/\W (i + 1) m' τ2 ys H3)
noncomputable def emA (te:TE)(D:Addr):TEm:=fun τ ys H Q=>te τ H fun v H4=>H4 D=some (.lst ys)/\ys.length < Yae/\Q τ (ys++[v]) (upd H4 D (.lst (ys++[v])))
noncomputable def LcGG (J:It)(g:TG)(tt:TT)(tem:Addr->TEm)(D:Addr)(τ0:St)(Q:VK)(H1:Hp):Prop:=jhl J g tt (tem D) (fun _ _ H=>Q (.ref D) H) τ0 [] (upd H1 D (.lst []))
noncomputable def PEm (Y:Cx)(em:Sem Unit)(tem:TEm):Prop:=∀ (pins:List (Addr×Obj)) (s:Shared) (τ:St) (ys:List V) (H:Hp) (Q:St->List V->Hp->Prop),Inv Y pins τ H s->tem τ ys H Q->
 wpAny (model Y.prog Y.w) Y.A em (fun _ s'=>∃ τ' ys' H',Inv Y pins τ' H' s'/\Q τ' ys' H') Y.xe s
noncomputable def tLcG (pick:List (Option Nat))(wi:TI)(g:TG)(tt:TT)(tem:Addr->TEm):TE:=fun σ H Q=>wi σ H fun J H1=>∀ D,H1 D=none->LcGG J g tt tem D (pick.map fun o=>o.bind fun j=>(σ[j]?).join) Q H1
noncomputable abbrev tLc (pick:List (Option Nat))(wi:TI)(g:TG)(tt:TT)(te:TE):TE:=tLcG pick wi g tt (emA te)
section
variable {X:Cx}{N:List Str}{pick:List (Option Nat)}{scope:Scope}{pins:List (Addr×Obj)}{σ:St}{s s3:Shared}{H H3:Hp}

theorem jfF {cl cs:List (Str×Addr)}{fp:List Addr}{h₁:Heap}{tk:Nat}{mB:Str->Option Value}(S:CScope X N pick scope)(I3:Inv X pins σ H3 s3)(hf:∀ b∈fp,FpOk X pins H3 b)(hlt:∀ b∈fp,b < s3.heap.objs.size)
  (c1:∀ x c,cl.lookup x=some c->X.env.cells.lookup x=some c) (c2:∀ y∈scope.names,y.2=.free->∃ c,cl.lookup y.1=some c) (B:BCells scope cl cs s3.heap.objs.size h₁)
  (hns:h₁.Ns s3.heap.objs.size mB) (hk:∀ b o,s3.heap.get? b=some o->h₁.get? b=some o) :
  Inv (jan X N scope cs s3.heap.objs.size s3 H3 fp) [] (pick.map fun o=>o.bind fun j=>(σ[j]?).join) H3 { s3 with heap:=h₁,toks:=tk }:=by
 have fsub:∀ b∈frs X.stack,b∈X.env.locals::X.fs:=I3.stkSub
 have oc:∀ x c,cs.lookup x=some c->X.env.cells.lookup x=some c\/s3.heap.objs.size < c:=fun x c e=>by
  rcases B.lk x c e with ⟨_,z,_⟩ | ⟨_,z⟩
  ·exact .inr z
  ·exact .inl (c1 x c z)
 have has:∀ x,((x,Yaz)∈scope.names\/(x,YaH)∈scope.names)->∃ c,cs.lookup x=some c:=fun x hx=>by
  by_cases hc:(x,YaH)∈scope.names
  ·obtain ⟨c,e,_⟩:=B.own x (S.cells _ hc rfl)
   exact ⟨c,e⟩
  ·rcases hx with hx | hx
   ·obtain ⟨c,e⟩:=c2 _ hx rfl
    exact ⟨c,B.old x c hc e⟩
   ·exact absurd hx hc
 refine ⟨⟨I3.ok.mod,S.kind,I3.ok.glob,I3.ok.blt,Yaf _,fun x y c e1 e2=>?_,fun x hx=>has x (ja5 hx),fun x c z e=>?_,I3.ok.hd,I3.ok.frames,.inl rfl,fun b hb=>⟨YaF (hlt b hb),fun x c e=>?_⟩,
   I3.bs,Yal I3.ok.bsz I3.sz,fun b o e hb=>?_,fun b hb hm=>?_,I3.stack,I3.stkFree⟩,
  rfl,I3.bare,Un.kept hk,⟨_,hns,fun i x v e1 e2 e3=>?_⟩,fun x c e=>?_,I3.hok.fresh (Yaf _),fun x c e=>?_,fun p hp=>absurd (show p∈([]:List (Addr×Obj)) from hp) (by simp),I3.hok.kept hk,?_⟩
 ·by_cases hc:s3.heap.objs.size < c
  ·exact B.inj x y c e1 e2 hc
  ·exact I3.ok.inj x y c ((oc x c e1).resolve_right hc) ((oc y c e2).resolve_right hc)
 ·have z':scope.names.lookup x=some .cell:=eq_of_beq z
  rcases B.lk x c e with ⟨_,y,_⟩ | ⟨y,_⟩
  ·exact YbD y
  ·exact absurd (Yax z') y
 ·rcases oc x c e with z | z
  ·exact (hf b hb).2.2.2.2.1 x c z
  ·intro q
   rw [q] at z
   exact absurd (YcU z (hlt b hb)) (Ybi _)
 ·rcases (hf b hb).2.2.2.1 with z | z
  ·exact I3.ok.noex b o e z
  ·exact absurd (Yaq (Yaj e) (Yal I3.ok.bsz z)) (Ybi _)
 ·rcases YaI.mp (fsub b hm) with z | z
  ·exact (hf b hb).2.1 z
  ·exact (hf b hb).2.2.1 z
 ·-- a captured name
  have e2':∃ j,pick[i]?=some (some j)/\σ[j]?=some (some v):=by
   rw [Yay] at e2
   cases q:pick[i]? with
   | none=>rw [q] at e2; cases e2
   | some o=>
    rw [q] at e2
    cases o with
    | none=>simp at e2
    | some j=>
     simp at e2
     refine ⟨j,rfl,?_⟩
     cases q2:σ[j]? with
     | none=>rw [q2] at e2; cases e2
     | some w'=>rw [q2] at e2; simp at e2; rw [e2]
  obtain ⟨j,ej,ev⟩:=e2'
  obtain ⟨hN,hfr⟩:=S.caps i j x e1 ej
  have hmem:(x,Yaz)∈scope.names:=Yax hfr
  have hnc:(x,YaH)∉scope.names:=fun z=>by
   have:=S.cells _ z rfl
   rw [hfr] at this; cases this
  obtain ⟨_,hkind⟩:=S.fre _ hmem rfl
  obtain ⟨m,hn,hl⟩:=I3.loc
  obtain ⟨u,r,l⟩:=hl j x v hN ev (hkind.elim (fun z=>.inr (.inl z)) fun z=>.inr (.inr z))
  refine ⟨u,r,.inr ⟨?_,?_⟩⟩
  ·exact jaH (env:=X.env) hfr
  ·obtain ⟨c,hc⟩:=c2 _ hmem rfl
   have hc':=c1 _ _ hc
   rcases l with ⟨z,_⟩ | ⟨_,c',e,o,ho,hd⟩
   ·rcases hkind with y | y
    ·rw [y] at z; cases z
    ·rw [y] at z; cases z
   ·have:c'=c:=by rw [hc'] at e; exact (Yan e).symm
    subst this
    exact ⟨c',B.old x c' hnc hc,o,hk _ _ ho,hd⟩
 ·rcases B.lk x c e with ⟨_,_,z⟩ | ⟨_,z⟩
  ·exact ⟨none,z⟩
  ·obtain ⟨v,o,ho,hd⟩:=I3.cell x c (c1 x c z)
   exact ⟨v,o,hk _ _ ho,hd⟩
 ·rcases oc x c e with z | z
  ·exact I3.freeC x c z
  ·exact I3.hok.fresh (YbD z)
 ·rw [Yac]
  exact S.len

theorem jh8 {cl:List (Str×Addr)}{fp:List Addr}{C:Addr}{τ:St}{H':Hp}{s':Shared}{pins':List (Addr×Obj)}(I3:Inv X pins σ H3 s3)(hf:∀ b∈fp,FpOk X pins H3 b)(J:Inv (jan X N scope cl C s3 H3 fp) pins' τ H' s') :
  Inv X pins σ H' s':=I3.call' J.os J.base J.hok J.bare fun b hb=>⟨(hf b hb).2.2.2.1,(hf b hb).2.1,(hf b hb).2.2.2.2.1,(hf b hb).2.2.2.2.2⟩

theorem jjZ {Y:Cx}{elt tg:Expr}{gens:List YbK}{pos ip:Pos}{ifs:List Expr}{dp:Nat}{acc:Value}{em:Sem Unit}{g:TG}{tt:TT}{tem:TEm}{J:It}{fp:List Addr}{it:Addr}{tn:Nat->Heap->Prop}{QQ:St->List V->Hp->Prop}{τ0:St}{ys0:List V}
  (yc:Y.calm=true) (yxe:Y.xe=fun _ _=>False)
  (hct:YeQ (.ListComp elt gens scope pos) dp (.ref it) acc Y.env=jcg ip tg ifs (.ref it) Y.env em (.compLoop (.ListComp elt gens scope pos) dp (.ref it) acc Y.env))
  (yg:PG Y tg g) (yi:PIfs Y ifs tt) (ym:PEm Y em tem) (J0:Inv Y pins τ0 H s) (T:Turn Y.prog Y.w Y.K tg J fp it tn) (t0:tn 0 s.heap) (f0:∀ b∈fp,FpOk Y pins H b) (hW:jhl J g tt tem QQ τ0 ys0 H) :
  codeAny (model Y.prog Y.w) Y.A (.compLoop (.ListComp elt gens scope pos) dp (.ref it) acc Y.env) (fun r s'=>r=.ok .next/\∃ τ' ys' H',Inv Y pins τ' H' s'/\QQ τ' ys' H') s:=by
 obtain ⟨W,⟨m0,w0⟩,turn⟩:=hW
 have stat:∀ {H':Hp},(∀ b∈fp,H' b=none)->∀ b∈fp,FpOk Y pins H' b:=fun hn b hb=>⟨hn b hb,(f0 b hb).2⟩
 refine jdW (fun n s'=>∃ i τ ys H',Inv Y pins τ H' s'/\tn i s'.heap/\(∀ b∈fp,H' b=none)/\W i n τ ys H') hct ?_ m0 ⟨0,_,ys0,_,J0,t0,fun b hb=>(f0 b hb).1,w0⟩
 rintro n s4 ⟨i,τ,ys,H4,J4,t4,fr4,w4⟩
 rcases turn i n τ ys H4 w4 with ⟨stop,q⟩ | ⟨go,step⟩
 ·refine YaL (T.done Y rfl rfl rfl yc i pins s4 τ H4 (fun _ _=>False) J4 (stat fr4) t4 stop) (fun r s5 ⟨hr,J5⟩=>?_) fun _ _ f=>f
  subst hr
  exact ⟨rfl,τ,ys,H4,J5,q⟩
 ·refine YaL (T.item Y rfl rfl rfl yc i pins s4 τ H4 (fun _ _=>False) J4 (stat fr4) t4 go) (fun r s5 ⟨u,hr,h5⟩=>?_) fun _ _ f=>f
  subst hr
  refine YaL h5 (fun _ s6 ⟨x,H6,J6,r6,y6,t6,fr6⟩=>?_) fun _ _ f=>f
  have J6':=J6.pinned (stat fr6) (T.obj _ _ t6)
  have ag:=yg _ s6 τ H6 x u _ J6' r6 (step x H6 y6)
  rw [yxe] at ag
  refine YaL ag (fun _ s7 ⟨τ7,H7,J7,q7⟩=>?_) fun _ _ f=>f
  have ai:=yi _ s7 τ7 H7 _ J7 q7
  rw [yxe] at ai
  refine YaL ai (fun ok s8 ⟨H8,J8,q8⟩=>?_) fun _ _ f=>f
  have again:∀ {τ9:St} {H9:Hp} {s9:Shared} {zs:List V},Inv Y (pins++jdA fp s6.heap) τ9 H9 s9->(∃ m',m' < n/\W (i + 1) m' τ9 zs H9)->∃ m,m < n/\∃ i τ ys H',Inv Y pins τ H' s9/\tn i s9.heap/\(∀ b∈fp,H' b=none)/\W i m τ ys H':=fun {τ9 H9 s9 zs} J9 ⟨m',hm,w9⟩=>by
   refine ⟨m',hm,i + 1,τ9,zs,H9,J9.unpinned,T.keep _ _ _ t6 fun b hb o e=>(J9.pin (b,o) (YaA _ (YaA _ (jbe hb e)))).1,fun b hb=>?_,w9⟩
   obtain ⟨o,e,d⟩:=T.obj _ _ t6 b hb
   exact (J9.pin (b,o) (YaA _ (YaA _ (jbe hb e)))).2.1
  cases ok with
  | false=>exact again J8 q8
  | true=>
   have am:=ym _ s8 τ7 ys H8 _ J8 q8
   rw [yxe] at am
   exact YaL am (fun _ s9 ⟨τ9,zs,H9,J9,q9⟩=>again J9 q9) fun _ _ f=>f
theorem jiJ {Y:Cx}{elt:Expr}{te:TE}{D:Addr}(yxe:Y.xe=fun _ _=>False)(he:PE Y elt te):PEm Y (do let _ <- call (.builtin "list.append") [.ref D,<- eval elt Y.env]) (emA te D):=by
 intro pins s τ ys H Q J q
 have ae:=he _ s τ H _ J q
 refine Yab (YaL ae (fun v s9 ⟨z,H9,J9,r9,hD9,hz9,q9⟩=>?_) fun _ _ f=>f)
 have aa:=jdL (X:=Y) _ s9 τ H9 (.ref D) [z] (.ref D) [v] (fun x H'=>H'=upd H9 D (.lst (ys++[z]))) J9 rfl (.cons r9 .nil) ⟨_,ys,z,rfl,rfl,hD9,hz9,rfl⟩
 refine Yab (YaL aa (fun _ s10 ⟨_,H10,J10,_,e10⟩=>?_) fun _ _ f=>f)
 subst e10
 exact Yah ⟨τ,_,_,J10,q9⟩
theorem je4 {tg iter elt:Expr}{ifs:List Expr}{rest:List YbK}{pos:Pos}{g:TG}{tt:TT}{tem:Addr->TEm}{em:Addr->Env->Sem Unit}{J:It}{fp:List Addr}{it:Addr}{tn:Nat->Heap->Prop}{cl:List (Str×Addr)}{Q:VK}{E:Value->Shared->Prop}{RR:Value->Addr->Result->Shared->Prop}
  (hc:X.calm=true) (S:CScope X N pick scope) (c1:∀ x c,cl.lookup x=some c->X.env.cells.lookup x=some c) (c2:∀ y∈scope.names,y.2=.free->∃ c,cl.lookup y.1=some c)
  (hg:∀ cl C s₀ H₀ fp,PG (jan X N scope cl C s₀ H₀ fp) tg g) (hi:∀ cl C s₀ H₀ fp,PIfs (jan X N scope cl C s₀ H₀ fp) ifs tt) (he:∀ D cl C s₀ H₀ fp,PEm (jan X N scope cl C s₀ H₀ fp) (em D (jan X N scope cl C s₀ H₀ fp).env) (tem D))
  (hct:∀ (it:Value) (D:Addr) (env:Env),YeQ (.ListComp elt (⟨tg,iter,ifs,0⟩::rest) scope pos) 0 it (.ref D) env=jcg iter.pos tg ifs it env (em D env) (.compLoop (.ListComp elt (⟨tg,iter,ifs,0⟩::rest) scope pos) 0 it (.ref D) env))
  (I2:Inv X pins σ H s) (T:Turn X.prog X.w X.K tg J fp it tn) (st:tn 0 s.heap) (hf:∀ b∈fp,FpOk X pins H b)
  (hW:∀ D,H D=none->LcGG J g tt tem D (pick.map fun o=>o.bind fun j=>(σ[j]?).join) Q H)
  (hRR:∀ D C H' s',Inv X pins σ H' s'->(∃ m,s'.heap.Ns C m)->FpOk X pins H' C->Q (.ref D) H'->RR (.ref D) C (.ok .next) s') :
  wpAny (model X.prog X.w) X.A (newList []) (fun acc s₃=>wpAny (model X.prog X.w) X.A (Yfa scope X.env.globals cl [] X.env.qual none .none (some X.env)) (fun cenv s₄=>
   codeAny (model X.prog X.w) X.A (.compStart (.ListComp elt (⟨tg,iter,ifs,0⟩::rest) scope pos) 0 (.ref it) acc { cenv with scope:=relabel scope X.env }) (RR acc cenv.locals) s₄) E s₃) E s:=by
 have hD:H s.heap.objs.size=none:=I2.hok.fresh (Yaf _)
 have hlt:∀ b∈fp,b < s.heap.objs.size:=fun b hb=>let ⟨o,e,_⟩:=T.obj _ _ st b hb; Yaj e
 refine Ya6 (jbt ?_)
 have I3:Inv X pins σ (upd H s.heap.objs.size (.lst [])) { s with heap:=s.heap.push { cls:=.type "list",dict:=none,data:=.seq ([]:List Value).toArray } }:=
  I2.laid (t':=s.toks) (fun b u e=>Yad _ e) (Yaf _) ⟨Ybn _,[],0,.nil,Yav _ rfl⟩
 generalize hs3:({ s with heap:=s.heap.push { cls:=.type "list",dict:=none,data:=.seq ([]:List Value).toArray } }:Shared)=s3 at I3 ⊢
 have hsz:s3.heap.objs.size=s.heap.objs.size + 1:=by rw [<- hs3]; exact Ydy ..
 have hf3:∀ b∈fp,FpOk X pins (upd H s.heap.objs.size (.lst [])) b:=fun b hb=>⟨by rw [jac (YaF (hlt b hb))]; exact (hf b hb).1,(hf b hb).2⟩
 have hsz':(s3.heap.push { cls:=.type "dict",data:=.dict #[] }).objs.size=s3.heap.objs.size + 1:=Ydy ..
 have hk:∀ b o,s3.heap.get? b=some o->(YeY (s3.heap.push { cls:=.type "dict",data:=.dict #[] }) scope.names).get? b=some o:=fun b o e=>pushCells_keeps _ _ b o (Yad _ e)
 have hns₁:(YeY (s3.heap.push { cls:=.type "dict",data:=.dict #[] }) scope.names).Ns s3.heap.objs.size fun _=>none:=(Heap.Ns.new s3.heap (.type "dict")).keeps (pushCells_keeps _ _)
 have B:=jhf (cl:=cl) hsz' S.cells fun x c e=>by
  obtain ⟨v,z⟩:=I3.cell x c (c1 x c e)
  exact YbD z.lt
 generalize YeY (s3.heap.push { cls:=.type "dict",data:=.dict #[] }) scope.names=h₁ at hk hns₁ B ⊢
 generalize Ybd (s3.heap.objs.size + 1) scope.names cl=cs at B ⊢
 have c1':∀ x c,cs.lookup x=some c->X.env.cells.lookup x=some c\/s3.heap.objs.size < c:=fun x c e=>by
  rcases B.lk x c e with ⟨_,z,_⟩ | ⟨_,z⟩
  ·exact .inr z
  ·exact .inl (c1 x c z)
 have st1:tn 0 h₁:=T.keep _ _ _ st fun b _ o e=>hk b o (by rw [<- hs3]; exact Yad _ e)
 have IY:Inv (jan X N scope cs s3.heap.objs.size s3 (upd H s.heap.objs.size (.lst [])) fp) [] (pick.map fun o=>o.bind fun j=>(σ[j]?).join) (upd H s.heap.objs.size (.lst [])) { s3 with heap:=h₁ }:=
  jfF (tk:=s3.toks) S I3 hf3 (fun b hb=>Yaq (hlt b hb) (by omega)) c1 c2 B hns₁ hk
 generalize hY:jan X N scope cs s3.heap.objs.size s3 (upd H s.heap.objs.size (.lst [])) fp=Y at IY
 have yg:PG Y tg g:=hY ▸ hg _ _ _ _ _
 have yi:PIfs Y ifs tt:=hY ▸ hi _ _ _ _ _
 have ye:PEm Y (em s.heap.objs.size Y.env) (tem s.heap.objs.size):=hY ▸ he _ _ _ _ _ _
 have yprog:Y.prog=X.prog:=by rw [<- hY]; rfl
 have yw:Y.w=X.w:=by rw [<- hY]; rfl
 have yK:Y.K=X.K:=by rw [<- hY]; rfl
 have yA:Y.A=X.A:=by rw [<- hY]; rfl
 have yc:Y.calm=true:=by rw [<- hY]; exact hc
 have yenv:Y.env=compEnvC scope cs s3.heap.objs.size X.env:=by rw [<- hY]; rfl
 have yex:∀ b,b∈Y.ex↔b∈fp:=fun b=>by rw [<- hY]; rfl
 have yxe:Y.xe=fun _ _=>False:=by rw [<- hY]; rfl
 have ypn:Y.pn=[]:=by rw [<- hY]; rfl
 have yfs:∀ b,b∈Y.fs->b∈X.env.locals::X.fs:=fun b hb=>I3.stkSub b (by rw [<- hY] at hb; exact hb)
 have stat:∀ {H':Hp},(∀ b∈fp,H' b=none)->∀ b∈fp,FpOk Y [] H' b:=fun hn b hb=>by
  refine ⟨hn b hb,?_,fun hm=>?_,.inl ((yex b).mpr hb),fun x c e=>?_,fun p hp=>?_⟩
  ·rw [yenv]
   show b≠s3.heap.objs.size
   exact YaF (Yaq (hlt b hb) (by omega))
  ·rcases YaI.mp (yfs b hm) with z | z
   ·exact (hf b hb).2.1 z
   ·exact (hf b hb).2.2.1 z
  ·rw [yenv] at e
   rcases c1' x c e with z | z
   ·exact (hf b hb).2.2.2.2.1 x c z
   ·intro q
    rw [q] at z
    exact absurd (YcU z (Yaq (hlt b hb) (by omega))) (Ybi _)
  ·rw [ypn] at hp; simp at hp
 have fin:∀ {τ:St} {H':Hp} {s':Shared},Inv Y [] τ H' s'->Q (.ref s.heap.objs.size) H'->RR (.ref s.heap.objs.size) s3.heap.objs.size (.ok .next) s':=fun {τ H' s'} J q=>by
  have fr:H' s3.heap.objs.size=none:=by have:=J.free; rw [yenv] at this; exact this
  obtain ⟨m,hn,_⟩:=J.loc
  rw [yenv] at hn
  exact hRR _ _ H' s' (jh8 I3 hf3 (hY ▸ J)) ⟨m,hn⟩ (I3.fpOk (Yaf _) fr) q
 have hn:∀ b∈fp,upd H s.heap.objs.size (.lst []) b=none:=fun b hb=>(hf3 b hb).1
 have lp:=jjZ (pins:=[]) (s:={ s3 with heap:=h₁ }) (acc:=.ref s.heap.objs.size) (ifs:=ifs) (em:=em s.heap.objs.size Y.env) yc yxe (hct (.ref it) s.heap.objs.size Y.env) yg yi ye IY (by rw [yprog,yw,yK]; exact T) st1 (stat hn) (hW _ hD)
 rw [yprog,yw,yA,yenv] at lp
 have lp:=Yc9 lp (R':=RR (.ref s.heap.objs.size) s3.heap.objs.size) fun r s' ⟨hr,τ',ys',H',I',q'⟩=>by subst hr; exact fin I' q'
 show codeAny (model X.prog X.w) X.A (.compStart (.ListComp elt (⟨tg,iter,ifs,0⟩::rest) scope pos) 0 (.ref it) (.ref s.heap.objs.size) (compEnvC scope cs s3.heap.objs.size X.env)) (RR (.ref s.heap.objs.size) s3.heap.objs.size) _
 exact codeAny_compStart_list lp (T.self _ 0 _ _ _ st1 lp)

theorem jlm {tg iter elt:Expr}{ifs:List Expr}{pos:Pos}{wi:TI}{g:TG}{tt:TT}{rest:List YbK}{tem:Addr->TEm}{em:Addr->Env->Sem Unit}(hc:X.calm=true)(S:CScope X N pick scope)(hw:PI X tg iter wi)
  (hg:∀ cl C s₀ H₀ fp,PG (jan X N scope cl C s₀ H₀ fp) tg g) (hi:∀ cl C s₀ H₀ fp,PIfs (jan X N scope cl C s₀ H₀ fp) ifs tt) (he:∀ D cl C s₀ H₀ fp,PEm (jan X N scope cl C s₀ H₀ fp) (em D (jan X N scope cl C s₀ H₀ fp).env) (tem D))
  (hct:∀ (it:Value) (D:Addr) (env:Env),YeQ (.ListComp elt (⟨tg,iter,ifs,0⟩::rest) scope pos) 0 it (.ref D) env=jcg iter.pos tg ifs it env (em D env) (.compLoop (.ListComp elt (⟨tg,iter,ifs,0⟩::rest) scope pos) 0 it (.ref D) env))
  (hs:∀ x,Ya1 iter X.env x=pure x:=by intro _; rfl):PE X (.ListComp elt (⟨tg,iter,ifs,0⟩::rest) scope pos) (tLcG pick wi g tt tem):=by
 intro pins s σ H Q I h
 obtain ⟨cl,hclos,c1,c2⟩:=jcW (scope:=scope) (env:=X.env) fun y hy hf=>I.ok.has _ (S.fre y hy hf).2
 rw [eval_ListComp]
 refine Yfk (use:=none) rfl hs hclos S.kind S.names (thn (hw pins s σ H _ I h) fun v s1 h1=>thn h1 fun itv s2 h2=>?_)
 obtain ⟨it,fp,tn,J,H2,e,I2,T,st2,f2,hW⟩:=h2
 subst e
 refine je4 (RR:=fun acc C=>compPost (model X.prog X.w) X.A X.xe none (EP X pins σ Q) acc C) hc S c1 c2 hg hi he hct I2 T st2 f2 hW fun D C H' s' J' ⟨m,hn⟩ fC q=>?_
 refine ⟨m,hn,fun h' hs'=>⟨.ref D,H',?_,rfl,q⟩⟩
 exact J'.turned (t':=s'.toks) (it:=C) (fun b o hb e=>hs'.extBut b o hb e) fC.1 fC.2.1 fC.2.2.2.1 fC.2.2.2.2.1 fC.2.2.2.2.2

theorem jlb {tg iter elt:Expr}{ifs:List Expr}{pos py spos:Pos}{wi:TI}{g:TG}{tt:TT}{rest:List YbK}{tem:Addr->TEm}{em:Addr->Env->Sem Unit}{i:Nat}{y:Str}(hN:X.N.Nodup)(hi':X.N[i]?=some y)(hy:X.env.scope.names.lookup y=some .local)(hc:X.calm=true)(S:CScope X N pick scope)(hw:PI X tg iter wi)
  (hg:∀ cl C s₀ H₀ fp,PG (jan X N scope cl C s₀ H₀ fp) tg g) (hi:∀ cl C s₀ H₀ fp,PIfs (jan X N scope cl C s₀ H₀ fp) ifs tt) (he:∀ D cl C s₀ H₀ fp,PEm (jan X N scope cl C s₀ H₀ fp) (em D (jan X N scope cl C s₀ H₀ fp).env) (tem D))
  (hct:∀ (it:Value) (D:Addr) (env:Env),YeQ (.ListComp elt (⟨tg,iter,ifs,0⟩::rest) scope pos) 0 it (.ref D) env=jcg iter.pos tg ifs it env (em D env) (.compLoop (.ListComp elt (⟨tg,iter,ifs,0⟩::rest) scope pos) 0 it (.ref D) env))
  (hsw:Ycf (.ListComp elt (⟨tg,iter,ifs,0⟩::rest) scope pos) (some (.Name y py)) spos.line X.env=pure true) (hs:∀ x,Ya1 iter X.env x=pure x:=by intro _; rfl) :
  PS X (.Assign [.Name y py] (.ListComp elt (⟨tg,iter,ifs,0⟩::rest) scope pos) spos) (tAsg (tLcG pick wi g tt tem) (jgS i)):=by
 intro pins s σ H D0 I h
 obtain ⟨cl,hclos,c1,c2⟩:=jcW (scope:=scope) (env:=X.env) fun y hy hf=>I.ok.has _ (S.fre y hy hf).2
 rw [exec_Assign_Name_used _ _ _ _ hsw]
 refine Yab (Yb8 (Yab ?_))
 show wpAny _ _ (do let _ <- comprehension (.ListComp elt (⟨tg,iter,ifs,0⟩::rest) scope pos) scope X.env _ (newList []) false (eval iter X.env) (some (assign (.Name y py) X.env))) _ _ s
 refine Yab (thn (Yfk (use:=some (assign (.Name y py) X.env)) (Q:=fun _ s'=>SP X pins D0 .next s') rfl hs hclos S.kind S.names
  (thn (hw pins s σ H _ I h) fun v s1 h1=>thn h1 fun itv s2 h2=>?_)) fun _ s' hq=>Yah (Yah hq))
 obtain ⟨it,fp,tn,J,H2,e,I2,T,st2,f2,hW⟩:=h2
 subst e
 refine je4 (Q:=fun x H1=>jgS i x σ H1 D0.nx) (RR:=fun acc C=>compPost (model X.prog X.w) X.A X.xe (some (assign (.Name y py) X.env)) (fun _ s'=>SP X pins D0 .next s') acc C) hc S c1 c2 hg hi he hct I2 T st2 f2 hW fun D C H' s' J' ⟨m,hn⟩ fC q=>?_
 show wpAny _ _ (assign (.Name y py) X.env (.ref D)) _ _ _
 refine wpAny_assign_Name (jdw (v:=.ref D) J' hN hi' (.inl hy) rfl (fun s'' J'' ⟨a,sb,ha⟩=>?_) (.inr hy))
 have hne:C≠a:=by
  rcases ha with z | z
  ·rw [z]; exact fC.2.1
  ·exact fun e=>fC.2.2.2.2.1 y a z e.symm
 refine ⟨m,hn.sameBut sb hne,fun h' hs'=>?_⟩
 refine ⟨_,H',J''.turned (t':=s''.toks) (it:=C) (fun b o hb e=>hs'.extBut b o hb e) fC.1 fC.2.1 fC.2.2.2.1 fC.2.2.2.2.1 fC.2.2.2.2.2,q⟩
theorem jnM {tg iter elt:Expr}{ifs:List Expr}{pos:Pos}{wi:TI}{g:TG}{tt:TT}{te:TE}(hc:X.calm=true)(S:CScope X N pick scope)(hw:PI X tg iter wi)
  (hg:∀ cl C s₀ H₀ fp,PG (jan X N scope cl C s₀ H₀ fp) tg g) (hi:∀ cl C s₀ H₀ fp,PIfs (jan X N scope cl C s₀ H₀ fp) ifs tt) (he:∀ cl C s₀ H₀ fp,PE (jan X N scope cl C s₀ H₀ fp) elt te)
  (hs:∀ x,Ya1 iter X.env x=pure x:=by intro _; rfl):PE X (.ListComp elt [⟨tg,iter,ifs,0⟩] scope pos) (tLc pick wi g tt te):=
 jlm (em:=fun D env=>do let _ <- call (.builtin "list.append") [.ref D,<- eval elt env]) (rest:=[]) hc S hw hg hi (fun D cl C s₀ H₀ fp=>jiJ rfl (he cl C s₀ H₀ fp)) (fun _ _ _=>rfl) hs
theorem jnI {tg iter elt:Expr}{ifs:List Expr}{pos:Pos}{wi:TI}{g:TG}{tt:TT}{te:TE}{py spos:Pos}{i:Nat}{y:Str}(hN:X.N.Nodup)(hi':X.N[i]?=some y)(hy:X.env.scope.names.lookup y=some .local)(hc:X.calm=true)(S:CScope X N pick scope)(hw:PI X tg iter wi)
  (hg:∀ cl C s₀ H₀ fp,PG (jan X N scope cl C s₀ H₀ fp) tg g) (hi:∀ cl C s₀ H₀ fp,PIfs (jan X N scope cl C s₀ H₀ fp) ifs tt) (he:∀ cl C s₀ H₀ fp,PE (jan X N scope cl C s₀ H₀ fp) elt te)
  (hsw:Ycf (.ListComp elt [⟨tg,iter,ifs,0⟩] scope pos) (some (.Name y py)) spos.line X.env=pure true) (hs:∀ x,Ya1 iter X.env x=pure x:=by intro _; rfl):PS X (.Assign [.Name y py] (.ListComp elt [⟨tg,iter,ifs,0⟩] scope pos) spos) (tAsg (tLc pick wi g tt te) (jgS i)):=
 jlb (em:=fun D env=>do let _ <- call (.builtin "list.append") [.ref D,<- eval elt env]) (rest:=[]) hN hi' hy hc S hw hg hi (fun D cl C s₀ H₀ fp=>jiJ rfl (he cl C s₀ H₀ fp)) (fun _ _ _=>rfl) hsw hs
end

mutual
inductive DV (K:Yaa)(H:Hp):V->PyData->Prop
 | non:DV K H .non .none
 | bl (b:Bool):DV K H (.bl b) (.bool b)
 | int (i:Int):DV K H (.int i) (.int i)
 | str (x:Str):DV K H (.str x) (.str x)
 | tup {a:Addr} {xs:List V} {ds:List PyData}:SqT K H a xs->DVs K H xs ds->DV K H (.ref a) (.tuple ds)
 | lst {a:Addr} {xs:List V} {ds:List PyData}:Rd H a (.lst xs)->DVs K H xs ds->DV K H (.ref a) (.list ds)
 | dic {a:Addr}:H a=some (.dK [])->DV K H (.ref a) (.dict [])
inductive DVs (K:Yaa)(H:Hp):List V->List PyData->Prop
 | nil:DVs K H [] []
 | cons {x:V} {d:PyData} {xs:List V} {ds:List PyData}:DV K H x d->DVs K H xs ds->DVs K H (x::xs) (d::ds)
end
section
variable {K:Yaa}{H H':Hp}
end
mutual
noncomputable def noL:PyData->Bool
 | .list _=>false
 | .tuple xs=>noLs xs
 | .dict _=>false
 | .none | .bool _ | .int _ | .str _=>true
noncomputable def noLs:List PyData->Bool
 | []=>true
 | x::r=>noL x && noLs r
end
section
variable {K:Yaa}{H H':Hp}
noncomputable def TK (H H':Hp):Prop:=∀ b xs,H b=some (.tup xs)->H' b=some (.tup xs)
end

theorem Inv.noSys {X:Cx}{pins:List (Addr×Obj)}{σ:St}{H:Hp}{s:Shared}(I:Inv X pins σ H s){a:Addr}{o:Obj}(h:s.heap.get? a=some o)(c:o.cls=.type "list"):Ya0≠a:=fun e=>by
 obtain ⟨o',l,c'⟩:=I.mod.sys
 have:=I.kIn _ _ l
 rw [e,h] at this
 cases this
 rw [c] at c'
 exact absurd c' (by decide)
mutual
theorem DV.reads2 {X:Cx}{pins:List (Addr×Obj)}{σ:St}{H:Hp}{s:Shared}(I:Inv X pins σ H s):∀ {x:V} {d:PyData} {u:Value},DV X.K H x d->RelV x u->∃ as,Reads s.heap u d as/\Ya0∉as
 | _,_,_,.non,r=>by cases r; exact ⟨_,.none,by simp⟩
 | _,_,_,.bl b,r=>by cases r; exact ⟨_,.bool b,by simp⟩
 | _,_,_,.int i,r=>by obtain ⟨t,rfl⟩:=r; exact ⟨_,.int i t,by simp⟩
 | _,_,_,.str x,r=>by obtain ⟨t,rfl⟩:=r; exact ⟨_,.str x t,by simp⟩
 | _,_,_,.tup e h,r=>by
  cases r
  obtain ⟨its,rv,⟨o,ho,hc,n,hd⟩,_⟩:=I.tuple e
  obtain ⟨as,q,z⟩:=DVs.reads2 I h rv
  exact ⟨_,.tuple ho hc hd q,z⟩
 | _,_,_,@DV.lst _ _ a _ _ e h,r=>by
  cases r
  obtain ⟨its,rv,⟨o,n,ho,hc,_,hd⟩,_⟩:=I.list (.inl e)
  obtain ⟨as,q,z⟩:=DVs.reads2 I h rv
  refine ⟨_,.list ho hc hd q,fun hm=>?_⟩
  rcases YaI.mp hm with hm | hm
  ·exact I.noSys ho hc hm
  ·exact z hm
 | _,_,_,@DV.dic _ _ a e,r=>by
  cases r
  obtain ⟨_,hS,vs,kv,o,es,ep,ho,hx,hd,_,hp,_⟩:([]:List (Key×V)).length<=Yae/\(a == Ya0)=false/\∃ vs,KV [] vs/\s.heap.DictOf (jao X.prog X.w) a vs:=I.hok a _ e
  have e0:es.toList=[]:=by
   cases kv
   revert hp
   cases es.toList with
   | nil=>exact fun _=>rfl
   | cons x r=>exact fun hp=>(nomatch hp)
  refine ⟨_,.dict (kvs:=[]) (as:=[]) (bs:=[]) ho hx.1 hd (by rw [e0]; exact .nil) (by rw [e0]; exact .nil),fun hm=>?_⟩
  have:Ya0=a:=by simpa using hm
  rw [<- this] at hS
  exact absurd hS (by simp)
theorem DVs.reads2 {X:Cx}{pins:List (Addr×Obj)}{σ:St}{H:Hp}{s:Shared}(I:Inv X pins σ H s):∀ {xs:List V} {ds:List PyData} {us:List Value},DVs X.K H xs ds->Vals xs us->∃ as,ReadsAll s.heap us ds as/\Ya0∉as
 | _,_,_,.nil,r=>by cases r; exact ⟨_,.nil,by simp⟩
 | _,_,_,.cons a b,r=>by
  cases r with
  | cons r rr=>
   obtain ⟨as,q,z⟩:=DV.reads2 I a r
   obtain ⟨bs,q',z'⟩:=DVs.reads2 I b rr
   exact ⟨_,.cons q q',by rw [List.mem_append,not_or]; exact ⟨z,z'⟩⟩
end
theorem DV.reads {X:Cx}{pins:List (Addr×Obj)}{σ:St}{H:Hp}{s:Shared}(I:Inv X pins σ H s){x:V}{d:PyData}{u:Value}(h:DV X.K H x d)(r:RelV x u):∃ as,Reads s.heap u d as:=let ⟨as,q,_⟩:=DV.reads2 I h r; ⟨as,q⟩
theorem DVs.reads {X:Cx}{pins:List (Addr×Obj)}{σ:St}{H:Hp}{s:Shared}(I:Inv X pins σ H s){xs:List V}{ds:List PyData}{us:List Value}(h:DVs X.K H xs ds)(r:Vals xs us):∃ as,ReadsAll s.heap us ds as:=let ⟨as,q,_⟩:=DVs.reads2 I h r; ⟨as,q⟩

structure Fits (n k:Nat)(d:PyData):Prop where
 sh:d.showable=true
 ln:d.shown.length<=n
 dp:d.depth<=k
theorem Fits.mono {n n' k k':Nat}{d:PyData}(h:Fits n k d)(h1:n<=n')(h2:k<=k'):Fits n' k' d:=⟨h.sh,Yal h.ln h1,Yal h.dp h2⟩
theorem Fits.int {i:Int}(h:i.natAbs < 2 ^ 1000):Fits 1921 0 (.int i):=by
 have hl:i.natAbs.log2 < 1920:=by
  by_cases z:i.natAbs=0
  ·rw [z]; decide
  ·exact Yaq ((Nat.log2_lt z).mpr h) (by decide)
 refine ⟨by simp [Yde,hl],?_,Yaf _⟩
 simp only [Ycq]
 exact int_text_len_1921 hl
theorem jeY {ts:List Str}{n:Nat}(h:∀ t∈ts,t.length<=n):piled ts<=ts.length * (n + 2):=by
 induction ts with
 | nil=>simp [piled]
 | cons t r ih=>
  have h1:=h t Yao
  have h2:=ih fun q hq=>h q (Yag _ hq)
  rw [piled_cons,YaW,Nat.add_mul]
  omega
theorem ja4:∀ {ds:List PyData} {t:Str},t∈YbM ds->∃ d∈ds,t=d.shown
 | [],_,h=>by simp [YbM] at h
 | d::r,t,h=>by
  simp only [YbM,YaI] at h
  rcases h with h | h
  ·exact ⟨d,Yao,h⟩
  ·obtain ⟨e,he,q⟩:=ja4 h
   exact ⟨e,Yag _ he,q⟩
theorem jaG:∀ ds:List PyData,(YbM ds).length=ds.length
 | []=>rfl
 | _::r=>by simp [YbM,jaG r]
theorem jj3 (ts:List Str):(Ya4 ", " ts).length<=piled ts:=by
 rcases Classical.em (ts=[]) with rfl | hz
 ·exact Ybn _
 ·exact Nat.le_of_add_right_le (Yeb (join_length_add ts hz))
theorem jdt {ts:List Str}{n:Nat}(h:∀ t∈ts,t.length<=n):(tupleText ts).length<=ts.length * (n + 2) + 3:=by
 have hp:=Yal (jj3 ts) (jeY h)
 have two:∀ b:Bool,((((if b=true then ",)" else ")"):String):Str)).length<=2:=by decide
 have z:=two (ts.length == 1)
 have one:(("(" : String):Str).length=1:=rfl
 simp only [tupleText,YfB] at z ⊢
 omega
theorem jca:∀ (ts:List Str) (k:Nat) (acc:Str),(textFrom k acc ts).length<=acc.length + piled ts
 | [],_,_=>Yaf _
 | t::r,k,acc=>by
  have two:(((if k > 0 then ", " else "" : String):Str)).length<=2:=by split <;> decide
  have ih:=jca r (k + 1) (acc++(if k > 0 then ", " else "" : String)++t)
  simp only [YfB] at ih
  rw [piled_cons]
  exact Yal ih (by omega)
theorem jel {ts:List Str}{n:Nat}(h:∀ t∈ts,t.length<=n):(listText ts).length<=ts.length * (n + 2) + 3:=by
 have hp:=Yal (jca ts 0 "[") (YdK (jeY h) _)
 have one:(("[" : String):Str).length=1/\(("]" : String):Str).length=1:=⟨rfl,rfl⟩
 simp only [listText,YfB]
 omega
theorem jaM:∀ {ds:List PyData},(∀ d∈ds,d.showable=true)->Yfe ds=true
 | [],_=>rfl
 | d::r,h=>by simp [Yfe,h d Yao,jaM fun q hq=>h q (Yag _ hq)]
theorem jbo:∀ {ds:List PyData} {k:Nat},(∀ d∈ds,d.depth<=k)->Yce ds<=k
 | [],_,_=>Ybn _
 | d::r,k,h=>by
  simp only [Yce]
  exact Nat.max_le.mpr ⟨h d Yao,jbo fun q hq=>h q (Yag _ hq)⟩
theorem Fits.tup {n k:Nat}{ds:List PyData}(h:∀ d∈ds,Fits n k d):Fits (ds.length * (n + 2) + 3) (k + 1) (.tuple ds):=by
 refine ⟨?_,?_,?_⟩
 ·simp only [Yde]; exact jaM fun d hd=>(h d hd).sh
 ·simp only [Ycq]
  have:=jdt (ts:=YbM ds) (n:=n) fun t ht=>by obtain ⟨d,hd,e⟩:=ja4 ht; rw [e]; exact (h d hd).ln
  rw [jaG] at this
  exact this
 ·simp only [PyData.depth]
  exact Yem (jbo fun d hd=>(h d hd).dp)
theorem Fits.lst {n k:Nat}{ds:List PyData}(h:∀ d∈ds,Fits n k d):Fits (ds.length * (n + 2) + 3) (k + 1) (.list ds):=by
 refine ⟨?_,?_,?_⟩
 ·simp only [Yde]; exact jaM fun d hd=>(h d hd).sh
 ·simp only [Ycq]
  have:=jel (ts:=YbM ds) (n:=n) fun t ht=>by obtain ⟨d,hd,e⟩:=ja4 ht; rw [e]; exact (h d hd).ln
  rw [jaG] at this
  exact this
 ·simp only [PyData.depth]
  exact Yem (jbo fun d hd=>(h d hd).dp)
theorem Fits.tupLe {n k m N:Nat}{ds:List PyData}(hl:ds.length<=m)(h:∀ d∈ds,Fits n k d)(hN:m * (n + 2) + 3<=N):Fits N (k + 1) (.tuple ds):=
 (Fits.tup h).mono (Yal (YcC (YcB _ hl) _) hN) (Yaf _)
theorem Fits.lstLe {n k m N:Nat}{ds:List PyData}(hl:ds.length<=m)(h:∀ d∈ds,Fits n k d)(hN:m * (n + 2) + 3<=N):Fits N (k + 1) (.list ds):=
 (Fits.lst h).mono (Yal (YcC (YcB _ hl) _) hN) (Yaf _)

noncomputable def jnE (K:Yaa):List V->Hp->VK->Prop:=fun xs H Q=>∃ x d,xs=[x]/\DV K H x d/\Fits 16000000 60 d/\Q (.str d.shown) H
theorem jfH {X:Cx}{k:Nat}(hr:Room k X.A):jaK X (.builtin "repr") (jnE X.K):=by
 intro pins s σ H xs us Q I r h
 obtain ⟨x,d,rfl,dv,ft,q⟩:=h
 obtain ⟨u,rfl,ru⟩:=jbW r
 have hu:=hr.un
 have done:∀ (h':Heap) (u':Tok) (tk:Nat),(∀ b o,s.heap.get? b=some o->h'.get? b=some o)->EP X pins σ Q (.str d.shown u') { s with heap:=h',toks:=tk }:=fun h' u' tk hk=>
  ⟨.str d.shown,H,I.kept (t':=tk) hk,⟨u',rfl⟩,q⟩
 have hz:d.shown.length<=Yae:=Yal ft.ln (by decide)
 cases dv with
 | non=>cases ru; exact P.repr_of_none (done _ _ _ fun _ _ e=>e)
 | bl b=>cases ru; exact P.repr_of_bool (by have:=done s.heap s.toks (s.toks + 1) fun _ _ e=>e; simp only [Ycq] at this; exact this)
 | int i=>
  obtain ⟨t,rfl⟩:=ru
  refine P.repr_of_int (by simpa [Yde] using ft.sh) ?_
  have:=done s.heap s.toks (s.toks + 1) fun _ _ e=>e
  simp only [Ycq] at this
  exact this
 | str x=>
  obtain ⟨t,rfl⟩:=ru
  simp only [Ycq] at hz
  refine P.repr_of_str ?_ hz
  have:=done s.heap s.toks (s.toks + 1) fun _ _ e=>e
  simp only [Ycq] at this
  exact this
 | @tup a xs ds e hd=>
  obtain ⟨as,rd,hsy⟩:=DV.reads2 I (DV.tup e hd) ru
  cases ru
  exact Ye9 rd ft.sh (fun _=>hsy) hr.gd (by have:=ft.dp; omega) (fun _ _ e=>e) (fun h' u' tk hk=>done h' u' tk hk) hz
 | @lst a xs ds e hd=>
  obtain ⟨as,rd,hsy⟩:=DV.reads2 I (DV.lst e hd) ru
  cases ru
  exact Ye9 rd ft.sh (fun _=>hsy) hr.gd (by have:=ft.dp; omega) (fun _ _ e=>e) (fun h' u' tk hk=>done h' u' tk hk) hz
 | @dic a e=>
  obtain ⟨as,rd,hsy⟩:=DV.reads2 I (DV.dic e) ru
  cases ru
  exact Ye9 rd ft.sh (fun _=>hsy) hr.gd (by have:=ft.dp; omega) (fun _ _ e=>e) (fun h' u' tk hk=>done h' u' tk hk) hz
section
variable {X:Cx}{k:Nat}{x:Str}{ps:List Str}{sp:Sp}{e:Expr}{es:List Expr}{t:TA}{p pos:Pos}
end
noncomputable def Sm (f:Addr)(H H':Hp):Prop:=∀ b o,b≠f->H b=some o->H' b=some o
noncomputable def LcW (n k:Nat)(caps:St)(Pv:Nat->List V->Hp->Prop):Nat->Nat->St->List V->Hp->Prop:=fun i m τ ys H=>m=n - i/\i<=n/\(∃ os:St,os.length=k/\τ=os++caps)/\Pv i ys H
noncomputable def LcN (D:Addr)(n k:Nat)(caps:St)(Pv:Nat->List V->Hp->Prop)(i:Nat)(ys:List V)(τ:St)(v:V)(H:Hp):Prop:=
 H D=some (.lst ys)/\ys.length < Yae/\∃ m',m' < n - i/\LcW n k caps Pv (i + 1) m' τ (ys++[v]) (upd H D (.lst (ys++[v])))
noncomputable def LcS (n k:Nat)(caps:St)(Pv:Nat->List V->Hp->Prop)(i:Nat)(ys:List V)(τ:St)(H:Hp):Prop:=∃ m',m' < n - i/\LcW n k caps Pv (i + 1) m' τ ys H
section
variable {g:TG}{tt:TT}{te:TE}{Q:VK}{τ0:St}{H:Hp}{D:Addr}
end
section
variable {X:Cx}
end
section
variable {X:Cx}{es:List Expr}{te:TE}{t:TA}
end
section
variable {X:Cx}{N:List Str}{scope:Scope}{cl:List (Str×Addr)}{C:Addr}{s₀:Shared}{H₀:Hp}{fp:List Addr}
end
section
variable {X:Cx}
end
section
variable {X:Cx}{N:List Str}{scope:Scope}{cl:List (Str×Addr)}{C:Addr}{s₀:Shared}{H₀:Hp}{fp:List Addr}
end
theorem fm_rev (xs:List Value):∀ n,n<=xs.length->(YaK n).filterMap (fun k=>xs[xs.length - 1 - k]?)=(xs.drop (xs.length - n)).reverse
 | 0,_=>by simp
 | n + 1,h=>by
  rw [Ych,List.filterMap_append,fm_rev xs n (by omega)]
  have hk:xs.length - 1 - n < xs.length:=by omega
  have:xs.drop (xs.length - (n + 1))=xs[xs.length - 1 - n]::xs.drop (xs.length - n):=by
   rw [show xs.length - (n + 1)=xs.length - 1 - n by omega,Ybg hk,show xs.length - 1 - n + 1=xs.length - n by omega]
  rw [this,YbW]
  simp [Yat hk]
theorem jhz (xs:List Value):Yeg xs.toArray none none (some (-1))=xs.reverse.toArray:=by
 have e:sliceRange ((xs.length:Int) - 1) (-1) (-1)=(YaK xs.length).map fun k=>xs.length - 1 - k:=by
  unfold sliceRange
  have hc:(if (-1:Int) > 0 then (if (xs.length:Int) - 1 < -1 then (-1 - ((xs.length:Int) - 1) + -1 - 1) / -1 else 0) else (if (xs.length:Int) - 1 > -1 then ((xs.length:Int) - 1 - -1 - -1 - 1) / (- -1) else 0)).toNat=xs.length:=by
   rw [if_neg (by omega),show (- -1:Int)=1 from rfl,Yfi]
   split <;> omega
  simp only [hc]
  refine List.map_congr_left fun k hk=>?_
  have:=List.mem_range.mp hk
  omega
 have b:Yck none none (some (-1)) xs.toArray.size=((xs.length:Int) - 1,-1,-1):=by
  simp [Yck]
 unfold Yeg
 rw [b]
 simp only
 rw [e,YfK]
 have:=fm_rev xs xs.length (Yaf _)
 rw [Nat.sub_self,Ydx] at this
 rw [<- this]
 congr 1
 refine congrArg (fun f=>YeE f (YaK xs.length)) (funext fun k=>?_)
 simp
theorem jie (xs:List Value):Yeg xs.toArray none none (some 1)=xs.toArray:=by
 have:=slicePick_all xs.toArray
 unfold Yeg at this ⊢
 exact this
theorem Vals.rev {xs:List V}{us:List Value}(r:Vals xs us):Vals xs.reverse us.reverse:=by
 induction r with
 | nil=>exact .nil
 | cons h r ih=>rw [YbW,YbW]; exact ih.append (.cons h .nil)
section
variable {X:Cx}{e st:Expr}{te tst:TE}{pos p2:Pos}
end
end L2
namespace HT
open PySem PySem.Spec PyProof.Rows
section
variable {prog:Program}{w:World}{A:Around}{E:Value->Shared->Prop}{s:Shared}
theorem getItem_tuple_all {t sl:Addr}{items:Array Value}{vl vu:Value}{lo hi:Option Int}{Q:Value->Shared->Prop}(ht:IsTup s.heap t items)(hs:s.heap.IsSliceOf sl vl vu .none)(pl:IsPart vl lo)(pu:IsPart vu hi)
  (hw:sIx items.size 0 lo=0/\sIx items.size items.size hi=items.size) (h:Q (.ref t) s):wpAny (model prog w) A (getItem (.ref t) (.ref sl)) Q E s:=by
 obtain ⟨os,hos,hcs,hds⟩:=id hs
 have hTs:s.TypeIs (.ref sl) "slice" := ⟨os,hos,hcs⟩
 unfold getItem
 try with_reducible refine Ybc ?_
 first | refine Yab (Yah ?_) | skip
 refine Yab (Yew ht.typeIs (by decide) ?_)
 refine Yab (Ydk (name:=Yd9 "__getitem__") ht.typeIs YaT
  (YeG YaT ht.typeIs Yd2 ?_ (Yej _ _)))
 show wpAny _ _ (Ycv (.ref t) >>= _) _ _ s
 refine Yab (YfA ht ?_)
 refine Yab (YdC hTs ?_)
 rw [if_pos (by decide)]
 refine Yab (jaZ hs pl pu ?_)
 have hyes:((((sIx items.size 0 lo:Nat):Int) == 0 && (1:Int) == 1 && (sIx items.size items.size hi - sIx items.size 0 lo) == items.size)=true):=by
  rw [hw.1,hw.2]
  simp
 show wpAny _ _ (if (((sIx items.size 0 lo:Nat):Int) == 0 && (1:Int) == 1 && (sIx items.size items.size hi - sIx items.size 0 lo) == items.size)=true then _ else _) _ _ s
 rw [if_pos hyes]
 refine Yab (m:=YdB (.ref t)) ?_
 unfold YdB
 refine Yab (YdC ht.typeIs (Yah ?_))
 rw [if_pos (by decide)]
 exact Yab (wpAny_rule (Yah ⟨_,rfl,Yah h⟩))
end
end HT
namespace L2
open PySem PySem.Spec PyProof.Rows
section
variable {X:Cx}
noncomputable def rSlW (K:Yaa):V->Option Int->Option Int->Hp->VK->Prop:=fun x lo hi H Q=>∃ a xs,x=.ref a/\SqT K H a xs/\
 (HT.sIx xs.length 0 lo=0/\HT.sIx xs.length xs.length hi=xs.length)/\Q (.ref a) H
theorem ji9:SlR X (rSlW X.K):=by
 intro pins s σ H x v vl vu lo hi sl Q I rx hs pl pu h
 obtain ⟨a,xs,rfl,hx,hw,q⟩:=h
 cases rx
 obtain ⟨its,r,ht,hz⟩:=I.tuple hx
 have hlen:its.toArray.size=xs.length:=by rw [Yam]; exact r.length.symm
 refine ⟨"tuple",_,YaT.lookup,ht.typeIs,?_⟩
 exact HT.getItem_tuple_all ht hs pl pu (by rw [hlen]; exact hw) ⟨.ref a,H,I,rfl,q⟩
theorem jja:SlR X (fun x lo hi H Q=>rSlT X.K x lo hi H Q\/rSlW X.K x lo hi H Q):=SlR.or jkQ ji9
end
section
variable {X:Cx}
end
end L2
namespace HT
open PySem PySem.Spec PyProof.Rows
section
variable {prog:Program}{w:World}{A:Around}{E:Value->Shared->Prop}{s:Shared}
theorem jbX {sl:Addr}{t:Tok}{n:Nat}{Q:Int×Int×Nat->Shared->Prop}(hs:s.heap.IsSliceOf sl .none .none (.int (-1) t))(h:Q ((n:Int) - 1,-1,n) s):wpAny (model prog w) A (YbE (.ref sl) (pure (n:Int))) Q E s:=by
 obtain ⟨os,hos,hcs,hds⟩:=id hs
 unfold YbE YdM
 refine Yab (Yab (YbI hos hds (x:=.none) rfl (Yab (YbI hos hds (x:=.none) rfl (Yab (YbI hos hds (x:=.int (-1) t) rfl (Yah ?_)))))))
 refine Yab (jaQ (.int (-1) t) ?_)
 show wpAny _ _ (if ((-1:Int) == 0)=true then _ else _) _ _ s
 rw [if_neg (by decide)]
 refine Yab (jaQ .none (Yab (jaQ .none (Yab (Yah ?_)))))
 have e1:Ybp none none (-1) (n:Int)=((n:Int) - 1,-1):=rfl
 have e2:YaO ((n:Int) - 1) (-1) (-1)=n:=by
  unfold YaO
  rw [if_neg (by omega),show (- -1:Int)=1 from rfl,Yfi]
  split <;> omega
 show wpAny _ _ (match Ybp none none (-1) (n:Int) with | (lo,hi)=>pure (lo,(-1:Int),YaO lo hi (-1))) _ _ s
 rw [e1]
 show wpAny _ _ (pure ((n:Int) - 1,(-1:Int),YaO ((n:Int) - 1) (-1) (-1))) _ _ s
 rw [e2]
 exact Yah h
theorem jhJ (xs:List Value):((YaK xs.length).filterMap fun (k:Nat)=>xs.toArray[((xs.length:Int) - 1 + (k:Int) * (-1)).toNat]?).toArray=xs.reverse.toArray:=by
 have:=L2.fm_rev xs xs.length (Yaf _)
 rw [Nat.sub_self,Ydx] at this
 rw [<- this]
 congr 1
 refine congrArg (fun f=>YeE f (YaK xs.length)) (funext fun k=>?_)
 rw [show ((xs.length:Int) - 1 + (k:Int) * (-1)).toNat=xs.length - 1 - k by omega]
 simp
theorem getItem_tuple_rev {t sl:Addr}{its:List Value}{tk:Tok}{Q:Value->Shared->Prop}(ht:IsTup s.heap t its.toArray)(hs:s.heap.IsSliceOf sl .none .none (.int (-1) tk))
  (h:Q (.ref s.heap.objs.size) { s with heap:=s.heap.push { cls:=.type "tuple",data:=.seq its.reverse.toArray } }) (hsz:its.length<=Yae):wpAny (model prog w) A (getItem (.ref t) (.ref sl)) Q E s:=by
 have htake:sizeOk (.seq its.reverse.toArray):=by
  show its.reverse.toArray.size<=Yae
  rw [Yam,YcG]
  exact hsz
 obtain ⟨os,hos,hcs,hds⟩:=id hs
 have hTs:s.TypeIs (.ref sl) "slice" := ⟨os,hos,hcs⟩
 unfold getItem
 try with_reducible refine Ybc ?_
 first | refine Yab (Yah ?_) | skip
 refine Yab (Yew ht.typeIs (by decide) ?_)
 refine Yab (Ydk (name:=Yd9 "__getitem__") ht.typeIs YaT
  (YeG YaT ht.typeIs Yd2 ?_ (Yej _ _)))
 show wpAny _ _ (Ycv (.ref t) >>= _) _ _ s
 refine Yab (YfA ht ?_)
 refine Yab (YdC hTs ?_)
 rw [if_pos (by decide)]
 refine Yab (jbX (n:=its.length) hs ?_)
 have hno:¬ ((((its.length:Int) - 1) == 0 && (-1:Int) == 1 && its.length == its.toArray.size)=true):=by simp
 show wpAny _ _ (if (((its.length:Int) - 1) == 0 && (-1:Int) == 1 && its.length == its.toArray.size)=true then _ else _) _ _ s
 rw [if_neg hno,jhJ]
 first
  | exact Yab (m:=YaQ _) (Ya6 (Yah ⟨_,rfl,Yah h⟩) htake)
  | exact Yab (m:=YaQ _) (Ya6 (Yab (Yah (Yah ⟨_,rfl,Yah h⟩))) htake)
  | exact Yab (Yab (m:=YaQ _) (Ya6 (Yah (Yah ⟨_,rfl,Yah h⟩)) htake))
  | exact Yab (Yab (m:=YaQ _) (Ya6 (Yah ⟨_,rfl,Yah h⟩) htake))
end
end HT
namespace L2
open PySem PySem.Spec PyProof.Rows
section
variable {X:Cx}{e st:Expr}{te tst:TE}{pos p2:Pos}
end
section
variable {X:Cx}{N:List Str}{scope:Scope}{cl:List (Str×Addr)}{C:Addr}{s₀:Shared}{H₀:Hp}{fp:List Addr}
end
end L2

namespace L2
open PySem PySem.Spec PyProof.Rows
set_option maxHeartbeats 4000000
section
variable {X:Cx}{pos:Pos}
noncomputable def jnH (K:Yaa):R2:=fun x y H Q=>∃ a b xs ys,x=.ref a/\y=.ref b/\SqT K H a xs/\SqT K H b ys/\xs.length + ys.length<=Yae/\
 (xs=[]->Q (.ref b) H)/\(xs≠[]->ys=[]->Q (.ref a) H)/\(xs≠[]->ys≠[]->∀ p,H p=none->Q (.ref p) (upd H p (.tup (xs++ys))))
theorem jjH:OpR X (Ybl .Add) (jnH X.K):=by
 intro pins s σ H x y v u Q I rx ry h
 obtain ⟨a,b,xs,ys,rfl,rfl,ha,hb,hz,q0,q1,q2⟩:=h
 by_cases hx:xs=[]
 ·cases rx
  cases ry
  obtain ⟨its,r1,p1,_⟩:=I.tuple ha
  obtain ⟨its2,r2,p2,_⟩:=I.tuple hb
  have hv:its=[]:=r1.nil_iff.mpr hx
  subst hv
  obtain ⟨⟨cls,dd,data,sl⟩,ho,hc,n,hd⟩:=id p1
  obtain ⟨⟨cls2,dd2,data2,sl2⟩,ho2,hc2,n2,hd2⟩:=id p2
  simp only at hc hd hc2 hd2
  subst hc hd hc2 hd2
  exact Yf1 ⟨_,ho,rfl⟩ ⟨_,ho2,rfl⟩ YeH YfC Yc6 Yc0 (YcN _ _)
   (tuple_addW0 a b _ its2.toArray n n2 dd dd2 sl sl2 rfl) ⟨ho,ho2,⟨.ref b,H,I,rfl,q0 hx⟩⟩
 ·exact jjG pins s σ H _ _ _ _ Q I rx ry ⟨a,b,xs,ys,rfl,rfl,ha,hb,hx,hz,q1 hx,q2 hx⟩
theorem jfu {k:Nat}(hr:Room k X.A):OpR X (YaV .Eq) (fun x y H Q=>∃ a b xs,x=.ref a/\y=.ref b/\SqT X.K H a xs/\SqT X.K H b []/\Q (.bl xs.isEmpty) H):=by
 intro pins s σ H x y v u Q I rx ry h
 obtain ⟨a,b,xs,rfl,rfl,ha,hb,q⟩:=h
 cases rx; cases ry
 obtain ⟨its,rv,pa,_⟩:=I.tuple ha
 obtain ⟨its2,rv2,pb,_⟩:=I.tuple hb
 cases rv2
 have hu:X.A.units < cLine:=hr.units0
 have e:((YaK (min its.toArray.size ([]:List Value).toArray.size)).all (fun _=>true) && its.toArray.size == ([]:List Value).toArray.size)=xs.isEmpty:=by
  cases rv <;> simp
 refine EqBoolInt.of_rc (SeqAt.RcAt.tuples (e:=fun _=>true) (show s.heap.IsTuple a its.toArray from pa) (show s.heap.IsTuple b ([]:List Value).toArray from pb) hu fun j _ h2=>?_) ?_
 ·simp at h2
 ·rw [e]
  exact ⟨.bl xs.isEmpty,H,I,rfl,q⟩
end
section
variable {X:Cx}{N:List Str}{scope:Scope}{cl:List (Str×Addr)}{C:Addr}{s₀:Shared}{H₀:Hp}{fp:List Addr}
end
theorem jb5:∀ {ys:List Str} {us:List Value},Vals (ys.map V.str) us->StrsAre us ys
 | [],_,.nil=>.nil
 | y::r,_,.cons ⟨t,e⟩ q=>by subst e; exact .cons y t (jb5 q)
section
variable {X:Cx}
noncomputable def jnF (K:Yaa):V->List V->Hp->VK->Prop:=fun x vs H Q=>∃ (z:Str) (p:Addr) (ys:List Str),x=.str z/\vs=[.ref p]/\(SqL K H p (ys.map V.str)\/SqT K H p (ys.map V.str))/\z.length<=16/\(ys.map (·.length)).sum + ys.length<=1048576/\Q (.str (Ya4 z ys)) H
theorem mt_join:MtR X "str.join" (jnF X.K):=by
 intro pins s σ H x vs v us Q I rx rv h
 obtain ⟨z,p,ys,rfl,rfl,hq,h1,h2,q⟩:=h
 obtain ⟨t,rfl⟩:=rx
 obtain ⟨u,rfl,ru⟩:=Vals.one rv
 cases ru
 rcases hq with hq | hq
 ·obtain ⟨its,r',pl,hz⟩:=I.list hq
  exact join_listW pl.isList (by simpa using jb5 r') h1 h2 fun t' k=>⟨.str (Ya4 z ys),H,I.tok k,⟨t',by rw [<- YeK]; rfl⟩,q⟩
 ·obtain ⟨its,r',pl,hz⟩:=I.tuple hq
  exact join_tupleW pl (by simpa using jb5 r') h1 h2 fun t' k=>⟨.str (Ya4 z ys),H,I.tok k,⟨t',by rw [<- YeK]; rfl⟩,q⟩
end
section
variable {X:Cx}{N:List Str}{scope:Scope}{cl:List (Str×Addr)}{C:Addr}{s₀:Shared}{H₀:Hp}{fp:List Addr}
end
theorem jbk:∀ (ts:List Str) (c:Nat),c∈(Ya4 "" ts).cps.toList↔∃ t∈ts,c∈t.cps.toList:=fun ts c=>by
 rw [mem_join]
 constructor
 ·rintro (h | ⟨_,h⟩)
  ·exact h
  ·exact absurd h (by show ¬ c∈(([]:List Nat)); simp)
 ·exact .inl
theorem jaO:∀ (ts:List Str),(∀ t∈ts,t.length=1)->(Ya4 "" ts).length=ts.length
 | [],_=>rfl
 | [x],h=>h x (by simp)
 | x::y::r,h=>by
  have ih:=jaO (y::r) fun t ht=>h t (Yag _ ht)
  have h1:=h x (by simp)
  show (x ++ "" ++ Ya4 "" (y::r)).length=_
  have e:(x ++ "" ++ Ya4 "" (y::r)).length=x.length + (Ya4 "" (y::r)).length:=by
   show (x.cps++("" : Str).cps++(Ya4 "" (y::r)).cps).size=_
   rw [Yc1,Yc1]
   show x.cps.size + 0 + _=_
   rfl
  rw [e,ih,h1,YaW,YaW,YaW]
  omega
section
variable {X:Cx}
noncomputable def jk8 (K:Yaa)(neg:Bool):R2:=fun x y H Q=>∃ d e,DV K H x d/\DV K H y e/\d.canLay0=true/\e.canLay0=true/\d.depth<=100/\Q (.bl (if neg then !PyData.eqv d e else YaM d e)) H
theorem jlA {k:Nat}(hr:Room k X.A):OpR X (YaV .NotEq) (jk8 X.K true):=by
 intro pins s σ H x y v u Q I rx ry h
 obtain ⟨d,e,hd,he,c1,c2,hk,q⟩:=h
 obtain ⟨as,ra⟩:=hd.reads I rx
 obtain ⟨bs,rb⟩:=he.reads I ry
 exact SeqAt.compareNe_reads ra rb c1 c2 (by have:=hr.un; omega) ⟨.bl _,H,I,rfl,q⟩
theorem jlE {k:Nat}(hr:Room k X.A):OpR X (YaV .Eq) (jk8 X.K false):=by
 intro pins s σ H x y v u Q I rx ry h
 obtain ⟨d,e,hd,he,c1,c2,hk,q⟩:=h
 obtain ⟨as,ra⟩:=hd.reads I rx
 obtain ⟨bs,rb⟩:=he.reads I ry
 exact SeqAt.compareEq_reads ra rb c1 c2 (by have:=hr.un; omega) ⟨.bl _,H,I,rfl,q⟩
end
section
variable {X:Cx}{N:List Str}{scope:Scope}{cl:List (Str×Addr)}{C:Addr}{s₀:Shared}{H₀:Hp}{fp:List Addr}
end
mutual
noncomputable def noB:PyData->Bool
 | .none=>true
 | .bool _=>false
 | .int _=>true
 | .str _=>true
 | .list ds=>noBs ds
 | .tuple ds=>noBs ds
 | .dict _=>false
noncomputable def noBs:List PyData->Bool
 | []=>true
 | d::r=>noB d && noBs r
end
mutual
theorem jmf:∀ {d e:PyData},noB d=true->noB e=true->YaM d e=true->d=e
 | .none,.none,_,_,_=>rfl
 | .int i,.int j,_,_,h=>by rw [YaM] at h; rw [eq_of_beq h]
 | .str i,.str j,_,_,h=>by rw [YaM] at h; rw [eq_of_beq h]
 | .list xs,.list ys,h1,h2,h=>by rw [YaM] at h; rw [noB] at h1 h2; rw [jev h1 h2 h]
 | .tuple xs,.tuple ys,h1,h2,h=>by rw [YaM] at h; rw [noB] at h1 h2; rw [jev h1 h2 h]
 | .bool _,_,h,_,_=>by rw [noB] at h; cases h
 | .dict _,_,h,_,_=>by rw [noB] at h; cases h
 | .none,.bool _,_,h,_ | .int _,.bool _,_,h,_ | .str _,.bool _,_,h,_ | .list _,.bool _,_,h,_ | .tuple _,.bool _,_,h,_=>by rw [noB] at h; cases h
 | .none,.dict _,_,h,_ | .int _,.dict _,_,h,_ | .str _,.dict _,_,h,_ | .list _,.dict _,_,h,_ | .tuple _,.dict _,_,h,_=>by rw [noB] at h; cases h
 | .none,.int _,_,_,h | .none,.str _,_,_,h | .none,.list _,_,_,h | .none,.tuple _,_,_,h=>by rw [YaM] at h; cases h
 | .int _,.none,_,_,h | .int _,.str _,_,_,h | .int _,.list _,_,_,h | .int _,.tuple _,_,_,h=>by rw [YaM] at h; cases h
 | .str _,.none,_,_,h | .str _,.int _,_,_,h | .str _,.list _,_,_,h | .str _,.tuple _,_,_,h=>by rw [YaM] at h; cases h
 | .list _,.none,_,_,h | .list _,.int _,_,_,h | .list _,.str _,_,_,h | .list _,.tuple _,_,_,h=>by rw [YaM] at h; cases h
 | .tuple _,.none,_,_,h | .tuple _,.int _,_,_,h | .tuple _,.str _,_,_,h | .tuple _,.list _,_,_,h=>by rw [YaM] at h; cases h
theorem jev:∀ {ds es:List PyData},noBs ds=true->noBs es=true->Ycy ds es=true->ds=es
 | [],[],_,_,_=>rfl
 | d::r,e::q,h1,h2,h=>by
  rw [noBs,Yap] at h1 h2
  rw [Ycy,Yap] at h
  rw [jmf h1.1 h2.1 h.1,jev h1.2 h2.2 h.2]
 | [],_::_,_,_,h=>by rw [Ycy] at h; cases h
 | _::_,[],_,_,h=>by rw [Ycy] at h; cases h
end
theorem jc0 (l:Addr)(items:Array Value)(n:Nat)(dd:Option Addr)(sl:Array (Option Value))(x:Value)(e:Value->Bool)(j:Nat)(hj:j < items.size)
  (hit:e items[j]=true) (hno:∀ m (hm:m < items.size),m < j->e items[m]=false) :
  Meets (Builtin.«tuple.index» ⟨[.ref l,x],[]⟩)
   (fun A R s=>s.heap.get? l=some { cls:=.type "tuple",dict:=dd,data:=.seq items n,slots:=sl }/\(∀ y,y∈items->YeD A.in1 s y x (e y))/\R (.ok (.ret (.int j s.toks))) { s with toks:=s.toks + 1 }):=
 .of_wp fun prog w A R s h=>by
  obtain ⟨hp,g,d,tk,os⟩:=s; obtain ⟨hl,he,h⟩:=h
  unfold Builtin.«tuple.index»
  simp only [Std.Legacy.Range.forIn_eq_forIn_range']
  wp_walk using wpAny_loadPart' hl,wpAny_forIn_list _ (fun rest b s'=>b.1=none/\s'=⟨hp,g,d,tk,os⟩/\∃ i,i<=j/\rest=(Yft 0 items.size 1).drop i) _
  case turn=>
   rintro y rest b s' ⟨hb,rfl,i,hij,hz⟩
   have hlt:i < (Yft 0 items.size 1).length:=by simp; omega
   rw [Ybg hlt] at hz
   injection hz with hy hrest
   have hy:y=i:=by simpa using hy
   subst hy
   have hlt':y < items.size:=by omega
   have hi:items[y]?=some items[y]:=YcR hlt'
   rw [hi]
   refine Yab (he _ (Array.getElem_mem hlt') prog w _ _ ?_)
   by_cases hyj:y=j
   ·subst hyj
    rw [hit]
    wp_walk
    exact ⟨_,rfl,h⟩
   ·rw [hno y hlt' (by omega)]
    wp_walk
    exact ⟨rfl,rfl,y + 1,by omega,hrest⟩
  case fin=>
   rintro ⟨b1,b2⟩ s' ⟨hb,rfl,i,hij,hz⟩
   have hlt:i < (Yft 0 items.size 1).length:=by simp; omega
   rw [Ybg hlt] at hz
   cases hz
  case h=>
   refine ⟨rfl,rfl,0,Ybn _,?_⟩
   simp [Std.Legacy.Range.size]
theorem jb3 {α:Type}(l:List α)(d:α){i:Nat}(h:i < l.length):l.getD i d=l[i]:=by simp [List.getD,Yat h]
theorem jax:∀ {ys:List Str} {us:List Value} {j:Nat} (h:j < us.length),Vals (ys.map V.str) us->∃ t,us[j]=Ye0 (ys.getD j "") t
 | y::r,_,0,_,.cons ⟨t,e⟩ _=>⟨t,e⟩
 | y::r,_,j + 1,h,.cons _ q=>by
  obtain ⟨t,e⟩:=jax (j:=j) (by simpa using h) q
  exact ⟨t,by simpa using e⟩
 | [],_,j,h,.nil=>by simp at h
section
variable {X:Cx}
noncomputable def jf7 (K:Yaa)(T:Bool):V->List V->Hp->VK->Prop:=fun x vs H Q=>∃ (p:Addr) (ys:List Str) (n:Str),x=.ref p/\vs=[.str n]/\(if T then SqT K H p (ys.map V.str) else SqL K H p (ys.map V.str))/\n∈ys/\Q (.int (ys.idxOf n)) H
theorem jiE {ys:List Str}{n:Str}{m:Nat}(h:m < ys.idxOf n)(hm:m < ys.length):(ys[m] == n)=false:=by
 have:=List.not_of_lt_findIdx (p:=(·== n)) (xs:=ys) h
 simpa using this
theorem jgz:MtR X "tuple.index" (jf7 X.K true):=by
 intro pins s σ H x vs v us Q I rx rv h
 obtain ⟨p,ys,n,rfl,rfl,hq,hn,q⟩:=h
 cases rx
 obtain ⟨u,rfl,t,rfl⟩:=Vals.one rv
 obtain ⟨its,r,pl,hz⟩:=I.tuple hq
 have hl:=r.length
 rw [Yac] at hl
 obtain ⟨⟨cls,dd,data,sl⟩,ho,hc,m,hd⟩:=id pl
 simp only at hc hd
 subst hc hd
 have hj:ys.idxOf n < ys.length:=List.idxOf_lt_length_iff.mpr hn
 have fs:(ys.map V.str).all L2.flatV=true:=by rw [Yee]; intro x hx; obtain ⟨y,_,rfl⟩:=List.mem_map.mp hx; rfl
 refine Ycn F.slot_tuple_index ⟨_,ho,rfl⟩ F.entry_tuple_index (F.args_tuple_index_2 _ _)
  (jc0 p its.toArray m dd sl (.str n t) (eqU (.str n)) (ys.idxOf n) (by simpa using (by omega:ys.idxOf n < its.length)) ?_ ?_) ⟨ho,fun y hy=>jaT (x:=.str n) ⟨t,rfl⟩ rfl r fs y (by simpa using hy),⟨.int _,H,I.tok _,⟨_,rfl⟩,q⟩⟩
 ·obtain ⟨t',e⟩:=jax (j:=ys.idxOf n) (by omega) r
  simp only [YcA,e]
  show (ys.getD (ys.idxOf n) "" == n)=true
  rw [jb3 _ _ hj,YdV hj]
  exact beq_self_eq_true _
 ·intro m' hm hlt
  have hm':m' < ys.length:=by omega
  obtain ⟨t',e⟩:=jax (j:=m') (by omega) r
  simp only [YcA,e]
  show (ys.getD m' "" == n)=false
  rw [jb3 _ _ hm']
  exact jiE hlt hm'
theorem jgA:MtR X "list.index" (jf7 X.K false):=by
 intro pins s σ H x vs v us Q I rx rv h
 obtain ⟨p,ys,n,rfl,rfl,hq,hn,q⟩:=h
 cases rx
 obtain ⟨u,rfl,t,rfl⟩:=Vals.one rv
 obtain ⟨its,r,pl,hz⟩:=I.list hq
 have hl:=r.length
 rw [Yac] at hl hz
 obtain ⟨⟨cls,dd,data,sl⟩,m,ho,hc,hdd,hd⟩:=id pl
 simp only at hc hd hdd
 subst hc hd hdd
 have hj:ys.idxOf n < ys.length:=List.idxOf_lt_length_iff.mpr hn
 have fs:(ys.map V.str).all L2.flatV=true:=by rw [Yee]; intro x hx; obtain ⟨y,_,rfl⟩:=List.mem_map.mp hx; rfl
 have h63:=jcq
 refine Ycn F.slot_list_index ⟨_,ho,rfl⟩ F.entry_list_index (F.args_list_index_2 _ _)
  (SeqAt.list_indexAt p its.toArray m none sl (.str n t) (eqU (.str n)) (ys.idxOf n) (by simpa using (by omega:ys.idxOf n < its.length)) (by omega) ?_ ?_) ⟨ho,fun y hy=>jaT (x:=.str n) ⟨t,rfl⟩ rfl r fs y (by simpa using hy),⟨.int _,H,I.tok _,⟨_,rfl⟩,q⟩⟩
 ·obtain ⟨t',e⟩:=jax (j:=ys.idxOf n) (by omega) r
  simp only [YcA,e]
  show (ys.getD (ys.idxOf n) "" == n)=true
  rw [jb3 _ _ hj,YdV hj]
  exact beq_self_eq_true _
 ·intro m' hm hlt
  have hm':m' < ys.length:=by omega
  obtain ⟨t',e⟩:=jax (j:=m') (by omega) r
  simp only [YcA,e]
  show (ys.getD m' "" == n)=false
  rw [jb3 _ _ hm']
  exact jiE hlt hm'
end
section
variable {X:Cx}{N:List Str}{scope:Scope}{cl:List (Str×Addr)}{C:Addr}{s₀:Shared}{H₀:Hp}{fp:List Addr}
end
theorem jfD (ds:List PyData):Ycy ds []=ds.isEmpty:=by
 cases ds <;> rfl
section
variable {X:Cx}
end
section
variable {X:Cx}
theorem jbP:∀ {us:List Value} {ns:List Int},IntsAre us ns->Vals (ns.map V.int) us
 | _,_,.nil=>.nil
 | _,_,.cons n t r=>.cons ⟨t,rfl⟩ (jbP r)
theorem jgD:∀ {kvs:List (Key×V)} {vs:List (Key×Value)},KV kvs vs->vs.map (·.1)=kvs.map (·.1)
 | _,_,.nil=>rfl
 | _,_,.cons a r=>by
  rw [Yas,Yas,jgD r,a.1]
theorem jgM {P:Program}{w:World}:∀ {ns:List Int} {acc:List Value} {vs:List (Key×Value)},vs.map (·.1)=ns.map (fun z=>(.inl z:Key))->acc.length=ns.length->(∀ (j:Nat) (v:Value),acc[j]?=some v->∃ k x,vs[j]?=some (k,x)/\(jao P w).is k v=true)->IntsAre acc ns
 | [],[],_,_,_,_=>.nil
 | z::ns,v::acc,(k,x)::vs,e,hl,h=>by
  obtain ⟨k',x',h1,h2⟩:=h 0 v rfl
  have e1:(k,x)=(k',x'):=Yan h1
  injection e1 with e1 e2
  subst e1
  rw [Yas,Yas] at e
  injection e with ek er
  have ek:k=.inl z:=ek
  subst ek
  obtain ⟨t,rfl⟩:∃ t,v=.int z t:=by
   have h2:jen (.inl z) v=true:=h2
   rcases jap h2 with ⟨i,t,e,rfl⟩ | ⟨y,t,e,_⟩
   ·injection e with e; rw [e]; exact ⟨t,rfl⟩
   ·exact nomatch e
  exact .cons z t (jgM er (by simpa using hl) fun j v hj=>h (j + 1) v hj)
 | z::ns,v::acc,[],e,_,_=>by cases e
 | z::ns,[],_,_,hl,_=>by cases hl
 | [],v::acc,_,_,hl,_=>by cases hl
end
end L2

namespace L2
open PySem PySem.Spec PyProof.Rows
open Sem (wp)
open AutoSeq1 (wpAny_loadPart')
set_option maxHeartbeats 4000000
section
variable {prog:Program}{w:World}{A:Around}{E:Value->Shared->Prop}{s:Shared}
theorem jhD {α:Type}{M:Model}{x:α}{Q:α->Shared->Prop}(h:∀ y,Q y s):wpAny M A (pure x) Q E s:=Yah (h x)
theorem jdd (v:Value)(ob:Obj) :
  Meets (Builtin.«enumerate.__new__» ⟨[.type "enumerate",v],[]⟩) (fun _ R s=>(∀ (prog:Program) (w:World) (A:Around) (Q E:Value->Shared->Prop),Q (.ref s.heap.objs.size) { s with heap:=s.heap.push ob }->wpAny (model prog w) A (pyIter v) Q E s)/\
   R (.ok (.ret (.ref (s.heap.push ob).objs.size))) { s with heap:=(s.heap.push ob).push ⟨.type "enumerate",none,.fields #[.none,.bool false,.ref s.heap.objs.size,rawInt 0,.none,.none],#[]⟩ }):=
 .of_wp fun prog w A R s h=>by
  rcases s with ⟨hp,g,d,tk,os⟩
  rcases h with ⟨hi,h⟩
  have hsub:=sub_enumerate
  wp_walk
  refine wpAny_stack_any fun st=>jhD fun b=>?_
  cases b <;> (wp_walk using hi prog w; exact ⟨_,rfl,h⟩)
end
section
variable {X:Cx}{pins:List (Addr×Obj)}{σ:St}{H:Hp}{s:Shared}{h':Heap}
theorem ji1 {t':Nat}{e it:Addr}(I:Inv X pins σ H s)(k:∀ b o,b≠e->b≠it->s.heap.get? b=some o->h'.get? b=some o)(fe:FpOk X pins H e)(fi:FpOk X pins H it):Inv X pins σ H { s with heap:=h',toks:=t' }:=by
 obtain ⟨e0,e1,_,e3,e4,e5⟩:=fe
 obtain ⟨i0,i1,_,i3,i4,i5⟩:=fi
 have ne:∀ b u,H b=some u->b≠e:=fun b u q z=>by rw [z,e0] at q; cases q
 have ni:∀ b u,H b=some u->b≠it:=fun b u q z=>by rw [z,i0] at q; cases q
 have kk:∀ b o,b∉[e,it]->s.heap.get? b=some o->h'.get? b=some o:=fun b o hc q=>k b o (fun z=>hc (by simp [z])) (fun z=>hc (by simp [z])) q
 refine I.step (g':=s.gens) (d':=s.drawn) (ch:=[e,it]) (fun b hb=>?_) (fun b o _ _ hc q _=>kk b o hc q) (fun b o _ _ hc q _=>⟨o.slots,kk b o hc q⟩) (fun _ _ _ _ n=>n)
  (fun b o hc q=>⟨o,kk b o hc q⟩) (fun _ _ q=>q) (fun _ _ _ q=>q) (fun b ps q=>⟨#[],by rw [q]; simp⟩) (fun m hm=>?_) (fun b u q=>?_) I.bare
 ·simp only [YaI,Yaw,or_false] at hb
  rcases hb with rfl | rfl
  ·exact ⟨e3,e1,e4,e5⟩
  ·exact ⟨i3,i1,i4,i5⟩
 ·obtain ⟨o,es,ep,ho,r⟩:=hm
  exact ⟨o,es,ep,k _ o (Ne.symm e1) (Ne.symm i1) ho,r⟩
 ·refine (I.hok b u q).stay (fun c v hc y=>k c v ?_ ?_ y) (fun _ y=>y) fun _ _ y=>y
  ·rcases hc with z | z
   ·rw [z]; exact ne b u q
   ·exact ne c _ z
  ·rcases hc with z | z
   ·rw [z]; exact ni b u q
   ·exact ni c _ z
end
section
variable {X:Cx}
end
end L2

namespace L2
open PySem PySem.Spec PyProof.Rows
set_option maxHeartbeats 4000000
section
variable {X:Cx}
end
section
variable {prog:Program}{w:World}{A:Around}{R:Result->Shared->Prop}{I:Addr}{fp wr:List Addr}{n:Nat}{P:Nat->Value->Prop}{St:Nat->Heap->Prop}
end
section
variable {prog:Program}{w:World}{A:Around}{E:Value->Shared->Prop}{s:Shared}
end

noncomputable def jms (ks:List (List Int)):Nat:=argBest (fun i j=>HT.lexLt (ks.getD i []) (ks.getD j [])) (ks.length - 1)
section
variable {X:Cx}
end
end L2

namespace L2
open PySem PySem.Spec PyProof.Rows PySem.W
set_option maxHeartbeats 4000000
section
variable {n:Nat}{lt:Nat->Nat->Bool}{cmp:Nat->Nat->(Bool->Shared->Prop)->Shared->Prop}{s:Shared}
structure Asks (n:Nat)(lt:Nat->Nat->Bool)(cmp:Nat->Nat->(Bool->Shared->Prop)->Shared->Prop)(s:Shared):Prop where
 ask:∀ i j C,i < n->j < n->C (lt i j) s->cmp i j C s
 tr:∀ i j k,i < n->j < n->k < n->lt i j=true->lt j k=true->lt i k=true
 tot:∀ i j,i < n->j < n->i≠j->lt i j=true\/lt j i=true
 ir:∀ i,i < n->lt i i=false
noncomputable def gD (p:Array Nat)(k:Nat):Nat:=p.getD k 0
structure Arr (n:Nat)(p:Array Nat):Prop where
 z:p.size=n
 b:∀ i,i < n->gD p i < n
 inj:∀ i j,i < n->j < n->gD p i=gD p j->i=j
 pm:p.toList.Perm (YaK n)
noncomputable def Asc (lt:Nat->Nat->Bool)(p:Array Nat)(m:Nat):Prop:=∀ i,i + 1 < m->lt (gD p i) (gD p (i + 1))=true
end
end L2

namespace L2
open PySem PySem.Spec PyProof.Rows PySem.W
open PySem.AutoSeq1 (wpAny_loadPart')
open PySem.MeetsSeq PySem.MeetsSeq2 PySem.MeetsSeq3
set_option maxHeartbeats 4000000
end L2

namespace L2
open PySem PySem.Spec PyProof.Rows PySem.W
set_option maxHeartbeats 4000000

section
variable {prog:Program}{w:World}{A:Around}{E:Value->Shared->Prop}{s:Shared}{κ:YdQ}{S:Keyed->Prop}{ρ:Keyed->Int}
end
section
variable {ρ:Keyed->Int}
noncomputable def Srt (ρ:Keyed->Int)(l:List Keyed):Prop:=l.Pairwise fun x y=>ρ x<=ρ y
structure Mg (ρ:Keyed->Int)(a b out xs ys:List Keyed):Prop where
 sx:Srt ρ (out++xs)
 sy:Srt ρ (out++ys)
 pm:(out++xs++ys).Perm (a++b)
variable {a b out xs ys x1 y1:List Keyed}
end
section
variable {α:Type}{a:Array α}{i k:Nat}{x:α}
end
section
noncomputable abbrev T2:=Option (Array Keyed)×Array Keyed×Nat×Nat×Nat×Nat×Nat
noncomputable abbrev T1:=Option (Array Keyed)×Array Keyed×Nat×Nat×Nat×Nat
end
structure Fr (st st':SortSt):Prop where
 k:kindOf st'=kindOf st
 a:arrOf st'=arrOf st
 p:pendingOf st'=pendingOf st
 f:failedOf st'=failedOf st
noncomputable def Fin2 (ρ:Keyed->Int)(a b zs:Array Keyed):Prop:=Srt ρ zs.toList/\zs.toList.Perm (a.toList++b.toList)
structure Two2 (S:Keyed->Prop)(ρ:Keyed->Int)(a b:Array Keyed):Prop where
 sa:∀ (i:Nat) (x:Keyed),a[i]?=some x->S x
 sb:∀ (i:Nat) (x:Keyed),b[i]?=some x->S x
 oa:Srt ρ a.toList
 ob:Srt ρ b.toList
 last:∀ x,a[a.size - 1]?=some x->∀ y∈b.toList,ρ y<=ρ x
 first:∀ y,b[0]?=some y->∀ x∈a.toList,ρ y<=ρ x
 na:0 < a.size
 nb:0 < b.size
structure Lo (ρ:Keyed->Int)(a b out:Array Keyed)(ia ib:Nat):Prop where
 m:Mg ρ a.toList b.toList out.toList (a.toList.drop ia) (b.toList.drop ib)
 ia:ia + 1 < a.size
 ib:ib < b.size
section
variable {S:Keyed->Prop}{ρ:Keyed->Int}{a b out:Array Keyed}{ia ib k:Nat}{x y:Keyed}
end
section
variable {prog:Program}{w:World}{A:Around}{E:Value->Shared->Prop}{s:Shared}{κ:YdQ}{S:Keyed->Prop}{ρ:Keyed->Int}{a b out:Array Keyed}{ia ib g ac bc m:Nat}{st0 st:SortSt}{Q:ForInStep T2->SortSt->Prop}
structure Out2 (ρ:Keyed->Int)(a b:Array Keyed)(st0:SortSt)(m:Nat)(Q:ForInStep T2->SortSt->Prop):Prop where
 fin:∀ zs d st',Fr st0 st'->Fin2 ρ a b zs->Q (.done (some zs,d)) st'
 go:∀ out ia ib g ac bc st',Fr st0 st'->Lo ρ a b out ia ib->m<=ia + ib->Q (.done (none,out,ia,ib,g,ac,bc)) st'/\Q (.yield (none,out,ia,ib,g,ac,bc)) st'
end
section
noncomputable abbrev H2:=Option (Array Keyed)×Nat×Nat×Array Keyed×Nat×Nat×Nat
noncomputable abbrev H1:=Option (Array Keyed)×Nat×Nat×Array Keyed×Nat×Nat
noncomputable abbrev H0:=Option (Array Keyed)×Nat×Nat×Array Keyed×Nat
end
structure Mh (ρ:Keyed->Int)(a b xs ys o:List Keyed):Prop where
 sx:Srt ρ (xs++o)
 sy:Srt ρ (ys++o)
 pm:(xs++ys++o).Perm (a++b)
section
variable {ρ:Keyed->Int}{a b o xs ys x1 y1:List Keyed}
end
section
variable {α:Type}{a:Array α}{i k:Nat}{x:α}
end
structure Hi (ρ:Keyed->Int)(a b out:Array Keyed)(na nb:Nat):Prop where
 m:Mh ρ a.toList b.toList (a.toList.take na) (b.toList.take nb) out.toList.reverse
 a0:0 < na
 b1:1 < nb
 la:na<=a.size
 lb:nb<=b.size
section
variable {S:Keyed->Prop}{ρ:Keyed->Int}{a b out:Array Keyed}{na nb k:Nat}{x y:Keyed}
end
section
variable {prog:Program}{w:World}{A:Around}{E:Value->Shared->Prop}{s:Shared}{κ:YdQ}{S:Keyed->Prop}{ρ:Keyed->Int}{a b out:Array Keyed}{na nb g ac bc m:Nat}{st0 st:SortSt}{Q:ForInStep H2->SortSt->Prop}
structure Oh2 (ρ:Keyed->Int)(a b:Array Keyed)(st0:SortSt)(m:Nat)(Q:ForInStep H2->SortSt->Prop):Prop where
 fin:∀ zs d st',Fr st0 st'->Fin2 ρ a b zs->Q (.done (some zs,d)) st'
 go:∀ na nb out g ac bc st',Fr st0 st'->Hi ρ a b out na nb->na + nb<=m->Q (.done (none,na,nb,out,g,ac,bc)) st'/\Q (.yield (none,na,nb,out,g,ac,bc)) st'
end
section
variable {α:Type}
end
section
variable {prog:Program}{w:World}{A:Around}{E:Value->Shared->Prop}{s:Shared}{κ:YdQ}{S:Keyed->Prop}{ρ:Keyed->Int}
structure Base2 (κ:YdQ)(S:Keyed->Prop)(st:SortSt):Prop where
 k:kindOf st=κ
 f:failedOf st=none
 S:∀ x∈(arrOf st).toList,S x
end
noncomputable def kk (ρ:Keyed->Int)(xs:Array Keyed)(i:Nat):Int:=match xs[i]? with
 | some x=>ρ x
 | none=>0
noncomputable def Up2 (ρ:Keyed->Int)(xs:Array Keyed)(l h:Nat):Prop:=∀ i j,l<=i->i<=j->j < h->kk ρ xs i<=kk ρ xs j
structure Ch (l:Nat)(st st':SortSt):Prop where
 e:st'=setArr st (arrOf st')
 pm:(arrOf st').Perm (arrOf st)
 pre:∀ i,i < l->(arrOf st')[i]?=(arrOf st)[i]?
section
end
section
variable {prog:Program}{w:World}{A:Around}{E:Value->Shared->Prop}{s:Shared}{κ:YdQ}{S:Keyed->Prop}{ρ:Keyed->Int}{l n h:Nat}{st:SortSt}
end
noncomputable def starts:Nat->List (List Keyed)->List (Nat×Nat)
 | _,[]=>[]
 | b,r::rs=>(b,r.length)::starts (b + r.length) rs
noncomputable abbrev prd (p:Nat×Nat×Nat):Nat×Nat:=(p.1,p.2.1)
structure Rws (ρ:Keyed->Int)(st:SortSt)(rs:List (List Keyed))(rest:List Keyed):Prop where
 ar:(arrOf st).toList=rs.flatten++rest
 pd:(pendingOf st).toList.map prd=starts 0 rs
 ok:∀ r∈rs,r≠[]/\Srt ρ r
section
variable {prog:Program}{w:World}{A:Around}{E:Value->Shared->Prop}{s:Shared}{κ:YdQ}{S:Keyed->Prop}{ρ:Keyed->Int}{st:SortSt}{rs:List (List Keyed)}{rest:List Keyed}
end
section
variable {prog:Program}{w:World}{A:Around}{E:Value->Shared->Prop}{s:Shared}{κ:YdQ}{S:Keyed->Prop}{ρ:Keyed->Int}{st:SortSt}{rs:List (List Keyed)}{rest:List Keyed}
end
section
variable {prog:Program}{w:World}{A:Around}{s:Shared}
open Classical in
end
section
variable {prog:Program}{w:World}{A:Around}{E:Value->Shared->Prop}{s:Shared}
end

section
variable {X:Cx}
end
section
variable {X:Cx}
theorem jfI (hc:X.calm=true):jaK X (.type "list") (fun xs H Q=>∃ (a:Addr) (kvs:List (Key×V)) (ns:List Int),xs=[.ref a]/\H a=some (.dK kvs)/\kvs.map (·.1)=ns.map (fun z=>(.inl z:Key))/\∀ l,H l=none->Q (.ref l) (upd H l (.lst (ns.map V.int)))):=by
 intro pins s σ H xs us Q I r h
 obtain ⟨a,kvs,ns,rfl,ha,hk,q⟩:=h
 obtain ⟨u,rfl,rx⟩:=jbW r
 cases rx
 obtain ⟨hz,hS,vs,rv,m⟩:kvs.length<=Yae/\(a == Ya0)=false/\∃ vs,KV kvs vs/\s.heap.DictOf (jao X.prog X.w) a vs:=I.hok a _ ha
 obtain ⟨ep,hat⟩:=m.dictAt
 have hkv:vs.map (·.1)=kvs.map (·.1):=jgD rv
 have hvl:vs.length=ns.length:=by simpa using congrArg Yfu (hkv.trans hk)
 have hkl:kvs.length=ns.length:=by simpa using congrArg Yfu hk
 refine kdl_call (A:=X.A) (kdl_dict (knd:=jao X.prog X.w) (kvs:=vs) (ep:=ep) hS) (I.ok.hd hc) hat (by omega) fun h' tk acc c' hk' hS' hacc=>?_
 have hl:acc.toList.length=ns.length:=by rw [Ycc,hacc.1,hvl]
 have hI:IntsAre acc.toList ns:=jgM (hkv.trans hk) hl fun j v e=>hacc.2 j v (by rw [<- Array.getElem?_toList]; exact e)
 refine ⟨.ref s.heap.objs.size,_,I.laid (t':=tk) (o:=.lst (ns.map V.int)) (fun b o e=>hk' b o e) (Yaf _) ⟨by rw [Yac]; omega,acc.toList,c',jbP hI,by simpa using hS'⟩,rfl,q _ (I.hok.fresh (Yaf _))⟩
noncomputable def rInD (X:Cx)(neg:Bool):R2:=fun x y H Q=>∃ (p:Addr) (vs:List V) (d:PyData) (ds:List PyData),y=.ref p/\SqL X.K H p vs/\DV X.K H x d/\DVs X.K H vs ds/\d.canLay0=true/\d.depth<=100/\(∀ e∈ds,e.canLay0=true)/\Q (.bl (if neg then !(ds.any fun e=>YaM e d) else ds.any fun e=>YaM e d)) H
open Classical in
noncomputable def eD (h:Heap)(d:PyData)(w:Value):Bool:=decide (∃ e as,e.canLay0=true/\Reads h w e as/\YaM e d=true)
open Classical in
theorem jmj {h:Heap}{d e:PyData}{w:Value}{as:List Addr}(r:Reads h w e as)(c:e.canLay0=true):eD h d w=YaM e d:=by
 unfold eD
 cases q:YaM e d with
 | true=>exact decide_eq_true ⟨e,as,c,r,q⟩
 | false=>
  refine decide_eq_false fun ⟨e',as',c',r',q'⟩=>?_
  rw [SeqAt.Reads.unique e' e w as' as c' r' r,q] at q'
  cases q'
theorem jgO {h:Heap}{d:PyData}:∀ {us:List Value} {ds:List PyData} {as:List Addr},ReadsAll h us ds as->(∀ e∈ds,e.canLay0=true)->us.any (eD h d)=(ds.any fun e=>YaM e d)/\∀ w∈us,∃ e as,e.canLay0=true/\Reads h w e as
 | _,_,_,.nil,_=>⟨rfl,fun w hw=>by simp at hw⟩
 | _,_,_,.cons r rs,c=>by
  obtain ⟨h1,h2⟩:=jgO (d:=d) rs fun e he=>c e (Yag _ he)
  refine ⟨by rw [Ybo,Ybo,h1,jmj r (c _ Yao)],fun w hw=>?_⟩
  rcases YaI.mp hw with rfl | hw
  ·exact ⟨_,_,c _ Yao,r⟩
  ·exact h2 w hw
theorem jiD {pins:List (Addr×Obj)}{σ:St}{H:Hp}{s:Shared}{A:Around}{x:V}{u:Value}{d:PyData}{vs:List V}{ds:List PyData}{its:List Value}(hu:A.units + 100 < cLine)(I:Inv X pins σ H s)(rx:RelV x u)(hd:DV X.K H x d)(c:d.canLay0=true)(hp:d.depth<=100)(r:Vals vs its)(hv:DVs X.K H vs ds)(cs:∀ e∈ds,e.canLay0=true) :
  (∀ w,w∈its->YeD A s w u (eD s.heap d w))/\its.any (eD s.heap d)=ds.any fun e=>YaM e d:=by
 obtain ⟨as,ra⟩:=DVs.reads I hv r
 obtain ⟨bs,rb⟩:=DV.reads I hd rx
 obtain ⟨h1,h2⟩:=jgO (d:=d) ra cs
 refine ⟨fun w hw=>?_,h1⟩
 obtain ⟨e,as',ce,re⟩:=h2 w hw
 rw [jmj re ce]
 exact SeqAt.eqAt_reads _ _ A s _ _ _ _ re rb ce c (Ya9 (YdK (Yal (Nat.min_le_right _ _) hp) _) hu)
theorem jlD {k:Nat}(hr:Room k X.A):OpR X (YaV .In) (rInD X false):=by
 intro pins s σ H x y v u Q I rx ry h
 obtain ⟨p,vs,d,ds,rfl,hq,hd,hv,c,hp,cs,q⟩:=h
 cases ry
 obtain ⟨its,r,pl,hz⟩:=I.list hq
 obtain ⟨h1,h2⟩:=jiD (A:=X.A.in1) (by have:=hr.un; rw [YfN]; omega) I rx hd c hp r hv cs
 refine Yf4 (eD s.heap d) pl.isList (fun w hw=>h1 w (by simpa using hw)) ⟨.bl _,H,I,rfl,?_⟩
 rw [show its.toArray.any (eD s.heap d)=its.any (eD s.heap d) by simp,h2]
 exact q
theorem jgg {k:Nat}(hr:Room k X.A):OpR X (YaV .NotIn) (rInD X true):=by
 intro pins s σ H x y v u Q I rx ry h
 obtain ⟨p,vs,d,ds,rfl,hq,hd,hv,c,hp,cs,q⟩:=h
 cases ry
 obtain ⟨its,r,pl,hz⟩:=I.list hq
 obtain ⟨h1,h2⟩:=jiD (A:=X.A.in1) (by have:=hr.un; rw [YfN]; omega) I rx hd c hp r hv cs
 refine Yfn (eD s.heap d) pl.isList (fun w hw=>h1 w (by simpa using hw)) ⟨.bl _,H,I,rfl,?_⟩
 rw [show its.toArray.any (eD s.heap d)=its.any (eD s.heap d) by simp,h2]
 exact q
end
section
variable {X:Cx}
end
end L2

namespace L2
open PySem PySem.Spec PyProof.Rows
set_option maxHeartbeats 4000000
section
variable {prog:Program}{w:World}{A:Around}{R:Result->Shared->Prop}{I:Addr}{fp wr:List Addr}{n:Nat}{P:Nat->Value->Prop}{St:Nat->Heap->Prop}
end
section
variable {prog:Program}{w:World}{A:Around}{E:Value->Shared->Prop}{s:Shared}
end

section
variable {X:Cx}
end
end L2

namespace L2
open PySem PySem.Spec PyProof.Rows PySem.SeqAt PySem.MeetsSeq
set_option maxHeartbeats 4000000
theorem jbh (l:Addr)(es:Array Ycu)(n:Nat)(dd:Option Addr)(sl:Array (Option Value))(b:Str)(u:Tok) :
  Meets (Builtin.«dict.__eq__» ⟨[.ref l,.str b u],[]⟩) (fun _ R s=>s.heap.get? l=some { cls:=.type "dict",dict:=dd,data:=.dict es n,slots:=sl }/\R (.ok (.ret .notImplemented)) s):=
 .of_wp fun prog w A R s h=>by obtain ⟨hp,g,d,tk,os⟩:=s; obtain ⟨hl,h⟩:=h; have f1:=F.sub_str_dict; wp_walk using wpAny_loadPart' hl; exact ⟨_,rfl,h⟩
theorem jbf (b:Str)(u:Tok)(l:Addr)(es:Array Ycu)(n:Nat)(dd:Option Addr)(sl:Array (Option Value)) :
  Meets (Builtin.«str.__eq__» ⟨[.str b u,.ref l],[]⟩) (fun _ R s=>s.heap.get? l=some { cls:=.type "dict",dict:=dd,data:=.dict es n,slots:=sl }/\R (.ok (.ret .notImplemented)) s):=
 .of_wp fun prog w A R s h=>by obtain ⟨hp,g,d,tk,os⟩:=s; obtain ⟨hl,h⟩:=h; wp_walk using wpAny_loadPart' hl,wpAny_load hl; exact ⟨_,rfl,h⟩
section
variable {X:Cx}
theorem jee {A:Around}{s:Shared}{l:Addr}{o:Obj}{es:Array Ycu}{n:Nat}(b:Str)(u:Tok)(ho:s.heap.get? l=some o)(hc:o.cls=.type "dict")(hd:o.data=.dict es n)(hu:A.units < cLine):RcAt A s (.ref l) (.str b u) false:=fun prog w E Q h=>by
 obtain ⟨cls,dd,data,sl⟩:=o
 simp only at hc hd
 subst hc hd
 exact rc_eq_decline_or (k:=false) ⟨_,ho,rfl⟩ (Yb9 s b u) (by decide) F.sub_str_dict F.slot_dict_eq F.slot_str_eq_refl
  (fun _ hq=>Ycn F.slot_dict_eq ⟨_,ho,rfl⟩ F.entry_dict_eq (F.args_dict_eq_2 _ _) (jbh l es n dd sl b u) ⟨ho,hq⟩)
  (fun _ hq=>Ycn F.slot_str_eq_refl (Yb9 s b u) F.entry_str_eq (F.args_str_eq_2 _ _) (jbf b u l es n dd sl) ⟨ho,hq⟩)
  (fun _ hq=>wpAny_of_eq (rfl:isSame (.ref l) (.str b u)=pure false) hq) (.inr hu) h
noncomputable def jhC:R2:=fun x y H Q=>∃ a z kvs,x=.ref a/\y=.str z/\H a=some (.dK kvs)/\Q (.bl false) H
theorem jda {k:Nat}(hr:Room k X.A):OpR X (YaV .Eq) jhC:=by
 intro pins s σ H x y v u Q I rx ry h
 obtain ⟨a,z,kvs,rfl,rfl,ha,q⟩:=h
 cases rx
 obtain ⟨t,rfl⟩:=ry
 obtain ⟨_,_,vs,_,o,es,ep,ho,hx,hd,_⟩:kvs.length<=Yae/\(a == Ya0)=false/\∃ vs,KV kvs vs/\s.heap.DictOf (jao X.prog X.w) a vs:=I.hok a _ ha
 exact jee z t ho hx.1 hd (by have:=hr.un; omega) X.prog X.w X.xe _ ⟨.bl false,H,I,rfl,q⟩
end
noncomputable def rSlS:V->Option Int->Option Int->Hp->VK->Prop:=fun x lo hi H Q=>∃ z,x=.str z/\z.length<=Yae/\Q (.str (Ydm z lo hi)) H
section
variable {X:Cx}
theorem jkR:SlR X rSlS:=by
 intro pins s σ H x v vl vu lo hi sl Q I rx hs pl pu h
 obtain ⟨z,rfl,hz,q⟩:=h
 obtain ⟨t,rfl⟩:=rx
 refine ⟨"str",_,F.slot_str_getitem.lookup,Yb9 _ _ _,?_⟩
 obtain ⟨o,ho,hc,hd⟩:=hs
 have fin:∀ t' k,EP X pins σ Q (.str (Ydm z lo hi) t') { s with toks:=k }:=fun t' k=>⟨.str _,H,I.tok _,⟨_,rfl⟩,q⟩
 cases pl with
 | none=>
  cases pu with
  | none=>exact Ycs (l:=none) (u:=none) (st:=none) ⟨o,ho,hc,hd⟩ rfl (YdE ⟨Yal (Ydl z _ _) hz,fin⟩)
  | int j uj=>exact Ycs (l:=none) (u:=some (j,uj)) (st:=none) ⟨o,ho,hc,hd⟩ rfl (YdE ⟨Yal (Ydl z _ _) hz,fin⟩)
 | int i ui=>
  cases pu with
  | none=>exact Ycs (l:=some (i,ui)) (u:=none) (st:=none) ⟨o,ho,hc,hd⟩ rfl (YdE ⟨Yal (Ydl z _ _) hz,fin⟩)
  | int j uj=>exact Ycs (l:=some (i,ui)) (u:=some (j,uj)) (st:=none) ⟨o,ho,hc,hd⟩ rfl (YdE ⟨Yal (Ydl z _ _) hz,fin⟩)
theorem jjI:OpR X (Ybl .Add) (fun x y H Q=>∃ b j,x=.bl b/\y=.int j/\Q (.int ((if b=true then (1:Int) else 0) + j)) H):=by
 intro pins s σ H x y v u Q I rx ry h
 obtain ⟨b,j,rfl,rfl,q⟩:=h
 cases rx
 obtain ⟨t,rfl⟩:=ry
 exact PySem.IntBool.add_bool_int ⟨.int _,H,I.tok _,⟨_,rfl⟩,q⟩
theorem jjE:OpR X (Ybl .Sub) (fun x y H Q=>(∃ b j,x=.bl b/\y=.int j/\Q (.int ((if b=true then (1:Int) else 0) - j)) H)\/∃ i b,x=.int i/\y=.bl b/\Q (.int (i - if b=true then (1:Int) else 0)) H):=by
 intro pins s σ H x y v u Q I rx ry h
 rcases h with ⟨b,j,rfl,rfl,q⟩ | ⟨i,b,rfl,rfl,q⟩
 ·cases rx
  obtain ⟨t,rfl⟩:=ry
  exact PySem.IntBool.sub_bool_int ⟨.int _,H,I.tok _,⟨_,rfl⟩,q⟩
 ·cases ry
  obtain ⟨t,rfl⟩:=rx
  exact PySem.IntBool.sub_int_bool ⟨.int _,H,I.tok _,⟨_,rfl⟩,q⟩
theorem jed {prog:Program}{w:World}{A:Around}{E:Value->Shared->Prop}{s:Shared}{b:Bool}{Q:Value->Shared->Prop}(h:Q (.str (if b then "True" else "False") s.toks) { s with toks:=s.toks + 1 }):wpAny (model prog w) A (call (.type "str") [.bool b]) Q E s:=
 callType_new F.called_str (by decide) (F.typeCall_str_1 _) (F.newCall_str_1 _) (fun obj=>YfW obj _) F.entry_str_new
  (meets_str_new (S:=fun _ R s=>R (.ok (.ret (.str (if b then "True" else "False") s.toks))) { s with toks:=s.toks + 1 }) fun _ _ _ _ s hq=>
   wpAny_strOf_gives rfl (PySem.typeIs_bool s b) F.slot_bool_str F.slot_bool_repr F.entry_bool_repr (F.args_bool_repr_1 _) (gives_bool_repr b) hq (hsz:=by cases b <;> decide)) ⟨Yb9 _ _ _,h⟩
theorem jg7:jaK X (.type "str") (fun xs H Q=>∃ b,xs=[.bl b]/\Q (.str (if b=true then "True" else "False")) H):=by
 intro pins s σ H xs us Q I r h
 obtain ⟨b,rfl,q⟩:=h
 obtain ⟨u,rfl,r1⟩:=jbW r
 cases r1
 exact jed ⟨.str _,H,I.tok _,⟨_,rfl⟩,q⟩
noncomputable def jjh (K:Yaa):R2:=fun x y H Q=>∃ a z xs,x=.ref a/\y=.str z/\(SqT K H a xs\/SqL K H a xs)/\Q (.bl false) H
theorem jdE {k:Nat}(hr:Room k X.A):OpR X (YaV .Eq) (jjh X.K):=by
 intro pins s σ H x y v u Q I rx ry h
 obtain ⟨a,z,xs,rfl,rfl,ha,q⟩:=h
 cases rx
 obtain ⟨t,rfl⟩:=ry
 have hu:X.A.units < cLine:=hr.units0
 rcases ha with ha | ha
 ·obtain ⟨its,rv,pa,_⟩:=I.tuple ha
  exact SeqAt.RcAt.tuple_str z t (show s.heap.IsTuple a its.toArray from pa) hu X.prog X.w X.xe _ ⟨.bl false,H,I,rfl,q⟩
 ·obtain ⟨its,rv,pa,_⟩:=I.list ha
  exact SeqAt.RcAt.list_str z t pa.isList hu X.prog X.w X.xe _ ⟨.bl false,H,I,rfl,q⟩
end
end L2

namespace L2
open PySem PySem.Spec PyProof.Rows
open AutoSeq1 (wpAny_loadPart')
set_option maxHeartbeats 4000000
section
variable {prog:Program}{w:World}{A:Around}{E:Value->Shared->Prop}{s:Shared}
end
section
variable {X:Cx}
end
end L2

namespace L2
open PySem PySem.Spec PyProof.Rows PySem.W
set_option maxHeartbeats 4000000
structure Lies (lo:Nat)(pn:List (Addr×Obj))(H:Hp)(h:Heap)(e:Addr)(cls:Value)(dx:Option Addr):Prop where
 ob:∃ oe vs,h.get? e=some oe/\oe.cls=cls/\oe.dict=dx/\oe.data=.fields vs/\
  (vs[1]?=some .none\/∃ T oT ts,vs[1]?=some (.ref T)/\T≠e/\h.get? T=some oT/\oT.data=.fields ts/\ts[3]?=some .none/\H T=none/\lo<=T/\∀ p∈pn,p.1≠T)
 hn:H e=none
 le:lo<=e
 pn:∀ p∈pn,p.1≠e
section
variable {M:Model}{A:Around}{E:Value->Shared->Prop}{s:Shared}
theorem jbx {h:Heap}{a:Addr}{o:Obj}{vs:Array Value}(i:Nat)(x:Value)(ho:h.get? a=some o)(hd:o.data=.fields vs) :
  (∃ o',(h.update a (Ycm (·.setIfInBounds i x))).get? a=some o'/\o'.cls=o.cls/\o'.dict=o.dict/\o'.data=.fields (vs.setIfInBounds i x))/\∀ b,b≠a->(h.update a (Ycm (·.setIfInBounds i x))).get? b=h.get? b:=by
 have z:=YfS hd (·.setIfInBounds i x)
 refine ⟨⟨_,YbT _ ho (Ydn z),Obj.cls_mapFields _ _,?_,z⟩,fun b hb=>Ydf _ _ (Ne.symm hb)⟩
 unfold Ycm
 split <;> rfl
theorem jfd {base:Heap}{env:Env}{outer:List Env}{L e:Addr}{oe:Obj}{vs:Array Value}{head:Value}{had:Bool}{Q:Unit->Shared->Prop}
  (hfr:A.frames=some (env::outer)) (hl:s.heap.FunFrames base (env::outer)) (hf:env.frame=some L) (he:s.heap.get? e=some oe) (hd:oe.data=.fields vs) (hsz:1 < vs.size)
  (h:∀ (h':Heap) (T:Addr) (oe' oT:Obj) (vs' ts:Array Value),(∀ b o,b∉frs (env::outer)->b≠e->s.heap.get? b=some o->h'.get? b=some o)->(∀ b o,b∈frs (env::outer)->b≠e->s.heap.get? b=some o->∃ sl,h'.get? b=some { o with slots:=sl })->
   s.heap.objs.size<=T->h'.get? e=some oe'->oe'.cls=oe.cls->oe'.dict=oe.dict->oe'.data=.fields vs'->vs'[1]?=some (.ref T)->h'.get? T=some oT->oT.data=.fields ts->ts[3]?=some .none->Q () { s with heap:=h' }) :
  wpAny M A (do let a <- frameOf env; let pl <- entryPlaceOf L had; let b <- EntryCells.newEntry head a .none (rawInt L) .none pl; setField (.ref e) 1 b) (fun _ s'=>wpAny M A (Yeh (.ref e) none) Q E s') E s:=by
 have out:e∉frs (env::outer):=fun m=>by
  rcases hl.mem m with ⟨-,o,ho,no⟩
  exact no vs (by rw [<- hd,Yan (he.symm.trans ho)])
 refine Yab (wpAny_frameOf_fun hfr hl hf fun h1 fs=>Yab (wpAny_entryPlaceOf fun pl hpl=>Yab (Ya6 ?_ (hpl.sizeOk5 _ _ _ _ _))))
 have n3:3 < ([head,.ref L,.none,rawInt L,.none]++(if pl.isEmpty then Yai 6 YbA else pl)).toArray.size:=by
  rw [Yam,YaD]
  exact Nat.lt_add_right _ (Nat.lt_of_sub_pos (Nat.zero_lt_succ 1))
 generalize eot:(⟨.type "traceback",none,.fields ([head,.ref L,.none,rawInt L,.none]++(if pl.isEmpty then Yai 6 YbA else pl)).toArray,#[]⟩:Obj)=ot
 have dt:ot.data=.fields ([head,.ref L,.none,rawInt L,.none]++(if pl.isEmpty then Yai 6 YbA else pl)).toArray:=by rw [<- eot]
 have g1:h1.get? e=some oe:=by rw [fs.2.1 e out,he]
 have new:=Yav h1 (Ydn dt)
 have ne:h1.objs.size≠e:=fun z=>Ybi _ (z ▸ Yaj g1)
 obtain ⟨⟨o2,g2,c2,d2,v2⟩,r2⟩:=jbx 1 (.ref h1.objs.size) (Yad ot g1) hd
 have g2':=(r2 _ ne).trans new
 obtain ⟨⟨o3,g3,c3,d3,v3⟩,r3⟩:=jbx 3 .none g2' dt
 refine Ye8 (Yad ot g1) hd hsz (Yab (YbI g2 v2 (YbQ hsz) ?_))
 rw [if_pos (by rfl)]
 refine Ye8 g2' dt n3 ?_
 have keep:∀ b o,b≠e->h1.get? b=some o->_:=fun b o hb g=>(r3 b (YaF (Yaj g))).trans ((r2 b hb).trans (Yad ot g))
 refine h _ h1.objs.size o2 o3 _ _ (fun b o hb hbe g=>keep b o hbe (by rw [fs.2.1 b hb,g])) (fun b o _ hbe g=>?_) (Yeb fs.1.symm) ((r3 e (Ne.symm ne)).trans g2) c2 d2 v2 (YbQ hsz) g3 v3 (YbQ n3)
 rcases fs.2.2 b o g with ⟨sl,q⟩
 exact ⟨sl,keep b _ hbe q⟩
end
section
variable {X:Cx}{pins:List (Addr×Obj)}{σ:St}{H:Hp}{s:Shared}
theorem Inv.left {h':Heap}{ch:List Addr}(I:Inv X pins σ H s)(hH:∀ b∈ch,H b=none)(hlo:∀ b∈ch,X.s₀.heap.objs.size<=b)(hd:∀ b∈ch,∃ o vs,s.heap.get? b=some o/\o.data=.fields vs)(hp:∀ b∈ch,∀ p∈X.pn++pins,p.1≠b)
  (k:∀ b o,b∉frs X.stack->b∉ch->s.heap.get? b=some o->h'.get? b=some o) (sl:∀ b o,b∈frs X.stack->b∉ch->s.heap.get? b=some o->∃ t,h'.get? b=some { o with slots:=t }):Inv X pins σ H { s with heap:=h' }:=by
 have u:Un (frs X.stack) ch H H s.heap h':=by
  refine ⟨fun b o e _ hb hc=>k b o hb hc e,fun b o e _ hb hc=>sl b o hb hc e,fun _ _ _ n _=>n,fun b o e hc=>?_,fun _ _ e=>e,fun _ _ _ e=>e,fun b ps e=>⟨#[],by rw [e]; simp⟩⟩
  by_cases hb:b∈frs X.stack
  ·obtain ⟨t,q⟩:=sl b o hb hc e
   exact ⟨_,q⟩
  ·exact ⟨o,k b o hb hc e⟩
 have tr:∀ b u,H b=some u->b∉frs X.stack/\b∉ch:=fun b u e=>⟨fun z=>(by rw [I.stkFree b z] at e; cases e),fun z=>(by rw [hH b z] at e; cases e)⟩
 have hok:HOk X.prog X.w H h':=fun a o e=>(I.hok a o e).stay (fun b v hb q=>by
  rcases hb with z | z
  ·subst z; exact k b v (tr b _ e).1 (tr b _ e).2 q
  ·exact k b v (tr b _ z).1 (tr b _ z).2 q) (fun _ q=>q) fun _ _ q=>q
 refine I.call (g':=s.gens) (d':=s.drawn) (t':=s.toks) u hok I.bare fun b hb=>⟨.inr (hlo b hb),fun z=>?_,fun x c e z=>?_,hp b hb⟩
 ·obtain ⟨o,vs,g,d⟩:=hd b hb
  obtain ⟨m,⟨o',_,_,ho,r⟩,_⟩:=I.loc
  rw [z,ho] at g
  cases g
  have:=r.1
  rw [this] at d; cases d
 ·obtain ⟨o,vs,g,d⟩:=hd b hb
  obtain ⟨v,o',ho,hc⟩:=I.cell x c e
  rw [z,g] at ho
  cases ho
  rw [d] at hc; cases hc
theorem jgB {M:Model}{E:Value->Shared->Prop}{ea:Addr}{cls:Value}{dx:Option Addr}{Q:Unit->Shared->Prop}(I:Inv X [] σ H s)(hst:X.stack=X.env::X.outer)(hf:X.env.frame=some X.env.locals)
  (l:Lies X.s₀.heap.objs.size X.pn H s.heap ea cls dx) (q:∀ h',Inv X [] σ H { s with heap:=h' }->Lies X.s₀.heap.objs.size X.pn H h' ea cls dx->Q () { s with heap:=h' }):wpAny M X.A (Yf0 (.ref ea) X.env) (fun _ s'=>wpAny M X.A (Yeh (.ref ea) none) Q E s') E s:=by
 obtain ⟨oe,vs,he,hc,hdx,hd,ht⟩:=l.ob
 have hfr:X.A.frames=some (X.env::X.outer):=by rw [<- hst]; exact I.ok.frames
 have hl:s.heap.FunFrames X.base (X.env::X.outer):=by rw [<- hst]; exact I.stack
 have pe:∀ p∈X.pn++[],p.1≠ea:=fun p hp=>l.pn p (by simpa using hp)
 unfold Yf0
 simp only [hf]
 rcases ht with h1 | ⟨T,oT,ts,h1,hTe,hT,hdT,h3,nT,lT,pT⟩
 ·refine Yab (YbI he hd h1 ?_)
  rw [if_neg (by decide)]
  refine jfd hfr hl hf he hd (Array.getElem?_eq_some_iff.mp h1).1 fun h' T' oe' oT' vs' ts' k sl zT g1 c1 c2 c3 c4 g2 c5 c6=>?_
  rw [<- hst] at k sl
  have J:Inv X [] σ H { s with heap:=h' }:=I.left (ch:=[ea]) (fun b hb=>by rw [List.mem_singleton.mp hb]; exact l.hn) (fun b hb=>by rw [List.mem_singleton.mp hb]; exact l.le) (fun b hb=>by rw [List.mem_singleton.mp hb]; exact ⟨oe,vs,he,hd⟩) (fun b hb=>by rw [List.mem_singleton.mp hb]; exact pe)
   (fun b o hb hc e=>k b o hb (fun z=>hc (by simp [z])) e) fun b o hb hc e=>sl b o hb (fun z=>hc (by simp [z])) e
  refine q h' J ⟨⟨oe',vs',g1,c1.trans hc,c2.trans hdx,c3,.inr ⟨T',oT',ts',c4,?_,g2,c5,c6,I.hok.fresh zT,Yal I.sz zT,fun p hp z=>?_⟩⟩,l.hn,l.le,l.pn⟩
  ·exact fun z=>absurd (Yaj he) (Nat.not_lt.mpr (z ▸ zT))
  ·exact absurd (Yaj (I.pin p (by simpa using hp)).1) (Nat.not_lt.mpr (z ▸ zT))
 ·have old:(YbA == rawInt X.env.locals)=false:=rfl
  refine Yab (YbI he hd h1 ?_)
  rw [if_pos (by rfl)]
  refine Yab (YbI hT hdT h3 ?_)
  rw [old,if_neg Yak]
  refine Yab (Ye8 hT hdT (Array.getElem?_eq_some_iff.mp h3).1 ?_)
  have other:=(jbx 3 .none hT hdT).2
  have I1:Inv X [] σ H { s with heap:=s.heap.update T (Ycm (·.setIfInBounds 3 YbA)) }:=I.left (ch:=[T]) (fun b hb=>by rw [List.mem_singleton.mp hb]; exact nT) (fun b hb=>by rw [List.mem_singleton.mp hb]; exact lT) (fun b hb=>by rw [List.mem_singleton.mp hb]; exact ⟨oT,ts,hT,hdT⟩) (fun b hb p hp=>by rw [List.mem_singleton.mp hb]; exact pT p (by simpa using hp))
   (fun b o _ hc e=>(other b (by simpa using hc)).trans e) fun b o _ hc e=>⟨o.slots,(other b (by simpa using hc)).trans e⟩
  have he1:=(other ea (Ne.symm hTe)).trans he
  have hl1:(s.heap.update T (Ycm (·.setIfInBounds 3 YbA))).FunFrames X.base (X.env::X.outer):=by rw [<- hst]; exact I1.stack
  refine jfd (s:={ s with heap:=s.heap.update T (Ycm (·.setIfInBounds 3 YbA)) }) hfr hl1 hf he1 hd (Array.getElem?_eq_some_iff.mp h1).1 fun h' T' oe' oT' vs' ts' k sl zT g1 c1 c2 c3 c4 g2 c5 c6=>?_
  rw [<- hst] at k sl
  have J:Inv X [] σ H { s with heap:=h' }:=Inv.left (s:={ s with heap:=s.heap.update T (Ycm (·.setIfInBounds 3 YbA)) }) (ch:=[ea]) I1 (fun b hb=>by rw [List.mem_singleton.mp hb]; exact l.hn) (fun b hb=>by rw [List.mem_singleton.mp hb]; exact l.le) (fun b hb=>by rw [List.mem_singleton.mp hb]; exact ⟨oe,vs,he1,hd⟩) (fun b hb=>by rw [List.mem_singleton.mp hb]; exact pe)
   (fun b o hb hc e=>k b o hb (fun z=>hc (by simp [z])) e) fun b o hb hc e=>sl b o hb (fun z=>hc (by simp [z])) e
  refine q h' J ⟨⟨oe',vs',g1,c1.trans hc,c2.trans hdx,c3,.inr ⟨T',oT',ts',c4,?_,g2,c5,c6,I1.hok.fresh zT,Yal I1.sz zT,fun p hp z=>?_⟩⟩,l.hn,l.le,l.pn⟩
  ·exact fun z=>absurd (Yaj he1) (Nat.not_lt.mpr (z ▸ zT))
  ·exact absurd (Yaj (I1.pin p (by simpa using hp)).1) (Nat.not_lt.mpr (z ▸ zT))
end
noncomputable def CX1 (P:Program)(w:World):CXT:=fun outer H s E e s'=>∃ (ea:Addr) (H':Hp) (cls:Value) (dx:Option Addr),e=.ref ea/\s'.os=s.os/\AllBare s'.gens/\Un (frs outer) [] H H' s.heap s'.heap/\HOk P w H' s'.heap/\Lies s.heap.objs.size [] H' s'.heap ea cls dx/\E cls dx H'
section
variable {X:Cx}{pins:List (Addr×Obj)}{σ:St}{H:Hp}{s s':Shared}{e:Value}{E:XK}
theorem CX1.back (I:Inv X pins σ H s)(h:CX1 X.prog X.w X.stack H s E e s'):∃ (ea:Addr) (H':Hp) (cls:Value) (dx:Option Addr),e=.ref ea/\Inv X pins σ H' s'/\Lies X.s₀.heap.objs.size X.pn H' s'.heap ea cls dx/\E cls dx H':=by
 obtain ⟨ea,H',cls,dx,rfl,os,bare,un,hok,l,q⟩:=h
 have pn:∀ b,s.heap.objs.size<=b->∀ p∈X.pn,p.1≠b:=fun b hb p hp z=>absurd (Yaj (I.pin p (YaR _ hp)).1) (Nat.not_lt.mpr (z ▸ hb))
 refine ⟨ea,H',cls,dx,rfl,I.call' (ch:=[]) os un hok bare (fun b z=>absurd z (by simp)),⟨?_,l.hn,Yal I.sz l.le,pn ea l.le⟩,q⟩
 obtain ⟨oe,vs,he,hc,hdx,hd,ht⟩:=l.ob
 refine ⟨oe,vs,he,hc,hdx,hd,ht.imp id ?_⟩
 rintro ⟨T,oT,ts,h1,h2,h3,h4,h5,h6,h7,_⟩
 exact ⟨T,oT,ts,h1,h2,h3,h4,h5,h6,Yal I.sz h7,pn T h7⟩
end
end L2

namespace L2
open PySem PySem.Spec PyProof.Rows PySem.W
open Builtin Builtin.ObjectAttr
set_option maxHeartbeats 4000000
section
variable {M:Model}{A:Around}{E:Value->Shared->Prop}{h:Heap}{g:Array Yen}{d:Drawn}{t:Nat}{os:OsState}
variable {nm q:Str}{C N D:Addr}{bs bmB:List Value}{hdct:Bool}{sn:List Str}{sub:List Value}{ab:Bool}{col:Option Bool}{dd:Option Addr}{k0 k1 k2 k3 k5:Option Value}{B newId:String}{mN mD:Str->Option Value}{name:Str}
structure Two (h:Heap)(C N D:Addr)(mN mD:Str->Option Value)(bmB:List Value)(newId:String):Prop where
 cls:∃ nm q bs sn sub ab col dd k0 k1 k2 k3 k5,h.get? C=some (YcY nm q C N bs (.ref D::bmB) true sn sub ab col dd k0 k1 k2 k3 k5 newId)
 ns:h.Ns N mN
 low:∃ c0 dd cd sl,h.get? D=some { cls:=c0,dict:=dd,data:=.cls cd,slots:=sl }/\h.Ns cd.ns mD
theorem Two.keeps {h':Heap}(T:Two h C N D mN mD bmB newId)(k:∀ b o,h.get? b=some o->h'.get? b=some o):Two h' C N D mN mD bmB newId:=by
 obtain ⟨⟨nm,q,bs,sn,sub,ab,col,dd,k0,k1,k2,k3,k5,e⟩,n,c0,dd',cd,sl,e2,n2⟩:=T
 exact ⟨⟨nm,q,bs,sn,sub,ab,col,dd,k0,k1,k2,k3,k5,k _ _ e⟩,n.keeps k,c0,dd',cd,sl,k _ _ e2,n2.keeps k⟩
theorem Two.look {y:Option Value}{Q:Option Value->Shared->Prop}(T:Two h C N D mN mD bmB newId)(hB:YaX (.type B) name=pure y)(hm:mroOf (.type B)=pure bmB)(hN:mN name=none)(hD:mD name=none)(hq:Q y ⟨h,g,d,t,os⟩) :
  wpAny M A (YaX (.ref C) name) Q E ⟨h,g,d,t,os⟩:=by
 obtain ⟨⟨nm,q,bs,sn,sub,ab,col,dd,k0,k1,k2,k3,k5,e⟩,n,c0,dd',cd,sl,e2,n2⟩:=T
 have hr:lookupAlong bmB name=pure y:=by rw [Yfz,hm] at hB; exact hB
 rw [Yfz]
 refine Yab (YeW e ?_)
 rw [YeI]
 refine Yab (wpAny_classOwn_exc e n ?_)
 rw [hN]
 show wpAny M A (lookupAlong (.ref D::bmB) name) Q E _
 rw [YeI]
 refine Yab (wpAny_classOwn_cls e2 n2 ?_)
 rw [hD]
 show wpAny M A (lookupAlong bmB name) Q E _
 rw [hr]
 exact Yah hq
theorem Two.own {v:Value}{Q:Option Value->Shared->Prop}(T:Two h C N D mN mD bmB newId)(hN:mN name=some v)(hq:Q (some v) ⟨h,g,d,t,os⟩):wpAny M A (YaX (.ref C) name) Q E ⟨h,g,d,t,os⟩:=by
 obtain ⟨⟨nm,q,bs,sn,sub,ab,col,dd,k0,k1,k2,k3,k5,e⟩,n,_⟩:=T
 rw [Yfz]
 refine Yab (YeW e ?_)
 rw [YeI]
 refine Yab (wpAny_classOwn_exc e n ?_)
 rw [hN]
 exact Yah hq
end
section
variable {prog:Program}{w:World}{A:Around}{E:Value->Shared->Prop}{h:Heap}{g:Array Yen}{d:Drawn}{t:Nat}{os:OsState}
variable {C N D x:Addr}{bmB:List Value}{B newId sa owner:String}{mN mD mA:Str->Option Value}{name:Str}{v:Value}
theorem Two.check {M:Model}{o:Obj}{nameV:Value}{Q:Unit->Shared->Prop}(T:Two h C N D mN mD bmB newId)(SF:Ydi B bmB sa owner)(hx:h.get? x=some o)(hc:o.cls=.ref C)(hq:Q () ⟨h,g,d,t,os⟩) :
  wpAny M A (Ydo sa ⟨[.ref x,nameV,v],[]⟩) Q E ⟨h,g,d,t,os⟩:=by
 obtain ⟨⟨nm,q,bs,sn,sub,ab,col,dd,k0,k1,k2,k3,k5,e⟩,_⟩:=T
 have hb:(Ybe C::.ref D::bmB).contains (.type owner)=true:=by rw [Ybv,Ybv,SF.hasOwner,Ycw,Ycw]
 have fin:wpAny M A (match YeS sa with | some sig=>Bind.checkArgs sa sig ⟨[.ref x,nameV,v],[]⟩ | _=>pure ()) Q E ⟨h,g,d,t,os⟩:=by
  have ok:=SF.args (.ref x) nameV v
  unfold argsOk at ok
  generalize YeS sa=z at ok ⊢
  cases z with
  | some sig=>exact wpAny_of_eq ok hq
  | none=>exact Yah hq
 unfold Ydo
 rw [SF.kind,SF.split]
 refine Yab (m:=Yfl _ _) ?_
 unfold Yfl
 repeat (first | (with_reducible refine Yau hx ?_; rw [hc]) | (with_reducible refine YbH e ?_; rw [hb]) | wp_step)
 exact fin
theorem Two.tail (T:Two h C N D mN mD bmB newId)(hD:mD "__init__" = none):OwnTail h bmB (.ref D::bmB):=by
 obtain ⟨_,_,c0,dd',cd,sl,e2,n2⟩:=T
 exact .own e2 n2 hD .base
theorem Two.made {initId:String}{rest:List Value}{fI:Addr}{oI:Obj}{Q:Fin->Shared->Prop}(T:Two h C N D mN mD bmB newId)(F:YeF B newId initId bmB)(hD:mD "__init__" = none)(hi:mN "__init__" = some (.ref fI))(hfI:h.get? fI=some oI)(hfc:oI.cls=.type "function")(hr:rest.length<=Yae)
  (hq:∀ h' e,Heap.MadeExcOf h h' e (.ref C) rest->h.objs.size<=e->wpAny (model prog w) A (call (.ref fI) (.ref e::rest)) (fun r s'=>r=.none/\Q (.done (.ret (.ref e))) s') E ⟨h',g,d,t,os⟩) :
  wpAny (model prog w) A (Builtin.«type.__call__» ⟨.ref C::rest,[]⟩) Q E ⟨h,g,d,t,os⟩:=by
 have tl:=T.tail hD
 obtain ⟨nm,q,bs,sn,sub,ab,col,dd,k0,k1,k2,k3,k5,e⟩:=T.cls
 repeat (first | with_reducible refine Yau e ?_ | with_reducible refine wpAny_madeBy_exc e ?_ | wp_step)
 refine codeAny_call_builtin_code (YfL _ F.quiet) (wpAny_check_new_subT F tl e (codeAny_exc_new_subT F tl e ?_ hr))
 show wpAny _ _ _ _ _ _
 generalize hh:(h.push { cls:=.type "tuple",data:=.seq rest.toArray }).push { cls:=.ref C,data:=.fields #[.ref h.objs.size,.none,.none,.none,.bool false,.none] }=h1
 have k:∀ b o,h.get? b=some o->h1.get? b=some o:=fun b o z=>by rw [<- hh]; exact Yad _ (Yad _ z)
 have T1:=T.keeps k
 have g1:h1.get? (h.objs.size + 1)=some { cls:=.ref C,data:=.fields #[.ref h.objs.size,.none,.none,.none,.bool false,.none] }:=by rw [<- hh]; heap_get
 have g2:h1.get? h.objs.size=some { cls:=.type "tuple",data:=.seq rest.toArray }:=by rw [<- hh]; exact Yad _ (YfV rfl rfl)
 have hc:(Ybe C::.ref D::bmB).contains (.ref C)=true:=by simp
 have e1:=k _ _ e
 unfold Yfl
 repeat (first | with_reducible refine Yau g1 ?_ | (with_reducible refine YbH e1 ?_; rw [hc]) | wp_step)
 show wpAny _ _ (YaX (.ref C) _) _ _ _
 refine T1.own hi ?_
 refine Ybc (Yab ?_)
 unfold bindSpecial
 refine Yab (YdC (T := "function") ⟨_,k _ _ hfI,hfc⟩ ?_)
 rw [if_pos (by decide)]
 refine Yah (Yab (YaL (hq _ (h.objs.size + 1) ⟨k,Ydt (YdJ _),h.objs.size,g1,Ydt (Yaf _),g2⟩ (YdJ _)) (fun r s' z=>?_) fun _ _ z=>z))
 obtain ⟨rfl,z⟩:=z
 wp_walk
 exact z
theorem Two.make {initId:String}{rest:List Value}{fI:Addr}{oI:Obj}{Q:Value->Shared->Prop}(T:Two h C N D mN mD bmB newId)(F:YeF B newId initId bmB)(hD:mD "__init__" = none)(hi:mN "__init__" = some (.ref fI))(hfI:h.get? fI=some oI)(hfc:oI.cls=.type "function")(hr:rest.length<=Yae)
  (hq:∀ h' e,Heap.MadeExcOf h h' e (.ref C) rest->h.objs.size<=e->wpAny (model prog w) (A.under (.builtin "type.__call__" ⟨.ref C::rest,[]⟩)) (call (.ref fI) (.ref e::rest)) (fun r s'=>r=.none/\Q (.ref e) s') E ⟨h',g,d,t,os⟩) :
  wpAny (model prog w) A (call (.ref C) rest) Q E ⟨h,g,d,t,os⟩:=by
 obtain ⟨nm,q,bs,sn,sub,ab,col,dd,k0,k1,k2,k3,k5,e⟩:=T.cls
 have f1:=tc_lookup
 have f2:=tc_bind (.ref C)
 have ty:(⟨h,g,d,t,os⟩:Shared).TypeIs (.ref C) "type" := ⟨_,e,rfl⟩
 refine YdN (codeAny_of_tree ?_)
 show wpAny _ _ (callAny (.ref C) _) _ _ _
 repeat (any_goals (first | assumption | with_reducible refine Yau e ?_ | wp_step))
 refine ⟨rfl,codeAny_call_builtin_at (YfL _ (by decide +kernel)) entry_typeCall (wpAny_check_type_call_sub e (T.made (hr:=hr) F hD hi hfI hfc fun h' e' hm hz=>?_))⟩
 exact hq h' e' hm hz
structure Reads (B:String)(bmB:List Value):Prop where
 ga:Slot B "__getattribute__" "BaseException.__getattribute__"
 mro:mroOf (.type B)=pure bmB
 no:YaX (.type B) "__getattr__" = pure none
 has:bmB.contains (.type "BaseException")=true
theorem Two.gaCheck {M:Model}{o:Obj}{nameV:Value}{Q:Unit->Shared->Prop}(T:Two h C N D mN mD bmB newId)(R:Reads B bmB)(hx:h.get? x=some o)(hc:o.cls=.ref C)(hq:Q () ⟨h,g,d,t,os⟩) :
  wpAny M A (Ydo "BaseException.__getattribute__" ⟨[.ref x,nameV],[]⟩) Q E ⟨h,g,d,t,os⟩:=by
 obtain ⟨nm,q,bs,sn,sub,ab,col,dd,k0,k1,k2,k3,k5,e⟩:=T.cls
 have c1:builtinKind "BaseException.__getattribute__" = some .slot:=by decide +kernel
 have c2:splitId "BaseException.__getattribute__" = some ("BaseException", "__getattribute__"):=by decide +kernel
 have hb:(Ybe C::.ref D::bmB).contains (.type "BaseException")=true:=by rw [Ybv,Ybv,R.has,Ycw,Ycw]
 have ha:=F.args_bexc_ga (.ref x) nameV
 simp only [Ydo,c1,c2]
 refine Yab ?_
 unfold Yfl
 repeat (first | (with_reducible refine Yau hx ?_; rw [hc]) | (with_reducible refine YbH e ?_; rw [hb]) | wp_step)
 exact hq
theorem Two.gaEntry {o:Obj}{dx:Addr}{tk:Tok}{Q:Fin->Shared->Prop}(T:Two h C N D mN mD bmB newId)(R:Reads B bmB)(hx:h.get? x=some o)(hc:o.cls=.ref C)(hnc:∀ c,o.data≠.cls c)(hd:o.dict=some dx)(hns:h.Ns dx mA)(hv:mA name=some v)
  (hB:YaX (.type B) name=pure none) (n1:mN name=none) (n2:mD name=none) (hq:Q (.done (.ret v)) ⟨h,g,d,t,os⟩) :
  wpAny (model prog w) A (Builtin.«object.__getattribute__» ⟨[.ref x,.str name tk],[]⟩) Q E ⟨h,g,d,t,os⟩:=by
 obtain ⟨nm,q,bs,sn,sub,ab,col,dd,k0,k1,k2,k3,k5,e⟩:=T.cls
 unfold Builtin.«object.__getattribute__»
 repeat (first | (with_reducible refine Yau hx ?_; rw [hc]) | (with_reducible refine T.look hB R.mro n1 n2 ?_) | wp_step)
 split
 ·rename_i c z
  exact absurd z (hnc c)
 unfold instanceDict
 repeat (first | (with_reducible refine Yau hx ?_; rw [hc]) | with_reducible refine Yau e ?_ | wp_step)
 rw [hd]
 repeat (first | (with_reducible refine wpAny_nsGet hns ?_; rw [hv]) | wp_step)
 exact hq
theorem Two.get {o:Obj}{dx:Addr}{expr:Bool}{Q:Value->Shared->Prop}(T:Two h C N D mN mD bmB newId)(R:Reads B bmB)(hx:h.get? x=some o)(hc:o.cls=.ref C)(hnc:∀ c,o.data≠.cls c)(hd:o.dict=some dx)(hns:h.Ns dx mA)(hv:mA name=some v)(hh:handedOut v=pure v)
  (hB:YaX (.type B) name=pure none) (g1:mN "__getattribute__" = none) (g2:mD "__getattribute__" = none) (a1:mN "__getattr__" = none) (a2:mD "__getattr__" = none) (n1:mN name=none) (n2:mD name=none) (hq:Q v ⟨h,g,d,t + 1,os⟩) :
  wpAny (model prog w) A (getAttr (.ref x) name expr) Q E ⟨h,g,d,t,os⟩:=by
 have f3:=R.ga.bind (.ref x)
 have c0:(expr && onTheHeap (Yc5 "BaseException.__getattribute__"))=false:=by cases expr <;> rfl
 have c2:(Yc5 "BaseException.__getattribute__" == Yc5 "object.__getattribute__")=false:=by decide +kernel
 have c1:(onTheHeap (Ybe C) && Yc5 "BaseException.__getattribute__" == Yc5 "object.__getattribute__")=false:=by rw [c2]; rfl
 unfold getAttr
 repeat (any_goals (first | assumption | (with_reducible refine Yau hx ?_; rw [hc]) | (with_reducible refine T.look R.ga.lookup R.mro g1 g2 ?_) | (with_reducible refine T.look R.no R.mro a1 a2 ?_) | wp_step))
 refine YcL R.ga.plain F.entry_bexc_ga (T.gaCheck R hx hc (T.gaEntry R hx hc hnc hd hns hv hB n1 n2 ?_))
 repeat (any_goals (first | assumption | wp_step))
 all_goals first | exact hq | (rw [hh]; exact Yah hq) | skip
theorem jdQ {M:Model}{s:Shared}{dx:Addr}{tk:Tok}{mB:Str->Option Value}{ns:List Str}{Q:Fin->Shared->Prop}(n1:s.heap.Ns1 dx mB)(hw:Within mB ns)(hl:ns.length < Yae)
  (hq:∀ h' tk',h'.Ns1 dx (fun y=>if y=name then some v else mB y)->YcQ dx s.heap h'->Q (.done (.ret .none)) { s with heap:=h',toks:=tk' }) :
  wpAny M A (storeInDict dx (.str name tk) name v) Q E s:=by
 refine Yab (m:=newKeyGuard _ _ _) (Yah (Yab (wpAny_nsSet1 n1 fun h' n2 sb=>?_)))
 rcases n2.count (Within.cons name v hw) with ⟨o,es,ep,ho,hd,le⟩
 have room:es.size<=Yae:=Yal le (by rw [YaW]; exact hl)
 refine Yab (wpAny_lookBehind ho (hd ▸ pastItsLine_dict (Nat.le_succ_of_le room)) ?_)
 exact Yah (hq h' _ n2 sb)
theorem Two.put {tk:Tok}{Q:Fin->Shared->Prop}{o:Obj}{ns:List Str}(T:Two h C N D mN mD bmB newId)(SF:Ydi B bmB sa owner)(n1:mN name=none)(n2:mD name=none)(hB:YaX (.type B) name=pure none)(hx:h.get? x=some o)(hc:o.cls=.ref C)(hnc:∀ c,o.data≠.cls c)
  (hd:(o.dict=none/\∀ n,mA n=none)\/∃ dx,o.dict=some dx/\dx≠x/\h.Ns1 dx mA) (hw:Within mA ns) (hl:ns.length < Yae)
  (hq:∀ h' tk' dx,(o.dict=some dx\/(o.dict=none/\dx=h.objs.size))->dx≠x->h'.get? x=some { o with dict:=some dx }->h'.Ns1 dx (fun y=>if y=name then some v else mA y)->(∀ b u,b≠x->b≠dx->h.get? b=some u->h'.get? b=some u)->Q (.done (.ret .none)) ⟨h',g,d,tk',os⟩) :
  wpAny (model prog w) A (Builtin.«object.__setattr__» ⟨[.ref x,.str name tk,v],[]⟩) Q E ⟨h,g,d,t,os⟩:=by
 obtain ⟨nm,q,bs,sn,sub,ab,col,dd,k0,k1,k2,k3,k5,e⟩:=T.cls
 have ps:=SF.passes (.ref x)
 unfold Builtin.«object.__setattr__»
 repeat (first | rw [refuse_eq] | (rw [refuseLoop_ref,refuseLoop_ref,ps]) | (with_reducible refine Yau hx ?_; rw [hc]) | with_reducible refine YeW e ?_ | (with_reducible refine T.look hB SF.mro n1 n2 ?_) | with_reducible refine Yau e ?_ | wp_step)
 rcases hd with ⟨dn,ma⟩ | ⟨dx,de,dne,dns⟩
 ·rw [dn,if_neg (by simp [typeHasDict])]
  split
  ·rename_i z
   cases z
  split
  ·rename_i c z
   exact absurd z (hnc c)
  ·have xs:x≠h.objs.size:=YaF (Yaj hx)
   have x1:=Yad { cls:=.type "dict",data:=.dict #[] } hx
   refine Yab (wpAny_alloc' (Yab (wpAny_update' x1 (Yah ?_))))
   have fr:({ cls:=o.cls,dict:=some h.objs.size,data:=o.data,slots:=o.slots }:Obj).isFreed=false:=by
    have:=(Heap.get?_some_iff.mp hx).2
    obtain ⟨c1,c2,c3,c4⟩:=o
    cases c3 <;> first | rfl | exact this
   have x2:=YbT (fun o=>({ cls:=o.cls,dict:=some h.objs.size,data:=o.data,slots:=o.slots }:Obj)) x1 fr
   have d2:((h.push { cls:=.type "dict",data:=.dict #[] }).update x fun o=>{ cls:=o.cls,dict:=some h.objs.size,data:=o.data,slots:=o.slots }).get? h.objs.size=some { cls:=.type "dict",data:=.dict #[] }:=(Yfw _ _ _ _ xs.symm).trans (YfV rfl rfl)
   have k2:∀ b u,b≠x->h.get? b=some u->((h.push { cls:=.type "dict",data:=.dict #[] }).update x fun o=>{ cls:=o.cls,dict:=some h.objs.size,data:=o.data,slots:=o.slots }).get? b=some u:=fun b u z e=>(Yfw _ _ _ _ z).trans (Yad _ e)
   generalize ((h.push { cls:=.type "dict",data:=.dict #[] }).update x fun o=>{ cls:=o.cls,dict:=some h.objs.size,data:=o.data,slots:=o.slots })=h2 at x2 d2 k2 ⊢
   have nd:h2.Ns h.objs.size (fun _=>none):=⟨_,#[],_,d2,rfl,fun e he=>absurd he (by simp),fun _=>rfl⟩
   refine jdQ (Heap.Ns1.of_empty nd) Within.nil (Nat.zero_lt_of_lt hl) fun h' tk' hn' hs=>?_
   refine hq h' tk' h.objs.size (.inr ⟨dn,rfl⟩) xs.symm ((hs.2 x xs).trans x2) ?_ fun b u z1 z2 z=>(hs.2 b z2).trans (k2 b u z1 z)
   obtain ⟨o',es,ep,e1,e2,e3,eu,e4⟩:=hn'
   exact ⟨o',es,ep,e1,e2,e3,eu,fun y=>by rw [e4 y]; by_cases hy:y=name <;> simp [hy,ma]⟩
 ·rw [de]
  refine Yah (jdQ dns hw hl fun h' tk' hn' hs=>?_)
  refine hq h' tk' dx (.inl de) dne ?_ hn' fun b u z1 z2 z=>(hs.2 b z2).trans z
  rw [hs.2 x dne.symm,hx,<- de]
theorem Two.set {Q:Unit->Shared->Prop}{o:Obj}{ns:List Str}(T:Two h C N D mN mD bmB newId)(SF:Ydi B bmB sa owner)(s1:mN "__setattr__" = none)(s2:mD "__setattr__" = none)(n1:mN name=none)(n2:mD name=none)(hB:YaX (.type B) name=pure none)(hx:h.get? x=some o)(hc:o.cls=.ref C)(hnc:∀ c,o.data≠.cls c)
  (hd:(o.dict=none/\∀ n,mA n=none)\/∃ dx,o.dict=some dx/\dx≠x/\h.Ns1 dx mA) (hw:Within mA ns) (hl:ns.length < Yae)
  (hq:∀ h' tk' dx,(o.dict=some dx\/(o.dict=none/\dx=h.objs.size))->dx≠x->h'.get? x=some { o with dict:=some dx }->h'.Ns1 dx (fun y=>if y=name then some v else mA y)->(∀ b u,b≠x->b≠dx->h.get? b=some u->h'.get? b=some u)->Q () ⟨h',g,d,tk',os⟩) :
  wpAny (model prog w) A (setAttr (.ref x) name v) Q E ⟨h,g,d,t,os⟩:=by
 have f3:=SF.slot.bind (.ref x)
 unfold setAttr callSpecial? specialOf
 repeat (any_goals (first | assumption | (with_reducible refine Yau hx ?_; rw [hc]) | (with_reducible refine T.look SF.slot.lookup SF.mro s1 s2 ?_) | wp_step))
 refine YcL SF.slot.plain SF.entry (T.check SF hx hc (T.put SF n1 n2 hB hx hc hnc hd hw hl fun h' tk' dx z1 z2 z3 z4 z5=>?_))
 repeat (any_goals (first | assumption | wp_step))
 exact hq h' tk' dx z1 z2 z3 z4 z5
end
theorem ja0:Reads "ValueError" [.type "ValueError",.type "Exception",.type "BaseException",.type "object"] where
 ga:=.of (owner := "BaseException") (n := "__getattribute__") (by rw [Yct,Ybz]; kernel_rfl) (by decide +kernel) (by decide +kernel) (by decide +kernel)
  (by first | exact .inl (by decide +kernel) | exact .inr (by decide +kernel)) (by rw [isSubtype_type]; kernel_rfl)
 mro:=by kernel_rfl
 no:=by rw [Yct,Ybz]; kernel_rfl
 has:=by decide
section
variable {X:Cx}{pins:List (Addr×Obj)}{σ:St}{H:Hp}{s:Shared}
theorem Inv.sooner {sb:Shared}(I:Inv X pins σ H s)(k:∀ b o,sb.heap.get? b=some o->X.s₀.heap.get? b=some o)(ho:sb.os=X.s₀.os)(hz:sb.heap.objs.size<=X.s₀.heap.objs.size)(hb:∀ b o,X.base.get? b=some o->sb.heap.get? b=some o/\X.H₀ b=none)(hbz:X.base.objs.size<=sb.heap.objs.size)(hf:sb.heap.FunFrames X.base X.outer) :
  Inv { X with s₀:=sb } pins σ H s:=by
 refine ⟨⟨I.ok.mod,I.ok.kind,I.ok.glob,I.ok.blt,Yal hz I.ok.above,I.ok.inj,I.ok.has,fun x c h e=>Yal hz (I.ok.cab x c h e),I.ok.hd,I.ok.frames,I.ok.stk,I.ok.exf,hb,hbz,I.ok.noex,I.ok.exfs,hf,I.ok.frf⟩,I.os.trans ho.symm,I.bare,(Un.kept k).trans I.base,I.loc,I.cell,I.free,I.freeC,I.pin,I.hok,I.len⟩
theorem Inv.xput {h':Heap}{t':Nat}{e dx:Addr}{oe:Obj}{vs:Array Value}{fs:List (Str×V)}(I:Inv X pins σ H s)(hH:H e=none)(hlo:X.s₀.heap.objs.size<=e)(ge:s.heap.get? e=some oe)(gd:oe.data=.fields vs)(hp:∀ p∈X.pn++pins,p.1≠e)
  (hdx:s.heap.objs.size<=dx\/∃ fs0,H dx=some (.xd fs0)) (k:∀ b u,b≠e->b≠dx->s.heap.get? b=some u->h'.get? b=some u) (new:jaB X.prog X.w (upd H dx (.xd fs)) h' dx (.xd fs)):Inv X pins σ (upd H dx (.xd fs)) { s with heap:=h',toks:=t' }:=by
 have nt:∀ b o,s.heap.get? b=some o->H b=none->b≠dx:=fun b o g n z=>by
  rcases hdx with q | ⟨fs0,q⟩
  ·rw [z] at g; exact absurd (Yaj g) (Nat.not_lt.mpr q)
  ·rw [z,q] at n; cases n
 have ne:∀ b u,H b=some u->b≠e:=fun b u g z=>by rw [z,hH] at g; cases g
 have nx:∀ b u,H b=some u->(∀ f0,u≠.xd f0)->b≠dx:=fun b u g hu z=>by
  rcases hdx with q | ⟨fs0,q⟩
  ·rw [z,I.hok.fresh q] at g; cases g
  ·rw [z,q] at g; cases g; exact hu fs0 rfl
 obtain ⟨od,god⟩:∃ o,h'.get? dx=some o:=by obtain ⟨_,⟨o,_,_,z,_⟩,_⟩:=new; exact ⟨o,z⟩
 obtain ⟨m0,⟨oL,esL,epL,gL,rL⟩,hLk⟩:=id I.loc
 have hLe:X.env.locals≠e:=fun z=>by
  rw [z,ge] at gL
  cases gL
  have:=rL.1
  rw [gd] at this; cases this
 refine I.step (g':=s.gens) (d':=s.drawn) (ch:=[e]) (fun b hb=>?_) (fun b o _ _ hc g n=>k b o (fun z=>hc (by simp [z])) (nt b o g n) g) (fun b o _ _ hc g n=>⟨o.slots,k b o (fun z=>hc (by simp [z])) (nt b o g n) g⟩) (fun b o _ g n=>by rw [jac (nt b o g n)]; exact n)
  (fun b o hc g=>?_) (fun b ys g=>by rw [jac (nx b _ g fun _ z=>nomatch z)]; exact g) (fun b o u g=>by rw [jac (nx b _ g fun _ z=>nomatch z)]; exact g) (fun b ps g=>⟨#[],by rw [jac (nx b _ g fun _ z=>nomatch z),g]; simp⟩) (fun m hm=>?_) (fun a o g=>?_) I.bare
 ·have z:b=e:=by simpa using hb
  subst z
  refine ⟨.inr hlo,Ne.symm hLe,fun x c q z=>?_,hp⟩
  obtain ⟨v,o',ho,hc⟩:=I.cell x c q
  rw [z,ge] at ho
  cases ho
  rw [gd] at hc; cases hc
 ·by_cases z:b=dx
  ·exact ⟨od,z ▸ god⟩
  ·exact ⟨o,k b o (fun z=>hc (by simp [z])) z g⟩
 ·obtain ⟨o,es,ep,ho,r⟩:=hm
  exact ⟨o,es,ep,k _ o hLe (nt _ o ho I.free) ho,r⟩
 ·by_cases z:a=dx
  ·subst z
   rw [jag] at g
   cases g
   exact new
  ·rw [jac z] at g
   refine (I.hok a o g).stay (fun b v hb q=>?_) (fun b q=>by rw [jac (nx b _ q fun _ z=>nomatch z)]; exact q) fun b ys q=>by rw [jac (nx b _ q fun _ z=>nomatch z)]; exact q
   rcases hb with z' | z'
   ·subst z'; exact k b v (ne b _ g) z q
   ·exact k b v (ne b _ z') (nx b _ z' fun _ z=>nomatch z) q
theorem jdM {g:Str}:∀ {fs:List (Str×V)},g∉fs.map (·.1)->fs.lookup g=none
 | [],_=>rfl
 | (a,v)::r,h=>by
  rw [YaJ]
  have:(g == a)=false:=by
   rw [beq_eq_false_iff_ne]
   exact fun z=>h (by rw [z]; simp)
  rw [this]
  exact jdM fun z=>h (by simp at z ⊢; exact .inr z)
theorem xset {A:Around}{E:Value->Shared->Prop}{Q:Unit->Shared->Prop}{C N D e:Addr}{bmB:List Value}{B newId sa owner:String}{mN mD:Str->Option Value}{f:Str}{v:V}{u:Value}{oe:Obj}{vs:Array Value}{fs:List (Str×V)}(I:Inv X pins σ H s)(T:Two s.heap C N D mN mD bmB newId)(SF:Ydi B bmB sa owner)
  (s1:mN "__setattr__" = none) (s2:mD "__setattr__" = none) (n1:mN f=none) (n2:mD f=none) (hB:YaX (.type B) f=pure none) (hH:H e=none) (hlo:X.s₀.heap.objs.size<=e) (ge:s.heap.get? e=some oe) (hc:oe.cls=.ref C) (gd:oe.data=.fields vs) (hp:∀ p∈X.pn++pins,p.1≠e)
  (hd:(oe.dict=none/\fs=[])\/∃ dx,oe.dict=some dx/\H dx=some (.xd fs)) (hl:fs.length < 1000) (ru:RelV v u)
  (q:∀ s' dx,Inv X pins σ (upd H dx (.xd (putF f v fs))) s'->s'.heap.get? e=some { oe with dict:=some dx }->(∀ b u,b≠e->b≠dx->s.heap.get? b=some u->s'.heap.get? b=some u)->(oe.dict=some dx\/(oe.dict=none/\H dx=none))->Q () s') :
  wpAny (model X.prog X.w) A (setAttr (.ref e) f u) Q E s:=by
 have nc:∀ c,oe.data≠.cls c:=fun c z=>by rw [gd] at z; cases z
 have fin:∀ (mA:Str->Option Value) (h':Heap) (tk:Nat) (dx:Addr),(∀ g,RelO (fs.lookup g) (mA g))->(s.heap.objs.size<=dx\/∃ fs0,H dx=some (.xd fs0))->(oe.dict=some dx\/(oe.dict=none/\H dx=none))->h'.get? e=some { oe with dict:=some dx }->h'.Ns1 dx (fun y=>if y=f then some u else mA y)->(∀ b u,b≠e->b≠dx->s.heap.get? b=some u->h'.get? b=some u)->Q () { s with heap:=h',toks:=tk }:=fun mA h' tk dx r z0 z1 z2 z3 z4=>by
  refine q _ dx (I.xput hH hlo ge gd hp z0 z4 ⟨_,z3,fun g=>?_⟩) z2 z4 z1
  rw [jcp]
  by_cases hg:g=f
  ·rw [if_pos hg,if_pos hg]; exact ru
  ·rw [if_neg hg,if_neg hg]; exact r g
 obtain ⟨hh,gg,dr,tk,os⟩:=s
 rcases hd with ⟨dn,rfl⟩ | ⟨dx,de,hx⟩
 ·refine T.set (mA:=fun _=>none) (ns:=[]) SF s1 s2 n1 n2 hB ge hc nc (.inl ⟨dn,fun _=>rfl⟩) Within.nil (by rw [YbJ]; decide) fun h' tk' dx z1 z2 z3 z4 z5=>?_
  rcases z1 with z1 | ⟨_,rfl⟩
  ·rw [dn] at z1; cases z1
  ·exact fin (fun _=>none) h' tk' _ (fun g=>YcE) (.inl (Yaf _)) (.inr ⟨dn,I.hok.fresh (Yaf _)⟩) z3 z4 z5
 ·obtain ⟨mA,n,r⟩:=(show jaB X.prog X.w H hh dx (.xd fs) from I.hok dx _ hx)
  refine T.set (mA:=mA) (ns:=fs.map (·.1)) SF s1 s2 n1 n2 hB ge hc nc (.inr ⟨dx,de,fun z=>(by rw [z,hH] at hx; cases hx),n⟩) (fun g hg=>?_) (by rw [Yac,YbJ]; omega) fun h' tk' dx' z1 z2 z3 z4 z5=>?_
  ·refine YbV fun z=>hg ?_
   have:=r g
   rw [jdM z] at this
   exact RelO.none_of this
  ·rcases z1 with z1 | ⟨z1,_⟩
   ·have z:dx'=dx:=by rw [de] at z1; exact (Yan z1).symm
    subst z
    exact fin _ h' tk' _ r (.inr ⟨fs,hx⟩) (.inl de) z3 z4 z5
   ·rw [de] at z1; cases z1
theorem xstep {Q:Flow->Shared->Prop}{C N D e:Addr}{bmB:List Value}{B newId sa owner:String}{mN mD:Str->Option Value}{f self a:Str}{v:V}{oe:Obj}{vs:Array Value}{fs:List (Str×V)}{i j:Nat}{p1 p2 p3 pos:Pos}(I:Inv X [(e,oe)] σ H s)(hpn:X.pn=[])(T:Two X.base C N D mN mD bmB newId)(SF:Ydi B bmB sa owner)
  (s1:mN "__setattr__" = none) (s2:mD "__setattr__" = none) (n1:mN f=none) (n2:mD f=none) (hB:YaX (.type B) f=pure none) (hlo:X.s₀.heap.objs.size<=e) (hc:oe.cls=.ref C) (gd:oe.data=.fields vs) (hd:(oe.dict=none/\fs=[])\/∃ dx,oe.dict=some dx/\H dx=some (.xd fs)) (hl:fs.length < 1000)
  (hs:PE X (.Name self p1) (tVar i)) (ha:PE X (.Name a p3) (tVar j)) (hi:σ[i]?=some (some (.ref e))) (hj:σ[j]?=some (some v)) (hsw:Ycf (.Name a p3) (some (.Attribute (.Name self p1) f p2)) pos.line X.env=pure false)
  (q:∀ s' dx,Inv X [(e,{ oe with dict:=some dx })] σ (upd H dx (.xd (putF f v fs))) s'->(oe.dict=some dx\/(oe.dict=none/\H dx=none))->Q .next s') :
  wpAny (model X.prog X.w) X.A (exec (.Assign [.Attribute (.Name self p1) f p2] (.Name a p3) pos) X.env) Q X.xe s:=by
 refine plainObj_wpAny_Assign_Attribute (thn (ha _ s σ H (fun y H1=>y=v/\H1=H) I ⟨v,hj,rfl,rfl⟩) fun u s3 ⟨y,H1,I1,ry,hy,hH1⟩=>?_) hsw
 subst hy
 subst hH1
 refine thn (hs _ s3 σ H1 (fun z H2=>z=.ref e/\H2=H1) I1 ⟨_,hi,rfl,rfl⟩) fun ov s4 ⟨z,H2,I2,rz,hz,hH2⟩=>?_
 subst hz
 subst hH2
 obtain rfl:ov=Ybe e:=rz
 obtain ⟨ge,hH,hL,hfs,hcl⟩:=I2.pin (e,oe) (by simp)
 have J:Inv X [] σ H2 s4:=I2.pins_of fun p hp=>absurd hp (by simp)
 refine xset J (T.keeps I2.bk) SF s1 s2 n1 n2 hB hH hlo ge hc gd (fun p hp=>by rw [hpn] at hp; simp at hp) hd hl ry fun s5 dx J5 g5 k5 z5=>?_
 refine q s5 dx (J5.pins_of fun p hp=>?_) z5
 obtain rfl:p=(e,{ oe with dict:=some dx }):=by simpa using hp
 refine ⟨g5,?_,hL,hfs,fun v z=>hcl v z⟩
 show upd H2 dx _ e=none
 rw [jac,hH]
 rintro rfl
 rcases z5 with z5 | z5
 ·rcases hd with ⟨w0,_⟩ | ⟨dx',w1,w2⟩
  ·rw [w0] at z5; cases z5
  ·rw [w1] at z5
   cases z5
   rw [hH] at w2; cases w2
 ·have:=J5.free
  obtain ⟨_,_,_⟩:=J5.hok e _ jag
  rename_i mA n r
  obtain ⟨o',es,ep,g',d',_⟩:=n
  rw [g5] at g'
  cases g'
  rw [show ({ oe with dict:=some e }:Obj).data=oe.data from rfl,gd] at d'
  cases d'
end
theorem jh2 {CX:CXT}{P:Program}{w:World}{K:Yaa}{mg:Str->Option Value}{base:Heap}{k:Nat}{f:Addr}{name qual:Str}{params:YcF}{body:List Stmt}{scope:Scope}{dV kV doc pm cdv ct oc:Value}{an od:Option Addr}{osl:Array (Option Value)}{N ps:List Str}
  {A:Around} {outer:List Env} {s sb:Shared} {H:Hp} {E:XK} {args:Args} {us:List Value} {vs:List V} {e:Addr} {oe:Obj} {R:Result->Shared->Prop}
  (lk:K.lookup f=some ⟨oc,od,.func (Ya2 name qual params body scope dV kV doc pm an cdv ct),osl⟩) (hcd:Ybu K cdv qual=true) (S:FnScope N ps scope) (hr:Room (k + 1) A) (e0:Env0 P w K mg base A outer s H)
  (hb:BindsTo s (Ya2 name qual params body scope dV kV doc pm an cdv ct) args (ps.zip us)) (r:Vals vs us) (hl:vs.length=ps.length) (ge:s.heap.get? e=some oe) (hH:H e=none) (hnc:∀ v,oe.data≠.cell v) (hfr:e∉frs outer)
  (kb:∀ b o,sb.heap.get? b=some o->s.heap.get? b=some o) (hos:sb.os=s.os) (hz:sb.heap.objs.size<=s.heap.objs.size) (hbs:∀ b o,base.get? b=some o->sb.heap.get? b=some o/\H b=none) (hbz:base.objs.size<=sb.heap.objs.size) (hfn:sb.heap.FunFrames base outer)
  (hbody:∀ s1,Inv { cxOf CX P w K mg base N qual scope f cdv A outer s H E with s₀:=sb } [(e,oe)] (start N vs) H s1->wpAny (model P w) (A.deeper (envOfC qual scope s.heap.objs.size f cdv)) (execs body (envOfC qual scope s.heap.objs.size f cdv)) (fun fl s'=>fl=.next/\R (.ok (.ret .none)) s') (fun _ _=>False) s1) :
  codeAny (model P w) A (.call (.ref f) args) R s:=by
 have KX:K.In s.heap:=e0.mod.kin.keeps fun b o z=>(e0.bs b o z).1
 have lim:s.heap.NoLimit:=e0.mod.nolimit.keeps fun b o z=>(e0.bs b o z).1
 have kind:∀ y∈ps.zip us,scope.names.lookup y.1=some .local\/(scope.names.lookup y.1=some .cell/\((Ybd (s.heap.objs.size + 1) scope.names []).lookup y.1).isSome=true):=fun ⟨n,v⟩ hy=>by
  rcases S.par n (Yci hy).1 with q | q
  ·exact .inl q
  ·exact .inr ⟨q,Ycg _ _ _ (.inl q)⟩
 refine YdF hr.depth (KX _ _ lk) rfl S.co S.gen rfl (Ydu KX hcd) (hb _ _ _ _ ?_)
 refine Yc4 S.kind kind fun env he s1 x=>?_
 subst he
 refine ⟨lim.keeps x.toInCall.keep,Yf2 ?_⟩
 have I:Inv (cxOf CX P w K mg base N qual scope f cdv A outer s H E) [] (start N vs) H s1:=jcr S hr.hd e0 hl r x
 have I1:Inv { cxOf CX P w K mg base N qual scope f cdv A outer s H E with s₀:=sb } [] (start N vs) H s1:=I.sooner kb hos hz hbs hbz hfn
 have I2:Inv { cxOf CX P w K mg base N qual scope f cdv A outer s H E with s₀:=sb } [(e,oe)] (start N vs) H s1:=I1.pins_of fun p hp=>by
  obtain rfl:p=(e,oe):=by simpa using hp
  exact ⟨x.toInCall.keep _ _ ge,hH,YaF (Yaj ge),hfr,hnc⟩
 refine YaL (hbody s1 I2) (fun fl s' ⟨z,h⟩=>?_) fun _ _ z=>z.elim
 subst z
 exact h
section
variable {X:Cx}{pins:List (Addr×Obj)}{σ:St}{H:Hp}{s:Shared}
noncomputable def jd7 (X:Cx)(C:Addr)(s:Shared)(H:Hp)(Nm:List Str)(qual:Str)(scope:Scope)(fI:Addr)(cdv:Value)(body:List Stmt)(vs:List V)(fs:List (Str×V)):Prop:=
 ∀ (A':Around) (sM s1:Shared) (e t:Addr),Inv { cxOf (CX1 X.prog X.w) X.prog X.w X.K X.mg X.base Nm qual scope fI cdv A' X.stack sM H (fun _ _ _=>False) with s₀:=s } [(e,{ cls:=.ref C,data:=.fields #[.ref t,.none,.none,.none,.bool false,.none] })] (start Nm (.ref e::vs)) H s1->s.heap.objs.size<=e->
  wpAny (model X.prog X.w) (A'.deeper (envOfC qual scope sM.heap.objs.size fI cdv)) (execs body (envOfC qual scope sM.heap.objs.size fI cdv)) (fun fl s'=>fl=.next/\∃ dx,H dx=none/\Inv { cxOf (CX1 X.prog X.w) X.prog X.w X.K X.mg X.base Nm qual scope fI cdv A' X.stack sM H (fun _ _ _=>False) with s₀:=s } [(e,{ cls:=.ref C,dict:=some dx,data:=.fields #[.ref t,.none,.none,.none,.bool false,.none] })] (start Nm (.ref e::vs)) (upd H dx (.xd fs)) s') (fun _ _=>False) s1
theorem xmake {Q:Value->Shared->Prop}{C N D fI:Addr}{bmB:List Value}{B newId initId:String}{mN mD:Str->Option Value}{k:Nat}{name qual:Str}{params:YcF}{body:List Stmt}{scope:Scope}{dV kV doc pm cdv ct:Value}{an od:Option Addr}{osl:Array (Option Value)}{Nm ps:List Str}{us:List Value}{vs:List V}{fs:List (Str×V)}
  (I:Inv X pins σ H s) (T:Two X.base C N D mN mD bmB newId) (F:YeF B newId initId bmB) (hD:mD "__init__" = none) (hi:mN "__init__" = some (.ref fI)) (lk:X.K.lookup fI=some ⟨.type "function",od,.func (Ya2 name qual params body scope dV kV doc pm an cdv ct),osl⟩) (hcd:Ybu X.K cdv qual=true) (S:FnScope Nm ps scope) (hr:Room (k + 2) X.A)
  (hb:Binds X.K (Ya2 name qual params body scope dV kV doc pm an cdv ct) ps []) (r:Vals vs us) (hl:vs.length + 1=ps.length) (hz:us.length<=Yae) (hbody:jd7 X C s H Nm qual scope fI cdv body vs fs)
  (q:∀ e dx s',H dx=none->Inv X pins σ (upd H dx (.xd fs)) s'->Lies X.s₀.heap.objs.size X.pn (upd H dx (.xd fs)) s'.heap e (.ref C) (some dx)->(∃ t,s'.heap.get? e=some { cls:=.ref C,dict:=some dx,data:=.fields #[.ref t,.none,.none,.none,.bool false,.none] })->Q (.ref e) s'):wpAny (model X.prog X.w) X.A (call (.ref C) us) Q X.xe s:=by
 obtain ⟨hh,gg,dr,tk,os⟩:=s
 have I0:=I
 refine (T.keeps I.bk).make F hD hi (I.kIn _ _ lk) rfl hz fun h' e hm he=>?_
 obtain ⟨t,ge,_,_⟩:=hm.there
 have e0:=I.env0.make C us []
 have e1:Env0 X.prog X.w X.K X.mg X.base (X.A.under (.builtin "type.__call__" ⟨.ref C::us,[]⟩)) X.stack ⟨h',gg,dr,tk,os⟩ H:=⟨e0.frames,e0.mod,fun b o z=>⟨hm.keeps _ _ (e0.bs b o z).1,(e0.bs b o z).2⟩,Yal e0.bsz (YbD (Ya9 he (Yaj ge))),e0.funs.of_keeps fun b o z _=>⟨o,hm.keeps _ _ z,rfl⟩,e0.frf,e0.hok.kept hm.keeps,e0.bare⟩
 have hH:H e=none:=I.hok.fresh he
 refine YdN ?_
 refine jh2 (k:=k) (CX:=CX1 X.prog X.w) (E:=fun _ _ _=>False) (sb:=⟨hh,gg,dr,tk,os⟩) (us:=.ref e::us) (vs:=.ref e::vs) lk hcd S (hr.make C us []) e1 ?_ (.cons rfl r) (by simpa using hl) ge hH (fun v z=>by cases z) (fun z=>?_) hm.keeps rfl (YbD (Ya9 he (Yaj ge))) e0.bs e0.bsz e0.funs fun s1 J=>?_
 ·have:=hb ⟨h',gg,dr,tk,os⟩ (.ref e::us) (e1.mod.kin.keeps fun b o z=>(e1.bs b o z).1) (by simp; have:=r.length; omega)
  simpa using this
 ·obtain ⟨_,o,ho,_⟩:=e0.funs.mem z
  exact absurd (Yaj ho) (Nat.not_lt.mpr he)
 ·refine YaL (hbody _ _ s1 e t J he) (fun fl s' ⟨z,dx,hdx,J'⟩=>⟨z,rfl,?_⟩) fun _ _ z=>z
  have Ix:Inv X pins σ (upd H dx (.xd fs)) s':=I.call' (ch:=[]) J'.os J'.base J'.hok J'.bare fun b z=>absurd z (by simp)
  obtain ⟨g1,g2,_⟩:=J'.pin _ (YaA _ (List.mem_singleton.mpr rfl))
  refine q e dx s' hdx Ix ⟨⟨_,_,g1,rfl,rfl,rfl,.inl rfl⟩,g2,Yal I.sz he,fun p hp z=>?_⟩ ⟨t,g1⟩
  exact absurd (Yaj (I.pin p (YaR _ hp)).1) (Nat.not_lt.mpr (z ▸ he))
end
section
variable {X:Cx}{H:Hp}{s:Shared}{C N D fI:Addr}{bmB:List Value}{B newId sa owner:String}{mN mD:Str->Option Value}{qual self f a f2 a2:Str}{scope:Scope}{cdv:Value}{p1 p2 p3 pos q1 q2 q3 qos:Pos}{v v2:V}
theorem jn4 (T:Two X.base C N D mN mD bmB newId)(SF:Ydi B bmB sa owner)(s1:mN "__setattr__" = none)(s2:mD "__setattr__" = none)(n1:mN f=none)(n2:mD f=none)(hB:YaX (.type B) f=pure none)
  (h0:Vis scope self) (h1:Vis scope a) (d0:(self == ("__debug__" : Str))=false) (d1:(a == ("__debug__" : Str))=false) (c0:(self == ("__classdict__" : Str))=false) (c1:(a == ("__classdict__" : Str))=false)
  (sw:∀ env,Ycf (.Name a p3) (some (.Attribute (.Name self p1) f p2)) pos.line env=pure false) :
  jd7 X C s H [self,a] qual scope fI cdv [.Assign [.Attribute (.Name self p1) f p2] (.Name a p3) pos] [v] [(f,v)]:=by
 intro A' sM s1' e t J he
 have J':=J.wish fun _ _=>False
 refine YbN (xstep (X:=Cx.wish _ fun _ _=>False) (i:=0) (j:=1) (fs:=[]) J' rfl T SF s1 s2 n1 n2 hB he rfl rfl (.inl ⟨rfl,rfl⟩) (by decide) (ja1 rfl h0 d0 c0) (ja1 rfl h1 d1 c1) rfl rfl (sw _) fun s' dx K z=>?_)
 refine Yah ⟨rfl,dx,?_,K.unwish⟩
 rcases z with z | z
 ·cases z
 ·exact z.2
theorem jn3 (T:Two X.base C N D mN mD bmB newId)(SF:Ydi B bmB sa owner)(s1:mN "__setattr__" = none)(s2:mD "__setattr__" = none)(n1:mN f=none)(n2:mD f=none)(hB:YaX (.type B) f=pure none)(m1:mN f2=none)(m2:mD f2=none)(hB2:YaX (.type B) f2=pure none)(hne:f≠f2)
  (h0:Vis scope self) (h1:Vis scope a) (h2:Vis scope a2) (d0:(self == ("__debug__" : Str))=false) (d1:(a == ("__debug__" : Str))=false) (d2:(a2 == ("__debug__" : Str))=false) (c0:(self == ("__classdict__" : Str))=false) (c1:(a == ("__classdict__" : Str))=false) (c2:(a2 == ("__classdict__" : Str))=false)
  (sw:∀ env,Ycf (.Name a p3) (some (.Attribute (.Name self p1) f p2)) pos.line env=pure false) (sw2:∀ env,Ycf (.Name a2 q3) (some (.Attribute (.Name self q1) f2 q2)) qos.line env=pure false) :
  jd7 X C s H [self,a,a2] qual scope fI cdv [.Assign [.Attribute (.Name self p1) f p2] (.Name a p3) pos,.Assign [.Attribute (.Name self q1) f2 q2] (.Name a2 q3) qos] [v,v2] [(f,v),(f2,v2)]:=by
 intro A' sM s1' e t J he
 have J':=J.wish fun _ _=>False
 refine YbN (xstep (X:=Cx.wish _ fun _ _=>False) (i:=0) (j:=1) (fs:=[]) J' rfl T SF s1 s2 n1 n2 hB he rfl rfl (.inl ⟨rfl,rfl⟩) (by decide) (ja1 rfl h0 d0 c0) (ja1 rfl h1 d1 c1) rfl rfl (sw _) fun s' dx K z=>?_)
 have hn:H dx=none:=by
  rcases z with z | z
  ·cases z
  ·exact z.2
 refine YbN (xstep (X:=Cx.wish _ fun _ _=>False) (i:=0) (j:=2) (fs:=[(f,v)]) K rfl T SF s1 s2 m1 m2 hB2 he rfl rfl (.inr ⟨dx,rfl,jag⟩) (by simp) (ja1 rfl h0 d0 c0) (ja1 rfl h2 d2 c2) rfl rfl (sw2 _) fun s'' dx' K2 z2=>?_)
 have e1:dx'=dx:=by
  rcases z2 with z2 | z2
  ·exact (Yan z2).symm
  ·exact nomatch z2.1
 subst e1
 have K3:=K2.unwish
 have e2:putF f2 v2 [(f,v)]=[(f,v),(f2,v2)]:=by show (if f=f2 then _ else _)=_; rw [if_neg hne]; rfl
 have e3:upd (upd H dx' (.xd (putF f v []))) dx' (.xd (putF f2 v2 [(f,v)]))=upd H dx' (.xd [(f,v),(f2,v2)]):=by
  rw [e2]
  funext b
  by_cases hb:b=dx'
  ·rw [hb,jag,jag]
  ·rw [jac hb,jac hb,jac hb]
 rw [e3] at K3
 exact Yah ⟨rfl,dx',hn,K3⟩
end
section
variable {M:Model}{A:Around}{E:Value->Shared->Prop}{env:Env}{C N D:Addr}{bmB:List Value}{newId:String}{mN mD:Str->Option Value}
theorem Two.raise {s:Shared}{x:Sem Value}{Q:Flow->Shared->Prop}(hbase:bmB.contains (.type "BaseException")=true)(hh:A.handled=none)
  (h:wpAny M A x (fun v s1=>∃ e t dx,v=.ref e/\Two s1.heap C N D mN mD bmB newId/\s1.heap.get? e=some { cls:=.ref C,dict:=some dx,data:=.fields #[.ref t,.none,.none,.none,.bool false,.none] }/\E (.ref e) s1) E s):wpAny M A (raiseStmt env (some x) none) Q E s:=by
 have hb:(Ybe C::.ref D::bmB).contains (.type "BaseException")=true:=by rw [Ybv,Ybv,hbase,Ycw,Ycw]
 unfold raiseStmt
 refine Yab (YaL h (fun v s1 h1=>?_) fun _ _ z=>z)
 obtain ⟨e,t,dx,rfl,T,he,hE⟩:=h1
 obtain ⟨nm,q,bs,sn,sub,ab,col,dd,k0,k1,k2,k3,k5,hC⟩:=T.cls
 obtain ⟨hp,g,d,tk,os⟩:=s1
 repeat (first | with_reducible refine Yau he ?_ | with_reducible refine Yau hC ?_ | (with_reducible refine YbH hC ?_; rw [hb]) | wp_step)
 exact wpAny_raiseNew_none hh hE
end
noncomputable def jim (X:Cx)(C:Addr)(n:Nat)(mk:List V->List (Str×V))(t:TA):TS:=fun _ σ H=>t σ H fun vs H1=>vs.length=n/\∀ (pins:List (Addr×Obj)) (e dx:Addr) (s':Shared),H1 dx=none->Inv X pins σ (upd H1 dx (.xd (mk vs))) s'->Lies X.s₀.heap.objs.size X.pn (upd H1 dx (.xd (mk vs))) s'.heap e (.ref C) (some dx)->X.xe (.ref e) s'
theorem jhF {X:Cx}{C N D fI:Addr}{bmB:List Value}{B newId initId:String}{mN mD:Str->Option Value}{k:Nat}{name qual x:Str}{params:YcF}{body:List Stmt}{scope:Scope}{dV kV doc pm cdv ct:Value}{an od:Option Addr}{osl:Array (Option Value)}{Nm ps:List Str}{mk:List V->List (Str×V)}{t:TA}{a0:Expr}{as:List Expr}{p cpos pos:Pos}{n:Nat}
  (T:Two X.base C N D mN mD bmB newId) (F:YeF B newId initId bmB) (hD:mD "__init__" = none) (hi:mN "__init__" = some (.ref fI)) (lk:X.K.lookup fI=some ⟨.type "function",od,.func (Ya2 name qual params body scope dV kV doc pm an cdv ct),osl⟩) (hcd:Ybu X.K cdv qual=true) (S:FnScope Nm ps scope) (hr:Room (k + 2) X.A)
  (hb:Binds X.K (Ya2 name qual params body scope dV kV doc pm an cdv ct) ps []) (hn:n + 1=ps.length) (hn8:n<=8) (hbase:bmB.contains (.type "BaseException")=true) (hg:Gl X x) (hm:X.mg x=some (.ref C)) (hk:Ya5 X.K (.ref C)=true) (ha:PA X (a0::as) t) (hbody:∀ (vs:List V) (s:Shared) (H:Hp),vs.length=n->jd7 X C s H Nm qual scope fI cdv body vs (mk vs))
  (hdb:(x == ("__debug__" : Str))=false:=by decide) (he:Yar (a0::as) X.env=(false,eval a0 X.env)::Yar as X.env:=by rfl) (hpl:(backTo cpos (Yar as X.env)).any (·.1)=false:=by rfl) :
  PS X (.Raise (some (.Call (.Name x p) (a0::as) [] cpos)) none pos) (jim X C n mk t):=by
 intro pins s σ H D0 I h
 have go:wpAny (model X.prog X.w) X.A (eval (.Call (.Name x p) (a0::as) [] cpos) X.env) (fun v s1=>∃ e t dx,v=.ref e/\Two s1.heap C N D mN mD bmB newId/\s1.heap.get? e=some { cls:=.ref C,dict:=some dx,data:=.fields #[.ref t,.none,.none,.none,.bool false,.none] }/\X.xe (.ref e) s1) X.xe s:=by
  refine Ybx (jbM I hg hm ?_ hdb)
  refine Ydv (h₀:=X.base) I.ok.mod.kin hk (thn (ha cpos pins s σ H _ I h) fun us s1 ⟨vs,H1,I1,r,hl,q⟩=>⟨I1.kIn,?_⟩) he hpl
  refine xmake (k:=k) I1 T F hD hi lk hcd S hr hb r (by omega) (by have:=r.length; rw [YbJ,Yer]; omega) (hbody vs s1 H1 hl) fun e dx s' z1 J l ⟨t',g⟩=>?_
  exact ⟨e,t',dx,rfl,T.keeps J.bk,g,q pins e dx s' z1 J l⟩
 rw [arm_exec_Raise]
 first
  | exact Yab (Yb8 (Two.raise hbase hr.hd (Yab (YaL go (fun v s1 z=>Yab (Yb8 (Yah z))) fun _ _ z=>z))))
  | (simp only [evalOpt,Yfr]; exact Yab (Yb8 (Two.raise hbase hr.hd (Yab (YaL go (fun v s1 z=>Yab (Yb8 (Yah z))) fun _ _ z=>z)))))
theorem jgw {X:Cx}{pins:List (Addr×Obj)}{σ:St}{H:Hp}{s:Shared}{M:Model}{A:Around}{E:Value->Shared->Prop}{i:Nat}{x:Str}{pos:Pos}{Q:Unit->Shared->Prop}(I:Inv X pins σ H s)(hN:X.N.Nodup)(hi:X.N[i]?=some x)(hk:X.env.scope.names.lookup x=some .local)
  (h:∀ s',Inv X pins (σ.set i none) H s'->Q () s'):wpAny M A (do bindName X.env x .none; unbindBehindTheSuite X.env x pos) Q E s:=by
 obtain ⟨m,hn,hl⟩:=id I.loc
 have hcls:(X.env.scope.kind == .class || (X.env.scope.kind == .module && X.env.locals != X.env.globals))=false:=by rw [I.ok.kind]; rfl
 have hiσ:i < σ.length:=by rw [I.len]; exact (List.getElem?_eq_some_iff.mp hi).1
 have cne:=I.cne
 refine wpAny_nameGoes_keeps hk hn hcls fun h' v hn' hs=>?_
 have lt0:∀ b o,X.s₀.heap.get? b=some o->b≠X.env.locals:=fun b o e=>YaF (Yaq (Yaj e) I.ok.above)
 have tr:HOk X.prog X.w H h':=fun b ob e=>by
  refine (I.hok b ob e).stay (fun c w' hc q=>(hs.2 c ?_).trans q) (fun _ q=>q) fun _ _ q=>q
  rintro rfl
  rcases hc with rfl | hc
  ·rw [I.free] at e; cases e
  ·rw [I.free] at hc; cases hc
 refine h _ ⟨I.ok,I.os,I.bare,⟨fun b o e n hb hx=>(hs.2 b (lt0 b o e)).trans (I.base.keep b o e n hb hx),fun b o e n hb hx=>?_,I.base.free,fun b o e hx=>?_,I.base.tups,I.base.frzs,I.base.tbls⟩,⟨_,hn',fun j y v' e1 e2 e3=>?_⟩,fun y c e=>?_,I.free,I.freeC,fun p hp=>?_,tr,by simpa using I.len⟩
 ·obtain ⟨sl,e1⟩:=I.base.slot b o e n hb hx
  exact ⟨sl,(hs.2 b (lt0 b o e)).trans e1⟩
 ·obtain ⟨o',e1⟩:=I.base.there b o e hx
  exact ⟨o',(hs.2 b (lt0 b o e)).trans e1⟩
 ·by_cases hj:j=i
  ·subst hj
   rw [Ybf hiσ] at e2
   cases e2
  ·rw [YaS (Ne.symm hj)] at e2
   have hy:y≠x:=fun z=>hj (jb2 hN e1 (z ▸ hi))
   obtain ⟨u,r,l⟩:=hl j y v' e1 e2 e3
   refine ⟨u,r,l.imp (fun z=>⟨z.1,by show (if y=x then v else m y)=some u; rw [if_neg hy]; exact z.2⟩) fun z=>⟨z.1,?_⟩⟩
   obtain ⟨c,ec,o,ho,hd⟩:=z.2
   exact ⟨c,ec,o,(hs.2 c (cne y c ec)).trans ho,hd⟩
 ·obtain ⟨w',o,ho,hd⟩:=I.cell y c e
  exact ⟨w',o,(hs.2 c (cne y c e)).trans ho,hd⟩
 ·obtain ⟨p1,p2,p3,p4⟩:=I.pin p hp
  exact ⟨(hs.2 p.1 p3).trans p1,p2,p3,p4⟩
end L2

namespace L2
open PySem PySem.Spec PyProof.Rows PySem.W
set_option maxHeartbeats 4000000
section
variable {M:Model}{A:Around}{E:Value->Shared->Prop}{h:Heap}{g:Array Yen}{d:Drawn}{t:Nat}{os:OsState}
variable {nm q nm' q':Str}{C N D ND e:Addr}{bs bm bs' bm':List Value}{hdct hdct':Bool}{sn sn':List Str}{sub sub':List Value}{ab ab':Bool}{col col':Option Bool}{dd dd':Option Addr}{k0 k1 k2 k3 k5 l0 l1 l2 l3 l5:Option Value}{newId newId':String}{oe:Obj}
theorem jeu {Q:Bool->Shared->Prop}(hC:h.get? C=some (YcY nm q C N bs bm hdct sn sub ab col dd k0 k1 k2 k3 k5 newId))(hD:h.get? D=some (YcY nm' q' D ND bs' bm' hdct' sn' sub' ab' col' dd' l0 l1 l2 l3 l5 newId'))(he:h.get? e=some oe)(hcls:oe.cls=.ref C)(hb:bm'.contains (.type "BaseException")=true)
  (hq:Q ((Ybe C::bm).contains (.ref D)) ⟨h,g,d,t,os⟩):wpAny M A (excMatches (.ref e) (.ref D)) Q E ⟨h,g,d,t,os⟩:=by
 have hB:(Ybe D::bm').contains (.type "BaseException")=true:=by rw [Ybv,hb,Ycw]
 have f:=tc_notTuple
 obtain ⟨b,eb⟩:∃ b,b=(Ybe C::bm).contains (.ref D):=⟨_,rfl⟩
 rw [<- eb] at hq
 unfold excMatches
 repeat (first | (with_reducible refine Yau he ?_; rw [hcls]) | with_reducible refine Yau hD ?_ | (with_reducible refine YbH hD ?_; rw [hB]) | (with_reducible refine YbH hC ?_; rw [<- eb]) | wp_step)
 cases b with
 | true=>wp_walk; exact hq
 | false=>wp_walk; exact hq
end
section
variable {X:Cx}{pins:List (Addr×Obj)}{σ:St}{H:Hp}{s:Shared}
theorem jdT {M:Model}{A:Around}{E:Value->Shared->Prop}{ea:Addr}{cls:Value}{dx:Option Addr}{Q:Unit->Shared->Prop}(I:Inv X [] σ H s)(l:Lies X.s₀.heap.objs.size X.pn H s.heap ea cls dx)
  (q:∀ h',Inv X [] σ H { s with heap:=h' }->Lies X.s₀.heap.objs.size X.pn H h' ea cls dx->Q () { s with heap:=h' }):wpAny M A (Yeh (.ref ea) none) Q E s:=by
 obtain ⟨oe,vs,he,hc,hdx,hd,ht⟩:=l.ob
 rcases ht with h1 | ⟨T,oT,ts,h1,hTe,hT,hdT,h3,nT,lT,pT⟩
 ·unfold Yeh
  refine Yab (YbI he hd h1 ?_)
  rw [if_neg (by decide)]
  exact Yah (q s.heap I l)
 ·have sz:=(Array.getElem?_eq_some_iff.mp h3).1
  refine wpAny_setFlight_none he hd h1 hT hdT sz ?_
  have other:=(jbx 3 .none hT hdT).2
  have d3:=YfS hdT (·.setIfInBounds 3 YbA)
  refine q _ (I.left (ch:=[T]) (fun b hb=>by rw [List.mem_singleton.mp hb]; exact nT) (fun b hb=>by rw [List.mem_singleton.mp hb]; exact lT) (fun b hb=>by rw [List.mem_singleton.mp hb]; exact ⟨oT,ts,hT,hdT⟩) (fun b hb p hp=>by rw [List.mem_singleton.mp hb]; exact pT p (by simpa using hp))
   (fun b o _ hc e=>(other b (by simpa using hc)).trans e) fun b o _ hc e=>⟨o.slots,(other b (by simpa using hc)).trans e⟩) ⟨⟨oe,vs,(other ea (Ne.symm hTe)).trans he,hc,hdx,hd,.inr ⟨T,_,_,h1,hTe,YbT _ hT (Ydn d3),d3,by simp [sz],nT,lT,pT⟩⟩,l.hn,l.le,l.pn⟩
noncomputable def Cx.tryC (X:Cx)(pins:List (Addr×Obj))(xe:Value->Shared->Prop):Cx:={ X with pn:=X.pn++pins,xe:=xe }
theorem Inv.tryIn {xe:Value->Shared->Prop}(I:Inv X pins σ H s):Inv (X.tryC pins xe) [] σ H s:=
 ⟨⟨I.ok.mod,I.ok.kind,I.ok.glob,I.ok.blt,I.ok.above,I.ok.inj,I.ok.has,I.ok.cab,I.ok.hd,I.ok.frames,I.ok.stk,I.ok.exf,I.ok.bs,I.ok.bsz,I.ok.noex,I.ok.exfs,I.ok.funs,I.ok.frf⟩,I.os,I.bare,I.base,I.loc,I.cell,I.free,I.freeC,fun p hp=>I.pin p (by simpa [Cx.tryC] using hp),I.hok,I.len⟩
theorem Inv.tryOut {xe:Value->Shared->Prop}{pins':List (Addr×Obj)}(I:Inv (X.tryC pins xe) pins' σ H s):Inv X pins σ H s:=
 ⟨⟨I.ok.mod,I.ok.kind,I.ok.glob,I.ok.blt,I.ok.above,I.ok.inj,I.ok.has,I.ok.cab,I.ok.hd,I.ok.frames,I.ok.stk,I.ok.exf,I.ok.bs,I.ok.bsz,I.ok.noex,I.ok.exfs,I.ok.funs,I.ok.frf⟩,I.os,I.bare,I.base,I.loc,I.cell,I.free,I.freeC,fun p hp=>I.pin p (by simp only [Cx.tryC]; exact YaR _ hp),I.hok,I.len⟩
noncomputable def Cx.inH (X:Cx)(e:Value)(p:List (Addr×Obj)):Cx:={ X with A:=X.A.mark (some e),calm:=false,pn:=X.pn++p,xe:=fun _ _=>False }
theorem Inv.hIn {e:Value}{p:List (Addr×Obj)}(I:Inv X [] σ H s)(hp:∀ q∈p,s.heap.get? q.1=some q.2/\H q.1=none/\q.1≠X.env.locals/\q.1∉X.fs/\∀ v,q.2.data≠.cell v):Inv (X.inH e p) [] σ H s:=
 ⟨⟨I.ok.mod,I.ok.kind,I.ok.glob,I.ok.blt,I.ok.above,I.ok.inj,I.ok.has,I.ok.cab,(fun z=>(nomatch z)),I.ok.frames,I.ok.stk,I.ok.exf,I.ok.bs,I.ok.bsz,I.ok.noex,I.ok.exfs,I.ok.funs,I.ok.frf⟩,I.os,I.bare,I.base,I.loc,I.cell,I.free,I.freeC,
  fun q hq=>by
   have:q∈X.pn++p:=by simpa [Cx.inH] using hq
   rcases List.mem_append.mp this with z | z
   ·exact I.pin q (YaR _ z)
   ·exact hp q z,I.hok,I.len⟩
theorem Inv.hOut {e:Value}{p pins':List (Addr×Obj)}(ok:X.Ok)(I:Inv (X.inH e p) pins' σ H s):Inv X [] σ H s:=
 ⟨ok,I.os,I.bare,I.base,I.loc,I.cell,I.free,I.freeC,fun q hq=>I.pin q (by simp only [Cx.inH]; rw [Ybj] at hq; exact YaR _ (YaR _ hq)),I.hok,I.len⟩
theorem Lies.pinned {ea:Addr}{cls:Value}{dx:Option Addr}(I:Inv X [] σ H s)(l:Lies X.s₀.heap.objs.size X.pn H s.heap ea cls dx):∃ oe,s.heap.get? ea=some oe/\oe.cls=cls/\oe.dict=dx/\(∃ vs,oe.data=.fields vs)/\
  ∀ q∈[(ea,oe)],s.heap.get? q.1=some q.2/\H q.1=none/\q.1≠X.env.locals/\q.1∉X.fs/\∀ v,q.2.data≠.cell v:=by
 obtain ⟨oe,vs,he,hc,hdx,hd,_⟩:=l.ob
 refine ⟨oe,he,hc,hdx,⟨vs,hd⟩,fun q hq=>?_⟩
 rw [List.mem_singleton.mp hq]
 refine ⟨he,l.hn,fun z=>?_,fun z=>?_,fun v z=>by rw [show (ea,oe).2.data=oe.data from rfl,hd] at z; cases z⟩
 ·obtain ⟨m,⟨o,es,ep,ho,hdd,_⟩,_⟩:=I.loc
  rw [<- z,he] at ho
  cases ho
  rw [hd] at hdd; cases hdd
 ·obtain ⟨_,o,ho,_⟩:=I.ok.funs.mem z
  exact absurd (Yaj ho) (Nat.not_lt.mpr l.le)
end
noncomputable def XL (M:Model)(A:Around)(env:Env)(R:Value->Shared->Prop):Value->Shared->Prop:=fun e s'=>wpAny M A (Yf0 e env) (fun _ s''=>wpAny M A (Yeh e none) (fun _ s3=>R e s3) R s'') R s'
theorem jjr {M:Model}{A:Around}{env:Env}{R:Value->Shared->Prop}:Yel M A env (XL M A env R):=Ye1
section
variable {P:Program}{w:World}{K:Yaa}{mg:Str->Option Value}{base:Heap}
noncomputable abbrev cx1 (P:Program)(w:World)(K:Yaa)(mg:Str->Option Value)(base:Heap)(N:List Str)(qual:Str)(scope:Scope)(f:Addr)(cd:Value)(A:Around)(outer:List Env)(s:Shared)(H:Hp)(E:XK):Cx:=
 (cxOf (CX1 P w) P w K mg base N qual scope f cd A outer s H E).wish (XL (model P w) (A.deeper (envOfC qual scope s.heap.objs.size f cd)) (envOfC qual scope s.heap.objs.size f cd) fun e s'=>CX1 P w outer H s E e s')
theorem Fun.okX {x qual:Str}{st:Stmt}{f:Addr}{fd:Ybh}{N ps:List Str}{k:Nat}{sp:Sp}(F:Fun K x qual st f fd)(S:FnScope N ps (jaa st))(len:∀ vs H Q E,sp vs H Q E->vs.length=ps.length)
  (hbody:∀ (cdv:Value) (A:Around) (outer:List Env) (s:Shared) (H:Hp) (vs:List V) (Q:VK) (E:XK),Room k (A.deeper (envOfC qual (jaa st) s.heap.objs.size f cdv))->sp vs H Q E->
   ∃ t,PSs (cx1 P w K mg base N qual (jaa st) f cdv A outer s H E) (jae st) t/\t { nx:=fun _ H'=>Q .non H',rt:=Q } (start N vs) H):FnOk P w K mg base (CX1 P w) (k + 1) f fd ps sp:=by
 obtain ⟨oc,od,kV,doc,pm,an,cdv,ct,osl,rfl,lk,hcd⟩:=F.ex
 refine jod lk hcd S len fun A outer s H vs Q E hr hsp=>?_
 obtain ⟨t,h,q⟩:=hbody cdv A outer s H vs Q E hr hsp
 refine ⟨t,fun pins s1 σ H1 D I hw=>?_,q⟩
 refine YaL (h pins s1 σ H1 D (I.wish _) hw) (fun _ _ q=>q.unwish) fun e s' z=>?_
 show wpAny _ _ (leaving _ e) _ _ s'
 unfold leaving
 exact Yab z
theorem CX1.out1 {N:List Str}{qual:Str}{scope:Scope}{f:Addr}{cd:Value}{A:Around}{outer:List Env}{s s':Shared}{H H':Hp}{E:XK}{pins:List (Addr×Obj)}{σ:St}{ea:Addr}{cls:Value}{dx:Option Addr}
  (I:Inv (cx1 P w K mg base N qual scope f cd A outer s H E) pins σ H' s') (l:Lies s.heap.objs.size [] H' s'.heap ea cls dx) (q:E cls dx H'):(cx1 P w K mg base N qual scope f cd A outer s H E).xe (.ref ea) s':=by
 have I0:Inv (cxOf (CX1 P w) P w K mg base N qual scope f cd A outer s H E) [] σ H' s':=I.unwish.pins_of fun p hp=>absurd hp (by simp)
 refine jgB (X:=cxOf (CX1 P w) P w K mg base N qual scope f cd A outer s H E) (E:=fun e s'=>CX1 P w outer H s E e s') I0 rfl rfl l fun h' J l'=>?_
 exact ⟨ea,H',cls,dx,rfl,J.os,J.bare,J.base,J.hok,l',q⟩
end
end L2

namespace L2
open PySem PySem.Spec PyProof.Rows PySem.W
open Builtin Builtin.ObjectAttr
set_option maxHeartbeats 4000000
theorem jcE:YaX (.type "ValueError") "__class__" = pure (some (.builtin "object.__class__")):=by rw [Yct,Ybz]; kernel_rfl
theorem jmb:YaX (.type "getset_descriptor") "__get__" = pure (some (.builtin "getset_descriptor.__get__")):=by rw [Yct,Ybz]; kernel_rfl
theorem jl9:YaX (.type "getset_descriptor") "__set__" = pure (some (.builtin "getset_descriptor.__set__")):=by rw [Yct,Ybz]; kernel_rfl
theorem jgR:builtinKind "object.__class__" = some .getset:=by decide +kernel
noncomputable abbrev bmV:List Value:=[.type "ValueError",.type "Exception",.type "BaseException",.type "object"]
section
variable {prog:Program}{w:World}{A:Around}{E:Value->Shared->Prop}{h:Heap}{g:Array Yen}{d:Drawn}{t:Nat}{os:OsState}
variable {C N D x:Addr}{bmB:List Value}{B newId sa owner:String}{mN mD mA:Str->Option Value}{name:Str}{v:Value}
theorem Two.gaClass {o od:Obj}{dx:Addr}{K:Frag}{tk:Tok}{Q:Fin->Shared->Prop}(hK:K.In h)(hm:mroIn K C (.type "object")=some true)(T:Two h C N D mN mD bmB newId)(R:Reads B bmB)(hx:h.get? x=some o)(hc:o.cls=.ref C)(hnc:notCls o=true)(hdx:o.dict=some dx)(hod:h.get? dx=some od)
  (hB:YaX (.type B) "__class__" = pure (some (.builtin "object.__class__"))) (n1:mN "__class__" = none) (n2:mD "__class__" = none) (hq:Q (.done (.ret (.ref C))) ⟨h,g,d,t,os⟩) :
  wpAny (model prog w) A (Builtin.«object.__getattribute__» ⟨[.ref x,.str "__class__" tk],[]⟩) Q E ⟨h,g,d,t,os⟩:=by
 obtain ⟨nm,q,bs,sn,sub,ab,col,dd,k0,k1,k2,k3,k5,e⟩:=T.cls
 unfold Builtin.«object.__getattribute__»
 repeat (first | (with_reducible refine Yau hx ?_; rw [hc]) | (with_reducible refine T.look hB R.mro n1 n2 ?_) | wp_step)
 rw [jgR]
 dsimp only
 rw [jmb]
 repeat (first | (with_reducible refine Yau hx ?_; rw [hc]) | wp_step)
 rw [jgR]
 dsimp only
 rw [jl9]
 repeat (first | (with_reducible refine Yau hx ?_; rw [hc]) | wp_step)
 refine PySem.W.class_get (K:=K) hK (ox:=o) (od:=some od) ⟨hx,hc,hnc,by rw [hdx]; exact hod⟩ hm ?_
 exact Yah hq
theorem Two.cattr {o od:Obj}{dx:Addr}{K:Frag}{Q:Option Value->Shared->Prop}(hK:K.In h)(hm:mroIn K C (.type "object")=some true)(T:Two h C N D mN mD bmB newId)(R:Reads B bmB)(hx:h.get? x=some o)(hc:o.cls=.ref C)(hnc:notCls o=true)(hdx:o.dict=some dx)(hod:h.get? dx=some od)
  (hB:YaX (.type B) "__class__" = pure (some (.builtin "object.__class__"))) (g1:mN "__getattribute__" = none) (g2:mD "__getattribute__" = none) (a1:mN "__getattr__" = none) (a2:mD "__getattr__" = none) (n1:mN "__class__" = none) (n2:mD "__class__" = none) (hq:Q (some (.ref C)) ⟨h,g,d,t + 1,os⟩) :
  wpAny (model prog w) A (getAttr? (.ref x) "__class__") Q E ⟨h,g,d,t,os⟩:=by
 have f3:=R.ga.bind (.ref x)
 unfold getAttr? getAttrBy? getAttrBy
 repeat (any_goals (first | assumption | (with_reducible refine Yau hx ?_; rw [hc]) | (with_reducible refine T.look R.ga.lookup R.mro g1 g2 ?_) | (with_reducible refine T.look R.no R.mro a1 a2 ?_) | wp_step))
 refine YcL R.ga.plain F.entry_bexc_ga (T.gaCheck R hx hc (T.gaClass hK hm R hx hc hnc hdx hod hB n1 n2 ?_))
 repeat (any_goals (first | assumption | wp_step))
end
noncomputable def je6:List Ycu->Option (List Str)
 | []=>some []
 | e::r=>match e.key,je6 r with
  | .str x _,some l=>some (x::l)
  | _,_=>none
noncomputable def jcN (K:Frag)(N:Addr):Option (List Str):=match K.lookup N with
 | some ⟨_,_,.dict es _,_⟩=>je6 es.toList
 | _=>none
theorem jcM:∀ {es:List Ycu} {ks:List Str},je6 es=some ks->(∀ e∈es,∃ n t,e.key=.str n t)/\∀ x,x∉ks->es.find? (fun e=>e.key.isStr x)=none
 | [],_,_=>⟨fun _ h=>absurd h (by simp),fun _ _=>rfl⟩
 | e::r,ks,h=>by
  unfold je6 at h
  split at h
  ·rename_i x t l hk hr
   cases h
   obtain ⟨h1,h2⟩:=jcM hr
   refine ⟨fun e' he=>?_,fun y hy=>?_⟩
   ·rcases YaI.mp he with rfl | he
    ·exact ⟨_,_,hk⟩
    ·exact h1 e' he
   ·have hn:y≠x:=fun z=>hy (by simp [z])
    have:e.key.isStr y=false:=by rw [hk]; simp [Value.isStr,Ne.symm hn]
    rw [Ybs,this]
    exact h2 y fun z=>hy (by simp [z])
  ·cases h
theorem jlI {K:Frag}{N:Addr}{ks:List Str}(e:jcN K N=some ks):∃ m:Str->Option Value,(∀ h,K.In h->h.Ns N m)/\(∀ x,x∉ks->m x=none)/\∀ x v,nsIn K N x=some (some v)->m x=some v:=by
 unfold jcN at e
 split at e
 ·rename_i c dd es ep sl lk
  obtain ⟨h1,h2⟩:=jcM e
  refine ⟨nsFind es,fun h hK=>⟨_,es,ep,hK _ _ lk,rfl,fun e he=>h1 e (by simpa using he),fun _=>rfl⟩,fun x hx=>?_,fun x v hv=>?_⟩
  ·unfold nsFind findBy
   rw [<- Yfx,h2 x hx]; rfl
  ·unfold nsIn at hv
   rw [lk] at hv
   dsimp only at hv
   unfold nsFind findBy
   rw [<- Yfx]
   split at hv
   ·rename_i e' he'
    rw [he']
    cases hv; rfl
   ·split at hv <;> cases hv
 ·cases e
noncomputable def offN:List Str:=["__setattr__", "__getattribute__", "__getattr__", "__class__", "word", "at", "row"]
structure XBase (K:Frag)(mg:Str->Option Value)(D:Addr)(mD:Str->Option Value):Prop where
 m:mg "PlanError" = some (.ref D)
 kp:keepIn K (.ref D)=true
 lk:∃ q ND bs hd sn sub ab col dd k0 k1 k2 k3 k5 nid,K.lookup D=some (YcY "PlanError" q D ND bs bmV hd sn sub ab col dd k0 k1 k2 k3 k5 nid)/\∀ h,K.In h->h.Ns ND mD
 no:∀ y∈offN,mD y=none
 ni:mD "__init__" = none
structure XCls (K:Frag)(mg:Str->Option Value)(x:Str)(fs:List Str)(C:Addr):Prop where
 m:mg x=some (.ref C)
 kp:keepIn K (.ref C)=true
 ex:∃ (D N fI:Addr) (mN mD:Str->Option Value),XBase K mg D mD/\(∃ q bs sn sub ab col dd k0 k1 k2 k3 k5,K.lookup C=some (YcY x q C N bs (.ref D::bmV) true sn sub ab col dd k0 k1 k2 k3 k5 "ValueError.__new__"))/\(∀ h,K.In h->h.Ns N mN)/\(∀ y∈offN,mN y=none)/\
  mN "__init__" = some (.ref fI)/\∃ (st:Stmt) (qual:Str) (fd:Ybh),L2.Fun K "__init__" qual st fI fd/\(∃ od osl,K.lookup fI=some ⟨.type "function",od,.func fd,osl⟩)/\FnScope ("self" :: fs) ("self" :: fs) (jaa st)/\Binds K fd ("self" :: fs) []/\(∀ y∈(("self" : Str)::fs),(jaa st).names.lookup y=some .local)/\
  ((∃ f p1 p2 p3 pos,fs=[f]/\jae st=[.Assign [.Attribute (.Name "self" p1) f p2] (.Name f p3) pos])\/∃ f f2 p1 p2 p3 pos q1 q2 q3 qos,fs=[f,f2]/\f≠f2/\jae st=[.Assign [.Attribute (.Name "self" p1) f p2] (.Name f p3) pos,.Assign [.Attribute (.Name "self" q1) f2 q2] (.Name f2 q3) qos])
theorem XBase.get {K:Frag}{mg:Str->Option Value}{D:Addr}{mD:Str->Option Value}(B:XBase K mg D mD){h:Heap}(hK:K.In h):∃ c0 dd cd sl,h.get? D=some { cls:=c0,dict:=dd,data:=.cls cd,slots:=sl }/\h.Ns cd.ns mD:=by
 obtain ⟨q,ND,bs,hd,sn,sub,ab,col,dd,k0,k1,k2,k3,k5,nid,lk,n⟩:=B.lk
 exact ⟨_,_,_,_,hK _ _ lk,n h hK⟩
section
variable {K:Frag}{mg:Str->Option Value}{x:Str}{fs:List Str}{C:Addr}
theorem XCls.name (c:XCls K mg x fs C):∃ cd,clsIn K C=some cd/\cd.name=x/\typeIn K (.ref C)=some (.type "type")/\∃ D mD,XBase K mg D mD/\cd.mro=.ref C::.ref D::bmV:=by
 obtain ⟨D,N,fI,mN,mD,B,⟨q,bs,sn,sub,ab,col,dd,k0,k1,k2,k3,k5,lk⟩,_⟩:=c.ex
 refine ⟨_,by unfold clsIn; rw [lk],rfl,by show Yfr (fun x=>x.cls) (Ybr _ K)=_; rw [lk]; rfl,D,mD,B,rfl⟩
theorem XBase.nm {D:Addr}{mD:Str->Option Value}(B:XBase K mg D mD):∃ cd,clsIn K D=some cd/\cd.name = "PlanError" /\ typeIn K (.ref D)=some (.type "type"):=by
 obtain ⟨q,ND,bs,hd,sn,sub,ab,col,dd,k0,k1,k2,k3,k5,nid,lk,n⟩:=B.lk
 exact ⟨_,by unfold clsIn; rw [lk],rfl,by show Yfr (fun x=>x.cls) (Ybr _ K)=_; rw [lk]; rfl⟩
theorem jgC (c:XCls K mg x fs C){x':Str}{fs':List Str}{C':Addr}(c':XCls K mg x' fs' C')(hp:x' ≠ "PlanError"):kitOne K (.ref C) (.ref C')=some (decide (x=x')):=by
 obtain ⟨cd,h1,h2,h3,D,mD,B,hm⟩:=c.name
 obtain ⟨cd',h1',h2',h3',_⟩:=c'.name
 unfold kitOne
 by_cases e:C=C'
 ·subst e
  rw [h1] at h1'
  cases h1'
  rw [if_pos (by simp),<- h2,<- h2']
  simp
 ·have hx:x≠x':=fun z=>by
   subst z
   have:=c.m.symm.trans c'.m
   simp at this
   exact e this
  rw [if_neg (by simpa using e)]
  unfold kitCls subIn mroIn
  dsimp only
  rw [h1',h3',h1]
  have hD:D≠C':=fun z=>by
   subst z
   obtain ⟨cd2,g1,g2,_⟩:=B.nm
   rw [h1'] at g1
   cases g1
   exact hp (h2'.symm.trans g2)
  simp [hm,hx,Ne.symm e,Ne.symm hD]
theorem jlR (c:XCls K mg x fs C):kitOne K (.ref C) (.type "ValueError")=some true:=by
 obtain ⟨cd,h1,h2,h3,D,mD,B,hm⟩:=c.name
 unfold kitOne
 rw [if_neg (by simp)]
 unfold kitCls subIn mroIn
 dsimp only
 rw [if_pos (by decide +kernel),h1]
 simp [hm]
end
theorem jiG:∀ f∈[("word" : Str), "at", "row"],YaX (.type "ValueError") f=pure none:=by
 intro f hf
 simp only [YaI,Yaw,or_false] at hf
 rcases hf with rfl | rfl | rfl <;> (rw [Yct,Ybz]; kernel_rfl)
noncomputable def fldN:List Str:=["word", "at", "row"]
theorem jet:∀ f∈fldN,f∈offN:=by decide
section
variable {K:Frag}{mg:Str->Option Value}{x:Str}{fs:List Str}{C:Addr}
structure XPin (X:Cx)(ea C dx:Addr):Prop where
 ex:∃ oe vs,(ea,oe)∈X.pn/\oe.cls=.ref C/\oe.dict=some dx/\oe.data=.fields vs
theorem Inv.xobj {X:Cx}{pins:List (Addr×Obj)}{σ:St}{H:Hp}{s:Shared}{ea C dx:Addr}{l:List (Str×V)}(I:Inv X pins σ H s)(p:XPin X ea C dx)(hl:H dx=some (.xd l)) :
  ∃ oe vs od mA,s.heap.get? ea=some oe/\oe.cls=.ref C/\oe.dict=some dx/\oe.data=.fields vs/\s.heap.get? dx=some od/\s.heap.Ns dx mA/\∀ f,RelO (l.lookup f) (mA f):=by
 obtain ⟨oe,vs,hp,h1,h2,h3⟩:=p.ex
 obtain ⟨mA,n,r⟩:=(show jaB X.prog X.w H s.heap dx (.xd l) from I.hok dx _ hl)
 obtain ⟨od,es,ep,g,gd,sk,_,nf⟩:=n
 exact ⟨oe,vs,od,mA,(I.pin _ (YaR _ hp)).1,h1,h2,h3,g,⟨od,es,ep,g,gd,sk,nf⟩,r⟩
theorem XCls.two (c:XCls K mg x fs C){h:Heap}(hK:K.In h):∃ N D mN mD,Two h C N D mN mD bmV "ValueError.__new__" /\ (∀ y∈offN,mN y=none/\mD y=none)/\mroIn K C (.type "object")=some true:=by
 obtain ⟨D,N,fI,mN,mD,B,⟨q,bs,sn,sub,ab,col,dd,k0,k1,k2,k3,k5,lk⟩,hn,ho,_⟩:=c.ex
 refine ⟨N,D,mN,mD,⟨⟨_,_,_,_,_,_,_,_,_,_,_,_,_,hK _ _ lk⟩,hn h hK,B.get hK⟩,fun y hy=>⟨ho y hy,B.no y hy⟩,?_⟩
 unfold mroIn clsIn
 rw [lk]
 simp
theorem jde (c:XCls K mg x fs C){ea dx:Addr}{oe od:Obj}{vs:Array Value}(h1:oe.cls=.ref C)(h2:oe.dict=some dx)(h3:oe.data=.fields vs):KitX K (.ref ea) (.ref C) (fun h=>h.get? ea=some oe/\h.get? dx=some od):=by
 have hnc:notCls oe=true:=by unfold notCls; rw [h3]
 refine ⟨fun M h hK hh=>?_,fun M h hK hh=>?_,fun h tp dd its n sl hK ht=>?_,fun {prog w A E Q s} hK hh hq=>?_⟩
 ·intro A Q E s k q
  obtain ⟨hp,g,d,t,os⟩:=s
  have g1:=k _ _ hh.1
  show wpAny M A (typeOf (.ref ea)) Q E _
  unfold typeOf
  repeat (first | (with_reducible refine Yau g1 ?_; rw [h1]) | wp_step)
  exact q
 ·intro A Q E s k q
  obtain ⟨hp,g,d,t,os⟩:=s
  obtain ⟨D,N,fI,mN,mD,B,⟨q',bs,sn,sub,ab,col,dd,k0,k1,k2,k3,k5,lk⟩,_⟩:=c.ex
  have g1:=k _ _ (hK _ _ lk)
  unfold isType
  repeat (first | with_reducible refine Yau g1 ?_ | wp_step)
  exact q
 ·obtain ⟨D,N,fI,mN,mD,B,⟨q',bs,sn,sub,ab,col,dd',k0,k1,k2,k3,k5,lk⟩,_⟩:=c.ex
  have g1:=hK _ _ lk
  by_cases z:C=tp
  ·subst z
   rw [ht] at g1
   simp at g1
  ·simpa using z
 ·obtain ⟨hp,g,d,t,os⟩:=s
  obtain ⟨N,D,mN,mD,T,off,hm⟩:=c.two hK
  have o1:=off "__getattribute__" (by decide)
  have o2:=off "__getattr__" (by decide)
  have o3:=off "__class__" (by decide)
  exact T.cattr hK hm ja0 hh.1 h1 hnc h2 hh.2 jcE o1.1 o1.2 o2.1 o2.2 o3.1 o3.2 hq
end
section
variable {X:Cx}{mg:Str->Option Value}{x:Str}{fs:List Str}{C ea dx:Addr}
theorem jhc {x':Str}{fs':List Str}{C':Addr}(c:XCls X.K mg x fs C)(c':XCls X.K mg x' fs' C')(hp:x' ≠ "PlanError")(p:XPin X ea C dx):jaK X (.builtin "isinstance") (fun xs H Q=>xs=[.ref ea,.ref C']/\(∃ l,H dx=some (.xd l))/\Q (.bl (decide (x=x'))) H):=by
 intro pins s σ H xs us Q I r h
 obtain ⟨rfl,⟨l,hl⟩,q⟩:=h
 obtain ⟨u,v,rfl,ru,rv⟩:=Vals.two r
 cases ru; cases rv
 obtain ⟨oe,vs,od,mA,g1,g2,g3,g4,g5,_⟩:=I.xobj p hl
 exact kia_one (jde c g2 g3 g4) I.kIn ⟨g1,g5⟩ (jgC c c' hp) (fun z=>(nomatch z)) fun tk=>⟨.bl _,H,I.tok tk,rfl,q⟩
theorem jha (c:XCls X.K mg x fs C)(p:XPin X ea C dx):jaK X (.builtin "isinstance") (fun xs H Q=>xs=[.ref ea,.ty "ValueError"]/\(∃ l,H dx=some (.xd l))/\Q (.bl true) H):=by
 intro pins s σ H xs us Q I r h
 obtain ⟨rfl,⟨l,hl⟩,q⟩:=h
 obtain ⟨u,v,rfl,ru,rv⟩:=Vals.two r
 cases ru; cases rv
 obtain ⟨oe,vs,od,mA,g1,g2,g3,g4,g5,_⟩:=I.xobj p hl
 exact kia_one (jde c g2 g3 g4) I.kIn ⟨g1,g5⟩ (jlR c) (fun z=>(nomatch z)) fun tk=>⟨.bl true,H,I.tok tk,rfl,q⟩
inductive XMany (X:Cx)(mg:Str->Option Value):List Str->List Addr->Prop
 | nil:XMany X mg [] []
 | cons {x:Str} {fs:List Str} {C:Addr} {xs:List Str} {Cs:List Addr}:XCls X.K mg x fs C->x ≠ "PlanError" -> XMany X mg xs Cs->XMany X mg (x::xs) (C::Cs)
theorem je5 (c:XCls X.K mg x fs C):∀ {xs:List Str} {Cs:List Addr},XMany X mg xs Cs->kitAny X.K (.ref C) (Cs.map .ref)=some (xs.contains x)
 | _,_,.nil=>rfl
 | _,_,.cons (x:=x') (C:=C') c' hp r=>by
  have h1:=jgC c c' hp
  have h2:=je5 c r
  by_cases e:x=x'
  ·subst e
   simp only [Yas,kitAny]
   rw [h1]
   simp
  ·simp only [Yas,kitAny]
   rw [h1,h2]
   simp [e]
theorem jhb {xs:List Str}{Cs:List Addr}(c:XCls X.K mg x fs C)(cs:XMany X mg xs Cs)(p:XPin X ea C dx):jaK X (.builtin "isinstance") (fun as H Q=>∃ tp,as=[.ref ea,.ref tp]/\H tp=some (.tup (Cs.map .ref))/\(∃ l,H dx=some (.xd l))/\Q (.bl (xs.contains x)) H):=by
 intro pins s σ H as us Q I r h
 obtain ⟨tp,rfl,ht,⟨l,hl⟩,q⟩:=h
 obtain ⟨u,v,rfl,ru,rv⟩:=Vals.two r
 cases ru; cases rv
 obtain ⟨oe,vs,od,mA,g1,g2,g3,g4,g5,_⟩:=I.xobj p hl
 obtain ⟨z,us,ru,o,t1,t2,t3,t4,t5⟩:=(show jaB X.prog X.w H s.heap tp (.tup (Cs.map .ref)) from I.hok tp _ ht)
 have hus:us=Cs.map .ref:=by
  clear ht t4 z t5 t1 t2
  generalize Cs=Ds at ru
  induction Ds generalizing us with
  | nil=>cases ru; rfl
  | cons a r ih=>
   cases ru with
   | cons h1 h2=>cases h1; rw [ih _ h2]; rfl
 subst hus
 have hk:=je5 c cs
 obtain ⟨oc,od',dt,sl⟩:=o
 obtain rfl:oc=Value.type "tuple" := t2
 obtain rfl:dt=Data.seq (List.map Ybe Cs).toArray t3:=t4
 exact kia_tup (jde c g2 g3 g4) I.kIn ⟨g1,g5⟩ t1 hk (fun z=>(nomatch z)) fun tk=>⟨.bl _,H,I.tok tk,rfl,q⟩
theorem jer {v:V}{u:Value}(r:RelV v u):handedOut u=pure u:=by
 cases v with
 | non=>cases r; rfl
 | bl _=>cases r; rfl
 | int _=>obtain ⟨_,rfl⟩:=r; rfl
 | str _=>obtain ⟨_,rfl⟩:=r; rfl
 | byt _=>obtain ⟨_,rfl⟩:=r; rfl
 | flt _=>obtain ⟨_,rfl⟩:=r; rfl
 | ref _=>cases r; rfl
 | ty _=>cases r; rfl
theorem jjx {e:Expr}{f:Str}{pos:Pos}{te:TE}(c:XCls X.K mg x fs C)(p:XPin X ea C dx)(hf:f∈fldN)(he:PE X e te)(hb:Yca e f X.env (eval e X.env)=eval e X.env) :
  PE X (.Attribute e f pos) (fun σ H Q=>te σ H fun v H1=>v=.ref ea/\∃ l u,H1 dx=some (.xd l)/\l.lookup f=some u/\Q u H1):=by
 intro pins s σ H Q I h
 refine jkr hb (thn (he pins s σ H _ I h) fun u s1 ⟨v,H1,I1,rv,ev,l,w,hl,hlk,q⟩=>?_)
 subst ev
 cases rv
 obtain ⟨oe,vs,od,mA,g1,g2,g3,g4,g5,g6,g7⟩:=I1.xobj p hl
 obtain ⟨N,D,mN,mD,T,off,hm⟩:=c.two I1.kIn
 obtain ⟨u',hu,ru⟩:=RelO.some_of (v:=w) (o:=mA f) (by rw [<- hlk]; exact g7 f)
 have o1:=off "__getattribute__" (by decide)
 have o2:=off "__getattr__" (by decide)
 have o3:=off f (jet f hf)
 obtain ⟨hp,gg,d,t,os⟩:=s1
 exact T.get ja0 g1 g2 (fun cd z=>by rw [g4] at z; cases z) g3 g6 hu (jer ru) (jiG f hf) o1.1 o1.2 o2.1 o2.2 o3.1 o3.2 ⟨w,H1,I1.tok _,ru,q⟩
theorem jf9 {k:Nat}{t:TA}{a0:Expr}{as:List Expr}{p cpos pos:Pos}(c:XCls X.K mg x fs C)(hfs:∀ f∈fs,f∈fldN)(hr:Room (k + 2) X.A)(hg:Gl X x)(hmg:X.mg x=some (.ref C))(ha:PA X (a0::as) t)
  (hdb:(x == ("__debug__" : Str))=false) (he:Yar (a0::as) X.env=(false,eval a0 X.env)::Yar as X.env) (hpl:(backTo cpos (Yar as X.env)).any (·.1)=false) :
  PS X (.Raise (some (.Call (.Name x p) (a0::as) [] cpos)) none pos) (jim X C fs.length (fun vs=>fs.zip vs) t):=by
 intro pins s σ H D0 I h
 have hK:X.K.In X.base:=I.ok.mod.kin
 obtain ⟨D,N,fI,mN,mD,B,⟨q,bs,sn,sub,ab,col,dd,k0,k1,k2,k3,k5,lk⟩,hn,ho,hi,st,qual,fd,F0,⟨od,osl,lkI⟩,S,hb,hloc,hbody⟩:=c.ex
 obtain ⟨oc,od',kV,doc,pm,an,cdv,ct,osl',rfl,lkI',hcd⟩:=F0.ex
 have T:Two X.base C N D mN mD bmV "ValueError.__new__" := ⟨⟨_,_,_,_,_,_,_,_,_,_,_,_,_,hK _ _ lk⟩,hn _ hK,B.get hK⟩
 have set0:mN "__setattr__" = none/\mD "__setattr__" = none:=⟨ho _ (by decide),B.no _ (by decide)⟩
 have fd0:∀ f∈fs,mN f=none/\mD f=none/\YaX (.type "ValueError") f=pure none:=fun f hf=>⟨ho _ (jet f (hfs f hf)),B.no _ (jet f (hfs f hf)),jiG f (hfs f hf)⟩
 have nm:∀ f∈fldN,(f == ("__debug__" : Str))=false/\(f == ("__classdict__" : Str))=false:=by decide
 have go:∀ (vs:List V) (s:Shared) (H:Hp),vs.length=fs.length->jd7 X C s H (("self" : Str)::fs) qual (jaa st) fI cdv (jae st) vs (fs.zip vs):=by
  intro vs s H hl
  rcases hbody with ⟨f,p1,p2,p3,pos,rfl,hbd⟩ | ⟨f,f2,p1,p2,p3,pos,q1,q2,q3,qos,rfl,hne,hbd⟩
  ·rw [hbd]
   obtain ⟨v,rfl⟩:∃ v,vs=[v]:=by
    match vs,hl with
    | [v],_=>exact ⟨v,rfl⟩
   have a1:=fd0 f (by simp)
   have b1:=nm f (hfs f (by simp))
   exact jn4 T F.store_ValueError set0.1 set0.2 a1.1 a1.2.1 a1.2.2 (.inl (hloc _ (by simp))) (.inl (hloc _ (by simp))) (by decide) b1.1 (by decide) b1.2 (fun _=>rfl)
  ·rw [hbd]
   obtain ⟨v,v2,rfl⟩:∃ v v2,vs=[v,v2]:=by
    match vs,hl with
    | [v,v2],_=>exact ⟨v,v2,rfl⟩
   have a1:=fd0 f (by simp)
   have a2:=fd0 f2 (by simp)
   have b1:=nm f (hfs f (by simp))
   have b2:=nm f2 (hfs f2 (by simp))
   exact jn3 T F.store_ValueError set0.1 set0.2 a1.1 a1.2.1 a1.2.2 a2.1 a2.2.1 a2.2.2 hne (.inl (hloc _ (by simp))) (.inl (hloc _ (by simp))) (.inl (hloc _ (by simp))) (by decide) b1.1 b2.1 (by decide) b1.2 b2.2 (fun _=>rfl) (fun _=>rfl)
 have hn8:fs.length<=8:=by
  rcases hbody with ⟨f,p1,p2,p3,pos,rfl,hbd⟩ | ⟨f,f2,p1,p2,p3,pos,q1,q2,q3,qos,rfl,hne,hbd⟩ <;> simp
 exact jhF T F.excBase_ValueError B.ni hi lkI hcd S hr hb (by simp) hn8 (by decide) hg hmg c.kp ha go hdb he hpl pins s σ H D0 I h
theorem jfw {M:Model}{A:Around}{E:Value->Shared->Prop}{s:Shared}{Q:Bool->Shared->Prop}{oe:Obj}{D':Addr}{mD':Str->Option Value}(c:XCls X.K mg x fs C)(B':XBase X.K mg D' mD')(hK:X.K.In s.heap)(he:s.heap.get? ea=some oe)(hcls:oe.cls=.ref C)
  (hq:Q true s):wpAny M A (excMatches (.ref ea) (.ref D')) Q E s:=by
 obtain ⟨D,N,fI,mN,mD,B,⟨q,bs,sn,sub,ab,col,dd,k0,k1,k2,k3,k5,lk⟩,_⟩:=c.ex
 have e:D=D':=by have:=B.m.symm.trans B'.m; simpa using this
 subst e
 obtain ⟨q,ND,bs,hd,sn,sub,ab,col,dd,k0,k1,k2,k3,k5,nid,lk2,n⟩:=B.lk
 obtain ⟨h,g,d,t,os⟩:=s
 refine jeu (hK _ _ lk) (hK _ _ lk2) he hcls (by decide) ?_
 have e:(Ybe C::.ref D::bmV).contains (.ref D)=true:=by simp
 rw [e]
 exact hq
end
end L2

namespace L2
open PySem PySem.Spec PyProof.Rows
section
variable {prog:Program}{w:World}{A:Around}{E:Value->Shared->Prop}{s:Shared}{d it:Addr}{o:Obj}{es:Array Ycu}{ep i:Nat}
end
end L2

namespace L2
open PySem PySem.Spec PyProof.Rows
set_option maxHeartbeats 4000000
theorem jbO:∀ (l:List (Str×Tok)),Vals ((l.map (·.1)).map V.str) (strValues l)
 | []=>.nil
 | (_,t)::l=>.cons ⟨t,rfl⟩ (jbO l)
section
variable {X:Cx}
noncomputable def jk5:V->List V->Hp->VK->Prop:=fun x vs H Q=>∃ z y:Str,x=.str z/\vs=[.str y]/\(y.length == 0)=false/\z.length<=Yae/\(Ya8 z y).length<=Yae/\∀ l,H l=none->Q (.ref l) (upd H l (.lst ((Ya8 z y).map V.str)))
theorem jh0:MtR X "str.split" jk5:=by
 intro pins s σ H x vs v us Q I rx rv h
 obtain ⟨z,y,rfl,rfl,hy,hz,hn,q⟩:=h
 obtain ⟨t,rfl⟩:=rx
 obtain ⟨w,rfl,ru⟩:=Vals.one rv
 obtain ⟨u,rfl⟩:=ru
 have fin:∀ (l:List (Str×Tok)) (tk:Nat),l.map (·.1)=Ya8 z y->EP X pins σ Q (.ref s.heap.objs.size) { s with toks:=tk,heap:=s.heap.push { cls:=.type "list",data:=.seq (strValues l).toArray } }:=fun l tk e=>by
  have hv:=jbO l
  rw [e] at hv
  refine ⟨.ref _,_,I.laid (t':=tk) (o:=.lst ((Ya8 z y).map V.str)) (fun b o e=>Yad _ e) (Yaf _) ?_,rfl,q _ (I.hok.fresh (Yaf _))⟩
  exact ⟨by rw [Yac]; exact hn,strValues l,0,hv,Yav _ rfl⟩
 cases h1:(decide (z.length < y.length) || decide (YeC z < YeC y))
 ·cases hf:(YaU z y 0 z.length (z.length + 1)).isEmpty
  ·have es:Ya8 z y=Yd1 z (YaU z y 0 z.length (z.length + 1)) y.length:=(if_neg (ne_true_of_eq_false h1)).trans (if_neg (ne_true_of_eq_false hf))
   refine Ycn YeB (Yb9 _ _ _) Yeo (Yd7 _ _) (meets_str_split_sep z y t u h1 hy hf hz (by rw [<- es]; exact hn)) ?_
   show EP X pins σ Q _ { s with toks:=_,heap:=s.heap.push { cls:=.type "list",data:=.seq (strsFrom s.toks (Yd1 z (YaU z y 0 z.length (z.length + 1)) y.length)).toArray } }
   rw [strsFrom_eq]
   exact fin (numbered s.toks _) _ ((numbered_texts _ _).trans es.symm)
  ·exact Ycn YeB (Yb9 _ _ _) Yeo (Yd7 _ _) (meets_str_split_not_found z y t u h1 hy hf) (fin [(z,t)] _ ((if_neg (ne_true_of_eq_false h1)).trans (if_pos hf)).symm)
 ·exact Ycn YeB (Yb9 _ _ _) Yeo (Yd7 _ _) (meets_str_split_cannot_occur z y t u h1) (fin [(z,t)] _ (if_pos h1).symm)
end
end L2

namespace L2
open PySem PySem.Spec PyProof.Rows PySem.W
set_option maxHeartbeats 4000000
noncomputable def jbd (cells:List (Str×Addr)):List (Str×Ya3)->List (Str×Addr)->List (Str×Addr)
 | [],acc=>acc
 | (n,k)::r,acc=>jbd cells r (if k == .free then (match cells.lookup n with | some c=>(n,c)::acc | none=>acc) else acc)
theorem jdn {env:Env}{f:Str×Ya3->List (Str×Addr)->Sem (ForInStep (List (Str×Addr)))}
  (hf:∀ n k cs,f (n,k) cs=if k == .free then (do let a <- cellOf env n; pure (.yield ((n,a)::cs))) else pure (.yield cs)) :
  ∀ (names:List (Str×Ya3)) (acc:List (Str×Addr)),(∀ y∈names,y.2=.free->∃ c,env.cells.lookup y.1=some c)->forIn names acc f=pure (jbd env.cells names acc)
 | [],acc,_=>rfl
 | (n,k)::r,acc,h=>by
  rw [Yet,hf]
  unfold jbd
  cases hk:k == Yaz with
  | true=>
   obtain ⟨c,e⟩:=h (n,k) Yao (eq_of_beq hk)
   simp only [if_true,cellOf,e,pure_bind]
   exact jdn hf r _ fun y hy=>h y (Yag _ hy)
  | false=>
   simp only [YbL,if_false,pure_bind]
   exact jdn hf r _ fun y hy=>h y (Yag _ hy)
theorem jbD {scope:Scope}{env:Env}(h:∀ y∈scope.names,y.2=.free->∃ c,env.cells.lookup y.1=some c):Yfm scope env=pure (jbd env.cells scope.names []):=by
 simp only [Yfm]
 rw [jdn (env:=env) (fun n k cs=>by cases hk:k == Yaz <;> simp [hk]) _ _ h]
 rfl
theorem jfj {cells:List (Str×Addr)}{x:Str}{c:Addr}:∀ {names:List (Str×Ya3)} {acc:List (Str×Addr)},(jbd cells names acc).lookup x=some c->(cells.lookup x=some c/\(x,Yaz)∈names)\/acc.lookup x=some c
 | [],_,h=>.inr h
 | (n,k)::r,acc,h=>by
  unfold jbd at h
  rcases jfj h with ⟨e,m⟩ | e
  ·exact .inl ⟨e,Yag _ m⟩
  ·by_cases hk:(k == Yaz)=true
   ·rw [if_pos hk] at e
    cases hc:cells.lookup n with
    | none=>rw [hc] at e; exact .inr e
    | some c'=>
     rw [hc] at e
     simp only [YaJ] at e
     by_cases hx:x=n
     ·subst hx
      simp only [beq_self_eq_true] at e
      cases e
      exact .inl ⟨hc,by rw [eq_of_beq hk]; exact Yao⟩
     ·rw [beq_eq_false_iff_ne.mpr hx] at e
      exact .inr e
   ·rw [if_neg hk] at e
    exact .inr e
theorem jdX {cells:List (Str×Addr)}{x:Str}{c:Addr}:∀ {names:List (Str×Ya3)} {acc:List (Str×Addr)},cells.lookup x=some c->acc.lookup x=some c->(jbd cells names acc).lookup x=some c
 | [],_,_,h=>h
 | (n,k)::r,acc,hc,h=>by
  unfold jbd
  refine jdX hc ?_
  split
  ·split
   ·rename_i c' e
    by_cases hx:x=n
    ·subst hx
     rw [hc] at e; cases e
     simp
    ·simp only [YaJ,beq_eq_false_iff_ne.mpr hx]
     exact h
   ·exact h
  ·exact h
theorem jcA {cells:List (Str×Addr)}{x:Str}{c:Addr}:∀ {names:List (Str×Ya3)} {acc:List (Str×Addr)},cells.lookup x=some c->(x,Yaz)∈names->(jbd cells names acc).lookup x=some c
 | (n,k)::r,acc,hc,h=>by
  unfold jbd
  rcases YaI.mp h with e | h
  ·cases e
   refine jdX hc ?_
   simp [hc]
  ·exact jcA hc h
structure CloScope (N P:List Str)(sc:Scope):Prop where
 kind:sc.kind=.function
 co:sc.isCoroutine=false
 gen:sc.isGenerator=false
 nd:N.Nodup
 pre:N.take P.length=P
 par:∀ x∈P,sc.names.lookup x=some .local
 nocell:∀ y∈sc.names,y.2≠.cell
 frees:∀ x,(x,Yaz)∈sc.names->sc.names.lookup x=some .free
section
variable {P:Program}{w:World}{K:Yaa}{mg:Str->Option Value}{base:Heap}
noncomputable def cxC (P:Program)(w:World)(K:Yaa)(mg:Str->Option Value)(base:Heap)(N:List Str)(qual:Str)(scope:Scope)(cl:List (Str×Addr))(f:Addr)(cd:Value)(A:Around)(outer:List Env)(s:Shared)(H:Hp)(E:XK):Cx where
 prog:=P
 w:=w
 K:=K
 mg:=mg
 base:=base
 A:=A.deeper (envX qual scope s.heap.objs.size f cd cl)
 N:=N
 s₀:=s
 H₀:=H
 env:=envX qual scope s.heap.objs.size f cd cl
 outer:=outer
 stack:=envX qual scope s.heap.objs.size f cd cl::outer
 ex:=[]
 calm:=true
 fn:=fun x=>scope.names.lookup x != some .free
 pn:=[]
 xe:=XL (model P w) (A.deeper (envX qual scope s.heap.objs.size f cd cl)) (envX qual scope s.heap.objs.size f cd cl) fun e s'=>CX1 P w outer H s E e s'
theorem jfR {N:List Str}{vs:List V}{i:Nat}{v:V}(h:(start N vs)[i]?=some (some v)):vs[i]?=some v:=by
 unfold start at h
 by_cases hi:i < vs.length
 ·rw [YaC (by simpa using hi),Yay] at h
  cases e:vs[i]? with
  | none=>rw [e] at h; cases h
  | some a=>rw [e] at h; simpa using h
 ·rw [YaP (by simpa using hi),Ycj] at h
  split at h <;> cases h
theorem jiR {ps:List Str}{us:List Value}{i:Nat}{x:Str}{u:Value}(nd:ps.Nodup)(h1:ps[i]?=some x)(h2:us[i]?=some u):(ps.zip us).reverse.lookup x=some u:=by
 have hm:(x,u)∈ps.zip us:=Yba (List.getElem?_zip_eq_some.mpr ⟨h1,h2⟩)
 have key:∀ {l:List (Str×Value)},(x,u)∈l->(∀ v,(x,v)∈l->v=u)->l.lookup x=some u:=by
  intro l
  induction l with
  | nil=>intro h _; exact absurd h (by simp)
  | cons p r ih=>
   obtain ⟨y,v⟩:=p
   intro h hu
   rw [YaJ]
   by_cases hy:x=y
   ·subst hy
    rw [beq_self_eq_true,hu v Yao]
   ·rw [beq_eq_false_iff_ne.mpr hy]
    rcases YaI.mp h with e | h
    ·cases e; exact absurd rfl hy
    ·exact ih h fun v hv=>hu v (Yag _ hv)
 refine key (List.mem_reverse.mpr hm) fun v hv=>?_
 obtain ⟨j,hj⟩:=List.getElem?_of_mem (List.mem_reverse.mp hv)
 obtain ⟨e1,e2⟩:=List.getElem?_zip_eq_some.mp hj
 obtain rfl:=jb2 nd h1 e1
 rw [h2] at e2
 exact (Yan e2).symm
theorem jj8 {N ps:List Str}{qual:Str}{scope:Scope}{cl:List (Str×Addr)}{f:Addr}{cd:Value}{A:Around}{outer:List Env}{s:Shared}{h1:Heap}{tk:Tok}{H:Hp}{E:XK}{us:List Value}{vs cvs:List V}
  (S:CloScope N ps scope) (hd:A.handled=none) (e0:Env0 P w K mg base A outer s H) (hl:vs.length=ps.length) (r:Vals vs us) (hN:vs.length + cvs.length<=N.length)
  (hns:h1.Ns s.heap.objs.size fun x=>(ps.zip us).reverse.lookup x) (hk:∀ b o,s.heap.get? b=some o->h1.get? b=some o)
  (hcl:∀ x c,cl.lookup x=some c->scope.names.lookup x=some .free/\(∃ v,s.heap.IsCell c v)/\H c=none) (inj:∀ x y c,cl.lookup x=some c->cl.lookup y=some c->x=y)
  (has:∀ x,scope.names.lookup x=some .free->∃ c,cl.lookup x=some c)
  (hv:∀ i x v,N[ps.length + i]?=some x->cvs[i]?=some v->scope.names.lookup x=some .free/\∃ c u,cl.lookup x=some c/\RelV v u/\s.heap.IsCell c (some u)) :
  Inv (cxC P w K mg base N qual scope cl f cd A outer s H E) [] (start N (vs++cvs)) H { s with heap:=h1,toks:=tk }:=by
 have noA:∀ b:Addr,b∉(cxC P w K mg base N qual scope cl f cd A outer s H E).ex:=fun b z=>absurd (show b∈([]:List Addr) from z) (by simp)
 have cellK:∀ {c:Addr} {v:Option Value},s.heap.IsCell c v->h1.IsCell c v:=fun ⟨o,ho,hd⟩=>⟨o,hk _ _ ho,hd⟩
 refine ⟨⟨e0.mod,S.kind,rfl,rfl,Yaf _,inj,fun y hy=>?_,fun y c hf h=>?_,fun _=>hd,Ye3 e0.frames,.inr ⟨rfl,rfl⟩,fun b z=>absurd z (noA b),e0.bs,e0.bsz,fun b _ _=>noA b,fun b z=>absurd z (noA b),e0.funs,e0.frf⟩,
  rfl,e0.bare,Un.kept hk,⟨_,hns,fun i y v h1 h2 h3=>?_⟩,fun y c h=>?_,e0.hok.fresh (Yaf _),fun y c h=>(hcl y c h).2.2,fun p hp=>absurd (show p∈([]:List (Addr×Obj)) from hp) (by simp),e0.hok.kept hk,?_⟩
 ·have hy:scope.names.lookup y=some .cell\/scope.names.lookup y=some .free:=hy
  rcases hy with hy | hy
  ·exact absurd rfl (S.nocell _ (Yax hy))
  ·exact has y hy
 ·have hf:(scope.names.lookup y != some .free)=true:=hf
  rw [(hcl y c h).1] at hf
  exact absurd hf (by decide)
 ·have e:=jfR h2
  by_cases hi:i < vs.length
  ·rw [YaC hi] at e
   obtain ⟨u,hu,rv⟩:=r.get e
   have hp:ps[i]?=some y:=by
    rw [<- S.pre,YeP (by omega)]; exact h1
   have ndP:ps.Nodup:=by rw [<- S.pre]; exact S.nd.sublist (Ycr _ _)
   exact ⟨u,rv,.inl ⟨S.par y (Yba hp),jiR ndP hp hu⟩⟩
  ·rw [YaP (by omega)] at e
   obtain ⟨hf,c,u,hc,rv,z⟩:=hv (i - vs.length) y v (by rw [<- hl,Nat.add_sub_cancel' (by omega)]; exact h1) e
   exact ⟨u,rv,.inr ⟨.inr hf,c,hc,cellK z⟩⟩
 ·obtain ⟨_,⟨v,z⟩,_⟩:=hcl y c h
  exact ⟨v,cellK z⟩
 ·unfold start
  show _=N.length
  rw [YaD,Yac,Ye4,YaD]
  omega
theorem jkp {name qual:Str}{params:YcF}{body:List Stmt}{scope:Scope}{cl:List (Str×Addr)}{doc pm ctv cdv:Value}{f:Addr}{o:Obj}{N ps:List Str}{k:Nat}{A:Around}{outer:List Env}{s:Shared}{H:Hp}{args:Args}{us:List Value}{vs cvs:List V}{Q:VK}{E:XK}
  (ho:s.heap.get? f=some o) (hd:o.data=.func (fnX name qual params body scope cl .none .none doc pm none cdv ctv)) (hcd:s.heap.CodeRec cdv qual) (S:CloScope N ps scope) (hr:Room (k + 1) A) (e0:Env0 P w K mg base A outer s H)
  (hb:BindsTo s (fnX name qual params body scope cl .none .none doc pm none cdv ctv) args (ps.zip us)) (r:Vals vs us) (hl:vs.length=ps.length) (hN:vs.length + cvs.length<=N.length)
  (hcl:∀ x c,cl.lookup x=some c->scope.names.lookup x=some .free/\(∃ v,s.heap.IsCell c v)/\H c=none) (inj:∀ x y c,cl.lookup x=some c->cl.lookup y=some c->x=y)
  (has:∀ x,scope.names.lookup x=some .free->∃ c,cl.lookup x=some c)
  (hv:∀ i x v,N[ps.length + i]?=some x->cvs[i]?=some v->scope.names.lookup x=some .free/\∃ c u,cl.lookup x=some c/\RelV v u/\s.heap.IsCell c (some u))
  (hbody:Room k (A.deeper (envX qual scope s.heap.objs.size f cdv cl))->∃ t,PSs (cxC P w K mg base N qual scope cl f cdv A outer s H E) body t/\t { nx:=fun _ H'=>Q .non H',rt:=Q } (start N (vs++cvs)) H) :
  codeAny (model P w) A (.call (.ref f) args) (CR (CX1 P w) outer P w H s Q E) s:=by
 have lim:s.heap.NoLimit:=e0.mod.nolimit.keeps fun b o e=>(e0.bs b o e).1
 refine codeAny_call_def (fd:=fnX name qual params body scope cl .none .none doc pm none cdv ctv) (body:=body) hr.depth ho hd lim hcd rfl hb S.nocell (fun y hy=>S.par y.1 (Yci (show (y.1,y.2)∈_ from hy)).1) (fun h1 hns hk=>?_) S.co S.gen S.kind
 obtain ⟨t,ht,hq⟩:=hbody (hr.deeper _)
 have I:=jj8 (tk:=s.toks + (ps.zip us).length) (qual:=qual) (f:=f) (cd:=cdv) (E:=E) S hr.hd e0 hl r hN hns hk hcl inj has hv
 refine YaL (ht [] _ _ H _ I hq) (fun fl s' hs=>?_) fun e s' z=>?_
 ·have fin:∀ {σ':St} {H':Hp} {v:V} {u:Value},Inv (cxC P w K mg base N qual scope cl f cdv A outer s H E) [] σ' H' s'->RelV v u->Q v H'->CE outer P w H s Q u s':=
   fun {σ' H' v u} J rv q=>⟨v,H',J.os,J.bare,J.base,J.hok,rv,q⟩
  cases fl with
  | ret u=>
   obtain ⟨v,σ',H',J,rv,q⟩:=hs
   exact fin J rv q
  | next=>
   obtain ⟨σ',H',J,q⟩:=hs
   exact fin (v:=V.non) (u:=YbA) J rfl q
  | brk=>
   obtain ⟨_,_,_,q⟩:=hs
   exact Ybk q
  | cont=>
   obtain ⟨_,_,_,q⟩:=hs
   exact Ybk q
 ·show wpAny _ _ (leaving _ e) _ _ s'
  unfold leaving
  exact Yab z
theorem Fun.runX {x qual:Str}{st:Stmt}{f:Addr}{fd:Ybh}{N ps:List Str}{k:Nat}{A:Around}{outer:List Env}{s:Shared}{H:Hp}{args:Args}{us:List Value}{vs:List V}{Q:VK}{E:XK}
  (F:Fun K x qual st f fd) (S:FnScope N ps (jaa st)) (hr:Room (k + 1) A) (e0:Env0 P w K mg base A outer s H) (hb:BindsTo s fd args (ps.zip us)) (r:Vals vs us) (hl:vs.length=ps.length)
  (hbody:∀ cdv,fd.code=cdv->Room k (A.deeper (envOfC qual (jaa st) s.heap.objs.size f cdv))->∃ t,PSs (cx1 P w K mg base N qual (jaa st) f cdv A outer s H E) (jae st) t/\t { nx:=fun _ H'=>Q .non H',rt:=Q } (start N vs) H) :
  codeAny (model P w) A (.call (.ref f) args) (CR (CX1 P w) outer P w H s Q E) s:=by
 obtain ⟨oc,od,kV,doc,pm,an,cdv,ct,osl,rfl,lk,hcd⟩:=F.ex
 have kx:K.In s.heap:=e0.mod.kin.keeps fun b o e=>(e0.bs b o e).1
 have hcell:∀ y∈ps.zip us,(jaa st).names.lookup y.1=some .local\/((jaa st).names.lookup y.1=some .cell/\((Ybd (s.heap.objs.size + 1) (jaa st).names []).lookup y.1).isSome=true):=fun ⟨n,v⟩ hy=>
  (S.par n (Yci hy).1).imp id fun q=>⟨q,Ycg _ _ _ (.inl q)⟩
 refine YdF hr.depth (kx _ _ lk) rfl S.co S.gen rfl (Ydu kx hcd) (hb _ _ _ _ (Yc4 S.kind hcell fun env he s1 y=>?_))
 subst he
 refine ⟨(e0.mod.nolimit.keeps fun b o e=>(e0.bs b o e).1).keeps y.toInCall.keep,Yf2 ?_⟩
 obtain ⟨t,ht,hq⟩:=hbody cdv rfl (hr.deeper _)
 have I:Inv (cxOf (CX1 P w) P w K mg base N qual (jaa st) f cdv A outer s H E) [] (start N vs) H s1:=jcr S hr.hd e0 hl r y
 refine YaL (ht [] s1 (start N vs) H _ (I.wish _) hq) (fun fl s' hs=>?_) fun e s' z=>?_
 ·cases fl with
  | ret u=>obtain ⟨v,σ',H',J,rv,q⟩:=hs; exact ⟨v,H',J.os,J.bare,J.base,J.hok,rv,q⟩
  | next=>obtain ⟨σ',H',J,q⟩:=hs; exact ⟨.non,H',J.os,J.bare,J.base,J.hok,rfl,q⟩
  | brk=>obtain ⟨_,_,_,q⟩:=hs; exact q.elim
  | cont=>obtain ⟨_,_,_,q⟩:=hs; exact q.elim
 ·show wpAny _ _ (leaving _ e) _ _ s'
  unfold leaving
  exact Yab z
theorem CX1.outC {N:List Str}{qual:Str}{scope:Scope}{cl:List (Str×Addr)}{f:Addr}{cd:Value}{A:Around}{outer:List Env}{s s':Shared}{H H':Hp}{E:XK}{pins:List (Addr×Obj)}{σ:St}{ea:Addr}{cls:Value}{dx:Option Addr}
  (I:Inv (cxC P w K mg base N qual scope cl f cd A outer s H E) pins σ H' s') (l:Lies s.heap.objs.size [] H' s'.heap ea cls dx) (q:E cls dx H'):(cxC P w K mg base N qual scope cl f cd A outer s H E).xe (.ref ea) s':=by
 have J:Inv (cxC P w K mg base N qual scope cl f cd A outer s H E) [] σ H' s':=I.pins_of fun p hp=>absurd hp (by simp)
 exact jgB (X:=cxC P w K mg base N qual scope cl f cd A outer s H E) (E:=fun e s'=>CX1 P w outer H s E e s') J rfl rfl l fun h' J' l'=>⟨ea,H',cls,dx,rfl,J'.os,J'.bare,J'.base,J'.hok,l',q⟩
end
noncomputable def jkw (o:Obj)(q:Str):Prop:=∃ vs t,o.data=.fields vs/\vs[1]?=some (.str q t)
noncomputable abbrev frzC (o:Obj):HO:=.frz o (.ext fun _=>True)
noncomputable def jiO (H:Hp)(P:Addr)(pos:Pos)(q:Str):Prop:=
 H P=some (.tbl #[])\/∃ c oc,H P=some (.tbl #[rawInt pos.line,rawInt pos.col,.ref c])/\H c=some (frzC oc)/\jkw oc q
noncomputable def jiP (H H':Hp)(P:Addr)(pos:Pos)(q:Str)(c:Addr)(oc:Obj):Prop:=
 H' c=some (frzC oc)/\jkw oc q/\(H'=H\/(H P=some (.tbl #[])/\H c=none/\H'=upd (upd H c (frzC oc)) P (.tbl #[rawInt pos.line,rawInt pos.col,.ref c])))
noncomputable def BmAt (mg:Str->Option Value)(base:Heap):Prop:=∃ bm ob,mg "__builtins__" = some (.ref bm)/\bm≠YdP/\base.get? bm=some ob/\ob.cls=.type "module" /\ ob.dict=some YdP/\ob.data=.plain
section
variable {X:Cx}{pins:List (Addr×Obj)}{σ:St}{H:Hp}{s:Shared}
theorem jhW {name:Str}{params:YcF}{body:List Stmt}{scope:Scope}{pos:Pos}{c P:Addr}{i:Nat}{Q:Flow->Shared->Prop}(I:Inv X pins σ H s)(hN:X.N.Nodup)(hi:X.N[i]?=some name)(hx:Loc X.env.scope name)(hfn:X.fn name=true\/X.env.scope.names.lookup name=some .local)
  (hcd:X.env.code=.ref c) (hC:CodeHd X.base c P) (hB:BmAt X.mg X.base) (hT:jiO H P pos (YcS X.env name name)) (hd0:params.defaults=[]) (hk0:params.kw_defaults=[]) (ha:annTrees params none X.env=[])
  (hfree:∀ y∈scope.names,y.2=.free->∃ c,X.env.cells.lookup y.1=some c)
  (h:∀ f c' oc doc ctv H' s',jiP H H' P pos (YcS X.env name name) c' oc->
   Inv X (pins++[(f,fnMade name (YcS X.env name name) params body scope (jbd X.env.cells scope.names []) doc ((X.mg "__name__").getD .none) c' ctv)]) (σ.set i (some (.ref f))) H' s'->Q .next s') :
  wpAny (model X.prog X.w) X.A (exec (.FunctionDef name params body [] none [] scope none name pos) X.env) Q X.xe s:=by
 refine nestDef_K hd0 hk0 ha ?_
 have hg:s.heap.Ns YaB X.mg:=I.mod.glob.keeps I.bk
 obtain ⟨bm,ob,b1,b2,b3,b4,b5,b6⟩:=hB
 have b3s:=I.bk _ _ b3
 have neG:bm≠YaB:=fun q=>by
  obtain ⟨o,es,ep,e,hd,_⟩:=hg
  rw [q,e] at b3s; cases b3s; rw [hd] at b6; cases b6
 have noP:∀ {ps:Array Value},s.heap.get? P=some (tabObj ps)->YaB≠P/\bm≠P:=by
  intro ps hP
  constructor
  ·intro q
   obtain ⟨o,es,ep,e,hd,_⟩:=hg
   rw [q,hP] at e
   cases e
   cases hd
  ·intro q
   rw [q,hP] at b3s
   cases b3s
   cases b4
 have pinOk:∀ {f:Addr} {fo:Obj} {H':Hp} {s':Shared},s.heap.objs.size<=f->s'.heap.get? f=some fo->H' f=none->(∀ v,fo.data≠.cell v)->Inv X pins σ H' s'->Inv X (pins++[(f,fo)]) σ H' s':=fun {f fo H' s'} hf hg hn hd J=>
  J.pins_of fun p hp=>(List.mem_append.mp hp).elim (fun z=>J.pin p (YaA _ z)) fun z=>by
   rw [List.mem_singleton.mp z]
   exact ⟨hg,hn,Yfg (Yaq I.lt hf),I.nofs hf,hd⟩
 rcases hT with hP | ⟨c',oc,hP,hc',hco⟩
 ·have gP:s.heap.get? P=some (tabObj #[]):=I.hok P _ hP
  refine makeFunction_K (mg:=X.mg) (jbD hfree) I.ok.glob hg hcd (hC.keeps I.bk) gP trivial rfl (noP gP).1 ⟨bm,ob,b1,b2,neG,(noP gP).2,b3s,b4,b5,b6⟩ fun c' ctv doc h' tk hx1 hge hlt hrec htb=>?_
  obtain ⟨c2,oc,vs,t,e2,hoc,hdc,hvc⟩:=hrec
  cases e2
  have hcn:H c'=none:=I.hok.fresh hge
  have hcP:c'≠P:=fun z=>by rw [z,hP] at hcn; cases hcn
  have htb':h'.get? P=some (tabObj #[rawInt pos.line,rawInt pos.col,.ref c']):=by
   have e:(#[]:Array Value)++#[rawInt pos.line,rawInt pos.col,.ref c']=#[rawInt pos.line,rawInt pos.col,.ref c']:=by simp
   rw [e] at htb; exact htb
  let fo:=fnMade name (YcS X.env name name) params body scope (jbd X.env.cells scope.names []) doc ((X.mg "__name__").getD .none) c' ctv
  let H':=upd (upd H c' (frzC oc)) P (.tbl #[rawInt pos.line,rawInt pos.col,.ref c'])
  have oth:∀ b,b≠P->b≠c'->H' b=H b:=fun b h1 h2=>by show upd _ _ _ b=_; rw [jac h1,jac h2]
  have hPP:H' P=some (.tbl #[rawInt pos.line,rawInt pos.col,.ref c']):=jag
  have hcc:H' c'=some (frzC oc):=by show upd _ _ _ c'=_; rw [jac hcP,jag]
  have neP:∀ b,H b=none->b≠P:=fun b n z=>by rw [z,hP] at n; cases n
  have neC:∀ b o,s.heap.get? b=some o->b≠c':=fun b o e z=>absurd (Yaj e) (Nat.not_lt.mpr (z ▸ hge))
  have kp:∀ b o,b≠P->s.heap.get? b=some o->(h'.push fo).get? b=some o:=fun b o hb e=>Yad _ (hx1 b o hb e)
  have trc:∀ b u,H b=some u->b≠c':=fun b u e z=>by rw [z,hcn] at e; cases e
  have un:Un X.fs [] H H' s.heap (h'.push fo):=by
   refine ⟨fun b o e n _ _=>kp b o (neP b n) e,fun b o e n _ _=>⟨o.slots,kp b o (neP b n) e⟩,fun b o e n _=>?_,fun b o e _=>?_,fun b xs e=>?_,fun b o u e=>?_,fun b ps e=>?_⟩
   ·rw [oth b (neP b n) (neC b o e)]; exact n
   ·by_cases hb:b=P
    ·exact ⟨_,by rw [hb]; exact Yad _ htb'⟩
    ·exact ⟨o,kp b o hb e⟩
   ·rw [oth b (fun z=>by rw [z,hP] at e; cases e) (trc b _ e)]; exact e
   ·rw [oth b (fun z=>by rw [z,hP] at e; cases e) (trc b _ e)]; exact e
   ·by_cases hb:b=P
    ·subst hb
     rw [hP] at e; cases e
     exact ⟨#[rawInt pos.line,rawInt pos.col,.ref c'],by rw [hPP]; simp⟩
    ·exact ⟨#[],by rw [oth b hb (trc b _ e),e]; simp⟩
  have hok:HOk X.prog X.w H' (h'.push fo):=fun b u e=>by
   by_cases hb:b=P
   ·subst hb
    rw [hPP] at e; cases e
    exact Yad _ htb'
   ·by_cases hbc:b=c'
    ·subst hbc
     rw [hcc] at e; cases e
     exact ⟨Yad _ hoc,trivial,⟨_,Yad _ hoc⟩,fun _ _ _ _=>trivial⟩
    ·rw [oth b hb hbc] at e
     refine (I.hok b u e).stay (fun d v hd q=>kp d v ?_ q) (fun d q=>?_) fun d xs q=>?_
     ·rcases hd with rfl | hd
      ·exact hb
      ·intro z; rw [z,hP] at hd; cases hd
     ·rw [oth d (fun z=>by rw [z,hP] at q; cases q) (trc d _ q)]; exact q
     ·rw [oth d (fun z=>by rw [z,hP] at q; cases q) (trc d _ q)]; exact q
  have hfs:s.heap.objs.size<=h'.objs.size:=YbD (Ya9 hge hlt)
  have hfn':H' h'.objs.size=none:=by
   have hn:H h'.objs.size=none:=I.hok.fresh hfs
   rw [oth _ (neP _ hn) (Yfg hlt)]; exact hn
  have J:=pinOk (fo:=fo) (s':={ s with heap:=h'.push fo,toks:=tk }) hfs (Yav _ rfl) hfn' (fun v z=>by cases z) (I.un (t':=tk) un hok)
  exact jb0 J hN hi hx (v:=.ref h'.objs.size) rfl (fun s' J'=>h _ c' oc doc ctv H' s' ⟨hcc,⟨vs,t,hdc,hvc⟩,.inr ⟨hP,hcn,rfl⟩⟩ J') hfn
 ·have gP:s.heap.get? P=some (tabObj #[rawInt pos.line,rawInt pos.col,.ref c']):=I.hok P _ hP
  refine makeFunction_hit (mg:=X.mg) (cv:=.ref c') (jbD hfree) I.ok.glob hg hcd (hC.keeps I.bk) gP trivial (by simp [codeAmong,rawInt]) ⟨bm,ob,b1,b2,neG,(noP gP).2,b3s,b4,b5,b6⟩ fun ctv doc h' tk hk hsz=>?_
  have kp:∀ b o,s.heap.get? b=some o->(h'.push (fnMade name (YcS X.env name name) params body scope (jbd X.env.cells scope.names []) doc ((X.mg "__name__").getD .none) c' ctv)).get? b=some o:=fun b o e=>Yad _ (hk b o e)
  have J:=pinOk (fo:=fnMade name (YcS X.env name name) params body scope (jbd X.env.cells scope.names []) doc ((X.mg "__name__").getD .none) c' ctv) (H':=H) (s':={ s with heap:=_,toks:=tk }) hsz (Yav _ rfl) (I.hok.fresh hsz) (fun v z=>by cases z) (I.kept (t':=tk) kp)
  exact jb0 J hN hi hx (v:=.ref h'.objs.size) rfl (fun s' J'=>h _ c' oc doc ctv H s' ⟨hc',hco,.inl rfl⟩ J') hfn
end
noncomputable def jif (tb:List Addr)(H:Hp):Prop:=∀ b,if b∈tb then H b=some (.tbl #[]) else H b=none\/∃ o xs,H b=some (.frz o (.lst xs))
theorem law_callT {P:Program}{w:World}{K:Yaa}{mg mb:Str->Option Value}{CX:CXT}{k:Nat}{fa a:Addr}{fd:Ybh}{x:Str}{sp:Sp}{s₁:Shared}{vs:List Value}{ns:List Int}{tb:List Addr}
  (hKl:(K.all fun p=>p.2.cls != .type "list")=true) (htb:∀ b∈tb,s₁.heap.get? b=some (tabObj #[])/\isCodeTable s₁.heap b/\K.lookup b=none) (hbm:BmAt mg s₁.heap)
  (KX:K.In s₁.heap) (hsys:∃ o,K.lookup Ya0=some o/\o.cls=.type "dict") (hns:s₁.heap.Ns YaB mg) (hb:s₁.heap.Ns YdP mb) (hbb:∀ x:Str,x ≠ "__name__" -> mb x=Yco x) (hlim:s₁.heap.NoLimit) (hg:s₁.gens=#[])
  (ha:s₁.heap.get? a=some { cls:=.type "list",data:=.seq vs.toArray }) (hi:IntsAre vs ns) (hl:ns.length<=Yae) (hr:Room k callerA)
  (F:∀ base:Heap,K.In base->base.Ns YaB mg->BmAt mg base->FnOk P w K mg base CX k fa fd [x] sp) (hbind:∀ (s:Shared) (u:Value),BindsTo s fd ⟨[u],[]⟩ [(x,u)])
  (hsp:∀ (H:Hp) (o:Obj),jif tb H->H a=some (.frz o (.lst (ns.map V.int)))->sp [.ref a] H (fun v _=>v=.bl true) fun _ _ _=>False)
  (hCX:∀ H e s',CX [] H s₁ (fun _ _ _=>False) e s'->False) :
  codeAny (model P w) callerA (.call (.ref fa) ⟨[.ref a],[]⟩) (fun r s'=>r=.ok (.ret (.bool true))/\OldK s₁.heap s'.heap/\s'.os=s₁.os/\AllBare s'.gens) s₁:=by
 have ka:K.lookup a=none:=by
  cases hk:K.lookup a with
  | none=>rfl
  | some o=>
   have e:=KX a o hk
   rw [ha] at e
   cases e
   have:=Yee.mp hKl (a,_) (mem_of_lookupK hk)
   simp at this
 let oa:Obj:={ cls:=.type "list",data:=.seq vs.toArray }
 have hat:a∉tb:=fun z=>by
  have e:=(htb a z).1
  rw [ha] at e
  cases e
 obtain ⟨H,hH⟩:∃ H:Hp,H=fun b=>if b∈tb then some (.tbl #[]) else if b=a then some (.frz oa (.lst (ns.map V.int))) else none:=⟨_,rfl⟩
 have H1:∀ {b},b∈tb->H b=some (.tbl #[]):=fun hb=>by rw [hH]; exact if_pos hb
 have H2:H a=some (.frz oa (.lst (ns.map V.int))):=by
  rw [hH]
  show (if a∈tb then _ else if a=a then _ else _)=_
  rw [if_neg hat,if_pos rfl]
 have H3:∀ {b},b∉tb->b≠a->H b=none:=fun {b} h1 h2=>by
  rw [hH]
  show (if b∈tb then _ else if b=a then _ else _)=_
  rw [if_neg h1,if_neg h2]
 clear hH
 have free:∀ {b:Addr} {o:Obj},s₁.heap.get? b=some o->o.cls≠.none->(∀ xs n,o.data≠.seq xs n)->H b=none:=fun {b o} e h1 h2=>by
  refine H3 (fun z=>?_) fun z=>?_
  ·have e2:=(htb b z).1
   rw [e] at e2; cases e2
   exact h1 rfl
  ·rw [z,ha] at e; cases e
   exact h2 _ _ rfl
 have hok:HOk P w H s₁.heap:=fun b u e=>by
  by_cases h1:b∈tb
  ·rw [H1 h1] at e; cases e
   exact (htb b h1).1
  ·by_cases h2:b=a
   ·subst h2
    rw [H2] at e; cases e
    exact ⟨ha,by rw [Yac]; exact hl,vs,_,jds hi,ha⟩
   ·rw [H3 h1 h2] at e; cases e
 have nsK:∀ {b:Addr} {m:Str->Option Value},s₁.heap.Ns b m->(hidT s₁.heap H).Ns b m:=fun {b m} ⟨o,es,ep,e,d,r⟩=>by
  refine ⟨o,es,ep,jdg e (H3 (fun z=>?_) fun z=>?_),d,r⟩
  ·have e2:=(htb b z).1
   rw [e] at e2; cases e2; cases d
  ·rw [z,ha] at e; cases e; cases d
 have hKb:K.In (hidT s₁.heap H):=fun b o e=>jdg (KX b o e) (H3 (fun z=>by rw [(htb b z).2.2] at e; cases e) fun z=>by rw [z,ka] at e; cases e)
 have hM:Mod K mg (hidT s₁.heap H):=⟨hKb,nsK hns,⟨mb,nsK hb,hbb⟩,let ⟨mc,h1,h2⟩:=hlim; ⟨mc,nsK h1,h2⟩,hsys⟩
 have hBb:BmAt mg (hidT s₁.heap H):=by
  obtain ⟨bm,ob,b1,b2,b3,b4,b5,b6⟩:=hbm
  exact ⟨bm,ob,b1,b2,jdg b3 (free b3 (by rw [b4]; nofun) (by rw [b6]; nofun)),b4,b5,b6⟩
 have e0:Env0 P w K mg (hidT s₁.heap H) callerA [] s₁ H:=⟨rfl,hM,fun b o e=>jjN e,Yeb (jgQ _ _),trivial,fun b hb=>(nomatch hb),hok,.of_eq hg⟩
 have only:jif tb H:=fun b=>by
  by_cases h1:b∈tb
  ·rw [if_pos h1]; exact H1 h1
  ·rw [if_neg h1]
   by_cases h2:b=a
   ·subst h2; exact .inr ⟨_,_,H2⟩
   ·exact .inl (H3 h1 h2)
 refine Yc9 ((F _ hKb (nsK hns) hBb).run callerA [] s₁ H ⟨[.ref a],[]⟩ [.ref a] [.ref a] _ _ hr e0 (hbind s₁ (.ref a)) (.cons rfl .nil) (hsp H oa only H2)) fun r s' h=>?_
 match r,h with
 | .error e,h=>exact (hCX H e s' h).elim
 | .ok (.ret u),h=>
  obtain ⟨v,H',os,bare,un,hok',r',q⟩:=h
  have q':v=.bl true:=q
  subst q'
  obtain rfl:u=Value.bool true:=r'
  refine ⟨rfl,⟨fun b o e=>?_,fun b o e=>un.there b o e (by simp)⟩,os,bare⟩
  by_cases h1:b∈tb
  ·obtain ⟨e1,ht,_⟩:=htb b h1
   rw [e] at e1; cases e1
   obtain ⟨more,e2⟩:=un.tbls b _ (H1 h1)
   exact .inr (.inl ⟨ht,rfl,#[],more,rfl,hok' b _ e2⟩)
  ·by_cases h2:b=a
   ·subst h2
    obtain ⟨e2,_⟩:=hok' b _ (un.frzs b _ _ H2)
    rw [ha] at e; cases e
    exact .inl e2
   ·exact .inl (un.keep b o e (H3 h1 h2) (by intro z; exact (nomatch z)) (by simp))
theorem walk_ofT {l:Yd4}{n k:Nat}{q:Program}{loose:List Str}{XP:(Str->Option Value)->Heap->Prop}{YP:World->Heap->Prop}{d:DefRec}{K:Params->Yaa}{CX:World->CXT}{sp:World->Sp}{x:Str}{tbs:List (Str×Addr×Addr)}
  (hKl:∀ w:World,((K w.params).all fun p=>p.2.cls != .type "list")=true) (htb:∀ (w:World),∀ t∈tbs,(∃ dr,(recsOf q).find? (fun e=>e.name == t.1)=some dr)/\tabIn (K w.params) t.1=some (t.2.1,t.2.2)/\(K w.params).lookup t.2.2=none)
  (hn:l.most=some n) (hn2:n<=Yae) (hdf:d.params.defaults=[]) (hr:Room k callerA)
  (hY:∀ (w:World) (h:Heap),YP w h->(K w.params).In h) (hsy:∀ w:World,∃ o,(K w.params).lookup Ya0=some o/\o.cls=.type "dict")
  (F:∀ (w:World) (mg:Str->Option Value) (fa:Addr) (h:Heap),(K w.params).In h->h.Ns YaB mg->mg d.name=some (.ref fa)->
   ∃ fd:Ybh,(∀ (s:Shared) (u:Value),BindsTo s fd ⟨[u],[]⟩ [(x,u)])/\
    ∀ base:Heap,(K w.params).In base->base.Ns YaB mg->BmAt mg base->FnOk l.prog w (K w.params) mg base (CX w) k fa fd [x] (sp w))
  (hsp:∀ (w:World) (H:Hp) (o:Obj) (a:Addr) (ns:List Int),ns.length<=n->jif (tbs.map (·.2.2)) H->H a=some (.frz o (.lst (ns.map V.int)))->sp w [.ref a] H (fun v _=>v=.bl true) fun _ _ _=>False)
  (hCX:∀ (w:World) (H:Hp) (s:Shared) (e:Value) (s':Shared),CX w [] H s (fun _ _ _=>False) e s'->False) :
  Yf5 q loose XP YP l.row.toRowW d [] (fun f vs=>YfF f vs):=by
 refine Att.attach_call hn hdf fun w s₀ s₁ mg mb fa o pm cd doc a vs ns G Y ho hd hcd hmg hobj hints hlen hg=>?_
 have kx:=hY w _ Y
 obtain ⟨fd,hb,hF⟩:=F w mg fa _ kx G.T.g hmg
 refine law_callT (tb:=tbs.map (·.2.2)) (hKl w) (fun b hb=>?_) ?_ kx (hsy w) G.T.g G.T.b G.T.builtins G.T.nolimit hg hobj hints (Yal hlen hn2) hr hF hb (fun H o hO hS=>hsp w H o a ns hlen hO hS) fun H e s'=>hCX w H s₁ e s'
 ·obtain ⟨t,ht,rfl⟩:=List.mem_map.mp hb
  obtain ⟨⟨dr,h1⟩,h2,h3⟩:=htb w t ht
  obtain ⟨c1,c2⟩:=tab_of G.T kx h1 h2
  exact ⟨c2,(c1.tab c2).isCodeTable,h3⟩
 ·obtain ⟨bm,ob,b1,b2,b3,b4,b5,b6⟩:=G.T.bmain
  exact ⟨bm,ob,b1,b2,b3,b4,b5,b6⟩
end L2

namespace L2
open PySem PySem.Spec PyProof.Rows
open Sem (wp)
open AutoSeq1 (wpAny_loadPart')
set_option maxHeartbeats 4000000
section
variable {prog:Program}{w:World}{A:Around}{E:Value->Shared->Prop}{s:Shared}
theorem jdr {l:Addr}{items:Array Value}{Q:Value->Shared->Prop}(hL:s.heap.IsList l items)
  (h:∀ h',IsEnum h' (s.heap.objs.size + 1) s.heap.objs.size 0 .none->h'.IsListIter s.heap.objs.size l 0->(∀ b o,s.heap.get? b=some o->h'.get? b=some o)->Q (.ref (s.heap.objs.size + 1)) { s with heap:=h' }) :
  wpAny (model prog w) A (call (.type "enumerate") [.ref l]) Q E s:=by
 have at2:∀ (p:Heap) (n:Nat) (o:Obj),p.objs.size=n->o.isFreed=false->(p.push o).get? n=some o:=fun p n o e f=>by
  subst e
  exact Yav p f
 have sz:=fun o=>Ydy s.heap o
 refine callType_new F.called_enumerate (by decide) (F.typeCall_enumerate_1 _) (F.newCall_enumerate_1 _) (fun obj=>YfW obj _) F.entry_enumerate_new (jdd (.ref l) _) ⟨fun _ _ _ _ _ q=>Yex hL q,?_⟩
 rw [sz]
 have he:=at2 _ _ ⟨.type "enumerate",none,.fields #[.none,.bool false,.ref s.heap.objs.size,rawInt 0,.none,.none],#[]⟩ (sz ⟨.type "list_iterator",none,.fields #[.ref l,.int 0 0],#[]⟩) rfl
 exact ⟨⟨_,he,rfl⟩,h _ he ⟨_,Yad _ (at2 _ _ _ rfl rfl),rfl,rfl⟩ fun b o x=>Yad _ (Yad _ x)⟩
end
section
variable {X:Cx}{pins:List (Addr×Obj)}{σ:St}{H:Hp}{s:Shared}{h':Heap}
noncomputable def Itf (K:Yaa)(a:Addr):It:=
 ⟨fun i H=>∃ xs x,SqL K H a xs/\xs[i]?=some x,fun i H y H'=>∃ x p,(∀ xs,SqL K H a xs->xs[i]?=some x)/\y=.ref p/\H p=none/\H'=upd H p (.tup [.int (i:Int),x]),fun i H=>∃ xs,SqL K H a xs/\xs.length=i⟩
theorem jfp {P:Program}{w:World}{K:Yaa}{elts:List Expr}{x1}{pos:Pos}(a e it:Addr)(hei:e≠it)(hae:a≠e)(hai:a≠it) :
  Turn P w K (.Tuple elts x1 pos) (Itf K a) [e,it] e (fun i h=>(∃ old,IsEnum h e it (i:Int) old)/\h.IsListIter it a i) where
 mem:=by simp
 obj:=fun i h st b hb=>by
  obtain ⟨⟨old,he⟩,o,ho,c,d⟩:=st
  simp only [YaI,Yaw,or_false] at hb
  rcases hb with rfl | rfl
  ·exact ⟨_,he,fun v z=>nomatch z⟩
  ·exact ⟨o,ho,fun v z=>by rw [d] at z; cases z⟩
 keep:=fun i h h' st k=>by
  obtain ⟨⟨old,he⟩,o,ho,r⟩:=st
  exact ⟨⟨old,k e (by simp) _ he⟩,o,k it (by simp) _ ho,r⟩
 item:=by
  intro X hP hw hK hc i pins s σ H E I hf st hg
  subst hP hw hK
  obtain ⟨xs,x,hq,hx⟩:=hg
  obtain ⟨its,rv,p,hz⟩:=I.list hq
  obtain ⟨u,hu,ru⟩:=rv.get hx
  obtain ⟨⟨old,he⟩,hit⟩:=st
  have hlt:i < its.toArray.size:=by
   have:=(List.getElem?_eq_some_iff.mp hu).1
   simpa using this
  refine wpAny_pyNext_enum_itemD (YeR (A:=X.A.in1) (I.ok.hd hc) it a hai its.toArray) he ⟨hit,p.isList⟩ hlt hei (by simp; exact ⟨hei,Ne.symm hae⟩) fun x' h' tk hP ho hs' hT hsz hk=>?_
  refine ⟨_,rfl,wpAny_letOwnedTupleGo_enum ho fun h2 he2 hs2=>?_⟩
  have ex:x'=u:=by
   have:its.toArray[i]?=some u:=by simpa using hu
   exact Yan (hP.symm.trans this)
  subst ex
  have hfr:H s.heap.objs.size=none:=I.hok.fresh (Yaf _)
  have hen:e≠s.heap.objs.size:=YaF (Yaj he)
  have hin:it≠s.heap.objs.size:=by obtain ⟨o,ho',_⟩:=hit; exact YaF (Yaj ho')
  have I1:Inv X pins σ (upd H s.heap.objs.size (.tup [.int (i:Int),x])) { s with heap:=s.heap.push { cls:=.type "tuple",data:=.seq #[.int i tk,x'] },toks:=tk + 1 }:=by
   refine I.laid (fun b o y=>Yad _ y) (Yaf _) ⟨by show 2<=Yae; decide,[.int i tk,x'],.cons ⟨tk,rfl⟩ (.cons ru .nil),TupD.new _ _⟩
  have fpU:∀ b,b≠s.heap.objs.size->FpOk X pins H b->FpOk X pins (upd H s.heap.objs.size (.tup [.int (i:Int),x])) b:=fun b hb f=>⟨by rw [jac hb]; exact f.1,f.2⟩
  have kk:∀ b o,b≠e->b≠it->(s.heap.push { cls:=.type "tuple",data:=.seq #[.int i tk,x'] }).get? b=some o->h2.get? b=some o:=fun b o be bi y=>by
   have step:h'.get? b=some o:=by
    by_cases hb:b=s.heap.objs.size
    ·subst hb
     rw [hT]
     exact (Yav s.heap (o:={ cls:=.type "tuple",data:=.seq #[.int i tk,x'] }) rfl).symm.trans y
    ·rw [Heap.get?_push_ne _ _ _ hb] at y
     exact hk b o be bi y
   exact (hs2.2 b be).trans step
  have I2:Inv X pins σ (upd H s.heap.objs.size (.tup [.int (i:Int),x])) { s with heap:=h2,toks:=tk + 1 }:=
   ji1 (s:={ s with heap:=s.heap.push { cls:=.type "tuple",data:=.seq #[.int i tk,x'] },toks:=tk + 1 }) (h':=h2) (t':=tk + 1) (e:=e) (it:=it) I1 kk (fpU e hen (hf e (by simp))) (fpU it hin (hf it (by simp)))
  refine ⟨.ref s.heap.objs.size,_,I2,rfl,⟨x,_,fun ys hy=>by rw [I.list_inj hy hq]; exact hx,rfl,hfr,rfl⟩,⟨⟨_,by simpa using he2⟩,?_⟩,fun b hb=>?_⟩
  ·obtain ⟨o,ho',r⟩:=hs'.1
   exact ⟨o,(hs2.2 it (Ne.symm hei)).trans ho',r⟩
  ·simp only [YaI,Yaw,or_false] at hb
   rcases hb with rfl | rfl
   ·rw [jac hen]; exact (hf _ (by simp)).1
   ·rw [jac hin]; exact (hf _ (by simp)).1
 done:=by
  intro X hP hw hK hc i pins s σ H E I hf st hg
  subst hP hw hK
  obtain ⟨xs,hq,hx⟩:=hg
  obtain ⟨its,rv,p,hz⟩:=I.list hq
  obtain ⟨⟨old,he⟩,hit⟩:=st
  have hl:its.toArray.size=i:=by rw [Yam,<- rv.length]; exact hx
  refine wpAny_pyNext_enum_endD (YeR (A:=X.A.in1) (I.ok.hd hc) it a hai its.toArray) he ⟨by rw [hl]; exact hit,p.isList⟩ fun h' eb=>⟨rfl,?_⟩
  obtain ⟨f0,f1,f2,f3,f4,f5⟩:=hf it (by simp)
  exact I.turned (t':=s.toks) (fun b o hb y=>eb b o hb y) f0 f1 f3 f4 f5
 self:=fun A i s Q E st h=>by
  obtain ⟨⟨old,he⟩,_⟩:=st
  exact wpAny_pyIter_enum he h
end
section
variable {X:Cx}
noncomputable def jl8 (K:Yaa)(ta:TA):TI:=fun σ H R=>ta σ H fun vs H1=>∃ a,vs=[.ref a]/\((∃ xs,SqL K H1 a xs)/\R (Itf K a) H1)
theorem jhL {l:Expr}{ta:TA}{p pos tpos:Pos}{elts:List Expr}{x1}(hg:Gl X "enumerate")(hm:X.mg "enumerate" = none)(ha:PA X [l] ta)(hs:Yar [l] X.env=[(false,eval l X.env)]:=by rfl) :
  PI X (.Tuple elts x1 tpos) (.Call (.Name "enumerate" p) [l] [] pos) (jl8 X.K ta):=by
 intro pins s σ H R I h
 refine Call_ (jcL I hg hm boot_enumerate (YbC (thn (ha pos pins s σ H _ I h) fun us s1 ⟨vs,H1,I1,r1,q1⟩=>?_) hs rfl))
 obtain ⟨a,e,q⟩:=q1
 subst e
 obtain ⟨u,rfl,rx⟩:=jbW r1
 cases rx
 have fp:∀ b∈[s1.heap.objs.size + 1,s1.heap.objs.size],FpOk X pins H1 b:=fun b hb=>by
  simp only [YaI,Yaw,or_false] at hb
  rcases hb with rfl | rfl
  ·exact I1.fpOk (YdJ _) (I1.hok.fresh (YdJ _))
  ·exact I1.fpOk (Yaf _) (I1.hok.fresh (Yaf _))
 obtain ⟨⟨xs,hq⟩,q⟩:=q
 ·obtain ⟨its,rv,t,hz⟩:=I1.list hq
  have hlt:a < s1.heap.objs.size:=by obtain ⟨o,ho,_⟩:=t.isList; exact Yaj ho
  exact jdr (items:=its.toArray) t.isList fun h' he hit hk=>wpAny_pyIter_enum he ⟨_,_,_,_,H1,rfl,I1.kept (t':=s1.toks) hk,jfp a _ _ (Nat.succ_ne_self _) (YaF (Nat.lt_succ_of_lt hlt)) (YaF hlt),⟨⟨_,he⟩,hit⟩,fp,q⟩
end
end L2

namespace L2
open PySem PySem.Spec PyProof.Rows
set_option maxHeartbeats 4000000
section
variable {X:Cx}
theorem jgh:OpR X (YaV .LtE) (fun x y H Q=>∃ i j,x=.str i/\y=.str j/\Q (.bl (!decide (j.cps.toList < i.cps.toList))) H):=by
 intro pins s σ H x y v u Q I rx ry h
 obtain ⟨i,j,rfl,rfl,q⟩:=h
 obtain ⟨t,rfl⟩:=rx
 obtain ⟨t',rfl⟩:=ry
 exact PySem.P.le_str (jak I q rfl)
theorem jdq:jaK X (.type "int") (fun xs H Q=>∃ z n,xs=[.str z]/\PySem.intText? z=some n/\z.length<=640/\Q (.int n) H):=by
 intro pins s σ H xs us Q I r h
 obtain ⟨z,n,rfl,h1,h2,q⟩:=h
 obtain ⟨u,rfl,rx⟩:=jbW r
 obtain ⟨t,rfl⟩:=rx
 exact PySem.W.KIN.call_text h1 h2 ⟨.int n,H,I.tok _,⟨_,rfl⟩,q⟩
noncomputable def Its (x:Str):It:=⟨fun i _=>i < x.cps.size,fun i H y H'=>H'=H/\∃ c,x.cps[i]?=some c/\y=.str ⟨#[c]⟩,fun i _=>x.cps.size<=i⟩
theorem jho {P:Program}{w:World}{K:Yaa}{tg:Expr}(x:Str)(t:Tok)(it:Addr):Turn P w K tg (Its x) [it] it (fun i h=>h.IsStrIter it "str_ascii_iterator" x t i) where
 mem:=by simp
 obj:=fun i h st b hb=>by
  obtain rfl:b=it:=by simpa using hb
  obtain ⟨o,e,c,d⟩:=st
  exact ⟨o,e,fun v z=>by rw [d] at z; cases z⟩
 keep:=fun i h h' st k=>let ⟨o,e,r⟩:=st; ⟨o,k it (by simp) o e,r⟩
 item:=by
  intro X hP hw hK hc i pins s σ H E I hf st hg
  subst hP hw hK
  obtain ⟨f0,f1,f2,f3,f4,f5⟩:=hf it (by simp)
  have hg:i < x.cps.size:=hg
  have hx:x.cps[i]?=some x.cps[i]:=by simp [hg]
  refine wpAny_pyNext_ascii_item st hx fun h' st' sb=>?_
  have I1:Inv X pins σ H { s with heap:=h',toks:=s.toks + 1 }:=I.turned (t':=s.toks + 1) (fun b o hb e=>(sb.2 b hb).trans e) f0 f1 f3 f4 f5
  obtain ⟨o,e,c,d⟩:=id st'
  exact ⟨_,rfl,jh4 (s:={ s with heap:=h',toks:=s.toks + 1 }) e c d (by decide) ⟨.str ⟨#[x.cps[i]]⟩,H,I1,⟨_,rfl⟩,⟨rfl,_,hx,rfl⟩,st',fun b hb=>(hf b hb).1⟩⟩
 done:=by
  intro X hP hw hK hc i pins s σ H E I hf st hg
  subst hP hw hK
  obtain ⟨f0,f1,f2,f3,f4,f5⟩:=hf it (by simp)
  have hg:x.cps.size<=i:=hg
  exact wpAny_pyNext_ascii_end (I.ok.hd hc) st (by simpa using hg) fun h' eb=>⟨rfl,I.turned (t':=s.toks) (fun b o hb e=>eb b o hb e) f0 f1 f3 f4 f5⟩
 self:=fun _ _ _ _ _ st h=>wpAny_pyIter_striter_ascii st h
noncomputable def iStr (tl:TE):TI:=fun σ H R=>tl σ H fun x H1=>∃ z:Str,x=.str z/\z.cps.all (·< 128)=true/\R (Its z) H1
theorem jle {tg l:Expr}{tl:TE}(hl:PE X l tl):PI X tg l (iStr tl):=by
 intro pins s σ H R I h
 refine thn (hl pins s σ H _ I h) fun v s1 ⟨x,H1,I1,r1,z,e,ha,q⟩=>?_
 subst e
 obtain ⟨t,rfl⟩:=r1
 refine wpAny_pyIter_ascii ha ?_
 refine ⟨s1.heap.objs.size,[s1.heap.objs.size],_,_,H1,rfl,I1.kept (t':=s1.toks) fun b o e=>Yad _ e,jho z t _,⟨_,Yav _ rfl,rfl,rfl⟩,fun b hb=>?_,q⟩
 obtain rfl:b=s1.heap.objs.size:=by simpa using hb
 exact I1.fpOk (Yaf _) (I1.hok.fresh (Yaf _))
noncomputable abbrev TF:=St->Hp->(List Str->Hp->Prop)->Prop
noncomputable def cats (out:Str)(ys:List Str):Str:=ys.foldl (·++·) out
noncomputable def PJ (X:Cx)(vs:List Expr)(t:TF):Prop:=
 ∀ (out:Str) (pins:List (Addr×Obj)) (s:Shared) (σ:St) (H:Hp) (Q:VK),out.length + 10000 * vs.length<=Yae->Inv X pins σ H s->t σ H (fun ys H1=>Q (.str (cats out ys)) H1)->wpAny (model X.prog X.w) X.A (joinParts out (evalEach vs X.env)) (EP X pins σ Q) X.xe s
theorem jff {prog:Program}{w:World}{A:Around}{E:Value->Shared->Prop}{it a:Addr}{its:Array Value}(hne:a≠it):∀ (m i:Nat) (s:Shared) (Q:List Value->Shared->Prop),s.heap.IsListIter it a i->s.heap.IsList a its->i + m<=its.size->
  (∀ h',h'.IsListIter it a (i + m)->YcQ it s.heap h'->Q ((its.toList.drop i).take m) { s with heap:=h' })->wpAny (model prog w) A (draw (.ref it) m) Q E s
 | 0,i,s,Q,hit,_,_,q=>Yah (by simpa using q s.heap hit (YcQ.refl ..))
 | m + 1,i,s,Q,hit,hl,hle,q=>by
  have hi:i < its.size:=by omega
  show wpAny _ _ (pyNext (.ref it) >>= _) Q E s
  refine Yab (YfO hit hl (x:=its[i]) (by simp [hi]) fun h1 hit1 sb1=>?_)
  refine Yab (Ybc (jff hne m (i + 1) _ _ hit1 (hl.extBut sb1.extBut hne) (by omega) fun h2 hit2 sb2=>Yah ?_))
  have e:its.toList.drop i=its[i]::its.toList.drop (i + 1):=by simp [Ybg,hi]
  have r:=q h2 (by rw [show i + (m + 1)=i + 1 + m by omega]; exact hit2) (sb1.trans sb2)
  rw [e,List.take_succ_cons] at r
  exact r
noncomputable def gLst (K:Yaa)(n:Nat)(t:TGs):TG:=fun v σ H Q=>∃ a xs,v=.ref a/\SqL K H a xs/\xs.length=n/\t xs σ H Q
theorem jli {es:List Expr}{k n:Nat}{pos:Pos}{t:TGs}(hc:X.calm=true)(h:PGs X es t)
  (hn:(YaY es X.env).length=n:=by rfl) (hst:(YaY es X.env).findIdx? (·.1)=none:=by rfl):PG X (.Tuple es k pos) (gLst X.K n t):=by
 intro pins s σ H v u Q I r hw
 obtain ⟨a,xs,rfl,hq,hl,hw⟩:=hw
 cases r
 obtain ⟨its,rv,hp,hz⟩:=I.list hq
 have hL:=hp.isList
 have hlt:a≠s.heap.objs.size:=by obtain ⟨o,ho,_⟩:=hL; exact YaF (Yaj ho)
 have sz:its.toArray.size=n:=by rw [Yam,<- rv.length]; exact hl
 rw [assign_Tuple]
 refine Yab (Yb8 ?_)
 unfold unpack
 rw [hn,hst]
 refine Yab (Ybc ?_)
 unfold unpackItems
 refine Yab ?_
 unfold notIterableAtAll
 refine Yab (wpAny_specialOf hL.typeIs slot_list_iter.lookup ?_)
 refine Yah ?_
 simp only [YbL,if_false]
 refine Yab (Ybc (Yex hL ?_))
 refine Yab (Ybc (jff hlt n 0 _ _ ⟨_,Yav _ rfl,rfl,rfl⟩ (hL.push _) (by omega) fun h1 hit1 sb1=>?_))
 have hall:List.take n (List.drop 0 its.toArray.toList)=its:=by
  rw [Ydx]
  exact YbF (by simp; rw [<- rv.length]; omega)
 rw [hall]
 have hil:its.length=n:=by rw [<- rv.length]; exact hl
 rw [if_neg (by omega)]
 have hL1:h1.IsList a its.toArray:=(hL.push _).extBut sb1.extBut hlt
 refine Yab (Ybc (YfY (I.ok.hd hc) hit1 hL1 (by simp; omega) fun h2 eb=>?_))
 simp only [Option.isSome_none,YbL,if_false]
 refine Yah ?_
 have I1:Inv X pins σ H { s with heap:=h2 }:=I.kept (t':=s.toks) fun b o e=>eb b o (YaF (Yaj e)) (sb1.extBut b o (YaF (Yaj e)) (Yad _ e))
 exact h pins _ σ H xs _ Q I1 rv hw
end
end L2

namespace L2
open PySem PySem.Spec PyProof.Rows Builtin Builtin.Str
set_option maxHeartbeats 4000000
theorem jfC (x y z:Str)(t u v w:Tok)(h0:(u == 0 || v == 0)=false)(huv:(u == v)=false)(hyz:(y == z)=false)(hy:(y.length == 0 && z.length == 0)=false)
  (hl:tooLong (x.length + (occurrences x y 0 x.length 1).length * z.length)=false) :
  Gives («str.replace» ⟨[.str x t,.str y u,.str z v,.int 1 w],[]⟩) (if (occurrences x y 0 x.length 1).isEmpty=true then .val (.str x t) else .str (glued z (partsBetween x (occurrences x y 0 x.length 1) y.length))):=by
 have body:∀ n:Nat,(limit:Sem Nat)->limit=pure n->Gives ((limit >>= fun m=>if ((occurrences x y 0 x.length m).isEmpty || (y.length == 0 && z.length == 0))=true then (rule "str.replace.nothing" >>= fun _=>ret (.str x t)) else
   isSame (.str y u) (.str z v) >>= fun same=>if same=true then (rule "str.replace.old-is-new" >>= fun _=>ret (.str x t)) else if tooLong (x.length + (occurrences x y 0 x.length m).length * z.length)=true then unsupported "str.replace:memory" else
    retStr (glued z (partsBetween x (occurrences x y 0 x.length m) y.length)))) (if (occurrences x y 0 x.length n).isEmpty=true then .val (.str x t) else .str (glued z (partsBetween x (occurrences x y 0 x.length n) y.length)))\/tooLong (x.length + (occurrences x y 0 x.length n).length * z.length)=true:=by
  rintro n limit rfl
  cases hl:tooLong (x.length + (occurrences x y 0 x.length n).length * z.length)
  ·left
   show Gives (if _=true then _ else _) _
   rw [hy,Bool.or_false]
   cases hc:(occurrences x y 0 x.length n).isEmpty
   ·rw [isSame_str_other y z u v h0 huv hyz]
    show Gives (if tooLong _=true then _ else _) _
    rw [hl]
    exact .of_eq rfl
   ·exact .rule (.of_eq rfl)
  ·exact .inr rfl
 rcases body 1 (countLimit "str.replace" (some (.int 1 w)) (x.length + 1)) (countLimit_int "str.replace" 1 w (x.length + 1) (by decide)) with h | h
 ·exact h
 ·rw [hl] at h
  cases h
theorem jhB (x y z:Str):(glued z (partsBetween x (occurrences x y 0 x.length 1) y.length)).length<=x.length + z.length:=by
 have h1:=YeJ x y 0 x.length 1
 have hy:(glued y (partsBetween x (occurrences x y 0 x.length 1) y.length)).length=x.length:=by rw [Yd8]
 rw [size_glued,YcX,YdX] at hy
 rw [size_glued,YcX,YdX]
 have h2:(occurrences x y 0 x.length 1).length * z.length<=1 * z.length:=YcB _ h1
 omega
theorem jfa (sep:Str){c:Nat}:∀ (rest:List Str) (acc:Array Nat),c∈(rest.foldl (fun acc p=>acc++sep.cps++p.cps) acc).toList->c∈acc.toList\/c∈sep.cps.toList\/∃ p∈rest,c∈p.cps.toList
 | [],_,h=>.inl h
 | p::r,acc,h=>by
  rw [Yeu] at h
  rcases jfa sep r _ h with z | z | ⟨y,hy,z⟩
  ·rw [Yfj,Yfj] at z
   rcases List.mem_append.mp z with z | z
   ·rcases List.mem_append.mp z with z | z
    ·exact .inl z
    ·exact .inr (.inl z)
   ·exact .inr (.inr ⟨p,Yao ..,z⟩)
  ·exact .inr (.inl z)
  ·exact .inr (.inr ⟨y,Yag _ hy,z⟩)
theorem ji6 {x:Str}{i j c:Nat}(h:c∈(strSub x i j).cps.toList):c∈x.cps.toList:=by
 unfold strSub at h
 have h:c∈(x.cps.extract i j).toList:=h
 rw [Array.toList_extract] at h
 exact Yds (Ydr h)
theorem jdB {x p:Str}{cuts:List Nat}{n c:Nat}(hp:p∈partsBetween x cuts n)(h:c∈p.cps.toList):c∈x.cps.toList:=by
 unfold partsBetween at hp
 obtain ⟨⟨i,j⟩,_,rfl⟩:=List.mem_map.mp hp
 exact ji6 h
theorem jhA {x y z:Str}{n c:Nat}(h:c∈(glued z (partsBetween x (occurrences x y 0 x.length n) y.length)).cps.toList):c∈x.cps.toList\/c∈z.cps.toList:=by
 cases e:partsBetween x (occurrences x y 0 x.length n) y.length with
 | nil=>rw [e] at h; exact nomatch h
 | cons p r=>
  have hm:∀ q∈p::r,c∈q.cps.toList->c∈x.cps.toList:=fun q hq hc=>jdB (by rw [e]; exact hq) hc
  rw [e] at h
  rcases jfa z r p.cps h with w | w | ⟨q,hq,w⟩
  ·exact .inl (hm p (Yao ..) w)
  ·exact .inr w
  ·exact .inl (hm q (Yag _ hq) w)
section
variable {X:Cx}
theorem jgx {pins:List (Addr×Obj)}{s:Shared}{σ:St}{H:Hp}{i:Nat}{x:Str}{pos:Pos}{v:V}{Q:Value->Shared->Prop}(I:Inv X pins σ H s)(hN:X.N[i]?=some x)(hv:Vis X.env.scope x)(hd:(x == ("__debug__" : Str))=false)(hcd:(x == ("__classdict__" : Str))=false)
  (e:σ[i]?=some (some v)) (h:∀ u,RelV v u->Q u s):wpAny (model X.prog X.w) X.A (eval (.Name x pos) X.env) Q X.xe s:=by
 obtain ⟨m,hn,hl⟩:=I.loc
 obtain ⟨u,r,l⟩:=hl i x v hN e hv
 rcases l with ⟨hk,hm⟩ | ⟨hk,c,hc,hcell⟩
 ·exact YdO (wpAny_loadName_local I.ok.kind hk hn hm (h u r)) hd
 ·rcases hk with hk | hk
  ·exact YdO (wpAny_loadName_cell I.ok.kind hk hc hcell (h u r)) hd
  ·exact YdO (wpAny_loadName_free I.ok.kind hk hc hcell (h u r) hcd) hd
noncomputable def tRep (i:Nat)(y0 b:Str)(ts:TA):TA:=fun σ H Q=>∃ z:Str,σ[i]?=some (some (.str z))/\y0.length + z.length<=Yae/\z.length + b.length<=Yae/\
 ∀ w:Str,w.length<=z.length + b.length->(∀ c∈w.cps.toList,c∈z.cps.toList\/c∈b.cps.toList)->ts σ H fun xs H2=>Q (.str (y0++z)::.str w::xs) H2
theorem jlp {i:Nat}{x y0 a b:Str}{es:List Expr}{ts:TA}{k0 k1 k2 k3:Nat}{p0 p1 p2 p3 p4 p5 p6 p7 p8:Pos}(hN:X.N[i]?=some x)(hv:Vis X.env.scope x)(hd:(x == ("__debug__" : Str))=false)(hcd:(x == ("__classdict__" : Str))=false)
  (hy0:(y0.length == 0)=false) (hab:(a == b)=false) (hl:(a.length == 0 && b.length == 0)=false) (hline:(p4.endLine == p8.line)=true) (hr:PA X es ts) :
  PA X (.BinOp (.Constant (.str y0) k0 p0) .Add (.Name x p1) p2::.Call (.Attribute (.Name x p3) "replace" p4) [.Constant (.str a) k1 p5,.Constant (.str b) k2 p6,.Constant (.int 1) k3 p7] [] p8::es) (tRep i y0 b ts):=by
 intro pos pins s σ H Q I h
 obtain ⟨z,e,l1,l2,h⟩:=h
 show wpAny _ _ (spliced ((false,_)::(false,_)::backTo pos (Yar es X.env))) _ _ s
 have two:∀ (t':Tok) (tk:Nat),0 < tk->wpAny (model X.prog X.w) X.A (spliced ((false,eval (.Call (.Attribute (.Name x p3) "replace" p4) [.Constant (.str a) k1 p5,.Constant (.str b) k2 p6,.Constant (.int 1) k3 p7] [] p8) X.env)::backTo pos (Yar es X.env)))
   (fun vs s2=>AP X pins σ Q (.str (y0++z) t'::vs) s2) X.xe { s with toks:=tk }:=by
  intro t' tk htk
  have I1:Inv X pins σ H { s with toks:=tk }:=I.tok tk
  have fin:∀ (w:Str) (t2:Tok) (tk2:Nat),w.length<=z.length + b.length->(∀ c∈w.cps.toList,c∈z.cps.toList\/c∈b.cps.toList)->wpAny (model X.prog X.w) X.A (spliced (backTo pos (Yar es X.env))) (fun vs s2=>AP X pins σ Q (.str (y0++z) t'::.str w t2::vs) s2) X.xe { s with toks:=tk2 }:=fun w t2 tk2 hw hw2=>
   thn (hr pos pins _ σ H _ (I.tok tk2) (h w hw hw2)) fun us s2 ⟨xs,H2,I2,r2,q2⟩=>⟨.str (y0++z)::.str w::xs,H2,I2,.cons ⟨_,rfl⟩ (.cons ⟨_,rfl⟩ r2),q2⟩
  refine YbG ?_
  refine Yea rfl rfl hline rfl (jgx I1 hN hv hd hcd e fun u ru=>?_)
  obtain ⟨t,rfl⟩:=ru
  refine ⟨"str", "str.replace",Yc7,PySem.F.slot_str_replace,PySem.F.type_str_replace,Yb9 _ _ _,(jfM I1 (x:=.str z) ⟨t,rfl⟩ rfl).2,?_⟩
  refine Ydd rfl (Ye6 (YbG (YcM (k:=k1) (pos:=p5) (YbG (YcM (k:=k2) (pos:=p6) (YbG (wpAny_Constant_int (k:=k3) (pos:=p7) (YfM ?_))))))))
  have ht:(tk == 0 || (tk + 1) == 0)=false:=by simp; omega
  have hb1:=jhB z a b
  refine call_gives F.slot_str_replace (Yb9 _ _ _) F.entry_str_replace (F.args_str_replace_4 _ _ _ _) (jfC z a b t tk (tk + 1) (tk + 1 + 1) ht (by simp) hab hl ?_) ?_
  ·have h1:=YeJ z a 0 z.length 1
   have h2:(occurrences z a 0 z.length 1).length * b.length<=1 * b.length:=YcB _ h1
   unfold tooLong
   exact decide_eq_false (by omega)
  ·split
   ·exact fin z t _ (by omega) fun c h=>.inl h
   ·exact ⟨by omega,fin _ _ _ hb1 fun c h=>jhA h⟩
 refine YbG (wpAny_BinOp (YcM ?_))
 refine jgx (I.tok (s.toks + 1)) hN hv hd hcd e fun u ru=>?_
 obtain ⟨t,rfl⟩:=ru
 refine PySem.P.add_str ?_
 rw [if_neg (by rw [hy0]; exact Yak)]
 by_cases hz:(z.length == 0)=true
 ·rw [if_pos hz]
  have ez:y0++z=y0:=by
   obtain ⟨c⟩:=z
   have:c=#[]:=Array.eq_empty_of_size_eq_zero (eq_of_beq hz)
   subst this
   obtain ⟨c0⟩:=y0
   show (⟨c0++#[]⟩:Str)=⟨c0⟩
   rw [Array.append_empty]
  rw [ez] at two
  exact two _ _ (Nat.succ_pos _)
 ·rw [if_neg hz]
  exact ⟨by show (y0.cps++z.cps).size<=_; rw [Yc1]; exact l1,two _ _ (Nat.succ_pos _)⟩
end
end L2

namespace L2
open PySem PySem.Spec PyProof.Rows
set_option maxHeartbeats 4000000
section
variable {prog:Program}{w:World}{K:Type}[DecidableEq K]{knd:KeyKind prog w K}{A:Around}{E:Value->Shared->Prop}{s:Shared}
theorem jdy {d:Addr}{kvs:List (K×Value)}{k:K}{key v:Value}{Q:Value->Shared->Prop}(hkey:knd.is k key=true)(hm:s.heap.DictOf knd d kvs)(hsz:kvs.length<=Yae)
  (h1:∀ u,valueAt kvs k=some u->Q u { s with toks:=s.toks + 1 })
  (h2:valueAt kvs k=none->∀ h',h'.DictOf knd d (stored kvs k v)->YcQ d s.heap h'->Q v { s with heap:=h',toks:=s.toks + 1 }):wpAny (model prog w) A (Yfb d key v) Q E s:=by
 obtain ⟨f,hf⟩:∃ f,f=valueAt kvs k:=⟨_,rfl⟩
 have hw:=hm.mapOf
 obtain ⟨o,es,ep,ho,hc,hd,hk,hp,hn⟩:=hm
 have fit:es.size<=Yae:=by
  rw [<- Ycc,hp.length]
  exact hsz
 have hv:valueAt kvs k=findBy knd.is es k:=by
  rw [<- hp.find k]
  obtain ⟨l⟩:=es
  simp [findBy]
 unfold Yfb
 refine Ybc (Yab (knd.pyHash hkey (Yab (wpAny_dictFind_of (s:={ s with toks:=s.toks + 1 }) hkey ho hd hk ?_))))
 rw [findBy_of_findIdx?] at hv
 obtain ⟨at?,hi⟩:∃ o,es.findIdx? (fun e=>knd.is k e.key)=o:=⟨_,rfl⟩
 rw [hi] at hv ⊢
 cases at? with
 | some i=>
  refine Yab (wpAny_dictEntries (s:={ s with toks:=s.toks + 1 }) ho hd ?_)
  have lt:i < es.size:=(Array.findIdx?_eq_some_iff_findIdx_eq.mp hi).1
  rw [YcR lt]
  refine Yab (wpAny_rule (Yah (h1 _ ?_)))
  rw [hv]
  show (es[i]?).map (·.val)=_
  rw [YcR lt]
  rfl
 | none=>
  have nin:k∉kvs.map (·.1):=by
   intro z
   obtain ⟨p,hp1,hp2⟩:=List.mem_map.mp z
   have:valueAt kvs k≠none:=by
    unfold valueAt
    rw [Ne,YeN,YfJ]
    exact fun q=>q p hp1 (decide_eq_true hp2)
   exact this hv
  have est:stored kvs k v=kvs++[(k,v)]:=by
   unfold stored
   rw [if_neg]
   intro z
   obtain ⟨p,hp1,hp2⟩:=Yga.mp z
   exact nin (List.mem_map.mpr ⟨p,hp1,of_decide_eq_true hp2⟩)
  refine Yab (wpAny_rule (Yab (wpAny_updateDictKeys (hz:=fit) (s:={ s with toks:=s.toks + 1 }) ho hd (Yah (h2 hv _ ?_ (YcQ.update ..))))))
  rw [est]
  refine ⟨_,_,ep + 1,YbT _ ho (Obj.isFreed_of_dict (Yfs hd _)),hc.mapDictKeys _,Yfs hd _,hk.push hkey _,?_,?_⟩
  ·rw [Array.toList_push]
   exact hp.append hkey (knd.hash k) v
  ·rw [YaE,YfT]
   refine ⟨hn,by simp,fun a ha b hb e=>?_⟩
   have:b=k:=by simpa using hb
   exact nin (by rw [<- this,<- e]; exact ha)
end
section
variable {X:Cx}
noncomputable def jnD:V->List V->Hp->VK->Prop:=fun x vs H Q=>∃ a kvs k v,x=.ref a/\vs=[kV k,v]/\H a=some (.dK kvs)/\kvs.length < Yae/\
 (match valV kvs k with | some u=>Q u H | none=>Q v (upd H a (.dK (putK kvs k v))))
theorem jjU:MtR X "dict.setdefault" jnD:=by
 intro pins s σ H x vs v0 us Q I rx rv h
 obtain ⟨a,kvs,k,v,rfl,rfl,e,l,q⟩:=h
 cases (show v0=Ybe a from rx)
 obtain ⟨u,r,rfl,ru,rr⟩:=Vals.two rv
 obtain ⟨z,hd,ws,rel,dd⟩:=jkl I.hok e
 refine YdN (YcL PySem.F.slot_dict_setdefault.plain PySem.F.entry_dict_setdefault (PySem.F.slot_dict_setdefault.check _ _ _ _ _ _ _ _ dd.typeIs (PySem.F.args_dict_setdefault_3 _ _ _) ?_))
 have opened:∀ {R:Fin->Shared->Prop} {E:Value->Shared->Prop},wpAny (model X.prog X.w) X.A.in1 (Yfb a u r >>= fun v=>ret v) R E s->wpAny (model X.prog X.w) X.A.in1 (Builtin.«dict.setdefault» ⟨[.ref a,u,r],[]⟩) R E s:=fun {R E} h=>by
  unfold Builtin.«dict.setdefault» Builtin.Dict.keyAndDefault
  refine Yab (Yab (wpAny_notOrdered_dict dd.typeIs (Yah ?_)))
  simp only [hd,YbL,if_false]
  exact h
 refine opened ?_
 refine Yab (jdy (jep ru) dd (by rw [<- rel.length]; exact z) (fun w hw=>Yah ?_) (fun hw h' dd' hs=>Yah ?_))
 ·have:=rel.val k
  cases hv:valV kvs k with
  | none=>rw [hv,hw] at this; exact this.elim
  | some x=>
   rw [hv,hw] at this
   rw [hv] at q
   exact ⟨x,H,I.tok _,this,q⟩
 ·have:=rel.val k
  cases hv:valV kvs k with
  | some x=>rw [hv,hw] at this; exact this.elim
  | none=>
   rw [hv] at q
   have hl:(putK kvs k v).length<=Yae:=by have:=jaU kvs k v; omega
   have he:∃ q,h'.get? a=some q:=let ⟨q,_,_,hq,_⟩:=dd'; ⟨q,hq⟩
   exact ⟨v,_,jdl I (by rw [e]; exact YcE) hs he (jgX hl hd (rel.put k rr) dd'),rr,q⟩
end
end L2

namespace Z
open PySem L2
set_option maxHeartbeats 4000000
inductive U where
 | non | bl (b:Bool) | int (i:Int) | str (x:Str) | tup (xs:List U) | loc (a:Addr) | fn (n:Nat) | ty (n:String)
 | exc (c:Nat) (fs:List U) | own (n:Nat) | clo (n:Nat) (cs:List U)
inductive MO where
 | lst (xs:List U) | fro (xs:List U) | dK (kvs:List (Key×U)) | dT (kvs:List (List Key×U)) | frd (o:Obj) (kvs:List (List Key×U))
noncomputable abbrev Gp:=Addr->Option MO
noncomputable def gup (G:Gp)(a:Addr)(o:MO):Gp:=fun b=>if b=a then some o else G b
structure New (G:Gp)(p:Addr)(o:MO)(G':Gp):Prop where
 no:G p=none
 eq:G'=gup G p o
structure Put (G:Gp)(a:Addr)(o:MO)(G':Gp):Prop where
 eq:G'=gup G a o
structure XV where
 c:Nat
 fs:List U
noncomputable abbrev Sg:=List (Option U)
noncomputable abbrev K1:=U->Gp->Prop
noncomputable abbrev KX:=XV->Gp->Prop
noncomputable def newO (G:Gp)(o:MO)(Q:K1):Prop:=∀ p G',New G p o G'->Q (.loc p) G'
noncomputable def putO (G:Gp)(a:Addr)(o:MO)(Q:Gp->Prop):Prop:=∀ G',Put G a o G'->Q G'
theorem newO.at {G:Gp}{o:MO}{Q:K1}(h:newO G o Q):∀ p,G p=none->Q (.loc p) (gup G p o):=fun p hp=>h p _ ⟨hp,rfl⟩
theorem putO.at {G:Gp}{a:Addr}{o:MO}{Q:Gp->Prop}(h:putO G a o Q):Q (gup G a o):=h _ ⟨rfl⟩
structure En where
 nx:Sg->Gp->Prop
 rt:K1
 ex:XV->Sg->Gp->Prop
noncomputable def lsG (G:Gp)(a:Addr):Option (List U):=match G a with
 | some (.lst xs)=>some xs
 | some (.fro xs)=>some xs
 | _=>none
noncomputable def kU:U->Option Key
 | .int i=>some (.inl i)
 | .str x=>some (.inr x)
 | _=>none
noncomputable def kUs:List U->Option (List Key)
 | []=>some []
 | u::r=>match kU u,kUs r with
  | some k,some ks=>some (k::ks)
  | _,_=>none
noncomputable def Ku:Key->U
 | .inl i=>.int i
 | .inr x=>.str x
section
variable {κ α:Type}[DecidableEq κ]
noncomputable def dGet (kvs:List (κ×α))(k:κ):Option α:=(kvs.find? fun kv=>decide (kv.1=k)).map (·.2)
noncomputable def dPut (kvs:List (κ×α))(k:κ)(v:α):List (κ×α):=
 if (kvs.any fun kv=>decide (kv.1=k))=true then kvs.map (fun kv=>if kv.1=k then (kv.1,v) else kv) else kvs++[(k,v)]
noncomputable def jcx (more:List (κ×α)):List (κ×α):=more.foldl (fun acc kv=>dPut acc kv.1 kv.2) []
end
noncomputable def cut {α:Type}(xs:List α)(lo hi:Option Int):List α:=(xs.drop (HT.sIx xs.length 0 lo)).take (HT.sIx xs.length xs.length hi - HT.sIx xs.length 0 lo)
mutual
inductive DU (G:Gp):U->PyData->Prop
 | non:DU G .non .none
 | bl (b:Bool):DU G (.bl b) (.bool b)
 | int (i:Int):DU G (.int i) (.int i)
 | str (x:Str):DU G (.str x) (.str x)
 | tup {us:List U} {ds:List PyData}:DUs G us ds->DU G (.tup us) (.tuple ds)
 | lst {a:Addr} {us:List U} {ds:List PyData}:lsG G a=some us->DUs G us ds->DU G (.loc a) (.list ds)
 | dic {a:Addr}:G a=some (.dK [])->DU G (.loc a) (.dict [])
inductive DUs (G:Gp):List U->List PyData->Prop
 | nil:DUs G [] []
 | cons {u:U} {d:PyData} {us:List U} {ds:List PyData}:DU G u d->DUs G us ds->DUs G (u::us) (d::ds)
end
noncomputable def addU:U->U->Gp->K1->Prop
 | .int i,.int j,G,Q=>Q (.int (i + j)) G
 | .str x,.str y,G,Q=>x.length + y.length<=Yae/\Q (.str (x++y)) G
 | .tup xs,.tup ys,G,Q=>xs.length + ys.length<=Yae/\Q (.tup (xs++ys)) G
 | .loc a,.loc b,G,Q=>∃ xs ys,G a=some (.lst xs)/\G b=some (.lst ys)/\xs.length + ys.length<=Yae/\newO G (.lst (xs++ys)) Q
 | .bl b,.int j,G,Q=>Q (.int ((if b=true then (1:Int) else 0) + j)) G
 | _,_,_,_=>False
noncomputable def subU:U->U->Gp->K1->Prop
 | .int i,.int j,G,Q=>Q (.int (i - j)) G
 | .bl b,.int j,G,Q=>Q (.int ((if b=true then (1:Int) else 0) - j)) G
 | .int i,.bl b,G,Q=>Q (.int (i - if b=true then (1:Int) else 0)) G
 | _,_,_,_=>False
noncomputable def mulU:U->U->Gp->K1->Prop
 | .int i,.int j,G,Q=>CMul i j/\Q (.int (i * j)) G
 | .loc a,.int k,G,Q=>∃ xs,G a=some (.lst xs)/\-(2 ^ 63)<=k/\k < 2 ^ 63/\xs.length * k.toNat<=Yae/\newO G (.lst (Yai k.toNat xs).flatten) Q
 | _,_,_,_=>False
noncomputable def jki:U->U->Gp->K1->Prop
 | .int i,.int j,G,Q=>0 < j/\j < 1073741824/\Q (.int (i / j)) G
 | _,_,_,_=>False
noncomputable def modU:U->U->Gp->K1->Prop
 | .int i,.int j,G,Q=>0 < j/\Q (.int (i % j)) G
 | _,_,_,_=>False
noncomputable def powU:U->U->Gp->K1->Prop
 | .int i,.int j,G,Q=>CPow i j/\Q (.int (i ^ j.toNat)) G
 | _,_,_,_=>False
noncomputable def binU:Yda->U->U->Gp->K1->Prop
 | .Add=>addU
 | .Sub=>subU
 | .Mult=>mulU
 | .FloorDiv=>jki
 | .Mod=>modU
 | .Pow=>powU
 | _=>fun _ _ _ _=>False
noncomputable def jl7:Yda->U->U->Gp->K1->Prop
 | .Add,.int i,.int j,G,Q=>Q (.int (i + j)) G
 | .Add,.str x,.str y,G,Q=>x.length + y.length<=Yae/\Q (.str (x++y)) G
 | .Sub,.int i,.int j,G,Q=>Q (.int (i - j)) G
 | .Mult,.int i,.int j,G,Q=>CMul i j/\Q (.int (i * j)) G
 | _,_,_,_,_=>False
noncomputable def negU:U->Gp->K1->Prop
 | .int i,G,Q=>Q (.int (-i)) G
 | _,_,_=>False
noncomputable def Small (d:PyData):Prop:=d.canLay0=true/\d.depth<=100
noncomputable def eqU:U->U->Gp->(Bool->Prop)->Prop
 | .non,.non,_,k=>k true
 | .non,.bl _,_,k=>k false
 | .non,.int _,_,k=>k false
 | .non,.str _,_,k=>k false
 | .bl _,.non,_,k=>k false
 | .bl a,.bl b,_,k=>k (decide (a=b))
 | .bl _,.str _,_,k=>k false
 | .int _,.non,_,k=>k false
 | .int i,.int j,_,k=>k (decide (i=j))
 | .int _,.str _,_,k=>k false
 | .str _,.non,_,k=>k false
 | .str _,.bl _,_,k=>k false
 | .str _,.int _,_,k=>k false
 | .str x,.str y,_,k=>k (decide (x=y))
 | x,y,G,k=>∃ d e,DU G x d/\DU G y e/\Small d/\Small e/\k (YaM d e)
noncomputable def eqQ:U->U->Gp->(Bool->Prop)->Prop
 | .loc a,.str y,G,k=>(∃ kvs,G a=some (.dK kvs)/\k false)\/(∃ xs,G a=some (.lst xs)/\k false)\/eqU (.loc a) (.str y) G k
 | .tup xs,.tup [],_,k=>k xs.isEmpty
 | .tup _,.str _,_,k=>k false
 | x,y,G,k=>eqU x y G k
noncomputable def isU:U->U->(Bool->Prop)->Prop
 | .non,.non,k=>k true
 | .bl a,.bl b,k=>k (decide (a=b))
 | .non,.bl _,k | .non,.int _,k | .non,.str _,k | .non,.tup _,k | .non,.loc _,k=>k false
 | .bl _,.non,k | .int _,.non,k | .str _,.non,k | .tup _,.non,k | .loc _,.non,k=>k false
 | .int _,.bl _,k | .str _,.bl _,k | .tup _,.bl _,k | .loc _,.bl _,k=>k false
 | _,_,_=>False
noncomputable def flat:U->Bool
 | .non | .bl _ | .int _ | .str _=>true
 | _=>false
noncomputable def eqF:U->U->Bool
 | .non,.non=>true
 | .bl a,.bl b=>a == b
 | .bl a,.int b=>(if a then 1 else 0) == b
 | .int a,.bl b=>a == (if b then 1 else 0)
 | .int a,.int b=>a == b
 | .str a,.str b=>a == b
 | _,_=>false
noncomputable def inU:U->U->Gp->(Bool->Prop)->Prop
 | .str x,.str y,_,k=>k (!(YaU y x 0 y.length 1).isEmpty)
 | x,.tup ys,_,k=>flat x=true/\ys.all flat=true/\k (ys.any fun y=>eqF y x)
 | x,.loc a,G,k=>match G a with
  | some (.lst ys)=>(flat x=true/\ys.all flat=true/\k (ys.any fun y=>eqF y x))\/
    ∃ d ds,DU G x d/\DUs G ys ds/\Small d/\(∀ e∈ds,Small e)/\k (ds.any fun e=>YaM e d)
  | some (.fro ys)=>flat x=true/\ys.all flat=true/\k (ys.any fun y=>eqF y x)
  | some (.dK kvs)=>match kU x with
   | some y=>k (dGet kvs y).isSome
   | none=>False
  | some (.dT kvs)=>match x with
   | .tup xs=>match kUs xs with
    | some y=>k (dGet kvs y).isSome
    | none=>False
   | _=>False
  | _=>False
 | _,_,_,_=>False
noncomputable def ordU:CmpOp->U->U->(Bool->Prop)->Prop
 | .Lt,.int i,.int j,k=>k (decide (i < j))
 | .LtE,.int i,.int j,k=>k (decide (i<=j))
 | .LtE,.str x,.str y,k=>k (!decide (y.cps.toList < x.cps.toList))
 | .Gt,.int i,.int j,k=>k (decide (j < i))
 | .GtE,.int i,.int j,k=>k (decide (j<=i))
 | _,_,_,_=>False
noncomputable def cmpU:CmpOp->U->U->Gp->(Bool->Prop)->Prop
 | .Eq,x,y,G,k=>eqQ x y G k
 | .NotEq,x,y,G,k=>eqU x y G fun b=>k (!b)
 | .Is,_,_,_,_=>False
 | .IsNot,x,y,_,k=>isU x y fun b=>k (!b)
 | .In,x,y,G,k=>inU x y G k
 | .NotIn,x,y,G,k=>inU x y G fun b=>k (!b)
 | o,x,y,_,k=>ordU o x y k
noncomputable def truU:U->Gp->(Bool->Prop)->Prop
 | .non,_,k=>k false
 | .bl b,_,k=>k b
 | .int i,_,k=>k (i != 0)
 | .str x,_,k=>x.length<=Yae/\k ((x.length:Int) != 0)
 | .tup xs,_,k=>k (!xs.isEmpty)
 | .loc a,G,k=>match G a with
  | some (.lst xs)=>k (!xs.isEmpty)
  | some (.fro xs)=>k (!xs.isEmpty)
  | some (.dK kvs)=>k (!kvs.isEmpty)
  | _=>False
 | _,_,_=>False
noncomputable def ixU:U->U->Gp->K1->Prop
 | .tup xs,.int i,G,Q=>match atI xs i with
  | some u=>Q u G
  | none=>False
 | .str x,.int i,G,Q=>x.length<=Yae/\match atI x.cps.toList i with
  | some c=>Q (.str ⟨#[c]⟩) G
  | none=>False
 | .loc a,y,G,Q=>match G a with
  | some (.lst xs)=>(match y with | .int i=>(match atI xs i with | some u=>Q u G | none=>False) | _=>False)
  | some (.fro xs)=>(match y with | .int i=>(match atI xs i with | some u=>Q u G | none=>False) | _=>False)
  | some (.dK kvs)=>(match kU y with | some k=>(match dGet kvs k with | some u=>Q u G | none=>False) | none=>False)
  | some (.dT kvs)=>(match y with | .tup ys=>(match kUs ys with | some k=>(match dGet kvs k with | some u=>Q u G | none=>False) | none=>False) | _=>False)
  | _=>False
 | _,_,_,_=>False
noncomputable def slU:U->Option Int->Option Int->Gp->K1->Prop
 | .tup xs,lo,hi,G,Q=>Q (.tup (cut xs lo hi)) G
 | .str x,lo,hi,G,Q=>x.length<=Yae/\Q (.str (Ydm x lo hi)) G
 | .loc a,lo,hi,G,Q=>match lsG G a with
  | some xs=>newO G (.lst (cut xs lo hi)) Q
  | none=>False
 | _,_,_,_,_=>False
noncomputable def revU:U->U->Gp->K1->Prop
 | .tup xs,.int i,G,Q=>i=-1/\Q (.tup xs.reverse) G
 | .loc a,.int i,G,Q=>match lsG G a with
  | some xs=>(i=1\/i=-1)/\newO G (.lst (if i=1 then xs else xs.reverse)) Q
  | none=>False
 | _,_,_,_=>False
noncomputable def jn2:U->U->Gp->K1->Prop
 | .loc a,.int i,G,Q=>(match G a with
  | some (.lst xs)=>0<=i/\(match xs[i.toNat]? with | some u=>Q u G | none=>False)
  | _=>False)
 | _,_,_,_=>False
noncomputable def setU:U->U->U->Gp->(Gp->Prop)->Prop
 | .loc a,y,v,G,Q=>match G a with
  | some (.lst xs)=>(match y with | .int i=>(match ixN xs.length i with | some j=>putO G a (.lst (xs.set j v)) Q | none=>False) | _=>False)
  | some (.dK kvs)=>(match kU y with | some k=>kvs.length < Yae/\putO G a (.dK (dPut kvs k v)) Q | none=>False)
  | some (.dT kvs)=>(match y with | .tup ys=>(match kUs ys with | some k=>kvs.length < Yae/\putO G a (.dT (dPut kvs k v)) Q | none=>False) | _=>False)
  | _=>False
 | _,_,_,_,_=>False
inductive Blt | len | repr | min | max | sum | all | any | sorted | int | str | isi
 deriving DecidableEq
inductive Mth | append | extend | insert | pop | reverse | index | join | get | split | setd
 deriving DecidableEq
noncomputable def jl5:List U->Option (List Int)
 | []=>some []
 | .int i::r=>(match jl5 r with | some l=>some (i::l) | none=>none)
 | _=>none
noncomputable def jcc:List U->Option (List Str)
 | []=>some []
 | .str x::r=>(match jcc r with | some l=>some (x::l) | none=>none)
 | _=>none
noncomputable def lenU:List U->Gp->K1->Prop
 | [.tup xs],G,Q=>Q (.int xs.length) G
 | [.str x],G,Q=>x.length<=Yae/\Q (.int x.length) G
 | [.loc a],G,Q=>(match G a with
  | some (.lst xs)=>Q (.int xs.length) G
  | some (.fro xs)=>Q (.int xs.length) G
  | some (.dK kvs)=>Q (.int kvs.length) G
  | _=>False)
 | _,_,_=>False
noncomputable def jf6:List U->Gp->K1->Prop
 | [u],G,Q=>∃ d,DU G u d/\Fits 16000000 60 d/\Q (.str d.shown) G
 | _,_,_=>False
noncomputable def minU:List U->Gp->K1->Prop
 | [.int i,.int j],G,Q=>Q (.int (if j < i then j else i)) G
 | _,_,_=>False
noncomputable def jlL (xs:List U)(G:Gp)(Q:K1):Prop:=match jl5 xs with
 | some ns=>ns≠[]/\∀ z∈ns,(∀ y∈ns,y<=z)->Q (.int z) G
 | none=>False
noncomputable def maxU:List U->Gp->K1->Prop
 | [.int i,.int j],G,Q=>Q (.int (if j > i then j else i)) G
 | [.loc a],G,Q=>(match G a with
  | some (.lst xs)=>jlL xs G Q
  | _=>False)
 | [.tup xs],G,Q=>jlL xs G Q
 | _,_,_=>False
noncomputable def intU:List U->Gp->K1->Prop
 | [.int i],G,Q=>Q (.int i) G
 | [.bl b],G,Q=>Q (.int (if b then 1 else 0)) G
 | [.str z],G,Q=>∃ n,PySem.intText? z=some n/\z.length<=640/\Q (.int n) G
 | _,_,_=>False
noncomputable def strU:List U->Gp->K1->Prop
 | [.int i],G,Q=>i.natAbs.log2 < 1920/\Q (.str (toString i:String)) G
 | [.bl b],G,Q=>Q (.str (if b=true then ("True" : Str) else "False")) G
 | _,_,_=>False
noncomputable def mkDU:U->Gp->K1->Prop
 | .loc a,G,Q=>(match G a with
  | some (.dK kvs)=>∃ ns:List Int,kvs.map (·.1)=ns.map (fun z=>(Sum.inl z:Key))/\newO G (.lst (ns.map .int)) Q
  | _=>False)
 | _,_,_=>False
noncomputable def jnu:U->Gp->K1->Prop
 | .tup us,G,Q=>∃ ns:List Int,us=ns.map .int/\ns.length < 64/\∀ ms:List Int,ms.Pairwise (·< ·)->(∀ z,z∈ms↔z∈ns)->newO G (.lst (ms.map .int)) Q
 | _,_,_=>False
noncomputable def jnX:U->Gp->K1->Prop
 | .loc a,G,Q=>(match G a with
  | some (.lst us)=>∃ ks:List (List Int),(us=ks.map (fun k=>U.tup (k.map .int))\/∃ ns:List Int,us=ns.map .int/\ks=ns.map fun n=>[n])/\(us=[]->Q .non G)/\∀ u,us[jms ks]?=some u->Q u G
  | _=>False)
 | _,_,_=>False
noncomputable def jnY:U->Gp->K1->Prop
 | .loc a,G,Q=>(match G a with
  | some (.lst us)=>∃ ns:List Int,us=ns.map .int/\(ns=[]->Q (.int 0) G)/\∀ z∈ns,(∀ y∈ns,y<=z)->Q (.int z) G
  | _=>False)
 | _,_,_=>False
noncomputable def bltU:Blt->List U->Gp->K1->Prop
 | .len=>lenU
 | .repr=>jf6
 | .min=>minU
 | .max=>fun _ _ _=>False
 | .sum=>fun _ _ _=>False
 | .all=>fun _ _ _=>False
 | .any=>fun _ _ _=>False
 | .sorted=>fun _ _ _=>False
 | .int=>intU
 | .str=>strU
 | .isi=>fun _ _ _=>False
noncomputable def jeE:U->List U->Gp->K1->Prop
 | .loc a,[v],G,Q=>(match G a with
  | some (.lst xs)=>xs.length < Yae/\putO G a (.lst (xs++[v])) (Q .non)
  | _=>False)
 | _,_,_,_=>False
noncomputable def jgN:U->List U->Gp->K1->Prop
 | .tup xs,[.str n],G,Q=>(match jcc xs with | some ys=>n∈ys/\Q (.int (ys.idxOf n)) G | none=>False)
 | .loc a,[.str n],G,Q=>(match G a with
  | some (.lst xs)=>(match jcc xs with | some ys=>n∈ys/\Q (.int (ys.idxOf n)) G | none=>False)
  | _=>False)
 | _,_,_,_=>False
noncomputable def jj4:U->List U->Gp->K1->Prop
 | .str z,[.tup xs],G,Q=>(match jcc xs with | some ys=>z.length<=16/\(ys.map (·.length)).sum + ys.length<=1048576/\Q (.str (Ya4 z ys)) G | none=>False)
 | .str z,[.loc a],G,Q=>(match G a with
  | some (.lst xs)=>(match jcc xs with | some ys=>z.length<=16/\(ys.map (·.length)).sum + ys.length<=1048576/\Q (.str (Ya4 z ys)) G | none=>False)
  | _=>False)
 | _,_,_,_=>False
noncomputable def jip:U->List U->Gp->K1->Prop
 | .str z,[.str y],G,Q=>(y.length == 0)=false/\z.length<=Yae/\(Yfd z y).length<=Yae/\newO G (.lst ((Yfd z y).map .str)) Q
 | _,_,_,_=>False
noncomputable def jhv:U->List U->Gp->K1->Prop
 | .loc a,[y,v],G,Q=>(match G a with
  | some (.dK kvs)=>(match kU y with
   | some k=>kvs.length < Yae/\(match dGet kvs k with | some u=>Q u G | none=>putO G a (.dK (dPut kvs k v)) (Q v))
   | none=>False)
  | _=>False)
 | _,_,_,_=>False
noncomputable def jas:Mth->U->List U->Gp->K1->Prop
 | .append=>jeE
 | .extend=>fun _ _ _ _=>False
 | .insert=>fun _ _ _ _=>False
 | .pop=>fun _ _ _ _=>False
 | .reverse=>fun _ _ _ _=>False
 | .index=>jgN
 | .join=>jj4
 | .get=>fun _ _ _ _=>False
 | .split=>jip
 | .setd=>jhv
noncomputable def mtU:Mth->U->Gp->Option (String×String)
 | .append,x,G=>(match x with | .loc a=>(match G a with | some (.lst _)=>some ("list", "list.append") | _=>none) | _=>none)
 | .extend,_,_=>none
 | .insert,_,_=>none
 | .pop,_,_=>none
 | .reverse,_,_=>none
 | .index,x,G=>(match x with | .loc a=>(match G a with | some (.lst _)=>some ("list", "list.index") | _=>none) | .tup _=>some ("tuple", "tuple.index") | _=>none)
 | .join,x,_=>(match x with | .str _=>some ("str", "str.join") | _=>none)
 | .get,_,_=>none
 | .split,x,_=>(match x with | .str _=>some ("str", "str.split") | _=>none)
 | .setd,x,G=>(match x with | .loc a=>(match G a with | some (.dK _)=>some ("dict", "dict.setdefault") | _=>none) | _=>none)
noncomputable def clsA:List (Str×List Str):=[("PlanError",[]),("NoPaper",["word", "at"]),("TooMany",["word"]),("NoRing",["word"]),("NoText",["row", "word"]),("NoRow",["row"])]
noncomputable def clsN (c:Nat):Str:=(clsA.getD c ("",[])).1
noncomputable def clsF (c:Nat):List Str:=(clsA.getD c ("",[])).2
inductive HL where
 | is1 (c:Nat) | isi (cs:List Nat) | isiV | v (i:Nat)
inductive HA where
 | str (x:Str) | att (f:Str)
inductive HV where
 | cond (k:Bool) (a:Bool×HL) (as:List (Bool×HL)) | one (a:HA) | bl (b:Bool) | tup (as:List HA) | lst (as:List HA)
inductive HS where
 | asg (i:Nat) (e:HV) | ifa (k:Bool) (a:Bool×HL) (as:List (Bool×HL)) (i:Nat) (e:HV)
section
variable (x:XV)
noncomputable def litH (ς:Sg):HL->Option Bool
 | .is1 c=>some (decide (x.c=c))
 | .isi cs=>some (cs.contains x.c)
 | .isiV=>some true
 | .v i=>match ς[i]? with
  | some (some (.bl b))=>some b
  | _=>none
noncomputable def lit1 (ς:Sg)(p:Bool×HL):Option Bool:=match litH x ς p.2 with
 | some b=>some (if p.1=true then !b else b)
 | none=>none
noncomputable def jbp (ς:Sg)(k:Bool):Bool×HL->List (Bool×HL)->Option Bool
 | a,[]=>lit1 x ς a
 | a,b::r=>match lit1 x ς a with
  | some t=>if t=k then jbp ς k b r else some t
  | none=>none
noncomputable def atH:HA->Option U
 | .str y=>some (.str y)
 | .att f=>((clsF x.c).zip x.fs).lookup f
noncomputable def atsH:List HA->Option (List U)
 | []=>some []
 | a::r=>match atH x a,atsH r with
  | some u,some us=>some (u::us)
  | _,_=>none
noncomputable def hvH (ς:Sg):HV->Gp->K1->Prop
 | .cond k a as,G,Q=>match jbp x ς k a as with
  | some b=>Q (.bl b) G
  | none=>False
 | .one a,G,Q=>match atH x a with
  | some u=>Q u G
  | none=>False
 | .bl b,G,Q=>Q (.bl b) G
 | .tup as,G,Q=>match atsH x as with
  | some us=>Q (.tup us) G
  | none=>False
 | .lst as,G,Q=>match atsH x as with
  | some us=>newO G (.lst us) Q
  | none=>False
noncomputable def hsH:List HS->Sg->Gp->(Sg->Gp->Prop)->Prop
 | [],ς,G,k=>k ς G
 | .asg i e::r,ς,G,k=>hvH x ς e G fun u G1=>hsH r (ς.set i (some u)) G1 k
 | .ifa q a as i e::r,ς,G,k=>match jbp x ς q a as with
  | some true=>hvH x ς e G fun u G1=>hsH r (ς.set i (some u)) G1 k
  | some false=>hsH r ς G k
  | none=>False
end
mutual
inductive E where
 | v (i:Nat) | non | bl (b:Bool) | int (i:Int) | str (x:Str) | g (n:Nat)
 | bin (o:Yda) (a b:E) | neg (a:E) | not (a:E) | bop (k:Bool) (a:E) (es:Es)
 | cmp (o:CmpOp) (a b:E) | cmp2 (o p:CmpOp) (a b c:E) | ife (c a b:E)
 | tup (es:Es) | lst (es:Es) | dic (es:Es) | dicT
 | ix (a b:E) | sl (a:E) (lo hi:Eo) | rev (a st:E)
 | call (n:Nat) (es:Es) | app (i:Nat) (es:Es) | blt (b:Blt) (es:Es) | meth (m:Mth) (o:E) (es:Es)
 | ty (n:String)
 | lc (pick:List (Option Nat)) (t:Tg) (it:It) (ifs:Es) (e:E) | lc2 (pick:List (Option Nat)) (t:Tg) (it:It) (ifs:Es) (t2:Tg) (it2:It) (ifs2:Es) (e:E) | mkL (e:E) | mkT (e:E) | rngL (a:E) | rngT (a:E) | rngL2 (a b:E) | minD (e:E) | maxD (e:E) | mkD (e:E) | sset (e:E) | fst (es:Es) | lrp (e:E) (i:Nat) (y a b:Str) (es:Es)
inductive Eo where
 | no | so (e:E)
inductive Es where
 | nil | cons (e:E) (es:Es)
inductive Tg where
 | n (i:Nat) | t (ts:Tgs)
inductive Tgs where
 | nil | cons (t:Tg) (ts:Tgs)
inductive It where
 | e (e:E) | r1 (e:E) | r2 (a b:E) | enum (e:E) | dk (e:E) | s (e:E)
end
mutual
inductive S where
 | pass | expr (e:E) | asg (t:Tg) (e:E) | asgC (i:Nat) (e:E) | unp (ts:Tgs) (e:E) | setS (o i e:E) | par (is:List Nat) (es:Es) | aug (i:Nat) (o:Yda) (e:E) | augS (o i:E) (p:Yda) (e:E)
 | ite (c:E) (a b:Ss) | fr (t:Tg) (it:It) (b:Ss) | wh (c:E) (b:Ss) | ret (e:E) | retN
 | never | raise (c:Nat) (es:Es) | tr (b:Ss) (c:Nat) (n:Nat) (h:List HS)
inductive Ss where
 | nil | cons (s:S) (ss:Ss)
end
mutual
noncomputable def tgU:Tg->U->Sg->(Sg->Prop)->Prop
 | .n i,u,ς,k=>k (ς.set i (some u))
 | .t ts,u,ς,k=>match u with
  | .tup us=>tgsU ts us ς k
  | _=>False
noncomputable def tgsU:Tgs->List U->Sg->(Sg->Prop)->Prop
 | .nil,us,ς,k=>us=[]/\k ς
 | .cons t ts,us,ς,k=>match us with
  | []=>False
  | u::r=>tgU t u ς fun ς'=>tgsU ts r ς' k
end
noncomputable abbrev Cl:=Nat->List U->Gp->K1->KX->Prop
noncomputable def slot (ς:Sg)(i:Nat)(k:U->Prop):Prop:=match ς[i]? with
 | some (some u)=>k u
 | _=>False
noncomputable def jbn (pick:List (Option Nat))(ς:Sg):Sg:=pick.map fun o=>o.bind fun j=>(ς[j]?).join
noncomputable def jdm (ok:Gp->Prop)(b:U->Gp->(Option U->Gp->Prop)->Prop):List U->List U->Gp->(List U->Gp->Prop)->Prop
 | [],acc,G,k=>ok G/\k acc G
 | x::xs,acc,G,k=>ok G/\b x G fun o G'=>jdm ok b xs (match o with | some u=>acc++[u] | none=>acc) G' k
noncomputable def jko (ok:Gp->Prop)(b:U->List U->Gp->(List U->Gp->Prop)->Prop):List U->List U->Gp->(List U->Gp->Prop)->Prop
 | [],acc,G,k=>ok G/\k acc G
 | x::xs,acc,G,k=>ok G/\b x acc G fun acc' G'=>jko ok b xs acc' G' k
noncomputable def forL (ok:Gp->Prop)(b:U->Sg->Gp->(Sg->Gp->Prop)->Prop):List U->Sg->Gp->(Sg->Gp->Prop)->Prop
 | [],ς,G,k=>ok G/\k ς G
 | x::xs,ς,G,k=>ok G/\b x ς G fun ς' G'=>forL ok b xs ς' G' k
noncomputable def rngU (i:Int)(n:Nat):List U:=(YaK n).map fun k:Nat=>.int (i + k)
noncomputable def jdk:Nat->List U->List U
 | _,[]=>[]
 | n,u::r=>.tup [.int n,u]::jdk (n + 1) r
noncomputable def itU:U->Gp->(List U->(Gp->Prop)->Prop)->Prop
 | .tup xs,_,k=>k xs fun _=>True
 | .loc a,G,k=>match lsG G a with
  | some xs=>k xs fun G'=>lsG G' a=some xs
  | none=>False
 | _,_,_=>False
noncomputable def enI:U->Gp->(List U->(Gp->Prop)->Prop)->Prop
 | .loc a,G,k=>match lsG G a with
  | some xs=>k (jdk 0 xs) fun G'=>lsG G' a=some xs
  | none=>False
 | _,_,_=>False
noncomputable def jky:U->Gp->(List U->(Gp->Prop)->Gp->Prop)->Prop
 | .loc a,G,Q=>match G a with
  | some (.dT kvs)=>∀ o G',Put G a (.frd o kvs) G'->Q (kvs.map fun p=>.tup (p.1.map Ku)) (fun G'=>G' a=some (.frd o kvs)) G'
  | _=>False
 | _,_,_=>False
noncomputable def sgU:U->(List U->Prop)->Prop
 | .str z,k=>z.cps.all (·< 128)=true/\k (z.cps.toList.map fun c=>.str ⟨#[c]⟩)
 | _,_=>False
noncomputable def fpU:U->(Str->Prop)->Prop
 | .str z,k=>z.length<=10000/\k z
 | .int i,k=>i.natAbs.log2 < 1920/\k (toString i:String)
 | _,_=>False
noncomputable def repU (y b:Str):U->(Str->Str->Prop)->Prop
 | .str z,k=>y.length + z.length<=Yae/\z.length + b.length<=Yae/\∀ w:Str,w.length<=z.length + b.length->(∀ c∈w.cps.toList,c∈z.cps.toList\/c∈b.cps.toList)->k (y++z) w
 | _,_=>False
noncomputable def unpU (ts:Tgs):U->Gp->Sg->(Sg->Prop)->Prop
 | .loc a,G,ς,k=>match lsG G a with
  | some us=>tgsU ts us ς k
  | none=>False
 | _,_,_,_=>False
noncomputable def glU (gs:List U)(n:Nat)(k:U->Prop):Prop:=match gs[n]? with
 | some u=>k u
 | none=>False
noncomputable abbrev UE:=Sg->Gp->K1->KX->Prop
noncomputable abbrev UT:=Sg->Gp->(Bool->Gp->Prop)->KX->Prop
noncomputable abbrev UA:=Sg->Gp->(List U->Gp->Prop)->KX->Prop
noncomputable def truT (t:UE):UT:=fun ς G Q X=>t ς G (fun x G1=>truU x G1 fun b=>Q b G1) X
noncomputable abbrev tp (t:UE):UE×UT:=(t,truT t)
noncomputable def comb:Bool->UE×UT->UE×UT->UE×UT
 | true,p,q=>(fun ς G Q X=>p.1 ς G (fun x G1=>truU x G1 fun c=>if c=true then q.1 ς G1 Q X else Q x G1) X,fun ς G Q X=>p.2 ς G (fun c G1=>if c=true then q.2 ς G1 Q X else Q false G1) X)
 | false,p,q=>(fun ς G Q X=>p.1 ς G (fun x G1=>truU x G1 fun c=>if c=true then Q x G1 else q.1 ς G1 Q X) X,fun ς G Q X=>p.2 ς G (fun c G1=>if c=true then Q true G1 else q.2 ς G1 Q X) X)
section
variable (gs:List U)(Δ:Cl)
mutual
noncomputable def den:E->UE×UT
 | .v i=>tp fun ς G Q _=>slot ς i fun u=>Q u G
 | .non=>tp fun _ G Q _=>Q .non G
 | .bl b=>tp fun _ G Q _=>Q (.bl b) G
 | .int i=>tp fun _ G Q _=>Q (.int i) G
 | .str x=>tp fun _ G Q _=>Q (.str x) G
 | .g n=>tp fun _ G Q _=>glU gs n fun u=>Q u G
 | .bin o a b=>tp fun ς G Q X=>(den a).1 ς G (fun x G1=>(den b).1 ς G1 (fun y G2=>binU o x y G2 Q) X) X
 | .neg a=>tp fun ς G Q X=>(den a).1 ς G (fun x G1=>negU x G1 Q) X
 | .not a=>(fun ς G Q X=>(den a).1 ς G (fun x G1=>truU x G1 fun b=>Q (.bl (!b)) G1) X,
   fun ς G Q X=>(den a).2 ς G (fun b G1=>Q (!b) G1) X)
 | .bop k a es=>denB k (den a) es
 | .cmp o a b=>tp fun ς G Q X=>(den a).1 ς G (fun x G1=>(den b).1 ς G1 (fun y G2=>cmpU o x y G2 fun c=>Q (.bl c) G2) X) X
 | .cmp2 o p a b c=>tp fun ς G Q X=>(den a).1 ς G (fun x G1=>(den b).1 ς G1 (fun y G2=>cmpU o x y G2 fun t=>if t=true then (den c).1 ς G2 (fun z G3=>cmpU p y z G3 fun t'=>Q (.bl t') G3) X else Q (.bl false) G2) X) X
 | .ife c a b=>(fun ς G Q X=>(den c).2 ς G (fun t G1=>if t=true then (den a).1 ς G1 Q X else (den b).1 ς G1 Q X) X,
   fun ς G Q X=>(den c).2 ς G (fun t G1=>if t=true then (den a).2 ς G1 Q X else (den b).2 ς G1 Q X) X)
 | .tup es=>tp fun ς G Q X=>jau es ς G (fun us G1=>us.length<=Yae/\Q (.tup us) G1) X
 | .lst es=>tp fun ς G Q X=>jau es ς G (fun us G1=>us.length<=Yae/\newO G1 (.lst us) Q) X
 | .dic es=>tp fun ς G Q X=>denD es ς G (fun kvs G1=>kvs.length<=15/\newO G1 (.dK (jcx kvs)) Q) X
 | .dicT=>tp fun _ G Q _=>newO G (.dT []) Q
 | .ix a b=>tp fun ς G Q X=>(den a).1 ς G (fun x G1=>(den b).1 ς G1 (fun y G2=>ixU x y G2 Q) X) X
 | .sl a lo hi=>tp fun ς G Q X=>(den a).1 ς G (fun x G1=>denO lo ς G1 (fun l G2=>denO hi ς G2 (fun h G3=>slU x l h G3 Q) X) X) X
 | .rev a b=>tp fun ς G Q X=>(den a).1 ς G (fun x G1=>(den b).1 ς G1 (fun y G2=>revU x y G2 Q) X) X
 | .call n es=>tp fun ς G Q X=>jau es ς G (fun us G1=>Δ n us G1 Q X) X
 | .app _ _=>tp fun _ _ _ _=>False
 | .blt b es=>tp fun ς G Q X=>jau es ς G (fun us G1=>bltU b us G1 Q) X
 | .meth m o es=>tp fun ς G Q X=>(den o).1 ς G (fun x G1=>match mtU m x G1 with
   | some _=>jau es ς G1 (fun us G2=>jas m x us G2 Q) X
   | none=>False) X
 | .ty n=>tp fun _ G Q _=>Q (.ty n) G
 | .lc pick t it ifs e=>tp fun ς G Q X=>denI it ς G (fun xs ok G1=>xs.length<=Yae/\jdm ok (fun x G2 k=>tgU t x (jbn pick ς) fun τ=>denC ifs τ G2 (fun b G3=>if b=true then (den e).1 τ G3 (fun u G4=>k (some u) G4) (fun _ _=>False) else k none G3)) xs [] G1
   fun us G5=>newO G5 (.lst us) Q) X
 | .lc2 pick t it ifs t2 it2 ifs2 e=>tp fun ς G Q X=>denI it ς G (fun xs ok G1=>jko ok (fun x acc G2 k=>tgU t x (jbn pick ς) fun τ=>denC ifs τ G2 (fun b G3=>if b=true then denI it2 τ G3 (fun ys ok2 G4=>acc.length + ys.length<=Yae/\jdm ok2 (fun y G5 k5=>tgU t2 y τ fun τ'=>denC ifs2 τ' G5 (fun b2 G6=>if b2=true then (den e).1 τ' G6 (fun u G7=>k5 (some u) G7) (fun _ _=>False) else k5 none G6)) ys acc G4 k) (fun _ _=>False) else k acc G3)) xs [] G1
   fun us G5=>newO G5 (.lst us) Q) X
 | .sset e=>tp fun ς G Q X=>(den e).1 ς G (fun x G1=>jnu x G1 Q) X
 | .fst es=>tp fun ς G Q X=>denF es ς G (fun zs G1=>Q (.str (L2.cats Str.empty zs)) G1) X
 | .lrp e i y _ b es=>tp fun ς G Q X=>(den e).1 ς G (fun x G1=>slot ς i fun u=>repU y b u fun z w=>jau es ς G1 (fun us G2=>(x::.str z::.str w::us).length<=Yae/\newO G2 (.lst (x::.str z::.str w::us)) Q) X) X
 | .mkD e=>tp fun ς G Q X=>(den e).1 ς G (fun x G1=>mkDU x G1 Q) X
 | .maxD e=>tp fun ς G Q X=>(den e).1 ς G (fun x G1=>jnY x G1 Q) X
 | .minD e=>tp fun ς G Q X=>(den e).1 ς G (fun x G1=>jnX x G1 Q) X
 | .mkL e=>tp fun ς G Q X=>(den e).1 ς G (fun x G1=>itU x G1 fun xs _=>newO G1 (.lst xs) Q) X
 | .mkT e=>tp fun ς G Q X=>(den e).1 ς G (fun x G1=>itU x G1 fun xs _=>Q (.tup xs) G1) X
 | .rngL e=>tp fun ς G Q X=>(den e).1 ς G (fun x G1=>match x with
   | .int j=>0<=j/\j<=1000000/\newO G1 (.lst (rngU 0 j.toNat)) Q
   | _=>False) X
 | .rngT e=>tp fun ς G Q X=>(den e).1 ς G (fun x G1=>match x with
   | .int j=>0<=j/\j<=1000000/\Q (.tup (rngU 0 j.toNat)) G1
   | _=>False) X
 | .rngL2 a b=>tp fun ς G Q X=>(den a).1 ς G (fun x G1=>(den b).1 ς G1 (fun y G2=>match x,y with
   | .int i,.int j=>0<=i/\i<=j/\j<=1000000000/\j - i<=1000000/\newO G2 (.lst (rngU i (j - i).toNat)) Q
   | _,_=>False) X) X
noncomputable def denB (k:Bool)(p:UE×UT):Es->UE×UT
 | .nil=>p
 | .cons e es=>comb k p (denB k (den e) es)
noncomputable def denC:Es->Sg->Gp->(Bool->Gp->Prop)->Prop
 | .nil,_,G,Q=>Q true G
 | .cons e es,ς,G,Q=>(den e).2 ς G (fun b G1=>if b=true then denC es ς G1 Q else Q false G1) (fun _ _=>False)
noncomputable def denO:Eo->Sg->Gp->(Option Int->Gp->Prop)->KX->Prop
 | .no,_,G,Q,_=>Q none G
 | .so e,ς,G,Q,X=>(den e).1 ς G (fun x G1=>match x with | .int i=>Q (some i) G1 | _=>False) X
noncomputable def jau:Es->Sg->Gp->(List U->Gp->Prop)->KX->Prop
 | .nil,_,G,Q,_=>Q [] G
 | .cons e es,ς,G,Q,X=>(den e).1 ς G (fun x G1=>jau es ς G1 (fun xs G2=>Q (x::xs) G2) X) X
noncomputable def denF:Es->Sg->Gp->(List Str->Gp->Prop)->KX->Prop
 | .nil,_,G,Q,_=>Q [] G
 | .cons e es,ς,G,Q,X=>(den e).1 ς G (fun x G1=>fpU x fun z=>denF es ς G1 (fun zs G2=>Q (z::zs) G2) X) X
noncomputable def denD:Es->Sg->Gp->(List (Key×U)->Gp->Prop)->KX->Prop
 | .nil,_,G,Q,_=>Q [] G
 | .cons e (.cons f es),ς,G,Q,X=>(den e).1 ς G (fun x G1=>(den f).1 ς G1 (fun y G2=>match kU x with
   | some k=>denD es ς G2 (fun kvs G3=>Q ((k,y)::kvs) G3) X
   | none=>False) X) X
 | .cons _ .nil,_,_,_,_=>False
noncomputable def denI:It->Sg->Gp->(List U->(Gp->Prop)->Gp->Prop)->KX->Prop
 | .e e,ς,G,Q,X=>(den e).1 ς G (fun x G1=>itU x G1 fun xs ok=>Q xs ok G1) X
 | .r1 e,ς,G,Q,X=>(den e).1 ς G (fun x G1=>match x with
   | .int j=>-(2 ^ 62)<=j/\j < 2 ^ 62/\Q (rngU 0 j.toNat) (fun _=>True) G1
   | _=>False) X
 | .r2 a b,ς,G,Q,X=>(den a).1 ς G (fun x G1=>(den b).1 ς G1 (fun y G2=>match x,y with
   | .int i,.int j=>-(2 ^ 62)<=i/\i < 2 ^ 62/\-(2 ^ 62)<=j/\j < 2 ^ 62/\Q (rngU i (j - i).toNat) (fun _=>True) G2
   | _,_=>False) X) X
 | .enum e,ς,G,Q,X=>(den e).1 ς G (fun x G1=>enI x G1 fun xs ok=>Q xs ok G1) X
 | .dk e,ς,G,Q,X=>(den e).1 ς G (fun x G1=>jky x G1 Q) X
 | .s e,ς,G,Q,X=>(den e).1 ς G (fun x G1=>sgU x fun xs=>Q xs (fun _=>True) G1) X
end
noncomputable def denE (e:E):UE:=(den gs Δ e).1
noncomputable def denT (e:E):UT:=(den gs Δ e).2
mutual
noncomputable def denS:S->En->Sg->Gp->Prop
 | .pass,D,ς,G=>D.nx ς G
 | .expr e,D,ς,G=>denE gs Δ e ς G (fun _ G1=>D.nx ς G1) fun x G1=>D.ex x ς G1
 | .asg t e,D,ς,G=>denE gs Δ e ς G (fun u G1=>tgU t u ς fun ς'=>D.nx ς' G1) fun x G1=>D.ex x ς G1
 | .asgC i e,D,ς,G=>denE gs Δ e ς G (fun u G1=>D.nx (ς.set i (some u)) G1) fun x G1=>D.ex x ς G1
 | .unp ts e,D,ς,G=>denE gs Δ e ς G (fun u G1=>unpU ts u G1 ς fun ς'=>D.nx ς' G1) fun x G1=>D.ex x ς G1
 | .setS o i e,D,ς,G=>denE gs Δ e ς G (fun v G1=>denE gs Δ o ς G1 (fun x G2=>denE gs Δ i ς G2 (fun y G3=>setU x y v G3 fun G4=>D.nx ς G4) fun x G1=>D.ex x ς G1) fun x G1=>D.ex x ς G1) fun x G1=>D.ex x ς G1
 | .par is es,D,ς,G=>jau gs Δ es ς G (fun us G1=>us.length=is.length/\D.nx ((is.zip us).foldl (fun s p=>s.set p.1 (some p.2)) ς) G1) fun x G1=>D.ex x ς G1
 | .aug i o e,D,ς,G=>slot ς i fun x=>denE gs Δ e ς G (fun y G1=>jl7 o x y G1 fun z G2=>D.nx (ς.set i (some z)) G2) fun x G1=>D.ex x ς G1
 | .augS o i p e,D,ς,G=>denE gs Δ o ς G (fun x G1=>denE gs Δ i ς G1 (fun y G2=>jn2 x y G2 fun a G3=>denE gs Δ e ς G3 (fun b G4=>jl7 p a b G4 fun z G5=>setU x y z G5 fun G6=>D.nx ς G6) fun x G1=>D.ex x ς G1) fun x G1=>D.ex x ς G1) fun x G1=>D.ex x ς G1
 | .ite c a b,D,ς,G=>denT gs Δ c ς G (fun t G1=>if t=true then jaA a D ς G1 else jaA b D ς G1) fun x G1=>D.ex x ς G1
 | .fr t it b,D,ς,G=>denI gs Δ it ς G (fun xs ok G1=>forL ok (fun x ς1 G2 k=>tgU t x ς1 fun ς2=>jaA b { D with nx:=k } ς2 G2) xs ς G1 D.nx) fun x G1=>D.ex x ς G1
 | .wh c b,D,ς,G=>∃ W:Nat->Sg->Gp->Prop,(∃ m,W m ς G)/\∀ m ς1 G1,W m ς1 G1->
   denT gs Δ c ς1 G1 (fun t G2=>if t=true then jaA b { D with nx:=fun ς' G'=>∃ m',m' < m/\W m' ς' G' } ς1 G2 else D.nx ς1 G2) fun x G1=>D.ex x ς1 G1
 | .ret e,D,ς,G=>denE gs Δ e ς G D.rt fun x G1=>D.ex x ς G1
 | .retN,D,_,G=>D.rt .non G
 | .never,_,_,_=>False
 | .raise c es,D,ς,G=>jau gs Δ es ς G (fun us G1=>us.length=(clsF c).length/\D.ex ⟨c,us⟩ ς G1) fun x G1=>D.ex x ς G1
 | .tr b c n h,D,ς,G=>jaA b { D with ex:=fun x ς1 G1=>(c=0\/x.c=c)/\hsH x h (ς1.set n none) G1 fun ς2 G2=>D.nx (ς2.set n none) G2 } ς G
noncomputable def jaA:Ss->En->Sg->Gp->Prop
 | .nil,D,ς,G=>D.nx ς G
 | .cons s ss,D,ς,G=>denS s { D with nx:=fun ς' G'=>jaA ss D ς' G' } ς G
end
end
structure Fun where
 name:Str
 ps:List Str
 N:List Str
 body:Ss
structure Nst where
 P:Addr
 ff:Nat
 vi:Nat
 fi:Nat
 caps:List Nat
 wi:Nat
 fni:Nat
 least:Int
 wn:Str
 fn:Str
 at':Str
structure Tab where
 funs:List Fun
 gs:List U
 gn:List Str:=[]
 cs:List Nat:=[]
 vf:List Fun:=[]
 ns:List (Nat×Nst):=[]
noncomputable def jaj (n:Nat)(us:List U):Sg:=us.map some++Yai (n - us.length) none
noncomputable def jad (T:Tab):Nat->Cl
 | 0,_,_,_,_,_=>False
 | k + 1,n,us,G,Q,X=>match (T.funs++T.vf)[n]? with
  | some d=>us.length=d.ps.length/\jaA T.gs (jad T k) d.body ⟨fun _ G'=>Q .non G',Q,fun x _ G'=>X x G'⟩ (jaj d.N.length us) G
  | none=>False
mutual
noncomputable def RU (K:Yaa)(H:Hp):U->V->Prop
 | .non,v=>v=.non
 | .bl b,v=>v=.bl b
 | .int i,v=>v=.int i
 | .str x,v=>v=.str x
 | .tup xs,v=>∃ a vs,v=.ref a/\H a=some (.tup vs)/\RUs K H xs vs
 | .loc a,v=>v=.ref a
 | .fn _,_=>False
 | .ty n,v=>v=.ty n
 | .exc _ _,_=>False
 | .own _,_=>False
 | .clo _ _,_=>False
noncomputable def RUs (K:Yaa)(H:Hp):List U->List V->Prop
 | [],vs=>vs=[]
 | u::us,vs=>∃ v vr,vs=v::vr/\RU K H u v/\RUs K H us vr
end
noncomputable def RKs {κ:Type}(K:Yaa)(H:Hp):List (κ×U)->List (κ×V)->Prop
 | [],l=>l=[]
 | (k,u)::r,l=>∃ v l',l=(k,v)::l'/\RU K H u v/\RKs K H r l'
noncomputable def MOk (K:Yaa)(H:Hp)(a:Addr):MO->Prop
 | .lst us=>∃ vs,H a=some (.lst vs)/\RUs K H us vs
 | .fro us=>∃ o vs,H a=some (.frz o (.lst vs))/\RUs K H us vs
 | .dK kvs=>∃ l,H a=some (.dK l)/\RKs K H kvs l
 | .dT kvs=>∃ l,H a=some (.dT l)/\RKs K H kvs l
 | .frd o kvs=>∃ l,H a=some (.frz o (.dT l))/\RKs K H kvs l
noncomputable def tabs:List (Addr×Pos×Str):=[(138,⟨38,4,46,72⟩,("line_fault" : Str) ++ ".<locals>." ++ "fits")]
noncomputable def jd6 (H:Hp):Prop:=∀ t∈tabs,jiO H t.1 t.2.1 t.2.2
structure HR (K:Yaa)(H:Hp)(G:Gp):Prop where
 mo:∀ a o,G a=some o->MOk K H a o
 tab:jd6 H
instance {K:Yaa} {H:Hp} {G:Gp}:CoeFun (HR K H G) fun _=>∀ a o,G a=some o->MOk K H a o:=⟨HR.mo⟩
noncomputable def noTb:HO->Bool
 | .tbl _=>false
 | _=>true
structure Fr (H:Hp)(G:Gp)(H':Hp)(G':Gp):Prop where
 go:∀ a o,H a=some o->G a=none->(nt:noTb o=true:=by rfl)->H' a=some o/\G' a=none
instance {H H':Hp} {G G':Gp}:CoeFun (Fr H G H' G') fun _=>∀ a o,H a=some o->G a=none->(nt:noTb o=true:=by rfl)->H' a=some o/\G' a=none:=⟨@Fr.go H G H' G'⟩
noncomputable def SR (K:Yaa)(H:Hp)(ς:Sg)(σ:St):Prop:=ς.length=σ.length/\∀ (i:Nat) (u:U),ς[i]?=some (some u)->∃ v,σ[i]?=some (some v)/\RU K H u v
section
variable {K:Yaa}{H H' H1 H2:Hp}{G G' G1 G2:Gp}
theorem Fr.refl (H:Hp)(G:Gp):Fr H G H G:=⟨fun _ _ h g _=>⟨h,g⟩⟩
theorem Fr.trans (a:Fr H G H1 G1)(b:Fr H1 G1 H2 G2):Fr H G H2 G2:=⟨fun c o h g nt=>let ⟨h1,g1⟩:=a c o h g nt; b c o h1 g1 nt⟩
structure TS (H H':Hp):Prop where
 tup:∀ a xs,H a=some (.tup xs)->H' a=some (.tup xs)
 cod:∀ a o,H a=some (frzC o)->H' a=some (frzC o)
instance:CoeFun (TS H H') fun _=>∀ a xs,H a=some (.tup xs)->H' a=some (.tup xs):=⟨TS.tup⟩
theorem TS.trans (a:TS H H1)(b:TS H1 H2):TS H H2:=⟨fun c xs h=>b.tup c xs (a.tup c xs h),fun c o h=>b.cod c o (a.cod c o h)⟩
mutual
theorem RU.ts (t:TS H H'):∀ {u:U} {v:V},RU K H u v->RU K H' u v
 | .non,_,h=>h
 | .bl _,_,h=>h
 | .int _,_,h=>h
 | .str _,_,h=>h
 | .tup xs,_,h=>by
  obtain ⟨a,vs,e,q,r⟩:=h
  exact ⟨a,vs,e,t _ _ q,RUs.ts t r⟩
 | .loc _,_,h=>h
 | .fn _,_,h=>h
 | .ty _,_,h=>h
 | .exc _ _,_,h=>h
 | .own _,_,h=>h
 | .clo _ _,_,h=>h
theorem RUs.ts (t:TS H H'):∀ {us:List U} {vs:List V},RUs K H us vs->RUs K H' us vs
 | [],_,h=>h
 | _::_,_,h=>by
  obtain ⟨v,vr,e,r,rs⟩:=h
  exact ⟨v,vr,e,RU.ts t r,RUs.ts t rs⟩
end
theorem RKs.ts {κ:Type}(t:TS H H'):∀ {kvs:List (κ×U)} {l:List (κ×V)},RKs K H kvs l->RKs K H' kvs l
 | [],_,h=>h
 | (_,_)::_,_,h=>by
  obtain ⟨v,l',e,r,rs⟩:=h
  exact ⟨v,l',e,r.ts t,RKs.ts t rs⟩
theorem SR.ts {ς:Sg}{σ:St}(t:TS H H')(h:SR K H ς σ):SR K H' ς σ:=⟨h.1,fun i u e=>let ⟨v,e1,r⟩:=h.2 i u e; ⟨v,e1,r.ts t⟩⟩
theorem HR.tupNone (h:HR K H G){a:Addr}{xs:List V}(e:H a=some (.tup xs)):G a=none:=by
 cases q:G a with
 | none=>rfl
 | some o=>
  have m:=h a o q
  cases o with
  | lst us=>obtain ⟨_,e2,_⟩:=m; rw [e] at e2; cases e2
  | fro us=>obtain ⟨_,_,e2,_⟩:=m; rw [e] at e2; cases e2
  | dK us=>obtain ⟨_,e2,_⟩:=m; rw [e] at e2; cases e2
  | dT us=>obtain ⟨_,e2,_⟩:=m; rw [e] at e2; cases e2
  | frd _ us=>obtain ⟨_,e2,_⟩:=m; rw [e] at e2; cases e2
theorem HR.codNone (h:HR K H G){a:Addr}{ob:Obj}(e:H a=some (frzC ob)):G a=none:=by
 cases q:G a with
 | none=>rfl
 | some o=>
  have m:=h a o q
  cases o with
  | lst us=>obtain ⟨_,e2,_⟩:=m; rw [e] at e2; cases e2
  | fro us=>obtain ⟨_,_,e2,_⟩:=m; rw [e] at e2; cases e2
  | dK us=>obtain ⟨_,e2,_⟩:=m; rw [e] at e2; cases e2
  | dT us=>obtain ⟨_,e2,_⟩:=m; rw [e] at e2; cases e2
  | frd _ us=>obtain ⟨_,e2,_⟩:=m; rw [e] at e2; cases e2
theorem HR.tblNone (h:HR K H G){a:Addr}{ps:Array Value}(e:H a=some (.tbl ps)):G a=none:=by
 cases q:G a with
 | none=>rfl
 | some o=>
  have m:=h a o q
  cases o with
  | lst us=>obtain ⟨_,e2,_⟩:=m; rw [e] at e2; cases e2
  | fro us=>obtain ⟨_,_,e2,_⟩:=m; rw [e] at e2; cases e2
  | dK us=>obtain ⟨_,e2,_⟩:=m; rw [e] at e2; cases e2
  | dT us=>obtain ⟨_,e2,_⟩:=m; rw [e] at e2; cases e2
  | frd _ us=>obtain ⟨_,e2,_⟩:=m; rw [e] at e2; cases e2
theorem Fr.ts (f:Fr H G H' G')(h:HR K H G):TS H H':=⟨fun a xs e=>(f a _ e (h.tupNone e)).1,fun a o e=>(f a _ e (h.codNone e)).1⟩
theorem jd6.upd (h:jd6 H){p:Addr}{o:HO}(h1:∀ ps,H p≠some (.tbl ps))(h2:∀ ob,H p≠some (frzC ob)):jd6 (L2.upd H p o):=fun t ht=>by
 rcases h t ht with e | ⟨c,oc,e1,e2,q⟩
 ·exact .inl (by rw [jac (fun z=>h1 _ (z ▸ e))]; exact e)
 ·exact .inr ⟨c,oc,by rw [jac (fun z=>h1 _ (z ▸ e1))]; exact e1,by rw [jac (fun z=>h2 _ (z ▸ e2))]; exact e2,q⟩
theorem jd6.new (h:jd6 H){p:Addr}{o:HO}(e:H p=none):jd6 (L2.upd H p o):=h.upd (fun ps z=>by rw [e] at z; cases z) fun ob z=>by rw [e] at z; cases z
theorem HR.tabW (h:HR K H G){p:Addr}{o:HO}{mo:MO}(g:G p=some mo):jd6 (L2.upd H p o):=h.tab.upd (fun ps z=>by rw [h.tblNone z] at g; cases g) fun ob z=>by rw [h.codNone z] at g; cases g
theorem MOk.there {a:Addr}{o:MO}(m:MOk K H a o):∃ ho,H a=some ho:=by
 cases o with
 | lst _=>obtain ⟨_,e,_⟩:=m; exact ⟨_,e⟩
 | fro _=>obtain ⟨_,_,e,_⟩:=m; exact ⟨_,e⟩
 | dK _=>obtain ⟨_,e,_⟩:=m; exact ⟨_,e⟩
 | dT _=>obtain ⟨_,e,_⟩:=m; exact ⟨_,e⟩
 | frd _ _=>obtain ⟨_,e,_⟩:=m; exact ⟨_,e⟩
theorem MOk.keep {a:Addr}{o:MO}(m:MOk K H a o)(e:H' a=H a)(t:TS H H'):MOk K H' a o:=by
 cases o with
 | lst _=>obtain ⟨vs,q,r⟩:=m; exact ⟨vs,e.trans q,r.ts t⟩
 | fro _=>obtain ⟨ob,vs,q,r⟩:=m; exact ⟨ob,vs,e.trans q,r.ts t⟩
 | dK _=>obtain ⟨l,q,r⟩:=m; exact ⟨l,e.trans q,r.ts t⟩
 | dT _=>obtain ⟨l,q,r⟩:=m; exact ⟨l,e.trans q,r.ts t⟩
 | frd _ _=>obtain ⟨l,q,r⟩:=m; exact ⟨l,e.trans q,r.ts t⟩
theorem HR.nope (h:HR K H G){a:Addr}(e:H a=none):G a=none:=by
 cases q:G a with
 | none=>rfl
 | some o=>
  obtain ⟨_,e2⟩:=(h a o q).there
  rw [e] at e2; cases e2
theorem jar {a:Addr}{o:MO}:gup G a o a=some o:=by unfold gup; rw [if_pos rfl]
theorem ja9 {a b:Addr}{o:MO}(h:b≠a):gup G a o b=G b:=by unfold gup; rw [if_neg h]
theorem TS.new {p:Addr}{o:HO}(e:H p=none):TS H (upd H p o):=⟨fun a xs h=>by rw [jac (jai h e)]; exact h,fun a ob h=>by rw [jac (jai h e)]; exact h⟩
theorem HR.newT (h:HR K H G){p:Addr}{xs:List V}(e:H p=none):HR K (upd H p (.tup xs)) G:=⟨fun a o q=>by
 have m:=h a o q
 obtain ⟨ho,e2⟩:=m.there
 exact m.keep (jac (jai e2 e)) (TS.new e),h.tab.new e⟩
theorem Fr.new {p:Addr}{o:HO}(e:H p=none):Fr H G (upd H p o) G:=⟨fun a ob h g _=>⟨by rw [jac (jai h e)]; exact h,g⟩⟩
theorem HR.newO (h:HR K H G){p:Addr}{o:HO}{mo:MO}(e:H p=none)(m:MOk K (upd H p o) p mo):HR K (upd H p o) (gup G p mo):=⟨fun a ob q=>by
 by_cases z:a=p
 ·subst z
  rw [jar] at q
  cases q
  exact m
 ·rw [ja9 z] at q
  exact (h a ob q).keep (jac z) (TS.new e),h.tab.new e⟩
theorem Fr.newO {p:Addr}{o:HO}{mo:MO}(e:H p=none):Fr H G (upd H p o) (gup G p mo):=⟨fun a ob h g _=>by
 have z:a≠p:=jai h e
 exact ⟨by rw [jac z]; exact h,by rw [ja9 z]; exact g⟩⟩
theorem TS.write (h:HR K H G){p:Addr}{o:HO}{mo:MO}(g:G p=some mo):TS H (upd H p o):=⟨fun a xs e=>by
 have z:a≠p:=fun z=>by subst z; rw [h.tupNone e] at g; cases g
 rw [jac z]; exact e,fun a ob e=>by
 have z:a≠p:=fun z=>by subst z; rw [h.codNone e] at g; cases g
 rw [jac z]; exact e⟩
theorem HR.write (h:HR K H G){p:Addr}{o:HO}{mo mo':MO}(g:G p=some mo)(m:MOk K (upd H p o) p mo'):HR K (upd H p o) (gup G p mo'):=⟨fun a ob q=>by
 by_cases z:a=p
 ·subst z
  rw [jar] at q
  cases q
  exact m
 ·rw [ja9 z] at q
  exact (h a ob q).keep (jac z) (TS.write h g),h.tabW g⟩
theorem Fr.write {p:Addr}{o:HO}{mo mo':MO}(g:G p=some mo):Fr H G (upd H p o) (gup G p mo'):=⟨fun a ob h n _=>by
 have z:a≠p:=fun z=>by subst z; rw [n] at g; cases g
 exact ⟨by rw [jac z]; exact h,by rw [ja9 z]; exact n⟩⟩
theorem RUs.length:∀ {us:List U} {vs:List V},RUs K H us vs->us.length=vs.length
 | [],_,h=>by cases h; rfl
 | _::_,_,h=>by
  obtain ⟨v,vr,rfl,_,rs⟩:=h
  simp [rs.length]
theorem RUs.append:∀ {us ws:List U} {vs xs:List V},RUs K H us vs->RUs K H ws xs->RUs K H (us++ws) (vs++xs)
 | [],_,_,_,h,h'=>by cases h; exact h'
 | _::_,_,_,_,h,h'=>by
  obtain ⟨v,vr,rfl,r,rs⟩:=h
  exact ⟨v,vr++_,rfl,r,rs.append h'⟩
theorem RUs.get:∀ {us:List U} {vs:List V} {i:Nat} {u:U},RUs K H us vs->us[i]?=some u->∃ v,vs[i]?=some v/\RU K H u v
 | [],_,_,_,_,e=>by simp at e
 | _::_,_,0,_,h,e=>by
  obtain ⟨v,vr,rfl,r,_⟩:=h
  simp at e; subst e
  exact ⟨v,rfl,r⟩
 | _::_,_,i + 1,_,h,e=>by
  obtain ⟨v,vr,rfl,_,rs⟩:=h
  obtain ⟨w,h1,h2⟩:=rs.get (i:=i) (by simpa using e)
  exact ⟨w,by simpa using h1,h2⟩
theorem RUs.take:∀ {us:List U} {vs:List V} (n:Nat),RUs K H us vs->RUs K H (us.take n) (vs.take n)
 | _,_,0,_=>rfl
 | [],_,_ + 1,h=>by cases h; rfl
 | _::_,_,n + 1,h=>by
  obtain ⟨v,vr,rfl,r,rs⟩:=h
  exact ⟨v,vr.take n,rfl,r,rs.take n⟩
theorem RUs.drop:∀ {us:List U} {vs:List V} (n:Nat),RUs K H us vs->RUs K H (us.drop n) (vs.drop n)
 | _,_,0,h=>h
 | [],_,_ + 1,h=>by cases h; rfl
 | _::_,_,n + 1,h=>by
  obtain ⟨v,vr,rfl,_,rs⟩:=h
  exact rs.drop n
theorem RUs.set {u:U}{v:V}(r:RU K H u v):∀ {us:List U} {vs:List V} (i:Nat),RUs K H us vs->RUs K H (us.set i u) (vs.set i v)
 | [],_,_,h=>by cases h; rfl
 | _::_,_,0,h=>by
  obtain ⟨w,vr,rfl,_,rs⟩:=h
  exact ⟨v,vr,rfl,r,rs⟩
 | _::_,_,i + 1,h=>by
  obtain ⟨w,vr,rfl,q,rs⟩:=h
  exact ⟨w,vr.set i v,rfl,q,rs.set r i⟩
theorem RUs.reverse:∀ {us:List U} {vs:List V},RUs K H us vs->RUs K H us.reverse vs.reverse
 | [],_,h=>by cases h; rfl
 | _::_,_,h=>by
  obtain ⟨v,vr,rfl,r,rs⟩:=h
  rw [YbW,YbW]
  exact rs.reverse.append ⟨v,[],rfl,r,rfl⟩
theorem RUs.rep {us:List U}{vs:List V}(h:RUs K H us vs):∀ k:Nat,RUs K H (Yai k us).flatten (Yai k vs).flatten
 | 0=>rfl
 | k + 1=>by
  rw [Ybq,Ybq,YbX,YbX]
  exact h.append (h.rep k)
theorem RUs.atI {us:List U}{vs:List V}{i:Int}{u:U}(h:RUs K H us vs)(e:atI us i=some u):∃ v,L2.atI vs i=some v/\RU K H u v:=by
 unfold L2.atI at e ⊢
 rw [h.length] at e
 cases q:ixN vs.length i with
 | none=>rw [q] at e; cases e
 | some j=>
  rw [q] at e
  exact h.get e
theorem RUs.cut {us:List U}{vs:List V}(h:RUs K H us vs)(lo hi:Option Int):RUs K H (Z.cut us lo hi) (cutV vs lo hi):=by
 unfold Z.cut cutV
 rw [h.length]
 exact (h.drop _).take _
theorem RUs.isEmpty {us:List U}{vs:List V}(h:RUs K H us vs):us.isEmpty=vs.isEmpty:=by
 cases us with
 | nil=>cases h; rfl
 | cons u us=>obtain ⟨v,vr,rfl,_⟩:=h; rfl
theorem RUs.strs:∀ {us:List U} {vs:List V} {ns:List Str},RUs K H us vs->jcc us=some ns->vs=ns.map V.str
 | [],_,_,h,e=>by cases h; cases e; rfl
 | u::us,_,ns,h,e=>by
  obtain ⟨v,vr,rfl,r,rs⟩:=h
  cases u with
  | str i=>
   cases r
   rw [jcc] at e
   cases q:jcc us with
   | none=>rw [q] at e; cases e
   | some l=>rw [q] at e; cases e; rw [rs.strs q]; rfl
  | _=>cases e
theorem HR.lst (h:HR K H G){a:Addr}{us:List U}(e:G a=some (.lst us)):∃ vs,H a=some (.lst vs)/\RUs K H us vs:=h a _ e
theorem HR.ls (h:HR K H G){a:Addr}{us:List U}(e:lsG G a=some us):∃ vs,SqL K H a vs/\RUs K H us vs:=by
 unfold lsG at e
 split at e
 ·rename_i xs q
  cases e
  obtain ⟨vs,q2,r⟩:=h a _ q
  exact ⟨vs,.inl (.inl q2),r⟩
 ·rename_i xs q
  cases e
  obtain ⟨o,vs,q2,r⟩:=h a _ q
  exact ⟨vs,.inl (.inr ⟨o,q2⟩),r⟩
 ·cases e
theorem HR.rd (h:HR K H G){a:Addr}{us:List U}(e:lsG G a=some us):∃ vs,Rd H a (.lst vs)/\RUs K H us vs:=by
 unfold lsG at e
 split at e
 ·rename_i xs q
  cases e
  obtain ⟨vs,q2,r⟩:=h a _ q
  exact ⟨vs,.inl q2,r⟩
 ·rename_i xs q
  cases e
  obtain ⟨o,vs,q2,r⟩:=h a _ q
  exact ⟨vs,.inr ⟨o,q2⟩,r⟩
 ·cases e
end
mutual
theorem DU.dv {K:Yaa}{H:Hp}{G:Gp}(h:HR K H G):∀ {u:U} {d:PyData} {v:V},DU G u d->RU K H u v->DV K H v d
 | _,_,_,.non,r=>by cases r; exact .non
 | _,_,_,.bl b,r=>by cases r; exact .bl b
 | _,_,_,.int i,r=>by cases r; exact .int i
 | _,_,_,.str x,r=>by cases r; exact .str x
 | _,_,_,.tup q,r=>by
  obtain ⟨a,vs,rfl,s,rs⟩:=r
  exact .tup (.of s) (DUs.dv h q rs)
 | _,_,_,.lst e q,r=>by
  cases r
  obtain ⟨vs,s,rs⟩:=h.rd e
  exact .lst s (DUs.dv h q rs)
 | _,_,_,.dic e,r=>by
  cases r
  obtain ⟨l,q,rs⟩:=h _ _ e
  cases rs
  exact .dic q
theorem DUs.dv {K:Yaa}{H:Hp}{G:Gp}(h:HR K H G):∀ {us:List U} {ds:List PyData} {vs:List V},DUs G us ds->RUs K H us vs->DVs K H vs ds
 | _,_,_,.nil,r=>by cases r; exact .nil
 | _,_,_,.cons a b,r=>by
  obtain ⟨v,vr,rfl,r1,rs⟩:=r
  exact .cons (DU.dv h a r1) (DUs.dv h b rs)
end
end Z

namespace L2
open PySem
theorem PE.imp {X:Cx}{e:Expr}{t t':TE}(h:PE X e t)(i:∀ σ H Q,t' σ H Q->t σ H Q):PE X e t':=fun pins s σ H Q I q=>h pins s σ H Q I (i σ H Q q)
theorem PT.imp {X:Cx}{e:Expr}{t t':TT}(h:PT X e t)(i:∀ σ H Q,t' σ H Q->t σ H Q):PT X e t':=fun pins s σ H Q I q=>h pins s σ H Q I (i σ H Q q)
theorem PW.imp {X:Cx}{e:Expr}{t t':TT}(h:PW X e t)(i:∀ σ H Q,t' σ H Q->t σ H Q):PW X e t':=fun w pins s σ H Q I q=>h w pins s σ H Q I (i σ H Q q)
theorem PA.imp {X:Cx}{e:List Expr}{t t':TA}(h:PA X e t)(i:∀ σ H Q,t' σ H Q->t σ H Q):PA X e t':=fun pos pins s σ H Q I q=>h pos pins s σ H Q I (i σ H Q q)
theorem PO.imp {X:Cx}{e:Option Expr}{t t':TO}(h:PO X e t)(i:∀ σ H Q,t' σ H Q->t σ H Q):PO X e t':=fun pins s σ H Q I q=>h pins s σ H Q I (i σ H Q q)
theorem PS.imp {X:Cx}{e:Stmt}{t t':L2.TS}(h:PS X e t)(i:∀ D σ H,t' D σ H->t D σ H):PS X e t':=fun pins s σ H D I q=>h pins s σ H D I (i D σ H q)
theorem PSs.imp {X:Cx}{e:List Stmt}{t t':L2.TS}(h:PSs X e t)(i:∀ D σ H,t' D σ H->t D σ H):PSs X e t':=fun pins s σ H D I q=>h pins s σ H D I (i D σ H q)
end L2
namespace Z
open PySem L2
set_option maxHeartbeats 4000000
noncomputable def gK (K:Yaa):Str->Option Value:=fun x=>(Ya7 K YaB x).join
noncomputable def XD (K:Yaa)(H:Hp)(C dx:Addr)(x:XV):Prop:=1<=x.c/\x.c < 6/\XCls K (gK K) (clsN x.c) (clsF x.c) C/\∃ l,H dx=some (.xd l)/\l.map (·.1)=clsF x.c/\RUs K H x.fs (l.map (·.2))
noncomputable def XAt (X:Cx)(H:Hp)(s:Shared)(e:Value)(x:XV):Prop:=∃ ea C dx,e=.ref ea/\Lies X.s₀.heap.objs.size X.pn H s.heap ea (.ref C) (some dx)/\XD X.K H C dx x
section
variable (X:Cx)
noncomputable def LX (σ:St)(H:Hp)(G:Gp)(E:KX):Prop:=∀ (pins:List (Addr×Obj)) (e:Value) (s':Shared) (x:XV) (G':Gp) (H':Hp),Inv X pins σ H' s'->XAt X H' s' e x->HR X.K H' G'->Fr H G H' G'->E x G'->X.xe e s'
noncomputable def LV (H:Hp)(G:Gp)(Q:K1)(Q0:VK):Prop:=∀ w v G' H',RU X.K H' w v->HR X.K H' G'->Fr H G H' G'->Q w G'->Q0 v H'
noncomputable def lE (t:UE):TE:=fun σ H Q0=>∃ ς G Q E,SR X.K H ς σ/\HR X.K H G/\t ς G Q E/\LV X H G Q Q0/\LX X σ H G E
noncomputable def lT (t:UT):TT:=fun σ H Q0=>∃ ς G Q E,SR X.K H ς σ/\HR X.K H G/\t ς G Q E/\(∀ b G' H',HR X.K H' G'->Fr H G H' G'->Q b G'->Q0 b H')/\LX X σ H G E
noncomputable def lA (t:UA):TA:=fun σ H Q0=>∃ ς G Q E,SR X.K H ς σ/\HR X.K H G/\t ς G Q E/\(∀ ws vs G' H',RUs X.K H' ws vs->HR X.K H' G'->Fr H G H' G'->Q ws G'->Q0 vs H')/\LX X σ H G E
noncomputable def lO (t:Sg->Gp->(Option Int->Gp->Prop)->KX->Prop):TO:=fun σ H Q0=>∃ ς G Q E,SR X.K H ς σ/\HR X.K H G/\t ς G Q E/\(∀ o G' H',HR X.K H' G'->Fr H G H' G'->Q o G'->Q0 o H')/\LX X σ H G E
end
section
variable {X:Cx}{σ:St}{H H1 H2:Hp}{G G1 G2:Gp}
theorem LX.fr {E:KX}(h:LX X σ H G E)(f:Fr H G H1 G1):LX X σ H1 G1 E:=fun pins e s' x G' H' I a hr f' q=>h pins e s' x G' H' I a hr (f.trans f') q
theorem LV.fr {Q:K1}{Q0:VK}(h:LV X H G Q Q0)(f:Fr H G H1 G1):LV X H1 G1 Q Q0:=fun w v G' H' r hr f' q=>h w v G' H' r hr (f.trans f') q
theorem LV.here {Q:K1}{Q0:VK}(h:LV X H G Q Q0){w:U}{v:V}(r:RU X.K H w v)(hr:HR X.K H G)(q:Q w G):Q0 v H:=h w v G H r hr (Fr.refl _ _) q
theorem LV.bl {Q:K1}{Q0:VK}(h:LV X H G Q Q0){b:Bool}(hr:HR X.K H G)(q:Q (.bl b) G):Q0 (.bl b) H:=h.here (w:=.bl b) rfl hr q
theorem LV.int {Q:K1}{Q0:VK}(h:LV X H G Q Q0){b:Int}(hr:HR X.K H G)(q:Q (.int b) G):Q0 (.int b) H:=h.here (w:=.int b) rfl hr q
theorem LV.str {Q:K1}{Q0:VK}(h:LV X H G Q Q0){b:Str}(hr:HR X.K H G)(q:Q (.str b) G):Q0 (.str b) H:=h.here (w:=.str b) rfl hr q
theorem LV.tup {Q:K1}{Q0:VK}(h:LV X H G Q Q0){p:Addr}{us:List U}{vs:List V}(e:H p=none)(r:RUs X.K H us vs)(hr:HR X.K H G)(q:Q (.tup us) G):Q0 (.ref p) (upd H p (.tup vs)):=
 h (.tup us) (.ref p) G _ ⟨p,vs,rfl,jag,r.ts (TS.new e)⟩ (hr.newT e) (Fr.new e) q
theorem LV.lst {Q:K1}{Q0:VK}(h:LV X H G Q Q0){p:Addr}{us:List U}{vs:List V}(e:H p=none)(r:RUs X.K H us vs)(hr:HR X.K H G)(q:newO G (.lst us) Q):Q0 (.ref p) (upd H p (.lst vs)):=
 h (.loc p) (.ref p) _ _ rfl (hr.newO (mo:=.lst us) e ⟨vs,jag,r.ts (TS.new e)⟩) (Fr.newO e) (q.at p (hr.nope e))
theorem LV.wl {Q:K1}{Q0:VK}(h:LV X H G Q Q0){p:Addr}{us:List U}{vs:List V}{mo:MO}(g:G p=some mo)(r:RUs X.K H us vs)(hr:HR X.K H G){w:U}{v:V}(rw':RU X.K H w v)(q:putO G p (.lst us) (Q w)):Q0 v (upd H p (.lst vs)):=
 h w v _ _ (rw'.ts (TS.write hr g)) (hr.write (mo':=.lst us) g ⟨vs,jag,r.ts (TS.write hr g)⟩) (Fr.write g) q.at
end
section
variable {X:Cx}{σ:St}{H:Hp}{Q0:VK}{ta tb:UE}
theorem lE.two {R:V->V->Hp->Prop}{k:U->U->Gp->K1->Prop}(h:lE X (fun ς G Q E=>ta ς G (fun x G1=>tb ς G1 (fun y G2=>k x y G2 Q) E) E) σ H Q0)
  (f:∀ x y v v' G H' Q,RU X.K H' x v->RU X.K H' y v'->HR X.K H' G->k x y G Q->LV X H' G Q Q0->R v v' H'):lE X ta σ H fun v H1=>lE X tb σ H1 fun v' H2=>R v v' H2:=by
 obtain ⟨ς,G,Q,E,hς,hG,h,lv,lx⟩:=h
 refine ⟨ς,G,_,E,hς,hG,h,fun x v G1 H1 rx hG1 f1 h1=>?_,lx⟩
 refine ⟨ς,G1,_,E,hς.ts (f1.ts hG),hG1,h1,fun y v' G2 H2 ry hG2 f2 h2=>?_,lx.fr f1⟩
 exact f x y v v' G2 H2 Q (rx.ts (f2.ts hG1)) ry hG2 h2 (lv.fr (f1.trans f2))
theorem lE.one {R:V->Hp->Prop}{k:U->Gp->K1->Prop}(h:lE X (fun ς G Q E=>ta ς G (fun x G1=>k x G1 Q) E) σ H Q0)
  (f:∀ x v G H' Q,RU X.K H' x v->HR X.K H' G->k x G Q->LV X H' G Q Q0->R v H'):lE X ta σ H R:=by
 obtain ⟨ς,G,Q,E,hς,hG,h,lv,lx⟩:=h
 exact ⟨ς,G,_,E,hς,hG,h,fun x v G1 H1 rx hG1 f1 h1=>f x v G1 H1 Q rx hG1 h1 (lv.fr f1),lx⟩
theorem lE.many {ta:UA}{R:List V->Hp->Prop}{k:List U->Gp->K1->Prop}(h:lE X (fun ς G Q E=>ta ς G (fun x G1=>k x G1 Q) E) σ H Q0)
  (f:∀ x v G H' Q,RUs X.K H' x v->HR X.K H' G->k x G Q->LV X H' G Q Q0->R v H'):lA X ta σ H R:=by
 obtain ⟨ς,G,Q,E,hς,hG,h,lv,lx⟩:=h
 exact ⟨ς,G,_,E,hς,hG,h,fun x v G1 H1 rx hG1 f1 h1=>f x v G1 H1 Q rx hG1 h1 (lv.fr f1),lx⟩
end
section
variable {X:Cx}{pos:Pos}
theorem jmZ {i:Nat}{x:Str}(hN:X.N[i]?=some x)(hv:Vis X.env.scope x)(hd:(x == ("__debug__" : Str))=false)(hcd:(x == ("__classdict__" : Str))=false):PE X (.Name x pos) (lE X fun ς G Q _=>slot ς i fun u=>Q u G):=by
 refine (ja1 hN hv hd hcd).imp fun σ H Q0 h=>?_
 obtain ⟨ς,G,Q,E,hς,hG,h,lv,_⟩:=h
 unfold slot at h
 split at h
 ·rename_i u e
  obtain ⟨v,e1,r⟩:=hς.2 i u e
  exact ⟨v,e1,lv.here r hG h⟩
 ·exact h.elim
theorem jb7 {e:Expr}{u:U}{v:V}(h:PE X e (tC v))(r:∀ H,RU X.K H u v):PE X e (lE X fun _ G Q _=>Q u G):=
 h.imp fun _ _ _ ⟨_,_,_,_,_,hG,q,lv,_⟩=>lv.here (r _) hG q
end
noncomputable def OpU (X:Cx)(f:Value->Value->Sem Value)(b:U->U->Gp->K1->Prop):Prop:=
 ∃ r:R2,OpR X f r/\∀ x y v v' G H Q Q0,RU X.K H x v->RU X.K H y v'->HR X.K H G->b x y G Q->LV X H G Q Q0->r v v' H Q0
section
variable {X:Cx}{pos:Pos}{a b c:Expr}{ta tb tc:UE}
theorem jnf {o:Yda}{k:U->U->Gp->K1->Prop}(ho:OpU X (Ybl o) k)(ha:PE X a (lE X ta))(hb:PE X b (lE X tb)) :
  PE X (.BinOp a o b pos) (lE X fun ς G Q E=>ta ς G (fun x G1=>tb ς G1 (fun y G2=>k x y G2 Q) E) E):=by
 obtain ⟨r,h1,h2⟩:=ho
 exact (jnL h1 ha hb).imp fun σ H Q0 h=>lE.two h fun x y v v' G H' Q rx ry hG q lv=>h2 x y v v' G H' Q Q0 rx ry hG q lv
theorem jlw:OpU X (Ybl .Add) addU:=by
 refine ⟨_,jlH.or (jfv.or ((jjH (X:=X)).or (jlG.or jjI))),?_⟩
 intro x y v v' G H Q Q0 rx ry hG h lv
 cases x <;> try exact h.elim
 ·cases y <;> try exact h.elim
  cases rx; cases ry
  exact .inr (.inr (.inr (.inr ⟨_,_,rfl,rfl,lv.int hG h⟩)))
 ·cases y <;> try exact h.elim
  cases rx; cases ry
  exact .inl ⟨_,_,rfl,rfl,lv.int hG h⟩
 ·cases y <;> try exact h.elim
  cases rx; cases ry
  exact .inr (.inl ⟨_,_,rfl,rfl,h.1,lv.str hG h.2⟩)
 ·cases y <;> try exact h.elim
  rename_i xs ys
  obtain ⟨a,vs,rfl,s1,r1⟩:=rx
  obtain ⟨b,ws,rfl,s2,r2⟩:=ry
  obtain ⟨hl,q⟩:=h
  refine .inr (.inr (.inl ⟨a,b,vs,ws,rfl,rfl,.of s1,.of s2,by rw [<- r1.length,<- r2.length]; exact hl,fun z=>?_,fun _ z=>?_,fun _ _ p hp=>?_⟩))
  ·have:xs=[]:=by have:=r1.length; rw [z] at this; simpa using this
   subst this
   exact lv.here (w:=.tup ys) ⟨b,ws,rfl,s2,r2⟩ hG q
  ·have:ys=[]:=by have:=r2.length; rw [z] at this; simpa using this
   subst this
   rw [Ybj] at q
   exact lv.here (w:=.tup xs) ⟨a,vs,rfl,s1,r1⟩ hG q
  ·exact lv.tup hp (r1.append r2) hG q
 ·cases y <;> try exact h.elim
  cases rx; cases ry
  obtain ⟨xs,ys,g1,g2,hl,q⟩:=h
  obtain ⟨vs,e1,r1⟩:=hG.lst g1
  obtain ⟨ws,e2,r2⟩:=hG.lst g2
  exact .inr (.inr (.inr (.inl ⟨_,_,vs,ws,rfl,rfl,e1,e2,by rw [<- r1.length,<- r2.length]; exact hl,fun p hp=>lv.lst hp (r1.append r2) hG q⟩)))
theorem jlr:OpU X (Ybl .Sub) subU:=by
 refine ⟨_,jlx.or (jjE (X:=X)),?_⟩
 intro x y v v' G H Q Q0 rx ry hG h lv
 unfold subU at h
 split at h
 ·cases rx; cases ry
  exact .inl ⟨_,_,rfl,rfl,lv.int hG h⟩
 ·cases rx; cases ry
  exact .inr (.inl ⟨_,_,rfl,rfl,lv.int hG h⟩)
 ·cases rx; cases ry
  exact .inr (.inr ⟨_,_,rfl,rfl,lv.int hG h⟩)
 ·exact h.elim
theorem jlt:OpU X (Ybl .Mult) mulU:=by
 refine ⟨_,jlB.or jly,?_⟩
 intro x y v v' G H Q Q0 rx ry hG h lv
 unfold mulU at h
 split at h
 ·cases rx; cases ry
  exact .inl ⟨_,_,rfl,rfl,h.1,lv.int hG h.2⟩
 ·cases rx; cases ry
  obtain ⟨xs,g1,h1,h2,hl,q⟩:=h
  obtain ⟨vs,e1,r1⟩:=hG.lst g1
  exact .inr ⟨_,_,vs,rfl,rfl,e1,h1,h2,by rw [<- r1.length]; exact hl,fun p hp=>lv.lst hp (r1.rep _) hG q⟩
 ·exact h.elim
theorem jjD:OpU X (Ybl .FloorDiv) jki:=by
 refine ⟨_,jjF,?_⟩
 intro x y v v' G H Q Q0 rx ry hG h lv
 unfold jki at h
 split at h
 ·cases rx; cases ry
  exact ⟨_,_,rfl,rfl,⟨h.1,h.2.1⟩,lv.int hG h.2.2⟩
 ·exact h.elim
theorem jlu:OpU X (Ybl .Mod) modU:=by
 refine ⟨_,jlC,?_⟩
 intro x y v v' G H Q Q0 rx ry hG h lv
 unfold modU at h
 split at h
 ·cases rx; cases ry
  exact ⟨_,_,rfl,rfl,h.1,lv.int hG h.2⟩
 ·exact h.elim
theorem jls:OpU X (Ybl .Pow) powU:=by
 refine ⟨_,jlz,?_⟩
 intro x y v v' G H Q Q0 rx ry hG h lv
 unfold powU at h
 split at h
 ·cases rx; cases ry
  exact ⟨_,_,rfl,rfl,h.1,lv.int hG h.2⟩
 ·exact h.elim
theorem jlv (o:Yda):OpU X (Ybl o) (binU o):=by
 cases o with
 | Add=>exact jlw
 | Sub=>exact jlr
 | Mult=>exact jlt
 | FloorDiv=>exact jjD
 | Mod=>exact jlu
 | Pow=>exact jls
 | _=>exact ⟨fun _ _ _ _=>False,fun _ _ _ _ _ _ _ _ _ _ _ _ h=>h.elim,fun _ _ _ _ _ _ _ _ _ _ _ h _=>h⟩
theorem jm7 (ha:PE X a (lE X ta)):PE X (.UnaryOp .USub a pos) (lE X fun ς G Q E=>ta ς G (fun x G1=>negU x G1 Q) E):=by
 refine (jnJ jkz ha).imp fun σ H Q0 h=>lE.one h fun x v G H' Q rx hG q lv=>?_
 unfold negU at q
 split at q
 ·cases rx
  exact ⟨_,rfl,lv.int hG q⟩
 ·exact q.elim
end
noncomputable def CmU (X:Cx)(o:CmpOp):Prop:=
 ∃ r:R2,OpR X (YaV o) r/\∀ x y v v' G H (k:Bool->Prop) (Q0:VK),RU X.K H x v->RU X.K H y v'->HR X.K H G->cmpU o x y G k->(∀ c,k c->Q0 (.bl c) H)->r v v' H Q0
section
variable {X:Cx}
noncomputable def rIs (neg:Bool):R2:=fun x y H Q=>((x=.non\/∃ b,x=.bl b)\/(y=.non\/∃ b,y=.bl b))/\Q (.bl (if neg then !decide (x=y) else decide (x=y))) H
theorem jhH {x y:V}{v u:Value}(rx:RelV x v)(ry:RelV y u)(h:(x=.non\/∃ b,x=.bl b)\/(y=.non\/∃ b,y=.bl b)):plainIs v u=true/\(v == u)=decide (x=y):=by
 rcases h with (rfl | ⟨b,rfl⟩) | (rfl | ⟨b,rfl⟩)
 ·cases rx
  cases y with
  | non=>cases ry; exact ⟨rfl,by simp⟩
  | bl c=>cases ry; exact ⟨rfl,by simp⟩
  | int _=>obtain ⟨t,rfl⟩:=ry; exact ⟨rfl,by simp⟩
  | str _=>obtain ⟨t,rfl⟩:=ry; exact ⟨rfl,by simp⟩
  | byt _=>obtain ⟨t,rfl⟩:=ry; exact ⟨rfl,by simp⟩
  | flt _=>obtain ⟨t,rfl⟩:=ry; exact ⟨rfl,by simp⟩
  | ref _=>cases ry; exact ⟨rfl,by simp⟩
  | ty _=>cases ry; exact ⟨rfl,by simp⟩
 ·cases rx
  cases y with
  | non=>cases ry; exact ⟨rfl,by simp⟩
  | bl c=>cases ry; exact ⟨rfl,by cases b <;> cases c <;> rfl⟩
  | int _=>obtain ⟨t,rfl⟩:=ry; exact ⟨rfl,by simp⟩
  | str _=>obtain ⟨t,rfl⟩:=ry; exact ⟨rfl,by simp⟩
  | byt _=>obtain ⟨t,rfl⟩:=ry; exact ⟨rfl,by simp⟩
  | flt _=>obtain ⟨t,rfl⟩:=ry; exact ⟨rfl,by simp⟩
  | ref _=>cases ry; exact ⟨rfl,by simp⟩
  | ty _=>cases ry; exact ⟨rfl,by simp⟩
 ·cases ry
  cases x with
  | non=>cases rx; exact ⟨rfl,by simp⟩
  | bl c=>cases rx; exact ⟨rfl,by simp⟩
  | int _=>obtain ⟨t,rfl⟩:=rx; exact ⟨rfl,by simp⟩
  | str _=>obtain ⟨t,rfl⟩:=rx; exact ⟨rfl,by simp⟩
  | byt _=>obtain ⟨t,rfl⟩:=rx; exact ⟨rfl,by simp⟩
  | flt _=>obtain ⟨t,rfl⟩:=rx; exact ⟨rfl,by simp⟩
  | ref _=>cases rx; exact ⟨rfl,by simp⟩
  | ty _=>cases rx; exact ⟨rfl,by simp⟩
 ·cases ry
  cases x with
  | non=>cases rx; exact ⟨rfl,by simp⟩
  | bl c=>cases rx; exact ⟨rfl,by cases b <;> cases c <;> rfl⟩
  | int _=>obtain ⟨t,rfl⟩:=rx; exact ⟨rfl,by simp⟩
  | str _=>obtain ⟨t,rfl⟩:=rx; exact ⟨rfl,by simp⟩
  | byt _=>obtain ⟨t,rfl⟩:=rx; exact ⟨rfl,by simp⟩
  | flt _=>obtain ⟨t,rfl⟩:=rx; exact ⟨rfl,by simp⟩
  | ref _=>cases rx; exact ⟨rfl,by simp⟩
  | ty _=>cases rx; exact ⟨rfl,by simp⟩
theorem jgi:OpR X (YaV .IsNot) (rIs true):=by
 intro pins s σ H x y v u Q I rx ry h
 obtain ⟨c,q⟩:=h
 obtain ⟨h1,h2⟩:=jhH rx ry c
 refine wpAny_isNot_plain h1 ⟨.bl _,H,I,?_,q⟩
 rw [h2]; rfl
theorem jl3 {K:Yaa}{H:Hp}{x y:U}{v v':V}{k:Bool->Prop}(rx:RU K H x v)(ry:RU K H y v')(h:isU x y k):((v=.non\/∃ b,v=.bl b)\/(v'=.non\/∃ b,v'=.bl b))/\k (decide (v=v')):=by
 have e:∀ {a b:V},a≠b->k false->k (decide (a=b)):=fun n q=>by rw [decide_eq_false n]; exact q
 cases x <;> try exact h.elim
 ·cases y
  case non=>have h':k true:=h; cases rx; cases ry; exact ⟨.inl (.inl rfl),by simpa using h'⟩
  all_goals first
   | exact h.elim
   | (cases rx; obtain ⟨a,vs,rfl,_⟩:=ry; exact ⟨.inl (.inl rfl),e (fun z=>nomatch z) h⟩)
   | (cases rx; cases ry; exact ⟨.inl (.inl rfl),e (fun z=>nomatch z) h⟩)
 ·cases y <;> first
   | exact h.elim
   | (cases rx; cases ry; exact ⟨.inr (.inl rfl),e (fun z=>nomatch z) h⟩)
   | (cases rx; cases ry; rename_i b c; exact ⟨.inl (.inr ⟨_,rfl⟩),by rw [decide_eq_decide.mpr (⟨fun z=>V.bl.inj z,fun z=>z ▸ rfl⟩:V.bl b=.bl c↔b=c)]; exact h⟩)
 ·cases y <;> first
   | exact h.elim
   | (cases rx; cases ry; exact ⟨.inr (.inl rfl),e (fun z=>nomatch z) h⟩)
   | (cases rx; cases ry; exact ⟨.inr (.inr ⟨_,rfl⟩),e (fun z=>nomatch z) h⟩)
 ·cases y <;> first
   | exact h.elim
   | (cases rx; cases ry; exact ⟨.inr (.inl rfl),e (fun z=>nomatch z) h⟩)
   | (cases rx; cases ry; exact ⟨.inr (.inr ⟨_,rfl⟩),e (fun z=>nomatch z) h⟩)
 ·cases y <;> first
   | exact h.elim
   | (cases ry; obtain ⟨a,vs,rfl,_⟩:=rx; exact ⟨.inr (.inl rfl),e (fun z=>nomatch z) h⟩)
   | (cases ry; obtain ⟨a,vs,rfl,_⟩:=rx; exact ⟨.inr (.inr ⟨_,rfl⟩),e (fun z=>nomatch z) h⟩)
 ·cases y <;> first
   | exact h.elim
   | (cases rx; cases ry; exact ⟨.inr (.inl rfl),e (fun z=>nomatch z) h⟩)
   | (cases rx; cases ry; exact ⟨.inr (.inr ⟨_,rfl⟩),e (fun z=>nomatch z) h⟩)
theorem jiH {H:Hp}{G:Gp}{x y:U}{v v':V}{k:Bool->Prop}(rx:RU X.K H x v)(ry:RU X.K H y v')(hG:HR X.K H G)(h:eqU x y G k) :
  (scal v v'=true/\k (decide (v=v')))\/∃ d e,DV X.K H v d/\DV X.K H v' e/\d.canLay0=true/\e.canLay0=true/\d.depth<=100/\k (YaM d e):=by
 have g:(∃ d e,DU G x d/\DU G y e/\Small d/\Small e/\k (YaM d e))->(scal v v'=true/\k (decide (v=v')))\/∃ d e,DV X.K H v d/\DV X.K H v' e/\d.canLay0=true/\e.canLay0=true/\d.depth<=100/\k (YaM d e):=
  fun ⟨d,e,h1,h2,⟨s1,s2⟩,⟨s3,_⟩,q⟩=>.inr ⟨d,e,h1.dv hG rx,h2.dv hG ry,s1,s3,s2,q⟩
 have e:∀ {p:Prop} [Decidable p],¬p->k false->k (decide p):=fun n q=>by rw [decide_eq_false n]; exact q
 cases x <;> try exact g h
 all_goals
  cases y <;> first
   | exact g h
   | (cases rx; cases ry; exact .inl ⟨rfl,e (fun z=>V.noConfusion z) h⟩)
   | (cases rx; cases ry; exact .inl ⟨rfl,by simp only [V.bl.injEq,V.int.injEq,V.str.injEq]; exact h⟩)
theorem jf1 {K:Yaa}{H:Hp}{us:List U}{vs:List V}(r:RUs K H us vs):vs.isEmpty=us.isEmpty:=by
 have:=r.length
 cases us <;> cases vs <;> first | rfl | cases this
theorem jkk {H:Hp}{G:Gp}{x y:U}{v v':V}{k:Bool->Prop}(rx:RU X.K H x v)(ry:RU X.K H y v')(hG:HR X.K H G)(h:eqQ x y G k):eqU x y G k\/(∃ a z kvs,v=.ref a/\v'=.str z/\H a=some (.dK kvs)/\k false)\/(∃ a b xs,v=.ref a/\v'=.ref b/\SqT X.K H a xs/\SqT X.K H b []/\k xs.isEmpty)\/∃ a z xs,v=.ref a/\v'=.str z/\(SqT X.K H a xs\/SqL X.K H a xs)/\k false:=by
 unfold eqQ at h
 split at h
 ·rcases h with ⟨kvs,g,q⟩ | ⟨xs,g,q⟩ | h
  ·cases rx; cases ry
   obtain ⟨l,e,rs⟩:=hG _ _ g
   exact .inr (.inl ⟨_,_,l,rfl,rfl,e,q⟩)
  ·cases rx; cases ry
   obtain ⟨vs,e,rs⟩:=hG.lst g
   exact .inr (.inr (.inr ⟨_,_,vs,rfl,rfl,.inr (.of e),q⟩))
  ·exact .inl h
 ·obtain ⟨a,vs,rfl,s1,r1⟩:=rx
  obtain ⟨b,ws,rfl,s2,r2⟩:=ry
  cases r2
  refine .inr (.inr (.inl ⟨a,b,vs,rfl,rfl,.of s1,.of s2,?_⟩))
  rw [jf1 r1]; exact h
 ·obtain ⟨a,vs,rfl,s1,r1⟩:=rx
  cases ry
  exact .inr (.inr (.inr ⟨a,_,vs,rfl,rfl,.inl (.of s1),h⟩))
 ·exact .inl h
theorem jfA {K:Yaa}{H:Hp}{x:U}{v:V}{k:Key}(r:RU K H x v)(e:kU x=some k):v=kV k:=by
 cases x with
 | int i=>cases r; cases e; rfl
 | str i=>cases r; cases e; rfl
 | _=>cases e
theorem je7 {K:Yaa}{H:Hp}:∀ {xs:List U} {vs:List V} {ks:List Key},RUs K H xs vs->kUs xs=some ks->vs=ks.map kV
 | [],_,_,r,e=>by cases r; cases e; rfl
 | x::xs,_,ks,r,e=>by
  obtain ⟨v,vr,rfl,r1,rs⟩:=r
  rw [kUs] at e
  cases h1:kU x with
  | none=>rw [h1] at e; cases e
  | some k=>
   cases h2:kUs xs with
   | none=>rw [h1,h2] at e; cases e
   | some l=>
    rw [h1,h2] at e
    cases e
    rw [jfA r1 h1,je7 rs h2]; rfl
theorem jdh {K:Yaa}{H:Hp}{x:U}{v:V}(r:RU K H x v)(e:flat x=true):flatV v=true:=by
 cases x <;> first | (cases r; rfl) | exact absurd (show false=true from e) (by decide)
theorem jb4 {K:Yaa}{H:Hp}:∀ {xs:List U} {vs:List V},RUs K H xs vs->xs.all flat=true->vs.all flatV=true
 | [],_,r,_=>by cases r; rfl
 | x::xs,_,r,e=>by
  obtain ⟨v,vr,rfl,r1,rs⟩:=r
  rw [Ybw,Yap] at e
  rw [Ybw,jdh r1 e.1,jb4 rs e.2]; rfl
theorem jmh {K:Yaa}{H:Hp}{x y:U}{v v':V}(r:RU K H x v)(r':RU K H y v')(e:flat x=true)(e':flat y=true):eqV v v'=eqF x y:=by
 cases x <;> first | (exact absurd (show false=true from e) (by decide)) | (cases y <;> first | (exact absurd (show false=true from e') (by decide)) | (cases r; cases r'; rfl))
theorem jfk {K:Yaa}{H:Hp}{x:U}{v:V}(r:RU K H x v)(e:flat x=true):∀ {xs:List U} {vs:List V},RUs K H xs vs->xs.all flat=true->inV v vs=xs.any fun y=>eqF y x
 | [],_,rs,_=>by cases rs; rfl
 | y::xs,_,rs,e'=>by
  obtain ⟨v',vr,rfl,r1,rs⟩:=rs
  rw [Ybw,Yap] at e'
  have ih:=jfk r e rs e'.2
  unfold inV at ih ⊢
  rw [Ybo,Ybo,jmh r1 r e'.1 e,ih]
theorem jb6 {κ:Type}[DecidableEq κ]{K:Yaa}{H:Hp}(k:κ):∀ {kvs:List (κ×U)} {l:List (κ×V)},RKs K H kvs l->match dGet kvs k with | some u=>∃ v,valV l k=some v/\RU K H u v | none=>valV l k=none
 | [],_,r=>by cases r; exact rfl
 | (k',u)::kvs,_,r=>by
  obtain ⟨v,l',rfl,r1,rs⟩:=r
  by_cases e:k'=k
  ·subst e
   have:dGet ((k',u)::kvs) k'=some u:=by simp [dGet,Ybs]
   rw [this]
   exact ⟨v,jbY rfl,r1⟩
  ·have:dGet ((k',u)::kvs) k=dGet kvs k:=by simp [dGet,Ybs,e]
   rw [this,jbZ (p:=(k',v)) e]
   exact jb6 k rs
theorem jdP {κ:Type}[DecidableEq κ]{K:Yaa}{H:Hp}(k:κ){kvs:List (κ×U)}{l:List (κ×V)}(r:RKs K H kvs l):(valV l k).isSome=(dGet kvs k).isSome:=by
 have:=jb6 k r
 cases e:dGet kvs k with
 | none=>rw [e] at this; rw [show valV l k=none from this]; rfl
 | some u=>rw [e] at this; obtain ⟨v,h,_⟩:=this; rw [h]; rfl
noncomputable def rDIn (neg:Bool):R2:=fun x y H Q=>∃ a o,y=.ref a/\DGet H a x o/\Q (.bl (if neg then !o.isSome else o.isSome)) H
theorem jlF (hu:X.A.units + 1 < cLine):OpR X (YaV .In) (rDIn false):=by
 intro pins s σ H x y v u Q I rx ry h
 obtain ⟨a,o,rfl,g,q⟩:=h
 cases ry
 exact d_in hu I g rx fun s' I'=>⟨.bl o.isSome,H,I',rfl,q⟩
theorem jgl (hu:X.A.units + 1 < cLine):OpR X (YaV .NotIn) (rDIn true):=by
 intro pins s σ H x y v u Q I rx ry h
 obtain ⟨a,o,rfl,g,q⟩:=h
 cases ry
 exact jkn hu I g rx fun s' I'=>⟨.bl (!o.isSome),H,I',rfl,q⟩
theorem jiC {H:Hp}{G:Gp}{x y:U}{v v':V}{k:Bool->Prop}(rx:RU X.K H x v)(ry:RU X.K H y v')(hG:HR X.K H G)(h:inU x y G k) :
  (∃ i j,v=.str i/\v'=.str j/\k (!(YaU j i 0 j.length 1).isEmpty))\/(∃ p xs,v'=.ref p/\(SqL X.K H p xs\/SqT X.K H p xs)/\flatV v=true/\xs.all flatV=true/\k (inV v xs))\/
   (∃ a o,v'=.ref a/\DGet H a v o/\k o.isSome)\/∃ (p:Addr) (vs:List V) (d:PyData) (ds:List PyData),v'=.ref p/\SqL X.K H p vs/\DV X.K H v d/\DVs X.K H vs ds/\d.canLay0=true/\d.depth<=100/\(∀ e∈ds,e.canLay0=true)/\k (ds.any fun e=>YaM e d):=by
 unfold inU at h
 split at h
 ·cases rx; cases ry
  exact .inl ⟨_,_,rfl,rfl,h⟩
 ·obtain ⟨a,vs,rfl,e,rs⟩:=ry
  obtain ⟨f1,f2,q⟩:=h
  exact .inr (.inl ⟨a,vs,rfl,.inr (.of e),jdh rx f1,jb4 rs f2,by rw [jfk rx f1 rs f2]; exact q⟩)
 ·cases ry
  rename_i a
  split at h
  ·rename_i ys g
   obtain ⟨vs,e,rs⟩:=hG.lst g
   rcases h with ⟨f1,f2,q⟩ | ⟨d,ds,hd,hds,sd,sds,q⟩
   ·exact .inr (.inl ⟨a,vs,rfl,.inl (.of e),jdh rx f1,jb4 rs f2,by rw [jfk rx f1 rs f2]; exact q⟩)
   ·exact .inr (.inr (.inr ⟨a,vs,d,ds,rfl,.inl (.of e),hd.dv hG rx,hds.dv hG rs,sd.1,sd.2,fun e he=>(sds e he).1,q⟩))
  ·rename_i ys g
   obtain ⟨ob,vs,e,rs⟩:=hG a _ g
   obtain ⟨f1,f2,q⟩:=h
   exact .inr (.inl ⟨a,vs,rfl,.inl (.inl (.inr ⟨ob,e⟩)),jdh rx f1,jb4 rs f2,by rw [jfk rx f1 rs f2]; exact q⟩)
  ·rename_i kvs g
   obtain ⟨l,e,rs⟩:=hG a _ g
   split at h
   ·rename_i y ek
    have:=jfA rx ek
    subst this
    exact .inr (.inr (.inl ⟨a,_,rfl,DGet.k e,by rw [jdP y rs]; exact h⟩))
   ·exact h.elim
  ·rename_i kvs g
   obtain ⟨l,e,rs⟩:=hG a _ g
   split at h
   ·rename_i xs
    obtain ⟨b,vs,rfl,eb,rb⟩:=rx
    split at h
    ·rename_i y ek
     have:=je7 rb ek
     subst this
     exact .inr (.inr (.inl ⟨a,_,rfl,DGet.t e eb,by rw [jdP y rs]; exact h⟩))
    ·exact h.elim
   ·exact h.elim
  ·exact h.elim
 ·exact h.elim
theorem jc9 {o:CmpOp}{x y:U}{k:Bool->Prop}(h:ordU o x y k):(∃ i j,x=.int i/\y=.int j)\/(o=.LtE/\∃ i j,x=.str i/\y=.str j):=by
 unfold ordU at h
 split at h <;> first | exact .inl ⟨_,_,rfl,rfl⟩ | exact .inr ⟨rfl,_,_,rfl,rfl⟩ | exact h.elim
theorem jiM {k:Nat}(hr:Room k X.A)(o:CmpOp):CmU X o:=by
 have hu:X.A.units + 1 < cLine:=by have:=hr.un; omega
 cases o with
 | Eq=>
  refine ⟨_,jnT.or ((jlE hr).or ((jda hr).or ((jfu hr).or (jdE hr)))),fun x y v v' G H k Q0 rx ry hG h q=>?_⟩
  rcases jkk rx ry hG h with h | ⟨a,z,kvs,h1,h2,h3,h4⟩ | ⟨a,b,xs,h1,h2,h3,h4,h5⟩ | ⟨a,z,xs,h1,h2,h3,h4⟩
  ·rcases jiH rx ry hG h with ⟨h1,h2⟩ | ⟨d,e,h1,h2,h3,h4,h5,h6⟩
   ·exact .inl ⟨h1,q _ h2⟩
   ·exact .inr (.inl ⟨d,e,h1,h2,h3,h4,h5,q _ h6⟩)
  ·exact .inr (.inr (.inl ⟨a,z,kvs,h1,h2,h3,q _ h4⟩))
  ·exact .inr (.inr (.inr (.inl ⟨a,b,xs,h1,h2,h3,h4,q _ h5⟩)))
  ·exact .inr (.inr (.inr (.inr ⟨a,z,xs,h1,h2,h3,q _ h4⟩)))
 | NotEq=>
  refine ⟨_,jnO.or (jlA hr),fun x y v v' G H k Q0 rx ry hG h q=>?_⟩
  rcases jiH rx ry hG h with ⟨h1,h2⟩ | ⟨d,e,h1,h2,h3,h4,h5,h6⟩
  ·exact .inl ⟨h1,q _ h2⟩
  ·exact .inr ⟨d,e,h1,h2,h3,h4,h5,q _ h6⟩
 | Is=>exact ⟨fun _ _ _ _=>False,fun _ _ _ _ _ _ _ _ _ _ _ _ h=>h.elim,fun _ _ _ _ _ _ _ _ _ _ _ h _=>h.elim⟩
 | IsNot=>
  refine ⟨_,jgi,fun x y v v' G H k Q0 rx ry hG h q=>?_⟩
  obtain ⟨h1,h2⟩:=jl3 rx ry h
  exact ⟨h1,q _ h2⟩
 | In=>
  refine ⟨_,jgj.or ((jgk (X:=X)).or ((jlF hu).or (jlD hr))),fun x y v v' G H k Q0 rx ry hG h q=>?_⟩
  rcases jiC rx ry hG h with ⟨i,j,h1,h2,h3⟩ | ⟨p,xs,h1,h2,h3,h4,h5⟩ | ⟨a,o,h1,h2,h3⟩ | ⟨p,vs,d,ds,h1,h2,h3,h4,h5,h6,h7,h8⟩
  ·exact .inl ⟨i,j,h1,h2,q _ h3⟩
  ·exact .inr (.inl ⟨p,xs,h1,h2,h3,h4,q _ h5⟩)
  ·exact .inr (.inr (.inl ⟨a,o,h1,h2,q _ h3⟩))
  ·exact .inr (.inr (.inr ⟨p,vs,d,ds,h1,h2,h3,h4,h5,h6,h7,q _ h8⟩))
 | NotIn=>
  refine ⟨_,jdC.or ((jdD (X:=X)).or ((jgl hu).or (jgg hr))),fun x y v v' G H k Q0 rx ry hG h q=>?_⟩
  rcases jiC rx ry hG h with ⟨i,j,h1,h2,h3⟩ | ⟨p,xs,h1,h2,h3,h4,h5⟩ | ⟨a,o,h1,h2,h3⟩ | ⟨p,vs,d,ds,h1,h2,h3,h4,h5,h6,h7,h8⟩
  ·exact .inl ⟨i,j,h1,h2,q _ h3⟩
  ·exact .inr (.inl ⟨p,xs,h1,h2,h3,h4,q _ h5⟩)
  ·exact .inr (.inr (.inl ⟨a,o,h1,h2,q _ h3⟩))
  ·exact .inr (.inr (.inr ⟨p,vs,d,ds,h1,h2,h3,h4,h5,h6,h7,q _ h8⟩))
 | Lt=>
  refine ⟨_,jnP,fun x y v v' G H k Q0 rx ry hG h q=>?_⟩
  obtain ⟨i,j,rfl,rfl⟩ | ⟨z,_⟩:=jc9 h
  rotate_left
  ·cases z
  cases rx; cases ry
  exact ⟨_,_,rfl,rfl,q _ h⟩
 | LtE=>
  refine ⟨_,jnQ.or jgh,fun x y v v' G H k Q0 rx ry hG h q=>?_⟩
  obtain ⟨i,j,rfl,rfl⟩ | ⟨_,i,j,rfl,rfl⟩:=jc9 h
  ·cases rx; cases ry
   exact .inl ⟨_,_,rfl,rfl,q _ h⟩
  ·cases rx; cases ry
   exact .inr ⟨_,_,rfl,rfl,q _ h⟩
 | Gt=>
  refine ⟨_,jnR,fun x y v v' G H k Q0 rx ry hG h q=>?_⟩
  obtain ⟨i,j,rfl,rfl⟩ | ⟨z,_⟩:=jc9 h
  rotate_left
  ·cases z
  cases rx; cases ry
  exact ⟨_,_,rfl,rfl,q _ h⟩
 | GtE=>
  refine ⟨_,jnS,fun x y v v' G H k Q0 rx ry hG h q=>?_⟩
  obtain ⟨i,j,rfl,rfl⟩ | ⟨z,_⟩:=jc9 h
  rotate_left
  ·cases z
  cases rx; cases ry
  exact ⟨_,_,rfl,rfl,q _ h⟩
variable {pos:Pos}{a b c:Expr}{ta tb tc:UE}{tA tB:UT}
theorem jnd {o:CmpOp}(ho:CmU X o)(ha:PE X a (lE X ta))(hb:PE X b (lE X tb))(hm:Yei o b=false) :
  PE X (.Compare a [o] [b] pos) (lE X fun ς G Q E=>ta ς G (fun x G1=>tb ς G1 (fun y G2=>cmpU o x y G2 fun c=>Q (.bl c) G2) E) E):=by
 obtain ⟨r,h1,h2⟩:=ho
 exact (jjA h1 ha hb hm).imp fun σ H Q0 h=>lE.two h fun x y v v' G H' Q rx ry hG q lv=>h2 x y v v' G H' _ Q0 rx ry hG q fun c q=>lv.bl hG q
theorem jc1 {H:Hp}{G:Gp}{x:U}{v:V}{k:Bool->Prop}(rx:RU X.K H x v)(hG:HR X.K H G)(h:truU x G k):∃ b,TruV X.K v H b/\k b:=by
 unfold truU at h
 split at h
 ·cases rx; exact ⟨_,rfl,h⟩
 ·cases rx; exact ⟨_,rfl,h⟩
 ·cases rx; exact ⟨_,rfl,h⟩
 ·cases rx; exact ⟨_,⟨h.1,rfl⟩,h.2⟩
 ·obtain ⟨a,vs,rfl,e,rs⟩:=rx
  exact ⟨_,.inr (.inl ⟨vs,.of e,rfl⟩),by rw [<- rs.isEmpty]; exact h⟩
 ·cases rx
  split at h
  ·rename_i g
   obtain ⟨vs,e,rs⟩:=hG.lst g
   exact ⟨_,.inl ⟨vs,.of e,rfl⟩,by rw [<- rs.isEmpty]; exact h⟩
  ·rename_i g
   obtain ⟨ob,vs,e,rs⟩:=hG _ _ g
   exact ⟨_,.inl ⟨vs,.inl (.inr ⟨ob,e⟩),rfl⟩,by rw [<- rs.isEmpty]; exact h⟩
  ·rename_i kvs g
   obtain ⟨l,e,rs⟩:=hG _ _ g
   refine ⟨_,.inr (.inr ⟨l,e,rfl⟩),?_⟩
   cases kvs with
   | nil=>cases rs; exact h
   | cons p r=>obtain ⟨v,l',rfl,_⟩:=rs; exact h
  ·exact h.elim
 ·exact h.elim
theorem jkA (ha:PE X a (lE X ta))(he:∀ whole,isTrue a X.env whole=(do let v <- whole; standAt a.pos; holding [v] (truthy v))):PT X a (lT X fun ς G Q E=>ta ς G (fun x G1=>truU x G1 fun b=>Q b G1) E):=by
 refine (jhE ha he).imp fun σ H Q0 h=>?_
 obtain ⟨ς,G,Q,E,hς,hG,h,lv,lx⟩:=h
 refine ⟨ς,G,_,E,hς,hG,h,fun x v G1 H1 rx hG1 f1 h1=>?_,lx⟩
 obtain ⟨b,h2,h3⟩:=jc1 rx hG1 h1
 exact ⟨b,h2,lv b G1 H1 hG1 f1 h3⟩
theorem jkG {o:CmpOp}(ho:CmU X o)(ha:PE X a (lE X ta))(hb:PE X b (lE X tb))(hm:Yei o b=false) :
  PT X (.Compare a [o] [b] pos) (lT X fun ς G Q E=>ta ς G (fun x G1=>tb ς G1 (fun y G2=>cmpU o x y G2 fun c=>truU (.bl c) G2 fun c=>Q c G2) E) E):=by
 obtain ⟨r,h1,h2⟩:=ho
 refine (jjj h1 ha hb hm).imp fun σ H Q0 h=>?_
 obtain ⟨ς,G,Q,E,hς,hG,h,lv,lx⟩:=h
 refine ⟨ς,G,_,E,hς,hG,h,fun x v G1 H1 rx hG1 f1 h1=>?_,lx⟩
 refine ⟨ς,G1,_,E,hς.ts (f1.ts hG),hG1,h1,fun y v' G2 H2 ry hG2 f2 h3=>?_,lx.fr f1⟩
 exact h2 x y v v' G2 H2 _ _ (rx.ts (f2.ts hG1)) ry hG2 h3 fun t q=>⟨t,rfl,lv t G2 H2 hG2 (f1.trans f2) q⟩
theorem jjC {rest:List Expr}{sa sb:TE}(ha:PE X a sa)(hb:PE X (.BoolOp .And (b::rest) pos) sb):PE X (.BoolOp .And (a::b::rest) pos) (fun σ H Q=>sa σ H fun x H1=>∃ k,TruV X.K x H1 k/\if k=true then sb σ H1 Q else Q x H1):=by
 intro pins s σ H Q I h
 refine PyProof.Rows.BoolOp_and (thn (ha pins s σ H _ I h) fun v s1 ⟨x,H1,I1,r1,k,hk,q1⟩=>?_)
 refine thn (jeM pins s1 σ H1 x v (fun c H2=>c=k/\H2=H1) I1 r1 ⟨k,hk,rfl,rfl⟩) fun c s2 ⟨H2,I2,e1,e2⟩=>?_
 subst e1 e2
 cases c with
 | true=>exact hb pins s2 σ H2 Q I2 q1
 | false=>exact ⟨x,H2,I2,r1,q1⟩
theorem jlj {rest:List Expr}{sa sb:TE}(ha:PE X a sa)(hb:PE X (.BoolOp .Or (b::rest) pos) sb):PE X (.BoolOp .Or (a::b::rest) pos) (fun σ H Q=>sa σ H fun x H1=>∃ k,TruV X.K x H1 k/\if k=true then Q x H1 else sb σ H1 Q):=by
 intro pins s σ H Q I h
 refine PyProof.Rows.BoolOp_or (thn (ha pins s σ H _ I h) fun v s1 ⟨x,H1,I1,r1,k,hk,q1⟩=>?_)
 refine thn (jeM pins s1 σ H1 x v (fun c H2=>c=k/\H2=H1) I1 r1 ⟨k,hk,rfl,rfl⟩) fun c s2 ⟨H2,I2,e1,e2⟩=>?_
 subst e1 e2
 cases c with
 | true=>exact ⟨x,H2,I2,r1,q1⟩
 | false=>exact hb pins s2 σ H2 Q I2 q1
theorem jnh {rest:List Expr}(ha:PE X a (lE X ta))(hb:PE X (.BoolOp .And (b::rest) pos) (lE X tb)):PE X (.BoolOp .And (a::b::rest) pos) (lE X fun ς G Q E=>ta ς G (fun x G1=>truU x G1 fun c=>if c=true then tb ς G1 Q E else Q x G1) E):=by
 refine (jjC ha hb).imp fun σ H Q0 h=>?_
 obtain ⟨ς,G,Q,E,hς,hG,h,lv,lx⟩:=h
 refine ⟨ς,G,_,E,hς,hG,h,fun x v G1 H1 rx hG1 f1 h1=>?_,lx⟩
 obtain ⟨k,h2,h3⟩:=jc1 rx hG1 h1
 refine ⟨k,h2,?_⟩
 cases k with
 | true=>rw [if_pos rfl] at h3 ⊢; exact ⟨ς,G1,Q,E,hς.ts (f1.ts hG),hG1,h3,lv.fr f1,lx.fr f1⟩
 | false=>rw [if_neg Yak] at h3 ⊢; exact (lv.fr f1).here rx hG1 h3
theorem u_or {rest:List Expr}(ha:PE X a (lE X ta))(hb:PE X (.BoolOp .Or (b::rest) pos) (lE X tb)):PE X (.BoolOp .Or (a::b::rest) pos) (lE X fun ς G Q E=>ta ς G (fun x G1=>truU x G1 fun c=>if c=true then Q x G1 else tb ς G1 Q E) E):=by
 refine (jlj ha hb).imp fun σ H Q0 h=>?_
 obtain ⟨ς,G,Q,E,hς,hG,h,lv,lx⟩:=h
 refine ⟨ς,G,_,E,hς,hG,h,fun x v G1 H1 rx hG1 f1 h1=>?_,lx⟩
 obtain ⟨k,h2,h3⟩:=jc1 rx hG1 h1
 refine ⟨k,h2,?_⟩
 cases k with
 | true=>rw [if_pos rfl] at h3 ⊢; exact (lv.fr f1).here rx hG1 h3
 | false=>rw [if_neg Yak] at h3 ⊢; exact ⟨ς,G1,Q,E,hς.ts (f1.ts hG),hG1,h3,lv.fr f1,lx.fr f1⟩
theorem jm6 (ha:PE X a (lE X ta)):PE X (.UnaryOp .Not a pos) (lE X fun ς G Q E=>ta ς G (fun x G1=>truU x G1 fun b=>Q (.bl (!b)) G1) E):=by
 intro pins s σ H Q0 I h
 obtain ⟨ς,G,Q,E,hς,hG,h,lv,lx⟩:=h
 refine PyProof.Rows.UnaryOp_ (thn (ha pins s σ H (fun v H1=>∃ k,TruV X.K v H1 k/\Q0 (.bl (!k)) H1) I ⟨ς,G,_,E,hς,hG,h,fun x v G1 H1 rx hG1 f1 h1=>?_,lx⟩) fun v s1 ⟨x,H1,I1,r1,k,hk,q1⟩=>?_)
 ·obtain ⟨k,h2,h3⟩:=jc1 rx hG1 h1
  exact ⟨k,h2,(lv.fr f1).bl hG1 h3⟩
 ·refine PyProof.Rows.not_of (thn (jeM pins s1 σ H1 x v (fun c H2=>c=k/\H2=H1) I1 r1 ⟨k,hk,rfl,rfl⟩) fun c s2 ⟨H2,I2,e1,e2⟩=>?_)
  subst e1 e2
  exact ⟨.bl (!c),H2,I2,rfl,q1⟩
theorem jkD (hc:PT X c (lT X tA)){tC:UT}(ha:PT X a (lT X tB))(hb:PT X b (lT X tC)):PT X (.IfExp c a b pos) (lT X fun ς G Q E=>tA ς G (fun t G1=>if t=true then tB ς G1 Q E else tC ς G1 Q E) E):=by
 intro pins s σ H Q0 I h
 obtain ⟨ς,G,Q,E,hς,hG,h,lv,lx⟩:=h
 show wpAny _ _ (do if <- isTrue c X.env (eval c X.env) then isTrue a X.env (eval a X.env) else isTrue b X.env (eval b X.env)) _ _ s
 refine Yab (thn (hc pins s σ H (fun t H1=>∃ G1,HR X.K H1 G1/\Fr H G H1 G1/\if t=true then tB ς G1 Q E else tC ς G1 Q E) I ⟨ς,G,_,E,hς,hG,h,fun t G1 H1 hG1 f1 h1=>⟨G1,hG1,f1,h1⟩,lx⟩) fun t s1 ⟨H1,I1,G1,hG1,f1,h1⟩=>?_)
 cases t with
 | true=>exact ha pins s1 σ H1 Q0 I1 ⟨ς,G1,Q,E,hς.ts (f1.ts hG),hG1,h1,fun b G2 H2 hG2 f2 h2=>lv b G2 H2 hG2 (f1.trans f2) h2,lx.fr f1⟩
 | false=>exact hb pins s1 σ H1 Q0 I1 ⟨ς,G1,Q,E,hς.ts (f1.ts hG),hG1,h1,fun b G2 H2 hG2 f2 h2=>lv b G2 H2 hG2 (f1.trans f2) h2,lx.fr f1⟩
theorem jij (ha:PT X a (lT X tA)):PT X (.UnaryOp .Not a pos) (lT X fun ς G Q E=>tA ς G (fun b G1=>Q (!b) G1) E):=by
 refine (jiq ha).imp fun σ H Q0 h=>?_
 obtain ⟨ς,G,Q,E,hς,hG,h,lv,lx⟩:=h
 exact ⟨ς,G,_,E,hς,hG,h,fun b G1 H1 hG1 f1 h1=>lv (!b) G1 H1 hG1 f1 h1,lx⟩
theorem jkI {rest:List Expr}(ha:PT X a (lT X tA))(hb:PW X (.BoolOp .And (b::rest) pos) (lT X tB)):PW X (.BoolOp .And (a::b::rest) pos) (lT X fun ς G Q E=>tA ς G (fun c G1=>if c=true then tB ς G1 Q E else Q false G1) E):=by
 refine (pw_and ha hb).imp fun σ H Q0 h=>?_
 obtain ⟨ς,G,Q,E,hς,hG,h,lv,lx⟩:=h
 refine ⟨ς,G,_,E,hς,hG,h,fun c G1 H1 hG1 f1 h1=>?_,lx⟩
 cases c with
 | false=>rw [if_neg Yak] at h1 ⊢; exact lv false G1 H1 hG1 f1 h1
 | true=>rw [if_pos rfl] at h1 ⊢; exact ⟨ς,G1,Q,E,hς.ts (f1.ts hG),hG1,h1,fun b G2 H2 hG2 f2 h2=>lv b G2 H2 hG2 (f1.trans f2) h2,lx.fr f1⟩
theorem jm5 {rest:List Expr}(ha:PT X a (lT X tA))(hb:PW X (.BoolOp .Or (b::rest) pos) (lT X tB)):PW X (.BoolOp .Or (a::b::rest) pos) (lT X fun ς G Q E=>tA ς G (fun c G1=>if c=true then Q true G1 else tB ς G1 Q E) E):=by
 refine (pw_or ha hb).imp fun σ H Q0 h=>?_
 obtain ⟨ς,G,Q,E,hς,hG,h,lv,lx⟩:=h
 refine ⟨ς,G,_,E,hς,hG,h,fun c G1 H1 hG1 f1 h1=>?_,lx⟩
 cases c with
 | true=>rw [if_pos rfl] at h1 ⊢; exact lv true G1 H1 hG1 f1 h1
 | false=>rw [if_neg Yak] at h1 ⊢; exact ⟨ς,G1,Q,E,hς.ts (f1.ts hG),hG1,h1,fun b G2 H2 hG2 f2 h2=>lv b G2 H2 hG2 (f1.trans f2) h2,lx.fr f1⟩
theorem jnb (hc:PT X c (lT X tA))(ha:PE X a (lE X ta))(hb:PE X b (lE X tb)):PE X (.IfExp c a b pos) (lE X fun ς G Q E=>tA ς G (fun t G1=>if t=true then ta ς G1 Q E else tb ς G1 Q E) E):=by
 refine (jhO hc ha hb).imp fun σ H Q0 h=>?_
 obtain ⟨ς,G,Q,E,hς,hG,h,lv,lx⟩:=h
 refine ⟨ς,G,_,E,hς,hG,h,fun c G1 H1 hG1 f1 h1=>?_,lx⟩
 cases c with
 | true=>rw [if_pos rfl] at h1 ⊢; exact ⟨ς,G1,Q,E,hς.ts (f1.ts hG),hG1,h1,lv.fr f1,lx.fr f1⟩
 | false=>rw [if_neg Yak] at h1 ⊢; exact ⟨ς,G1,Q,E,hς.ts (f1.ts hG),hG1,h1,lv.fr f1,lx.fr f1⟩
end
end Z

namespace L2
open PySem PySem.Spec PyProof.Rows
set_option maxHeartbeats 4000000
section
variable {X:Cx}{e st:Expr}{te tst:TE}{pos p2:Pos}
noncomputable def jnl (K:Yaa)(te tst:TE):TE:=fun σ H Q=>te σ H fun x H1=>tst σ H1 fun y H2=>(∃ a xs,x=.ref a/\SqL K H2 a xs/\
 ((y=.int 1/\∀ p,H2 p=none->Q (.ref p) (upd H2 p (.lst xs)))\/(y=.int (-1)/\∀ p,H2 p=none->Q (.ref p) (upd H2 p (.lst xs.reverse)))))\/
 ∃ a xs,x=.ref a/\SqT K H2 a xs/\y=.int (-1)/\∀ p,H2 p=none->Q (.ref p) (upd H2 p (.tup xs.reverse))
theorem jjy (he:PE X e te)(hs:PE X st tst):PE X (.Subscript e (.Slice none none (some st) p2) pos) (jnl X.K te tst):=by
 intro pins s σ H Q I h
 refine Subscript_ (thn (he pins s σ H _ I h) fun v s1 ⟨x,H1,I1,r1,q1⟩=>?_)
 refine wpAny_Slice ?_
 rw [YfD,evalPart_some]
 refine Yah (Yah ?_)
 refine thn (hs pins s1 σ H1 _ I1 q1) fun u s3 ⟨y,H3,I3,r3,q3⟩=>?_
 have I4:Inv X pins σ H3 { s3 with heap:=s3.heap.push { cls:=.type "slice",data:=.fields #[.none,.none,u] } }:=I3.kept (t':=s3.toks) fun b ob q=>Yad _ q
 rcases q3 with ⟨a,xs,rfl,hx,q3⟩ | ⟨a,xs,rfl,hx,rfl,q⟩
 ·cases r1
  obtain ⟨its,r,ht,hz⟩:=I4.list hx
  have hlen:=r.length
  show wpAny (model X.prog X.w) X.A (Yef e (.Slice none none (some st) p2) (.ref a) (.ref s3.heap.objs.size)) (EP X pins σ Q) X.xe { s3 with heap:=s3.heap.push { cls:=.type "slice",data:=.fields #[.none,.none,u] } }
  refine tail_any (ops:=[.ref a,.ref s3.heap.objs.size]) ht.isList.typeIs slot_list_getitem.lookup ?_ (by with_unfolding_all rfl)
  rcases q3 with ⟨rfl,q⟩ | ⟨rfl,q⟩
  ·obtain ⟨t,rfl⟩:=r3
   refine Ydg ht.isList (Heap.IsSliceOf.new ..) .none .none (.int 1 t) (by decide) ?_ (by rw [Yam] <;> omega)
   rw [jie]
   refine ⟨.ref _,_,I4.laid (t':=s3.toks) (o:=.lst xs) (fun b ob q=>Yad _ q) (Yaf _) ?_,rfl,q _ (I4.hok.fresh (Yaf _))⟩
   exact ⟨hz,_,0,r,Yav _ rfl⟩
  ·obtain ⟨t,rfl⟩:=r3
   refine Ydg ht.isList (Heap.IsSliceOf.new ..) .none .none (.int (-1) t) (by decide) ?_ (by rw [Yam] <;> omega)
   rw [jhz]
   refine ⟨.ref _,_,I4.laid (t':=s3.toks) (o:=.lst xs.reverse) (fun b ob q=>Yad _ q) (Yaf _) ?_,rfl,q _ (I4.hok.fresh (Yaf _))⟩
   exact ⟨by rw [YcG]; exact hz,_,0,r.rev,Yav _ rfl⟩
 ·cases r1
  obtain ⟨t,rfl⟩:=r3
  obtain ⟨its,r,ht,hz⟩:=I4.tuple hx
  have hlen:=r.length
  show wpAny (model X.prog X.w) X.A (Yef e (.Slice none none (some st) p2) (.ref a) (.ref s3.heap.objs.size)) (EP X pins σ Q) X.xe { s3 with heap:=s3.heap.push { cls:=.type "slice",data:=.fields #[.none,.none,.int (-1) t] } }
  refine tail_any (ops:=[.ref a,.ref s3.heap.objs.size]) ht.typeIs YaT.lookup ?_ (by with_unfolding_all rfl)
  refine HT.getItem_tuple_rev ht (Heap.IsSliceOf.new ..) ?_ (by rw [<- hlen]; exact hz)
  refine ⟨.ref _,_,I4.laid (t':=s3.toks) (o:=.tup xs.reverse) (fun b ob q=>Yad _ q) (Yaf _) ?_,rfl,q _ (I4.hok.fresh (Yaf _))⟩
  exact ⟨by rw [YcG]; exact hz,_,r.rev,TupD.new _ _⟩
end
end L2
namespace Z
open PySem L2
set_option maxHeartbeats 4000000
section
variable {X:Cx}{pos:Pos}{a b e:Expr}{es:List Expr}{ta tb te:UE}{ts:UA}
theorem jea:PA X [] (lA X fun _ G Q _=>Q [] G):=by
 refine jcf.imp fun σ H Q0 h=>?_
 obtain ⟨ς,G,Q,E,hς,hG,h,lv,lx⟩:=h
 exact lv [] [] G H rfl hG (Fr.refl _ _) h
theorem jbu (ha:PE X e (lE X te))(hr:PA X es (lA X ts))(hs:Yar (e::es) X.env=(false,eval e X.env)::Yar es X.env):PA X (e::es) (lA X fun ς G Q E=>te ς G (fun x G1=>ts ς G1 (fun xs G2=>Q (x::xs) G2) E) E):=by
 refine (jaC ha hr hs).imp fun σ H Q0 h=>?_
 obtain ⟨ς,G,Q,E,hς,hG,h,lv,lx⟩:=h
 refine ⟨ς,G,_,E,hς,hG,h,fun x v G1 H1 rx hG1 f1 h1=>?_,lx⟩
 refine ⟨ς,G1,_,E,hς.ts (f1.ts hG),hG1,h1,fun xs vs G2 H2 rxs hG2 f2 h2=>?_,lx.fr f1⟩
 exact lv (x::xs) (v::vs) G2 H2 ⟨v,vs,rfl,rx.ts (f2.ts hG1),rxs⟩ hG2 (f1.trans f2) h2
theorem jm0 {k}(h:PA X es (lA X ts)):PE X (.Tuple es k pos) (lE X fun ς G Q E=>ts ς G (fun us G1=>us.length<=Yae/\Q (.tup us) G1) E):=
 (jge h).imp fun σ H Q0 h=>lE.many h fun us vs G H' Q r hG q lv=>⟨by rw [<- r.length]; exact q.1,fun p hp=>lv.tup hp r hG q.2⟩
theorem jm4 {i:Nat}{x y0 a b:Str}{k0 k1 k2 k3:Nat}{p0 p1 p2 p3 p4 p5 p6 p7 p8:Pos}(hN:X.N[i]?=some x)(hv:Vis X.env.scope x)(hd:(x == ("__debug__" : Str))=false)(hcd:(x == ("__classdict__" : Str))=false)
  (hy0:(y0.length == 0)=false) (hab:(a == b)=false) (hl:(a.length == 0 && b.length == 0)=false) (hline:(p4.endLine == p8.line)=true) (hr:PA X es (lA X ts)) :
  PA X (.BinOp (.Constant (.str y0) k0 p0) .Add (.Name x p1) p2::.Call (.Attribute (.Name x p3) "replace" p4) [.Constant (.str a) k1 p5,.Constant (.str b) k2 p6,.Constant (.int 1) k3 p7] [] p8::es)
   (lA X fun ς G Q E=>slot ς i fun u=>repU y0 b u fun z w=>ts ς G (fun us G2=>Q (.str z::.str w::us) G2) E):=by
 refine (jlp hN hv hd hcd hy0 hab hl hline hr).imp fun σ H Q0 h=>?_
 obtain ⟨ς,G,Q,E,hς,hG,h,lv,lx⟩:=h
 unfold slot at h
 split at h
 ·rename_i u e
  obtain ⟨v,e1,r⟩:=hς.2 i u e
  cases u with
  | str z=>
   cases r
   have h:y0.length + z.length<=Yae/\z.length + b.length<=Yae/\∀ w:Str,w.length<=z.length + b.length->(∀ c∈w.cps.toList,c∈z.cps.toList\/c∈b.cps.toList)->ts ς G (fun us G2=>Q (.str (y0++z)::.str w::us) G2) E:=h
   exact ⟨z,e1,h.1,h.2.1,fun w hw hw2=>⟨ς,G,_,E,hς,hG,h.2.2 w hw hw2,fun us vs G2 H2 rs hG2 f2 h2=>lv (.str (y0++z)::.str w::us) (.str (y0++z)::.str w::vs) G2 H2 ⟨_,_,rfl,rfl,_,_,rfl,rfl,rs⟩ hG2 f2 h2,lx⟩⟩
  | _=>exact Ybk h
 ·exact h.elim
theorem jkC (h:PA X es (lA X ts)):PE X (.List es pos) (lE X fun ς G Q E=>ts ς G (fun us G1=>us.length<=Yae/\newO G1 (.lst us) Q) E):=
 (jis h).imp fun σ H Q0 h=>lE.many h fun us vs G H' Q r hG q lv=>⟨by rw [<- r.length]; exact q.1,fun p hp=>lv.lst hp r hG q.2⟩
noncomputable def rDix:R2:=fun x y H Q=>∃ a v,x=.ref a/\DGet H a y (some v)/\Q v H
theorem jj6 (hu:X.A.units + 1 < cLine):IxR X rDix:=by
 intro value slice pins s σ H x y v u Q I rx ry h hs
 obtain ⟨a,w,rfl,g,q⟩:=h
 cases rx
 exact PyProof.Rows.tail_any (jex I g) PySem.F.slot_dict_getitem.lookup (jg2 hu I g ry fun w' s3 I3 rw'=>⟨w,H,I3,rw',q⟩) hs
theorem jiB {H:Hp}{G:Gp}{y:U}{v':V}{Q:K1}{Q0:VK}{a:Addr}{xs:List U}{vs:List V}(h:match y with | .int i=>(match atI xs i with | some u=>Q u G | none=>False) | _=>False)
  (ry:RU X.K H y v') (hG:HR X.K H G) (lv:LV X H G Q Q0) (sq:SqL X.K H a vs) (rs:RUs X.K H xs vs):rIx X.K (.ref a) v' H Q0:=by
 cases y with
 | int i=>
  cases ry
  dsimp only at h
  split at h
  ·rename_i u e
   obtain ⟨w,e2,r⟩:=rs.atI e
   exact .inl ⟨_,vs,_,w,rfl,rfl,sq,e2,lv.here r hG h⟩
  ·exact h.elim
 | _=>exact h.elim
theorem jl1 {H:Hp}{G:Gp}{x y:U}{v v':V}{Q:K1}{Q0:VK}(rx:RU X.K H x v)(ry:RU X.K H y v')(hG:HR X.K H G)(h:ixU x y G Q)(lv:LV X H G Q Q0):rIx X.K v v' H Q0\/rDix v v' H Q0:=by
 unfold ixU at h
 split at h
 ·obtain ⟨a,vs,rfl,e,rs⟩:=rx
  cases ry
  split at h
  ·rename_i u e1
   obtain ⟨w,e2,r⟩:=rs.atI e1
   exact .inl (.inr (.inl ⟨a,vs,_,w,rfl,rfl,.of e,e2,lv.here r hG h⟩))
  ·exact h.elim
 ·cases rx; cases ry
  obtain ⟨h1,h⟩:=h
  split at h
  ·rename_i c e1
   exact .inl (.inr (.inr ⟨_,_,c,rfl,rfl,h1,e1,lv.str hG h⟩))
  ·exact h.elim
 ·cases rx
  split at h
  ·rename_i g
   obtain ⟨vs,e,rs⟩:=hG.lst g
   exact .inl (jiB h ry hG lv (.of e) rs)
  ·rename_i g
   obtain ⟨ob,vs,e,rs⟩:=hG _ _ g
   exact .inl (jiB h ry hG lv (.inl (.inr ⟨ob,e⟩)) rs)
  ·rename_i kvs g
   obtain ⟨l,e,rs⟩:=hG _ _ g
   split at h
   ·rename_i k ek
    have:=jfA ry ek
    subst this
    split at h
    ·rename_i u eu
     have:=jb6 k rs
     rw [eu] at this
     obtain ⟨w,e2,r⟩:=this
     exact .inr ⟨_,w,rfl,by rw [<- e2]; exact DGet.k e,lv.here r hG h⟩
    ·exact h.elim
   ·exact h.elim
  ·rename_i kvs g
   obtain ⟨l,e,rs⟩:=hG _ _ g
   split at h
   ·rename_i ys
    obtain ⟨b,bs,rfl,eb,rb⟩:=ry
    split at h
    ·rename_i k ek
     have:=je7 rb ek
     subst this
     split at h
     ·rename_i u eu
      have:=jb6 k rs
      rw [eu] at this
      obtain ⟨w,e2,r⟩:=this
      exact .inr ⟨_,w,rfl,by rw [<- e2]; exact DGet.t e eb,lv.here r hG h⟩
     ·exact h.elim
    ·exact h.elim
   ·exact h.elim
  ·exact h.elim
 ·exact h.elim
theorem u_ix (hu:X.A.units + 1 < cLine)(ha:PE X a (lE X ta))(hb:PE X b (lE X tb))(hs:jeH b):PE X (.Subscript a b pos) (lE X fun ς G Q E=>ta ς G (fun x G1=>tb ς G1 (fun y G2=>ixU x y G2 Q) E) E):=
 (jnN ((jl0 (X:=X)).or (jj6 hu)) ha hb hs).imp fun σ H Q0 h=>lE.two h fun x y v v' G H' Q rx ry hG q lv=>jl1 rx ry hG q lv
theorem u_no:PO X none (lO X fun _ G Q _=>Q none G):=jjq.imp fun σ H Q0 h=>by
 obtain ⟨ς,G,Q,E,hς,hG,h,lv,lx⟩:=h
 exact lv none G H hG (Fr.refl _ _) h
theorem u_so (ha:PE X e (lE X te)):PO X (some e) (lO X fun ς G Q E=>te ς G (fun x G1=>match x with | .int i=>Q (some i) G1 | _=>False) E):=(jjp ha).imp fun σ H Q0 h=>by
 obtain ⟨ς,G,Q,E,hς,hG,h,lv,lx⟩:=h
 refine ⟨ς,G,_,E,hς,hG,h,fun x v G1 H1 rx hG1 f1 h1=>?_,lx⟩
 dsimp only at h1
 split at h1
 ·cases rx
  exact ⟨_,rfl,lv _ G1 H1 hG1 f1 h1⟩
 ·exact h1.elim
theorem u_sl {lo hi:Option Expr}{p2:Pos}{tl th:Sg->Gp->(Option Int->Gp->Prop)->KX->Prop}(ha:PE X e (lE X te))(hl:PO X lo (lO X tl))(hh:PO X hi (lO X th)) :
  PE X (.Subscript e (.Slice lo hi none p2) pos) (lE X fun ς G Q E=>te ς G (fun x G1=>tl ς G1 (fun l G2=>th ς G2 (fun h G3=>slU x l h G3 Q) E) E) E):=by
 refine (jhN (SlR.or (jja (X:=X)) (SlR.or jjb jkR)) ha hl hh).imp fun σ H Q0 h=>?_
 obtain ⟨ς,G,Q,E,hς,hG,h,lv,lx⟩:=h
 refine ⟨ς,G,_,E,hς,hG,h,fun x v G1 H1 rx hG1 f1 h1=>?_,lx⟩
 refine ⟨ς,G1,_,E,hς.ts (f1.ts hG),hG1,h1,fun l G2 H2 hG2 f2 h2=>?_,lx.fr f1⟩
 refine ⟨ς,G2,_,E,(hς.ts (f1.ts hG)).ts (f2.ts hG1),hG2,h2,fun u G3 H3 hG3 f3 h3=>?_,lx.fr (f1.trans f2)⟩
 have lv3:=lv.fr ((f1.trans f2).trans f3)
 have rx3:=rx.ts ((f2.ts hG1).trans (f3.ts hG2))
 unfold slU at h3
 split at h3
 ·obtain ⟨a,vs,rfl,ea,rs⟩:=rx3
  by_cases z:HT.sIx vs.length 0 l=0/\HT.sIx vs.length vs.length u=vs.length
  ·refine .inl (.inr ⟨a,vs,rfl,.of ea,z,?_⟩)
   refine lv3.here (w:=.tup _) ⟨a,vs,rfl,ea,?_⟩ hG3 h3
   have e2:cutV vs l u=vs:=by unfold cutV; rw [z.1,z.2]; simp
   have:=rs.cut l u
   rw [e2] at this
   exact this
  ·exact .inl (.inl ⟨a,vs,rfl,.of ea,z,fun p hp=>lv3.tup hp (rs.cut l u) hG3 h3⟩)
 ·cases rx3
  exact .inr (.inr ⟨_,rfl,h3.1,lv3.str hG3 h3.2⟩)
 ·cases rx3
  split at h3
  ·rename_i us eu
   obtain ⟨vs,sq,rs⟩:=hG3.ls eu
   exact .inr (.inl ⟨_,vs,rfl,sq,fun p hp=>lv3.lst hp (rs.cut l u) hG3 h3⟩)
  ·exact h3.elim
 ·exact h3.elim
theorem jm3 {st:Expr}{p2:Pos}(ha:PE X a (lE X ta))(hb:PE X st (lE X tb)):PE X (.Subscript a (.Slice none none (some st) p2) pos) (lE X fun ς G Q E=>ta ς G (fun x G1=>tb ς G1 (fun y G2=>revU x y G2 Q) E) E):=by
 refine (jjy ha hb).imp fun σ H Q0 h=>lE.two h fun x y v v' G H' Q rx ry hG q lv=>?_
 unfold revU at q
 split at q
 ·obtain ⟨a,vs,rfl,ea,rs⟩:=rx
  cases ry
  obtain ⟨rfl,q⟩:=q
  exact .inr ⟨a,vs,rfl,.of ea,rfl,fun p hp=>lv.tup hp rs.reverse hG q⟩
 ·cases rx; cases ry
  split at q
  ·rename_i us eu
   obtain ⟨vs,sq,rs⟩:=hG.ls eu
   obtain ⟨hi,q⟩:=q
   rcases hi with rfl | rfl
   ·exact .inl ⟨_,vs,rfl,sq,.inl ⟨rfl,fun p hp=>lv.lst hp rs hG q⟩⟩
   ·exact .inl ⟨_,vs,rfl,sq,.inr ⟨rfl,fun p hp=>lv.lst hp rs.reverse hG q⟩⟩
  ·exact q.elim
 ·exact q.elim
end
end Z

namespace L2
open PySem PySem.Spec PyProof.Rows
set_option maxHeartbeats 4000000
section
variable {X:Cx}
end
end L2
namespace Z
open PySem L2
set_option maxHeartbeats 4000000
noncomputable def bltN:Blt->Str
 | .len => "len" | .repr => "repr" | .min => "min" | .max => "max" | .sum => "sum" | .all => "all" | .any => "any" | .sorted => "sorted" | .int => "int" | .str => "str" | .isi => "isinstance"
noncomputable def bltV:Blt->Value
 | .len=>.builtin "len" | .repr=>.builtin "repr" | .min=>.builtin "min" | .max=>.builtin "max" | .sum=>.builtin "sum" | .all=>.builtin "all" | .any=>.builtin "any" | .sorted=>.builtin "sorted" | .int=>.type "int" | .str=>.type "str" | .isi=>.builtin "isinstance"
section
variable {X:Cx}
theorem RUs.one {K:Yaa}{H:Hp}{u:U}{vs:List V}(r:RUs K H [u] vs):∃ v,vs=[v]/\RU K H u v:=by
 obtain ⟨v,vr,rfl,r1,rs⟩:=r
 cases rs
 exact ⟨v,rfl,r1⟩
theorem RUs.two {K:Yaa}{H:Hp}{u w:U}{vs:List V}(r:RUs K H [u,w] vs):∃ v v',vs=[v,v']/\RU K H u v/\RU K H w v':=by
 obtain ⟨v,vr,rfl,r1,rs⟩:=r
 obtain ⟨v',rfl,r2⟩:=rs.one
 exact ⟨v,v',rfl,r1,r2⟩
noncomputable def BlU (X:Cx)(b:Blt):Prop:=∃ r,jaK X (bltV b) r/\∀ us vs G H Q Q0,RUs X.K H us vs->HR X.K H G->bltU b us G Q->LV X H G Q Q0->r vs H Q0
theorem jmp {k:Nat}(hr:Room k X.A)(hc:X.calm=true)(b:Blt):BlU X b:=by
 cases b with
 | len=>
  refine ⟨_,jaK.or (jib (X:=X)) jg9,fun us vs G H Q Q0 r hG h lv=>?_⟩
  change lenU us G Q at h
  unfold lenU at h
  split at h <;> first | exact h.elim | skip
  ·obtain ⟨v,rfl,r1⟩:=r.one
   obtain ⟨a,ws,rfl,e,rs⟩:=r1
   exact .inl ⟨_,_,rfl,.inr ⟨ws,.of e,rfl⟩,by rw [<- rs.length]; exact lv.int hG h⟩
  ·obtain ⟨v,rfl,r1⟩:=r.one
   cases r1
   exact .inl ⟨_,_,rfl,⟨h.1,rfl⟩,lv.int hG h.2⟩
  ·obtain ⟨v,rfl,r1⟩:=r.one
   cases r1
   split at h
   ·rename_i g
    obtain ⟨ws,e,rs⟩:=hG.lst g
    exact .inl ⟨_,_,rfl,.inl ⟨ws,.of e,rfl⟩,by rw [<- rs.length]; exact lv.int hG h⟩
   ·rename_i g
    obtain ⟨ob,ws,e,rs⟩:=hG _ _ g
    exact .inl ⟨_,_,rfl,.inl ⟨ws,.inl (.inr ⟨ob,e⟩),rfl⟩,by rw [<- rs.length]; exact lv.int hG h⟩
   ·rename_i kvs g
    obtain ⟨l,e,rs⟩:=hG _ _ g
    refine .inr ⟨_,l,rfl,e,?_⟩
    have:∀ {kvs:List (Key×U)} {l:List (Key×V)},RKs X.K H kvs l->kvs.length=l.length:=by
     intro kvs
     induction kvs with
     | nil=>intro l r; cases r; rfl
     | cons p q ih=>intro l r; obtain ⟨v,l',rfl,_,rs⟩:=r; simp [ih rs]
    rw [<- this rs]
    exact lv.int hG h
   ·exact h.elim
 | repr=>
  refine ⟨_,jfH hr,fun us vs G H Q Q0 r hG h lv=>?_⟩
  change jf6 us G Q at h
  unfold jf6 at h
  split at h <;> first | exact h.elim | skip
  obtain ⟨v,rfl,r1⟩:=r.one
  obtain ⟨d,h1,h2,h3⟩:=h
  exact ⟨v,d,rfl,h1.dv hG r1,h2,lv.str hG h3⟩
 | min=>
  refine ⟨_,jg8 hc,fun us vs G H Q Q0 r hG h lv=>?_⟩
  change minU us G Q at h
  unfold minU at h
  split at h <;> first | exact h.elim | skip
  obtain ⟨v,v',rfl,r1,r2⟩:=r.two
  cases r1; cases r2
  exact ⟨_,_,rfl,lv.int hG h⟩
 | max=>exact ⟨fun _ _ _=>False,fun _ _ _ _ _ _ _ _ _ h=>h.elim,fun _ _ _ _ _ _ _ _ h _=>h.elim⟩
 | sum=>exact ⟨fun _ _ _=>False,fun _ _ _ _ _ _ _ _ _ h=>h.elim,fun _ _ _ _ _ _ _ _ h _=>h.elim⟩
 | any=>exact ⟨fun _ _ _=>False,fun _ _ _ _ _ _ _ _ _ h=>h.elim,fun _ _ _ _ _ _ _ _ h _=>h.elim⟩
 | all=>exact ⟨fun _ _ _=>False,fun _ _ _ _ _ _ _ _ _ h=>h.elim,fun _ _ _ _ _ _ _ _ h _=>h.elim⟩
 | sorted=>exact ⟨fun _ _ _=>False,fun _ _ _ _ _ _ _ _ _ h=>h.elim,fun _ _ _ _ _ _ _ _ h _=>h.elim⟩
 | int=>
  refine ⟨_,jhd.or jdq,fun us vs G H Q Q0 r hG h lv=>?_⟩
  change intU us G Q at h
  unfold intU at h
  split at h <;> first | exact h.elim | skip
  ·obtain ⟨v,rfl,r1⟩:=r.one
   cases r1
   exact .inl (.inl ⟨_,rfl,lv.int hG h⟩)
  ·obtain ⟨v,rfl,r1⟩:=r.one
   cases r1
   exact .inl (.inr ⟨_,rfl,lv.int hG h⟩)
  ·obtain ⟨v,rfl,r1⟩:=r.one
   cases r1
   obtain ⟨n,h1,h2,h⟩:=h
   exact .inr ⟨_,n,rfl,h1,h2,lv.int hG h⟩
 | str=>
  refine ⟨_,jdZ.or (jg7 (X:=X)),fun us vs G H Q Q0 r hG h lv=>?_⟩
  change strU us G Q at h
  unfold strU at h
  split at h <;> first | exact h.elim | skip
  ·obtain ⟨v,rfl,r1⟩:=r.one
   cases r1
   exact .inl ⟨_,rfl,h.1,lv.str hG h.2⟩
  ·obtain ⟨v,rfl,r1⟩:=r.one
   cases r1
   exact .inr ⟨_,rfl,lv.str hG h⟩
 | isi=>exact ⟨fun _ _ _=>False,fun _ _ _ _ _ _ _ _ _ h=>h.elim,fun _ _ _ _ _ _ _ _ h _=>h.elim⟩
theorem jic (b:Blt):Yco (bltN b)=some (bltV b):=by
 cases b with
 | len=>exact PySem.boot_len
 | repr=>exact (by with_unfolding_all rfl)
 | min=>exact PyProof.Rows.boot_min
 | max=>exact PyProof.Rows.boot_max
 | sum=>exact PyProof.Rows.boot_sum
 | any=>exact PyProof.Rows.boot_any
 | all=>exact PyProof.Rows.boot_all
 | sorted=>exact PyProof.Rows.boot_sorted
 | int=>exact PyProof.Rows.boot_int
 | str=>exact PyProof.Rows.boot_str
 | isi=>exact Ydw
theorem jmq (b:Blt):bltN b ≠ "__name__" /\ (bltN b == ("__debug__" : Str))=false:=by cases b <;> decide
theorem jne {b:Blt}{e:Expr}{es:List Expr}{ts:UA}{p pos:Pos}(hb:BlU X b)(hg:Gl X (bltN b))(hm:X.mg (bltN b)=none)(ha:PA X (e::es) (lA X ts))
  (he:Yar (e::es) X.env=(false,eval e X.env)::Yar es X.env) (hpl:(backTo pos (Yar es X.env)).any (·.1)=false) :
  PE X (.Call (.Name (bltN b) p) (e::es) [] pos) (lE X fun ς G Q E=>ts ς G (fun us G1=>bltU b us G1 Q) E):=by
 obtain ⟨r,h1,h2⟩:=hb
 have fin:∀ σ H Q0,lE X (fun ς G Q E=>ts ς G (fun us G1=>bltU b us G1 Q) E) σ H Q0->tCB r (lA X ts) σ H Q0:=fun σ H Q0 h=>lE.many h fun us vs G H' Q rs hG q lv=>h2 us vs G H' Q Q0 rs hG q lv
 have hv:=jic b
 obtain ⟨n1,n2⟩:=jmq b
 cases b
 all_goals first
  | exact (jb1 h1 hg hm hv ha n1 n2 he hpl).imp fin
  | exact (jby h1 hg hm hv ha n1 n2 he hpl).imp fin
end
noncomputable def mthN:Mth->Str
 | .append => "append" | .extend => "extend" | .insert => "insert" | .pop => "pop" | .reverse => "reverse" | .index => "index" | .join => "join" | .get => "get" | .split => "split" | .setd => "setdefault"
section
variable {X:Cx}
theorem RUs.mk {K:Yaa}{H:Hp}{u:U}{v:V}{us:List U}{vs:List V}(r:RU K H u v)(rs:RUs K H us vs):RUs K H (u::us) (v::vs):=⟨v,vs,rfl,r,rs⟩
structure MtK (X:Cx)(m:Mth)(T id:String):Prop where
 pa:PlainAttrs T
 sl:Slot T (mthN m) id
 ty:typeOf (.builtin id)=pure (.type "method_descriptor")
noncomputable def MtU (X:Cx)(m:Mth):Prop:=∀ x G1 T id,mtU m x G1=some (T,id)->MtK X m T id/\(∀ v H1,RU X.K H1 x v->HR X.K H1 G1->tyV X.K T v H1)/\
 ∃ r,MtR X id r/\∀ us v vs G H Q Q0,RU X.K H x v->RUs X.K H us vs->HR X.K H G->jas m x us G Q->LV X H G Q Q0->r v vs H Q0
theorem jik {a:Addr}{G:Gp}{us:List U}(g:G a=some (.lst us)):∀ v H1,RU X.K H1 (.loc a) v->HR X.K H1 G->tyV X.K "list" v H1:=fun v H1 r hG=>by
 cases r
 obtain ⟨vs,e,_⟩:=hG.lst g
 exact .inl ⟨rfl,vs,.of e⟩
theorem jgy:MtU X .append:=by
 intro x G1 T id h
 dsimp only [mtU] at h
 split at h <;> first | contradiction | skip
 split at h
 ·rename_i g
  cases h
  refine ⟨⟨Yey,PySem.F.slot_list_append,PySem.F.type_list_append⟩,jik g,_,jdL,fun us v vs G H Q Q0 rx rs hG h lv=>?_⟩
  cases rx
  dsimp only [jas] at h
  unfold jeE at h
  split at h <;> first | exact h.elim | skip
  rename_i e2
  cases e2
  split at h
  ·rename_i g2
   obtain ⟨ws,e,r⟩:=hG.lst g2
   obtain ⟨y,rfl,ry⟩:=rs.one
   refine ⟨_,ws,y,rfl,rfl,e,by rw [<- r.length]; exact h.1,?_⟩
   exact lv.wl g2 (r.append (RUs.mk (us:=[]) (vs:=[]) ry rfl)) hG (w:=.non) rfl h.2
  ·exact h.elim
 ·cases h
theorem jhZ:MtU X .index:=by
 intro x G1 T id h
 dsimp only [mtU] at h
 split at h <;> first | contradiction | skip
 ·split at h
  ·rename_i g
   cases h
   refine ⟨⟨Yey,PySem.F.slot_list_index,PySem.F.type_list_index⟩,jik g,_,jgA,fun us v vs G H Q Q0 rx rs hG h lv=>?_⟩
   cases rx
   dsimp only [jas] at h
   unfold jgN at h
   split at h <;> first | exact h.elim | contradiction | skip
   rename_i e2
   cases e2
   split at h
   ·rename_i g2
    obtain ⟨ws,e,r⟩:=hG.lst g2
    obtain ⟨y,rfl,ry⟩:=rs.one
    cases ry
    split at h
    ·rename_i ys ey
     have:=r.strs ey
     subst this
     exact ⟨_,ys,_,rfl,rfl,.of e,h.1,lv.int hG h.2⟩
    ·exact h.elim
   ·exact h.elim
  ·cases h
 ·cases h
  refine ⟨⟨PySem.F.plainAttrs_tuple,PySem.F.slot_tuple_index,PySem.F.type_tuple_index⟩,fun v H1 r hG=>?_,_,jgz,fun us v vs G H Q Q0 rx rs hG h lv=>?_⟩
  ·obtain ⟨a,ws,rfl,e,_⟩:=r
   exact .inr (.inr (.inr (.inr ⟨rfl,ws,e⟩)))
  ·obtain ⟨a,ws,rfl,e,r⟩:=rx
   dsimp only [jas] at h
   unfold jgN at h
   split at h <;> first | exact h.elim | contradiction | skip
   rename_i e2
   cases e2
   obtain ⟨y,rfl,ry⟩:=rs.one
   cases ry
   split at h
   ·rename_i ys ey
    have:=r.strs ey
    subst this
    exact ⟨_,ys,_,rfl,rfl,.of e,h.1,lv.int hG h.2⟩
   ·exact h.elim
theorem jjT:MtU X .join:=by
 intro x G1 T id h
 dsimp only [mtU] at h
 split at h <;> first | contradiction | skip
 cases h
 refine ⟨⟨Yc7,PySem.F.slot_str_join,PySem.F.type_str_join⟩,fun v H1 r hG=>by cases r; rfl,_,mt_join,fun us v vs G H Q Q0 rx rs hG h lv=>?_⟩
 cases rx
 dsimp only [jas] at h
 unfold jj4 at h
 split at h <;> first | exact h.elim | skip
 ·rename_i e2
  cases e2
  obtain ⟨y,rfl,ry⟩:=rs.one
  obtain ⟨a,ws,rfl,e,r⟩:=ry
  split at h
  ·rename_i ys ey
   have:=r.strs ey
   subst this
   exact ⟨_,a,ys,rfl,rfl,.inr (.of e),h.1,h.2.1,lv.str hG h.2.2⟩
  ·exact h.elim
 ·rename_i e2
  cases e2
  obtain ⟨y,rfl,ry⟩:=rs.one
  cases ry
  split at h
  ·rename_i g2
   obtain ⟨ws,e,r⟩:=hG.lst g2
   split at h
   ·rename_i ys ey
    have:=r.strs ey
    subst this
    exact ⟨_,_,ys,rfl,rfl,.inl (.of e),h.1,h.2.1,lv.str hG h.2.2⟩
   ·exact h.elim
  ·exact h.elim
theorem jfP {K:Yaa}{H:Hp}:∀ ys:List Str,RUs K H (ys.map .str) (ys.map V.str)
 | []=>rfl
 | _::r=>⟨_,_,rfl,rfl,jfP r⟩
theorem jhY:MtU X .split:=by
 intro x G1 T id h
 dsimp only [mtU] at h
 split at h <;> first | contradiction | skip
 cases h
 refine ⟨⟨Yc7,PySem.F.slot_str_split,PySem.F.type_str_split⟩,fun v H1 r hG=>by cases r; rfl,_,jh0,fun us v vs G H Q Q0 rx rs hG h lv=>?_⟩
 cases rx
 dsimp only [jas] at h
 unfold jip at h
 split at h <;> first | exact h.elim | skip
 rename_i e2
 cases e2
 obtain ⟨y,rfl,ry⟩:=rs.one
 cases ry
 exact ⟨_,_,rfl,rfl,h.1,h.2.1,h.2.2.1,fun l hl=>lv.lst hl (jfP _) hG h.2.2.2⟩
theorem RKs.put {κ:Type}[DecidableEq κ]{K:Yaa}{H:Hp}{k:κ}{u:U}{v:V}(r:RU K H u v):∀ {kvs:List (κ×U)} {l:List (κ×V)},RKs K H kvs l->RKs K H (dPut kvs k u) (putK l k v):=by
 intro kvs l h
 have any:∀ {kvs:List (κ×U)} {l:List (κ×V)},RKs K H kvs l->(kvs.any fun kv=>decide (kv.1=k))=l.any fun kv=>decide (kv.1=k):=by
  intro kvs
  induction kvs with
  | nil=>intro l h; cases h; rfl
  | cons p q ih=>intro l h; obtain ⟨w,l',rfl,_,rs⟩:=h; simp only [Ybo]; rw [ih rs]
 have repl:∀ {kvs:List (κ×U)} {l:List (κ×V)},RKs K H kvs l->RKs K H (kvs.map fun kv=>if kv.1=k then (kv.1,u) else kv) (l.map fun kv=>if kv.1=k then (kv.1,v) else kv):=by
  intro kvs
  induction kvs with
  | nil=>intro l h; cases h; rfl
  | cons p q ih=>
   intro l h
   obtain ⟨k',u'⟩:=p
   obtain ⟨w,l',rfl,rw',rs⟩:=h
   simp only [Yas]
   by_cases e:k'=k
   ·rw [if_pos e,if_pos e]; exact ⟨v,_,rfl,r,ih rs⟩
   ·rw [if_neg e,if_neg e]; exact ⟨w,_,rfl,rw',ih rs⟩
 have snoc:∀ {kvs:List (κ×U)} {l:List (κ×V)},RKs K H kvs l->RKs K H (kvs++[(k,u)]) (l++[(k,v)]):=by
  intro kvs
  induction kvs with
  | nil=>intro l h; cases h; exact ⟨v,[],rfl,r,rfl⟩
  | cons p q ih=>intro l h; obtain ⟨k',u'⟩:=p; obtain ⟨w,l',rfl,rw',rs⟩:=h; exact ⟨w,_,rfl,rw',ih rs⟩
 unfold dPut putK
 rw [any h]
 split
 ·exact repl h
 ·exact snoc h
theorem RKs.length {κ:Type}{K:Yaa}{H:Hp}:∀ {kvs:List (κ×U)} {l:List (κ×V)},RKs K H kvs l->kvs.length=l.length
 | [],_,h=>by cases h; rfl
 | (_,_)::_,_,h=>by obtain ⟨v,l',rfl,_,rs⟩:=h; simp [rs.length]
theorem jjS:MtU X .setd:=by
 intro x G1 T id h
 dsimp only [mtU] at h
 split at h <;> first | contradiction | skip
 split at h
 ·rename_i g
  cases h
  refine ⟨⟨PySem.F.plainAttrs_dict,PySem.F.slot_dict_setdefault,PySem.F.type_dict_setdefault⟩,fun v H1 r hG=>?_,_,jjU,fun us v vs G H Q Q0 rx rs hG h lv=>?_⟩
  ·cases r
   obtain ⟨l,e,_⟩:=hG _ _ g
   exact .inr (.inr (.inl ⟨rfl,.inl ⟨l,e⟩⟩))
  ·cases rx
   dsimp only [jas] at h
   unfold jhv at h
   split at h <;> first | exact h.elim | skip
   rename_i y w e2
   cases e2
   split at h <;> first | exact h.elim | skip
   rename_i kvs g2
   split at h <;> first | exact h.elim | skip
   rename_i k ek
   obtain ⟨l,e,rk⟩:=hG _ _ g2
   obtain ⟨y',vs1,rfl,ry,rs1⟩:=rs
   obtain ⟨w',rfl,rw'⟩:=rs1.one
   have:=jfA ry ek
   subst this
   have hv:=jb6 k rk
   refine ⟨_,l,k,w',rfl,rfl,e,by rw [<- rk.length]; exact h.1,?_⟩
   cases hd:dGet kvs k with
   | some u=>
    rw [hd] at hv
    obtain ⟨v,e3,rv⟩:=hv
    rw [e3]
    have h2:=h.2
    rw [hd] at h2
    exact lv.here rv hG h2
   | none=>
    rw [hd] at hv
    rw [show valV l k=none from hv]
    have h2:=h.2
    rw [hd] at h2
    exact lv _ _ _ _ (rw'.ts (TS.write hG g2)) (hG.write (mo':=.dK (dPut kvs k w)) g2 ⟨_,jag,(rk.put rw').ts (TS.write hG g2)⟩) (Fr.write g2) h2.at
 ·cases h
theorem jiy (m:Mth):MtU X m:=by
 cases m with
 | append=>exact jgy
 | extend=>intro x G1 T id h; cases h
 | insert=>intro x G1 T id h; cases h
 | pop=>intro x G1 T id h; cases h
 | reverse=>intro x G1 T id h; cases h
 | index=>exact jhZ
 | join=>exact jjT
 | split=>exact jhY
 | setd=>exact jjS
 | get=>intro x G1 T id h; unfold mtU at h; split at h <;> contradiction
variable {m:Mth}{o e:Expr}{es:List Expr}{to:UE}{ts:UA}{apos cpos:Pos}
theorem jkB (hm:MtU X m)(ho:PE X o (lE X to))(ha:PA X (e::es) (lA X ts))(hbase:Yca o (mthN m) X.env (eval o X.env)=eval o X.env)
  (hfew:((backTo cpos (Yar (e::es) X.env)).all (fun x=>!x.1) && (backToKw cpos (YeZ [] X.env)).all (fun x=>x.1.isSome)
   && decide ((e::es).length + ([]:List Keyword).length + (if ([]:List Keyword).isEmpty then 0 else 1) < 30))=true)
  (hline:(apos.endLine == cpos.line)=true) (hs:Yar (e::es) X.env=(false,eval e X.env)::Yar es X.env) (hplain:(backTo cpos (Yar es X.env)).any (·.1)=false) :
  PE X (.Call (.Attribute o (mthN m) apos) (e::es) [] cpos) (lE X fun ς G Q E=>to ς G (fun x G1=>match mtU m x G1 with | some _=>ts ς G1 (fun us G2=>jas m x us G2 Q) E | none=>False) E):=by
 intro pins s σ H Q0 I h
 obtain ⟨ς,G,Q,E,hς,hG,h,lv,lx⟩:=h
 refine Yea hbase hfew hline rfl (thn (ho pins s σ H (fun v H1=>∃ x G1 T id,RU X.K H1 x v/\HR X.K H1 G1/\Fr H G H1 G1/\mtU m x G1=some (T,id)/\ts ς G1 (fun us G2=>jas m x us G2 Q) E) I
  ⟨ς,G,_,E,hς,hG,h,fun x v G1 H1 rx hG1 f1 h1=>?_,lx⟩) fun v s1 ⟨xv,H1,I1,r1,x,G1,T,id,rx,hG1,f1,em,h1⟩=>?_)
 ·dsimp only at h1
  split at h1
  ·rename_i p ep
   exact ⟨x,G1,p.1,p.2,rx,hG1,f1,ep,h1⟩
  ·exact h1.elim
 ·obtain ⟨k,hty,r,hr1,hr2⟩:=hm x G1 T id em
  obtain ⟨t1,t2⟩:=jfM I1 r1 (hty xv H1 rx hG1)
  refine ⟨T,id,k.pa,k.sl,k.ty,t1,t2,?_⟩
  have hA:=ha cpos pins s1 σ H1 (fun vs H2=>∃ us G2,RUs X.K H2 us vs/\HR X.K H2 G2/\Fr H1 G1 H2 G2/\jas m x us G2 Q) I1 ⟨ς,G1,_,E,hς.ts (f1.ts hG),hG1,h1,fun us vs G2 H2 rs hG2 f2 h2=>⟨us,G2,rs,hG2,f2,h2⟩,lx.fr f1⟩
  rw [hs] at hA ⊢
  refine Ydd (by show (false || (backTo cpos (Yar es X.env)).any (·.1))=false; rw [hplain] <;> rfl) (Ye6 ?_)
  exact thn hA fun us s2 ⟨vs,H2,I2,r2,ws,G2,rs,hG2,f2,h2⟩=>hr1 pins s2 σ H2 xv vs v us Q0 I2 r1 r2 (hr2 ws xv vs G2 H2 Q Q0 (rx.ts (f2.ts hG1)) rs hG2 h2 (lv.fr (f1.trans f2)))
theorem jiZ (hm:MtU X m)(ho:PE X o (lE X to))(hbase:Yca o (mthN m) X.env (eval o X.env)=eval o X.env)(hline:(apos.endLine == cpos.line)=true) :
  PE X (.Call (.Attribute o (mthN m) apos) [] [] cpos) (lE X fun ς G Q E=>to ς G (fun x G1=>match mtU m x G1 with | some _=>jas m x [] G1 Q | none=>False) E):=by
 intro pins s σ H Q0 I h
 obtain ⟨ς,G,Q,E,hς,hG,h,lv,lx⟩:=h
 refine PySem.wpAny_Call_method0_late hbase hline (thn (ho pins s σ H (fun v H1=>∃ x G1 T id,RU X.K H1 x v/\HR X.K H1 G1/\Fr H G H1 G1/\mtU m x G1=some (T,id)/\jas m x [] G1 Q) I
  ⟨ς,G,_,E,hς,hG,h,fun x v G1 H1 rx hG1 f1 h1=>?_,lx⟩) fun v s1 ⟨xv,H1,I1,r1,x,G1,T,id,rx,hG1,f1,em,h1⟩=>?_)
 ·dsimp only at h1
  split at h1
  ·rename_i p ep
   exact ⟨x,G1,p.1,p.2,rx,hG1,f1,ep,h1⟩
  ·exact h1.elim
 ·obtain ⟨k,hty,r,hr1,hr2⟩:=hm x G1 T id em
  obtain ⟨t1,t2⟩:=jfM I1 r1 (hty xv H1 rx hG1)
  exact ⟨T,id,k.pa,k.sl,k.ty,t1,t2,Ydd rfl (PySem.evalArgs_none (hr1 pins s1 σ H1 xv [] v [] Q0 I1 r1 .nil (hr2 [] xv [] G1 H1 Q Q0 rx rfl hG1 h1 (lv.fr f1))))⟩
end
end Z

namespace L2
open PySem PySem.Spec PyProof.Rows
set_option maxHeartbeats 4000000
section
variable {X:Cx}{tg:Expr}
noncomputable def iSeq (K:Yaa)(tl:TE):TI:=fun σ H R=>tl σ H fun x H1=>∃ a,x=.ref a/\(((∃ xs,SqL K H1 a xs)/\R (Itl K a) H1)\/((∃ xs,SqT K H1 a xs)/\R (Itt K a) H1))
theorem jlf {l:Expr}{tl:TE}(hl:PE X l tl):PI X tg l (iSeq X.K tl):=by
 intro pins s σ H R I h
 refine thn (hl pins s σ H _ I h) fun v s1 ⟨x,H1,I1,r1,q1⟩=>?_
 obtain ⟨a,e,⟨⟨xs,hq⟩,q⟩ | ⟨⟨xs,hq⟩,q⟩⟩:=q1
 ·subst e
  cases r1
  obtain ⟨its,rv,p,hz⟩:=I1.list hq
  refine Yex p.isList ?_
  refine ⟨s1.heap.objs.size,[s1.heap.objs.size],_,_,H1,rfl,I1.kept (t':=s1.toks) fun b o e=>Yad _ e,jfN a _,⟨_,Yav _ rfl,rfl,rfl⟩,fun b hb=>?_,q⟩
  have e:b=s1.heap.objs.size:=by simpa using hb
  subst e
  exact I1.fpOk (Yaf _) (I1.hok.fresh (Yaf _))
 ·subst e
  cases r1
  obtain ⟨its,rv,p,hz⟩:=I1.tuple hq
  refine wpAny_pyIter_tuple (show s1.heap.IsTuple a its.toArray from p) ?_
  refine ⟨s1.heap.objs.size,[s1.heap.objs.size],_,_,H1,rfl,I1.kept (t':=s1.toks) fun b o e=>Yad _ e,jfn a _,⟨_,Yav _ rfl,rfl,rfl⟩,fun b hb=>?_,q⟩
  have e:b=s1.heap.objs.size:=by simpa using hb
  subst e
  exact I1.fpOk (Yaf _) (I1.hok.fresh (Yaf _))
theorem PI.imp {iter:Expr}{t t':TI}(h:PI X tg iter t)(i:∀ σ H R,t' σ H R->t σ H R):PI X tg iter t':=fun pins s σ H R I q=>h pins s σ H R I (i σ H R q)
theorem PG.imp {target:Expr}{t t':TG}(h:PG X target t)(i:∀ v σ H Q,t' v σ H Q->t v σ H Q):PG X target t':=fun pins s σ H v u Q I r q=>h pins s σ H v u Q I r (i v σ H Q q)
theorem PGs.imp {ts:List Expr}{t t':TGs}(h:PGs X ts t)(i:∀ v σ H Q,t' v σ H Q->t v σ H Q):PGs X ts t':=fun pins s σ H v u Q I r q=>h pins s σ H v u Q I r (i v σ H Q q)
theorem PIfs.imp {ifs:List Expr}{t t':TT}(h:PIfs X ifs t)(i:∀ σ H Q,t' σ H Q->t σ H Q):PIfs X ifs t':=fun pins s σ H Q I q=>h pins s σ H Q I (i σ H Q q)
end
end L2
namespace Z
open PySem L2
set_option maxHeartbeats 4000000
noncomputable abbrev UI:=Sg->Gp->(List U->(Gp->Prop)->Gp->Prop)->KX->Prop
noncomputable def jeG (K:Yaa)(J:L2.It)(H:Hp)(G:Gp)(xs:List U)(ok:Gp->Prop):Prop:=∀ i H' G',TS H H'->HR K H' G'->ok G'->
 (∀ u,xs[i]?=some u->J.go i H'/\∀ v H'',J.yld i H' v H''->RU K H'' u v/\HR K H'' G'/\Fr H' G' H'' G')/\(i=xs.length->J.stop i H')
theorem jeG.mono {K:Yaa}{J:L2.It}{H H2:Hp}{G G2:Gp}{xs:List U}{ok:Gp->Prop}(h:jeG K J H G xs ok)(t:TS H H2):jeG K J H2 G2 xs ok:=fun i H' G' t'=>h i H' G' (t.trans t')
section
variable (X:Cx)
noncomputable def lI (t:UI):TI:=fun σ H R=>∃ ς G Q E,SR X.K H ς σ/\HR X.K H G/\t ς G Q E/\(∀ xs ok G' H' J,HR X.K H' G'->Fr H G H' G'->jeG X.K J H' G' xs ok->Q xs ok G'->R J H')/\LX X σ H G E
noncomputable def lG (K:Yaa)(t:U->Sg->(Sg->Prop)->Prop):TG:=fun v σ H Q0=>∃ u ς k,RU K H u v/\SR K H ς σ/\t u ς k/\∀ ς' σ',SR K H ς' σ'->k ς'->Q0 σ' H
noncomputable def lGs (K:Yaa)(t:List U->Sg->(Sg->Prop)->Prop):TGs:=fun vs σ H Q0=>∃ us ς k,RUs K H us vs/\SR K H ς σ/\t us ς k/\∀ ς' σ',SR K H ς' σ'->k ς'->Q0 σ' H
end
section
variable {X:Cx}{tg:Expr}{pos:Pos}{te ta tb:UE}
theorem u_ie {l:Expr}(hl:PE X l (lE X te)):PI X tg l (lI X fun ς G Q E=>te ς G (fun x G1=>itU x G1 fun xs ok=>Q xs ok G1) E):=by
 refine (jlf hl).imp fun σ H R h=>?_
 obtain ⟨ς,G,Q,E,hς,hG,h,lv,lx⟩:=h
 refine ⟨ς,G,_,E,hς,hG,h,fun x v G1 H1 rx hG1 f1 h1=>?_,lx⟩
 dsimp only at h1
 unfold itU at h1
 split at h1
 ·obtain ⟨a,vs,rfl,ea,rs⟩:=rx
  refine ⟨a,rfl,.inr ⟨⟨vs,.of ea⟩,lv _ _ _ H1 _ hG1 f1 (fun i H' G' f hr _=>?_) h1⟩⟩
  have e':H' a=some (.tup vs):=f a _ ea
  refine ⟨fun u eu=>?_,fun e=>⟨vs,.of e',by rw [e,rs.length]; exact Yaf _⟩⟩
  obtain ⟨w,ew,rw'⟩:=rs.get eu
  refine ⟨⟨vs,w,.of e',ew⟩,fun v H'' y=>?_⟩
  obtain ⟨rfl,y⟩:=y
  have:=y vs (.of e')
  rw [ew] at this
  cases this
  exact ⟨rw'.ts f,hr,Fr.refl _ _⟩
 ·cases rx
  rename_i a
  split at h1
  ·rename_i us eu
   obtain ⟨vs,sq,rs⟩:=hG1.ls eu
   refine ⟨_,rfl,.inl ⟨⟨vs,sq⟩,lv _ _ _ H1 _ hG1 f1 (fun i H' G' f hr ok=>?_) h1⟩⟩
   obtain ⟨vs',sq',rs'⟩:=hr.ls ok
   refine ⟨fun u eu=>?_,fun e=>⟨vs',sq',by rw [e,rs'.length]; exact Yaf _⟩⟩
   obtain ⟨w,ew,rw'⟩:=rs'.get eu
   refine ⟨⟨vs',w,sq',ew⟩,fun v H'' y=>?_⟩
   obtain ⟨rfl,y⟩:=y
   have:=y vs' sq'
   rw [ew] at this
   cases this
   exact ⟨rw',hr,Fr.refl _ _⟩
  ·exact h1.elim
 ·exact h1.elim
theorem jeT {K:Yaa}{H:Hp}{G:Gp}(lo:Int)(n:Nat):jeG K (Itr lo n) H G (rngU lo n) fun _=>True:=by
 intro i H' G' f hr _
 have hl:(rngU lo n).length=n:=by simp [rngU]
 refine ⟨fun u eu=>?_,fun e=>by rw [hl] at e; exact Yeb e.symm⟩
 have hi:i < n:=by have:=(List.getElem?_eq_some_iff.mp eu).1; omega
 refine ⟨hi,fun v H'' y=>?_⟩
 obtain ⟨rfl,rfl⟩:=y
 have:(rngU lo n)[i]?=some (.int (lo + i)):=by simp [rngU,Yay,Yfv hi]
 rw [this] at eu
 cases eu
 exact ⟨rfl,hr,Fr.refl _ _⟩
theorem u_r1 {a:Expr}{p:Pos}(hg:Gl X "range")(hm:X.mg "range" = none)(ha:PE X a (lE X ta))(hs:Yar [a] X.env=[(false,eval a X.env)]):PI X tg (.Call (.Name "range" p) [a] [] pos) (lI X fun ς G Q E=>ta ς G (fun x G1=>match x with
   | .int j=>-(2 ^ 62)<=j/\j < 2 ^ 62/\Q (rngU 0 j.toNat) (fun _=>True) G1
   | _=>False) E):=by
 refine (jgd hg hm (jbu ha jea hs) hs).imp fun σ H R h=>?_
 obtain ⟨ς,G,Q,E,hς,hG,h,lv,lx⟩:=h
 refine ⟨ς,G,fun us G1=>match us with | [x]=>(match x with | .int j=>-(2 ^ 62)<=j/\j < 2 ^ 62/\Q (rngU 0 j.toNat) (fun _=>True) G1 | _=>False) | _=>False,E,hς,hG,h,fun us vs G1 H1 rs hG1 f1 h1=>?_,lx⟩
 dsimp only at h1
 split at h1
 ·obtain ⟨v,rfl,r⟩:=rs.one
  split at h1
  ·cases r
   exact ⟨_,rfl,h1.1,h1.2.1,lv _ _ G1 H1 _ hG1 f1 (jeT 0 _) h1.2.2⟩
  ·exact h1.elim
 ·exact h1.elim
theorem u_r2 {a b:Expr}{p:Pos}(hg:Gl X "range")(hm:X.mg "range" = none)(ha:PE X a (lE X ta))(hb:PE X b (lE X tb))(hs:Yar [a,b] X.env=[(false,eval a X.env),(false,eval b X.env)])(hs2:Yar [b] X.env=[(false,eval b X.env)]) :
  PI X tg (.Call (.Name "range" p) [a,b] [] pos) (lI X fun ς G Q E=>ta ς G (fun x G1=>tb ς G1 (fun y G2=>match x,y with
   | .int i,.int j=>-(2 ^ 62)<=i/\i < 2 ^ 62/\-(2 ^ 62)<=j/\j < 2 ^ 62/\Q (rngU i (j - i).toNat) (fun _=>True) G2
   | _,_=>False) E) E):=by
 refine (jgc hg hm (jbu ha (jbu hb jea hs2) (by rw [hs,hs2])) hs hs2).imp fun σ H R h=>?_
 obtain ⟨ς,G,Q,E,hς,hG,h,lv,lx⟩:=h
 refine ⟨ς,G,fun us G1=>match us with | [x,y]=>(match x,y with | .int i,.int j=>-(2 ^ 62)<=i/\i < 2 ^ 62/\-(2 ^ 62)<=j/\j < 2 ^ 62/\Q (rngU i (j - i).toNat) (fun _=>True) G1 | _,_=>False) | _=>False,E,hς,hG,h,fun us vs G1 H1 rs hG1 f1 h1=>?_,lx⟩
 dsimp only at h1
 split at h1
 ·obtain ⟨v,v',rfl,r,r'⟩:=rs.two
  split at h1
  ·cases r; cases r'
   exact ⟨_,_,rfl,⟨h1.1,h1.2.1,h1.2.2.1,h1.2.2.2.1⟩,lv _ _ G1 H1 _ hG1 f1 (jeT _ _) h1.2.2.2.2⟩
  ·exact h1.elim
 ·exact h1.elim
theorem jdj:∀ {n i:Nat} {xs:List U} {u:U},(jdk n xs)[i]?=some u->∃ x,xs[i]?=some x/\u=.tup [.int ((n + i:Nat):Int),x]
 | _,_,[],_,h=>by simp [jdk] at h
 | n,0,x::xs,_,h=>by
  simp [jdk] at h
  exact ⟨x,rfl,h.symm⟩
 | n,i + 1,_::xs,_,h=>by
  obtain ⟨x,e1,e2⟩:=jdj (n:=n + 1) (i:=i) (xs:=xs) (by simpa [jdk] using h)
  exact ⟨x,by simpa using e1,by rw [e2]; congr 3; omega⟩
theorem jdi:∀ (n:Nat) (xs:List U),(jdk n xs).length=xs.length
 | _,[]=>rfl
 | n,_::xs=>by simp [jdk,jdi (n + 1) xs]
theorem jkE {l:Expr}{p tpos:Pos}{elts:List Expr}{x1}(hg:Gl X "enumerate")(hm:X.mg "enumerate" = none)(ha:PE X l (lE X ta))(hs:Yar [l] X.env=[(false,eval l X.env)]) :
  PI X (.Tuple elts x1 tpos) (.Call (.Name "enumerate" p) [l] [] pos) (lI X fun ς G Q E=>ta ς G (fun x G1=>enI x G1 fun xs ok=>Q xs ok G1) E):=by
 refine (jhL hg hm (jbu ha jea hs) hs).imp fun σ H R h=>?_
 obtain ⟨ς,G,Q,E,hς,hG,h,lv,lx⟩:=h
 refine ⟨ς,G,fun us G1=>match us with | [x]=>enI x G1 fun xs ok=>Q xs ok G1 | _=>False,E,hς,hG,h,fun us vs G1 H1 rs hG1 f1 h1=>?_,lx⟩
 dsimp only at h1
 split at h1
 ·obtain ⟨v,rfl,r⟩:=rs.one
  unfold enI at h1
  split at h1
  ·cases r
   split at h1
   ·rename_i us eu
    obtain ⟨vs,sq,rs⟩:=hG1.ls eu
    refine ⟨_,rfl,⟨vs,sq⟩,lv _ _ _ H1 _ hG1 f1 (fun i H' G' f hr ok=>?_) h1⟩
    obtain ⟨vs',sq',rr⟩:=hr.ls ok
    refine ⟨fun u eu=>?_,fun e=>⟨vs',sq',by rw [e,jdi,rr.length]⟩⟩
    obtain ⟨x,ex,rfl⟩:=jdj eu
    obtain ⟨w,ew,rw'⟩:=rr.get ex
    refine ⟨⟨vs',w,sq',ew⟩,fun v H'' y=>?_⟩
    obtain ⟨z,q,hz,rfl,hn,rfl⟩:=y
    have hz:=hz vs' sq'
    rw [ew] at hz
    cases hz
    refine ⟨⟨q,_,rfl,jag,⟨_,_,rfl,by rw [Ycx]; rfl,⟨_,_,rfl,rw'.ts (TS.new hn),rfl⟩⟩⟩,hr.newT hn,Fr.new hn⟩
   ·exact h1.elim
  ·exact h1.elim
 ·exact h1.elim
theorem u_is {l:Expr}(hl:PE X l (lE X te)):PI X tg l (lI X fun ς G Q E=>te ς G (fun x G1=>sgU x fun xs=>Q xs (fun _=>True) G1) E):=by
 refine (jle hl).imp fun σ H R h=>?_
 obtain ⟨ς,G,Q,E,hς,hG,h,lv,lx⟩:=h
 refine ⟨ς,G,_,E,hς,hG,h,fun x v G1 H1 rx hG1 f1 h1=>?_,lx⟩
 cases x with
 | str z=>
  cases rx
  obtain ⟨ha,h1⟩:=h1
  refine ⟨z,rfl,ha,lv _ _ _ H1 _ hG1 f1 (fun i H' G' f hr _=>⟨fun u eu=>?_,fun e=>?_⟩) h1⟩
  ·rw [Yay] at eu
   cases ec:z.cps.toList[i]? with
   | none=>rw [ec] at eu; cases eu
   | some c=>
    rw [ec] at eu
    cases eu
    have ec':z.cps[i]?=some c:=by simpa using ec
    refine ⟨(Array.getElem?_eq_some_iff.mp ec').1,fun v H'' y=>?_⟩
    obtain ⟨rfl,d,ed,rfl⟩:=y
    rw [ec'] at ed
    cases ed
    exact ⟨rfl,hr,Fr.refl _ _⟩
  ·rw [e]; simp [Its]
 | _=>exact h1.elim
theorem SR.set {K:Yaa}{H:Hp}{ς:Sg}{σ:St}{u:U}{v:V}(h:SR K H ς σ)(r:RU K H u v)(i:Nat):SR K H (ς.set i (some u)) (σ.set i (some v)):=by
 refine ⟨by simp [h.1],fun j w e=>?_⟩
 by_cases hj:j=i
 ·subst hj
  by_cases hl:j < ς.length
  ·rw [Ybf hl] at e
   cases e
   exact ⟨v,Ybf (by rw [<- h.1]; exact hl),r⟩
  ·rw [YbS (by simp; omega)] at e
   cases e
 ·rw [YaS (Ne.symm hj)] at e ⊢
  exact h.2 j w e
theorem u_tn {i:Nat}{x:Str}(hN:X.N.Nodup)(hi:X.N[i]?=some x)(hx:Loc X.env.scope x)(hf:X.fn x=true\/X.env.scope.names.lookup x=some .local):PG X (.Name x pos) (lG X.K (tgU (.n i))):=by
 refine (jeg hN hi hx hf).imp fun v σ H Q h=>?_
 obtain ⟨u,ς,k,r,hς,h,q⟩:=h
 exact q _ _ (hς.set r i) h
theorem u_tt {es:List Expr}{k n:Nat}{ts:Tgs}(hc:X.calm=true)(h:PGs X es (lGs X.K (tgsU ts)))(hn:(YaY es X.env).length=n)(hst:(YaY es X.env).findIdx? (·.1)=none)(hl:∀ us ς k,tgsU ts us ς k->us.length=n) :
  PG X (.Tuple es k pos) (lG X.K (tgU (.t ts))):=by
 refine (jlg hc h hn hst).imp fun v σ H Q h=>?_
 obtain ⟨u,ς,k,r,hς,h,q⟩:=h
 cases u with
 | tup us=>
  obtain ⟨a,vs,rfl,e,rs⟩:=r
  have h':tgsU ts us ς k:=h
  exact ⟨a,vs,rfl,.of e,by rw [<- rs.length]; exact hl _ _ _ h',us,ς,k,rs,hς,h',q⟩
 | _=>exact h.elim
theorem jm1:PGs X [] (lGs X.K (tgsU .nil)):=by
 refine jjw.imp fun vs σ H Q h=>?_
 obtain ⟨us,ς,k,r,hς,h,q⟩:=h
 obtain ⟨rfl,h⟩:=h
 cases r
 exact ⟨rfl,q _ _ hς h⟩
theorem jm2 {e:Expr}{es:List Expr}{t:Tg}{ts:Tgs}(h1:PG X e (lG X.K (tgU t)))(h2:PGs X es (lGs X.K (tgsU ts)))(hs:(YaY (e::es) X.env).map (·.2)=assign e X.env::(YaY es X.env).map (·.2)) :
  PGs X (e::es) (lGs X.K (tgsU (.cons t ts))):=by
 refine (jhM h1 h2 hs).imp fun vs σ H Q h=>?_
 obtain ⟨us,ς,k,r,hς,h,q⟩:=h
 cases us with
 | nil=>exact h.elim
 | cons u us=>
  obtain ⟨v,vr,rfl,r1,rs⟩:=r
  exact ⟨v,vr,rfl,u,ς,_,r1,hς,h,fun ς' σ' hs' h'=>⟨us,ς',k,rs,hs',h',q⟩⟩
end
theorem je9 {K:Yaa}{H:Hp}:∀ ns:List Int,RUs K H (ns.map .int) (ns.map V.int)
 | []=>rfl
 | _::r=>⟨_,_,rfl,rfl,je9 r⟩
theorem jf5 {κ:Type}{K:Yaa}{H:Hp}:∀ {kvs:List (κ×U)} {l:List (κ×V)},RKs K H kvs l->kvs.map (·.1)=l.map (·.1)
 | [],_,h=>by cases h; rfl
 | (k,u)::r,_,h=>by
  obtain ⟨v,l',rfl,_,rs⟩:=h
  rw [Yas,Yas,jf5 rs]
noncomputable def lE0 (K:Yaa)(t:UE):TE:=fun τ H Q0=>∃ ς G Q,SR K H ς τ/\HR K H G/\t ς G Q (fun _ _=>False)/\∀ w v G' H',RU K H' w v->HR K H' G'->Fr H G H' G'->Q w G'->Q0 v H'
noncomputable def lT0 (K:Yaa)(t:Sg->Gp->(Bool->Gp->Prop)->Prop):TT:=fun τ H Q0=>∃ ς G Q,SR K H ς τ/\HR K H G/\t ς G Q/\∀ b G' H',HR K H' G'->Fr H G H' G'->Q b G'->Q0 b H'
theorem LX.no {X:Cx}{σ:St}{H:Hp}{G:Gp}:LX X σ H G fun _ _=>False:=fun _ _ _ _ _ _ _ _ _ _ h=>h.elim
theorem lE0.of {X:Cx}{e:Expr}{t:UE}(h:PE X e (lE X t)):PE X e (lE0 X.K t):=h.imp fun σ H Q0 ⟨ς,G,Q,h1,h2,h3,h4⟩=>⟨ς,G,Q,_,h1,h2,h3,h4,LX.no⟩
theorem lT0.of {X:Cx}{e:Expr}{t:UT}(h:PT X e (lT X t)):PT X e (lT0 X.K fun ς G Q=>t ς G Q fun _ _=>False):=h.imp fun σ H Q0 ⟨ς,G,Q,h1,h2,h3,h4⟩=>⟨ς,G,Q,_,h1,h2,h3,h4,LX.no⟩
mutual
noncomputable def tgS:Tg->List Nat
 | .n i=>[i]
 | .t ts=>tgsS ts
noncomputable def tgsS:Tgs->List Nat
 | .nil=>[]
 | .cons t ts=>tgS t++tgsS ts
end
noncomputable def Ext (ς0 ς:Sg):Prop:=ς0.length=ς.length/\∀ (j:Nat) (w:U),ς0[j]?=some (some w)->ς[j]?=some (some w)
mutual
theorem jil {ς0:Sg}:∀ {t:Tg} {u:U} {ς:Sg} {k:Sg->Prop},(∀ i∈tgS t,∀ w,ς0[i]?≠some (some w))->Ext ς0 ς->tgU t u ς k->tgU t u ς fun ς'=>k ς'/\Ext ς0 ς'
 | .n i,u,ς,k,hf,he,h=>by
  refine ⟨h,by simp [he.1],fun j w e=>?_⟩
  have hj:j≠i:=fun z=>hf i (by simp [tgS]) w (z ▸ e)
  rw [YaS (Ne.symm hj)]
  exact he.2 j w e
 | .t ts,u,ς,k,hf,he,h=>by
  cases u with
  | tup us=>exact jfO (ts:=ts) (us:=us) (fun i hi=>hf i hi) he h
  | _=>exact h
theorem jfO {ς0:Sg}:∀ {ts:Tgs} {us:List U} {ς:Sg} {k:Sg->Prop},(∀ i∈tgsS ts,∀ w,ς0[i]?≠some (some w))->Ext ς0 ς->tgsU ts us ς k->tgsU ts us ς fun ς'=>k ς'/\Ext ς0 ς'
 | .nil,us,ς,k,_,he,h=>⟨h.1,h.2,he⟩
 | .cons t ts,us,ς,k,hf,he,h=>by
  cases us with
  | nil=>exact h
  | cons u r=>
   have:=jil (t:=t) (u:=u) (fun i hi=>hf i (by simp [tgsS,hi])) he h
   refine jb9 this fun ς' ⟨h1,h2⟩=>jfO (fun i hi=>hf i (by simp [tgsS,hi])) h2 h1
theorem jb9:∀ {t:Tg} {u:U} {ς:Sg} {k k':Sg->Prop},tgU t u ς k->(∀ ς,k ς->k' ς)->tgU t u ς k'
 | .n _,_,_,_,_,h,i=>i _ h
 | .t ts,u,ς,_,_,h,i=>by
  cases u with
  | tup us=>exact jeN (ts:=ts) (us:=us) h i
  | _=>exact h
theorem jeN:∀ {ts:Tgs} {us:List U} {ς:Sg} {k k':Sg->Prop},tgsU ts us ς k->(∀ ς,k ς->k' ς)->tgsU ts us ς k'
 | .nil,_,_,_,_,h,i=>⟨h.1,i _ h.2⟩
 | .cons t ts,us,ς,_,_,h,i=>by
  cases us with
  | nil=>exact h
  | cons u r=>exact jb9 (t:=t) h fun ς' h'=>jeN h' i
end
theorem SR.ext {K:Yaa}{H:Hp}{ς0 ς:Sg}{σ:St}(h:SR K H ς σ)(e:Ext ς0 ς):SR K H ς0 σ:=⟨e.1.trans h.1,fun i u q=>h.2 i u (e.2 i u q)⟩
theorem SR.pick {K:Yaa}{H:Hp}{ς:Sg}{σ:St}(h:SR K H ς σ)(pick:List (Option Nat)):SR K H (jbn pick ς) (pick.map fun o=>o.bind fun j=>(σ[j]?).join):=by
 refine ⟨by simp [jbn],fun i u e=>?_⟩
 unfold jbn at e
 rw [Yay] at e ⊢
 cases q:pick[i]? with
 | none=>rw [q] at e; cases e
 | some o=>
  rw [q] at e
  cases o with
  | none=>simp at e
  | some j=>
   simp only [Option.map_some,Option.bind_some,Option.some.injEq] at e ⊢
   have e':ς[j]?=some (some u):=by
    cases z:ς[j]? with
    | none=>rw [z] at e; cases e
    | some w=>rw [z] at e; simp at e; rw [e]
   obtain ⟨v,ev,r⟩:=h.2 j u e'
   exact ⟨v,by rw [ev]; rfl,r⟩
section
variable {K:Yaa}{H:Hp}{G:Gp}
theorem HR.newH (h:HR K H G){p:Addr}{o:HO}(e:H p=none):HR K (upd H p o) G:=⟨fun a ob q=>by
 have m:=h a ob q
 obtain ⟨ho,e2⟩:=m.there
 exact m.keep (jac (jai e2 e)) (TS.new e),h.tab.new e⟩
theorem TS.hid {p:Addr}{ys:List V}{o:HO}(e:H p=some (.lst ys)):TS H (upd H p o):=⟨fun a xs h=>by
 have:a≠p:=fun z=>by subst z; rw [e] at h; cases h
 rw [jac this]; exact h,fun a ob h=>by
 have:a≠p:=fun z=>by subst z; rw [e] at h; cases h
 rw [jac this]; exact h⟩
theorem HR.hid (h:HR K H G){p:Addr}{ys:List V}{o:HO}(e:H p=some (.lst ys))(g:G p=none):HR K (upd H p o) G:=⟨fun a ob q=>by
 have:a≠p:=fun z=>by subst z; rw [g] at q; cases q
 exact (h a ob q).keep (jac this) (TS.hid e),h.tab.upd (fun ps z=>by rw [e] at z; cases z) fun ob z=>by rw [e] at z; cases z⟩
theorem HR.know (h:HR K H G){p:Addr}{ys:List V}{us:List U}(e:H p=some (.lst ys))(r:RUs K H us ys):HR K H (gup G p (.lst us)):=⟨fun a ob q=>by
 by_cases z:a=p
 ·subst z
  rw [jar] at q
  cases q
  exact ⟨ys,e,r⟩
 ·rw [ja9 z] at q
  exact h a ob q,h.tab⟩
end
section
variable {X:Cx}{pick:List (Option Nat)}{ti:UI}{t:Tg}{tc:Sg->Gp->(Bool->Gp->Prop)->Prop}{te:UE}{σ:St}{H:Hp}{Q0:VK}
noncomputable abbrev lcD (pick:List (Option Nat))(ti:UI)(t:Tg)(tc:Sg->Gp->(Bool->Gp->Prop)->Prop)(te:UE):UE:=fun ς G Q E=>ti ς G (fun xs ok G1=>xs.length<=Yae/\jdm ok (fun x G2 k=>tgU t x (jbn pick ς) fun τ=>tc τ G2 (fun b G3=>if b=true then te τ G3 (fun u G4=>k (some u) G4) (fun _ _=>False) else k none G3)) xs [] G1
   fun us G5=>newO G5 (.lst us) Q) E
structure FrX (D:Addr)(H:Hp)(G:Gp)(H':Hp)(G':Gp):Prop where
 go:∀ a o,a≠D->H a=some o->G a=none->(nt:noTb o=true:=by rfl)->H' a=some o/\G' a=none
instance {D:Addr} {H H':Hp} {G G':Gp}:CoeFun (FrX D H G H' G') fun _=>∀ a o,a≠D->H a=some o->G a=none->(nt:noTb o=true:=by rfl)->H' a=some o/\G' a=none:=⟨@FrX.go D H G H' G'⟩
theorem jlN {xs:List U}{ok:Gp->Prop}{G1:Gp}{H1:Hp}{J:L2.It}{τu:Sg}{τ0:St}{D:Addr}{acc0:List U}{ys0:List V}{kk:List U->Gp->Prop}{QQ:St->List V->Hp->Prop}
  (free:∀ i∈tgS t,∀ w,τu[i]?≠some (some w)) (wk:jeG X.K J H1 G1 xs ok) (hG1:HR X.K H1 G1) (eD1:H1 D=some (.lst ys0)) (gD1:G1 D=none) (ra1:RUs X.K H1 acc0 ys0) (sr1:SR X.K H1 τu τ0) (hl:acc0.length + xs.length<=Yae)
  (h1:jdm ok (fun x G2 k=>tgU t x τu fun τ=>tc τ G2 (fun b G3=>if b=true then te τ G3 (fun u G4=>k (some u) G4) (fun _ _=>False) else k none G3)) xs acc0 G1 kk)
  (fin:∀ τ' acc' ys' G' H',SR X.K H' τu τ'->HR X.K H' G'->FrX D H1 G1 H' G'->H' D=some (.lst ys')->G' D=none->RUs X.K H' acc' ys'->kk acc' G'->QQ τ' ys' H') :
  jhl J (lG X.K (tgU t)) (lT0 X.K tc) (emA (lE0 X.K te) D) QQ τ0 ys0 H1:=by
 refine ⟨fun i m τ ys H'=>m=xs.length - i/\i<=xs.length/\∃ acc G',SR X.K H' τu τ/\HR X.K H' G'/\FrX D H1 G1 H' G'/\H' D=some (.lst ys)/\G' D=none/\RUs X.K H' acc ys/\acc.length<=acc0.length + i/\
  jdm ok (fun x G2 k=>tgU t x τu fun τ=>tc τ G2 (fun b G3=>if b=true then te τ G3 (fun u G4=>k (some u) G4) (fun _ _=>False) else k none G3)) (xs.drop i) acc G' kk,⟨xs.length,by simp,Ybn _,acc0,G1,sr1,hG1,⟨fun _ _ _ a b _=>⟨a,b⟩⟩,eD1,gD1,ra1,by omega,by simpa using h1⟩,?_⟩
 rintro i m τ ys H' ⟨rfl,hi,acc,G',sr,hr,f,eD,gD',ra,hal,hc⟩
 have ts:TS H1 H':=⟨fun a zs e=>(f a _ (fun z=>by rw [z,eD1] at e; cases e) e (hG1.tupNone e)).1,fun a zs e=>(f a _ (fun z=>by rw [z,eD1] at e; cases e) e (hG1.codNone e)).1⟩
 by_cases hlt:i < xs.length
 ·rw [Ybg hlt] at hc
  obtain ⟨hok,hb⟩:=hc
  obtain ⟨w1,_⟩:=wk i H' G' ts hr hok
  obtain ⟨go,yl⟩:=w1 xs[i] (by simp [hlt])
  refine .inr ⟨go,fun v H'' y=>?_⟩
  obtain ⟨rx,hr2,f2⟩:=yl v H'' y
  have sr2:=sr.ts (f2.ts hr)
  refine ⟨xs[i],τu,_,rx,sr2,jil free ⟨rfl,fun _ _ e=>e⟩ hb,fun τv σ' hs' ⟨hk,he⟩=>?_⟩
  refine ⟨τv,G',_,hs',hr2,hk,fun b G3 H3 hr3 f3 h3=>?_⟩
  have f13:FrX D H1 G1 H3 G3:=⟨fun a o n h g nt=>let ⟨a1,a2⟩:=f a o n h g nt; let ⟨b1,b2⟩:=f2 a o a1 a2 nt; f3 a o b1 b2 nt⟩
  have hs3:SR X.K H3 τu σ':=(hs'.ext he).ts (f3.ts hr2)
  obtain ⟨eD2,gD2⟩:=f2 D _ eD gD'
  obtain ⟨eD3,gD3⟩:=f3 D _ eD2 gD2
  have ra3:=(ra.ts (f2.ts hr)).ts (f3.ts hr2)
  cases b with
  | false=>
   rw [if_neg Yak] at h3
   dsimp only
   rw [if_neg Yak]
   exact ⟨xs.length - (i + 1),by omega,rfl,hlt,acc,G3,hs3,hr3,f13,eD3,gD3,ra3,by omega,h3⟩
  | true=>
   rw [if_pos rfl] at h3
   dsimp only
   rw [if_pos rfl]
   refine ⟨τv,G3,_,hs'.ts (f3.ts hr2),hr3,h3,fun u v G4 H4 ru hr4 f4 h4=>?_⟩
   obtain ⟨eD4,gD4⟩:=f4 D _ eD3 gD3
   have ra4:=ra3.ts (f4.ts hr3)
   have tsn:=TS.hid (o:=.lst (ys++[v])) eD4
   refine ⟨eD4,by rw [<- ra.length]; omega,xs.length - (i + 1),by omega,rfl,hlt,acc++[u],G4,(hs3.ts (f4.ts hr3)).ts tsn,hr4.hid eD4 gD4,?_,jag,gD4,(ra4.append (RUs.mk (us:=[]) (vs:=[]) ru rfl)).ts tsn,by simp; omega,h4⟩
   refine ⟨fun a o n ha ga nt=>?_⟩
   obtain ⟨x1,x2⟩:=f13 a o n ha ga nt
   obtain ⟨y1,y2⟩:=f4 a o x1 x2 nt
   exact ⟨by rw [jac n]; exact y1,y2⟩
 ·have e:i=xs.length:=by omega
  subst e
  rw [Yf9] at hc
  obtain ⟨hok,q⟩:=hc
  obtain ⟨_,w2⟩:=wk xs.length H' G' ts hr hok
  exact .inl ⟨w2 rfl,fin τ acc ys G' H' sr hr f eD gD' ra q⟩
theorem jgb {is:List Nat}(hp:is.all (fun i=>(pick[i]?).join.isNone)=true)(ς:Sg):∀ i∈is,∀ w,(jbn pick ς)[i]?≠some (some w):=fun i hi w e=>by
 have:=Yee.mp hp i hi
 unfold jbn at e
 rw [Yay] at e
 cases q:pick[i]? with
 | none=>rw [q] at e; cases e
 | some o=>
  rw [q] at e this
  cases o with
  | none=>simp at e
  | some j=>simp at this
theorem jiz (hp:(tgS t).all (fun i=>(pick[i]?).join.isNone)=true)(h:lE X (lcD pick ti t tc te) σ H Q0):tLc pick (lI X ti) (lG X.K (tgU t)) (lT0 X.K tc) (lE0 X.K te) σ H Q0:=by
 obtain ⟨ς,G,Q,E,hς,hG,h,lv,lx⟩:=h
 refine ⟨ς,G,_,E,hς,hG,h,fun xs ok G1 H1 J hG1 f1 wk h1=>?_,lx⟩
 obtain ⟨hl,h1⟩:=h1
 intro D hD
 refine jlN (acc0:=[]) (jgb hp ς) (wk.mono (TS.new hD)) (hG1.newH hD) jag (hG1.nope hD) rfl (((hς.ts (f1.ts hG)).ts (TS.new hD)).pick pick) (by simpa using hl) h1 fun τ' acc' ys' G' H' sr hr f eD gD' ra q=>?_
 refine lv (.loc D) (.ref D) _ H' rfl (hr.know eD ra) ?_ (q.at D gD')
 refine ⟨fun a o ha ga nt=>?_⟩
 obtain ⟨x1,x2⟩:=f1 a o ha ga nt
 obtain ⟨y1,y2⟩:=f a o (jai x1 hD) (by rw [jac (jai x1 hD)]; exact x1) x2 nt
 exact ⟨y1,by rw [ja9 (jai x1 hD)]; exact y2⟩
noncomputable def lI0 (K:Yaa)(t:UI):TI:=fun σ H R=>∃ ς G Q,SR K H ς σ/\HR K H G/\t ς G Q (fun _ _=>False)/\∀ xs ok G' H' J,HR K H' G'->Fr H G H' G'->jeG K J H' G' xs ok->Q xs ok G'->R J H'
mutual
theorem ji3 {is:List Nat}:∀ {t:Tg} {u:U} {ς:Sg} {k:Sg->Prop},(∀ i∈is,i∉tgS t)->(∀ i∈is,∀ w,ς[i]?≠some (some w))->tgU t u ς k->tgU t u ς fun ς'=>k ς'/\∀ i∈is,∀ w,ς'[i]?≠some (some w)
 | .n j,u,ς,k,hf,he,h=>by
  refine ⟨h,fun i hi w e=>?_⟩
  have hj:i≠j:=fun z=>hf i hi (by simp [tgS,z])
  rw [YaS (Ne.symm hj)] at e
  exact he i hi w e
 | .t ts,u,ς,k,hf,he,h=>by
  cases u with
  | tup us=>exact jeO (ts:=ts) (us:=us) (fun i hi=>hf i hi) he h
  | _=>exact h
theorem jeO {is:List Nat}:∀ {ts:Tgs} {us:List U} {ς:Sg} {k:Sg->Prop},(∀ i∈is,i∉tgsS ts)->(∀ i∈is,∀ w,ς[i]?≠some (some w))->tgsU ts us ς k->tgsU ts us ς fun ς'=>k ς'/\∀ i∈is,∀ w,ς'[i]?≠some (some w)
 | .nil,us,ς,k,_,he,h=>⟨h.1,h.2,he⟩
 | .cons t ts,us,ς,k,hf,he,h=>by
  cases us with
  | nil=>exact h
  | cons u r=>
   have:=ji3 (t:=t) (u:=u) (fun i hi z=>hf i hi (by simp [tgsS,z])) he h
   refine jb9 this fun ς' ⟨h1,h2⟩=>jeO (fun i hi z=>hf i hi (by simp [tgsS,z])) h2 h1
end
variable {tg iter elt:Expr}{ifs:List Expr}{pos:Pos}{N:List Str}{scope:Scope}
theorem u_lc (hc:X.calm=true)(S:CScope X N pick scope)(hw:PI X tg iter (lI X ti))(hp:(tgS t).all (fun i=>(pick[i]?).join.isNone)=true)
  (hg:∀ cl C s₀ H₀ fp,PG (jan X N scope cl C s₀ H₀ fp) tg (lG X.K (tgU t))) (hi:∀ cl C s₀ H₀ fp,PIfs (jan X N scope cl C s₀ H₀ fp) ifs (lT0 X.K tc)) (he:∀ cl C s₀ H₀ fp,PE (jan X N scope cl C s₀ H₀ fp) elt (lE0 X.K te))
  (hs:∀ x,Ya1 iter X.env x=pure x):PE X (.ListComp elt [⟨tg,iter,ifs,0⟩] scope pos) (lE X (lcD pick ti t tc te)):=
 (jnM hc S hw hg hi he hs).imp fun _ _ _ h=>jiz hp h
end
section
variable {X:Cx}{e:Expr}{te ta tb:UE}{p pos:Pos}
theorem jna (hc:X.calm=true)(hg:Gl X "list")(hm:X.mg "list" = none)(ha:PE X e (lE X te))(he:Yar [e] X.env=[(false,eval e X.env)]) :
  PE X (.Call (.Name "list" p) [e] [] pos) (lE X fun ς G Q E=>te ς G (fun x G1=>mkDU x G1 Q) E):=by
 refine (jby (jfI hc) hg hm Yd5 (jbu ha jea he) (by decide) (by decide) he rfl).imp fun σ H Q0 h=>?_
 obtain ⟨ς,G,Q,E,hς,hG,h,lv,lx⟩:=h
 refine ⟨ς,G,fun us G1=>match us with | [x]=>mkDU x G1 Q | _=>False,E,hς,hG,h,fun us vs G1 H1 rs hG1 f1 h1=>?_,lx⟩
 dsimp only at h1
 split at h1
 ·obtain ⟨v,rfl,r⟩:=rs.one
  unfold mkDU at h1
  split at h1
  ·cases r
   split at h1
   ·rename_i kvs g
    obtain ⟨ns,hk,q⟩:=h1
    obtain ⟨l,e,rk⟩:=hG1 _ _ g
    refine ⟨_,l,ns,rfl,e,?_,fun p hp=>(lv.fr f1).lst hp (je9 _) hG1 q⟩
    rw [<- jf5 rk]; exact hk
   ·exact h1.elim
  ·exact h1.elim
 ·exact h1.elim
theorem jm9 (hg:Gl X "list")(hm:X.mg "list" = none)(ha:PE X e (lE X te))(he:Yar [e] X.env=[(false,eval e X.env)]) :
  PE X (.Call (.Name "list" p) [e] [] pos) (lE X fun ς G Q E=>te ς G (fun x G1=>itU x G1 fun xs _=>newO G1 (.lst xs) Q) E):=by
 refine (jby (jd0 (X:=X)) hg hm Yd5 (jbu ha jea he) (by decide) (by decide) he rfl).imp fun σ H Q0 h=>?_
 obtain ⟨ς,G,Q,E,hς,hG,h,lv,lx⟩:=h
 refine ⟨ς,G,fun us G1=>match us with | [x]=>(itU x G1 fun xs _=>newO G1 (.lst xs) Q) | _=>False,E,hς,hG,h,fun us vs G1 H1 rs hG1 f1 h1=>?_,lx⟩
 dsimp only at h1
 split at h1
 ·obtain ⟨v,rfl,r⟩:=rs.one
  unfold itU at h1
  split at h1
  ·obtain ⟨a,ws,rfl,ea,rr⟩:=r
   exact ⟨a,ws,rfl,.inr (.of ea),fun l hl=>(lv.fr f1).lst hl rr hG1 h1⟩
  ·cases r
   split at h1
   ·rename_i us eu
    obtain ⟨ws,sq,rr⟩:=hG1.ls eu
    exact ⟨_,ws,rfl,.inl sq,fun l hl=>(lv.fr f1).lst hl rr hG1 h1⟩
   ·exact h1.elim
  ·exact h1.elim
 ·exact h1.elim
theorem jm8 (hg:Gl X "tuple")(hm:X.mg "tuple" = none)(ha:PE X e (lE X te))(he:Yar [e] X.env=[(false,eval e X.env)]) :
  PE X (.Call (.Name "tuple" p) [e] [] pos) (lE X fun ς G Q E=>te ς G (fun x G1=>itU x G1 fun xs _=>Q (.tup xs) G1) E):=by
 refine (jby (jdp (X:=X)) hg hm PyProof.Rows.boot_tuple (jbu ha jea he) (by decide) (by decide) he rfl).imp fun σ H Q0 h=>?_
 obtain ⟨ς,G,Q,E,hς,hG,h,lv,lx⟩:=h
 refine ⟨ς,G,fun us G1=>match us with | [x]=>(itU x G1 fun xs _=>Q (.tup xs) G1) | _=>False,E,hς,hG,h,fun us vs G1 H1 rs hG1 f1 h1=>?_,lx⟩
 dsimp only at h1
 split at h1
 ·obtain ⟨v,rfl,r⟩:=rs.one
  unfold itU at h1
  split at h1
  ·obtain ⟨a,ws,rfl,ea,rr⟩:=r
   exact ⟨a,ws,rfl,.inr ⟨.of ea,(lv.fr f1).here (w:=.tup _) ⟨a,ws,rfl,ea,rr⟩ hG1 h1⟩⟩
  ·cases r
   split at h1
   ·rename_i us eu
    obtain ⟨ws,sq,rr⟩:=hG1.ls eu
    exact ⟨_,ws,rfl,.inl ⟨sq,fun l hl=>(lv.fr f1).tup hl rr hG1 h1⟩⟩
   ·exact h1.elim
  ·exact h1.elim
 ·exact h1.elim
theorem u_gl {x:Str}{u:U}{v:V}{w:Value}(hg:Gl X x)(hm:X.mg x=some w)(r:RelV v w)(hr:∀ H,RU X.K H u v)(hd:(x == ("__debug__" : Str))=false):PE X (.Name x pos) (lE X fun _ G Q _=>Q u G):=
 jb7 (jgf hg hm r hd) hr
theorem jkF:PE X (.Dict [] [] pos) (lE X fun _ G Q _=>newO G (.dK []) Q):=by
 refine jhP.imp fun σ H Q0 h p hp=>?_
 obtain ⟨ς,G,Q,E,hς,hG,h,lv,lx⟩:=h
 exact lv (.loc p) (.ref p) _ _ rfl (hG.newO (mo:=.dK []) hp ⟨[],jag,rfl⟩) (Fr.newO hp) (h.at p (hG.nope hp))
theorem RKs.merge {K:Yaa}{H:Hp}:∀ {more:List (Key×U)} {m:List (Key×V)},RKs K H more m->∀ {kvs:List (Key×U)} {l:List (Key×V)},RKs K H kvs l->RKs K H (more.foldl (fun acc kv=>dPut acc kv.1 kv.2) kvs) (jco l m)
 | [],_,h,_,_,h'=>by cases h; exact h'
 | (k,u)::more,_,h,_,_,h'=>by
  obtain ⟨v,l',rfl,r,rs⟩:=h
  exact RKs.merge rs (h'.put r)
noncomputable def lD (X:Cx)(t:Sg->Gp->(List (Key×U)->Gp->Prop)->KX->Prop)(trs:List (TE×TE)):Prop:=
 ∀ σ H ς G Q E (Q0:List (V×V)->Hp->Prop),SR X.K H ς σ->HR X.K H G->t ς G Q E->LX X σ H G E->
  (∀ kvs (l:List (Key×V)) G' H',RKs X.K H' kvs l->HR X.K H' G'->Fr H G H' G'->Q kvs G'->Q0 (l.map fun kv=>(kV kv.1,kv.2)) H')->jeP trs σ H Q0
theorem jnc {keys:List (Option Expr)}{values:List Expr}{trs:List (TE×TE)}{t:Sg->Gp->(List (Key×U)->Gp->Prop)->KX->Prop}(hp:PPs X pos keys values trs)(hd:lD X t trs)(hall:keys.all (·.isSome)=true)(hl:keys.length=values.length)(h0:keys≠[])
  (h15:keys.length<=15):PE X (.Dict keys values pos) (lE X fun ς G Q E=>t ς G (fun kvs G1=>kvs.length<=15/\newO G1 (.dK (jcx kvs)) Q) E):=by
 refine (jjz hp hall hl h0 h15).imp fun σ H Q0 h p hp=>?_
 obtain ⟨ς,G,Q,E,hς,hG,h,lv,lx⟩:=h
 have gp:=hG.nope hp
 refine hd σ _ ς G _ E _ (hς.ts (TS.new hp)) (hG.newH hp) h (lx.fr (Fr.new hp)) fun kvs l G' H' r hG' f q=>?_
 obtain ⟨e,g⟩:=f p _ jag gp
 refine ⟨e,l,rfl,by rw [<- r.length]; exact q.1,?_⟩
 have ts:TS H' (upd H' p (.dK (jco [] l))):=⟨fun a xs h=>by
  have:a≠p:=fun z=>by subst z; rw [e] at h; cases h
  rw [jac this]; exact h,fun a xs h=>by
  have:a≠p:=fun z=>by subst z; rw [e] at h; cases h
  rw [jac this]; exact h⟩
 refine lv (.loc p) (.ref p) (gup G' p (.dK (jcx kvs))) _ rfl ⟨fun a ob z=>?_,hG'.tab.upd (fun ps z=>by rw [e] at z; cases z) fun ob z=>by rw [e] at z; cases z⟩ ⟨fun a o ha ga nt=>?_⟩ (q.2.at p g)
 ·by_cases ea:a=p
  ·subst ea
   rw [jar] at z
   cases z
   exact ⟨_,jag,(RKs.merge r (kvs:=[]) (l:=[]) rfl).ts ts⟩
  ·rw [ja9 ea] at z
   exact (hG' a ob z).keep (jac ea) ts
 ·have ea:a≠p:=jai ha hp
  obtain ⟨x1,x2⟩:=f a o (by rw [jac ea]; exact ha) ga nt
  exact ⟨by rw [jac ea]; exact x1,by rw [ja9 ea]; exact x2⟩
theorem jlQ:lD X (fun _ G Q _=>Q [] G) []:=fun σ H ς G Q E Q0 hς hG h lx q=>q [] [] G H rfl hG (Fr.refl _ _) h
theorem jj2 {tk tv:UE}{t:Sg->Gp->(List (Key×U)->Gp->Prop)->KX->Prop}{trs:List (TE×TE)}(hr:lD X t trs):lD X (fun ς G Q E=>tk ς G (fun x G1=>tv ς G1 (fun y G2=>match kU x with
   | some k=>t ς G2 (fun kvs G3=>Q ((k,y)::kvs) G3) E
   | none=>False) E) E) ((lE X tk,lE X tv)::trs):=by
 intro σ H ς G Q E Q0 hς hG h lx q
 refine ⟨ς,G,_,E,hς,hG,h,fun x v G1 H1 rx hG1 f1 h1=>?_,lx⟩
 refine ⟨ς,G1,_,E,hς.ts (f1.ts hG),hG1,h1,fun y v' G2 H2 ry hG2 f2 h2=>?_,lx.fr f1⟩
 dsimp only at h2
 split at h2
 ·rename_i k ek
  have:=jfA rx ek
  subst this
  refine hr σ H2 ς G2 _ E _ ((hς.ts (f1.ts hG)).ts (f2.ts hG1)) hG2 h2 (lx.fr (f1.trans f2)) fun kvs l G3 H3 r hG3 f3 h3=>?_
  exact q ((k,y)::kvs) ((k,v')::l) G3 H3 ⟨v',l,rfl,ry.ts (f3.ts hG2),r⟩ hG3 ((f1.trans f2).trans f3) h3
 ·exact h2.elim
end
end Z

namespace L2
open PySem
end L2
namespace Z
open PySem L2
set_option maxHeartbeats 4000000
structure LD (X:Cx)(H:Hp)(G:Gp)(De:En)(D:Ends):Prop where
 nx:∀ ς' σ' G' H',SR X.K H' ς' σ'->HR X.K H' G'->Fr H G H' G'->De.nx ς' G'->D.nx σ' H'
 rt:∀ w v G' H',RU X.K H' w v->HR X.K H' G'->Fr H G H' G'->De.rt w G'->D.rt v H'
 ex:∀ (pins:List (Addr×Obj)) (e:Value) (s':Shared) (x:XV) ς' σ' G' H',Inv X pins σ' H' s'->SR X.K H' ς' σ'->XAt X H' s' e x->HR X.K H' G'->Fr H G H' G'->De.ex x ς' G'->X.xe e s'
noncomputable abbrev US:=En->Sg->Gp->Prop
noncomputable def lS (X:Cx)(t:US):L2.TS:=fun D σ H=>∃ De ς G,SR X.K H ς σ/\HR X.K H G/\t De ς G/\LD X H G De D
section
variable {X:Cx}{H H1:Hp}{G G1:Gp}{De:En}{D:Ends}{ς:Sg}{σ:St}
theorem LD.fr (h:LD X H G De D)(f:Fr H G H1 G1):LD X H1 G1 De D:=
 ⟨fun ς' σ' G' H' a b c=>h.nx ς' σ' G' H' a b (f.trans c),fun w v G' H' a b c=>h.rt w v G' H' a b (f.trans c),fun pins e s' x ς' σ' G' H' i a b c d=>h.ex pins e s' x ς' σ' G' H' i a b c (f.trans d)⟩
theorem LD.lx (h:LD X H G De D)(hς:SR X.K H ς σ)(hG:HR X.K H G):LX X σ H G fun x G1=>De.ex x ς G1:=fun pins e s' x G' H' I a hr f q=>h.ex pins e s' x ς σ G' H' I (hς.ts (f.ts hG)) a hr f q
theorem LD.here (h:LD X H G De D)(hς:SR X.K H ς σ)(hG:HR X.K H G)(q:De.nx ς G):D.nx σ H:=h.nx ς σ G H hς hG (Fr.refl _ _) q
theorem LD.with {k:Sg->Gp->Prop}{D':Ends}(h:LD X H G De D)(hn:∀ ς' σ' G' H',SR X.K H' ς' σ'->HR X.K H' G'->Fr H G H' G'->k ς' G'->D'.nx σ' H')(hr:D'.rt=D.rt):LD X H G { De with nx:=k } D':=
 ⟨hn,fun w v G' H' a b c d=>by rw [hr]; exact h.rt w v G' H' a b c d,h.ex⟩
end
section
variable {X:Cx}{st:Stmt}{rest:List Stmt}{pos:Pos}{e:Expr}{te:UE}{t u:US}
theorem s_nil:PSs X [] (lS X fun D ς G=>D.nx ς G):=jef.imp fun D σ H ⟨De,ς,G,hς,hG,h,ld⟩=>ld.here hς hG h
theorem s_cons (h1:PS X st (lS X t))(h2:PSs X rest (lS X u)):PSs X (st::rest) (lS X fun D ς G=>t { D with nx:=fun ς' G'=>u D ς' G' } ς G):=by
 refine (jc6 h1 h2).imp fun D σ H ⟨De,ς,G,hς,hG,h,ld⟩=>?_
 exact ⟨_,ς,G,hς,hG,h,ld.with (fun ς' σ' G' H' a b c d=>⟨De,ς',G',a,b,d,ld.fr c⟩) rfl⟩
theorem s_expr (he:PE X e (lE X te))(hs:Ycf e none pos.line X.env=pure false):PS X (.Expr e pos) (lS X fun D ς G=>te ς G (fun _ G1=>D.nx ς G1) fun x G1=>D.ex x ς G1):=
 (jjm he hs).imp fun D σ H ⟨De,ς,G,hς,hG,h,ld⟩=>⟨ς,G,_,_,hς,hG,h,fun w v G' H' _ hr f q=>ld.nx ς σ G' H' (hς.ts (f.ts hG)) hr f q,ld.lx hς hG⟩
theorem s_ret (he:PE X e (lE X te)):PS X (.Return (some e) pos) (lS X fun D ς G=>te ς G D.rt fun x G1=>D.ex x ς G1):=
 (jla he).imp fun D σ H ⟨De,ς,G,hς,hG,h,ld⟩=>⟨ς,G,_,_,hς,hG,h,fun w v G' H' r hr f q=>ld.rt w v G' H' r hr f q,ld.lx hς hG⟩
theorem s_if {c:Expr}{a b:List Stmt}{tc:UT}(hc:PT X c (lT X tc))(ha:PSs X a (lS X t))(hb:PSs X b (lS X u)):PS X (.If c a b pos) (lS X fun D ς G=>tc ς G (fun x G1=>if x=true then t D ς G1 else u D ς G1) fun x G1=>D.ex x ς G1):=by
 refine (jlc hc ha hb).imp fun D σ H ⟨De,ς,G,hς,hG,h,ld⟩=>⟨ς,G,_,_,hς,hG,h,fun b G' H' hr f q=>?_,ld.lx hς hG⟩
 cases b with
 | true=>rw [if_pos rfl] at q ⊢; exact ⟨De,ς,G',hς.ts (f.ts hG),hr,q,ld.fr f⟩
 | false=>rw [if_neg Yak] at q ⊢; exact ⟨De,ς,G',hς.ts (f.ts hG),hr,q,ld.fr f⟩
theorem jks {g:Tg}{D:Ends}{σ:St}{H:Hp}(h:lS X (fun D ς G=>te ς G (fun u G1=>tgU g u ς fun ς'=>D.nx ς' G1) fun x G1=>D.ex x ς G1) D σ H) :
  lE X te σ H fun x H1=>lG X.K (tgU g) x σ H1 D.nx:=by
 obtain ⟨De,ς,G,hς,hG,h,ld⟩:=h
 exact ⟨ς,G,_,_,hς,hG,h,fun w v G' H' r hr f q=>⟨w,ς,_,r,hς.ts (f.ts hG),q,fun ς' σ' hs hk=>ld.nx ς' σ' G' H' hs hr f hk⟩,ld.lx hς hG⟩
theorem s_unp {ts:Tgs}{es:List Expr}{k n:Nat}{p:Pos}(hc:X.calm=true)(he:PE X e (lE X te))(hg:PGs X es (lGs X.K (tgsU ts)))(hn:(YaY es X.env).length=n)(hst:(YaY es X.env).findIdx? (·.1)=none)(hl:∀ us ς k,tgsU ts us ς k->us.length=n)
  (hs:Yby [.Tuple es k p] e pos.line X.env=pure false) (hw:Ybt [.Tuple es k p] e X.env=pure none) (h1:(YaY [.Tuple es k p] X.env).map (·.2)=[assign (.Tuple es k p) X.env]) :
  PS X (.Assign [.Tuple es k p] e pos) (lS X fun D ς G=>te ς G (fun u G1=>unpU ts u G1 ς fun ς'=>D.nx ς' G1) fun x G1=>D.ex x ς G1):=by
 refine (jeW he (jli hc hg hn hst) hs hw h1).imp fun D σ H h=>?_
 obtain ⟨De,ς,G,hς,hG,h,ld⟩:=h
 refine ⟨ς,G,_,_,hς,hG,h,fun w v G' H' r hr f q=>?_,ld.lx hς hG⟩
 cases w with
 | loc a=>
  cases r
  unfold unpU at q
  dsimp only at q
  split at q
  ·rename_i us eu
   obtain ⟨vs,sq,rs⟩:=hr.ls eu
   exact ⟨a,vs,rfl,sq,by rw [<- rs.length]; exact hl _ _ _ q,us,ς,_,rs,hς.ts (f.ts hG),q,fun ς' σ' hs hk=>ld.nx ς' σ' G' H' hs hr f hk⟩
  ·exact q.elim
 | _=>exact q.elim
theorem s_asg {tg:Expr}{g:Tg}(he:PE X e (lE X te))(hg:PG X tg (lG X.K (tgU g)))(hs:Yby [tg] e pos.line X.env=pure false)(hw:Ybt [tg] e X.env=pure none)
  (h1:(YaY [tg] X.env).map (·.2)=[assign tg X.env]):PS X (.Assign [tg] e pos) (lS X fun D ς G=>te ς G (fun u G1=>tgU g u ς fun ς'=>D.nx ς' G1) fun x G1=>D.ex x ς G1):=
 (jeW he hg hs hw h1).imp fun _ _ _ h=>jks h
theorem s_lc {i:Nat}{y:Str}{py spos:Pos}{tg iter elt:Expr}{ifs:List Expr}{pick:List (Option Nat)}{N:List Str}{scope:Scope}{ti:UI}{g:Tg}{tc:Sg->Gp->(Bool->Gp->Prop)->Prop}
  (hN:X.N.Nodup) (hi':X.N[i]?=some y) (hy:X.env.scope.names.lookup y=some .local) (hc:X.calm=true) (S:CScope X N pick scope) (hw:PI X tg iter (lI X ti)) (hp:(tgS g).all (fun i=>(pick[i]?).join.isNone)=true)
  (hg:∀ cl C s₀ H₀ fp,PG (jan X N scope cl C s₀ H₀ fp) tg (lG X.K (tgU g))) (hi:∀ cl C s₀ H₀ fp,PIfs (jan X N scope cl C s₀ H₀ fp) ifs (lT0 X.K tc)) (he:∀ cl C s₀ H₀ fp,PE (jan X N scope cl C s₀ H₀ fp) elt (lE0 X.K te))
  (hsw:Ycf (.ListComp elt [⟨tg,iter,ifs,0⟩] scope pos) (some (.Name y py)) spos.line X.env=pure true) (hs:∀ x,Ya1 iter X.env x=pure x) :
  PS X (.Assign [.Name y py] (.ListComp elt [⟨tg,iter,ifs,0⟩] scope pos) spos) (lS X fun D ς G=>lcD pick ti g tc te ς G (fun u G1=>tgU (.n i) u ς fun ς'=>D.nx ς' G1) fun x G1=>D.ex x ς G1):=by
 refine (jnI hN hi' hy hc S hw hg hi he hsw hs).imp fun D σ H h=>?_
 obtain ⟨De,ς,G,hς,hG,h,ld⟩:=h
 exact jiz hp ⟨ς,G,_,_,hς,hG,h,fun w v G' H' r hr f q=>ld.nx _ _ G' H' ((hς.ts (f.ts hG)).set r i) hr f q,ld.lx hς hG⟩
noncomputable def jk7:TSet:=fun o i v H Q=>∃ a H',o=.ref a/\DPut H a i v H'/\Q H'
theorem jhx (hu:X.A.units + 1 < cLine):PSet X jk7:=by
 intro pins s σ H o i v ov iv u Q I ro ri rv h
 obtain ⟨a,H',rfl,g,q⟩:=h
 cases ro
 exact jg1 hu I g ri rv fun s' I'=>⟨H',I',q⟩
theorem _root_.L2.PSet.or {t t':TSet}(h:PSet X t)(h':PSet X t'):PSet X fun o i v H Q=>t o i v H Q\/t' o i v H Q:=by
 intro pins s σ H o i v ov iv u Q I ro ri rv q
 rcases q with q | q
 ·exact h pins s σ H o i v ov iv u Q I ro ri rv q
 ·exact h' pins s σ H o i v ov iv u Q I ro ri rv q
theorem jje {H:Hp}{G:Gp}{x y w:U}{v v' v'':V}{k:Gp->Prop}{Q0:Hp->Prop}(rx:RU X.K H x v)(ry:RU X.K H y v')(rw':RU X.K H w v'')(hG:HR X.K H G)(h:setU x y w G k)
  (q:∀ G' H',HR X.K H' G'->Fr H G H' G'->k G'->Q0 H'):jk6 v v' v'' H Q0\/jk7 v v' v'' H Q0:=by
 cases x with
 | loc a=>
  cases rx
  unfold setU at h
  dsimp only at h
  split at h
  ·rename_i xs g
   obtain ⟨vs,e,rs⟩:=hG.lst g
   cases y with
   | int i=>
    cases ry
    dsimp only at h
    split at h
    ·rename_i j ej
     refine .inl ⟨a,vs,i,j,rfl,rfl,e,by rw [<- rs.length]; exact ej,?_⟩
     exact q _ _ (hG.write (mo':=.lst (xs.set j w)) g ⟨_,jag,(rs.set rw' j).ts (TS.write hG g)⟩) (Fr.write g) h.at
    ·exact h.elim
   | _=>exact h.elim
  ·rename_i kvs g
   obtain ⟨l,e,rs⟩:=hG a _ g
   split at h
   ·rename_i k' ek
    have:=jfA ry ek
    subst this
    refine .inr ⟨a,_,rfl,DPut.k e (by rw [<- rs.length]; exact h.1),?_⟩
    exact q _ _ (hG.write (mo':=.dK (dPut kvs k' w)) g ⟨_,jag,(rs.put rw').ts (TS.write hG g)⟩) (Fr.write g) h.2.at
   ·exact h.elim
  ·rename_i kvs g
   obtain ⟨l,e,rs⟩:=hG a _ g
   cases y with
   | tup ys=>
    obtain ⟨b,ws,rfl,eb,rb⟩:=ry
    dsimp only at h
    split at h
    ·rename_i k' ek
     have:=je7 rb ek
     subst this
     refine .inr ⟨a,_,rfl,DPut.t e eb (by rw [<- rs.length]; exact h.1),?_⟩
     exact q _ _ (hG.write (mo':=.dT (dPut kvs k' w)) g ⟨_,jag,(rs.put rw').ts (TS.write hG g)⟩) (Fr.write g) h.2.at
    ·exact h.elim
   | _=>exact h.elim
  ·exact h.elim
 | _=>exact h.elim
theorem s_set {o i:Expr}{to ti:UE}{tpos:Pos}(hu:X.A.units + 1 < cLine)(he:PE X e (lE X te))(ho:PE X o (lE X to))(hi:PE X i (lE X ti))(hs:Yby [.Subscript o i tpos] e pos.line X.env=pure false)(hw:Ybt [.Subscript o i tpos] e X.env=pure none)
  (h1:(YaY [.Subscript o i tpos] X.env).map (·.2)=[assign (.Subscript o i tpos) X.env]) (ha:∀ v,assign (.Subscript o i tpos) X.env v=(do
   let ov <- holding [v] (eval o X.env)
   let iv <- holding [v,ov] (eval i X.env)
   standAt tpos
   holding [v,ov,iv] (setItem ov iv v)
   release [v,ov,iv] [])):PS X (.Assign [.Subscript o i tpos] e pos) (lS X fun D ς G=>te ς G (fun v G1=>to ς G1 (fun x G2=>ti ς G2 (fun y G3=>setU x y v G3 fun G4=>D.nx ς G4) fun x G1=>D.ex x ς G1) fun x G1=>D.ex x ς G1) fun x G1=>D.ex x ς G1):=by
 refine (jeW he (jlh ho hi (PSet.or jhw (jhx hu)) ha) hs hw h1).imp fun D σ H ⟨De,ς,G,hς,hG,h,ld⟩=>?_
 refine ⟨ς,G,_,_,hς,hG,h,fun w v G1 H1 rw' hG1 f1 h1=>?_,ld.lx hς hG⟩
 have hς1:=hς.ts (f1.ts hG)
 refine ⟨ς,G1,_,_,hς1,hG1,h1,fun x vx G2 H2 rx hG2 f2 h2=>?_,(ld.fr f1).lx hς1 hG1⟩
 have hς2:=hς1.ts (f2.ts hG1)
 refine ⟨ς,G2,_,_,hς2,hG2,h2,fun y vy G3 H3 ry hG3 f3 h3=>?_,(ld.fr (f1.trans f2)).lx hς2 hG2⟩
 have hς3:=hς2.ts (f3.ts hG2)
 exact jje (rx.ts (f3.ts hG2)) ry ((rw'.ts (f2.ts hG1)).ts (f3.ts hG2)) hG3 h3 fun G' H' hr f q=>ld.nx ς σ G' H' (hς3.ts (f.ts hG3)) hr (((f1.trans f2).trans f3).trans f) q
theorem _root_.L2.PGet.or {t t':V->V->Hp->VK->Prop}(h:PGet X t)(h':PGet X t'):PGet X fun o i H Q=>t o i H Q\/t' o i H Q:=by
 intro pins s σ H o i ov iv Q I ro ri q
 rcases q with q | q
 ·exact h pins s σ H o i ov iv Q I ro ri q
 ·exact h' pins s σ H o i ov iv Q I ro ri q
theorem s_for {tg iter:Expr}{body:List Stmt}{ti:UI}{g:Tg}{tb:US}(hp:Yel (model X.prog X.w) X.A X.env X.xe)(hc:X.calm=true)(hi:PI X tg iter (lI X ti))(hg:PG X tg (lG X.K (tgU g)))(hb:PSs X body (lS X tb))
  (hs:∀ x,Ya1 iter X.env x=pure x):PS X (.For tg iter body [] pos) (lS X fun D ς G=>ti ς G (fun xs ok G1=>forL ok (fun x ς1 G2 k=>tgU g x ς1 fun ς2=>tb { D with nx:=k } ς2 G2) xs ς G1 D.nx) fun x G1=>D.ex x ς G1):=by
 refine (jld hp hc hi hg hb hs).imp fun D σ H ⟨De,ς,G,hς,hG,h,ld⟩=>?_
 refine ⟨ς,G,_,_,hς,hG,h,fun xs ok G1 H1 J hG1 f1 wk h1=>?_,ld.lx hς hG⟩
 refine ⟨fun i m σ' H'=>m=xs.length - i/\i<=xs.length/\∃ ς' G',SR X.K H' ς' σ'/\HR X.K H' G'/\Fr H1 G1 H' G'/\forL ok (fun x ς1 G2 k=>tgU g x ς1 fun ς2=>tb { De with nx:=k } ς2 G2) (xs.drop i) ς' G' De.nx,⟨xs.length,by simp,Ybn _,ς,G1,hς.ts (f1.ts hG),hG1,Fr.refl _ _,by simpa using h1⟩,?_⟩
 rintro i m σ' H' ⟨rfl,hi',ς',G',sr,hr,f,hc'⟩
 by_cases hlt:i < xs.length
 ·rw [Ybg hlt] at hc'
  obtain ⟨hok,hb'⟩:=hc'
  obtain ⟨w1,_⟩:=wk i H' G' (f.ts hG1) hr hok
  obtain ⟨go,yl⟩:=w1 xs[i] (by simp [hlt])
  refine .inr ⟨go,fun σ2 H2=>∃ ς2 G2,SR X.K H2 ς2 σ2/\HR X.K H2 G2/\Fr H1 G1 H2 G2/\forL ok (fun x ς1 G2 k=>tgU g x ς1 fun ς2=>tb { De with nx:=k } ς2 G2) (xs.drop (i + 1)) ς2 G2 De.nx,fun σ2 H2 q=>⟨xs.length - (i + 1),by omega,rfl,hlt,q⟩,fun v H'' y=>?_⟩
  obtain ⟨rx,hr2,f2⟩:=yl v H'' y
  refine ⟨xs[i],ς',_,rx,sr.ts (f2.ts hr),hb',fun ς2 σ2 hs2 hk=>?_⟩
  have f3:=(f1.trans f).trans f2
  refine ⟨_,ς2,G',hs2,hr2,hk,(ld.fr f3).with (fun ς3 σ3 G3 H3 a b c d=>⟨ς3,G3,a,b,(f.trans f2).trans c,d⟩) rfl⟩
 ·have e:i=xs.length:=by omega
  subst e
  rw [Yf9] at hc'
  obtain ⟨hok,q⟩:=hc'
  exact .inl ⟨(wk xs.length H' G' (f.ts hG1) hr hok).2 rfl,ld.nx ς' σ' G' H' sr hr (f1.trans f) q⟩
end
structure Ctx where
 N:List Str
 sc:List (Str×Ya3)
noncomputable def kd (c:Ctx)(x:Str)(k:Ya3):Bool:=c.sc.lookup x == some k
noncomputable def glo (c:Ctx)(x:Str):Bool:=kd c x .globalImplicit && !(x == ("__debug__" : Str))
noncomputable def nm1:Expr->List Str
 | .Name x _=>[x]
 | _=>[]
noncomputable def nm2:Expr->List Str
 | .Tuple es _ _=>es.flatMap nm1
 | e=>nm1 e
noncomputable def jec:Expr->List Str
 | .Tuple es _ _=>es.flatMap nm2
 | e=>nm1 e
noncomputable def cOkS (c:Ctx)(N:List Str)(pick:List (Option Nat))(scope:Scope):Bool:=
 decide (scope.kind=.function) && scope.names.all (fun y=>y.2 != .cell || scope.names.lookup y.1 == some .cell) && scope.names.all (fun y=>y.2 != .local || scope.names.lookup y.1 == some .local)
  && scope.names.all (fun y=>y.2 != .free || (scope.names.lookup y.1 == some .free && (kd c y.1 .cell || kd c y.1 .free)))
  && pick.length == N.length && (N.zip pick).all (fun p=>match p.2 with | none=>true | some j=>c.N[j]? == some p.1 && scope.names.lookup p.1 == some .free) && decide N.Nodup
noncomputable def jix:Expr->Bool
 | .Call (.Name _ _) [] [] _=>false
 | _=>true
noncomputable def e0:Expr:=.Name "" ⟨0,0,0,0⟩
noncomputable def hd:List Expr->Expr
 | []=>e0
 | e::_=>e
noncomputable def c0:Expr->Expr
 | .BinOp l _ _ _=>l
 | .UnaryOp _ x _=>x
 | .IfExp t _ _ _=>t
 | .Compare l _ _ _=>l
 | .Subscript v _ _=>v
 | .Attribute v _ _=>v
 | .Call f _ _ _=>f
 | .ListComp e _ _ _=>e
 | .FormattedValue v _ _ _=>v
 | _=>e0
noncomputable def c1:Expr->Expr
 | .BinOp _ _ r _=>r
 | .IfExp _ b _ _=>b
 | .Subscript _ s _=>s
 | _=>e0
noncomputable def c2:Expr->Expr
 | .IfExp _ _ b _=>b
 | _=>e0
noncomputable def cl:Expr->List Expr
 | .BoolOp _ vs _=>vs
 | .Compare _ _ vs _=>vs
 | .Call _ vs _ _=>vs
 | .List vs _=>vs
 | .Tuple vs _ _=>vs
 | .Dict _ vs _=>vs
 | .JoinedStr vs _=>vs
 | _=>[]
noncomputable def kw0:Expr->Keyword
 | .Call _ _ (k::_) _=>k
 | _=>⟨none,e0,⟨0,0,0,0⟩⟩
noncomputable def kk:Expr->Nat
 | .Constant _ k _=>k
 | .Tuple _ k _=>k
 | _=>0
noncomputable def oe:Option Expr->Expr
 | some e=>e
 | none=>e0
noncomputable def dk:Expr->List Expr
 | .Dict ks _ _=>ks.map oe
 | _=>[]
noncomputable def gen1:Expr->YbK
 | .ListComp _ (g::_) _ _=>g
 | _=>⟨e0,e0,[],0⟩
noncomputable def gen2:Expr->YbK
 | .ListComp _ (_::g::_) _ _=>g
 | _=>⟨e0,e0,[],0⟩
noncomputable def scp:Expr->Scope
 | .ListComp _ _ s _=>s
 | _=>⟨.module,[],false,false,[]⟩
noncomputable def s0:Expr->Expr
 | .Slice (some e) _ _ _=>e
 | _=>e0
noncomputable def s1:Expr->Expr
 | .Slice _ (some e) _ _=>e
 | _=>e0
noncomputable def s2:Expr->Expr
 | .Slice _ _ (some e) _=>e
 | _=>e0
noncomputable def nmA (c:Ctx)(i:Nat):Str:=c.N.getD i ""
noncomputable def boU:Bool->PySem.BoolOp
 | true=>.And
 | false=>.Or
noncomputable def lh1 (h:Expr):Expr:=hd (cl h).tail
noncomputable def lh2 (h:Expr):Expr:=hd (cl h).tail.tail
noncomputable def jbL:Es->Nat
 | .nil=>0
 | .cons _ es=>jbL es + 1
noncomputable def jdu:Tgs->Nat
 | .nil=>0
 | .cons _ ts=>jdu ts + 1
noncomputable def isT:Tg->Bool
 | .t _=>true
 | .n _=>false
noncomputable def isLc:E->Bool
 | .lc ..=>true
 | .lc2 ..=>true
 | _=>false
noncomputable def cc (c:Ctx)(pick:List (Option Nat))(h:Expr):Ctx:=⟨jec (gen1 h).target++(pick.filterMap id).filterMap (fun j=>c.N[j]?),(scp h).names⟩
noncomputable def cc2 (c:Ctx)(pick:List (Option Nat))(h:Expr):Ctx:=⟨jec (gen1 h).target++jec (gen2 h).target++(pick.filterMap id).filterMap (fun j=>c.N[j]?),(scp h).names⟩
mutual
noncomputable def unTg (c:Ctx):Tg->Expr->Expr
 | .n i,h=>.Name (nmA c i) h.pos
 | .t ts,h=>.Tuple (jcZ c ts (cl h)) (kk h) h.pos
noncomputable def jcZ (c:Ctx):Tgs->List Expr->List Expr
 | .nil,_=>[]
 | .cons t ts,hs=>unTg c t (hd hs)::jcZ c ts hs.tail
end
noncomputable def okN (c:Ctx)(i:Nat):Bool:=decide (i < c.N.length) && (kd c (nmA c i) .local || kd c (nmA c i) .cell)
mutual
noncomputable def okTg (c:Ctx):Tg->Bool
 | .n i=>okN c i
 | .t ts=>jhU c ts
noncomputable def jhU (c:Ctx):Tgs->Bool
 | .nil=>true
 | .cons t ts=>okTg c t && jhU c ts
end
section
variable (T:Tab)
noncomputable def fnN (n:Nat):Str:=match T.funs[n]? with
 | some d=>d.name
 | none => ""
mutual
noncomputable def unE (c:Ctx):E->Expr->Expr
 | .v i,h=>.Name (nmA c i) h.pos
 | .non,h=>.Constant .none (kk h) h.pos
 | .bl b,h=>.Constant (.bool b) (kk h) h.pos
 | .int i,h=>.Constant (.int i) (kk h) h.pos
 | .str x,h=>.Constant (.str x) (kk h) h.pos
 | .g n,h=>.Name (T.gn.getD n "") h.pos
 | .ty n,h=>.Name (Yd9 n) h.pos
 | .bin o a b,h=>.BinOp (unE c a (c0 h)) o (unE c b (c1 h)) h.pos
 | .neg a,h=>.UnaryOp .USub (unE c a (c0 h)) h.pos
 | .not a,h=>.UnaryOp .Not (unE c a (c0 h)) h.pos
 | .bop k a es,h=>.BoolOp (boU k) (unE c a (hd (cl h))::unEs c es (cl h).tail) h.pos
 | .cmp o a b,h=>.Compare (unE c a (c0 h)) [o] [unE c b (hd (cl h))] h.pos
 | .cmp2 o p a b d,h=>.Compare (unE c a (c0 h)) [o,p] [unE c b (hd (cl h)),unE c d (hd (cl h).tail)] h.pos
 | .ife t a b,h=>.IfExp (unE c t (c0 h)) (unE c a (c1 h)) (unE c b (c2 h)) h.pos
 | .tup es,h=>.Tuple (unEs c es (cl h)) (kk h) h.pos
 | .lst es,h=>.List (unEs c es (cl h)) h.pos
 | .dic es,h=>.Dict (unK c es (dk h)) (unV c es (cl h)) h.pos
 | .dicT,h=>.Dict [] [] h.pos
 | .ix a b,h=>.Subscript (unE c a (c0 h)) (unE c b (c1 h)) h.pos
 | .sl a lo hi,h=>.Subscript (unE c a (c0 h)) (.Slice (unO c lo (s0 (c1 h))) (unO c hi (s1 (c1 h))) none (c1 h).pos) h.pos
 | .rev a b,h=>.Subscript (unE c a (c0 h)) (.Slice none none (some (unE c b (s2 (c1 h)))) (c1 h).pos) h.pos
 | .call n es,h=>.Call (.Name (fnN T n) (c0 h).pos) (unEs c es (cl h)) [] h.pos
 | .app i es,h=>.Call (.Name (nmA c i) (c0 h).pos) (unEs c es (cl h)) [] h.pos
 | .blt b es,h=>.Call (.Name (bltN b) (c0 h).pos) (unEs c es (cl h)) [] h.pos
 | .meth m o es,h=>.Call (.Attribute (unE c o (c0 (c0 h))) (mthN m) (c0 h).pos) (unEs c es (cl h)) [] h.pos
 | .lc pick t it ifs d,h=>.ListComp (unE (cc c pick h) d (c0 h)) [⟨unTg (cc c pick h) t (gen1 h).target,unI c it (gen1 h).iter,unEs (cc c pick h) ifs (gen1 h).ifs,0⟩] (scp h) h.pos
 | .lc2 pick t it ifs t2 it2 ifs2 d,h=>.ListComp (unE (cc2 c pick h) d (c0 h)) [⟨unTg (cc2 c pick h) t (gen1 h).target,unI c it (gen1 h).iter,unEs (cc2 c pick h) ifs (gen1 h).ifs,0⟩,⟨unTg (cc2 c pick h) t2 (gen2 h).target,unI (cc2 c pick h) it2 (gen2 h).iter,unEs (cc2 c pick h) ifs2 (gen2 h).ifs,0⟩] (scp h) h.pos
 | .fst es,h=>.JoinedStr (unF c es (cl h)) h.pos
 | .lrp d i y a b es,h=>.List (unE c d (hd (cl h))::.BinOp (.Constant (.str y) (kk (c0 (lh1 h))) (c0 (lh1 h)).pos) .Add (.Name (nmA c i) (c1 (lh1 h)).pos) (lh1 h).pos::
   .Call (.Attribute (.Name (nmA c i) (c0 (c0 (lh2 h))).pos) "replace" (c0 (lh2 h)).pos) [.Constant (.str a) (kk (hd (cl (lh2 h)))) (hd (cl (lh2 h))).pos,.Constant (.str b) (kk (lh1 (lh2 h))) (lh1 (lh2 h)).pos,.Constant (.int 1) (kk (lh2 (lh2 h))) (lh2 (lh2 h)).pos] [] (lh2 h).pos::unEs c es (cl h).tail.tail.tail) h.pos
 | .sset d,h=>.Call (.Name "sorted" (c0 h).pos) [.Call (.Name "set" (c0 (hd (cl h))).pos) [unE c d (hd (cl (hd (cl h))))] [] (hd (cl h)).pos] [] h.pos
 | .mkD d,h=>.Call (.Name "list" (c0 h).pos) [unE c d (hd (cl h))] [] h.pos
 | .maxD d,h=>.Call (.Name "max" (c0 h).pos) [unE c d (hd (cl h))] [⟨some "default",.Constant (.int 0) (kk (kw0 h).value) (kw0 h).value.pos,(kw0 h).pos⟩] h.pos
 | .minD d,h=>.Call (.Name "min" (c0 h).pos) [unE c d (hd (cl h))] [⟨some "default",.Constant .none (kk (kw0 h).value) (kw0 h).value.pos,(kw0 h).pos⟩] h.pos
 | .mkL d,h=>.Call (.Name "list" (c0 h).pos) [unE c d (hd (cl h))] [] h.pos
 | .mkT d,h=>.Call (.Name "tuple" (c0 h).pos) [unE c d (hd (cl h))] [] h.pos
 | .rngL d,h=>.Call (.Name "list" (c0 h).pos) [.Call (.Name "range" (c0 (hd (cl h))).pos) [unE c d (hd (cl (hd (cl h))))] [] (hd (cl h)).pos] [] h.pos
 | .rngT d,h=>.Call (.Name "tuple" (c0 h).pos) [.Call (.Name "range" (c0 (hd (cl h))).pos) [unE c d (hd (cl (hd (cl h))))] [] (hd (cl h)).pos] [] h.pos
 | .rngL2 _ _,_=>e0
noncomputable def unO (c:Ctx):Eo->Expr->Option Expr
 | .no,_=>none
 | .so d,h=>some (unE c d h)
noncomputable def unEs (c:Ctx):Es->List Expr->List Expr
 | .nil,_=>[]
 | .cons d es,hs=>unE c d (hd hs)::unEs c es hs.tail
noncomputable def unK (c:Ctx):Es->List Expr->List (Option Expr)
 | .cons d (.cons _ es),hs=>some (unE c d (hd hs))::unK c es hs.tail
 | _,_=>[]
noncomputable def unV (c:Ctx):Es->List Expr->List Expr
 | .cons _ (.cons d es),hs=>unE c d (hd hs)::unV c es hs.tail
 | _,_=>[]
noncomputable def unF (c:Ctx):Es->List Expr->List Expr
 | .nil,_=>[]
 | .cons d es,hs=>(match d with
  | .str x=>.Constant (.str x) (kk (hd hs)) (hd hs).pos
  | d=>.FormattedValue (unE c d (c0 (hd hs))) (-1) none (hd hs).pos)::unF c es hs.tail
noncomputable def unI (c:Ctx):It->Expr->Expr
 | .e d,h=>unE c d h
 | .r1 d,h=>.Call (.Name "range" (c0 h).pos) [unE c d (hd (cl h))] [] h.pos
 | .r2 a b,h=>.Call (.Name "range" (c0 h).pos) [unE c a (hd (cl h)),unE c b (hd (cl h).tail)] [] h.pos
 | .enum d,h=>.Call (.Name "enumerate" (c0 h).pos) [unE c d (hd (cl h))] [] h.pos
 | .dk d,h=>unE c d h
 | .s d,h=>unE c d h
end
mutual
noncomputable def okE (c:Ctx):E->Expr->Bool
 | .v i,_=>decide (i < c.N.length) && (kd c (nmA c i) .local || kd c (nmA c i) .cell || kd c (nmA c i) .free) && !(nmA c i == ("__debug__" : Str)) && !(nmA c i == ("__classdict__" : Str))
 | .non,_=>true
 | .bl _,_=>true
 | .int _,_=>true
 | .str _,_=>true
 | .g n,_=>decide (n < T.gs.length) && decide (n < T.gn.length) && glo c (T.gn.getD n "")
 | .ty _,_=>false
 | .bin _ a b,h=>okE c a (c0 h) && okE c b (c1 h)
 | .neg a,h=>okE c a (c0 h)
 | .not a,h=>okE c a (c0 h)
 | .bop _ a es,h=>okE c a (hd (cl h)) && okEs c es (cl h).tail
 | .cmp o a b,h=>okE c a (c0 h) && okE c b (hd (cl h)) && !behindInMarks o (unE T c b (hd (cl h)))
 | .cmp2 _ _ _ _ _,_=>false
 | .ife t a b,h=>okE c t (c0 h) && okE c a (c1 h) && okE c b (c2 h)
 | .tup es,h=>okEs c es (cl h)
 | .lst es,h=>okEs c es (cl h)
 | .dic es,h=>okD c es (dk h) (cl h) && decide (jbL es<=30)
 | .dicT,_=>false
 | .ix a b,h=>okE c a (c0 h) && okE c b (c1 h)
 | .sl a lo hi,h=>okE c a (c0 h) && okO c lo (s0 (c1 h)) && okO c hi (s1 (c1 h))
 | .rev a b,h=>okE c a (c0 h) && okE c b (s2 (c1 h))
 | .call n es,h=>decide (n < T.funs.length) && glo c (fnN T n) && okEs c es (cl h)
 | .app i es,h=>decide (i < c.N.length) && (kd c (nmA c i) .local || kd c (nmA c i) .cell || kd c (nmA c i) .free) && !(nmA c i == ("__debug__" : Str)) && !(nmA c i == ("__classdict__" : Str)) && okEs c es (cl h)
 | .blt b es,h=>decide (0 < jbL es) && glo c (bltN b) && okEs c es (cl h)
 | .meth _ o es,h=>okE c o (c0 (c0 h)) && okEs c es (cl h) && ((c0 h).pos.endLine == h.pos.line) && decide (jbL es < 30) && jix (unE T c o (c0 (c0 h)))
 | .lc pick t it ifs d,h=>cOkS c (cc c pick h).N pick (scp h) && (tgS t).all (fun i=>(pick[i]?).join.isNone) && okTg (cc c pick h) t && okI c t it (gen1 h).iter && okEs (cc c pick h) ifs (gen1 h).ifs && decide (jbL ifs<=1) && okE (cc c pick h) d (c0 h)
 | .lc2 _ _ _ _ _ _ _ _,_=>false
 | .fst _,_=>false
 | .lrp d i y a b es,h=>okE c d (hd (cl h)) && okEs c es (cl h).tail.tail.tail && (decide (i < c.N.length) && (kd c (nmA c i) .local || kd c (nmA c i) .cell || kd c (nmA c i) .free) && !(nmA c i == ("__debug__" : Str)) && !(nmA c i == ("__classdict__" : Str))) &&
   !(y.length == 0) && !(a == b) && !(a.length == 0 && b.length == 0) && ((c0 (lh2 h)).pos.endLine == (lh2 h).pos.line)
 | .sset _,_=>false
 | .mkD d,h=>glo c "list" && okE c d (hd (cl h))
 | .maxD _,_=>false
 | .minD _,_=>false
 | .mkL d,h=>glo c "list" && okE c d (hd (cl h))
 | .mkT d,h=>glo c "tuple" && okE c d (hd (cl h))
 | .rngL _,_=>false
 | .rngT _,_=>false
 | .rngL2 _ _,_=>false
noncomputable def okO (c:Ctx):Eo->Expr->Bool
 | .no,_=>true
 | .so d,h=>okE c d h
noncomputable def okEs (c:Ctx):Es->List Expr->Bool
 | .nil,_=>true
 | .cons d es,hs=>okE c d (hd hs) && okEs c es hs.tail
noncomputable def okD (c:Ctx):Es->List Expr->List Expr->Bool
 | .nil,_,_=>true
 | .cons d (.cons f es),hs,gs=>okE c d (hd hs) && okE c f (hd gs) && okD c es hs.tail gs.tail
 | .cons _ .nil,_,_=>false
noncomputable def okF (c:Ctx):Es->List Expr->Bool
 | .nil,_=>true
 | .cons d es,hs=>(match d with
  | .str x=>decide (x.length<=10000)
  | d=>okE c d (c0 (hd hs))) && okF c es hs.tail
noncomputable def okI (c:Ctx)(t:Tg):It->Expr->Bool
 | .e d,h=>okE c d h
 | .r1 d,h=>glo c "range" && okE c d (hd (cl h))
 | .r2 a b,h=>glo c "range" && okE c a (hd (cl h)) && okE c b (hd (cl h).tail)
 | .enum d,h=>isT t && glo c "enumerate" && okE c d (hd (cl h))
 | .dk _,_=>false
 | .s d,h=>okE c d h
end
noncomputable def jin (ts:List Expr):Nat:=(ts.head?.map (·.pos.line)).getD 0
noncomputable def jaF (c:Ctx)(ts:List Expr):List Str:=ts.filterMap fun
  | .Name id pos=>if c.sc.lookup id == some .local && pos.line == jin ts then some id else none
  | _=>none
noncomputable def jgK:Expr->Bool
 | .Starred ..=>true
 | _=>false
noncomputable def jbH (c:Ctx)(ts vs:List Expr):Bool:=
 !(ts.length == 2 || ts.length == 3) || vs.length != ts.length || (!(vs.any jgK) && ((jaF c ts).length != ts.length || (jaF c ts).eraseDups.length != (jaF c ts).length || vs.all (foldedForSure 8)))
noncomputable def lcSw (c:Ctx)(y:Str)(py p:Pos)(s:Scope):Bool:=c.sc.lookup y == some .local && py.line == p.line && !(s.names.any fun (n,k)=>n == y && (k == .local || k == .cell))
noncomputable def q0:Stmt->Expr
 | .Expr e _=>e
 | .Assign _ e _=>e
 | .Return (some e) _=>e
 | .AugAssign _ _ e _=>e
 | .If e _ _ _=>e
 | .While e _ _ _=>e
 | .For _ e _ _ _=>e
 | _=>e0
noncomputable def q1:Stmt->Expr
 | .Assign (t::_) _ _=>t
 | .AugAssign t _ _ _=>t
 | .For t _ _ _ _=>t
 | _=>e0
noncomputable def qr:Stmt->Expr
 | .Raise (some e) _ _=>e
 | _=>e0
noncomputable def hTy:Stmt->Expr
 | .Try _ (.ExceptHandler (some t) _ _ _::_) _ _ _=>t
 | _=>e0
noncomputable def hBd:Stmt->List Stmt
 | .Try _ (.ExceptHandler _ _ b _::_) _ _ _=>b
 | _=>[]
noncomputable def hPs:Stmt->Pos
 | .Try _ (.ExceptHandler _ _ _ p::_) _ _ _=>p
 | _=>⟨0,0,0,0⟩
noncomputable def qa:Stmt->List Stmt
 | .Try a _ _ _ _=>a
 | .If _ a _ _=>a
 | .While _ a _ _=>a
 | .For _ _ a _ _=>a
 | _=>[]
noncomputable def qb:Stmt->List Stmt
 | .If _ _ b _=>b
 | _=>[]
noncomputable def qh:List Stmt->Stmt
 | []=>.Pass ⟨0,0,0,0⟩
 | s::_=>s
noncomputable def unNs (c:Ctx):List Nat->List Expr->List Expr
 | [],_=>[]
 | i::is,hs=>.Name (nmA c i) (hd hs).pos::unNs c is hs.tail
noncomputable def unCs:List Nat->List Expr->List Expr
 | [],_=>[]
 | k::ks,hs=>.Name (clsN k) (hd hs).pos::unCs ks hs.tail
section
variable (c:Ctx)(n:Nat)
noncomputable def unHL:HL->Expr->Expr
 | .v i,h=>.Name (nmA c i) h.pos
 | .isiV,h=>.Call (.Name "isinstance" (c0 h).pos) [.Name (nmA c n) (hd (cl h)).pos,.Name "ValueError" (hd (cl h).tail).pos] [] h.pos
 | .is1 k,h=>.Call (.Name "isinstance" (c0 h).pos) [.Name (nmA c n) (hd (cl h)).pos,.Name (clsN k) (hd (cl h).tail).pos] [] h.pos
 | .isi ks,h=>.Call (.Name "isinstance" (c0 h).pos) [.Name (nmA c n) (hd (cl h)).pos,.Tuple (unCs ks (cl (hd (cl h).tail))) (kk (hd (cl h).tail)) (hd (cl h).tail).pos] [] h.pos
noncomputable def jd8:Bool×HL->Expr->Expr
 | (true,l),h=>.UnaryOp .Not (unHL c n l (c0 h)) h.pos
 | (false,l),h=>unHL c n l h
noncomputable def jeK:List (Bool×HL)->List Expr->List Expr
 | [],_=>[]
 | a::r,hs=>jd8 c n a (hd hs)::jeK r hs.tail
noncomputable def jeL (k:Bool)(a:Bool×HL):List (Bool×HL)->Expr->Expr
 | [],h=>jd8 c n a h
 | b::r,h=>.BoolOp (boU k) (jd8 c n a (hd (cl h))::jeK c n (b::r) (cl h).tail) h.pos
noncomputable def unHA:HA->Expr->Expr
 | .str x,h=>.Constant (.str x) (kk h) h.pos
 | .att f,h=>.Attribute (.Name (nmA c n) (c0 h).pos) f h.pos
noncomputable def jhn:List HA->List Expr->List Expr
 | [],_=>[]
 | a::r,hs=>unHA c n a (hd hs)::jhn r hs.tail
noncomputable def unHV:HV->Expr->Expr
 | .cond k a as,h=>jeL c n k a as h
 | .one a,h=>unHA c n a h
 | .bl b,h=>.Constant (.bool b) (kk h) h.pos
 | .tup as,h=>.Tuple (jhn c n as (cl h)) (kk h) h.pos
 | .lst as,h=>.List (jhn c n as (cl h)) h.pos
noncomputable def jiY (i:Nat)(e:HV)(h:Stmt):Stmt:=.Assign [.Name (nmA c i) (q1 h).pos] (unHV c n e (q0 h)) h.pos
noncomputable def unHS:HS->Stmt->Stmt
 | .asg i e,h=>jiY c n i e h
 | .ifa k a as i e,h=>.If (jeL c n k a as (q0 h)) [jiY c n i e (qh (qa h))] [] h.pos
noncomputable def jd9:List HS->List Stmt->List Stmt
 | [],_=>[]
 | s::r,hs=>unHS c n s (qh hs)::jd9 r hs.tail
end
section
variable (cs:List Nat)(c:Ctx)
noncomputable def okC (k:Nat):Bool:=decide (1<=k) && decide (k < 6) && cs.contains k && glo c (clsN k)
noncomputable def okHL:HL->Bool
 | .v i=>decide (i < c.N.length) && (kd c (nmA c i) .local || kd c (nmA c i) .cell || kd c (nmA c i) .free) && !(nmA c i == ("__debug__" : Str)) && !(nmA c i == ("__classdict__" : Str))
 | .isiV=>glo c "isinstance" && glo c "ValueError"
 | .is1 k=>glo c "isinstance" && okC cs c k
 | .isi ks=>glo c "isinstance" && ks.all (okC cs c) && decide (ks.length<=8)
noncomputable def jch (as:List (Bool×HL)):Bool:=as.all fun p=>okHL cs c p.2
noncomputable def okHA:HA->Bool
 | .str _=>true
 | .att f=>fldN.contains f
noncomputable def okHV:HV->Bool
 | .cond _ a as=>okHL cs c a.2 && jch cs c as
 | .one a=>okHA a
 | .bl _=>true
 | .tup as=>as.all okHA && decide (as.length<=8)
 | .lst as=>as.all okHA && decide (as.length<=8)
noncomputable def okHS (n:Nat):HS->Bool
 | .asg i e=>okN c i && decide (i≠n) && okHV cs c e
 | .ifa _ a as i e=>okHL cs c a.2 && jch cs c as && okN c i && decide (i≠n) && okHV cs c e
end
mutual
noncomputable def unS (c:Ctx):S->Stmt->Stmt
 | .pass,h=>.Pass h.pos
 | .expr d,h=>.Expr (unE T c d (q0 h)) h.pos
 | .asg t d,h=>.Assign [unTg c t (q1 h)] (unE T c d (q0 h)) h.pos
 | .unp ts d,h=>.Assign [.Tuple (jcZ c ts (cl (q1 h))) (kk (q1 h)) (q1 h).pos] (unE T c d (q0 h)) h.pos
 | .asgC i d,h=>.Assign [.Name (nmA c i) (q1 h).pos] (unE T c d (q0 h)) h.pos
 | .setS o i d,h=>.Assign [.Subscript (unE T c o (c0 (q1 h))) (unE T c i (c1 (q1 h))) (q1 h).pos] (unE T c d (q0 h)) h.pos
 | .par is es,h=>.Assign [.Tuple (unNs c is (cl (q1 h))) (kk (q1 h)) (q1 h).pos] (.Tuple (unEs T c es (cl (q0 h))) (kk (q0 h)) (q0 h).pos) h.pos
 | .aug i o d,h=>.AugAssign (.Name (nmA c i) (q1 h).pos) o (unE T c d (q0 h)) h.pos
 | .augS a i o d,h=>.AugAssign (.Subscript (unE T c a (c0 (q1 h))) (unE T c i (c1 (q1 h))) (q1 h).pos) o (unE T c d (q0 h)) h.pos
 | .ite t a b,h=>.If (unE T c t (q0 h)) (unSs c a (qa h)) (unSs c b (qb h)) h.pos
 | .fr t it b,h=>.For (unTg c t (q1 h)) (unI T c it (q0 h)) (unSs c b (qa h)) [] h.pos
 | .wh t b,h=>.While (unE T c t (q0 h)) (unSs c b (qa h)) [] h.pos
 | .ret d,h=>.Return (some (unE T c d (q0 h))) h.pos
 | .retN,h=>.Return none h.pos
 | .never,h=>h
 | .raise k es,h=>.Raise (some (.Call (.Name (clsN k) (c0 (qr h)).pos) (unEs T c es (cl (qr h))) [] (qr h).pos)) none h.pos
 | .tr b k n hs,h=>.Try (unSs c b (qa h)) [.ExceptHandler (some (.Name (clsN k) (hTy h).pos)) (some (nmA c n)) (jd9 c n hs (hBd h)) (hPs h)] [] [] h.pos
noncomputable def unSs (c:Ctx):Ss->List Stmt->List Stmt
 | .nil,_=>[]
 | .cons s r,hs=>unS c s (qh hs)::unSs c r hs.tail
end
noncomputable def okA (c:Ctx):Tg->E->Stmt->Bool
 | .n i,.lc ..,_=>!(kd c (nmA c i) .local)
 | .n i,.lc2 ..,_=>!(kd c (nmA c i) .local)
 | .t _,.lc ..,_=>false
 | .t _,.lc2 ..,_=>false
 | .t ts,.tup es,h=>jbH c (jcZ c ts (cl (q1 h))) (unEs T c es (cl (q0 h)))
 | _,_,_=>true
mutual
noncomputable def okS (c:Ctx):S->Stmt->Bool
 | .pass,_=>false
 | .expr d,h=>okE T c d (q0 h) && !isLc d
 | .asg t d,h=>okE T c d (q0 h) && okTg c t && okA T c t d h
 | .unp ts d,h=>okE T c d (q0 h) && jhU c ts && okA T c (.t ts) d h
 | .asgC i d,h=>isLc d && okE T c d (q0 h) && decide (i < c.N.length) && lcSw c (nmA c i) (q1 h).pos (q0 h).pos (scp (q0 h))
 | .setS o i d,h=>okE T c d (q0 h) && okE T c o (c0 (q1 h)) && okE T c i (c1 (q1 h))
 | .par _ _,_=>false
 | .aug _ _ _,_=>false
 | .augS _ _ _ _,_=>false
 | .ite t a b,h=>okE T c t (q0 h) && okSs c a (qa h) && okSs c b (qb h)
 | .fr t it b,h=>okTg c t && okI T c t it (q0 h) && okSs c b (qa h)
 | .wh _ _,_=>false
 | .ret d,h=>okE T c d (q0 h)
 | .retN,_=>false
 | .never,_=>true
 | .raise k es,h=>okC T.cs c k && decide (0 < jbL es) && okEs T c es (cl (qr h))
 | .tr b k n hs,h=>okSs c b (qa h) && decide (k=0) && glo c (clsN k) && decide (n < c.N.length) && kd c (nmA c n) .local && !(nmA c n == ("__debug__" : Str)) && !(nmA c n == ("__classdict__" : Str)) && !hs.isEmpty && hs.all (okHS T.cs c n)
noncomputable def okSs (c:Ctx):Ss->List Stmt->Bool
 | .nil,_=>true
 | .cons s r,hs=>okS c s (qh hs) && okSs c r hs.tail
end
end
noncomputable def lSp (K:Yaa)(t:List U->Gp->K1->KX->Prop):Sp:=fun vs H Q0 E0=>∃ us G Q E,RUs K H us vs/\HR K H G/\t us G Q E/\(∀ w v G' H',RU K H' w v->HR K H' G'->Fr H G H' G'->Q w G'->Q0 v H')/\
 ∀ x G' H' C dx,XD K H' C dx x->HR K H' G'->Fr H G H' G'->E x G'->E0 (.ref C) (some dx) H'
noncomputable def FnU (P:Program)(w:World)(K:Yaa)(mg:Str->Option Value)(base:Heap)(k:Nat)(d:Fun)(t:List U->Gp->K1->KX->Prop):Prop:=
 ∃ (f:Addr) (fd:Ybh),FnOk P w K mg base (CX1 P w) (k + 2) f fd d.ps (lSp K t)/\mg d.name=some (.ref f)/\Ya5 K (.ref f)=true/\Binds K fd d.ps []
noncomputable def jbV:List Str:=["len", "repr", "min", "max", "sum", "all", "any", "sorted", "int", "str", "isinstance", "range", "enumerate", "list", "tuple", "bool", "dict", "ValueError", "set"]
structure Cok (T:Tab)(k:Nat)(X:Cx)(c:Ctx):Prop where
 hN:X.N=c.N
 nd:c.N.Nodup
 loc:∀ x,kd c x .local=true->X.env.scope.names.lookup x=some .local
 cel:∀ x,kd c x .cell=true->X.env.scope.names.lookup x=some .cell/\X.fn x=true
 fre:∀ x,kd c x .free=true->X.env.scope.names.lookup x=some .cell\/X.env.scope.names.lookup x=some .free
 glb:∀ x,kd c x .globalImplicit=true->Gl X x
 room:Room k X.A
 calm:X.calm=true
 po:Yel (model X.prog X.w) X.A X.env X.xe
 blt:∀ x∈jbV,X.mg x=none
 fns:∀ (n:Nat) (d:Fun),T.funs[n]?=some d->FnU X.prog X.w X.K X.mg X.base k d (jad T k n)
 gls:∀ (n:Nat) (x:Str) (u:U),T.gn[n]?=some x->T.gs[n]?=some u->∃ v w,X.mg x=some w/\RelV v w/\∀ H,RU X.K H u v
 room2:Room (k + 2) X.A
 cls:∀ n∈T.cs,1<=n->∃ C,XCls X.K (gK X.K) (clsN n) (clsF n) C
 mgK:∀ x v,gK X.K x=some v->X.mg x=some v
structure Cos (T:Tab)(k:Nat)(X:Cx)(c:Ctx):Prop extends Cok T k X c where
 sc:X.env.scope.names=c.sc
 kind:X.env.scope.kind=.function
 stk:X.stack=X.env::X.outer/\X.env.frame=some X.env.locals
section
variable {T:Tab}{k:Nat}{X:Cx}{c:Ctx}
theorem Cok.hu (h:Cok T k X c):X.A.units + 1 < cLine:=jn8 h.room
theorem Cok.vis (h:Cok T k X c){x:Str}(v:(kd c x .local || kd c x .cell || kd c x .free)=true):Vis X.env.scope x:=by
 simp only [YcI] at v
 rcases v with (v | v) | v
 ·exact .inl (h.loc x v)
 ·exact .inr (.inl (h.cel x v).1)
 ·rcases h.fre x v with z | z
  ·exact .inr (.inl z)
  ·exact .inr (.inr z)
theorem Cok.store (h:Cok T k X c){x:Str}(v:(kd c x .local || kd c x .cell)=true):Loc X.env.scope x/\(X.fn x=true\/X.env.scope.names.lookup x=some .local):=by
 simp only [YcI] at v
 rcases v with v | v
 ·exact ⟨.inl (h.loc x v),.inr (h.loc x v)⟩
 ·exact ⟨.inr (h.cel x v).1,.inl (h.cel x v).2⟩
theorem Cok.gl (h:Cok T k X c){x:Str}(v:glo c x=true):Gl X x/\(x == ("__debug__" : Str))=false:=by
 unfold glo at v
 rw [Yap] at v
 exact ⟨h.glb x v.1,by simpa using v.2⟩
end
noncomputable def jdR:Expr->Bool
 | .BoolOp .. | .BinOp .. | .UnaryOp .. | .IfExp .. | .Dict .. | .ListComp .. | .Compare .. | .Call .. | .Constant .. | .Subscript .. | .Name .. | .List .. | .Tuple .. | .JoinedStr ..=>true
 | _=>false
section
variable {T:Tab}{c:Ctx}
theorem jal (ir:E)(h:Expr):jdR (unE T c ir h)=true:=by cases ir <;> rfl
theorem jah {e:Expr}(h:jdR e=true)(es:List Expr)(env:Env):Yar (e::es) env=(false,eval e env)::Yar es env:=by
 cases e <;> first | rfl | cases h
theorem jka {e:Expr}(h:jdR e=true):jeH e:=by
 intro o i
 cases e <;> first | rfl | cases h
theorem ja8 {e:Expr}(h:jdR e=true)(env:Env):∀ x,Ya1 e env x=pure x:=by
 intro x
 cases e <;> first | rfl | cases h
theorem jiW (it:It)(h:Expr)(env:Env):∀ x,Ya1 (unI T c it h) env x=pure x:=by
 cases it with
 | e d=>exact ja8 (jal d _) env
 | dk d=>exact ja8 (jal d _) env
 | s d=>exact ja8 (jal d _) env
 | _=>exact fun _=>rfl
theorem jh3 {o i:Expr}(h:jdR i=true)(env:Env)(tpos:Pos):∀ v,assign (.Subscript o i tpos) env v=(holding [v] (eval o env) >>= fun a=>holding [v,a] (eval i env) >>= fun b=>standAt tpos >>= fun _=>holding [v,a,b] (setItem a b v) >>= fun _=>release [v,a,b] []):=by
 intro v
 cases i <;> first | rfl | cases h
theorem jiX {ir:E}(q:isLc ir=false)(h:Expr)(env:Env)(l:Nat):Ycf (unE T c ir h) none l env=pure false:=by
 cases ir <;> first | rfl | cases q
theorem jiV {ir:E}(q:isLc ir=false)(h tg:Expr)(env:Env)(l:Nat):Yby [tg] (unE T c ir h) l env=pure false:=by
 cases ir <;> first | rfl | cases q
theorem jih (ir:E)(h x y:Expr)(p:Pos)(env:Env)(l:Nat):Yby [.Subscript x y p] (unE T c ir h) l env=pure false/\Ybt [.Subscript x y p] (unE T c ir h) env=pure none:=by
 cases ir <;> exact ⟨rfl,rfl⟩
theorem jmY (ir:E)(h:Expr)(x:Str)(p:Pos)(env:Env):Ybt [.Name x p] (unE T c ir h) env=pure none:=by
 cases ir <;> rfl
theorem jfL (t:Tg)(h:Expr)(env:Env):(YaY [unTg c t h] env).map (·.2)=[assign (unTg c t h) env]:=by
 cases t <;> rfl
theorem jhg {o:Expr}(h:jix o=true)(m:Str)(env:Env)(w:Sem Value):Yca o m env w=w:=by
 unfold Yca
 split
 ·cases h
 ·rfl
theorem jbF:∀ (es:Es) (hs:List Expr) (env:Env) (pos:Pos),(backTo pos (Yar (unEs T c es hs) env)).any (·.1)=false/\(backTo pos (Yar (unEs T c es hs) env)).all (fun x=>!x.1)=true
 | .nil,_,_,_=>⟨rfl,rfl⟩
 | .cons d es,hs,env,pos=>by
  obtain ⟨h1,h2⟩:=jbF es hs.tail env pos
  show (backTo pos (Yar (unE T c d (hd hs)::unEs T c es hs.tail) env)).any (·.1)=false/\(backTo pos (Yar (unE T c d (hd hs)::unEs T c es hs.tail) env)).all (fun x=>!x.1)=true
  rw [jah (jal d _)]
  exact ⟨by show (false || (backTo pos (Yar (unEs T c es hs.tail) env)).any (·.1))=false; rw [h1]; rfl,by show (!false && (backTo pos (Yar (unEs T c es hs.tail) env)).all (fun x=>!x.1))=true; rw [h2]; rfl⟩
theorem jii:∀ (es:Es) (hs:List Expr),(unEs T c es hs).length=jbL es
 | .nil,_=>rfl
 | .cons _ es,hs=>congrArg (·+ 1) (jii es hs.tail)
theorem ba {a b:Bool}(h:(a && b)=true):a=true/\b=true:=by simpa using h
theorem bn {a:Bool}(h:(!a)=true):a=false:=by simpa using h
theorem jgt {i:Nat}(h:decide (i < c.N.length)=true):c.N[i]?=some (nmA c i):=by
 unfold nmA
 rw [YaZ,Yat (of_decide_eq_true h)]
 rfl
end
theorem jeb:∀ {ts:Tgs} {us:List U} {ς:Sg} {k:Sg->Prop},tgsU ts us ς k->us.length=jdu ts
 | .nil,us,ς,k,h=>by rw [h.1]; rfl
 | .cons t ts,us,ς,k,h=>by
  cases us with
  | nil=>exact h.elim
  | cons u r=>
   have:∃ ς',tgsU ts r ς' k:=tg_some h
   obtain ⟨ς',h'⟩:=this
   show r.length + 1=jdu ts + 1
   rw [jeb h']
where
 tg_some {t:Tg} {u:U} {ς:Sg} {P:Sg->Prop} (h:tgU t u ς P):∃ ς',P ς':=by
  have:=jb9 (k':=fun _=>∃ ς',P ς') h fun ς' h'=>⟨ς',h'⟩
  exact tg_const this
 tg_const:∀ {t:Tg} {u:U} {ς:Sg} {P:Prop},tgU t u ς (fun _=>P)->P
  | .n _,_,_,_,h=>h
  | .t ts,u,ς,P,h=>by
   cases u with
   | tup us=>exact tgs_const (ts:=ts) (us:=us) h
   | _=>exact h.elim
 tgs_const:∀ {ts:Tgs} {us:List U} {ς:Sg} {P:Prop},tgsU ts us ς (fun _=>P)->P
  | .nil,_,_,_,h=>h.2
  | .cons t ts,us,ς,P,h=>by
   cases us with
   | nil=>exact h.elim
   | cons u r=>exact tg_const (jb9 (t:=t) h fun ς' h'=>tgs_const h')
section
variable {T:Tab}{k:Nat}{X:Cx}{c:Ctx}
theorem jb8:∀ (ts:Tgs) (hs:List Expr) (env:Env),(YaY (jcZ c ts hs) env).length=jdu ts/\(YaY (jcZ c ts hs) env).findIdx? (·.1)=none
 | .nil,_,_=>⟨rfl,rfl⟩
 | .cons t ts,hs,env=>by
  obtain ⟨h1,h2⟩:=jb8 ts hs.tail env
  have e:YaY (jcZ c (.cons t ts) hs) env=(false,assign (unTg c t (hd hs)) env)::YaY (jcZ c ts hs.tail) env:=by cases t <;> rfl
  rw [e]
  exact ⟨by simp [h1,jdu],by simp [List.findIdx?_cons,h2]⟩
theorem Cok.nm {i:Nat}(C:Cok T k X c)(h:decide (i < c.N.length)=true):X.N[i]?=some (nmA c i):=by rw [C.hN]; exact jgt h
mutual
theorem sTg (C:Cok T k X c):∀ (t:Tg) (h:Expr),okTg c t=true->PG X (unTg c t h) (lG X.K (tgU t))
 | .n _,_,q=>let s:=C.store (ba q).2; u_tn (by rw [C.hN]; exact C.nd) (C.nm (ba q).1) s.1 s.2
 | .t ts,h,q=>u_tt C.calm (sTgs C ts (cl h) q) (jb8 ts _ X.env).1 (jb8 ts _ X.env).2 fun us ς k q=>jeb q
theorem sTgs (C:Cok T k X c):∀ (ts:Tgs) (hs:List Expr),jhU c ts=true->PGs X (jcZ c ts hs) (lGs X.K (tgsU ts))
 | .nil,_,_=>jm1
 | .cons t ts,hs,q=>jm2 (sTg C t (hd hs) (ba q).1) (sTgs C ts hs.tail (ba q).2) (by cases t <;> rfl)
end
noncomputable def EB (X:Cx)(σ:St):XK:=fun cls dx H'=>∀ (pins:List (Addr×Obj)) (ea:Addr) (s':Shared),Inv X pins σ H' s'->Lies X.s₀.heap.objs.size X.pn H' s'.heap ea cls dx->X.xe (.ref ea) s'
theorem jf2 {j:Nat}{f:Addr}{fd:Ybh}{ps:List Str}{sp:Sp}{pins:List (Addr×Obj)}{σ:St}{H:Hp}{s:Shared}{Q:VK}{us:List Value}{vs:List V}(F:FnOk X.prog X.w X.K X.mg X.base (CX1 X.prog X.w) j f fd ps sp)(hr:Room j X.A)(hb:Binds X.K fd ps [])
  (I:Inv X pins σ H s) (r:Vals vs us) (h:sp vs H Q (EB X σ)):wpAny (model X.prog X.w) X.A (call (.ref f) us) (EP X pins σ Q) X.xe s:=by
 have hl:(us++[]).length=ps.length:=by rw [Ybj,<- r.length]; exact F.len _ _ _ _ h
 have hbs:=hb s us I.kIn hl
 rw [Ybj] at hbs
 refine YdN (Yc9 (F.run X.A X.stack s H ⟨us,[]⟩ us vs Q (EB X σ) hr I.env0 hbs r h) fun r s' hq=>?_)
 cases r with
 | error e=>
  obtain ⟨ea,H',cls,dx,rfl,I',l,q⟩:=CX1.back I hq
  exact q pins ea s' I' l
 | ok fl=>
  cases fl with
  | ret u=>exact I.after hq
  | next=>exact Ybk hq
  | brk=>exact Ybk hq
  | cont=>exact Ybk hq
theorem jfV {n:Nat}{σ:St}{H:Hp}{G:Gp}{us:List U}{vs:List V}{Q:K1}{E:KX}{Q0:VK}(r:RUs X.K H us vs)(hG:HR X.K H G)(h:jad T k n us G Q E)(lv:LV X H G Q Q0)(lx:LX X σ H G E):lSp X.K (jad T k n) vs H Q0 (EB X σ):=
 ⟨us,G,Q,E,r,hG,h,lv,fun x G' H' C dx xd hr f q pins ea s' I' l=>lx pins (.ref ea) s' x G' H' I' ⟨ea,C,dx,rfl,l,xd⟩ hr f q⟩
theorem jkH {n:Nat}{d:Fun}{x:Str}{e:Expr}{es:List Expr}{ts:UA}{p pos:Pos}(C:Cok T k X c)(hd:T.funs[n]?=some d)(hx:d.name=x)(hg:glo c x=true)(ha:PA X (e::es) (lA X ts))
  (he:Yar (e::es) X.env=(false,eval e X.env)::Yar es X.env) (hpl:(backTo pos (Yar es X.env)).any (·.1)=false) :
  PE X (.Call (.Name x p) (e::es) [] pos) (lE X fun ς G Q E=>ts ς G (fun us G1=>jad T k n us G1 Q E) E):=by
 obtain ⟨f,fd,F,hm,hk,hb⟩:=C.fns n d hd
 obtain ⟨g1,g2⟩:=C.gl hg
 rw [hx] at hm
 intro pins s σ H Q0 I ⟨ς,G,Q,E,hς,hG,h,lv,lx⟩
 refine Ybx (jbM I g1 hm ?_ g2)
 have h':lA X ts σ H fun vs H1=>lSp X.K (jad T k n) vs H1 Q0 (EB X σ):=⟨ς,G,_,E,hς,hG,h,fun us vs G1 H1 rs hG1 f1 h1=>jfV rs hG1 h1 (lv.fr f1) (lx.fr f1),lx⟩
 refine Ydv (h₀:=X.base) I.ok.mod.kin hk (thn (ha pos pins s σ H _ I h') fun us s1 ⟨vs,H1,I1,r,q⟩=>⟨I1.kIn,?_⟩) he hpl
 exact jf2 F C.room2 hb I1 r q
theorem ji0 {n:Nat}{d:Fun}{x:Str}{p pos:Pos}(C:Cok T k X c)(hd:T.funs[n]?=some d)(hx:d.name=x)(hg:glo c x=true) :
  PE X (.Call (.Name x p) [] [] pos) (lE X fun _ G Q E=>jad T k n [] G Q E):=by
 obtain ⟨f,fd,F,hm,hk,hb⟩:=C.fns n d hd
 obtain ⟨g1,g2⟩:=C.gl hg
 rw [hx] at hm
 intro pins s σ H Q0 I ⟨ς,G,Q,E,hς,hG,h,lv,lx⟩
 refine Ybx (jbM I g1 hm ?_ g2)
 exact PySem.W.callWith_K0 I.kIn hk (jf2 (us:=[]) (vs:=[]) F C.room2 hb I .nil (jfV (show RUs X.K H [] [] from rfl) hG h lv lx))
theorem Cok.comp {pick:List (Option Nat)}{scope:Scope}{N:List Str}(C:Cok T k X c)(h:cOkS c N pick scope=true):CScope X N pick scope/\∀ cl A s₀ H₀ fp,Cok T k (jan X N scope cl A s₀ H₀ fp) ⟨N,scope.names⟩:=by
 unfold cOkS at h
 simp only [Yap,decide_eq_true_eq] at h
 obtain ⟨⟨⟨⟨⟨⟨h1,h2⟩,h3⟩,h4⟩,h5⟩,h6⟩,h7⟩:=h
 have cells:∀ y∈scope.names,y.2=.cell->scope.names.lookup y.1=some .cell:=fun y hy hc=>by
  have:=Yee.mp h2 y hy
  rw [hc] at this
  simpa using this
 refine ⟨⟨h1,cells,fun y hy hl=>?_,fun y hy hf=>?_,by simpa using h5,fun i j x e1 e2=>?_⟩,fun cl A s₀ H₀ fp=>?_⟩
 ·have:=Yee.mp h3 y hy
  rw [hl] at this
  simpa using this
 ·have:=Yee.mp h4 y hy
  rw [hf] at this
  simp only [bne_self_eq_false,YeU,Yap,YcI,beq_iff_eq] at this
  refine ⟨this.1,?_⟩
  rcases this.2 with z | z
  ·exact .inl (C.cel _ z).1
  ·exact C.fre _ z
 ·have hz:(N.zip pick)[i]?=some (x,some j):=by rw [List.getElem?_zip_eq_some]; exact ⟨e1,e2⟩
  have:=Yee.mp h6 _ (Yba hz)
  rw [C.hN]
  simpa using this
 ·refine ⟨rfl,h7,fun x z=>?_,fun x z=>?_,fun x z=>?_,fun x z=>?_,C.room,C.calm,Yel.never,C.blt,C.fns,C.gls,C.room2,C.cls,C.mgK⟩
  ·exact jat (by decide) (eq_of_beq z)
  ·exact ⟨jat (by decide) (eq_of_beq z),z⟩
  ·exact jaH (eq_of_beq z)
  ·exact glc (eq_of_beq z)
end
end Z

namespace Z
open PySem L2
set_option maxHeartbeats 8000000
section
variable {K:Yaa}{H H':Hp}{G G':Gp}
theorem HR.newX (h:HR K H G){p:Addr}{l:List (Str×V)}(e:H p=none):HR K (upd H p (.xd l)) G:=⟨fun a o q=>by
 have m:=h a o q
 obtain ⟨ho,e2⟩:=m.there
 exact m.keep (jac (jai e2 e)) (TS.new e),h.tab.new e⟩
theorem HR.xdNone (h:HR K H G){a:Addr}{l:List (Str×V)}(e:H a=some (.xd l)):G a=none:=by
 cases q:G a with
 | none=>rfl
 | some o=>
  have m:=h a o q
  cases o with
  | lst us=>obtain ⟨_,e2,_⟩:=m; rw [e] at e2; cases e2
  | fro us=>obtain ⟨_,_,e2,_⟩:=m; rw [e] at e2; cases e2
  | dK us=>obtain ⟨_,e2,_⟩:=m; rw [e] at e2; cases e2
  | dT us=>obtain ⟨_,e2,_⟩:=m; rw [e] at e2; cases e2
  | frd _ us=>obtain ⟨_,e2,_⟩:=m; rw [e] at e2; cases e2
theorem XD.fr {C dx:Addr}{x:XV}(h:XD K H C dx x)(hG:HR K H G)(f:Fr H G H' G'):XD K H' C dx x:=by
 obtain ⟨h1,h2,h3,l,hl,hn,r⟩:=h
 exact ⟨h1,h2,h3,l,(f dx _ hl (hG.xdNone hl)).1,hn,r.ts (f.ts hG)⟩
end
theorem jg5:∀ k < 6,∀ f∈clsF k,f∈fldN:=by decide +kernel
theorem jh9 (k:Nat):∀ f∈clsF k,f∈fldN:=by
 by_cases h:k < 6
 ·exact jg5 k h
 ·intro f hf
  have:clsF k=[]:=by
   unfold clsF
   rw [YaZ,YbS (by show clsA.length<=k; simp only [clsA,YaW,Ydj]; omega)]; rfl
  rw [this] at hf
  cases hf
theorem jfi:∀ i < 6,∀ j < 6,clsN i=clsN j->i=j:=by decide +kernel
theorem jg4:∀ i < 6,1<=i->clsN i ≠ "PlanError" := by decide +kernel
section
variable {T:Tab}{k:Nat}{X:Cx}{c:Ctx}
theorem je0 {cs:List Nat}{n:Nat}(h:okC cs c n=true):1<=n/\n < 6/\n∈cs/\glo c (clsN n)=true:=by
 unfold okC at h
 simp only [Yap,decide_eq_true_eq] at h
 exact ⟨h.1.1.1,h.1.1.2,by simpa using h.1.2,h.2⟩
theorem s_raise {n:Nat}{e:Expr}{es:List Expr}{ts:UA}{p cpos pos:Pos}(C:Cok T k X c)(hn:okC T.cs c n=true)(ha:PA X (e::es) (lA X ts))(he:Yar (e::es) X.env=(false,eval e X.env)::Yar es X.env)(hpl:(backTo cpos (Yar es X.env)).any (·.1)=false) :
  PS X (.Raise (some (.Call (.Name (clsN n) p) (e::es) [] cpos)) none pos) (lS X fun D ς G=>ts ς G (fun us G1=>us.length=(clsF n).length/\D.ex ⟨n,us⟩ ς G1) fun x G1=>D.ex x ς G1):=by
 obtain ⟨n1,n2,n3,n4⟩:=je0 hn
 obtain ⟨Ca,cl⟩:=C.cls n n3 n1
 obtain ⟨g1,g2⟩:=C.gl n4
 refine (jf9 (k:=k) cl (jh9 n) C.room2 g1 (C.mgK _ _ cl.m) ha g2 he hpl).imp fun D σ H ⟨De,ς,G,hς,hG,h,ld⟩=>?_
 refine ⟨ς,G,_,_,hς,hG,h,fun us vs G1 H1 rs hG1 f1 h1=>?_,ld.lx hς hG⟩
 have hl:vs.length=(clsF n).length:=rs.length.symm.trans h1.1
 refine ⟨hl,fun pins ea dx s' hd I l=>?_⟩
 have f2:Fr H1 G1 (upd H1 dx (.xd ((clsF n).zip vs))) G1:=Fr.new hd
 refine ld.ex pins (.ref ea) s' ⟨n,us⟩ ς σ G1 _ I ((hς.ts (f1.ts hG)).ts (f2.ts hG1)) ⟨ea,Ca,dx,rfl,l,n1,n2,cl,_,jag,?_,?_⟩ (hG1.newX hd) (f1.trans f2) h1.2
 ·exact Yf7 (by omega)
 ·rw [List.map_snd_zip (by omega)]
  exact rs.ts (f2.ts hG1)
end
structure HC (T:Tab)(X:Cx)(c:Ctx)(n:Nat)(ea C dx:Addr)(x:XV):Prop where
 hN:X.N=c.N
 nd:c.N.Nodup
 loc:∀ y,kd c y .local=true->X.env.scope.names.lookup y=some .local
 cel:∀ y,kd c y .cell=true->X.env.scope.names.lookup y=some .cell/\X.fn y=true
 fre:∀ y,kd c y .free=true->X.env.scope.names.lookup y=some .cell\/X.env.scope.names.lookup y=some .free
 glb:∀ y,kd c y .globalImplicit=true->Gl X y
 blt:∀ y∈jbV,X.mg y=none
 cls:∀ n∈T.cs,1<=n->∃ C,XCls X.K (gK X.K) (clsN n) (clsF n) C
 me:XCls X.K (gK X.K) (clsN x.c) (clsF x.c) C
 lo:1<=x.c
 hi:x.c < 6
 pin:XPin X ea C dx
 mgK:∀ y v,gK X.K y=some v->X.mg y=some v
 en:n < c.N.length/\kd c (nmA c n) .local=true/\(nmA c n == ("__debug__" : Str))=false/\(nmA c n == ("__classdict__" : Str))=false
structure HSt (X:Cx)(n:Nat)(ea C dx:Addr)(x:XV)(σ:St)(H:Hp)(ς:Sg)(G:Gp):Prop where
 sr:SR X.K H ς σ
 hr:HR X.K H G
 en:σ[n]?=some (some (.ref ea))
 xd:XD X.K H C dx x
noncomputable def hB (X:Cx)(n:Nat)(ea C dx:Addr)(x:XV)(f:Sg->Option Bool):TE:=fun σ H Q=>∃ ς G b,HSt X n ea C dx x σ H ς G/\f ς=some b/\∀ H',HR X.K H' G->Fr H G H' G->Q (.bl b) H'
noncomputable def hT (X:Cx)(n:Nat)(ea C dx:Addr)(x:XV)(f:Sg->Option Bool):TT:=fun σ H Q=>∃ ς G b,HSt X n ea C dx x σ H ς G/\f ς=some b/\∀ H',HR X.K H' G->Fr H G H' G->Q b H'
section
variable {T:Tab}{X:Cx}{c:Ctx}{n:Nat}{ea C dx:Addr}{x:XV}
theorem HSt.fr {σ:St}{H H':Hp}{ς:Sg}{G G':Gp}(h:HSt X n ea C dx x σ H ς G)(hr:HR X.K H' G')(f:Fr H G H' G'):HSt X n ea C dx x σ H' ς G':=⟨h.sr.ts (f.ts h.hr),hr,h.en,h.xd.fr h.hr f⟩
theorem HC.pe (h:HC T X c n ea C dx x){p:Pos}:PE X (.Name (nmA c n) p) (tVar n):=by
 obtain ⟨h1,h2,h3,h4⟩:=h.en
 exact ja1 (by rw [h.hN]; exact jgt (decide_eq_true h1)) (.inl (h.loc _ h2)) h3 h4
theorem HC.gl (h:HC T X c n ea C dx x){y:Str}(v:glo c y=true):Gl X y/\(y == ("__debug__" : Str))=false:=by
 unfold glo at v
 rw [Yap] at v
 exact ⟨h.glb y v.1,by simpa using v.2⟩
theorem HC.ownC (h:HC T X c n ea C dx x){m:Nat}(q:okC T.cs c m=true):∃ C',XCls X.K (gK X.K) (clsN m) (clsF m) C'/\clsN m ≠ "PlanError" /\ ∀ p,PE X (.Name (clsN m) p) (tC (.ref C')):=by
 obtain ⟨m1,m2,m3,m4⟩:=je0 q
 obtain ⟨C',cl⟩:=h.cls m m3 m1
 obtain ⟨g1,g2⟩:=h.gl m4
 exact ⟨C',cl,jg4 m m2 m1,fun p=>jgf g1 (h.mgK _ _ cl.m) rfl g2⟩
theorem HC.pcs (h:HC T X c n ea C dx x):∀ {ks:List Nat},ks.all (okC T.cs c)=true->∀ hs:List Expr,∃ (xs:List Str) (Cs:List Addr),xs=ks.map clsN/\XMany X (gK X.K) xs Cs/\Cs.length=ks.length/\PA X (unCs ks hs) (fun _ H Q=>Q (Cs.map .ref) H)
 | [],_,_=>⟨[],[],rfl,.nil,rfl,jcf⟩
 | m::ks,q,hs=>by
  simp only [Ybw,Yap] at q
  obtain ⟨C',cl,np,pe⟩:=h.ownC q.1
  obtain ⟨xs,Cs,e,mn,ln,pa⟩:=h.pcs q.2 hs.tail
  subst e
  exact ⟨_,C'::Cs,rfl,.cons cl np mn,by simp [ln],jaC (pe _) pa⟩
theorem jeq:Yco "isinstance" = some (.builtin "isinstance"):=Ydw
theorem HC.isiT (h:HC T X c n ea C dx x)(g1:Gl X "isinstance")(g2:(("isinstance" : Str) == ("__debug__" : Str))=false){Cs:List Addr}{xs:List Str}(mn:XMany X (gK X.K) xs Cs){p1 p2 p3 p4:Pos}{kq:Nat}{es:List Expr}(pa:PA X es (fun _ H Q=>Q (Cs.map .ref) H)) :
  PE X (.Call (.Name "isinstance" p3) [.Name (nmA c n) p1,.Tuple es kq p2] [] p4) (fun σ H Q=>σ[n]?=some (some (.ref ea))/\Cs.length<=8/\∀ p,H p=none->(∃ l,upd H p (.tup (Cs.map .ref)) dx=some (.xd l))/\Q (.bl (xs.contains (clsN x.c))) (upd H p (.tup (Cs.map .ref)))):=by
 have isn:X.mg "isinstance" = none:=h.blt _ (by decide)
 have a1:PA X [.Tuple es kq p2] _:=jaC (jge pa) jcf (jah rfl _ _)
 have a2:PA X [.Name (nmA c n) p1,.Tuple es kq p2] _:=jaC (h.pe) a1 (jah rfl _ _)
 have cr:=jhb h.me mn h.pin
 have hh:Yar [.Name (nmA c n) p1,.Tuple es kq p2] X.env=(false,eval (.Name (nmA c n) p1) X.env)::Yar [.Tuple es kq p2] X.env:=jah rfl _ _
 have hp:(backTo p4 (Yar [.Tuple es kq p2] X.env)).any (·.1)=false:=by rw [jah rfl]; rfl
 refine PE.imp (jb1 (p:=p3) (pos:=p4) cr g1 isn jeq a2 (by decide) g2 hh hp) fun σ H Q ⟨e1,e2,k⟩=>?_
 refine ⟨_,e1,?_,fun p hp=>⟨p,rfl,jag,(k p hp).1,(k p hp).2⟩⟩
 rw [Yac,YbJ]; omega
theorem HC.lit (h:HC T X c n ea C dx x){l:HL}(q:okHL T.cs c l=true)(hx:Expr):PE X (unHL c n l hx) (hB X n ea C dx x fun ς=>litH x ς l)/\PT X (unHL c n l hx) (hT X n ea C dx x fun ς=>litH x ς l):=by
 have fin:PE X (unHL c n l hx) (hB X n ea C dx x fun ς=>litH x ς l):=by
  have isn:X.mg "isinstance" = none:=h.blt _ (by decide)
  have ven:X.mg "ValueError" = none:=h.blt _ (by decide)
  cases l with
  | v i=>
   have q':((decide (i < c.N.length) && (kd c (nmA c i) .local || kd c (nmA c i) .cell || kd c (nmA c i) .free) && !(nmA c i == ("__debug__" : Str)) && !(nmA c i == ("__classdict__" : Str))))=true:=q
   obtain ⟨⟨⟨h1,h2⟩,h3⟩,h4⟩:=(⟨⟨ba (ba (ba q').1).1,(ba (ba q').1).2⟩,(ba q').2⟩:((_/\_)/\_)/\_)
   have vis:Vis X.env.scope (nmA c i):=by
    simp only [YcI] at h2
    rcases h2 with (z | z) | z
    ·exact .inl (h.loc _ z)
    ·exact .inr (.inl (h.cel _ z).1)
    ·exact (h.fre _ z).elim (fun z=>.inr (.inl z)) fun z=>.inr (.inr z)
   refine (ja1 (by rw [h.hN]; exact jgt h1) vis (bn h3) (bn h4)).imp fun σ H Q ⟨ς,G,b,st,e,k⟩=>?_
   have e':(match ς[i]? with | some (some (U.bl b))=>some b | _=>none)=some b:=e
   split at e'
   ·rename_i b' eb
    cases e'
    obtain ⟨v,ev,r⟩:=st.sr.2 i _ eb
    cases r
    exact ⟨_,ev,k H st.hr (Fr.refl _ _)⟩
   ·cases e'
  | isiV=>
   have q':(glo c "isinstance" && glo c "ValueError")=true:=q
   obtain ⟨g1,g2⟩:=h.gl (ba q').1
   obtain ⟨g3,g4⟩:=h.gl (ba q').2
   refine (jb1 (jha h.me h.pin) g1 isn jeq (jaC h.pe (jaC (jjB (v:=.ty "ValueError") g3 ven (by decide +kernel) rfl (by decide) g4) jcf)) (by decide) g2 rfl rfl).imp fun σ H Q ⟨ς,G,b,st,e,k⟩=>?_
   cases (show true=b from Yan e)
   obtain ⟨_,_,_,l,hl,_⟩:=st.xd
   exact ⟨_,st.en,rfl,⟨l,hl⟩,k H st.hr (Fr.refl _ _)⟩
  | is1 m=>
   have q':(glo c "isinstance" && okC T.cs c m)=true:=q
   obtain ⟨g1,g2⟩:=h.gl (ba q').1
   obtain ⟨C',cl,np,pe⟩:=h.ownC (ba q').2
   refine (jb1 (jhc h.me cl np h.pin) g1 isn jeq (jaC h.pe (jaC (pe _) jcf)) (by decide) g2 rfl rfl).imp fun σ H Q ⟨ς,G,b,st,e,k⟩=>?_
   have eb:decide (x.c=m)=b:=Yan e
   have e2:decide (clsN x.c=clsN m)=b:=by
    rw [<- eb]
    obtain ⟨_,m2,_⟩:=je0 (ba q').2
    by_cases z:x.c=m
    ·simp [z]
    ·have:clsN x.c≠clsN m:=fun y=>z (jfi _ h.hi _ m2 y)
     simp [z,this]
   obtain ⟨_,_,_,l,hl,_⟩:=st.xd
   exact ⟨_,st.en,rfl,⟨l,hl⟩,by rw [e2]; exact k H st.hr (Fr.refl _ _)⟩
  | isi ks=>
   have q':(glo c "isinstance" && ks.all (okC T.cs c) && decide (ks.length<=8))=true:=q
   obtain ⟨g1,g2⟩:=h.gl (ba (ba q').1).1
   obtain ⟨xs,Cs,exs,mn,ln,pa⟩:=h.pcs (ba (ba q').1).2 (cl (hd (cl hx).tail))
   refine PE.imp (h.isiT g1 g2 mn pa) fun σ H Q ⟨ς,G,b,st,e,k⟩=>?_
   have eb:ks.contains x.c=b:=Yan e
   have e2:xs.contains (clsN x.c)=b:=by
    rw [<- eb,exs]
    have all:∀ m∈ks,m < 6:=fun m hm=>(je0 (Yee.mp (ba (ba q').1).2 m hm)).2.1
    rw [YbU]
    simp only [List.contains_iff_mem,List.mem_map]
    constructor
    ·rintro ⟨m,hm,em⟩
     have:=jfi _ (all m hm) _ h.hi em
     rw [<- this]; exact hm
    ·intro hm
     exact ⟨_,hm,rfl⟩
   refine ⟨st.en,?_,fun p hp=>⟨?_,?_⟩⟩
   ·have:=of_decide_eq_true (ba q').2
    omega
   ·obtain ⟨_,_,_,l,hl,_⟩:=(st.fr (st.hr.newT hp) (Fr.new hp)).xd
    exact ⟨l,hl⟩
   ·rw [e2]; exact k _ (st.hr.newT hp) (Fr.new hp)
 refine ⟨fin,?_⟩
 have tr:∀ whole,isTrue (unHL c n l hx) X.env whole=(do let v <- whole; standAt (unHL c n l hx).pos; holding [v] (truthy v)):=by
  intro whole
  cases l <;> rfl
 refine (jk9 fin tr).imp fun σ H Q ⟨ς,G,b,st,e,k⟩=>?_
 exact ⟨ς,G,b,st,e,fun H' a f=>⟨b,rfl,k H' a f⟩⟩
theorem HC.litN (h:HC T X c n ea C dx x){p:Bool×HL}(q:okHL T.cs c p.2=true)(hx:Expr):PE X (jd8 c n p hx) (hB X n ea C dx x fun ς=>lit1 x ς p)/\PT X (jd8 c n p hx) (hT X n ea C dx x fun ς=>lit1 x ς p):=by
 obtain ⟨neg,l⟩:=p
 cases neg with
 | false=>
  obtain ⟨h1,h2⟩:=h.lit q hx
  refine ⟨PE.imp h1 fun σ H Q ⟨ς,G,b,st,e,k⟩=>⟨ς,G,b,st,?_,k⟩,PT.imp h2 fun σ H Q ⟨ς,G,b,st,e,k⟩=>⟨ς,G,b,st,?_,k⟩⟩ <;>
  ·unfold lit1 at e
   dsimp only at e
   split at e
   ·rename_i b' eb
    show litH x ς l=some b
    rw [eb]; simpa using e
   ·cases e
 | true=>
  obtain ⟨h1,h2⟩:=h.lit q (c0 hx)
  refine ⟨PE.imp (jlk h1) fun σ H Q ⟨ς,G,b,st,e,k⟩=>⟨ς,G,!b,st,?_,fun H' a f=>⟨!b,rfl,by rw [Ye7]; exact k H' a f⟩⟩,PT.imp (jiq h2) fun σ H Q ⟨ς,G,b,st,e,k⟩=>⟨ς,G,!b,st,?_,fun H' a f=>by show Q (!!b) H'; rw [Ye7]; exact k H' a f⟩⟩ <;>
  ·unfold lit1 at e
   dsimp only at e
   split at e
   ·rename_i b' eb
    show litH x ς l=some (!b)
    rw [eb]
    have:(!b')=b:=by simpa using e
    rw [<- this,Ye7]
   ·cases e
theorem HC.conds (h : HC T X c n ea C dx x)(k : Bool) : ∀ (as : List (Bool × HL)) (a : Bool × HL) (hx : Expr) (hs : List Expr) (pos : Pos), okHL T.cs c a.2 = true -> jch T.cs c as = true ->
    PE X (.BoolOp (boU k) (jd8 c n a hx :: jeK c n as hs) pos) (hB X n ea C dx x fun ς => jbp x ς k a as) /\ PW X (.BoolOp (boU k) (jd8 c n a hx :: jeK c n as hs) pos) (hT X n ea C dx x fun ς => jbp x ς k a as)
  | [], a, hx, hs, pos, q, _ => by
    obtain ⟨h1, h2⟩ := h.litN q hx
    cases k with
    | true => exact ⟨jeZ h1, pw_and1 h2⟩
    | false => exact ⟨jeZ h1, pw_or1 h2⟩
  | b :: r, a, hx, hs, pos, q, qs => by
    unfold jch at qs
    simp only [Ybw, Yap] at qs
    obtain ⟨h1, h2⟩ := h.litN q hx
    obtain ⟨r1, r2⟩ := h.conds k r b (hd hs) hs.tail pos qs.1 qs.2
    have red : ∀ {ς : Sg} {t b' : Bool}, lit1 x ς a = some t -> jbp x ς k a (b :: r) = some b' -> (if t = k then jbp x ς k b r else some t) = some b' := fun {ς t b'} e1 e2 => by
      have e3 : (match lit1 x ς a with | some t => if t = k then jbp x ς k b r else some t | none => none) = some b' := e2
      rw [e1] at e3
      exact e3
    have some1 : ∀ {ς : Sg} {b' : Bool}, jbp x ς k a (b :: r) = some b' -> ∃ t, lit1 x ς a = some t := fun {ς b'} e2 => by
      have e3 : (match lit1 x ς a with | some t => if t = k then jbp x ς k b r else some t | none => none) = some b' := e2
      cases z : lit1 x ς a with
      | none => rw [z] at e3; cases e3
      | some t => exact ⟨t, rfl⟩
    cases k with
    | true =>
      refine ⟨PE.imp (jlo h1 r1) fun σ H Q ⟨ς, G, b', st, e, kk⟩ => ?_, PW.imp (pw_and h2 r2) fun σ H Q ⟨ς, G, b', st, e, kk⟩ => ?_⟩ <;>
      · obtain ⟨t, et⟩ := some1 e
        have e' := red et e
        first
          | (refine ⟨ς, G, t, st, et, fun H' hr f => ⟨t, rfl, ?_⟩⟩
             cases t with
             | true => exact ⟨ς, G, b', st.fr hr f, by simpa using e', fun H'' a b => kk H'' a (f.trans b)⟩
             | false => cases (by simpa using e' : false = b'); exact kk H' hr f)
          | (refine ⟨ς, G, t, st, et, fun H' hr f => ?_⟩
             cases t with
             | true => exact ⟨ς, G, b', st.fr hr f, by simpa using e', fun H'' a b => kk H'' a (f.trans b)⟩
             | false => cases (by simpa using e' : false = b'); exact kk H' hr f)
    | false =>
      refine ⟨PE.imp (jnK h1 r1) fun σ H Q ⟨ς, G, b', st, e, kk⟩ => ?_, PW.imp (pw_or h2 r2) fun σ H Q ⟨ς, G, b', st, e, kk⟩ => ?_⟩ <;>
      · obtain ⟨t, et⟩ := some1 e
        have e' := red et e
        first
          | (refine ⟨ς, G, t, st, et, fun H' hr f => ⟨t, rfl, ?_⟩⟩
             cases t with
             | false => exact ⟨ς, G, b', st.fr hr f, by simpa using e', fun H'' a b => kk H'' a (f.trans b)⟩
             | true => cases (by simpa using e' : true = b'); exact kk H' hr f)
          | (refine ⟨ς, G, t, st, et, fun H' hr f => ?_⟩
             cases t with
             | false => exact ⟨ς, G, b', st.fr hr f, by simpa using e', fun H'' a b => kk H'' a (f.trans b)⟩
             | true => cases (by simpa using e' : true = b'); exact kk H' hr f)
theorem HC.cond (h:HC T X c n ea C dx x)(k:Bool)(a:Bool×HL)(as:List (Bool×HL))(hx:Expr)(q:okHL T.cs c a.2=true)(qs:jch T.cs c as=true) :
  PE X (jeL c n k a as hx) (hB X n ea C dx x fun ς=>jbp x ς k a as)/\PT X (jeL c n k a as hx) (hT X n ea C dx x fun ς=>jbp x ς k a as):=by
 cases as with
 | nil=>exact h.litN q hx
 | cons b r=>let z:=h.conds k (b::r) a (hd (cl hx)) (cl hx).tail hx.pos q qs; exact ⟨z.1,z.2.pt⟩
noncomputable def hV (X:Cx)(n:Nat)(ea C dx:Addr)(x:XV)(f:Sg->Gp->K1->Prop):TE:=fun σ H Q0=>∃ ς G Q,HSt X n ea C dx x σ H ς G/\f ς G Q/\LV X H G Q Q0
theorem jfK {K:Yaa}{H:Hp}{f:Str}{u:U}:∀ {l:List (Str×V)} {us:List U},RUs K H us (l.map (·.2))->((l.map (·.1)).zip us).lookup f=some u->∃ v,l.lookup f=some v/\RU K H u v
 | [],us,_,e=>by simp at e
 | (y,v)::l,[],r,e=>by simp at e
 | (y,v)::l,w::us,r,e=>by
  obtain ⟨v',vr,ev,r1,rs⟩:=r
  simp only [Yas,Yfh] at ev
  obtain ⟨rfl,rfl⟩:=ev
  simp only [Yas,YdS,YaJ] at e ⊢
  split at e
  ·rename_i z
   cases e
   exact ⟨v,rfl,r1⟩
  ·rename_i z
   obtain ⟨v',h1,h2⟩:=jfK rs e
   exact ⟨v',h1,h2⟩
theorem XD.get {K:Yaa}{H:Hp}{f:Str}{u:U}(xd:XD K H C dx x)(e:atH x (.att f)=some u):∃ l v,H dx=some (.xd l)/\l.lookup f=some v/\RU K H u v:=by
 obtain ⟨_,_,_,l,hl,hn,r⟩:=xd
 have e':((clsF x.c).zip x.fs).lookup f=some u:=e
 rw [<- hn] at e'
 obtain ⟨v,h1,h2⟩:=jfK r e'
 exact ⟨l,v,hl,h1,h2⟩
theorem HC.at (h:HC T X c n ea C dx x){a:HA}(q:okHA a=true)(hx:Expr):PE X (unHA c n a hx) (fun σ H Q0=>∃ ς G u,HSt X n ea C dx x σ H ς G/\atH x a=some u/\∀ v,RU X.K H u v->Q0 v H):=by
 cases a with
 | str y=>exact PE.imp jir fun σ H Q ⟨ς,G,u,st,e,k⟩=>by cases e; exact k _ rfl
 | att f=>
  have hf:f∈fldN:=by simpa [okHA] using q
  refine PE.imp (jjx h.me h.pin hf h.pe rfl) fun σ H Q ⟨ς,G,u,st,e,k⟩=>?_
  obtain ⟨l,v,hl,h1,h2⟩:=st.xd.get e
  exact ⟨_,st.en,rfl,l,v,hl,h1,k v h2⟩
theorem jkb (a:HA)(hx:Expr)(es:List Expr)(env:Env):Yar (unHA c n a hx::es) env=(false,eval (unHA c n a hx) env)::Yar es env:=by cases a <;> rfl
theorem HC.ats (h:HC T X c n ea C dx x):∀ {as:List HA} (_:as.all okHA=true) (hs:List Expr),PA X (jhn c n as hs) (fun σ H Q0=>∃ ς G us,HSt X n ea C dx x σ H ς G/\atsH x as=some us/\∀ vs,RUs X.K H us vs->Q0 vs H)
 | [],_,_=>fun pos pins s σ H Q0 I ⟨ς,G,us,st,e,k⟩=>by cases e; exact jcf pos pins s σ H Q0 I (k [] rfl)
 | a::r,q,hs=>by
  simp only [Ybw,Yap] at q
  refine PA.imp (jaC (h.at q.1 (hd hs)) (h.ats q.2 hs.tail) (jkb a _ _ _)) fun σ H Q0 ⟨ς,G,us,st,e,k⟩=>?_
  have e':(match atH x a,atsH x r with | some u,some us=>some (u::us) | _,_=>none)=some us:=e
  split at e'
  ·rename_i u us' e1 e2
   cases e'
   exact ⟨ς,G,u,st,e1,fun v rv=>⟨ς,G,us',st,e2,fun vs rvs=>k (v::vs) ⟨v,vs,rfl,rv,rvs⟩⟩⟩
  ·cases e'
theorem jeB:∀ {as:List HA} {us:List U},atsH x as=some us->us.length=as.length
 | [],us,e=>by cases e; rfl
 | a::r,us,e=>by
  have e':(match atH x a,atsH x r with | some u,some us=>some (u::us) | _,_=>none)=some us:=e
  split at e'
  ·rename_i u us' e1 e2
   cases e'
   simp [jeB e2]
  ·cases e'
theorem HC.val (h:HC T X c n ea C dx x){e:HV}(q:okHV T.cs c e=true)(hx:Expr):PE X (unHV c n e hx) (hV X n ea C dx x fun ς G Q=>hvH x ς e G Q):=by
 cases e with
 | cond k a as=>
  have q':(okHL T.cs c a.2 && jch T.cs c as)=true:=q
  refine PE.imp (h.cond k a as hx (ba q').1 (ba q').2).1 fun σ H Q0 ⟨ς,G,Q,st,e,lv⟩=>?_
  have e':(match jbp x ς k a as with | some b=>Q (.bl b) G | none=>False):=e
  split at e'
  ·rename_i b eb
   exact ⟨ς,G,b,st,eb,fun H' hr f=>lv (.bl b) (.bl b) G H' rfl hr f e'⟩
  ·exact e'.elim
 | one a=>
  refine PE.imp (h.at (show okHA a=true from q) hx) fun σ H Q0 ⟨ς,G,Q,st,e,lv⟩=>?_
  have e':(match atH x a with | some u=>Q u G | none=>False):=e
  split at e'
  ·rename_i u eu
   exact ⟨ς,G,u,st,eu,fun v rv=>lv.here rv st.hr e'⟩
  ·exact e'.elim
 | bl b=>exact PE.imp jln fun σ H Q0 ⟨ς,G,Q,st,e,lv⟩=>lv.bl st.hr e
 | tup as=>
  have q':(as.all okHA && decide (as.length<=8))=true:=q
  refine PE.imp (jge (h.ats (ba q').1 (cl hx))) fun σ H Q0 ⟨ς,G,Q,st,e,lv⟩=>?_
  have e':(match atsH x as with | some us=>Q (.tup us) G | none=>False):=e
  split at e'
  ·rename_i us eu
   refine ⟨ς,G,us,st,eu,fun vs rvs=>⟨?_,fun p hp=>lv.tup hp rvs st.hr e'⟩⟩
   have:=of_decide_eq_true (ba q').2
   rw [<- rvs.length,jeB eu,YbJ]; omega
  ·exact e'.elim
 | lst as=>
  have q':(as.all okHA && decide (as.length<=8))=true:=q
  refine PE.imp (jis (h.ats (ba q').1 (cl hx))) fun σ H Q0 ⟨ς,G,Q,st,e,lv⟩=>?_
  have e':(match atsH x as with | some us=>newO G (.lst us) Q | none=>False):=e
  split at e'
  ·rename_i us eu
   refine ⟨ς,G,us,st,eu,fun vs rvs=>⟨?_,fun p hp=>lv.lst hp rvs st.hr e'⟩⟩
   have:=of_decide_eq_true (ba q').2
   rw [<- rvs.length,jeB eu,YbJ]; omega
  ·exact e'.elim
theorem jgP (e:HV)(hx:Expr)(y:Str)(p:Pos)(env:Env)(l:Nat):Yby [.Name y p] (unHV c n e hx) l env=pure false/\Ybt [.Name y p] (unHV c n e hx) env=pure none:=by
 cases e with
 | cond k a as=>
  cases as with
  | nil=>
   obtain ⟨neg,l⟩:=a
   cases neg <;> cases l <;> exact ⟨rfl,rfl⟩
  | cons=>exact ⟨rfl,rfl⟩
 | one a=>cases a <;> exact ⟨rfl,rfl⟩
 | _=>exact ⟨rfl,rfl⟩
theorem HC.store (h:HC T X c n ea C dx x){i:Nat}(q:okN c i=true){p:Pos}:PG X (.Name (nmA c i) p) (jgS i):=by
 have q':(decide (i < c.N.length) && (kd c (nmA c i) .local || kd c (nmA c i) .cell))=true:=q
 have v:=(ba q').2
 simp only [YcI] at v
 rcases v with v | v
 ·exact jeg (by rw [h.hN]; exact h.nd) (by rw [h.hN]; exact jgt (ba q').1) (.inl (h.loc _ v)) (.inr (h.loc _ v))
 ·exact jeg (by rw [h.hN]; exact h.nd) (by rw [h.hN]; exact jgt (ba q').1) (.inr (h.cel _ v).1) (.inl (h.cel _ v).2)
theorem HSt.set {σ:St}{H:Hp}{ς:Sg}{G:Gp}{i:Nat}{u:U}{v:V}(h:HSt X n ea C dx x σ H ς G)(hi:i≠n)(r:RU X.K H u v):HSt X n ea C dx x (σ.set i (some v)) H (ς.set i (some u)) G:=
 ⟨h.sr.set r i,h.hr,by rw [YaS hi]; exact h.en,h.xd⟩
theorem HC.asg (h:HC T X c n ea C dx x){i:Nat}{e:HV}(qi:okN c i=true)(hi:i≠n)(qe:okHV T.cs c e=true)(st:Stmt) :
  PS X (jiY c n i e st) (fun D σ H=>∃ (ς:Sg) (G:Gp) (k:Sg->Gp->Prop),HSt X n ea C dx x σ H ς G/\hvH x ς e G (fun u G1=>k (ς.set i (some u)) G1)/\∀ ς' σ' G' H',HSt X n ea C dx x σ' H' ς' G'->Fr H G H' G'->k ς' G'->D.nx σ' H'):=by
 refine PS.imp (jeW (h.val qe (q0 st)) (h.store qi) (jgP e _ _ _ _ _).1 (jgP e _ _ _ _ 0).2 rfl) fun D σ H ⟨ς,G,k,hs,hv,fin⟩=>?_
 exact ⟨ς,G,_,hs,hv,fun u v G' H' r hr f q=>fin _ _ G' H' ((hs.fr hr f).set hi r) f q⟩
noncomputable def hS (X:Cx)(n:Nat)(ea C dx:Addr)(x:XV)(hs:List HS):L2.TS:=fun D σ H=>∃ ς G k,HSt X n ea C dx x σ H ς G/\hsH x hs ς G k/\∀ ς' σ' G' H',HSt X n ea C dx x σ' H' ς' G'->Fr H G H' G'->k ς' G'->D.nx σ' H'
theorem HC.stmts (h:HC T X c n ea C dx x):∀ {hs:List HS} (_:hs.all (okHS T.cs c n)=true) (sts:List Stmt),PSs X (jd9 c n hs sts) (hS X n ea C dx x hs)
 | [],_,_=>PSs.imp jef fun D σ H ⟨ς,G,k,st,q,fin⟩=>fin ς σ G H st (Fr.refl _ _) q
 | .asg i e::r,q,sts=>by
  simp only [Ybw,Yap] at q
  have q1:(okN c i && decide (i≠n) && okHV T.cs c e)=true:=q.1
  refine PSs.imp (jc6 (h.asg (ba (ba q1).1).1 (of_decide_eq_true (ba (ba q1).1).2) (ba q1).2 (qh sts)) (h.stmts q.2 sts.tail)) fun D σ H ⟨ς,G,k,st,hq,fin⟩=>?_
  exact ⟨ς,G,fun ς1 G1=>hsH x r ς1 G1 k,st,hq,fun ς' σ' G' H' st' f q'=>⟨ς',G',k,st',q',fun ς2 σ2 G2 H2 st2 f2 q2=>fin ς2 σ2 G2 H2 st2 (f.trans f2) q2⟩⟩
 | .ifa kk a as i e::r,q,sts=>by
  simp only [Ybw,Yap] at q
  have q1:(okHL T.cs c a.2 && jch T.cs c as && okN c i && decide (i≠n) && okHV T.cs c e)=true:=q.1
  have p1:=jlc (pos:=(qh sts).pos) (h.cond kk a as (q0 (qh sts)) (ba (ba (ba (ba q1).1).1).1).1 (ba (ba (ba (ba q1).1).1).1).2).2 (jjk (h.asg (ba (ba (ba q1).1).1).2 (of_decide_eq_true (ba (ba q1).1).2) (ba q1).2 (qh (qa (qh sts))))) jef
  refine PSs.imp (jc6 p1 (h.stmts q.2 sts.tail)) fun D σ H ⟨ς,G,k,st,hq,fin⟩=>?_
  have nxt:∀ ς' σ' G' H',HSt X n ea C dx x σ' H' ς' G'->Fr H G H' G'->hsH x r ς' G' k->hS X n ea C dx x r D σ' H':=fun ς' σ' G' H' st' f q'=>⟨ς',G',k,st',q',fun ς2 σ2 G2 H2 st2 f2 q2=>fin ς2 σ2 G2 H2 st2 (f.trans f2) q2⟩
  have hq':(match jbp x ς kk a as with | some true=>hvH x ς e G fun u G1=>hsH x r (ς.set i (some u)) G1 k | some false=>hsH x r ς G k | none=>False):=hq
  split at hq'
  ·rename_i ec
   refine ⟨ς,G,true,st,ec,fun H' hr f=>?_⟩
   refine iteT ?_
   exact ⟨ς,G,fun ς1 G1=>hsH x r ς1 G1 k,st.fr hr f,hq',fun ς' σ' G' H'' st' f' q'=>nxt ς' σ' G' H'' st' (f.trans f') q'⟩
  ·rename_i ec
   refine ⟨ς,G,false,st,ec,fun H' hr f=>?_⟩
   refine iteF ?_
   exact nxt ς σ G H' (st.fr hr f) f hq'
  ·exact hq'.elim
end
theorem SR.hide {K:Yaa}{H:Hp}{ς:Sg}{σ:St}(h:SR K H ς σ)(n:Nat)(o:Option V):SR K H (ς.set n none) (σ.set n o):=by
 refine ⟨by simp [h.1],fun i u e=>?_⟩
 by_cases z:i=n
 ·subst z
  rw [List.getElem?_set] at e
  simp only [if_true] at e
  split at e <;> cases e
 ·rw [YaS (Ne.symm z)] at e ⊢
  exact h.2 i u e
section
variable {T:Tab}{k:Nat}{X:Cx}{c:Ctx}
theorem s_try {n m:Nat}{b:List Stmt}{hs:List HS}{sts:List Stmt}{tb:US}{pt ph pos:Pos}(C:Cos T k X c)(hm:decide (m=0)=true)(hg:glo c (clsN m)=true)(hn:decide (n < c.N.length)=true)(hl:kd c (nmA c n) .local=true)(hd1:(nmA c n == ("__debug__" : Str))=false)(hd2:(nmA c n == ("__classdict__" : Str))=false)
  (hne:hs.isEmpty=false) (hok:hs.all (okHS T.cs c n)=true) (hb:∀ (pins:List (Addr×Obj)) (xe:Value->Shared->Prop),Yel (model X.prog X.w) X.A X.env xe->PSs (X.tryC pins xe) b (lS (X.tryC pins xe) tb)) :
  PS X (.Try b [.ExceptHandler (some (.Name (clsN m) pt)) (some (nmA c n)) (jd9 c n hs sts) ph] [] [] pos)
   (lS X fun D ς G=>tb { D with ex:=fun x ς1 G1=>(m=0\/x.c=m)/\hsH x hs (ς1.set n none) G1 fun ς2 G2=>D.nx (ς2.set n none) G2 } ς G):=by
 intro pins s σ H D I ⟨De,ς,G,hς,hG,h0,ld⟩
 obtain ⟨s0,sr,hse⟩:∃ s0 sr,jd9 c n hs sts=s0::sr:=by
  cases hs with
  | nil=>cases hne
  | cons a r=>exact ⟨_,_,rfl⟩
 have nd:X.N.Nodup:=by rw [C.hN]; exact C.nd
 have hi:X.N[n]?=some (nmA c n):=C.toCok.nm hn
 have hlc:=C.loc _ hl
 obtain ⟨gl1,gl2⟩:=C.toCok.gl hg
 let XT:Value->Shared->Prop:=fun e s₁=>wpAny (model X.prog X.w) X.A (Yf0 e X.env) (fun _ s₂=>wpAny (model X.prog X.w) X.A (Yeh e none) (fun _ s₃=>wpAny (model X.prog X.w) X.A (handleBy e X.env [.ExceptHandler (some (.Name (clsN m) pt)) (some (nmA c n)) (jd9 c n hs sts) ph]) (SP X pins D) X.xe s₃) X.xe s₂) X.xe s₁
 have main:∀ (pins':List (Addr×Obj)) (e:Value) (s':Shared) (x:XV) ς' σ' G' H',Inv (X.tryC pins XT) pins' σ' H' s'->SR X.K H' ς' σ'->XAt (X.tryC pins XT) H' s' e x->HR X.K H' G'->Fr H G H' G'->((m=0\/x.c=m)/\hsH x hs (ς'.set n none) G' fun ς2 G2=>De.nx (ς2.set n none) G2)->XT e s':=by
  intro pins' e s' x ς' σ' G' H' I' sr' xat hr' f' ⟨hmx,hq⟩
  obtain ⟨ea,C0,dx,rfl,l,xd⟩:=xat
  have xd0:=xd
  obtain ⟨x1,x2,xc,lx,hlx,hnx,rx⟩:=xd0
  have I0:Inv (X.tryC pins XT) [] σ' H' s':=I'.pins_of fun p hp=>absurd hp (by simp)
  refine jgB (X:=X.tryC pins XT) (E:=X.xe) I0 C.stk.1 C.stk.2 l fun h' J l'=>?_
  refine wpAny_handleBy_cons ?_ (by intro z; cases z)
  refine codeAny_handlers_test ?_
  have J':Inv ((X.tryC pins XT).inH (.ref ea) []) [] σ' H' { s' with heap:=h' }:=J.hIn fun q hq=>absurd hq (by simp)
  have fin:∀ s2:Shared,s2={ s' with heap:=h' }->codeAny (model X.prog X.w) (X.A.mark (some (.ref ea))) (Code.handlers (.ref ea) [.ExceptHandler none (some (nmA c n)) (jd9 c n hs sts) ph] X.env)
    (fun r s₂=>match r with
     | .ok f=>wpAny (model X.prog X.w) X.A (do bindName X.env (nmA c n) .none; unbindBehindTheSuite X.env (nmA c n) ph) (fun _ s₃=>SP X pins D f s₃) X.xe s₂
     | .error y=>cameBackBy (model X.prog X.w) X.A X.env X.xe y s₂) s2:=by
   intro s2 es2
   subst es2
   rw [hse]
   refine codeAny_handlers_suite_as ?_
   refine jdT (X:=X.tryC pins XT) J l' fun h2 J2 l2=>?_
   obtain ⟨oe,g1,g2,g3,⟨vs,g4⟩,g5⟩:=l2.pinned J2
   have J3:Inv ((X.tryC pins XT).inH (.ref ea) [(ea,oe)]) [] σ' H' { s' with heap:=h2 }:=J2.hIn g5
   refine jb0 (X:=(X.tryC pins XT).inH (.ref ea) [(ea,oe)]) (v:=.ref ea) J3 nd hi (.inl hlc) rfl (fun s3 J4=>?_) (.inr hlc)
   have hc:HC T ((X.tryC pins XT).inH (.ref ea) [(ea,oe)]) c n ea C0 dx x:=⟨C.hN,C.nd,C.loc,C.cel,C.fre,C.glb,C.blt,C.cls,xc,x1,x2,⟨oe,vs,by simp only [Cx.inH]; exact YaA _ (List.mem_singleton.mpr rfl),g2,g3,g4⟩,C.mgK,of_decide_eq_true hn,hl,hd1,hd2⟩
   have hσ:n < σ'.length:=by
    have:=J3.len
    rw [this]
    exact (List.getElem?_eq_some_iff.mp hi).1
   have hst:HSt ((X.tryC pins XT).inH (.ref ea) [(ea,oe)]) n ea C0 dx x (σ'.set n (some (.ref ea))) H' (ς'.set n none) G':=⟨sr'.hide n _,hr',by rw [Ybf hσ],xd⟩
   rw [<- hse]
   refine YaL (hc.stmts hok sts [] s3 _ H' ⟨fun σ2 H2=>D.nx (σ2.set n none) H2,fun _ _=>False,fun _ _=>False,fun _ _=>False⟩ J4 ⟨_,G',_,hst,hq,fun ς2 σ2 G2 H2 st2 f2 q2=>?_⟩) (fun fl s4 q4=>?_) fun _ _ z=>Ybk z
   ·exact ld.nx _ _ G2 H2 (st2.sr.hide n none) st2.hr (f'.trans f2) q2
   ·cases fl with
    | next=>
     obtain ⟨σ2,H2,J5,q5⟩:=q4
     exact jgw (X:=X.tryC pins XT) (J5.hOut J.ok) nd hi hlc fun s5 J6=>⟨σ2.set n none,H2,J6.tryOut,q5⟩
    | brk=>obtain ⟨_,_,_,z⟩:=q4; exact z.elim
    | cont=>obtain ⟨_,_,_,z⟩:=q4; exact z.elim
    | ret u=>obtain ⟨_,_,_,_,_,z⟩:=q4; exact z.elim
  obtain ⟨oe,vs,he,hcl,_⟩:=l'.ob
  by_cases m0:m=0
  ·obtain ⟨D0,N0,fI,mN,mD,B,_⟩:=xc.ex
   have hmg:X.mg (clsN m)=some (.ref D0):=by rw [m0]; exact C.mgK _ _ B.m
   refine jbM J' gl1 hmg ?_ gl2
   refine jfw (X:=X) xc B J'.kIn he hcl ?_
   exact fin _ rfl
  ·exact absurd (of_decide_eq_true hm) m0
 refine wpAny_Try_except (YaL (hb pins XT Ye1 [] s σ H ⟨D.nx,D.rt,D.bk,D.ct⟩ I.tryIn ⟨_,ς,G,hς,hG,h0,⟨ld.nx,ld.rt,main⟩⟩) (fun fl s1 q1=>?_) fun e s1 z=>z)
 cases fl with
 | next=>
  obtain ⟨σ',H',J,q⟩:=q1
  exact YdD ⟨σ',H',J.tryOut,q⟩
 | brk=>obtain ⟨σ',H',J,q⟩:=q1; exact ⟨σ',H',J.tryOut,q⟩
 | cont=>obtain ⟨σ',H',J,q⟩:=q1; exact ⟨σ',H',J.tryOut,q⟩
 | ret u=>obtain ⟨v,σ',H',J,r,q⟩:=q1; exact ⟨v,σ',H',J.tryOut,r,q⟩
end
section
variable {T:Tab}{k:Nat}
theorem jjX (b:Blt):bltN b∈jbV:=by cases b <;> decide
noncomputable abbrev SE (T:Tab)(k:Nat)(X:Cx)(c:Ctx)(ir:E)(h:Expr):Prop:=PE X (unE T c ir h) (lE X (den T.gs (jad T k) ir).1)/\PT X (unE T c ir h) (lT X (den T.gs (jad T k) ir).2)
section
variable {X:Cx}{c:Ctx}
theorem tru {e:Expr}{t:UE}(h:PE X e (lE X t))(hp:∀ whole,isTrue e X.env whole=(do let v <- whole; standAt e.pos; holding [v] (truthy v))):PE X e (lE X t)/\PT X e (lT X (truT t)):=⟨h,jkA h hp⟩
theorem jk2 {a b:Expr}{rest:List Expr}{pos:Pos}{p q:UE×UT}(ha:PE X a (lE X p.1)/\PT X a (lT X p.2))(hb:PE X (.BoolOp .And (b::rest) pos) (lE X q.1)/\PW X (.BoolOp .And (b::rest) pos) (lT X q.2)) :
  PE X (.BoolOp .And (a::b::rest) pos) (lE X (comb true p q).1)/\PW X (.BoolOp .And (a::b::rest) pos) (lT X (comb true p q).2):=⟨jnh ha.1 hb.1,jkI ha.2 hb.2⟩
theorem jny {a b:Expr}{rest:List Expr}{pos:Pos}{p q:UE×UT}(ha:PE X a (lE X p.1)/\PT X a (lT X p.2))(hb:PE X (.BoolOp .Or (b::rest) pos) (lE X q.1)/\PW X (.BoolOp .Or (b::rest) pos) (lT X q.2)) :
  PE X (.BoolOp .Or (a::b::rest) pos) (lE X (comb false p q).1)/\PW X (.BoolOp .Or (a::b::rest) pos) (lT X (comb false p q).2):=⟨u_or ha.1 hb.1,jm5 ha.2 hb.2⟩
theorem se_v {i:Nat}{h:Expr}(C:Cok T k X c)(q:okE T c (.v i) h=true):SE T k X c (.v i) h:=tru (jmZ (C.nm (ba (ba (ba q).1).1).1) (C.vis (ba (ba (ba q).1).1).2) (bn (ba (ba q).1).2) (bn (ba q).2)) fun _=>rfl
theorem jkV {i:Nat}{y0 a b:Str}{es:List Expr}{ts:UA}{k0 k1 k2 k3:Nat}{p0 p1 p2 p3 p4 p5 p6 p7 p8:Pos}(C:Cok T k X c)(q:(decide (i < c.N.length) && (kd c (nmA c i) .local || kd c (nmA c i) .cell || kd c (nmA c i) .free) && !(nmA c i == ("__debug__" : Str)) && !(nmA c i == ("__classdict__" : Str)))=true)
  (hy0:(y0.length == 0)=false) (hab:(a == b)=false) (hl:(a.length == 0 && b.length == 0)=false) (hline:(p4.endLine == p8.line)=true) (hr:PA X es (lA X ts)) :
  PA X (.BinOp (.Constant (.str y0) k0 p0) .Add (.Name (nmA c i) p1) p2::.Call (.Attribute (.Name (nmA c i) p3) "replace" p4) [.Constant (.str a) k1 p5,.Constant (.str b) k2 p6,.Constant (.int 1) k3 p7] [] p8::es)
   (lA X fun ς G Q E=>slot ς i fun u=>repU y0 b u fun z w=>ts ς G (fun us G2=>Q (.str z::.str w::us) G2) E):=
 jm4 (C.nm (ba (ba (ba q).1).1).1) (C.vis (ba (ba (ba q).1).1).2) (bn (ba (ba q).1).2) (bn (ba q).2) hy0 hab hl hline hr
theorem se_g {n:Nat}{h:Expr}(C:Cok T k X c)(q:okE T c (.g n) h=true):SE T k X c (.g n) h:=by
 have h1:=of_decide_eq_true (ba (ba q).1).1
 have h2:=of_decide_eq_true (ba (ba q).1).2
 have hn:T.gn[n]?=some (T.gn.getD n ""):=by rw [YaZ,Yat h2]; rfl
 obtain ⟨v,w,m,r,ru⟩:=C.gls n _ T.gs[n] hn (by simp [h1])
 obtain ⟨g1,g2⟩:=C.gl (ba q).2
 refine tru (PE.imp (u_gl (u:=T.gs[n]) g1 m r ru g2) fun σ H Q0 ⟨ς,G,Q,E,hς,hG,h,lv,lx⟩=>⟨ς,G,Q,E,hς,hG,?_,lv,lx⟩) fun _=>rfl
 have h':glU T.gs n fun u=>Q u G:=h
 unfold glU at h'
 rw [Yat h1] at h'
 exact h'
theorem jkW {es:Es}{h:Expr}{trs:List (TE×TE)}(h1:PPs X h.pos (unK T c es (dk h)) (unV T c es (cl h)) trs)(h2:lD X (denD T.gs (jad T k) es) trs)(h3:(unK T c es (dk h)).all (·.isSome)=true)(h4:(unK T c es (dk h)).length=(unV T c es (cl h)).length)
  (h5:(unK T c es (dk h)).length<=15):SE T k X c (.dic es) h:=by
 refine tru ?_ fun _=>rfl
 match es,h1,h2,h3,h4,h5 with
 | .nil,_,_,_,_,_=>exact PE.imp jkF fun σ H Q0 ⟨ς,G,Q,E,hς,hG,h,lv,lx⟩=>⟨ς,G,Q,E,hς,hG,(show ([]:List (Key×U)).length<=15/\newO G (.dK (jcx [])) Q from h).2,lv,lx⟩
 | .cons _ .nil,_,_,_,_,_=>exact fun pins s σ H Q0 I ⟨ς,G,Q,E,hς,hG,h,lv,lx⟩=>(show False from h).elim
 | .cons d (.cons f es),h1,h2,h3,h4,h5=>exact jnc h1 h2 h3 h4 (fun z=>nomatch z) h5
theorem jjg {n:Nat}{es:Es}{h:Expr}(C:Cok T k X c)(q:okE T c (.call n es) h=true)(ha:PA X (unEs T c es (cl h)) (lA X (jau T.gs (jad T k) es))):SE T k X c (.call n es) h:=by
 refine tru ?_ fun _=>rfl
 have hn:=of_decide_eq_true (ba (ba q).1).1
 have hd':T.funs[n]?=some T.funs[n]:=by simp [hn]
 have hx:T.funs[n].name=fnN T n:=by unfold fnN; rw [hd']
 match es,ha with
 | .nil,_=>exact ji0 C hd' hx (ba (ba q).1).2
 | .cons d es,ha=>exact jkH C hd' hx (ba (ba q).1).2 ha (jah (jal d _) _ _) (jbF es _ _ _).1
theorem jkX {b:Blt}{es:Es}{h:Expr}(C:Cok T k X c)(q:okE T c (.blt b es) h=true)(ha:PA X (unEs T c es (cl h)) (lA X (jau T.gs (jad T k) es))):SE T k X c (.blt b es) h:=by
 refine tru ?_ fun _=>rfl
 obtain ⟨g1,g2⟩:=C.gl (ba (ba q).1).2
 match es,ha,q with
 | .nil,_,q=>exact absurd (of_decide_eq_true (ba (ba q).1).1) (Ybi 0)
 | .cons d es,ha,_=>exact jne (jmp C.room C.calm b) g1 (C.blt _ (jjX b)) ha (jah (jal d _) _ _) (jbF es _ _ _).1
theorem jjf {m:Mth}{o:E}{es:Es}{h:Expr}(q:okE T c (.meth m o es) h=true)(ho:PE X (unE T c o (c0 (c0 h))) (lE X (den T.gs (jad T k) o).1))(ha:PA X (unEs T c es (cl h)) (lA X (jau T.gs (jad T k) es))):SE T k X c (.meth m o es) h:=by
 refine tru ?_ fun _=>rfl
 have h6:=(ba q).2
 have h5:=of_decide_eq_true (ba (ba q).1).2
 have h4:=(ba (ba (ba q).1).1).2
 match es,ha,h5 with
 | .nil,_,_=>exact jiZ (jiy m) ho (jhg h6 _ _ _) h4
 | .cons d es,ha,h5=>
  refine jkB (jiy m) ho ha (jhg h6 _ _ _) ?_ h4 (jah (jal d _) _ _) (jbF es _ _ _).1
  have e:=(jbF (T:=T) (c:=c) (.cons d es) (cl h) X.env h.pos).2
  show ((backTo h.pos (Yar (unEs T c (.cons d es) (cl h)) X.env)).all (fun x=>!x.1) && _ && decide ((unEs T c (.cons d es) (cl h)).length + 0 + 0 < 30))=true
  rw [e,jii]
  exact decide_eq_true h5
theorem s_r2 {a b:E}{h:Expr}{tg:Expr}(C:Cok T k X c)(g:glo c "range" = true)(ha:SE T k X c a (hd (cl h)))(hb:SE T k X c b (hd (cl h).tail)):PI X tg (unI T c (.r2 a b) h) (lI X (denI T.gs (jad T k) (.r2 a b))):=
 u_r2 (C.gl g).1 (C.blt _ (by decide)) ha.1 hb.1 (by rw [jah (jal a _),jah (jal b _)]; rfl) (jah (jal b _) _ _)
theorem jk0 {d:E}{e:Expr}(h:PT X e (lT X (den T.gs (jad T k) d).2)):PIfs X [e] (lT0 X.K (denC T.gs (jad T k) (.cons d .nil))):=by
 refine PIfs.imp (jju (lT0.of h)) fun σ H Q0 ⟨ς,G,Q,h1,h2,h3,h4⟩=>⟨ς,G,fun b G'=>Q b G',h1,h2,?_,h4⟩
 have h3':(den T.gs (jad T k) d).2 ς G (fun b G1=>if b=true then Q true G1 else Q false G1) (fun _ _=>False):=h3
 have e:(fun (b:Bool) (G1:Gp)=>if b=true then Q true G1 else Q false G1)=fun b G'=>Q b G':=by
  funext b G1
  cases b <;> simp
 rw [e] at h3'
 exact h3'
theorem jk1:PIfs X [] (lT0 X.K (denC T.gs (jad T k) .nil)):=PIfs.imp jjv fun σ H Q0 ⟨ς,G,Q,h1,h2,h3,h4⟩=>h4 true G H h2 (Fr.refl _ _) h3
theorem jlX:∀ (es:Es) (hs:List Expr),2 * (unK T c es hs).length<=jbL es
 | .nil,_=>Yaf _
 | .cons _ .nil,_=>Ybn _
 | .cons _ (.cons _ es),hs=>by
  have:=jlX es hs.tail
  show 2 * ((unK T c es hs.tail).length + 1)<=jbL es + 1 + 1
  omega
theorem k_le {es:Es}{hs:List Expr}(h:jbL es<=30):(unK T c es hs).length<=15:=by
 have:=jlX (T:=T) (c:=c) es hs
 omega
end
mutual
theorem sE:∀ (ir:E) {X:Cx} {c:Ctx} {h:Expr},Cok T k X c->okE T c ir h=true->SE T k X c ir h
 | .v _,_,_,_,C,q=>se_v C q
 | .non,_,_,_,_,_=>tru (jb7 (u:=.non) jll fun _=>rfl) fun _=>rfl
 | .bl b,_,_,_,_,_=>tru (jb7 (u:=.bl b) jln fun _=>rfl) fun _=>rfl
 | .int i,_,_,_,_,_=>tru (jb7 (u:=.int i) jit fun _=>rfl) fun _=>rfl
 | .str x,_,_,_,_,_=>tru (jb7 (u:=.str x) jir fun _=>rfl) fun _=>rfl
 | .g _,_,_,_,C,q=>se_g C q
 | .ty _,_,_,_,_,q=>nomatch q
 | .bin o a b,_,_,_,C,q=>tru (jnf (jlv o) (sE a C (ba q).1).1 (sE b C (ba q).2).1) fun _=>rfl
 | .neg a,_,_,_,C,q=>tru (jm7 (sE a C q).1) fun _=>rfl
 | .not a,_,_,_,C,q=>⟨jm6 (sE a C q).1,jij (sE a C q).2⟩
 | .bop k a es,_,_,h,C,q=>let r:=sB es k C (sE a C (ba q).1) (ba q).2 h.pos; ⟨r.1,r.2.pt⟩
 | .cmp o a b,_,_,_,C,q=>⟨jnd (jiM C.room o) (sE a C (ba (ba q).1).1).1 (sE b C (ba (ba q).1).2).1 (bn (ba q).2),jkG (jiM C.room o) (sE a C (ba (ba q).1).1).1 (sE b C (ba (ba q).1).2).1 (bn (ba q).2)⟩
 | .cmp2 _ _ _ _ _,_,_,_,_,q=>nomatch q
 | .ife t a b,_,_,_,C,q=>⟨jnb (sE t C (ba (ba q).1).1).2 (sE a C (ba (ba q).1).2).1 (sE b C (ba q).2).1,jkD (sE t C (ba (ba q).1).1).2 (sE a C (ba (ba q).1).2).2 (sE b C (ba q).2).2⟩
 | .tup es,_,_,_,C,q=>tru (jm0 (sEs es C q)) fun _=>rfl
 | .lst es,_,_,_,C,q=>tru (jkC (sEs es C q)) fun _=>rfl
 | .dic es,_,_,h,C,q=>let ⟨_,h1,h2,h3,h4⟩:=sD es C h.pos (ba q).1; jkW h1 h2 h3 h4 (k_le (of_decide_eq_true (ba q).2))
 | .dicT,_,_,_,_,q=>nomatch q
 | .ix a b,_,_,_,C,q=>tru (u_ix C.hu (sE a C (ba q).1).1 (sE b C (ba q).2).1 (jka (jal b _))) fun _=>rfl
 | .sl a lo hi,_,_,_,C,q=>tru (u_sl (sE a C (ba (ba q).1).1).1 (sO lo C (ba (ba q).1).2) (sO hi C (ba q).2)) fun _=>rfl
 | .rev a b,_,_,_,C,q=>tru (jm3 (sE a C (ba q).1).1 (sE b C (ba q).2).1) fun _=>rfl
 | .call _ es,_,_,_,C,q=>jjg C q (sEs es C (ba q).2)
 | .app _ _,_,_,_,_,_=>⟨fun _ _ _ _ _ _ ⟨_,_,_,_,_,_,h,_⟩=>(show False from h).elim,fun _ _ _ _ _ _ ⟨_,_,_,_,_,_,h,_⟩=>(show False from h).elim⟩
 | .blt _ es,_,_,_,C,q=>jkX C q (sEs es C (ba q).2)
 | .meth _ o es,_,_,_,C,q=>jjf q (sE o C (ba (ba (ba (ba q).1).1).1).1).1 (sEs es C (ba (ba (ba (ba q).1).1).1).2)
 | .lc _ t it ifs d,_,_,_,C,q=>let S:=C.comp (ba (ba (ba (ba (ba (ba q).1).1).1).1).1).1
   tru (u_lc C.calm S.1 (sI it t _ _ C (ba (ba (ba (ba q).1).1).1).2).1 (ba (ba (ba (ba (ba (ba q).1).1).1).1).1).2 (fun cl A s₀ H₀ fp=>sTg (S.2 cl A s₀ H₀ fp) t _ (ba (ba (ba (ba (ba q).1).1).1).1).2)
    (fun cl A s₀ H₀ fp=>sC ifs (S.2 cl A s₀ H₀ fp) (of_decide_eq_true (ba (ba q).1).2) (ba (ba (ba q).1).1).2) (fun cl A s₀ H₀ fp=>lE0.of (sE d (S.2 cl A s₀ H₀ fp) (ba q).2).1) (sI it t ⟨[],[]⟩ e0 C (ba (ba (ba (ba q).1).1).1).2).2) fun _=>rfl
 | .lc2 _ _ _ _ _ _ _ _,_,_,_,_,q=>nomatch q
 | .fst _,_,_,_,_,q=>nomatch q
 | .lrp d i _ _ _ es,_,_,_,C,q=>tru (jkC (jbu (sE d C (ba (ba (ba (ba (ba (ba q).1).1).1).1).1).1).1 (jkV C (ba (ba (ba (ba (ba q).1).1).1).1).2 (bn (ba (ba (ba (ba q).1).1).1).2) (bn (ba (ba (ba q).1).1).2) (bn (ba (ba q).1).2) (ba q).2 (sEs es C (ba (ba (ba (ba (ba (ba q).1).1).1).1).1).2)) (jah (jal d _) _ _))) fun _=>rfl
 | .sset _,_,_,_,_,q=>nomatch q
 | .mkD d,_,_,_,C,q=>tru (jna C.calm (C.gl (ba q).1).1 (C.blt _ (by decide)) (sE d C (ba q).2).1 (jah (jal d _) _ _)) fun _=>rfl
 | .maxD _,_,_,_,_,q=>nomatch q
 | .minD _,_,_,_,_,q=>nomatch q
 | .mkL d,_,_,_,C,q=>tru (jm9 (C.gl (ba q).1).1 (C.blt _ (by decide)) (sE d C (ba q).2).1 (jah (jal d _) _ _)) fun _=>rfl
 | .mkT d,_,_,_,C,q=>tru (jm8 (C.gl (ba q).1).1 (C.blt _ (by decide)) (sE d C (ba q).2).1 (jah (jal d _) _ _)) fun _=>rfl
 | .rngL _,_,_,_,_,q=>nomatch q
 | .rngT _,_,_,_,_,q=>nomatch q
 | .rngL2 _ _,_,_,_,_,q=>nomatch q
theorem sO:∀ (ir:Eo) {X:Cx} {c:Ctx} {h:Expr},Cok T k X c->okO T c ir h=true->PO X (unO T c ir h) (lO X (denO T.gs (jad T k) ir))
 | .no,_,_,_,_,_=>u_no
 | .so d,_,_,_,C,q=>u_so (sE d C q).1
theorem sEs:∀ (ir:Es) {X:Cx} {c:Ctx} {hs:List Expr},Cok T k X c->okEs T c ir hs=true->PA X (unEs T c ir hs) (lA X (jau T.gs (jad T k) ir))
 | .nil,_,_,_,_,_=>jea
 | .cons d ir,_,_,_,C,q=>jbu (sE d C (ba q).1).1 (sEs ir C (ba q).2) (jah (jal d _) _ _)
theorem sB:∀ (ir:Es) (b:Bool) {X:Cx} {c:Ctx} {hs:List Expr} {a:Expr} {p:UE×UT},Cok T k X c->PE X a (lE X p.1)/\PT X a (lT X p.2)->okEs T c ir hs=true->∀ pos:Pos,
  PE X (.BoolOp (boU b) (a::unEs T c ir hs) pos) (lE X (denB T.gs (jad T k) b p ir).1)/\PW X (.BoolOp (boU b) (a::unEs T c ir hs) pos) (lT X (denB T.gs (jad T k) b p ir).2)
 | .nil,true,_,_,_,_,_,_,ha,_,_=>⟨jeZ ha.1,pw_and1 ha.2⟩
 | .nil,false,_,_,_,_,_,_,ha,_,_=>⟨jeZ ha.1,pw_or1 ha.2⟩
 | .cons d ir,true,_,_,_,_,_,C,ha,q,pos=>jk2 ha (sB ir true C (sE d C (ba q).1) (ba q).2 pos)
 | .cons d ir,false,_,_,_,_,_,C,ha,q,pos=>jny ha (sB ir false C (sE d C (ba q).1) (ba q).2 pos)
theorem sC:∀ (ir:Es) {X:Cx} {c:Ctx} {hs:List Expr},Cok T k X c->jbL ir<=1->okEs T c ir hs=true->PIfs X (unEs T c ir hs) (lT0 X.K (denC T.gs (jad T k) ir))
 | .nil,_,_,_,_,_,_=>jk1
 | .cons d .nil,_,_,_,C,_,q=>jk0 (sE d C (ba q).1).2
 | .cons _ (.cons _ es),_,_,_,_,l,_=>absurd l (by show ¬ (jbL es + 1 + 1<=1); omega)
theorem sD:∀ (ir:Es) {X:Cx} {c:Ctx} {hs gs:List Expr},Cok T k X c->(p:Pos)->okD T c ir hs gs=true->∃ trs,PPs X p (unK T c ir hs) (unV T c ir gs) trs/\lD X (denD T.gs (jad T k) ir) trs/\(unK T c ir hs).all (·.isSome)=true/\(unK T c ir hs).length=(unV T c ir gs).length
 | .nil,_,_,_,_,_,_,_=>⟨[],jjo,jlQ,rfl,rfl⟩
 | .cons d (.cons f ir),_,_,_,_,C,p,q=>let ⟨_,h1,h2,h3,h4⟩:=sD ir C p (ba q).2; ⟨_,jhG (sE d C (ba (ba q).1).1).1 (sE f C (ba (ba q).1).2).1 h1,jj2 h2,h3,congrArg (·+ 1) h4⟩
 | .cons _ .nil,_,_,_,_,_,_,q=>nomatch q
theorem sI:∀ (ir:It) (t:Tg) (ct:Ctx) (ht:Expr) {X:Cx} {c:Ctx} {h:Expr},Cok T k X c->okI T c t ir h=true->PI X (unTg ct t ht) (unI T c ir h) (lI X (denI T.gs (jad T k) ir))/\∀ x,Ya1 (unI T c ir h) X.env x=pure x
 | .e d,_,_,_,_,_,_,C,q=>⟨u_ie (sE d C q).1,ja8 (jal d _) _⟩
 | .r1 d,_,_,_,_,_,_,C,q=>⟨u_r1 (C.gl (ba q).1).1 (C.blt _ (by decide)) (sE d C (ba q).2).1 (jah (jal d _) _ _),fun _=>rfl⟩
 | .r2 a b,_,_,_,_,_,_,C,q=>⟨s_r2 C (ba (ba q).1).1 (sE a C (ba (ba q).1).2) (sE b C (ba q).2),fun _=>rfl⟩
 | .enum d,.t _,_,_,_,_,_,C,q=>⟨jkE (C.gl (ba (ba q).1).2).1 (C.blt _ (by decide)) (sE d C (ba q).2).1 (jah (jal d _) _ _),fun _=>rfl⟩
 | .enum _,.n _,_,_,_,_,_,_,q=>nomatch q
 | .dk _,_,_,_,_,_,_,_,q=>nomatch q
 | .s d,_,_,_,_,_,_,C,q=>⟨u_is (sE d C q).1,ja8 (jal d _) _⟩
end
end
section
variable {c:Ctx}{env:Env}
noncomputable def swF (sb:Bool)(names:List Str)(bk:ScopeKind)(ts vs:List Expr):Sem (Option (List Str)):=
 if (!(ts.length == 2 || ts.length == 3) || vs.length != ts.length || bk != .function)=true then pure none
 else if sb=true then pure none
 else if (names.length != ts.length || names.eraseDups.length != names.length)=true then pure none
 else if vs.all (foldedForSure 8)=true then pure none
 else if vs.all (constantsAlone 8)=true then do unsupported "assign.tuple-of-constant-expressions:order-of-the-stores"; pure (some names)
 else pure (some names)
noncomputable def jc2 (env:Env)(ts:List Expr):List Str:=ts.filterMap fun
  | .Name id pos=>if env.kindOf id == some .local && pos.line == jin ts then some id else none
  | _=>none
theorem jnt {ts vs:List Expr}{a b:Nat}{p q:Pos}:Ybt [.Tuple ts a p] (.Tuple vs b q) env=swF (vs.any jgK) (jc2 env ts) env.blockKind ts vs:=by
 have e1:jgK=fun | .Starred ..=>true | _=>false:=by funext e; cases e <;> rfl
 with_unfolding_all rfl
theorem jhr (hk:∀ x,env.kindOf x=c.sc.lookup x)(ts:List Expr):jc2 env ts=jaF c ts:=by
 unfold jaF jc2
 congr 1
 funext e
 cases e <;> first | rfl | (dsimp only; rw [hk])
theorem jdv (hk:∀ x,env.kindOf x=c.sc.lookup x)(hb:env.blockKind=.function){ts vs:List Expr}{a b:Nat}{p q:Pos}(h:jbH c ts vs=true):Ybt [.Tuple ts a p] (.Tuple vs b q) env=pure none:=by
 rw [jnt,jhr hk,hb]
 unfold swF
 unfold jbH at h
 by_cases h1:(!(ts.length == 2 || ts.length == 3) || vs.length != ts.length)=true
 ·rw [if_pos (by rw [h1]; rfl)]
 ·have h1':(!(ts.length == 2 || ts.length == 3) || vs.length != ts.length)=false:=by simpa using h1
  rw [h1'] at h
  rw [if_neg (by rw [h1']; decide)]
  simp only [YeU,Yap,Yc3] at h
  obtain ⟨h2,h3⟩:=h
  rw [if_neg (by rw [h2]; decide)]
  by_cases h4:((jaF c ts).length != ts.length || (jaF c ts).eraseDups.length != (jaF c ts).length)=true
  ·rw [if_pos h4]
  ·rw [if_neg h4]
   have h4':((jaF c ts).length != ts.length || (jaF c ts).eraseDups.length != (jaF c ts).length)=false:=by simpa using h4
   rw [h4'] at h3
   rw [if_pos (by simpa using h3)]
theorem jhq (hk:∀ x,env.kindOf x=c.sc.lookup x)(hb:env.blockKind=.function){elt:Expr}{gs:List YbK}{s:Scope}{p py:Pos}{y:Str}{l:Nat}(h:lcSw c y py p s=true) :
  Ycf (.ListComp elt gs s p) (some (.Name y py)) l env=pure true:=by
 unfold lcSw at h
 simp only [Yap] at h
 unfold Ycf
 dsimp only
 show (pure (env.blockKind == .function && env.kindOf y == some .local && py.line == p.line && !(s.names.any fun (n,k)=>n == y && (k == .local || k == .cell))):Sem Bool)=pure true
 rw [hb,hk,h.1.1,h.1.2,h.2]
 rfl
theorem jeQ (hk:∀ x,env.kindOf x=c.sc.lookup x){elt:Expr}{gs:List YbK}{s:Scope}{p py:Pos}{y:Str}{l:Nat}(h:(c.sc.lookup y == some .local)=false) :
  Yby [.Name y py] (.ListComp elt gs s p) l env=pure false:=by
 show (pure (env.blockKind == .function && env.kindOf y == some .local && py.line == p.line && !(s.names.any fun (n,k)=>n == y && (k == .local || k == .cell))):Sem Bool)=pure false
 rw [hk,h]
 simp
end
section
variable {T:Tab}{k:Nat}
theorem Cos.kindOf {X:Cx}{c:Ctx}(C:Cos T k X c):∀ x,X.env.kindOf x=c.sc.lookup x:=fun x=>by
 unfold Env.kindOf
 rw [C.sc]
theorem Cos.block {X:Cx}{c:Ctx}(C:Cos T k X c):X.env.blockKind=.function:=by
 unfold Env.blockKind
 rw [C.kind]
 rfl
section
variable {X:Cx}{c:Ctx}
theorem jkO {t:Tg}{d:E}{h:Stmt}(C:Cos T k X c)(q:okS T c (.asg t d) h=true)(hs:PE X (unE T c d (q0 h)) (lE X (den T.gs (jad T k) d).1)):PS X (unS T c (.asg t d) h) (lS X (denS T.gs (jad T k) (.asg t d))):=by
 have hg:=sTg C.toCok t (q1 h) (ba (ba q).1).2
 have q3:=(ba q).2
 have fin:Yby [unTg c t (q1 h)] (unE T c d (q0 h)) h.pos.line X.env=pure false/\Ybt [unTg c t (q1 h)] (unE T c d (q0 h)) X.env=pure none:=by
  cases t with
  | n i=>
   refine ⟨?_,jmY d _ _ _ _⟩
   by_cases hl:isLc d=true
   ·cases d with
    | lc=>exact jeQ C.kindOf (bn q3)
    | lc2=>exact jeQ C.kindOf (bn q3)
    | _=>cases hl
   ·exact jiV (by simpa using hl) _ _ _ _
  | t ts=>
   cases d with
   | lc=>cases q3
   | lc2=>cases q3
   | tup es=>exact ⟨rfl,jdv C.kindOf C.block q3⟩
   | _=>exact ⟨rfl,rfl⟩
 exact s_asg hs hg fin.1 fin.2 (jfL t _ _)
theorem jkN {ts:Tgs}{d:E}{h:Stmt}(C:Cos T k X c)(q:okS T c (.unp ts d) h=true)(hs:PE X (unE T c d (q0 h)) (lE X (den T.gs (jad T k) d).1)):PS X (unS T c (.unp ts d) h) (lS X (denS T.gs (jad T k) (.unp ts d))):=by
 have hg:=sTgs C.toCok ts (cl (q1 h)) (ba (ba q).1).2
 have q3:=(ba q).2
 have fin:Yby [unTg c (.t ts) (q1 h)] (unE T c d (q0 h)) h.pos.line X.env=pure false/\Ybt [unTg c (.t ts) (q1 h)] (unE T c d (q0 h)) X.env=pure none:=by
  cases d with
  | lc=>cases q3
  | lc2=>cases q3
  | tup es=>exact ⟨rfl,jdv C.kindOf C.block q3⟩
  | _=>exact ⟨rfl,rfl⟩
 exact s_unp C.calm hs hg (jb8 ts _ X.env).1 (jb8 ts _ X.env).2 (fun us ς k q=>jeb q) fin.1 fin.2 (jfL (.t ts) (q1 h) _)
theorem ji8 {i:Nat}{d:E}{h:Stmt}(C:Cos T k X c)(q:okS T c (.asgC i d) h=true):PS X (unS T c (.asgC i d) h) (lS X (denS T.gs (jad T k) (.asgC i d))):=by
 have qd:=(ba (ba (ba q).1).1)
 have hl:=(ba q).2
 have hi:=C.nm (ba (ba q).1).2
 have hy:=eq_of_beq (ba (ba hl).1).1
 cases d with
 | lc pick t it ifs d=>
  have q1':=qd.2
  have S:=C.toCok.comp (ba (ba (ba (ba (ba (ba q1').1).1).1).1).1).1
  exact s_lc (by rw [C.hN]; exact C.nd) hi (by rw [C.sc]; exact hy) C.calm S.1 (sI it t _ _ C.toCok (ba (ba (ba (ba q1').1).1).1).2).1 (ba (ba (ba (ba (ba (ba q1').1).1).1).1).1).2
   (fun cl A s₀ H₀ fp=>sTg (S.2 cl A s₀ H₀ fp) t _ (ba (ba (ba (ba (ba q1').1).1).1).1).2) (fun cl A s₀ H₀ fp=>sC ifs (S.2 cl A s₀ H₀ fp) (of_decide_eq_true (ba (ba q1').1).2) (ba (ba (ba q1').1).1).2)
   (fun cl A s₀ H₀ fp=>lE0.of (sE d (S.2 cl A s₀ H₀ fp) (ba q1').2).1) (jhq C.kindOf C.block hl) (jiW it _ _)
 | lc2 pick t it ifs t2 it2 ifs2 d=>exact Bool.noConfusion (show false=true from qd.2)
 | _=>cases qd.1
theorem jhs {n:Nat}{es:Es}{h:Stmt}(C:Cos T k X c)(q:okS T c (.raise n es) h=true):PS X (unS T c (.raise n es) h) (lS X (denS T.gs (jad T k) (.raise n es))):=by
 have q':(okC T.cs c n && decide (0 < jbL es) && okEs T c es (cl (qr h)))=true:=q
 match es,q' with
 | .nil,q'=>exact absurd (of_decide_eq_true (ba (ba q').1).2) (Ybi 0)
 | .cons d es,q'=>exact s_raise C.toCok (ba (ba q').1).1 (sEs (.cons d es) C.toCok (ba q').2) (jah (jal d _) _ _) (jbF es _ _ _).1
theorem Cos.tryC {pins:List (Addr×Obj)}{xe:Value->Shared->Prop}(C:Cos T k X c)(po:Yel (model X.prog X.w) X.A X.env xe):Cos T k (X.tryC pins xe) c:=
 ⟨⟨C.hN,C.nd,C.loc,C.cel,C.fre,C.glb,C.room,C.calm,po,C.blt,C.fns,C.gls,C.room2,C.cls,C.mgK⟩,C.sc,C.kind,C.stk⟩
end
mutual
theorem sS:∀ (ir:S) {X:Cx} {c:Ctx} {h:Stmt},Cos T k X c->okS T c ir h=true->PS X (unS T c ir h) (lS X (denS T.gs (jad T k) ir))
 | .pass,_,_,_,_,q=>nomatch q
 | .expr d,_,_,_,C,q=>s_expr (sE d C.toCok (ba q).1).1 (jiX (bn (ba q).2) _ _ _)
 | .asg _ d,_,_,_,C,q=>jkO C q (sE d C.toCok (ba (ba q).1).1).1
 | .asgC _ _,_,_,_,C,q=>ji8 C q
 | .unp _ d,_,_,_,C,q=>jkN C q (sE d C.toCok (ba (ba q).1).1).1
 | .setS o i d,_,_,_,C,q=>s_set C.toCok.hu (sE d C.toCok (ba (ba q).1).1).1 (sE o C.toCok (ba (ba q).1).2).1 (sE i C.toCok (ba q).2).1 (jih d _ _ _ _ _ _).1 (jih d _ _ _ _ _ 0).2 rfl (jh3 (jal i _) _ _)
 | .par _ _,_,_,_,_,q=>nomatch q
 | .aug _ _ _,_,_,_,_,q=>nomatch q
 | .augS _ _ _ _,_,_,_,_,q=>nomatch q
 | .ite t a b,_,_,_,C,q=>s_if (sE t C.toCok (ba (ba q).1).1).2 (sSs a C (ba (ba q).1).2) (sSs b C (ba q).2)
 | .fr t it b,_,_,_,C,q=>s_for C.po C.calm (sI it t _ _ C.toCok (ba (ba q).1).2).1 (sTg C.toCok t _ (ba (ba q).1).1) (sSs b C (ba q).2) (sI it t ⟨[],[]⟩ e0 C.toCok (ba (ba q).1).2).2
 | .wh _ _,_,_,_,_,q=>nomatch q
 | .ret d,_,_,_,C,q=>s_ret (sE d C.toCok q).1
 | .retN,_,_,_,_,q=>nomatch q
 | .never,_,_,_,_,_=>fun _ _ _ _ _ _ ⟨_,_,_,_,_,q,_⟩=>(show False from q).elim
 | .raise _ _,_,_,_,C,q=>jhs C q
 | .tr b _ _ _,_,_,_,C,q=>s_try C (ba (ba (ba (ba (ba (ba (ba (ba q).1).1).1).1).1).1).1).2 (ba (ba (ba (ba (ba (ba (ba q).1).1).1).1).1).1).2 (ba (ba (ba (ba (ba (ba q).1).1).1).1).1).2 (ba (ba (ba (ba (ba q).1).1).1).1).2 (bn (ba (ba (ba (ba q).1).1).1).2) (bn (ba (ba (ba q).1).1).2) (bn (ba (ba q).1).2) (ba q).2
   fun _ _ po=>sSs b (C.tryC po) (ba (ba (ba (ba (ba (ba (ba (ba q).1).1).1).1).1).1).1).1
theorem sSs:∀ (ir:Ss) {X:Cx} {c:Ctx} {hs:List Stmt},Cos T k X c->okSs T c ir hs=true->PSs X (unSs T c ir hs) (lS X (jaA T.gs (jad T k) ir))
 | .nil,_,_,_,_,_=>s_nil
 | .cons s r,_,_,_,C,q=>s_cons (t:=denS T.gs (jad T k) s) (u:=jaA T.gs (jad T k) r) (sS s C (ba q).1) (sSs r C (ba q).2)
end
end
section
variable {T:Tab}{k:Nat}{X:Cx}{c:Ctx}
structure CloU (X:Cx)(f:Addr)(Ψ:List U->Gp->K1->KX->Prop):Prop where
 fn:∀ (pins:List (Addr×Obj)) (σ:St) (H:Hp) (s:Shared),Inv X pins σ H s->PySem.W.FnAt f s.heap
 run:∀ (pins:List (Addr×Obj)) (σ:St) (H:Hp) (s:Shared) (us:List Value) (vs:List V) (Q0:VK) (E0:XK),Inv X pins σ H s->Vals vs us->lSp X.K Ψ vs H Q0 E0->
  codeAny (model X.prog X.w) X.A (.call (.ref f) ⟨us,[]⟩) (CR (CX1 X.prog X.w) X.stack X.prog X.w H s Q0 E0) s
noncomputable def appD (i:Nat)(f:Addr)(Ψ:List U->Gp->K1->KX->Prop)(ts:UA):UE:=fun ς G Q E=>slot ς i fun u=>u=.loc f/\ts ς G (fun us G1=>Ψ us G1 Q E) E
theorem jbv {ς:Sg}{i:Nat}{φ:U->Prop}(h:slot ς i φ):∃ u,ς[i]?=some (some u)/\φ u:=by
 unfold slot at h
 split at h
 ·rename_i u e; exact ⟨u,e,h⟩
 ·exact h.elim
theorem jng {f:Addr}{Ψ:List U->Gp->K1->KX->Prop}{i:Nat}{x:Str}{e:Expr}{es:List Expr}{ts:UA}{p pos:Pos}(A:CloU X f Ψ)(hN:X.N[i]?=some x)(hv:Vis X.env.scope x)(hd:(x == ("__debug__" : Str))=false)(hcd:(x == ("__classdict__" : Str))=false)
  (ha:PA X (e::es) (lA X ts)) (he:Yar (e::es) X.env=(false,eval e X.env)::Yar es X.env) (hpl:(backTo pos (Yar es X.env)).any (·.1)=false) :
  PE X (.Call (.Name x p) (e::es) [] pos) (lE X (appD i f Ψ ts)):=by
 intro pins s σ H Q0 I ⟨ς,G,Q,E,hς,hG,h,lv,lx⟩
 obtain ⟨u,hu,rfl,h⟩:=jbv h
 obtain ⟨v,ev,rv⟩:=hς.2 i _ hu
 obtain rfl:v=.ref f:=rv
 refine Ybx (thn (ja1 hN hv hd hcd pins s σ H (fun v' H'=>v'=.ref f/\H'=H) I ⟨_,ev,rfl,rfl⟩) fun u0 s0 ⟨v0,H0,I0,r0,e1,e2⟩=>?_)
 subst e1; subst e2
 obtain rfl:u0=Ybe f:=r0
 have h':lA X ts σ H0 fun vs H1=>lSp X.K Ψ vs H1 Q0 (EB X σ):=⟨ς,G,_,E,hς,hG,h,fun us vs G1 H1 rs hG1 f1 h1=>⟨us,G1,Q,E,rs,hG1,h1,lv.fr f1,fun x G' H' C dx xd hr f q pins ea s' I' l=>(lx.fr f1) pins (.ref ea) s' x G' H' I' ⟨ea,C,dx,rfl,l,xd⟩ hr f q⟩,lx⟩
 refine PySem.W.callWith_F (first:=[]) (A.fn pins σ H0 s0 I0) (thn (ha pos pins s0 σ H0 _ I0 h') fun us s1 ⟨vs,H1,I1,r,q⟩=>⟨A.fn pins σ H1 s1 I1,?_⟩) he hpl
 refine YdN (Yc9 (A.run pins σ H1 s1 us vs Q0 (EB X σ) I1 r q) fun r s' hq=>?_)
 cases r with
 | error e=>
  obtain ⟨ea,H',cls,dx,rfl,I',l,q⟩:=CX1.back I1 hq
  exact q pins ea s' I' l
 | ok fl=>
  cases fl with
  | ret u=>exact I1.after hq
  | next=>exact Ybk hq
  | brk=>exact Ybk hq
  | cont=>exact Ybk hq
noncomputable def irL (i:Nat):E:=.blt .len (.cons (.v i) .nil)
noncomputable def irFF:Ss:=.cons (.fr (.n 3) (.r1 (irL 0)) (.cons (.ite (.not (.app 2 (.cons (.v 3) .nil))) (.cons (.ret (.v 3)) .nil) .nil) .nil))
 (.cons (.ret (.ife (.cmp .Lt (irL 0) (.v 1)) (irL 0) .non)) .nil)
noncomputable def ffB1 (gs:List U)(Δ:Cl)(f:Addr)(Ψ:List U->Gp->K1->KX->Prop):US:=fun D ς G=>
 truT (appD 2 f Ψ (jau gs Δ (.cons (.v 3) .nil))) ς G (fun b G1=>if (!b)=true then jaA gs Δ (.cons (.ret (.v 3)) .nil) { D with nx:=fun ς' G'=>D.nx ς' G' } ς G1 else D.nx ς G1) fun x G1=>D.ex x ς G1
noncomputable def ffD (gs:List U)(Δ:Cl)(f:Addr)(Ψ:List U->Gp->K1->KX->Prop):US:=fun D ς G=>
 denI gs Δ (.r1 (irL 0)) ς G (fun xs ok G1=>forL ok (fun x ς1 G2 k=>tgU (.n 3) x ς1 fun ς2=>ffB1 gs Δ f Ψ { D with nx:=k } ς2 G2) xs ς G1 fun ς' G'=>jaA gs Δ (.cons (.ret (.ife (.cmp .Lt (irL 0) (.v 1)) (irL 0) .non)) .nil) D ς' G') fun x G1=>D.ex x ς G1
theorem jkh {f:Addr}{Ψ:List U->Gp->K1->KX->Prop}{hs:List Stmt}(C:Cos T k X c)(A:CloU X f Ψ)(q:okSs T c irFF hs=true):PSs X (unSs T c irFF hs) (lS X (ffD T.gs (jad T k) f Ψ)):=by
 have q1:=(ba q).1
 have q2:=(ba q).2
 have qb:=(ba q1).2
 have qi:=(ba (ba (ba qb).1).1).1
 have qr:=(ba (ba (ba qb).1).1).2
 have qe:=(ba qi).2
 have pa:=sEs (T:=T) (k:=k) (.cons (.v 3) .nil) C.toCok qe
 have ap:=jng (p:=(c0 (c0 (q0 (qh (qa (qh hs)))))).pos) (pos:=(c0 (q0 (qh (qa (qh hs))))).pos) A (C.nm (ba (ba (ba (ba qi).1).1).1).1) (C.vis (ba (ba (ba (ba qi).1).1).1).2) (bn (ba (ba (ba qi).1).1).2) (bn (ba (ba qi).1).2) pa (jah (jal (.v 3) _) _ _) rfl
 have hb:PSs X (unSs T c (.cons (.ite (.not (.app 2 (.cons (.v 3) .nil))) (.cons (.ret (.v 3)) .nil) .nil) .nil) (qa (qh hs))) (lS X (ffB1 T.gs (jad T k) f Ψ)):=
  s_cons (s_if (jij (jkA ap fun _=>rfl)) (sSs (.cons (.ret (.v 3)) .nil) C qr) s_nil) s_nil
 have hf:=s_for C.po C.calm (sI (.r1 (irL 0)) (.n 3) c (Z.q1 (qh hs)) C.toCok (ba (ba q1).1).2).1 (sTg C.toCok (.n 3) (Z.q1 (qh hs)) (ba (ba q1).1).1) hb (sI (.r1 (irL 0)) (.n 3) ⟨[],[]⟩ e0 C.toCok (ba (ba q1).1).2).2 (pos:=(qh hs).pos)
 have he:=s_cons hf (sSs (.cons (.ret (.ife (.cmp .Lt (irL 0) (.v 1)) (irL 0) .non)) .nil) C q2)
 exact he
end
noncomputable def vsE:Nat->Nat->Es
 | _,0=>.nil
 | i,n + 1=>.cons (.v i) (vsE (i + 1) n)
noncomputable def ffB (m fi:Nat):Ss:=.cons (.fr (.n (m + 2)) (.r1 (irL m)) (.cons (.ite (.not (.call fi (.cons (.v (m + 2)) (vsE 0 m)))) (.cons (.ret (.v (m + 2))) .nil) .nil) .nil))
 (.cons (.ret (.ife (.cmp .Lt (irL m) (.v (m + 1))) (irL m) .non)) .nil)
section
variable {gs:List U}{Δ Δ':Cl}
theorem jce {ς:Sg}{i:Nat}{u:U}{φ:U->Prop}(e:ς[i]?=some (some u)):slot ς i φ=φ u:=by unfold slot; rw [e]
theorem jig {ς:Sg}{G:Gp}{X:KX}:∀ {cs:List U} {i:Nat} {Q:List U->Gp->Prop},(∀ j u,cs[j]?=some u->ς[i + j]?=some (some u))->jau gs Δ (vsE i cs.length) ς G Q X=Q cs G
 | [],_,_,_=>rfl
 | u::cs,i,Q,e=>by
  show (slot ς i fun x=>jau gs Δ (vsE (i + 1) cs.length) ς G (fun xs G2=>Q (x::xs) G2) X)=_
  rw [jce (show ς[i]?=some (some u) from e 0 u rfl)]
  exact jig (fun j v hj=>by rw [show i + 1 + j=i + (j + 1) by omega]; exact e (j + 1) v (by simpa using hj))
theorem jbK {ς:Sg}{G:Gp}{X:KX}{Q:K1}{i:Nat}{w:U}(e:ς[i]?=some (some w)):(den gs Δ (irL i)).1 ς G Q X=bltU .len [w] G Q:=by
 show (slot ς i fun x=>bltU .len [x] G Q)=_
 rw [jce e]
noncomputable def sgA (cs:List U)(w l:U)(a:Option U):Sg:=(cs++[w,l]).map some++[a]
theorem jnx {cs:List U}{w l:U}{a:Option U}:∀ j u,cs[j]?=some u->(sgA cs w l a)[0 + j]?=some (some u):=fun j u e=>by
 have hj:=(List.getElem?_eq_some_iff.mp e).1
 unfold sgA
 rw [Ycx,YaC (by simp; omega),Yay,YaC hj,e]
 rfl
theorem jjc {cs:List U}{w l:U}{a:Option U}:(sgA cs w l a)[cs.length]?=some (some w):=by
 unfold sgA
 rw [YaC (by simp),Yay,YaP (Yaf _)]
 simp
theorem jnw {cs:List U}{w l:U}{a:Option U}:(sgA cs w l a)[cs.length + 1]?=some (some l):=by
 unfold sgA
 rw [YaC (by simp),Yay,YaP (by omega)]
 simp
theorem jkT {cs:List U}{w l:U}{a:Option U}:(sgA cs w l a)[cs.length + 2]?=some a:=by
 unfold sgA
 rw [YaP (by simp)]
 simp
theorem jjd {cs:List U}{w l x:U}{a:Option U}:(sgA cs w l a).set (cs.length + 2) (some x)=sgA cs w l (some x):=by
 unfold sgA
 rw [List.set_append_right _ _ (by simp)]
 simp
theorem jfX {cs:List U}{w l:U}:jaj (cs.length + 3) (cs++[w,l])=sgA cs w l none:=by
 unfold jaj sgA
 simp
theorem jgU {ok:Gp->Prop}{b b':U->Sg->Gp->(Sg->Gp->Prop)->Prop}{A B:Option U->Sg}{k k':Sg->Gp->Prop}
  (hb:∀ x a G (kk kk':Sg->Gp->Prop),(∀ a G,kk (A a) G=kk' (B a) G)->b x (A a) G kk=b' x (B a) G kk') (hk:∀ a G,k (A a) G=k' (B a) G) :
  ∀ (xs:List U) (a:Option U) (G:Gp),forL ok b xs (A a) G k=forL ok b' xs (B a) G k'
 | [],a,G=>congrArg (ok G/\·) (hk a G)
 | x::xs,a,G=>congrArg (ok G/\·) (hb x a G _ _ fun a G=>jgU hb hk xs a G)
theorem jme {fi:Nat}{cs:List U}{w l:U}{f:Addr}{n0 n1:Sg->Gp->Prop}{rt:K1}{ex:KX}{G:Gp} :
  jaA gs Δ (ffB cs.length fi) ⟨n0,rt,fun x _ G'=>ex x G'⟩ (jaj (cs.length + 3) (cs++[w,l])) G=ffD gs Δ' f (fun us G Q E=>Δ fi (us++cs) G Q E) ⟨n1,rt,fun x _ G'=>ex x G'⟩ [some w,some l,some (.loc f),none] G:=by
 rw [jfX]
 have last:∀ (a:Option U) (G:Gp),jaA gs Δ (.cons (.ret (.ife (.cmp .Lt (irL cs.length) (.v (cs.length + 1))) (irL cs.length) .non)) .nil) ⟨n0,rt,fun x _ G'=>ex x G'⟩ (sgA cs w l a) G =
   jaA gs Δ' (.cons (.ret (.ife (.cmp .Lt (irL 0) (.v 1)) (irL 0) .non)) .nil) ⟨n1,rt,fun x _ G'=>ex x G'⟩ [some w,some l,some (.loc f),a] G:=fun a G=>by
  show (den gs Δ (irL cs.length)).1 (sgA cs w l a) G (fun x G1=>slot (sgA cs w l a) (cs.length + 1) fun y=>cmpU .Lt x y G1 fun c=>truU (.bl c) G1 fun b=>if b=true then (den gs Δ (irL cs.length)).1 (sgA cs w l a) G1 rt ex else rt .non G1) ex =
   (den gs Δ' (irL 0)).1 [some w,some l,some (.loc f),a] G (fun x G1=>cmpU .Lt x l G1 fun c=>truU (.bl c) G1 fun b=>if b=true then (den gs Δ' (irL 0)).1 [some w,some l,some (.loc f),a] G1 rt ex else rt .non G1) ex
  rw [jbK jjc,jbK rfl]
  congr 1
  funext x G1
  rw [jce jnw,jbK jjc,jbK rfl]
 show (den gs Δ (irL cs.length)).1 (sgA cs w l none) G (fun x G1=>match x with
   | .int j=>-(2 ^ 62)<=j/\j < 2 ^ 62/\forL (fun _=>True) (fun x ς1 G2 k=>jaA gs Δ (.cons (.ite (.not (.call fi (.cons (.v (cs.length + 2)) (vsE 0 cs.length)))) (.cons (.ret (.v (cs.length + 2))) .nil) .nil) .nil) ⟨k,rt,fun x _ G'=>ex x G'⟩ (ς1.set (cs.length + 2) (some x)) G2) (rngU 0 j.toNat) (sgA cs w l none) G1
    fun ς' G'=>jaA gs Δ (.cons (.ret (.ife (.cmp .Lt (irL cs.length) (.v (cs.length + 1))) (irL cs.length) .non)) .nil) ⟨n0,rt,fun x _ G'=>ex x G'⟩ ς' G'
   | _=>False) ex =
  (den gs Δ' (irL 0)).1 [some w,some l,some (.loc f),none] G (fun x G1=>match x with
   | .int j=>-(2 ^ 62)<=j/\j < 2 ^ 62/\forL (fun _=>True) (fun x ς1 G2 k=>ffB1 gs Δ' f (fun us G Q E=>Δ fi (us++cs) G Q E) ⟨k,rt,fun x _ G'=>ex x G'⟩ (ς1.set 3 (some x)) G2) (rngU 0 j.toNat) [some w,some l,some (.loc f),none] G1
    fun ς' G'=>jaA gs Δ' (.cons (.ret (.ife (.cmp .Lt (irL 0) (.v 1)) (irL 0) .non)) .nil) ⟨n1,rt,fun x _ G'=>ex x G'⟩ ς' G'
   | _=>False) ex
 rw [jbK jjc,jbK rfl]
 congr 1
 funext x G1
 cases x with
 | int j=>
  refine congrArg (-(2 ^ 62)<=j/\j < 2 ^ 62/\·) (jgU (A:=sgA cs w l) (B:=fun a=>[some w,some l,some (.loc f),a]) (fun x a G kk kk' hkk=>?_) last _ _ _)
  rw [jjd]
  show (slot (sgA cs w l (some x)) (cs.length + 2) fun u=>jau gs Δ (vsE 0 cs.length) (sgA cs w l (some x)) G (fun us G1=>Δ fi (u::us) G1 (fun r G2=>truU r G2 fun b=>if (!b)=true then (slot (sgA cs w l (some x)) (cs.length + 2) fun z=>rt z G2) else kk (sgA cs w l (some x)) G2) ex) ex) =
   (U.loc f=.loc f/\Δ fi (x::cs) G (fun r G2=>truU r G2 fun b=>if (!b)=true then rt x G2 else kk' [some w,some l,some (.loc f),some x] G2) ex)
  rw [jce jkT,jig jnx]
  have e:(fun r G2=>truU r G2 fun b=>if (!b)=true then (slot (sgA cs w l (some x)) (cs.length + 2) fun z=>rt z G2) else kk (sgA cs w l (some x)) G2)=fun (r:U) (G2:Gp)=>truU r G2 fun b=>if (!b)=true then rt x G2 else kk' [some w,some l,some (.loc f),some x] G2:=by
   funext r G2
   rw [jce jkT,hkk]
  rw [e]
  exact propext ⟨fun h=>⟨rfl,h⟩,fun h=>h.2⟩
 | _=>rfl
end
theorem jfb {T:Tab}{n:Nat}{d:Fun}(h:T.funs[n]?=some d):(T.funs++T.vf)[n]?=some d:=by
 rw [YaC (List.getElem?_eq_some_iff.mp h).1]; exact h
theorem jbq {T:Tab}{k n:Nat}{d:Fun}(hd:(T.funs++T.vf)[n]?=some d){us:List U}{G:Gp}{Q:K1}{E:KX}(h:jad T (k + 1) n us G Q E) :
  us.length=d.ps.length/\jaA T.gs (jad T k) d.body ⟨fun _ G'=>Q .non G',Q,fun x _ G'=>E x G'⟩ (jaj d.N.length us) G:=by
 have h':(match (T.funs++T.vf)[n]? with | some d=>us.length=d.ps.length/\jaA T.gs (jad T k) d.body ⟨fun _ G'=>Q .non G',Q,fun x _ G'=>E x G'⟩ (jaj d.N.length us) G | none=>False):=h
 rw [hd] at h'
 exact h'
theorem jf8 {X:Cx}{a b:List Stmt}{t:L2.TS}(e:a=b)(h:PSs X a t):PSs X b t:=e ▸ h
theorem jcd {K:Yaa}{H:Hp}{N:List Str}{us:List U}{vs:List V}(r:RUs K H us vs):SR K H (jaj N.length us) (L2.start N vs):=by
 unfold jaj L2.start
 refine ⟨by simp [r.length],fun i u e=>?_⟩
 by_cases hi:i < us.length
 ·rw [YaC (by simpa using hi),Yay] at e
  cases q:us[i]? with
  | none=>rw [q] at e; cases e
  | some w=>
   rw [q] at e
   have:w=u:=by simpa using e
   subst this
   obtain ⟨v,ev,rv⟩:=r.get q
   have hv:i < vs.length:=by rw [<- r.length]; exact hi
   exact ⟨v,by rw [YaC (by simpa using hv),Yay,ev]; rfl,rv⟩
 ·rw [YaP (by simpa using hi),Ycj] at e
  split at e <;> cases e
structure PF (T:Tab)(P:Program)(w:World)(K:Yaa)(mg:Str->Option Value)(base:Heap)(k:Nat):Prop where
 blt:∀ x∈jbV,mg x=none
 fns:∀ (n:Nat) (d:Fun),T.funs[n]?=some d->FnU P w K mg base k d (jad T k n)
 gls:∀ (n:Nat) (x:Str) (u:U),T.gn[n]?=some x->T.gs[n]?=some u->∃ v w,mg x=some w/\RelV v w/\∀ H,RU K H u v
 cls:∀ n∈T.cs,1<=n->∃ C,XCls K (gK K) (clsN n) (clsF n) C
 mgK:∀ x v,gK K x=some v->mg x=some v
theorem Inv.tsU {X:Cx}{pins:List (Addr×Obj)}{σ:St}{H:Hp}{s:Shared}(I:Inv X pins σ H s):TS X.H₀ H:=⟨I.base.tups,fun a o e=>I.base.frzs a o _ e⟩
section
variable {T:Tab}{k:Nat}{X:Cx}
theorem jmo {j:Nat}{f c':Addr}{name qual:Str}{params:YcF}{body:List Stmt}{scope:Scope}{cl:List (Str×Addr)}{doc pm ctv:Value}{oc:Obj}{d:Fun}{n:Nat}{cs:List U}{cvs:List V}{ps:List Str}
  (F:PF T X.prog X.w X.K X.mg X.base (j - 1)) (hex:X.ex=[]) (ho:X.s₀.heap.get? f=some (Yek name qual params body scope cl doc pm c' ctv)) (hn:X.H₀ f=none) (hfs:f∉X.fs) (hc:X.H₀ c'=some (frzC oc)) (hco:jkw oc qual) (S:CloScope d.N ps scope)
  (hcl:∀ x c,cl.lookup x=some c->scope.names.lookup x=some .free/\(∃ v,X.s₀.heap.IsCell c v)/\X.H₀ c=none/\c∉X.fs) (inj:∀ x y c,cl.lookup x=some c->cl.lookup y=some c->x=y) (has:∀ x,scope.names.lookup x=some .free->∃ c,cl.lookup x=some c)
  (hv:∀ i x v,d.N[ps.length + i]?=some x->cvs[i]?=some v->scope.names.lookup x=some .free/\∃ c u,cl.lookup x=some c/\RelV v u/\X.s₀.heap.IsCell c (some u))
  (rc:RUs X.K X.H₀ cs cvs) (hdp:d.ps.length=ps.length + cs.length) (hNl:d.ps.length<=d.N.length)
  (hb:∀ (s:Shared) (us:List Value),us.length=ps.length->BindsTo s (PySem.W.fnX name qual params body scope cl .none .none doc pm none (.ref c') ctv) ⟨us,[]⟩ (ps.zip us))
  (hr:Room (j + 2) X.A) (hd:(T.funs++T.vf)[n]?=some d) (ok:okSs T ⟨d.N,scope.names⟩ d.body body=true) (un:unSs T ⟨d.N,scope.names⟩ d.body body=body) :
  CloU X f fun us G Q E=>jad T j n (us++cs) G Q E:=by
 have noX:∀ b,b∉X.ex:=fun b z=>by rw [hex] at z; exact absurd z (by simp)
 have cellK:∀ {pins:List (Addr×Obj)} {σ:St} {H:Hp} {s:Shared} {x:Str} {c:Addr} {v:Option Value},Inv X pins σ H s->cl.lookup x=some c->X.s₀.heap.IsCell c v->s.heap.IsCell c v:=fun {pins σ H s x c v} I e ⟨o,h1,h2⟩=>
  ⟨o,I.base.keep c o h1 (hcl x c e).2.2.1 (hcl x c e).2.2.2 (noX c),h2⟩
 refine ⟨fun pins σ H s I=>⟨_,_,_,_,I.base.keep f _ ho hn hfs (noX f)⟩,fun pins σ H s us vs Q0 E0 I r hsp=>?_⟩
 obtain ⟨zs,G,Q,E,rz,hG,h,lv,lx⟩:=hsp
 obtain _ | k:=j
 ·exact (show False from h).elim
 obtain ⟨hl,h⟩:=jbq hd h
 rw [YaD] at hl
 have hvl:vs.length=ps.length:=by rw [<- rz.length]; omega
 have hcH:H c'=some (frzC oc):=I.base.frzs c' oc _ hc
 obtain ⟨hco1,_⟩:=I.hok c' _ hcH
 obtain ⟨wv,wt,w1,w2⟩:=hco
 have rc':=rc.ts (Inv.tsU I)
 refine jkp (k:=k + 2) (cvs:=cvs) (N:=d.N) (ps:=ps) (I.base.keep f _ ho hn hfs (noX f)) rfl ⟨c',oc,wv,wt,rfl,hco1,w1,w2⟩ S hr I.env0 (hb s us (by rw [<- r.length]; exact hvl)) r hvl (by rw [<- rc.length]; omega)
  (fun x c e=>⟨(hcl x c e).1,let ⟨v,z⟩:=(hcl x c e).2.1; ⟨v,cellK I e z⟩,let ⟨_,o,h1,_⟩:=(hcl x c e).2.1; I.base.free c o h1 (hcl x c e).2.2.1 (noX c)⟩) inj has
  (fun i x v e1 e2=>let ⟨a,c,u,e,rv,z⟩:=hv i x v e1 e2; ⟨a,c,u,e,rv,cellK I e z⟩) fun hroom=>?_
 refine ⟨_,jf8 un (sSs d.body (k:=k) (c:=⟨d.N,scope.names⟩) (hs:=body) ⟨⟨rfl,S.nd,fun x z=>eq_of_beq z,fun x z=>⟨eq_of_beq z,by show (scope.names.lookup x != some .free)=true; rw [eq_of_beq z]; rfl⟩,fun x z=>.inr (eq_of_beq z),fun x z=>eq_of_beq z,hroom.mono (by omega),rfl,jjr,F.blt,F.fns,F.gls,hroom,F.cls,F.mgK⟩,rfl,S.kind,rfl,rfl⟩ ok),?_⟩
 exact ⟨_,_,G,jcd (rz.append rc'),hG,h,⟨fun ς' σ' G' H' a b c q=>lv .non .non G' H' rfl b c q,fun w v G' H' a b c q=>lv w v G' H' a b c q,fun pins e s' x ς' σ' G' H' I sr xat hr' f q=>by obtain ⟨ea,C0,dx,rfl,l,xd⟩:=xat; exact CX1.outC I l (lx x G' H' C0 dx xd hr' f q)⟩⟩
theorem HR.tabNew {K:Yaa}{H H':Hp}{G:Gp}{P c:Addr}{pos:Pos}{q:Str}{oc:Obj}(h:HR K H G)(hU:∀ t∈tabs,∀ t'∈tabs,t.1=t'.1->t=t')(ht:(P,pos,q)∈tabs)(n:jiP H H' P pos q c oc):HR K H' G/\Fr H G H' G:=by
 obtain ⟨hc,hco,rfl | ⟨hP,hn,rfl⟩⟩:=n
 ·exact ⟨h,Fr.refl _ _⟩
 have oth:∀ b,b≠P->b≠c->L2.upd (L2.upd H c (frzC oc)) P (.tbl #[rawInt pos.line,rawInt pos.col,.ref c]) b=H b:=fun b h1 h2=>by rw [jac h1,jac h2]
 have neC:∀ {b u},H b=some u->b≠c:=fun {b u} e z=>by rw [z,hn] at e; cases e
 have ts:TS H (L2.upd (L2.upd H c (frzC oc)) P (.tbl #[rawInt pos.line,rawInt pos.col,.ref c])):=⟨fun a xs e=>by rw [oth a (fun z=>by rw [z,hP] at e; cases e) (neC e)]; exact e,fun a xs e=>by rw [oth a (fun z=>by rw [z,hP] at e; cases e) (neC e)]; exact e⟩
 refine ⟨⟨fun a o g=>?_,fun t hm=>?_⟩,⟨fun a o e g nt=>⟨?_,g⟩⟩⟩
 ·have m:=h a o g
  obtain ⟨ho,e⟩:=m.there
  exact m.keep (oth a (fun z=>by rw [z,h.tblNone hP] at g; cases g) (neC e)) ts
 ·by_cases e:t.1=P
  ·obtain rfl:=hU t hm _ ht e
   exact .inr ⟨c,oc,jag,hc,hco⟩
  ·rcases h.tab t hm with e1 | ⟨c2,oc2,e1,e2,q2⟩
   ·exact .inl (by rw [oth _ e (neC e1)]; exact e1)
   ·exact .inr ⟨c2,oc2,by rw [oth _ e (neC e1)]; exact e1,ts.cod _ _ e2,q2⟩
 ·rw [oth a (fun z=>by rw [z,hP] at e; cases e; cases nt) (neC e)]; exact e
end
end Z

namespace Z
open PySem L2
set_option maxHeartbeats 16000000
noncomputable def nDef (st:Stmt):Stmt:=(jae st).getD 0 (.Pass ⟨0,0,0,0⟩)
noncomputable def capE:List Nat->Es->Es
 | [],r=>r
 | i::is,r=>.cons (.v i) (capE is r)
structure NestS (T:Tab)(sts:List Stmt)(d:Fun)(st:Stmt)(z:Nst)(dff:Fun)(stff:Stmt)(dv dc:Fun):Prop where
 sc:FnScope d.N d.ps (jaa st)
 body:d.body=.cons (.ret (.call z.vi (capE z.caps (.cons (.v z.wi) (.cons (.int z.least) .nil))))) .nil
 text:∃ pos p1 p2 p3 p4 p5 p6 j,jae st=[.FunctionDef z.fn (jaq (nDef st)) (jae (nDef st)) [] none [] (jaa (nDef st)) none z.fn pos,.Return (some (.Call (.Name dff.name p1) [.Name z.wn p2,.Constant (.int z.least) j p3,.Name z.fn p4] [] p5)) p6]/\(z.P,pos,d.name ++ ".<locals>." ++ z.fn)∈tabs
 wi:d.N[z.wi]?=some z.wn
 wv:(jaa st).names.lookup z.wn=some .local\/(jaa st).names.lookup z.wn=some .cell
 fi:d.N[z.fni]?=some z.fn
 fl:(jaa st).names.lookup z.fn=some .local
 gl:(jaa st).names.lookup dff.name=some .globalImplicit
 dbg:(z.wn == ("__debug__" : Str))=false/\(z.wn == ("__classdict__" : Str))=false/\(z.fn == ("__debug__" : Str))=false/\(z.fn == ("__classdict__" : Str))=false/\(dff.name == ("__debug__" : Str))=false
 caps:∀ (i j:Nat),z.caps[i]?=some j->j < d.ps.length/\∃ x,d.N[j]?=some x/\dc.N[1 + i]?=some x/\(jaa (nDef st)).names.lookup x=some .free/\(jaa st).names.lookup x=some .cell
 wlt:z.wi < d.ps.length
 fge:d.ps.length<=z.fni
 frees:∀ y∈(jaa (nDef st)).names,y.2=.free->(jaa st).names.lookup y.1=some .cell
 cs:CloScope dc.N [z.at'] (jaa (nDef st))
 args:(jaq (nDef st)).defaults=[]/\(jaq (nDef st)).kw_defaults=[]
 ann:∀ env,annTrees (jaq (nDef st)) none env=[]
 bind:∀ (qual:Str) (cl:List (Str×Addr)) (doc pm cv ctv u:Value),YfE (PySem.W.fnX z.fn qual (jaq (nDef st)) (jae (nDef st)) (jaa (nDef st)) cl .none .none doc pm none cv ctv) ⟨[u],[]⟩=pure [(z.at',u)]
 ff:T.funs[z.ff]?=some dff
 ffs:sts[z.ff]?=some stff
 ffb:dff.body=irFF
 ffp:dff.ps.length=3
 ffl:dff.N.length=4
 hdv:(T.funs++T.vf)[z.vi]?=some dv
 dvb:dv.body=ffB z.caps.length z.fi
 dvN:dv.N.length=z.caps.length + 3
 hdc:(T.funs++T.vf)[z.fi]?=some dc
 dcp:dc.ps.length=1 + z.caps.length
 dcN:dc.ps.length<=dc.N.length
 ok:okSs T ⟨dc.N,(jaa (nDef st)).names⟩ dc.body (jae (nDef st))=true
 un:unSs T ⟨dc.N,(jaa (nDef st)).names⟩ dc.body (jae (nDef st))=jae (nDef st)
theorem jez {gs:List U}{Δ:Cl}{ς:Sg}{G:Gp}{X:KX}{r:Es}:∀ {is:List Nat} {Q:List U->Gp->Prop},jau gs Δ (capE is r) ς G Q X->∃ cs:List U,cs.length=is.length/\(∀ (i j:Nat),is[i]?=some j->∃ u,cs[i]?=some u/\ς[j]?=some (some u))/\jau gs Δ r ς G (fun us G'=>Q (cs++us) G') X
 | [],_,h=>⟨[],rfl,fun _ _ e=>by simp at e,h⟩
 | i::is,Q,h=>by
  have h':slot ς i fun x=>jau gs Δ (capE is r) ς G (fun xs G2=>Q (x::xs) G2) X:=h
  obtain ⟨u,e,h'⟩:=jbv h'
  obtain ⟨cs,h1,h2,h3⟩:=jez h'
  refine ⟨u::cs,by simp [h1],fun a j ej=>?_,h3⟩
  cases a with
  | zero=>simp at ej; subst ej; exact ⟨u,rfl,e⟩
  | succ a=>simpa using h2 a j (by simpa using ej)
theorem jcF {n i:Nat}{us:List U}{u:U}(h:(jaj n us)[i]?=some (some u)):us[i]?=some u:=by
 unfold jaj at h
 by_cases hi:i < us.length
 ·rw [YaC (by simpa using hi),Yay] at h
  cases e:us[i]? with
  | none=>rw [e] at h; cases h
  | some a=>rw [e] at h; simpa using h
 ·rw [YaP (by simpa using hi),Ycj] at h
  split at h <;> cases h
theorem jeR {N:List Str}{vs:List V}{i:Nat}{v:V}(h:vs[i]?=some v):(L2.start N vs)[i]?=some (some v):=by
 unfold L2.start
 have hi:=(List.getElem?_eq_some_iff.mp h).1
 rw [YaC (by simpa using hi),Yay,h]
 rfl
theorem jdY {K:Yaa}{H:Hp}{us:List U}{vs:List V}(r:RUs K H us vs):∀ {is:List Nat} {cs:List U},cs.length=is.length->(∀ (i j:Nat),is[i]?=some j->∃ u,cs[i]?=some u/\us[j]?=some u)->∃ cvs:List V,RUs K H cs cvs/\cvs.length=is.length/\∀ (i j:Nat) (v:V),is[i]?=some j->cvs[i]?=some v->vs[j]?=some v
 | [],[],_,_=>⟨[],rfl,rfl,fun _ _ _ e=>by simp at e⟩
 | [],_::_,h,_=>by simp at h
 | _::_,[],h,_=>by simp at h
 | j::is,c::cs,hl,h=>by
  obtain ⟨u,e1,e2⟩:=h 0 j rfl
  have:c=u:=by simpa using e1
  subst this
  obtain ⟨v,ev,rv⟩:=r.get e2
  obtain ⟨cvs,r2,l2,g2⟩:=jdY r (is:=is) (cs:=cs) (by simpa using hl) fun i j' e=>by simpa using h (i + 1) j' (by simpa using e)
  refine ⟨v::cvs,⟨v,cvs,rfl,rv,r2⟩,by simp [l2],fun i j' w e e'=>?_⟩
  cases i with
  | zero=>simp at e e'; subst e; subst e'; exact ev
  | succ i=>exact g2 i j' w (by simpa using e) (by simpa using e')
section
variable {T:Tab}{k j:Nat}{P:Program}{w:World}{K:Yaa}{mg:Str->Option Value}{base:Heap}
theorem jjO {n:Nat}{sts:List Stmt}{d dff dv dc:Fun}{st stff:Stmt}{z:Nst}{f fff:Addr}{fd fdff:Ybh}(N:NestS T sts d st z dff stff dv dc)(hU:∀ t∈tabs,∀ t'∈tabs,t.1=t'.1->t=t')(Sff:FnScope dff.N dff.ps (jaa stff))(okf:okSs T ⟨dff.N,(jaa stff).names⟩ dff.body (jae stff)=true)(unf:unSs T ⟨dff.N,(jaa stff).names⟩ dff.body (jae stff)=jae stff)
  (F:L2.Fun K d.name d.name st f fd) (Fff:L2.Fun K dff.name dff.name stff fff fdff) (mff:mg dff.name=some (.ref fff)) (bff:Binds K fdff dff.ps []) (hcode:∃ c,fd.code=.ref c/\YfR base c z.P) (hB:BmAt mg base) (pf:PF T P w K mg base (j - 1)) (hd:(T.funs++T.vf)[n]?=some d) :
  FnOk P w K mg base (CX1 P w) (j + 4) f fd d.ps (lSp K (jad T (j + 2) n)):=by
 have len:∀ vs H Q E,lSp K (jad T (j + 2) n) vs H Q E->vs.length=d.ps.length:=fun vs H Q E ⟨us,G,Q',E',r,hG,h,lv,lx⟩=>by rw [<- r.length]; exact (jbq hd h).1
 refine ⟨len,fun A outer s H args us0 vs Q E hr e0 hb r hsp=>F.runX (k:=j + 3) N.sc hr e0 hb r (len _ _ _ _ hsp) fun cdv hcdv hroom=>?_⟩
 have hvl:=len _ _ _ _ hsp
 obtain ⟨us,G,Q',E',ru,hG,h,lv,lx⟩:=hsp
 obtain ⟨hul,h⟩:=jbq hd h
 rw [N.body] at h
 have h:jau T.gs (jad T (j + 1)) (capE z.caps (.cons (.v z.wi) (.cons (.int z.least) .nil))) (jaj d.N.length us) G (fun zs G1=>jad T (j + 1) z.vi zs G1 Q' fun x G'=>E' x G') fun x G'=>E' x G':=h
 obtain ⟨cs,csl,csg,h⟩:=jez h
 have h:slot (jaj d.N.length us) z.wi fun x=>jad T (j + 1) z.vi (cs++[x,.int z.least]) G Q' fun x G'=>E' x G':=h
 obtain ⟨uw,euw,h⟩:=jbv h
 have euw:=jcF euw
 obtain ⟨vw,evw,rvw⟩:=ru.get euw
 obtain ⟨cvs,rcs,cvl,cvg⟩:=jdY ru csl fun i j e=>let ⟨u,a,b⟩:=csg i j e; ⟨u,a,jcF b⟩
 obtain ⟨_,h⟩:=jbq N.hdv h
 rw [N.dvb,N.dvN,<- csl] at h
 obtain ⟨c,hcc,hCH⟩:=hcode
 obtain ⟨pos,p1,p2,p3,p4,p5,p6,jj,text,htab⟩:=N.text
 let X0:=cx1 P w K mg base d.N d.name (jaa st) f cdv A outer s H E
 refine ⟨fun D σ' H'=>σ'=L2.start d.N vs/\H'=H/\D.rt=Q,fun pins s1 σ1 H1 D I ⟨e1,e2,e3⟩=>?_,rfl,rfl,rfl⟩
 subst e1; subst e2; subst e3
 rw [text]
 have hq:YcS X0.env z.fn z.fn=d.name ++ ".<locals>." ++ z.fn:=by
  unfold YcS
  have:X0.env.kindOf z.fn=some .local:=N.fl
  rw [this]
  rfl
 refine YbN (jhW (X:=X0) (c:=c) (P:=z.P) (i:=z.fni) I N.sc.nd N.fi (.inl N.fl) (.inr N.fl) (hcdv.symm.trans hcc) hCH hB (by rw [hq]; exact hG.tab _ htab) N.args.1 N.args.2 (N.ann _)
  (fun y hy hf=>I.ok.has y.1 (.inl (N.frees y hy hf))) fun f' c' oc doc ctv H' s2 tn J=>?_)
 rw [hq] at tn J
 obtain ⟨hG',fr'⟩:=hG.tabNew hU htab tn
 let σ2:St:=(L2.start d.N vs).set z.fni (some (.ref f'))
 have hws:σ2[z.wi]?=some (some vw):=by
  show ((L2.start d.N vs).set z.fni (some (.ref f')))[z.wi]?=_
  rw [YaS (by have:=N.wlt; have:=N.fge; omega)]
  exact jeR evw
 have hfs:σ2[z.fni]?=some (some (.ref f')):=by
  show ((L2.start d.N vs).set z.fni (some (.ref f')))[z.fni]?=_
  rw [Ybf (by have:=I.len; rw [this]; exact (List.getElem?_eq_some_iff.mp N.fi).1)]
 have hcall:wpAny (model X0.prog X0.w) X0.A (eval (.Call (.Name dff.name p1) [.Name z.wn p2,.Constant (.int z.least) jj p3,.Name z.fn p4] [] p5) X0.env) (EP X0 (pins++[(f',Yek z.fn (d.name ++ ".<locals>." ++ z.fn) (jaq (nDef st)) (jae (nDef st)) (jaa (nDef st)) (jbd X0.env.cells (jaa (nDef st)).names []) doc ((mg "__name__").getD .none) c' ctv)]) σ2 D.rt) X0.xe s2:=by
  have pa:PA X0 [.Name z.wn p2,.Constant (.int z.least) jj p3,.Name z.fn p4] (jhp (tVar z.wi) (jhp (tC (.int z.least)) (jhp (tVar z.fni) tNil))):=
   jaC (ja1 N.wi (N.wv.imp id fun q=>.inl q) N.dbg.1 N.dbg.2.1) (jaC jit (jaC (ja1 N.fi (.inl N.fl) N.dbg.2.2.1 N.dbg.2.2.2.1) jcf))
  refine Ybx (jbM J N.gl mff ?_ N.dbg.2.2.2.2)
  refine Ydv (h₀:=base) J.ok.mod.kin Fff.kp (thn (pa p5 _ s2 σ2 H' (fun vs3 H3=>vs3=[vw,.int z.least,.ref f']/\H3=H') J ⟨_,hws,_,hfs,rfl,rfl⟩) fun us3 s3 ⟨vs3,H3,J3,r3,e1,e2⟩=>⟨J3.kIn,?_⟩) rfl rfl
  subst e1; subst e2
  have l3:us3.length=dff.ps.length:=by rw [<- r3.length,N.ffp]; rfl
  have hb3:=bff s3 us3 J3.kIn (by rw [Ybj]; exact l3)
  rw [Ybj] at hb3
  refine YdN (Yc9 (Fff.runX (k:=j + 2) (Q:=D.rt) (E:=EB X0 σ2) Sff hroom J3.env0 hb3 r3 (by rw [N.ffp]; rfl) fun cdv2 _ hroom2=>?_) fun r s' hq=>?_)
  ·have hp:=J3.pin (f',Yek z.fn (d.name ++ ".<locals>." ++ z.fn) (jaq (nDef st)) (jae (nDef st)) (jaa (nDef st)) (jbd X0.env.cells (jaa (nDef st)).names []) doc ((mg "__name__").getD .none) c' ctv) (YaA _ (YaA _ (List.mem_singleton.mpr rfl)))
   obtain ⟨hp1,hp2,hp3,hp4,_⟩:=hp
   have nofs:∀ b,b≠X0.env.locals->b∉X0.fs->b∉frs X0.stack:=fun b h1 h2 hb=>(YaI.mp (J3.stkSub b hb)).elim h1 h2
   have clof:∀ x c,(jbd X0.env.cells (jaa (nDef st)).names []).lookup x=some c->X0.env.cells.lookup x=some c/\(x,Yaz)∈(jaa (nDef st)).names:=fun x c e=>(jfj e).elim id fun z=>by cases z
   obtain ⟨m,hns,hloc⟩:=J3.loc
   have CLO:=jmo (T:=T) (j:=j) (X:=cx1 P w K mg base dff.N dff.name (jaa stff) fff cdv2 X0.A X0.stack s3 H3 (EB X0 σ2)) (d:=dc) (n:=z.fi) (cs:=cs) (cvs:=cvs) (ps:=[z.at']) pf rfl hp1 hp2 (nofs f' hp3 hp4) tn.1 tn.2.1 N.cs
    (fun x c e=>⟨N.cs.frees x (clof x c e).2,J3.cell x c (clof x c e).1,J3.freeC x c (clof x c e).1,nofs c (J3.cne x c (clof x c e).1) fun hb=>by
     obtain ⟨_,o,ho,_⟩:=J3.ok.funs.mem hb
     exact absurd (Yaj ho) (Nat.not_lt.mpr (J3.ok.cab x c rfl (clof x c e).1))⟩)
    (fun x y c e1 e2=>J3.ok.inj x y c (clof x c e1).1 (clof y c e2).1)
    (fun x e=>by
     have hm:=Yax e
     obtain ⟨c,hc⟩:=J3.ok.has x (.inl (N.frees _ hm rfl))
     exact ⟨c,jcA hc hm⟩)
    (fun i x v e1 e2=>by
     have hi:i < z.caps.length:=by rw [<- cvl]; exact (List.getElem?_eq_some_iff.mp e2).1
     obtain ⟨jl,y,g1,g2,g3,g4⟩:=N.caps i z.caps[i] (by simp [hi])
     have:x=y:=by
      have e1':dc.N[1 + i]?=some x:=e1
      rw [g2] at e1'; exact (Yan e1').symm
     subst this
     refine ⟨g3,?_⟩
     have ev:=cvg i z.caps[i] v (by simp [hi]) e2
     have es:σ2[z.caps[i]]?=some (some v):=by
      show ((L2.start d.N vs).set z.fni (some (.ref f')))[z.caps[i]]?=_
      rw [YaS (by have:=N.fge; omega)]
      exact jeR ev
     obtain ⟨u,rv,lk⟩:=hloc z.caps[i] x v g1 es (.inr (.inl g4))
     rcases lk with ⟨k1,_⟩ | ⟨_,c,hc,hcell⟩
     ·have k2:(jaa st).names.lookup x=some .local:=k1
      rw [g4] at k2; cases k2
     ·exact ⟨c,u,jcA hc (Yax g3),rv,hcell⟩)
    (rcs.ts (fr'.ts hG)) (by rw [N.dcp,csl]; rfl) N.dcN (fun s us hl=>by
     obtain _ | ⟨u,_ | ⟨_,_⟩⟩:=us
     ·cases hl
     ·exact .of_eq (N.bind _ _ _ _ _ _ _)
     ·cases hl) hroom2 N.hdc N.ok N.un
   refine ⟨_,jf8 unf (by
    rw [N.ffb] at okf ⊢
    exact jkh (T:=T) (k:=j - 1) (c:=⟨dff.N,(jaa stff).names⟩) ⟨⟨rfl,Sff.nd,fun x z=>eq_of_beq z,fun x z=>⟨eq_of_beq z,rfl⟩,fun x z=>.inr (eq_of_beq z),fun x z=>eq_of_beq z,hroom2.mono (by omega),rfl,jjr,pf.blt,pf.fns,pf.gls,hroom2.mono (by omega),pf.cls,pf.mgK⟩,rfl,Sff.kind,rfl,rfl⟩ CLO okf),?_⟩
   have ru3:RUs K H3 [uw,.int z.least,.loc f'] [vw,.int z.least,.ref f']:=⟨_,_,rfl,rvw.ts (fr'.ts hG),_,_,rfl,rfl,_,_,rfl,rfl,rfl⟩
   have sr:=jcd (N:=dff.N) ru3
   rw [N.ffl] at sr
   refine ⟨⟨fun _ _=>False,Q',fun x _ G'=>E' x G'⟩,_,G,sr,hG',jme.mp h,⟨fun _ _ _ _ _ _ _ q=>q.elim,fun w v G' H' a b c q=>lv w v G' H' a b (fr'.trans c) q,fun pins e s' x ς' σ' G' H' I1 sr xat hr' fx q=>?_⟩⟩
   obtain ⟨ea,C0,dx,rfl,l,xd⟩:=xat
   exact CX1.out1 I1 l fun pins' ea' s'' I'' l''=>CX1.out1 I'' l'' (lx x G' H' C0 dx xd hr' (fr'.trans fx) q)
  ·cases r with
   | error e=>
    obtain ⟨ea,H',cls,dx,rfl,I',l,q⟩:=CX1.back J3 hq
    exact q _ ea s' I' l
   | ok fl=>
    cases fl with
    | ret u=>exact J3.after hq
    | next=>exact Ybk hq
    | brk=>exact Ybk hq
    | cont=>exact Ybk hq
 refine YbN (wpAny_Return_some (thn hcall fun u s3 ⟨v,H3,I3,rv,q⟩=>?_))
 exact ⟨v,σ2,H3,I3.unpinned,rv,q⟩
end
noncomputable def scB (N ps:List Str)(sc:Scope):Bool:=
 decide (sc.kind=.function) && !sc.isCoroutine && !sc.isGenerator && decide N.Nodup && (N.take ps.length == ps) && ps.all (fun x=>sc.names.lookup x == some .local || sc.names.lookup x == some .cell) && sc.names.all (fun y=>y.2 != .free)
theorem jf0 {N ps:List Str}{sc:Scope}(h:scB N ps sc=true):FnScope N ps sc:=by
 unfold scB at h
 simp only [Yap,decide_eq_true_eq,Yc3] at h
 obtain ⟨⟨⟨⟨⟨⟨h1,h2⟩,h3⟩,h4⟩,h5⟩,h6⟩,h7⟩:=h
 refine ⟨h1,h2,h3,h4,eq_of_beq h5,fun x hx=>?_,fun y hy=>?_⟩
 ·have:=Yee.mp h6 x hx
  simpa using this
 ·simpa using Yee.mp h7 y hy
noncomputable def cloB (N ps:List Str)(sc:Scope):Bool:=
 decide (sc.kind=.function) && !sc.isCoroutine && !sc.isGenerator && decide N.Nodup && (N.take ps.length == ps) && ps.all (fun x=>sc.names.lookup x == some .local) && sc.names.all (fun y=>y.2 != .cell) && sc.names.all (fun y=>y.2 != .free || sc.names.lookup y.1 == some .free)
theorem jmn {N ps:List Str}{sc:Scope}(h:cloB N ps sc=true):CloScope N ps sc:=by
 unfold cloB at h
 simp only [Yap,decide_eq_true_eq,Yc3] at h
 obtain ⟨⟨⟨⟨⟨⟨⟨h1,h2⟩,h3⟩,h4⟩,h5⟩,h6⟩,h7⟩,h8⟩:=h
 refine ⟨h1,h2,h3,h4,eq_of_beq h5,fun x hx=>?_,fun y hy=>?_,fun x hx=>?_⟩
 ·simpa using Yee.mp h6 x hx
 ·simpa using Yee.mp h7 y hy
 ·simpa using Yee.mp h8 _ hx
noncomputable def jc7 (T:Tab):Nat->List Fun->List Stmt->Bool
 | _,[],[]=>true
 | i,d::ds,st::sts=>scB d.N d.ps (jaa st) && ((T.ns.lookup i).isSome || okSs T ⟨d.N,(jaa st).names⟩ d.body (jae st)) && jc7 T (i + 1) ds sts
 | _,_,_=>false
noncomputable def jdz (T:Tab)(all:List Stmt):Nat->List Fun->List Stmt->Prop
 | _,[],_=>True
 | i,d::ds,st::sts=>(match T.ns.lookup i with
  | none=>unSs T ⟨d.N,(jaa st).names⟩ d.body (jae st)=jae st
  | some z=>T.ns.lookup z.ff=none/\∃ dff stff dv dc,NestS T all d st z dff stff dv dc)/\jdz T all (i + 1) ds sts
 | _,_::_,[]=>False
theorem jbG {T:Tab}{all:List Stmt}:∀ {i:Nat} {ds:List Fun} {sts:List Stmt},jc7 T i ds sts=true->jdz T all i ds sts->∀ {n:Nat} {d:Fun},ds[n]?=some d->∃ st,sts[n]?=some st/\scB d.N d.ps (jaa st)=true/\(match T.ns.lookup (i + n) with
  | none=>okSs T ⟨d.N,(jaa st).names⟩ d.body (jae st)=true/\unSs T ⟨d.N,(jaa st).names⟩ d.body (jae st)=jae st
  | some z=>T.ns.lookup z.ff=none/\∃ dff stff dv dc,NestS T all d st z dff stff dv dc)
 | _,[],_,_,_,_,_,e=>by simp at e
 | _,_::_,[],h,_,_,_,_=>by unfold jc7 at h; cases h
 | i,d::ds,st::sts,h,g,n,d',e=>by
  unfold jc7 at h
  unfold jdz at g
  simp only [Yap] at h
  cases n with
  | zero=>
   simp at e
   subst e
   refine ⟨st,rfl,h.1.1,?_⟩
   have g1:=g.1
   have h1:=h.1.2
   rw [Nat.add_zero]
   cases q:T.ns.lookup i with
   | none=>rw [q] at g1 h1; exact ⟨by simpa using h1,g1⟩
   | some z=>rw [q] at g1; exact g1
  | succ n=>
   obtain ⟨st',e',q⟩:=jbG h.2 g.2 (n:=n) (by simpa using e)
   rw [show i + 1 + n=i + (n + 1) by omega] at q
   exact ⟨st',by simpa using e',q⟩
noncomputable def jcz (K:Yaa)(v:Value)(P:Addr):Bool:=match v with
 | .ref c=>(match K.lookup c with
  | some ⟨.type t,_,.fields vs,_⟩=>t == "code" && (match (vs[11]?:Option Value) with | some (.ref Q)=>Q == P | _=>false) && (match vs.getD 18 .none with | .str _ _=>true | _=>false) && (match vs.getD 7 .none with | .int _ _=>true | _=>false)
   && (match vs.getD 9 .none with | .bool _=>true | _=>false) && (match vs.getD 10 .none with | .int _ _=>true | _=>false) && c != P
  | _=>false)
 | _=>false
theorem jg3 {K:Yaa}{h:Heap}{v:Value}{P:Addr}(X:K.In h)(q:jcz K v P=true):∃ c,v=.ref c/\YfR h c P:=by
 unfold jcz at q
 split at q
 ·rename_i c
  split at q
  ·rename_i t dd vs sl hk
   simp only [Yap] at q
   obtain ⟨⟨⟨⟨⟨⟨q1,q2⟩,q3⟩,q4⟩,q5⟩,q6⟩,q7⟩:=q
   refine ⟨c,rfl,⟨.type t,dd,.fields vs,sl⟩,vs,?_⟩
   have ho:=X c _ hk
   split at q2
   ·rename_i Q e11
    obtain rfl:Q=P:=by simpa using q2
    split at q3
    ·rename_i s1 t1 e18
     split at q4
     ·rename_i s2 t2 e7
      split at q5
      ·rename_i b e9
       split at q6
       ·rename_i s3 t3 e10
        exact ⟨s1,t1,s2,t2,b,s3,t3,ho,by rw [eq_of_beq q1],rfl,e11,by rw [Array.getD_eq_getD_getElem?,e11]; rfl,e18,e7,e9,e10,by simpa using q7⟩
       ·cases q6
      ·cases q5
     ·cases q4
    ·cases q3
   ·cases q2
  ·cases q
 ·cases q
section
variable {T:Tab}{P:Program}{w:World}{K:Yaa}{mg:Str->Option Value}{base:Heap}
theorem jcY {j n:Nat}{f:Addr}{fd:Ybh}{ps:List Str}{t:List U->Gp->K1->KX->Prop}(hz:∀ us G Q E,¬ t us G Q E):FnOk P w K mg base (CX1 P w) j f fd ps (lSp K t):=
 ⟨fun vs H Q E ⟨_,_,_,_,_,_,h,_⟩=>(hz _ _ _ _ h).elim,fun A outer s H args us vs Q E _ _ _ _ ⟨_,_,_,_,_,_,h,_⟩=>(hz _ _ _ _ h).elim⟩
theorem jeX {k n:Nat}{d:Fun}{st:Stmt}{f:Addr}{fd:Ybh}(F:L2.Fun K d.name d.name st f fd)(h1:scB d.N d.ps (jaa st)=true)(h2:okSs T ⟨d.N,(jaa st).names⟩ d.body (jae st)=true)(h3:unSs T ⟨d.N,(jaa st).names⟩ d.body (jae st)=jae st)
  (pf:PF T P w K mg base k) (hd:T.funs[n]?=some d):FnOk P w K mg base (CX1 P w) (k + 3) f fd d.ps (lSp K (jad T (k + 1) n)):=by
 have S:=jf0 h1
 refine F.okX S (fun vs H Q E ⟨us,G,Q',E',r,hG,h,lv,lx⟩=>by rw [<- r.length]; exact (jbq (jfb hd) h).1) fun cdv A outer s H vs Q E hr hsp=>?_
 obtain ⟨us,G,Q',E',r,hG,h,lv,lx⟩:=hsp
 obtain ⟨hl,h⟩:=jbq (jfb hd) h
 refine ⟨_,jf8 h3 (sSs d.body (k:=k) (c:=⟨d.N,(jaa st).names⟩) (hs:=jae st) ⟨⟨rfl,S.nd,fun x z=>eq_of_beq z,fun x z=>⟨eq_of_beq z,rfl⟩,fun x z=>.inr (eq_of_beq z),fun x z=>eq_of_beq z,hr.mono (by omega),rfl,jjr,pf.blt,pf.fns,pf.gls,hr,pf.cls,pf.mgK⟩,rfl,S.kind,rfl,rfl⟩ h2),?_⟩
 exact ⟨_,_,G,jcd r,hG,h,⟨fun ς' σ' G' H' a b c q=>lv .non .non G' H' rfl b c q,fun w v G' H' a b c q=>lv w v G' H' a b c q,fun pins e s' x ς' σ' G' H' I sr xat hr' f q=>by obtain ⟨ea,C0,dx,rfl,l,xd⟩:=xat; exact CX1.out1 I l (lx x G' H' C0 dx xd hr' f q)⟩⟩
noncomputable abbrev Dyn (T:Tab)(K:Yaa)(mg:Str->Option Value)(sts:List Stmt):Prop:=∀ (n:Nat) (d:Fun) (st:Stmt),T.funs[n]?=some d->sts[n]?=some st->∃ (f:Addr) (fd:Ybh),L2.Fun K d.name d.name st f fd/\mg d.name=some (.ref f)/\Binds K fd d.ps []/\∀ z,T.ns.lookup n=some z->jcz K fd.code z.P=true
theorem jjn {sts:List Stmt}(hst:jc7 T 0 T.funs sts=true)(heq:jdz T sts 0 T.funs sts)(dyn:Dyn T K mg sts)(hU:∀ t∈tabs,∀ t'∈tabs,t.1=t'.1->t=t')(hKb:K.In base)(hB:BmAt mg base)
  (hb:∀ x∈jbV,mg x=none) (hg:∀ (n:Nat) (x:Str) (u:U),T.gn[n]?=some x->T.gs[n]?=some u->∃ v w,mg x=some w/\RelV v w/\∀ H,RU K H u v) (hc:∀ n∈T.cs,1<=n->∃ C,XCls K (gK K) (clsN n) (clsF n) C) (hm:∀ x v,gK K x=some v->mg x=some v) :
  ∀ (k:Nat),PF T P w K mg base k:=by
 intro k
 induction k using Nat.strongRecOn with
 | ind k ih=>
  refine ⟨hb,fun n d hd=>?_,hg,hc,hm⟩
  obtain ⟨st,e,h1,h2⟩:=jbG hst heq hd
  obtain ⟨f,fd,F,m,b,hz⟩:=dyn n d st hd e
  refine ⟨f,fd,?_,m,F.kp,b⟩
  rw [Ycx] at h2
  cases q:T.ns.lookup n with
  | none=>
   rw [q] at h2
   obtain _ | k:=k
   ·exact jcY (n:=n) fun _ _ _ _ h=>h
   ·exact jeX F h1 h2.1 h2.2 (ih k (by omega)) hd
  | some z=>
   rw [q] at h2
   obtain ⟨hff,dff,stff,dv,dc,N⟩:=h2
   obtain _ | _ | j:=k
   ·exact jcY (n:=n) fun _ _ _ _ h=>h
   ·refine jcY (n:=n) fun us G Q E h=>?_
    obtain ⟨_,h⟩:=jbq (jfb hd) h
    rw [N.body] at h
    obtain ⟨cs,_,_,h⟩:=jez (show jau T.gs (jad T 0) (capE z.caps (.cons (.v z.wi) (.cons (.int z.least) .nil))) (jaj d.N.length us) G (fun zs G1=>jad T 0 z.vi zs G1 Q fun x G'=>E x G') _ from h)
    obtain ⟨_,_,h⟩:=jbv (show slot (jaj d.N.length us) z.wi fun x=>jad T 0 z.vi (cs++[x,.int z.least]) G Q fun x G'=>E x G' from h)
    exact h
   ·obtain ⟨st2,e2,g1,g2⟩:=jbG hst heq N.ff
    rw [Ycx,hff] at g2
    obtain ⟨fff,fdff,Fff,mff,bff,_⟩:=dyn z.ff dff st2 N.ff e2
    have:st2=stff:=by rw [N.ffs] at e2; exact (Yan e2).symm
    subst this
    exact jjO N hU (jf0 g1) g2.1 g2.2 F Fff mff bff (jg3 hKb (hz z q)) hB (ih (j - 1) (by omega)) (jfb hd)
noncomputable def G0 (a:Addr)(ns:List Int):Gp:=fun b=>if b=a then some (.fro (ns.map .int)) else none
theorem jgL {H:Hp}:∀ ns:List Int,RUs K H (ns.map .int) (ns.map V.int)
 | []=>rfl
 | _::r=>⟨_,_,rfl,rfl,jgL r⟩
theorem law_sp {k n:Nat}{H:Hp}{o:Obj}{a:Addr}{ns:List Int}{tb:List Addr}(hT:∀ t∈tabs,t.1∈tb)(hO:jif tb H)(fr:H a=some (.frz o (.lst (ns.map V.int))))(h:jad T k n [.loc a] (G0 a ns) (fun u _=>u=.bl true) fun _ _=>False) :
  lSp K (jad T k n) [.ref a] H (fun v _=>v=.bl true) fun _ _ _=>False:=by
 refine ⟨[.loc a],G0 a ns,_,_,⟨_,_,rfl,rfl,rfl⟩,⟨fun b mo e=>?_,fun t ht=>.inl ?_⟩,h,fun w v G' H' r _ _ q=>?_,fun _ _ _ _ _ _ _ _ z=>z.elim⟩
 ·unfold G0 at e
  split at e
  ·rename_i z
   subst z
   cases e
   exact ⟨o,_,fr,jgL ns⟩
  ·cases e
 ·have:=hO t.1
  rw [if_pos (hT t ht)] at this
  exact this
 ·subst q
  exact r
end
section
variable {T:Tab}{P:Program}{w:World}{K:Yaa}{mg:Str->Option Value}{base:Heap}
theorem jfs {sts:List Stmt}{k n:Nat}{d:Fun}{st:Stmt}{f:Addr}{fd:Ybh}(F:L2.Fun K d.name d.name st f fd)(hst:jc7 T 0 T.funs sts=true)(heq:jdz T sts 0 T.funs sts)(dyn:Dyn T K mg sts)(hU:∀ t∈tabs,∀ t'∈tabs,t.1=t'.1->t=t')(hKb:K.In base)(hB:BmAt mg base)
  (hb:∀ x∈jbV,mg x=none) (hg:∀ (n:Nat) (x:Str) (u:U),T.gn[n]?=some x->T.gs[n]?=some u->∃ v w,mg x=some w/\RelV v w/\∀ H,RU K H u v) (hc:∀ n∈T.cs,1<=n->∃ C,XCls K (gK K) (clsN n) (clsF n) C) (hm:∀ x v,gK K x=some v->mg x=some v) (hd:T.funs[n]?=some d) (hs:sts[n]?=some st) (hn:T.ns.lookup n=none) :
  FnOk P w K mg base (CX1 P w) (k + 2) f fd d.ps (lSp K (jad T k n)):=by
 cases k with
 | zero=>exact jcY (n:=n) fun _ _ _ _ h=>h
 | succ k=>
  obtain ⟨st',e,h1,h2⟩:=jbG hst heq hd
  rw [hs] at e
  cases e
  rw [Ycx,hn] at h2
  exact jeX F h1 h2.1 h2.2 (jjn hst heq dyn hU hKb hB hb hg hc hm k) hd
end
section
variable {K:Yaa}
theorem jn9 {x:Str}{v:Value}(h:gK K x=some v):Ya7 K YaB x=some (some v):=by
 unfold gK at h
 cases q:Ya7 K YaB x with
 | none=>rw [q] at h; cases h
 | some o=>rw [q] at h; rw [show o=some v from h]
theorem jlK {h:Heap}{mg:Str->Option Value}(X:K.In h)(G:h.Ns YaB mg):∀ x v,gK K x=some v->mg x=some v:=fun _ _ e=>YcZ X G (jn9 e)
theorem jmd {x:Str}{v:Value}(h:Ya7 K YaB x=some (some v)):gK K x=some v:=by unfold gK; rw [h]; rfl
noncomputable def ksB:List Str:=["__module__", "__firstlineno__", "__static_attributes__", "__weakref__", "__doc__"]
noncomputable def ksC:List Str:=["__module__", "__firstlineno__", "__init__", "__static_attributes__", "__doc__"]
noncomputable def offB (ks:List Str):Bool:=offN.all fun y=>!ks.contains y
theorem jiw {ks:List Str}{m:Str->Option Value}(h:offB ks=true)(hm:∀ x,x∉ks->m x=none):∀ y∈offN,m y=none:=fun y hy=>hm y (by
 have:=Yee.mp h y hy
 simpa using this)
theorem jhm {D ND:Addr}{q:Str}{bs sub:List Value}{hd ab:Bool}{sn ks:List Str}{col:Option Bool}{dd:Option Addr}{k0 k1 k2 k3 k5:Option Value}{nid:String}(a:Ya7 K YaB "PlanError" = some (some (.ref D)))(kp:Ya5 K (.ref D)=true)
  (l:K.lookup D=some (YcY "PlanError" q D ND bs bmV hd sn sub ab col dd k0 k1 k2 k3 k5 nid)) (n:jcN K ND=some ks) (h1:offB ks=true) (h2:ks.contains ("__init__" : Str)=false):∃ mD,XBase K (gK K) D mD:=by
 obtain ⟨m,hn,hno,_⟩:=jlI n
 exact ⟨m,jmd a,kp,⟨_,_,_,_,_,_,_,_,_,_,_,_,_,_,_,l,hn⟩,jiw h1 hno,hno _ (by simpa using h2)⟩
theorem jiT {C D N fI:Addr}{x q qual:Str}{fs:List Str}{bs sub:List Value}{ab:Bool}{sn ks:List Str}{col:Option Bool}{dd od:Option Addr}{k0 k1 k2 k3 k5:Option Value}{mD:Str->Option Value}{st:Stmt}{fd:Ybh}{osl:Array (Option Value)}(B:XBase K (gK K) D mD)(a:Ya7 K YaB x=some (some (.ref C)))(kp:Ya5 K (.ref C)=true)
  (l:K.lookup C=some (YcY x q C N bs (.ref D::bmV) true sn sub ab col dd k0 k1 k2 k3 k5 "ValueError.__new__")) (n:jcN K N=some ks) (h1:offB ks=true) (i:Ya7 K N "__init__" = some (some (.ref fI))) (F:L2.Fun K "__init__" qual st fI fd) (lf:K.lookup fI=some ⟨.type "function",od,.func fd,osl⟩)
  (S:scB (("self" : Str)::fs) ("self" :: fs) (jaa st)=true) (b:Binds K fd (("self" : Str)::fs) []) (hloc:((("self" : Str)::fs).all fun y=>(jaa st).names.lookup y == some .local)=true)
  (bd:(∃ f p1 p2 p3 pos,fs=[f]/\jae st=[.Assign [.Attribute (.Name "self" p1) f p2] (.Name f p3) pos])\/∃ f f2 p1 p2 p3 pos q1 q2 q3 qos,fs=[f,f2]/\f≠f2/\jae st=[.Assign [.Attribute (.Name "self" p1) f p2] (.Name f p3) pos,.Assign [.Attribute (.Name "self" q1) f2 q2] (.Name f2 q3) qos]):XCls K (gK K) x fs C:=by
 obtain ⟨m,hn,hno,hso⟩:=jlI n
 exact ⟨jmd a,kp,D,N,fI,m,mD,B,⟨_,_,_,_,_,_,_,_,_,_,_,_,l⟩,hn,jiw h1 hno,hso _ _ i,st,qual,fd,F,⟨_,_,lf⟩,jf0 S,b,fun y hy=>eq_of_beq (Yee.mp hloc y hy),bd⟩
end
theorem jes {G:Gp}{a:Addr}{o u:MO}:gup (gup G a o) a u=gup G a u:=by funext b; unfold gup; split <;> rfl
noncomputable def Sm (f:Addr)(G G':Gp):Prop:=∀ b o,b≠f->G b=some o->G' b=some o
noncomputable def Sa (G G':Gp):Prop:=∀ b o,G b=some o->G' b=some o
theorem Sm.refl {f:Addr}{G:Gp}:Sm f G G:=fun _ _ _ h=>h
theorem Sa.refl {G:Gp}:Sa G G:=fun _ _ h=>h
theorem Sm.trans {f:Addr}{G G1 G2:Gp}(a:Sm f G G1)(b:Sm f G1 G2):Sm f G G2:=fun c o n h=>b c o n (a c o n h)
theorem Sa.trans {G G1 G2:Gp}(a:Sa G G1)(b:Sa G1 G2):Sa G G2:=fun c o h=>b c o (a c o h)
theorem Sa.sm {f:Addr}{G G':Gp}(a:Sa G G'):Sm f G G':=fun c o _ h=>a c o h
theorem Sa.new {G:Gp}{p:Addr}{o:MO}(h:G p=none):Sa G (gup G p o):=fun c u e=>by
 rw [ja9 (fun z=>by rw [z,h] at e; cases e)]; exact e
theorem Sm.put {G:Gp}{f:Addr}{o:MO}:Sm f G (gup G f o):=fun c u n e=>by rw [ja9 n]; exact e
theorem jci {G:Gp}{a p:Addr}{o:MO}(h:G a=some o)(hp:G p=none):p≠a:=fun z=>by rw [z,h] at hp; cases hp
theorem New.at {G G':Gp}{p:Addr}{o:MO}(n:New G p o G'):G' p=some o:=by rw [n.eq]; exact jar
theorem New.sa {G G':Gp}{p:Addr}{o:MO}(n:New G p o G'):Sa G G':=by rw [n.eq]; exact Sa.new n.no
theorem Put.at {G G':Gp}{p:Addr}{o:MO}(n:Put G p o G'):G' p=some o:=by rw [n.eq]; exact jar
theorem Put.sm {G G':Gp}{p:Addr}{o:MO}(n:Put G p o G'):Sm p G G':=by rw [n.eq]; exact Sm.put
mutual
noncomputable def pd:U->PyData
 | .non=>.none
 | .bl b=>.bool b
 | .int i=>.int i
 | .str x=>.str x
 | .tup us=>.tuple (pds us)
 | .loc _=>.none
 | .fn _=>.none
 | .ty _=>.none
 | .exc _ _=>.none
 | .own _=>.none
 | .clo _ _=>.none
noncomputable def pds:List U->List PyData
 | []=>[]
 | u::us=>pd u::pds us
end
mutual
noncomputable def bare:U->Bool
 | .non=>true
 | .bl _=>true
 | .int _=>true
 | .str _=>true
 | .tup us=>bares us
 | .loc _=>false
 | .fn _=>false
 | .ty _=>false
 | .exc _ _=>false
 | .own _=>false
 | .clo _ _=>false
noncomputable def bares:List U->Bool
 | []=>true
 | u::us=>bare u && bares us
end
mutual
theorem joe {G:Gp}:∀ {u:U},bare u=true->DU G u (pd u)
 | .non,_=>.non
 | .bl b,_=>.bl b
 | .int i,_=>.int i
 | .str x,_=>.str x
 | .tup _,h=>.tup (jfe h)
 | .loc _,h=>nomatch h
 | .fn _,h=>nomatch h
 | .ty _,h=>nomatch h
 | .exc _ _,h=>nomatch h
 | .own _,h=>nomatch h
 | .clo _ _,h=>nomatch h
theorem jfe {G:Gp}:∀ {us:List U},bares us=true->DUs G us (pds us)
 | [],_=>.nil
 | _::_,h=>.cons (joe (ba h).1) (jfe (ba h).2)
end
theorem jiu:∀ us:List U,pds us=us.map pd
 | []=>rfl
 | u::us=>by
  show pd u::pds us=_
  rw [jiu us]; rfl
structure Sml (n:Nat)(u:U):Prop where
 b:bare u=true
 l:(pd u).canLay0=true
 d:(pd u).depth<=n
theorem Sml.int (i:Int):Sml 0 (.int i):=⟨rfl,rfl,Yaf _⟩
theorem Sml.str {x:Str}(h:∀ c∈x.cps.toList,c < 128):Sml 0 (.str x):=⟨rfl,by
 show x.cps.all (fun c=>decide (c < 0x110000))=true
 rw [<- Array.all_toList,Yee]
 exact fun c hc=>by simpa using YcU (h c hc) (by decide),Yaf _⟩
theorem smls {n:Nat}:∀ {us:List U},(∀ u∈us,Sml n u)->bares us=true/\Yfq (pds us)=true/\Yce (pds us)<=n
 | [],_=>⟨rfl,rfl,Ybn _⟩
 | u::us,h=>by
  obtain ⟨h1,h2,h3⟩:=smls fun v hv=>h v (Yag _ hv)
  have hu:=h u Yao
  refine ⟨?_,?_,?_⟩
  ·show (bare u && bares us)=true
   rw [hu.b,h1]; rfl
  ·show ((pd u).canLay0 && Yfq (pds us))=true
   rw [hu.l,h2]; rfl
  ·show max (pd u).depth (Yce (pds us))<=n
   exact Nat.max_le.mpr ⟨hu.d,h3⟩
theorem Sml.tup {n:Nat}{us:List U}(h:∀ u∈us,Sml n u):Sml (n + 1) (.tup us):=let ⟨h1,h2,h3⟩:=smls h; ⟨h1,h2,Yem h3⟩
theorem jmg {G:Gp}{n:Nat}{a b:Addr}{us:List U}{k:Bool->Prop}(ga:G a=some (.lst us))(gb:G b=some (.lst []))(h:∀ u∈us,Sml n u)(hn:n < 100)(q:k us.isEmpty):eqU (.loc a) (.loc b) G k:=by
 obtain ⟨h1,h2,h3⟩:=smls h
 have la:lsG G a=some us:=by unfold lsG; rw [ga]
 have lb:lsG G b=some []:=by unfold lsG; rw [gb]
 refine ⟨.list (pds us),.list [],.lst la (jfe h1),.lst lb .nil,⟨h2,?_⟩,⟨rfl,by decide⟩,?_⟩
 ·show Yce (pds us) + 1<=100
  omega
 ·have e:YaM (.list (pds us)) (.list [])=us.isEmpty:=by
   show Ycy (pds us) []=_
   rw [jfD]
   cases us <;> rfl
  rw [e]; exact q
structure Ft (n k:Nat)(u:U):Prop where
 b:bare u=true
 f:Fits n k (pd u)
theorem jaw {ok:Gp->Prop}{b:U->Sg->Gp->(Sg->Gp->Prop)->Prop}{k:Sg->Gp->Prop}:∀ {xs:List U} (I:Nat->Sg->Gp->Prop) (_:∀ ς G,I xs.length ς G->ok G/\k ς G)
  (_:∀ i x ς G (K:Sg->Gp->Prop),xs[i]?=some x->I i ς G->(∀ ς' G',I (i + 1) ς' G'->K ς' G')->ok G/\b x ς G K) {ς:Sg} {G:Gp} (_:I 0 ς G),forL ok b xs ς G k
 | [],_,h0,_,_,_,h=>h0 _ _ h
 | x::_,I,h0,h1,_,_,h=>h1 0 x _ _ _ rfl h fun _ _ h'=>jaw (fun i=>I (i + 1)) h0 (fun i y ς G K e hi hk=>h1 (i + 1) y ς G K e hi hk) h'
theorem jaY {ok:Gp->Prop}{b:U->Gp->(Option U->Gp->Prop)->Prop}{k:List U->Gp->Prop}:∀ {xs:List U} (I:Nat->List U->Gp->Prop) (_:∀ acc G,I xs.length acc G->ok G/\k acc G)
  (_:∀ i x acc G (K:Option U->Gp->Prop),xs[i]?=some x->I i acc G->(∀ u G',I (i + 1) (acc++[u]) G'->K (some u) G')->(∀ G',I (i + 1) acc G'->K none G')->ok G/\b x G K) {acc:List U} {G:Gp} (_:I 0 acc G),jdm ok b xs acc G k
 | [],_,h0,_,_,_,h=>h0 _ _ h
 | x::_,I,h0,h1,_,_,h=>h1 0 x _ _ _ rfl h (fun _ _ h'=>jaY (fun i=>I (i + 1)) h0 (fun i y a G K e hi hk hn=>h1 (i + 1) y a G K e hi hk hn) h') (fun _ h'=>jaY (fun i=>I (i + 1)) h0 (fun i y a G K e hi hk hn=>h1 (i + 1) y a G K e hi hk hn) h')
theorem jaS (i:Int)(n:Nat):(rngU i n).length=n:=by unfold rngU; simp
theorem jaN {n i:Nat}{x:U}(h:(rngU 0 n)[i]?=some x):i < n/\x=.int i:=by
 unfold rngU at h
 rw [Yay] at h
 by_cases hi:i < n
 ·rw [Yfv hi] at h
  exact ⟨hi,by simpa using h.symm⟩
 ·rw [YbS (by simpa using hi)] at h
  cases h
theorem jeC {α β:Type}(f:α->β)(l:List α)(i:Int):atI (l.map f) i=(atI l i).map f:=by
 unfold atI
 rw [Yac]
 cases ixN l.length i with
 | none=>rfl
 | some j=>simp
theorem jid {α:Type}(a:α)(l:List α):atI (a::l) 0=some a:=jbr (xs:=a::l) (j:=0) rfl
theorem jd5 {α:Type}{l:List α}{r:Int}(h0:0<=r)(h1:r < l.length):∃ x,x∈l/\atI l r=some x:=by
 obtain ⟨j,rfl⟩:=Ybb h0
 have hj:j < l.length:=by omega
 exact ⟨l[j],Ycz hj,jbr (Yat hj)⟩
noncomputable def fdU (c:Addr)(a l t:Int):List (Key×U):=[(.inr "cells",.loc c),(.inr "at",.int a),(.inr "left",.int l),(.inr "turn",.int t)]
structure Fd (G:Gp)(f c:Addr):Prop where
 ex:∃ (ns:List Int) (a l t:Int),G f=some (.dK (fdU c a l t))/\G c=some (.lst (ns.map .int))/\ns≠[]
section
theorem k_ca:¬ ((Sum.inr ("cells" : Str):Key)=Sum.inr ("at" : Str)):=by decide +kernel
theorem k_cl:¬ ((Sum.inr ("cells" : Str):Key)=Sum.inr ("left" : Str)):=by decide +kernel
theorem k_ct:¬ ((Sum.inr ("cells" : Str):Key)=Sum.inr ("turn" : Str)):=by decide +kernel
theorem k_al:¬ ((Sum.inr ("at" : Str):Key)=Sum.inr ("left" : Str)):=by decide +kernel
theorem k_at:¬ ((Sum.inr ("at" : Str):Key)=Sum.inr ("turn" : Str)):=by decide +kernel
theorem k_lt:¬ ((Sum.inr ("left" : Str):Key)=Sum.inr ("turn" : Str)):=by decide +kernel
variable {c:Addr}{a l t:Int}
theorem jkc:dGet (fdU c a l t) (.inr "cells")=some (.loc c):=by simp [dGet,fdU]
theorem g_at:dGet (fdU c a l t) (.inr "at")=some (.int a):=by simp [dGet,fdU,k_ca,-Ycd]
theorem jmc:dGet (fdU c a l t) (.inr "left")=some (.int l):=by simp [dGet,fdU,k_cl,k_al,-Ycd]
theorem jiF:dGet (fdU c a l t) (.inr "turn")=some (.int t):=by simp [dGet,fdU,k_ct,k_at,k_lt,-Ycd]
theorem jiv (x:Int):dPut (fdU c a l t) (.inr "turn") (.int x)=fdU c a l x:=by simp [dPut,fdU,k_ct,k_at,k_lt,-Ycd]
theorem p_at (x:Int):dPut (fdU c a l t) (.inr "at") (.int x)=fdU c x l t:=by simp [dPut,fdU,k_ca,Ne.symm k_al,Ne.symm k_at,-Ycd]
theorem jlq (x:Int):dPut (fdU c a l t) (.inr "left") (.int x)=fdU c a x t:=by simp [dPut,fdU,k_cl,k_al,Ne.symm k_lt,-Ycd]
theorem jlM {p:Addr}:jcx [((Sum.inr ("cells" : Str):Key),U.loc p),(.inr "at",.int 0),(.inr "left",.int 0),(.inr "turn",.int 0)]=fdU p 0 0 0:=by
 simp [jcx,dPut,fdU,k_ca,k_cl,k_ct,k_al,k_at,k_lt,-Ycd]
theorem jfc:(fdU c a l t).length < Yae:=by show 4 < Yae; decide
theorem Fd.put {G G':Gp}{f c:Addr}{ns:List Int}{kvs:List (Key×U)}{a l t:Int}(p:Put G f (.dK (fdU c a l t)) G')(h:G f=some (.dK kvs))(hc:G c=some (.lst (ns.map .int)))(hn:ns≠[]):Fd G' f c:=
 ⟨ns,a,l,t,p.at,p.sm _ _ (fun z=>by rw [z,h] at hc; cases hc) hc,hn⟩
theorem Fd.sa {G G':Gp}{f c:Addr}(h:Fd G f c)(s:Sa G G'):Fd G' f c:=let ⟨ns,a,l,t,h1,h2,h3⟩:=h.ex; ⟨ns,a,l,t,s _ _ h1,s _ _ h2,h3⟩
theorem Fd.new {G G':Gp}{f c p:Addr}{o:MO}(h:Fd G f c)(n:New G p o G'):Fd G' f c:=h.sa n.sa
theorem Fd.away {G G':Gp}{f c p:Addr}{o:MO}(h:Fd G f c)(n:New G p o G'):p≠f/\p≠c:=by
 obtain ⟨ns,a,l,t,h1,h2,_⟩:=h.ex
 exact ⟨jci h1 n.no,jci h2 n.no⟩
theorem Fd.off {G G':Gp}{f c p:Addr}{o:MO}(h:Fd G f c)(hp:p≠f/\p≠c)(w:Put G p o G'):Fd G' f c:=let ⟨ns,a,l,t,h1,h2,h3⟩:=h.ex; ⟨ns,a,l,t,w.sm _ _ (Ne.symm hp.1) h1,w.sm _ _ (Ne.symm hp.2) h2,h3⟩
theorem Sm.wr {f p:Addr}{G G1 G2 G3:Gp}{o:MO}(s1:Sm f G G1)(n:G1 p=none)(s2:Sm f G G2)(w:Put G2 p o G3):Sm f G G3:=fun b u hb e=>w.sm b u (fun z=>by
 have:=s1 _ _ hb e
 rw [z,n] at this; cases this) (s2 b u hb e)
theorem Sm.nw {f p:Addr}{G G1 G2:Gp}{o:MO}(s:Sm f G G1)(n:New G1 p o G2):Sm f G G2:=s.trans n.sa.sm
end
theorem D_v {gs:List U}{Δ:Cl}{ς:Sg}{G:Gp}{Q:K1}{X:KX}(i:Nat):(den gs Δ (.v i)).1 ς G Q X=(slot ς i fun u=>Q u G):=rfl
theorem T_v {gs:List U}{Δ:Cl}{ς:Sg}{G:Gp}{R:Bool->Gp->Prop}{X:KX}(i:Nat):(den gs Δ (.v i)).2 ς G R X=(den gs Δ (.v i)).1 ς G (fun x G1=>truU x G1 fun b=>R b G1) X:=rfl
theorem jo6 {gs:List U}{Δ:Cl}{ς:Sg}{G:Gp}{Q:K1}{X:KX}  : (den gs Δ (.non)).1 ς G Q X=(Q .non G):=rfl
theorem D_bl {gs:List U}{Δ:Cl}{ς:Sg}{G:Gp}{Q:K1}{X:KX}(b:Bool):(den gs Δ (.bl b)).1 ς G Q X=(Q (.bl b) G):=rfl
theorem jpe {gs:List U}{Δ:Cl}{ς:Sg}{G:Gp}{Q:K1}{X:KX}(i:Int):(den gs Δ (.int i)).1 ς G Q X=(Q (.int i) G):=rfl
theorem jo3 {gs:List U}{Δ:Cl}{ς:Sg}{G:Gp}{Q:K1}{X:KX}(x:Str):(den gs Δ (.str x)).1 ς G Q X=(Q (.str x) G):=rfl
theorem D_g {gs:List U}{Δ:Cl}{ς:Sg}{G:Gp}{Q:K1}{X:KX}(n:Nat):(den gs Δ (.g n)).1 ς G Q X=(glU gs n fun u=>Q u G):=rfl
theorem T_g {gs:List U}{Δ:Cl}{ς:Sg}{G:Gp}{R:Bool->Gp->Prop}{X:KX}(n:Nat):(den gs Δ (.g n)).2 ς G R X=(den gs Δ (.g n)).1 ς G (fun x G1=>truU x G1 fun b=>R b G1) X:=rfl
theorem jpk {gs:List U}{Δ:Cl}{ς:Sg}{G:Gp}{Q:K1}{X:KX}(o:Yda)(a b:E):(den gs Δ (.bin o a b)).1 ς G Q X=((den gs Δ a).1 ς G (fun x G1=>(den gs Δ b).1 ς G1 (fun y G2=>binU o x y G2 Q) X) X):=rfl
theorem joM {gs:List U}{Δ:Cl}{ς:Sg}{G:Gp}{R:Bool->Gp->Prop}{X:KX}(o:Yda)(a b:E):(den gs Δ (.bin o a b)).2 ς G R X=(den gs Δ (.bin o a b)).1 ς G (fun x G1=>truU x G1 fun b=>R b G1) X:=rfl
theorem jo7 {gs:List U}{Δ:Cl}{ς:Sg}{G:Gp}{Q:K1}{X:KX}(a:E):(den gs Δ (.neg a)).1 ς G Q X=((den gs Δ a).1 ς G (fun x G1=>negU x G1 Q) X):=rfl
theorem jpi {gs:List U}{Δ:Cl}{ς:Sg}{G:Gp}{Q:K1}{X:KX}(o:CmpOp)(a b:E):(den gs Δ (.cmp o a b)).1 ς G Q X=((den gs Δ a).1 ς G (fun x G1=>(den gs Δ b).1 ς G1 (fun y G2=>cmpU o x y G2 fun c=>Q (.bl c) G2) X) X):=rfl
theorem joK {gs:List U}{Δ:Cl}{ς:Sg}{G:Gp}{R:Bool->Gp->Prop}{X:KX}(o:CmpOp)(a b:E):(den gs Δ (.cmp o a b)).2 ς G R X=(den gs Δ (.cmp o a b)).1 ς G (fun x G1=>truU x G1 fun b=>R b G1) X:=rfl
theorem jo2 {gs:List U}{Δ:Cl}{ς:Sg}{G:Gp}{Q:K1}{X:KX}(es:Es):(den gs Δ (.tup es)).1 ς G Q X=(jau gs Δ es ς G (fun us G1=>us.length<=Yae/\Q (.tup us) G1) X):=rfl
theorem jpb {gs:List U}{Δ:Cl}{ς:Sg}{G:Gp}{Q:K1}{X:KX}(es:Es):(den gs Δ (.lst es)).1 ς G Q X=(jau gs Δ es ς G (fun us G1=>us.length<=Yae/\newO G1 (.lst us) Q) X):=rfl
theorem jph {gs:List U}{Δ:Cl}{ς:Sg}{G:Gp}{Q:K1}{X:KX}(es:Es):(den gs Δ (.dic es)).1 ς G Q X=(denD gs Δ es ς G (fun kvs G1=>kvs.length<=15/\newO G1 (.dK (jcx kvs)) Q) X):=rfl
theorem D_ix {gs:List U}{Δ:Cl}{ς:Sg}{G:Gp}{Q:K1}{X:KX}(a b:E):(den gs Δ (.ix a b)).1 ς G Q X=((den gs Δ a).1 ς G (fun x G1=>(den gs Δ b).1 ς G1 (fun y G2=>ixU x y G2 Q) X) X):=rfl
theorem T_ix {gs:List U}{Δ:Cl}{ς:Sg}{G:Gp}{R:Bool->Gp->Prop}{X:KX}(a b:E):(den gs Δ (.ix a b)).2 ς G R X=(den gs Δ (.ix a b)).1 ς G (fun x G1=>truU x G1 fun b=>R b G1) X:=rfl
theorem D_sl {gs:List U}{Δ:Cl}{ς:Sg}{G:Gp}{Q:K1}{X:KX}(a:E)(lo hi:Eo):(den gs Δ (.sl a lo hi)).1 ς G Q X=((den gs Δ a).1 ς G (fun x G1=>denO gs Δ lo ς G1 (fun l G2=>denO gs Δ hi ς G2 (fun h G3=>slU x l h G3 Q) X) X) X):=rfl
theorem jo4 {gs:List U}{Δ:Cl}{ς:Sg}{G:Gp}{Q:K1}{X:KX}(a b:E):(den gs Δ (.rev a b)).1 ς G Q X=((den gs Δ a).1 ς G (fun x G1=>(den gs Δ b).1 ς G1 (fun y G2=>revU x y G2 Q) X) X):=rfl
theorem jmQ {gs:List U}{Δ:Cl}{ς:Sg}{G:Gp}{Q:K1}{X:KX}(n:Nat)(es:Es):(den gs Δ (.call n es)).1 ς G Q X=(jau gs Δ es ς G (fun us G1=>Δ n us G1 Q X) X):=rfl
theorem jmz {gs:List U}{Δ:Cl}{ς:Sg}{G:Gp}{R:Bool->Gp->Prop}{X:KX}(n:Nat)(es:Es):(den gs Δ (.call n es)).2 ς G R X=(den gs Δ (.call n es)).1 ς G (fun x G1=>truU x G1 fun b=>R b G1) X:=rfl
theorem jpj {gs:List U}{Δ:Cl}{ς:Sg}{G:Gp}{Q:K1}{X:KX}(b:Blt)(es:Es):(den gs Δ (.blt b es)).1 ς G Q X=(jau gs Δ es ς G (fun us G1=>bltU b us G1 Q) X):=rfl
theorem joL {gs:List U}{Δ:Cl}{ς:Sg}{G:Gp}{R:Bool->Gp->Prop}{X:KX}(b:Blt)(es:Es):(den gs Δ (.blt b es)).2 ς G R X=(den gs Δ (.blt b es)).1 ς G (fun x G1=>truU x G1 fun b=>R b G1) X:=rfl
theorem jmP {gs:List U}{Δ:Cl}{ς:Sg}{G:Gp}{Q:K1}{X:KX}(m:Mth)(o:E)(es:Es):(den gs Δ (.meth m o es)).1 ς G Q X=((den gs Δ o).1 ς G (fun x G1=>match mtU m x G1 with | some _=>jau gs Δ es ς G1 (fun us G2=>jas m x us G2 Q) X | none=>False) X):=rfl
theorem D_lc {gs:List U}{Δ:Cl}{ς:Sg}{G:Gp}{Q:K1}{X:KX}(pick:List (Option Nat))(t:Tg)(it:It)(ifs:Es)(e:E):(den gs Δ (.lc pick t it ifs e)).1 ς G Q X=(denI gs Δ it ς G (fun xs ok G1=>xs.length<=Yae/\jdm ok (fun x G2 k=>tgU t x (jbn pick ς) fun τ=>denC gs Δ ifs τ G2 (fun b G3=>if b=true then (den gs Δ e).1 τ G3 (fun u G4=>k (some u) G4) (fun _ _=>False) else k none G3)) xs [] G1 fun us G5=>newO G5 (.lst us) Q) X):=rfl
theorem jpd {gs:List U}{Δ:Cl}{ς:Sg}{G:Gp}{Q:K1}{X:KX}(pick:List (Option Nat))(t:Tg)(it:It)(ifs:Es)(t2:Tg)(it2:It)(ifs2:Es)(e:E):(den gs Δ (.lc2 pick t it ifs t2 it2 ifs2 e)).1 ς G Q X=(denI gs Δ it ς G (fun xs ok G1=>jko ok (fun x acc G2 k=>tgU t x (jbn pick ς) fun τ=>denC gs Δ ifs τ G2 (fun b G3=>if b=true then denI gs Δ it2 τ G3 (fun ys ok2 G4=>acc.length + ys.length<=Yae/\jdm ok2 (fun y G5 k5=>tgU t2 y τ fun τ'=>denC gs Δ ifs2 τ' G5 (fun b2 G6=>if b2=true then (den gs Δ e).1 τ' G6 (fun u G7=>k5 (some u) G7) (fun _ _=>False) else k5 none G6)) ys acc G4 k) (fun _ _=>False) else k acc G3)) xs [] G1 fun us G5=>newO G5 (.lst us) Q) X):=rfl
theorem joH {gs:List U}{Δ:Cl}{ς:Sg}{G:Gp}{R:Bool->Gp->Prop}{X:KX}(pick:List (Option Nat))(t:Tg)(it:It)(ifs:Es)(t2:Tg)(it2:It)(ifs2:Es)(e:E):(den gs Δ (.lc2 pick t it ifs t2 it2 ifs2 e)).2 ς G R X=(den gs Δ (.lc2 pick t it ifs t2 it2 ifs2 e)).1 ς G (fun x G1=>truU x G1 fun b=>R b G1) X:=rfl
theorem jpg {gs:List U}{Δ:Cl}{ς:Sg}{G:Gp}{Q:K1}{X:KX}(es:Es):(den gs Δ (.fst es)).1 ς G Q X=(denF gs Δ es ς G (fun zs G1=>Q (.str (L2.cats Str.empty zs)) G1) X):=rfl
theorem joJ {gs:List U}{Δ:Cl}{ς:Sg}{G:Gp}{R:Bool->Gp->Prop}{X:KX}(es:Es):(den gs Δ (.fst es)).2 ς G R X=(den gs Δ (.fst es)).1 ς G (fun x G1=>truU x G1 fun b=>R b G1) X:=rfl
theorem jpc {gs:List U}{Δ:Cl}{ς:Sg}{G:Gp}{Q:K1}{X:KX}(e:E)(i:Nat)(y a b:Str)(es:Es):(den gs Δ (.lrp e i y a b es)).1 ς G Q X=((den gs Δ e).1 ς G (fun x G1=>slot ς i fun u=>repU y b u fun z w=>jau gs Δ es ς G1 (fun us G2=>(x::.str z::.str w::us).length<=Yae/\newO G2 (.lst (x::.str z::.str w::us)) Q) X) X):=rfl
theorem joG {gs:List U}{Δ:Cl}{ς:Sg}{G:Gp}{R:Bool->Gp->Prop}{X:KX}(e:E)(i:Nat)(y a b:Str)(es:Es):(den gs Δ (.lrp e i y a b es)).2 ς G R X=(den gs Δ (.lrp e i y a b es)).1 ς G (fun x G1=>truU x G1 fun b=>R b G1) X:=rfl
theorem jpa {gs:List U}{Δ:Cl}{ς:Sg}{G:Gp}{Q:K1}{X:KX}(e:E):(den gs Δ (.mkD e)).1 ς G Q X=((den gs Δ e).1 ς G (fun x G1=>mkDU x G1 Q) X):=rfl
theorem joF {gs:List U}{Δ:Cl}{ς:Sg}{G:Gp}{R:Bool->Gp->Prop}{X:KX}(e:E):(den gs Δ (.mkD e)).2 ς G R X=(den gs Δ (.mkD e)).1 ς G (fun x G1=>truU x G1 fun b=>R b G1) X:=rfl
theorem jo9 {gs:List U}{Δ:Cl}{ς:Sg}{G:Gp}{Q:K1}{X:KX}(e:E):(den gs Δ (.mkL e)).1 ς G Q X=((den gs Δ e).1 ς G (fun x G1=>itU x G1 fun xs _=>newO G1 (.lst xs) Q) X):=rfl
theorem jo8 {gs:List U}{Δ:Cl}{ς:Sg}{G:Gp}{Q:K1}{X:KX}(e:E):(den gs Δ (.mkT e)).1 ς G Q X=((den gs Δ e).1 ς G (fun x G1=>itU x G1 fun xs _=>Q (.tup xs) G1) X):=rfl
theorem jo5 {gs:List U}{Δ:Cl}{ς:Sg}{G:Gp}{Q:K1}{X:KX}(a:E):(den gs Δ (.not a)).1 ς G Q X=((den gs Δ a).1 ς G (fun x G1=>truU x G1 fun b=>Q (.bl (!b)) G1) X):=rfl
theorem joE {gs:List U}{Δ:Cl}{ς:Sg}{G:Gp}{R:Bool->Gp->Prop}{X:KX}(a:E):(den gs Δ (.not a)).2 ς G R X=((den gs Δ a).2 ς G (fun b G1=>R (!b) G1) X):=rfl
theorem jpf {gs:List U}{Δ:Cl}{ς:Sg}{G:Gp}{Q:K1}{X:KX}(c a b:E):(den gs Δ (.ife c a b)).1 ς G Q X=((den gs Δ c).2 ς G (fun t G1=>if t=true then (den gs Δ a).1 ς G1 Q X else (den gs Δ b).1 ς G1 Q X) X):=rfl
theorem joI {gs:List U}{Δ:Cl}{ς:Sg}{G:Gp}{R:Bool->Gp->Prop}{X:KX}(c a b:E):(den gs Δ (.ife c a b)).2 ς G R X=((den gs Δ c).2 ς G (fun t G1=>if t=true then (den gs Δ a).2 ς G1 R X else (den gs Δ b).2 ς G1 R X) X):=rfl
theorem jmR {gs:List U}{Δ:Cl}{k:Bool}{a:E}:den gs Δ (.bop k a .nil)=den gs Δ a:=rfl
theorem jpl {gs:List U}{Δ:Cl}{ς:Sg}{G:Gp}{Q:K1}{X:KX}{a b:E}{es:Es}:(den gs Δ (.bop true a (.cons b es))).1 ς G Q X=(den gs Δ a).1 ς G (fun x G1=>truU x G1 fun c=>if c=true then (den gs Δ (.bop true b es)).1 ς G1 Q X else Q x G1) X:=rfl
theorem D_or {gs:List U}{Δ:Cl}{ς:Sg}{G:Gp}{Q:K1}{X:KX}{a b:E}{es:Es}:(den gs Δ (.bop false a (.cons b es))).1 ς G Q X=(den gs Δ a).1 ς G (fun x G1=>truU x G1 fun c=>if c=true then Q x G1 else (den gs Δ (.bop false b es)).1 ς G1 Q X) X:=rfl
theorem joN {gs:List U}{Δ:Cl}{ς:Sg}{G:Gp}{R:Bool->Gp->Prop}{X:KX}{a b:E}{es:Es}:(den gs Δ (.bop true a (.cons b es))).2 ς G R X=(den gs Δ a).2 ς G (fun c G1=>if c=true then (den gs Δ (.bop true b es)).2 ς G1 R X else R false G1) X:=rfl
theorem T_or {gs:List U}{Δ:Cl}{ς:Sg}{G:Gp}{R:Bool->Gp->Prop}{X:KX}{a b:E}{es:Es}:(den gs Δ (.bop false a (.cons b es))).2 ς G R X=(den gs Δ a).2 ς G (fun c G1=>if c=true then R true G1 else (den gs Δ (.bop false b es)).2 ς G1 R X) X:=rfl
theorem O_no {gs:List U}{Δ:Cl}{ς:Sg}{G:Gp}{X:KX}{Q:Option Int->Gp->Prop}:denO gs Δ .no ς G Q X=Q none G:=rfl
theorem O_so {gs:List U}{Δ:Cl}{ς:Sg}{G:Gp}{X:KX}{Q:Option Int->Gp->Prop}{e:E}:denO gs Δ (.so e) ς G Q X=(den gs Δ e).1 ς G (fun x G1=>match x with | .int i=>Q (some i) G1 | _=>False) X:=rfl
theorem jpo {gs:List U}{Δ:Cl}{ς:Sg}{G:Gp}{X:KX}{Q:List U->Gp->Prop}:jau gs Δ .nil ς G Q X=Q [] G:=rfl
theorem jmU {gs:List U}{Δ:Cl}{ς:Sg}{G:Gp}{X:KX}{Q:List U->Gp->Prop}{e:E}{es:Es}:jau gs Δ (.cons e es) ς G Q X=(den gs Δ e).1 ς G (fun x G1=>jau gs Δ es ς G1 (fun xs G2=>Q (x::xs) G2) X) X:=rfl
theorem jpm {gs:List U}{Δ:Cl}{ς:Sg}{G:Gp}{Q:Bool->Gp->Prop}:denC gs Δ .nil ς G Q=Q true G:=rfl
theorem jmS {gs:List U}{Δ:Cl}{ς:Sg}{G:Gp}{Q:Bool->Gp->Prop}{e:E}{es:Es}:denC gs Δ (.cons e es) ς G Q=(den gs Δ e).2 ς G (fun b G1=>if b=true then denC gs Δ es ς G1 Q else Q false G1) (fun _ _=>False):=rfl
theorem joS {gs:List U}{Δ:Cl}{ς:Sg}{G:Gp}{X:KX}{Q:List (Key×U)->Gp->Prop}:denD gs Δ .nil ς G Q X=Q [] G:=rfl
theorem jmF {gs:List U}{Δ:Cl}{ς:Sg}{G:Gp}{X:KX}{Q:List (Key×U)->Gp->Prop}{e f:E}{es:Es}:denD gs Δ (.cons e (.cons f es)) ς G Q X=(den gs Δ e).1 ς G (fun x G1=>(den gs Δ f).1 ς G1 (fun y G2=>match kU x with | some k=>denD gs Δ es ς G2 (fun kvs G3=>Q ((k,y)::kvs) G3) X | none=>False) X) X:=rfl
theorem I_e {gs:List U}{Δ:Cl}{ς:Sg}{G:Gp}{X:KX}{Q:List U->(Gp->Prop)->Gp->Prop}{e:E}:denI gs Δ (.e e) ς G Q X=(den gs Δ e).1 ς G (fun x G1=>itU x G1 fun xs ok=>Q xs ok G1) X:=rfl
theorem I_r1 {gs:List U}{Δ:Cl}{ς:Sg}{G:Gp}{X:KX}{Q:List U->(Gp->Prop)->Gp->Prop}{e:E}:denI gs Δ (.r1 e) ς G Q X=(den gs Δ e).1 ς G (fun x G1=>match x with | .int j=>-(2 ^ 62)<=j/\j < 2 ^ 62/\Q (rngU 0 j.toNat) (fun _=>True) G1 | _=>False) X:=rfl
theorem I_r2 {gs:List U}{Δ:Cl}{ς:Sg}{G:Gp}{X:KX}{Q:List U->(Gp->Prop)->Gp->Prop}{a b:E}:denI gs Δ (.r2 a b) ς G Q X=(den gs Δ a).1 ς G (fun x G1=>(den gs Δ b).1 ς G1 (fun y G2=>match x,y with | .int i,.int j=>-(2 ^ 62)<=i/\i < 2 ^ 62/\-(2 ^ 62)<=j/\j < 2 ^ 62/\Q (rngU i (j - i).toNat) (fun _=>True) G2 | _,_=>False) X) X:=rfl
theorem jmG {gs:List U}{Δ:Cl}{ς:Sg}{G:Gp}{X:KX}{Q:List U->(Gp->Prop)->Gp->Prop}{e:E}:denI gs Δ (.enum e) ς G Q X=(den gs Δ e).1 ς G (fun x G1=>enI x G1 fun xs ok=>Q xs ok G1) X:=rfl
theorem I_s {gs:List U}{Δ:Cl}{ς:Sg}{G:Gp}{X:KX}{Q:List U->(Gp->Prop)->Gp->Prop}{e:E}:denI gs Δ (.s e) ς G Q X=(den gs Δ e).1 ς G (fun x G1=>sgU x fun xs=>Q xs (fun _=>True) G1) X:=rfl
theorem joY {gs:List U}{Δ:Cl}{ς:Sg}{G:Gp}{X:KX}{Q:List Str->Gp->Prop}:denF gs Δ .nil ς G Q X=Q [] G:=rfl
theorem jmO {gs:List U}{Δ:Cl}{ς:Sg}{G:Gp}{X:KX}{Q:List Str->Gp->Prop}{e:E}{es:Es}:denF gs Δ (.cons e es) ς G Q X=(den gs Δ e).1 ς G (fun x G1=>fpU x fun z=>denF gs Δ es ς G1 (fun zs G2=>Q (z::zs) G2) X) X:=rfl
theorem I_dk {gs:List U}{Δ:Cl}{ς:Sg}{G:Gp}{X:KX}{Q:List U->(Gp->Prop)->Gp->Prop}{e:E}:denI gs Δ (.dk e) ς G Q X=(den gs Δ e).1 ς G (fun x G1=>jky x G1 Q) X:=rfl
theorem joO {gs:List U}{Δ:Cl}{D:En}{ς:Sg}{G:Gp}{ts:Tgs}{e:E}:denS gs Δ (.unp ts e) D ς G=(den gs Δ e).1 ς G (fun u G1=>unpU ts u G1 ς fun ς'=>D.nx ς' G1) fun x G1=>D.ex x ς G1:=rfl
theorem jmD {gs:List U}{Δ:Cl}{D:En}{ς:Sg}{G:Gp}{e:E}:denS gs Δ (.expr e) D ς G=(den gs Δ e).1 ς G (fun _ G1=>D.nx ς G1) fun x G1=>D.ex x ς G1:=rfl
theorem joR {gs:List U}{Δ:Cl}{D:En}{ς:Sg}{G:Gp}{t:Tg}{e:E}:denS gs Δ (.asg t e) D ς G=(den gs Δ e).1 ς G (fun u G1=>tgU t u ς fun ς'=>D.nx ς' G1) fun x G1=>D.ex x ς G1:=rfl
theorem jmE {gs:List U}{Δ:Cl}{D:En}{ς:Sg}{G:Gp}{i:Nat}{e:E}:denS gs Δ (.asgC i e) D ς G=(den gs Δ e).1 ς G (fun u G1=>D.nx (ς.set i (some u)) G1) fun x G1=>D.ex x ς G1:=rfl
theorem jmC {gs:List U}{Δ:Cl}{D:En}{ς:Sg}{G:Gp}{o i e:E}:denS gs Δ (.setS o i e) D ς G=(den gs Δ e).1 ς G (fun v G1=>(den gs Δ o).1 ς G1 (fun x G2=>(den gs Δ i).1 ς G2 (fun y G3=>setU x y v G3 fun G4=>D.nx ς G4) (fun x G1=>D.ex x ς G1)) (fun x G1=>D.ex x ς G1)) (fun x G1=>D.ex x ς G1):=rfl
theorem joQ {gs:List U}{Δ:Cl}{D:En}{ς:Sg}{G:Gp}{c:E}{a b:Ss}:denS gs Δ (.ite c a b) D ς G=(den gs Δ c).2 ς G (fun t G1=>if t=true then jaA gs Δ a D ς G1 else jaA gs Δ b D ς G1) fun x G1=>D.ex x ς G1:=rfl
theorem S_fr {gs:List U}{Δ:Cl}{D:En}{ς:Sg}{G:Gp}{t:Tg}{it:It}{b:Ss}:denS gs Δ (.fr t it b) D ς G=denI gs Δ it ς G (fun xs ok G1=>forL ok (fun x ς1 G2 k=>tgU t x ς1 fun ς2=>jaA gs Δ b { D with nx:=k } ς2 G2) xs ς G1 D.nx) fun x G1=>D.ex x ς G1:=rfl
theorem joP {gs:List U}{Δ:Cl}{D:En}{ς:Sg}{G:Gp}{e:E}:denS gs Δ (.ret e) D ς G=(den gs Δ e).1 ς G D.rt fun x G1=>D.ex x ς G1:=rfl
theorem jkv {gs:List U}{Δ:Cl}{D:En}{ς:Sg}{G:Gp}{c:Nat}{es:Es}:denS gs Δ (.raise c es) D ς G=jau gs Δ es ς G (fun us G1=>us.length=(clsF c).length/\D.ex ⟨c,us⟩ ς G1) fun x G1=>D.ex x ς G1:=rfl
theorem S_tr {gs:List U}{Δ:Cl}{D:En}{ς:Sg}{G:Gp}{b:Ss}{c n:Nat}{h:List HS}:denS gs Δ (.tr b c n h) D ς G=jaA gs Δ b { D with ex:=fun x ς1 G1=>(c=0\/x.c=c)/\hsH x h (ς1.set n none) G1 fun ς2 G2=>D.nx (ς2.set n none) G2 } ς G:=rfl
theorem jpn {gs:List U}{Δ:Cl}{D:En}{ς:Sg}{G:Gp}:jaA gs Δ .nil D ς G=D.nx ς G:=rfl
theorem jmT {gs:List U}{Δ:Cl}{D:En}{ς:Sg}{G:Gp}{s:S}{r:Ss}:jaA gs Δ (.cons s r) D ς G=denS gs Δ s { D with nx:=fun ς' G'=>jaA gs Δ r D ς' G' } ς G:=rfl
theorem joD {G:Gp}{Q:K1}{i j:Int}:binU .Add (.int i) (.int j) G Q=Q (.int (i + j)) G:=rfl
theorem joC {G:Gp}{Q:K1}{xs ys:List U}:binU .Add (.tup xs) (.tup ys) G Q=(xs.length + ys.length<=Yae/\Q (.tup (xs++ys)) G):=rfl
theorem jhi {G:Gp}{Q:K1}{a b:Addr}:binU .Add (.loc a) (.loc b) G Q=∃ xs ys,G a=some (.lst xs)/\G b=some (.lst ys)/\xs.length + ys.length<=Yae/\newO G (.lst (xs++ys)) Q:=rfl
theorem jox {G:Gp}{Q:K1}{i j:Int}:binU .Sub (.int i) (.int j) G Q=Q (.int (i - j)) G:=rfl
theorem joA {G:Gp}{Q:K1}{i j:Int}:binU .Mult (.int i) (.int j) G Q=(CMul i j/\Q (.int (i * j)) G):=rfl
theorem jmw {G:Gp}{Q:K1}{a:Addr}{k:Int}:binU .Mult (.loc a) (.int k) G Q=∃ xs,G a=some (.lst xs)/\-(2 ^ 63)<=k/\k < 2 ^ 63/\xs.length * k.toNat<=Yae/\newO G (.lst (Yai k.toNat xs).flatten) Q:=rfl
theorem jmx {G:Gp}{Q:K1}{i j:Int}:binU .FloorDiv (.int i) (.int j) G Q=(0 < j/\j < 1073741824/\Q (.int (i / j)) G):=rfl
theorem joB {G:Gp}{Q:K1}{i j:Int}:binU .Mod (.int i) (.int j) G Q=(0 < j/\Q (.int (i % j)) G):=rfl
theorem joy {G:Gp}{Q:K1}{i j:Int}:binU .Pow (.int i) (.int j) G Q=(CPow i j/\Q (.int (i ^ j.toNat)) G):=rfl
theorem joz {G:Gp}{Q:K1}{i:Int}:negU (.int i) G Q=Q (.int (-i)) G:=rfl
theorem jow {G:Gp}{k:Bool->Prop}{i j:Int}:cmpU .Eq (.int i) (.int j) G k=k (decide (i=j)):=rfl
theorem jor {G:Gp}{k:Bool->Prop}{i j:Int}:cmpU .NotEq (.int i) (.int j) G k=k (!decide (i=j)):=rfl
theorem jou {G:Gp}{k:Bool->Prop}{i j:Str}:cmpU .Eq (.str i) (.str j) G k=k (decide (i=j)):=rfl
theorem jop {G:Gp}{k:Bool->Prop}{i j:Str}:cmpU .NotEq (.str i) (.str j) G k=k (!decide (i=j)):=rfl
theorem W_lt {G:Gp}{k:Bool->Prop}{i j:Int}:cmpU .Lt (.int i) (.int j) G k=k (decide (i < j)):=rfl
theorem W_le {G:Gp}{k:Bool->Prop}{i j:Int}:cmpU .LtE (.int i) (.int j) G k=k (decide (i<=j)):=rfl
theorem W_gt {G:Gp}{k:Bool->Prop}{i j:Int}:cmpU .Gt (.int i) (.int j) G k=k (decide (j < i)):=rfl
theorem W_ge {G:Gp}{k:Bool->Prop}{i j:Int}:cmpU .GtE (.int i) (.int j) G k=k (decide (j<=i)):=rfl
theorem joo {G:Gp}{k:Bool->Prop}{xs ys:List U}:cmpU .NotEq (.tup xs) (.tup ys) G k=eqU (.tup xs) (.tup ys) G fun b=>k (!b):=rfl
theorem jot {G:Gp}{k:Bool->Prop}{xs ys:List U}{y:U}:cmpU .Eq (.tup xs) (.tup (y::ys)) G k=eqU (.tup xs) (.tup (y::ys)) G k:=rfl
theorem jmt {G:Gp}{k:Bool->Prop}{xs:List U}:cmpU .Eq (.tup xs) (.tup []) G k=k xs.isEmpty:=rfl
theorem joq {G:Gp}{k:Bool->Prop}{a b:Addr}:cmpU .NotEq (.loc a) (.loc b) G k=eqU (.loc a) (.loc b) G fun b=>k (!b):=rfl
theorem jov {G:Gp}{k:Bool->Prop}{a b:Addr}:cmpU .Eq (.loc a) (.loc b) G k=eqU (.loc a) (.loc b) G k:=rfl
theorem W_in {G:Gp}{k:Bool->Prop}{x y:U}:cmpU .In x y G k=inU x y G k:=rfl
theorem jon {G:Gp}{k:Bool->Prop}{x y:U}:cmpU .NotIn x y G k=inU x y G fun b=>k (!b):=rfl
theorem jos {G:Gp}{k:Bool->Prop}{x y:U}:cmpU .IsNot x y G k=isU x y fun b=>k (!b):=rfl
theorem Y_bl {G:Gp}{k:Bool->Prop}{b:Bool}:truU (.bl b) G k=k b:=rfl
theorem joj {G:Gp}{k:Bool->Prop}:truU .non G k=k false:=rfl
theorem jok {G:Gp}{k:Bool->Prop}{i:Int}:truU (.int i) G k=k (i != 0):=rfl
theorem joi {G:Gp}{k:Bool->Prop}{xs:List U}:truU (.tup xs) G k=k (!xs.isEmpty):=rfl
theorem joV {G:Gp}{k:List U->(Gp->Prop)->Prop}{xs:List U}:itU (.tup xs) G k=k xs fun _=>True:=rfl
theorem jol {G:Gp}{Q:K1}{lo hi:Option Int}{xs:List U}:slU (.tup xs) lo hi G Q=Q (.tup (cut xs lo hi)) G:=rfl
theorem jo0 {us:List U}{G:Gp}{Q:K1}:bltU .len us G Q=lenU us G Q:=rfl
theorem jmI {us:List U}{G:Gp}{Q:K1}:bltU .repr us G Q=jf6 us G Q:=rfl
theorem joZ {us:List U}{G:Gp}{Q:K1}:bltU .min us G Q=minU us G Q:=rfl
theorem jo1 {us:List U}{G:Gp}{Q:K1}:bltU .int us G Q=intU us G Q:=rfl
theorem joX {us:List U}{G:Gp}{Q:K1}:bltU .str us G Q=strU us G Q:=rfl
theorem jom {G:Gp}{Q:K1}{lo hi:Option Int}{x:Str}:slU (.str x) lo hi G Q=(x.length<=Yae/\Q (.str (Ydm x lo hi)) G):=rfl
theorem jmy {G:Gp}{Q:K1}{b:Bool}{j:Int}:binU .Add (.bl b) (.int j) G Q=Q (.int ((if b=true then (1:Int) else 0) + j)) G:=rfl
theorem jmv {G:Gp}{Q:K1}{b:Bool}{j:Int}:binU .Sub (.bl b) (.int j) G Q=Q (.int ((if b=true then (1:Int) else 0) - j)) G:=rfl
theorem jmu {G:Gp}{Q:K1}{b:Bool}{i:Int}:binU .Sub (.int i) (.bl b) G Q=Q (.int (i - if b=true then (1:Int) else 0)) G:=rfl
theorem jmL {G:Gp}{Q:K1}{xs:List U}:lenU [.tup xs] G Q=Q (.int xs.length) G:=rfl
theorem jmJ {G:Gp}{Q:K1}{i j:Int}:minU [.int i,.int j] G Q=Q (.int (if j < i then j else i)) G:=rfl
theorem jmK {G:Gp}{Q:K1}{i j:Int}:maxU [.int i,.int j] G Q=Q (.int (if j > i then j else i)) G:=rfl
theorem jmN {G:Gp}{Q:K1}{b:Bool}:intU [.bl b] G Q=Q (.int (if b then 1 else 0)) G:=rfl
theorem jmM {G:Gp}{Q:K1}{i:Int}:intU [.int i] G Q=Q (.int i) G:=rfl
theorem G_n {i:Nat}{u:U}{ς:Sg}{k:Sg->Prop}:tgU (.n i) u ς k=k (ς.set i (some u)):=rfl
theorem G_t {ts:Tgs}{us:List U}{ς:Sg}{k:Sg->Prop}:tgU (.t ts) (.tup us) ς k=tgsU ts us ς k:=rfl
theorem joW {us:List U}{ς:Sg}{k:Sg->Prop}:tgsU .nil us ς k=(us=[]/\k ς):=rfl
theorem jmH {t:Tg}{ts:Tgs}{u:U}{r:List U}{ς:Sg}{k:Sg->Prop}:tgsU (.cons t ts) (u::r) ς k=tgU t u ς fun ς'=>tgsU ts r ς' k:=rfl
theorem sl_0 {u:U}{ς:Sg}{k:U->Prop}:slot (some u::ς) 0 k=k u:=rfl
theorem sl_s {o:Option U}{ς:Sg}{i:Nat}{k:U->Prop}:slot (o::ς) (i + 1) k=slot ς i k:=rfl
theorem jc5 {G:Gp}{a:Addr}{o:MO}{Q:Gp->Prop}:putO G a o Q=Q (gup G a o):=propext ⟨fun h=>h.at,fun h G1 p=>by rw [p.eq]; exact h⟩
theorem ix_t {xs:List U}{i:Int}{u:U}{G:Gp}{Q:K1}(h:atI xs i=some u):ixU (.tup xs) (.int i) G Q=Q u G:=by unfold ixU; dsimp only; rw [h]
theorem ix_l {a:Addr}{xs:List U}{i:Int}{u:U}{G:Gp}{Q:K1}(g:G a=some (.lst xs))(h:atI xs i=some u):ixU (.loc a) (.int i) G Q=Q u G:=by unfold ixU; dsimp only; rw [g]; dsimp only; rw [h]
theorem ix_d {a:Addr}{kvs:List (Key×U)}{x:Str}{u:U}{G:Gp}{Q:K1}(g:G a=some (.dK kvs))(h:dGet kvs (.inr x)=some u):ixU (.loc a) (.str x) G Q=Q u G:=by unfold ixU; dsimp only; rw [g]; show (match dGet kvs (.inr x) with | some u=>Q u G | none=>False)=_; rw [h]
theorem jaV {a:Addr}{xs:List U}{r:Int}{G:Gp}{Q:K1}(g:G a=some (.lst xs))(h0:0<=r)(h1:r < xs.length)(q:∀ u∈xs,Q u G):ixU (.loc a) (.int r) G Q:=by
 obtain ⟨u,hu,e⟩:=jd5 h0 h1
 rw [ix_l g e]
 exact q u hu
theorem jaL (zs:List Int){a:Addr}{r:Int}{G:Gp}{Q:K1}(g:G a=some (.lst (zs.map .int)))(h0:0<=r)(h1:r < zs.length)(q:∀ z∈zs,Q (.int z) G):ixU (.loc a) (.int r) G Q:=
 jaV g h0 (by rw [Yac]; exact h1) fun u hu=>by
  obtain ⟨z,hz,rfl⟩:=List.mem_map.mp hu
  exact q z hz
theorem jc3:∀ zs:List Str,jcc (zs.map .str)=some zs
 | []=>rfl
 | x::r=>by show (match jcc (r.map .str) with | some l=>some (x::l) | none=>none)=_; rw [jc3 r]
theorem mt_join {z:Str}{G:Gp}:mtU .join (.str z) G=some ("str", "str.join"):=rfl
theorem jgG {z:Str}{a:Addr}{ys:List Str}{G:Gp}{Q:K1}(g:G a=some (.lst (ys.map .str))):jas .join (.str z) [.loc a] G Q=(z.length<=16/\(ys.map (·.length)).sum + ys.length<=1048576/\Q (.str (Ya4 z ys)) G):=by
 unfold jas jj4; dsimp only; rw [g]; dsimp only; rw [jc3]
theorem ix_s {x:Str}{i:Int}{c:Nat}{G:Gp}{Q:K1}(h1:x.length<=Yae)(h:atI x.cps.toList i=some c)(q:Q (.str ⟨#[c]⟩) G):ixU (.str x) (.int i) G Q:=by unfold ixU; dsimp only; rw [h]; exact ⟨h1,q⟩
theorem jdU (zs:List Str):(zs.map U.str).all flat=true:=by simp [flat]
theorem in_l {a:Addr}{ys:List U}{x:U}{G:Gp}{k:Bool->Prop}(g:G a=some (.lst ys))(h1:flat x=true)(h2:ys.all flat=true)(q:k (ys.any fun y=>eqF y x)):inU x (.loc a) G k:=by
 cases x <;> first | (cases h1; done) | (unfold inU; dsimp only; rw [g]; exact .inl ⟨h1,h2,q⟩)
theorem jbg {a:Addr}{xs:List U}{G:Gp}{Q:K1}(g:G a=some (.lst xs)):lenU [.loc a] G Q=Q (.int xs.length) G:=by unfold lenU; dsimp only; rw [g]
theorem jnZ {a:Addr}{xs:List U}{G:Gp}{Q:K1}(g:G a=some (.fro xs)):lenU [.loc a] G Q=Q (.int xs.length) G:=by unfold lenU; dsimp only; rw [g]
theorem it_l {a:Addr}{xs:List U}{G:Gp}{k:List U->(Gp->Prop)->Prop}(g:G a=some (.lst xs)):itU (.loc a) G k=k xs fun G'=>lsG G' a=some xs:=by unfold itU; dsimp only; have e:lsG G a=some xs:=(by unfold lsG; rw [g]); rw [e]
theorem jeF {a:Addr}{xs:List U}{v:U}{G:Gp}{Q:K1}(g:G a=some (.lst xs)):jas .append (.loc a) [v] G Q=(xs.length < Yae/\putO G a (.lst (xs++[v])) (Q .non)):=by unfold jas jeE; dsimp only; rw [g]
theorem jcn {a:Addr}{xs:List U}{G:Gp}(g:G a=some (.lst xs)):mtU .append (.loc a) G=some ("list", "list.append"):=by unfold mtU; dsimp only; rw [g]
theorem jkU {a:Addr}{xs:List U}{i:Int}{j:Nat}{v:U}{G:Gp}{Q:Gp->Prop}(g:G a=some (.lst xs))(h:ixN xs.length i=some j):setU (.loc a) (.int i) v G Q=putO G a (.lst (xs.set j v)) Q:=by unfold setU; dsimp only; rw [g]; dsimp only; rw [h]
theorem jfY {a:Addr}{kvs:List (Key×U)}{x:Str}{v:U}{G:Gp}{Q:Gp->Prop}(g:G a=some (.dK kvs)):setU (.loc a) (.str x) v G Q=(kvs.length < Yae/\putO G a (.dK (dPut kvs (.inr x) v)) Q):=by unfold setU; dsimp only; rw [g]; rfl
theorem jgJ {n j:Nat}(h:j < n):ixN n (j:Int)=some j:=by unfold ixN; rw [if_pos (YdY j),if_pos (by exact_mod_cast h)]; simp
noncomputable def jh6:Nat->Ss->Ss
 | 0,s=>s
 | _ + 1,.nil=>.nil
 | n + 1,.cons _ r=>jh6 n r
theorem dr_0 {s:Ss}:jh6 0 s=s:=rfl
theorem dr_s {n:Nat}{s:S}{r:Ss}:jh6 (n + 1) (.cons s r)=jh6 n r:=rfl
theorem pk_nil {ς:Sg}:jbn [] ς=[]:=rfl
theorem jjt {ς:Sg}{r:List (Option Nat)}:jbn (none::r) ς=none::jbn r ς:=rfl
theorem jjs {ς:Sg}{j:Nat}{r:List (Option Nat)}:jbn (some j::r) ς=(ς[j]?).join::jbn r ς:=rfl
theorem joT {x:Str}:kU (.str x)=some (.inr x):=rfl
theorem joU {i:Int}:kU (.int i)=some (.inl i):=rfl
theorem sl_f {a:Addr}{xs:List U}{lo hi:Option Int}{G:Gp}{Q:K1}(g:G a=some (.fro xs)):slU (.loc a) lo hi G Q=newO G (.lst (cut xs lo hi)) Q:=by unfold slU; dsimp only; have e:lsG G a=some xs:=(by unfold lsG; rw [g]); rw [e]
theorem sl_l {a:Addr}{xs:List U}{lo hi:Option Int}{G:Gp}{Q:K1}(g:G a=some (.lst xs)):slU (.loc a) lo hi G Q=newO G (.lst (cut xs lo hi)) Q:=by unfold slU; dsimp only; have e:lsG G a=some xs:=(by unfold lsG; rw [g]); rw [e]
theorem jey {α β:Type}(f:α->β)(xs:List α)(lo hi:Option Int):cut (xs.map f) lo hi=(cut xs lo hi).map f:=by unfold cut; rw [Yac,<- List.map_drop,<- YeT]
theorem jiL {α:Type}(xs:List α)(n:Nat):cut xs none (some (n:Int))=xs.take n:=by
 unfold cut
 rw [HT.sIx_none,HT.sIx_nat,Ydx,Nat.sub_zero,List.take_eq_take_iff]
 omega
theorem jh7 {α:Type}(xs:List α)(n:Nat):cut xs (some (n:Int)) none=xs.drop n:=by
 unfold cut
 rw [HT.sIx_none,HT.sIx_nat]
 by_cases h:n<=xs.length
 ·rw [Nat.min_eq_left h,YbF (by simp)]
 ·rw [Nat.min_eq_right (by omega),Ye2 (Yaf _),Ye2 (by omega),List.take_nil]
theorem jh5 {G:Gp}{f c:Addr}{a l t:Int}{Q:K1}:ixU (.loc f) (.str "cells") (gup G f (.dK (fdU c a l t))) Q=Q (.loc c) (gup G f (.dK (fdU c a l t))):=ix_d jar jkc
theorem job {G:Gp}{f c:Addr}{a l t:Int}{Q:K1}:ixU (.loc f) (.str "at") (gup G f (.dK (fdU c a l t))) Q=Q (.int a) (gup G f (.dK (fdU c a l t))):=ix_d jar g_at
theorem jke {G:Gp}{f c:Addr}{a l t:Int}{Q:K1}:ixU (.loc f) (.str "left") (gup G f (.dK (fdU c a l t))) Q=Q (.int l) (gup G f (.dK (fdU c a l t))):=ix_d jar jmc
theorem jkd {G:Gp}{f c:Addr}{a l t:Int}{Q:K1}:ixU (.loc f) (.str "turn") (gup G f (.dK (fdU c a l t))) Q=Q (.int t) (gup G f (.dK (fdU c a l t))):=ix_d jar jiF
theorem joc {G:Gp}{f c:Addr}{a l t x:Int}{Q:Gp->Prop}:setU (.loc f) (.str "at") (.int x) (gup G f (.dK (fdU c a l t))) Q=Q (gup G f (.dK (fdU c x l t))):=by rw [jfY jar,p_at,jc5,jes]; exact propext ⟨fun h=>h.2,fun h=>⟨jfc,h⟩⟩
theorem jkg {G:Gp}{f c:Addr}{a l t x:Int}{Q:Gp->Prop}:setU (.loc f) (.str "left") (.int x) (gup G f (.dK (fdU c a l t))) Q=Q (gup G f (.dK (fdU c a x t))):=by rw [jfY jar,jlq,jc5,jes]; exact propext ⟨fun h=>h.2,fun h=>⟨jfc,h⟩⟩
theorem jkf {G:Gp}{f c:Addr}{a l t x:Int}{Q:Gp->Prop}:setU (.loc f) (.str "turn") (.int x) (gup G f (.dK (fdU c a l t))) Q=Q (gup G f (.dK (fdU c a l x))):=by rw [jfY jar,jiv,jc5,jes]; exact propext ⟨fun h=>h.2,fun h=>⟨jfc,h⟩⟩
end Z

namespace Y
open PySem L2
noncomputable def nO:Obj:=⟨.none,none,.fields ⟨[]⟩,⟨[]⟩⟩
noncomputable def tO (v:List Value):Obj:=⟨.type "tuple",none,.seq ⟨v⟩ 0,⟨[]⟩⟩
noncomputable def sO (c:Value)(v:List Value):Obj:=⟨c,none,.fields ⟨v⟩,⟨[]⟩⟩
noncomputable def rO (v:List (Option Value)):Obj:=⟨.type "frame",none,.plain,⟨v⟩⟩
noncomputable def gO (x q:Str)(s:Stmt):Obj:=⟨.none,none,.func { name:=x,qualname:=q,params:=jaq s,body:=.stmts (jae s),scope:=jaa s,globals:=0,closure:=[],defaults:=.none,kwdefaults:=.none },⟨[]⟩⟩
noncomputable def fO (x q:Str)(s:Stmt)(m:Value)(c:Nat):Obj:=⟨.type "function",none,.func (Ya2 x q (jaq s) (jae s) (jaa s) .none .none .none m none (.ref c) .none),⟨[]⟩⟩
noncomputable def kO (fi x q:Str)(t:Nat)(l a f:Int)(r:Nat)(b:Bool)(u v w:Value)(z:Nat):Obj:=⟨.type "code",none,.fields ⟨[.str x t,.str q (t + 1),.str fi (t + 2),.int l 0,.int a 0,.int 0 0,.int 0 0,.int f 0,.ref r,.bool b,.int 181 0,.ref (r + 1),.none,u,v,w,.int z 0,.int l 0,.str fi (z + 1)]⟩,⟨[]⟩⟩
noncomputable def dE (P:Params)(x:Str)(t:Nat)(v:Value):Ycu:=⟨PyData.keyHash P x,.str x t,v⟩
noncomputable def dO (e:List Ycu)(n:Nat):Obj:=⟨.type "dict",none,.dict ⟨e⟩ n,⟨[]⟩⟩
noncomputable def cO (x:Str)(b m:List Value)(n:Nat)(u:List Value)(s:List (Option Value)):Obj:=⟨.type "type",none,.cls { name:=x,bases:=b,mro:=m,ns:=n,qualname:=x,subclasses:=u },⟨s⟩⟩
noncomputable def tE:Obj:=tO []
noncomputable abbrev bE:Ycl:=.nil
noncomputable abbrev bN (o:Obj)(l r:Ycl):Ycl:=.node o l r
noncomputable abbrev bL (o:Obj):Ycl:=.node o .nil .nil
end Y
namespace Z
open PySem L2
noncomputable def argB (ps:List Str)(a:YcF):Bool:=a.posonlyargs.isEmpty && (a.args.map (·.arg) == ps) && a.vararg.isNone && a.kwonlyargs.isEmpty && a.kwarg.isNone
theorem jlO:∀ {ps:List Str} {us:List Value},us.length=ps.length->ps.Nodup->(ps.filterMap fun n=>((ps.zip us).lookup n).map (n,·))=ps.zip us/\∀ n∈ps,((ps.zip us).lookup n).isSome=true:=by
 have key:∀ {l:List Str} {vs:List Value} {L:List (Str×Value)},vs.length=l.length->l.Nodup->(∀ (i:Nat) n v,l[i]?=some n->vs[i]?=some v->L.lookup n=some v)->(l.filterMap fun n=>(L.lookup n).map (n,·))=l.zip vs/\∀ n∈l,(L.lookup n).isSome=true:=by
  intro l
  induction l with
  | nil=>intro vs L _ _ _; exact ⟨rfl,fun n h=>absurd h Yaw⟩
  | cons x l ih=>
   intro vs L hl nd hL
   obtain _ | ⟨v,vs⟩:=vs
   ·cases hl
   ·have h0:=hL 0 x v rfl rfl
    obtain ⟨e1,e2⟩:=ih (L:=L) (vs:=vs) (by simpa using hl) (List.nodup_cons.mp nd).2 fun i n v a b=>hL (i + 1) n v a b
    refine ⟨?_,fun n hn=>?_⟩
    ·rw [YcH,h0,YdS,<- e1]; rfl
    ·rcases YaI.mp hn with rfl | hn
     ·rw [h0]; rfl
     ·exact e2 n hn
 intro ps us hl nd
 refine key hl nd fun i n v a b=>?_
 have hz:(ps.zip us)[i]?=some (n,v):=List.getElem?_zip_eq_some.mpr ⟨a,b⟩
 have:∀ (l:List (Str×Value)),(l.map (·.1)).Nodup->(n,v)∈l->l.lookup n=some v:=by
  intro l
  induction l with
  | nil=>intro _ h; exact absurd h Yaw
  | cons p l ih=>
   intro nd h
   obtain ⟨m,u⟩:=p
   rw [YaJ]
   by_cases e:n=m
   ·subst e
    rw [beq_self_eq_true]
    rcases YaI.mp h with h | h
    ·cases h; rfl
    ·exact absurd (List.mem_map.mpr ⟨_,h,rfl⟩) (List.nodup_cons.mp nd).1
   ·rw [beq_eq_false_iff_ne.mpr e]
    rcases YaI.mp h with h | h
    ·cases h; exact absurd rfl e
    ·exact ih (List.nodup_cons.mp nd).2 h
 exact this _ (by rw [Yf7 (by omega)]; exact nd) (Yba hz)
theorem jeA {ps:List Str}{a:YcF}(h:argB ps a=true)(nd:ps.Nodup){x q:Str}{b:List Stmt}{sc:Scope}{kV doc pm:Value}{an:Option Addr}{cdv ct:Value}{us:List Value}(hl:us.length=ps.length) :
  YfE (Ya2 x q a b sc .none kV doc pm an cdv ct) ⟨us,[]⟩=pure (ps.zip us):=by
 obtain ⟨po,as,va,ko,kd,ka,df⟩:=a
 unfold argB at h
 simp only [Yap,List.isEmpty_iff,Option.isNone_iff_eq_none,beq_iff_eq] at h
 obtain ⟨⟨⟨⟨rfl,rfl⟩,rfl⟩,rfl⟩,rfl⟩:=h
 obtain ⟨e1,e2⟩:=jlO hl nd
 have e3:(List.filter (fun n=>(Ybr n ((as.map (·.arg)).zip us)).isNone) (as.map (·.arg)))=[]:=List.filter_eq_nil_iff.mpr fun n hn=>by
  have:=e2 n hn
  cases q:Ybr n ((as.map (·.arg)).zip us) with
  | none=>rw [q] at this; cases this
  | some _=>simp
 have e0:seqItems? YbA=pure none:=rfl
 unfold YfE
 dsimp only
 rw [e0]
 generalize as.map (·.arg)=ns at *
 have e4:ns.take (ns.length - 0)=ns:=by rw [Nat.sub_zero,Yf6]
 simp [hl,e1,e3,e4]

noncomputable abbrev FL:=List (Addr×Addr×Value)
noncomputable def refB (v:Option (Option Value))(f:Addr):Bool:=match v with
 | some (some (.ref a))=>a == f
 | _=>false
theorem jeU {v:Option (Option Value)}{f:Addr}(h:refB v f=true):v=some (some (.ref f)):=by
 unfold refB at h
 split at h
 ·rw [eq_of_beq h]
 ·cases h
noncomputable def dynB (T:Tab)(K:Yaa):Nat->FL->List Fun->List Stmt->Bool
 | _,[],[],[]=>true
 | i,x::fs,d::ds,s::ss=>refB (Ya7 K YaB d.name) x.1 && Ybu K (.ref x.2.1) d.name && (match T.ns.lookup i with | none=>true | some z=>jcz K (.ref x.2.1) z.P) && argB d.ps (jaq s) && dynB T K (i + 1) fs ds ss
 | _,_,_,_=>false
noncomputable def lkR:FL->List Fun->List Stmt->List (Option Obj)
 | x::fs,d::ds,s::ss=>some (Y.fO d.name d.name s x.2.2 x.2.1)::lkR fs ds ss
 | _,_,_=>[]
theorem jgV {T:Tab}{K:Yaa}:∀ {i:Nat} {fs:FL} {ds:List Fun} {ss:List Stmt},dynB T K i fs ds ss=true->fs.map (fun x=>K.lookup x.1)=lkR fs ds ss->∀ {n:Nat} {d:Fun} {s:Stmt},ds[n]?=some d->ss[n]?=some s->
  ∃ x:Addr×Addr×Value,Ya7 K YaB d.name=some (some (.ref x.1))/\K.lookup x.1=some (Y.fO d.name d.name s x.2.2 x.2.1)/\Ybu K (.ref x.2.1) d.name=true/\(∀ z,T.ns.lookup (i + n)=some z->jcz K (.ref x.2.1) z.P=true)/\argB d.ps (jaq s)=true
 | _,_,[],_,_,_,_,_,_,e,_=>by simp at e
 | _,_,_::_,[],_,_,_,_,_,_,e=>by simp at e
 | _,[],_::_,_::_,h,_,_,_,_,_,_=>by unfold dynB at h; cases h
 | i,x::fs,d::ds,s::ss,h,g,n,d',s',e1,e2=>by
  unfold dynB at h
  simp only [Yap] at h
  obtain ⟨⟨⟨⟨h1,h2⟩,h3⟩,h4⟩,h5⟩:=h
  unfold lkR at g
  rw [Yas] at g
  injection g with g1 g2
  cases n with
  | zero=>
   cases (Yan e1:d=d')
   cases (Yan e2:s=s')
   exact ⟨x,jeU h1,g1,h2,fun z hz=>by rw [Nat.add_zero] at hz; rw [hz] at h3; exact h3,h4⟩
  | succ n=>
   obtain ⟨y,q1,q2,q3,q4,q5⟩:=jgV h5 g2 (n:=n) e1 e2
   exact ⟨y,q1,q2,q3,fun z hz=>q4 z (by rw [show i + 1 + n=i + (n + 1) by omega]; exact hz),q5⟩
theorem jjl {N ps:List Str}{sc:Scope}(h:scB N ps sc=true):ps.Nodup:=by
 have S:=jf0 h
 rw [<- S.pre]
 exact S.nd.sublist (Ycr _ _)
theorem jeo {K:Yaa}{f:Addr}{c:Value}{d:Option Addr}{fd:Ybh}{sl:Array (Option Value)}(h:K.lookup f=some ⟨c,d,.func fd,sl⟩):Ya5 K (.ref f)=true:=by
 unfold Ya5
 dsimp only
 rw [h]
section
variable {T:Tab}{K:Yaa}{h:Heap}{mg:Str->Option Value}
theorem jmk {fs:FL}{sts:List Stmt}(X:K.In h)(G:h.Ns YaB mg)(hst:jc7 T 0 T.funs sts=true)(heq:jdz T sts 0 T.funs sts)(hB:dynB T K 0 fs T.funs sts=true)(hL:fs.map (fun x=>K.lookup x.1)=lkR fs T.funs sts):Dyn T K mg sts:=by
 intro n d st h1 h2
 obtain ⟨x,q1,q2,q3,q4,q5⟩:=jgV hB hL h1 h2
 have F:=jgT (st:=st) q2 q3 (jeo q2)
 obtain ⟨st',e,hs,_⟩:=jbG hst heq h1
 cases h2.symm.trans e
 exact ⟨_,_,F,YcZ X G q1,F.binds fun _ _ _ _ _ _ us hl=>jeA q5 (jjl hs) hl,fun z hz=>q4 z (by rw [Ycx]; exact hz)⟩
noncomputable def bltB (K:Yaa):Bool:=jbV.all fun x=>match Ya7 K YaB x with
 | some none=>true
 | _=>false
theorem jmr (X:K.In h)(G:h.Ns YaB mg)(hb:bltB K=true):∀ x∈jbV,mg x=none:=fun x hx=>by
 have:=Yee.mp hb x hx
 refine PySem.W.mg_none_of X G ?_
 split at this
 ·assumption
 ·cases this
noncomputable def gsB (K:Yaa):List Str->List U->Bool
 | [],[]=>true
 | x::xs,u::us=>(match u,Ya7 K YaB x with
  | .int i,some (some (.int j _))=>i == j
  | .str i,some (some (.str j _))=>i == j
  | _,_=>false) && gsB K xs us
 | _,_=>false
theorem jma (X:K.In h)(G:h.Ns YaB mg):∀ {xs:List Str} {us:List U},gsB K xs us=true->∀ (n:Nat) (x:Str) (u:U),xs[n]?=some x->us[n]?=some u->∃ v w,mg x=some w/\RelV v w/\∀ H,RU K H u v
 | [],_,_,_,_,_,e,_=>by simp at e
 | _::_,[],_,_,_,_,_,e=>by simp at e
 | x::xs,u::us,hb,n,x',u',e1,e2=>by
  unfold gsB at hb
  rw [Yap] at hb
  cases n with
  | zero=>
   cases (Yan e1:x=x')
   cases (Yan e2:u=u')
   have h1:=hb.1
   split at h1
   ·rename_i i j t q
    cases eq_of_beq h1
    exact ⟨.int i,_,YcZ X G q,⟨_,rfl⟩,fun _=>rfl⟩
   ·rename_i i j t q
    cases eq_of_beq h1
    exact ⟨.str i,_,YcZ X G q,⟨_,rfl⟩,fun _=>rfl⟩
   ·cases h1
  | succ n=>exact jma X G hb.2 n x' u' e1 e2
noncomputable def CsA (K:Yaa):List Nat->Prop
 | []=>True
 | n::r=>(∃ C,XCls K (gK K) (clsN n) (clsF n) C)/\CsA K r
theorem jmm:∀ {l:List Nat},CsA K l->∀ n∈l,1<=n->∃ C,XCls K (gK K) (clsN n) (clsF n) C
 | [],_,_,hn,_=>absurd hn Yaw
 | m::r,hc,n,hn,h1=>by
  unfold CsA at hc
  rcases YaI.mp hn with rfl | hn
  ·exact hc.1
  ·exact jmm hc.2 n hn h1
theorem all2 {l:Yd4}{w:World}{fa:Addr}{fs:FL}{sts:List Stmt}{k n:Nat}{d:Fun}{st:Stmt}(X:K.In h)(G:h.Ns YaB mg)(hfa:mg "law" = some (.ref fa))(hst:jc7 T 0 T.funs sts=true)(heq:jdz T sts 0 T.funs sts)
  (hU:∀ t∈tabs,∀ t'∈tabs,t.1=t'.1->t=t') (hB:dynB T K 0 fs T.funs sts=true) (hL:fs.map (fun x=>K.lookup x.1)=lkR fs T.funs sts) (hb:bltB K=true) (hg:gsB K T.gn T.gs=true) (hc:CsA K T.cs)
  (hd:T.funs[n]?=some d) (hs:sts[n]?=some st) (hn:T.ns.lookup n=none) (hdn:d.name = "law") (hps:d.ps=[("_law_script" : Str)]) :
  ∃ fd:Ybh,(∀ (s:Shared) (v:Value),BindsTo s fd ⟨[v],[]⟩ [("_law_script",v)])/\∀ base:Heap,K.In base->base.Ns YaB mg->BmAt mg base->FnOk l.prog w K mg base (CX1 l.prog w) (k + 2) fa fd ["_law_script"] (lSp K (jad T k n)):=by
 have dyn:=jmk X G hst heq hB hL
 obtain ⟨x,q1,q2,q3,q4,q5⟩:=jgV hB hL hd hs
 obtain ⟨st',e,hsc,_⟩:=jbG hst heq hd
 cases hs.symm.trans e
 have F:=jgT (st:=st) q2 q3 (jeo q2)
 rw [hdn] at q1
 cases hfa.symm.trans (YcZ X G q1)
 refine ⟨Ya2 d.name d.name (jaq st) (jae st) (jaa st) .none .none .none x.2.2 none (.ref x.2.1) .none,fun s v=>.of_eq ((jeA (us:=[v]) q5 (jjl hsc) (by rw [hps]; rfl)).trans (by rw [hps]; rfl)),fun base hKb _ hBm=>?_⟩
 rw [<- hps]
 exact jfs F hst heq dyn hU hKb hBm (jmr X G hb) (jma X G hg) (jmm hc) (jlK X G) hd hs hn
end
section
variable {K:Yaa}
noncomputable def joh (x:Str)(D N b t t':Nat)(u:List Value):Obj:=Y.cO x [.type "ValueError"] (.ref D::bmV) N u [some (.ref b),none,some (.str x t),some (.str x t'),some (.builtin "ValueError.__new__"),some (.bool true)]
noncomputable def clsO (x:Str)(C D N b t t':Nat):Obj:=Y.cO x [.ref D] (.ref C::.ref D::bmV) N [] [some (.ref b),none,some (.str x t),some (.str x t'),some (.builtin "ValueError.__new__"),some (.bool true)]
theorem xb_mk (D N b t t':Nat)(u:List Value)(l:K.lookup D=some (joh "PlanError" D N b t t' u))(h:(refB (Ya7 K YaB "PlanError") D && Ya5 K (.ref D) && (jcN K N == some ksB) && offB ksB && !ksB.contains ("__init__" : Str))=true):∃ mD,XBase K (gK K) D mD:=by
 simp only [Yap,Yc3] at h
 obtain ⟨⟨⟨⟨h1,h2⟩,h3⟩,h4⟩,h5⟩:=h
 exact jhm (jeU h1) h2 l (eq_of_beq h3) h4 h5
theorem xc_mk {D:Addr}(B:∃ mD,XBase K (gK K) D mD)(x qual:Str)(fs:List Str)(st:Stmt)(C N b t t' fI c:Nat)(m:Value)(l1:K.lookup C=some (clsO x C D N b t t'))(l2:K.lookup fI=some (Y.fO "__init__" qual st m c))
  (h:(refB (Ya7 K YaB x) C && Ya5 K (.ref C) && (jcN K N == some ksC) && offB ksC && refB (Ya7 K N "__init__") fI && Ybu K (.ref c) qual && scB (("self" : Str)::fs) ("self" :: fs) (jaa st) && ((("self" : Str)::fs).all fun y=>(jaa st).names.lookup y == some .local) && argB (("self" : Str)::fs) (jaq st))=true)
  (bd:(∃ f p1 p2 p3 pos,fs=[f]/\jae st=[.Assign [.Attribute (.Name "self" p1) f p2] (.Name f p3) pos])\/∃ f f2 p1 p2 p3 pos q1 q2 q3 qos,fs=[f,f2]/\f≠f2/\jae st=[.Assign [.Attribute (.Name "self" p1) f p2] (.Name f p3) pos,.Assign [.Attribute (.Name "self" q1) f2 q2] (.Name f2 q3) qos]):∃ C,XCls K (gK K) x fs C:=by
 obtain ⟨mD,B⟩:=B
 simp only [Yap] at h
 obtain ⟨⟨⟨⟨⟨⟨⟨⟨h1,h2⟩,h3⟩,h4⟩,h5⟩,h6⟩,h7⟩,h8⟩,h9⟩:=h
 have F:=jgT (st:=st) l2 h6 (jeo l2)
 exact ⟨C,jiT B (jeU h1) h2 l1 (eq_of_beq h3) h4 (jeU h5) F l2 h7 (F.binds fun _ _ _ _ _ _ us hl=>jeA h9 (jjl h7) hl) h8 bd⟩
end
section
local macro_rules
 | `(#[])=>`(.nil)
 | `(#[$x])=>`(.cons $x .nil)
 | `(#[$x,$xs,*])=>`(.cons $x #[$xs,*])
noncomputable abbrev jcG:Nat:=0
noncomputable abbrev jbR:Nat:=2
noncomputable abbrev jbQ:Nat:=3
noncomputable abbrev jcJ:Nat:=4
noncomputable abbrev jab:Nat:=5
noncomputable abbrev jcj:Nat:=6
noncomputable abbrev jck:Nat:=7
noncomputable abbrev ja6:Nat:=8
noncomputable abbrev jbJ:Nat:=9
noncomputable abbrev jcI:Nat:=10
noncomputable abbrev jcm:Nat:=11
noncomputable abbrev jbI:Nat:=12
noncomputable abbrev ja7:Nat:=13
noncomputable abbrev jcl:Nat:=14
noncomputable abbrev jcH:Nat:=15
noncomputable abbrev jbj:Nat:=16
noncomputable abbrev jdK:Nat:=17
noncomputable abbrev jaD:Nat:=18
noncomputable abbrev jjR:Nat:=19
noncomputable def jcP:Fun:=⟨"words_of",["line"],["line"],#[.ret (.meth .split (.v 0) #[.str " "])]⟩
noncomputable def jbC:Fun:=⟨"first_fault",["words", "least", "fits"],["words", "least", "fits", "at"],#[.fr (.n 3) (.r1 (.blt .len #[.v 0])) #[.ite (.not (.app 2 #[.v 3])) #[.ret (.v 3)] .nil],.ret (.ife (.cmp .Lt (.blt .len #[.v 0]) (.v 1)) (.blt .len #[.v 0]) .non)]⟩
noncomputable abbrev jdc:Nat:=21
noncomputable def jba:Fun:=⟨"line_fault",["names", "told", "beat", "words"],["names", "told", "beat", "words", "fits"],#[.ret (.call 20 #[.v 0,.v 1,.v 2,.v 3,.v 3,.int 2])]⟩
noncomputable def jaW:Fun:=⟨"ff@line_fault",["names", "told", "beat", "words", "w@", "n@"],["names", "told", "beat", "words", "w@", "n@", "at@"],#[.fr (.n 6) (.r1 (.blt .len #[.v 4])) #[.ite (.not (.call 21 #[.v 6,.v 0,.v 1,.v 2,.v 3])) #[.ret (.v 6)] .nil],.ret (.ife (.cmp .Lt (.blt .len #[.v 4]) (.v 5)) (.blt .len #[.v 4]) .non)]⟩
noncomputable def jaX:Fun:=⟨"fits@line_fault",["at", "names", "told", "beat", "words"],["at", "names", "told", "beat", "words", "word"],#[.asg (.n 5) (.ix (.v 4) (.v 0)),.ite (.cmp .Eq (.v 0) (.int 0)) #[.ret (.cmp .Eq (.v 5) (.blt .str #[.v 3]))] .nil,.ite (.bop true (.cmp .Eq (.v 0) (.int 1)) #[.cmp .Eq (.v 5) (.g 0)]) #[.ret (.bl true)] .nil,.ite (.bop false (.cmp .Eq (.ix (.v 4) (.int 1)) (.g 0)) #[.cmp .NotIn (.v 5) (.v 1),.cmp .In (.v 5) (.v 2)]) #[.ret (.bl false)] .nil,.ret (.bop false (.cmp .Eq (.v 0) (.int 1)) #[.cmp .Lt (.meth .index (.v 1) #[.ix (.v 4) (.bin .Sub (.v 0) (.int 1))]) (.meth .index (.v 1) #[.v 5])])]⟩
noncomputable def jbN:Nst:=⟨138,1,20,21,[0,1,2,3],3,4,2, "words", "fits", "at"⟩
noncomputable def jbT:Fun:=⟨"read_board",["plan", "period", "lines"],["plan", "period", "lines", "names", "told", "row", "line", "words", "at", "name"],#[.asg (.n 3) (.ix (.v 0) (.int 0)),.asg (.n 4) (.dic .nil),(.fr (.t #[.n 5,.n 6]) (.enum (.v 2)) #[.asg (.n 7) (.call jcG #[.v 6]),.asg (.n 8) (.ife (.cmp .Lt (.v 5) (.v 1)) (.call jbR #[.v 3,.v 4,.v 5,.v 7]) (.int 0)),.ite (.cmp .IsNot (.v 8) .non) #[.raise 4 #[.v 5,.v 8]] .nil,.fr (.n 9) (.e (.sl (.v 7) (.so (.int 1)) .no)) #[.ite (.cmp .NotEq (.v 9) (.g 0)) #[.setS (.v 4) (.v 9) (.v 5)] .nil]]),(.ite (.bop false (.cmp .Lt (.blt .len #[.v 2]) (.v 1)) #[.cmp .Lt (.blt .len #[.v 4]) (.blt .len #[.v 3])]) #[(.raise 4 #[.blt .len #[.v 2],.int 0])] .nil),.ret (.mkT (.lc [none,some 4] (.n 0) (.e (.v 3)) .nil (.ix (.v 1) (.v 0))))]⟩
noncomputable def jcU:Fun:=⟨"_law_feed",["_law_script"],["_law_script"],#[(.ret (.dic #[.str "cells",.bin .Add (.mkL (.sl (.v 0) .no (.so (.int 63)))) (.bin .Mult (.lst #[.int 0]) (.blt .int #[.cmp .Eq (.blt .len #[.v 0]) (.int 0)])),.str "at",.int 0,.str "left",.int 0,.str "turn",.int 0]))]⟩
noncomputable def jcV:Fun:=⟨"_law_draw",["_law_feed_here", "_law_many"],["_law_feed_here", "_law_many", "_law_cell", "_law_mixed", "_law_found"],#[.setS (.v 0) (.str "turn") (.bin .Add (.ix (.v 0) (.str "turn")) (.int 1)),(.ite (.cmp .Eq (.ix (.v 0) (.str "left")) (.int 0)) #[.asg (.n 2) (.ix (.ix (.v 0) (.str "cells")) (.bin .Mod (.ix (.v 0) (.str "at")) (.blt .len #[.ix (.v 0) (.str "cells")]))),.setS (.v 0) (.str "at") (.bin .Add (.ix (.v 0) (.str "at")) (.int 1)),.ite (.cmp .Lt (.v 2) (.bin .Pow (.int 10) (.int 18))) #[.asg (.n 3) (.bin .Mod (.bin .Mult (.bin .Add (.bin .Mod (.v 2) (.int 2147483629)) (.bin .Mult (.int 1013) (.ix (.v 0) (.str "turn")))) (.int 48271)) (.int 2147483647)),.asg (.n 3) (.bin .Mod (.bin .Mult (.bin .Add (.bin .FloorDiv (.v 3) (.int 64)) (.bin .Mult (.int 41) (.ix (.v 0) (.str "turn")))) (.int 69621)) (.int 2147483587)),.ret (.bin .Mod (.bin .FloorDiv (.v 3) (.int 64)) (.v 1))] .nil,.setS (.v 0) (.str "left") (.v 2)] .nil),.asg (.n 4) (.bin .Mod (.ix (.v 0) (.str "left")) (.v 1)),.setS (.v 0) (.str "left") (.bin .FloorDiv (.ix (.v 0) (.str "left")) (.v 1)),.ret (.v 4)]⟩
noncomputable def jct:Fun:=⟨"_law_names",["_law_feed_here", "_law_many"],["_law_feed_here", "_law_many", "_law_menu", "_law_first", "_law_step", "_law_names_here", "_law_signs"],#[.asg (.n 2) (.lst #[.str "a",.str "ab",.str "abc",.str "works",.str "span",.str "apart",.str "none",.str "round",.str "held",.str "zzzzzzzz",.str "undo",.str "b",.str "ba",.str "plan"]),.expr (.meth .append (.v 2) #[.str "x"]),.asg (.n 3) (.call jab #[.v 0,.int 15]),.asg (.n 4) (.ix (.lst #[.int 1,.int 2,.int 4,.int 7,.int 8,.int 11,.int 13,.int 14]) (.call jab #[.v 0,.int 8])),.asgC 5 (.lc [none,some 2,some 3,some 4] (.n 0) (.r1 (.v 1)) .nil (.ix (.v 1) (.bin .Mod (.bin .Add (.v 2) (.bin .Mult (.v 3) (.v 0))) (.int 15)))),(.ite (.cmp .Eq (.call jab #[.v 0,.int 3]) (.int 0)) #[.asgC 6 (.lc [none,some 0] (.n 0) (.r1 (.bin .Add (.int 1) (.call jab #[.v 0,.int 8]))) .nil (.ix (.str "abcdefghijklmnopqrstuvwxyz") (.call jab #[.v 1,.int 26]))),.ite (.cmp .NotIn (.meth .join (.str "") #[.v 6]) (.v 5)) #[.setS (.v 5) (.call jab #[.v 0,.v 1]) (.meth .join (.str "") #[.v 6])] .nil] .nil),.ret (.mkT (.v 5))]⟩
noncomputable def jcu:Fun:=⟨"_law_cycle",["_law_feed_here"],["_law_feed_here"],#[.ret (.ix (.lst #[.int 1,.int 2,.int 3,.int 4,.int 5,.int 6,.int 7,.int 8,.int 10,.int 12,.int 30,.int 60,.int 120,.int 600]) (.call jab #[.v 0,.int 14]))]⟩
noncomputable def jbU:Fun:=⟨"_law_number",["_law_feed_here", "_law_cycle_here"],["_law_feed_here", "_law_cycle_here", "_law_way"],#[.asg (.n 2) (.call jab #[.v 0,.int 6]),.ite (.cmp .Lt (.v 2) (.int 3)) #[.ret (.call jab #[.v 0,.bin .Add (.v 1) (.int 1)])] .nil,.ite (.cmp .Eq (.v 2) (.int 3)) #[.ret (.ix (.lst #[.int 0,.int 1,.v 1,.bin .Sub (.bin .Mult (.int 2) (.v 1)) (.int 1),.bin .Mult (.int 2) (.v 1)]) (.call jab #[.v 0,.int 5]))] .nil,.ret (.call jab #[.v 0,.ix (.lst #[.bin .Add (.bin .Mult (.int 3) (.v 1)) (.int 1),.int 10000]) (.bin .Sub (.v 2) (.int 4))])]⟩
noncomputable def jcS:Fun:=⟨"_law_span",["_law_feed_here", "_law_one", "_law_other", "_law_cycle_here"],["_law_feed_here", "_law_one", "_law_other", "_law_cycle_here", "_law_low", "_law_more"],#[.asg (.n 4) (.call ja6 #[.v 0,.v 3]),.ite (.cmp .Eq (.call jab #[.v 0,.int 4]) (.int 0)) #[.ret (.tup #[.str "apart",.v 1,.v 2,.v 4,.call ja6 #[.v 0,.v 3]])] .nil,.asg (.n 5) (.ix (.lst #[.int 0,.int 0,.int 1,.int 2,.bin .FloorDiv (.v 3) (.int 2),.bin .Sub (.v 3) (.int 1),.bin .Mult (.int 3) (.v 3),.int 9999]) (.call jab #[.v 0,.int 8])),.ret (.tup #[.str "span",.v 1,.v 2,.v 4,.blt .min #[.int 9999,.bin .Add (.v 4) (.v 5)]])]⟩
noncomputable def jcT:Fun:=⟨"_law_plan",["_law_feed_here", "_law_cycle_here"],["_law_feed_here", "_law_cycle_here", "_law_works", "_law_names_here", "_law_spans", "_law_k"],#[.asg (.n 2) (.ix (.lst #[.int 1,.int 2,.int 2,.int 3,.int 3,.int 4,.int 5,.int 8]) (.call jab #[.v 0,.int 8])),.asg (.n 3) (.call jcj #[.v 0,.v 2]),.asg (.n 4) (.lst .nil),(.fr (.n 5) (.r1 (.ix (.lst #[.int 0,.int 1,.int 2,.int 3,.int 4,.int 6,.int 9,.int 24]) (.call jab #[.v 0,.int 8]))) #[(.ite (.bop true (.cmp .NotEq (.v 4) (.lst .nil)) #[.cmp .Eq (.call jab #[.v 0,.int 9]) (.int 0)]) #[.expr (.meth .append (.v 4) #[.ix (.v 4) (.call jab #[.v 0,.blt .len #[.v 4]])])] #[(.expr (.meth .append (.v 4) #[(.call jbJ #[.v 0,.call jab #[.v 0,.v 2],.call jab #[.v 0,.v 2],.v 1])]))])]),.ret (.tup #[.v 3,.mkT (.v 4)])]⟩
noncomputable def jcw:Fun:=⟨"_law_beats",["_law_feed_here", "_law_works", "_law_cycle_here"],["_law_feed_here", "_law_works", "_law_cycle_here"],#[.ret (.mkT (.lc [none,some 0,some 2] (.n 0) (.r1 (.v 1)) .nil (.call jab #[.v 1,.v 2])))]⟩
noncomputable def jcQ:Fun:=⟨"_law_word",["_law_feed_here", "_law_names_here"],["_law_feed_here", "_law_names_here", "_law_some"],#[.asg (.n 2) (.lst #[.str "",.str "works",.str "span",.str "apart",.str "0",.str "00",.str "07",.str "1",.str "9999",.str "10000",.str "99999",.str "-1",.str "-",.str "A",.str "abcdefghi"]),.asg (.n 2) (.bin .Add (.bin .Add (.v 2) (.lst #[.str "x1",.str "zzzz",.str "span2",.str "a",.str "0x",.str "+3"])) (.mkL (.v 1))),.ret (.ix (.v 2) (.call jab #[.v 0,.blt .len #[.v 2]]))]⟩
noncomputable def jbb:Fun:=⟨"_law_line_bent",["_law_feed_here", "_law_line", "_law_names_here"],["_law_feed_here", "_law_line", "_law_names_here", "_law_words", "_law_at", "_law_way"],#[.asg (.n 3) (.meth .split (.v 1) #[.str " "]),.asg (.n 4) (.call jab #[.v 0,.blt .len #[.v 3]]),.asg (.n 5) (.call jab #[.v 0,.int 7]),.ite (.cmp .Eq (.v 5) (.int 0)) #[.asg (.n 3) (.bin .Add (.sl (.v 3) .no (.so (.v 4))) (.sl (.v 3) (.so (.bin .Add (.v 4) (.int 1))) .no))] #[.ite (.cmp .Eq (.v 5) (.int 1)) #[.asg (.n 3) (.bin .Add (.bin .Add (.sl (.v 3) .no (.so (.v 4))) (.lst #[.ix (.v 3) (.v 4)])) (.sl (.v 3) (.so (.v 4)) .no))] #[.ite (.cmp .Eq (.v 5) (.int 2)) #[.asg (.n 3) (.bin .Add (.bin .Add (.sl (.v 3) .no (.so (.v 4))) (.rev (.sl (.v 3) (.so (.v 4)) (.so (.bin .Add (.v 4) (.int 2)))) (.neg (.int 1)))) (.sl (.v 3) (.so (.bin .Add (.v 4) (.int 2))) .no))] #[.ite (.cmp .Eq (.v 5) (.int 3)) #[.asg (.n 3) (.bin .Add (.bin .Add (.sl (.v 3) .no (.so (.v 4))) (.lst #[.call jbI #[.v 0,.v 2]])) (.sl (.v 3) (.so (.v 4)) .no))] #[.ite (.cmp .Eq (.v 5) (.int 4)) #[.ret (.ix (.lrp (.bin .Add (.v 1) (.str " ")) 1 " " " " "  " #[.bin .Add (.v 1) (.str "1"),.sl (.v 1) (.so (.int 1)) .no]) (.call jab #[.v 0,.int 5]))] #[.setS (.v 3) (.v 4) (.call jbI #[.v 0,.v 2])]]]]],.ret (.meth .join (.str " ") #[.v 3])]⟩
noncomputable def jcv:Fun:=⟨"_law_board",["_law_plan_here", "_law_cycle_here", "_law_beats_here"],["_law_plan_here", "_law_cycle_here", "_law_beats_here", "_law_lines", "_law_beat", "_law_words", "_law_work"],#[.asg (.n 3) (.lst .nil),(.fr (.n 4) (.r1 (.v 1)) #[.asg (.n 5) (.lst #[.blt .str #[.v 4]]),.fr (.n 6) (.r1 (.blt .len #[.v 2])) #[.ite (.cmp .Eq (.ix (.v 2) (.v 6)) (.v 4)) #[.expr (.meth .append (.v 5) #[.ix (.ix (.v 0) (.int 0)) (.v 6)])] .nil],.expr (.meth .append (.v 3) #[.ife (.cmp .Gt (.blt .len #[.v 5]) (.int 1)) (.meth .join (.str " ") #[.v 5]) (.bin .Add (.blt .str #[.v 4]) (.str " -"))])]),.ret (.v 3)]⟩
noncomputable def jcR:Fun:=⟨"_law_told",["_law_plan_here", "_law_cycle_here", "_law_lines"],["_law_plan_here", "_law_cycle_here", "_law_lines", "_law_found", "e", "_law_others"],#[.asg (.n 3) .non,(.tr #[.asg (.n 3) (.call jbQ #[.v 0,.v 1,.v 2])] 0 4 [.asg 3 (.one (.str "other")),.asg 5 (.cond false (false,.isi [1,3,5,2]) [(true,.isiV)]),.ifa true (false,.is1 4) [(true,.v 5)] 3 (.lst [(.att "row"),(.att "word")])]),.ret (.v 3)]⟩
noncomputable def jbl:Fun:=⟨"_law_line_due",["_law_names_here", "_law_known", "_law_words"],["_law_names_here", "_law_known", "_law_words", "_law_last", "_law_at", "_law_work"],#[.ite (.cmp .Eq (.blt .len #[.v 2]) (.int 1)) #[.ret (.int 1)] .nil,.ite (.cmp .Eq (.ix (.v 2) (.int 1)) (.str "-")) #[.ret (.ife (.cmp .Gt (.blt .len #[.v 2]) (.int 2)) (.int 2) .non)] .nil,.asg (.n 3) (.neg (.int 1)),(.fr (.n 4) (.r2 (.int 1) (.blt .len #[.v 2])) #[.asg (.n 5) (.ife (.cmp .In (.ix (.v 2) (.v 4)) (.v 0)) (.meth .index (.v 0) #[.ix (.v 2) (.v 4)]) (.neg (.int 1))),.ite (.bop false (.cmp .LtE (.v 5) (.v 3)) #[.cmp .In (.v 5) (.v 1)]) #[.ret (.v 4)] .nil,.expr (.meth .append (.v 1) #[.v 5]),.asg (.n 3) (.v 5)]),.ret .non]⟩
noncomputable def jdV:Fun:=⟨"_law_due",["_law_plan_here", "_law_cycle_here", "_law_lines"],["_law_plan_here", "_law_cycle_here", "_law_lines", "_law_beats_here", "_law_row", "_law_words", "_law_known", "_law_word_here", "_law_work"],#[.asg (.n 3) (.dic .nil),(.fr (.n 4) (.r1 (.blt .len #[.v 2])) #[.asg (.n 5) (.meth .split (.ix (.v 2) (.v 4)) #[.str " "]),.ite (.bop false (.cmp .GtE (.v 4) (.v 1)) #[.cmp .NotEq (.ix (.v 5) (.int 0)) (.blt .str #[.v 4])]) #[.ret (.lst #[.v 4,.int 0])] .nil,.asg (.n 6) (.mkD (.v 3)),.asg (.n 7) (.call jbj #[.ix (.v 0) (.int 0),.v 6,.v 5]),.ite (.cmp .IsNot (.v 7) .non) #[.ret (.lst #[.v 4,.v 7])] .nil,.fr (.n 8) (.e (.v 6)) #[.expr (.meth .setd (.v 3) #[.v 8,.v 4])]]),(.ite (.bop false (.cmp .Lt (.blt .len #[.v 2]) (.v 1)) #[.cmp .Lt (.blt .len #[.v 3]) (.blt .len #[.ix (.v 0) (.int 0)])]) #[(.ret (.lst #[.blt .len #[.v 2],.int 0]))] .nil),.ret (.mkT (.lc [none,some 3] (.n 0) (.r1 (.blt .len #[.ix (.v 0) (.int 0)])) .nil (.ix (.v 1) (.v 0))))]⟩
noncomputable def ja2:Fun:=⟨"_law_board_bent",["_law_feed_here", "_law_lines", "_law_names_here"],["_law_feed_here", "_law_lines", "_law_names_here", "_law_at", "_law_way", "_law_name", "_law_other"],#[.asg (.n 3) (.call jab #[.v 0,.bin .Add (.blt .len #[.v 1]) (.int 1)]),.asg (.n 4) (.call jab #[.v 0,.int 10]),.asg (.n 5) (.ix (.v 2) (.call jab #[.v 0,.blt .len #[.v 2]])),.ite (.cmp .Eq (.v 4) (.int 0)) #[.ret (.bin .Add (.sl (.v 1) .no (.so (.v 3))) (.sl (.v 1) (.so (.bin .Add (.v 3) (.int 1))) .no))] .nil,.ite (.cmp .Eq (.v 4) (.int 1)) #[.ret (.bin .Add (.bin .Add (.sl (.v 1) .no (.so (.v 3))) (.sl (.v 1) (.so (.v 3)) (.so (.bin .Add (.v 3) (.int 1))))) (.sl (.v 1) (.so (.v 3)) .no))] .nil,.ite (.cmp .Eq (.v 4) (.int 2)) #[.ret (.bin .Add (.bin .Add (.sl (.v 1) .no (.so (.v 3))) (.rev (.sl (.v 1) (.so (.v 3)) (.so (.bin .Add (.v 3) (.int 2)))) (.neg (.int 1)))) (.sl (.v 1) (.so (.bin .Add (.v 3) (.int 2))) .no))] .nil,.ite (.cmp .Eq (.v 4) (.int 3)) #[.ret (.bin .Add (.v 1) (.lst #[.bin .Add (.bin .Add (.blt .str #[.blt .len #[.v 1]]) (.str " ")) (.ix (.lst #[.v 5,.str "-"]) (.call jab #[.v 0,.int 2]))]))] .nil,.ite (.cmp .Eq (.v 4) (.int 4)) #[.ret (.ife (.cmp .Gt (.blt .len #[.v 1]) (.int 3)) (.sl (.v 1) .no (.so (.bin .Sub (.bin .Sub (.blt .len #[.v 1]) (.int 1)) (.call jab #[.v 0,.int 3])))) (.lst .nil))] .nil,.ite (.cmp .Eq (.v 3) (.blt .len #[.v 1])) #[.ret (.bin .Add (.lst #[.str ""]) (.v 1))] .nil,.ite (.cmp .Eq (.v 4) (.int 5)) #[.ret (.bin .Add (.bin .Add (.sl (.v 1) .no (.so (.v 3))) (.lst #[.bin .Add (.bin .Add (.ix (.v 1) (.v 3)) (.str " ")) (.ix (.lst #[.v 5,.str "-",.str ""]) (.call jab #[.v 0,.int 3]))])) (.sl (.v 1) (.so (.bin .Add (.v 3) (.int 1))) .no))] .nil,(.ite (.cmp .Eq (.v 4) (.int 6)) #[(.asg (.n 6) (.ix (.lst #[.bin .Add (.blt .str #[.v 3]) (.str " -"),.bin .Add (.bin .Add (.blt .str #[.v 3]) (.str " ")) (.v 5),.blt .str #[.v 3],.bin .Add (.str "- ") (.v 5)]) (.call jab #[.v 0,.int 4]))),.ret (.bin .Add (.bin .Add (.sl (.v 1) .no (.so (.v 3))) (.lst #[.v 6])) (.sl (.v 1) (.so (.bin .Add (.v 3) (.int 1))) .no))] .nil),.ret (.bin .Add (.bin .Add (.sl (.v 1) .no (.so (.v 3))) (.lst #[.call ja7 #[.v 0,.ix (.v 1) (.v 3),.bin .Add (.v 2) (.tup #[.str "-"])]])) (.sl (.v 1) (.so (.bin .Add (.v 3) (.int 1))) .no))]⟩
noncomputable def jml:Fun:=⟨"law",["_law_script"],["_law_script", "_law_feed_here", "_law_k", "_law_cycle_here", "_law_plan_here", "_law_beats_here", "_law_lines", "_law_some", "_law_turn", "_law_bent", "_law_more", "_law_one", "_law_handed", "_law_told_here"],#[.asg (.n 1) (.call jcJ #[.v 0]),(.fr (.n 2) (.r1 (.int 3)) #[(.asg (.n 3) (.blt .min #[.ix (.lst #[.int 597,.int 120]) (.blt .int #[.cmp .Gt (.v 2) (.int 0)]),.call jck #[.v 1]])),.asg (.n 4) (.call jcI #[.v 1,.v 3]),(.asg (.n 5) (.call jcm #[.v 1,.blt .len #[.ix (.v 4) (.int 0)],.v 3])),.asg (.n 6) (.call jcl #[.v 4,.v 3,.v 5]),.asg (.n 7) (.lst #[.v 6,.lst .nil]),(.fr (.n 8) (.r1 (.int 8)) #[.asg (.n 9) (.call jaD #[.v 1,.v 6,.ix (.v 4) (.int 0)]),.fr (.n 10) (.r1 (.call jab #[.v 1,.int 3])) #[.asg (.n 9) (.call jaD #[.v 1,.v 9,.ix (.v 4) (.int 0)])],.expr (.meth .append (.v 7) #[.v 9])]),(.fr (.n 11) (.e (.bin .Add (.v 7) (.lst #[.v 6]))) #[.asg (.n 12) (.mkL (.v 11)),.asg (.n 13) (.call jcH #[.v 4,.v 3,.v 12]),.ite (.bop false (.cmp .NotEq (.blt .repr #[.v 13]) (.blt .repr #[.call jdK #[.v 4,.v 3,.v 11]])) #[.cmp .NotEq (.v 12) (.v 11)]) #[.ret (.bl false)] .nil])]),.ret (.bl true)]⟩
noncomputable def T:Tab:=⟨[jcP,jbC,jba,jbT,jcU,jcV,jct,jcu,jbU,jcS,jcT,jcw,jcQ,jbb,jcv,jcR,jbl,jdV,ja2,jml],[(.str "-")],["NO_NAME"],[1,2,3,4,5],[jaW,jaX],[(2,jbN)]⟩
def top (i:Nat):Stmt:=PySem.Challenge.pw_beatplans_k77_boards_that_can_not_be_rea.main.body.getD i (.Pass ⟨0,0,0,0⟩)
noncomputable abbrev s_words_of:Stmt:=top 8
noncomputable abbrev s_first_fault:Stmt:=top 9
noncomputable abbrev s_line_fault:Stmt:=top 12
noncomputable abbrev s_read_board:Stmt:=top 13
noncomputable abbrev s_law_feed:Stmt:=top 15
noncomputable abbrev s_law_draw:Stmt:=top 16
noncomputable abbrev s_law_names:Stmt:=top 17
noncomputable abbrev s_law_cycle:Stmt:=top 18
noncomputable abbrev s_law_number:Stmt:=top 19
noncomputable abbrev s_law_span:Stmt:=top 20
noncomputable abbrev s_law_plan:Stmt:=top 21
noncomputable abbrev s_law_beats:Stmt:=top 22
noncomputable abbrev s_law_word:Stmt:=top 23
noncomputable abbrev s_law_line_bent:Stmt:=top 24
noncomputable abbrev s_law_board:Stmt:=top 25
noncomputable abbrev s_law_told:Stmt:=top 26
noncomputable abbrev s_law_line_due:Stmt:=top 27
noncomputable abbrev s_law_due:Stmt:=top 28
noncomputable abbrev s_law_board_bent:Stmt:=top 29
noncomputable abbrev s_law:Stmt:=top 30
end
local macro_rules
 | `(tactic| simp! only [$xs,*])=>`(tactic| try simp only [D_v,T_v,jo6,D_bl,jpe,jo3,D_g,T_g,jpk,joM,jo7,jpi,joK,jo2,jpb,jph,D_ix,T_ix,D_sl,jo4,jmQ,jmz,jpj,joL,jmP,D_lc,jpd,joH,jpg,joJ,jpc,joG,jpa,joF,jo9,jo8,jo5,joE,jpf,joI,jmR,jpl,D_or,joN,T_or,O_no,O_so,jpo,jmU,jpm,jmS,joS,jmF,I_e,I_r1,I_r2,jmG,I_s,joY,jmO,I_dk,joO,jmD,joR,jmE,jmC,joQ,S_fr,joP,jkv,S_tr,jpn,jmT,joD,joC,jhi,jox,joA,jmw,jmx,joB,joy,joz,jow,jor,jou,jop,W_lt,W_le,W_gt,W_ge,joo,jot,jmt,joq,jov,W_in,jon,jos,Y_bl,joj,jok,joi,joV,jol,jo0,jmI,joZ,jo1,joX,jom,jmy,jmv,jmu,jmL,jmJ,jmK,jmN,jmM,G_n,G_t,joW,jmH,sl_0,sl_s,dr_0,dr_s,pk_nil,jjt,jjs,joT,joU,jh5,job,jke,jkd,joc,jkg,jkf,Yas,YcO,Yed,Yer,YaW,Ydj,YdT,YdU,YdS,List.zip_nil_right,List.zip_nil_left,Yeu,List.foldl_nil,List.getElem?_cons_zero,List.getElem?_cons_succ,Option.join_some,ite_true,ite_false,YbL,Ygb,$xs,*])
set_option maxHeartbeats 2000000
theorem jfG (x y:Str):(x++y).cps.toList=x.cps.toList++y.cps.toList:=by
 show (x.cps++y.cps).toList=_
 simp
theorem ji7 {x y:Str}(h:x.cps.toList=y.cps.toList):x=y:=Str.ext' (Array.toList_inj.mp h)
theorem jdf {y a b:Str}{r:List Str}:Ya4 y (a::b::r)=a++y++Ya4 y (b::r):=rfl
theorem jkP:(" " : Str)=⟨#[32]⟩:=by decide +kernel
theorem jht (x:Str)(c:Nat):Ya8 x ⟨#[c]⟩≠[]:=by
 intro h
 have e:=StrLaws.join_split x ⟨#[c]⟩
 unfold Ya8 at h
 split at h
 ·cases h
 ·split at h
  ·cases h
  ·rw [StrLaws.partsBetween_eq] at h
   obtain ⟨p,q,e⟩:=StrLaws.partsFrom_ne x (⟨#[c]⟩:Str).length 0 (YaU x ⟨#[c]⟩ 0 x.length (x.length + 1))
   rw [h] at e; cases e
set_option maxHeartbeats 1000000
section
variable {k:Nat}{G:Gp}{Q:K1}{X:KX}
theorem jaf {f c:Addr}{m:Int}(hf:Fd G f c)(h0:0 < m)(h1:m < 1073741824)(q:∀ (r:Int) (G':Gp),0<=r->r < m->Fd G' f c->Sm f G G'->Q (.int r) G'):jad T (k + 1) jab [.loc f,.int m] G Q X:=by
 obtain ⟨ns,a,l,t,g1,g2,hn⟩:=hf.ex
 have fin:∀ (z a' l' t':Int),Q (.int (z % m)) (gup G f (.dK (fdU c a' l' t'))):=fun z a' l' t'=>q _ _ (YeA z (by omega)) (YdZ z h0) (Fd.put ⟨rfl⟩ g1 g2 hn) Sm.put
 have hlen:0 < ns.length:=List.length_pos_iff.mpr hn
 have gc:∀ kvs,gup G f (.dK kvs) c=some (.lst (ns.map .int)):=fun kvs=>by rw [ja9 (fun z=>by rw [z,g1] at g2; cases g2)]; exact g2
 obtain ⟨z,hz,ez⟩:=jd5 (l:=ns) (r:=a % ns.length) (YeA _ (by omega)) (YdZ _ (by omega))
 refine ⟨rfl,?_⟩
 simp! only [jcV,jaj,Yai,ix_d g1 jiF,jfY g1,jc5,jiv,jfc,true_and,jbg (gc _),Yac,ix_l (gc _) ((jeC U.int ns _).trans (congrArg _ ez))]
 have cut:∀ (l' a' t':Int),(0 < m/\0 < m/\m < 1073741824/\Q (.int (l' % m)) (gup G f (.dK (fdU c a' (l' / m) t')))):=fun l' a' t'=>⟨h0,h0,by omega,fin _ _ _ _⟩
 by_cases hl:l=0
 ·rw [if_pos (by simpa using hl)]
  refine ⟨by omega,by constructor <;> decide,?_⟩
  by_cases hc:z < 10 ^ Int.toNat 18
  ·rw [if_pos (by simpa using hc)]
   exact ⟨by decide,.inl (by decide),.inr (by decide),by decide,by decide,by decide,.inl (by decide),.inr (by decide),by decide,by decide,by decide,h0,fin _ _ _ _⟩
  ·rw [if_neg (by simpa using hc)]
   exact cut _ _ _
 ·rw [if_neg (by simpa using hl)]
  exact cut _ _ _
theorem jjL {a:Addr}{ns:List Int}(ha:G a=some (.fro (ns.map .int)))(hl:ns.length<=63)(q:∀ (f c:Addr) (G':Gp),Fd G' f c->Q (.loc f) G'):jad T (k + 1) jcJ [.loc a] G Q X:=by
 have hcl:(cut ns none (some 63)).length<=63:=by rw [show (63:Int)=((63:Nat):Int) from rfl,jiL]; simp; omega
 refine ⟨rfl,?_⟩
 simp! only [jcU,jaj,Yai,sl_f ha,jey]
 intro p1 G1 n1
 rw [it_l n1.at]
 intro p2 G2 n2
 refine ⟨by decide,fun p3 G3 n3=>?_⟩
 simp! only [jnZ (n3.sa _ _ (n2.sa _ _ (n1.sa _ _ ha)))]
 obtain ⟨zs,ez,lz,hz⟩:∃ zs:List Int,(Yai (Int.toNat (if decide (((ns.map U.int).length:Int)=0)=true then 1 else 0)) [U.int 0]).flatten=zs.map U.int/\zs.length<=1/\(ns=[]->zs≠[]):=by
  by_cases h:ns=[]
  ·subst h
   exact ⟨[0],rfl,by decide,fun _=>by simp⟩
  ·refine ⟨[],?_,by decide,fun z=>absurd z h⟩
   rw [if_neg (by simpa using h)]
   rfl
 refine ⟨_,n3.at,by split <;> decide,by split <;> decide,by split <;> decide,fun p4 G4 n4=>?_⟩
 rw [ez] at n4
 refine ⟨_,_,n4.sa _ _ (n3.sa _ _ n2.at),n4.at,?_,fun p5 G5 n5=>⟨by decide,fun p6 G6 n6=>?_⟩⟩
 ·rw [Yac,Yac]
  exact Yal (YeO hcl lz) (by decide:63 + 1<=Yae)
 rw [jlM] at n6
 rw [<- YaE] at n5
 refine q _ p5 _ ⟨_,0,0,0,n6.at,n6.sa _ _ n5.at,fun z=>?_⟩
 obtain ⟨z1,z2⟩:=List.append_eq_nil_iff.mp z
 refine hz ?_ z2
 rw [show (63:Int)=((63:Nat):Int) from rfl,jiL] at z1
 cases ns with
 | nil=>rfl
 | cons _ _=>cases z1
end

set_option maxHeartbeats 2000000
structure Nm (x:Str):Prop where
 l8:x.length<=8
 ch:∀ c∈x.cps.toList,c < 128
 lw:∀ c∈x.cps.toList,97<=c
 ne:0 < x.length
noncomputable def menu:List Str:=["a", "ab", "abc", "works", "span", "apart", "none", "round", "held", "zzzzzzzz", "undo", "b", "ba", "plan", "x"]
theorem jjV:∀ x∈menu,Nm x:=by
 have h:∀ x∈menu,x.length<=8/\(∀ c∈x.cps.toList,c < 128)/\(∀ c∈x.cps.toList,97<=c)/\0 < x.length:=by decide +kernel
 exact fun x hx=>⟨(h x hx).1,(h x hx).2.1,(h x hx).2.2.1,(h x hx).2.2.2⟩
noncomputable def nm3 (first step:Int)(k:Nat):Str:=menu.getD ((first + step * (k:Int)) % 15).toNat "a"
theorem jgu {first step:Int}{n:Nat}(h0:0<=first)(h1:first < 15)(hs:step∈([1,2,4,7,8,11,13,14]:List Int))(hn:n<=8):((YaK n).map (nm3 first step)).Nodup:=by
 have key:∀ f∈YaK 15,∀ st∈([1,2,4,7,8,11,13,14]:List Int),((YaK 8).map (nm3 (f:Int) st)).Nodup:=by decide +kernel
 have h2:=key first.toNat (List.mem_range.mpr (by omega)) step hs
 rw [YdL h0] at h2
 have e:(YaK n).map (nm3 first step)=((YaK 8).map (nm3 first step)).take n:=by
  rw [<- YeT,List.take_range,Nat.min_eq_left hn]
 rw [e]
 exact h2.sublist (Ycr _ _)
theorem jdJ {α:Type}:∀ {l:List α} {i:Nat} {x:α},l.Nodup->x∉l->(l.set i x).Nodup
 | [],_,_,_,_=>by simp
 | a::r,0,x,h,hx=>by
  rw [YdT]
  exact List.nodup_cons.mpr ⟨fun m=>hx (Yag _ m),(List.nodup_cons.mp h).2⟩
 | a::r,i + 1,x,h,hx=>by
  rw [YdU]
  have h2:=List.nodup_cons.mp h
  refine List.nodup_cons.mpr ⟨fun m=>?_,jdJ h2.2 fun m=>hx (Yag _ m)⟩
  rcases Yb6 m with z | z
  ·exact h2.1 z
  ·exact hx (by rw [z]; simp)
theorem jhh {x:Str}{l:List Str}:((l.map U.str).any fun y=>eqF y (.str x))=decide (x∈l):=by
 induction l with
 | nil=>simp
 | cons y r ih=>
  rw [Yas,Ybo,ih]
  show ((y == x) || _)=_
  by_cases h:x=y
  ·subst h; simp
  ·have:¬ y=x:=fun z=>h z.symm
   simp [h,this]
structure Nms (xs:List Str):Prop where
 ok:∀ x∈xs,Nm x
 nd:xs.Nodup
 one:∃ w,∀ x∈xs,x∈menu\/x=w
section
variable {k:Nat}{G:Gp}{Q:K1}{X:KX}
theorem jhR {f c:Addr}{m:Nat}(hf:Fd G f c)(h0:0 < m)(h1:m<=8)(q:∀ (xs:List Str) (G':Gp),xs.length=m->Nms xs->Fd G' f c->Sm f G G'->Q (.tup (xs.map .str)) G'):jad T (k + 2) jcj [.loc f,.int m] G Q X:=by
 refine ⟨rfl,?_⟩
 simp! only [jct,jaj,Yai]
 refine ⟨by decide,fun p G1 n1=>?_⟩
 simp! only [jcn n1.at,jeF n1.at]
 refine ⟨by decide,fun G2 p2=>?_⟩
 have hp:=hf.away n1
 have f2:=(hf.new n1).off hp p2
 have s2:Sm f G G2:=Sm.wr Sm.refl n1.no n1.sa.sm p2
 have g2:G2 p=some (.lst (menu.map .str)):=p2.at
 refine jaf f2 (by decide) (by decide) fun first G3 a3 b3 f3 s3=>?_
 have g3:=s3 _ _ hp.1 g2
 refine ⟨by decide,fun p4 G4 n4=>jaf (f3.new n4) (by decide) (by decide) fun r5 G5 a5 b5 f5 s5=>?_⟩
 have g5:=s5 _ _ hp.1 (n4.sa _ _ g3)
 refine jaL [1,2,4,7,8,11,13,14] (s5 _ _ (f3.away n4).1 n4.at) a5 b5 fun step hs=>?_
 have s5':=(s2.trans s3).nw n4 |>.trans s5
 refine ⟨by omega,by omega,by rw [jaS]; exact Yal h1 (by decide),?_⟩
 have fin:∀ (xs:List Str) (p6:Addr) (G6:Gp),xs.length=m->Nms xs->Fd G6 f c->Sm f G G6->G6 p6=some (.lst (xs.map .str))->itU (.loc p6) G6 fun xs _=>Q (.tup xs) G6:=fun xs p6 G6 e1 e2 e3 e4 e5=>by
  rw [it_l e5]
  exact q xs G6 e1 e2 e3 e4
 refine jaY (fun i acc G'=>G'=G5/\∃ xs:List Str,acc=xs.map .str/\xs.length=i/\(∀ x∈xs,x∈menu)/\xs=(YaK i).map (nm3 first step)) ?_ ?_ ⟨rfl,[],rfl,rfl,(fun _ h=>(nomatch h)),rfl⟩
 ·rintro acc G' ⟨rfl,xs,rfl,hl,hm,hxe⟩
  rw [jaS] at hl hxe
  have hnd:xs.Nodup:=by rw [hxe]; exact jgu a3 b3 hs (by omega)
  have hx:∀ x∈xs,Nm x:=fun x hx=>jjV x (hm x hx)
  have hN:Nms xs:=⟨hx,hnd, "a",fun x hx=>.inl (hm x hx)⟩
  refine ⟨trivial,fun p6 G6 n6=>?_⟩
  have f6:=f5.new n6
  have h6:=f5.away n6
  have s6:=s5'.nw n6
  refine jaf f6 (by decide) (by decide) fun r7 G7 a7 b7 f7 s7=>?_
  have g7:=s7 _ _ h6.1 n6.at
  simp! only []
  by_cases hr:r7=0
  ·rw [if_pos (by simpa using hr)]
   refine jaf f7 (by decide) (by decide) fun r8 G8 a8 b8 f8 s8=>?_
   have g8:=s8 _ _ h6.1 g7
   simp! only []
   refine ⟨by omega,by omega,by rw [jaS]; exact Yal (by omega:(1 + r8).toNat<=8) (by decide),?_⟩
   refine jaY (fun i acc G'=>Fd G' f c/\Sm f G8 G'/\∃ zs:List Str,acc=zs.map .str/\zs.length=i/\∀ x∈zs,x.length=1/\∀ c∈x.cps.toList,c < 128/\97<=c) ?_ ?_ ⟨f8,Sm.refl,[],rfl,rfl,fun _ h=>nomatch h⟩
   ·rintro acc G9 ⟨f9,s9,zs,rfl,lz,hz⟩
    rw [jaS] at lz
    refine ⟨trivial,fun pa Ga na=>?_⟩
    have fa:=f9.new na
    have ga:=na.sa _ _ (s9 _ _ h6.1 g8)
    have sa:=(s6.trans (s7.trans (s8.trans s9))).nw na
    have hnew:Nm (Ya4 "" zs):=by
     refine ⟨?_,fun c hc=>?_,fun c hc=>?_,?_⟩
     ·rw [jaO zs fun t ht=>(hz t ht).1]; omega
     ·obtain ⟨t,ht,hd⟩:=(jbk zs c).mp hc
      exact ((hz t ht).2 c hd).1
     ·obtain ⟨t,ht,hd⟩:=(jbk zs c).mp hc
      exact ((hz t ht).2 c hd).2
     ·rw [jaO zs fun t ht=>(hz t ht).1]; omega
    have hsum:(zs.map (·.length)).sum + zs.length<=1048576:=by
     have:∀ l:List Str,(∀ x∈l,x.length=1)->(l.map (·.length)).sum=l.length:=fun l=>by
      induction l with
      | nil=>intro _; rfl
      | cons x r ih=>
       intro h
       rw [Yas,List.sum_cons,YaW,ih fun y hy=>h y (Yag _ hy),h x (by simp)]
       omega
     rw [this zs fun t ht=>(hz t ht).1]; omega
    simp! only [mt_join,jgG na.at]
    refine ⟨by decide,hsum,in_l ga rfl (jdU _) ?_⟩
    rw [jhh]
    split
    ·rename_i hni
     have hni':Ya4 "" zs∉xs:=by simpa using hni
     refine ⟨by decide,hsum,jaf fa (by omega) (by omega) fun r G' a' b' f' s'=>?_⟩
     have g':=s' _ _ h6.1 ga
     rw [jkU g' (show ixN _ r=some r.toNat from by
      rw [Yac]
      obtain ⟨j,rfl⟩:=Ybb a'
      exact jgJ (by omega))]
     intro Gb pb
     have e:(xs.map U.str).set r.toNat (.str (Ya4 "" zs))=(xs.set r.toNat (Ya4 "" zs)).map .str:=by rw [List.map_set]
     rw [e] at pb
     refine fin _ p6 Gb (by rw [List.length_set]; exact hl) ⟨fun x hx'=>?_,jdJ hnd hni',Ya4 "" zs,fun x hx'=>?_⟩ (f'.off h6 pb) (Sm.wr s5' n6.no (sa.trans s') pb) pb.at
     ·rcases Yb6 hx' with z | z
      ·exact hx x z
      ·rw [z]; exact hnew
     ·rcases Yb6 hx' with z | z
      ·exact .inl (hm x z)
      ·exact .inr z
    ·exact fin xs p6 Ga hl hN fa sa ga
   ·rintro i x acc G9 K hx9 ⟨f9,s9,zs,rfl,lz,hz⟩ hk _
    refine ⟨trivial,jaf f9 (by decide) (by decide) fun r G' a' b' f' s'=>?_⟩
    have hb:∀ c∈("abcdefghijklmnopqrstuvwxyz" : Str).cps.toList,c < 128/\97<=c:=by decide +kernel
    have e26:("abcdefghijklmnopqrstuvwxyz" : Str).cps.toList.length=26:=by decide +kernel
    obtain ⟨d,hd,ed⟩:=jd5 (l:=("abcdefghijklmnopqrstuvwxyz" : Str).cps.toList) a' (by rw [e26]; exact b')
    refine ix_s (by decide +kernel) ed (hk _ _ ⟨f',s9.trans s',zs++[⟨#[d]⟩],by simp,by simp [lz],fun z hz'=>?_⟩)
    rcases List.mem_append.mp hz' with z' | z'
    ·exact hz z z'
    ·rw [List.mem_singleton.mp z']
     exact ⟨rfl,fun e he=>by
      have:e=d:=by simpa using he
      rw [this]; exact hb d hd⟩
  ·rw [if_neg (by simpa using hr)]
   exact fin xs p6 G7 hl hN f7 (s6.trans s7) g7
 ·rintro i x acc G' K hx ⟨rfl,xs,rfl,hl,hn,hxe⟩ hk _
  obtain ⟨hi,rfl⟩:=jaN hx
  simp! only []
  have e0:0<=(first + step * (i:Int)) % 15:=YeA _ (by decide)
  have e1:(first + step * (i:Int)) % 15 < 15:=YdZ _ (by decide)
  have hlt:((first + step * (i:Int)) % 15).toNat < menu.length:=by show _ < 15; omega
  have ey:menu[((first + step * (i:Int)) % 15).toNat]?=some (nm3 first step i):=by unfold nm3; simp [List.getD,hlt]
  have ea:atI menu ((first + step * (i:Int)) % 15)=some (nm3 first step i):=by
   have:=jbr ey
   rwa [YdL e0] at this
  have hy:=Yba ey
  refine ⟨trivial,.inr (by constructor <;> omega),by decide,?_⟩
  rw [ix_l g5 ((jeC U.str menu _).trans (congrArg _ ea))]
  exact hk _ _ ⟨rfl,xs++[nm3 first step i],by simp,by simp [hl],fun z hz=>by
   rcases List.mem_append.mp hz with z' | z'
   ·exact hn z z'
   ·rw [List.mem_singleton.mp z']; exact hy,by rw [hxe,Ych,YaE]; rfl⟩
theorem jhT {f c:Addr}(hf:Fd G f c)(q:∀ (P:Int) (G':Gp),1<=P->P<=600->Fd G' f c->Sm f G G'->Q (.int P) G'):jad T (k + 2) jck [.loc f] G Q X:=by
 refine ⟨rfl,?_⟩
 simp! only [jcu,jaj,Yai]
 refine ⟨by decide,fun p G1 n1=>jaf (hf.new n1) (by decide) (by decide) fun r G2 a2 b2 f2 s2=>?_⟩
 refine jaL [1,2,3,4,5,6,7,8,10,12,30,60,120,600] (s2 _ _ (hf.away n1).1 n1.at) a2 b2 fun z hz=>?_
 have:1<=z/\z<=600:=by simp only [YaI,Yaw,or_false] at hz; omega
 exact q z _ this.1 this.2 f2 (n1.sa.sm.trans s2)
theorem jdF {f c:Addr}{P:Int}(hf:Fd G f c)(h1:1<=P)(h2:P<=600)(q:∀ (z:Int) (G':Gp),0<=z->z<=9999->Fd G' f c->Sm f G G'->Q (.int z) G'):jad T (k + 2) ja6 [.loc f,.int P] G Q X:=by
 refine ⟨rfl,?_⟩
 simp! only [jbU,jaj,Yai]
 refine jaf hf (by decide) (by decide) fun w G1 a1 b1 f1 s1=>?_
 simp! only []
 by_cases hw:w < 3
 ·rw [if_pos (by simpa using hw)]
  exact jaf f1 (by omega) (by omega) fun r G2 a2 b2 f2 s2=>q r _ a2 (by omega) f2 (s1.trans s2)
 rw [if_neg (by simpa using hw)]
 by_cases hw':w=3
 ·rw [if_pos (by simpa using hw')]
  refine ⟨.inl (by decide),.inl (by decide),by decide,fun p G2 n2=>jaf (f1.new n2) (by decide) (by decide) fun r G3 a3 b3 f3 s3=>?_⟩
  refine jaL [0,1,P,2 * P - 1,2 * P] (s3 _ _ (f1.away n2).1 n2.at) a3 b3 fun z hz=>?_
  have:0<=z/\z<=9999:=by simp only [YaI,Yaw,or_false] at hz; omega
  exact q z _ this.1 this.2 f3 ((s1.nw n2).trans s3)
 ·rw [if_neg (by simpa using hw')]
  refine ⟨.inl (by decide),by decide,fun p G2 n2=>?_⟩
  refine jaL [3 * P + 1,10000] n2.at (by omega) (by show w - 4 < 2; omega) fun z hz=>?_
  have:0 < z/\z<=10000:=by simp only [YaI,Yaw,or_false] at hz; omega
  exact jaf (f1.new n2) this.1 (by omega) fun r G3 a3 b3 f3 s3=>q r _ a3 (by omega) f3 ((s1.nw n2).trans s3)
end

set_option maxHeartbeats 2000000
structure Spn where
 w:Str
 o:Nat
 t:Nat
 lo:Int
 hi:Int
noncomputable def Spn.u (s:Spn):U:=.tup [.str s.w,.int s.o,.int s.t,.int s.lo,.int s.hi]
structure Spn.Ok (W:Nat)(s:Spn):Prop where
 w:s.w = "apart" \/ s.w = "span"
 o:s.o < W
 t:s.t < W
 lo:0<=s.lo/\s.lo<=9999
 hi:0<=s.hi/\s.hi<=9999
noncomputable def jgq (l:List Int):U:=.tup (l.map .int)
theorem jiU {x:Str}(h:x = "apart" \/ x = "span"):x.length<=8/\∀ c∈x.cps.toList,c < 128:=by
 rcases h with rfl | rfl
 ·exact ⟨by decide +kernel,by decide +kernel⟩
 ·exact ⟨by decide +kernel,by decide +kernel⟩
theorem Spn.Ok.sml {W:Nat}{s:Spn}(h:s.Ok W):Sml 1 s.u:=Sml.tup fun u hu=>by
 simp only [YaI,Yaw,or_false] at hu
 rcases hu with rfl | rfl | rfl | rfl | rfl
 ·exact Sml.str (jiU h.w).2
 all_goals exact Sml.int _
section
variable {k:Nat}{G:Gp}{Q:K1}{X:KX}
theorem jjJ {f c:Addr}{P:Int}{W o t:Nat}(hf:Fd G f c)(h1:1<=P)(h2:P<=600)(ho:o < W)(ht:t < W)(q:∀ (s:Spn) (G':Gp),s.Ok W->Fd G' f c->Sm f G G'->Q s.u G'):jad T (k + 3) jbJ [.loc f,.int o,.int t,.int P] G Q X:=by
 refine ⟨rfl,?_⟩
 simp! only [jcS,jaj,Yai]
 refine jdF hf h1 h2 fun lo G1 a1 b1 f1 s1=>?_
 refine jaf f1 (by decide) (by decide) fun r G2 a2 b2 f2 s2=>?_
 simp! only []
 by_cases hr:r=0
 ·rw [if_pos (by simpa using hr)]
  refine jdF f2 h1 h2 fun hi G3 a3 b3 f3 s3=>⟨by decide,?_⟩
  exact q ⟨"apart",o,t,lo,hi⟩ _ ⟨.inl rfl,ho,ht,⟨a1,b1⟩,a3,b3⟩ f3 (s1.trans (s2.trans s3))
 ·rw [if_neg (by simpa using hr)]
  refine ⟨by decide,by decide,.inl (by decide),by decide,fun p G3 n3=>jaf (f2.new n3) (by decide) (by decide) fun r4 G4 a4 b4 f4 s4=>?_⟩
  refine jaL [0,0,1,2,P / 2,P - 1,3 * P,9999] (s4 _ _ (f2.away n3).1 n3.at) a4 b4 fun z hz=>?_
  have hz':0<=z:=by simp only [YaI,Yaw,or_false] at hz; omega
  simp! only []
  refine ⟨by decide,q ⟨"span",o,t,lo,if lo + z < 9999 then lo + z else 9999⟩ _ ⟨.inr rfl,ho,ht,⟨a1,b1⟩,?_⟩ f4 ((s1.trans s2).nw n3 |>.trans s4)⟩
  dsimp only
  split <;> omega
theorem jjK {f c:Addr}{P:Int}(hf:Fd G f c)(h1:1<=P)(h2:P<=600)(q:∀ (xs:List Str) (ss:List Spn) (G':Gp),0 < xs.length->xs.length<=8->Nms xs->ss.length<=24->(∀ s∈ss,s.Ok xs.length)->Fd G' f c->Sm f G G'->Q (.tup [.tup (xs.map .str),.tup (ss.map Spn.u)]) G') :
  jad T (k + 4) jcI [.loc f,.int P] G Q X:=by
 refine ⟨rfl,?_⟩
 simp! only [jcT,jaj,Yai]
 refine ⟨by decide,fun p G1 n1=>jaf (hf.new n1) (by decide) (by decide) fun r G2 a2 b2 f2 s2=>?_⟩
 refine jaL [1,2,2,3,3,4,5,8] (s2 _ _ (hf.away n1).1 n1.at) a2 b2 fun W' hW=>?_
 have hW':1<=W'/\W'<=8:=by simp only [YaI,Yaw,or_false] at hW; omega
 obtain ⟨W,rfl⟩:=Ybb (show 0<=W' by omega)
 refine jhR f2 (by omega) (by omega) fun xs G3 l3 x3 f3 s3=>?_
 have S3:Sm f G G3:=n1.sa.sm.trans (s2.trans s3)
 refine ⟨by decide,fun p4 G4 n4=>⟨by decide,fun p5 G5 n5=>jaf ((f3.new n4).new n5) (by decide) (by decide) fun r6 G6 a6 b6 f6 s6=>?_⟩⟩
 have aw:=f3.away n4
 have S6:Sm f G G6:=((S3.nw n4).nw n5).trans s6
 refine jaL [0,1,2,3,4,6,9,24] (s6 _ _ ((f3.new n4).away n5).1 n5.at) a6 b6 fun m hm=>?_
 have hm':0<=m/\m<=24:=by simp only [YaI,Yaw,or_false] at hm; omega
 have g6:G6 p4=some (.lst []):=s6 _ _ aw.1 (n5.sa _ _ n4.at)
 simp! only []
 refine ⟨by omega,by omega,?_⟩
 refine jaw (fun i ς G'=>∃ (ss:List Spn) (o:Option U),ς=[some (.loc f),some (.int P),some (.int (W:Int)),some (.tup (xs.map .str)),some (.loc p4),o]/\Fd G' f c/\Sm f G G'/\G' p4=some (.lst (ss.map Spn.u))/\ss.length=i/\∀ s∈ss,s.Ok W) ?_ ?_ ⟨[],_,rfl,f6,S6,g6,rfl,fun _ h=>nomatch h⟩
 ·rintro ς G7 ⟨ss,o,rfl,f7,s7,g7,l7,o7⟩
  rw [jaS] at l7
  simp! only []
  refine ⟨trivial,?_⟩
  rw [it_l g7]
  exact ⟨by decide,q xs ss _ (by omega) (by omega) x3 (by omega) (by rw [l3]; exact o7) f7 s7⟩
 ·rintro i x ς G7 K hx ⟨ss,o,rfl,f7,s7,g7,l7,o7⟩ hk
  obtain ⟨hi,rfl⟩:=jaN hx
  simp! only []
  have add:∀ (s:Spn) (G8:Gp),s.Ok W->Fd G8 f c->Sm f G G8->G8 p4=some (.lst (ss.map Spn.u))->∀ o,((ss.map Spn.u).length < Yae/\putO G8 p4 (.lst (ss.map Spn.u++[s.u])) fun G'=>K [some (.loc f),some (.int P),some (.int (W:Int)),some (.tup (xs.map .str)),some (.loc p4),o] G'):=fun s G8 e1 e2 e3 e4 o=>by
   refine ⟨?_,fun G9 p9=>?_⟩
   ·rw [Yac]
    exact Yaq (show ss.length < 25 by omega) (by decide)
   ·refine hk _ _ ⟨ss++[s],_,rfl,e2.off aw p9,Sm.wr S3 n4.no e3 p9,by rw [YaE]; exact p9.at,by simp [l7],fun z hz=>?_⟩
    rcases List.mem_append.mp hz with z' | z'
    ·exact o7 z z'
    ·rw [List.mem_singleton.mp z']; exact e1
  have fresh:∀ (o:Option U) (G8:Gp),Fd G8 f c->Sm f G G8->G8 p4=some (.lst (ss.map Spn.u))->(match mtU .append (.loc p4) G8 with
    | some _=>jad T (k + 3) jab [.loc f,.int (W:Int)] G8 (fun x G1=>jad T (k + 3) jab [.loc f,.int (W:Int)] G1 (fun x_1 G1=>jad T (k + 3) jbJ [.loc f,x,x_1,.int P] G1 (fun x_2 G1=>jas .append (.loc p4) [x_2] G1 fun _ G1=>K [some (.loc f),some (.int P),some (.int (W:Int)),some (.tup (xs.map .str)),some (.loc p4),o] G1) X) X) X
    | none=>False):=fun o G8 e1 e2 e3=>by
   rw [jcn e3]
   refine jaf e1 (by omega) (by omega) fun r9 G9 a9 b9 f9 s9=>jaf f9 (by omega) (by omega) fun ra Ga aa ba fa sa=>?_
   obtain ⟨o1,rfl⟩:=Ybb a9
   obtain ⟨o2,rfl⟩:=Ybb aa
   refine jjJ (W:=W) fa h1 h2 (by omega) (by omega) fun s Gb ob fb sb=>?_
   have gb:=sb _ _ aw.1 (sa _ _ aw.1 (s9 _ _ aw.1 e3))
   rw [jeF gb]
   exact add s Gb ob fb (e2.trans (s9.trans (sa.trans sb))) gb _
  refine ⟨trivial,by decide,fun pb Gb nb=>?_⟩
  have gb:=nb.sa _ _ g7
  have fb:=f7.new nb
  have sb:=s7.nw nb
  simp! only []
  refine jmg gb nb.at (fun u hu=>?_) (show 1 < 100 by decide) ?_
  ·obtain ⟨s,hs,rfl⟩:=List.mem_map.mp hu
   exact (o7 s hs).sml
  by_cases hss:ss=[]
  ·rw [if_neg (by rw [hss]; simp)]
   exact fresh _ Gb fb sb gb
  ·rw [if_pos (by simpa using hss)]
   refine jaf fb (by decide) (by decide) fun r8 G8 a8 b8 f8 s8=>?_
   have g8:=s8 _ _ aw.1 gb
   have hl:0 < ss.length:=List.length_pos_iff.mpr hss
   simp! only []
   by_cases hr:r8=0
   ·rw [if_pos (by simpa using hr)]
    simp! only [jcn g8,jbg g8,Yac]
    refine jaf f8 (by omega) (by omega) fun r9 G9 a9 b9 f9 s9=>?_
    have g9:=s9 _ _ aw.1 g8
    obtain ⟨s,hs,es⟩:=jd5 (l:=ss) a9 b9
    rw [ix_l g9 ((jeC Spn.u ss _).trans (congrArg _ es)),jeF g9]
    exact add s G9 (o7 s hs) f9 (sb.trans (s8.trans s9)) g9 _
   ·rw [if_neg (by simpa using hr)]
    exact fresh _ G8 f8 (sb.trans s8) g8
end

set_option maxHeartbeats 2000000
noncomputable def nstr (t:Int):Str:=(toString t:String)
noncomputable def nmz (zs:List (Str×Int))(t:Int):List Str:=(zs.filter fun p=>decide (p.2=t)).map (·.1)
noncomputable def wz (zs:List (Str×Int))(t:Int):List Str:=if (nmz zs t).isEmpty=true then ["-"] else nmz zs t
noncomputable def ja3 (zs:List (Str×Int))(t:Int):List Str:=nstr t::wz zs t
noncomputable def jem (zs:List (Str×Int))(t:Int):Str:=Ya4 " " (ja3 zs t)
noncomputable def jhe (zs:List (Str×Int))(n:Nat):List Str:=(YaK n).map fun t:Nat=>jem zs (t:Int)
theorem jgr {t:Int}(h0:0<=t)(h1:t < 600):(nstr t).length<=3/\∀ c∈(nstr t).cps.toList,c < 128/\48<=c/\c<=57:=by
 have h:∀ n∈YaK 600,(nstr (n:Int)).length<=3/\∀ c∈(nstr (n:Int)).cps.toList,c < 128/\48<=c/\c<=57:=by decide +kernel
 have:=h t.toNat (List.mem_range.mpr (by omega))
 rw [YdL h0] at this
 exact this
structure Zs (zs:List (Str×Int))(P:Int):Prop where
 l0:0 < zs.length
 l8:zs.length<=8
 nm:∀ p∈zs,Nm p.1
 nd:(zs.map (·.1)).Nodup
 bt:∀ p∈zs,0<=p.2/\p.2 < P
section
variable {zs:List (Str×Int)}{P t:Int}
theorem jjW {x:Str}:x∈nmz zs t↔(x,t)∈zs:=by
 unfold nmz
 rw [List.mem_map]
 constructor
 ·rintro ⟨⟨y,u⟩,hp,rfl⟩
  obtain ⟨h1,h2⟩:=List.mem_filter.mp hp
  have:u=t:=by simpa using h2
  rw [<- this]; exact h1
 ·intro h
  exact ⟨(x,t),List.mem_filter.mpr ⟨h,by simp⟩,rfl⟩
theorem jgs:(nmz zs t).length<=zs.length:=by
 unfold nmz
 rw [Yac]
 exact List.length_filter_le _ _
theorem Zs.w {x:Str}(h:Zs zs P)(hx:x∈wz zs t):x.length<=8/\∀ c∈x.cps.toList,c < 128/\c≠32:=by
 unfold wz at hx
 split at hx
 ·rw [List.mem_singleton.mp hx]
  decide +kernel
 ·have:=h.nm _ (jjW.mp hx)
  exact ⟨this.l8,fun c hc=>⟨this.ch c hc,fun z=>absurd (this.lw c hc) (by omega)⟩⟩
theorem jkx (h:Zs zs P):(wz zs t).length<=8:=by
 unfold wz
 split
 ·decide
 ·exact Yal jgs h.l8
theorem jio {n:Nat}:∀ {l:List Str},(∀ x∈l,x.length<=n)->(l.map (·.length)).sum<=l.length * n
 | [],_=>Ybn _
 | x::r,h=>by
  rw [Yas,List.sum_cons,YaW,Nat.succ_mul]
  have:=jio (l:=r) fun y hy=>h y (Yag _ hy)
  have:=h x (by simp)
  omega
theorem jeI (h:Zs zs P)(h0:0<=t)(h1:t < 600):(∀ x∈ja3 zs t,x.length<=8/\∀ c∈x.cps.toList,c < 128/\c≠32)/\(ja3 zs t).length<=9/\((ja3 zs t).map (·.length)).sum<=72:=by
 have a:∀ x∈ja3 zs t,x.length<=8/\∀ c∈x.cps.toList,c < 128/\c≠32:=fun x hx=>by
  rcases YaI.mp hx with rfl | hx
  ·obtain ⟨l,q⟩:=jgr h0 h1
   exact ⟨by omega,fun c hc=>⟨(q c hc).1,by have:=(q c hc).2.1; omega⟩⟩
  ·exact h.w hx
 have b:(ja3 zs t).length<=9:=by
  show (wz zs t).length + 1<=9
  have:=jkx (t:=t) h
  omega
 refine ⟨a,b,Yal (jio fun x hx=>(a x hx).1) ?_⟩
 omega
theorem jj0 (h:Zs zs P)(h0:0<=t)(h1:t < 600):(jem zs t).length<=100/\∀ c∈(jem zs t).cps.toList,c < 128:=by
 obtain ⟨a,b,c⟩:=jeI (t:=t) h h0 h1
 refine ⟨?_,?_⟩
 ·have:=StrLaws.join_length_le " " (ja3 zs t)
  have e:(" " : Str).length=1:=rfl
  rw [e] at this
  show (Ya4 " " (ja3 zs t)).length<=100
  omega
 ·have key:∀ (ws:List Str),(∀ x∈ws,∀ c∈x.cps.toList,c < 128)->∀ c∈(Ya4 " " ws).cps.toList,c < 128:=by
   intro ws
   induction ws with
   | nil=>intro _ c hc; exact absurd hc (by show c∉([]:List Nat); simp)
   | cons x r ih=>
    intro hw c hc
    cases r with
    | nil=>exact hw x (by simp) c hc
    | cons y r=>
     rw [jdf,jfG,jfG] at hc
     rcases List.mem_append.mp hc with hc | hc
     ·rcases List.mem_append.mp hc with hc | hc
      ·exact hw x (by simp) c hc
      ·have:c∈(" " : Str).cps.toList->c < 128:=by
        intro z
        have:c=32:=by simpa [jkP] using z
        omega
       exact this hc
     ·exact ih (fun z hz=>hw z (Yag _ hz)) c hc
  exact key _ fun x hx c hc=>((a x hx).2 c hc).1
end
section
variable {k:Nat}{G:Gp}{Q:K1}{X:KX}{P:Int}{W:Nat}
theorem jdI {f c:Addr}(hf:Fd G f c)(h1:1<=P)(h2:P<=600)(w8:W<=8)(q:∀ (bs:List Int) (G':Gp),bs.length=W->(∀ b∈bs,0<=b/\b < P)->Fd G' f c->Sm f G G'->Q (jgq bs) G'):jad T (k + 2) jcm [.loc f,.int W,.int P] G Q X:=by
 refine ⟨rfl,?_⟩
 simp! only [jcw,jaj,Yai]
 refine ⟨by omega,by omega,by rw [jaS]; exact Yal w8 (by decide),?_⟩
 refine jaY (fun i acc G'=>Fd G' f c/\Sm f G G'/\∃ bs:List Int,acc=bs.map .int/\bs.length=i/\∀ b∈bs,0<=b/\b < P) ?_ ?_ ⟨hf,Sm.refl,[],rfl,rfl,fun _ h=>nomatch h⟩
 ·rintro acc G1 ⟨f1,s1,bs,rfl,hl,hb⟩
  rw [jaS] at hl
  refine ⟨trivial,fun pb G2 n2=>?_⟩
  simp! only [it_l n2.at]
  exact q bs _ hl hb (f1.new n2) (s1.nw n2)
 ·rintro i x acc G1 K hx ⟨f1,s1,bs,rfl,hl,hb⟩ hk _
  refine ⟨trivial,jaf f1 (by omega) (by omega) fun r G2 a2 b2 f2 s2=>hk _ _ ⟨f2,s1.trans s2,bs++[r],by simp,by simp [hl],fun b hb'=>?_⟩⟩
  rcases List.mem_append.mp hb' with z | z
  ·exact hb b z
  ·rw [List.mem_singleton.mp z]; exact ⟨a2,b2⟩
end

set_option maxHeartbeats 2000000
noncomputable def jc8 (zs:List (Str×Int))(ss:List Spn):U:=.tup [.tup ((zs.map (·.1)).map .str),.tup (ss.map Spn.u)]
noncomputable def btU (zs:List (Str×Int)):U:=.tup ((zs.map (·.2)).map .int)
section
variable {k n:Nat}{G:Gp}{Q:K1}{X:KX}{zs:List (Str×Int)}{ss:List Spn}
theorem at_x {j:Nat}{p:Str×Int}(h:zs[j]?=some p):atI ((zs.map (·.1)).map U.str) (j:Int)=some (.str p.1):=jbr (by simp [h])
theorem at_b {j:Nat}{p:Str×Int}(h:zs[j]?=some p):atI ((zs.map (·.2)).map U.int) (j:Int)=some (.int p.2):=jbr (by simp [h])
theorem je2 {l:List (Str×Int)}{p:Str×Int}{t:Int}:nmz (l++[p]) t=nmz l t++if p.2=t then [p.1] else []:=by
 unfold nmz
 rw [List.filter_append,YaE]
 congr 1
 by_cases h:p.2=t
 ·simp [h]
 ·simp [h]
theorem jcb {α:Type}{l:List α}{i:Nat}{a:α}(h:l[i]?=some a):l.take (i + 1)=l.take i++[a]:=by
 rw [List.take_succ,h]; rfl
theorem je3 {t:Int}(h0:0<=t)(h1:t < 600):t.natAbs.log2 < 1920:=by
 have h:∀ n∈YaK 600,n.log2 < 1920:=by decide +kernel
 exact h t.natAbs (List.mem_range.mpr (by omega))
theorem jkj (a:Str):a ++ " -" = Ya4 " " [a, "-"]:=by
 show a ++ " -" = a ++ " " ++ "-"
 refine ji7 ?_
 rw [jfG,jfG,jfG]
 have e1:(" -" : Str).cps.toList=[32,45]:=by decide +kernel
 have e2:(" " : Str).cps.toList=[32]:=by decide +kernel
 have e3:("-" : Str).cps.toList=[45]:=by decide +kernel
 rw [e1,e2,e3]
 simp
theorem jaI {a b:Str}(h:a.length + b.length<=Yae)(q:Q (.str (a++b)) G):binU .Add (.str a) (.str b) G Q:=⟨h,q⟩
theorem jdH (hz:Zs zs n)(hn:n<=600)(q:∀ (p:Addr) (G':Gp),G p=none->Sa G G'->G' p=some (.lst ((jhe zs n).map .str))->Q (.loc p) G'):jad T (k + 1) jcl [jc8 zs ss,.int n,btU zs] G Q X:=by
 refine ⟨rfl,?_⟩
 simp! only [jcv,jaj,Yai,jc8,btU]
 refine ⟨by decide,fun p1 G1 n1=>⟨by omega,by omega,?_⟩⟩
 refine jaw (fun i ς G'=>(∃ o4 o5 o6,ς=[some (jc8 zs ss),some (.int n),some (btU zs),some (.loc p1),o4,o5,o6])/\Sa G G'/\G' p1=some (.lst (((YaK i).map fun t:Nat=>jem zs (t:Int)).map .str))) ?_ ?_ ⟨⟨_,_,_,rfl⟩,n1.sa,by rw [n1.at]; rfl⟩
 ·rintro ς G2 ⟨⟨o4,o5,o6,rfl⟩,s2,g2⟩
  rw [jaS] at g2
  simp! only []
  exact ⟨trivial,q p1 G2 n1.no s2 g2⟩
 ·rintro i x ς G2 K hx ⟨⟨o4,o5,o6,rfl⟩,s2,g2⟩ hk
  obtain ⟨hi,rfl⟩:=jaN hx
  have hi:i < n:=by simpa using hi
  simp! only [jc8,btU]
  refine ⟨trivial,je3 (by omega) (by omega),by decide,fun p3 G3 n3=>⟨by omega,by have:=hz.l8; simp; omega,?_⟩⟩
  have g3:=n3.sa _ _ g2
  have h31:p3≠p1:=jci g2 n3.no
  refine jaw (fun j ς G'=>(∃ o6,ς=[some (jc8 zs ss),some (.int n),some (btU zs),some (.loc p1),some (.int i),some (.loc p3),o6])/\(∀ b o,b≠p3->G3 b=some o->G' b=some o)/\G' p3=some (.lst ((nstr i::nmz (zs.take j) i).map .str))) ?_ ?_ ⟨⟨_,rfl⟩,fun b o _ h=>h,by rw [n3.at]; rfl⟩
  ·rintro ς G4 ⟨⟨o6',rfl⟩,s4,g4⟩
   rw [jaS] at g4
   have g4':G4 p3=some (.lst ((nstr i::nmz zs i).map .str)):=by
    rw [g4,YbF (by simp)]
   have g41:=s4 _ _ (Ne.symm h31) g3
   have s5:Sa G G4:=fun b o h=>s4 b o (fun z=>by rw [z] at h; have:=n3.no; rw [s2 _ _ h] at this; cases this) (n3.sa _ _ (s2 _ _ h))
   refine ⟨trivial,?_⟩
   have fin:∀ (z:Str) (o:Option U),z=jem zs i->jas .append (.loc p1) [.str z] G4 (fun _ G1=>K [some (jc8 zs ss),some (.int n),some (btU zs),some (.loc p1),some (.int i),some (.loc p3),o] G1):=fun z o ez=>by
    rw [jeF g41]
    refine ⟨by rw [Yac,Yac,List.length_range]; exact Yaq (Yaq hi hn) (by decide),fun G5 w5=>hk _ _ ⟨⟨_,_,_,rfl⟩,fun b o h=>w5.sm b o (fun z=>by rw [z,n1.no] at h; cases h) (s5 b o h),?_⟩⟩
    rw [w5.at,Ych,YaE,YaE,ez]
    rfl
   simp! only [jcn g41,jbg g4']
   by_cases he:nmz zs i=[]
   ·rw [he]
    rw [if_neg (by simp)]
    refine ⟨je3 (by omega) (by omega),?_⟩
    refine jaI (Yal (YcC (jgr (t:=i) (by omega) (by omega)).1 _) (by decide)) ?_
    exact fin _ _ (by unfold jem ja3 wz; rw [he,jkj]; rfl)
   ·have hw:ja3 zs i=nstr i::nmz zs i:=by
     unfold ja3 wz
     rw [if_neg (by simpa using he)]
    rw [if_pos (by have:=List.length_pos_iff.mpr he; simp; omega)]
    simp! only [mt_join,jgG g4']
    obtain ⟨_,b1,b2⟩:=jeI (t:=i) hz (by omega) (by omega)
    rw [hw] at b1 b2
    exact ⟨by decide,Yal (YeO b2 b1) (by decide),fin _ _ (by unfold jem; rw [hw])⟩
  ·rintro j y ς G4 K' hy ⟨⟨o6',rfl⟩,s4,g4⟩ hk'
   obtain ⟨hj,rfl⟩:=jaN hy
   have hj:j < zs.length:=by simpa using hj
   have ep:zs[j]?=some zs[j]:=by simp [hj]
   simp! only [jc8,btU,ix_t (at_b ep),ix_t (at_x ep)]
   refine ⟨trivial,?_⟩
   have e1:atI [U.tup ((zs.map (·.1)).map U.str),U.tup (ss.map Spn.u)] 0=some (U.tup ((zs.map (·.1)).map U.str)):=jid _ _
   by_cases hb:zs[j].2=i
   ·rw [if_pos (by simpa using hb)]
    simp! only [jcn g4,ix_t e1,ix_t (at_x ep),jeF g4]
    refine ⟨by simp; exact Ya9 (YcC (Yal jgs (Yal (List.length_take_le' _ _) hz.l8)) 1) (by decide),fun G5 w5=>hk' _ _ ⟨⟨_,rfl⟩,fun b o hb' h=>w5.sm b o hb' (s4 b o hb' h),?_⟩⟩
    rw [w5.at,jcb ep,je2,if_pos hb]
    simp
   ·rw [if_neg (by simpa using hb)]
    refine hk' _ _ ⟨⟨_,rfl⟩,s4,?_⟩
    rw [g4,jcb ep,je2,if_neg hb,Ybj]
end

set_option maxHeartbeats 2000000
noncomputable def wd (ws:List Str)(i:Nat):Str:=ws.getD i ""
noncomputable def fitB (nm:List Str)(tl:List Nat)(r:Nat)(ws:List Str)(i:Nat):Bool:=
 if i=0 then decide (wd ws 0=nstr r) else if i=1/\wd ws 1 = "-" then true else
 if wd ws 1 = "-" then false else if wd ws i∉nm then false else if nm.idxOf (wd ws i)∈tl then false else decide (i=1\/nm.idxOf (wd ws (i - 1)) < nm.idxOf (wd ws i))
structure Ks (nm:List Str)(ks:List (Nat×Int)):Prop where
 lt:∀ p∈ks,p.1 < nm.length
 nd:(ks.map (·.1)).Nodup
noncomputable def tdK (nm:List Str)(ks:List (Nat×Int)):List (Key×U):=ks.map fun p=>(.inr (nm.getD p.1 ""),.int p.2)
noncomputable def btK (ks:List (Nat×Int)):List (Key×U):=ks.map fun p=>(.inl (p.1:Int),.int p.2)
theorem jh1 {nm:List Str}(h:nm.Nodup){j:Nat}(hj:j < nm.length):nm.idxOf (nm.getD j "")=j:=by
 rw [YaZ,Yat hj]
 exact h.idxOf_getElem j hj
theorem jl2 {nm:List Str}{x:Str}(h:x∈nm):nm.getD (nm.idxOf x) "" = x:=by
 have:=Yes h
 rw [YaZ,Yat this]
 exact YdV this
theorem jnj {nm:List Str}{ks:List (Nat×Int)}{x:Str}(hn:nm.Nodup)(h:Ks nm ks)(hx:x∈nm):(dGet (tdK nm ks) (.inr x)).isSome=decide (nm.idxOf x∈ks.map (·.1)):=by
 unfold dGet tdK
 rw [YcT,YbU,List.find?_isSome,decide_eq_true_iff]
 constructor
 ·rintro ⟨p,hp,e⟩
  obtain ⟨q,hq,rfl⟩:=List.mem_map.mp hp
  have e:nm.getD q.1 "" = x:=by simpa using e
  refine List.mem_map.mpr ⟨q,hq,?_⟩
  rw [<- e,jh1 hn (h.lt q hq)]
 ·intro z
  obtain ⟨q,hq,e⟩:=List.mem_map.mp z
  refine ⟨_,List.mem_map.mpr ⟨q,hq,rfl⟩,?_⟩
  simp only [decide_eq_true_eq]
  rw [e,jl2 hx]
section
variable {k:Nat}{G:Gp}{Q:K1}{X:KX}{nm:List Str}{ks:List (Nat×Int)}
theorem in_t {x:Str}{ys:List Str}{φ:Bool->Prop}(q:φ (decide (x∈ys))):inU (.str x) (.tup (ys.map .str)) G φ:=⟨rfl,jdU _,by rw [jhh]; exact q⟩
theorem in_d {x:Str}{a:Addr}{kvs:List (Key×U)}{φ:Bool->Prop}(g:G a=some (.dK kvs)):inU (.str x) (.loc a) G φ=φ (dGet kvs (.inr x)).isSome:=by
 unfold inU
 dsimp only
 rw [g]
 rfl
theorem jj9 {x:Str}{ys:List Str}(h:x∈ys)(q:Q (.int (ys.idxOf x)) G):jas .index (.tup (ys.map .str)) [.str x] G Q:=by
 show (match jcc (ys.map .str) with | some ys=>x∈ys/\Q (.int (ys.idxOf x)) G | none=>False)
 rw [jc3]
 exact ⟨h,q⟩
theorem jn5 {c:Bool}{R S:Prop}(hR:R)(hS:c=true->R->S):if c=true then S else R:=by
 split
 ·rename_i h; exact hS h hR
 ·exact hR
theorem jfm {ws:List Str}{j:Nat}(hj:j < ws.length):atI (ws.map U.str) (j:Int)=some (.str (wd ws j)):=jbr (by simp [wd,hj])
theorem jhS {i r:Nat}{pt pw:Addr}{ws:List Str}(hn:nm.Nodup)(hk:Ks nm ks)(hr:r < 600)(hi:i < ws.length)(hp:2<=i->fitB nm (ks.map (·.1)) r ws (i - 1)=true)
  (gt:G pt=some (.dK (tdK nm ks))) (gw:G pw=some (.lst (ws.map .str))) (q:Q (.bl (fitB nm (ks.map (·.1)) r ws i)) G):jad T (k + 1) jdc [.int i,.tup (nm.map .str),.loc pt,.int r,.loc pw] G Q X:=by
 refine ⟨rfl,?_⟩
 simp! only [jaX,jaj,Yai,ix_l gw (jfm hi)]
 obtain _ | i:=i
 ·rw [if_pos (by simp)]
  exact ⟨je3 (by omega) (by omega),q⟩
 ·rw [if_neg (by simp; omega)]
  unfold fitB at q
  rw [if_neg (by omega)] at q
  have h1:1 < ws.length:=by omega
  have a1:atI (ws.map U.str) 1=some (.str (wd ws 1)):=jfm h1
  by_cases hd:wd ws 1 = "-"
  ·by_cases h0:i=0
   ·subst h0
    rw [if_pos ⟨rfl,hd⟩] at q
    rw [if_pos (by simp)]
    show (if decide (wd ws 1 = "-")=true then _ else _)
    rw [if_pos (decide_eq_true hd)]
    exact q
   ·rw [if_neg (fun z=>h0 (by omega)),if_pos hd] at q
    rw [if_neg (by simp; omega),ix_l gw a1]
    show (if decide (wd ws 1 = "-")=true then _ else _)
    rw [if_pos (decide_eq_true hd)]
    exact q
  ·rw [if_neg (fun z=>hd z.2),if_neg hd] at q
   refine jn5 ?_ fun hc h=>?_
   ·rw [ix_l gw a1]
    show (if decide (wd ws 1 = "-")=true then _ else _)
    rw [if_neg (by simpa using hd)]
    refine in_t ?_
    by_cases hm:wd ws (i + 1)∈nm
    ·rw [if_neg (fun z=>z hm)] at q
     rw [decide_eq_true hm,if_neg (by simp),in_d gt,jnj hn hk hm]
     by_cases ht:nm.idxOf (wd ws (i + 1))∈ks.map (·.1)
     ·rw [if_pos ht] at q
      rw [decide_eq_true ht,if_pos rfl]
      exact q
     ·rw [if_neg ht] at q
      rw [decide_eq_false ht,if_neg (by simp)]
      obtain _ | i:=i
      ·rw [if_pos (by simp)]
       rw [decide_eq_true (.inl rfl)] at q
       exact q
      ·rw [if_neg (by simp; omega)]
       have hpm:wd ws (i + 1)∈nm:=by
        have:=hp (by omega)
        unfold fitB at this
        rw [show i + 1 + 1 - 1=i + 1 from rfl,if_neg (by omega),if_neg (fun z=>hd z.2),if_neg hd] at this
        by_cases z:wd ws (i + 1)∈nm
        ·exact z
        ·rw [if_pos z] at this
         cases this
       have e2:((i + 1 + 1:Nat):Int) - 1=((i + 1:Nat):Int):=by omega
       show ixU _ _ _ _
       rw [e2,ix_l gw (jfm (by omega))]
       refine jj9 hpm ?_
       show jas _ _ _ _ _
       refine jj9 hm ?_
       show Q (.bl (decide ((nm.idxOf (wd ws (i + 1)):Int) < (nm.idxOf (wd ws (i + 1 + 1)):Int)))) G
       have e3:decide ((nm.idxOf (wd ws (i + 1)):Int) < (nm.idxOf (wd ws (i + 1 + 1)):Int))=decide (i + 1 + 1=1\/nm.idxOf (wd ws (i + 1 + 1 - 1)) < nm.idxOf (wd ws (i + 1 + 1))):=by
        rw [show i + 1 + 1 - 1=i + 1 from rfl]
        simp
       rw [e3]
       exact q
    ·rw [if_pos hm] at q
     rw [decide_eq_false hm,if_pos (by simp)]
     exact q
   ·have h0:i=0:=by
     have:(i:Int) + 1=1:=by simpa using hc
     omega
    subst h0
    show (if decide (wd ws 1 = "-")=true then _ else _)
    rw [if_neg (by simpa using hd)]
    exact h
end

set_option maxHeartbeats 2000000
noncomputable def Fw (nm:List Str)(tl:List Nat)(r:Nat)(ws:List Str):Option Nat->Prop
 | some i=>(∀ j,j < i->fitB nm tl r ws j=true)/\((i < ws.length/\fitB nm tl r ws i=false)\/(i=ws.length/\ws.length < 2))
 | none=>(∀ j,j < ws.length->fitB nm tl r ws j=true)/\2<=ws.length
noncomputable def oN:Option Nat->U
 | some i=>.int i
 | none=>.non
theorem Fw.uniq {nm:List Str}{tl:List Nat}{r:Nat}{ws:List Str}:∀ {o o':Option Nat},Fw nm tl r ws o->Fw nm tl r ws o'->o=o'
 | some i,some i',⟨h1,h2⟩,⟨h1',h2'⟩=>by
  rcases Nat.lt_trichotomy i i' with h | h | h
  ·have:=h1' i h
   rcases h2 with ⟨_,e⟩ | ⟨e,l⟩
   ·rw [this] at e; cases e
   ·rcases h2' with ⟨l',_⟩ | ⟨l',_⟩ <;> omega
  ·rw [h]
  ·have:=h1 i' h
   rcases h2' with ⟨_,e⟩ | ⟨e,l⟩
   ·rw [this] at e; cases e
   ·rcases h2 with ⟨l',_⟩ | ⟨l',_⟩ <;> omega
 | some i,none,⟨_,h2⟩,⟨h1',h2'⟩=>by
  rcases h2 with ⟨l,e⟩ | ⟨e,l⟩
  ·rw [h1' i l] at e; cases e
  ·omega
 | none,some i,⟨h1',h2'⟩,⟨_,h2⟩=>by
  rcases h2 with ⟨l,e⟩ | ⟨e,l⟩
  ·rw [h1' i l] at e; cases e
  ·omega
 | none,none,_,_=>rfl
section
variable {k:Nat}{G:Gp}{Q:K1}{X:KX}{nm:List Str}{ks:List (Nat×Int)}
theorem jni {b:Bool}{φ:Bool->Prop}:truU (.bl b) G φ=φ b:=rfl
theorem jcD {r:Nat}{pt pw:Addr}{ws:List Str}(hn:nm.Nodup)(hk:Ks nm ks)(hr:r < 600)(hw:ws.length<=10000)
  (gt:G pt=some (.dK (tdK nm ks))) (gw:G pw=some (.lst (ws.map .str))) (q:∀ o,Fw nm (ks.map (·.1)) r ws o->Q (oN o) G):jad T (k + 3) jbR [.tup (nm.map .str),.loc pt,.int r,.loc pw] G Q X:=by
 refine ⟨rfl,?_⟩
 simp! only [jba,jaj,Yai]
 refine ⟨rfl,?_⟩
 simp! only [jaW,jaj,Yai,jbg gw]
 have hs:(10000:Nat)<=Yae:=by decide
 refine ⟨by omega,by simp; omega,?_⟩
 refine jaw (fun i ς G'=>(∃ o,ς=[some (.tup (nm.map .str)),some (.loc pt),some (.int r),some (.loc pw),some (.loc pw),some (.int 2),o])/\G'=G/\∀ j,j < i->fitB nm (ks.map (·.1)) r ws j=true) ?_ ?_ ⟨⟨_,rfl⟩,rfl,fun _ h=>absurd h (YcK _)⟩
 ·rintro ς G1 ⟨⟨o,rfl⟩,rfl,hf⟩
  have hf:∀ j,j < ws.length->fitB nm (ks.map (·.1)) r ws j=true:=fun j hj=>hf j (by unfold rngU; simpa using hj)
  simp! only [jbg gw]
  refine ⟨trivial,?_⟩
  by_cases h2:ws.length < 2
  ·rw [if_pos (by simpa using (by exact_mod_cast h2))]
   have:=q (some ws.length) ⟨hf,.inr ⟨rfl,h2⟩⟩
   simpa [oN] using this
  ·rw [if_neg (by simp; omega)]
   exact q none ⟨hf,by omega⟩
 ·rintro i x ς G1 K hx ⟨⟨o,rfl⟩,rfl,hf⟩ hk'
  obtain ⟨hi,rfl⟩:=jaN hx
  have hi:i < ws.length:=by simpa using hi
  simp! only []
  refine ⟨trivial,?_⟩
  refine jhS hn hk hr hi (fun h=>hf _ (by omega)) gt gw ?_
  rw [jni]
  cases hb:fitB nm (ks.map (·.1)) r ws i
  ·rw [if_pos (by simp)]
   exact q (some i) ⟨hf,.inl ⟨hi,hb⟩⟩
  ·rw [if_neg (by simp)]
   refine hk' _ _ ⟨⟨_,rfl⟩,rfl,fun j hj=>?_⟩
   rcases Nat.lt_succ_iff_lt_or_eq.mp hj with h | h
   ·exact hf j h
   ·rw [h]; exact hb
end

set_option maxHeartbeats 2000000
noncomputable def tl1 (nm:List Str)(r:Nat)(ws:List Str):List (Nat×Int):=if wd ws 1 = "-" then [] else ws.tail.map fun w=>(nm.idxOf w,(r:Int))
noncomputable def stK (nm:List Str)(rows:List (List Str))(m:Nat):List (Nat×Int):=(YaK m).flatMap fun r=>tl1 nm r (rows.getD r [])
theorem jfS {nm:List Str}{rows:List (List Str)}{m:Nat}:stK nm rows (m + 1)=stK nm rows m++tl1 nm m (rows.getD m []):=by
 unfold stK
 rw [Ych,List.flatMap_append]
 simp
section
variable {nm:List Str}{tl:List Nat}{r m:Nat}{ws:List Str}
theorem jf3 (h:∀ j,j < m->fitB nm tl r ws j=true)(hd:wd ws 1 ≠ "-"){i:Nat}(h1:1<=i)(hi:i < m):wd ws i∈nm/\nm.idxOf (wd ws i)∉tl/\(i=1\/nm.idxOf (wd ws (i - 1)) < nm.idxOf (wd ws i)):=by
 have:=h i hi
 unfold fitB at this
 rw [if_neg (by omega),if_neg (fun z=>hd z.2),if_neg hd] at this
 by_cases a:wd ws i∈nm
 ·rw [if_neg (fun z=>z a)] at this
  by_cases b:nm.idxOf (wd ws i)∈tl
  ·rw [if_pos b] at this; cases this
  ·rw [if_neg b] at this
   exact ⟨a,b,of_decide_eq_true this⟩
 ·rw [if_pos a] at this; cases this
theorem jeS (h:∀ j,j < m->fitB nm tl r ws j=true)(hd:wd ws 1 ≠ "-"):∀ (b a:Nat),1<=a->a < b->b < m->nm.idxOf (wd ws a) < nm.idxOf (wd ws b)
 | 0,_,_,h2,_=>absurd h2 (YcK _)
 | b + 1,a,h1,h2,h3=>by
  rcases (jf3 h hd (i:=b + 1) (by omega) h3).2.2 with z | z
  ·omega
  ·rw [YdX] at z
   by_cases e:a=b
   ·rw [e]; exact z
   ·exact YcU (jeS h hd b a h1 (by omega) (by omega)) z
theorem jbm {j:Nat}(hj:j < ws.tail.length):ws.tail[j]=wd ws (j + 1):=by
 have:j + 1 < ws.length:=by rw [Ycb] at hj; omega
 unfold wd
 rw [List.getElem_tail,YaZ,Yat this]
 rfl
theorem jkJ {ks:List (Nat×Int)}(hk:Ks nm ks)(h:Fw nm (ks.map (·.1)) r ws none):Ks nm (ks++tl1 nm r ws):=by
 unfold tl1
 by_cases hd:wd ws 1 = "-"
 ·rw [if_pos hd,Ybj]; exact hk
 ·rw [if_neg hd]
  have hm:∀ w∈ws.tail,w∈nm/\nm.idxOf w∉ks.map (·.1):=fun w hw=>by
   obtain ⟨j,hj,rfl⟩:=List.mem_iff_getElem.mp hw
   have:j + 1 < ws.length:=by rw [Ycb] at hj; omega
   rw [jbm hj]
   have:=jf3 h.1 hd (i:=j + 1) (by omega) this
   exact ⟨this.1,this.2.1⟩
  refine ⟨fun p hp=>?_,?_⟩
  ·rcases List.mem_append.mp hp with hp | hp
   ·exact hk.lt p hp
   ·obtain ⟨w,hw,rfl⟩:=List.mem_map.mp hp
    exact Yes (hm w hw).1
  ·rw [YaE,YcP,YfT]
   refine ⟨hk.nd,?_,fun a ha b hb e=>?_⟩
   ·have:(ws.tail.map ((fun p:Nat×Int=>p.1) ∘ fun w=>(nm.idxOf w,(r:Int)))).Pairwise (·< ·):=by
     rw [List.pairwise_iff_getElem]
     intro i j hi hj hij
     rw [Yac] at hi hj
     rw [Ydc,Ydc]
     show nm.idxOf ws.tail[i] < nm.idxOf ws.tail[j]
     rw [jbm hi,jbm hj]
     exact jeS h.1 hd _ _ (by omega) (by omega) (by rw [Ycb] at hj; omega)
    exact this.imp fun h=>YaF h
   ·obtain ⟨w,hw,rfl⟩:=List.mem_map.mp hb
    have e:a=nm.idxOf w:=e
    exact (hm w hw).2 (by rw [<- e]; exact ha)
end
noncomputable def Good (nm:List Str)(n:Nat)(rows:List (List Str))(m:Nat):Prop:=∀ j,j < m->j < n/\Fw nm ((stK nm rows j).map (·.1)) j (rows.getD j []) none
theorem Good.ks {nm:List Str}{n:Nat}{rows:List (List Str)}:∀ {m:Nat},Good nm n rows m->Ks nm (stK nm rows m)
 | 0,_=>⟨fun _ h=>(nomatch h),List.nodup_nil⟩
 | m + 1,h=>by
  rw [jfS]
  exact jkJ (Good.ks fun j hj=>h j (by omega)) (h m (by omega)).2
theorem Good.sn {nm:List Str}{n:Nat}{rows:List (List Str)}{m:Nat}(h:Good nm n rows m)(h1:m < n)(h2:Fw nm ((stK nm rows m).map (·.1)) m (rows.getD m []) none):Good nm n rows (m + 1):=fun j hj=>by
 rcases Nat.lt_succ_iff_lt_or_eq.mp hj with z | z
 ·exact h j z
 ·rw [z]; exact ⟨h1,h2⟩
noncomputable def OutF (nm:List Str)(n:Nat)(rows:List (List Str))(row w:Nat):Prop:=
 Good nm n rows row/\((row < rows.length/\((n<=row/\w=0)\/(row < n/\Fw nm ((stK nm rows row).map (·.1)) row (rows.getD row []) (some w))))\/
  (row=rows.length/\w=0/\(rows.length < n\/(stK nm rows rows.length).length < nm.length)))
noncomputable def OutR (nm:List Str)(n:Nat)(rows:List (List Str)):Prop:=Good nm n rows rows.length/\¬ (rows.length < n\/(stK nm rows rows.length).length < nm.length)
theorem OutF.uniq {nm:List Str}{n:Nat}{rows:List (List Str)}{a b a' b':Nat}(h:OutF nm n rows a b)(h':OutF nm n rows a' b'):a=a'/\b=b':=by
 have key:∀ {a b a' b':Nat},OutF nm n rows a b->OutF nm n rows a' b'->¬ a < a':=fun {a b a' b'} h h' hl=>by
  obtain ⟨h1,h2⟩:=h.2 |> fun z=>(⟨h'.1 a hl,z⟩:_/\_)
  rcases h2 with ⟨_,⟨z,_⟩ | ⟨_,z⟩⟩ | ⟨z,_,_⟩
  ·omega
  ·have:=z.uniq h1.2; cases this
  ·rcases h'.2 with ⟨y,_⟩ | ⟨y,_⟩ <;> omega
 have e:a=a':=by
  have:=key h h'
  have:=key h' h
  omega
 subst e
 refine ⟨rfl,?_⟩
 rcases h.2 with ⟨l,z⟩ | ⟨l,z,_⟩
 ·rcases h'.2 with ⟨l',z'⟩ | ⟨l',z',_⟩
  ·rcases z with ⟨y,z⟩ | ⟨y,z⟩
   ·rcases z' with ⟨y',z'⟩ | ⟨y',z'⟩
    ·rw [z,z']
    ·omega
   ·rcases z' with ⟨y',z'⟩ | ⟨y',z'⟩
    ·omega
    ·exact Yan (z.uniq z')
  ·omega
 ·rcases h'.2 with ⟨l',z'⟩ | ⟨l',z',_⟩
  ·omega
  ·rw [z,z']
theorem OutR.not {nm:List Str}{n:Nat}{rows:List (List Str)}{a b:Nat}(h:OutR nm n rows)(h':OutF nm n rows a b):False:=by
 rcases h'.2 with ⟨l,⟨y,_⟩ | ⟨_,y⟩⟩ | ⟨_,_,y⟩
 ·have:=(h.1 a l).1; omega
 ·have:=y.uniq (h.1 a l).2; cases this
 ·exact h.2 y

set_option maxHeartbeats 2000000
theorem jgv {α:Type}[DecidableEq α]:∀ {a b:List α},a.Nodup->(∀ x∈a,x∈b)->a.length<=b.length
 | [],_,_,_=>Ybn _
 | x::a,b,h,hs=>by
  have hx:=hs x (Yao ..)
  have:=jgv (a:=a) (b:=b.erase x) (List.nodup_cons.mp h).2 fun y hy=>(List.mem_erase_of_ne (fun z:y=x=>(List.nodup_cons.mp h).1 (by rw [<- z]; exact hy))).mpr (hs y (Yag _ hy))
  rw [List.length_erase_of_mem hx] at this
  have:=List.length_pos_of_mem hx
  simp only [YaW]
  omega
section
variable {nm:List Str}{ks:List (Nat×Int)}
noncomputable def vz (ks:List (Nat×Int))(j:Nat):Int:=((ks.find? fun p=>decide (p.1=j)).map (·.2)).getD 0
theorem Ks.le (h:Ks nm ks):ks.length<=nm.length:=by
 have:=jgv (b:=YaK nm.length) h.nd fun x hx=>by
  obtain ⟨p,hp,rfl⟩:=List.mem_map.mp hx
  exact List.mem_range.mpr (h.lt p hp)
 simpa using this
theorem Ks.all (h:Ks nm ks)(hl:nm.length<=ks.length){j:Nat}(hj:j < nm.length):j∈ks.map (·.1):=by
 refine YbV fun z=>?_
 have:=jgv (a:=j::ks.map (·.1)) (b:=YaK nm.length) (List.nodup_cons.mpr ⟨z,h.nd⟩) fun x hx=>by
  rcases YaI.mp hx with rfl | hx
  ·exact List.mem_range.mpr hj
  ·obtain ⟨p,hp,rfl⟩:=List.mem_map.mp hx
   exact List.mem_range.mpr (h.lt p hp)
 simp at this
 omega
theorem ji4 (hn:nm.Nodup)(h:∀ p∈ks,p.1 < nm.length){w:Str}(hw:∀ p∈ks,p.1≠nm.idxOf w):∀ q∈tdK nm ks,q.1≠.inr w:=fun q hq z=>by
 obtain ⟨p,hp,rfl⟩:=List.mem_map.mp hq
 have z:nm.getD p.1 "" = w:=by simpa using z
 exact hw p hp (by rw [<- z,jh1 hn (h p hp)])
theorem jkK (hn:nm.Nodup)(h:Ks nm ks){j:Nat}(hj:j∈ks.map (·.1)):dGet (tdK nm ks) (.inr (nm.getD j ""))=some (.int (vz ks j)):=by
 have:∀ {ks:List (Nat×Int)},(∀ p∈ks,p.1 < nm.length)->j < nm.length->j∈ks.map (·.1)->dGet (tdK nm ks) (.inr (nm.getD j ""))=some (.int (vz ks j)):=fun {ks}=>by
  induction ks with
  | nil=>intro _ _ h; exact nomatch h
  | cons p r ih=>
   intro hl hj' hj
   by_cases e:p.1=j
   ·simp [dGet,tdK,vz,e]
   ·have ne:nm.getD p.1 "" ≠ nm.getD j "" := fun z=>e (by rw [<- jh1 hn (hl p (Yao ..)),z,jh1 hn hj'])
    have:=ih (fun q hq=>hl q (Yag _ hq)) hj' (by simpa [Ne.symm e] using hj)
    unfold dGet tdK vz at this ⊢
    rw [Yas,Ycp (by simpa using ne),Ycp (by simpa using e)]
    exact this
 obtain ⟨p,hp,e⟩:=List.mem_map.mp hj
 exact this h.lt (by rw [<- e]; exact h.lt p hp) hj
theorem jiN {j:Nat}(hj:j∈ks.map (·.1)):dGet (btK ks) (.inl (j:Int))=some (.int (vz ks j)):=by
 induction ks with
 | nil=>exact nomatch hj
 | cons p r ih=>
  by_cases e:p.1=j
  ·simp [dGet,btK,vz,e]
  ·have:=ih (by simpa [Ne.symm e] using hj)
   unfold dGet btK vz at this ⊢
   rw [Yas,Ycp (by simp; omega),Ycp (by simpa using e)]
   exact this
end
theorem jaP (x:Str):((Ya8 x " ").map (·.length)).sum + (Ya8 x " ").length=x.length + 1:=by
 unfold Ya8
 split
 ·simp
 ·split
  ·simp
  ·have h1:=Yd8 x " " (x.length + 1)
   have h2:=congrArg Str.length h1
   rw [size_glued,YcX] at h2
   rw [YcX]
   have e:(" " : Str).length=1:=by decide +kernel
   rw [e] at h2 ⊢
   omega
noncomputable def jam (ls:List Str):List (List Str):=ls.map fun x=>Ya8 x " "
section
variable {k:Nat}{G:Gp}{Q:K1}{X:KX}
theorem jgn {x:Str}(h1:x.length<=9000)(q:∀ (p:Addr) (G':Gp),G p=none->Sa G G'->G' p=some (.lst ((Ya8 x " ").map .str))->Q (.loc p) G'):jad T (k + 1) jcG [.str x] G Q X:=by
 have hs:=jaP x
 have hz:(9001:Nat)<=Yae:=by decide
 refine ⟨rfl,?_⟩
 simp! only [jcP,jaj,Yai]
 exact ⟨rfl,by omega,by omega,fun p G' n'=>q p G' n'.no n'.sa n'.at⟩
end

set_option maxHeartbeats 2000000
section
variable {k n:Nat}{G:Gp}{Q:K1}{X:KX}{nm:List Str}{ss:List Spn}{ls:List Str}
theorem en_l {a:Addr}{xs:List U}{φ:List U->(Gp->Prop)->Prop}(g:G a=some (.lst xs)):enI (.loc a) G φ=φ (jdk 0 xs) fun G'=>lsG G' a=some xs:=by
 have:lsG G a=some xs:=by unfold lsG; rw [g]
 unfold enI
 dsimp only
 rw [this]
theorem jfg {kvs:List (Key×U)}{x:Key}{v:U}(h:∀ p∈kvs,p.1≠x):dPut kvs x v=kvs++[(x,v)]:=by
 unfold dPut
 rw [if_neg (by
  rw [Yga]
  rintro ⟨p,hp,e⟩
  exact h p hp (by simpa using e))]
theorem jlP {a:Addr}{kvs:List (Key×U)}(g:G a=some (.dK kvs)):lenU [.loc a] G Q=Q (.int kvs.length) G:=by
 unfold lenU
 dsimp only
 rw [g]
theorem jl4 {φ:Bool->Prop}:isU .non .non φ=φ true:=rfl
theorem jj7 {i:Int}{φ:Bool->Prop}:isU (.int i) .non φ=φ false:=rfl
theorem gl0 {φ:U->Prop}:glU T.gs 0 φ=φ (.str "-"):=rfl
theorem jhX {x y:Str}{φ:Bool->Prop}:cmpU .NotEq (.str x) (.str y) G φ=φ (!decide (x=y)):=rfl
noncomputable def bsZ (nm:List Str)(rows:List (List Str)):List Int:=(YaK nm.length).map fun j=>vz (stK nm rows rows.length) j
theorem jf4 {i:Nat}(hi:i < ls.length):(jam ls).getD i []=Ya8 ls[i] " " := by
 unfold jam
 rw [YaZ,Yay,Yat hi]
 rfl
theorem jcC {pl:Addr}(hn:nm.Nodup)(hd:∀ x∈nm,x ≠ "-")(h8:nm.length<=8)(h6:n<=600)(hl:ls.length<=20000)(hb:∀ x∈ls,x.length<=9000)(gl:G pl=some (.lst (ls.map .str)))
  (q:OutR nm n (jam ls)->∀ G':Gp,Sa G G'->Q (.tup ((bsZ nm (jam ls)).map .int)) G') (x:∀ a b,OutF nm n (jam ls) a b->∀ G':Gp,Sa G G'->X ⟨4,[.int a,.int b]⟩ G') :
  jad T (k + 4) jbQ [.tup [.tup (nm.map .str),.tup (ss.map Spn.u)],.int n,.loc pl] G Q X:=by
 refine ⟨rfl,?_⟩
 have e1:atI [U.tup (nm.map U.str),U.tup (ss.map Spn.u)] 0=some (U.tup (nm.map U.str)):=jid _ _
 have rl:(jam ls).length=ls.length:=Yac _
 simp! only [jbT,jaj,Yai,ix_t e1]
 refine ⟨by decide,fun p1 G1 n1=>?_⟩
 have g1:=n1.sa _ _ gl
 dsimp only
 rw [en_l g1]
 refine jaw (fun i ς G'=>(∃ o5 o6 o7 o8 o9,ς=[some (.tup [.tup (nm.map .str),.tup (ss.map Spn.u)]),some (.int n),some (.loc pl),some (.tup (nm.map .str)),some (.loc p1),o5,o6,o7,o8,o9])/\Sa G G'/\G' p1=some (.dK (tdK nm (stK nm (jam ls) i)))/\Good nm n (jam ls) i) ?_ ?_ ⟨⟨_,_,_,_,_,rfl⟩,n1.sa,n1.at,fun _ h=>absurd h (YcK _)⟩
 ·rintro ς G2 ⟨⟨o5,o6,o7,o8,o9,rfl⟩,s2,g2,hg⟩
  have gl2:=s2 _ _ gl
  rw [jdi,Yac] at g2 hg
  have hk:=hg.ks
  have tl:(tdK nm (stK nm (jam ls) ls.length)).length=(stK nm (jam ls) ls.length).length:=Yac _
  refine ⟨by unfold lsG; rw [gl2],?_⟩
  simp! only [jbg gl2,jlP g2]
  have bad:(ls.length < n\/(stK nm (jam ls) ls.length).length < nm.length)->X ⟨4,[.int ls.length,.int 0]⟩ G2:=fun z=>x ls.length 0 ⟨hg,.inr ⟨rl.symm,rfl,by rw [rl]; exact z⟩⟩ G2 s2
  by_cases z1:ls.length < n
  ·rw [if_pos (by simpa using z1)]
   exact ⟨rfl,by rw [Yac]; exact bad (.inl z1)⟩
  ·rw [if_neg (by simp; omega)]
   by_cases z2:(stK nm (jam ls) ls.length).length < nm.length
   ·rw [if_pos (by rw [tl]; simpa using z2)]
    exact ⟨rfl,by rw [Yac]; exact bad (.inr z2)⟩
   ·rw [if_neg (by rw [tl]; simp; omega)]
    have hR:OutR nm n (jam ls):=⟨by rw [rl]; exact hg,by rw [rl]; exact fun z=>z.elim z1 z2⟩
    refine ⟨by rw [Yac]; exact Yal h8 (by decide),?_⟩
    refine jaY (fun i acc G'=>G'=G2/\acc=((YaK i).map fun j=>vz (stK nm (jam ls) ls.length) j).map .int) ?_ ?_ ⟨rfl,rfl⟩
    ·rintro acc G3 ⟨rfl,rfl⟩
     refine ⟨trivial,fun p4 G4 n4=>?_⟩
     simp! only [it_l n4.at]
     have:=q hR G4 (s2.trans n4.sa)
     unfold bsZ at this
     rw [rl] at this
     rw [Yac]
     exact this
    ·rintro i y acc G3 K hx ⟨rfl,rfl⟩ hk' _
     have hi:i < nm.length:=by have:=(List.getElem?_eq_some_iff.mp hx).1; simpa using this
     have eu:y=.str (nm.getD i ""):=by
      have:(nm.map U.str)[i]?=some (.str (nm.getD i "")):=by simp [hi]
      rw [hx] at this
      exact Yan this
     subst eu
     refine ⟨trivial,?_⟩
     simp! only [ix_d g2 (jkK hn hk (hk.all (by omega) hi))]
     refine hk' _ _ ⟨rfl,?_⟩
     rw [Ych,YaE,YaE]
     rfl
 ·rintro i u ς G2 K hx ⟨⟨o5,o6,o7,o8,o9,rfl⟩,s2,g2,hg⟩ hk'
  obtain ⟨u,hu,rfl⟩:=jdj hx
  have hi:i < ls.length:=by have:=(List.getElem?_eq_some_iff.mp hu).1; simpa using this
  have eu:u=.str ls[i]:=by
   have:(ls.map U.str)[i]?=some (.str ls[i]):=by simp [hi]
   rw [hu] at this
   exact Yan this
  subst eu
  rw [Ycx]
  have gl2:=s2 _ _ gl
  have hk:=hg.ks
  have er:=jf4 hi
  have hsum:=jaP ls[i]
  have hlen:=hb _ (Ycz hi)
  simp! only []
  refine ⟨by unfold lsG; rw [gl2],trivial,?_⟩
  refine jgn hlen fun p3 G3 hp3 s3 g3=>?_
  have g31:=s3 _ _ g2
  by_cases hin:i < n
  ·rw [if_pos (by simpa using hin)]
   refine jcD hn hk (by omega) (by omega) g31 g3 fun o ho=>?_
   cases o with
   | some w=>
    show isU (.int w) .non _
    rw [jj7,if_pos (show (!false)=true from rfl)]
    exact ⟨rfl,x i w ⟨hg,.inl ⟨by rw [rl]; exact hi,.inr ⟨hin,by rw [er]; exact ho⟩⟩⟩ G3 (s2.trans s3)⟩
   | none=>
    show isU .non .non _
    rw [jl4,if_neg (by simp),sl_l g3,jey,show (some (1:Int))=some ((1:Nat):Int) from rfl,jh7,List.drop_one]
    have hg':Good nm n (jam ls) (i + 1):=hg.sn hin (by rw [er]; exact ho)
    have est:stK nm (jam ls) (i + 1)=stK nm (jam ls) i++tl1 nm i (Ya8 ls[i] " "):=by rw [jfS,er]
    obtain ⟨ws,ews⟩:∃ ws,ws=Ya8 ls[i] " " := ⟨_,rfl⟩
    rw [<- ews] at ho est ⊢
    intro p4 G4 n4
    have g41:=n4.sa _ _ g31
    have h41:p4≠p1:=jci g31 n4.no
    have s4:Sa G G4:=s2.trans (s3.trans n4.sa)
    have ne1:∀ {b o},G b=some o->b≠p1:=fun {b o} h z=>by rw [z,n1.no] at h; cases h
    rw [it_l n4.at]
    by_cases hw:wd ws 1 = "-"
    ·have et:stK nm (jam ls) (i + 1)=stK nm (jam ls) i:=by rw [est]; unfold tl1; rw [if_pos hw,Ybj]
     have l2:ws.length=2:=by
      have h2:=ho.2
      by_cases z:2 < ws.length
      ·have:=ho.1 2 z
       unfold fitB at this
       rw [if_neg (by omega),if_neg (fun z=>absurd z.1 (by omega)),if_pos hw] at this
       cases this
      ·omega
     have et2:ws.tail=(["-"]:List Str):=by
      match ws,l2,hw with
      | [a,b],_,hw=>exact congrArg (fun z=>[z]) hw
     rw [et2]
     refine jaw (fun j ς G'=>(∃ o9,ς=[some (.tup [.tup (nm.map .str),.tup (ss.map Spn.u)]),some (.int n),some (.loc pl),some (.tup (nm.map .str)),some (.loc p1),some (.int i),some (.str ls[i]),some (.loc p3),some .non,o9])/\G'=G4) ?_ ?_ ⟨⟨_,rfl⟩,rfl⟩
     ·rintro ς G5 ⟨⟨o,rfl⟩,rfl⟩
      exact ⟨by unfold lsG; rw [n4.at,et2],hk' _ _ ⟨⟨_,_,_,_,_,rfl⟩,s4,by rw [et]; exact g41,hg'⟩⟩
     ·rintro j y ς G5 K' hy ⟨⟨o,rfl⟩,rfl⟩ hk2
      have ey:y=.str "-" := by
       have hm:=Yba hy
       simpa using hm
      subst ey
      refine ⟨by unfold lsG; rw [n4.at,et2],?_⟩
      simp! only [gl0,jhX]
      rw [if_neg (by simp)]
      exact hk2 _ _ ⟨⟨_,rfl⟩,rfl⟩
    ·have et:tl1 nm i ws=ws.tail.map fun w=>(nm.idxOf w,(i:Int)):=by unfold tl1; rw [if_neg hw]
     rw [et] at est
     refine jaw (fun j ς G'=>(∃ o9,ς=[some (.tup [.tup (nm.map .str),.tup (ss.map Spn.u)]),some (.int n),some (.loc pl),some (.tup (nm.map .str)),some (.loc p1),some (.int i),some (.str ls[i]),some (.loc p3),some .non,o9])/\(∀ b o,b≠p1->G4 b=some o->G' b=some o)/\G' p1=some (.dK (tdK nm (stK nm (jam ls) i++(ws.tail.take j).map fun w=>(nm.idxOf w,(i:Int)))))) ?_ ?_ ⟨⟨_,rfl⟩,fun _ _ _ h=>h,by rw [g41]; simp⟩
     ·rintro ς G5 ⟨⟨o,rfl⟩,s5,g5⟩
      refine ⟨by unfold lsG; rw [s5 _ _ h41 n4.at],hk' _ _ ⟨⟨_,_,_,_,_,rfl⟩,fun b o h=>s5 b o (ne1 h) (s4 b o h),?_,hg'⟩⟩
      rw [g5,est,Yac,Yf6]
     ·rintro j y ς G5 K' hy ⟨⟨o,rfl⟩,s5,g5⟩ hk2
      have hj:j < ws.tail.length:=by have:=(List.getElem?_eq_some_iff.mp hy).1; simpa using this
      have hj':j + 1 < ws.length:=by rw [Ycb] at hj; omega
      have ej:ws.tail[j]?=some (wd ws (j + 1)):=by rw [Yat hj,jbm hj]
      have ey:y=.str (wd ws (j + 1)):=by
       rw [Yay,ej] at hy
       exact (Yan hy).symm
      subst ey
      obtain ⟨hm,ht,_⟩:=jf3 ho.1 hw (i:=j + 1) (by omega) hj'
      have hk5:Ks nm (stK nm (jam ls) i++(ws.tail.take j).map fun w=>(nm.idxOf w,(i:Int))):=by
       have hK:=hg'.ks
       rw [est] at hK
       have sub:(stK nm (jam ls) i++(ws.tail.take j).map fun w=>(nm.idxOf w,(i:Int))).Sublist (stK nm (jam ls) i++ws.tail.map fun w=>(nm.idxOf w,(i:Int))):=(List.Sublist.refl _).append ((Ycr _ _).map _)
       exact ⟨fun p hp=>hK.lt p (sub.subset hp),hK.nd.sublist (sub.map _)⟩
      refine ⟨by unfold lsG; rw [s5 _ _ h41 n4.at],?_⟩
      simp! only [gl0,jhX]
      rw [if_pos (by simpa using hd _ hm),jfY g5]
      have hnew:=ji4 hn hk5.lt (w:=wd ws (j + 1)) fun p hp z=>by
       rcases List.mem_append.mp hp with hp | hp
       ·exact ht (by rw [<- z]; exact YdA hp)
       ·obtain ⟨v,hv,rfl⟩:=List.mem_map.mp hp
        obtain ⟨a,ha,rfl⟩:=List.mem_iff_getElem.mp hv
        rw [Ybm] at ha
        rw [Yd0,jbm (by omega)] at z
        have:=jeS ho.1 hw (j + 1) (a + 1) (by omega) (by omega) hj'
        have z:nm.idxOf (wd ws (a + 1))=nm.idxOf (wd ws (j + 1)):=z
        omega
      refine ⟨?_,fun G6 w6=>hk2 _ _ ⟨⟨_,rfl⟩,fun b o hb h=>w6.sm b o hb (s5 b o hb h),?_⟩⟩
      ·have:=hk5.le
       unfold tdK
       rw [Yac]
       exact Ya9 (show _<=8 by omega) (by decide)
      ·rw [w6.at,jfg hnew,jcb ej,YaE,<- Yc2]
       unfold tdK
       rw [YaE (l₂:=List.map _ [wd ws (j + 1)])]
       simp only [Yas,YcO,jl2 hm]
  ·rw [if_neg (by simpa using hin),jj7,if_pos (show (!false)=true from rfl)]
   exact ⟨rfl,x i 0 ⟨hg,.inl ⟨by rw [rl]; exact hi,.inl ⟨by omega,rfl⟩⟩⟩ G3 (s2.trans s3)⟩
end

set_option maxHeartbeats 2000000
section
variable {k n:Nat}{G:Gp}{Q:K1}{X:KX}{nm:List Str}{ss:List Spn}{ls:List Str}
structure An (nm:List Str)(n:Nat)(ls:List Str)(G:Gp)(Q:K1):Prop where
 r:OutR nm n (jam ls)->∀ G',Sa G G'->Q (.tup ((bsZ nm (jam ls)).map .int)) G'
 f:∀ a b,OutF nm n (jam ls) a b->∀ p G',Sa G G'->G' p=some (.lst [.int a,.int b])->Q (.loc p) G'
theorem jhQ {pl:Addr}(hn:nm.Nodup)(hd:∀ x∈nm,x ≠ "-")(h8:nm.length<=8)(h6:n<=600)(hl:ls.length<=20000)(hb:∀ x∈ls,x.length<=9000)(gl:G pl=some (.lst (ls.map .str)))
  (q:An nm n ls G Q):jad T (k + 5) jcH [.tup [.tup (nm.map .str),.tup (ss.map Spn.u)],.int n,.loc pl] G Q X:=by
 refine ⟨rfl,?_⟩
 simp! only [jcR,jaj,Yai]
 refine jcC (k:=k) hn hd h8 h6 hl hb gl (fun hR G1 s1=>?_) (fun a b hF G1 s1=>⟨.inl trivial,?_⟩)
 ·simp! only []
  exact q.r hR G1 s1
 ·simp [hsH,hvH,jbp,lit1,litH,atsH,atH,clsF,clsA,-Yfh]
  intro p G2 n2
  exact q.f a b hF p G2 (s1.trans n2.sa) n2.at
theorem jl6 (z:Int)(l:List Int):((l.map U.int).any fun y=>eqF y (.int z))=decide (z∈l):=by
 rw [YbU,Yga,decide_eq_true_eq]
 constructor
 ·rintro ⟨y,hy,e⟩
  obtain ⟨x,hx,rfl⟩:=List.mem_map.mp hy
  have:x=z:=by simpa [eqF] using e
  rw [<- this]; exact hx
 ·intro h
  exact ⟨.int z,List.mem_map.mpr ⟨z,h,rfl⟩,by simp [eqF]⟩
theorem jhy {n i:Nat}{x:U}(h:(rngU 1 n)[i]?=some x):i < n/\x=.int (1 + (i:Int)):=by
 unfold rngU at h
 rw [Yay] at h
 have hi:i < n:=YbV fun z=>by rw [YbS (by simpa using z)] at h; cases h
 refine ⟨hi,?_⟩
 rw [Yat (by simpa using hi)] at h
 simpa using h.symm
noncomputable def nU (l:List Nat):List U:=(l.map fun j:Nat=>(j:Int)).map .int
theorem in_n {a:Addr}{z:Int}{l:List Nat}{φ:Bool->Prop}(g:G a=some (.lst (nU l)))(h:φ (decide (z∈l.map fun j:Nat=>(j:Int)))):inU (.int z) (.loc a) G φ:=by
 refine in_l g rfl (by unfold nU; simp [flat]) ?_
 unfold nU
 rw [jl6]
 exact h
theorem jn0 {x y:Int}{φ:Bool->Prop}:cmpU .LtE (.int x) (.int y) G φ=φ (decide (x<=y)):=rfl
theorem jei {r:Nat}{tl:List Nat}{pk pw:Addr}{ws:List Str}(hw:ws.length<=10000)(ht:tl.length<=8)(hkw:pw≠pk)(h1:1<=ws.length)(h0:wd ws 0=nstr r)(gk:G pk=some (.lst (nU tl)))(gw:G pw=some (.lst (ws.map .str)))
  (q:∀ o G',Fw nm tl r ws o->(∀ b m,b≠pk->G b=some m->G' b=some m)->(o=none->G' pk=some (.lst (nU (tl++(tl1 nm r ws).map (·.1)))))->Q (oN o) G'):jad T (k + 1) jbj [.tup (nm.map .str),.loc pk,.loc pw] G Q X:=by
 have f0:fitB nm tl r ws 0=true:=by unfold fitB; rw [if_pos rfl]; exact decide_eq_true h0
 refine ⟨rfl,?_⟩
 simp! only [jbl,jaj,Yai,jbg gw]
 by_cases l1:ws.length=1
 ·rw [if_pos (by simp [l1])]
  have:=q (some 1) G ⟨fun j hj=>by rw [show j=0 by omega]; exact f0,.inr ⟨l1.symm,by omega⟩⟩ (fun _ _ _ h=>h) (fun z=>nomatch z)
  exact this
 rw [if_neg (by simp; omega)]
 have a1:atI (ws.map U.str) 1=some (.str (wd ws 1)):=jfm (j:=1) (by omega)
 simp! only [ix_l gw a1,jbg gw]
 show (if decide (wd ws 1 = "-")=true then _ else _)
 by_cases hd:wd ws 1 = "-"
 ·rw [if_pos (decide_eq_true hd)]
  have f1:fitB nm tl r ws 1=true:=by unfold fitB; rw [if_neg (by omega),if_pos ⟨rfl,hd⟩]
  have f01:∀ j,j < 2->fitB nm tl r ws j=true:=fun j hj=>by
   rcases (show j=0\/j=1 by omega) with z | z <;> rw [z]
   ·exact f0
   ·exact f1
  by_cases l2:2 < ws.length
  ·rw [if_pos (by simpa using (by exact_mod_cast l2))]
   refine q (some 2) G ⟨f01,.inl ⟨l2,?_⟩⟩ (fun _ _ _ h=>h) (fun z=>nomatch z)
   unfold fitB
   rw [if_neg (by omega),if_neg (fun z=>absurd z.1 (by omega)),if_pos hd]
  ·rw [if_neg (by simp; omega)]
   refine q none G ⟨fun j hj=>f01 j (by omega),by omega⟩ (fun _ _ _ h=>h) fun _=>?_
   unfold tl1
   rw [if_pos hd,gk]
   simp
 ·rw [if_neg (by simpa using hd)]
  have e1:((((ws.map U.str).length:Int)) - 1).toNat=ws.length - 1:=by rw [Yac]; omega
  refine ⟨by omega,by omega,by omega,by rw [Yac]; omega,?_⟩
  rw [e1]
  refine jaw (fun i ς G'=>(∃ o4 o5,ς=[some (.tup (nm.map .str)),some (.loc pk),some (.loc pw),some (.int (if i=0 then -1 else (nm.idxOf (wd ws i):Int))),o4,o5])/\(∀ b m,b≠pk->G b=some m->G' b=some m)/\G' pk=some (.lst (nU (tl++(ws.tail.take i).map nm.idxOf)))/\∀ j,j < i + 1->fitB nm tl r ws j=true) ?_ ?_ ⟨⟨_,_,rfl⟩,fun _ _ _ h=>h,by rw [gk]; simp,fun j hj=>by rw [show j=0 by omega]; exact f0⟩
  ·rintro ς G1 ⟨⟨o4,o5,rfl⟩,s1,g1,hf⟩
   have el:(rngU 1 (ws.length - 1)).length=ws.length - 1:=by unfold rngU; simp
   rw [el] at g1 hf
   refine ⟨trivial,?_⟩
   simp! only []
   refine q none G1 ⟨fun j hj=>hf j (by omega),by omega⟩ s1 fun _=>?_
   unfold tl1
   rw [if_neg hd,g1,YbF (by rw [Ycb]; exact Yaf _),YcP]
   rfl
  ·rintro i x ς G1 K hx ⟨⟨o4,o5,rfl⟩,s1,g1,hf⟩ hk'
   obtain ⟨hi,rfl⟩:=jhy hx
   have gw1:=s1 _ _ hkw gw
   have ai:atI (ws.map U.str) (1 + (i:Int))=some (.str (wd ws (i + 1))):=by
    rw [show 1 + (i:Int)=((i + 1:Nat):Int) by omega]
    exact jfm (by omega)
   refine ⟨trivial,?_⟩
   simp! only [ix_l gw1 ai]
   have e1i:1 + (i:Int)=((i + 1:Nat):Int):=by omega
   have stop:fitB nm tl r ws (i + 1)=false->Q (.int (1 + (i:Int))) G1:=fun z=>by
    rw [e1i]
    exact q (some (i + 1)) G1 ⟨hf,.inl ⟨by omega,z⟩⟩ s1 (fun z=>nomatch z)
   have fe:fitB nm tl r ws (i + 1)=if wd ws (i + 1)∉nm then false else if nm.idxOf (wd ws (i + 1))∈tl then false else decide (i + 1=1\/nm.idxOf (wd ws i) < nm.idxOf (wd ws (i + 1))):=by
    unfold fitB
    rw [if_neg (by omega),if_neg (fun z=>hd z.2),if_neg hd]
    rfl
   refine in_t ?_
   by_cases hm:wd ws (i + 1)∈nm
   ·rw [if_neg (fun z=>z hm)] at fe
    rw [decide_eq_true hm,if_pos rfl]
    show jas .index _ _ _ _
    refine jj9 hm ?_
    rw [jn0]
    by_cases hle:i + 1=1\/nm.idxOf (wd ws i) < nm.idxOf (wd ws (i + 1))
    ·have hne:¬ ((nm.idxOf (wd ws (i + 1)):Int)<=if i=0 then -1 else (nm.idxOf (wd ws i):Int)):=by split <;> omega
     rw [decide_eq_false hne,if_neg (by simp)]
     refine in_n g1 ?_
     have hmem:((nm.idxOf (wd ws (i + 1)):Int)∈(tl++(ws.tail.take i).map nm.idxOf).map fun j:Nat=>(j:Int))↔nm.idxOf (wd ws (i + 1))∈tl:=by
      constructor
      ·intro z
       obtain ⟨j,hj,e⟩:=List.mem_map.mp z
       have e:j=nm.idxOf (wd ws (i + 1)):=by exact_mod_cast e
       subst e
       rcases List.mem_append.mp hj with h | h
       ·exact h
       ·obtain ⟨v,hv,e⟩:=List.mem_map.mp h
        obtain ⟨a,ha,rfl⟩:=List.mem_iff_getElem.mp hv
        rw [Ybm] at ha
        rw [Yd0,jbm (by omega)] at e
        exfalso
        have:nm.idxOf (wd ws (a + 1))<=nm.idxOf (wd ws i):=by
         by_cases z:a + 1=i
         ·rw [z]; exact Yaf _
         ·exact YbD (jeS hf hd i (a + 1) (by omega) (by omega) (by omega))
        rcases hle with z | z <;> omega
      ·exact fun z=>List.mem_map.mpr ⟨_,YaR _ z,rfl⟩
     by_cases ht':nm.idxOf (wd ws (i + 1))∈tl
     ·rw [decide_eq_true (hmem.mpr ht'),if_pos rfl]
      exact stop (by rw [fe,if_pos ht'])
     ·rw [decide_eq_false (fun z=>ht' (hmem.mp z)),if_neg (by simp),jcn g1]
      show jas .append _ _ _ _
      rw [jeF g1]
      have hti:i < ws.tail.length:=by rw [Ycb]; exact hi
      have ei:ws.tail[i]?=some (wd ws (i + 1)):=by rw [Yat hti,jbm hti]
      refine ⟨?_,fun G2 w2=>hk' _ _ ⟨⟨_,_,by rw [if_neg (by omega)]⟩,fun b m hb h=>w2.sm b m hb (s1 b m hb h),?_,fun j hj=>?_⟩⟩
      ·have hz:(10010:Nat)<=Yae:=by decide
       unfold nU
       rw [Yac,Yac,YaD,Yac,Ybm]
       omega
      ·rw [w2.at,jcb ei,YaE,<- Yc2]
       unfold nU
       simp
      ·rcases Nat.lt_succ_iff_lt_or_eq.mp hj with z | z
       ·exact hf j z
       ·rw [z,fe,if_neg ht']
        exact decide_eq_true hle
    ·have hyes:(nm.idxOf (wd ws (i + 1)):Int)<=if i=0 then -1 else (nm.idxOf (wd ws i):Int):=by rw [if_neg (by omega)]; omega
     rw [decide_eq_true hyes,if_pos rfl]
     exact stop (by rw [fe,decide_eq_false hle]; split <;> rfl)
   ·rw [if_pos hm] at fe
    rw [decide_eq_false hm,if_neg (by simp),if_pos (decide_eq_true (by split <;> omega))]
    exact stop fe
end

set_option maxHeartbeats 2000000
section
variable {k n:Nat}{G:Gp}{Q:K1}{X:KX}{nm:List Str}{ss:List Spn}{ls:List Str}
theorem jnW {a:Addr}{ks:List (Nat×Int)}(g:G a=some (.dK (btK ks)))(q:newO G (.lst (nU (ks.map (·.1)))) Q):mkDU (.loc a) G Q:=by
 unfold mkDU
 dsimp only
 rw [g]
 refine ⟨(ks.map fun p:Nat×Int=>p.1).map fun j:Nat=>(j:Int),?_,q⟩
 unfold btK
 rw [YcP,YcP,YcP]
 rfl
theorem jkq {ks:List (Nat×Int)}{j:Nat}(h:j∉ks.map (·.1)):dGet (btK ks) (.inl (j:Int))=none:=by
 unfold dGet btK
 rw [YeN,YfJ]
 intro p hp
 obtain ⟨q,hq,rfl⟩:=List.mem_map.mp hp
 intro z
 have z:(q.1:Int)=(j:Int):=by simpa using z
 exact h (List.mem_map.mpr ⟨q,hq,by exact_mod_cast z⟩)
theorem jnV {a:Addr}{kvs:List (Key×U)}(g:G a=some (.dK kvs)):mtU .setd (.loc a) G=some ("dict", "dict.setdefault"):=by unfold mtU; dsimp only; rw [g]
theorem jkZ {a:Addr}{kvs:List (Key×U)}{z:Int}{u v:U}(g:G a=some (.dK kvs))(hl:kvs.length < Yae)(h:dGet kvs (.inl z)=some u)(q:Q u G):jas .setd (.loc a) [.int z,v] G Q:=by
 unfold jas jhv
 dsimp only
 rw [g]
 dsimp only [kU]
 rw [h]
 exact ⟨hl,q⟩
theorem jkY {a:Addr}{kvs:List (Key×U)}{z:Int}{v:U}(g:G a=some (.dK kvs))(hl:kvs.length < Yae)(h:dGet kvs (.inl z)=none)(q:putO G a (.dK (dPut kvs (.inl z) v)) (Q v)):jas .setd (.loc a) [.int z,v] G Q:=by
 unfold jas jhv
 dsimp only
 rw [g]
 dsimp only [kU]
 rw [h]
 exact ⟨hl,q⟩
theorem jfT {x:Str}(h1:x.length<=9000)(q:newO G (.lst ((Ya8 x " ").map .str)) Q):jas .split (.str x) [.str " "] G Q:=by
 have hs:=jaP x
 have hz:(9001:Nat)<=Yae:=by decide
 exact ⟨rfl,by omega,by omega,q⟩
theorem jfU (x:Str):1<=(Ya8 x " ").length:=by
 have:=jht x 32
 rw [<- jkP] at this
 exact List.length_pos_iff.mpr this
theorem jn1 {a:Addr}{kvs:List (Key×U)}{z:Int}{u:U}(g:G a=some (.dK kvs))(h:dGet kvs (.inl z)=some u):ixU (.loc a) (.int z) G Q=Q u G:=by
 unfold ixU
 dsimp only
 rw [g]
 show (match dGet kvs (.inl z) with | some u=>Q u G | none=>False)=_
 rw [h]
theorem jlJ {l:List Nat}{j:Nat}{y:U}(h:(nU l)[j]?=some y):∃ hj:j < l.length,y=.int (l[j]:Int):=by
 unfold nU at h
 rw [Yay,Yay] at h
 have hj:j < l.length:=YbV fun z=>by rw [YbS (by omega)] at h; cases h
 rw [Yat hj] at h
 exact ⟨hj,(Yan h).symm⟩
theorem jjQ {α:Type}{l:List α}(h:l.Nodup){j:Nat}(hj:j < l.length):l[j]∉l.take j:=fun z=>by
 obtain ⟨a,ha,e⟩:=List.mem_iff_getElem.mp z
 rw [Ybm] at ha
 rw [Yd0] at e
 have:=(Yf8 (h₀:=by omega) (h₁:=hj) h).mp e
 omega
theorem jfQ {z:Int}(h:z.natAbs.log2 < 1920)(q:Q (.str (nstr z)) G):strU [.int z] G Q:=⟨h,q⟩
theorem jjM {pl:Addr}(hn:nm.Nodup)(h8:nm.length<=8)(h6:n<=600)(hl:ls.length<=20000)(hb:∀ x∈ls,x.length<=9000)(gl:G pl=some (.lst (ls.map .str)))
  (q:An nm n ls G Q):jad T (k + 2) jdK [.tup [.tup (nm.map .str),.tup (ss.map Spn.u)],.int n,.loc pl] G Q X:=by
 refine ⟨rfl,?_⟩
 have e1:atI [U.tup (nm.map U.str),U.tup (ss.map Spn.u)] 0=some (U.tup (nm.map U.str)):=jid _ _
 have rl:(jam ls).length=ls.length:=Yac _
 have hs5:(30000:Nat)<=Yae:=by decide
 simp! only [jdV,jaj,Yai]
 refine ⟨by decide,fun p1 G1 n1=>?_⟩
 have g1:=n1.sa _ _ gl
 simp! only [jbg g1]
 refine ⟨by omega,by simp; omega,?_⟩
 refine jaw (fun i ς G'=>(∃ o4 o5 o6 o7 o8,ς=[some (.tup [.tup (nm.map .str),.tup (ss.map Spn.u)]),some (.int n),some (.loc pl),some (.loc p1),o4,o5,o6,o7,o8])/\Sa G G'/\G' p1=some (.dK (btK (stK nm (jam ls) i)))/\Good nm n (jam ls) i) ?_ ?_ ⟨⟨_,_,_,_,_,rfl⟩,n1.sa,n1.at,fun _ h=>absurd h (YcK _)⟩
 ·rintro ς G2 ⟨⟨o4,o5,o6,o7,o8,rfl⟩,s2,g2,hg⟩
  have gl2:=s2 _ _ gl
  have el:(rngU 0 ls.length).length=ls.length:=by unfold rngU; simp
  rw [Yac,el] at g2 hg
  have hk:=hg.ks
  have tl:(btK (stK nm (jam ls) ls.length)).length=(stK nm (jam ls) ls.length).length:=Yac _
  simp! only [jbg gl2,jlP g2,ix_t e1]
  refine ⟨trivial,?_⟩
  have bad:(ls.length < n\/(stK nm (jam ls) ls.length).length < nm.length)->newO G2 (MO.lst [U.int ls.length,U.int 0]) Q:=fun z p G3 n3=>q.f ls.length 0 ⟨hg,.inr ⟨rl.symm,rfl,by rw [rl]; exact z⟩⟩ p G3 (s2.trans n3.sa) n3.at
  rw [Yac,Yac]
  by_cases z1:ls.length < n
  ·rw [if_pos (by simpa using z1)]
   exact ⟨by omega,bad (.inl z1)⟩
  ·rw [if_neg (by simp; omega)]
   by_cases z2:(stK nm (jam ls) ls.length).length < nm.length
   ·rw [if_pos (by rw [tl]; simpa using z2)]
    exact ⟨by omega,bad (.inr z2)⟩
   ·rw [if_neg (by rw [tl]; simp; omega)]
    have hR:OutR nm n (jam ls):=⟨by rw [rl]; exact hg,by rw [rl]; exact fun z=>z.elim z1 z2⟩
    have eln:(rngU 0 nm.length).length=nm.length:=by unfold rngU; simp
    refine ⟨by omega,by omega,by rw [eln]; omega,?_⟩
    refine jaY (fun i acc G'=>G'=G2/\acc=((YaK i).map fun j=>vz (stK nm (jam ls) ls.length) j).map .int) ?_ ?_ ⟨rfl,rfl⟩
    ·rintro acc G3 ⟨rfl,rfl⟩
     refine ⟨trivial,fun p4 G4 n4=>?_⟩
     simp! only [it_l n4.at]
     have:=q.r hR G4 (s2.trans n4.sa)
     unfold bsZ at this
     rw [rl] at this
     rw [eln]
     exact this
    ·rintro i y acc G3 K hx ⟨rfl,rfl⟩ hk' _
     obtain ⟨hi,rfl⟩:=jaN hx
     refine ⟨trivial,?_⟩
     rw [jn1 g2 (jiN (hk.all (by omega) hi))]
     refine hk' _ _ ⟨rfl,?_⟩
     rw [Ych,YaE,YaE]
     rfl
 ·rintro i u ς G2 K hx ⟨⟨o4,o5,o6,o7,o8,rfl⟩,s2,g2,hg⟩ hk'
  obtain ⟨hi,rfl⟩:=jaN hx
  have hi:i < ls.length:=by simpa using hi
  have gl2:=s2 _ _ gl
  have hk:=hg.ks
  have er:=jf4 hi
  have ai:atI (ls.map U.str) (i:Int)=some (.str ls[i]):=jbr (by simp [hi])
  simp! only [ix_l gl2 ai]
  refine ⟨trivial,?_⟩
  have hlen:=hb _ (Ycz hi)
  have hsum:=jaP ls[i]
  have w1:=jfU ls[i]
  show jas .split _ _ _ _
  refine jfT hlen fun p3 G3 n3=>?_
  have fin:∀ w,OutF nm n (jam ls) i w->∀ G':Gp,Sa G G'->newO G' (MO.lst [U.int i,U.int w]) Q:=fun w hF G' s' p G4 n4=>q.f i w hF p G4 (s'.trans n4.sa) n4.at
  have s3:Sa G G3:=s2.trans n3.sa
  by_cases hin:(n:Int)<=(i:Int)
  ·rw [if_pos (decide_eq_true hin)]
   exact ⟨by omega,fin 0 ⟨hg,.inl ⟨by rw [rl]; exact hi,.inl ⟨by omega,rfl⟩⟩⟩ G3 s3⟩
  rw [if_neg (by simpa using hin)]
  obtain ⟨ws,ews⟩:∃ ws,ws=Ya8 ls[i] " " := ⟨_,rfl⟩
  rw [<- ews] at n3 er w1 hsum
  have g3:=n3.at
  have a0:atI (ws.map U.str) 0=some (.str (wd ws 0)):=jfm (j:=0) (by omega)
  rw [ix_l g3 a0]
  refine jfQ (z:=(i:Int)) (je3 (by omega) (by omega)) ?_
  rw [jhX]
  by_cases h0:wd ws 0=nstr i
  ·rw [decide_eq_true h0,if_neg (by simp)]
   have g31:=n3.sa _ _ g2
   have h31:p3≠p1:=jci g2 n3.no
   refine jnW g31 fun p4 G4 n4=>?_
   rw [ix_t e1]
   have h43:p3≠p4:=fun z=>by rw [z,n4.no] at g3; cases g3
   have h41:p1≠p4:=fun z=>by rw [z,n4.no] at g31; cases g31
   have g43:=n4.sa _ _ g3
   have hk8:=hk.le
   refine jei (nm:=nm) (r:=i) (k:=k) (by omega) (by rw [Yac]; omega) h43 w1 h0 n4.at g43 fun o G5 ho s5 g5=>?_
   have s5':Sa G G5:=fun b m h=>s5 b m (fun z=>by have:=s3 _ _ h; rw [z,n4.no] at this; cases this) (n4.sa _ _ (s3 _ _ h))
   cases o with
   | some w=>
    show isU (.int w) .non _
    rw [jj7,if_pos (show (!false)=true from rfl)]
    exact ⟨by omega,fin w ⟨hg,.inl ⟨by rw [rl]; exact hi,.inr ⟨by omega,by rw [er]; exact ho⟩⟩⟩ G5 s5'⟩
   | none=>
    show isU .non .non _
    rw [jl4,if_neg (by simp)]
    have g5:=g5 rfl
    have g51:=s5 _ _ h41 (n4.sa _ _ g31)
    have hg':Good nm n (jam ls) (i + 1):=hg.sn (by omega) (by rw [er]; exact ho)
    have est:stK nm (jam ls) (i + 1)=stK nm (jam ls) i++tl1 nm i ws:=by rw [jfS,er]
    have hK:=hg'.ks
    rw [est] at hK
    have hKl:=hK.le
    rw [YaD] at hKl
    obtain ⟨ks,eks⟩:∃ ks,ks=stK nm (jam ls) i:=⟨_,rfl⟩
    obtain ⟨ts,ets⟩:∃ ts,ts=tl1 nm i ws:=⟨_,rfl⟩
    rw [<- eks,<- ets] at hK est hKl
    rw [<- eks,<- ets] at g5
    rw [<- eks] at g51
    have tsn:∀ p∈ts,p.2=(i:Int):=fun p hp=>by
     rw [ets] at hp
     unfold tl1 at hp
     split at hp
     ·exact nomatch hp
     ·obtain ⟨w,_,rfl⟩:=List.mem_map.mp hp
      rfl
    obtain ⟨al,eal⟩:∃ al,al=ks++ts:=⟨_,rfl⟩
    rw [<- YaE] at g5
    rw [<- eal] at g5 hK est
    have lal:al.length=ks.length + ts.length:=by rw [eal,YaD]
    have ne1:∀ {b o},G b=some o->b≠p1:=fun {b o} h z=>by rw [z,n1.no] at h; cases h
    rw [it_l g5]
    refine jaw (fun j ς G'=>(∃ o8,ς=[some (.tup [.tup (nm.map .str),.tup (ss.map Spn.u)]),some (.int n),some (.loc pl),some (.loc p1),some (.int i),some (.loc p3),some (.loc p4),some .non,o8])/\(∀ b m,b≠p1->G5 b=some m->G' b=some m)/\G' p1=some (.dK (btK (al.take (max j ks.length))))) ?_ ?_ ⟨⟨_,rfl⟩,fun _ _ _ h=>h,by rw [g51,Nat.zero_max,eal,List.take_left]⟩
    ·rintro ς G6 ⟨⟨o,rfl⟩,s6,g6⟩
     refine ⟨by unfold lsG; rw [s6 _ _ (Ne.symm h41) g5],hk' _ _ ⟨⟨_,_,_,_,_,rfl⟩,fun b m h=>s6 b m (ne1 h) (s5' b m h),?_,hg'⟩⟩
     rw [g6,est,YbF]
     unfold nU
     rw [Yac,Yac,Yac]
     omega
    ·rintro j y ς G6 K' hy ⟨⟨o,rfl⟩,s6,g6⟩ hk2
     obtain ⟨hj,rfl⟩:=jlJ hy
     have hj:j < al.length:=by simpa using hj
     rw [Ydc]
     refine ⟨by unfold lsG; rw [s6 _ _ (Ne.symm h41) g5],?_⟩
     have hbl:(btK (al.take (max j ks.length))).length < Yae:=by
      unfold btK
      rw [Yac,Ybm]
      omega
     simp! only [jnV g6]
     by_cases hjk:j < ks.length
     ·have hin:al[j].1∈(al.take (max j ks.length)).map (·.1):=List.mem_map.mpr ⟨al[j],List.mem_take_iff_getElem.mpr ⟨j,by omega,rfl⟩,rfl⟩
      refine jkZ g6 hbl (jiN hin) (hk2 _ _ ⟨⟨_,rfl⟩,s6,?_⟩)
      rw [g6,show max (j + 1) ks.length=max j ks.length by omega]
     ·have em:max j ks.length=j:=by omega
      rw [em] at g6 hbl
      have nin:al[j].1∉(al.take j).map (·.1):=by
       have:=jjQ hK.nd (j:=j) (by simpa using hj)
       rw [Ydc,<- YeT] at this
       exact this
      refine jkY g6 hbl (jkq nin) fun G7 w7=>hk2 _ _ ⟨⟨_,rfl⟩,fun b m hb h=>w7.sm b m hb (s6 b m hb h),?_⟩
      have ej:al[j]?=some al[j]:=Yat hj
      have e2:al[j].2=(i:Int):=tsn _ (by
       have:al[j]=ts[j - ks.length]'(by omega):=by
        subst eal
        rw [List.getElem_append_right (by omega)]
       rw [this]
       exact Ycz _)
      rw [w7.at,show max (j + 1) ks.length=j + 1 by omega,jcb ej,jfg fun p hp z=>?_]
      ·unfold btK
       rw [YaE,Yas,YcO,e2]
      ·obtain ⟨q',hq,rfl⟩:=List.mem_map.mp hp
       have z:(q'.1:Int)=(al[j].1:Int):=by simpa using z
       exact nin (List.mem_map.mpr ⟨q',hq,by exact_mod_cast z⟩)
  ·rw [decide_eq_false h0,if_pos (by simp)]
   refine ⟨by omega,fin 0 ⟨hg,.inl ⟨by rw [rl]; exact hi,.inr ⟨by omega,?_⟩⟩⟩ G3 s3⟩
   rw [er]
   exact ⟨fun _ h=>absurd h (YcK _),.inl ⟨by omega,by unfold fitB; rw [if_pos rfl]; exact decide_eq_false h0⟩⟩
end

set_option maxHeartbeats 2000000
noncomputable def Sz (l:List Str):Nat:=(l.map (·.length)).sum + l.length
theorem jaR (a b:List Str):Sz (a++b)=Sz a + Sz b:=by unfold Sz; simp; omega
theorem jbE (x:Str):Sz [x]=x.length + 1:=by unfold Sz; simp
theorem jbs (x:Str)(l:List Str):Sz (x::l)=x.length + 1 + Sz l:=by rw [show x::l=[x]++l from rfl,jaR,jbE]
theorem jhj (l:List Str)(n:Nat):Sz (l.take n) + Sz (l.drop n)=Sz l:=by rw [<- jaR,List.take_append_drop]
theorem jiQ (l:List Str)(lo hi:Option Int):Sz (cut l lo hi)<=Sz l:=by
 unfold cut
 obtain ⟨a,ea⟩:∃ a,a=HT.sIx l.length 0 lo:=⟨_,rfl⟩
 rw [<- ea]
 have h1:=jhj l a
 have h2:=jhj (l.drop a) (HT.sIx l.length l.length hi - a)
 omega
theorem jhk (l:List Str):Sz l.reverse=Sz l:=by
 induction l with
 | nil=>rfl
 | cons x r ih=>rw [YbW,jaR,ih,jbE,jbs]; omega
theorem jmA (l:List Str)(j:Nat)(x:Str):Sz (l.set j x)<=Sz l + x.length:=by
 induction l generalizing j with
 | nil=>exact Ybn _
 | cons y r ih=>
  cases j with
  | zero=>rw [YdT,jbs,jbs]; omega
  | succ j=>rw [YdU,jbs,jbs]; have:=ih j; omega
theorem jfl (l:List Str):l.length<=Sz l:=by unfold Sz; omega
theorem jmB {l:List Str}{x:Str}(h:x∈l):x.length<=Sz l:=by
 induction l with
 | nil=>exact nomatch h
 | cons y r ih=>
  rw [jbs]
  rcases YaI.mp h with rfl | h
  ·omega
  ·have:=ih h; omega
theorem jaz (a b:Str):(a++b).length=a.length + b.length:=by
 show (a.cps++b.cps).size=_
 exact Yc1
theorem jbi:(" " : Str).length=1:=by decide +kernel
theorem je8:∀ l:List Str,(Ya4 " " l).length<=Sz l
 | []=>Yaf _
 | [x]=>by rw [jbE]; exact YdJ _
 | x::y::r=>by
  have:=je8 (y::r)
  rw [jdf,jaz,jaz,jbi,jbs]
  omega
noncomputable def As (x:Str):Prop:=∀ c∈x.cps.toList,c < 128
noncomputable def Lk (l:List Str):Prop:=∀ x∈l,As x
theorem As.app {a b:Str}(ha:As a)(hb:As b):As (a++b):=fun c hc=>by
 rw [jfG] at hc
 rcases List.mem_append.mp hc with h | h
 ·exact ha c h
 ·exact hb c h
theorem jfq:As " " := by
 have:∀ c∈(" " : Str).cps.toList,c < 128:=by decide +kernel
 exact this
theorem jgH:∀ {l:List Str},Lk l->As (Ya4 " " l)
 | [],_=>fun c hc=>nomatch hc
 | [x],h=>h x (Yao ..)
 | x::y::r,h=>by
  rw [jdf]
  exact ((h x (Yao ..)).app jfq).app (jgH fun z hz=>h z (Yag _ hz))
theorem jhu {x:Str}(h:As x):Lk (Ya8 x " "):=fun y hy=>by
 unfold Ya8 at hy
 split at hy
 ·rw [List.mem_singleton.mp hy]; exact h
 ·split at hy
  ·rw [List.mem_singleton.mp hy]; exact h
  ·exact fun c hc=>h c (jdB hy hc)
theorem Lk.app {a b:List Str}(ha:Lk a)(hb:Lk b):Lk (a++b):=fun x hx=>(List.mem_append.mp hx).elim (ha x) (hb x)
theorem Lk.one {x:Str}(h:As x):Lk [x]:=fun y hy=>by rw [List.mem_singleton.mp hy]; exact h
theorem Lk.cut {l:List Str}(h:Lk l)(lo hi:Option Int):Lk (Z.cut l lo hi):=fun x hx=>h x (Yds (Ydr hx))
theorem Lk.rev {l:List Str}(h:Lk l):Lk l.reverse:=fun x hx=>h x (List.mem_reverse.mp hx)
theorem Lk.set {l:List Str}(h:Lk l){x:Str}(hx:As x)(j:Nat):Lk (l.set j x):=fun y hy=>by
 rcases Yb6 hy with z | z
 ·exact h y z
 ·rw [z]; exact hx
section
variable {k:Nat}{G:Gp}{Q:K1}{X:KX}{nm:List Str}
theorem jia {a b:Addr}{xs ys:List Str}(ga:G a=some (.lst (xs.map .str)))(gb:G b=some (.lst (ys.map .str)))(hl:xs.length + ys.length<=Yae)
  (q:∀ (p:Addr) (G':Gp),G p=none->Sa G G'->G' p=some (.lst ((xs++ys).map .str))->Q (.loc p) G'):binU .Add (.loc a) (.loc b) G Q:=by
 rw [jhi]
 exact ⟨_,_,ga,gb,by simpa using hl,fun p G' n=>q p G' n.no n.sa (by rw [n.at,YaE])⟩
theorem jaJ {a:Addr}{xs:List Str}{lo hi:Option Int}(g:G a=some (.lst (xs.map .str)))(q:∀ (p:Addr) (G':Gp),G p=none->Sa G G'->G' p=some (.lst ((cut xs lo hi).map .str))->Q (.loc p) G'):slU (.loc a) lo hi G Q:=by
 rw [sl_l g,jey]
 exact fun p G' n=>q p G' n.no n.sa n.at
theorem rv_s {a:Addr}{xs:List Str}(g:G a=some (.lst (xs.map .str)))(q:∀ (p:Addr) (G':Gp),G p=none->Sa G G'->G' p=some (.lst (xs.reverse.map .str))->Q (.loc p) G'):revU (.loc a) (.int (-1)) G Q:=by
 unfold revU lsG
 dsimp only
 rw [g]
 exact ⟨.inr rfl,fun p G' n=>q p G' n.no n.sa (by rw [n.at,if_neg (by decide),List.map_reverse])⟩
noncomputable def wA:List Str:=["", "works", "span", "apart", "0", "00", "07", "1", "9999", "10000", "99999", "-1", "-", "A", "abcdefghi"]
noncomputable def wB:List Str:=["x1", "zzzz", "span2", "a", "0x", "+3"]
theorem Fd.ne_l {f c p:Addr}{xs:List U}(h:Fd G f c)(g:G p=some (.lst xs)):p≠f:=fun z=>by
 obtain ⟨ns,a,l,t,h1,_,_⟩:=h.ex
 rw [z,h1] at g
 cases g
noncomputable def Wn (nm:List Str):Prop:=∀ x∈nm,x.length<=8/\As x
theorem jgo {f c:Addr}(hf:Fd G f c)(hn:Wn nm)(h9:nm.length<=9)(q:∀ (w:Str) (G':Gp),w.length<=9->As w->Fd G' f c->Sm f G G'->Q (.str w) G'):jad T (k + 2) jbI [.loc f,.tup (nm.map .str)] G Q X:=by
 refine ⟨rfl,?_⟩
 simp! only [jcQ,jaj,Yai]
 refine ⟨by decide,fun p1 G1 n1=>⟨by decide,fun p2 G2 n2=>?_⟩⟩
 have g1:G1 p1=some (.lst (wA.map .str)):=n1.at
 have g2:G2 p2=some (.lst (wB.map .str)):=n2.at
 have hz:(100:Nat)<=Yae:=by decide
 refine jia (n2.sa _ _ g1) g2 (by show 15 + 6<=_; omega) fun p3 G3 h3 s3 g3=>?_
 intro p4 G4 n4
 refine jia (n4.sa _ _ g3) n4.at (by show 21 + _<=_; omega) fun p5 G5 h5 s5 g5=>?_
 obtain ⟨al,eal⟩:∃ al:List Str,al=wA++wB++nm:=⟨_,rfl⟩
 have bd:∀ x∈al,x.length<=9/\As x:=fun x hx=>by
  rw [eal] at hx
  rcases List.mem_append.mp hx with hx | hx
  ·have:∀ x∈wA++wB,x.length<=9/\∀ c∈x.cps.toList,c < 128:=by decide +kernel
   exact this x hx
  ·exact ⟨Yal (hn x hx).1 (by decide),(hn x hx).2⟩
 have la:0 < al.length/\al.length<=40:=by
  rw [eal,YaD]
  show 0 < 21 + _/\21 + _<=40
  omega
 rw [<- eal] at g5
 have s5':Sa G G5:=n1.sa.trans (n2.sa.trans (s3.trans (n4.sa.trans s5)))
 have f5:Fd G5 f c:=hf.sa s5'
 rw [jbg g5]
 refine jaf f5 (by rw [Yac]; omega) (by rw [Yac]; omega) fun r G6 r0 r1 f6 s6=>?_
 have p5f:p5≠f:=f5.ne_l g5
 refine jaV (s6 _ _ p5f g5) r0 r1 fun u hu=>?_
 obtain ⟨x,hx,rfl⟩:=List.mem_map.mp hu
 exact q x G6 (bd x hx).1 (bd x hx).2 f6 (s5'.sm.trans s6)
end

set_option maxHeartbeats 2000000
section
variable {k L:Nat}{G:Gp}{Q:K1}{X:KX}{nm:List Str}
theorem jkS {x:Str}{lo hi:Option Int}:(Ydm x lo hi).length<=x.length:=by
 exact Ydl x lo hi
theorem jnv {x:Str}(h:As x)(lo hi:Option Int):As (Ydm x lo hi):=fun c hc=>by
 unfold Ydm at hc
 split at hc
 ·exact h c hc
 ·have hc:c∈(YeE (fun i=>x.cps[i]?) (Builtin.Str.strSliceIndices lo hi 1 x.length)):=by simpa using hc
  obtain ⟨i,_,e⟩:=List.mem_filterMap.mp hc
  exact h c (Array.mem_toList_iff.mpr (Array.mem_of_getElem? e))
theorem jfW:("  " : Str).length=2:=by decide +kernel
theorem jgm:("1" : Str).length=1:=by decide +kernel
theorem jdG {f c:Addr}{x:Str}(hf:Fd G f c)(hn:Wn nm)(h9:nm.length<=9)(hL:L<=3000)(hx:x.length<=L)(hA:As x)
  (q:∀ (w:Str) (G':Gp),w.length<=3 * L + 40->As w->Fd G' f c->Sm f G G'->Q (.str w) G'):jad T (k + 3) ja7 [.loc f,.str x,.tup (nm.map .str)] G Q X:=by
 have hz:(100000:Nat)<=Yae:=by decide
 have hs:=jaP x
 have w1:=jfU x
 obtain ⟨ws,ews⟩:∃ ws,ws=Ya8 x " " := ⟨_,rfl⟩
 have hS:Sz ws=x.length + 1:=by rw [ews]; exact hs
 have hl:=jfl ws
 have lk:Lk ws:=by rw [ews]; exact jhu hA
 refine ⟨rfl,?_⟩
 simp! only [jbb,jaj,Yai]
 show jas .split _ _ _ _
 refine jfT (by omega) fun p1 G1 n1=>?_
 rw [<- ews] at n1 w1
 have g1:=n1.at
 have f1:=hf.new n1
 simp! only [jbg g1]
 refine jaf f1 (by rw [Yac]; omega) (by rw [Yac]; omega) fun r G2 r0 r1 f2 s2=>?_
 have g2:=s2 _ _ (f1.ne_l g1) g1
 refine jaf f2 (by omega) (by omega) fun y G3 y0 y1 f3 s3=>?_
 have g3:=s3 _ _ (f2.ne_l g2) g2
 have s3':Sm f G G3:=n1.sa.sm.trans (s2.trans s3)
 rw [Yac] at r1
 have J:∀ (p:Addr) (ys:List Str) (G':Gp),G' p=some (.lst (ys.map .str))->Sz ys<=3 * L + 40->Lk ys->Fd G' f c->Sm f G G'->jas .join (.str " ") [.loc p] G' Q:=fun p ys G' g h hk f' s'=>by
  rw [jgG g]
  exact ⟨by decide,by show Sz ys<=_; omega,q _ G' (Yal (je8 ys) h) (jgH hk) f' s'⟩
 have cl:∀ lo hi,(cut ws lo hi).length<=Sz ws/\Sz (cut ws lo hi)<=Sz ws:=fun lo hi=>⟨Yal (jfl _) (jiQ ws lo hi),jiQ ws lo hi⟩
 have cat:∀ {a b:Addr} {xs ys:List Str} {G':Gp} {R:K1},G' a=some (.lst (xs.map .str))->G' b=some (.lst (ys.map .str))->Sz xs + Sz ys<=3 * L + 40->(∀ (p:Addr) (G2:Gp),Sa G' G2->G2 p=some (.lst ((xs++ys).map .str))->R (.loc p) G2)->binU .Add (.loc a) (.loc b) G' R:=fun {a b xs ys G' R} ga gb h r'=>
  jia ga gb (by have:=jfl xs; have:=jfl ys; omega) fun p G2 _ s2 g2=>r' p G2 s2 g2
 simp! only []
 by_cases c0:y=0
 ·rw [if_pos (by simpa using c0)]
  refine jaJ g3 fun p4 G4 h4 s4 g4=>?_
  show slU _ _ _ _ _
  refine jaJ (s4 _ _ g3) fun p5 G5 h5 s5 g5=>?_
  have a1:=(cl none (some r)).2
  have a2:=(cl (some (r + 1)) none).2
  refine cat (s5 _ _ g4) g5 (by omega) fun p6 G6 s6 g6=>?_
  have sa:=s4.trans (s5.trans s6)
  exact J p6 _ G6 g6 (by rw [jaR]; omega) ((lk.cut _ _).app (lk.cut _ _)) (f3.sa sa) (s3'.trans sa.sm)
 rw [if_neg (by simpa using c0)]
 simp! only []
 by_cases c1:y=1
 ·rw [if_pos (by simpa using c1)]
  refine jaJ g3 fun p4 G4 h4 s4 g4=>?_
  refine jaV (s4 _ _ g3) r0 (by rw [Yac]; exact r1) fun u hu=>?_
  obtain ⟨w,hw,rfl⟩:=List.mem_map.mp hu
  refine ⟨by omega,fun p5 G5 n5=>?_⟩
  have g5:G5 p5=some (.lst ([w].map .str)):=n5.at
  have a0:=jmB hw
  have a1:=(cl none (some r)).2
  have a2:=(cl (some r) none).2
  refine cat (n5.sa _ _ g4) g5 (by rw [jbE]; omega) fun p6 G6 s6 g6=>?_
  show slU _ _ _ _ _
  refine jaJ (s6 _ _ (n5.sa _ _ (s4 _ _ g3))) fun p7 G7 h7 s7 g7=>?_
  refine cat (s7 _ _ g6) g7 (by rw [jaR,jbE]; omega) fun p8 G8 s8 g8=>?_
  have sa:=s4.trans (n5.sa.trans (s6.trans (s7.trans s8)))
  exact J p8 _ G8 g8 (by rw [jaR,jaR,jbE]; omega) (((lk.cut _ _).app (.one (lk w hw))).app (lk.cut _ _)) (f3.sa sa) (s3'.trans sa.sm)
 rw [if_neg (by simpa using c1)]
 simp! only []
 by_cases c2:y=2
 ·rw [if_pos (by simpa using c2)]
  refine jaJ g3 fun p4 G4 h4 s4 g4=>?_
  show slU _ _ _ _ _
  refine jaJ (s4 _ _ g3) fun p5 G5 h5 s5 g5=>?_
  show revU _ _ _ _
  refine rv_s g5 fun p6 G6 h6 s6 g6=>?_
  have a1:=(cl none (some r)).2
  have a2:=(cl (some r) (some (r + 2))).2
  have a3:=(cl (some (r + 2)) none).2
  refine cat (s6 _ _ (s5 _ _ g4)) g6 (by rw [jhk]; omega) fun p7 G7 s7 g7=>?_
  show slU _ _ _ _ _
  refine jaJ (s7 _ _ (s6 _ _ (s5 _ _ (s4 _ _ g3)))) fun p8 G8 h8 s8 g8=>?_
  refine cat (s8 _ _ g7) g8 (by rw [jaR,jhk]; omega) fun p9 G9 s9 g9=>?_
  have sa:=s4.trans (s5.trans (s6.trans (s7.trans (s8.trans s9))))
  exact J p9 _ G9 g9 (by rw [jaR,jaR,jhk]; omega) (((lk.cut _ _).app (lk.cut _ _).rev).app (lk.cut _ _)) (f3.sa sa) (s3'.trans sa.sm)
 rw [if_neg (by simpa using c2)]
 simp! only []
 by_cases c3:y=3
 ·rw [if_pos (by simpa using c3)]
  refine jaJ g3 fun p4 G4 h4 s4 g4=>?_
  have f4:=f3.sa s4
  refine jgo f4 hn h9 fun w G5 hw aw f5 s5=>?_
  refine ⟨by omega,fun p6 G6 n6=>?_⟩
  have g6:G6 p6=some (.lst ([w].map .str)):=n6.at
  have a1:=(cl none (some r)).2
  have a2:=(cl (some r) none).2
  refine cat (n6.sa _ _ (s5 _ _ (f4.ne_l g4) g4)) g6 (by rw [jbE]; omega) fun p7 G7 s7 g7=>?_
  show slU _ _ _ _ _
  have g43:=s4 _ _ g3
  refine jaJ (s7 _ _ (n6.sa _ _ (s5 _ _ (f4.ne_l g43) g43))) fun p8 G8 h8 s8 g8=>?_
  refine cat (s8 _ _ g7) g8 (by rw [jaR,jbE]; omega) fun p9 G9 s9 g9=>?_
  have sa:=n6.sa.trans (s7.trans (s8.trans s9))
  exact J p9 _ G9 g9 (by rw [jaR,jaR,jbE]; omega) (((lk.cut _ _).app (.one aw)).app (lk.cut _ _)) (f5.sa sa) (s3'.trans (s4.sm.trans (s5.trans sa.sm)))
 rw [if_neg (by simpa using c3)]
 simp! only []
 by_cases c4:y=4
 ·rw [if_pos (by simpa using c4)]
  refine jaI (by rw [jbi]; omega) ?_
  refine ⟨by rw [jbi]; omega,by rw [jfW]; omega,fun w hw hw2=>?_⟩
  rw [jfW] at hw
  refine jaI (by rw [jgm]; omega) ?_
  refine ⟨by omega,by omega,fun p4 G4 n4=>?_⟩
  have f4:=f3.new n4
  refine jaf f4 (by omega) (by omega) fun t G5 t0 t1 f5 s5=>?_
  refine jaV (s5 _ _ (f4.ne_l n4.at) n4.at) t0 (by show t < 5; exact t1) fun u hu=>?_
  have sp2:As "  " := by
   have:∀ c∈("  " : Str).cps.toList,c < 128:=by decide +kernel
   exact this
  have on:As "1" := by
   have:∀ c∈("1" : Str).cps.toList,c < 128:=by decide +kernel
   exact this
  have:∃ v:Str,u=.str v/\v.length<=3 * L + 40/\As v:=by
   have e1:=jaz x " "
   have e2:=jaz " " x
   have e3:=jaz x "1"
   have e4:=jkS (x:=x) (lo:=some 1) (hi:=none)
   rw [jbi] at e1 e2
   rw [jgm] at e3
   simp only [YaI,Yaw,or_false] at hu
   rcases hu with rfl | rfl | rfl | rfl | rfl
   ·exact ⟨_,rfl,by omega,(hA.app jfq)⟩
   ·exact ⟨_,rfl,by omega,(jfq.app hA)⟩
   ·exact ⟨_,rfl,by omega,(fun c hc=>(hw2 c hc).elim (hA c) (sp2 c))⟩
   ·exact ⟨_,rfl,by omega,(hA.app on)⟩
   ·exact ⟨_,rfl,by omega,(jnv hA _ _)⟩
  obtain ⟨v,rfl,hv,av⟩:=this
  exact q v G5 hv av f5 (s3'.trans (n4.sa.sm.trans s5))
 rw [if_neg (by simpa using c4)]
 simp! only []
 refine jgo f3 hn h9 fun w G5 hw aw' f5 s5=>?_
 have g5:=s5 _ _ (f3.ne_l g3) g3
 obtain ⟨j,rfl⟩:=Ybb r0
 have hj:j < ws.length:=by omega
 rw [jkU g5 (jgJ (by rw [Yac]; exact hj))]
 intro G6 w6
 show jas .join _ _ _ _
 have g6:G6 p1=some (.lst ((ws.set j w).map .str)):=by rw [w6.at,List.map_set]
 have hS2:=jmA ws j w
 have aw:=hf.away n1
 exact J p1 _ G6 g6 (by omega) (lk.set aw' j) (f5.off aw w6) (Sm.wr Sm.refl n1.no (s3'.trans s5) w6)
end

set_option maxHeartbeats 2000000
structure Bd (L M:Nat)(ls:List Str):Prop where
 n:ls.length<=M
 l:∀ x∈ls,x.length<=L/\As x
section
variable {L M M':Nat}{a b:List Str}
theorem Bd.cut (h:Bd L M a)(lo hi:Option Int):Bd L M (Z.cut a lo hi):=⟨Yal (by unfold Z.cut; rw [Ybm,Yec]; omega) h.n,fun x hx=>h.l x (Yds (Ydr hx))⟩
theorem Bd.rev (h:Bd L M a):Bd L M a.reverse:=⟨by rw [YcG]; exact h.n,fun x hx=>h.l x (List.mem_reverse.mp hx)⟩
theorem Bd.app (h:Bd L M a)(h':Bd L M' b):Bd L (M + M') (a++b):=⟨by rw [YaD]; exact YeO h.n h'.n,fun x hx=>(List.mem_append.mp hx).elim (h.l x) (h'.l x)⟩
theorem Bd.one {x:Str}(h:x.length<=L)(h':As x):Bd L 1 [x]:=⟨Yaf _,fun y hy=>by rw [List.mem_singleton.mp hy]; exact ⟨h,h'⟩⟩
theorem Bd.up {L':Nat}(h:Bd L M a)(hl:L<=L')(hm:M<=M'):Bd L' M' a:=⟨Yal h.n hm,fun x hx=>⟨Yal (h.l x hx).1 hl,(h.l x hx).2⟩⟩
theorem Bd.nil:Bd L 0 []:=⟨Yaf _,fun _ h=>nomatch h⟩
end
section
variable {k L M:Nat}{G:Gp}{Q:K1}{X:KX}{nm:List Str}
theorem je1 {t:Nat}(h:t<=20000):(nstr t).length<=5/\As (nstr t)/\(t:Int).natAbs.log2 < 1920:=by
 have e:nstr (t:Int)=⟨((Yff 10 t).map YfX).toArray⟩:=PyProof.Rows.text_ofNat t
 refine ⟨?_,fun c hc=>?_,?_⟩
 ·rw [e]
  show (((Yff 10 t).map YfX).toArray).size<=5
  rw [Yam,Yac]
  exact (Nat.length_toDigits_le_iff (by decide) (by decide)).mpr (by omega)
 ·rw [e] at hc
  have hc:c∈(Yff 10 t).map YfX:=hc
  obtain ⟨d,hd,rfl⟩:=List.mem_map.mp hc
  have:=Nat.isDigit_of_mem_toDigits (by decide) (by decide) hd
  unfold Char.isDigit at this
  have b:=of_decide_eq_true ((Yap _ _).mp this).2
  exact Ya9 (UInt32.le_iff_toNat_le.mp b) (by decide)
 ·have h2:(t:Int).natAbs < 2 ^ 15:=by omega
  by_cases hz:(t:Int).natAbs=0
  ·rw [hz]; decide
  ·exact YcU ((Nat.log2_lt hz).mpr h2) (by decide)
theorem jbz {f c p:Addr}{ls:List Str}(hf:Fd G f c)(hn:Wn nm)(h0:0 < nm.length)(h8:nm.length<=8)(hL:10<=L)(hL':L<=3000)(hM:M<=6000)(hb:Bd L M ls)(gl:G p=some (.lst (ls.map .str)))
  (q:∀ (p':Addr) (ys:List Str) (G':Gp),Bd (3 * L + 40) (3 * M + 1) ys->G' p'=some (.lst (ys.map .str))->Fd G' f c->Sm f G G'->Q (.loc p') G'):jad T (k + 4) jaD [.loc f,.loc p,.tup (nm.map .str)] G Q X:=by
 have hz:(100000:Nat)<=Yae:=by decide
 have hbn:=hb.n
 refine ⟨rfl,?_⟩
 simp! only [ja2,jaj,Yai,jbg gl]
 refine jaf hf (by rw [Yac]; omega) (by rw [Yac]; omega) fun r G1 r0 r1 f1 s1=>?_
 have g1:=s1 _ _ (hf.ne_l gl) gl
 rw [Yac] at r1
 refine jaf f1 (by omega) (by omega) fun y G2 y0 y1 f2 s2=>?_
 have g2:=s2 _ _ (f1.ne_l g1) g1
 have sm2:Sm f G G2:=s1.trans s2
 simp! only []
 refine jaf f2 (by rw [Yac]; omega) (by rw [Yac]; omega) fun t G3 t0 t1 f3 s3=>?_
 have g3:=s3 _ _ (f2.ne_l g2) g2
 have sm3:Sm f G G3:=sm2.trans s3
 obtain ⟨u,hu,eu⟩:=jd5 t0 t1
 rw [ix_t eu]
 obtain ⟨na,hna,rfl⟩:=List.mem_map.mp hu
 obtain ⟨nl,nas⟩:=hn na hna
 have bdU:Bd (3 * L + 40) M ls:=hb.up (by omega) (Yaf _)
 have ds:As "-" := by
  have:∀ c∈("-" : Str).cps.toList,c < 128:=by decide +kernel
  exact this
 have dl:("-" : Str).length=1:=by decide +kernel
 have cat:∀ {a b:Addr} {xs ys:List Str} {G':Gp} {R:K1} {M1 M2:Nat},Bd (3 * L + 40) M1 xs->Bd (3 * L + 40) M2 ys->G' a=some (.lst (xs.map .str))->G' b=some (.lst (ys.map .str))->M1 + M2<=3 * M + 1->(∀ (p':Addr) (G2:Gp),Sa G' G2->Bd (3 * L + 40) (M1 + M2) (xs++ys)->G2 p'=some (.lst ((xs++ys).map .str))->R (.loc p') G2)->binU .Add (.loc a) (.loc b) G' R:=fun {a b xs ys G' R M1 M2} b1 b2 ga gb h r'=>
  jia ga gb (by have:=b1.n; have:=b2.n; omega) fun p' G2 _ s2 g2=>r' p' G2 s2 (b1.app b2) g2
 have three:∀ (p4:Addr) (G5:Gp) (w:Str),G5 p4=some (.lst ((Z.cut ls none (some r)).map .str))->G5 p=some (.lst (ls.map .str))->Fd G5 f c->Sm f G G5->w.length<=3 * L + 40->As w->
   (0 + 1<=Yae/\newO G5 (MO.lst [U.str w]) fun y G2=>binU .Add (.loc p4) y G2 fun x G1=>slU (.loc p) (some (r + 1)) none G1 fun y G2=>binU .Add x y G2 Q):=fun p4 G5 w g4 g f5 sm hw aw=>
  ⟨by omega,fun p6 G6 n6=>cat (bdU.cut none (some r)) (Bd.one hw aw) (n6.sa _ _ g4) (show G6 p6=some (.lst ([w].map .str)) from n6.at) (by omega) fun p7 G7 s7 b7 g7=>
   jaJ (s7 _ _ (n6.sa _ _ g)) fun p8 G8 _ s8 g8=>cat b7 (bdU.cut _ _) (s8 _ _ g7) g8 (by omega) fun p9 G9 s9 b9 g9=>
    q p9 _ G9 (b9.up (Yaf _) (by omega)) g9 (f5.sa (n6.sa.trans (s7.trans (s8.trans s9)))) (sm.trans (n6.sa.trans (s7.trans (s8.trans s9))).sm)⟩
 simp! only [jbg g3]
 by_cases c0:y=0
 ·rw [if_pos (by simpa using c0)]
  refine jaJ g3 fun p4 G4 h4 s4 g4=>?_
  refine jaJ (s4 _ _ g3) fun p5 G5 h5 s5 g5=>?_
  refine cat (bdU.cut _ _) (bdU.cut _ _) (s5 _ _ g4) g5 (by omega) fun p6 G6 s6 b6 g6=>?_
  have sa:=s4.trans (s5.trans s6)
  exact q p6 _ G6 (b6.up (Yaf _) (by omega)) g6 (f3.sa sa) (sm3.trans sa.sm)
 rw [if_neg (by simpa using c0)]
 by_cases c1:y=1
 ·rw [if_pos (by simpa using c1)]
  refine jaJ g3 fun p4 G4 h4 s4 g4=>?_
  refine jaJ (s4 _ _ g3) fun p5 G5 h5 s5 g5=>?_
  refine cat (bdU.cut _ _) (bdU.cut _ _) (s5 _ _ g4) g5 (by omega) fun p6 G6 s6 b6 g6=>?_
  refine jaJ (s6 _ _ (s5 _ _ (s4 _ _ g3))) fun p7 G7 h7 s7 g7=>?_
  refine cat b6 (bdU.cut _ _) (s7 _ _ g6) g7 (by omega) fun p8 G8 s8 b8 g8=>?_
  have sa:=s4.trans (s5.trans (s6.trans (s7.trans s8)))
  exact q p8 _ G8 (b8.up (Yaf _) (by omega)) g8 (f3.sa sa) (sm3.trans sa.sm)
 rw [if_neg (by simpa using c1)]
 by_cases c2:y=2
 ·rw [if_pos (by simpa using c2)]
  refine jaJ g3 fun p4 G4 h4 s4 g4=>?_
  refine jaJ (s4 _ _ g3) fun p5 G5 h5 s5 g5=>?_
  refine rv_s g5 fun p6 G6 h6 s6 g6=>?_
  refine cat (bdU.cut _ _) (bdU.cut _ _).rev (s6 _ _ (s5 _ _ g4)) g6 (by omega) fun p7 G7 s7 b7 g7=>?_
  refine jaJ (s7 _ _ (s6 _ _ (s5 _ _ (s4 _ _ g3)))) fun p8 G8 h8 s8 g8=>?_
  refine cat b7 (bdU.cut _ _) (s8 _ _ g7) g8 (by omega) fun p9 G9 s9 b9 g9=>?_
  have sa:=s4.trans (s5.trans (s6.trans (s7.trans (s8.trans s9))))
  exact q p9 _ G9 (b9.up (Yaf _) (by omega)) g9 (f3.sa sa) (sm3.trans sa.sm)
 rw [if_neg (by simpa using c2)]
 by_cases c3:y=3
 ·rw [if_pos (by simpa using c3)]
  obtain ⟨n5,na5,nlog⟩:=je1 (t:=ls.length) (by omega)
  rw [Yac]
  refine jfQ (z:=((ls.length:Nat):Int)) nlog ?_
  refine jaI (by rw [jbi]; omega) ?_
  refine ⟨by omega,fun p4 G4 n4=>?_⟩
  have f4:=f3.new n4
  refine jaf f4 (by omega) (by omega) fun z G5 z0 z1 f5 s5=>?_
  refine jaV (s5 _ _ (f4.ne_l n4.at) n4.at) z0 (by show z < 2; exact z1) fun v hv=>?_
  have:∃ w:Str,v=.str w/\w.length<=8/\As w:=by
   simp only [YaI,Yaw,or_false] at hv
   rcases hv with rfl | rfl
   ·exact ⟨_,rfl,nl,nas⟩
   ·exact ⟨_,rfl,by omega,ds⟩
  obtain ⟨w,rfl,hw,aw⟩:=this
  have e1:=jaz (nstr ((ls.length:Nat):Int)) " "
  have e2:=jaz (nstr ((ls.length:Nat):Int) ++ " ") w
  rw [jbi] at e1
  refine jaI (by omega) ?_
  refine ⟨by omega,fun p6 G6 n6=>?_⟩
  have g36:=n6.sa _ _ (s5 _ _ (f4.ne_l (n4.sa _ _ g3)) (n4.sa _ _ g3))
  refine cat bdU (Bd.one (x:=nstr ((ls.length:Nat):Int) ++ " " ++ w) (by omega) ((na5.app jfq).app aw)) g36 n6.at (by omega) fun p7 G7 s7 b7 g7=>?_
  have sa:=n6.sa.trans s7
  exact q p7 _ G7 (b7.up (Yaf _) (by omega)) g7 (f5.sa sa) (sm3.trans (n4.sa.sm.trans (s5.trans sa.sm)))
 rw [if_neg (by simpa using c3)]
 by_cases c4:y=4
 ·rw [if_pos (by simpa using c4)]
  simp! only [jbg g3]
  by_cases l3:(3:Int) < ls.length
  ·rw [if_pos (by simpa using l3)]
   refine jaf f3 (by omega) (by omega) fun z G4 z0 z1 f4 s4=>?_
   simp! only []
   refine jaJ (s4 _ _ (f3.ne_l g3) g3) fun p5 G5 h5 s5 g5=>?_
   exact q p5 _ G5 ((bdU.cut _ _).up (Yaf _) (by omega)) g5 (f4.sa s5) (sm3.trans (s4.trans s5.sm))
  ·rw [if_neg (by simpa using l3)]
   exact ⟨by omega,fun p4 G4 n4=>q p4 [] G4 (Bd.nil.up (Yaf _) (by omega)) n4.at (f3.new n4) (sm3.trans n4.sa.sm)⟩
 rw [if_neg (by simpa using c4)]
 simp! only [jbg g3]
 by_cases ce:r=ls.length
 ·rw [if_pos (by rw [Yac]; simpa using ce)]
  refine ⟨by omega,fun p4 G4 n4=>?_⟩
  refine cat (Bd.one (x := "") (Ybn _) (fun c hc=>nomatch hc)) bdU (show G4 p4=some (.lst (([""]:List Str).map .str)) from n4.at) (n4.sa _ _ g3) (by omega) fun p5 G5 s5 b5 g5=>?_
  exact q p5 _ G5 (b5.up (Yaf _) (by omega)) g5 (f3.sa (n4.sa.trans s5)) (sm3.trans (n4.sa.trans s5).sm)
 rw [if_neg (by rw [Yac]; simpa using ce)]
 have rl:r < ls.length:=by omega
 have rn:(nstr r).length<=5/\As (nstr r)/\r.natAbs.log2 < 1920:=by
  obtain ⟨j,rfl⟩:=Ybb r0
  exact je1 (by omega)
 by_cases c5:y=5
 ·rw [if_pos (by simpa using c5)]
  refine jaJ g3 fun p4 G4 h4 s4 g4=>?_
  refine jaV (s4 _ _ g3) r0 (by rw [Yac]; exact rl) fun v hv=>?_
  obtain ⟨x,hx,rfl⟩:=List.mem_map.mp hv
  obtain ⟨xl,xa⟩:=hb.l x hx
  refine jaI (by rw [jbi]; omega) ?_
  refine ⟨by omega,fun p5 G5 n5=>?_⟩
  have f5:=(f3.sa s4).new n5
  refine jaf f5 (by omega) (by omega) fun z G6 z0 z1 f6 s6=>?_
  refine jaV (s6 _ _ (f5.ne_l n5.at) n5.at) z0 (by show z < 3; exact z1) fun v hv=>?_
  have:∃ w:Str,v=.str w/\w.length<=8/\As w:=by
   simp only [YaI,Yaw,or_false] at hv
   rcases hv with rfl | rfl | rfl
   ·exact ⟨_,rfl,nl,nas⟩
   ·exact ⟨_,rfl,by omega,ds⟩
   ·exact ⟨_,rfl,Ybn _,fun c hc=>nomatch hc⟩
  obtain ⟨w,rfl,hw,aw⟩:=this
  have e1:=jaz x " "
  have e2:=jaz (x ++ " ") w
  rw [jbi] at e1
  refine jaI (by omega) ?_
  have s46:∀ {a:Addr} {xs:List U},G4 a=some (.lst xs)->G6 a=some (.lst xs):=fun {a xs} g=>s6 _ _ (f5.ne_l (n5.sa _ _ g)) (n5.sa _ _ g)
  exact three p4 G6 _ (s46 g4) (s46 (s4 _ _ g3)) f6 (sm3.trans (s4.sm.trans (n5.sa.sm.trans s6))) (by omega) ((xa.app jfq).app aw)
 rw [if_neg (by simpa using c5)]
 by_cases c6:y=6
 ·rw [if_pos (by simpa using c6)]
  have k1:(" -" : Str).length=2/\∀ c∈(" -" : Str).cps.toList,c < 128:=by decide +kernel
  have k2:("- " : Str).length=2/\∀ c∈("- " : Str).cps.toList,c < 128:=by decide +kernel
  have e1:=jaz (nstr r) " -"
  have e2:=jaz (nstr r) " "
  have e3:=jaz (nstr r ++ " ") na
  have e4:=jaz "- " na
  rw [k1.1] at e1
  rw [jbi] at e2
  rw [k2.1] at e4
  refine jfQ rn.2.2 ?_
  refine jaI (by rw [k1.1]; omega) ?_
  refine jfQ rn.2.2 ?_
  refine jaI (by rw [jbi]; omega) ?_
  refine jaI (by omega) ?_
  refine jfQ rn.2.2 ?_
  refine jaI (by rw [k2.1]; omega) ?_
  refine ⟨by omega,fun p4 G4 n4=>?_⟩
  have f4:=f3.new n4
  refine jaf f4 (by omega) (by omega) fun z G5 z0 z1 f5 s5=>?_
  refine jaV (s5 _ _ (f4.ne_l n4.at) n4.at) z0 (by show z < 4; exact z1) fun v hv=>?_
  have:∃ w:Str,v=.str w/\w.length<=3 * L + 40/\As w:=by
   simp only [YaI,Yaw,or_false] at hv
   rcases hv with rfl | rfl | rfl | rfl
   ·exact ⟨_,rfl,by omega,rn.2.1.app k1.2⟩
   ·exact ⟨_,rfl,by omega,(rn.2.1.app jfq).app nas⟩
   ·exact ⟨_,rfl,by omega,rn.2.1⟩
   ·exact ⟨_,rfl,by omega,As.app k2.2 nas⟩
  obtain ⟨w,rfl,hw,aw⟩:=this
  have g5:=s5 _ _ (f4.ne_l (n4.sa _ _ g3)) (n4.sa _ _ g3)
  refine jaJ g5 fun p6 G6 h6 s6 g6=>?_
  exact three p6 G6 w g6 (s6 _ _ g5) (f5.sa s6) (sm3.trans (n4.sa.sm.trans (s5.trans s6.sm))) hw aw
 rw [if_neg (by simpa using c6)]
 refine jaJ g3 fun p4 G4 h4 s4 g4=>?_
 refine jaV (s4 _ _ g3) r0 (by rw [Yac]; exact rl) fun v hv=>?_
 obtain ⟨x,hx,rfl⟩:=List.mem_map.mp hv
 obtain ⟨xl,xa⟩:=hb.l x hx
 have f4:=f3.sa s4
 refine ⟨by omega,by rw [Yac]; omega,?_⟩
 rw [show nm.map U.str++[U.str "-"]=(nm++(["-"]:List Str)).map U.str by rw [YaE]; rfl]
 refine jdG f4 (nm:=nm++(["-"]:List Str)) (L:=L) (fun z hz=>?_) (by rw [YaD]; show _ + 1<=9; omega) hL' xl xa fun w G5 hw aw f5 s5=>?_
 ·rcases List.mem_append.mp hz with h | h
  ·exact hn z h
  ·rw [List.mem_singleton.mp h]; exact ⟨by omega,ds⟩
 have s45:∀ {a:Addr} {xs:List U},G4 a=some (.lst xs)->G5 a=some (.lst xs):=fun {a xs} g=>s5 _ _ (f4.ne_l g) g
 exact three p4 G5 w (s45 g4) (s45 (s4 _ _ g3)) f5 (sm3.trans (s4.sm.trans s5)) hw aw
end

set_option maxHeartbeats 2000000
theorem jkM {nm:List Str}{rows:List (List Str)}{m:Nat}{p:Nat×Int}(h:p∈stK nm rows m):0<=p.2/\p.2 < m:=by
 unfold stK at h
 obtain ⟨r,hr,h⟩:=List.mem_flatMap.mp h
 have hr:=List.mem_range.mp hr
 unfold tl1 at h
 split at h
 ·exact nomatch h
 ·obtain ⟨w,_,rfl⟩:=List.mem_map.mp h
  exact ⟨YdY r,by show (r:Int) < m; omega⟩
theorem jmW {nm:List Str}{rows:List (List Str)}{m j:Nat}:0<=vz (stK nm rows m) j/\vz (stK nm rows m) j<=m:=by
 unfold vz
 cases h:(stK nm rows m).find? fun p=>decide (p.1=j) with
 | none=>exact ⟨Int.le_refl _,YdY m⟩
 | some p=>
  have:=jkM (List.mem_of_find?_eq_some h)
  exact ⟨this.1,Int.le_of_lt this.2⟩
theorem ft_i {i:Int}(h:-100000<=i/\i<=100000):Fits 1921 0 (.int i):=Fits.int (Ya9 (show i.natAbs<=100000 by omega) (Yaq (by decide:100000 < 2 ^ 17) (Nat.pow_le_pow_right (by decide) (by decide))))
theorem jew {G:Gp}:∀ l:List Int,DUs G (l.map .int) (l.map .int)
 | []=>.nil
 | i::l=>.cons (.int i) (jew l)
theorem Fw.le {nm:List Str}{tl:List Nat}{r w:Nat}{ws:List Str}(h:Fw nm tl r ws (some w)):w<=ws.length:=by
 rcases h.2 with ⟨z,_⟩ | ⟨z,_⟩ <;> omega
theorem jkt {nm:List Str}{n:Nat}{ls:List Str}(h8:nm.length<=8)(hl:ls.length<=20000)(hb:∀ x∈ls,x.length<=9000) :
  ∃ z:Str,∀ (G:Gp) (Q:U->U->Gp->Prop),(∀ u G',Sa G G'->Q u (.str z) G')->An nm n ls G (fun u G'=>jf6 [u] G' (Q u)):=by
 have rl:(jam ls).length=ls.length:=Yac _
 by_cases hF:∃ a b,OutF nm n (jam ls) a b
 ·obtain ⟨a,b,hF⟩:=hF
  have ab:a<=20000/\b<=9001:=by
   rcases hF.2 with ⟨l,⟨_,z⟩ | ⟨_,z⟩⟩ | ⟨l,z,_⟩
   ·rw [rl] at l; omega
   ·rw [rl] at l
    have:=z.le
    rw [jf4 l] at this
    have h1:=jaP ls[a]
    have h2:=hb _ (Ycz l)
    omega
   ·rw [rl] at l; omega
  have f:Fits 16000000 60 (.list ([(a:Int),(b:Int)].map YdR)):=by
   refine (Fits.lstLe (n:=1921) (k:=0) (m:=8) (N:=16000) (by simp) (fun d hd=>?_) (by decide)).mono (by decide) (by decide)
   obtain ⟨z,hz,rfl⟩:=List.mem_map.mp hd
   simp only [YaI,Yaw,or_false] at hz
   rcases hz with rfl | rfl <;> exact ft_i (by omega)
  refine ⟨(PyData.list ([(a:Int),(b:Int)].map YdR)).shown,fun G Q q=>⟨fun hR=>(hR.not hF).elim,fun a' b' hF' p G' s g=>?_⟩⟩
  obtain ⟨rfl,rfl⟩:=hF.uniq hF'
  exact ⟨.list ([(a:Int),(b:Int)].map YdR),.lst (by unfold lsG; rw [g]; rfl) (jew [(a:Int),(b:Int)]),f,q _ _ s⟩
 ·have f:Fits 16000000 60 (.tuple ((bsZ nm (jam ls)).map YdR)):=by
   refine (Fits.tupLe (n:=1921) (k:=0) (m:=8) (N:=16000) (by unfold bsZ; simpa using h8) (fun d hd=>?_) (by decide)).mono (by decide) (by decide)
   obtain ⟨z,hz,rfl⟩:=List.mem_map.mp hd
   unfold bsZ at hz
   obtain ⟨j,_,rfl⟩:=List.mem_map.mp hz
   have:=jmW (nm:=nm) (rows:=jam ls) (m:=(jam ls).length) (j:=j)
   rw [rl] at this ⊢
   exact ft_i (by omega)
  exact ⟨_,fun G Q q=>⟨fun hR G' s=>⟨.tuple ((bsZ nm (jam ls)).map YdR),.tup (jew _),f,q _ _ s⟩,fun a b h=>(hF ⟨a,b,h⟩).elim⟩⟩
theorem jfr {G:Gp}{l:List Str}(h:∀ x∈l,∀ c∈x.cps.toList,c < 128):Small (.list (l.map .str))/\DUs G (l.map .str) (l.map Yfp):=by
 have hs:∀ u∈l.map U.str,Sml 0 u:=fun u hu=>by
  obtain ⟨x,hx,rfl⟩:=List.mem_map.mp hu
  exact Sml.str (h x hx)
 obtain ⟨h1,h2,h3⟩:=smls hs
 have e:pds (l.map U.str)=l.map Yfp:=by rw [jiu,YcP]; rfl
 rw [e] at h2 h3
 refine ⟨⟨h2,?_⟩,by have:=jfe (G:=G) h1; rw [e] at this; exact this⟩
 show Yce (l.map Yfp) + 1<=100
 omega
theorem jjP {G:Gp}{a b:Addr}{l:List Str}{φ:Bool->Prop}(ga:G a=some (.lst (l.map .str)))(gb:G b=some (.lst (l.map .str)))(h:∀ x∈l,∀ c∈x.cps.toList,c < 128)(q:φ false):cmpU .NotEq (.loc a) (.loc b) G φ:=by
 obtain ⟨s1,d1⟩:=jfr (G:=G) h
 refine ⟨.list (l.map .str),.list (l.map .str),.lst (by unfold lsG; rw [ga]) d1,.lst (by unfold lsG; rw [gb]) d1,s1,s1,?_⟩
 rw [PySem.SeqAt.eqv_refl _ s1.1]
 exact q
structure Bt (W n:Nat)(bs:List Int):Prop where
 l:bs.length=W
 b:∀ b∈bs,0<=b/\b < n
theorem jiS {α β:Type}:∀ {xs:List α} {bs:List β},bs.length=xs.length->(xs.zip bs).map (·.1)=xs/\(xs.zip bs).map (·.2)=bs
 | [],[],_=>⟨rfl,rfl⟩
 | [],_::_,h=>by simp at h
 | _::_,[],h=>by simp at h
 | x::xs,b::bs,h=>by
  obtain ⟨h1,h2⟩:=jiS (xs:=xs) (bs:=bs) (by simpa using h)
  exact ⟨by simp [h1],by simp [h2]⟩
theorem jmV {xs:List Str}{bs:List Int}{n:Nat}(x0:0 < xs.length)(x8:xs.length<=8)(hx:Nms xs)(h:Bt xs.length n bs):Zs (xs.zip bs) n:=by
 obtain ⟨e1,e2⟩:=jiS h.l
 have hl:(xs.zip bs).length=xs.length:=by rw [List.length_zip,h.l]; simp
 exact ⟨by omega,by omega,fun p hp=>hx.ok _ (by rw [<- e1]; exact YdA hp),by rw [e1]; exact hx.nd,fun p hp=>h.b _ (by rw [<- e2]; exact YdA hp)⟩
theorem jhI {xs:List Str}{bs:List Int}{ss:List Spn}(h:bs.length=xs.length):jc8 (xs.zip bs) ss=.tup [.tup (xs.map .str),.tup (ss.map Spn.u)]/\btU (xs.zip bs)=jgq bs:=by
 obtain ⟨e1,e2⟩:=jiS h
 unfold jc8 btU
 rw [e1,e2]
 exact ⟨rfl,rfl⟩
theorem jkm {x:Str}(h:Nm x):x ≠ "-" := fun z=>by
 have:=h.lw 45 (by rw [z]; decide +kernel)
 omega
theorem Nms.wn {xs:List Str}(h:Nms xs):Wn xs:=fun x hx=>⟨(h.ok x hx).l8,(h.ok x hx).ch⟩

set_option maxHeartbeats 2000000
structure Sb (f:Addr)(G:Gp)(as:List Addr):Prop where
 b:∀ a∈as,∃ ls,Bd 3220 16213 ls/\G a=some (.lst (ls.map .str))
theorem jjY {G:Gp}{ps a:Addr}{l:List Addr}{ys:List Str}(g:G ps=some (.lst (l.map .loc)))(h0:l≠[])(ga:G a=some (.lst (ys.map .str))):a≠ps:=fun z=>by
 rw [z,g] at ga
 have e:l.map U.loc=ys.map .str:=by injection ga with e; injection e
 cases l with
 | nil=>exact h0 rfl
 | cons x r=>
  cases ys with
  | nil=>cases e
  | cons y t=>rw [Yas,Yas] at e; injection e with e _; cases e
noncomputable def bL:Nat->Nat
 | 0=>340
 | m + 1=>3 * bL m + 40
noncomputable def bM:Nat->Nat
 | 0=>1801
 | m + 1=>3 * bM m + 1
theorem b_le {m:Nat}(h:m<=2):bL m<=3220/\bM m<=16213/\340<=bL m/\(m<=1->bL m<=3000/\bM m<=6000):=by
 rcases (show m=0\/m=1\/m=2 by omega) with rfl | rfl | rfl <;> decide
theorem law_ir (a:Addr)(ns:List Int)(hl:ns.length<=63):jad T 300 jjR [.loc a] (G0 a ns) (fun u _=>u=.bl true) fun _ _=>False:=by
 refine ⟨rfl,?_⟩
 simp! only [jml,jaj,Yai]
 refine jjL (by unfold G0; rw [if_pos rfl]) hl fun f c G1 f1=>⟨by decide,by decide,?_⟩
 refine jaw (fun i ς G'=>(∃ o2 o3 o4 o5 o6 o7 o8 o9 o10 o11 o12 o13,ς=[some (.loc a),some (.loc f),o2,o3,o4,o5,o6,o7,o8,o9,o10,o11,o12,o13])/\Fd G' f c) ?_ ?_ ⟨⟨_,_,_,_,_,_,_,_,_,_,_,_,rfl⟩,f1⟩
 ·rintro ς G2 ⟨⟨o2,o3,o4,o5,o6,o7,o8,o9,o10,o11,o12,o13,rfl⟩,f2⟩
  simp! only []
  exact ⟨trivial,trivial⟩
 ·rintro i x ς G2 K hx ⟨⟨o2,o3,o4,o5,o6,o7,o8,o9,o10,o11,o12,o13,rfl⟩,f2⟩ hk
  obtain ⟨hi,rfl⟩:=jaN hx
  refine ⟨trivial,?_⟩
  simp! only []
  refine ⟨by decide,fun p3 G3 n3=>?_⟩
  refine jaL [597,120] n3.at (by split <;> decide) (by split <;> decide) fun z hz=>?_
  have hz':z=597\/z=120:=by simpa using hz
  have f3:=f2.new n3
  refine jhT f3 fun P G4 p1 p6 f4 s4=>?_
  simp! only []
  obtain ⟨n,en,n1,n6⟩:∃ n:Nat,(if P < z then P else z)=(n:Int)/\1<=n/\n<=600:=by
   refine ⟨(if P < z then P else z).toNat,?_,?_,?_⟩ <;> split <;> omega
  rw [en]
  refine jjK f4 (by omega) (by omega) fun xs ss G5 x0 x8 hxs sl so f5 s5=>?_
  have e1:atI [U.tup (xs.map U.str),U.tup (ss.map Spn.u)] 0=some (U.tup (xs.map U.str)):=jid _ _
  simp! only [ix_t e1]
  rw [Yac]
  refine jdI f5 (by omega) (by omega) x8 fun bs G6 bl bb f6 s6=>?_
  have hB:Bt xs.length n bs:=⟨bl,bb⟩
  have hZ:=jmV x0 x8 hxs hB
  rw [<- (jhI (ss:=ss) hB.l).1,<- (jhI (ss:=ss) hB.l).2]
  refine jdH hZ n6 fun pb G7 h7 s7 g7=>?_
  rw [(jhI (ss:=ss) hB.l).1,(jhI (ss:=ss) hB.l).2]
  obtain ⟨ls0,els⟩:∃ ls0,ls0=jhe (xs.zip bs) n:=⟨_,rfl⟩
  rw [<- els] at g7
  have b0:Bd 100 600 ls0:=by
   rw [els]
   unfold jhe
   refine ⟨by simpa using n6,fun y hy=>?_⟩
   obtain ⟨t,ht,rfl⟩:=List.mem_map.mp hy
   have:=List.mem_range.mp ht
   exact jj0 (t:=(t:Int)) hZ (by omega) (by omega)
  have f7:=f6.sa s7
  refine ⟨by decide,fun pe G8 n8=>⟨by decide,fun ps G9 n9=>⟨by decide,by decide,?_⟩⟩⟩
  have f9:=(f7.new n8).new n9
  have g9b:G9 pb=some (.lst (ls0.map .str)):=n9.sa _ _ (n8.sa _ _ g7)
  have g9s:G9 ps=some (.lst ([pb,pe].map .loc)):=n9.at
  have sb9:Sb f G9 [pb,pe]:=⟨fun a ha=>by
   rcases YaI.mp ha with rfl | ha
   ·exact ⟨ls0,b0.up (by decide) (by decide),g9b⟩
   ·rw [List.mem_singleton.mp ha]
    exact ⟨[],Bd.nil.up (Yaf _) (by decide),n9.sa _ _ n8.at⟩⟩
  refine jaw (fun j ς G'=>(∃ o8 o9 o10 o11 o12 o13,ς=[some (.loc a),some (.loc f),some (.int i),some (.int n),some (.tup [.tup (xs.map .str),.tup (ss.map Spn.u)]),some (jgq bs),some (.loc pb),some (.loc ps),o8,o9,o10,o11,o12,o13])/\Fd G' f c/\G' pb=some (.lst (ls0.map .str))/\∃ as:List Addr,as.length=j + 1/\Sb f G' (pb::as)/\G' ps=some (.lst ((pb::as).map .loc))) ?_ ?_ ⟨⟨_,_,_,_,_,_,rfl⟩,f9,g9b,[pe],rfl,sb9,g9s⟩
  ·rintro ς G10 ⟨⟨o8,o9,o10,o11,o12,o13,rfl⟩,f10,gb10,as,al,sb10,gs10⟩
   refine ⟨trivial,?_⟩
   simp! only []
   refine ⟨by decide,fun p11 G11 n11=>?_⟩
   dsimp only
   rw [jhi]
   refine ⟨_,_,n11.sa _ _ gs10,n11.at,?_,fun pw G12 n12=>?_⟩
   ·have:(rngU 0 (Int.toNat 8)).length=8:=by unfold rngU; simp
    rw [this] at al
    have hz:(100:Nat)<=Yae:=by decide
    simp
    omega
   dsimp only
   rw [it_l n12.at]
   refine jaw (fun m ς G'=>(∃ o8 o9 o10 o11 o12 o13,ς=[some (.loc a),some (.loc f),some (.int i),some (.int n),some (.tup [.tup (xs.map .str),.tup (ss.map Spn.u)]),some (jgq bs),some (.loc pb),some (.loc ps),o8,o9,o10,o11,o12,o13])/\Sa G12 G') ?_ ?_ ⟨⟨_,_,_,_,_,_,rfl⟩,Sa.refl⟩
   ·rintro ς G13 ⟨⟨o8,o9,o10,o11,o12,o13,rfl⟩,s13⟩
    exact ⟨by unfold lsG; rw [s13 _ _ n12.at],hk _ _ ⟨⟨_,_,_,_,_,_,_,_,_,_,_,_,rfl⟩,f10.sa (n11.sa.trans (n12.sa.trans s13))⟩⟩
   ·rintro m x ς G13 K' hx ⟨⟨o8,o9,o10,o11,o12,o13,rfl⟩,s13⟩ hk2
    obtain ⟨p,hp,rfl⟩:∃ p,p∈pb::as/\x=.loc p:=by
     have hm:=Yba hx
     rcases List.mem_append.mp hm with hm | hm
     ·obtain ⟨p,hp,e⟩:=List.mem_map.mp hm
      exact ⟨p,hp,e.symm⟩
     ·exact ⟨pb,Yao ..,List.mem_singleton.mp hm⟩
    obtain ⟨ls,bls,gls⟩:=sb10.b p hp
    have gq:=s13 _ _ (n12.sa _ _ (n11.sa _ _ gls))
    refine ⟨by unfold lsG; rw [s13 _ _ n12.at],?_⟩
    simp! only [it_l gq]
    intro ph G14 n14
    have l2:ls.length<=20000:=Yal bls.n (by decide)
    have l9:∀ y∈ls,y.length<=9000:=fun y hy=>Yal (bls.l y hy).1 (by decide)
    obtain ⟨z0,hz0⟩:=jkt (nm:=xs) (n:=n) x8 l2 l9
    refine jhQ (k:=294) hxs.nd (fun y hy=>jkm (hxs.ok y hy)) x8 n6 l2 l9 n14.at (hz0 G14 _ fun u G15 s15=>?_)
    refine jjM (k:=297) hxs.nd x8 n6 l2 l9 (s15 _ _ (n14.sa _ _ gq)) (hz0 G15 _ fun u' G16 s16=>?_)
    rw [jhX,decide_eq_true rfl,if_neg (by simp)]
    refine jjP (s16 _ _ (s15 _ _ n14.at)) (s16 _ _ (s15 _ _ (n14.sa _ _ gq))) (fun y hy=>(bls.l y hy).2) ?_
    rw [if_neg (by simp)]
    exact hk2 _ _ ⟨⟨_,_,_,_,_,_,rfl⟩,s13.trans (n14.sa.trans (s15.trans s16))⟩
  ·rintro j x ς G10 K' hx ⟨⟨o8,o9,o10,o11,o12,o13,rfl⟩,f10,gb10,as,al,sb10,gs10⟩ hk2
   obtain ⟨hj,rfl⟩:=jaN hx
   refine ⟨trivial,?_⟩
   simp! only [ix_t e1]
   refine jbz f10 hxs.wn x0 x8 (L:=100) (M:=600) (by decide) (by decide) (by decide) b0 gb10 fun p1 ys G11 by1 gy1 f11 s11=>?_
   refine jaf f11 (by omega) (by omega) fun d G12 d0 d1 f12 s12=>?_
   have g12:=s12 _ _ (f11.ne_l gy1) gy1
   refine ⟨by omega,by omega,?_⟩
   refine jaw (fun m ς G'=>(∃ p' o10,ς=[some (.loc a),some (.loc f),some (.int i),some (.int n),some (.tup [.tup (xs.map .str),.tup (ss.map Spn.u)]),some (jgq bs),some (.loc pb),some (.loc ps),some (.int j),some (.loc p'),o10,o11,o12,o13]/\∃ ys,G' p'=some (.lst (ys.map .str))/\Bd (bL m) (bM m) ys)/\Fd G' f c/\Sm f G10 G') ?_ ?_ ⟨⟨_,_,rfl,ys,g12,by1⟩,f12,s11.trans s12⟩
   ·rintro ς G13 ⟨⟨p',o10,rfl,ys,gy,by'⟩,f13,s13⟩
    have el:(rngU 0 d.toNat).length=d.toNat:=by unfold rngU; simp
    rw [el] at by'
    have hb':=b_le (m:=d.toNat) (by omega)
    have gs13:=s13 _ _ (f10.ne_l gs10) gs10
    have hp':=jjY gs13 (by simp) gy
    refine ⟨trivial,?_⟩
    simp! only [jcn gs13]
    rw [jeF gs13]
    refine ⟨?_,fun G14 w14=>?_⟩
    ·have hz:(100:Nat)<=Yae:=by decide
     have:j < 8:=by simpa using hj
     simp
     omega
    ·have keep:∀ q∈pb::as,∃ ls,Bd 3220 16213 ls/\G14 q=some (.lst (ls.map .str)):=fun q hq=>by
      obtain ⟨ls,bls,gls⟩:=sb10.b q hq
      exact ⟨ls,bls,w14.sm _ _ (jjY gs10 (by simp) gls) (s13 _ _ (f10.ne_l gls) gls)⟩
     have psf:=f10.ne_l gs10
     have psc:ps≠c:=fun z=>by
      obtain ⟨ns',_,_,_,_,h2,_⟩:=f10.ex
      rw [<- z,gs10] at h2
      have e:(pb::as).map U.loc=ns'.map .int:=by injection h2 with e; injection e
      cases ns' with
      | nil=>cases e
      | cons y t=>rw [Yas,Yas] at e; injection e with e _; cases e
     refine hk2 _ _ ⟨⟨_,_,_,_,_,_,rfl⟩,f13.off ⟨psf,psc⟩ w14,w14.sm _ _ (jjY gs10 (by simp) gb10) (s13 _ _ (f10.ne_l gb10) gb10),as++[p'],by simp [al],⟨fun q hq=>?_⟩,?_⟩
     ·rw [<- Yed] at hq
      rcases List.mem_append.mp hq with hq | hq
      ·exact keep q hq
      ·rw [List.mem_singleton.mp hq]
       exact ⟨ys,by'.up hb'.1 hb'.2.1,w14.sm _ _ hp' gy⟩
     ·rw [w14.at]
      simp
   ·rintro m x ς G13 K3 hx ⟨⟨p',o10,rfl,ys,gy,by'⟩,f13,s13⟩ hk3
    obtain ⟨hm,rfl⟩:=jaN hx
    have hb':=b_le (m:=m) (by omega)
    have hb2:=hb'.2.2.2 (by omega)
    refine ⟨trivial,?_⟩
    simp! only [ix_t e1]
    refine jbz f13 hxs.wn x0 x8 (L:=bL m) (M:=bM m) (by omega) hb2.1 hb2.2 by' gy fun p2 ys2 G14 by2 gy2 f14 s14=>?_
    exact hk3 _ _ ⟨⟨_,_,rfl,ys2,gy2,by2⟩,f14,s13.trans s14⟩

noncomputable def sts:List Stmt:=[s_words_of,s_first_fault,s_line_fault,s_read_board,s_law_feed,s_law_draw,s_law_names,s_law_cycle,s_law_number,s_law_span,s_law_plan,s_law_beats,s_law_word,s_law_line_bent,s_law_board,s_law_told,s_law_line_due,s_law_due,s_law_board_bent,s_law]
theorem prog_rep:jc7 T 0 T.funs sts=true:=by decide +kernel
theorem jdb:NestS T sts jba s_line_fault jbN jbC s_first_fault jaW jaX where
 sc:=jf0 (by decide +kernel)
 body:=rfl
 text:=⟨_,_,_,_,_,_,_,_,rfl,by unfold tabs; exact List.Mem.head _⟩
 wi:=rfl
 wv:=.inr rfl
 fi:=rfl
 fl:=rfl
 gl:=rfl
 dbg:=⟨rfl,rfl,rfl,rfl,rfl⟩
 caps:=fun i j e=>by
  rcases i with _ | i
  ·cases e; exact ⟨by decide,_,rfl,rfl,rfl,rfl⟩
  rcases i with _ | i
  ·cases e; exact ⟨by decide,_,rfl,rfl,rfl,rfl⟩
  rcases i with _ | i
  ·cases e; exact ⟨by decide,_,rfl,rfl,rfl,rfl⟩
  rcases i with _ | i
  ·cases e; exact ⟨by decide,_,rfl,rfl,rfl,rfl⟩
  cases e
 wlt:=by decide
 fge:=by decide
 frees:=by decide +kernel
 cs:=jmn (by decide +kernel)
 args:=⟨rfl,rfl⟩
 ann:=fun _=>rfl
 bind:=fun _ _ _ _ _ _ _=>rfl
 ff:=rfl
 ffs:=rfl
 ffb:=rfl
 ffp:=rfl
 ffl:=rfl
 hdv:=rfl
 dvb:=rfl
 dvN:=rfl
 hdc:=rfl
 dcp:=rfl
 dcN:=by decide
 ok:=by decide +kernel
 un:=rfl
theorem prog_eq:jdz T sts 0 T.funs sts:=⟨rfl,rfl,⟨rfl,_,_,_,_,jdb⟩,rfl,rfl,rfl,rfl,rfl,rfl,rfl,rfl,rfl,rfl,rfl,rfl,rfl,rfl,rfl,rfl,rfl,trivial⟩
theorem tabsU:∀ t∈tabs,∀ t'∈tabs,t.1=t'.1->t=t':=by
 intro t h t' h' e
 simp only [tabs,YaI,Yaw,or_false] at h
 simp only [tabs,YaI,Yaw,or_false] at h'
 rcases h with rfl <;> rcases h' with rfl <;> first | rfl | exact absurd e (by decide)
noncomputable def tbs:List (Str×Addr×Addr):=[("line_fault",142,138)]
theorem walk {l:Yd4}{q:Program}{loose:List Str}{XP:(Str->Option Value)->Heap->Prop}{YP:World->Heap->Prop}{d:DefRec}{K:Params->Yaa}(hn:l.most=some 63)(hdf:d.params.defaults=[])
  (hY:∀ (w:World) (h:Heap),YP w h->(K w.params).In h) (hK:∀ w:World,((K w.params).all fun p=>p.2.cls != .type "list")=true) (hsy:∀ w:World,∃ o,(K w.params).lookup Ya0=some o/\o.cls=.type "dict")
  (hT:∀ (w:World),∀ t∈tbs,(∃ dr,(PyProof.Rows.recsOf q).find? (fun e=>e.name == t.1)=some dr)/\PySem.W.tabIn (K w.params) t.1=some (t.2.1,t.2.2)/\(K w.params).lookup t.2.2=none)
  (F:∀ (w:World) (mg:Str->Option Value) (fa:Addr) (h:Heap),(K w.params).In h->h.Ns YaB mg->mg d.name=some (.ref fa)->
   ∃ fd:Ybh,(∀ (s:Shared) (u:Value),BindsTo s fd ⟨[u],[]⟩ [("_law_script",u)])/\∀ base:Heap,(K w.params).In base->base.Ns YaB mg->BmAt mg base->FnOk l.prog w (K w.params) mg base (CX1 l.prog w) 302 fa fd ["_law_script"] (lSp (K w.params) (jad T 300 jjR))) :
  Yf5 q loose XP YP l.row.toRowW d [] (fun f vs=>YfF f vs):=
 L2.walk_ofT (n:=63) (k:=302) (x := "_law_script") (CX:=fun w=>CX1 l.prog w) (sp:=fun w=>lSp (K w.params) (jad T 300 jjR)) hK hT hn (by decide) hdf ⟨rfl,by decide,by decide,rfl⟩ hY hsy F (fun w _ _ a ns hl hO hS=>law_sp (by decide) hO hS (law_ir a ns hl)) fun _ _ _ _ _ ⟨_,_,_,_,_,_,_,_,_,_,z⟩=>z
end Z
namespace Y
open PySem L2
set_option maxHeartbeats 0
noncomputable def q0:Str := "/claim/cut.py"
noncomputable def q1:Str := "<module>"
noncomputable def q2:Str := "__main__"
noncomputable def q3:Str := "TooMany"
noncomputable def q4:Str := "__init__"
noncomputable def q5:Str := "NoRing.__init__"
noncomputable def q6:Str := "beatplans.errors"
noncomputable def q7:Str := "NoRing"
noncomputable def q8:Str := "NoPaper.__init__"
noncomputable def q9:Str := "__module__"
noncomputable def q10:Str := "__firstlineno__"
noncomputable def q11:Str := "__static_attributes__"
noncomputable def q12:Str := "__weakref__"
noncomputable def q13:Str := "__doc__"
noncomputable def q14:Str := "self"
noncomputable def q15:Str := "word"
noncomputable def q16:Str := "TooMany.__init__"
noncomputable def q17:Str := "__name__"
noncomputable def q18:Str := "__package__"
noncomputable def q19:Str := "__loader__"
noncomputable def q20:Str := "__spec__"
noncomputable def q21:Str := "__annotations__"
noncomputable def q22:Str := "__builtins__"
noncomputable def q23:Str := "__file__"
noncomputable def q24:Str := "__cached__"
noncomputable def q25:Str := "PlanError"
noncomputable def q26:Str := "NoPaper"
noncomputable def q27:Str := "__qualname__"
noncomputable def q28:Str := "at"
noncomputable def q29:Str := "words_of"
noncomputable def q30:Str := "_law_feed_here"
noncomputable def q31:Str := "_law_cycle_here"
noncomputable def q32:Str := "_law_works"
noncomputable def q33:Str := "_law_names_here"
noncomputable def q34:Str := "_law_spans"
noncomputable def q35:Str := "_law_k"
noncomputable def q36:Str := "line_fault"
noncomputable def q37:Str := "beatplans.boards"
noncomputable def q38:Str := "_law_word"
noncomputable def q39:Str := "law_beatplans_k77_boards_that_can_not_be_rea"
noncomputable def q40:Str := "first_fault"
noncomputable def q41:Str := "_law_beats"
noncomputable def q42:Str := "_law_names"
noncomputable def q43:Str := "_law_script"
noncomputable def q44:Str := "NoText"
noncomputable def q45:Str := "_law_plan"
noncomputable def q46:Str := "row"
noncomputable def q47:Str := "read_board"
noncomputable def q48:Str := "_law_number"
noncomputable def q49:Str := "NoRow.__init__"
noncomputable def q50:Str := "names"
noncomputable def q51:Str := "told"
noncomputable def q52:Str := "beat"
noncomputable def q53:Str := "words"
noncomputable def q54:Str := "fits"
noncomputable def q55:Str := "_law_some"
noncomputable def q56:Str := "_law_feed"
noncomputable def q57:Str := "_law_board"
noncomputable def q58:Str := "_law_span"
noncomputable def q59:Str := "NoRow"
noncomputable def q60:Str := "NO_NAME"
noncomputable def q61:Str := "-"
noncomputable def q62:Str := "_law_draw"
noncomputable def q63:Str := "_law_cycle"
noncomputable def q64:Str := "_law_line_bent"
noncomputable def q65:Str := "beatplans.lines"
noncomputable def q66:Str := "NoText.__init__"
noncomputable def q67:Str := "_law_way"
noncomputable def q68:Str := "_law_plan_here"
noncomputable def q69:Str := "_law_beats_here"
noncomputable def q70:Str := "_law_lines"
noncomputable def q71:Str := "_law_beat"
noncomputable def q72:Str := "_law_words"
noncomputable def q73:Str := "_law_work"
noncomputable def q74:Str := "line"
noncomputable def q75:Str := "_law_one"
noncomputable def q76:Str := "_law_other"
noncomputable def q77:Str := "_law_low"
noncomputable def q78:Str := "_law_more"
noncomputable def q79:Str := "least"
noncomputable def q80:Str := "_law_line"
noncomputable def q81:Str := "_law_at"
noncomputable def q82:Str := "_law_many"
noncomputable def q83:Str := "_law_cell"
noncomputable def q84:Str := "_law_mixed"
noncomputable def q85:Str := "_law_found"
noncomputable def q86:Str := "_law_due"
noncomputable def q87:Str := "_law_known"
noncomputable def q88:Str := "_law_last"
noncomputable def q89:Str := "_law_board_bent"
noncomputable def q90:Str := "_law_told"
noncomputable def q91:Str := "_law_name"
noncomputable def q92:Str := "_law_line_due"
noncomputable def q93:Str := "law"
noncomputable def q94:Str := "e"
noncomputable def q95:Str := "_law_others"
noncomputable def q96:Str := "_law_turn"
noncomputable def q97:Str := "_law_bent"
noncomputable def q98:Str := "_law_handed"
noncomputable def q99:Str := "_law_told_here"
noncomputable def h0:List Value:=[]
noncomputable def o0:Obj:=sO .none h0
noncomputable def o1:Obj:=kO q0 q1 q1 182 1 0 0 11 false .none .none .none 185
noncomputable def o2:Obj:=rO [(some (.ref 13)),(some (.ref 3)),(some (.ref 3)),none,(some (.str q2 164)),none,(some (.ref 0))]
noncomputable def o3:Obj:=cO q3 [(.ref 24)] [(.ref 63),(.ref 24),(.type "ValueError"),(.type "Exception"),(.type "BaseException"),(.type "object")] 62 [] [(some (.ref 47)),none,(some (.str q3 234)),(some (.str q3 242)),(some (.builtin "ValueError.__new__")),(some (.bool true))]
noncomputable def o4:Obj:=fO q4 q5 (jav (Z.top 4) 0) (.str q6 187) 78
noncomputable def o5:Obj:=tO [(.ref 24)]
noncomputable def o6:Obj:=tO [(.type "ValueError")]
noncomputable def o7:Obj:=kO q0 q7 q7 261 13 0 0 69 false .none .none .none 264
noncomputable def o8:Obj:=gO q4 q8 (jav (Z.top 2) 0)
noncomputable def o9 (P:Params):Obj:=dO (dE P q9 196 (.str q6 187)::dE P q10 200 (.int 2 199)::dE P q11 201 (.ref 22)::dE P q12 203 (.ref 25)::dE P q13 204 .none::[]) 3
noncomputable def o10:Obj:=sO (.type "builtin_function_or_method") [(.builtin "type.__prepare__"),(.type "type")]
noncomputable def o11:Obj:=sO (.type "super") [(.ref 82),(.ref 82),(.ref 82)]
noncomputable def o12:Obj:=sO .none [(.int 11 0),(.int 4 0),(.ref 59)]
noncomputable def o13:Obj:=tO [(.str q14 274),(.str q15 275)]
noncomputable def o14 (P:Params):Obj:=dO (dE P q9 214 (.str q6 187)::dE P q10 218 (.int 4 217)::dE P q4 227 (.ref 41)::dE P q11 230 (.ref 42)::dE P q13 231 .none::[]) 2
noncomputable def o15:Obj:=kO q0 q4 q16 246 11 2 3 54 true (.ref 56) (.ref 57) (.ref 58) 251
noncomputable def o16:Obj:=sO (.type "builtin_function_or_method") [(.builtin "object.__init_subclass__"),(.ref 24)]
noncomputable def g18 (P:Params):List Ycu:=dE P q13 166 .none::dE P q18 167 .none::dE P q19 168 (.builtin "__main__.__loader__#opaque")::dE P q20 169 .none::dE P q21 170 (.ref 6)::dE P q22 171 (.ref 4)::dE P q23 173 (.str q0 172)::dE P q24 174 .none::dE P q25 206 (.ref 24)::dE P q26 233 (.ref 44)::dE P q3 258 (.ref 63)::dE P q7 283 (.ref 82)::[]
noncomputable def o17 (P:Params):Obj:=dO (dE P q17 165 (.str q6 187)::g18 P) 13
noncomputable def o18:Obj:=sO (.type "builtin_function_or_method") [(.builtin "object.__init_subclass__"),(.ref 63)]
noncomputable def o19:Obj:=kO q0 q26 q26 209 4 0 0 31 false .none .none .none 212
noncomputable def o20 (P:Params):Obj:=dO (dE P q9 266 (.str q6 187)::dE P q10 270 (.int 13 269)::dE P q4 278 (.ref 79)::dE P q11 280 (.ref 80)::dE P q13 281 .none::[]) 2
noncomputable def o21 (P:Params):Obj:=dO (dE P q9 241 (.str q6 187)::dE P q27 243 (.str q3 242)::dE P q10 245 (.int 9 244)::dE P q4 253 (.ref 60)::dE P q11 255 (.ref 61)::[]) 5
noncomputable def o22 (P:Params):Obj:=dO (dE P q9 196 (.str q6 187)::dE P q27 198 (.str q25 197)::dE P q10 200 (.int 2 199)::dE P q11 201 (.ref 22)::[]) 4
noncomputable def o23:Obj:=fO q4 q8 (jav (Z.top 2) 0) (.str q6 187) 40
noncomputable def o24:Obj:=sO (.type "getset_descriptor") [(.str q12 202),(.ref 24),(.builtin "ExceptionGroup.__weakref__"),.none]
noncomputable def o25:Obj:=tO [(.str q14 222),(.str q15 223),(.str q28 224)]
noncomputable def o26:Obj:=rO [(some (.ref 52)),(some (.ref 3)),(some (.ref 49)),none,(some (.str q6 187)),none,(some (.ref 0))]
noncomputable def o27:Obj:=rO [(some (.ref 20)),(some (.ref 3)),(some (.ref 17)),none,(some (.str q6 187)),none,(some (.ref 0))]
noncomputable def o28:Obj:=gO q4 q5 (jav (Z.top 4) 0)
noncomputable def o29:Obj:=sO (.type "super") [(.ref 44),(.ref 44),(.ref 44)]
noncomputable def o30:Obj:=tO [(.str q15 254)]
noncomputable def o31:Obj:=sO (.type "super") [(.ref 63),(.ref 63),(.ref 63)]
noncomputable def o32:Obj:=sO .none [(.int 6 0),(.int 4 0),(.ref 40)]
noncomputable def o33:Obj:=tO [(.str q15 279)]
noncomputable def o34:Obj:=rO [(some (.ref 71)),(some (.ref 3)),(some (.ref 68)),none,(some (.str q6 187)),none,(some (.ref 0))]
noncomputable def o35:Obj:=kO q0 q4 q8 219 6 3 3 35 true (.ref 37) (.ref 38) (.ref 39) 225
noncomputable def o36:Obj:=tO [(.str q14 249),(.str q15 250)]
noncomputable def o37:Obj:=cO q25 [(.type "ValueError")] [(.ref 24),(.type "ValueError"),(.type "Exception"),(.type "BaseException"),(.type "object")] 23 [(.ref 44),(.ref 63),(.ref 82)] [(some (.ref 15)),none,(some (.str q25 189)),(some (.str q25 197)),(some (.builtin "ValueError.__new__")),(some (.bool true))]
noncomputable def o38 (P:Params):Obj:=dO (dE P q9 266 (.str q6 187)::dE P q27 268 (.str q7 267)::dE P q10 270 (.int 13 269)::dE P q4 278 (.ref 79)::dE P q11 280 (.ref 80)::[]) 5
noncomputable def o39:Obj:=sO (.type "builtin_function_or_method") [(.builtin "object.__init_subclass__"),(.ref 82)]
noncomputable def o40:Obj:=kO q0 q3 q3 236 9 0 0 50 false .none .none .none 239
noncomputable def o41:Obj:=kO q0 q25 q25 191 2 0 0 18 false .none .none .none 194
noncomputable def o42:Obj:=cO q26 [(.ref 24)] [(.ref 44),(.ref 24),(.type "ValueError"),(.type "Exception"),(.type "BaseException"),(.type "object")] 43 [] [(some (.ref 28)),none,(some (.str q26 207)),(some (.str q26 215)),(some (.builtin "ValueError.__new__")),(some (.bool true))]
noncomputable def o43:Obj:=fO q4 q16 (jav (Z.top 3) 0) (.str q6 187) 59
noncomputable def h46:List Value:=h0++[(.int 2 0),(.int 0 0),(.ref 20),(.int 4 0),(.int 0 0),(.ref 33),(.int 9 0),(.int 0 0),(.ref 52),(.int 13 0),(.int 0 0),(.ref 71)]
noncomputable def o44:Obj:=sO .none h46
noncomputable def o45:Obj:=rO [(some (.ref 33)),(some (.ref 3)),(some (.ref 30)),none,(some (.str q6 187)),none,(some (.ref 0))]
noncomputable def o46:Obj:=cO q7 [(.ref 24)] [(.ref 82),(.ref 24),(.type "ValueError"),(.type "Exception"),(.type "BaseException"),(.type "object")] 81 [] [(some (.ref 66)),none,(some (.str q7 259)),(some (.str q7 267)),(some (.builtin "ValueError.__new__")),(some (.bool true))]
noncomputable def o47:Obj:=tO [(.str q28 228),(.str q15 229)]
noncomputable def o48:Obj:=gO q4 q16 (jav (Z.top 3) 0)
noncomputable def o49:Obj:=sO (.type "super") [(.ref 24),(.ref 24),(.ref 24)]
noncomputable def o50:Obj:=sO .none [(.int 15 0),(.int 4 0),(.ref 78)]
noncomputable def o51:Obj:=kO q0 q4 q5 271 15 2 3 73 true (.ref 75) (.ref 76) (.ref 77) 276
noncomputable def o52:Obj:=sO (.type "builtin_function_or_method") [(.builtin "object.__init_subclass__"),(.ref 44)]
noncomputable def o53 (P:Params):Obj:=dO (dE P q9 241 (.str q6 187)::dE P q10 245 (.int 9 244)::dE P q4 253 (.ref 60)::dE P q11 255 (.ref 61)::dE P q13 256 .none::[]) 2
noncomputable def o54 (P:Params):Obj:=dO (dE P q9 214 (.str q6 187)::dE P q27 216 (.str q26 215)::dE P q10 218 (.int 4 217)::dE P q4 227 (.ref 41)::dE P q11 230 (.ref 42)::[]) 5
noncomputable def o55:Obj:=gO q29 q29 (Z.top 8)
noncomputable def o56:Obj:=tO [(.str q30 437),(.str q31 438),(.str q32 439),(.str q33 440),(.str q34 441),(.str q35 442)]
noncomputable def o57:Obj:=fO q36 q36 (Z.top 12) (.str q37 355) 142
noncomputable def o58:Obj:=fO q38 q38 (Z.top 23) (.str q39 380) 206
noncomputable def o59:Obj:=kO q0 q40 q40 345 29 3 3 130 true (.ref 132) (.ref 133) (.ref 134) 352
noncomputable def o60:Obj:=kO q0 q41 q41 446 114 3 3 196 true .none .none (.ref 198) 449
noncomputable def o61:Obj:=fO q42 q42 (Z.top 17) (.str q39 380) 166
noncomputable def o62:Obj:=sO (.type "builtin_function_or_method") [(.builtin "object.__init_subclass__"),(.ref 101)]
noncomputable def o63:Obj:=tO [(.str q43 385)]
noncomputable def o64 (P:Params):Obj:=dO (dE P q9 291 (.str q6 187)::dE P q27 293 (.str q44 292)::dE P q10 295 (.int 17 294)::dE P q4 304 (.ref 98)::dE P q11 307 (.ref 99)::[]) 5
noncomputable def o65 (P:Params):Obj:=dO (dE P q9 318 (.str q6 187)::dE P q10 322 (.int 22 321)::dE P q4 330 (.ref 117)::dE P q11 332 (.ref 118)::dE P q13 333 .none::[]) 2
noncomputable def o66:Obj:=fO q45 q45 (Z.top 21) (.str q39 380) 194
noncomputable def o67:Obj:=tO [(.str q46 305),(.str q15 306)]
noncomputable def o68:Obj:=kO q0 q47 q47 374 48 3 3 144 true .none .none (.ref 146) 377
noncomputable def o69:Obj:=gO q48 q48 (Z.top 19)
noncomputable def o70:Obj:=gO q4 q49 (jav (Z.top 6) 0)
noncomputable def o71:Obj:=tO [(.str q50 362),(.str q51 363),(.str q52 364),(.str q53 365),(.str q54 366)]
noncomputable def o72:Obj:=tO [(.str q30 455),(.str q33 456),(.str q55 457)]
noncomputable def o73:Obj:=fO q56 q56 (Z.top 15) (.str q39 380) 154
noncomputable def o74:Obj:=gO q57 q57 (Z.top 25)
noncomputable def o75:Obj:=rO [(some (.ref 90)),(some (.ref 3)),(some (.ref 87)),none,(some (.str q6 187)),none,(some (.ref 0))]
noncomputable def o76:Obj:=kO q0 q58 q58 422 98 4 3 182 true (.ref 184) (.ref 185) (.ref 186) 431
noncomputable def g80 (P:Params):List Ycu:=g18 P++[dE P q44 310 (.ref 101),dE P q59 335 (.ref 120),dE P q29 344 (.ref 129),dE P q40 354 (.ref 136),dE P q60 358 (.str q61 357),dE P q36 373 (.ref 143),dE P q47 379 (.ref 148),dE P q56 388 (.ref 155),dE P q62 399 (.ref 162),dE P q42 405 (.ref 167),dE P q63 412 (.ref 174),dE P q48 421 (.ref 181),dE P q58 433 (.ref 188),dE P q45 445 (.ref 195),dE P q41 451 (.ref 200),dE P q38 460 (.ref 207),dE P q64 472 (.ref 214),dE P q57 485 (.ref 221)]
noncomputable def o77 (P:Params):Obj:=dO (dE P q17 165 (.str q39 380)::g80 P) 31
noncomputable def o78:Obj:=fO q29 q29 (Z.top 8) (.str q65 336) 128
noncomputable def o79:Obj:=gO q45 q45 (Z.top 21)
noncomputable def o80:Obj:=kO q0 q62 q62 389 65 2 3 156 true (.ref 158) (.ref 159) (.ref 160) 397
noncomputable def o81:Obj:=kO q0 q4 q66 296 19 3 3 92 true (.ref 94) (.ref 95) (.ref 96) 302
noncomputable def o82:Obj:=tO [(.str q30 416),(.str q31 417),(.str q67 418)]
noncomputable def o83:Obj:=tO [(.str q14 326),(.str q46 327)]
noncomputable def o84:Obj:=gO q56 q56 (Z.top 15)
noncomputable def o85:Obj:=tO [(.str q68 476),(.str q31 477),(.str q69 478),(.str q70 479),(.str q71 480),(.str q72 481),(.str q73 482)]
noncomputable def o86:Obj:=sO .none [(.int 19 0),(.int 4 0),(.ref 97)]
noncomputable def o87:Obj:=sO (.type "super") [(.ref 120),(.ref 120),(.ref 120)]
noncomputable def o88:Obj:=gO q42 q42 (Z.top 17)
noncomputable def o89:Obj:=cO q44 [(.ref 24)] [(.ref 101),(.ref 24),(.type "ValueError"),(.type "Exception"),(.type "BaseException"),(.type "object")] 100 [] [(some (.ref 85)),none,(some (.str q44 284)),(some (.str q44 292)),(some (.builtin "ValueError.__new__")),(some (.bool true))]
noncomputable def o90:Obj:=kO q0 q64 q64 461 120 3 3 208 true (.ref 210) (.ref 211) (.ref 212) 470
noncomputable def o91:Obj:=fO q48 q48 (Z.top 19) (.str q39 380) 180
noncomputable def o92:Obj:=fO q4 q49 (jav (Z.top 6) 0) (.str q6 187) 116
noncomputable def o93:Obj:=gO q36 q36 (Z.top 12)
noncomputable def o94:Obj:=gO q38 q38 (Z.top 23)
noncomputable def o95:Obj:=kO q0 q63 q63 406 89 1 3 168 true (.ref 170) (.ref 171) (.ref 172) 410
noncomputable def o96:Obj:=kO q0 q59 q59 313 22 0 0 107 false .none .none .none 316
noncomputable def o97:Obj:=fO q57 q57 (Z.top 25) (.str q39 380) 220
noncomputable def o98:Obj:=tO [(.str q74 341)]
noncomputable def o99:Obj:=kO q0 q29 q29 338 27 1 3 123 true (.ref 125) (.ref 126) (.ref 127) 342
noncomputable def o100:Obj:=gO q62 q62 (Z.top 16)
noncomputable def o101:Obj:=gO q4 q66 (jav (Z.top 5) 0)
noncomputable def o102:Obj:=fO q40 q40 (Z.top 9) (.str q65 336) 135
noncomputable def o103:Obj:=fO q41 q41 (Z.top 22) (.str q39 380) 199
noncomputable def o104:Obj:=tO [(.str q30 425),(.str q75 426),(.str q76 427),(.str q31 428),(.str q77 429),(.str q78 430)]
noncomputable def o105:Obj:=cO q59 [(.ref 24)] [(.ref 120),(.ref 24),(.type "ValueError"),(.type "Exception"),(.type "BaseException"),(.type "object")] 119 [] [(some (.ref 104)),none,(some (.str q59 311)),(some (.str q59 319)),(some (.builtin "ValueError.__new__")),(some (.bool true))]
noncomputable def o106:Obj:=cO q25 [(.type "ValueError")] [(.ref 24),(.type "ValueError"),(.type "Exception"),(.type "BaseException"),(.type "object")] 23 [(.ref 44),(.ref 63),(.ref 82),(.ref 101),(.ref 120)] [(some (.ref 15)),none,(some (.str q25 189)),(some (.str q25 197)),(some (.builtin "ValueError.__new__")),(some (.bool true))]
noncomputable def o107:Obj:=tO [(.str q53 348),(.str q79 349),(.str q54 350),(.str q28 351)]
noncomputable def o108 (P:Params):Obj:=dO (dE P q9 291 (.str q6 187)::dE P q10 295 (.int 17 294)::dE P q4 304 (.ref 98)::dE P q11 307 (.ref 99)::dE P q13 308 .none::[]) 2
noncomputable def o109:Obj:=fO q47 q47 (Z.top 13) (.str q37 355) 147
noncomputable def o110:Obj:=gO q64 q64 (Z.top 24)
noncomputable def o111:Obj:=kO q0 q48 q48 413 91 2 3 175 true (.ref 177) (.ref 178) (.ref 179) 419
noncomputable def o112:Obj:=kO q0 q4 q49 323 24 2 3 111 true (.ref 113) (.ref 114) (.ref 115) 328
noncomputable def o113:Obj:=tO [(.str q50 367),(.str q51 368),(.str q52 369),(.str q53 370)]
noncomputable def o114:Obj:=gO q63 q63 (Z.top 18)
noncomputable def o115:Obj:=sO .none [(.int 24 0),(.int 4 0),(.ref 116)]
noncomputable def o116:Obj:=kO q0 q57 q57 473 137 3 3 215 true (.ref 217) (.ref 218) (.ref 219) 483
noncomputable def o117:Obj:=fO q58 q58 (Z.top 20) (.str q39 380) 187
noncomputable def h122:List Value:=h46++[(.int 17 0),(.int 0 0),(.ref 90),(.int 22 0),(.int 0 0),(.ref 109),(.int 27 0),(.int 0 0),(.ref 128),(.int 29 0),(.int 0 0),(.ref 135),(.int 36 0),(.int 0 0),(.ref 142),(.int 48 0),(.int 0 0),(.ref 147),(.int 63 0),(.int 0 0),(.ref 154),(.int 65 0),(.int 0 0),(.ref 161),(.int 78 0),(.int 0 0),(.ref 166),(.int 89 0),(.int 0 0),(.ref 173),(.int 91 0),(.int 0 0),(.ref 180),(.int 98 0),(.int 0 0),(.ref 187),(.int 104 0),(.int 0 0),(.ref 194),(.int 114 0),(.int 0 0),(.ref 199),(.int 116 0),(.int 0 0),(.ref 206),(.int 120 0),(.int 0 0),(.ref 213),(.int 137 0),(.int 0 0),(.ref 220)]
noncomputable def o118:Obj:=sO .none h122
noncomputable def o119:Obj:=kO q0 q45 q45 434 104 2 3 189 true (.ref 191) (.ref 192) (.ref 193) 443
noncomputable def o120:Obj:=fO q62 q62 (Z.top 16) (.str q39 380) 161
noncomputable def o121:Obj:=fO q4 q66 (jav (Z.top 5) 0) (.str q6 187) 97
noncomputable def o122:Obj:=gO q47 q47 (Z.top 13)
noncomputable def o123:Obj:=tO [(.str q30 464),(.str q80 465),(.str q33 466),(.str q72 467),(.str q81 468),(.str q67 469)]
noncomputable def o124:Obj:=tO [(.str q30 409)]
noncomputable def o125 (P:Params):Obj:=dO (dE P q9 318 (.str q6 187)::dE P q27 320 (.str q59 319)::dE P q10 322 (.int 22 321)::dE P q4 330 (.ref 117)::dE P q11 332 (.ref 118)::[]) 5
noncomputable def o126:Obj:=kO q0 q56 q56 382 63 1 3 149 true (.ref 151) (.ref 152) (.ref 153) 386
noncomputable def o127:Obj:=kO q0 q44 q44 286 17 0 0 88 false .none .none .none 289
noncomputable def o128:Obj:=gO q58 q58 (Z.top 20)
noncomputable def o129:Obj:=sO (.type "builtin_function_or_method") [(.builtin "object.__init_subclass__"),(.ref 120)]
noncomputable def o130:Obj:=gO q40 q40 (Z.top 9)
noncomputable def o131:Obj:=gO q41 q41 (Z.top 22)
noncomputable def o132:Obj:=kO q0 q42 q42 400 78 2 3 163 true .none .none (.ref 165) 403
noncomputable def o133:Obj:=sO (.type "super") [(.ref 101),(.ref 101),(.ref 101)]
noncomputable def o134:Obj:=fO q64 q64 (Z.top 24) (.str q39 380) 213
noncomputable def o135:Obj:=tO [(.str q46 331)]
noncomputable def o136:Obj:=kO q0 q36 q36 359 36 4 3 137 true (.ref 139) (.ref 140) (.ref 141) 371
noncomputable def o137:Obj:=kO q0 q38 q38 452 116 2 3 201 true (.ref 203) (.ref 204) (.ref 205) 458
noncomputable def o138:Obj:=fO q63 q63 (Z.top 18) (.str q39 380) 173
noncomputable def o139:Obj:=rO [(some (.ref 109)),(some (.ref 3)),(some (.ref 106)),none,(some (.str q6 187)),none,(some (.ref 0))]
noncomputable def o140:Obj:=tO [(.str q30 392),(.str q82 393),(.str q83 394),(.str q84 395),(.str q85 396)]
noncomputable def o141:Obj:=tO [(.str q14 299),(.str q46 300),(.str q15 301)]
noncomputable def o142:Obj:=kO q0 q86 q86 510 169 3 3 236 true .none .none (.ref 238) 513
noncomputable def o143:Obj:=tO [(.str q33 501),(.str q87 502),(.str q72 503),(.str q88 504),(.str q81 505),(.str q73 506)]
noncomputable def o144:Obj:=fO q89 q89 (Z.top 29) (.str q39 380) 246
noncomputable def o145:Obj:=kO q0 q90 q90 486 146 3 3 222 true (.ref 224) (.ref 225) (.ref 226) 495
noncomputable def o146:Obj:=tO [(.str q30 519),(.str q70 520),(.str q33 521),(.str q81 522),(.str q67 523),(.str q91 524),(.str q76 525)]
noncomputable def o147:Obj:=fO q92 q92 (Z.top 27) (.str q39 380) 234
noncomputable def g153 (P:Params):List Ycu:=g80 P++[dE P q90 497 (.ref 228),dE P q92 509 (.ref 235),dE P q86 515 (.ref 240),dE P q89 528 (.ref 247),dE P q93 548 (.ref 254)]
noncomputable def o148 (P:Params):Obj:=dO (dE P q17 165 (.str q39 380)::g153 P) 36
noncomputable def o149:Obj:=gO q92 q92 (Z.top 27)
noncomputable def o150:Obj:=gO q89 q89 (Z.top 29)
noncomputable def o151:Obj:=kO q0 q93 q93 529 206 1 3 248 true (.ref 250) (.ref 251) (.ref 252) 546
noncomputable def o152:Obj:=tO [(.str q68 489),(.str q31 490),(.str q70 491),(.str q85 492),(.str q94 493),(.str q95 494)]
noncomputable def o153:Obj:=fO q86 q86 (Z.top 28) (.str q39 380) 239
noncomputable def o154:Obj:=fO q90 q90 (Z.top 26) (.str q39 380) 227
noncomputable def o155:Obj:=gO q93 q93 (Z.top 30)
noncomputable def h162:List Value:=h122++[(.int 146 0),(.int 0 0),(.ref 227),(.int 156 0),(.int 0 0),(.ref 234),(.int 169 0),(.int 0 0),(.ref 239),(.int 184 0),(.int 0 0),(.ref 246),(.int 206 0),(.int 0 0),(.ref 253)]
noncomputable def o156:Obj:=sO .none h162
noncomputable def o157:Obj:=gO q90 q90 (Z.top 26)
noncomputable def o158:Obj:=kO q0 q92 q92 498 156 3 3 229 true (.ref 231) (.ref 232) (.ref 233) 507
noncomputable def o159:Obj:=tO [(.str q43 532),(.str q30 533),(.str q35 534),(.str q31 535),(.str q68 536),(.str q69 537),(.str q70 538),(.str q55 539),(.str q96 540),(.str q97 541),(.str q78 542),(.str q75 543),(.str q98 544),(.str q99 545)]
noncomputable def o160:Obj:=kO q0 q89 q89 516 184 3 3 241 true (.ref 243) (.ref 244) (.ref 245) 526
noncomputable def o161:Obj:=gO q86 q86 (Z.top 28)
noncomputable def o162:Obj:=fO q93 q93 (Z.top 30) (.str q39 380) 253
noncomputable def Ha (P:Params):Heap:=⟨⟨Yb5 P::YbB P::Yb4 P::Yfo P::Yb3 P::Yb2 P::Yb1 P::Yb0 P::YbZ P::YbY P::YbO P::tE::o0::o1::o2::[]⟩,{}⟩
noncomputable def t0 (P:Params):Ycl:=(bN (Yb5 P) (bN (YbB P) (bN (Yfo P) (bL (Yb0 P)) (bL tE)) (bN (Yb2 P) (bL (YbY P)) (bL o1))) (bN (Yb4 P) (bN (Yb3 P) (bL (YbZ P)) (bL o0)) (bN (Yb1 P) (bL (YbO P)) (bL o2))))
noncomputable def t1 (P:Params):Ycl:=(bN (Yb5 P) (bN (YbB P) (bN (o17 P) (bN (Yb0 P) (bN o6 (bN tE (bL o3) bE) (bN o5 (bL o4) bE)) (bN (o9 P) (bN o8 (bL o7) bE) (bL nO))) (bN tE (bN nO (bN tE (bL o10) bE) (bN o12 (bL o11) bE)) (bN o16 (bN (o14 P) (bL o13) bE) (bL o15)))) (bN (Yb2 P) (bN (YbY P) (bN (o22 P) (bN o19 (bL o18) bE) (bN (o21 P) (bL (o20 P)) bE)) (bN o24 (bN o23 (bL tE) bE) (bL tE))) (bN o1 (bN o27 (bN o25 (bL tE) bE) (bL o26)) (bN o10 (bN o29 (bL o28) bE) (bL o30))))) (bN (Yb4 P) (bN (Yb3 P) (bN (YbZ P) (bN o10 (bN o32 (bL o31) bE) (bN o10 (bL o33) bE)) (bN o37 (bN o35 (bL o34) bE) (bL o36))) (bN o44 (bN o41 (bN nO (bL (o38 P)) bE) (bN o40 (bL o39) bE)) (bN o5 (bN o42 (bL tE) bE) (bL o43)))) (bN (Yb1 P) (bN (YbO P) (bN tE (bN o45 (bL o5) bE) (bN tE (bL o46) bE)) (bN o49 (bN o47 (bL nO) bE) (bL o48))) (bN o2 (bN tE (bN tE (bL o50) bE) (bL tE)) (bN (o54 P) (bN o52 (bL o51) bE) (bL (o53 P)))))))
noncomputable def t2 (P:Params):Ycl:=(bN (Yb5 P) (bN (YbB P) (bN (o77 P) (bN (Yb0 P) (bN o6 (bN tE (bN o3 (bL o55) (bL o56)) (bN tE (bL tE) bE)) (bN o5 (bN o4 (bL o57) (bL o58)) (bN tE (bL tE) bE))) (bN (o9 P) (bN o8 (bN o7 (bL o59) (bL o60)) (bN o62 (bL o61) bE)) (bN nO (bN (o64 P) (bL o63) (bL tE)) (bN (o65 P) (bL nO) bE)))) (bN tE (bN nO (bN tE (bN o10 (bL nO) (bL o66)) (bN o67 (bL tE) bE)) (bN o12 (bN o11 (bL o68) (bL tE)) (bN o70 (bL o69) bE))) (bN o16 (bN (o14 P) (bN o13 (bL o71) (bL o72)) (bN tE (bL tE) bE)) (bN o15 (bN o75 (bL o73) (bL o74)) (bN tE (bL o76) bE))))) (bN (Yb2 P) (bN (YbY P) (bN (o22 P) (bN o19 (bN o18 (bL o78) (bL o79)) (bN o81 (bL o80) bE)) (bN (o21 P) (bN (o20 P) (bL nO) (bL nO)) (bN o83 (bL o82) bE))) (bN o24 (bN o23 (bN tE (bL tE) (bL tE)) (bN o10 (bL nO) bE)) (bN tE (bN o86 (bL o84) (bL o85)) (bN o87 (bL tE) bE)))) (bN o1 (bN o27 (bN o25 (bN tE (bL tE) (bL nO)) (bN o89 (bL o88) bE)) (bN o26 (bN o5 (bL tE) (bL o90)) (bN o92 (bL o91) bE))) (bN o10 (bN o29 (bN o28 (bL o93) (bL o94)) (bN o96 (bL o95) bE)) (bN o30 (bN nO (bL nO) (bL o97)) (bN o98 (bL tE) bE)))))) (bN (Yb4 P) (bN (Yb3 P) (bN (YbZ P) (bN o10 (bN o32 (bN o31 (bL o99) (bL tE)) (bN o101 (bL o100) bE)) (bN o10 (bN o33 (bL tE) (bL tE)) (bN nO (bL nO) bE))) (bN o106 (bN o35 (bN o34 (bL o102) (bL o103)) (bN o5 (bL tE) bE)) (bN o36 (bN tE (bL tE) (bL nO)) (bN o105 (bL o104) bE)))) (bN o118 (bN o41 (bN nO (bN (o38 P) (bL o107) (bL tE)) (bN (o108 P) (bL nO) bE)) (bN o40 (bN o39 (bL o109) (bL o110)) (bN o112 (bL o111) bE))) (bN o5 (bN o42 (bN tE (bL o113) (bL tE)) (bN o115 (bL o114) bE)) (bN o43 (bN tE (bL tE) (bL o116)) (bN nO (bL o117) bE))))) (bN (Yb1 P) (bN (YbO P) (bN tE (bN o45 (bN o5 (bL tE) (bL o119)) (bN o121 (bL o120) bE)) (bN tE (bN o46 (bL o122) (bL o123)) (bN tE (bL tE) bE))) (bN o49 (bN o47 (bN nO (bL nO) (bL nO)) (bN (o125 P) (bL o124) bE)) (bN o48 (bN o127 (bL o126) (bL tE)) (bN o129 (bL o128) bE)))) (bN o2 (bN tE (bN tE (bN o50 (bL o130) (bL o131)) (bN o133 (bL o132) bE)) (bN tE (bN o10 (bL nO) (bL o134)) (bN o135 (bL tE) bE))) (bN (o54 P) (bN o52 (bN o51 (bL o136) (bL o137)) (bN o139 (bL o138) bE)) (bN (o53 P) (bN o141 (bL o140) bE) (bN tE (bL nO) bE)))))))
noncomputable def t3 (P:Params):Ycl:=(bN (Yb5 P) (bN (YbB P) (bN (o148 P) (bN (Yb0 P) (bN o6 (bN tE (bN o3 (bL o55) (bL o56)) (bN tE (bL tE) (bL nO))) (bN o5 (bN o4 (bL o57) (bL o58)) (bN tE (bL tE) (bL o142)))) (bN (o9 P) (bN o8 (bN o7 (bL o59) (bL o60)) (bN o62 (bL o61) (bL o143))) (bN nO (bN (o64 P) (bL o63) (bL tE)) (bN (o65 P) (bL nO) (bL o144))))) (bN tE (bN nO (bN tE (bN o10 (bL nO) (bL o66)) (bN o67 (bL tE) (bL o145))) (bN o12 (bN o11 (bL o68) (bL tE)) (bN o70 (bL o69) (bL o146)))) (bN o16 (bN (o14 P) (bN o13 (bL o71) (bL o72)) (bN tE (bL tE) (bL o147))) (bN o15 (bN o75 (bL o73) (bL o74)) (bN tE (bL o76) (bL tE)))))) (bN (Yb2 P) (bN (YbY P) (bN (o22 P) (bN o19 (bN o18 (bL o78) (bL o79)) (bN o81 (bL o80) (bL tE))) (bN (o21 P) (bN (o20 P) (bL nO) (bL nO)) (bN o83 (bL o82) (bL tE)))) (bN o24 (bN o23 (bN tE (bL tE) (bL tE)) (bN o10 (bL nO) (bL o149))) (bN tE (bN o86 (bL o84) (bL o85)) (bN o87 (bL tE) (bL nO))))) (bN o1 (bN o27 (bN o25 (bN tE (bL tE) (bL nO)) (bN o89 (bL o88) (bL tE))) (bN o26 (bN o5 (bL tE) (bL o90)) (bN o92 (bL o91) (bL o150)))) (bN o10 (bN o29 (bN o28 (bL o93) (bL o94)) (bN o96 (bL o95) (bL nO))) (bN o30 (bN nO (bL nO) (bL o97)) (bN o98 (bL tE) (bL o151))))))) (bN (Yb4 P) (bN (Yb3 P) (bN (YbZ P) (bN o10 (bN o32 (bN o31 (bL o99) (bL tE)) (bN o101 (bL o100) (bL o152))) (bN o10 (bN o33 (bL tE) (bL tE)) (bN nO (bL nO) (bL o153)))) (bN o106 (bN o35 (bN o34 (bL o102) (bL o103)) (bN o5 (bL tE) (bL tE))) (bN o36 (bN tE (bL tE) (bL nO)) (bN o105 (bL o104) (bL tE))))) (bN o156 (bN o41 (bN nO (bN (o38 P) (bL o107) (bL tE)) (bN (o108 P) (bL nO) (bL o154))) (bN o40 (bN o39 (bL o109) (bL o110)) (bN o112 (bL o111) (bL tE)))) (bN o5 (bN o42 (bN tE (bL o113) (bL tE)) (bN o115 (bL o114) (bL tE))) (bN o43 (bN tE (bL tE) (bL o116)) (bN nO (bL o117) (bL o155)))))) (bN (Yb1 P) (bN (YbO P) (bN tE (bN o45 (bN o5 (bL tE) (bL o119)) (bN o121 (bL o120) (bL o157))) (bN tE (bN o46 (bL o122) (bL o123)) (bN tE (bL tE) (bL nO)))) (bN o49 (bN o47 (bN nO (bL nO) (bL nO)) (bN (o125 P) (bL o124) (bL o158))) (bN o48 (bN o127 (bL o126) (bL tE)) (bN o129 (bL o128) (bL o159))))) (bN o2 (bN tE (bN tE (bN o50 (bL o130) (bL o131)) (bN o133 (bL o132) (bL nO))) (bN tE (bN o10 (bL nO) (bL o134)) (bN o135 (bL tE) (bL o160)))) (bN (o54 P) (bN o52 (bN o51 (bL o136) (bL o137)) (bN o139 (bL o138) (bL o161))) (bN (o53 P) (bN o141 (bL o140) (bL tE)) (bN tE (bL nO) (bL o162))))))))
noncomputable def Hz (P:Params):Heap:=⟨⟨Yb5 P::YbB P::Yb4 P::o148 P::Yb3 P::Yb2 P::Yb1 P::Yb0 P::YbZ P::YbY P::YbO P::tE::o156::o1::o2::o6::o10::o22 P::tE::nO::o41::o27::tE::o9 P::o106::o24::o49::o16::o5::o10::o54 P::tE::o32::o19::o45::tE::nO::o25::tE::o8::o35::o23::o47::o14 P::o42::o29::o52::o5::o10::o21 P::tE::o12::o40::o26::tE::nO::o36::tE::o48::o15::o43::o30::o53 P::o3::o31::o18::o5::o10::o38 P::tE::o50::o7::o34::tE::nO::o13::tE::o28::o51::o4::o33::o20 P::o46::o11::o39::o5::o10::o64 P::tE::o86::o127::o75::tE::nO::o141::tE::o101::o81::o121::o67::o108 P::o89::o133::o62::o5::o10::o125 P::tE::o115::o96::o139::tE::nO::o83::tE::o70::o112::o92::o135::o65 P::o105::o87::o129::tE::nO::o98::tE::o55::o99::o78::tE::nO::o107::tE::o130::o59::o102::tE::nO::o71::o113::o93::o136::o57::tE::nO::o122::o68::o109::tE::nO::o63::tE::o84::o126::o73::tE::nO::o140::tE::o100::o80::o120::tE::nO::o88::o132::o61::tE::nO::o124::tE::o114::o95::o138::tE::nO::o82::tE::o69::o111::o91::tE::nO::o104::tE::o128::o76::o117::tE::nO::o56::tE::o79::o119::o66::tE::nO::o131::o60::o103::tE::nO::o72::tE::o94::o137::o58::tE::nO::o123::tE::o110::o90::o134::tE::nO::o85::tE::o74::o116::o97::tE::nO::o152::tE::o157::o145::o154::tE::nO::o143::tE::o149::o158::o147::tE::nO::o161::o142::o153::tE::nO::o146::tE::o150::o160::o144::tE::nO::o159::tE::o155::o151::o162::[]⟩,{}⟩
noncomputable def st1:List Stmt:=[Z.top 0,Z.top 1,Z.top 2,Z.top 3,Z.top 4]
noncomputable def st2:List Stmt:=[Z.top 5,Z.top 6,Z.top 7,Z.top 8,Z.top 9,Z.top 10,Z.top 11,Z.top 12,Z.top 13,Z.top 14,Z.top 15,Z.top 16,Z.top 17,Z.top 18,Z.top 19,Z.top 20,Z.top 21,Z.top 22,Z.top 23,Z.top 24,Z.top 25]
noncomputable def st3:List Stmt:=[Z.top 26,Z.top 27,Z.top 28,Z.top 29,Z.top 30]
noncomputable def bd:List Stmt:=st1++(st2++(st3++[]))
noncomputable abbrev pw:Program:=PySem.Challenge.pw_beatplans_k77_boards_that_can_not_be_rea
noncomputable def qw:Program:={ pw with main:={ pw.main with body:=[Z.top 1,Z.top 2,Z.top 3,Z.top 4,Z.top 5,Z.top 6,Z.top 8,Z.top 9,Z.top 11,Z.top 12,Z.top 13,Z.top 15,Z.top 16,Z.top 17,Z.top 18,Z.top 19,Z.top 20,Z.top 21,Z.top 22,Z.top 23,Z.top 24,Z.top 25,Z.top 26,Z.top 27,Z.top 28,Z.top 29,Z.top 30] } }
noncomputable def en:Env:={ scope:=pw.main.scope,locals:=mainNs,globals:=mainNs,cells:=[],code:=.ref 13,frame:=some 14 }
noncomputable def cE:Code:=.body bd en
noncomputable abbrev pz:Pos:=⟨0,0,0,0⟩
noncomputable abbrev fz:List Frame:=[PySem.W.topFrame pz]
noncomputable abbrev s0 (w:World)(os:OsState):Shared:=⟨YbP w.params,⟨[]⟩,PySem.W.boot_drawn,PySem.W.boot_toks,os⟩
noncomputable abbrev sz (w:World)(os:OsState):Shared:=⟨Hz w.params,⟨[]⟩,{},549,os⟩
noncomputable def sT (t:Params->Ycl)(n k:Nat)(w:World)(os:OsState):PySem.W.SharedT:=⟨t w.params,n,{},⟨[]⟩,{},k,os⟩
section
variable (w:World)(os:OsState)
theorem jnA:PySem.W.topGo Ydh pw w 11 (some (.ref 6)) 12 (s0 w os) (YfG pw)=some (⟨Ha w.params,⟨[]⟩,{},187,os⟩,⟨denote Ydh cE,cE,pz,fz⟩):=by
 rw [PySem.W.Fast.te15667345088766844465,YaN,PySem.W.Fast.te11892475500146522536]; kernel_rfl
theorem jnC:PySem.W.segRun Ydh pw w 11 (some (.ref 6)) 1 1 ⟨Ha w.params,⟨[]⟩,{},187,os⟩ (PySem.W.blockOf bd en cE pz fz)=some (.next,(sT t0 15 187 w os).abs,cE,pz):=by
 rw [PySem.W.Fast.te14374325043358763698,YaN]; kernel_rfl
theorem r1:Yd3 Ydh pw w 11 (some (.ref 6)) 1 933 (sT t0 15 187 w os) (YdW st1 en cE pz fz)=some (.next,sT t1 85 284 w os,cE,⟨13,0,16,24⟩):=by
 rw [YbR,YaN]; kernel_rfl
theorem r2:Yd3 Ydh pw w 11 (some (.ref 6)) 1 995 (sT t1 85 284 w os) (YdW st2 en cE ⟨13,0,16,24⟩ fz)=some (.next,sT t2 222 486 w os,cE,⟨137,0,145,21⟩):=by
 rw [YbR,YaN]; kernel_rfl
theorem r3:Yd3 Ydh pw w 11 (some (.ref 6)) 1 172 (sT t2 222 486 w os) (YdW st3 en cE ⟨137,0,145,21⟩ fz)=some (.next,sT t3 255 549 w os,cE,⟨206,0,224,15⟩):=by
 rw [YbR,YaN]; kernel_rfl
theorem jnB:YfQ Ydh pw w 11 (some (.ref 6)) 2 (sT t3 255 549 w os).abs ⟨PySem.W.doneF .next,cE,⟨206,0,224,15⟩,fz⟩=some (sz w os):=by
 rw [PySem.W.Fast.te14082659384304107361,YaN]; kernel_rfl
theorem jnz:YfQ Ydh pw w 11 (some (.ref 6)) (12 + (1 + (933 + (995 + (172 + (2)))))) (s0 w os) (YfG pw)=some (sz w os):=
 PySem.W.go_top (jnA w os) (PySem.W.piece_block (jnC w os) (YdH (YdG (r1 w os)) (YdH (YdG (r2 w os)) (YdH (YdG (r3 w os)) (jnB w os)))))
end
noncomputable def KK:Params->Yaa:=fun P=>((1:Addr),YbB P)::((3:Addr),o148 P)::((23:Addr),o9 P)::((24:Addr),o106)::((40:Addr),o35)::((41:Addr),o23)::((43:Addr),o14 P)::((44:Addr),o42)::((59:Addr),o15)::((60:Addr),o43)::((62:Addr),o53 P)::((63:Addr),o3)::((78:Addr),o51)::((79:Addr),o4)::((81:Addr),o20 P)::((82:Addr),o46)::((97:Addr),o81)::((98:Addr),o121)::((100:Addr),o108 P)::((101:Addr),o89)::((116:Addr),o112)::((117:Addr),o92)::((119:Addr),o65 P)::((120:Addr),o105)::((128:Addr),o99)::((129:Addr),o78)::((135:Addr),o59)::((136:Addr),o102)::((142:Addr),o136)::((143:Addr),o57)::((147:Addr),o68)::((148:Addr),o109)::((154:Addr),o126)::((155:Addr),o73)::((161:Addr),o80)::((162:Addr),o120)::((166:Addr),o132)::((167:Addr),o61)::((173:Addr),o95)::((174:Addr),o138)::((180:Addr),o111)::((181:Addr),o91)::((187:Addr),o76)::((188:Addr),o117)::((194:Addr),o119)::((195:Addr),o66)::((199:Addr),o60)::((200:Addr),o103)::((206:Addr),o137)::((207:Addr),o58)::((213:Addr),o90)::((214:Addr),o134)::((220:Addr),o116)::((221:Addr),o97)::((227:Addr),o145)::((228:Addr),o154)::((234:Addr),o158)::((235:Addr),o147)::((239:Addr),o142)::((240:Addr),o153)::((246:Addr),o160)::((247:Addr),o144)::((253:Addr),o151)::((254:Addr),o162)::[]
noncomputable def KA:List Addr:=1::3::23::24::40::41::43::44::59::60::62::63::78::79::81::82::97::98::100::101::116::117::119::120::128::129::135::136::142::143::147::148::154::155::161::162::166::167::173::174::180::181::187::188::194::195::199::200::206::207::213::214::220::221::227::228::234::235::239::240::246::247::253::254::[]
noncomputable def fl:Z.FL:=(129,128,(.str q65 336))::(136,135,(.str q65 336))::(143,142,(.str q37 355))::(148,147,(.str q37 355))::(155,154,(.str q39 380))::(162,161,(.str q39 380))::(167,166,(.str q39 380))::(174,173,(.str q39 380))::(181,180,(.str q39 380))::(188,187,(.str q39 380))::(195,194,(.str q39 380))::(200,199,(.str q39 380))::(207,206,(.str q39 380))::(214,213,(.str q39 380))::(221,220,(.str q39 380))::(228,227,(.str q39 380))::(235,234,(.str q39 380))::(240,239,(.str q39 380))::(247,246,(.str q39 380))::(254,253,(.str q39 380))::[]
theorem k_dyn (P:Params):Z.dynB Z.T (KK P) 0 fl Z.T.funs Z.sts=true:=by kernel_rfl
theorem k_lk (P:Params):fl.map (fun x=>(KK P).lookup x.1)=Z.lkR fl Z.T.funs Z.sts:=by kernel_rfl
theorem k_blt (P:Params):Z.bltB (KK P)=true:=by kernel_rfl
theorem k_gs (P:Params):Z.gsB (KK P) Z.T.gn Z.T.gs=true:=by kernel_rfl
theorem k_xb (P:Params):∃ mD,L2.XBase (KK P) (Z.gK (KK P)) 24 mD:=Z.xb_mk 24 23 15 189 197 [(.ref 44),(.ref 63),(.ref 82),(.ref 101),(.ref 120)] (by kernel_rfl) (by kernel_rfl)
theorem k_cs (P:Params):Z.CsA (KK P) Z.T.cs:=⟨Z.xc_mk (k_xb P) "NoPaper" "NoPaper.__init__" ["word", "at"] (jav (Z.top 2) 0) 44 43 28 207 215 41 40 (.str q6 187) (by kernel_rfl) (by kernel_rfl) (by kernel_rfl) (.inr ⟨_,_,_,_,_,_,_,_,_,_,rfl,by decide,rfl⟩),
 Z.xc_mk (k_xb P) "TooMany" "TooMany.__init__" ["word"] (jav (Z.top 3) 0) 63 62 47 234 242 60 59 (.str q6 187) (by kernel_rfl) (by kernel_rfl) (by kernel_rfl) (.inl ⟨_,_,_,_,_,rfl,rfl⟩),
 Z.xc_mk (k_xb P) "NoRing" "NoRing.__init__" ["word"] (jav (Z.top 4) 0) 82 81 66 259 267 79 78 (.str q6 187) (by kernel_rfl) (by kernel_rfl) (by kernel_rfl) (.inl ⟨_,_,_,_,_,rfl,rfl⟩),
 Z.xc_mk (k_xb P) "NoText" "NoText.__init__" ["row", "word"] (jav (Z.top 5) 0) 101 100 85 284 292 98 97 (.str q6 187) (by kernel_rfl) (by kernel_rfl) (by kernel_rfl) (.inr ⟨_,_,_,_,_,_,_,_,_,_,rfl,by decide,rfl⟩),
 Z.xc_mk (k_xb P) "NoRow" "NoRow.__init__" ["row"] (jav (Z.top 6) 0) 120 119 104 311 319 117 116 (.str q6 187) (by kernel_rfl) (by kernel_rfl) (by kernel_rfl) (.inl ⟨_,_,_,_,_,rfl,rfl⟩),trivial⟩
noncomputable abbrev rr:PySem.W.OpenRow:=PySem.Challenge.rw_beatplans_k77_boards_that_can_not_be_rea.row
noncomputable def Xt:Shared->Bool:=fun s=>PySem.W.xlAt qw [] s && PySem.W.recOk (PySem.W.RowW.records rr.toRowW) s
noncomputable abbrev hk:PySem.W.Hook:=PySem.W.kHook KK KA (fun _=>by kernel_rfl)
theorem jlW (w:World):((YbP w.params).isNs YaB && (⟨[]⟩:Array Yen).size == 0,(YbP w.params).objs.size,(YbP w.params).nsMap YaB "__annotations__")=(true,11,some (Ybe 6)):=by
 rw [PySem.W.Fast.te8920871248978507458]; kernel_rfl
theorem k_l1 (w:World)(os:OsState):(PySem.W.staticsOk (importedModules pw.main.body) (YbP w.params) (Hz w.params) && PySem.W.namesBound pw (Hz w.params) && PySem.W.gensDone (sz w os) && PySem.W.laidKept (YbP w.params) (Hz w.params))=true:=by
 rw [Ydb]; kernel_rfl
theorem k_l2 (w:World)(os:OsState):PySem.W.openSeen qw [] (importedModules pw.main.body) Xt true (sz w os)=PySem.W.openGood qw []:=by
 rw [PySem.W.Fast.te4187177175401517315,Ydb]; kernel_rfl
theorem k_l3 (w:World)(os:OsState):Ydq hk (sz w os)=Ydp hk w:=by kernel_rfl
theorem k_hl:PySem.W.LeftO pw qw [] Xt (Ydq hk) (Ydp hk) 4320:=PySem.W.LeftO.of_pieces (PySem.W.boot_open (by kernel_rfl) (by decide) fun _=>by kernel_rfl) jlW jnz (by decide) fun w=>funext fun os=>Prod.ext (k_l1 w os) (Prod.ext (k_l2 w os) (k_l3 w os))
end Y
set_option maxRecDepth 100000 in
set_option maxHeartbeats 0 in
theorem Z.wellS:PySem.Challenge.rw_beatplans_k77_boards_that_can_not_be_rea.wellSaid=true:=by decide +kernel
open PySem PySem.W PyProof.Rows
set_option maxRecDepth 100000 in
set_option maxHeartbeats 0 in
theorem PySem.Challenge.cw_beatplans_k77_boards_that_can_not_be_rea_holds : PySem.Challenge.rw_beatplans_k77_boards_that_can_not_be_rea.Holds := by
 refine PySem.W.holds_law Z.wellS fun said=>?_
 refine PySem.W.holds_open (q:=Y.qw) (loose:=[]) (Xt:=Y.Xt) (XP:=PySem.W.XL Y.qw []) (Yf:=Ydq Y.hk) (Ya:=Ydp Y.hk) (YP:=PySem.W.Hook.says Y.hk) (N:=4320) Y.k_hl (PySem.W.Hook.of Y.hk) (PySem.W.Hook.keeps Y.hk) (fun s e=>PySem.W.xl_of s (Bool.and_eq_true_iff.mp e).1) PySem.W.XL.keeps (by rfl) (by rfl) (by rfl) (fun s e=>PySem.W.recFacts_of (Bool.and_eq_true_iff.mp e).2) (by rfl) said (by decide +kernel) ⟨rfl,rfl,rfl,rfl,rfl,by decide +kernel⟩ ?hw ?hc
 case hw=>w_witness2
 refine Z.walk (l:=PySem.Challenge.rw_beatplans_k77_boards_that_can_not_be_rea) rfl rfl (fun w h Y=>PySem.W.kIn_of Y) ?K ?S ?B ?F
 case K=>intro w; rfl
 case S=>intro w; exact ⟨_,rfl,rfl⟩
 case B=>
  intro w t ht
  simp only [Z.tbs,YaI,Yaw,or_false] at ht
  rcases ht with rfl
  ·exact ⟨⟨_,rfl⟩,by kernel_rfl,by kernel_rfl⟩
 case F=>exact fun w mg fa h X G hm=>Z.all2 X G hm Z.prog_rep Z.prog_eq Z.tabsU (Y.k_dyn _) (Y.k_lk _) (Y.k_blt _) (Y.k_gs _) (Y.k_cs _) rfl rfl rfl rfl rfl
