import PyProof.Rows.All
import Wide.All
import OpenK.AllK
import Wide.FinOn
import Lean
import PyProof.EqAt
import PyProof.EqKinds
import PyProof.TupleCall
import PySem.Challenge.RW_beatplans_k75_lines_that_write_no_plan
set_option compiler.extract_closed false
set_option Elab.async false
set_option linter.all false
set_option maxRecDepth 100000
set_option maxHeartbeats 8000000
open PySem.W renaming BT → Ycq, CodeHd → Yf9, Frag → Yaa, OpenLaw → Yea, WalkO → Ygn, boot_heap → YbT, boot_o_0 → Yb8, boot_o_1 → YbH, boot_o_10 → YbS, boot_o_2 → Yb7, boot_o_3 → YfF, boot_o_4 → Yb6, boot_o_5 → Yb5, boot_o_6 → Yb4, boot_o_7 → Yb3, boot_o_8 → Yb2, boot_o_9 → Yb1, callWith_K → YdD, cellsFrom_some → Ycm, codeIn → Yby, codeRec_of → YdC, findIn → YcQ, fnMade → Yet, fnOf → Ya5, instObj → Yd9, keepIn → Ya8, kia_one → Ya9, kitOne → Ydp, kitx_dict → Yfr, kitx_list → Yfq, lookIn → Yes, methodObj → YdS, mg_of → Yc2, nsIn → Ybc, piece_app → YdR, piecesOf → Yd3, plainGet → YfE, segRunT → Yd8, segRun_of → YdQ, specialIn → Yfp, topRun → Yf8, topStub → YfV
open List renaming all_cons → YbB, all_eq_true → Ydg, any_cons → Ybj, append_assoc → Ygc, append_nil → YbX, cons_append → Yej, contains_cons → YbA, drop_eq_getElem_cons → Ybi, drop_length → Ygr, drop_of_length_le → Yfd, drop_zero → YcX, eq_of_mem_replicate → Ye1, filterMap → YeR, filterMap_cons → Ych, filterMap_map → Yf0, find?_cons → Ybu, flatten_cons → YbG, foldl → Yd5, foldl_cons → Ydr, forIn_cons → YeD, getD → Yfg, getD_eq_getElem?_getD → YaS, getElem?_append_left → YaC, getElem?_append_right → YaR, getElem?_eq_getElem → YaI, getElem?_eq_none → YcA, getElem?_map → Yat, getElem?_range → YdJ, getElem?_replicate → Yco, getElem?_set_ne → YaU, getElem?_set_self → Ybg, getElem?_take_of_lt → Ye0, getElem_idxOf → YfZ, getElem_mem → Ycg, getElem_toArray → YcH, idxOf_lt_length_of_mem → YeC, length_append → YaO, length_cons → Ya4, length_drop → Ycf, length_map → Yah, length_nil → YcP, length_replicate → Yff, length_reverse → YcO, length_take → Ydf, lookup → Ybt, lookup_cons → YaG, map_append → Ybd, map_cons → YaA, map_eq_nil_iff → YfL, map_fst_zip → Ygq, map_map → Ycz, map_nil → Yec, mem_append_left → Ya1, mem_append_right → Yaz, mem_cons → YaL, mem_cons_of_mem → Yag, mem_cons_self → Yao, mem_of_getElem? → Ybq, mem_of_mem_drop → YcG, mem_of_mem_take → YdA, mem_or_eq_of_mem_set → Yca, nil_append → YbW, not_mem_nil → Yax, of_mem_zip → Ycn, range → YaQ, range' → YfK, range_succ → Ydq, replicate → Yab, replicate_succ → YaH, reverse_cons → Yb0, set_cons_succ → Yd1, set_cons_zero → Yd0, size_toArray → Yai, take_length → Ygp, take_of_length_le → Ycs, take_sublist → Yc5, zip_cons_cons → YdZ
open PySem renaming Arguments → YcL, Comprehension → YbP, DictEntry → Ycx, ExcBaseFacts → YeS, FuncData → Ybk, GenState → Yew, NameKind → Ybh, Operator → Ydc, PassesOwn → Yeu, Spec → YaD, StoreFacts → Ydo, assignEach → YaY, attributeBase → Ycd, behindInMarks → Yen, binaryOp → Ybf, bindArgs → YfT, bootBuiltins → YbK, builtinLookup_eq_fast → YbF, builtinsNs → YdX, call → YfU, call_meets → YbC, cellsFrom → Ybe, checkBuiltinCall → Ydx, closureFor → YfC, codeAny_call_builtin → Yd2, codeAny_call_function → YdP, codeAny_func → Ygl, codeAny_mono → Ydb, compTurn → Ye2, compareOp → YaM, concat_meets → Ygk, evalPart_none → YfS, excClassObj → Yc1, foldedSetIterable → Ya2, isInstance → YfB, keywordEach → Yfa, lastMarks → Ygj, length_partsBetween → Yc0, letOwnedTupleGo → YcZ, lookupAlong_cons → YeV, mainGlobals → YaB, mem_of_lookup → Yaw, newFunctionEnv → Yfn, noFill_tuple_add → YeU, noteFrame → Ygi, post_val_or_str → YdO, pushCells → Ye9, qualnameIn → YcV, repr_of_reads' → Yfm, seqIndex_neg → Ygh, seqSlot_of → Yf7, seq_tuple_add → YfR, setFlight → Yem, sizeLine → Yac, sizeLine_eq → YbO, sliceBounds → Ycp, slicePick → Yel, starEach → Yar, strLen_append → YfQ, swappedStores → Ybv, swapsWith → Ycl, swapsWithSole → YbE, sysModules → Ya7, treeTable → Ydn, tupleKind → Ye8, tupleKind_room_in1 → Yda, typeIs_int → YeH, typeIs_str → Ycc, typeLookup → YaX, typeLookup_eq → YfO, typeLookup_type → Ycw, wpAny_Call_Name_kw → YbD, wpAny_Call_method_late → Yeg, wpAny_Name → YdW, wpAny_binaryOp_repeat_ref → Yfl, wpAny_bind → Yad, wpAny_call → YeG, wpAny_callSpecial?_slot → Ydt, wpAny_call_entry → YeT, wpAny_comprehension_free → YfA, wpAny_execs_cons → YbR, wpAny_execs_nil → YdN, wpAny_field → YbN, wpAny_getItem_list_slice → Ydm, wpAny_getItem_str_slice → Ycv, wpAny_holding → Ybo, wpAny_isSubtype_exc → YbM, wpAny_loadPart_at → Yau, wpAny_mono → YaK, wpAny_mroOf_exc → Ye7, wpAny_newFunctionEnv_cells → Yc6, wpAny_newObj_type → Ybb, wpAny_passesOwn → YcY, wpAny_pure → Yam, wpAny_pyIter_list → Ydl, wpAny_pyNext_list_end → Ygg, wpAny_pyNext_list_item → Yf5, wpAny_sequenceKey → YeF, wpAny_setField → Yfk, wpAny_standAt → Ycb, wpAny_truthy_bool → Yba, wpAny_typeOf → YdM
open PySem.Heap renaming SameBut → Yds, get?_none_of_le → YdB, get?_push_at → Yge, get?_push_of_some → Yae, get?_push_size → Yas, get?_update_ne → YfM, get?_update_other → Ydk, get?_update_self → YcB, lt_size → Yal, size_push → YdF
open Nat renaming add_comm → Yfv, add_le_add_left → YcS, add_le_add_right → YfJ, add_sub_cancel → Ygb, digitChar → Yfc, isDigit_of_mem_toDigits → YeJ, le_of_eq → Yei, le_of_lt → YbZ, le_of_not_lt → Ydj, le_refl → Yaf, le_succ → YfY, le_trans → Yak, length_toDigits_le_iff → Yb9, log2_lt → YfX, lt_irrefl → Ya6, lt_of_le_of_lt → Ya3, lt_of_lt_of_le → Yaq, lt_trans → YcD, lt_trichotomy → Ygo, mul_comm → Yeh, mul_le_mul_right → YcI, ne_of_gt → Yfu, ne_of_lt → YaF, not_lt_zero → YcR, succ_le_succ → Yev, toDigits → Ybm, toDigits_of_lt_base → Yde, zero_add → YcW, zero_le → Ybw
open Bool renaming and_eq_true → Yap, eq_iff_iff → Ybl, false_eq_true → Ybp, false_ne_true → Yaj, false_or → Ye5, not_eq_true' → Ycu, not_not → Yfj, or_eq_true → YbY, or_false → Ye4, or_true → YcC
open Option.some renaming inj → Yan
open PySem.Builtin.Str renaming occurrences → Yav, partsBetween → Yd6, strKind → YeO
open PySem.NameKind renaming cell → YaE, free → Yay
open PySem.PyData renaming canLayAll0 → YfH, depthAll → Yck, eqv → YaJ, eqvAll → YcE, int → YfG, showable → Ydi, showableAll → Yft, shown → Yce, shownAll → YbQ, str → YcF
open PySem.W.Fast renaming te10110043849684766642 → YbV, te14364793385576792824 → YaN, te5923862056798008813 → Ydd
open PySem.Builtin.Slice renaming sliceAdjust → Ybs, sliceApplied → YbI, sliceFields → YdU, slicePlaces → YaP
open PySem.Builtin.Tuple renaming tupleExact → YaT, tupleIsExact → YdL, tupleItemsOf → Ycy, tupleTooMany → YdK
open PyProof.Rows renaming SortKind → Yer, args_tuple_getitem → Yeo, boot_isinstance → YdE, callWith_type1 → Yct, entry_tuple_getitem → Yd7, slot_tuple_getitem → YaV, subscriptTail → Yek, subscriptTail_builtinR → Yf6, text_ofNat → YcN, tupleItemsOf_ → YfP
open PySem.Value renaming bool → YeP, builtin → Yc7, int → Yeq, none → Ybx, ref → YaW, str → Yep
open PySem.Str renaming empty → Yfo, join → YaZ, length → YcM, ofString → Ycj
open Int renaming ediv_one → Yfy, emod_lt_of_pos → Yd4, emod_nonneg → YeL, eq_ofNat_of_zero_le → Ya0, toNat → Yfx, toNat_natCast → Ygs, toNat_of_nonneg → YdT
open False renaming elim → Ybn
open PySem.Txt renaming slice → Ydv, slice_le → Ydu, split → Ybr, split → Yfs
open Char renaming toNat → Ybz
open True renaming intro → YbJ
open PySem.Calls renaming Constant_str → YcT, Name_function_global → YeE, callWith_builtin → Ydh, evalArgs_plain → Yfi, spliced_cons → YbL, spliced_nil → Yf3
open Array renaming all_toList → Ygf, append_assoc → YfN, find?_toList → YdV, getElem?_setIfInBounds_self_of_lt → YbU, length_toList → YdH, size_append → Yc4, toList_append → Yfz
open Sum.inr renaming injEq → Yci
open PySem.Obj renaming data_mapFields → Yga, isFreed_of_fields → Ydw, mapFields → Ycr, mapSeq → Yeb
open PySem.Builtin.List renaming listTooLong → YcJ
open Classical renaming byContradiction → YcK
open PySem.F renaming args_str_split_2 → Yee, args_tuple_add_2 → YcU, args_tuple_mul_2 → Yed, entry_str_split → Yey, entry_tuple_add → Yc3, entry_tuple_mul → Yex, plainAttrs_list → YeI, plainAttrs_str → Yc9, slot_int_rmul → YdG, slot_str_split → YeN, slot_tuple_add → Yc8, slot_tuple_mul → YeM
open PySem.W.Hook renaming obs → Ydz, val → Ydy
open PySem.Paired renaming length → YdI
open Option renaming getD_none → YfW, isSome_map → YdY, map → YfI, none_or → YeB, some_or → YeA
open PySem.StrLaws renaming glued_between_self → Yef, glued_eq_join → YeX, occ_length_le → YeW
open PySem.SeqAt renaming EqAt → YeQ, eqv_refl → Yez, in_listAt → Ygm, notIn_listAt → YfD
open List.Pairwise renaming nil → YeK
open PySem.SeqAt.EqAt renaming int_str → YeZ, str_int → YeY
open PySem.Manifest renaming signature? → Ye3
open PySem.Around renaming frames_deeper → Yfe, in1_units → Yf4, under → Ye6
open PySem.PassesOwn renaming looking → Yfb
open PySem.Code renaming isFrame → Yfh, quiet_builtin → Yf2
open List.cons renaming inj → Yf1, injEq → Yfw
open List.Mem renaming head → Ygd
namespace L2
open PySem PySem.Spec PyProof.Rows

abbrev Key:=Sum Int Str
noncomputable def jgr:Key->Value->Bool
 |.inl k,v=>Value.isInt k v
 |.inr x,v=>Value.isStrOf x v
noncomputable def keyH (w:World):Key->Int
 |.inl k=>hashInt k
 |.inr x=>hashStr w x
theorem jao:∀{k:Key} {v:Value},jgr k v=true->(∃i t,k=Sum.inl i/\v=Yeq i t)\/(∃x t,k=Sum.inr x/\v=Yep x t)
 |.inl i,v,h=>by
  obtain⟨t,e⟩:=Value.isInt_shape (k:=i) (v:=v) h;exact .inl ⟨i,t,rfl,e⟩
 |.inr x,v,h=>by
  obtain⟨t,e⟩:=Value.isStrOf_shape (x:=x) (v:=v) h;exact .inr ⟨x,t,rfl,e⟩
theorem jht (i:Int)(t:Tok):jgr (.inl i) (.int i t)=true:=by simp[jgr,Value.isInt]
theorem jhs (x:Str)(t:Tok):jgr (.inr x) (.str x t)=true:=by simp[jgr,Value.isStrOf]
theorem jm9 (a b:Int):decide ((Sum.inl a:Key)=Sum.inl b)=(a==b):=by
 by_cases e:a=b
 ·subst e;simp
 ·have h:¬(Sum.inl a:Key)=Sum.inl b:=λq=>e (Sum.inl.inj q);rw[decide_eq_false h];exact(beq_eq_false_iff_ne.mpr e).symm
theorem jm6 (a b:Str):decide ((Sum.inr a:Key)=Sum.inr b)=decide (a=b):=by
 by_cases e:a=b
 ·subst e;simp
 ·have h:¬(Sum.inr a:Key)=Sum.inr b:=λq=>e (Sum.inr.inj q);rw[decide_eq_false h,decide_eq_false e]
theorem jm8 (a:Int)(b:Str):decide ((Sum.inl a:Key)=Sum.inr b)=false:=decide_eq_false (λq=>nomatch q)
theorem jm7 (a:Str)(b:Int):decide ((Sum.inr a:Key)=Sum.inl b)=false:=decide_eq_false (λq=>nomatch q)

noncomputable def jap (prog:Program)(w:World):PySem.KeyKind prog w Key where
 is:=jgr
 hash:=keyH w
 inj:=λv a b ha hb=>by
  rcases jao ha with⟨i,t,rfl,rfl⟩|⟨x,t,rfl,rfl⟩
  ·rcases jao hb with⟨j,u,rfl,e⟩|⟨y,u,rfl,e⟩
   ·injection e with e1 _;rw[e1]
   ·exact nomatch e
  ·rcases jao hb with⟨j,u,rfl,e⟩|⟨y,u,rfl,e⟩
   ·exact nomatch e
   ·injection e with e1 _;rw[e1]
 byValue:=λk v h=>by
  rcases jao h with⟨i,t,rfl,rfl⟩|⟨x,t,rfl,rfl⟩<;>rfl
 pyHash:=λhv h=>by
  rcases jao hv with⟨i,t,rfl,rfl⟩|⟨x,t,rfl,rfl⟩
  ·exact wpAny_pyHash_int h
  ·exact wpAny_pyHash_str h
 eqBool:=λhu hv h=>by
  rcases jao hu with⟨i,t,rfl,rfl⟩|⟨x,t,rfl,rfl⟩
  ·rcases jao hv with⟨j,u,rfl,rfl⟩|⟨y,u,rfl,rfl⟩
   ·rw[jm9]at h;exact wpAny_eqBool_int h
   ·rw[jm8]at h;exact YeZ i t y u _ _ _ _ h
  ·rcases jao hv with⟨j,u,rfl,rfl⟩|⟨y,u,rfl,rfl⟩
   ·rw[jm7]at h;exact YeY x t j u _ _ _ _ h
   ·rw[jm6]at h;exact wpAny_eqBool_str h
 «strs»:=λk x t v h=>by
  rcases jao h with⟨i,u,rfl,e⟩|⟨y,u,rfl,e⟩
  ·exact nomatch e
  ·injection e with e1 _
   subst e1
   cases v<;>rfl

theorem je0 (prog:Program)(w:World)(i:Int)(t:Tok):(jap prog w).is (.inl i) (.int i t)=true:=jht i t
theorem jeZ (prog:Program)(w:World)(x:Str)(t:Tok):(jap prog w).is (.inr x) (.str x t)=true:=jhs x t

inductive V where
 |non|bl (b:Bool)|int (i:Int)|str (x:Str)|byt (b:Array UInt8)|flt (b:UInt64)|ref (a:Addr)|ty (n:String)
 deriving DecidableEq

def RelV:V->Value->Prop
 |.non,u=>u=Ybx
 |.bl b,u=>u=YeP b
 |.int i,u=>∃t,u=Yeq i t
 |.str x,u=>∃t,u=Yep x t
 |.byt b,u=>∃t,u=Value.bytes b t
 |.flt b,u=>∃t,u=Value.float b t
 |.ref a,u=>u=YaW a
 |.ty n,u=>u=Value.type n

abbrev Vals:List V->List Value->Prop:=Paired RelV
theorem Vals.length {xs:List V}{us:List Value}(r:Vals xs us):xs.length=us.length:=YdI r
theorem Vals.get:∀{xs:List V} {us:List Value} {i:Nat} {x:V},Vals xs us->xs[i]?=some x->∃u,us[i]?=some u/\RelV x u
 |_,_,_,_,.nil,e=>by simp at e
 |_,_,0,_,.cons r _,e=>by simp at e;subst e;exact⟨_,rfl,r⟩
 |_,_,i+1,x,.cons _ t,e=>by
  obtain⟨u,h1,h2⟩:=Vals.get (i:=i) (x:=x) t (by simpa using e)
  exact⟨u,by simpa using h1,h2⟩
theorem Vals.set {x:V}{u:Value}(r:RelV x u):∀{xs:List V} {us:List Value} (i:Nat),Vals xs us->Vals (xs.set i x) (us.set i u)
 |_,_,_,.nil=>.nil
 |_,_,0,.cons _ t=>.cons r t
 |_,_,i+1,.cons q t=>.cons q (Vals.set r i t)
theorem Vals.append:∀{xs ys:List V} {us ws:List Value},Vals xs us->Vals ys ws->Vals (xs++ys) (us++ws)
 |_,_,_,_,.nil,s=>s
 |_,_,_,_,.cons r t,s=>.cons r (Vals.append t s)
theorem Vals.take:∀{xs:List V} {us:List Value} (n:Nat),Vals xs us->Vals (xs.take n) (us.take n)
 |_,_,0,_=>.nil
 |_,_,_+1,.nil=>.nil
 |_,_,n+1,.cons r t=>.cons r (Vals.take n t)
theorem Vals.drop:∀{xs:List V} {us:List Value} (n:Nat),Vals xs us->Vals (xs.drop n) (us.drop n)
 |_,_,0,r=>r
 |_,_,_+1,.nil=>.nil
 |_,_,n+1,.cons _ t=>Vals.drop n t
def RelO:Option V->Option Value->Prop
 |some v,some u=>RelV v u
 |none,none=>True
 |_,_=>False
def KV {κ:Type}:List (κ×V)->List (κ×Value)->Prop:=Paired λ(p:κ×V) (q:κ×Value)=>p.1=q.1/\RelV p.2 q.2

noncomputable def kV:Key->V
 |.inl i=>.int i
 |.inr x=>.str x

inductive HO where
 |lst (xs:List V)
 |tup (xs:List V)
 |dK (kvs:List (Key×V))|dT (kvs:List (List Key×V))
 |set (S:Int->Bool) (n:Nat)
 |ins (C dx:Addr) (fs:List (Str×V))
 |own (x:Addr)
 |xd (fs:List (Str×V))
 |met (f x:Addr)
 |rng (lo hi:Int)
 |frz (o:Obj) (u:HO)
 |tbl (ps:Array Value)
 |ext (φ:Heap->Prop)

abbrev Hp:=Addr->Option HO
noncomputable def upd (H:Hp)(a:Addr)(o:HO):Hp:=λb=>if b=a then some o else H b
theorem jag {H:Hp}{a:Addr}{o:HO}:upd H a o a=some o:=by unfold upd;rw[if_pos rfl]
section
variable {H:Hp}{a b:Addr}
theorem jad {o:HO}(h:b≠a):upd H a o b=H b:=by unfold upd;rw[if_neg h]
theorem jo2 {o u:HO}(h:H a=some o)(h':H b=some u)(d:o≠u):a≠b:=by
 intro e;subst e;rw[h]at h';exact d (Yan h')
theorem jah {o:HO}(h:H a=some o)(h':H b=none):a≠b:=by
 intro e;subst e;rw[h]at h';cases h'

end
def TupD (h:Heap)(a:Addr)(items:Array Value):Prop:=∃o,h.get? a=some o/\o.cls=.type "tuple" /\ ∃n,o.data=.seq items n/\o.dict=none
theorem TupD.tup {h:Heap}{a:Addr}{items:Array Value}(x:TupD h a items):IsTup h a items:=let ⟨o,e,c,n,d,_⟩:=x;⟨o,e,c,n,d⟩
theorem TupD.new (h:Heap)(items:Array Value):TupD (h.push { cls:=.type "tuple",data:=.seq items }) h.objs.size items:=⟨_,Yas _ rfl,rfl,_,rfl,rfl⟩
section
variable (P:Program)(w:World)
def jav (H:Hp)(h:Heap)(a:Addr):HO->Prop
 |.lst xs=>xs.length<=Yac/\∃(its:List Value) (n:Nat),Vals xs its/\h.get? a=some { cls:=.type "list",data:=.seq its.toArray n }
 |.tup xs=>xs.length<=Yac/\∃its:List Value,Vals xs its/\TupD h a its.toArray
 |.dK kvs=>kvs.length<=Yac/\(a==Ya7)=false/\∃vs,KV kvs vs/\h.DictOf (jap P w) a vs
 |.dT kvs=>kvs.length<=Yac/\(a==Ya7)=false/\∃xs:List (List Key×Addr×Value),
   Paired (λ(p:List Key×V) (q:List Key×Addr×Value)=>p.1=q.1/\H q.2.1=some (.tup (p.1.map kV))/\RelV p.2 q.2.2) kvs xs/\
   ∃o es ep,h.get? a=some o/\o.ExactDict/\o.data=.dict es ep/\es.toList=xs.map (entryOfKey (Ye8 (jap P w)))/\(xs.map (·.1)).Nodup
 |.set S n=>h.SetOf (intKind P w) a S n
 |.ins C dx fs=>H dx=some (.own a)/\fs.length<=1000/\dx≠a/\h.get? a=some (Yd9 C dx)/\
   ∃mA,h.Ns1 dx mA/\(∀f,RelO (fs.lookup f) (mA f))/\PySem.Within mA (fs.map (·.1))
 |.own _=>∃o,h.get? a=some o
 |.xd fs=>∃mA,h.Ns1 a mA/\∀f,RelO (fs.lookup f) (mA f)
 |.rng lo hi=>∃t u v,h.get? a=some { cls:=.type "range",data:=.fields #[.int lo t,.int hi u,.int 1 v] }
 |.frz o u=>h.get? a=some o/\jav H h a u
 |.tbl ps=>h.get? a=some { cls:=.none,data:=.fields ps }
 |.met f x=>h.get? a=some (YdS (.ref f) (.ref x))
 |.ext φ=>φ h/\(∃o,h.get? a=some o)/\∀h1 h2:Heap,φ h1->(∀o,h1.get? a=some o->h2.get? a=some o)->φ h2
def HOk (H:Hp)(h:Heap):Prop:=∀a o,H a=some o->jav P w H h a o
end

section
variable {P:Program}{w:World}{H H':Hp}{h h':Heap}{a:Addr}{o:HO}
theorem jav.lt (x:jav P w H h a o):a<h.objs.size:=by
 cases o with
 |lst xs=>obtain⟨_,_,_,_,e⟩:=x;exact Yal e
 |tup xs=>obtain⟨_,_,_,p⟩:=x;exact p.tup.lt
 |dK kvs=>obtain⟨_,_,_,_,o,_,_,e,_⟩:=x;exact Yal e
 |dT kvs=>obtain⟨_,_,_,_,o,_,_,e,_⟩:=x;exact Yal e
 |set S n=>obtain⟨o,_,_,_,e,_⟩:=x;exact Yal e
 |ins C dx fs=>obtain⟨_,_,_,e,_⟩:=x;exact Yal e
 |own y=>obtain⟨_,e⟩:=x;exact Yal e
 |xd fs=>obtain⟨_,⟨_,_,_,e,_⟩,_⟩:=x;exact Yal e
 |rng lo hi=>obtain⟨_,_,_,e⟩:=x;exact Yal e
 |frz ob u=>obtain⟨e,_⟩:=x;exact Yal e
 |tbl ps=>exact Yal (show h.get? a=some _ from x)
 |met f y=>exact Yal (show h.get? a=some _ from x)
 |ext φ=>obtain⟨_,⟨_,e⟩,_⟩:=x;exact Yal e
theorem Paired.mapP {α β:Type}{F G:α->β->Prop}:∀{l₁:List α} {l₂:List β},Paired F l₁ l₂->(∀a b,F a b->G a b)->Paired G l₁ l₂
 |_,_,.nil,_=>.nil
 |_,_,.cons r t,f=>.cons (f _ _ r) (Paired.mapP t f)
theorem jav.stay (x:jav P w H h a o)(k:∀b u,(b=a\/H b=some (.own a))->h.get? b=some u->h'.get? b=some u)
  (ho:∀b,H b=some (.own a)->H' b=some (.own a)) (ht:∀b xs,H b=some (.tup xs)->H' b=some (.tup xs)):jav P w H' h' a o:=by
 induction o with
 |lst xs=>obtain⟨z,its,n,r,e⟩:=x;exact⟨z,its,n,r,k _ _ (.inl rfl) e⟩
 |tup xs=>obtain⟨z,its,r,ob,e,c⟩:=x;exact⟨z,its,r,ob,k _ _ (.inl rfl) e,c⟩
 |dK kvs=>obtain⟨z,y,vs,r,ob,es,ep,e,c⟩:=x;exact⟨z,y,vs,r,ob,es,ep,k _ _ (.inl rfl) e,c⟩
 |dT kvs=>
  obtain⟨z,y,xs,r,ob,es,ep,e,c⟩:=x;exact⟨z,y,xs,Paired.mapP r λp q z=>⟨z.1,ht _ _ z.2.1,z.2.2⟩,ob,es,ep,k _ _ (.inl rfl) e,c⟩
 |set S n=>obtain⟨ob,es,ep,t,e,c⟩:=x;exact⟨ob,es,ep,t,k _ _ (.inl rfl) e,c⟩
 |ins C dx fs=>
  obtain⟨d,z,ne,e,mA,⟨od,es,ep,e2,c⟩,r⟩:=x;exact⟨ho _ d,z,ne,k _ _ (.inl rfl) e,mA,⟨od,es,ep,k _ _ (.inr d) e2,c⟩,r⟩
 |own y=>obtain⟨ob,e⟩:=x;exact⟨ob,k _ _ (.inl rfl) e⟩
 |xd fs=>obtain⟨mA,⟨od,es,ep,e,c⟩,r⟩:=x;exact⟨mA,⟨od,es,ep,k _ _ (.inl rfl) e,c⟩,r⟩
 |rng lo hi=>obtain⟨t,u,v,e⟩:=x;exact⟨t,u,v,k _ _ (.inl rfl) e⟩
 |frz ob u ih=>obtain⟨e,q⟩:=x;exact⟨k _ _ (.inl rfl) e,ih q⟩
 |tbl ps=>
  have e:h.get? a=some { cls:=.none,data:=.fields ps }:=x;show h'.get? a=some { cls:=.none,data:=.fields ps };exact k a _ (.inl rfl) e
 |met f y=>
  have e:h.get? a=some (YdS (.ref f) (.ref y)):=x;show h'.get? a=some (YdS (.ref f) (.ref y));exact k a _ (.inl rfl) e
 |ext φ=>obtain⟨p,⟨o,e⟩,st⟩:=x;exact⟨st _ _ p λo q=>k _ _ (.inl rfl) q,⟨o,k _ _ (.inl rfl) e⟩,st⟩
theorem HOk.lt (x:HOk P w H h)(e:H a=some o):a<h.objs.size:=(x a o e).lt
theorem HOk.fresh (x:HOk P w H h)(e:h.objs.size<=a):H a=none:=by
 cases q:H a with
 |none=>rfl
 |some u=>exact absurd (Yaq (x.lt q) e) (Ya6 _)
theorem HOk.kept (x:HOk P w H h)(k:∀b u,h.get? b=some u->h'.get? b=some u):HOk P w H h':=λa o e=>
 (x a o e).stay (λb u _ q=>k b u q) (λ_ q=>q) λ_ _ q=>q
theorem HOk.laid (x:HOk P w H h)(k:∀b u,h.get? b=some u->h'.get? b=some u)(hp:h.objs.size<=a)(new:jav P w (upd H a o) h' a o):HOk P w (upd H a o) h':=λb u e=>by
 have hn:=x.fresh hp;by_cases hb:b=a
 ·subst hb;rw[jag]at e;cases e;exact new
 ·rw[jad hb]at e;exact(x b u e).stay (λc v _ q=>k c v q) (λc q=>by rw[jad (jah q hn)];exact q) λc xs q=>by rw[jad (jah q hn)];exact q
end

def Rd (H:Hp)(a:Addr)(u:HO):Prop:=H a=some u\/∃o,H a=some (.frz o u)
theorem Rd.of {H:Hp}{a:Addr}{u:HO}(h:H a=some u):Rd H a u:=.inl h
theorem Rd.ok {P:Program}{w:World}{H:Hp}{h:Heap}{a:Addr}{u:HO}(r:Rd H a u)(x:HOk P w H h):jav P w H h a u:=by
 rcases r with r|⟨o,r⟩
 ·exact x a u r
 ·obtain⟨_,q⟩:=x a _ r;exact q
def Mut:Option HO->Prop
 |some (.lst _)=>True
 |some (.dK _)=>True
 |some (.dT _)=>True
 |some (.set _ _)=>True
 |some (.ins _ _ _)=>True
 |some (.ext _)=>True
 |_=>False
section
variable {P:Program}{w:World}{H:Hp}{h h':Heap}{x e:Addr}{o':HO}
theorem HOk.write (ok:HOk P w H h)(mu:Mut (H x))(he:e=x\/H e=some (.own x))(k:∀b u,b≠e->h.get? b=some u->h'.get? b=some u)(heo:∃u,h'.get? e=some u)
  (new:jav P w (upd H x o') h' x o'):HOk P w (upd H x o') h':=λb u q=>by
 have nown:∀c y,H c=some (.own y)->c≠x:=λc y r z=>by subst z;rw[r]at mu;exact mu
 have ntup:∀c xs,H c=some (.tup xs)->c≠x:=λc xs r z=>by subst z;rw[r]at mu;exact mu
 by_cases hb:b=x
 ·subst hb;rw[jag]at q;cases q;exact new
 ·rw[jad hb]at q;by_cases hbe:b=e
  ·have q':H b=some (.own x):=by
    rcases he with z|z
    ·exact absurd (hbe.trans z) hb
    ·rw[hbe];exact z
   rw[q]at q';cases q';obtain⟨v,hv⟩:=heo;exact⟨v,by rw[hbe];exact hv⟩
  ·refine(ok b u q).stay (λc v hc r=>k c v ?_ r) (λc r=>by rw[jad (nown c b r)];exact r) λc xs r=>by rw[jad (ntup c xs r)];exact r
   rcases hc with rfl|hc
   ·exact hbe
   ·rintro rfl;rcases he with z|z
    ·exact nown c b hc z
    ·rw[hc]at z;cases z;exact hb rfl
end

structure Un (fs ex:List Addr)(H H':Hp)(h h':Heap):Prop where
 keep:∀b o,h.get? b=some o->H b=none->b∉fs->b∉ex->h'.get? b=some o
 slot:∀b o,h.get? b=some o->H b=none->b∈fs->b∉ex->∃sl,h'.get? b=some { o with slots:=sl }
 free:∀b o,h.get? b=some o->H b=none->b∉ex->H' b=none
 there:∀b o,h.get? b=some o->b∉ex->∃o',h'.get? b=some o'
 tups:∀b xs,H b=some (.tup xs)->H' b=some (.tup xs)
 frzs:∀b o u,H b=some (.frz o u)->H' b=some (.frz o u)
 tbls:∀b ps,H b=some (.tbl ps)->∃more,H' b=some (.tbl (ps++more))
section
variable {fs fs' ex ex':List Addr}{H H1 H2:Hp}{h h1 h2 h':Heap}{a x e:Addr}{o:HO}
theorem Un.any (u:Un fs ex H H1 h h1){b:Addr}{ob:Obj}(q:h.get? b=some ob)(n:H b=none)(hx:b∉ex):∃sl,h1.get? b=some { ob with slots:=sl }:=by
 by_cases hb:b∈fs
 ·exact u.slot b ob q n hb hx
 ·exact⟨ob.slots,u.keep b ob q n hb hx⟩
theorem Un.trans (a:Un fs ex H H1 h h1)(b:Un fs ex H1 H2 h1 h2):Un fs ex H H2 h h2 where
 keep:=λc ob q n hc hx=>b.keep c ob (a.keep c ob q n hc hx) (a.free c ob q n hx) hc hx
 slot:=λc ob q n hc hx=>by
  obtain⟨sl,e1⟩:=a.slot c ob q n hc hx;obtain⟨sl',e2⟩:=b.slot c _ e1 (a.free c ob q n hx) hc hx;exact⟨sl',e2⟩
 free:=λc ob q n hx=>by
  obtain⟨o',e1⟩:=a.there c ob q hx;exact b.free c o' e1 (a.free c ob q n hx) hx
 there:=λc ob q hx=>by
  obtain⟨o',e1⟩:=a.there c ob q hx;exact b.there c o' e1 hx
 tups:=λc xs q=>b.tups c xs (a.tups c xs q)
 frzs:=λc ob xs q=>b.frzs c ob xs (a.frzs c ob xs q)
 tbls:=λc ps q=>by
  obtain⟨m1,e1⟩:=a.tbls c ps q;obtain⟨m2,e2⟩:=b.tbls c _ e1;exact⟨m1++m2,by rw[e2,YfN]⟩
theorem Un.kept (k:∀b u,h.get? b=some u->h'.get? b=some u):Un fs ex H H h h':=
 ⟨λb ob q _ _ _=>k b ob q,λb ob q _ _ _=>⟨ob.slots,k b ob q⟩,λ_ _ _ n _=>n,λb ob q _=>⟨ob,k b ob q⟩,λ_ _ q=>q,λ_ _ _ q=>q,λ_ ps q=>⟨#[],by rw[q];simp⟩⟩
theorem Un.refl:Un fs ex H H h h:=Un.kept λ_ _ q=>q
theorem Un.laid (k:∀b u,h.get? b=some u->h'.get? b=some u)(hp:h.objs.size<=a)(hn:H a=none):Un fs ex H (upd H a o) h h' where
 keep:=λb u q _ _ _=>k b u q
 slot:=λb u q _ _ _=>⟨u.slots,k b u q⟩
 free:=λb u q n _=>by rw[jad (YaF (Yaq (Yal q) hp))];exact n
 there:=λb u q _=>⟨u,k b u q⟩
 tups:=λb xs q=>by rw[jad (jah q hn)];exact q
 frzs:=λb u xs q=>by rw[jad (jah q hn)];exact q
 tbls:=λb ps q=>⟨#[],by rw[jad (jah q hn),q];simp⟩
theorem Un.write (mu:Mut (H x))(he:e=x\/H e=some (.own x))(k:∀b u,b≠e->h.get? b=some u->h'.get? b=some u)(heo:∃u,h'.get? e=some u):Un fs ex H (upd H x o) h h':=by
 have hx:∀b,H b=none->b≠x:=λb n z=>by subst z;rw[n]at mu;exact mu
 have hb:∀b,H b=none->b≠e:=λb n z=>by
  subst z;rcases he with r|r
  ·exact hx b n r
  ·rw[n]at r;cases r
 have hm:∀b u,H b=some u->¬Mut (some u)->b≠x:=λb u q nm z=>by subst z;rw[q]at mu;exact nm mu
 refine⟨λb u q n _ _=>k b u (hb b n) q,λb u q n _ _=>⟨u.slots,k b u (hb b n) q⟩,λb u q n _=>by rw[jad (hx b n)];exact n,λb u q _=>?_,
  λb xs q=>by rw[jad (hm b _ q λz=>z)];exact q,λb u xs q=>by rw[jad (hm b _ q λz=>z)];exact q,λb ps q=>⟨#[],by rw[jad (hm b _ q λz=>z),q];simp⟩⟩
 by_cases hbe:b=e
 ·subst hbe;exact heo
 ·exact⟨u,k b u hbe q⟩
end

noncomputable def trk (h:Heap)(H:Hp):List Addr:=(YaQ h.objs.size).filter λa=>(H a).isSome
noncomputable def hidT (h:Heap)(H:Hp):Heap:=PySem.W.hideAll h (trk h H)
theorem jhF (h:Heap)(H:Hp):(hidT h H).objs.size=h.objs.size:=PySem.W.hideAll_size _ _
section
variable {h:Heap}{H:Hp}{b:Addr}{o:Obj}
theorem jdO (e:h.get? b=some o)(n:H b=none):(hidT h H).get? b=some o:=
 PySem.W.hideAll_get _ e λhm=>by
  have q:(H b).isSome=true:=(List.mem_filter.mp hm).2;rw[n]at q;simp at q
theorem jk0 (e:(hidT h H).get? b=some o):h.get? b=some o/\H b=none:=by
 have e':h.get? b=some o:=PySem.W.of_hideAll (trk h H) e;refine⟨e',?_⟩;cases q:H b with
 |none=>rfl
 |some x=>
  have hm:b∈trk h H:=List.mem_filter.mpr ⟨List.mem_range.mpr (Yal e'),by simp[q]⟩
  have z:(hidT h H).get? b=none:=PySem.W.hideAll_none (trk h H) hm;rw[z]at e;cases e

end
noncomputable def jlF (g h:Heap)(L:Addr):List (Addr×Obj):=(YaQ h.objs.size).filterMap λa=>if a=L\/(g.get? a).isSome=true then none else (h.get? a).map λo=>(a,o)
noncomputable def rest (g h:Heap)(L d:Addr):List (Addr×Obj):=(jlF g h L).filter λp=>decide (p.1≠d)

structure Mod (K:Yaa)(mg:Str->Option Value)(base:Heap):Prop where
 kin:K.In base
 glob:base.Ns YaB mg
 blt:∃mb,base.Ns YdX mb/\∀x:Str,x ≠ "__name__" -> mb x=YbK x
 nolimit:base.NoLimit
 sys:∃o,K.lookup Ya7=some o/\o.cls=.type "dict"

structure Cx where
 prog:Program
 w:World
 K:Yaa
 mg:Str->Option Value
 base:Heap
 A:Around
 N:List Str
 s₀:Shared
 H₀:Hp
 env:Env
 outer:List Env
 stack:List Env
 ex:List Addr
 fn:Str->Bool
 calm:Bool
 pn:List (Addr×Obj)
 xe:Value->Shared->Prop
noncomputable def frs (l:List Env):List Addr:=l.filterMap (·.frame)
noncomputable abbrev Cx.fs (X:Cx):List Addr:=frs X.outer

def Vis (sc:Scope)(x:Str):Prop:=sc.names.lookup x=some .local\/sc.names.lookup x=some .cell\/sc.names.lookup x=some .free
def Loc (sc:Scope)(x:Str):Prop:=sc.names.lookup x=some .local\/sc.names.lookup x=some .cell
def Look (env:Env)(h:Heap)(m:Str->Option Value)(x:Str)(u:Value):Prop:=
 (env.kindOf x=some .local/\m x=some u)\/((env.kindOf x=some .cell\/env.kindOf x=some .free)/\∃c,env.cells.lookup x=some c/\h.IsCell c (some u))

structure Cx.Ok (X:Cx):Prop where
 mod:Mod X.K X.mg X.base
 kind:X.env.scope.kind=.function
 glob:X.env.globals=YaB
 blt:X.env.builtins=YdX
 above:X.s₀.heap.objs.size<=X.env.locals
 inj:∀x y c,X.env.cells.lookup x=some c->X.env.cells.lookup y=some c->x=y
 has:∀x,(X.env.kindOf x=some .cell\/X.env.kindOf x=some .free)->∃c,X.env.cells.lookup x=some c
 cab:∀x c,X.fn x=true->X.env.cells.lookup x=some c->X.s₀.heap.objs.size<=c
 hd:X.calm=true->X.A.handled=none
 frames:X.A.frames=some X.stack
 stk:X.stack=X.outer\/(X.stack=X.env::X.outer/\X.env.frame=some X.env.locals)
 exf:∀b∈X.ex,b≠X.env.locals/\∀x c,X.env.cells.lookup x=some c->c≠b
 bs:∀b o,X.base.get? b=some o->X.s₀.heap.get? b=some o/\X.H₀ b=none
 bsz:X.base.objs.size<=X.s₀.heap.objs.size
 noex:∀b o,X.base.get? b=some o->b∉X.ex
 exfs:∀b∈X.ex,b∉X.fs
 funs:X.s₀.heap.FunFrames X.base X.outer
 frf:∀b∈X.fs,X.H₀ b=none

structure Inv (X:Cx)(pins:List (Addr×Obj))(σ:List (Option V))(H:Hp)(s:Shared):Prop where
 ok:X.Ok
 os:s.os=X.s₀.os
 bare:AllBare s.gens
 base:Un X.fs X.ex X.H₀ H X.s₀.heap s.heap
 loc:∃m,s.heap.Ns X.env.locals m/\∀(i:Nat) (x:Str) (v:V),X.N[i]?=some x->σ[i]?=some (some v)->Vis X.env.scope x->∃u,RelV v u/\Look X.env s.heap m x u
 cell:∀x c,X.env.cells.lookup x=some c->∃v,s.heap.IsCell c v
 free:H X.env.locals=none
 freeC:∀x c,X.env.cells.lookup x=some c->H c=none
 pin:∀p∈X.pn++pins,s.heap.get? p.1=some p.2/\H p.1=none/\p.1≠X.env.locals/\p.1∉X.fs/\∀v,p.2.data≠.cell v
 hok:HOk X.prog X.w H s.heap
 len:σ.length=X.N.length

section
variable {X:Cx}{pins:List (Addr×Obj)}{σ:List (Option V)}{H H':Hp}{s:Shared}{h':Heap}

theorem Cx.Ok.nofr (ok:X.Ok){b:Addr}{o:Obj}(e:X.base.get? b=some o):b∉X.fs:=λhb=>by
 have:=(ok.funs.mem hb).1;rw[e]at this;cases this
theorem Inv.bs (I:Inv X pins σ H s):∀b o,X.base.get? b=some o->s.heap.get? b=some o/\H b=none:=λb o e=>
 ⟨I.base.keep b o (I.ok.bs b o e).1 (I.ok.bs b o e).2 (I.ok.nofr e) (I.ok.noex b o e),I.base.free b o (I.ok.bs b o e).1 (I.ok.bs b o e).2 (I.ok.noex b o e)⟩
theorem Inv.bk (I:Inv X pins σ H s):∀b o,X.base.get? b=some o->s.heap.get? b=some o:=λb o e=>(I.bs b o e).1
theorem Inv.mod (I:Inv X pins σ H s):Mod X.K X.mg X.base:=I.ok.mod
theorem Inv.kIn (I:Inv X pins σ H s):X.K.In s.heap:=I.ok.mod.kin.keeps I.bk
theorem Inv.lt (I:Inv X pins σ H s):X.env.locals<s.heap.objs.size:=let ⟨_,hn,_⟩:=I.loc;hn.lt
theorem Inv.sz (I:Inv X pins σ H s):X.s₀.heap.objs.size<=s.heap.objs.size:=Yak I.ok.above (YbZ I.lt)
theorem Inv.nofs (I:Inv X pins σ H s){a:Addr}(h:s.heap.objs.size<=a):a∉X.fs:=λhb=>by
 obtain⟨_,o,ho,_⟩:=I.ok.funs.mem hb;exact absurd (Yaq (Yal ho) (Yak I.sz h)) (Ya6 _)
theorem Inv.cne (I:Inv X pins σ H s):∀x c,X.env.cells.lookup x=some c->c≠X.env.locals:=λx c e z=>by
 obtain⟨v,o,ho,hd⟩:=I.cell x c e;obtain⟨m,⟨o',es,ep,ho',hd',_⟩,_⟩:=I.loc;rw[z,ho']at ho;cases ho;rw[hd']at hd;cases hd
theorem Inv.funs (I:Inv X pins σ H s):s.heap.FunFrames X.base X.outer:=by
 have all:∀(l:List Env),(∀b∈frs l,b∈X.fs)->X.s₀.heap.FunFrames X.base l->s.heap.FunFrames X.base l:=by
  intro l
  induction l with
  |nil=>intro _ _;trivial
  |cons env r ih=>
   intro hs hl;obtain⟨hk,⟨L,o,hf,hn,ho,hd⟩,hr⟩:=hl;have hL:L∈X.fs:=hs L (by unfold frs;rw[Ych,hf];exact Yao)
   obtain⟨sl,e⟩:=I.base.slot L o ho (I.ok.frf L hL) hL λz=>I.ok.exfs L z hL;exact⟨hk,⟨L,_,hf,hn,e,hd⟩,ih (λb hb=>hs b (by unfold frs;rw[Ych,hf];exact Yag _ hb)) hr⟩
 exact all X.outer (λ_ hb=>hb) I.ok.funs

theorem Inv.stack (I:Inv X pins σ H s):s.heap.FunFrames X.base X.stack:=by
 rcases I.ok.stk with e|⟨e,hf⟩
 ·rw[e];exact I.funs
 ·rw[e];obtain⟨m,hn,_⟩:=I.loc;refine .cons (by rw[I.ok.kind];decide) hf hn ?_ I.funs
  exact YdB (Yak I.ok.bsz I.ok.above)
theorem Inv.stkSub (I:Inv X pins σ H s):∀b∈frs X.stack,b∈X.env.locals::X.fs:=λb hb=>by
 rcases I.ok.stk with e|⟨e,hf⟩
 ·rw[e]at hb;exact Yag _ hb
 ·rw[e]at hb;unfold frs at hb;rw[Ych,hf]at hb;exact hb
theorem Inv.stkFree (I:Inv X pins σ H s):∀b∈frs X.stack,H b=none:=λb hb=>by
 rcases YaL.mp (I.stkSub b hb)with e|hb
 ·rw[e];exact I.free
 ·obtain⟨_,o,ho,_⟩:=I.ok.funs.mem hb;exact I.base.free b o ho (I.ok.frf b hb) λz=>I.ok.exfs b z hb

theorem Inv.step {g':Array Yew}{t':Nat}{d':Drawn}{ch:List Addr}(I:Inv X pins σ H s)
  (hch:∀b∈ch,(b∈X.ex\/X.s₀.heap.objs.size<=b)/\b≠X.env.locals/\(∀x c,X.env.cells.lookup x=some c->c≠b)/\∀p∈X.pn++pins,p.1≠b)
  (keep:∀b o,b≠X.env.locals->b∉X.fs->b∉ch->s.heap.get? b=some o->H b=none->h'.get? b=some o)
  (slot:∀b o,b≠X.env.locals->b∈X.fs->b∉ch->s.heap.get? b=some o->H b=none->∃sl,h'.get? b=some { o with slots:=sl }) (free:∀b o,b∉ch->s.heap.get? b=some o->H b=none->H' b=none)
  (there:∀b o,b∉ch->s.heap.get? b=some o->∃o',h'.get? b=some o')
  (tups:∀b xs,H b=some (.tup xs)->H' b=some (.tup xs)) (frzs:∀b o u,H b=some (.frz o u)->H' b=some (.frz o u)) (tbls:∀b ps,H b=some (.tbl ps)->∃more,H' b=some (.tbl (ps++more)))
  (ns:∀m,s.heap.Ns X.env.locals m->h'.Ns X.env.locals m) (hok:HOk X.prog X.w H' h') (hg:AllBare g') :
  Inv X pins σ H' { s with heap:=h',gens:=g',drawn:=d',toks:=t' }:=by
 have neL:∀b o,X.s₀.heap.get? b=some o->b≠X.env.locals:=λb o e=>YaF (Yaq (Yal e) I.ok.above);have neC:∀b o,X.s₀.heap.get? b=some o->b∉X.ex->b∉ch:=λb o e hx hb=>by
  rcases(hch b hb).1 with z|z
  ·exact hx z
  ·exact absurd (Yaq (Yal e) z) (Ya6 _)
 have cellK:∀x c,X.env.cells.lookup x=some c->∀v,s.heap.IsCell c v->h'.IsCell c v:=λx c e v ⟨o,ho,hd⟩=>by
  have nch:c∉ch:=λz=>(hch c z).2.2.1 x c e rfl;by_cases hc:c∈X.fs
  ·obtain⟨sl,q⟩:=slot c o (I.cne x c e) hc nch ho (I.freeC x c e);exact⟨_,q,hd⟩
  ·exact⟨o,keep c o (I.cne x c e) hc nch ho (I.freeC x c e),hd⟩
 refine⟨I.ok,I.os,hg,⟨λb o e n hb hx=>?_,λb o e n hb hx=>?_,λb o e n hx=>?_,λb o e hx=>?_,λb xs e=>tups b xs (I.base.tups b xs e),λb o xs e=>frzs b o xs (I.base.frzs b o xs e),λb ps e=>?_⟩,?_,λx c e=>?_,?_,λx c e=>?_,λp hp=>?_,hok,I.len⟩
 ·exact keep b o (neL b o e) hb (neC b o e hx) (I.base.keep b o e n hb hx) (I.base.free b o e n hx)
 ·obtain⟨sl,e1⟩:=I.base.slot b o e n hb hx;obtain⟨sl',e2⟩:=slot b _ (neL b o e) hb (neC b o e hx) e1 (I.base.free b o e n hx);exact⟨sl',e2⟩
 ·obtain⟨o',e1⟩:=I.base.there b o e hx;exact free b o' (neC b o e hx) e1 (I.base.free b o e n hx)
 ·obtain⟨o',e1⟩:=I.base.there b o e hx;exact there b o' (neC b o e hx) e1
 ·obtain⟨m1,e1⟩:=I.base.tbls b ps e;obtain⟨m2,e2⟩:=tbls b _ e1;exact⟨m1++m2,by rw[e2,YfN]⟩
 ·obtain⟨m,hn,hl⟩:=I.loc;refine⟨m,ns m hn,λi x v e1 e2 e3=>?_⟩;obtain⟨u,r,l⟩:=hl i x v e1 e2 e3;refine⟨u,r,?_⟩;rcases l with l|⟨k,c,e,z⟩
  ·exact .inl l
  ·exact .inr ⟨k,c,e,cellK x c e _ z⟩
 ·obtain⟨v,z⟩:=I.cell x c e;exact⟨v,cellK x c e v z⟩
 ·obtain⟨m,⟨o,_,_,ho,_⟩,_⟩:=I.loc;exact free _ o (λz=>(hch _ z).2.1 rfl) ho I.free
 ·obtain⟨v,o,ho,hd⟩:=I.cell x c e;exact free c o (λz=>(hch c z).2.2.1 x c e rfl) ho (I.freeC x c e)
 ·obtain⟨e,n,ne,nf,d⟩:=I.pin p hp;have nch:p.1∉ch:=λz=>(hch p.1 z).2.2.2 p hp rfl;exact⟨keep p.1 p.2 ne nf nch e n,free p.1 p.2 nch e n,ne,nf,d⟩
theorem Inv.un {t':Nat}(I:Inv X pins σ H s)(u:Un X.fs [] H H' s.heap h')(hok:HOk X.prog X.w H' h'):Inv X pins σ H' { s with heap:=h',toks:=t' }:=by
 obtain⟨m,⟨o,es,ep,ho,r⟩,_⟩:=id I.loc;obtain⟨sl,hL⟩:=u.any ho I.free (by simp)
 exact I.step (g':=s.gens) (d':=s.drawn) (ch:=[]) (λ_ z=>nomatch z) (λb o _ hb _ e n=>u.keep b o e n hb (by simp)) (λb o _ hb _ e n=>u.slot b o e n hb (by simp)) (λb o _ e n=>u.free b o e n (by simp)) (λb o _ e=>u.there b o e (by simp)) u.tups u.frzs u.tbls (λm' hm=>by
  obtain⟨o',es',ep',ho',r'⟩:=hm;rw[ho]at ho';cases ho';exact⟨_,es',ep',hL,r'⟩) hok I.bare
theorem Inv.call {g':Array Yew}{t':Nat}{d':Drawn}{ch:List Addr}(I:Inv X pins σ H s)(u:Un (frs X.stack) ch H H' s.heap h')(hok:HOk X.prog X.w H' h')(hg:AllBare g')
  (hch:∀b∈ch,(b∈X.ex\/X.s₀.heap.objs.size<=b)/\b≠X.env.locals/\(∀x c,X.env.cells.lookup x=some c->c≠b)/\∀p∈X.pn++pins,p.1≠b) :
  Inv X pins σ H' { s with heap:=h',gens:=g',drawn:=d',toks:=t' }:=by
 obtain⟨m,⟨o,es,ep,ho,r⟩,_⟩:=id I.loc;obtain⟨sl,hL⟩:=u.any ho I.free λz=>(hch _ z).2.1 rfl;exact I.step (ch:=ch) hch (λb o hL hb hc e n=>u.keep b o e n (λz=>(YaL.mp (I.stkSub b z)).elim hL hb) hc) (λb o _ _ hc e n=>u.any e n hc) (λb o hc e n=>u.free b o e n hc) (λb o hc e=>u.there b o e hc) u.tups u.frzs u.tbls (λm' hm=>by
  obtain⟨o',es',ep',ho',r'⟩:=hm;rw[ho]at ho';cases ho';exact⟨_,es',ep',hL,r'⟩) hok hg
theorem Inv.turned {t':Nat}{it:Addr}(I:Inv X pins σ H s)(k:∀b o,b≠it->s.heap.get? b=some o->h'.get? b=some o)(hn:H it=none)(hL:it≠X.env.locals)
  (h1:it∈X.ex\/X.s₀.heap.objs.size<=it) (h2:∀x c,X.env.cells.lookup x=some c->c≠it) (h3:∀p∈X.pn++pins,p.1≠it):Inv X pins σ H { s with heap:=h',toks:=t' }:=by
 have nit:∀b u,H b=some u->b≠it:=λb u e z=>by rw[z,hn]at e;cases e
 refine I.step (g':=s.gens) (d':=s.drawn) (ch:=[it]) (λb hb=>?_) (λb o _ _ hc e _=>k b o (λz=>hc (by simp[z])) e) (λb o _ _ hc e _=>⟨o.slots,k b o (λz=>hc (by simp[z])) e⟩) (λ_ _ _ _ n=>n)
  (λb o hc e=>⟨o,k b o (λz=>hc (by simp[z])) e⟩) (λ_ _ e=>e) (λ_ _ _ e=>e) (λb ps e=>⟨#[],by rw[e];simp⟩) (λm hm=>?_) (λb u e=>?_) I.bare
 ·have e:b=it:=by simpa using hb
  subst e;exact⟨h1,hL,h2,h3⟩
 ·obtain⟨o,es,ep,ho,r⟩:=hm;exact⟨o,es,ep,k _ o (Ne.symm hL) ho,r⟩
 ·refine(I.hok b u e).stay (λc v hc q=>k c v ?_ q) (λ_ q=>q) λ_ _ q=>q;rcases hc with z|z
  ·rw[z];exact nit b u e
  ·exact nit c _ z
theorem Inv.tok (I:Inv X pins σ H s)(t:Nat):Inv X pins σ H { s with toks:=t }:=I.un (h':=s.heap) (t':=t) Un.refl I.hok
theorem Inv.kept {t':Nat}(I:Inv X pins σ H s)(k:∀b u,s.heap.get? b=some u->h'.get? b=some u):Inv X pins σ H { s with heap:=h',toks:=t' }:=I.un (Un.kept k) (I.hok.kept k)
theorem Inv.laid {a:Addr}{o:HO}{t':Nat}(I:Inv X pins σ H s)(k:∀b u,s.heap.get? b=some u->h'.get? b=some u)(hp:s.heap.objs.size<=a)(new:jav X.prog X.w (upd H a o) h' a o) :
  Inv X pins σ (upd H a o) { s with heap:=h',toks:=t' }:=I.un (Un.laid k hp (I.hok.fresh hp)) (I.hok.laid k hp new)
theorem Inv.write {x e:Addr}{o:HO}{t':Nat}(I:Inv X pins σ H s)(mu:Mut (H x))(he:e=x\/H e=some (.own x))(k:∀b u,b≠e->s.heap.get? b=some u->h'.get? b=some u)(heo:∃u,h'.get? e=some u)
  (new:jav X.prog X.w (upd H x o) h' x o):Inv X pins σ (upd H x o) { s with heap:=h',toks:=t' }:=I.un (Un.write mu he k heo) (I.hok.write mu he k heo new)
theorem Inv.pins_of {pins':List (Addr×Obj)}(I:Inv X pins σ H s)(h:∀p∈pins',s.heap.get? p.1=some p.2/\H p.1=none/\p.1≠X.env.locals/\p.1∉X.fs/\∀v,p.2.data≠.cell v):Inv X pins' σ H s:=
 ⟨I.ok,I.os,I.bare,I.base,I.loc,I.cell,I.free,I.freeC,λp hp=>(List.mem_append.mp hp).elim (λz=>I.pin p (Ya1 _ z)) (h p),I.hok,I.len⟩

theorem jcp {N:List Str}(hN:N.Nodup){i j:Nat}{x:Str}(a:N[i]?=some x)(b:N[j]?=some x):i=j:=by
 obtain⟨h1,e1⟩:=List.getElem?_eq_some_iff.mp a;obtain⟨h2,e2⟩:=List.getElem?_eq_some_iff.mp b;exact(List.getElem_inj hN).mp (e1.trans e2.symm)

section
variable {M:Model}{A:Around}{E:Value->Shared->Prop}{i:Nat}{x:Str}{v:V}{u:Value}{Q:Unit->Shared->Prop}
theorem jdZ (I:Inv X pins σ H s)(hN:X.N.Nodup)(hi:X.N[i]?=some x)(hx:Loc X.env.scope x)(r:RelV v u)
  (h:∀s',Inv X pins (σ.set i (some v)) H s'->(∃a,Yds a s.heap s'.heap/\(a=X.env.locals\/X.env.cells.lookup x=some a))->Q () s') (hf:X.fn x=true\/X.env.scope.names.lookup x=some .local:=by first|exact .inl rfl|exact .inr rfl|assumption):wpAny M A (storeName X.env x u) Q E s:=by
 obtain⟨m,hn,hl⟩:=id I.loc;have hcls:(X.env.scope.kind == .class||(X.env.scope.kind == .module&&X.env.locals != X.env.globals))=false:=by rw[I.ok.kind];rfl
 have hiσ:i<σ.length:=by rw[I.len];exact(List.getElem?_eq_some_iff.mp hi).1
 have cne:=I.cne;have tracked:∀{a:Addr} {h':Heap},(∃o,s.heap.get? a=some o/\H a=none)->Yds a s.heap h'->HOk X.prog X.w H h':=λ{a h'} ha hs b ob e=>by
  obtain⟨_,_,hfree⟩:=ha;refine(I.hok b ob e).stay (λc w' hc q=>(hs.2 c ?_).trans q) (λ_ q=>q) λ_ _ q=>q;rintro rfl;rcases hc with rfl|hc
  ·rw[hfree]at e;cases e
  ·rw[hfree]at hc;cases hc
 rcases hx with hk|hk
 ·refine wpAny_storeName_local hk hn (λh' hn' hs=>?_) hcls;obtain⟨oL,_,_,hoL,_⟩:=id hn;refine h _ ⟨I.ok,I.os,I.bare,⟨λb o e n hb hx=>?_,λb o e n hb hx=>?_,I.base.free,λb o e hx=>?_,I.base.tups,I.base.frzs,I.base.tbls⟩,⟨_,hn',λj y v' e1 e2 e3=>?_⟩,λy c e=>?_,I.free,I.freeC,λp hp=>?_,tracked ⟨oL,hoL,I.free⟩ hs,by simpa using I.len⟩ ⟨_,hs,.inl rfl⟩
  ·exact(hs.2 b (YaF (Yaq (Yal e) I.ok.above))).trans (I.base.keep b o e n hb hx)
  ·obtain⟨sl,e1⟩:=I.base.slot b o e n hb hx;exact⟨sl,(hs.2 b (YaF (Yaq (Yal e) I.ok.above))).trans e1⟩
  ·obtain⟨o',e1⟩:=I.base.there b o e hx;exact⟨o',(hs.2 b (YaF (Yaq (Yal e) I.ok.above))).trans e1⟩
  ·by_cases hj:j=i
   ·subst hj;rw[hi]at e1;cases e1;rw[Ybg hiσ]at e2;cases e2;exact⟨u,r,.inl ⟨hk,by simp⟩⟩
   ·rw[YaU (Ne.symm hj)]at e2;obtain⟨u',r',q⟩:=hl j y v' e1 e2 e3;refine⟨u',r',?_⟩;rcases q with⟨k,e⟩|⟨k,c,e,z⟩
    ·refine .inl ⟨k,?_⟩;have:y≠x:=λe=>hj (jcp hN e1 (e ▸ hi));simp[this,e]
    ·exact .inr ⟨k,c,e,z.sameBut hs (cne y c e)⟩
  ·obtain⟨w',z⟩:=I.cell y c e;exact⟨w',z.sameBut hs (cne y c e)⟩
  ·obtain⟨e,n,ne,nf,d⟩:=I.pin p hp;exact⟨(hs.2 p.1 ne).trans e,n,ne,nf,d⟩
 ·have hfn:X.fn x=true:=by
   rcases hf with z|z
   ·exact z
   ·rw[z]at hk;cases hk
  obtain⟨c,hc⟩:=I.ok.has x (.inl hk);obtain⟨w',z⟩:=I.cell x c hc;refine wpAny_storeName_cell I.ok.kind hk hc z (λh' hc' hs=>?_);obtain⟨oc,hoc,hocd⟩:=id z;refine h { s with heap:=h' } ⟨I.ok,I.os,I.bare,⟨λb o e n hb hx=>?_,λb o e n hb hx=>?_,I.base.free,λb o e hx=>?_,I.base.tups,I.base.frzs,I.base.tbls⟩,⟨m,hn.sameBut hs (Ne.symm (cne x c hc)),λj y v' e1 e2 e3=>?_⟩,λy c' e=>?_,I.free,I.freeC,λp hp=>?_,tracked ⟨oc,hoc,I.freeC x c hc⟩ hs,by simpa using I.len⟩ ⟨c,hs,.inr hc⟩
  ·exact(hs.2 b (YaF (Yaq (Yal e) (I.ok.cab x c hfn hc)))).trans (I.base.keep b o e n hb hx)
  ·obtain⟨sl,e1⟩:=I.base.slot b o e n hb hx;exact⟨sl,(hs.2 b (YaF (Yaq (Yal e) (I.ok.cab x c hfn hc)))).trans e1⟩
  ·obtain⟨o',e1⟩:=I.base.there b o e hx;exact⟨o',(hs.2 b (YaF (Yaq (Yal e) (I.ok.cab x c hfn hc)))).trans e1⟩
  ·by_cases hj:j=i
   ·subst hj;rw[hi]at e1;cases e1;rw[Ybg hiσ]at e2;cases e2;exact⟨u,r,.inr ⟨.inl hk,c,hc,hc'⟩⟩
   ·rw[YaU (Ne.symm hj)]at e2;obtain⟨u',r',q⟩:=hl j y v' e1 e2 e3;refine⟨u',r',?_⟩;rcases q with q|⟨k,c',e,z'⟩
    ·exact .inl q
    ·refine .inr ⟨k,c',e,z'.sameBut hs ?_⟩;rintro rfl;exact hj (jcp hN e1 (I.ok.inj _ _ _ e hc ▸ hi))
  ·by_cases hcc:c'=c
   ·subst hcc;exact⟨_,hc'⟩
   ·obtain⟨w2,z2⟩:=I.cell y c' e;exact⟨w2,z2.sameBut hs hcc⟩
  ·obtain⟨e,n,ne,nf,d⟩:=I.pin p hp;refine⟨(hs.2 p.1 ?_).trans e,n,ne,nf,d⟩;intro q;rw[q,hoc]at e;have q':oc=p.2:=Yan e;exact d w' (by rw[<- q'];exact hocd)
theorem jcn (I:Inv X pins σ H s)(hN:X.N.Nodup)(hi:X.N[i]?=some x)(hx:Loc X.env.scope x)(r:RelV v u)
  (h:∀s',Inv X pins (σ.set i (some v)) H s'->Q () s') (hf:X.fn x=true\/X.env.scope.names.lookup x=some .local:=by first|exact .inl rfl|exact .inr rfl|assumption):wpAny M A (storeName X.env x u) Q E s:=
 jdZ I hN hi hx r (λs' I' _=>h s' I') hf
end
theorem Inv.call' {s':Shared}{ch:List Addr}(I:Inv X pins σ H s)(ho:s'.os=s.os)(u:Un (frs X.stack) ch H H' s.heap s'.heap)(hok:HOk X.prog X.w H' s'.heap)(hg:AllBare s'.gens)
  (hch:∀b∈ch,(b∈X.ex\/X.s₀.heap.objs.size<=b)/\b≠X.env.locals/\(∀x c,X.env.cells.lookup x=some c->c≠b)/\∀p∈X.pn++pins,p.1≠b):Inv X pins σ H' s':=by
 obtain⟨h',g',d',t',o'⟩:=s';have e:o'=s.os:=ho;subst e;exact I.call (g':=g') (t':=t') (d':=d') u hok hg hch
end

abbrev XK:=Value->Option Addr->Hp->Prop
abbrev St:=List (Option V)
abbrev VK:=V->Hp->Prop
abbrev TE:=St->Hp->VK->Prop
abbrev TT:=St->Hp->(Bool->Hp->Prop)->Prop
abbrev TA:=St->Hp->(List V->Hp->Prop)->Prop
structure Ends where
 nx:St->Hp->Prop
 rt:VK
 bk:St->Hp->Prop:=λ_ _=>False
 ct:St->Hp->Prop:=λ_ _=>False
abbrev TS:=Ends->St->Hp->Prop

def EP (X:Cx)(pins:List (Addr×Obj))(σ:St)(Q:VK)(u:Value)(s':Shared):Prop:=∃v H',Inv X pins σ H' s'/\RelV v u/\Q v H'
def TP (X:Cx)(pins:List (Addr×Obj))(σ:St)(Q:Bool->Hp->Prop)(b:Bool)(s':Shared):Prop:=∃H',Inv X pins σ H' s'/\Q b H'
def AP (X:Cx)(pins:List (Addr×Obj))(σ:St)(Q:List V->Hp->Prop)(us:List Value)(s':Shared):Prop:=∃vs H',Inv X pins σ H' s'/\Vals vs us/\Q vs H'
def SP (X:Cx)(pins:List (Addr×Obj))(D:Ends)(f:Flow)(s':Shared):Prop:=
 match f with
 |.next=>∃σ' H',Inv X pins σ' H' s'/\D.nx σ' H'
 |.brk=>∃σ' H',Inv X pins σ' H' s'/\D.bk σ' H'
 |.cont=>∃σ' H',Inv X pins σ' H' s'/\D.ct σ' H'
 |.ret u=>∃v σ' H',Inv X pins σ' H' s'/\RelV v u/\D.rt v H'

def PE (X:Cx)(e:Expr)(t:TE):Prop:=
 ∀(pins:List (Addr×Obj)) (s:Shared) (σ:St) (H:Hp) (Q:VK),Inv X pins σ H s->t σ H Q->wpAny (model X.prog X.w) X.A (eval e X.env) (EP X pins σ Q) X.xe s
def PT (X:Cx)(e:Expr)(t:TT):Prop:=
 ∀(pins:List (Addr×Obj)) (s:Shared) (σ:St) (H:Hp) (Q:Bool->Hp->Prop),Inv X pins σ H s->t σ H Q->wpAny (model X.prog X.w) X.A (isTrue e X.env (eval e X.env)) (TP X pins σ Q) X.xe s
def PW (X:Cx)(e:Expr)(t:TT):Prop:=
 ∀(whole:Sem Value) (pins:List (Addr×Obj)) (s:Shared) (σ:St) (H:Hp) (Q:Bool->Hp->Prop),Inv X pins σ H s->t σ H Q->wpAny (model X.prog X.w) X.A (isTrue e X.env whole) (TP X pins σ Q) X.xe s
theorem PW.pt {X:Cx}{e:Expr}{t:TT}(h:PW X e t):PT X e t:=h _
def PA (X:Cx)(es:List Expr)(t:TA):Prop:=
 ∀(pos:Pos) (pins:List (Addr×Obj)) (s:Shared) (σ:St) (H:Hp) (Q:List V->Hp->Prop),Inv X pins σ H s->t σ H Q->wpAny (model X.prog X.w) X.A (spliced (backTo pos (Yar es X.env))) (AP X pins σ Q) X.xe s
def PS (X:Cx)(st:Stmt)(t:TS):Prop:=
 ∀(pins:List (Addr×Obj)) (s:Shared) (σ:St) (H:Hp) (D:Ends),Inv X pins σ H s->t D σ H->wpAny (model X.prog X.w) X.A (exec st X.env) (SP X pins D) X.xe s
def PSs (X:Cx)(st:List Stmt)(t:TS):Prop:=
 ∀(pins:List (Addr×Obj)) (s:Shared) (σ:St) (H:Hp) (D:Ends),Inv X pins σ H s->t D σ H->wpAny (model X.prog X.w) X.A (execs st X.env) (SP X pins D) X.xe s
theorem thn {α:Type}{t:Sem α}{Q Q':α->Shared->Prop}{M:Model}{A:Around}{E:Value->Shared->Prop}{s:Shared}(h:wpAny M A t Q E s)(hQ:∀a s,Q a s->Q' a s):wpAny M A t Q' E s:=YaK h hQ λ_ _ x=>x
section
variable {X:Cx}

def tVar (i:Nat):TE:=λσ H Q=>∃v,σ[i]?=some (some v)/\Q v H
def tC (v:V):TE:=λ_ H Q=>Q v H
theorem ja5 {i:Nat}{x:Str}{pos:Pos}(hN:X.N[i]?=some x)(hv:Vis X.env.scope x)(hd:(x==("__debug__" : Str))=false:=by decide)(hcd:(x==("__classdict__" : Str))=false:=by decide):PE X (.Name x pos) (tVar i):=by
 intro pins s σ H Q I h;obtain⟨v,e,h⟩:=h;obtain⟨m,hn,hl⟩:=I.loc;obtain⟨u,r,l⟩:=hl i x v hN e hv;have fin:EP X pins σ Q u s:=⟨v,H,I,r,h⟩;rcases l with⟨hk,hm⟩|⟨hk,c,hc,hcell⟩
 ·exact YdW (wpAny_loadName_local I.ok.kind hk hn hm fin) hd
 ·rcases hk with hk|hk
  ·exact YdW (wpAny_loadName_cell I.ok.kind hk hc hcell fin) hd
  ·exact YdW (wpAny_loadName_free I.ok.kind hk hc hcell fin hcd) hd
theorem jjs {i j pos}:PE X (.Constant (.int i) j pos) (tC (.int i)):=λ_ _ _ H _ I h=>wpAny_Constant_int ⟨.int i,H,I.tok _,⟨_,rfl⟩,h⟩
theorem jmz {b j pos}:PE X (.Constant (.bool b) j pos) (tC (.bl b)):=λ_ _ _ H _ I h=>Constant_bool ⟨.bl b,H,I,rfl,h⟩
theorem jmx {j pos}:PE X (.Constant .none j pos) (tC .non):=λ_ _ _ H _ I h=>Constant_none ⟨.non,H,I,rfl,h⟩
theorem jjq {x j pos}:PE X (.Constant (.str x) j pos) (tC (.str x)):=λ_ _ _ H _ I h=>YcT ⟨.str x,H,I.tok _,⟨_,rfl⟩,h⟩

def Gl (X:Cx)(x:Str):Prop:=X.env.kindOf x=some .globalImplicit
section
variable {E:Value->Shared->Prop}{pins:List (Addr×Obj)}{s:Shared}{σ:St}{H:Hp}{x:Str}{u:Value}{pos:Pos}{Q:Value->Shared->Prop}
theorem jb4 (I:Inv X pins σ H s)(hg:Gl X x)(hm:X.mg x=some u)(h:Q u s)
  (hd:(x==("__debug__" : Str))=false:=by decide):wpAny (model X.prog X.w) X.A (eval (.Name x pos) X.env) Q E s:=
 YeE I.ok.kind hg (Calls.loadGlobal_global (by rw[I.ok.glob];exact I.mod.glob.keeps I.bk) hm h) hd
theorem jem (I:Inv X pins σ H s)(hg:Gl X x)(hm:X.mg x=none)(hv:YbK x=some u)(h:Q u s)
  (hn:x ≠ "__name__" := by decide) (hd:(x==("__debug__" : Str))=false:=by decide):wpAny (model X.prog X.w) X.A (eval (.Name x pos) X.env) Q E s:=by
 obtain⟨mb,h1,h2⟩:=I.mod.blt;exact YeE I.ok.kind hg (Calls.loadGlobal_builtin (by rw[I.ok.glob];exact I.mod.glob.keeps I.bk) hm (by rw[I.ok.blt];exact h1.keeps I.bk) ((h2 x hn).trans hv) h) hd
end
section
variable {x:Str}{v:V}{u:Value}{pos:Pos}
theorem jg3 (hg:Gl X x)(hm:X.mg x=some u)(r:RelV v u)(hd:(x==("__debug__" : Str))=false:=by decide):PE X (.Name x pos) (tC v):=
 λ_ _ _ H _ I h=>jb4 I hg hm ⟨v,H,I,r,h⟩ hd
theorem jg4 (hg:Gl X x)(hm:X.mg x=none)(hv:YbK x=some u)(r:RelV v u)(hn:x ≠ "__name__" := by decide)(hd:(x==("__debug__" : Str))=false:=by decide):PE X (.Name x pos) (tC v):=
 λ_ _ _ H _ I h=>jem I hg hm hv ⟨v,H,I,r,h⟩ hn hd

end
variable {a b:Expr}{ta tb:TE}{pos:Pos}
def tB (t:TE):TT:=λσ H Q=>t σ H λx H1=>∃c,x=.bl c/\Q c H1
theorem jml {e:Expr}{t:TE}(h:PE X e t)(he:∀whole,isTrue e X.env whole=(do let v <- whole;standAt e.pos;holding [v] (truthy v)):=by intro _;rfl):PT X e (tB t):=by
 intro pins s σ H Q I hw;refine isTrue_plain (thn (h pins s σ H _ I hw) λv s1 ⟨x,H1,I1,r1,q1⟩=>?_) (he _);obtain⟨d,rfl,q⟩:=q1;cases r1;exact Yba ⟨H1,I1,q⟩

variable {tA tB':TT}{rest:List Expr}
def tAnd (t u:TT):TT:=λσ H Q=>t σ H λc H1=>if c=true then u σ H1 Q else Q false H1
def tOr (t u:TT):TT:=λσ H Q=>t σ H λc H1=>if c=true then Q true H1 else u σ H1 Q
def tNot (t:TT):TT:=λσ H Q=>t σ H λc H1=>Q (!c) H1
theorem pw_and1 (ha:PT X a tA):PW X (.BoolOp .And [a] pos) tA:=by
 intro wh pins s σ H Q I h;refine isTrue_and (thn (ha pins s σ H Q I h) λc s1 e=>?_);cases c with
 |true=>exact isTrue_and_nil e
 |false=>exact e
theorem pw_or1 (ha:PT X a tA):PW X (.BoolOp .Or [a] pos) tA:=by
 intro wh pins s σ H Q I h;refine isTrue_or (thn (ha pins s σ H Q I h) λc s1 e=>?_);cases c with
 |false=>exact isTrue_or_nil e
 |true=>exact e
theorem pw_and (ha:PT X a tA)(hb:PW X (.BoolOp .And (b::rest) pos) tB'):PW X (.BoolOp .And (a::b::rest) pos) (tAnd tA tB'):=by
 intro wh pins s σ H Q I h;refine isTrue_and (thn (ha pins s σ H _ I h) λc s1 ⟨H1,I1,q1⟩=>?_);cases c with
 |true=>exact hb wh pins s1 σ H1 Q I1 q1
 |false=>exact⟨H1,I1,q1⟩
theorem pw_or (ha:PT X a tA)(hb:PW X (.BoolOp .Or (b::rest) pos) tB'):PW X (.BoolOp .Or (a::b::rest) pos) (tOr tA tB'):=by
 intro wh pins s σ H Q I h;refine isTrue_or (thn (ha pins s σ H _ I h) λc s1 ⟨H1,I1,q1⟩=>?_);cases c with
 |true=>exact⟨H1,I1,q1⟩
 |false=>exact hb wh pins s1 σ H1 Q I1 q1
theorem jjp (ha:PT X a tA):PT X (.UnaryOp .Not a pos) (tNot tA):=by
 intro pins s σ H Q I h;exact isTrue_not (ha pins s σ H (λc H1=>Q (!c) H1) I h)
def joz (ta tb:TE):TE:=λσ H Q=>ta σ H λx H1=>∃c,x=.bl c/\if c=true then tb σ H1 Q else Q (.bl false) H1
def tOrV (ta tb:TE):TE:=λσ H Q=>ta σ H λx H1=>∃c,x=.bl c/\if c=true then Q (.bl true) H1 else tb σ H1 Q
def jou (ta:TE):TE:=λσ H Q=>ta σ H λx H1=>∃c,x=.bl c/\Q (.bl (!c)) H1
theorem jfH {op}{t:TE}(h:PE X a t):PE X (.BoolOp op [a] pos) t:=λpins s σ H Q I hw=>BoolOp_one (h pins s σ H Q I hw)
theorem jmA (ha:PE X a ta)(hb:PE X (.BoolOp .And (b::rest) pos) tb):PE X (.BoolOp .And (a::b::rest) pos) (joz ta tb):=by
 intro pins s σ H Q I h;refine BoolOp_and (thn (ha pins s σ H _ I h) λv s1 ⟨x,H1,I1,r1,q1⟩=>?_);obtain⟨c,rfl,q1⟩:=q1;cases r1;refine Yba ?_;cases c with
 |true=>exact hb pins s1 σ H1 Q I1 q1
 |false=>exact⟨.bl false,H1,I1,rfl,q1⟩
theorem joT (ha:PE X a ta)(hb:PE X (.BoolOp .Or (b::rest) pos) tb):PE X (.BoolOp .Or (a::b::rest) pos) (tOrV ta tb):=by
 intro pins s σ H Q I h;refine BoolOp_or (thn (ha pins s σ H _ I h) λv s1 ⟨x,H1,I1,r1,q1⟩=>?_);obtain⟨c,rfl,q1⟩:=q1;cases r1;refine Yba ?_;cases c with
 |false=>exact hb pins s1 σ H1 Q I1 q1
 |true=>exact⟨.bl true,H1,I1,rfl,q1⟩
theorem jmw (ha:PE X a ta):PE X (.UnaryOp .Not a pos) (jou ta):=by
 intro pins s σ H Q I h;refine UnaryOp_ (thn (ha pins s σ H _ I h) λv s1 ⟨x,H1,I1,r1,q1⟩=>?_);obtain⟨c,rfl,q1⟩:=q1;cases r1;exact not_of (Yba ⟨.bl (!c),H1,I1,rfl,q1⟩)
def tIf (t:TT)(ta tb:TE):TE:=λσ H Q=>t σ H λc H1=>if c=true then ta σ H1 Q else tb σ H1 Q
theorem jiI {c:Expr}(hc:PT X c tA)(ha:PE X a ta)(hb:PE X b tb):PE X (.IfExp c a b pos) (tIf tA ta tb):=by
 intro pins s σ H Q I h;refine wpAny_IfExp (thn (hc pins s σ H _ I h) λd s1 ⟨H1,I1,q1⟩=>?_);cases d with
 |true=>exact ha pins s1 σ H1 Q I1 q1
 |false=>exact hb pins s1 σ H1 Q I1 q1
end

def SqL (K:Yaa)(H:Hp)(a:Addr)(xs:List V):Prop:=
 Rd H a (.lst xs)\/
  ∃(o:Obj) (its:Array Value) (n:Nat),K.lookup a=some o/\o.cls=.type "list" /\ o.dict=none/\o.data=.seq its n/\its.size<=Yac/\Vals xs its.toList
def SqT (K:Yaa)(H:Hp)(a:Addr)(xs:List V):Prop:=
 Rd H a (.tup xs)\/
  ∃(o:Obj) (its:Array Value) (n:Nat),K.lookup a=some o/\o.cls=.type "tuple" /\ o.data=.seq its n/\its.size<=Yac/\Vals xs its.toList
noncomputable def absV:Value->Option V
 |.none=>some .non
 |.bool b=>some (.bl b)
 |.int i _=>some (.int i)
 |.str x _=>some (.str x)
 |.bytes b _=>some (.byt b)
 |.float b _=>some (.flt b)
 |.ref a=>some (.ref a)
 |.type n=>some (.ty n)
 |_=>none
theorem RelV.abs {x:V}{u:Value}(r:RelV x u):absV u=some x:=by
 cases x with
 |non=>cases r;rfl
 |bl _=>cases r;rfl
 |int _=>obtain⟨t,rfl⟩:=r;rfl
 |str _=>obtain⟨t,rfl⟩:=r;rfl
 |byt _=>obtain⟨t,rfl⟩:=r;rfl
 |flt _=>obtain⟨t,rfl⟩:=r;rfl
 |ref _=>cases r;rfl
 |ty _=>cases r;rfl
theorem RelV.inj {x y:V}{u:Value}(r:RelV x u)(q:RelV y u):x=y:=Yan (r.abs.symm.trans q.abs)
theorem Vals.inj:∀{xs ys:List V} {us:List Value},Vals xs us->Vals ys us->xs=ys
 |_,_,_,.nil,.nil=>rfl
 |_,_,_,.cons r t,.cons r' t'=>by rw[r.inj r',Vals.inj t t']
section
variable {X:Cx}{pins:List (Addr×Obj)}{σ:St}{H:Hp}{s:Shared}{a:Addr}{xs ys:List V}
theorem SqL.of {K:Yaa}(h:H a=some (.lst xs)):SqL K H a xs:=.inl (.inl h)
theorem SqT.of {K:Yaa}(h:H a=some (.tup xs)):SqT K H a xs:=.inl (.inl h)
theorem Inv.list (I:Inv X pins σ H s)(h:SqL X.K H a xs):∃its:List Value,Vals xs its/\PlainL s.heap a its.toArray/\xs.length<=Yac:=by
 rcases h with h|⟨o,its,n,hk,hc,hd,hs,hz,r⟩
 ·obtain⟨z,its,n,r,e⟩:=h.ok I.hok;exact⟨its,r,⟨_,n,e,rfl,rfl,rfl⟩,z⟩
 ·refine⟨its.toList,r,⟨o,n,I.kIn a o hk,hc,hd,by simpa using hs⟩,?_⟩
  have e:=r.length;simp only[YdH]at e;omega
theorem Inv.tuple (I:Inv X pins σ H s)(h:SqT X.K H a xs):∃its:List Value,Vals xs its/\IsTup s.heap a its.toArray/\xs.length<=Yac:=by
 rcases h with h|⟨o,its,n,hk,hc,hs,hz,r⟩
 ·obtain⟨z,its,r,p⟩:=h.ok I.hok;exact⟨its,r,p.tup,z⟩
 ·refine⟨its.toList,r,⟨o,I.kIn a o hk,hc,n,by simpa using hs⟩,?_⟩
  have e:=r.length;simp only[YdH]at e;omega
theorem Inv.list_inj (I:Inv X pins σ H s)(h:SqL X.K H a xs)(h':SqL X.K H a ys):xs=ys:=by
 obtain⟨its,r,⟨o,n,e,_,_,d⟩,_⟩:=I.list h;obtain⟨its',r',⟨o',n',e',_,_,d'⟩,_⟩:=I.list h';rw[e]at e';cases e';rw[d]at d';injection d' with d1 _
 have:its=its':=by simpa using congrArg Array.toList d1
 subst this;exact r.inj r'
theorem Inv.tuple_inj (I:Inv X pins σ H s)(h:SqT X.K H a xs)(h':SqT X.K H a ys):xs=ys:=by
 obtain⟨its,r,⟨o,e,_,n,d⟩,_⟩:=I.tuple h;obtain⟨its',r',⟨o',e',_,n',d'⟩,_⟩:=I.tuple h';rw[e]at e';cases e';rw[d]at d';injection d' with d1 _
 have:its=its':=by simpa using congrArg Array.toList d1
 subst this;exact r.inj r'
end

noncomputable abbrev Cx.wish (X:Cx)(E:Value->Shared->Prop):Cx:={ X with xe:=E }
noncomputable abbrev Cx.nox (X:Cx):Cx:=X.wish λ_ _=>False
theorem Cx.Ok.wish {X:Cx}(ok:X.Ok)(E:Value->Shared->Prop):(X.wish E).Ok:=
 ⟨ok.mod,ok.kind,ok.glob,ok.blt,ok.above,ok.inj,ok.has,ok.cab,ok.hd,ok.frames,ok.stk,ok.exf,ok.bs,ok.bsz,ok.noex,ok.exfs,ok.funs,ok.frf⟩
theorem Cx.Ok.unwish {X:Cx}{E:Value->Shared->Prop}(ok:(X.wish E).Ok):X.Ok:=
 ⟨ok.mod,ok.kind,ok.glob,ok.blt,ok.above,ok.inj,ok.has,ok.cab,ok.hd,ok.frames,ok.stk,ok.exf,ok.bs,ok.bsz,ok.noex,ok.exfs,ok.funs,ok.frf⟩
section
variable {X:Cx}{pins:List (Addr×Obj)}{σ:St}{H:Hp}{s:Shared}{E:Value->Shared->Prop}
theorem Inv.wish (I:Inv X pins σ H s)(E:Value->Shared->Prop):Inv (X.wish E) pins σ H s:=⟨I.ok.wish E,I.os,I.bare,I.base,I.loc,I.cell,I.free,I.freeC,I.pin,I.hok,I.len⟩
theorem Inv.unwish (I:Inv (X.wish E) pins σ H s):Inv X pins σ H s:=⟨I.ok.unwish,I.os,I.bare,I.base,I.loc,I.cell,I.free,I.freeC,I.pin,I.hok,I.len⟩
theorem SP.unwish {D:Ends}{f:Flow}{s':Shared}(h:SP (X.wish E) pins D f s'):SP X pins D f s':=by
 cases f with
 |next=>obtain⟨σ',H',I,q⟩:=h;exact⟨σ',H',I.unwish,q⟩
 |brk=>obtain⟨σ',H',I,q⟩:=h;exact⟨σ',H',I.unwish,q⟩
 |cont=>obtain⟨σ',H',I,q⟩:=h;exact⟨σ',H',I.unwish,q⟩
 |ret u=>obtain⟨v,σ',H',I,r,q⟩:=h;exact⟨v,σ',H',I.unwish,r,q⟩
end

section
variable {X:Cx}{st:Stmt}{rest:List Stmt}{t u:TS}{e:Expr}{te:TE}{pos:Pos}
def jow:TS:=λD σ H=>D.nx σ H
def tSeq (t u:TS):TS:=λD σ H=>t { D with nx:=u D } σ H
theorem jeS:PSs X [] jow:=λ_ _ σ H _ I h=>YdN ⟨σ,H,I,h⟩
theorem jdC (h1:PS X st t)(h2:PSs X rest u):PSs X (st::rest) (tSeq t u):=by
 intro pins s σ H D I h;refine YbR (thn (h1 pins s σ H { D with nx:=u D } I h) λf s1 q=>?_)
 cases f with
 |next=>
  obtain⟨σ',H',I',q⟩:=q;exact h2 pins s1 σ' H' D I' q
 |ret v=>exact q
 |brk=>exact q
 |cont=>exact q
theorem jkv (h1:PS X st t):PSs X [st] t:=by
 intro pins s σ H D I h;refine YbR (thn (h1 pins s σ H D I h) λf s1 q=>?_);cases f with
 |next=>exact YdN q
 |ret v=>exact q
 |brk=>exact q
 |cont=>exact q
theorem Inv.quiet {pins:List (Addr×Obj)}{σ:St}{H:Hp}{s:Shared}(I:Inv X pins σ H s):interactive X.env=false:=by simp[interactive,I.ok.kind]
def jox (te:TE):TS:=λD σ H=>te σ H λ_ H1=>D.nx σ H1
theorem jkx (he:PE X e te)(hs:Ycl e none pos.line X.env=pure false:=by rfl):PS X (.Expr e pos) (jox te):=by
 intro pins s σ H D I h;exact wpAny_Expr_any (thn (he pins s σ H _ I h) λv s1 ⟨x,H1,I1,r1,q1⟩=>⟨σ,H1,I1,q1⟩) I.quiet hs
def tRet (te:TE):TS:=λD σ H=>te σ H D.rt
theorem jmm (he:PE X e te):PS X (.Return (some e) pos) (tRet te):=by
 intro pins s σ H D I h;exact wpAny_Return_some (thn (he pins s σ H _ I h) λv s1 ⟨x,H1,I1,r1,q1⟩=>⟨x,σ,H1,I1,r1,q1⟩)
def tIfS (c:TT)(t u:TS):TS:=λD σ H=>c σ H λb H1=>if b=true then t D σ H1 else u D σ H1
theorem jmo {c:Expr}{a b:List Stmt}{tc:TT}(hc:PT X c tc)(ha:PSs X a t)(hb:PSs X b u):PS X (.If c a b pos) (tIfS tc t u):=by
 intro pins s σ H D I h;refine wpAny_If (thn (hc pins s σ H _ I h) λd s1 ⟨H1,I1,q1⟩=>?_);cases d with
 |true=>exact ha pins s1 σ H1 D I1 q1
 |false=>exact hb pins s1 σ H1 D I1 q1
end

abbrev TG:=V->St->Hp->(St->Hp->Prop)->Prop
abbrev TGs:=List V->St->Hp->(St->Hp->Prop)->Prop
def PG (X:Cx)(target:Expr)(t:TG):Prop:=
 ∀(pins:List (Addr×Obj)) (s:Shared) (σ:St) (H:Hp) (v:V) (u:Value) (Q:St->Hp->Prop),Inv X pins σ H s->RelV v u->t v σ H Q->
  wpAny (model X.prog X.w) X.A (assign target X.env u) (λ_ s'=>∃σ' H',Inv X pins σ' H' s'/\Q σ' H') X.xe s
def PGs (X:Cx)(ts:List Expr)(t:TGs):Prop:=
 ∀(pins:List (Addr×Obj)) (s:Shared) (σ:St) (H:Hp) (vs:List V) (us:List Value) (Q:St->Hp->Prop),Inv X pins σ H s->Vals vs us->t vs σ H Q->
  wpAny (model X.prog X.w) X.A (assignInOrder ((YaY ts X.env).map (·.2)) us) (λ_ s'=>∃σ' H',Inv X pins σ' H' s'/\Q σ' H') X.xe s
abbrev TSet:=V->V->V->Hp->(Hp->Prop)->Prop
def PSet (X:Cx)(t:TSet):Prop:=
 ∀(pins:List (Addr×Obj)) (s:Shared) (σ:St) (H:Hp) (o i v:V) (ov iv u:Value) (Q:Hp->Prop),Inv X pins σ H s->RelV o ov->RelV i iv->RelV v u->t o i v H Q->
  wpAny (model X.prog X.w) X.A (setItem ov iv u) (λ_ s'=>∃H',Inv X pins σ H' s'/\Q H') X.xe s
section
variable {X:Cx}{pos:Pos}
def jhH (i:Nat):TG:=λv σ H Q=>Q (σ.set i (some v)) H
theorem jeT {i:Nat}{x:Str}(hN:X.N.Nodup)(hi:X.N[i]?=some x)(hx:Loc X.env.scope x)(hf:X.fn x=true\/X.env.scope.names.lookup x=some .local:=by first|exact .inl rfl|exact .inr rfl|assumption):PG X (.Name x pos) (jhH i):=by
 intro pins s σ H v u Q I r h;exact wpAny_assign_Name (jcn I hN hi hx r (λs' I'=>⟨_,H,I',h⟩) hf)
def gNil:TGs:=λvs σ H Q=>vs=[]/\Q σ H
def jpe (t:TG)(u:TGs):TGs:=λvs σ H Q=>∃v r,vs=v::r/\t v σ H λσ' H'=>u r σ' H' Q
theorem jkI:PGs X [] gNil:=by
 intro pins s σ H vs us Q I r h;obtain⟨e,h⟩:=h;subst e;cases r;exact assignInOrder_nil ⟨σ,H,I,h⟩
theorem jiG {e:Expr}{es:List Expr}{t:TG}{u:TGs}(h1:PG X e t)(h2:PGs X es u)
  (hs:(YaY (e::es) X.env).map (·.2)=assign e X.env::(YaY es X.env).map (·.2):=by rfl):PGs X (e::es) (jpe t u):=by
 intro pins s σ H vs us Q I r h;obtain⟨v,vr,e1,h⟩:=h;subst e1;cases r with
 |cons r rr=>
  rw[hs];refine assignInOrder_cons (thn (h1 pins s σ H _ _ _ I r h) λ_ s1 ⟨σ1,H1,I1,q1⟩=>?_);exact h2 pins s1 σ1 H1 _ _ Q I1 rr q1
def gTup (K:Yaa)(n:Nat)(t:TGs):TG:=λv σ H Q=>∃a xs,v=.ref a/\SqT K H a xs/\xs.length=n/\t xs σ H Q
theorem jms {es:List Expr}{k:Nat}{t:TGs}{n:Nat}(hc:X.calm=true)(h:PGs X es t)
  (hn:(YaY es X.env).length=n:=by rfl) (hst:(YaY es X.env).findIdx? (·.1)=none:=by rfl):PG X (.Tuple es k pos) (gTup X.K n t):=by
 intro pins s σ H v u Q I r hw;obtain⟨a,xs,e1,hq,hl,hw⟩:=hw;subst e1;cases r;obtain⟨its,rv,ht,hz⟩:=I.tuple hq;refine assign_Tuple_tuple (I.ok.hd hc) ht (by simp[hn,<- hl,rv.length]) hst λh' hx=>?_
 have I1:Inv X pins σ H { s with heap:=h' }:=I.kept (t':=s.toks) λb o e=>hx b o (YaF (Yal e)) e
 exact h pins _ σ H xs _ Q I1 (by simpa using rv) hw
def gSub (to ti:TE)(t:TSet):TG:=λv σ H Q=>to σ H λo H1=>ti σ H1 λi H2=>t o i v H2 λH3=>Q σ H3
theorem jmt {o i:Expr}{to ti:TE}{t:TSet}(ho:PE X o to)(hi:PE X i ti)(hs:PSet X t)
  (ha:∀v,assign (.Subscript o i pos) X.env v=(do
   let ov <- holding [v] (eval o X.env)
   let iv <- holding [v,ov] (eval i X.env)
   standAt pos
   holding [v,ov,iv] (setItem ov iv v)
   release [v,ov,iv] []):=by intro _;rfl):PG X (.Subscript o i pos) (gSub to ti t):=by
 intro pins s σ H v u Q I r h;rw[ha];refine Yad (Ybo (thn (ho pins s σ H _ I h) λov s1 ⟨x,H1,I1,r1,q1⟩=>?_));refine Yad (Ybo (thn (hi pins s1 σ H1 _ I1 q1) λiv s2 ⟨y,H2,I2,r2,q2⟩=>?_));refine Yad (Ycb (Yad (Ybo (thn (hs pins s2 σ H2 x y v ov iv u _ I2 r1 r2 r q2) λ_ s3 ⟨H3,I3,q3⟩=>?_))));exact wpAny_release ⟨σ,H3,I3,q3⟩
def tAsg (te:TE)(g:TG):TS:=λD σ H=>te σ H λx H1=>g x σ H1 D.nx
theorem jfD {tg e:Expr}{te:TE}{g:TG}(he:PE X e te)(hg:PG X tg g)(hs:YbE [tg] e pos.line X.env=pure false:=by rfl)(hw:Ybv [tg] e X.env=pure none:=by rfl)
  (h1:(YaY [tg] X.env).map (·.2)=[assign tg X.env]:=by rfl):PS X (.Assign [tg] e pos) (tAsg te g):=by
 intro pins s σ H D I h;refine wpAny_Assign_stores (thn (he pins s σ H _ I h) λv s1 ⟨x,H1,I1,r1,q1⟩=>?_) hs hw;rw[h1];exact thn (hg pins s1 σ H1 x v _ I1 r1 q1) λ_ s2 q=>q
def PGet (X:Cx)(t:V->V->Hp->VK->Prop):Prop:=
 ∀(pins:List (Addr×Obj)) (s:Shared) (σ:St) (H:Hp) (o i:V) (ov iv:Value) (Q:VK),Inv X pins σ H s->RelV o ov->RelV i iv->t o i H Q->
  wpAny (model X.prog X.w) X.A (getItem ov iv) (EP X pins σ Q) X.xe s
end

structure It where
 go:Nat->Hp->Prop
 yld:Nat->Hp->V->Hp->Prop
 stop:Nat->Hp->Prop
def FpOk (X:Cx)(pins:List (Addr×Obj))(H:Hp)(b:Addr):Prop:=
 H b=none/\b≠X.env.locals/\b∉X.fs/\(b∈X.ex\/X.s₀.heap.objs.size<=b)/\(∀x c,X.env.cells.lookup x=some c->c≠b)/\∀p∈X.pn++pins,p.1≠b
theorem Inv.fpOk {X:Cx}{pins:List (Addr×Obj)}{σ:St}{H H':Hp}{s:Shared}{b:Addr}(I:Inv X pins σ H s)(hb:s.heap.objs.size<=b)(hn:H' b=none):FpOk X pins H' b:=by
 refine⟨hn,Yfu (Yaq I.lt hb),I.nofs hb,.inr (Yak I.sz hb),λx c e z=>?_,λp hp z=>?_⟩
 ·obtain⟨v,q⟩:=I.cell x c e;exact absurd (Yaq q.lt (by rw[z];exact hb)) (Ya6 _)
 ·exact absurd (Yaq (Yal (I.pin p hp).1) (by rw[z];exact hb)) (Ya6 _)
structure Turn (P:Program)(w:World)(K:Yaa)(tg:Expr)(J:It)(fp:List Addr)(it:Addr)(tn:Nat->Heap->Prop):Prop where
 mem:it∈fp
 obj:∀i h,tn i h->∀b∈fp,∃o,h.get? b=some o/\∀v,o.data≠.cell v
 keep:∀i h h',tn i h->(∀b∈fp,∀o,h.get? b=some o->h'.get? b=some o)->tn i h'
 item:∀(X:Cx),X.prog=P->X.w=w->X.K=K->X.calm=true->∀(i:Nat) (pins:List (Addr×Obj)) (s:Shared) (σ:St) (H:Hp) (E:Value->Shared->Prop),Inv X pins σ H s->(∀b∈fp,FpOk X pins H b)->tn i s.heap->J.go i H->
  wpAny (model P w) X.A (pyNext (.ref it)) (λr s1=>∃u,r=some u/\
   wpAny (model P w) X.A (YcZ tg (.ref it) u) (λ_ s2=>∃x H',Inv X pins σ H' s2/\RelV x u/\J.yld i H x H'/\tn (i+1) s2.heap/\∀b∈fp,H' b=none) E s1) E s
 done:∀(X:Cx),X.prog=P->X.w=w->X.K=K->X.calm=true->∀(i:Nat) (pins:List (Addr×Obj)) (s:Shared) (σ:St) (H:Hp) (E:Value->Shared->Prop),Inv X pins σ H s->(∀b∈fp,FpOk X pins H b)->tn i s.heap->J.stop i H->
  wpAny (model P w) X.A (pyNext (.ref it)) (λr s1=>r=none/\Inv X pins σ H s1) E s
 self:∀(A:Around) (i:Nat) (s:Shared) (Q:Value->Shared->Prop) (E:Value->Shared->Prop),tn i s.heap->Q (.ref it) s->wpAny (model P w) A (pyIter (.ref it)) Q E s
abbrev TI:=St->Hp->(It->Hp->Prop)->Prop
def PIE (X:Cx)(pins:List (Addr×Obj))(σ:St)(tg:Expr)(R:It->Hp->Prop)(itv:Value)(s2:Shared):Prop:=
 ∃(it:Addr) (fp:List Addr) (tn:Nat->Heap->Prop) (J:It) (H':Hp),itv=.ref it/\Inv X pins σ H' s2/\Turn X.prog X.w X.K tg J fp it tn/\tn 0 s2.heap/\(∀b∈fp,FpOk X pins H' b)/\R J H'
def PI (X:Cx)(tg iter:Expr)(wi:TI):Prop:=
 ∀(pins:List (Addr×Obj)) (s:Shared) (σ:St) (H:Hp) (R:It->Hp->Prop),Inv X pins σ H s->wi σ H R->
  wpAny (model X.prog X.w) X.A (eval iter X.env) (λv s1=>wpAny (model X.prog X.w) X.A (pyIter v) (PIE X pins σ tg R) X.xe s1) X.xe s

theorem ji3 {M : Model}{A : Around}{E : Value -> Shared -> Prop}{s : Shared}{tg : Expr}{it : Addr}{u : Value}{o : Obj}{n : String}{vs : Array Value}{Q : Unit -> Shared -> Prop}(ho : s.heap.get? it = some o)(hc : o.cls = .type n)(hd : o.data = .fields vs)
    (hn : ["enumerate", "zip", "dict_itemiterator", "dict_reverseitemiterator", "odict_iterator", "itertools.zip_longest", "itertools.pairwise"].contains n = false) (hQ : Q () s) : wpAny M A (YcZ tg (.ref it) u) Q E s := by
  unfold YcZ
  cases tg <;> first
    | exact Yam hQ
    | (cases u <;> first
        | exact Yam hQ
        | (refine Yad (wpAny_load ho ?_)
           rw [hc, hd]
           show wpAny M A (if (["enumerate", "zip", "dict_itemiterator", "dict_reverseitemiterator", "odict_iterator", "itertools.zip_longest", "itertools.pairwise"].contains n && vs[0]? == some (rawInt _)) = true then _ else _) Q E s
           rw [if_neg (by intro h; rw [hn, Bool.false_and] at h; cases h)]
           exact Yam hQ))

noncomputable def Itl (K:Yaa)(a:Addr):It:=
 ⟨λi H=>∃xs x,SqL K H a xs/\xs[i]?=some x,λi H x H'=>H'=H/\∀xs,SqL K H a xs->xs[i]?=some x,λi H=>∃xs,SqL K H a xs/\xs.length<=i⟩
noncomputable def Itt (K:Yaa)(a:Addr):It:=
 ⟨λi H=>∃xs x,SqT K H a xs/\xs[i]?=some x,λi H x H'=>H'=H/\∀xs,SqT K H a xs->xs[i]?=some x,λi H=>∃xs,SqT K H a xs/\xs.length<=i⟩
noncomputable def Itr (lo:Int)(n:Nat):It:=⟨λi _=>i<n,λi H x H'=>H'=H/\x=.int (lo+i),λi _=>n<=i⟩
section
variable {P:Program}{w:World}{K:Yaa}{tg:Expr}
theorem jgI (a it:Addr):Turn P w K tg (Itl K a) [it] it (λi h=>h.IsListIter it a i) where
 mem:=by simp
 obj:=λi h st b hb=>by
  have e:b=it:=by simpa using hb
  subst e;obtain⟨o,e,c,d⟩:=st;exact⟨o,e,λv z=>by rw[d]at z;cases z⟩
 keep:=λi h h' st k=>st.at λo e=>k it (by simp) o e
 item:=by
  intro X hP hw hK hc i pins s σ H E I hf st hg;subst hP hw hK;obtain⟨xs,x,hq,hx⟩:=hg;obtain⟨its,rv,p,hz⟩:=I.list hq;obtain⟨u,hu,ru⟩:=rv.get hx;obtain⟨f0,f1,f2,f3,f4,f5⟩:=hf it (by simp)
  refine Yf5 st p.isList (x:=u) (by simpa using hu) λh' st' sb=>?_
  have I1:Inv X pins σ H { s with heap:=h' }:=I.turned (t':=s.toks) (λb o hb e=>(sb.2 b hb).trans e) f0 f1 f3 f4 f5
  obtain⟨o,e,c,d⟩:=id st';exact⟨u,rfl,ji3 (s:={ s with heap:=h' }) e c d (by decide) ⟨x,H,I1,ru,⟨rfl,λys hy=>by rw[I.list_inj hy hq];exact hx⟩,st',λb hb=>(hf b hb).1⟩⟩
 done:=by
  intro X hP hw hK hc i pins s σ H E I hf st hg;subst hP hw hK;obtain⟨xs,hq,hx⟩:=hg;obtain⟨its,rv,p,hz⟩:=I.list hq;obtain⟨f0,f1,f2,f3,f4,f5⟩:=hf it (by simp)
  have hl:=rv.length;exact Ygg (I.ok.hd hc) st p.isList (by simp;omega) λh' eb=>⟨rfl,I.turned (t':=s.toks) (λb o hb e=>eb b o hb e) f0 f1 f3 f4 f5⟩
 self:=λ_ _ _ _ _ st h=>wpAny_pyIter_listiter st h
theorem jf9 (a it:Addr):Turn P w K tg (Itt K a) [it] it (λi h=>h.IsTupleIter it a i) where
 mem:=by simp
 obj:=λi h st b hb=>by
  have e:b=it:=by simpa using hb
  subst e;obtain⟨o,e,c,d⟩:=st;exact⟨o,e,λv z=>by rw[d]at z;cases z⟩
 keep:=λi h h' st k=>st.at λo e=>k it (by simp) o e
 item:=by
  intro X hP hw hK hc i pins s σ H E I hf st hg;subst hP hw hK;obtain⟨xs,x,hq,hx⟩:=hg;obtain⟨its,rv,p,hz⟩:=I.tuple hq;obtain⟨u,hu,ru⟩:=rv.get hx;obtain⟨f0,f1,f2,f3,f4,f5⟩:=hf it (by simp)
  refine wpAny_pyNext_tuple_item st (show s.heap.IsTuple a its.toArray from p) (x:=u) (by simpa using hu) λh' st' sb=>?_
  have I1:Inv X pins σ H { s with heap:=h' }:=I.turned (t':=s.toks) (λb o hb e=>(sb.2 b hb).trans e) f0 f1 f3 f4 f5
  obtain⟨o,e,c,d⟩:=id st';exact⟨u,rfl,ji3 (s:={ s with heap:=h' }) e c d (by decide) ⟨x,H,I1,ru,⟨rfl,λys hy=>by rw[I.tuple_inj hy hq];exact hx⟩,st',λb hb=>(hf b hb).1⟩⟩
 done:=by
  intro X hP hw hK hc i pins s σ H E I hf st hg;subst hP hw hK;obtain⟨xs,hq,hx⟩:=hg;obtain⟨its,rv,p,hz⟩:=I.tuple hq;obtain⟨f0,f1,f2,f3,f4,f5⟩:=hf it (by simp)
  have hl:=rv.length;exact wpAny_pyNext_tuple_end (I.ok.hd hc) st (show s.heap.IsTuple a its.toArray from p) (by simp;omega) λh' eb=>⟨rfl,I.turned (t':=s.toks) (λb o hb e=>eb b o hb e) f0 f1 f3 f4 f5⟩
 self:=λ_ _ _ _ _ st h=>wpAny_pyIter_tupleiter st h
theorem jga (it:Addr)(lo:Int)(n:Nat):Turn P w K tg (Itr lo n) [it] it (λi h=>IsRangeIter h it (lo+(i:Nat)*1) ((n:Int)-(i:Nat)) 1) where
 mem:=by simp
 obj:=λi h st b hb=>by
  have e:b=it:=by simpa using hb
  subst e;exact⟨_,st,λv z=>by
   have z':Data.fields _=Data.cell v:=z;cases z'⟩
 keep:=λi h h' st k=>k it (by simp) _ st
 item:=by
  intro X hP hw hK hc i pins s σ H E I hf st hg;subst hP hw hK;obtain⟨f0,f1,f2,f3,f4,f5⟩:=hf it (by simp)
  have W:=Walks.range (prog:=X.prog) (w:=X.w) (I.ok.hd hc) it lo 1 n;refine W.item i s _ _ hg st λv h' tk hv st' kk=>?_;obtain⟨t,rfl⟩:=hv;have I1:Inv X pins σ H { s with heap:=h',toks:=tk }:=I.turned (λb o hb e=>kk b o (by simpa using hb) e) f0 f1 f3 f4 f5
  refine⟨_,rfl,ji3 (s:={ s with heap:=h',toks:=tk }) (n := "range_iterator") st' rfl rfl (by decide) ⟨.int (lo+i),H,I1,⟨t,?_⟩,⟨rfl,rfl⟩,st',λb hb=>(hf b hb).1⟩⟩
  rw[Int.mul_one]
 done:=by
  intro X hP hw hK hc i pins s σ H E I hf st hg;subst hP hw hK;obtain⟨f0,f1,f2,f3,f4,f5⟩:=hf it (by simp)
  exact wpAny_pyNext_range_end (I.ok.hd hc) st (by have:n<=i:=hg;omega) λh' eb=>⟨rfl,I.turned (t':=s.toks) (λb o hb e=>eb b o hb e) f0 f1 f3 f4 f5⟩
 self:=λ_ _ _ _ _ st h=>wpAny_pyIter_rangeiter st h
end
section
variable {X:Cx}{tg:Expr}
theorem jfC {pins:List (Addr×Obj)}{σ:St}{H:Hp}{s:Shared}{R:It->Hp->Prop}{E:Value->Shared->Prop}{lo hi:Int}{t u v:Tok}{tk:Nat}(I:Inv X pins σ H s)(h1:-(2 ^ 62)<=lo)(h2:lo<2 ^ 62)(h3:-(2 ^ 62)<=hi)(h4:hi<2 ^ 62)
  (q:R (Itr lo (hi-lo).toNat) H):wpAny (model X.prog X.w) X.A (pyIter (.ref s.heap.objs.size)) (PIE X pins σ tg R) E { s with heap:=s.heap.push { cls:=.type "range",data:=.fields #[.int lo t,.int hi u,.int 1 v] },toks:=tk }:=by
 refine wpAny_pyIter_range (IsRange.new ..) (small_one h1 h2 h3 h4) ?_;have I1:Inv X pins σ H { s with heap:=s.heap.push { cls:=.type "range",data:=.fields #[.int lo t,.int hi u,.int 1 v] },toks:=tk }:=I.kept λb o e=>Yae _ e
 refine⟨(s.heap.push { cls:=.type "range",data:=.fields #[.int lo t,.int hi u,.int 1 v] }).objs.size,[(s.heap.push { cls:=.type "range",data:=.fields #[.int lo t,.int hi u,.int 1 v] }).objs.size],_,_,H,rfl,
  I1.kept (t':=tk) λb o e=>Yae _ e,jga _ lo (hi-lo).toNat,?_,λb hb=>?_,q⟩
 ·have e1:lo+((0:Nat):Int)*1=lo:=by simp
  have e2:(((hi-lo).toNat:Nat):Int)-((0:Nat):Int)=Builtin.Range.rangeSize lo hi 1:=by rw[rangeSize_one];split<;>omega
  show IsRangeIter _ _ (lo+((0:Nat):Int)*1) ((((hi-lo).toNat:Nat):Int)-((0:Nat):Int)) 1;rw[e1,e2];exact Yas _ rfl
 ·have e:b=(s.heap.push { cls:=.type "range",data:=.fields #[.int lo t,.int hi u,.int 1 v] }).objs.size:=by simpa using hb
  subst e;exact I1.fpOk (Yaf _) (I1.hok.fresh (Yaf _))
def jpb (ta:TA):TI:=λσ H R=>ta σ H λvs H1=>∃j:Int,vs=[.int j]/\-(2 ^ 62)<=j/\j<2 ^ 62/\R (Itr 0 j.toNat) H1
def jpa (ta:TA):TI:=λσ H R=>ta σ H λvs H1=>∃i j:Int,vs=[.int i,.int j]/\(-(2 ^ 62)<=i/\i<2 ^ 62/\-(2 ^ 62)<=j/\j<2 ^ 62)/\R (Itr i (j-i).toNat) H1
theorem jg1 {a:Expr}{ta:TA}{p pos:Pos}(hg:Gl X "range")(hm:X.mg "range" = none)(ha:PA X [a] ta)(hs:Yar [a] X.env=[(false,eval a X.env)]:=by rfl):PI X tg (.Call (.Name "range" p) [a] [] pos) (jpb ta):=by
 intro pins s σ H R I h;refine Call_ (jem I hg hm boot_range (Yct (thn (ha pos pins s σ H _ I h) λus s1 ⟨vs,H1,I1,r1,q1⟩=>?_) hs rfl));obtain⟨j,e,q1,q2,q⟩:=q1;subst e;cases r1 with
 |cons r rr=>
  cases rr;obtain⟨t,rfl⟩:=r;exact call_range_1 (jfC I1 (by omega) (by omega) q1 q2 (by simpa using q))
theorem jg0 {a b:Expr}{ta:TA}{p pos:Pos}(hg:Gl X "range")(hm:X.mg "range" = none)(ha:PA X [a,b] ta)(hs:Yar [a,b] X.env=[(false,eval a X.env),(false,eval b X.env)]:=by rfl)(hs2:Yar [b] X.env=[(false,eval b X.env)]:=by rfl) :
  PI X tg (.Call (.Name "range" p) [a,b] [] pos) (jpa ta):=by
 intro pins s σ H R I h;refine Call_ (jem I hg hm boot_range (Yct (thn (ha pos pins s σ H _ I h) λus s1 ⟨vs,H1,I1,r1,q1⟩=>?_) (by rw[hs,hs2]) (by rw[hs2];rfl)))
 obtain⟨i,j,e,⟨q1,q2,q3,q4⟩,q⟩:=q1;subst e;cases r1 with
 |cons r rr=>
  cases rr with
  |cons r' rr=>
   cases rr;obtain⟨t,rfl⟩:=r;obtain⟨t',rfl⟩:=r';exact call_range_2 (jfC I1 q1 q2 q3 q4 q)

def tFor (wi:TI)(g:TG)(tb:TS):TS:=λD σ H=>wi σ H λJ H1=>∃W:Nat->Nat->St->Hp->Prop,(∃m,W 0 m σ H1)/\∀i m σ H,W i m σ H->
 (J.stop i H/\D.nx σ H)\/(J.go i H/\∃N:St->Hp->Prop,(∀σ' H',N σ' H'->∃m',m'<m/\W (i+1) m' σ' H')/\∀x H',J.yld i H x H'->g x σ H' λσ2 H2=>tb { D with nx:=N,ct:=N,bk:=D.nx } σ2 H2)
noncomputable def jd3 (fp:List Addr)(h:Heap):List (Addr×Obj):=fp.filterMap λb=>(h.get? b).map λo=>(b,o)
theorem jbq {fp:List Addr}{h:Heap}{b:Addr}{o:Obj}(hb:b∈fp)(e:h.get? b=some o):(b,o)∈jd3 fp h:=List.mem_filterMap.mpr ⟨b,hb,by rw[e];rfl⟩
theorem jhf {fp:List Addr}{h:Heap}{p:Addr×Obj}(hp:p∈jd3 fp h):p.1∈fp/\h.get? p.1=some p.2:=by
 obtain⟨b,hb,e⟩:=List.mem_filterMap.mp hp;cases q:h.get? b with
 |none=>rw[q]at e;cases e
 |some o=>
  rw[q]at e;have e':(b,o)=p:=Yan e;subst e';exact⟨hb,q⟩
theorem Inv.pinned {pins:List (Addr×Obj)}{σ:St}{H:Hp}{s:Shared}{fp:List Addr}(I:Inv X pins σ H s)(hf:∀b∈fp,FpOk X pins H b)(ho:∀b∈fp,∃o,s.heap.get? b=some o/\∀v,o.data≠.cell v):Inv X (pins++jd3 fp s.heap) σ H s:=
 I.pins_of λp hp=>(List.mem_append.mp hp).elim (λz=>I.pin p (Yaz _ z)) λz=>by
  obtain⟨hb,e⟩:=jhf z;obtain⟨f0,f1,f2,_⟩:=hf p.1 hb;obtain⟨o,e',d⟩:=ho p.1 hb;rw[e]at e';cases e';exact⟨e,f0,f1,f2,d⟩
theorem Inv.unpinned {pins pl:List (Addr×Obj)}{σ:St}{H:Hp}{s:Shared}(I:Inv X (pins++pl) σ H s):Inv X pins σ H s:=I.pins_of λp hp=>I.pin p (Yaz _ (Ya1 _ hp))
theorem jmp {iter:Expr}{body:List Stmt}{wi:TI}{g:TG}{tb:TS}{pos:Pos}(hp:Yeu (model X.prog X.w) X.A X.env X.xe)(hc:X.calm=true)(hi:PI X tg iter wi)(hg:PG X tg g)(hb:PSs X body tb)
  (hs:∀x,Ya2 iter X.env x=pure x:=by intro _;rfl):PS X (.For tg iter body [] pos) (tFor wi g tb):=by
 intro pins s σ H D I h;refine wpAny_For (thn (hi pins s σ H _ I h) λv s1 h1=>thn h1 λitv s2 h2=>?_) hs;obtain⟨it,fp,tn,J,H2,e,I2,T,st2,f2,W,⟨m0,w0⟩,turn⟩:=h2;subst e;have stat:∀{H':Hp},(∀b∈fp,H' b=none)->∀b∈fp,FpOk X pins H' b:=λhn b hb=>⟨hn b hb,(f2 b hb).2⟩;refine codeAny_forLoop_any (λn s'=>∃i σ' H',Inv X pins σ' H' s'/\tn i s'.heap/\(∀b∈fp,H' b=none)/\W i n σ' H') ?_ m0 ⟨0,σ,H2,I2,st2,λb hb=>(f2 b hb).1,w0⟩;rintro n s3 ⟨i,σ3,H3,I3,st3,fr3,w3⟩;rcases turn i n σ3 H3 w3 with⟨stop,qn⟩|⟨go,N,hN,step⟩
 ·refine YcY hp (thn (T.done X rfl rfl rfl hc i pins s3 σ3 H3 X.xe I3 (stat fr3) st3 stop) λr s4 ⟨hr,I4⟩=>?_);subst hr;exact YdN ⟨σ3,H3,I4,qn⟩
 ·refine YcY hp (thn (T.item X rfl rfl rfl hc i pins s3 σ3 H3 X.xe I3 (stat fr3) st3 go) λr s4 ⟨u,hr,h4⟩=>?_);subst hr;refine YcY hp (thn h4 λ_ s5 ⟨x,H5,I5,r5,y5,st5,fr5⟩=>?_);have I5':=I5.pinned (stat fr5) (T.obj _ _ st5);refine YcY hp (thn (hg _ s5 σ3 H5 x u _ I5' r5 (step x H5 y5)) λ_ s6 ⟨σ6,H6,I6,q6⟩=>?_);refine YcY hp (thn (hb _ s6 σ6 H6 _ I6 q6) λf s7 q7=>?_);have again:∀{σ7:St} {H7:Hp},Inv X (pins++jd3 fp s5.heap) σ7 H7 s7->N σ7 H7->∃m,m<n/\∃i σ' H',Inv X pins σ' H' s7/\tn i s7.heap/\(∀b∈fp,H' b=none)/\W i m σ' H':=λ{σ7 H7} I7 n7=>by
   obtain⟨m',hm,w7⟩:=hN σ7 H7 n7;refine⟨m',hm,i+1,σ7,H7,I7.unpinned,T.keep _ _ _ st5 λb hb o e=>(I7.pin (b,o) (Yaz _ (Yaz _ (jbq hb e)))).1,λb hb=>?_,w7⟩;obtain⟨o,e,d⟩:=T.obj _ _ st5 b hb;exact(I7.pin (b,o) (Yaz _ (Yaz _ (jbq hb e)))).2.1
  cases f with
  |next=>obtain⟨σ7,H7,I7,n7⟩:=q7;exact again I7 n7
  |cont=>obtain⟨σ7,H7,I7,n7⟩:=q7;exact again I7 n7
  |brk=>obtain⟨σ7,H7,I7,q7⟩:=q7;exact⟨σ7,H7,I7.unpinned,q7⟩
  |ret v=>obtain⟨x7,σ7,H7,I7,r7,q7⟩:=q7;exact⟨x7,σ7,H7,I7.unpinned,r7,q7⟩
end


abbrev R2:=V->V->Hp->VK->Prop
def OpR (X:Cx)(f:Value->Value->Sem Value)(r:R2):Prop:=
 ∀(pins:List (Addr×Obj)) (s:Shared) (σ:St) (H:Hp) (x y:V) (v u:Value) (Q:VK),Inv X pins σ H s->RelV x v->RelV y u->r x y H Q->
  wpAny (model X.prog X.w) X.A (f v u) (EP X pins σ Q) X.xe s
def UnR (X:Cx)(f:Value->Sem Value)(r:V->Hp->VK->Prop):Prop:=
 ∀(pins:List (Addr×Obj)) (s:Shared) (σ:St) (H:Hp) (x:V) (v:Value) (Q:VK),Inv X pins σ H s->RelV x v->r x H Q->
  wpAny (model X.prog X.w) X.A (f v) (EP X pins σ Q) X.xe s
def jaG (X:Cx)(f:Value)(r:List V->Hp->VK->Prop):Prop:=
 ∀(pins:List (Addr×Obj)) (s:Shared) (σ:St) (H:Hp) (xs:List V) (us:List Value) (Q:VK),Inv X pins σ H s->Vals xs us->r xs H Q->
  wpAny (model X.prog X.w) X.A (call f us) (EP X pins σ Q) X.xe s
def TruR (X:Cx)(r:V->Hp->(Bool->Hp->Prop)->Prop):Prop:=
 ∀(pins:List (Addr×Obj)) (s:Shared) (σ:St) (H:Hp) (x:V) (v:Value) (Q:Bool->Hp->Prop),Inv X pins σ H s->RelV x v->r x H Q->
  wpAny (model X.prog X.w) X.A (truthy v) (TP X pins σ Q) X.xe s

def tOp (r:R2)(ta tb:TE):TE:=λσ H Q=>ta σ H λx H1=>tb σ H1 λy H2=>r x y H2 Q
def tUn (r:V->Hp->VK->Prop)(ta:TE):TE:=λσ H Q=>ta σ H λx H1=>r x H1 Q
def rI (C:Int->Int->Prop)(g:Int->Int->V):R2:=λx y H Q=>∃i j,x=.int i/\y=.int j/\C i j/\Q (g i j) H
def rI0 (g:Int->Int->V):R2:=λx y H Q=>∃i j,x=.int i/\y=.int j/\Q (g i j) H
def rU (g:Int->V):V->Hp->VK->Prop:=λx H Q=>∃i,x=.int i/\Q (g i) H

section
variable {X:Cx}{a b c:Expr}{ta tb tc:TE}{pos:Pos}

theorem binT (ha:PE X a ta)(hb:PE X b tb){pins:List (Addr×Obj)}{s:Shared}{σ:St}{H:Hp}{R:V->V->Hp->Prop}(I:Inv X pins σ H s)
  (h:ta σ H λx H1=>tb σ H1 λy H2=>R x y H2) {Q:Value->Shared->Prop} {f:Value->Value->Sem Value}
  (hf:∀v u s2 x y H2,Inv X pins σ H2 s2->RelV x v->RelV y u->R x y H2->wpAny (model X.prog X.w) X.A (f v u) Q X.xe s2) :
  wpAny (model X.prog X.w) X.A (eval a X.env) (λv s₁=>wpAny (model X.prog X.w) X.A (eval b X.env) (λu s₂=>wpAny (model X.prog X.w) X.A (f v u) Q X.xe s₂) X.xe s₁) X.xe s:=by
 refine thn (ha pins s σ H _ I h) λv s1 ⟨x,H1,I1,r1,q1⟩=>?_;refine thn (hb pins s1 σ H1 _ I1 q1) λu s2 ⟨y,H2,I2,r2,q2⟩=>?_;exact hf v u s2 x y H2 I2 r1 r2 q2

theorem joU {op:Ydc}{r:R2}(ho:OpR X (Ybf op) r)(ha:PE X a ta)(hb:PE X b tb):PE X (.BinOp a op b pos) (tOp r ta tb):=by
 intro pins s σ H Q I h;exact wpAny_BinOp (binT ha hb I h λv u s2 x y H2 I2 rx ry q=>ho pins s2 σ H2 x y v u Q I2 rx ry q)
theorem joS {op:UnaryOp}{r:V->Hp->VK->Prop}(ho:UnR X (unaryOp op) r)(ha:PE X a ta):PE X (.UnaryOp op a pos) (tUn r ta):=by
 intro pins s σ H Q I h;exact UnaryOp_ (thn (ha pins s σ H _ I h) λv s1 ⟨x,H1,I1,r1,q1⟩=>ho pins s1 σ H1 x v Q I1 r1 q1)
section
variable {f:Value->Value->Sem Value}
theorem opI {C:Int->Int->Prop}{g:Int->Int->Int}
  (rule:∀(i j:Int) (t u:Tok) (s:Shared) (Q:Value->Shared->Prop) (E:Value->Shared->Prop),C i j->Q (.int (g i j) s.toks) { s with toks:=s.toks+1 }->wpAny (model X.prog X.w) X.A (f (.int i t) (.int j u)) Q E s) :
  OpR X f (rI C λi j=>.int (g i j)):=by
 intro pins s σ H x y v u Q I rx ry h;obtain⟨i,j,rfl,rfl,hc,q⟩:=h;obtain⟨t,rfl⟩:=rx;obtain⟨t',rfl⟩:=ry;exact rule i j t t' s _ _ hc ⟨.int (g i j),H,I.tok _,⟨_,rfl⟩,q⟩
theorem opI0 {g:Int->Int->Int}
  (rule:∀(i j:Int) (t u:Tok) (s:Shared) (Q:Value->Shared->Prop) (E:Value->Shared->Prop),Q (.int (g i j) s.toks) { s with toks:=s.toks+1 }->wpAny (model X.prog X.w) X.A (f (.int i t) (.int j u)) Q E s) :
  OpR X f (rI0 λi j=>.int (g i j)):=by
 intro pins s σ H x y v u Q I rx ry h;obtain⟨i,j,rfl,rfl,q⟩:=h;obtain⟨t,rfl⟩:=rx;obtain⟨t',rfl⟩:=ry;exact rule i j t t' s _ _ ⟨.int (g i j),H,I.tok _,⟨_,rfl⟩,q⟩
theorem opB0 {g:Int->Int->Bool}
  (rule:∀(i j:Int) (t u:Tok) (s:Shared) (Q:Value->Shared->Prop) (E:Value->Shared->Prop),Q (.bool (g i j)) s->wpAny (model X.prog X.w) X.A (f (.int i t) (.int j u)) Q E s) :
  OpR X f (rI0 λi j=>.bl (g i j)):=by
 intro pins s σ H x y v u Q I rx ry h;obtain⟨i,j,rfl,rfl,q⟩:=h;obtain⟨t,rfl⟩:=rx;obtain⟨t',rfl⟩:=ry;exact rule i j t t' s _ _ ⟨.bl (g i j),H,I,rfl,q⟩

end
def CDiv (i j:Int):Prop:=0<j/\j<1073741824
def CPow (i j:Int):Prop:=0<=j/\j<=1000000/\i.natAbs<2 ^ 64
def CMul (i j:Int):Prop:=(-(2 ^ 64)<i/\i<2 ^ 64)\/(-(2 ^ 64)<j/\j<2 ^ 64)
theorem CMul.ok {i j:Int}(h:CMul i j):IntMulOk i j:=by
 rcases h with⟨h1,h2⟩|⟨h1,h2⟩
 ·exact .of_left (intBits_le_64 h1 h2)
 ·exact .of_right (intBits_le_64 h1 h2)
theorem jmU:OpR X (Ybf .Add) (rI0 λi j=>.int (i+j)):=opI0 λ_ _ _ _ _ _ _ q=>add_int q
theorem jmJ:OpR X (Ybf .Sub) (rI0 λi j=>.int (i-j)):=opI0 λ_ _ _ _ _ _ _ q=>sub_int q
theorem jmN:OpR X (Ybf .Mult) (rI CMul λi j=>.int (i*j)):=opI λ_ _ _ _ _ _ _ hc q=>mul_int q hc.ok
theorem jkS:OpR X (Ybf .FloorDiv) (rI CDiv λi j=>.int (i/j)):=opI λi j _ _ _ _ _ hc q=>by
 have h1:(0:Int)<j:=hc.1;have h2:j<1073741824:=hc.2;exact floordiv_int (by omega) (by rw[Int.fdiv_eq_ediv_of_nonneg i (by omega)];exact q) (.inl (PyProof.noPylong_small (by omega)))
theorem jmO:OpR X (Ybf .Mod) (rI (λ_ j=>0<j) λi j=>.int (i%j)):=opI λi j _ _ _ _ _ hc q=>by
 have h1:(0:Int)<j:=hc;exact mod_int' (by omega) (by rw[Int.fmod_eq_emod_of_nonneg i (by omega)];exact q)
theorem jmL:OpR X (Ybf .Pow) (rI CPow λi j=>.int (i ^ j.toNat)):=opI λ_ _ _ _ _ _ _ hc q=>pow_int_small hc.1 hc.2.1 hc.2.2 q
theorem unI {f:Value->Sem Value}{g:Int->Int}
  (rule:∀(i:Int) (t:Tok) (s:Shared) (Q:Value->Shared->Prop) (E:Value->Shared->Prop),Q (.int (g i) s.toks) { s with toks:=s.toks+1 }->wpAny (model X.prog X.w) X.A (f (.int i t)) Q E s) :
  UnR X f (rU λi=>.int (g i)):=by
 intro pins s σ H x v Q I rx h;obtain⟨i,rfl,q⟩:=h;obtain⟨t,rfl⟩:=rx;exact rule i t s _ _ ⟨.int (g i),H,I.tok _,⟨_,rfl⟩,q⟩
theorem jlK:UnR X (unaryOp .USub) (rU λi=>.int (-i)):=unI λ_ _ _ _ _ q=>neg_int q
end

noncomputable def scal:V->V->Bool
 |.non,.non=>true|.non,.int _=>true|.int _,.non=>true|.non,.bl _=>true|.bl _,.non=>true|.non,.str _=>true|.str _,.non=>true
 |.int _,.int _=>true|.bl _,.bl _=>true|.str _,.str _=>true|.byt _,.byt _=>true
 |.int _,.str _=>true|.str _,.int _=>true|.bl _,.str _=>true|.str _,.bl _=>true
 |_,_=>false
def rEq:R2:=λx y H Q=>scal x y=true/\Q (.bl (decide (x=y))) H
def rNe:R2:=λx y H Q=>scal x y=true/\Q (.bl (!decide (x=y))) H

theorem jhQ {i j:Int}:decide (V.int i=V.int j)=(i==j):=by
 rw[Ybl];simp
theorem jjT {i j:Bool}:decide (V.bl i=V.bl j)=(i==j):=by
 rw[Ybl];simp
theorem jhP {i j:Str}:decide (V.str i=V.str j)=(i==j):=by
 rw[Ybl];simp
theorem jhR {i j:Array UInt8}:decide (V.byt i=V.byt j)=(i.toList==j.toList):=by
 rw[Ybl];cases i;cases j;simp

section
variable {X:Cx}{a b c:Expr}{ta tb tc:TE}{pos:Pos}
theorem jak {pins:List (Addr×Obj)}{σ:St}{H:Hp}{s:Shared}{Q:VK}{k k':Bool}(I:Inv X pins σ H s)(q:Q (.bl k) H)(e:k=k'):EP X pins σ Q (.bool k') s:=by
 subst e;exact⟨.bl k,H,I,rfl,q⟩
theorem jo1:OpR X (YaM .Eq) rEq:=by
 intro pins s σ H x y v u Q I rx ry h;obtain⟨hs,q⟩:=h;cases x with
 |non=>
  cases rx;cases y with
  |non=>cases ry;exact PySem.EqNone.eq_none_none (jak I q (by simp))
  |bl j=>cases ry;exact PySem.EqNone.eq_none_bool (jak I q (by simp))
  |int j=>obtain⟨t',rfl⟩:=ry;exact PySem.EqNone.eq_none_int (jak I q (by simp))
  |str j=>obtain⟨t',rfl⟩:=ry;exact PySem.EqNone.eq_none_str (jak I q (by simp))
  |_=>exact absurd (show false=true from hs) Yaj
 |bl i=>
  cases rx;cases y with
  |non=>cases ry;exact PySem.EqNone.eq_bool_none (jak I q (by simp))
  |bl j=>cases ry;exact eq_bool (jak I q jjT)
  |str j=>obtain⟨t',rfl⟩:=ry;exact PySem.EqMixed.eq_bool_str (jak I q (by simp))
  |_=>exact absurd (show false=true from hs) Yaj
 |int i=>
  obtain⟨t,rfl⟩:=rx;cases y with
  |non=>cases ry;exact PySem.EqNone.eq_int_none (jak I q (by simp))
  |int j=>obtain⟨t',rfl⟩:=ry;exact eq_int (jak I q jhQ)
  |str j=>obtain⟨t',rfl⟩:=ry;exact PySem.EqMixed.eq_int_str (jak I q (by simp))
  |_=>exact absurd (show false=true from hs) Yaj
 |str i=>
  obtain⟨t,rfl⟩:=rx;cases y with
  |non=>cases ry;exact PySem.EqNone.eq_str_none (jak I q (by simp))
  |bl j=>cases ry;exact PySem.EqMixed.eq_str_bool (jak I q (by simp))
  |int j=>obtain⟨t',rfl⟩:=ry;exact PySem.EqMixed.eq_str_int (jak I q (by simp))
  |str j=>obtain⟨t',rfl⟩:=ry;exact eq_str (jak I q jhP)
  |_=>exact absurd (show false=true from hs) Yaj
 |byt i=>
  obtain⟨t,rfl⟩:=rx;cases y with
  |byt j=>obtain⟨t',rfl⟩:=ry;exact PySem.W.eq_bytes (jak I q jhR)
  |_=>exact absurd (show false=true from hs) Yaj
 |_=>cases y<;>exact absurd (show false=true from hs) Yaj
theorem joX:OpR X (YaM .NotEq) rNe:=by
 intro pins s σ H x y v u Q I rx ry h;obtain⟨hs,q⟩:=h;cases x with
 |non=>
  cases rx;cases y with
  |non=>cases ry;exact PySem.EqNone.ne_none_none (jak I q (by simp))
  |bl j=>cases ry;exact PySem.EqNone.ne_none_bool (jak I q (by simp))
  |int j=>obtain⟨t',rfl⟩:=ry;exact PySem.EqNone.ne_none_int (jak I q (by simp))
  |str j=>obtain⟨t',rfl⟩:=ry;exact PySem.EqNone.ne_none_str (jak I q (by simp))
  |_=>exact absurd (show false=true from hs) Yaj
 |bl i=>
  cases rx;cases y with
  |non=>cases ry;exact PySem.EqNone.ne_bool_none (jak I q (by simp))
  |bl j=>cases ry;exact ne_bool (jak I q (congrArg not jjT))
  |str j=>obtain⟨t',rfl⟩:=ry;exact PySem.EqMixed.ne_bool_str (jak I q (by simp))
  |_=>exact absurd (show false=true from hs) Yaj
 |int i=>
  obtain⟨t,rfl⟩:=rx;cases y with
  |non=>cases ry;exact PySem.EqNone.ne_int_none (jak I q (by simp))
  |int j=>obtain⟨t',rfl⟩:=ry;exact ne_int (jak I q (congrArg not jhQ))
  |str j=>obtain⟨t',rfl⟩:=ry;exact PySem.EqMixed.ne_int_str (jak I q (by simp))
  |_=>exact absurd (show false=true from hs) Yaj
 |str i=>
  obtain⟨t,rfl⟩:=rx;cases y with
  |non=>cases ry;exact PySem.EqNone.ne_str_none (jak I q (by simp))
  |bl j=>cases ry;exact PySem.EqMixed.ne_str_bool (jak I q (by simp))
  |int j=>obtain⟨t',rfl⟩:=ry;exact PySem.EqMixed.ne_str_int (jak I q (by simp))
  |str j=>obtain⟨t',rfl⟩:=ry;exact ne_str (jak I q (congrArg not jhP))
  |_=>exact absurd (show false=true from hs) Yaj
 |byt i=>
  obtain⟨t,rfl⟩:=rx;cases y with
  |byt j=>obtain⟨t',rfl⟩:=ry;exact PySem.W.ne_bytes (jak I q (congrArg not jhR))
  |_=>exact absurd (show false=true from hs) Yaj
 |_=>cases y<;>exact absurd (show false=true from hs) Yaj

theorem joY:OpR X (YaM .Lt) (rI0 λi j=>.bl (decide (i<j))):=opB0 λ_ _ _ _ _ _ _ q=>lt_int q
theorem joZ:OpR X (YaM .LtE) (rI0 λi j=>.bl (decide (i<=j))):=opB0 λ_ _ _ _ _ _ _ q=>le_int q
theorem jo0:OpR X (YaM .Gt) (rI0 λi j=>.bl (decide (j<i))):=opB0 λ_ _ _ _ _ _ _ q=>gt_int q
theorem jg9:OpR X (YaM .In) (λx y H Q=>∃i j,x=.str i/\y=.str j/\Q (.bl (!(Yav j i 0 j.length 1).isEmpty)) H):=by
 intro pins s σ H x y v u Q I rx ry h;obtain⟨i,j,rfl,rfl,q⟩:=h;obtain⟨t,rfl⟩:=rx;obtain⟨t',rfl⟩:=ry;exact in_str (jak I q rfl)

theorem jd5:OpR X (YaM .NotIn) (λx y H Q=>∃i j,x=.str i/\y=.str j/\Q (.bl (!(!(Yav j i 0 j.length 1).isEmpty))) H):=by
 intro pins s σ H x y v u Q I rx ry h;obtain⟨i,j,rfl,rfl,q⟩:=h;obtain⟨t,rfl⟩:=rx;obtain⟨t',rfl⟩:=ry;exact notIn_str (jak I q rfl)
theorem OpR.or {f:Value->Value->Sem Value}{r r':R2}(h:OpR X f r)(h':OpR X f r'):OpR X f (λx y H Q=>r x y H Q\/r' x y H Q):=by
 intro pins s σ H x y v u Q I rx ry q;rcases q with q|q
 ·exact h pins s σ H x y v u Q I rx ry q
 ·exact h' pins s σ H x y v u Q I rx ry q

theorem jkM {op:CmpOp}{r:R2}(ho:OpR X (YaM op) r)(ha:PE X a ta)(hb:PE X b tb)(hm:Yen op b=false):PE X (.Compare a [op] [b] pos) (tOp r ta tb):=by
 intro pins s σ H Q I h;exact wpAny_Compare1 (binT ha hb I h λv u s2 x y H2 I2 rx ry q=>ho pins s2 σ H2 x y v u Q I2 rx ry q) hm
def jlV (t:TE):TT:=λσ H Q=>t σ H λx H'=>∃k,x=.bl k/\Q k H'
theorem jku {op:CmpOp}{r:R2}(ho:OpR X (YaM op) r)(ha:PE X a ta)(hb:PE X b tb)(hm:Yen op b=false):PT X (.Compare a [op] [b] pos) (jlV (tOp r ta tb)):=by
 intro pins s σ H Q I h;refine wpAny_isTrue_Compare1 (thn (ha pins s σ H _ I h) λv s1 ⟨x,H1,I1,r1,q1⟩=>thn (hb pins s1 σ H1 _ I1 q1) λu s2 ⟨y,H2,I2,r2,q2⟩=>
  thn (ho pins s2 σ H2 x y v u _ I2 r1 r2 q2) λc s3 ⟨z,H3,I3,r3,k,e,q3⟩=>?_) hm
 subst e;cases r3;exact Yba ⟨H3,I3,q3⟩
def jjl (r r':R2)(ta tb tc:TE):TE:=λσ H Q=>ta σ H λx H1=>tb σ H1 λy H2=>r x y H2 λz H3=>∃k,z=.bl k/\
 (if k=true then tc σ H3 λw' H4=>r' y w' H4 Q else Q (.bl false) H3)
section
variable {op op':CmpOp}{r r':R2}
theorem jiK (ho:OpR X (YaM op) r)(ho':OpR X (YaM op') r')(ha:PE X a ta)(hb:PE X b tb)(hc:PE X c tc)
  (hm:Ygj [op,op'] [b,c]=false:=by with_unfolding_all rfl):PE X (.Compare a [op,op'] [b,c] pos) (jjl r r' ta tb tc):=by
 intro pins s σ H Q I h;refine Compare_chain (thn (ha pins s σ H _ I h) λv s1 ⟨x,H1,I1,r1,q1⟩=>chain_link (thn (hb pins s1 σ H1 _ I1 q1) λu s2 ⟨y,H2,I2,r2,q2⟩=>
  thn (ho pins s2 σ H2 x y v u _ I2 r1 r2 q2) λd s3 ⟨z,H3,I3,r3,k,e,q3⟩=>?_)) hm
 subst e;cases r3;refine Yba ?_;cases k with
 |false=>exact ite_ff ⟨.bl false,H3,I3,rfl,q3⟩
 |true=>exact ite_tt (chain_last (thn (hc pins s3 σ H3 _ I3 q3) λw' s4 ⟨z',H4,I4,r4,q4⟩=>ho' pins s4 σ H4 y z' u w' Q I4 r2 r4 q4))
theorem jiB (ho:OpR X (YaM op) r)(ho':OpR X (YaM op') r')(ha:PE X a ta)(hb:PE X b tb)(hc:PE X c tc)
  (hm:Ygj [op,op'] [b,c]=false:=by with_unfolding_all rfl):PT X (.Compare a [op,op'] [b,c] pos) (jlV (jjl r r' ta tb tc)):=by
 intro pins s σ H Q I h;refine isTrue_chain (thn (ha pins s σ H _ I h) λv s1 ⟨x,H1,I1,r1,q1⟩=>test_link (thn (hb pins s1 σ H1 _ I1 q1) λu s2 ⟨y,H2,I2,r2,q2⟩=>
  thn (ho pins s2 σ H2 x y v u _ I2 r1 r2 q2) λd s3 ⟨z,H3,I3,r3,k,e,q3⟩=>?_)) hm
 subst e;cases r3;refine Yba ?_;cases k with
 |false=>
  obtain⟨k',e',q'⟩:=q3;cases e';exact ite_ff ⟨H3,I3,q'⟩
 |true=>
  refine ite_tt (test_last (thn (hc pins s3 σ H3 _ I3 q3) λw' s4 ⟨z',H4,I4,r4,q4⟩=>thn (ho' pins s4 σ H4 y z' u w' _ I4 r2 r4 q4) λd' s5 ⟨z2,H5,I5,r5,k2,e2,q5⟩=>?_));subst e2;cases r5;exact Yba ⟨H5,I5,q5⟩

end
def TruV (K:Yaa)(x:V)(H:Hp)(k:Bool):Prop:=
 match x with
 |.non=>k=false
 |.bl b=>k=b
 |.int i=>k=(i != 0)
 |.str y=>y.length<=Yac/\k=((y.length:Int) != 0)
 |.byt y=>y.size<=Yac/\k=((y.size:Int) != 0)
 |.ref p=>(∃xs,SqL K H p xs/\k = !xs.isEmpty)\/(∃xs,SqT K H p xs/\k = !xs.isEmpty)\/∃kvs,H p=some (.dK kvs)/\k = !kvs.isEmpty
 |_=>False
theorem jgt {κ:Type}{kvs:List (κ×V)}{vs:List (κ×Value)}(r:KV kvs vs):(!vs.isEmpty) = !kvs.isEmpty:=by
 cases r<;>rfl
theorem jdh {xs:List V}{its:List Value}(r:Vals xs its):(!its.toArray.isEmpty) = !xs.isEmpty:=by
 cases r<;>simp
theorem jcN:(Yac:Nat)<2 ^ 63:=by rw[YbO];decide
theorem jft:TruR X (λx H Q=>∃k,TruV X.K x H k/\Q k H):=by
 intro pins s σ H x v Q I rx h;obtain⟨k,e,q⟩:=h;have hl:=jcN;have hs:Yac=16777216:=YbO;cases x with
 |non=>
  cases rx;have e':k=false:=e;subst e';exact truthy_none ⟨H,I,q⟩
 |bl b=>
  cases rx;have e':k=b:=e;subst e';exact Yba ⟨H,I,q⟩
 |int i=>
  obtain⟨t,rfl⟩:=rx;have e':k=(i != 0):=e;subst e';exact PySem.P.truthy_int ⟨H,I,q⟩
 |str y=>
  obtain⟨t,rfl⟩:=rx;obtain⟨hy,e'⟩:y.length<=Yac/\k=((y.length:Int) != 0):=e;subst e';exact PySem.P.truthy_str (by omega) ⟨H,I.tok _,q⟩
 |byt y=>
  obtain⟨t,rfl⟩:=rx;obtain⟨hy,e'⟩:y.size<=Yac/\k=((y.size:Int) != 0):=e;subst e';exact PySem.W.truthy_bytes (by omega) ⟨H,I.tok _,q⟩
 |ref p=>
  cases rx;have e':(∃xs,SqL X.K H p xs/\k = !xs.isEmpty)\/(∃xs,SqT X.K H p xs/\k = !xs.isEmpty)\/∃kvs,H p=some (.dK kvs)/\k = !kvs.isEmpty:=e;rcases e' with⟨xs,hx,e'⟩|⟨xs,hx,e'⟩|⟨kvs,hx,e'⟩
  ·subst e';obtain⟨its,r,pl,hz⟩:=I.list hx;have hlen:=r.length;exact wpAny_truthy_list pl.isList (by simp only[Yai];omega) ⟨H,I.tok _,by rw[jdh r];exact q⟩
  ·subst e';obtain⟨its,r,pl,hz⟩:=I.tuple hx;have hlen:=r.length;exact truthy_tuple pl (by simp only[Yai];omega) ⟨H,I.tok _,by rw[jdh r];exact q⟩
  ·subst e';obtain⟨hz,hS,vs,r,m⟩:kvs.length<=Yac/\(p==Ya7)=false/\∃vs,KV kvs vs/\s.heap.DictOf (jap X.prog X.w) p vs:=I.hok p _ hx;have hlen:kvs.length=vs.length:=YdI r;exact wpAny_truthy_dict hS m (by omega) ⟨H,I.tok _,by rw[jgt r];exact q⟩
 |_=>exact(show False from e).elim
theorem jiA (ha:PE X a ta)(he:∀whole,isTrue a X.env whole=(do let v <- whole;standAt a.pos;holding [v] (truthy v))) :
  PT X a (λσ H Q=>ta σ H λx H'=>∃k,TruV X.K x H' k/\Q k H'):=by
 intro pins s σ H Q I h;exact isTrue_plain (thn (ha pins s σ H _ I h) λv s1 ⟨x,H1,I1,r1,q1⟩=>jft pins s1 σ H1 x v Q I1 r1 q1) (he _)

theorem jgi:OpR X (Ybf .Add) (λx y H Q=>∃i j,x=.str i/\y=.str j/\i.length+j.length<=Yac/\Q (.str (i++j)) H):=by
 intro pins s σ H x y v u Q I rx ry h;obtain⟨i,j,rfl,rfl,hz,q⟩:=h;obtain⟨t,rfl⟩:=rx;obtain⟨t',rfl⟩:=ry;exact add_str (λt' tk=>⟨.str (i++j),H,I.tok _,⟨_,rfl⟩,q⟩) hz
theorem jcf {x:V}{us:List Value}(r:Vals [x] us):∃u,us=[u]/\RelV x u:=by
 cases r with
 |cons r1 r2=>cases r2;exact⟨_,rfl,r1⟩
theorem jlJ {x y:V}{us:List Value}(r:Vals [x,y] us):∃u w',us=[u,w']/\RelV x u/\RelV y w':=by
 cases r with
 |cons r1 r2=>
  cases r2 with
  |cons r3 r4=>cases r4;exact⟨_,_,rfl,r1,r3⟩
theorem jh5 (hc:X.calm=true):jaG X (.builtin "max") (λxs H Q=>∃i j,xs=[.int i,.int j]/\Q (.int (if j>i then j else i)) H):=by
 intro pins s σ H xs us Q I r h;obtain⟨i,j,rfl,q⟩:=h;obtain⟨u,w',rfl,⟨t,rfl⟩,⟨t',rfl⟩⟩:=jlJ r;refine max_two_ints (I.ok.hd hc) λh' tk k=>⟨_,H,I.kept k,?_,q⟩;by_cases hj:j>i
 ·rw[if_pos hj,if_pos hj];exact⟨_,rfl⟩
 ·rw[if_neg hj,if_neg hj];exact⟨_,rfl⟩
theorem jh4 (hc:X.calm=true):jaG X (.builtin "min") (λxs H Q=>∃i j,xs=[.int i,.int j]/\Q (.int (if j<i then j else i)) H):=by
 intro pins s σ H xs us Q I r h;obtain⟨i,j,rfl,q⟩:=h;obtain⟨u,w',rfl,⟨t,rfl⟩,⟨t',rfl⟩⟩:=jlJ r;refine min_two_ints (I.ok.hd hc) λh' tk k=>⟨_,H,I.kept k,?_,q⟩;by_cases hj:j<i
 ·rw[if_pos hj,if_pos hj];exact⟨_,rfl⟩
 ·rw[if_neg hj,if_neg hj];exact⟨_,rfl⟩
theorem jib:jaG X (.type "int") (λxs H Q=>(∃i,xs=[.int i]/\Q (.int i) H)\/∃k,xs=[.bl k]/\Q (.int (if k then 1 else 0)) H):=by
 intro pins s σ H xs us Q I r h;rcases h with⟨i,rfl,q⟩|⟨k,rfl,q⟩
 ·obtain⟨u,rfl,t,rfl⟩:=jcf r;exact call_int_int ⟨.int i,H,I,⟨_,rfl⟩,q⟩
 ·obtain⟨u,rfl,r1⟩:=jcf r;cases r1;exact call_int_bool ⟨.int (if k then 1 else 0),H,I.tok _,⟨_,rfl⟩,q⟩
theorem jez:jaG X (.type "str") (λxs H Q=>∃i,xs=[.int i]/\i.natAbs.log2<1920/\Q (.str (toString i)) H):=by
 intro pins s σ H xs us Q I r h;obtain⟨i,rfl,hz,q⟩:=h;obtain⟨u,rfl,t,rfl⟩:=jcf r;exact PySem.P.str_of_int hz ⟨.str _,H,I.tok _,⟨_,rfl⟩,q⟩
def LenV (K:Yaa)(x:V)(H:Hp)(n:Nat):Prop:=
 match x with
 |.str y=>y.length<=Yac/\n=y.length
 |.byt y=>y.size<=Yac/\n=y.size
 |.ref p=>(∃xs,SqL K H p xs/\n=xs.length)\/∃xs,SqT K H p xs/\n=xs.length
 |_=>False
theorem ji9:jaG X (.builtin "len") (λxs H Q=>∃x n,xs=[x]/\LenV X.K x H n/\Q (.int n) H):=by
 intro pins s σ H xs us Q I r h;obtain⟨x,n,rfl,e,q⟩:=h;obtain⟨u,rfl,rx⟩:=jcf r;have hl:=jcN;have hs:Yac=16777216:=YbO;cases x with
 |str y=>
  obtain⟨t,rfl⟩:=rx;obtain⟨hy,e'⟩:y.length<=Yac/\n=y.length:=e;subst e';exact len_str (by omega) ⟨.int _,H,I.tok _,⟨_,rfl⟩,q⟩
 |byt y=>
  obtain⟨t,rfl⟩:=rx;obtain⟨hy,e'⟩:y.size<=Yac/\n=y.size:=e;subst e';exact PySem.W.len_bytes (by omega) ⟨.int _,H,I.tok _,⟨_,rfl⟩,q⟩
 |ref p=>
  cases rx;have e':(∃xs,SqL X.K H p xs/\n=xs.length)\/∃xs,SqT X.K H p xs/\n=xs.length:=e;rcases e' with⟨xs,hx,e'⟩|⟨xs,hx,e'⟩
  ·subst e';obtain⟨its,r',pl,hz⟩:=I.list hx;have hlen:=r'.length;exact Calls.call_len_list pl.isList (by simp only[Yai];omega) ⟨.int xs.length,H,I.tok _,⟨_,by simp only[Yai];rw[hlen]⟩,q⟩
  ·subst e';obtain⟨its,r',pl,hz⟩:=I.tuple hx;have hlen:=r'.length;exact len_tuple pl (by simp only[Yai];omega) ⟨.int xs.length,H,I.tok _,⟨_,by simp only[Yai];rw[hlen]⟩,q⟩
 |_=>exact(show False from e).elim
end

structure ObjM (h:Heap)(x dx C:Addr)(mA:Str->Option Value):Prop where
 obj:h.get? x=some (Yd9 C dx)
 ns:h.Ns1 dx mA
 ne:dx≠x

theorem jhp {h:Heap}{dx:Addr}{mA:Str->Option Value}(n:h.Ns1 dx mA):∃od,h.get? dx=some od/\∀name,Yes name od=some (mA name):=by
 obtain⟨o,es,ep,ho,hd,hk,_,hm⟩:=n;refine⟨o,ho,λname=>?_⟩;have e:=hm name;unfold nsFind findBy at e;rw[<- YdV]at e;unfold Yes;rw[hd];dsimp only;split
 ·rename_i y q;rw[q]at e;exact congrArg some e
 ·rename_i q;rw[q]at e;have a:es.toList.any (·.refKey)=false:=by
   rw[List.any_eq_false];intro y hy;obtain⟨z,t,hkey⟩:=hk y (Array.mem_toList_iff.mp hy);simp[Ycx.refKey,hkey]
  have a':¬es.toList.any (·.refKey)=true:=by rw[a];exact Yaj
  rw[if_neg a'];exact congrArg some e

theorem ObjM.look {h:Heap}{x dx C:Addr}{mA:Str->Option Value}(I:ObjM h x dx C mA):∃od,PySem.W.InstAt h x (Yd9 C dx) C (some od)/\∀name,Yes name od=some (mA name):=
 let ⟨od,ho,hl⟩:=jhp I.ns
 ⟨od,⟨I.obj,rfl,rfl,ho⟩,hl⟩

section
variable {prog:Program}{w:World}{A:Around}{E:Value->Shared->Prop}{s:Shared}{K:Yaa}{x dx C f:Addr}{mA:Str->Option Value}{name:Str}{v:Value}

end

noncomputable def putF (f:Str)(v:V):List (Str×V)->List (Str×V)
 |[]=>[(f,v)]
 |(g,x)::r=>if g=f then (g,v)::r else (g,x)::putF f v r
theorem jcM (f g:Str)(v:V):∀fs:List (Str×V),(putF f v fs).lookup g=if g=f then some v else fs.lookup g
 |[]=>by
  show Ybt g [(f,v)]=_;by_cases h:g=f
  ·have hb:(g==f)=true:=beq_iff_eq.mpr h;simp only[Ybt,hb,if_pos h]
  ·have hb:(g==f)=false:=beq_eq_false_iff_ne.mpr h;simp only[Ybt,hb,if_neg h]
 |(k,x)::r=>by
  have ih:=jcM f g v r;rw[show putF f v ((k,x)::r)=(if k=f then (k,v)::r else (k,x)::putF f v r)from rfl]
  by_cases hk:k=f
  ·rw[if_pos hk];by_cases h:g=k
   ·have hb:(g==k)=true:=beq_iff_eq.mpr h;simp only[Ybt,hb,if_pos (h.trans hk)]
   ·have hb:(g==k)=false:=beq_eq_false_iff_ne.mpr h;simp only[Ybt,hb,if_neg (λe:g=f=>h (e.trans hk.symm))]
  ·rw[if_neg hk];by_cases h:g=k
   ·have hb:(g==k)=true:=beq_iff_eq.mpr h;simp only[Ybt,hb,if_neg (λe:g=f=>hk (h.symm.trans e))]
   ·have hb:(g==k)=false:=beq_eq_false_iff_ne.mpr h;simp only[Ybt,hb];exact ih
theorem RelO.some_of {v:V}{o:Option Value}(r:RelO (some v) o):∃u,o=some u/\RelV v u:=by
 cases o with
 |none=>exact(show False from r).elim
 |some u=>exact⟨u,rfl,r⟩
theorem RelO.none_of {o:Option Value}(r:RelO none o):o=none:=by
 cases o with
 |none=>rfl
 |some u=>exact(show False from r).elim
section
variable {P:Program}{w:World}{H H':Hp}{h h':Heap}{a C dx:Addr}{fs fs':List (Str×V)}
theorem jli (hok:HOk P w H h)(e:H a=some (.ins C dx fs)):∃mA,ObjM h a dx C mA/\(∀f,RelO (fs.lookup f) (mA f))/\PySem.Within mA (fs.map (·.1))/\fs.length<=1000/\H dx=some (.own a):=by
 obtain⟨d,z,ne,ob,mA,n,r,q⟩:=(show jav P w H h a (.ins C dx fs)from hok a _ e);exact⟨mA,⟨ob,n,ne⟩,r,q,z,d⟩
end

structure Cls (K:Yaa)(C:Addr):Prop where
 pg:YfE K C Yfo=true
 hd:PySem.W.hasDictIn K C=true
 po:PySem.W.plainOver K C=true
 sa:YcQ K (.ref C) "__setattr__" = some (some (.builtin "object.__setattr__"))
theorem Cls.get {K:Yaa}{C:Addr}(c:Cls K C)(f:Str):YfE K C f=true:=c.pg
structure Con (K:Yaa)(C:Addr)(f:Str)(v:V)(u:Value):Prop where
 at_:YcQ K (.ref C) f=some (some u)
 rel:RelV v u
 get:Yfp K u "__get__" = some none
 cp:PySem.W.copiedNames.contains f=false
structure Meth (K:Yaa)(C:Addr)(m:Str)(f:Addr):Prop where
 at_:YcQ K (.ref C) m=some (some (.ref f))
 fn:PySem.W.isFn K (.ref f)=true
 kp:Ya8 K (.ref f)=true

section
variable {X:Cx}{pins:List (Addr×Obj)}{σ:St}{H:Hp}{s:Shared}{a C dx:Addr}{fs:List (Str×V)}{f:Str}{v:V}{A:Around}{E:Value->Shared->Prop}

theorem jlC {prog:Program}{w:World}{env:Env}{e:Expr}{f:Str}{pos:Pos}{s:Shared}{Q:Value->Shared->Prop}(hb:Ycd e f env (eval e env)=eval e env)
  (h:wpAny (model prog w) A (eval e env) (λo s₁=>wpAny (model prog w) A (getAttr o f true) Q E s₁) E s):wpAny (model prog w) A (eval (.Attribute e f pos) env) Q E s:=
 Attribute_any_ h (by rw[arm_eval_Attribute,hb])
end

section
variable {X:Cx}{o e value:Expr}{f:Str}{pos pos' tpos:Pos}{ta tv:TE}
end

section
variable {X:Cx}{pins:List (Addr×Obj)}{σ:St}{H:Hp}{s:Shared}{A:Around}{E:Value->Shared->Prop}{Q:Value->Shared->Prop}{c:Value}{b:Bool}
inductive TyOf (K:Yaa)(H:Hp):V->Value->Prop where
 |non:TyOf K H .non (.type "NoneType")
 |bl (x:Bool):TyOf K H (.bl x) (.type "bool")
 |int (i:Int):TyOf K H (.int i) (.type "int")
 |str (x:Str):TyOf K H (.str x) (.type "str")
 |flt (x:UInt64):TyOf K H (.flt x) (.type "float")
 |lst {a:Addr} {xs:List V} (e:H a=some (.lst xs)):TyOf K H (.ref a) (.type "list")
 |frz {a:Addr} {o:Obj} {xs:List V} (e:H a=some (.frz o (.lst xs))):TyOf K H (.ref a) (.type "list")
 |tup {a:Addr} {xs:List V} (e:H a=some (.tup xs)):TyOf K H (.ref a) (.type "tuple")
 |dK {a:Addr} {kvs:List (Key×V)} (e:H a=some (.dK kvs)):TyOf K H (.ref a) (.type "dict")
 |dT {a:Addr} {kvs:List (List Key×V)} (e:H a=some (.dT kvs)):TyOf K H (.ref a) (.type "dict")
 |ins {a C dx:Addr} {fs:List (Str×V)} (e:H a=some (.ins C dx fs)) (cl:Cls K C) (ha:YcQ K (.ref C) "__class__" = some (some (.builtin "object.__class__")))
   (hn:Yfp K (.builtin "object.__class__") "__get__" = some (some (.builtin "getset_descriptor.__get__"))) (htk:PySem.W.takesIn K (.builtin "object.__class__")=some true)
   (hm:PySem.W.mroIn K C (.type "object")=some true):TyOf K H (.ref a) (.ref C)
theorem jhz {x:V}{u t:Value}(I:Inv X pins σ H s)(rx:RelV x u)(ty:TyOf X.K H x t)(e:Ydp X.K t c=some b)(h:∀tk,Q (.bool b) { s with toks:=tk }) :
  wpAny (model X.prog X.w) A (call (.builtin "isinstance") [u,c]) Q E s:=by
 cases ty with
 |non=>cases(show u=Ybx from rx);exact Ya9 PySem.W.kitx_none I.kIn YbJ e (λz=>nomatch z) h
 |bl y=>cases(show u=YeP y from rx);exact Ya9 PySem.W.kitx_bool I.kIn YbJ e (λz=>nomatch z) h
 |int i=>obtain⟨t,q⟩:=(show ∃t,u=Yeq i t from rx);cases q;exact Ya9 PySem.W.kitx_int I.kIn YbJ e (λz=>nomatch z) h
 |str y=>obtain⟨t,q⟩:=(show ∃t,u=Yep y t from rx);cases q;exact Ya9 PySem.W.kitx_str I.kIn YbJ e (λz=>nomatch z) h
 |flt y=>obtain⟨t,q⟩:=(show ∃t,u=Value.float y t from rx);cases q;exact Ya9 PySem.W.kitx_float I.kIn YbJ e (λz=>nomatch z) h
 |@lst a xs ea=>
  cases(show u=YaW a from rx);obtain⟨_,_,n,_,h1⟩:=(show jav X.prog X.w H s.heap a (.lst xs)from I.hok a _ ea);exact Ya9 Yfq I.kIn ⟨_,h1,rfl⟩ e (λz=>nomatch z) h
 |@frz a ob xs ea=>
  cases(show u=YaW a from rx);obtain⟨_,_,_,n,_,h1⟩:=(show jav X.prog X.w H s.heap a (.frz ob (.lst xs))from I.hok a _ ea);exact Ya9 Yfq I.kIn ⟨_,h1,rfl⟩ e (λz=>nomatch z) h
 |@tup a xs ea=>
  cases(show u=YaW a from rx);obtain⟨_,_,_,p⟩:=(show jav X.prog X.w H s.heap a (.tup xs)from I.hok a _ ea);obtain⟨o,h1,h2,_⟩:=p;exact Ya9 PySem.W.kitx_tuple I.kIn ⟨o,h1,h2⟩ e (λz=>nomatch z) h
 |@dK a kvs ea=>
  cases(show u=YaW a from rx);obtain⟨_,_,vs,_,p⟩:=(show jav X.prog X.w H s.heap a (.dK kvs)from I.hok a _ ea);obtain⟨o,es,ep,h1,h2,_⟩:=p;exact Ya9 Yfr I.kIn ⟨o,h1,h2.1⟩ e (λz=>nomatch z) h
 |@dT a kvs ea=>
  cases(show u=YaW a from rx);obtain⟨_,_,xs,_,o,es,ep,h1,h2,_⟩:=(show jav X.prog X.w H s.heap a (.dT kvs)from I.hok a _ ea);exact Ya9 Yfr I.kIn ⟨o,h1,h2.1⟩ e (λz=>nomatch z) h
 |@ins a C dx fs ea cl ha hn htk hm=>
  cases(show u=YaW a from rx);obtain⟨mA,O,_⟩:=jli I.hok ea;obtain⟨od,J,_⟩:=O.look;exact Ya9 (PySem.W.kitx_own (cl.get _) cl.hd ha hn htk hm) I.kIn J e (λz=>nomatch z) h
end

structure Room (k:Nat)(A:Around):Prop where
 hd:A.handled=none
 dp:A.depth+k+20<recursionLimit
 un:A.units+8*k+200<cLine
 gd:A.guards=some []
theorem Room.mono {j k:Nat}{A:Around}(r:Room k A)(h:j<=k):Room j A:=⟨r.hd,by have:=r.dp;omega,by have:=r.un;omega,r.gd⟩
theorem Room.deeper {k:Nat}{A:Around}(r:Room (k+1) A)(env:Env):Room k (A.deeper env):=
 ⟨r.hd,by have:=r.dp;show A.depth+1+k+20<_;omega,by have:=r.un;show A.units+3+8*k+200<_;omega,r.gd⟩
section
variable {A:Around}{C:Addr}{us:List Value}{kw:List (Str×Value)}
theorem jgp:(A.under (.builtin "type.__call__" ⟨.ref C::us,kw⟩)).depth=A.depth+1:=by
 first|rfl|simp[Ye6,Code.weight,Code.isCreation,Code.isGuard,Code.isCaller,Code.frames,Yfh,guardIds]
theorem jgo:(A.under (.builtin "type.__call__" ⟨.ref C::us,kw⟩)).units=A.units+1:=by
 first|rfl|simp[Ye6,Code.cUnits,Code.frames,Yfh]
end
section
variable {k:Nat}{A:Around}
theorem Room.make (r:Room (k+1) A)(C:Addr)(us:List Value)(kw:List (Str×Value)):Room k (A.under (.builtin "type.__call__" ⟨.ref C::us,kw⟩)):=
 ⟨r.hd,by have:=r.dp;rw[jgp];omega,by have:=r.un;rw[jgo];omega,r.gd⟩
theorem Room.depth (r:Room k A):A.depth<recursionLimit:=by have:=r.dp;omega
theorem Room.units (r:Room k A):A.units+64<cLine:=by have:=r.un;omega
theorem Room.units0 (r:Room k A):A.units<cLine:=by have:=r.un;omega

end
def tNil:TA:=λ_ H Q=>Q [] H
def jin (ta:TE)(tr:TA):TA:=λσ H Q=>ta σ H λx H1=>tr σ H1 λxs H2=>Q (x::xs) H2
section
variable {X:Cx}{e:Expr}{es:List Expr}{te:TE}{t:TA}{pos:Pos}
theorem jcB:PA X [] tNil:=λ_ _ _ _ H Q I h=>Yf3 ⟨[],H,I,.nil,h⟩
theorem jaD (ha:PE X e te)(hr:PA X es t)(hs:Yar (e::es) X.env=(false,eval e X.env)::Yar es X.env:=by rfl):PA X (e::es) (jin te t):=by
 intro pos pins s σ H Q I h;rw[hs];show wpAny _ _ (spliced ((false,eval e X.env)::backTo pos (Yar es X.env))) _ _ s;refine YbL (thn (ha pins s σ H _ I h) λu s1 ⟨x,H1,I1,r1,q1⟩=>?_);exact thn (hr pos pins s1 σ H1 _ I1 q1) λus s2 ⟨xs,H2,I2,r2,q2⟩=>⟨x::xs,H2,I2,.cons r1 r2,q2⟩

def tTup (t:TA):TE:=λσ H Q=>t σ H λxs H1=>xs.length<=Yac/\∀p,H1 p=none->Q (.ref p) (upd H1 p (.tup xs))
def tLst (t:TA):TE:=λσ H Q=>t σ H λxs H1=>xs.length<=Yac/\∀p,H1 p=none->Q (.ref p) (upd H1 p (.lst xs))
theorem jg2 {x1}(h:PA X es t):PE X (.Tuple es x1 pos) (tTup t):=by
 intro pins s σ H Q I hq;refine wpAny_Tuple_spliced (thn (h pos pins s σ H _ I hq) λus s1 ⟨xs,H1,I1,r,z,q⟩=>⟨by rw[<- r.length];exact z,?_⟩)
 have hf:H1 s1.heap.objs.size=none:=I1.hok.fresh (Yaf _);refine⟨.ref s1.heap.objs.size,upd H1 s1.heap.objs.size (.tup xs),I1.laid (t':=s1.toks) (λb u e=>Yae _ e) (Yaf _) ?_,rfl,q _ hf⟩;exact⟨z,us,r,⟨_,Yas _ rfl,rfl,_,rfl,rfl⟩⟩
theorem jjr (h:PA X es t):PE X (.List es pos) (tLst t):=by
 intro pins s σ H Q I hq;refine wpAny_List_spliced (thn (h pos pins s σ H _ I hq) λus s1 ⟨xs,H1,I1,r,z,q⟩=>⟨by rw[<- r.length];exact z,?_⟩)
 have hf:H1 s1.heap.objs.size=none:=I1.hok.fresh (Yaf _);refine⟨.ref s1.heap.objs.size,upd H1 s1.heap.objs.size (.lst xs),I1.laid (t':=s1.toks) (λb u e=>Yae _ e) (Yaf _) ?_,rfl,q _ hf⟩;exact⟨z,us,0,r,Yas _ rfl⟩
end

abbrev Sp:=List V->Hp->VK->XK->Prop
abbrev CXT:=List Env->Hp->Shared->XK->Value->Shared->Prop

structure Env0 (P:Program)(w:World)(K:Yaa)(mg:Str->Option Value)(base:Heap)(A:Around)(outer:List Env)(s:Shared)(H:Hp):Prop where
 frames:A.frames=some outer
 mod:Mod K mg base
 bs:∀b o,base.get? b=some o->s.heap.get? b=some o/\H b=none
 bsz:base.objs.size<=s.heap.objs.size
 funs:s.heap.FunFrames base outer
 frf:∀b∈frs outer,H b=none
 hok:HOk P w H s.heap
 bare:AllBare s.gens
def CE (outer:List Env)(P:Program)(w:World)(H:Hp)(s:Shared)(Q:VK)(u:Value)(s':Shared):Prop:=
 ∃v H',s'.os=s.os/\AllBare s'.gens/\Un (frs outer) [] H H' s.heap s'.heap/\HOk P w H' s'.heap/\RelV v u/\Q v H'
def CR (CX:CXT)(outer:List Env)(P:Program)(w:World)(H:Hp)(s:Shared)(Q:VK)(E:XK)(r:Result)(s':Shared):Prop:=
 match r with
 |.ok (.ret u)=>CE outer P w H s Q u s'
 |.ok _=>False
 |.error e=>CX outer H s E e s'
structure FnOk (P:Program)(w:World)(K:Yaa)(mg:Str->Option Value)(base:Heap)(CX:CXT)(k:Nat)(f:Addr)(fd:Ybk)(ps:List Str)(sp:Sp):Prop where
 len:∀vs H Q E,sp vs H Q E->vs.length=ps.length
 run:∀(A:Around) (outer:List Env) (s:Shared) (H:Hp) (args:Args) (us:List Value) (vs:List V) (Q:VK) (E:XK),Room k A->Env0 P w K mg base A outer s H->BindsTo s fd args (ps.zip us)->Vals vs us->sp vs H Q E->
  codeAny (model P w) A (.call (.ref f) args) (CR CX outer P w H s Q E) s
theorem Env0.make {P:Program}{w:World}{K:Yaa}{mg:Str->Option Value}{base:Heap}{A:Around}{outer:List Env}{s:Shared}{H:Hp}(e:Env0 P w K mg base A outer s H)(C:Addr)(us:List Value)(kw:List (Str×Value)) :
  Env0 P w K mg base (A.under (.builtin "type.__call__" ⟨.ref C::us,kw⟩)) outer s H:=⟨by first|exact e.frames|(simpa[Ye6,Code.envs,Yfh,pushEnvs]using e.frames),e.mod,e.bs,e.bsz,e.funs,e.frf,e.hok,e.bare⟩
section
variable {X:Cx}{pins:List (Addr×Obj)}{σ:St}{H:Hp}{s s':Shared}
theorem Inv.env0 (I:Inv X pins σ H s):Env0 X.prog X.w X.K X.mg X.base X.A X.stack s H:=
 ⟨I.ok.frames,I.ok.mod,I.bs,Yak I.ok.bsz I.sz,I.stack,I.stkFree,I.hok,I.bare⟩
theorem Inv.after {Q:VK}{u:Value}(I:Inv X pins σ H s)(h:CE X.stack X.prog X.w H s Q u s'):EP X pins σ Q u s':=by
 obtain⟨v,H',os,bare,un,hok,r,q⟩:=h;obtain⟨hh,g,d,t,os'⟩:=s';obtain rfl:os'=s.os:=os;exact⟨v,H',I.call (h':=hh) (g':=g) (d':=d) (t':=t) (ch:=[]) un hok bare (λb z=>absurd z (by simp)),r,q⟩
end

def Binds (K:Yaa)(fd:Ybk)(ps:List Str)(ds:List Value):Prop:=
 ∀(s:Shared) (us:List Value),K.In s.heap->(us++ds).length=ps.length->BindsTo s fd ⟨us,[]⟩ (ps.zip (us++ds))
theorem Binds.all {K:Yaa}{fd:Ybk}{ps:List Str}(h:∀us:List Value,us.length=ps.length->YfT fd ⟨us,[]⟩=pure (ps.zip us)):Binds K fd ps []:=λs us _ hl=>by
 rw[YbX]at hl ⊢;exact .of_eq (h us hl)

section
variable {X:Cx}{CX:CXT}{k:Nat}{f C:Addr}{fd:Ybk}{ps:List Str}{sp:Sp}{dvs:List V}{ds:List Value}{E:XK}{x m:Str}{p pos apos:Pos}{e o:Expr}{es:List Expr}{ta:TE}{t:TA}

structure Mk (K:Yaa)(C f:Addr):Prop where
 makes:PySem.W.makesIn K C=true
 init:YcQ K (.ref C) "__init__" = some (some (.ref f))
 fn:PySem.W.isFn K (.ref f)=true
 kp:Ya8 K (.ref C)=true

end

def PK (X:Cx)(kws:List Keyword)(t:TA):Prop:=
 ∀(pos:Pos) (pins:List (Addr×Obj)) (s:Shared) (σ:St) (H:Hp) (Q:List V->Hp->Prop),Inv X pins σ H s->t σ H Q->wpAny (model X.prog X.w) X.A (evalAll ((backToKw pos (Yfa kws X.env)).map (·.2))) (AP X pins σ Q) X.xe s
section
variable {X:Cx}{CX:CXT}{k:Nat}{f C:Addr}{fd:Ybk}{ps ks:List Str}{sp:Sp}{E:XK}{x m:Str}{p pos apos kpos:Pos}{e o:Expr}{es:List Expr}{kws:List Keyword}{te ta:TE}{t tk:TA}{nm:Option Str}
theorem pk_nil:PK X [] tNil:=λ_ _ _ _ H Q I h=>wpAny_evalAll_nil ⟨[],H,I,.nil,h⟩
structure KBinds (K:Yaa)(fd:Ybk)(ps ks:List Str)(g:List Value->List Value->List Value)(gV:List V->List V->List V):Prop where
 to:∀(s:Shared) (us ws:List Value),K.In s.heap->(g us ws).length=ps.length->BindsTo s fd ⟨us,ks.zip ws⟩ (ps.zip (g us ws))
 rel:∀{vs:List V} {us:List Value} {zs:List V} {ws:List Value},Vals vs us->Vals zs ws->Vals (gV vs zs) (g us ws)
variable {g:List Value->List Value->List Value}{gV:List V->List V->List V}
end

structure FnScope (N P:List Str)(sc:Scope):Prop where
 kind:sc.kind=.function
 co:sc.isCoroutine=false
 gen:sc.isGenerator=false
 nd:N.Nodup
 pre:N.take P.length=P
 par:∀x∈P,sc.names.lookup x=some .local\/sc.names.lookup x=some .cell
 nofree:∀y∈sc.names,y.2≠.free

section
variable {kindOf:Str->Option Ybh}{x:Str}
theorem jeB:∀{binds:List (Str×Value)} {m:Str->Option Value},(∀v,(x,v)∉binds)->bindL kindOf binds m x=m x
 |[],_,_=>rfl
 |(n,v)::r,m,h=>by
  unfold bindL;rw[jeB λw hw=>h w (Yag _ hw)];split
  ·have:x≠n:=by rintro rfl;exact h v Yao
   simp[this]
  ·rfl
theorem jeD:∀{binds:List (Str×Value)} {m:Str->Option Value},(∀v,(x,v)∉binds)->bindC kindOf binds m x=m x
 |[],_,_=>rfl
 |(n,v)::r,m,h=>by
  unfold bindC;rw[jeD λw hw=>h w (Yag _ hw)];split
  ·rfl
  ·have:x≠n:=by rintro rfl;exact h v Yao
   simp[this]
theorem jeC {v:Value}:∀{P:List Str} {vs:List Value} {i:Nat} {m:Str->Option Value},P.Nodup->P[i]?=some x->vs[i]?=some v->kindOf x=some .local->
  bindL kindOf (P.zip vs) m x=some v
 |[],_,_,_,_,h,_,_=>by simp at h
 |_::_,[],_,_,_,_,h,_=>by simp at h
 |p::P,w::vs,0,m,nd,h1,h2,hk=>by
  simp at h1 h2;subst h1;subst h2;show bindL kindOf ((p,w)::P.zip vs) m p=_;unfold bindL;rw[jeB λv hv=>(List.nodup_cons.mp nd).1 (Ycn hv).1,if_pos hk];simp
 |p::P,w::vs,i+1,m,nd,h1,h2,hk=>by
  show bindL kindOf ((p,w)::P.zip vs) m x=_;unfold bindL;exact jeC (i:=i) (List.nodup_cons.mp nd).2 (by simpa using h1) (by simpa using h2) hk
theorem jeE {v:Value}:∀{P:List Str} {vs:List Value} {i:Nat} {m:Str->Option Value},P.Nodup->P[i]?=some x->vs[i]?=some v->kindOf x≠some .local->
  bindC kindOf (P.zip vs) m x=some v
 |[],_,_,_,_,h,_,_=>by simp at h
 |_::_,[],_,_,_,_,h,_=>by simp at h
 |p::P,w::vs,0,m,nd,h1,h2,hk=>by
  simp at h1 h2;subst h1;subst h2;show bindC kindOf ((p,w)::P.zip vs) m p=_;unfold bindC;rw[jeD λv hv=>(List.nodup_cons.mp nd).1 (Ycn hv).1,if_neg hk];simp
 |p::P,w::vs,i+1,m,nd,h1,h2,hk=>by
  show bindC kindOf ((p,w)::P.zip vs) m x=_;unfold bindC;exact jeE (i:=i) (List.nodup_cons.mp nd).2 (by simpa using h1) (by simpa using h2) hk

end
noncomputable def start (N:List Str)(vs:List V):St:=vs.map some++Yab (N.length-vs.length) none

noncomputable def cxOf (CX:CXT)(P:Program)(w:World)(K:Yaa)(mg:Str->Option Value)(base:Heap)(N:List Str)(qual:Str)(scope:Scope)(f:Addr)(cd:Value)(A:Around)(outer:List Env)(s:Shared)(H:Hp)(E:XK):Cx where
 prog:=P
 w:=w
 K:=K
 mg:=mg
 base:=base
 A:=A.deeper (envOfC qual scope s.heap.objs.size f cd)
 N:=N
 s₀:=s
 H₀:=H
 env:=envOfC qual scope s.heap.objs.size f cd
 outer:=outer
 stack:=envOfC qual scope s.heap.objs.size f cd::outer
 ex:=[]
 calm:=true
 fn:=λ_=>true
 pn:=[]
 xe:=λe s'=>wpAny (model P w) (A.deeper (envOfC qual scope s.heap.objs.size f cd)) (leaving (envOfC qual scope s.heap.objs.size f cd) e) (λ_ s''=>CX outer H s E e s'') (λe' s''=>CX outer H s E e' s'') s'

theorem jdS {sc:Scope}{n:Nat}{x:Str}(h:sc.names.lookup x=some .cell):∃c,(Ybe n sc.names []).lookup x=some c:=by
 have q:=Ycm sc.names n [] (.inl h);exact Option.isSome_iff_exists.mp q

section
variable {CX:CXT}{P:Program}{w:World}{K:Yaa}{mg:Str->Option Value}{base:Heap}
theorem jcO {N ps:List Str}{qual:Str}{scope:Scope}{f:Addr}{cd:Value}{A:Around}{outer:List Env}{s s1:Shared}{H:Hp}{E:XK}{us:List Value}{vs:List V}
  (S:FnScope N ps scope) (hd:A.handled=none) (e0:Env0 P w K mg base A outer s H) (hl:vs.length=ps.length) (r:Vals vs us)
  (x:InCallC s s.heap.objs.size (bindL (envOfC qual scope s.heap.objs.size f cd).kindOf (ps.zip us) λ_=>none) (Ybe (s.heap.objs.size+1) scope.names []) (bindC (envOfC qual scope s.heap.objs.size f cd).kindOf (ps.zip us) λ_=>none) s1) :
  Inv (cxOf CX P w K mg base N qual scope f cd A outer s H E) [] (start N vs) H s1:=by
 have hpl:ps.length<=N.length:=by have:=congrArg List.length S.pre;rw[Ydf]at this;omega
 obtain⟨h1,tk,rfl,hk⟩:=x.done;have noA:∀b:Addr,b∉(cxOf CX P w K mg base N qual scope f cd A outer s H E).ex:=λb z=>absurd (show b∈([]:List Addr)from z) (by simp)
 refine⟨⟨e0.mod,S.kind,rfl,rfl,Yaf _,λy z c h1 h2=>?_,λy hy=>?_,λy c _ h=>?_,λ_=>hd,Yfe e0.frames,.inr ⟨rfl,rfl⟩,λb z=>absurd z (noA b),e0.bs,e0.bsz,λb _ _=>noA b,λb z=>absurd z (noA b),e0.funs,e0.frf⟩,
  rfl,e0.bare,Un.kept hk,⟨_,x.toInCall.ns,λi y v h1 h2 h3=>?_⟩,λy c h=>⟨_,x.cell y c h⟩,e0.hok.fresh (Yaf _),λy c h=>?_,λp hp=>absurd (show p∈([]:List (Addr×Obj))from hp) (by simp),e0.hok.kept hk,?_⟩
 ·exact name_of_addr x.apart (Yaw h1) (Yaw h2)
 ·have hy:scope.names.lookup y=some .cell\/scope.names.lookup y=some .free:=hy;rcases hy with hy|hy
  ·exact jdS hy
  ·exact absurd rfl (S.nofree _ (Yaw hy))
 ·exact YbZ (x.above y c (Yaw h))
 ·have hi:i<vs.length:=by
   unfold start at h2;by_cases hi:i<vs.length
   ·exact hi
   ·rw[YaR (by simpa using hi)]at h2
    rw[Yco]at h2;split at h2<;>cases h2
  have ha:vs[i]?=some v:=by
   unfold start at h2;rw[YaC (by simpa using hi),Yat]at h2
   cases e:vs[i]? with
   |none=>rw[e]at h2;cases h2
   |some a=>rw[e]at h2;cases h2;rfl
  obtain⟨u,hu,rv⟩:=r.get ha;have hp:ps[i]?=some y:=by
   rw[<- S.pre,Ye0 (by omega)];exact h1
  have ndP:ps.Nodup:=by rw[<- S.pre];exact S.nd.sublist (Yc5 _ _)
  refine⟨u,rv,?_⟩;rcases S.par y (Ybq hp)with k|k
  ·exact .inl ⟨k,jeC ndP hp hu k⟩
  ·obtain⟨c,e⟩:=jdS (n:=s.heap.objs.size+1) k;refine .inr ⟨.inl k,c,e,?_⟩;have q:=x.cell y c e;rw[jeE ndP hp hu (by show scope.names.lookup y≠_;rw[k];decide)]at q
   exact q
 ·exact e0.hok.fresh (YbZ (x.above y c (Yaw h)))
 ·unfold start;show _=N.length;rw[YaO,Yah,Yff];omega

theorem jph {k:Nat}{f:Addr}{name qual:Str}{params:YcL}{body:List Stmt}{scope:Scope}{dV kV doc pm cdv ct oc:Value}{an od:Option Addr}
  {osl:Array (Option Value)} {N ps:List Str} {sp:Sp} (lk:K.lookup f=some ⟨oc,od,.func (Ya5 name qual params body scope dV kV doc pm an cdv ct),osl⟩) (hcd:Yby K cdv qual=true) (S:FnScope N ps scope)
  (len:∀vs H Q E,sp vs H Q E->vs.length=ps.length)
  (hbody:∀(A:Around) (outer:List Env) (s:Shared) (H:Hp) (vs:List V) (Q:VK) (E:XK),Room k (A.deeper (envOfC qual scope s.heap.objs.size f cdv))->sp vs H Q E->
   ∃t,PSs (cxOf CX P w K mg base N qual scope f cdv A outer s H E) body t/\t { nx:=λ_ H'=>Q .non H',rt:=Q } (start N vs) H) :
  FnOk P w K mg base CX (k+1) f (Ya5 name qual params body scope dV kV doc pm an cdv ct) ps sp:=by
 refine⟨len,λA outer s H args us vs Q E hr e0 hb r hsp=>?_⟩;have hl:=len _ _ _ _ hsp;have KX:K.In s.heap:=e0.mod.kin.keeps λb o e=>(e0.bs b o e).1;have lim:s.heap.NoLimit:=e0.mod.nolimit.keeps λb o e=>(e0.bs b o e).1;have hkind:∀y∈ps.zip us,scope.names.lookup y.1=some .local\/(scope.names.lookup y.1=some .cell/\((Ybe (s.heap.objs.size+1) scope.names []).lookup y.1).isSome=true):=λ⟨n,v⟩ hy=>by
  rcases S.par n (Ycn hy).1 with q|q
  ·exact .inl q
  ·exact .inr ⟨q,Ycm _ _ _ (.inl q)⟩
 refine YdP hr.depth (KX _ _ lk) rfl S.co S.gen rfl (YdC KX hcd) (hb _ _ _ _ ?_);refine Yc6 S.kind hkind λenv he s1 x=>?_;subst he;refine⟨lim.keeps x.toInCall.keep,Ygl ?_⟩;obtain⟨t,ht,hq⟩:=hbody A outer s H vs Q E (hr.deeper _) hsp;have I:Inv (cxOf CX P w K mg base N qual scope f cdv A outer s H E) [] (start N vs) H s1:=jcO S hr.hd e0 hl r x;refine YaK (ht [] s1 (start N vs) H _ I hq) (λfl s' hs=>?_) λe s' hs=>hs;have fin:∀{σ':St} {H':Hp} {v:V} {u:Value},Inv (cxOf CX P w K mg base N qual scope f cdv A outer s H E) [] σ' H' s'->RelV v u->Q v H'->CE outer P w H s Q u s':=
  λ{σ' H' v u} J rv q=>⟨v,H',J.os,J.bare,J.base,J.hok,rv,q⟩
 cases fl with
 |ret u=>
  obtain⟨v,σ',H',J,rv,q⟩:=hs;exact fin J rv q
 |next=>
  obtain⟨σ',H',J,q⟩:=hs;exact fin (v:=V.non) (u:=Ybx) J rfl q
 |brk=>
  obtain⟨_,_,_,q⟩:=hs;exact Ybn q
 |cont=>
  obtain⟨_,_,_,q⟩:=hs;exact Ybn q
end
section
variable {X:Cx}{x:Str}{p pos:Pos}{e:Expr}{es:List Expr}{t:TA}{id T:String}{r:List V->Hp->VK->Prop}

def tCB (r:List V->Hp->VK->Prop)(t:TA):TE:=λσ H Q=>t σ H λvs H1=>r vs H1 Q
theorem jco (hc:jaG X (.builtin id) r)(hg:Gl X x)(hm:X.mg x=none)(hv:YbK x=some (.builtin id))(ha:PA X (e::es) t)(hn:x ≠ "__name__" := by decide)(hdb:(x==("__debug__" : Str))=false:=by decide)
  (he:Yar (e::es) X.env=(false,eval e X.env)::Yar es X.env:=by rfl) (hpl:(backTo pos (Yar es X.env)).any (·.1)=false:=by rfl):PE X (.Call (.Name x p) (e::es) [] pos) (tCB r t):=by
 intro pins s σ H Q I h;refine YbD (jem I hg hm hv ?_ hn hdb);exact PyProof.Rows.callWith_builtin1 (thn (ha pos pins s σ H _ I h) λus s1 ⟨vs,H1,I1,r1,q1⟩=>hc pins s1 σ H1 vs us Q I1 r1 q1) he hpl
theorem jcA (hc:jaG X (.type T) r)(hg:Gl X x)(hm:X.mg x=none)(hv:YbK x=some (.type T))(ha:PA X (e::es) t)(hn:x ≠ "__name__" := by decide)(hdb:(x==("__debug__" : Str))=false:=by decide)
  (he:Yar (e::es) X.env=(false,eval e X.env)::Yar es X.env:=by rfl) (hpl:(backTo pos (Yar es X.env)).any (·.1)=false:=by rfl):PE X (.Call (.Name x p) (e::es) [] pos) (tCB r t):=by
 intro pins s σ H Q I h;refine YbD (jem I hg hm hv ?_ hn hdb);exact Yct (thn (ha pos pins s σ H _ I h) λus s1 ⟨vs,H1,I1,r1,q1⟩=>hc pins s1 σ H1 vs us Q I1 r1 q1) he hpl
end
end L2

namespace HT
open PySem PyProof.Rows

noncomputable def lexLt:List Int->List Int->Bool
 |[],[]=>false
 |[],_::_=>true
 |_::_,[]=>false
 |x::xs,y::ys=>if x=y then lexLt xs ys else decide (x<y)
section
open PySem.SeqAt
open PySem.AutoSeq1 (wpAny_loadPart')
open PySem.MeetsSeq PySem.MeetsSeq2 PySem.MeetsSeq3

end

section
variable {prog:Program}{w:World}{A:Around}{E:Value->Shared->Prop}{s:Shared}

theorem cat_tup {t b:Addr}{vs ws:List Value}{Q:Value->Shared->Prop}(ht:IsTup s.heap t vs.toArray)(hb:IsTup s.heap b ws.toArray)(hv:vs≠[])
  (h1:ws=[]->Q (.ref t) s) (h2:ws≠[]->Q (.ref s.heap.objs.size) { s with heap:=s.heap.push { cls:=.type "tuple",data:=.seq (vs++ws).toArray } })
  (hsz:vs.length+ws.length<=Yac):wpAny (model prog w) A (Ybf .Add (.ref t) (.ref b)) Q E s:=by
 obtain⟨⟨cls,dd,data,sl⟩,ho,hc,n,hd⟩:=id ht;obtain⟨⟨cls2,dd2,data2,sl2⟩,ho2,hc2,n2,hd2⟩:=id hb;simp only at hc hd hc2 hd2;subst hc hd hc2 hd2;have e:vs.toArray++ws.toArray=(vs++ws).toArray:=by simp
 by_cases hw:ws=[]
 ·exact Ygk ⟨_,ho,rfl⟩ ⟨_,ho2,rfl⟩ YeU YfR Yc8 Yc3 (YcU _ _)
   (tuple_addW1 t b vs.toArray ws.toArray n n2 dd dd2 sl sl2 (by simpa using hv) (by simp[hw])) ⟨ho,ho2,h1 hw⟩
 ·refine Ygk ⟨_,ho,rfl⟩ ⟨_,ho2,rfl⟩ YeU YfR Yc8 Yc3 (YcU _ _)
   (tuple_addW2 t b vs.toArray ws.toArray n n2 dd dd2 sl sl2 (by simpa using hv) (by simpa using hw) (by rw[Yai,Yai];exact hsz)) ⟨ho,ho2,?_⟩
  rw[e];exact h2 hw

noncomputable def sIx (n d:Nat):Option Int->Nat
 |none=>d
 |some v=>if v<0 then (v+(n:Int)).toNat else min v.toNat n
theorem sIx_none (n d:Nat):sIx n d none=d:=rfl
theorem sIx_nat (n d k:Nat):sIx n d (some (k:Int))=min k n:=by
 show(if (k:Int)<0 then ((k:Int)+(n:Int)).toNat else min (k:Int).toNat n)=min k n
 rw[if_neg (by omega),Ygs]
theorem jmc (n d:Nat)(hd:d<=n)(o:Option Int):sIx n d o<=n:=by
 cases o with
 |none=>exact hd
 |some v=>
  show(if v<0 then (v+(n:Int)).toNat else min v.toNat n)<=n
  by_cases hv:v<0
  ·rw[if_pos hv];omega
  ·rw[if_neg hv];exact Nat.min_le_right _ _
theorem jh2 (v:Int)(n d:Nat):(if v<0 then max (v+(n:Int)) 0 else min v (n:Int))=((sIx n d (some v):Nat):Int):=by
 show(if v<0 then max (v+(n:Int)) 0 else min v (n:Int))=(((if v<0 then (v+(n:Int)).toNat else min v.toNat n):Nat):Int)
 by_cases hv:v<0
 ·simp only[if_pos hv];omega
 ·simp only[if_neg hv];omega
theorem jgB (lo hi:Option Int)(n:Nat):Ybs lo hi 1 (n:Int)=(((sIx n 0 lo:Nat):Int),((sIx n n hi:Nat):Int)):=by
 have h1:¬((1:Int)<0):=by omega
 unfold Ybs;simp only[h1,if_false];refine Prod.ext ?_ ?_
 ·cases lo with
  |none=>rfl
  |some v=>exact jh2 v n 0
 ·cases hi with
  |none=>rfl
  |some v=>exact jh2 v n n
theorem jgg (i j:Nat):YaP (i:Int) (j:Int) 1=j-i:=by
 unfold YaP;have h1:(1:Int)>0:=by omega
 simp only[h1,if_true,Yfy];split<;>omega
theorem jaU {v:Value}{o:Option Int}{Q:Option Int->Shared->Prop}(p:IsPart v o)(h:Q o s):wpAny (model prog w) A (Builtin.Slice.slicePartIndex v) Q E s:=by
 cases p with
 |none=>exact slicePart_none h
 |int i t=>exact slicePart_int h
theorem ja3 {sl:Addr}{vl vu:Value}{lo hi:Option Int}{n:Nat}{Q:Int×Int×Nat->Shared->Prop}(hs:s.heap.IsSliceOf sl vl vu .none)(pl:IsPart vl lo)(pu:IsPart vu hi)
  (h:Q (((sIx n 0 lo:Nat):Int),1,sIx n n hi-sIx n 0 lo) s):wpAny (model prog w) A (YbI (.ref sl) (pure (n:Int))) Q E s:=by
 obtain⟨os,hos,hcs,hds⟩:=id hs;unfold YbI YdU;refine Yad (Yad (YbN hos hds (x:=vl) rfl (Yad (YbN hos hds (x:=vu) rfl (Yad (YbN hos hds (x:=.none) rfl (Yam ?_)))))));refine Yad (slicePart_none ?_);show wpAny _ _ (if ((1:Int)==0)=true then _ else _) _ _ s
 rw[if_neg (by decide)]
 refine Yad (jaU pl (Yad (jaU pu (Yad (Yam ?_)))));show wpAny _ _ (match Ybs lo hi 1 (n:Int)with|(lo,hi)=>pure (lo,(1:Int),YaP lo hi 1)) _ _ s
 rw[jgB lo hi n];show wpAny _ _ (pure (((sIx n 0 lo:Nat):Int),(1:Int),YaP ((sIx n 0 lo:Nat):Int) ((sIx n n hi:Nat):Int) 1)) _ _ s;rw[jgg];exact Yam h
theorem jiF (xs:Array Value)(i k:Nat):((YaQ k).filterMap λ(m:Nat)=>xs[((i:Int)+(m:Int)*1).toNat]?).toArray=((xs.toList.drop i).take k).toArray:=by
 have e:(λ(m:Nat)=>xs[((i:Int)+(m:Int)*1).toNat]?)=λm=>xs[i+m]?:=by
  funext m;have:((i:Int)+(m:Int)*1).toNat=i+m:=by omega
  rw[this]
 rw[e];have:=pick_run xs i k;rw[Yf0]at this;have e2:((λx=>xs[x]?) ∘ λx=>i+x)=λm=>xs[i+m]?:=rfl;rw[e2]at this;rw[this]

theorem getItem_tuple_cut {t sl:Addr}{items:Array Value}{vl vu:Value}{lo hi:Option Int}{Q:Value->Shared->Prop}(ht:IsTup s.heap t items)(hs:s.heap.IsSliceOf sl vl vu .none)(pl:IsPart vl lo)(pu:IsPart vu hi)
  (hw:¬(sIx items.size 0 lo=0/\sIx items.size items.size hi=items.size))
  (h:Q (.ref s.heap.objs.size) { s with heap:=s.heap.push { cls:=.type "tuple",data:=.seq ((items.toList.drop (sIx items.size 0 lo)).take (sIx items.size items.size hi-sIx items.size 0 lo)).toArray } })
  (hsz:items.size<=Yac):wpAny (model prog w) A (getItem (.ref t) (.ref sl)) Q E s:=by
 have htake:sizeOk (.seq ((items.toList.drop (sIx items.size 0 lo)).take (sIx items.size items.size hi-sIx items.size 0 lo)).toArray):=by
  show((items.toList.drop (sIx items.size 0 lo)).take (sIx items.size items.size hi-sIx items.size 0 lo)).toArray.size<=Yac;rw[Yai,Ydf,Ycf,YdH];omega
 have hj:sIx items.size items.size hi<=items.size:=jmc _ _ (Yaf _) hi;obtain⟨os,hos,hcs,hds⟩:=id hs;have hTs:s.TypeIs (.ref sl) "slice" := ⟨os,hos,hcs⟩;unfold getItem
 try with_reducible refine Ybo ?_
 first|refine Yad (Yam ?_)|skip
 refine Yad (YeF ht.typeIs (by decide) ?_)
 refine Yad (Ydt (name:=Ycj "__getitem__") ht.typeIs YaV
  (YeT YaV ht.typeIs Yd7 ?_ (Yeo _ _)))
 show wpAny _ _ (Ycy (.ref t) >>= _) _ _ s;refine Yad (YfP ht ?_);refine Yad (YdM hTs ?_);rw[if_pos (by decide)]
 refine Yad (ja3 hs pl pu ?_);have hno:¬((((sIx items.size 0 lo:Nat):Int)==0&&(1:Int)==1&&(sIx items.size items.size hi-sIx items.size 0 lo)==items.size)=true):=by
  intro q;rw[Yap,Yap]at q;have q1:((sIx items.size 0 lo:Nat):Int)=0:=eq_of_beq q.1.1;have q2:sIx items.size items.size hi-sIx items.size 0 lo=items.size:=eq_of_beq q.2;exact hw ⟨by omega,by omega⟩
 show wpAny _ _ (if (((sIx items.size 0 lo:Nat):Int)==0&&(1:Int)==1&&(sIx items.size items.size hi-sIx items.size 0 lo)==items.size)=true then _ else _) _ _ s
 rw[if_neg hno,jiF]
 first
  |exact Yad (m:=YaT _) (Ybb (Yam ⟨_,rfl,Yam h⟩) htake)
  |exact Yad (m:=YaT _) (Ybb (Yad (Yam (Yam ⟨_,rfl,Yam h⟩))) htake)
  |exact Yad (Yad (m:=YaT _) (Ybb (Yam (Yam ⟨_,rfl,Yam h⟩)) htake))
  |exact Yad (Yad (m:=YaT _) (Ybb (Yam ⟨_,rfl,Yam h⟩) htake))
end
end HT

namespace L2
open PySem PySem.Spec PyProof.Rows

abbrev TO:=St->Hp->(Option Int->Hp->Prop)->Prop
def PO (X:Cx)(e:Option Expr)(t:TO):Prop:=
 ∀(pins:List (Addr×Obj)) (s:Shared) (σ:St) (H:Hp) (Q:Option Int->Hp->Prop),Inv X pins σ H s->t σ H Q->
  wpAny (model X.prog X.w) X.A (evalPart e X.env) (λu s'=>∃o H',Inv X pins σ H' s'/\IsPart u o/\Q o H') X.xe s
def jkf:TO:=λ_ H Q=>Q none H
def jot (t:TE):TO:=λσ H Q=>t σ H λx H1=>∃i,x=.int i/\Q (some i) H1

section
variable {X:Cx}{e:Expr}{te:TE}{lo hi:Option Expr}{tl th:TO}{pos p2:Pos}

theorem jkB:PO X none jkf:=by
 intro pins s σ H Q I h;rw[YfS];exact Yam ⟨none,H,I,.none,h⟩
theorem jkA (h:PE X e te):PO X (some e) (jot te):=by
 intro pins s σ H Q I hw;rw[evalPart_some];refine thn (h pins s σ H _ I hw) λu s1 ⟨x,H1,I1,r1,q1⟩=>?_;obtain⟨i,rfl,q⟩:=q1;obtain⟨t,rfl⟩:=r1;exact⟨some i,H1,I1,.int i t,q⟩

def SlR (X:Cx)(r:V->Option Int->Option Int->Hp->VK->Prop):Prop:=
 ∀(pins:List (Addr×Obj)) (s:Shared) (σ:St) (H:Hp) (x:V) (v vl vu:Value) (lo hi:Option Int) (sl:Addr) (Q:VK),Inv X pins σ H s->RelV x v->s.heap.IsSliceOf sl vl vu .none->IsPart vl lo->IsPart vu hi->r x lo hi H Q->
  ∃T id,YaX (.type T) "__getitem__" = pure (some (.builtin id))/\s.TypeIs v T/\wpAny (model X.prog X.w) X.A (getItem v (.ref sl)) (EP X pins σ Q) X.xe s
theorem SlR.or {r r':V->Option Int->Option Int->Hp->VK->Prop}(h:SlR X r)(h':SlR X r'):SlR X (λx lo hi H Q=>r x lo hi H Q\/r' x lo hi H Q):=by
 intro pins s σ H x v vl vu lo hi sl Q I rx hs pl pu q;rcases q with q|q
 ·exact h pins s σ H x v vl vu lo hi sl Q I rx hs pl pu q
 ·exact h' pins s σ H x v vl vu lo hi sl Q I rx hs pl pu q
def tSl (r:V->Option Int->Option Int->Hp->VK->Prop)(te:TE)(tl th:TO):TE:=λσ H Q=>te σ H λx H1=>tl σ H1 λl H2=>th σ H2 λu H3=>r x l u H3 Q
theorem jiH {r:V->Option Int->Option Int->Hp->VK->Prop}(hr:SlR X r)(he:PE X e te)(hl:PO X lo tl)(hu:PO X hi th):PE X (.Subscript e (.Slice lo hi none p2) pos) (tSl r te tl th):=by
 intro pins s σ H Q I h;refine Subscript_ (thn (he pins s σ H _ I h) λv s1 ⟨x,H1,I1,r1,q1⟩=>?_);refine wpAny_Slice (thn (hl pins s1 σ H1 _ I1 q1) λvl s2 ⟨l,H2,I2,pl,q2⟩=>thn (hu pins s2 σ H2 _ I2 q2) λvu s3 ⟨u,H3,I3,pu,q3⟩=>?_);rw[YfS];refine Yam ?_;have I4:Inv X pins σ H3 { s3 with heap:=s3.heap.push { cls:=.type "slice",data:=.fields #[vl,vu,.none] } }:=I3.kept (t':=s3.toks) λb ob q=>Yae _ q
 obtain⟨T,id,hT,ht,hg⟩:=hr pins { s3 with heap:=s3.heap.push { cls:=.type "slice",data:=.fields #[vl,vu,.none] } } σ H3 x v vl vu l u s3.heap.objs.size Q I4 r1 (Heap.IsSliceOf.new ..) pl pu q3;show wpAny (model X.prog X.w) X.A (Yek e (.Slice lo hi none p2) v (.ref s3.heap.objs.size)) (EP X pins σ Q) X.xe { s3 with heap:=s3.heap.push { cls:=.type "slice",data:=.fields #[vl,vu,.none] } }
 exact tail_any (ops:=[.ref s3.heap.objs.size,v]) ht hT hg (by with_unfolding_all rfl)

noncomputable def cutV (xs:List V)(lo hi:Option Int):List V:=(xs.drop (HT.sIx xs.length 0 lo)).take (HT.sIx xs.length xs.length hi-HT.sIx xs.length 0 lo)
theorem jcX (xs:List V)(lo hi:Option Int):(cutV xs lo hi).length<=xs.length:=by
 unfold cutV;rw[Ydf,Ycf];omega
def rSlT (K:Yaa):V->Option Int->Option Int->Hp->VK->Prop:=λx lo hi H Q=>∃a xs,x=.ref a/\SqT K H a xs/\
 ¬(HT.sIx xs.length 0 lo=0/\HT.sIx xs.length xs.length hi=xs.length)/\∀p,H p=none->Q (.ref p) (upd H p (.tup (cutV xs lo hi)))
theorem jl1:SlR X (rSlT X.K):=by
 intro pins s σ H x v vl vu lo hi sl Q I rx hs pl pu h;obtain⟨a,xs,rfl,hx,hw,q⟩:=h;cases rx;obtain⟨its,r,ht,hz⟩:=I.tuple hx;have hlen:its.toArray.size=xs.length:=by rw[Yai];exact r.length.symm
 refine⟨"tuple",_,YaV.lookup,ht.typeIs,?_⟩;refine HT.getItem_tuple_cut ht hs pl pu (by rw[hlen];exact hw) ?_ (by rw[hlen];exact hz)
 rw[hlen];refine⟨.ref s.heap.objs.size,_,I.laid (t':=s.toks) (o:=.tup (cutV xs lo hi)) (λb ob q=>Yae _ q) (Yaf _) ?_,rfl,q _ (I.hok.fresh (Yaf _))⟩;exact⟨Yak (jcX xs lo hi) hz,_,(r.drop (HT.sIx xs.length 0 lo)).take (HT.sIx xs.length xs.length hi-HT.sIx xs.length 0 lo),TupD.new _ _⟩

def joP (K:Yaa):R2:=λx y H Q=>∃a b xs ys,x=.ref a/\y=.ref b/\SqT K H a xs/\SqT K H b ys/\xs≠[]/\xs.length+ys.length<=Yac/\
 (ys=[]->Q (.ref a) H)/\(ys≠[]->∀p,H p=none->Q (.ref p) (upd H p (.tup (xs++ys))))
theorem Vals.nil_iff {xs:List V}{us:List Value}(r:Vals xs us):us=[]↔xs=[]:=by
 cases r with
 |nil=>simp
 |cons _ _=>simp
theorem jkT:OpR X (Ybf .Add) (joP X.K):=by
 intro pins s σ H x y v u Q I rx ry h;obtain⟨a,b,xs,ys,rfl,rfl,ha,hb,hx,hz,q1,q2⟩:=h;cases rx;cases ry;obtain⟨its,r1,p1,_⟩:=I.tuple ha;obtain⟨its2,r2,p2,_⟩:=I.tuple hb;refine HT.cat_tup p1 p2 (λz=>hx (r1.nil_iff.mp z)) (λz=>⟨.ref a,H,I,rfl,q1 (r2.nil_iff.mp z)⟩) (λz=>?_) (by rw[<- r1.length,<- r2.length];exact hz)
 refine⟨.ref s.heap.objs.size,_,I.laid (t':=s.toks) (o:=.tup (xs++ys)) (λb ob q=>Yae _ q) (Yaf _) ?_,rfl,q2 (λw=>z (r2.nil_iff.mpr w)) _ (I.hok.fresh (Yaf _))⟩;exact⟨by rw[YaO];exact hz,_,r1.append r2,TupD.new _ _⟩
end

noncomputable def ixN (n:Nat)(i:Int):Option Nat:=if 0<=i then (if i<n then some i.toNat else none) else if -(n:Int)<=i then some (i+n).toNat else none
noncomputable def atI {α:Type}(xs:List α)(i:Int):Option α:=(ixN xs.length i).bind λj=>xs[j]?
theorem jhx {n:Nat}{i:Int}{j:Nat}(h:ixN n i=some j):seqIndex? i n=some j/\j<n/\-(n:Int)<=i/\i<n:=by
 unfold ixN at h;by_cases h0:0<=i
 ·rw[if_pos h0]at h;by_cases h1:i<n
  ·rw[if_pos h1]at h;have e:i.toNat=j:=Yan h;exact⟨by rw[seqIndex_of h0 h1,e],by omega,by omega,h1⟩
  ·rw[if_neg h1]at h;cases h
 ·rw[if_neg h0]at h;by_cases h1:-(n:Int)<=i
  ·rw[if_pos h1]at h;have e:(i+n).toNat=j:=Yan h;exact⟨by rw[Ygh (by omega) h1,e],by omega,h1,by omega⟩
  ·rw[if_neg h1]at h;cases h
theorem jfi {α:Type}{xs:List α}{i:Int}{v:α}(h:atI xs i=some v):∃j,seqIndex? i xs.length=some j/\xs[j]?=some v/\j<xs.length/\-(xs.length:Int)<=i/\i<xs.length:=by
 unfold atI at h;cases e:ixN xs.length i with
 |none=>rw[e]at h;cases h
 |some j=>
  rw[e]at h;obtain⟨h1,h2,h3,h4⟩:=jhx e;exact⟨j,h1,h,h2,h3,h4⟩
theorem jbz {α:Type}{xs:List α}{j:Nat}{v:α}(h:xs[j]?=some v):atI xs (j:Int)=some v:=by
 have hj:j<xs.length:=(List.getElem?_eq_some_iff.mp h).1;have e:ixN xs.length (j:Int)=some j:=by
  unfold ixN;rw[if_pos (by omega),if_pos (by omega)];simp
 unfold atI;rw[e];exact h
def jfo (b:Expr):Prop:=∀o i,subscripted b false o i=operate [o,i] (getItem o i)
def IxR (X:Cx)(r:R2):Prop:=
 ∀(value slice:Expr) (pins:List (Addr×Obj)) (s:Shared) (σ:St) (H:Hp) (x y:V) (v u:Value) (Q:VK),Inv X pins σ H s->RelV x v->RelV y u->r x y H Q->
  subscripted slice false v u=operate [v,u] (getItem v u)->wpAny (model X.prog X.w) X.A (Yek value slice v u) (EP X pins σ Q) X.xe s
def MtR (X:Cx)(id:String)(r:V->List V->Hp->VK->Prop):Prop:=
 ∀(pins:List (Addr×Obj)) (s:Shared) (σ:St) (H:Hp) (x:V) (xs:List V) (v:Value) (us:List Value) (Q:VK),Inv X pins σ H s->RelV x v->Vals xs us->r x xs H Q->
  wpAny (model X.prog X.w) X.A (call (.builtin id) (v::us)) (EP X pins σ Q) X.xe s
section
variable {X:Cx}{a b:Expr}{ta tb:TE}{pos:Pos}
theorem IxR.or {r r':R2}(h:IxR X r)(h':IxR X r'):IxR X (λx y H Q=>r x y H Q\/r' x y H Q):=by
 intro value slice pins s σ H x y v u Q I rx ry q hs;rcases q with q|q
 ·exact h value slice pins s σ H x y v u Q I rx ry q hs
 ·exact h' value slice pins s σ H x y v u Q I rx ry q hs
theorem joW {r:R2}(hr:IxR X r)(ha:PE X a ta)(hb:PE X b tb)(hs:jfo b):PE X (.Subscript a b pos) (tOp r ta tb):=by
 intro pins s σ H Q I h;exact Subscript_ (binT ha hb I h λv u s2 x y H2 I2 rx ry q=>hr a b pins s2 σ H2 x y v u Q I2 rx ry q (hs _ _))

def rIxL (K:Yaa):R2:=λx y H Q=>∃p xs i v,x=.ref p/\y=.int i/\SqL K H p xs/\atI xs i=some v/\Q v H
def rIxT (K:Yaa):R2:=λx y H Q=>∃p xs i v,x=.ref p/\y=.int i/\SqT K H p xs/\atI xs i=some v/\Q v H
def rIxS:R2:=λx y H Q=>∃z i c,x=.str z/\y=.int i/\z.length<=Yac/\atI z.cps.toList i=some c/\Q (.str ⟨#[c]⟩) H
theorem jlc:IxR X (rIxL X.K):=by
 intro value slice pins s σ H x y v u Q I rx ry h hs;obtain⟨p,xs,i,z,rfl,rfl,hq,he,q⟩:=h;cases rx;obtain⟨t,rfl⟩:=ry;obtain⟨its,r,pl,hz⟩:=I.list hq;obtain⟨j,h1,h2,h3,h4,h5⟩:=jfi he;obtain⟨w,ew,rw'⟩:=r.get h2;have hl:=r.length;have hn:=jcN;have fin:EP X pins σ Q w s:=⟨z,H,I,rw',q⟩;by_cases h0:0<=i
 ·have hj:i.toNat=j:=by
   rw[seqIndex_of h0 h5]at h1;exact Yan h1
  exact item_listR pl.isList h0 (by omega) (by rw[hj];simpa using ew) fin hs
 ·have hj:(i+(its.toArray.size:Int)).toNat=j:=by
   rw[Ygh (by omega) h4]at h1
   rw[Yai,<- hl];exact Yan h1
  exact Yf6 (x:=w) pl.isList.typeIs slot_list_getitem.lookup
   (wpAny_getItem_list_neg (Q:=λr s'=>r=w/\EP X pins σ Q r s') pl.isList (by omega) (by rw[Yai]<;>omega) (by omega) (by rw[hj];simpa using ew) ⟨rfl,fin⟩) hs
theorem jnc:IxR X (rIxT X.K):=by
 intro value slice pins s σ H x y v u Q I rx ry h hs;obtain⟨p,xs,i,z,rfl,rfl,hq,he,q⟩:=h;cases rx;obtain⟨t,rfl⟩:=ry;obtain⟨its,r,pl,hz⟩:=I.tuple hq;obtain⟨j,h1,h2,h3,h4,h5⟩:=jfi he;obtain⟨w,ew,rw'⟩:=r.get h2;have hl:=r.length;have hn:=jcN;have fin:EP X pins σ Q w s:=⟨z,H,I,rw',q⟩;exact Yf6 (x:=w) pl.typeIs slot_tuple_getitem.lookup
  (getItem_tuple (j:=j) (Q:=λr s'=>r=w/\EP X pins σ Q r s') pl (by omega) (by omega) (by rw[Yai,<- hl];exact h1) (by simpa using ew) ⟨rfl,fin⟩) hs
theorem jnd:IxR X rIxS:=by
 intro value slice pins s σ H x y v u Q I rx ry h hs;obtain⟨z,i,c,rfl,rfl,hz,he,q⟩:=h;obtain⟨t,rfl⟩:=rx;obtain⟨t',rfl⟩:=ry;obtain⟨j,h1,h2,h3,h4,h5⟩:=jfi he;have hl:z.cps.toList.length=z.length:=by simp[YcM]
 rw[hl]at h1 h4 h5;have hn:=jcN;exact tail_any (Ycc s z t) slot_str_getitem.lookup (getItem_str (c:=c) (by
  have e1:decide (i < -(2 ^ 63:Int))=false:=decide_eq_false (by omega)
  have e2:decide (i ≥ 2 ^ 63)=false:=decide_eq_false (by omega)
  rw[e1,e2,Ye4]) (by rw[h1];simpa using h2) ⟨.str ⟨#[c]⟩,H,I.tok _,⟨_,rfl⟩,q⟩) hs
def rIx (K:Yaa):R2:=λx y H Q=>rIxL K x y H Q\/rIxT K x y H Q\/rIxS x y H Q
theorem jne:IxR X (rIx X.K):=jlc.or (jnc.or jnd)

theorem jgn (its:List Value)(n j:Nat)(u:Value):Yeb (·.setIfInBounds j u) { cls:=.type "list",data:=.seq its.toArray n }={ cls:=.type "list",data:=.seq (its.set j u).toArray n }:=by
 simp[Yeb]
section
variable {pins:List (Addr×Obj)}{σ:St}{H:Hp}{s:Shared}{p:Addr}
theorem Inv.lst {xs:List V}(I:Inv X pins σ H s)(h:H p=some (.lst xs)) :
  ∃(its:List Value) (n:Nat),Vals xs its/\s.heap.get? p=some { cls:=.type "list",data:=.seq its.toArray n }/\xs.length<=Yac:=by
 obtain⟨z,its,n,r,e⟩:=I.hok p _ h;exact⟨its,n,r,e,z⟩
theorem Inv.lstUpd {xs ys:List V}{its its':List Value}{n n':Nat}{f:Obj->Obj}(I:Inv X pins σ H s)(h:H p=some (.lst xs))
  (ho:s.heap.get? p=some { cls:=.type "list",data:=.seq its.toArray n }) (hf:f { cls:=.type "list",data:=.seq its.toArray n }={ cls:=.type "list",data:=.seq its'.toArray n' }) (r:Vals ys its') (hz:ys.length<=Yac) (t:Nat) :
  Inv X pins σ (upd H p (.lst ys)) { s with heap:=s.heap.update p f,toks:=t }:=by
 have e:(s.heap.update p f).get? p=some { cls:=.type "list",data:=.seq its'.toArray n' }:=by
  rw[YcB f ho (by rw[hf]<;>rfl),hf]
 refine I.write (x:=p) (e:=p) (by rw[h];trivial) (.inl rfl) (λb u hb q=>(Ydk _ _ (Ne.symm hb)).trans q) ⟨_,e⟩ ?_
 exact⟨hz,its',n',r,e⟩
end
def jmi:V->V->V->Hp->(Hp->Prop)->Prop:=λo i v H Q=>∃p xs k j,o=.ref p/\i=.int k/\H p=some (.lst xs)/\ixN xs.length k=some j/\Q (upd H p (.lst (xs.set j v)))
theorem jit:PSet X jmi:=by
 intro pins s σ H o i v ov iv u Q I ro ri rv h;obtain⟨p,xs,k,j,rfl,rfl,hp,hj,q⟩:=h;cases ro;obtain⟨t,rfl⟩:=ri;obtain⟨its,n,r,ho,hz⟩:=I.lst hp;obtain⟨h1,h2,h3,h4⟩:=jhx hj;have hl:=r.length;have hn:=jcN;have I':Inv X pins σ (upd H p (.lst (xs.set j v))) { s with heap:=s.heap.update p (Yeb (·.setIfInBounds j u)) }:=
  I.lstUpd hp ho (jgn its n j u) (r.set rv j) (by rw[List.length_set];exact hz) s.toks
 by_cases h0:0<=k
 ·have hk:k.toNat=j:=by
   rw[seqIndex_of h0 h4]at h1;exact Yan h1
  exact PySem.W.ki_setAt ho h0 (by omega) (by rw[Yai,<- hl];exact h4) (by rw[hk];exact⟨_,I',q⟩)
 ·have hk:(k+(its.toArray.size:Int)).toNat=j:=by
   rw[Ygh (by omega) h3]at h1
   rw[Yai,<- hl];exact Yan h1
  exact PySem.W.ki_setBack ho (by omega) (by rw[Yai,<- hl];exact h3) (by omega) (by rw[hk];exact⟨_,I',q⟩)

theorem jd0 (lo hi:Option Int)(n:Nat):(Ycp lo hi none n).1=((HT.sIx n 0 lo:Nat):Int)/\(Ycp lo hi none n).2.1=((HT.sIx n n hi:Nat):Int)/\(Ycp lo hi none n).2.2=1:=by
 refine⟨?_,?_,rfl⟩
 ·cases lo with
  |none=>simp[Ycp,HT.sIx]
  |some i=>
   simp only[Ycp,HT.sIx,YfW,show(1:Int)>0 by decide,if_true]
   by_cases h:i<0
   ·simp only[h,if_true]<;>omega
   ·simp only[h,if_false]<;>omega
 ·cases hi with
  |none=>simp[Ycp,HT.sIx]
  |some i=>
   simp only[Ycp,HT.sIx,YfW,show(1:Int)>0 by decide,if_true]
   by_cases h:i<0
   ·simp only[h,if_true]<;>omega
   ·simp only[h,if_false]<;>omega
theorem jdz (its:List Value)(lo hi:Option Int):Yel its.toArray lo hi none=((its.drop (HT.sIx its.length 0 lo)).take (HT.sIx its.length its.length hi-HT.sIx its.length 0 lo)).toArray:=by
 obtain⟨h1,h2,h3⟩:=jd0 lo hi its.toArray.size;unfold Yel;rw[h1,h2,h3];simp only[sliceRange_one,pick_run,Yai]<;>rfl
def rSlL (K:Yaa):V->Option Int->Option Int->Hp->VK->Prop:=λx lo hi H Q=>∃a xs,x=.ref a/\SqL K H a xs/\∀p,H p=none->Q (.ref p) (upd H p (.lst (cutV xs lo hi)))
theorem jkl:SlR X (rSlL X.K):=by
 intro pins s σ H x v vl vu lo hi sl Q I rx hs pl pu h;obtain⟨a,xs,rfl,hx,q⟩:=h;cases rx;obtain⟨its,r,ht,hz⟩:=I.list hx;have hlen:=r.length;refine⟨"list",_,slot_list_getitem.lookup,ht.isList.typeIs,?_⟩;refine Ydm ht.isList hs pl pu .none (by simp) ?_ (by rw[Yai]<;>omega)
 rw[jdz,<- hlen];refine⟨.ref s.heap.objs.size,_,I.laid (t':=s.toks) (o:=.lst (cutV xs lo hi)) (λb ob q=>Yae _ q) (Yaf _) ?_,rfl,q _ (I.hok.fresh (Yaf _))⟩;exact⟨Yak (jcX xs lo hi) hz,_,0,(r.drop (HT.sIx xs.length 0 lo)).take (HT.sIx xs.length xs.length hi-HT.sIx xs.length 0 lo),Yas _ rfl⟩

noncomputable def flatV:V->Bool
 |.non=>true
 |.bl _=>true
 |.int _=>true
 |.str _=>true
 |_=>false
noncomputable def eqV:V->V->Bool
 |.non,.non=>true
 |.bl a,.bl b=>a==b
 |.bl a,.int b=>(if a then 1 else 0)==b
 |.int a,.bl b=>a==(if b then 1 else 0)
 |.int a,.int b=>a==b
 |.str a,.str b=>a==b
 |_,_=>false
theorem jnr {A:Around}{s:Shared}{y x:V}{u v:Value}(ry:RelV y u)(rx:RelV x v)(fy:flatV y=true)(fx:flatV x=true):YeQ A s u v (eqV y x):=by
 cases y with
 |non=>
  cases ry;cases x with
  |non=>cases rx;exact YeQ.same _
  |bl b=>cases rx;exact YeQ.none_bool b
  |int b=>obtain⟨t,rfl⟩:=rx;exact YeQ.none_int b t
  |str b=>obtain⟨t,rfl⟩:=rx;exact YeQ.none_str b t
  |_=>exact absurd (show false=true from fx) Yaj
 |bl a=>
  cases ry;cases x with
  |non=>cases rx;exact YeQ.bool_none a
  |bl b=>cases rx;exact YeQ.bool_bool a b
  |int b=>obtain⟨t,rfl⟩:=rx;exact YeQ.bool_int a b t
  |str b=>obtain⟨t,rfl⟩:=rx;exact YeQ.bool_str a b t
  |_=>exact absurd (show false=true from fx) Yaj
 |int a=>
  obtain⟨t',rfl⟩:=ry;cases x with
  |non=>cases rx;exact YeQ.int_none a t'
  |bl b=>cases rx;exact YeQ.int_bool a t' b
  |int b=>obtain⟨t,rfl⟩:=rx;exact YeQ.int_int a t' b t
  |str b=>obtain⟨t,rfl⟩:=rx;exact YeZ a t' b t
  |_=>exact absurd (show false=true from fx) Yaj
 |str a=>
  obtain⟨t',rfl⟩:=ry;cases x with
  |non=>cases rx;exact YeQ.str_none a t'
  |bl b=>cases rx;exact YeQ.str_bool a t' b
  |int b=>obtain⟨t,rfl⟩:=rx;exact YeY a t' b t
  |str b=>obtain⟨t,rfl⟩:=rx;exact YeQ.str_str a t' b t
  |_=>exact absurd (show false=true from fx) Yaj
 |_=>exact absurd (show false=true from fy) Yaj
noncomputable def eqU (x:V)(u:Value):Bool:=match u with
 |.none=>eqV .non x
 |.bool b=>eqV (.bl b) x
 |.int i _=>eqV (.int i) x
 |.str z _=>eqV (.str z) x
 |_=>false
theorem jjP {x y:V}{u:Value}(r:RelV y u)(f:flatV y=true):eqU x u=eqV y x:=by
 cases y with
 |non=>cases r;rfl
 |bl b=>cases r;rfl
 |int i=>obtain⟨t,rfl⟩:=r;rfl
 |str z=>obtain⟨t,rfl⟩:=r;rfl
 |_=>exact absurd (show false=true from f) Yaj
theorem jc1 {x:V}:∀{xs:List V} {us:List Value},Vals xs us->xs.all flatV=true->us.any (eqU x)=xs.any λy=>eqV y x
 |_,_,.nil,_=>rfl
 |y::xs,u::us,.cons r t,f=>by
  rw[YbB,Yap]at f;rw[Ybj,Ybj,jjP r f.1,jc1 t f.2]
theorem jaX {A:Around}{s:Shared}{x:V}{v:Value}(rx:RelV x v)(fx:flatV x=true):∀{xs:List V} {us:List Value},Vals xs us->xs.all flatV=true->∀u∈us,YeQ A s u v (eqU x u)
 |_,_,.nil,_=>λu hu=>by cases hu
 |y::xs,u::us,.cons r t,f=>λu' hu=>by
  rw[YbB,Yap]at f;rcases YaL.mp hu with rfl|hu
  ·rw[jjP r f.1];exact jnr r rx f.1 fx
  ·exact jaX rx fx t f.2 u' hu
noncomputable def inV (x:V)(xs:List V):Bool:=xs.any λy=>eqV y x
def rIn (K:Yaa)(neg:Bool):R2:=λx y H Q=>∃p xs,y=.ref p/\(SqL K H p xs\/SqT K H p xs)/\flatV x=true/\xs.all flatV=true/\Q (.bl (if neg then !inV x xs else inV x xs)) H
theorem jha:OpR X (YaM .In) (rIn X.K false):=by
 intro pins s σ H x y v u Q I rx ry h;obtain⟨p,xs,rfl,hq,fx,fs,q⟩:=h;cases ry;rcases hq with hq|hq
 ·obtain⟨its,r,pl,hz⟩:=I.list hq;refine Ygm (eqU x) pl.isList (λw hw=>jaX rx fx r fs w (by simpa using hw)) ⟨.bl _,H,I,rfl,?_⟩
  rw[show its.toArray.any (eqU x)=its.any (eqU x) by simp,jc1 r fs]
  exact q
 ·obtain⟨its,r,pl,hz⟩:=I.tuple hq;refine SeqAt.in_tupleAt (eqU x) pl (λw hw=>jaX rx fx r fs w (by simpa using hw)) ⟨.bl _,H,I,rfl,?_⟩
  rw[show its.toArray.any (eqU x)=its.any (eqU x) by simp,jc1 r fs]
  exact q
theorem jd6:OpR X (YaM .NotIn) (rIn X.K true):=by
 intro pins s σ H x y v u Q I rx ry h;obtain⟨p,xs,rfl,hq,fx,fs,q⟩:=h;cases ry;rcases hq with hq|hq
 ·obtain⟨its,r,pl,hz⟩:=I.list hq;refine YfD (eqU x) pl.isList (λw hw=>jaX rx fx r fs w (by simpa using hw)) ⟨.bl _,H,I,rfl,?_⟩
  rw[show its.toArray.any (eqU x)=its.any (eqU x) by simp,jc1 r fs]
  exact q
 ·obtain⟨its,r,pl,hz⟩:=I.tuple hq;refine SeqAt.notIn_tupleAt (eqU x) pl (λw hw=>jaX rx fx r fs w (by simpa using hw)) ⟨.bl _,H,I,rfl,?_⟩
  rw[show its.toArray.any (eqU x)=its.any (eqU x) by simp,jc1 r fs]
  exact q
theorem jaG.or {f:Value}{r r':List V->Hp->VK->Prop}(h:jaG X f r)(h':jaG X f r'):jaG X f (λxs H Q=>r xs H Q\/r' xs H Q):=by
 intro pins s σ H xs us Q I rs q;rcases q with q|q
 ·exact h pins s σ H xs us Q I rs q
 ·exact h' pins s σ H xs us Q I rs q
theorem jeA:jaG X (.type "list") (λxs H Q=>∃p ys,xs=[.ref p]/\(SqL X.K H p ys\/SqT X.K H p ys)/\∀l,H l=none->Q (.ref l) (upd H l (.lst ys))):=by
 intro pins s σ H xs us Q I r h;obtain⟨p,ys,rfl,hq,q⟩:=h;obtain⟨u,rfl,rx⟩:=jcf r;cases rx;have fin:∀(its:List Value),Vals ys its->ys.length<=Yac->∀(h':Heap) (c':Nat),(∀b o',s.heap.get? b=some o'->h'.get? b=some o')->
   h'.get? s.heap.objs.size=some { cls:=.type "list",dict:=none,data:=.seq its.toArray c',slots:=#[] }->EP X pins σ Q (.ref s.heap.objs.size) { s with heap:=h' }:=λits r' hz h' c' kp e=>
  ⟨.ref s.heap.objs.size,_,I.laid (t':=s.toks) kp (Yaf _) (show jav X.prog X.w _ h' _ (.lst ys)from⟨hz,its,c',r',e⟩),rfl,q _ (I.hok.fresh (Yaf _))⟩
 rcases hq with hq|hq
 ·obtain⟨its,r',pl,hz⟩:=I.list hq;have hlen:=r'.length;obtain⟨o,ho,hc,n,hd⟩:=pl.isList;exact call_list_seq p (.inl rfl) ho hc hd (λh' c' kp e=>fin its r' hz h' c' kp e) (by simp only[Yai]<;>omega)
 ·obtain⟨its,r',pl,hz⟩:=I.tuple hq;have hlen:=r'.length;obtain⟨o,ho,hc,n,hd⟩:=pl;exact call_list_seq p (.inr rfl) ho hc hd (λh' c' kp e=>fin its r' hz h' c' kp e) (by simp only[Yai]<;>omega)
theorem jdT:jaG X (.type "tuple") (λxs H Q=>∃p ys,xs=[.ref p]/\((SqL X.K H p ys/\∀l,H l=none->Q (.ref l) (upd H l (.tup ys)))\/(SqT X.K H p ys/\Q (.ref p) H))):=by
 intro pins s σ H xs us Q I r h;obtain⟨p,ys,rfl,h⟩:=h;obtain⟨u,rfl,rx⟩:=jcf r;cases rx;rcases h with⟨hq,q⟩|⟨hq,q⟩
 ·obtain⟨its,r',pl,hz⟩:=I.list hq;have hlen:=r'.length;refine call_tuple_list pl.isList (λh' kp=>?_) (by simp only[Yai]<;>omega)
  have I1:Inv X pins σ H { s with heap:=h' }:=I.kept (t':=s.toks) kp
  have I2:Inv X pins σ (upd H h'.objs.size (.tup ys)) { s with heap:=h'.push { cls:=.type "tuple",data:=.seq its.toArray } }:=
   I1.laid (t':=s.toks) (λb o e=>Yae _ e) (Yaf _) (show jav X.prog X.w _ _ _ (.tup ys)from⟨hz,its,r',TupD.new _ _⟩)
  exact⟨.ref h'.objs.size,_,I2,rfl,q _ (I1.hok.fresh (Yaf _))⟩
 ·obtain⟨its,r',pl,hz⟩:=I.tuple hq;exact call_tuple_same pl ⟨.ref p,H,I,rfl,q⟩

def tyV (K:Yaa)(T:String)(x:V)(H:Hp):Prop:=match x with
 |.str _=>T = "str"
 |.int _=>T = "int"
 |.ref p=>(T = "list" /\ ∃xs,SqL K H p xs)\/(T = "tuple" /\ ∃o,K.lookup p=some o/\o.cls=.type "tuple" /\ o.dict=none)\/
   (T = "dict" /\ ((∃kvs,H p=some (.dK kvs))\/∃kvs,H p=some (.dT kvs)))\/(T = "set" /\ ∃S n,H p=some (.set S n))\/(T = "tuple" /\ ∃xs,H p=some (.tup xs))
 |_=>False
theorem jgG {pins:List (Addr×Obj)}{σ:St}{H:Hp}{s:Shared}{T:String}{x:V}{v:Value}(I:Inv X pins σ H s)(r:RelV x v)(ty:tyV X.K T x H) :
  s.TypeIs v T/\∀a,v=.ref a->∃ob,s.heap.get? a=some ob/\ob.dict=none:=by
 cases x with
 |str z=>
  obtain⟨t,rfl⟩:=r;cases(show T = "str" from ty);exact⟨Ycc s z t,λ_ e=>nomatch e⟩
 |int i=>
  obtain⟨t,rfl⟩:=r;cases(show T = "int" from ty);exact⟨YeH s i t,λ_ e=>nomatch e⟩
 |ref p=>
  cases r;rcases ty with⟨rfl,xs,hq⟩|⟨rfl,o,hk,hc,hd⟩|⟨rfl,hk⟩|⟨rfl,S,n,hk⟩|⟨rfl,xs,hk⟩
  ·obtain⟨its,_,pl,_⟩:=I.list hq;refine⟨pl.isList.typeIs,λa e=>?_⟩;cases e;obtain⟨o,n,e,c,hd,_⟩:=pl;exact⟨o,e,hd⟩
  ·refine⟨⟨o,I.kIn p o hk,hc⟩,λa e=>?_⟩;cases e;exact⟨o,I.kIn _ o hk,hd⟩
  ·have z:∃o,s.heap.get? p=some o/\o.ExactDict:=by
    rcases hk with⟨kvs,hk⟩|⟨kvs,hk⟩
    ·obtain⟨_,_,_,_,o,_,_,e,ex,_⟩:=I.hok p _ hk;exact⟨o,e,ex⟩
    ·obtain⟨_,_,_,_,o,_,_,e,ex,_⟩:=I.hok p _ hk;exact⟨o,e,ex⟩
   obtain⟨o,e,ex⟩:=z;refine⟨⟨o,e,ex.1⟩,λa e2=>?_⟩;cases e2;exact⟨o,e,ex.2.1⟩
  ·obtain⟨o,_,_,_,e,ex,_⟩:=I.hok p _ hk;refine⟨⟨o,e,ex.1⟩,λa e2=>?_⟩;cases e2;exact⟨o,e,ex.2.1⟩
  ·obtain⟨_,its,r,o,e,c,n,d,hd⟩:=(show jav X.prog X.w H s.heap p (.tup xs)from I.hok p _ hk);refine⟨⟨o,e,c⟩,λa e2=>?_⟩;cases e2;exact⟨o,e,hd⟩
 |_=>exact Ybn ty
variable {o e:Expr}{es:List Expr}{to:TE}{t:TA}{name:Str}{apos cpos:Pos}{T id:String}{r:V->List V->Hp->VK->Prop}
end

def MtM (X:Cx)(id:String)(r:V->List V->Hp->VK->Prop):Prop:=
 ∀(pins:List (Addr×Obj)) (s:Shared) (σ:St) (H:Hp) (x:V) (xs:List V) (v:Value) (us:List Value) (Q:VK),Inv X pins σ H s->RelV x v->Vals xs us->r x xs H Q->
  wpAny (model X.prog X.w) X.A (call (.builtin id) (v::us)) (EP X pins σ Q) X.xe s

theorem Vals.one:∀{x:V} {us:List Value},Vals [x] us->∃u,us=[u]/\RelV x u
 |_,_,.cons r .nil=>⟨_,rfl,r⟩
theorem Vals.two:∀{x y:V} {us:List Value},Vals [x,y] us->∃u v,us=[u,v]/\RelV x u/\RelV y v
 |_,_,_,.cons r (.cons q .nil)=>⟨_,_,rfl,r,q⟩
theorem Vals.rep {xs:List V}{us:List Value}(h:Vals xs us):∀k:Nat,Vals (Yab k xs).flatten (Yab k us).flatten
 |0=>.nil
 |k+1=>by
  rw[YaH,YaH,YbG,YbG];exact Vals.append h (Vals.rep h k)
theorem jcQ (its:List Value):∀(k:Nat) (acc:List Value),
  Yd5 (λx1 x2=>x1++x2) acc.toArray (Yab k its.toArray)=(acc++(Yab k its).flatten).toArray
 |0,acc=>by simp
 |k+1,acc=>by
  have e:acc.toArray++its.toArray=(acc++its).toArray:=by simp
  have e2:(acc++its)++(Yab k its).flatten=acc++(Yab (k+1) its).flatten:=by
   rw[YaH,YbG,Ygc]
  rw[<- e2,<- jcQ its k (acc++its),<- e,YaH,Ydr]

section
variable {X:Cx}{pins:List (Addr×Obj)}{σ:St}{H:Hp}{s:Shared}{l b:Addr}{xs ys zs:List V}

theorem Inv.lset {its its':List Value}{n:Nat}{f:Array Value->Array Value}{t':Nat}(I:Inv X pins σ H s)(hH:H l=some (.lst xs))
  (e:s.heap.get? l=some { cls:=.type "list",data:=.seq its.toArray n }) (hf:f its.toArray=its'.toArray) (hv:Vals ys its') (hz:ys.length<=Yac) :
  Inv X pins σ (upd H l (.lst ys)) { s with heap:=s.heap.update l (Yeb f),toks:=t' }:=by
 have q:=PySem.IsL.update e f;rw[hf]at q;refine I.write (x:=l) (e:=l) (by rw[hH];exact trivial) (.inl rfl) (λb' u hb hu=>(Ydk s.heap (Yeb f) (Ne.symm hb)).trans hu) ⟨_,q⟩ ?_
 exact⟨hz,its',_,hv,q⟩
theorem Inv.lnew {its:List Value}{t':Nat}(I:Inv X pins σ H s)(hv:Vals ys its)(hz:ys.length<=Yac) :
  Inv X pins σ (upd H s.heap.objs.size (.lst ys)) { s with heap:=s.heap.push { cls:=.type "list",data:=.seq its.toArray },toks:=t' }:=
 I.laid (λ_ _ q=>Yae _ q) (Yaf _) ⟨hz,its,0,hv,Yas _ rfl⟩
theorem Inv.fresh (I:Inv X pins σ H s):H s.heap.objs.size=none:=I.hok.fresh (Yaf _)
theorem Inv.lstM (I:Inv X pins σ H s)(hH:H l=some (.lst xs)):xs.length<=Yac/\∃(its:List Value) (n:Nat),Vals xs its/\xs.length=its.length/\s.heap.get? l=some { cls:=.type "list",data:=.seq its.toArray n }:=by
 obtain⟨z,its,n,r,e⟩:=I.hok l _ hH;exact⟨z,its,n,r,r.length,e⟩

theorem jiS {n:Nat}(h:n<=Yac):YcJ n=false:=by
 unfold YcJ;exact decide_eq_false (by omega)
end

section
variable {X:Cx}

def jkt:V->List V->Hp->VK->Prop:=λx vs H Q=>∃l xs y,x=.ref l/\vs=[y]/\H l=some (.lst xs)/\xs.length<Yac/\Q .non (upd H l (.lst (xs++[y])))
theorem jei:MtM X "list.append" jkt:=by
 intro pins s σ H x vs v us Q I rx rv h;obtain⟨l,xs,y,rfl,rfl,hH,hz,q⟩:=h;cases rx;obtain⟨u,rfl,ru⟩:=rv.one;obtain⟨z,its,n,r,hl,e⟩:=I.lstM hH;refine YbC F.slot_list_append ⟨_,e,rfl⟩ F.entry_list_append (F.args_list_append_2 _ _) (PySem.list_append l its.toArray n u (by rw[Yai];omega)) ⟨e,?_⟩
 refine⟨.non,_,I.lset (its':=its++[u]) hH e (by simp) (r.append (.cons ru .nil)) ?_,rfl,q⟩
 rw[YaO,List.length_singleton];omega

def rCat:R2:=λx y H Q=>∃l b xs zs,x=.ref l/\y=.ref b/\H l=some (.lst xs)/\H b=some (.lst zs)/\xs.length+zs.length<=Yac/\∀p,H p=none->Q (.ref p) (upd H p (.lst (xs++zs)))
theorem jmT:OpR X (Ybf .Add) rCat:=by
 intro pins s σ H x y v u Q I rx ry h;obtain⟨l,b,xs,zs,rfl,rfl,hH,hB,hz,q⟩:=h;cases rx;cases ry;obtain⟨z,its,n,r,hl,e⟩:=I.lstM hH;obtain⟨z2,its2,n2,r2,hl2,e2⟩:=I.lstM hB;refine PySem.P.add_list e e2 ?_ (by rw[Yai,Yai];omega)
 have ea:its.toArray++its2.toArray=(its++its2).toArray:=by simp
 rw[ea];exact⟨.ref _,_,I.lnew (t':=s.toks) (r.append r2) (by rw[YaO];omega),rfl,q _ I.fresh⟩
def rRep:R2:=λx y H Q=>∃l k xs,x=.ref l/\y=.int k/\H l=some (.lst xs)/\-(2 ^ 63)<=k/\k<2 ^ 63/\xs.length*k.toNat<=Yac/\
 ∀p,H p=none->Q (.ref p) (upd H p (.lst (Yab k.toNat xs).flatten))
theorem je2 {α:Type}(xs:List α)(k:Nat):(Yab k xs).flatten.length=k*xs.length:=by
 induction k with
 |zero=>simp
 |succ k ih=>rw[YaH,YbG,YaO,ih,Nat.succ_mul,Yfv]
theorem jmK:OpR X (Ybf .Mult) rRep:=by
 intro pins s σ H x y v u Q I rx ry h;obtain⟨l,k,xs,rfl,rfl,hH,h1,h2,hz,q⟩:=h;cases rx;obtain⟨t,rfl⟩:=ry;obtain⟨z,its,n,r,hl,e⟩:=I.lstM hH;have hlen:its.toArray.size*k.toNat<=Yac:=by rw[Yai,<- hl];exact hz
 have hcap:¬its.toArray.size*k.toNat>(2 ^ 63-1)/8:=by
  have:(Yac:Nat)<=(2 ^ 63-1)/8:=by decide
  omega
 have hfit:¬(!Builtin.List.listFitsIndex k)=true:=by
  rw[fitsIndex_both h1 h2];exact Yaj
 have hlong:¬YcJ (its.toArray.size*k.toNat)=true:=by
  rw[jiS hlen];exact Yaj
 have hnew:Yd5 (λx1 x2=>x1++x2) #[] (Yab (if its.toArray.isEmpty=true then 0 else k.toNat) its.toArray)=(Yab k.toNat its).flatten.toArray:=by
  have f0:∀m:Nat,Yd5 (λx1 x2=>x1++x2) #[] (Yab m its.toArray)=(Yab m its).flatten.toArray:=λm=>by
   have:=jcQ its m [];rw[YbW]at this;exact this
  rw[f0];cases its with
  |nil=>simp
  |cons a r'=>rw[if_neg (by simp)]
 refine Yfl (T := "list") (U := "int") (by decide) ⟨_,e,rfl⟩ (λs'=>YeH s' k t) noFill_list_mul F.fills_int_mul YdG repeat_list F.slot_int_index.lookup
  (YbC YdG (YeH s k t) F.entry_int_rmul (F.args_int_rmul_2 _ _) (int___rmul___int_list k t l its.toArray n)
   ⟨e,rfl,⟨_,e,rfl⟩,YbC F.slot_list_mul ⟨_,e,rfl⟩ F.entry_list_mul (F.args_list_mul_2 _ _) (AutoListH.list___mul___list_int_3 l its.toArray n k t hfit hcap hlong) ⟨e,?_⟩⟩)
 rw[hnew];exact⟨.ref _,_,I.lnew (t':=s.toks) (r.rep k.toNat) (by rw[je2,Yeh];exact hz),rfl,q _ I.fresh⟩

end

section
variable {prog:Program}{w:World}{A:Around}{E:Value->Shared->Prop}{s:Shared}
end

section
variable {X:Cx}
end

section
variable {κ:Type}[DecidableEq κ]
noncomputable def valV (kvs:List (κ×V))(k:κ):Option V:=(kvs.find? λkv=>decide (kv.1=k)).map (·.2)
noncomputable def putK (kvs:List (κ×V))(k:κ)(v:V):List (κ×V):=
 if (kvs.any λkv=>decide (kv.1=k))=true then kvs.map (λkv=>if kv.1=k then (kv.1,v) else kv) else kvs++[(k,v)]
noncomputable def jqv (kvs:List (κ×V))(k:κ):List (κ×V):=kvs.filter λkv=>decide (kv.1≠k)

section
variable {p:κ×V}{r:List (κ×V)}{k:κ}
theorem jck (e:p.1=k):valV (p::r) k=some p.2:=by simp[valV,Ybu,e]
theorem jcl (e:¬p.1=k):valV (p::r) k=valV r k:=by simp[valV,Ybu,e]
end
theorem jfq (k:κ):∀kvs:List (κ×V),(kvs.any λkv=>decide (kv.1=k))=(valV kvs k).isSome
 |[]=>rfl
 |p::r=>by
  rw[Ybj];by_cases e:p.1=k
  ·simp only[jck e,decide_eq_true e,Bool.true_or,Option.isSome_some]
  ·rw[jcl e,decide_eq_false e,Ye5];exact jfq k r
theorem jbu (kvs:List (κ×V))(k:κ)(v:V):(putK kvs k v).length<=kvs.length+1:=by
 unfold putK;split
 ·rw[Yah];omega
 ·rw[YaO,Ya4,YcP];omega
theorem RelO.isSome_eq {o:Option V}{u:Option Value}(r:RelO o u):o.isSome=u.isSome:=by
 cases o with
 |none=>cases u with
  |none=>rfl
  |some _=>exact(show False from r).elim
 |some _=>cases u with
  |none=>exact(show False from r).elim
  |some _=>rfl
section
variable {kvs:List (κ×V)}{vs:List (κ×Value)}
theorem KV.val (r:KV kvs vs)(k:κ):RelO (valV kvs k) (valueAt vs k):=by
 unfold KV at r
 induction r with
 |nil=>exact YbJ
 |@cons p q ps qs h t ih=>
  obtain⟨h1,h2⟩:=h;by_cases e:p.1=k
  ·have e':q.1=k:=h1.symm.trans e;have b:valueAt (q::qs) k=some q.2:=by simp[valueAt,Ybu,e']
   rw[jck e,b];exact h2
  ·have e':¬q.1=k:=λz=>e (h1.trans z);have b:valueAt (q::qs) k=valueAt qs k:=by simp[valueAt,Ybu,e']
   rw[jcl e,b];exact ih
theorem KV.any (r:KV kvs vs)(k:κ):(kvs.any λkv=>decide (kv.1=k))=vs.any λkv=>decide (kv.1=k):=by
 unfold KV at r
 induction r with
 |nil=>rfl
 |cons h t ih=>rw[Ybj,Ybj,ih,h.1]
theorem KV.repl (r:KV kvs vs)(k:κ){y:V}{u:Value}(ry:RelV y u) :
  KV (kvs.map λkv=>if kv.1=k then (kv.1,y) else kv) (vs.map λkv=>if kv.1=k then (kv.1,u) else kv):=by
 unfold KV at r ⊢
 induction r with
 |nil=>exact .nil
 |@cons p q ps qs h t ih=>
  rw[YaA,YaA];refine .cons ?_ ih;obtain⟨h1,h2⟩:=h;by_cases e:p.1=k
  ·rw[if_pos e,if_pos (h1.symm.trans e)];exact⟨h1,ry⟩
  ·rw[if_neg e,if_neg (λz=>e (h1.trans z))];exact⟨h1,h2⟩
theorem KV.put (r:KV kvs vs)(k:κ){y:V}{u:Value}(ry:RelV y u):KV (putK kvs k y) (stored vs k u):=by
 unfold putK stored;rw[r.any k];by_cases e:(vs.any λkv=>decide (kv.1=k))=true
 ·rw[if_pos e,if_pos e];exact r.repl k ry
 ·rw[if_neg e,if_neg e];exact Paired.snoc r ⟨rfl,ry⟩
theorem KV.length (r:KV kvs vs):kvs.length=vs.length:=YdI r
end
end

theorem jgs {P:Program}{w:World}{k:Key}{u:Value}(r:RelV (kV k) u):(jap P w).is k u=true:=by
 cases k with
 |inl i=>obtain⟨t,e⟩:=(show ∃t,u=Yeq i t from r);subst e;exact je0 P w i t
 |inr x=>obtain⟨t,e⟩:=(show ∃t,u=Yep x t from r);subst e;exact jeZ P w x t
theorem jeo {P:Program}{w:World}:∀{ks:List Key} {us:List Value},Vals (ks.map kV) us->ItemsAre (jap P w) ks us
 |[],_,r=>by rw[Yec]at r;cases r;exact .nil
 |k::ks,_,r=>by
  rw[YaA]at r;cases r with
  |cons h t=>exact .cons (jgs h) (jeo t)

abbrev KT (H:Hp):List (List Key×V)->List (List Key×Addr×Value)->Prop:=Paired λp q=>p.1=q.1/\H q.2.1=some (.tup (p.1.map kV))/\RelV p.2 q.2.2
section
variable {H:Hp}{kvs:List (List Key×V)}{xs:List (List Key×Addr×Value)}
theorem KT.val (r:KT H kvs xs)(k:List Key):RelO (valV kvs k) ((atKey xs k).map (·.2)):=by
 induction r with
 |nil=>exact YbJ
 |@cons p q ps qs h t ih=>
  obtain⟨h1,_,h2⟩:=h;by_cases e:p.1=k
  ·have e':q.1=k:=h1.symm.trans e;have b:atKey (q::qs) k=some q.2:=by simp[atKey,Ybu,e']
   rw[jck e,b];exact h2
  ·have e':¬q.1=k:=λz=>e (h1.trans z);have b:atKey (q::qs) k=atKey qs k:=by simp[atKey,Ybu,e']
   rw[jcl e,b];exact ih
theorem KT.repl (r:KT H kvs xs)(k:List Key){y:V}{u:Value}(ry:RelV y u) :
  KT H (kvs.map λkv=>if kv.1=k then (kv.1,y) else kv) (xs.map (putAt k u)):=by
 induction r with
 |nil=>exact .nil
 |@cons p q ps qs h t ih=>
  rw[YaA,YaA];refine .cons ?_ ih;obtain⟨h1,h2,h3⟩:=h;unfold putAt;by_cases e:p.1=k
  ·rw[if_pos e,if_pos (h1.symm.trans e)];exact⟨h1,h2,ry⟩
  ·rw[if_neg e,if_neg (λz=>e (h1.trans z))];exact⟨h1,h2,h3⟩
theorem KT.put (r:KT H kvs xs)(k:List Key){b:Addr}{y:V}{u:Value}(hb:H b=some (.tup (k.map kV)))(ry:RelV y u) :
  KT H (putK kvs k y) (storedH xs k b u):=by
 have e:(kvs.any λkv=>decide (kv.1=k))=(atKey xs k).isSome:=by
  rw[jfq,(r.val k).isSome_eq,YdY]
 unfold putK storedH;rw[e];by_cases q:(atKey xs k).isSome=true
 ·rw[if_pos q,if_pos q];exact r.repl k ry
 ·rw[if_neg q,if_neg q];exact Paired.snoc r ⟨rfl,hb,ry⟩
end
theorem KT.keeps {H H':Hp}{kvs:List (List Key×V)}{xs:List (List Key×Addr×Value)}(r:KT H kvs xs)(ht:∀b ys,H b=some (.tup ys)->H' b=some (.tup ys)):KT H' kvs xs:=
 Paired.mapP r λ_ _ z=>⟨z.1,ht _ _ z.2.1,z.2.2⟩

section
variable {P:Program}{w:World}{H:Hp}{h:Heap}{a:Addr}
theorem jmg {u:HO}(ok:HOk P w H h)(e:Rd H a u):jav P w H h a u:=e.ok ok
theorem jgw {kvs:List (Key×V)}(ok:HOk P w H h)(e:Rd H a (.dK kvs)):kvs.length<=Yac/\(a==Ya7)=false/\∃vs,KV kvs vs/\h.DictOf (jap P w) a vs:=
 show jav P w H h a (.dK kvs)from jmg ok e
theorem jnv {kvs:List (Key×V)}(ok:HOk P w H h)(e:H a=some (.dK kvs)):kvs.length<=Yac/\(a==Ya7)=false/\∃vs,KV kvs vs/\h.DictOf (jap P w) a vs:=jgw ok (.inl e)
theorem jen {ks:List Key}(ok:HOk P w H h)(e:H a=some (.tup (ks.map kV))):(Ye8 (jap P w)).is h ks a:=by
 obtain⟨_,its,r,o,h1,h2,n,h3,_⟩:=(show jav P w H h a (.tup (ks.map kV))from ok a _ e);exact⟨o,its.toArray,n,h1,h2,h3,by simpa using jeo r⟩
section
variable {kvs:List (List Key×V)}
theorem jhN (ok:HOk P w H h)(e:Rd H a (.dT kvs)):kvs.length<=Yac/\(a==Ya7)=false/\
  ∃xs,KT H kvs xs/\h.DictOfH (Ye8 (jap P w)) a xs:=by
 obtain⟨z,y,xs,r,o,es,ep,h1,h2,h3,h4,h5⟩:=(show jav P w H h a (.dT kvs)from jmg ok e);refine⟨z,y,xs,r,o,es,ep,h1,h2,h3,h4,λx hx=>?_,h5⟩;have all:∀{l:List (List Key×V)} {m:List (List Key×Addr×Value)},KT H l m->∀x∈m,(Ye8 (jap P w)).is h x.1 x.2.1:=by
  intro l m q
  induction q with
  |nil=>intro x hx;exact nomatch hx
  |@cons p q ps qs hq t ih=>
   intro x hx;rcases YaL.mp hx with e|hx
   ·subst e;exact jen ok (by rw[<- hq.1];exact hq.2.1)
   ·exact ih x hx
 exact all r x hx
theorem jpi (ok:HOk P w H h)(e:H a=some (.dT kvs)):kvs.length<=Yac/\(a==Ya7)=false/\
  ∃xs,KT H kvs xs/\h.DictOfH (Ye8 (jap P w)) a xs:=jhN ok (.inl e)
end
end

def DGet (H:Hp)(a:Addr)(y:V)(r:Option V):Prop:=
 (∃kvs k,Rd H a (.dK kvs)/\y=kV k/\r=valV kvs k)\/∃kvs k b,Rd H a (.dT kvs)/\y=.ref b/\H b=some (.tup (k.map kV))/\r=valV kvs k
def DPut (H:Hp)(a:Addr)(y v:V)(H':Hp):Prop:=
 (∃kvs k,H a=some (.dK kvs)/\y=kV k/\kvs.length<Yac/\H'=upd H a (.dK (putK kvs k v)))\/
 ∃kvs k b,H a=some (.dT kvs)/\y=.ref b/\H b=some (.tup (k.map kV))/\kvs.length<Yac/\H'=upd H a (.dT (putK kvs k v))
theorem DGet.k {H:Hp}{a:Addr}{kvs:List (Key×V)}{k:Key}(e:H a=some (.dK kvs)):DGet H a (kV k) (valV kvs k):=.inl ⟨kvs,k,.inl e,rfl,rfl⟩
theorem DGet.t {H:Hp}{a b:Addr}{kvs:List (List Key×V)}{k:List Key}(e:H a=some (.dT kvs))(eb:H b=some (.tup (k.map kV))):DGet H a (.ref b) (valV kvs k):=.inr ⟨kvs,k,b,.inl e,rfl,eb,rfl⟩
theorem DPut.k {H:Hp}{a:Addr}{kvs:List (Key×V)}{k:Key}{v:V}(e:H a=some (.dK kvs))(hl:kvs.length<Yac):DPut H a (kV k) v (upd H a (.dK (putK kvs k v))):=.inl ⟨kvs,k,e,rfl,hl,rfl⟩
theorem DPut.t {H:Hp}{a b:Addr}{kvs:List (List Key×V)}{k:List Key}{v:V}(e:H a=some (.dT kvs))(eb:H b=some (.tup (k.map kV)))(hl:kvs.length<Yac) :
  DPut H a (.ref b) v (upd H a (.dT (putK kvs k v))):=.inr ⟨kvs,k,b,e,rfl,eb,hl,rfl⟩

section
variable {X:Cx}{pins:List (Addr×Obj)}{σ:St}{H:Hp}{s:Shared}{a:Addr}{y v:V}{u r:Value}{o:Option V}{A:Around}{E:Value->Shared->Prop}

theorem Inv.big (I:Inv X pins σ H s):Ya7<s.heap.objs.size:=by
 have h:YaB<s.heap.objs.size:=(I.mod.glob.keeps I.bk).lt;exact YcD (by decide) h

section
variable {Q:Value->Shared->Prop}
theorem jhT (hu:A.units+1<cLine)(I:Inv X pins σ H s)(g:DGet H a y (some v))(ry:RelV y u)(h:∀w' s',Inv X pins σ H s'->RelV v w'->Q w' s') :
  wpAny (model X.prog X.w) A (getItem (.ref a) u) Q E s:=by
 rcases g with⟨kvs,k,e,ey,l⟩|⟨kvs,k,b,e,ey,eb,l⟩
 ·subst ey;obtain⟨z,hd,vs,rel,dd⟩:=jgw I.hok e;obtain⟨w',hw,rw'⟩:=RelO.some_of (v:=v) (o:=valueAt vs k) (by rw[l];exact rel.val k)
  exact wpAny_getItem_of (jgs ry) dd.mapOf hw (h w' _ (I.tok _) rw')
 ·subst ey;cases(show u=YaW b from ry);obtain⟨z,hd,xs,rel,dd⟩:=jhN I.hok e;obtain⟨w',hw,rw'⟩:=RelO.some_of (v:=v) (o:=(atKey xs k).map (·.2)) (by rw[l];exact rel.val k)
  obtain⟨p,hp,hp2⟩:=Option.map_eq_some_iff.mp hw;refine wpAny_getItem_heap (Yda hu) (jen I.hok eb) dd hp ?_;rw[hp2];exact h w' _ (I.tok _) rw'
theorem d_in (hu:A.units+1<cLine)(I:Inv X pins σ H s)(g:DGet H a y o)(ry:RelV y u)(h:∀s',Inv X pins σ H s'->Q (.bool o.isSome) s') :
  wpAny (model X.prog X.w) A (YaM .In u (.ref a)) Q E s:=by
 rcases g with⟨kvs,k,e,ey,l⟩|⟨kvs,k,b,e,ey,eb,l⟩
 ·subst ey;obtain⟨z,hd,vs,rel,dd⟩:=jgw I.hok e;refine wpAny_in_of (jgs ry) hd dd.mapOf ?_;rw[<- (rel.val k).isSome_eq,<- l];exact h _ (I.tok _)
 ·subst ey;cases(show u=YaW b from ry);obtain⟨z,hd,xs,rel,dd⟩:=jhN I.hok e;refine wpAny_in_heap (Yda hu) (jen I.hok eb) hd dd ?_;have q:=(rel.val k).isSome_eq;rw[YdY]at q;rw[<- q,<- l];exact h _ (I.tok _)
theorem jlw (hu:A.units+1<cLine)(I:Inv X pins σ H s)(g:DGet H a y o)(ry:RelV y u)(h:∀s',Inv X pins σ H s'->Q (.bool (!o.isSome)) s') :
  wpAny (model X.prog X.w) A (YaM .NotIn u (.ref a)) Q E s:=by
 rcases g with⟨kvs,k,e,ey,l⟩|⟨kvs,k,b,e,ey,eb,l⟩
 ·subst ey;obtain⟨z,hd,vs,rel,dd⟩:=jgw I.hok e;refine wpAny_notIn_of (jgs ry) hd dd.mapOf ?_;rw[<- (rel.val k).isSome_eq,<- l];exact h _ (I.tok _)
 ·subst ey;cases(show u=YaW b from ry);obtain⟨z,hd,xs,rel,dd⟩:=jhN I.hok e;refine wpAny_notIn_heap (Yda hu) (jen I.hok eb) hd dd ?_;have q:=(rel.val k).isSome_eq;rw[YdY]at q;rw[<- q,<- l];exact h _ (I.tok _)
end
theorem jfc {h':Heap}{t':Nat}{ob:HO}(I:Inv X pins σ H s)(mu:Mut (H a))(hs:Yds a s.heap h')(he:∃q,h'.get? a=some q)(new:jav X.prog X.w (upd H a ob) h' a ob) :
  Inv X pins σ (upd H a ob) { s with heap:=h',toks:=t' }:=
 I.write (x:=a) (e:=a) mu (.inl rfl) (λb q hb z=>(hs.2 b hb).trans z) he new
theorem jjR {P:Program}{w:World}{H':Hp}{h':Heap}{kvs:List (Key×V)}{vs:List (Key×Value)}(z:kvs.length<=Yac)(hd:(a==Ya7)=false)(rel:KV kvs vs)(dd:h'.DictOf (jap P w) a vs) :
  jav P w H' h' a (.dK kvs):=⟨z,hd,vs,rel,dd⟩
theorem jhS {H':Hp}{Q:Unit->Shared->Prop}(hu:A.units+1<cLine)(I:Inv X pins σ H s)(g:DPut H a y v H')(ry:RelV y u)(rv:RelV v r)(h:∀s',Inv X pins σ H' s'->Q () s') :
  wpAny (model X.prog X.w) A (setItem (.ref a) u r) Q E s:=by
 rcases g with⟨kvs,k,e,ey,l,eH⟩|⟨kvs,k,b,e,ey,eb,l,eH⟩
 ·subst ey eH;obtain⟨z,hd,vs,rel,dd⟩:=jnv I.hok e;have hz:vs.length<=Yac:=by rw[<- rel.length];exact z
  have hl:(putK kvs k v).length<=Yac:=by have:=jbu kvs k v;omega
  refine wpAny_setItem_pairs (hsz:=hz) (jgs ry) dd λh' dd' hs=>h _ ?_;have he:∃q,h'.get? a=some q:=let ⟨q,_,_,hq,_⟩:=dd';⟨q,hq⟩
  exact jfc I (by rw[e];exact YbJ) hs he (jjR hl hd (rel.put k rv) dd')
 ·subst ey eH;cases(show u=YaW b from ry);obtain⟨z,hd,xs,rel,dd⟩:=jpi I.hok e;have hz:xs.length<=Yac:=by rw[<- YdI rel];exact z
  have hl:(putK kvs k v).length<=Yac:=by have:=jbu kvs k v;omega
  refine wpAny_setItem_heap (hsz:=hz) (Yda hu) (jen I.hok eb) dd λh' dd' hs=>h _ ?_;obtain⟨q,es,ep,hq,h2,h3,h4,_,h5⟩:=dd';refine jfc I (by rw[e];exact YbJ) hs ⟨q,hq⟩ ⟨hl,hd,_,(rel.put k eb rv).keeps λc ys ec=>?_,q,es,ep,hq,h2,h3,h4,h5⟩
  rw[jad (jo2 ec e (λz=>nomatch z))];exact ec
end

section
variable {X:Cx}{pins:List (Addr×Obj)}{σ:St}{H:Hp}{s:Shared}{a:Addr}{kvs:List (Key×V)}{k:Key}{u:Value}{A:Around}{E:Value->Shared->Prop}
theorem jpj {Q:Value->Shared->Prop}(I:Inv X pins σ H s)(e:Rd H a (.dK kvs))(h:∀t s',Inv X pins σ H s'->Q (.int kvs.length t) s'):wpAny (model X.prog X.w) A (call (.builtin "len") [.ref a]) Q E s:=by
 obtain⟨z,hd,vs,rel,dd⟩:=jgw I.hok e;refine call_len_dict hd dd (by rw[<- rel.length];rw[YbO]at z;omega) ?_
 rw[<- rel.length];exact h _ _ (I.tok _)
end

theorem jfb {X:Cx}{pins:List (Addr×Obj)}{σ:St}{H:Hp}{s:Shared}{a:Addr}{y:V}{o:Option V}(I:Inv X pins σ H s)(g:DGet H a y o):s.TypeIs (.ref a) "dict" := by
 rcases g with⟨kvs,k,e,_,_⟩|⟨kvs,k,b,e,_,_,_⟩
 ·obtain⟨_,_,vs,_,dd⟩:=jgw I.hok e;exact dd.typeIs
 ·obtain⟨_,_,xs,_,dd⟩:=jhN I.hok e;exact dd.typeIs
section
variable {X:Cx}{o i e value:Expr}{pos pos' tpos:Pos}{td ty tv:TE}
end

theorem jfZ {P:Program}{w:World}{H:Hp}(h:Heap)(hb:Ya7<h.objs.size):jav P w H (h.push { cls:=.type "dict",data:=.dict #[] }) h.objs.size (.dK []):=
 ⟨Ybw _,beq_eq_false_iff_ne.mpr (Ne.symm (YaF hb)),[],.nil,Heap.DictOf.new h⟩
def jlW:TE:=λ_ H Q=>∀p,H p=none->Q (.ref p) (upd H p (.dK []))
section
variable {X:Cx}{pos:Pos}
theorem jiJ:PE X (.Dict [] [] pos) jlW:=λpins s σ H Q I h=>
 wpAny_Dict_empty ⟨.ref s.heap.objs.size,_,I.laid (a:=s.heap.objs.size) (o:=.dK []) (t':=s.toks) (λ_ _ q=>Yae _ q) (Yaf _) (jfZ s.heap I.big),rfl,h _ (I.hok.fresh (Yaf _))⟩
end

def jfw:List (TE×TE)->St->Hp->(List (V×V)->Hp->Prop)->Prop
 |[],_,H,Q=>Q [] H
 |(tk,tv)::r,σ,H,Q=>tk σ H λx H1=>tv σ H1 λy H2=>jfw r σ H2 λps H3=>Q ((x,y)::ps) H3
abbrev VV:List (V×V)->List (Value×Value)->Prop:=Paired λp q=>RelV p.1 q.1/\RelV p.2 q.2
def PPs (X:Cx)(pos:Pos)(keys:List (Option Expr))(values:List Expr)(trs:List (TE×TE)):Prop:=
 ∀(pins:List (Addr×Obj)) (s:Shared) (σ:St) (H:Hp) (Q:List (V×V)->Hp->Prop),Inv X pins σ H s->jfw trs σ H Q->
  wpAny (model X.prog X.w) X.A (evalPairs (pairTrees keys values X.env pos)) (λvs s'=>∃ps H',Inv X pins σ H' s'/\VV ps vs/\Q ps H') X.xe s
theorem jkz {X:Cx}{pos:Pos}:PPs X pos [] [] []:=λpins s σ H Q I h=>pairTrees_nil_walk ⟨[],H,I,.nil,h⟩
theorem jiD {X:Cx}{pos:Pos}{k v:Expr}{ks:List (Option Expr)}{vs:List Expr}{tk tv:TE}{trs:List (TE×TE)}(hk:PE X k tk)(hv:PE X v tv)(hr:PPs X pos ks vs trs) :
  PPs X pos (some k::ks) (v::vs) ((tk,tv)::trs):=λpins s σ H Q I h=>
 pairTrees_cons_walk (thn (hk pins s σ H _ I h) λu s1 ⟨x,H1,I1,rx,q1⟩=>thn (hv pins s1 σ H1 _ I1 q1) λw2 s2 ⟨y,H2,I2,ry,q2⟩=>
  thn (hr pins s2 σ H2 _ I2 q2) λws s3 ⟨ps,H3,I3,rel,q3⟩=>⟨(x,y)::ps,H3,I3,.cons ⟨rx,ry⟩ rel,q3⟩)

noncomputable def jcL (kvs more:List (Key×V)):List (Key×V):=more.foldl (λacc kv=>putK acc kv.1 kv.2) kvs
theorem KV.merge:∀{more:List (Key×V)} {rs:List (Key×Value)} {kvs:List (Key×V)} {vs:List (Key×Value)},KV more rs->KV kvs vs->KV (jcL kvs more) (merged vs rs):=by
 intro more rs kvs vs r;unfold KV at r
 induction r generalizing kvs vs with
 |nil=>intro q;exact q
 |@cons p q ps qs h t ih=>
  intro r0;have e:KV (putK kvs p.1 p.2) (stored vs q.1 q.2):=by
   have:=r0.put p.1 h.2;rw[<- h.1];exact this
  exact ih e
theorem jbM:∀(more kvs:List (Key×V)),(jcL kvs more).length<=kvs.length+more.length
 |[],kvs=>by show kvs.length<=kvs.length+0;omega
 |p::r,kvs=>by
  have h1:=jbM r (putK kvs p.1 p.2);have h2:=jbu kvs p.1 p.2;show(jcL (putK kvs p.1 p.2) r).length<=_;rw[Ya4];omega
theorem jds {P:Program}{w:World}:∀{kvs:List (Key×V)} {ws:List (Value×Value)},VV (kvs.map λkv=>(kV kv.1,kv.2)) ws->∃rs,Carries (jap P w) ws rs/\KV kvs rs
 |[],_,r=>by rw[Yec]at r;cases r;exact⟨[],YbJ,.nil⟩
 |p::kvs,_,r=>by
  rw[YaA]at r;cases r with
  |@cons a b as bs h t=>
   obtain⟨rs,c,q⟩:=jds (P:=P) (w:=w) t;obtain⟨b1,b2⟩:=b;exact⟨(p.1,b2)::rs,⟨jgs h.1,rfl,c⟩,.cons ⟨rfl,h.2⟩ q⟩
def joy (trs:List (TE×TE)):TE:=λσ H Q=>∀p,H p=none->jfw trs σ (upd H p (.dK [])) λps H2=>H2 p=some (.dK [])/\∃kvs:List (Key×V),ps=kvs.map (λkv=>(kV kv.1,kv.2))/\kvs.length<=15/\Q (.ref p) (upd H2 p (.dK (jcL [] kvs)))
theorem jkL {X:Cx}{pos:Pos}{keys:List (Option Expr)}{values:List Expr}{trs:List (TE×TE)}(h:PPs X pos keys values trs)(hall:keys.all (·.isSome)=true)(hl:keys.length=values.length)(h0:keys≠[])
  (h15:keys.length<=15):PE X (.Dict keys values pos) (joy trs):=by
 intro pins s σ H Q I q;have hn:=I.hok.fresh (Yaf s.heap.objs.size);have I1:=I.laid (a:=s.heap.objs.size) (o:=.dK []) (h':=s.heap.push { cls:=.type "dict",data:=.dict #[] }) (t':=s.toks) (λ_ _ q=>Yae _ q) (Yaf _) (jfZ s.heap I.big);refine wpAny_Dict_walk (knd:=jap X.prog X.w) hall hl h0 h15 (thn (h pins _ σ _ _ I1 (q _ hn)) λws s2 ⟨ps,H2,I2,rel,e,kvs,ep,lk,q2⟩=>?_);subst ep;obtain⟨rs,c,rk⟩:=jds (P:=X.prog) (w:=X.w) rel;obtain⟨z,hd,vs0,r0,dd⟩:=jnv I2.hok e;cases r0;refine⟨rs,c,dd,λh' dd' hs=>⟨.ref s.heap.objs.size,_,?_,rfl,q2⟩⟩;have hz:(jcL [] kvs).length<=Yac:=by
  have h1:=jbM kvs [];rw[YcP]at h1;rw[YbO];omega
 have he:∃q,h'.get? s.heap.objs.size=some q:=let ⟨q,_,_,hq,_⟩:=dd';⟨q,hq⟩
 exact jfc I2 (by rw[e];exact YbJ) hs he (jjR hz hd (rk.merge .nil) dd')

structure M1 (X:Cx)(o:Expr)(m:Str)(apos:Pos)(e:Expr)(cpos:Pos):Prop where
 base:Ycd o m X.env (eval o X.env)=eval o X.env
 few:((backTo cpos (Yar [e] X.env)).all (λx=>!x.1)&&(backToKw cpos (Yfa [] X.env)).all (λx=>x.1.isSome)
  && decide (([e]:List Expr).length+([]:List Keyword).length+(if ([]:List Keyword).isEmpty then 0 else 1)<30))=true
 line:(apos.endLine==cpos.line)=true
 trees:backTo cpos (Yar [e] X.env)=[(false,eval e X.env)]
structure M2 (X:Cx)(o:Expr)(m:Str)(apos:Pos)(e f:Expr)(cpos:Pos):Prop where
 base:Ycd o m X.env (eval o X.env)=eval o X.env
 few:((backTo cpos (Yar [e,f] X.env)).all (λx=>!x.1)&&(backToKw cpos (Yfa [] X.env)).all (λx=>x.1.isSome)
  && decide (([e,f]:List Expr).length+([]:List Keyword).length+(if ([]:List Keyword).isEmpty then 0 else 1)<30))=true
 line:(apos.endLine==cpos.line)=true
 trees:backTo cpos (Yar [e,f] X.env)=[(false,eval e X.env),(false,eval f X.env)]

section
variable {X:Cx}{pins:List (Addr×Obj)}{σ:St}{H:Hp}{s:Shared}{a:Addr}{y d:V}{u r:Value}{o:Option V}{A:Around}{E:Value->Shared->Prop}
end

section
variable {X:Cx}{o e f:Expr}{apos cpos:Pos}{td ty tx:TE}
end

section
variable {X:Cx}{pins:List (Addr×Obj)}{σ:St}{H:Hp}{s:Shared}{a:Addr}{kvs:List (Key×V)}{A:Around}{E:Value->Shared->Prop}
end

section
variable {X:Cx}{pins:List (Addr×Obj)}{σ:St}{H:Hp}{s:Shared}{a:Addr}{y:V}{u:Value}{A:Around}{E:Value->Shared->Prop}
end
end L2

namespace Att
open PySem PySem.W PySem.Calls PyProof.Rows

theorem jcP {P:Params}{h:Heap}:∀(ns:List Int) (vs:List Value),WellAll P h vs (ns.map WData.int)->IntsAre vs ns:=by
 intro ns
 induction ns with
 |nil=>
  intro vs w;rw[Yec]at w;cases w;exact .nil
 |cons n ns ih=>
  intro vs w;rw[YaA]at w;cases w with
  |cons a b=>
   cases a;exact .cons _ _ (ih _ b)

theorem jgS {l:OpenLaw}{n:Nat}(hn:l.most=some n){P:Params}{h:Heap}{args:List WData}{vals:List Value}
  (hpre:l.row.toRowW.claim.pre args=true) (hwl:WellAll P h vals args) :
  ∃a vs ns,vals=[YaW a]/\args=[WData.list (ns.map WData.int)]/\h.get? a=some { cls:=.type "list",data:=.seq vs.toArray }/\IntsAre vs ns/\ns.length<=n:=by
 have hsh:WShape.hasAll [] args [.list .int]=true:=(pre_splitW hpre).1;have hc:l.pre.holds [] { args:=args }=true:=(pre_splitW hpre).2;obtain⟨d,r,rfl,h1,h2⟩:=hasAllW_cons hsh;obtain rfl:=hasAllW_nil h2;obtain⟨xs,rfl,h3⟩:=hasW_list h1;obtain⟨ns,rfl⟩:=items_int h3;have hlen:ns.length<=n:=by
  unfold OpenLaw.pre at hc;have h4:(WTm.not (.lt (.lit (.int (n:Int))) (.len (.arg 0)))).holds [] { args:=[.list (ns.map .int)] }=true:=by
   have h4:=(holds_andW hc).1;rw[hn]at h4;exact h4
  have h5:=condW_of h4 (w_not (w_lt w_lit (w_len_list (w_arg rfl))));rw[Yah]at h5;refine Ydj λq=>?_;have q':(n:Int)<((ns.length:Nat):Int):=by omega
  first
   |(rw[decide_eq_true q']at h5;exact absurd h5 (by decide))
   |(simp at h5;omega)
 cases hwl with
 |cons w1 w2=>
  cases w2;cases w1 with
  |list ho hall=>exact⟨_,_,ns,rfl,rfl,ho,jcP ns _ hall,hlen⟩

theorem jgY (l:OpenLaw)(args:List WData):l.row.toRowW.claim.post args (.bool true) args=true:=
 postW_of (r:=l.row.toRowW) (X:=(true==true))
  (show WShape.has [] (.bool true) .bool=true by first|rfl|decide|simp[WShape.has,WShape.arms,WShape.armsAll])
  (show(WTm.eq .res (.lit (.bool true))).value [] { args:=args,res:=some (.bool true),after:=args }=some (.bool (true==true))from w_eq_bool (w_res rfl) w_lit) rfl

theorem attach_call {l:OpenLaw}{n:Nat}{q:Program}{loose:List Str}{XP:(Str->Option Value)->Heap->Prop}{YP:World->Heap->Prop}{d:DefRec}
  (hn:l.most=some n) (hdf:d.params.defaults=[])
  (call:∀(w:World) (s₀ s₁:Shared) (mg mb:Str->Option Value) (fa:Addr) (o:Obj) (pm cd doc:Value) (a:Addr) (vs:List Value) (ns:List Int),
   Ground q loose [] XP w s₀ mg mb s₁.heap->YP w s₁.heap->
   s₁.heap.get? fa=some o->o.data=.func (docDef d.name d.params d.body d.scope pm cd doc)->s₁.heap.CodeRec cd d.name->mg d.name=some (.ref fa)->
   s₁.heap.get? a=some { cls:=.type "list",data:=.seq vs.toArray }->IntsAre vs ns->ns.length<=n->s₁.gens=#[]->
   codeAny (model l.prog w) callerA (.call (.ref fa) ⟨[.ref a],[]⟩) (λr s'=>r=.ok (.ret (.bool true))/\OldK s₁.heap s'.heap/\s'.os=s₁.os/\AllBare s'.gens) s₁) :
  WalkO q loose XP YP l.row.toRowW d [] (λf vs=>YfU f vs):=by
 intro w s₀ s₁ mg mb G Y fa o pm cd doc dV kV ho hd hcd hD hmg hg args vals as hpre hlay hrd hwl hlo;obtain rfl:dV=.none:=Dflts.none hD hdf;obtain rfl:kV=.none:=Dflts.noKw hD;obtain⟨a,vs,ns,rfl,rfl,hobj,hints,hlen⟩:=jgS hn hpre hwl;refine enter_call (Ydb (call w s₀ s₁ mg mb fa o pm cd doc a vs ns G Y ho (fd_plain hd) hcd hmg hobj hints hlen hg) λr s' hq=>?_);obtain⟨rfl,h2,h3,h4⟩:=hq;exact⟨.inl ⟨.bool true,.bool true,[],rfl,λ_=>rfl,.bool true,jgY l _,λ_=>⟨YeK,λ_ hm=>(nomatch hm)⟩⟩,h2,h3,h4⟩

section
variable {prog:Program}{w:World}{A:Around}{E:Value->Shared->Prop}{s:Shared}{K:Frag}

end
end Att

namespace L2
open PySem PySem.Spec PyProof.Rows

theorem jdV:∀{vs:List Value} {ns:List Int},IntsAre vs ns->Vals (ns.map V.int) vs
 |_,_,.nil=>.nil
 |_,_,.cons n t h=>.cons ⟨t,rfl⟩ (jdV h)



noncomputable def jaw (s:Stmt)(j:Nat):Stmt:=match s with
 |.ClassDef _ _ _ body _ _ _ _ _ _ _=>body.getD j (.Pass ⟨0,0,0,0⟩)
 |_=>.Pass ⟨0,0,0,0⟩
def jar (s:Stmt):YcL:=match s with
 |.FunctionDef _ a _ _ _ _ _ _ _ _=>a
 |_=>{ posonlyargs:=[],args:=[],vararg:=none,kwonlyargs:=[],kw_defaults:=[],kwarg:=none,defaults:=[] }
def jae (s:Stmt):List Stmt:=match s with
 |.FunctionDef _ _ b _ _ _ _ _ _ _=>b
 |_=>[]
def jaa (s:Stmt):Scope:=match s with
 |.FunctionDef _ _ _ _ _ _ sc _ _ _=>sc
 |_=>{ kind:=.function,names:=[],isGenerator:=false,isCoroutine:=false }

abbrev CX0:CXT:=λ_ _ _ _ _ _=>False
abbrev E0:XK:=λ_ _ _=>False
structure Fun (K:Yaa)(x qual:Str)(st:Stmt)(f:Addr)(fd:Ybk):Prop where
 ex:∃(oc:Value) (od:Option Addr) (kV doc pm:Value) (an:Option Addr) (cdv ct:Value) (osl:Array (Option Value)),
  fd=Ya5 x qual (jar st) (jae st) (jaa st) .none kV doc pm an cdv ct/\K.lookup f=some ⟨oc,od,.func fd,osl⟩/\Yby K cdv qual=true
 kp:Ya8 K (.ref f)=true
section
variable {P:Program}{w:World}{K:Yaa}{mg:Str->Option Value}{base:Heap}
section
variable {x qual:Str}{st:Stmt}{f:Addr}
theorem Fun.binds {fd:Ybk}{ps:List Str}(F:Fun K x qual st f fd)
  (h:∀(kV doc pm:Value) (an:Option Addr) (cdv ct:Value) (us:List Value),us.length=ps.length->YfT (Ya5 x qual (jar st) (jae st) (jaa st) .none kV doc pm an cdv ct) ⟨us,[]⟩=pure (ps.zip us)):Binds K fd ps []:=by
 obtain⟨oc,od,kV,doc,pm,an,cdv,ct,osl,rfl,lk,hcd⟩:=F.ex;exact .all (h kV doc pm an cdv ct)
theorem jhI {oc:Value}{od an:Option Addr}{osl:Array (Option Value)}{kV doc pm cdv ct:Value}(l:K.lookup f=some ⟨oc,od,.func (Ya5 x qual (jar st) (jae st) (jaa st) .none kV doc pm an cdv ct),osl⟩)
  (c:Yby K cdv qual=true) (k:Ya8 K (.ref f)=true):Fun K x qual st f (Ya5 x qual (jar st) (jae st) (jaa st) .none kV doc pm an cdv ct):=⟨⟨oc,od,kV,doc,pm,an,cdv,ct,osl,rfl,l,c⟩,k⟩
end
end
theorem jpc {A:Around}{k:Nat}(hr:Room k A):A.units+1<cLine:=Ya3 (YcS (by decide:1<=64) _) hr.units
section
variable {X:Cx}
end

theorem iteF {A B:Prop}(h:B):if false=true then A else B:=by
 rw[if_neg Yaj];exact h
theorem iteT {A B:Prop}(h:A):if true=true then A else B:=by
 rw[if_pos rfl];exact h
def Same (H H':Hp):Prop:=∀b o,H b=some o->H' b=some o
section
variable {X:Cx}
theorem jh7:jaG X (.builtin "len") (λxs H Q=>∃a kvs,xs=[V.ref a]/\H a=some (.dK kvs)/\Q (.int kvs.length) H):=by
 intro pins s σ H xs us Q I r h;obtain⟨a,kvs,rfl,ha,q⟩:=h;obtain⟨u,rfl,ru⟩:=jcf r;cases ru;exact jpj I (.inl ha) λt s' I'=>⟨.int kvs.length,H,I',⟨t,rfl⟩,q⟩
end
section
variable {κ:Type}[DecidableEq κ]
end
end L2

namespace L2
open PySem PySem.Spec PyProof.Rows

section
variable {prog:Program}{w:World}{A:Around}{R:Result->Shared->Prop}{s:Shared}
noncomputable def jeU (env:Env)(ifs:List Expr):Sem Bool:=forIn ifs true λc r=>ite (r=true) (isTrue c env (eval c env) >>= λb=>pure (.yield b)) (pure (.yield r))
noncomputable def jcC (ip:Pos)(tg:Expr)(ifs:List Expr)(it:Value)(env:Env)(em:Sem Unit)(next:Code):Sem Fin:=
 standAt ip >>= λ_=>pyNext it >>= λr=>match r with
  |none=>pure (.done .next)
  |some v=>YcZ tg it v >>= λ_=>assign tg env v >>= λ_=>jeU env ifs >>= λok=>ite (ok=true) (em >>= λ_=>again next) (again next)
def jkc (M:Model)(A:Around)(tg:Expr)(ifs:List Expr)(it:Value)(env:Env)(em:Sem Unit)(fin:Shared->Prop)(less:Shared->Prop):Option Value->Shared->Prop
 |none,s=>fin s
 |some v,s=>wpAny M A (YcZ tg it v) (λ_ s=>wpAny M A (assign tg env v) (λ_ s=>wpAny M A (jeU env ifs) (λok s=>if ok=true then wpAny M A em (λ_ s=>less s) (λ_ _=>False) s else less s) (λ_ _=>False) s) (λ_ _=>False) s) (λ_ _=>False) s
theorem jew {elt:Expr}{gens:List YbP}{scope:Scope}{pos:Pos}{dp:Nat}{target:Expr}{ip:Pos}{ifs:List Expr}{it acc:Value}{env:Env}{em:Sem Unit}(I:Nat->Shared->Prop)
  (hct:Ye2 (.ListComp elt gens scope pos) dp it acc env=jcC ip target ifs it env em (.compLoop (.ListComp elt gens scope pos) dp it acc env))
  (turn:∀k t,I k t->wpAny (model prog w) A (pyNext it) (jkc (model prog w) A target ifs it env em (R (.ok .next)) λt=>∃m,m<k/\I m t) (λ_ _=>False) t)
  (n:Nat) (h:I n s):codeAny (model prog w) A (.compLoop (.ListComp elt gens scope pos) dp it acc env) R s:=by
 have no:∀{Z:Value->Shared->Prop} (e:Value) (t:Shared),False->Z e t:=λ_ _ f=>f.elim;refine codeAny_loop rfl I (λk t hk=>wpAny_noted (m:=Ye2 (.ListComp elt gens scope pos) dp it acc env) (hct ▸ ?_)) n h;refine Yad (Ycb (Yad (YaK (turn k t hk) (λr t1 p=>?_) no)))
 match r,p with
 |none,p=>exact Yam p
 |some v,p=>
  refine Yad (YaK p (λ_ t2 p=>Yad (YaK p (λ_ t3 p=>Yad (YaK p (λok t4 p=>?_) no)) no)) no)
  match ok,p with
  |false,p=>exact Yam ⟨rfl,p⟩
  |true,p=>exact Yad (YaK p (λ_ t5 p=>Yam ⟨rfl,p⟩) no)
end

theorem jbn (env:Env):∀(names:List (Str×Ybh)) (acc:List (Str×Addr)),(∀y∈names,y.2=.free->∃c,env.cells.lookup y.1=some c)->
  ∃cl:List (Str×Addr),(forIn names acc (λ(y:Str×Ybh) (cs:List (Str×Addr))=>(if (y.2==Yay)=true then (do let c <- cellOf env y.1;pure (ForInStep.yield ((y.1,c)::cs))) else pure (ForInStep.yield cs):Sem (ForInStep (List (Str×Addr))))):Sem (List (Str×Addr)))=pure cl/\
   (∀x c,(x,c)∈cl->(x,c)∈acc\/(env.cells.lookup x=some c/\(x,Yay)∈names))/\(∀p∈acc,p∈cl)/\(∀y∈names,y.2=.free->∃c,(y.1,c)∈cl)
 |[],acc,_=>⟨acc,rfl,λ_ _ h=>.inl h,λ_ h=>h,λ_ h=>nomatch h⟩
 |(n,k)::r,acc,h=>by
  by_cases hk:k=.free
  ·subst hk;obtain⟨c,hc⟩:=h (n,.free) Yao rfl;obtain⟨cl,e,h1,h2,h3⟩:=jbn env r ((n,c)::acc) λy hy=>h y (Yag _ hy);refine⟨cl,?_,λx d hd=>?_,λp hp=>h2 p (Yag _ hp),λy hy hf=>?_⟩
   ·rw[YeD];have:(cellOf env n:Sem Addr)=pure c:=by unfold cellOf;rw[hc]
    simp only[beq_self_eq_true,if_true,this,pure_bind];exact e
   ·rcases h1 x d hd with z|⟨z,z'⟩
    ·rcases YaL.mp z with z|z
     ·cases z;exact .inr ⟨hc,Yao⟩
     ·exact .inl z
    ·exact .inr ⟨z,Yag _ z'⟩
   ·rcases YaL.mp hy with z|z
    ·subst z;exact⟨c,h2 _ Yao⟩
    ·exact h3 y z hf
  ·obtain⟨cl,e,h1,h2,h3⟩:=jbn env r acc λy hy=>h y (Yag _ hy);have hb:(k==Yay)=false:=by simpa using hk
   refine⟨cl,?_,λx d hd=>?_,h2,λy hy hf=>?_⟩
   ·rw[YeD];simp only[hb,Ybp,if_false,pure_bind];exact e
   ·rcases h1 x d hd with z|⟨z,z'⟩
    ·exact .inl z
    ·exact .inr ⟨z,Yag _ z'⟩
   ·rcases YaL.mp hy with z|z
    ·subst z;exact absurd hf hk
    ·exact h3 y z hf
theorem jbL {β:Type}:∀{l:List (Str×β)} {x:Str} {c:β},(x,c)∈l->∃d,l.lookup x=some d/\(x,d)∈l
 |(n,k)::r,x,c,h=>by
  cases hx:x==n with
  |true=>
   refine⟨k,by simp only[YaG,hx],?_⟩
   rw[eq_of_beq hx];exact Yao
  |false=>
   rcases YaL.mp h with z|z
   ·cases z;simp at hx
   ·obtain⟨d,e,m⟩:=jbL z;exact⟨d,by simp only[YaG,hx];exact e,Yag _ m⟩
theorem jdr {scope:Scope}{env:Env}(h:∀y∈scope.names,y.2=.free->∃c,env.cells.lookup y.1=some c) :
  ∃cl:List (Str×Addr),YfC scope env=pure cl/\(∀x c,cl.lookup x=some c->env.cells.lookup x=some c)/\(∀y∈scope.names,y.2=.free->∃c,cl.lookup y.1=some c):=by
 obtain⟨cl,e,h1,_,h3⟩:=jbn env scope.names [] h;refine⟨cl,?_,λx c hx=>?_,λy hy hf=>?_⟩
 ·unfold YfC;rw[<- e];simp only[bind_pure]
 ·rcases h1 x c (Yaw hx)with z|⟨z,_⟩
  ·exact nomatch z
  ·exact z
 ·obtain⟨c,hc⟩:=h3 y hy hf;obtain⟨d,e,_⟩:=jbL hc;exact⟨d,e⟩

noncomputable def jal (X:Cx)(N:List Str)(scope:Scope)(cl:List (Str×Addr))(C:Addr)(s₀:Shared)(H₀:Hp)(fp:List Addr):Cx where
 prog:=X.prog
 w:=X.w
 K:=X.K
 mg:=X.mg
 base:=X.base
 A:=X.A
 N:=N
 s₀:=s₀
 H₀:=H₀
 env:=compEnvC scope cl C X.env
 outer:=X.stack
 stack:=X.stack
 ex:=fp
 fn:=λx=>scope.names.lookup x==some .cell
 calm:=X.calm
 pn:=[]
 xe:=λ_ _=>False

noncomputable def cOk (oN:List Str)(on:List (Str×Ybh))(N:List Str)(pick:List (Option Nat))(scope:Scope):Bool:=
 decide (scope.kind=.function)&&scope.names.all (λy=>y.2 != .cell||scope.names.lookup y.1==some .cell)&&scope.names.all (λy=>y.2 != .local||scope.names.lookup y.1==some .local)
  && scope.names.all (λy=>y.2 != .free||(scope.names.lookup y.1==some .free&&(on.lookup y.1==some .cell||on.lookup y.1==some .free)))
  && pick.length==N.length&&(N.zip pick).all (λp=>match p.2 with|none=>true|some j=>oN[j]?==some p.1&&scope.names.lookup p.1==some .free)

structure CScope (X:Cx)(N:List Str)(pick:List (Option Nat))(scope:Scope):Prop where
 kind:scope.kind=.function
 cells:∀y∈scope.names,y.2=.cell->scope.names.lookup y.1=some .cell
 names:∀y∈scope.names,y.2=.local->scope.names.lookup y.1=some .local
 fre:∀y∈scope.names,y.2=.free->scope.names.lookup y.1=some .free/\(X.env.kindOf y.1=some .cell\/X.env.kindOf y.1=some .free)
 len:pick.length=N.length
 caps:∀(i j:Nat) (x:Str),N[i]?=some x->pick[i]?=some (some j)->X.N[j]?=some x/\scope.names.lookup x=some .free
theorem jcc (f:Str->Ybh->Ybh):∀(names:List (Str×Ybh)) (x:Str),(names.map λy=>(y.1,f y.1 y.2)).lookup x=(names.lookup x).map (f x)
 |[],_=>rfl
 |(n,k)::r,x=>by
  rw[YaA,YaG,YaG,jcc f r x];by_cases e:x=n
  ·subst e;rw[beq_self_eq_true];rfl
  ·rw[beq_false_of_ne e]
noncomputable def jjD (env:Env)(n:Str)(k:Ybh):Ybh:=if (k==Yay&&env.scope.kind == .function&&env.kindOf n==some .cell) then .cell else k
theorem jbF (env:Env)(names:List (Str×Ybh))(x:Str) :
  (names.map λ(n,k)=>if (k==Yay&&env.scope.kind == .function&&env.kindOf n==some .cell) then (n,YaE) else (n,k)).lookup x=(names.lookup x).map (jjD env x):=by
 rw[<- jcc (jjD env)];congr 2;funext y;show ite _ _ _=(y.1,ite _ _ _);split<;>rfl
theorem jaM {env:Env}{names:List (Str×Ybh)}{x:Str}(h:names.lookup x=some .free) :
  (names.map λ(n,k)=>if (k==Yay&&env.scope.kind == .function&&env.kindOf n==some .cell) then (n,YaE) else (n,k)).lookup x=some .cell\/
  (names.map λ(n,k)=>if (k==Yay&&env.scope.kind == .function&&env.kindOf n==some .cell) then (n,YaE) else (n,k)).lookup x=some .free:=by
 rw[jbF,h];show some (ite _ _ _)=_\/some (ite _ _ _)=_;split
 ·exact .inl rfl
 ·exact .inr rfl
theorem jat {env:Env}{q:Ybh}(hq:q≠.free){names:List (Str×Ybh)}{x:Str}(h:names.lookup x=some q) :
  (names.map λ(n,k)=>if (k==Yay&&env.scope.kind == .function&&env.kindOf n==some .cell) then (n,YaE) else (n,k)).lookup x=some q:=by
 rw[jbF,h];show some (ite _ _ _)=_;rw[beq_false_of_ne hq];rfl
theorem jbe {env:Env}:∀{names:List (Str×Ybh)} {x:Str},
  ((names.map λ(n,k)=>if (k==Yay&&env.scope.kind == .function&&env.kindOf n==some .cell) then (n,YaE) else (n,k)).lookup x=some .cell\/
  (names.map λ(n,k)=>if (k==Yay&&env.scope.kind == .function&&env.kindOf n==some .cell) then (n,YaE) else (n,k)).lookup x=some .free)->(x,Yay)∈names\/(x,YaE)∈names
 |[],_,h=>by simp at h
 |(n,k)::r,x,h=>by
  have ih:_->_:=@jbe env r x;have h':Ybt x ((if (k==Yay&&env.scope.kind == .function&&env.kindOf n==some .cell)=true then (n,YaE) else (n,k))::r.map λ(n,k)=>if (k==Yay&&env.scope.kind == .function&&env.kindOf n==some .cell) then (n,YaE) else (n,k))=some .cell\/Ybt x ((if (k==Yay&&env.scope.kind == .function&&env.kindOf n==some .cell)=true then (n,YaE) else (n,k))::r.map λ(n,k)=>if (k==Yay&&env.scope.kind == .function&&env.kindOf n==some .cell) then (n,YaE) else (n,k))=some .free:=h
  by_cases hk:k=.free
  ·cases hx:x==n with
   |true=>rw[eq_of_beq hx,hk];exact .inl Yao
   |false=>
    refine(ih ?_).imp (Yag _) (Yag _);by_cases hcc:(k==Yay&&env.scope.kind == .function&&env.kindOf n==some .cell)=true
    ·rw[if_pos hcc]at h';simpa only[YaG,hx]using h'
    ·rw[if_neg hcc]at h';simpa only[YaG,hx]using h'
  ·have hb:(k==Yay)=false:=by simpa using hk
   rw[if_neg (by simp[hb])]at h'
   cases hx:x==n with
   |true=>
    simp only[YaG,hx]at h';rcases h' with z|z
    ·rw[eq_of_beq hx,Yan z];exact .inr Yao
    ·exact absurd (Yan z) hk
   |false=>exact(ih (by simpa only[YaG,hx]using h')).imp (Yag _) (Yag _)

theorem jaz:∀(names:List (Str×Ybh)) (n:Nat) (acc:List (Str×Addr)),Ybe n names acc=Ybe n names []++acc
 |[],_,_=>rfl
 |(x,k)::r,n,acc=>by
  unfold Ybe;split
  ·rw[jaz r (n+1) ((x,n)::acc),jaz r (n+1) [(x,n)],Ygc];rfl
  ·exact jaz r n acc
theorem jaH:∀(names:List (Str×Ybh)) (n:Nat) {x:Str} {c:Addr},(x,c)∈Ybe n names []->(x,YaE)∈names
 |[],_,_,_,h=>nomatch h
 |(y,k)::r,n,x,c,h=>by
  unfold Ybe at h;split at h
  ·rename_i hk;rw[jaz]at h;rcases List.mem_append.mp h with h|h
   ·exact Yag _ (jaH r _ h)
   ·have e:(x,c)=(y,n):=by simpa using h
    cases e;rw[eq_of_beq hk];exact Yao
  ·exact Yag _ (jaH r _ h)
theorem jde {β:Type}:∀(l m:List (Str×β)) (x:Str),(l++m).lookup x=(l.lookup x).or (m.lookup x)
 |[],_,_=>by simp
 |(n,k)::r,m,x=>by
  rw[Yej,YaG,YaG];cases hx:x==n with
  |true=>simp
  |false=>exact jde r m x
structure BCells (scope:Scope)(cl cs:List (Str×Addr))(lo:Nat)(h:Heap):Prop where
 lk:∀x c,cs.lookup x=some c->((x,YaE)∈scope.names/\lo<c/\h.IsCell c none)\/((x,YaE)∉scope.names/\cl.lookup x=some c)
 own:∀x,scope.names.lookup x=some .cell->∃c,cs.lookup x=some c/\lo<c
 old:∀x c,(x,YaE)∉scope.names->cl.lookup x=some c->cs.lookup x=some c
 inj:∀x y c,cs.lookup x=some c->cs.lookup y=some c->lo<c->x=y
theorem jic {scope:Scope}{cl:List (Str×Addr)}{h:Heap}{lo:Nat}(hl:h.objs.size=lo+1)(S:∀y∈scope.names,y.2=.cell->scope.names.lookup y.1=some .cell)(hcl:∀x c,cl.lookup x=some c->c<=lo):BCells scope cl (Ybe (lo+1) scope.names cl) lo (Ye9 h scope.names):=by
 have ok:=cellsFrom_ok scope.names h (lo+1) [] ⟨λ_ _ hm=>(nomatch hm),YeK⟩ (by omega)
 rw[hl]at ok;have look:∀x,(Ybe (lo+1) scope.names cl).lookup x=((Ybe (lo+1) scope.names []).lookup x).or (cl.lookup x):=λx=>by rw[jaz,jde]
 have own:∀x,(x,YaE)∈scope.names->∃c,(Ybe (lo+1) scope.names []).lookup x=some c:=λx hx=>jdS (S _ hx rfl);refine⟨λx c e=>?_,λx hx=>?_,λx c hx hc=>?_,λx y c e1 e2 hc=>?_⟩
 ·rw[look]at e;by_cases hx:(x,YaE)∈scope.names
  ·obtain⟨c',e'⟩:=own x hx;rw[e',YeA]at e;have e:c'=c:=Yan e;subst e;obtain⟨z1,z2⟩:=ok.empty x c' (Yaw e');exact .inl ⟨hx,z2,z1⟩
  ·cases q:(Ybe (lo+1) scope.names []).lookup x with
   |some c'=>exact absurd (jaH _ _ (Yaw q)) hx
   |none=>rw[q,YeB]at e;exact .inr ⟨hx,e⟩
 ·obtain⟨c,e⟩:=own x (Yaw hx);exact⟨c,by rw[look,e,YeA],(ok.empty x c (Yaw e)).2⟩
 ·rw[look];cases q:(Ybe (lo+1) scope.names []).lookup x with
  |some c'=>exact absurd (jaH _ _ (Yaw q)) hx
  |none=>rw[YeB];exact hc
 ·rw[look]at e1 e2;have new:∀x,((Ybe (lo+1) scope.names []).lookup x).or (cl.lookup x)=some c->(Ybe (lo+1) scope.names []).lookup x=some c:=λx e=>by
   cases q:(Ybe (lo+1) scope.names []).lookup x with
   |some c'=>rw[q,YeA]at e;exact e
   |none=>
    rw[q,YeB]at e;exact absurd (Yaq hc (hcl x c e)) (Ya6 _)
  exact name_of_addr ok.apart (Yaw (new x e1)) (Yaw (new y e2))
theorem jbC {M:Model}{A:Around}{E:Value->Shared->Prop}{s:Shared}{scope:Scope}{globals:Addr}{cl:List (Str×Addr)}{qual:Str}{env:Env}{Q:Env->Shared->Prop}
  (hQ:Q (newEnv scope s.heap.objs.size globals (Ybe (s.heap.objs.size+1) scope.names cl) qual none .none (some env) YdX) { s with heap:=Ye9 (s.heap.push { cls:=.type "dict",data:=.dict #[] }) scope.names }) :
  wpAny M A (Yfn scope globals cl [] qual none .none (some env)) Q E s:=by
 have sz:(s.heap.push { cls:=.type "dict",data:=.dict #[] }).objs.size=s.heap.objs.size+1:=YdF ..;unfold Yfn;rw[if_pos (by rfl)]
 refine Yad (wpAny_alloc (Yad (wpAny_layCells _ (λx k c=>by by_cases e:(k==YaE)=true<;>simp[e]) _ _ _ _ ?_)))
 rw[show Heap.objs (Shared.heap _)=(s.heap.push { cls:=.type "dict",data:=.dict #[] }).objs from rfl,sz];exact Yad (Yam (Yam hQ))

section
variable {X:Cx}{N:List Str}{scope:Scope}{cl:List (Str×Addr)}{C:Addr}{s₀:Shared}{H₀:Hp}{fp:List Addr}
theorem glc {x:Str}(h:scope.names.lookup x=some .globalImplicit):Gl (jal X N scope cl C s₀ H₀ fp) x:=jat (by decide) h
end

def PIfs (X:Cx)(ifs:List Expr)(t:TT):Prop:=
 ∀(pins:List (Addr×Obj)) (s:Shared) (σ:St) (H:Hp) (Q:Bool->Hp->Prop),Inv X pins σ H s->t σ H Q->
  wpAny (model X.prog X.w) X.A (jeU X.env ifs) (TP X pins σ Q) X.xe s
def jov:TT:=λ_ H Q=>Q true H
theorem jkH {X:Cx}:PIfs X [] jov:=λ_ _ _ H _ I h=>wpAny_tests_nil ⟨H,I,h⟩
theorem jkG {X:Cx}{c:Expr}{t:TT}(h:PT X c t):PIfs X [c] t:=λpins s σ H Q I q=>wpAny_tests_one (h pins s σ H Q I q)

abbrev TEm:=St->List V->Hp->(St->List V->Hp->Prop)->Prop
def jih (J:It)(g:TG)(tt:TT)(tem:TEm)(QQ:St->List V->Hp->Prop)(τ0:St)(ys0:List V)(H1:Hp):Prop:=∃W:Nat->Nat->St->List V->Hp->Prop,
 (∃m,W 0 m τ0 ys0 H1)/\∀i m τ ys H,W i m τ ys H->
  (J.stop i H/\QQ τ ys H)\/(J.go i H/\∀x H',J.yld i H x H'->g x τ H' λτ2 H2=>tt τ2 H2 λb H3=>if b=true then tem τ2 ys H3 λτ3 ys' H4=>∃m',m'<m/\W (i+1) m' τ3 ys' H4
   else ∃m',m'<m/\W (i+1) m' τ2 ys H3)
def emA (te:TE)(D:Addr):TEm:=λτ ys H Q=>te τ H λv H4=>H4 D=some (.lst ys)/\ys.length<Yac/\Q τ (ys++[v]) (upd H4 D (.lst (ys++[v])))
def LcGG (J:It)(g:TG)(tt:TT)(tem:Addr->TEm)(D:Addr)(τ0:St)(Q:VK)(H1:Hp):Prop:=jih J g tt (tem D) (λ_ _ H=>Q (.ref D) H) τ0 [] (upd H1 D (.lst []))
def PEm (Y:Cx)(em:Sem Unit)(tem:TEm):Prop:=∀(pins:List (Addr×Obj)) (s:Shared) (τ:St) (ys:List V) (H:Hp) (Q:St->List V->Hp->Prop),Inv Y pins τ H s->tem τ ys H Q->
 wpAny (model Y.prog Y.w) Y.A em (λ_ s'=>∃τ' ys' H',Inv Y pins τ' H' s'/\Q τ' ys' H') Y.xe s
def tLcG (pick:List (Option Nat))(wi:TI)(g:TG)(tt:TT)(tem:Addr->TEm):TE:=λσ H Q=>wi σ H λJ H1=>∀D,H1 D=none->LcGG J g tt tem D (pick.map λo=>o.bind λj=>(σ[j]?).join) Q H1
abbrev tLc (pick:List (Option Nat))(wi:TI)(g:TG)(tt:TT)(te:TE):TE:=tLcG pick wi g tt (emA te)
section
variable {X:Cx}{N:List Str}{pick:List (Option Nat)}{scope:Scope}{pins:List (Addr×Obj)}{σ:St}{s s3:Shared}{H H3:Hp}

theorem jgx {cl cs:List (Str×Addr)}{fp:List Addr}{h₁:Heap}{tk:Nat}{mB:Str->Option Value}(S:CScope X N pick scope)(I3:Inv X pins σ H3 s3)(hf:∀b∈fp,FpOk X pins H3 b)(hlt:∀b∈fp,b<s3.heap.objs.size)
  (c1:∀x c,cl.lookup x=some c->X.env.cells.lookup x=some c) (c2:∀y∈scope.names,y.2=.free->∃c,cl.lookup y.1=some c) (B:BCells scope cl cs s3.heap.objs.size h₁)
  (hns:h₁.Ns s3.heap.objs.size mB) (hk:∀b o,s3.heap.get? b=some o->h₁.get? b=some o) :
  Inv (jal X N scope cs s3.heap.objs.size s3 H3 fp) [] (pick.map λo=>o.bind λj=>(σ[j]?).join) H3 { s3 with heap:=h₁,toks:=tk }:=by
 have fsub:∀b∈frs X.stack,b∈X.env.locals::X.fs:=I3.stkSub;have oc:∀x c,cs.lookup x=some c->X.env.cells.lookup x=some c\/s3.heap.objs.size<c:=λx c e=>by
  rcases B.lk x c e with⟨_,z,_⟩|⟨_,z⟩
  ·exact .inr z
  ·exact .inl (c1 x c z)
 have has:∀x,((x,Yay)∈scope.names\/(x,YaE)∈scope.names)->∃c,cs.lookup x=some c:=λx hx=>by
  by_cases hc:(x,YaE)∈scope.names
  ·obtain⟨c,e,_⟩:=B.own x (S.cells _ hc rfl);exact⟨c,e⟩
  ·rcases hx with hx|hx
   ·obtain⟨c,e⟩:=c2 _ hx rfl;exact⟨c,B.old x c hc e⟩
   ·exact absurd hx hc
 refine⟨⟨I3.ok.mod,S.kind,I3.ok.glob,I3.ok.blt,Yaf _,λx y c e1 e2=>?_,λx hx=>has x (jbe hx),λx c z e=>?_,I3.ok.hd,I3.ok.frames,.inl rfl,λb hb=>⟨YaF (hlt b hb),λx c e=>?_⟩,
   I3.bs,Yak I3.ok.bsz I3.sz,λb o e hb=>?_,λb hb hm=>?_,I3.stack,I3.stkFree⟩,
  rfl,I3.bare,Un.kept hk,⟨_,hns,λi x v e1 e2 e3=>?_⟩,λx c e=>?_,I3.hok.fresh (Yaf _),λx c e=>?_,λp hp=>absurd (show p∈([]:List (Addr×Obj))from hp) (by simp),I3.hok.kept hk,?_⟩
 ·by_cases hc:s3.heap.objs.size<c
  ·exact B.inj x y c e1 e2 hc
  ·exact I3.ok.inj x y c ((oc x c e1).resolve_right hc) ((oc y c e2).resolve_right hc)
 ·have z':scope.names.lookup x=some .cell:=eq_of_beq z;rcases B.lk x c e with⟨_,y,_⟩|⟨y,_⟩
  ·exact YbZ y
  ·exact absurd (Yaw z') y
 ·rcases oc x c e with z|z
  ·exact(hf b hb).2.2.2.2.1 x c z
  ·intro q;rw[q]at z;exact absurd (YcD z (hlt b hb)) (Ya6 _)
 ·rcases(hf b hb).2.2.2.1 with z|z
  ·exact I3.ok.noex b o e z
  ·exact absurd (Yaq (Yal e) (Yak I3.ok.bsz z)) (Ya6 _)
 ·rcases YaL.mp (fsub b hm)with z|z
  ·exact(hf b hb).2.1 z
  ·exact(hf b hb).2.2.1 z
 ·-- a captured name
  have e2':∃j,pick[i]?=some (some j)/\σ[j]?=some (some v):=by
   rw[Yat]at e2;cases q:pick[i]? with
   |none=>rw[q]at e2;cases e2
   |some o=>
    rw[q]at e2;cases o with
    |none=>simp at e2
    |some j=>
     simp at e2;refine⟨j,rfl,?_⟩;cases q2:σ[j]? with
     |none=>rw[q2]at e2;cases e2
     |some w'=>rw[q2]at e2;simp at e2;rw[e2]
  obtain⟨j,ej,ev⟩:=e2';obtain⟨hN,hfr⟩:=S.caps i j x e1 ej;have hmem:(x,Yay)∈scope.names:=Yaw hfr;have hnc:(x,YaE)∉scope.names:=λz=>by
   have:=S.cells _ z rfl;rw[hfr]at this;cases this
  obtain⟨_,hkind⟩:=S.fre _ hmem rfl;obtain⟨m,hn,hl⟩:=I3.loc;obtain⟨u,r,l⟩:=hl j x v hN ev (hkind.elim (λz=>.inr (.inl z)) λz=>.inr (.inr z));refine⟨u,r,.inr ⟨?_,?_⟩⟩
  ·exact jaM (env:=X.env) hfr
  ·obtain⟨c,hc⟩:=c2 _ hmem rfl;have hc':=c1 _ _ hc;rcases l with⟨z,_⟩|⟨_,c',e,o,ho,hd⟩
   ·rcases hkind with y|y
    ·rw[y]at z;cases z
    ·rw[y]at z;cases z
   ·have:c'=c:=by rw[hc']at e;exact(Yan e).symm
    subst this;exact⟨c',B.old x c' hnc hc,o,hk _ _ ho,hd⟩
 ·rcases B.lk x c e with⟨_,_,z⟩|⟨_,z⟩
  ·exact⟨none,z⟩
  ·obtain⟨v,o,ho,hd⟩:=I3.cell x c (c1 x c z);exact⟨v,o,hk _ _ ho,hd⟩
 ·rcases oc x c e with z|z
  ·exact I3.freeC x c z
  ·exact I3.hok.fresh (YbZ z)
 ·rw[Yah];exact S.len

theorem ji7 {cl:List (Str×Addr)}{fp:List Addr}{C:Addr}{τ:St}{H':Hp}{s':Shared}{pins':List (Addr×Obj)}(I3:Inv X pins σ H3 s3)(hf:∀b∈fp,FpOk X pins H3 b)(J:Inv (jal X N scope cl C s3 H3 fp) pins' τ H' s') :
  Inv X pins σ H' s':=I3.call' J.os J.base J.hok J.bare λb hb=>⟨(hf b hb).2.2.2.1,(hf b hb).2.1,(hf b hb).2.2.2.2.1,(hf b hb).2.2.2.2.2⟩

theorem jk7 {Y:Cx}{elt tg:Expr}{gens:List YbP}{pos ip:Pos}{ifs:List Expr}{dp:Nat}{acc:Value}{em:Sem Unit}{g:TG}{tt:TT}{tem:TEm}{J:It}{fp:List Addr}{it:Addr}{tn:Nat->Heap->Prop}{QQ:St->List V->Hp->Prop}{τ0:St}{ys0:List V}
  (yc:Y.calm=true) (yxe:Y.xe=λ_ _=>False)
  (hct:Ye2 (.ListComp elt gens scope pos) dp (.ref it) acc Y.env=jcC ip tg ifs (.ref it) Y.env em (.compLoop (.ListComp elt gens scope pos) dp (.ref it) acc Y.env))
  (yg:PG Y tg g) (yi:PIfs Y ifs tt) (ym:PEm Y em tem) (J0:Inv Y pins τ0 H s) (T:Turn Y.prog Y.w Y.K tg J fp it tn) (t0:tn 0 s.heap) (f0:∀b∈fp,FpOk Y pins H b) (hW:jih J g tt tem QQ τ0 ys0 H) :
  codeAny (model Y.prog Y.w) Y.A (.compLoop (.ListComp elt gens scope pos) dp (.ref it) acc Y.env) (λr s'=>r=.ok .next/\∃τ' ys' H',Inv Y pins τ' H' s'/\QQ τ' ys' H') s:=by
 obtain⟨W,⟨m0,w0⟩,turn⟩:=hW;have stat:∀{H':Hp},(∀b∈fp,H' b=none)->∀b∈fp,FpOk Y pins H' b:=λhn b hb=>⟨hn b hb,(f0 b hb).2⟩;refine jew (λn s'=>∃i τ ys H',Inv Y pins τ H' s'/\tn i s'.heap/\(∀b∈fp,H' b=none)/\W i n τ ys H') hct ?_ m0 ⟨0,_,ys0,_,J0,t0,λb hb=>(f0 b hb).1,w0⟩;rintro n s4 ⟨i,τ,ys,H4,J4,t4,fr4,w4⟩;rcases turn i n τ ys H4 w4 with⟨stop,q⟩|⟨go,step⟩
 ·refine YaK (T.done Y rfl rfl rfl yc i pins s4 τ H4 (λ_ _=>False) J4 (stat fr4) t4 stop) (λr s5 ⟨hr,J5⟩=>?_) λ_ _ f=>f;subst hr;exact⟨rfl,τ,ys,H4,J5,q⟩
 ·refine YaK (T.item Y rfl rfl rfl yc i pins s4 τ H4 (λ_ _=>False) J4 (stat fr4) t4 go) (λr s5 ⟨u,hr,h5⟩=>?_) λ_ _ f=>f;subst hr;refine YaK h5 (λ_ s6 ⟨x,H6,J6,r6,y6,t6,fr6⟩=>?_) λ_ _ f=>f;have J6':=J6.pinned (stat fr6) (T.obj _ _ t6);have ag:=yg _ s6 τ H6 x u _ J6' r6 (step x H6 y6);rw[yxe]at ag;refine YaK ag (λ_ s7 ⟨τ7,H7,J7,q7⟩=>?_) λ_ _ f=>f;have ai:=yi _ s7 τ7 H7 _ J7 q7;rw[yxe]at ai;refine YaK ai (λok s8 ⟨H8,J8,q8⟩=>?_) λ_ _ f=>f;have again:∀{τ9:St} {H9:Hp} {s9:Shared} {zs:List V},Inv Y (pins++jd3 fp s6.heap) τ9 H9 s9->(∃m',m'<n/\W (i+1) m' τ9 zs H9)->∃m,m<n/\∃i τ ys H',Inv Y pins τ H' s9/\tn i s9.heap/\(∀b∈fp,H' b=none)/\W i m τ ys H':=λ{τ9 H9 s9 zs} J9 ⟨m',hm,w9⟩=>by
   refine⟨m',hm,i+1,τ9,zs,H9,J9.unpinned,T.keep _ _ _ t6 λb hb o e=>(J9.pin (b,o) (Yaz _ (Yaz _ (jbq hb e)))).1,λb hb=>?_,w9⟩;obtain⟨o,e,d⟩:=T.obj _ _ t6 b hb;exact(J9.pin (b,o) (Yaz _ (Yaz _ (jbq hb e)))).2.1
  cases ok with
  |false=>exact again J8 q8
  |true=>
   have am:=ym _ s8 τ7 ys H8 _ J8 q8;rw[yxe]at am;exact YaK am (λ_ s9 ⟨τ9,zs,H9,J9,q9⟩=>again J9 q9) λ_ _ f=>f
theorem jjQ {Y:Cx}{elt:Expr}{te:TE}{D:Addr}(yxe:Y.xe=λ_ _=>False)(he:PE Y elt te):PEm Y (do let _ <- call (.builtin "list.append") [.ref D,<- eval elt Y.env]) (emA te D):=by
 intro pins s τ ys H Q J q;have ae:=he _ s τ H _ J q;refine Yad (YaK ae (λv s9 ⟨z,H9,J9,r9,hD9,hz9,q9⟩=>?_) λ_ _ f=>f);have aa:=jei (X:=Y) _ s9 τ H9 (.ref D) [z] (.ref D) [v] (λx H'=>H'=upd H9 D (.lst (ys++[z]))) J9 rfl (.cons r9 .nil) ⟨_,ys,z,rfl,rfl,hD9,hz9,rfl⟩;refine Yad (YaK aa (λ_ s10 ⟨_,H10,J10,_,e10⟩=>?_) λ_ _ f=>f);subst e10;exact Yam ⟨τ,_,_,J10,q9⟩
section
variable {tg iter elt:Expr}{ifs:List Expr}
theorem jfK {rest:List YbP}{pos:Pos}{g:TG}{tt:TT}{tem:Addr->TEm}{em:Addr->Env->Sem Unit}{J:It}{fp:List Addr}{it:Addr}{tn:Nat->Heap->Prop}{cl:List (Str×Addr)}{Q:VK}{E:Value->Shared->Prop}{RR:Value->Addr->Result->Shared->Prop}
  (hc:X.calm=true) (S:CScope X N pick scope) (c1:∀x c,cl.lookup x=some c->X.env.cells.lookup x=some c) (c2:∀y∈scope.names,y.2=.free->∃c,cl.lookup y.1=some c)
  (hg:∀cl C s₀ H₀ fp,PG (jal X N scope cl C s₀ H₀ fp) tg g) (hi:∀cl C s₀ H₀ fp,PIfs (jal X N scope cl C s₀ H₀ fp) ifs tt) (he:∀D cl C s₀ H₀ fp,PEm (jal X N scope cl C s₀ H₀ fp) (em D (jal X N scope cl C s₀ H₀ fp).env) (tem D))
  (hct:∀(it:Value) (D:Addr) (env:Env),Ye2 (.ListComp elt (⟨tg,iter,ifs,0⟩::rest) scope pos) 0 it (.ref D) env=jcC iter.pos tg ifs it env (em D env) (.compLoop (.ListComp elt (⟨tg,iter,ifs,0⟩::rest) scope pos) 0 it (.ref D) env))
  (I2:Inv X pins σ H s) (T:Turn X.prog X.w X.K tg J fp it tn) (st:tn 0 s.heap) (hf:∀b∈fp,FpOk X pins H b)
  (hW:∀D,H D=none->LcGG J g tt tem D (pick.map λo=>o.bind λj=>(σ[j]?).join) Q H)
  (hRR:∀D C H' s',Inv X pins σ H' s'->(∃m,s'.heap.Ns C m)->FpOk X pins H' C->Q (.ref D) H'->RR (.ref D) C (.ok .next) s') :
  wpAny (model X.prog X.w) X.A (newList []) (λacc s₃=>wpAny (model X.prog X.w) X.A (Yfn scope X.env.globals cl [] X.env.qual none .none (some X.env)) (λcenv s₄=>
   codeAny (model X.prog X.w) X.A (.compStart (.ListComp elt (⟨tg,iter,ifs,0⟩::rest) scope pos) 0 (.ref it) acc { cenv with scope:=relabel scope X.env }) (RR acc cenv.locals) s₄) E s₃) E s:=by
 have hD:H s.heap.objs.size=none:=I2.hok.fresh (Yaf _);have hlt:∀b∈fp,b<s.heap.objs.size:=λb hb=>let ⟨o,e,_⟩:=T.obj _ _ st b hb;Yal e
 refine Ybb (jbC ?_);have I3:Inv X pins σ (upd H s.heap.objs.size (.lst [])) { s with heap:=s.heap.push { cls:=.type "list",dict:=none,data:=.seq ([]:List Value).toArray } }:=
  I2.laid (t':=s.toks) (λb u e=>Yae _ e) (Yaf _) ⟨Ybw _,[],0,.nil,Yas _ rfl⟩
 generalize hs3:({ s with heap:=s.heap.push { cls:=.type "list",dict:=none,data:=.seq ([]:List Value).toArray } }:Shared)=s3 at I3 ⊢
 have hsz:s3.heap.objs.size=s.heap.objs.size+1:=by rw[<- hs3];exact YdF ..
 have hf3:∀b∈fp,FpOk X pins (upd H s.heap.objs.size (.lst [])) b:=λb hb=>⟨by rw[jad (YaF (hlt b hb))];exact(hf b hb).1,(hf b hb).2⟩
 have hsz':(s3.heap.push { cls:=.type "dict",data:=.dict #[] }).objs.size=s3.heap.objs.size+1:=YdF ..;have hk:∀b o,s3.heap.get? b=some o->(Ye9 (s3.heap.push { cls:=.type "dict",data:=.dict #[] }) scope.names).get? b=some o:=λb o e=>pushCells_keeps _ _ b o (Yae _ e);have hns₁:(Ye9 (s3.heap.push { cls:=.type "dict",data:=.dict #[] }) scope.names).Ns s3.heap.objs.size λ_=>none:=(Heap.Ns.new s3.heap (.type "dict")).keeps (pushCells_keeps _ _);have B:=jic (cl:=cl) hsz' S.cells λx c e=>by
  obtain⟨v,z⟩:=I3.cell x c (c1 x c e);exact YbZ z.lt
 generalize Ye9 (s3.heap.push { cls:=.type "dict",data:=.dict #[] }) scope.names=h₁ at hk hns₁ B ⊢;generalize Ybe (s3.heap.objs.size+1) scope.names cl=cs at B ⊢;have c1':∀x c,cs.lookup x=some c->X.env.cells.lookup x=some c\/s3.heap.objs.size<c:=λx c e=>by
  rcases B.lk x c e with⟨_,z,_⟩|⟨_,z⟩
  ·exact .inr z
  ·exact .inl (c1 x c z)
 have st1:tn 0 h₁:=T.keep _ _ _ st λb _ o e=>hk b o (by rw[<- hs3];exact Yae _ e)
 have IY:Inv (jal X N scope cs s3.heap.objs.size s3 (upd H s.heap.objs.size (.lst [])) fp) [] (pick.map λo=>o.bind λj=>(σ[j]?).join) (upd H s.heap.objs.size (.lst [])) { s3 with heap:=h₁ }:=
  jgx (tk:=s3.toks) S I3 hf3 (λb hb=>Yaq (hlt b hb) (by omega)) c1 c2 B hns₁ hk
 generalize hY:jal X N scope cs s3.heap.objs.size s3 (upd H s.heap.objs.size (.lst [])) fp=Y at IY;have yg:PG Y tg g:=hY ▸ hg _ _ _ _ _;have yi:PIfs Y ifs tt:=hY ▸ hi _ _ _ _ _;have ye:PEm Y (em s.heap.objs.size Y.env) (tem s.heap.objs.size):=hY ▸ he _ _ _ _ _ _;have yprog:Y.prog=X.prog:=by rw[<- hY];rfl
 have yw:Y.w=X.w:=by rw[<- hY];rfl
 have yK:Y.K=X.K:=by rw[<- hY];rfl
 have yA:Y.A=X.A:=by rw[<- hY];rfl
 have yc:Y.calm=true:=by rw[<- hY];exact hc
 have yenv:Y.env=compEnvC scope cs s3.heap.objs.size X.env:=by rw[<- hY];rfl
 have yex:∀b,b∈Y.ex↔b∈fp:=λb=>by rw[<- hY];rfl
 have yxe:Y.xe=λ_ _=>False:=by rw[<- hY];rfl
 have ypn:Y.pn=[]:=by rw[<- hY];rfl
 have yfs:∀b,b∈Y.fs->b∈X.env.locals::X.fs:=λb hb=>I3.stkSub b (by rw[<- hY]at hb;exact hb)
 have stat:∀{H':Hp},(∀b∈fp,H' b=none)->∀b∈fp,FpOk Y [] H' b:=λhn b hb=>by
  refine⟨hn b hb,?_,λhm=>?_,.inl ((yex b).mpr hb),λx c e=>?_,λp hp=>?_⟩
  ·rw[yenv];show b≠s3.heap.objs.size;exact YaF (Yaq (hlt b hb) (by omega))
  ·rcases YaL.mp (yfs b hm)with z|z
   ·exact(hf b hb).2.1 z
   ·exact(hf b hb).2.2.1 z
  ·rw[yenv]at e;rcases c1' x c e with z|z
   ·exact(hf b hb).2.2.2.2.1 x c z
   ·intro q;rw[q]at z;exact absurd (YcD z (Yaq (hlt b hb) (by omega))) (Ya6 _)
  ·rw[ypn]at hp;simp at hp
 have fin:∀{τ:St} {H':Hp} {s':Shared},Inv Y [] τ H' s'->Q (.ref s.heap.objs.size) H'->RR (.ref s.heap.objs.size) s3.heap.objs.size (.ok .next) s':=λ{τ H' s'} J q=>by
  have fr:H' s3.heap.objs.size=none:=by have:=J.free;rw[yenv]at this;exact this
  obtain⟨m,hn,_⟩:=J.loc;rw[yenv]at hn;exact hRR _ _ H' s' (ji7 I3 hf3 (hY ▸ J)) ⟨m,hn⟩ (I3.fpOk (Yaf _) fr) q
 have hn:∀b∈fp,upd H s.heap.objs.size (.lst []) b=none:=λb hb=>(hf3 b hb).1;have lp:=jk7 (pins:=[]) (s:={ s3 with heap:=h₁ }) (acc:=.ref s.heap.objs.size) (ifs:=ifs) (em:=em s.heap.objs.size Y.env) yc yxe (hct (.ref it) s.heap.objs.size Y.env) yg yi ye IY (by rw[yprog,yw,yK];exact T) st1 (stat hn) (hW _ hD)
 rw[yprog,yw,yA,yenv]at lp;have lp:=Ydb lp (R':=RR (.ref s.heap.objs.size) s3.heap.objs.size) λr s' ⟨hr,τ',ys',H',I',q'⟩=>by subst hr;exact fin I' q'
 show codeAny (model X.prog X.w) X.A (.compStart (.ListComp elt (⟨tg,iter,ifs,0⟩::rest) scope pos) 0 (.ref it) (.ref s.heap.objs.size) (compEnvC scope cs s3.heap.objs.size X.env)) (RR (.ref s.heap.objs.size) s3.heap.objs.size) _;exact codeAny_compStart_list lp (T.self _ 0 _ _ _ st1 lp)

theorem jmy {pos:Pos}{wi:TI}{g:TG}{tt:TT}{rest:List YbP}{tem:Addr->TEm}{em:Addr->Env->Sem Unit}(hc:X.calm=true)(S:CScope X N pick scope)(hw:PI X tg iter wi)
  (hg:∀cl C s₀ H₀ fp,PG (jal X N scope cl C s₀ H₀ fp) tg g) (hi:∀cl C s₀ H₀ fp,PIfs (jal X N scope cl C s₀ H₀ fp) ifs tt) (he:∀D cl C s₀ H₀ fp,PEm (jal X N scope cl C s₀ H₀ fp) (em D (jal X N scope cl C s₀ H₀ fp).env) (tem D))
  (hct:∀(it:Value) (D:Addr) (env:Env),Ye2 (.ListComp elt (⟨tg,iter,ifs,0⟩::rest) scope pos) 0 it (.ref D) env=jcC iter.pos tg ifs it env (em D env) (.compLoop (.ListComp elt (⟨tg,iter,ifs,0⟩::rest) scope pos) 0 it (.ref D) env))
  (hs:∀x,Ya2 iter X.env x=pure x:=by intro _;rfl):PE X (.ListComp elt (⟨tg,iter,ifs,0⟩::rest) scope pos) (tLcG pick wi g tt tem):=by
 intro pins s σ H Q I h;obtain⟨cl,hclos,c1,c2⟩:=jdr (scope:=scope) (env:=X.env) λy hy hf=>I.ok.has _ (S.fre y hy hf).2;rw[eval_ListComp];refine YfA (use:=none) rfl hs hclos S.kind S.names (thn (hw pins s σ H _ I h) λv s1 h1=>thn h1 λitv s2 h2=>?_);obtain⟨it,fp,tn,J,H2,e,I2,T,st2,f2,hW⟩:=h2;subst e;refine jfK (RR:=λacc C=>compPost (model X.prog X.w) X.A X.xe none (EP X pins σ Q) acc C) hc S c1 c2 hg hi he hct I2 T st2 f2 hW λD C H' s' J' ⟨m,hn⟩ fC q=>?_;refine⟨m,hn,λh' hs'=>⟨.ref D,H',?_,rfl,q⟩⟩;exact J'.turned (t':=s'.toks) (it:=C) (λb o hb e=>hs'.extBut b o hb e) fC.1 fC.2.1 fC.2.2.2.1 fC.2.2.2.2.1 fC.2.2.2.2.2

theorem jmn {pos py spos:Pos}{wi:TI}{g:TG}{tt:TT}{rest:List YbP}{tem:Addr->TEm}{em:Addr->Env->Sem Unit}{i:Nat}{y:Str}(hN:X.N.Nodup)(hi':X.N[i]?=some y)(hy:X.env.scope.names.lookup y=some .local)(hc:X.calm=true)(S:CScope X N pick scope)(hw:PI X tg iter wi)
  (hg:∀cl C s₀ H₀ fp,PG (jal X N scope cl C s₀ H₀ fp) tg g) (hi:∀cl C s₀ H₀ fp,PIfs (jal X N scope cl C s₀ H₀ fp) ifs tt) (he:∀D cl C s₀ H₀ fp,PEm (jal X N scope cl C s₀ H₀ fp) (em D (jal X N scope cl C s₀ H₀ fp).env) (tem D))
  (hct:∀(it:Value) (D:Addr) (env:Env),Ye2 (.ListComp elt (⟨tg,iter,ifs,0⟩::rest) scope pos) 0 it (.ref D) env=jcC iter.pos tg ifs it env (em D env) (.compLoop (.ListComp elt (⟨tg,iter,ifs,0⟩::rest) scope pos) 0 it (.ref D) env))
  (hsw:Ycl (.ListComp elt (⟨tg,iter,ifs,0⟩::rest) scope pos) (some (.Name y py)) spos.line X.env=pure true) (hs:∀x,Ya2 iter X.env x=pure x:=by intro _;rfl) :
  PS X (.Assign [.Name y py] (.ListComp elt (⟨tg,iter,ifs,0⟩::rest) scope pos) spos) (tAsg (tLcG pick wi g tt tem) (jhH i)):=by
 intro pins s σ H D0 I h;obtain⟨cl,hclos,c1,c2⟩:=jdr (scope:=scope) (env:=X.env) λy hy hf=>I.ok.has _ (S.fre y hy hf).2;rw[exec_Assign_Name_used _ _ _ _ hsw];refine Yad (Ycb (Yad ?_));show wpAny _ _ (do let _ <- comprehension (.ListComp elt (⟨tg,iter,ifs,0⟩::rest) scope pos) scope X.env _ (newList []) false (eval iter X.env) (some (assign (.Name y py) X.env))) _ _ s
 refine Yad (thn (YfA (use:=some (assign (.Name y py) X.env)) (Q:=λ_ s'=>SP X pins D0 .next s') rfl hs hclos S.kind S.names
  (thn (hw pins s σ H _ I h) λv s1 h1=>thn h1 λitv s2 h2=>?_)) λ_ s' hq=>Yam (Yam hq))
 obtain⟨it,fp,tn,J,H2,e,I2,T,st2,f2,hW⟩:=h2;subst e;refine jfK (Q:=λx H1=>jhH i x σ H1 D0.nx) (RR:=λacc C=>compPost (model X.prog X.w) X.A X.xe (some (assign (.Name y py) X.env)) (λ_ s'=>SP X pins D0 .next s') acc C) hc S c1 c2 hg hi he hct I2 T st2 f2 hW λD C H' s' J' ⟨m,hn⟩ fC q=>?_
 show wpAny _ _ (assign (.Name y py) X.env (.ref D)) _ _ _;refine wpAny_assign_Name (jdZ (v:=.ref D) J' hN hi' (.inl hy) rfl (λs'' J'' ⟨a,sb,ha⟩=>?_) (.inr hy));have hne:C≠a:=by
  rcases ha with z|z
  ·rw[z];exact fC.2.1
  ·exact λe=>fC.2.2.2.2.1 y a z e.symm
 refine⟨m,hn.sameBut sb hne,λh' hs'=>?_⟩;refine⟨_,H',J''.turned (t':=s''.toks) (it:=C) (λb o hb e=>hs'.extBut b o hb e) fC.1 fC.2.1 fC.2.2.2.1 fC.2.2.2.2.1 fC.2.2.2.2.2,q⟩
theorem joV {pos:Pos}{wi:TI}{g:TG}{tt:TT}{te:TE}(hc:X.calm=true)(S:CScope X N pick scope)(hw:PI X tg iter wi)
  (hg:∀cl C s₀ H₀ fp,PG (jal X N scope cl C s₀ H₀ fp) tg g) (hi:∀cl C s₀ H₀ fp,PIfs (jal X N scope cl C s₀ H₀ fp) ifs tt) (he:∀cl C s₀ H₀ fp,PE (jal X N scope cl C s₀ H₀ fp) elt te)
  (hs:∀x,Ya2 iter X.env x=pure x:=by intro _;rfl):PE X (.ListComp elt [⟨tg,iter,ifs,0⟩] scope pos) (tLc pick wi g tt te):=
 jmy (em:=λD env=>do let _ <- call (.builtin "list.append") [.ref D,<- eval elt env]) (rest:=[]) hc S hw hg hi (λD cl C s₀ H₀ fp=>jjQ rfl (he cl C s₀ H₀ fp)) (λ_ _ _=>rfl) hs
theorem joR {pos:Pos}{wi:TI}{g:TG}{tt:TT}{te:TE}{py spos:Pos}{i:Nat}{y:Str}(hN:X.N.Nodup)(hi':X.N[i]?=some y)(hy:X.env.scope.names.lookup y=some .local)(hc:X.calm=true)(S:CScope X N pick scope)(hw:PI X tg iter wi)
  (hg:∀cl C s₀ H₀ fp,PG (jal X N scope cl C s₀ H₀ fp) tg g) (hi:∀cl C s₀ H₀ fp,PIfs (jal X N scope cl C s₀ H₀ fp) ifs tt) (he:∀cl C s₀ H₀ fp,PE (jal X N scope cl C s₀ H₀ fp) elt te)
  (hsw:Ycl (.ListComp elt [⟨tg,iter,ifs,0⟩] scope pos) (some (.Name y py)) spos.line X.env=pure true) (hs:∀x,Ya2 iter X.env x=pure x:=by intro _;rfl):PS X (.Assign [.Name y py] (.ListComp elt [⟨tg,iter,ifs,0⟩] scope pos) spos) (tAsg (tLc pick wi g tt te) (jhH i)):=
 jmn (em:=λD env=>do let _ <- call (.builtin "list.append") [.ref D,<- eval elt env]) (rest:=[]) hN hi' hy hc S hw hg hi (λD cl C s₀ H₀ fp=>jjQ rfl (he cl C s₀ H₀ fp)) (λ_ _ _=>rfl) hsw hs
end
end

mutual
inductive DV (K:Yaa)(H:Hp):V->PyData->Prop
 |non:DV K H .non .none
 |bl (b:Bool):DV K H (.bl b) (.bool b)
 |int (i:Int):DV K H (.int i) (.int i)
 |str (x:Str):DV K H (.str x) (.str x)
 |tup {a:Addr} {xs:List V} {ds:List PyData}:SqT K H a xs->DVs K H xs ds->DV K H (.ref a) (.tuple ds)
 |lst {a:Addr} {xs:List V} {ds:List PyData}:Rd H a (.lst xs)->DVs K H xs ds->DV K H (.ref a) (.list ds)
 |dic {a:Addr}:H a=some (.dK [])->DV K H (.ref a) (.dict [])
inductive DVs (K:Yaa)(H:Hp):List V->List PyData->Prop
 |nil:DVs K H [] []
 |cons {x:V} {d:PyData} {xs:List V} {ds:List PyData}:DV K H x d->DVs K H xs ds->DVs K H (x::xs) (d::ds)
end
section
variable {K:Yaa}{H H':Hp}
end
mutual
noncomputable def noL:PyData->Bool
 |.list _=>false
 |.tuple xs=>noLs xs
 |.dict _=>false
 |.none|.bool _|.int _|.str _=>true
noncomputable def noLs:List PyData->Bool
 |[]=>true
 |x::r=>noL x&&noLs r
end
section
variable {K:Yaa}{H H':Hp}
def TK (H H':Hp):Prop:=∀b xs,H b=some (.tup xs)->H' b=some (.tup xs)
end

theorem Inv.noSys {X:Cx}{pins:List (Addr×Obj)}{σ:St}{H:Hp}{s:Shared}(I:Inv X pins σ H s){a:Addr}{o:Obj}(h:s.heap.get? a=some o)(c:o.cls=.type "list"):Ya7≠a:=λe=>by
 obtain⟨o',l,c'⟩:=I.mod.sys;have:=I.kIn _ _ l;rw[e,h]at this;cases this;rw[c]at c';exact absurd c' (by decide)
mutual
theorem DV.reads2 {X:Cx}{pins:List (Addr×Obj)}{σ:St}{H:Hp}{s:Shared}(I:Inv X pins σ H s):∀{x:V} {d:PyData} {u:Value},DV X.K H x d->RelV x u->∃as,Reads s.heap u d as/\Ya7∉as
 |_,_,_,.non,r=>by cases r;exact⟨_,.none,by simp⟩
 |_,_,_,.bl b,r=>by cases r;exact⟨_,.bool b,by simp⟩
 |_,_,_,.int i,r=>by obtain⟨t,rfl⟩:=r;exact⟨_,.int i t,by simp⟩
 |_,_,_,.str x,r=>by obtain⟨t,rfl⟩:=r;exact⟨_,.str x t,by simp⟩
 |_,_,_,.tup e h,r=>by
  cases r
  obtain⟨its,rv,⟨o,ho,hc,n,hd⟩,_⟩:=I.tuple e
  obtain⟨as,q,z⟩:=DVs.reads2 I h rv
  exact⟨_,.tuple ho hc hd q,z⟩
 |_,_,_,@DV.lst _ _ a _ _ e h,r=>by
  cases r
  obtain⟨its,rv,⟨o,n,ho,hc,_,hd⟩,_⟩:=I.list (.inl e)
  obtain⟨as,q,z⟩:=DVs.reads2 I h rv
  refine⟨_,.list ho hc hd q,λhm=>?_⟩
  rcases YaL.mp hm with hm|hm
  ·exact I.noSys ho hc hm
  ·exact z hm
 |_,_,_,@DV.dic _ _ a e,r=>by
  cases r
  obtain⟨_,hS,vs,kv,o,es,ep,ho,hx,hd,_,hp,_⟩:([]:List (Key×V)).length<=Yac/\(a==Ya7)=false/\∃vs,KV [] vs/\s.heap.DictOf (jap X.prog X.w) a vs:=I.hok a _ e
  have e0:es.toList=[]:=by
   cases kv
   revert hp
   cases es.toList with
   |nil=>exact λ_=>rfl
   |cons x r=>exact λhp=>(nomatch hp)
  refine⟨_,.dict (kvs:=[]) (as:=[]) (bs:=[]) ho hx.1 hd (by rw[e0];exact .nil) (by rw[e0];exact .nil),λhm=>?_⟩
  have:Ya7=a:=by simpa using hm
  rw[<- this]at hS
  exact absurd hS (by simp)
theorem DVs.reads2 {X:Cx}{pins:List (Addr×Obj)}{σ:St}{H:Hp}{s:Shared}(I:Inv X pins σ H s):∀{xs:List V} {ds:List PyData} {us:List Value},DVs X.K H xs ds->Vals xs us->∃as,ReadsAll s.heap us ds as/\Ya7∉as
 |_,_,_,.nil,r=>by cases r;exact⟨_,.nil,by simp⟩
 |_,_,_,.cons a b,r=>by
  cases r with
  |cons r rr=>
   obtain⟨as,q,z⟩:=DV.reads2 I a r
   obtain⟨bs,q',z'⟩:=DVs.reads2 I b rr
   exact⟨_,.cons q q',by rw[List.mem_append,not_or];exact⟨z,z'⟩⟩
end
section
variable {X:Cx}{pins:List (Addr×Obj)}{σ:St}{H:Hp}{s:Shared}
theorem DV.reads (I:Inv X pins σ H s){x:V}{d:PyData}{u:Value}(h:DV X.K H x d)(r:RelV x u):∃as,Reads s.heap u d as:=let ⟨as,q,_⟩:=DV.reads2 I h r;⟨as,q⟩
theorem DVs.reads (I:Inv X pins σ H s){xs:List V}{ds:List PyData}{us:List Value}(h:DVs X.K H xs ds)(r:Vals xs us):∃as,ReadsAll s.heap us ds as:=let ⟨as,q,_⟩:=DVs.reads2 I h r;⟨as,q⟩

end
structure Fits (n k:Nat)(d:PyData):Prop where
 sh:d.showable=true
 ln:d.shown.length<=n
 dp:d.depth<=k
theorem Fits.mono {n n' k k':Nat}{d:PyData}(h:Fits n k d)(h1:n<=n')(h2:k<=k'):Fits n' k' d:=⟨h.sh,Yak h.ln h1,Yak h.dp h2⟩
theorem Fits.int {i:Int}(h:i.natAbs<2 ^ 1000):Fits 1921 0 (.int i):=by
 have hl:i.natAbs.log2<1920:=by
  by_cases z:i.natAbs=0
  ·rw[z];decide
  ·exact Yaq ((YfX z).mpr h) (by decide)
 refine⟨by simp[Ydi,hl],?_,Yaf _⟩
 simp only[Yce];exact int_text_len_1921 hl
theorem Fits.str {x:Str}{m:Nat}(h:x.length<=m)(hc:∀c∈x.cps.toList,c<16 ^ 8):Fits (10*m+2) 0 (.str x):=by
 refine⟨rfl,?_,Yaf _⟩;simp only[Yce];exact Yak (StrLaws.reprText_len x hc) (by omega)
theorem jfG {ts:List Str}{n:Nat}(h:∀t∈ts,t.length<=n):piled ts<=ts.length*(n+2):=by
 induction ts with
 |nil=>simp[piled]
 |cons t r ih=>
  have h1:=h t Yao;have h2:=ih λq hq=>h q (Yag _ hq);rw[piled_cons,Ya4,Nat.add_mul];omega
theorem jbc:∀{ds:List PyData} {t:Str},t∈YbQ ds->∃d∈ds,t=d.shown
 |[],_,h=>by simp[YbQ]at h
 |d::r,t,h=>by
  simp only[YbQ,YaL]at h;rcases h with h|h
  ·exact⟨d,Yao,h⟩
  ·obtain⟨e,he,q⟩:=jbc h;exact⟨e,Yag _ he,q⟩
theorem jaK:∀ds:List PyData,(YbQ ds).length=ds.length
 |[]=>rfl
 |_::r=>by simp[YbQ,jaK r]
theorem jla (ts:List Str):(YaZ ", " ts).length<=piled ts:=by
 rcases Classical.em (ts=[])with rfl|hz
 ·exact Ybw _
 ·exact Nat.le_of_add_right_le (Yei (join_length_add ts hz))
theorem jdW {ts:List Str}{n:Nat}(h:∀t∈ts,t.length<=n):(tupleText ts).length<=ts.length*(n+2)+3:=by
 have hp:=Yak (jla ts) (jfG h);have two:∀b:Bool,((((if b=true then ",)" else ")"):String):Str)).length<=2:=by decide
 have z:=two (ts.length==1);have one:(("(" : String):Str).length=1:=rfl
 simp only[tupleText,YfQ]at z ⊢;omega
theorem jcx:∀(ts:List Str) (k:Nat) (acc:Str),(textFrom k acc ts).length<=acc.length+piled ts
 |[],_,_=>Yaf _
 |t::r,k,acc=>by
  have two:(((if k>0 then ", " else "" : String):Str)).length<=2:=by split<;>decide
  have ih:=jcx r (k+1) (acc++(if k>0 then ", " else "" : String)++t)
  simp only[YfQ]at ih;rw[piled_cons];exact Yak ih (by omega)
theorem je1 {ts:List Str}{n:Nat}(h:∀t∈ts,t.length<=n):(listText ts).length<=ts.length*(n+2)+3:=by
 have hp:=Yak (jcx ts 0 "[") (YcS (jfG h) _)
 have one:(("[" : String):Str).length=1/\(("]" : String):Str).length=1:=⟨rfl,rfl⟩;simp only[listText,YfQ];omega
theorem jaP:∀{ds:List PyData},(∀d∈ds,d.showable=true)->Yft ds=true
 |[],_=>rfl
 |d::r,h=>by simp[Yft,h d Yao,jaP λq hq=>h q (Yag _ hq)]
theorem jbv:∀{ds:List PyData} {k:Nat},(∀d∈ds,d.depth<=k)->Yck ds<=k
 |[],_,_=>Ybw _
 |d::r,k,h=>by
  simp only[Yck];exact Nat.max_le.mpr ⟨h d Yao,jbv λq hq=>h q (Yag _ hq)⟩
section
variable {n k:Nat}{ds:List PyData}
theorem Fits.tup (h:∀d∈ds,Fits n k d):Fits (ds.length*(n+2)+3) (k+1) (.tuple ds):=by
 refine⟨?_,?_,?_⟩
 ·simp only[Ydi];exact jaP λd hd=>(h d hd).sh
 ·simp only[Yce];have:=jdW (ts:=YbQ ds) (n:=n) λt ht=>by obtain⟨d,hd,e⟩:=jbc ht;rw[e];exact(h d hd).ln
  rw[jaK]at this;exact this
 ·simp only[PyData.depth];exact Yev (jbv λd hd=>(h d hd).dp)
theorem Fits.lst (h:∀d∈ds,Fits n k d):Fits (ds.length*(n+2)+3) (k+1) (.list ds):=by
 refine⟨?_,?_,?_⟩
 ·simp only[Ydi];exact jaP λd hd=>(h d hd).sh
 ·simp only[Yce];have:=je1 (ts:=YbQ ds) (n:=n) λt ht=>by obtain⟨d,hd,e⟩:=jbc ht;rw[e];exact(h d hd).ln
  rw[jaK]at this;exact this
 ·simp only[PyData.depth];exact Yev (jbv λd hd=>(h d hd).dp)
end
section
variable {n k m N:Nat}{ds:List PyData}
theorem Fits.tupLe (hl:ds.length<=m)(h:∀d∈ds,Fits n k d)(hN:m*(n+2)+3<=N):Fits N (k+1) (.tuple ds):=
 (Fits.tup h).mono (Yak (YfJ (YcI _ hl) _) hN) (Yaf _)
theorem Fits.lstLe (hl:ds.length<=m)(h:∀d∈ds,Fits n k d)(hN:m*(n+2)+3<=N):Fits N (k+1) (.list ds):=
 (Fits.lst h).mono (Yak (YfJ (YcI _ hl) _) hN) (Yaf _)

end
def joL (K:Yaa):List V->Hp->VK->Prop:=λxs H Q=>∃x d,xs=[x]/\DV K H x d/\Fits 16000000 60 d/\Q (.str d.shown) H
theorem jgz {X:Cx}{k:Nat}(hr:Room k X.A):jaG X (.builtin "repr") (joL X.K):=by
 intro pins s σ H xs us Q I r h;obtain⟨x,d,rfl,dv,ft,q⟩:=h;obtain⟨u,rfl,ru⟩:=jcf r;have hu:=hr.un;have done:∀(h':Heap) (u':Tok) (tk:Nat),(∀b o,s.heap.get? b=some o->h'.get? b=some o)->EP X pins σ Q (.str d.shown u') { s with heap:=h',toks:=tk }:=λh' u' tk hk=>
  ⟨.str d.shown,H,I.kept (t':=tk) hk,⟨u',rfl⟩,q⟩
 have hz:d.shown.length<=Yac:=Yak ft.ln (by decide)
 cases dv with
 |non=>cases ru;exact P.repr_of_none (done _ _ _ λ_ _ e=>e)
 |bl b=>cases ru;exact P.repr_of_bool (by have:=done s.heap s.toks (s.toks+1) λ_ _ e=>e;simp only[Yce]at this;exact this)
 |int i=>
  obtain⟨t,rfl⟩:=ru;refine P.repr_of_int (by simpa[Ydi]using ft.sh) ?_
  have:=done s.heap s.toks (s.toks+1) λ_ _ e=>e;simp only[Yce]at this;exact this
 |str x=>
  obtain⟨t,rfl⟩:=ru;simp only[Yce]at hz;refine P.repr_of_str ?_ hz;have:=done s.heap s.toks (s.toks+1) λ_ _ e=>e;simp only[Yce]at this;exact this
 |@tup a xs ds e hd=>
  obtain⟨as,rd,hsy⟩:=DV.reads2 I (DV.tup e hd) ru;cases ru;exact Yfm rd ft.sh (λ_=>hsy) hr.gd (by have:=ft.dp;omega) (λ_ _ e=>e) (λh' u' tk hk=>done h' u' tk hk) hz
 |@lst a xs ds e hd=>
  obtain⟨as,rd,hsy⟩:=DV.reads2 I (DV.lst e hd) ru;cases ru;exact Yfm rd ft.sh (λ_=>hsy) hr.gd (by have:=ft.dp;omega) (λ_ _ e=>e) (λh' u' tk hk=>done h' u' tk hk) hz
 |@dic a e=>
  obtain⟨as,rd,hsy⟩:=DV.reads2 I (DV.dic e) ru;cases ru;exact Yfm rd ft.sh (λ_=>hsy) hr.gd (by have:=ft.dp;omega) (λ_ _ e=>e) (λh' u' tk hk=>done h' u' tk hk) hz
section
variable {X:Cx}{k:Nat}{x:Str}{ps:List Str}{sp:Sp}{e:Expr}{es:List Expr}{t:TA}{p pos:Pos}
end
def Sm (f:Addr)(H H':Hp):Prop:=∀b o,b≠f->H b=some o->H' b=some o
def LcW (n k:Nat)(caps:St)(Pv:Nat->List V->Hp->Prop):Nat->Nat->St->List V->Hp->Prop:=λi m τ ys H=>m=n-i/\i<=n/\(∃os:St,os.length=k/\τ=os++caps)/\Pv i ys H
def LcN (D:Addr)(n k:Nat)(caps:St)(Pv:Nat->List V->Hp->Prop)(i:Nat)(ys:List V)(τ:St)(v:V)(H:Hp):Prop:=
 H D=some (.lst ys)/\ys.length<Yac/\∃m',m'<n-i/\LcW n k caps Pv (i+1) m' τ (ys++[v]) (upd H D (.lst (ys++[v])))
def LcS (n k:Nat)(caps:St)(Pv:Nat->List V->Hp->Prop)(i:Nat)(ys:List V)(τ:St)(H:Hp):Prop:=∃m',m'<n-i/\LcW n k caps Pv (i+1) m' τ ys H
section
variable {g:TG}{tt:TT}{te:TE}{Q:VK}{τ0:St}{H:Hp}{D:Addr}
end
section
variable {X:Cx}
end
section
variable {X:Cx}{es:List Expr}{te:TE}{t:TA}
end
section
variable {X:Cx}{N:List Str}{scope:Scope}{cl:List (Str×Addr)}{C:Addr}{s₀:Shared}{H₀:Hp}{fp:List Addr}
end
section
variable {X:Cx}
end
section
variable {X:Cx}{N:List Str}{scope:Scope}{cl:List (Str×Addr)}{C:Addr}{s₀:Shared}{H₀:Hp}{fp:List Addr}
end
theorem fm_rev (xs:List Value):∀n,n<=xs.length->(YaQ n).filterMap (λk=>xs[xs.length-1-k]?)=(xs.drop (xs.length-n)).reverse
 |0,_=>by simp
 |n+1,h=>by
  rw[Ydq,List.filterMap_append,fm_rev xs n (by omega)]
  have hk:xs.length-1-n<xs.length:=by omega
  have:xs.drop (xs.length-(n+1))=xs[xs.length-1-n]::xs.drop (xs.length-n):=by
   rw[show xs.length-(n+1)=xs.length-1-n by omega,Ybi hk,show xs.length-1-n+1=xs.length-n by omega]
  rw[this,Yb0];simp[YaI hk]
theorem jiw (xs:List Value):Yel xs.toArray none none (some (-1))=xs.reverse.toArray:=by
 have e:sliceRange ((xs.length:Int)-1) (-1) (-1)=(YaQ xs.length).map λk=>xs.length-1-k:=by
  unfold sliceRange;have hc:(if (-1:Int)>0 then (if (xs.length:Int)-1 < -1 then (-1-((xs.length:Int)-1) + -1-1) / -1 else 0) else (if (xs.length:Int)-1 > -1 then ((xs.length:Int)-1 - -1 - -1-1)/(- -1) else 0)).toNat=xs.length:=by
   rw[if_neg (by omega),show(- -1:Int)=1 from rfl,Yfy]
   split<;>omega
  simp only[hc];refine List.map_congr_left λk hk=>?_;have:=List.mem_range.mp hk;omega
 have b:Ycp none none (some (-1)) xs.toArray.size=((xs.length:Int)-1,-1,-1):=by
  simp[Ycp]
 unfold Yel;rw[b];simp only;rw[e,Yf0];have:=fm_rev xs xs.length (Yaf _);rw[Nat.sub_self,YcX]at this;rw[<- this];congr 1;refine congrArg (λf=>YeR f (YaQ xs.length)) (funext λk=>?_);simp
theorem jjc (xs:List Value):Yel xs.toArray none none (some 1)=xs.toArray:=by
 have:=slicePick_all xs.toArray;unfold Yel at this ⊢;exact this
theorem Vals.rev {xs:List V}{us:List Value}(r:Vals xs us):Vals xs.reverse us.reverse:=by
 induction r with
 |nil=>exact .nil
 |cons h r ih=>rw[Yb0,Yb0];exact ih.append (.cons h .nil)
section
variable {X:Cx}{e st:Expr}{te tst:TE}{pos p2:Pos}
end
end L2
namespace HT
open PySem PySem.Spec PyProof.Rows
section
variable {prog:Program}{w:World}{A:Around}{E:Value->Shared->Prop}{s:Shared}
theorem getItem_tuple_all {t sl:Addr}{items:Array Value}{vl vu:Value}{lo hi:Option Int}{Q:Value->Shared->Prop}(ht:IsTup s.heap t items)(hs:s.heap.IsSliceOf sl vl vu .none)(pl:IsPart vl lo)(pu:IsPart vu hi)
  (hw:sIx items.size 0 lo=0/\sIx items.size items.size hi=items.size) (h:Q (.ref t) s):wpAny (model prog w) A (getItem (.ref t) (.ref sl)) Q E s:=by
 obtain⟨os,hos,hcs,hds⟩:=id hs;have hTs:s.TypeIs (.ref sl) "slice" := ⟨os,hos,hcs⟩;unfold getItem
 try with_reducible refine Ybo ?_
 first|refine Yad (Yam ?_)|skip
 refine Yad (YeF ht.typeIs (by decide) ?_)
 refine Yad (Ydt (name:=Ycj "__getitem__") ht.typeIs YaV
  (YeT YaV ht.typeIs Yd7 ?_ (Yeo _ _)))
 show wpAny _ _ (Ycy (.ref t) >>= _) _ _ s;refine Yad (YfP ht ?_);refine Yad (YdM hTs ?_);rw[if_pos (by decide)]
 refine Yad (ja3 hs pl pu ?_);have hyes:((((sIx items.size 0 lo:Nat):Int)==0&&(1:Int)==1&&(sIx items.size items.size hi-sIx items.size 0 lo)==items.size)=true):=by
  rw[hw.1,hw.2];simp
 show wpAny _ _ (if (((sIx items.size 0 lo:Nat):Int)==0&&(1:Int)==1&&(sIx items.size items.size hi-sIx items.size 0 lo)==items.size)=true then _ else _) _ _ s
 rw[if_pos hyes];refine Yad (m:=YdL (.ref t)) ?_;unfold YdL;refine Yad (YdM ht.typeIs (Yam ?_));rw[if_pos (by decide)]
 exact Yad (wpAny_rule (Yam ⟨_,rfl,Yam h⟩))
end
end HT
namespace L2
open PySem PySem.Spec PyProof.Rows
section
variable {X:Cx}
def rSlW (K:Yaa):V->Option Int->Option Int->Hp->VK->Prop:=λx lo hi H Q=>∃a xs,x=.ref a/\SqT K H a xs/\
 (HT.sIx xs.length 0 lo=0/\HT.sIx xs.length xs.length hi=xs.length)/\Q (.ref a) H
theorem jkj:SlR X (rSlW X.K):=by
 intro pins s σ H x v vl vu lo hi sl Q I rx hs pl pu h;obtain⟨a,xs,rfl,hx,hw,q⟩:=h;cases rx;obtain⟨its,r,ht,hz⟩:=I.tuple hx;have hlen:its.toArray.size=xs.length:=by rw[Yai];exact r.length.symm
 refine⟨"tuple",_,YaV.lookup,ht.typeIs,?_⟩;exact HT.getItem_tuple_all ht hs pl pu (by rw[hlen];exact hw) ⟨.ref a,H,I,rfl,q⟩
theorem jkk:SlR X (λx lo hi H Q=>rSlT X.K x lo hi H Q\/rSlW X.K x lo hi H Q):=SlR.or jl1 jkj
end
end L2
namespace HT
open PySem PySem.Spec PyProof.Rows
section
variable {prog:Program}{w:World}{A:Around}{E:Value->Shared->Prop}{s:Shared}
theorem jch {sl:Addr}{t:Tok}{n:Nat}{Q:Int×Int×Nat->Shared->Prop}(hs:s.heap.IsSliceOf sl .none .none (.int (-1) t))(h:Q ((n:Int)-1,-1,n) s):wpAny (model prog w) A (YbI (.ref sl) (pure (n:Int))) Q E s:=by
 obtain⟨os,hos,hcs,hds⟩:=id hs;unfold YbI YdU;refine Yad (Yad (YbN hos hds (x:=.none) rfl (Yad (YbN hos hds (x:=.none) rfl (Yad (YbN hos hds (x:=.int (-1) t) rfl (Yam ?_)))))));refine Yad (jaU (.int (-1) t) ?_);show wpAny _ _ (if ((-1:Int)==0)=true then _ else _) _ _ s
 rw[if_neg (by decide)]
 refine Yad (jaU .none (Yad (jaU .none (Yad (Yam ?_)))));have e1:Ybs none none (-1) (n:Int)=((n:Int)-1,-1):=rfl;have e2:YaP ((n:Int)-1) (-1) (-1)=n:=by
  unfold YaP;rw[if_neg (by omega),show(- -1:Int)=1 from rfl,Yfy]
  split<;>omega
 show wpAny _ _ (match Ybs none none (-1) (n:Int)with|(lo,hi)=>pure (lo,(-1:Int),YaP lo hi (-1))) _ _ s
 rw[e1];show wpAny _ _ (pure ((n:Int)-1,(-1:Int),YaP ((n:Int)-1) (-1) (-1))) _ _ s;rw[e2];exact Yam h
theorem jiE (xs:List Value):((YaQ xs.length).filterMap λ(k:Nat)=>xs.toArray[((xs.length:Int)-1+(k:Int)*(-1)).toNat]?).toArray=xs.reverse.toArray:=by
 have:=L2.fm_rev xs xs.length (Yaf _);rw[Nat.sub_self,YcX]at this;rw[<- this];congr 1;refine congrArg (λf=>YeR f (YaQ xs.length)) (funext λk=>?_);rw[show((xs.length:Int)-1+(k:Int)*(-1)).toNat=xs.length-1-k by omega]
 simp
theorem getItem_tuple_rev {t sl:Addr}{its:List Value}{tk:Tok}{Q:Value->Shared->Prop}(ht:IsTup s.heap t its.toArray)(hs:s.heap.IsSliceOf sl .none .none (.int (-1) tk))
  (h:Q (.ref s.heap.objs.size) { s with heap:=s.heap.push { cls:=.type "tuple",data:=.seq its.reverse.toArray } }) (hsz:its.length<=Yac):wpAny (model prog w) A (getItem (.ref t) (.ref sl)) Q E s:=by
 have htake:sizeOk (.seq its.reverse.toArray):=by
  show its.reverse.toArray.size<=Yac;rw[Yai,YcO];exact hsz
 obtain⟨os,hos,hcs,hds⟩:=id hs;have hTs:s.TypeIs (.ref sl) "slice" := ⟨os,hos,hcs⟩;unfold getItem
 try with_reducible refine Ybo ?_
 first|refine Yad (Yam ?_)|skip
 refine Yad (YeF ht.typeIs (by decide) ?_)
 refine Yad (Ydt (name:=Ycj "__getitem__") ht.typeIs YaV
  (YeT YaV ht.typeIs Yd7 ?_ (Yeo _ _)))
 show wpAny _ _ (Ycy (.ref t) >>= _) _ _ s;refine Yad (YfP ht ?_);refine Yad (YdM hTs ?_);rw[if_pos (by decide)]
 refine Yad (jch (n:=its.length) hs ?_);have hno:¬((((its.length:Int)-1)==0&&(-1:Int)==1&&its.length==its.toArray.size)=true):=by simp
 show wpAny _ _ (if (((its.length:Int)-1)==0&&(-1:Int)==1&&its.length==its.toArray.size)=true then _ else _) _ _ s
 rw[if_neg hno,jiE]
 first
  |exact Yad (m:=YaT _) (Ybb (Yam ⟨_,rfl,Yam h⟩) htake)
  |exact Yad (m:=YaT _) (Ybb (Yad (Yam (Yam ⟨_,rfl,Yam h⟩))) htake)
  |exact Yad (Yad (m:=YaT _) (Ybb (Yam (Yam ⟨_,rfl,Yam h⟩)) htake))
  |exact Yad (Yad (m:=YaT _) (Ybb (Yam ⟨_,rfl,Yam h⟩) htake))
end
end HT
namespace L2
open PySem PySem.Spec PyProof.Rows
section
variable {X:Cx}{e st:Expr}{te tst:TE}{pos p2:Pos}
end
section
variable {X:Cx}{N:List Str}{scope:Scope}{cl:List (Str×Addr)}{C:Addr}{s₀:Shared}{H₀:Hp}{fp:List Addr}
end
end L2

namespace L2
open PySem PySem.Spec PyProof.Rows
section
variable {X:Cx}{pos:Pos}
def joQ (K:Yaa):R2:=λx y H Q=>∃a b xs ys,x=.ref a/\y=.ref b/\SqT K H a xs/\SqT K H b ys/\xs.length+ys.length<=Yac/\
 (xs=[]->Q (.ref b) H)/\(xs≠[]->ys=[]->Q (.ref a) H)/\(xs≠[]->ys≠[]->∀p,H p=none->Q (.ref p) (upd H p (.tup (xs++ys))))
theorem jkU:OpR X (Ybf .Add) (joQ X.K):=by
 intro pins s σ H x y v u Q I rx ry h;obtain⟨a,b,xs,ys,rfl,rfl,ha,hb,hz,q0,q1,q2⟩:=h;by_cases hx:xs=[]
 ·cases rx;cases ry;obtain⟨its,r1,p1,_⟩:=I.tuple ha;obtain⟨its2,r2,p2,_⟩:=I.tuple hb;have hv:its=[]:=r1.nil_iff.mpr hx;subst hv;obtain⟨⟨cls,dd,data,sl⟩,ho,hc,n,hd⟩:=id p1;obtain⟨⟨cls2,dd2,data2,sl2⟩,ho2,hc2,n2,hd2⟩:=id p2;simp only at hc hd hc2 hd2;subst hc hd hc2 hd2;exact Ygk ⟨_,ho,rfl⟩ ⟨_,ho2,rfl⟩ YeU YfR Yc8 Yc3 (YcU _ _)
   (tuple_addW0 a b _ its2.toArray n n2 dd dd2 sl sl2 rfl) ⟨ho,ho2,⟨.ref b,H,I,rfl,q0 hx⟩⟩
 ·exact jkT pins s σ H _ _ _ _ Q I rx ry ⟨a,b,xs,ys,rfl,rfl,ha,hb,hx,hz,q1 hx,q2 hx⟩
theorem jgh {k:Nat}(hr:Room k X.A):OpR X (YaM .Eq) (λx y H Q=>∃a b xs,x=.ref a/\y=.ref b/\SqT X.K H a xs/\SqT X.K H b []/\Q (.bl xs.isEmpty) H):=by
 intro pins s σ H x y v u Q I rx ry h;obtain⟨a,b,xs,rfl,rfl,ha,hb,q⟩:=h;cases rx;cases ry;obtain⟨its,rv,pa,_⟩:=I.tuple ha;obtain⟨its2,rv2,pb,_⟩:=I.tuple hb;cases rv2;have hu:X.A.units<cLine:=hr.units0;have e:((YaQ (min its.toArray.size ([]:List Value).toArray.size)).all (λ_=>true)&&its.toArray.size==([]:List Value).toArray.size)=xs.isEmpty:=by
  cases rv<;>simp
 refine EqBoolInt.of_rc (SeqAt.RcAt.tuples (e:=λ_=>true) (show s.heap.IsTuple a its.toArray from pa) (show s.heap.IsTuple b ([]:List Value).toArray from pb) hu λj _ h2=>?_) ?_
 ·simp at h2
 ·rw[e];exact⟨.bl xs.isEmpty,H,I,rfl,q⟩
end
section
variable {X:Cx}{N:List Str}{scope:Scope}{cl:List (Str×Addr)}{C:Addr}{s₀:Shared}{H₀:Hp}{fp:List Addr}
end
theorem jct:∀{ys:List Str} {us:List Value},Vals (ys.map V.str) us->StrsAre us ys
 |[],_,.nil=>.nil
 |y::r,_,.cons ⟨t,e⟩ q=>by subst e;exact .cons y t (jct q)
section
variable {X:Cx}
def joO (K:Yaa):V->List V->Hp->VK->Prop:=λx vs H Q=>∃(z:Str) (p:Addr) (ys:List Str),x=.str z/\vs=[.ref p]/\(SqL K H p (ys.map V.str)\/SqT K H p (ys.map V.str))/\z.length<=16/\(ys.map (·.length)).sum+ys.length<=1048576/\Q (.str (YaZ z ys)) H
theorem mt_join:MtR X "str.join" (joO X.K):=by
 intro pins s σ H x vs v us Q I rx rv h;obtain⟨z,p,ys,rfl,rfl,hq,h1,h2,q⟩:=h;obtain⟨t,rfl⟩:=rx;obtain⟨u,rfl,ru⟩:=Vals.one rv;cases ru;rcases hq with hq|hq
 ·obtain⟨its,r',pl,hz⟩:=I.list hq;exact join_listW pl.isList (by simpa using jct r') h1 h2 λt' k=>⟨.str (YaZ z ys),H,I.tok k,⟨t',by rw[<- YeX];rfl⟩,q⟩
 ·obtain⟨its,r',pl,hz⟩:=I.tuple hq;exact join_tupleW pl (by simpa using jct r') h1 h2 λt' k=>⟨.str (YaZ z ys),H,I.tok k,⟨t',by rw[<- YeX];rfl⟩,q⟩
end
section
variable {X:Cx}{N:List Str}{scope:Scope}{cl:List (Str×Addr)}{C:Addr}{s₀:Shared}{H₀:Hp}{fp:List Addr}
end
theorem jaQ:∀(ts:List Str) (c:Nat),c∈(YaZ "" ts).cps.toList↔∃t∈ts,c∈t.cps.toList:=λts c=>by
 rw[mem_join];constructor
 ·rintro(h|⟨_,h⟩)
  ·exact h
  ·exact absurd h (by show ¬c∈(([]:List Nat));simp)
 ·exact .inl
theorem jaR:∀(ts:List Str),(∀t∈ts,t.length=1)->(YaZ "" ts).length=ts.length
 |[],_=>rfl
 |[x],h=>h x (by simp)
 |x::y::r,h=>by
  have ih:=jaR (y::r) λt ht=>h t (Yag _ ht);have h1:=h x (by simp)
  show(x ++ "" ++ YaZ "" (y::r)).length=_;have e:(x ++ "" ++ YaZ "" (y::r)).length=x.length+(YaZ "" (y::r)).length:=by
   show(x.cps++("" : Str).cps++(YaZ "" (y::r)).cps).size=_;rw[Yc4,Yc4];show x.cps.size+0+_=_;rfl
  rw[e,ih,h1,Ya4,Ya4,Ya4];omega
section
variable {X:Cx}
def jmk (K:Yaa)(neg:Bool):R2:=λx y H Q=>∃d e,DV K H x d/\DV K H y e/\d.canLay0=true/\e.canLay0=true/\d.depth<=100/\Q (.bl (if neg then !PyData.eqv d e else YaJ d e)) H
theorem jmM {k:Nat}(hr:Room k X.A):OpR X (YaM .NotEq) (jmk X.K true):=by
 intro pins s σ H x y v u Q I rx ry h;obtain⟨d,e,hd,he,c1,c2,hk,q⟩:=h;obtain⟨as,ra⟩:=hd.reads I rx;obtain⟨bs,rb⟩:=he.reads I ry;exact SeqAt.compareNe_reads ra rb c1 c2 (by have:=hr.un;omega) ⟨.bl _,H,I,rfl,q⟩
theorem jmR {k:Nat}(hr:Room k X.A):OpR X (YaM .Eq) (jmk X.K false):=by
 intro pins s σ H x y v u Q I rx ry h;obtain⟨d,e,hd,he,c1,c2,hk,q⟩:=h;obtain⟨as,ra⟩:=hd.reads I rx;obtain⟨bs,rb⟩:=he.reads I ry;exact SeqAt.compareEq_reads ra rb c1 c2 (by have:=hr.un;omega) ⟨.bl _,H,I,rfl,q⟩
end
section
variable {X:Cx}{N:List Str}{scope:Scope}{cl:List (Str×Addr)}{C:Addr}{s₀:Shared}{H₀:Hp}{fp:List Addr}
end
mutual
noncomputable def noB:PyData->Bool
 |.none=>true
 |.bool _=>false
 |.int _=>true
 |.str _=>true
 |.list ds=>noBs ds
 |.tuple ds=>noBs ds
 |.dict _=>false
noncomputable def noBs:List PyData->Bool
 |[]=>true
 |d::r=>noB d&&noBs r
end
mutual
theorem jjN:∀{d e:PyData},noB d=true->noB e=true->YaJ d e=true->d=e
 |.none,.none,_,_,_=>rfl
 |.int i,.int j,_,_,h=>by rw[YaJ]at h;rw[eq_of_beq h]
 |.str i,.str j,_,_,h=>by rw[YaJ]at h;rw[eq_of_beq h]
 |.list xs,.list ys,h1,h2,h=>by rw[YaJ]at h;rw[noB]at h1 h2;rw[jfa h1 h2 h]
 |.tuple xs,.tuple ys,h1,h2,h=>by rw[YaJ]at h;rw[noB]at h1 h2;rw[jfa h1 h2 h]
 |.bool _,_,h,_,_=>by rw[noB]at h;cases h
 |.dict _,_,h,_,_=>by rw[noB]at h;cases h
 |.none,.bool _,_,h,_|.int _,.bool _,_,h,_|.str _,.bool _,_,h,_|.list _,.bool _,_,h,_|.tuple _,.bool _,_,h,_=>by rw[noB]at h;cases h
 |.none,.dict _,_,h,_|.int _,.dict _,_,h,_|.str _,.dict _,_,h,_|.list _,.dict _,_,h,_|.tuple _,.dict _,_,h,_=>by rw[noB]at h;cases h
 |.none,.int _,_,_,h|.none,.str _,_,_,h|.none,.list _,_,_,h|.none,.tuple _,_,_,h=>by rw[YaJ]at h;cases h
 |.int _,.none,_,_,h|.int _,.str _,_,_,h|.int _,.list _,_,_,h|.int _,.tuple _,_,_,h=>by rw[YaJ]at h;cases h
 |.str _,.none,_,_,h|.str _,.int _,_,_,h|.str _,.list _,_,_,h|.str _,.tuple _,_,_,h=>by rw[YaJ]at h;cases h
 |.list _,.none,_,_,h|.list _,.int _,_,_,h|.list _,.str _,_,_,h|.list _,.tuple _,_,_,h=>by rw[YaJ]at h;cases h
 |.tuple _,.none,_,_,h|.tuple _,.int _,_,_,h|.tuple _,.str _,_,_,h|.tuple _,.list _,_,_,h=>by rw[YaJ]at h;cases h
theorem jfa:∀{ds es:List PyData},noBs ds=true->noBs es=true->YcE ds es=true->ds=es
 |[],[],_,_,_=>rfl
 |d::r,e::q,h1,h2,h=>by
  rw[noBs,Yap]at h1 h2
  rw[YcE,Yap]at h
  rw[jjN h1.1 h2.1 h.1,jfa h1.2 h2.2 h.2]
 |[],_::_,_,_,h=>by rw[YcE]at h;cases h
 |_::_,[],_,_,h=>by rw[YcE]at h;cases h
end
theorem jdw (l:Addr)(items:Array Value)(n:Nat)(dd:Option Addr)(sl:Array (Option Value))(x:Value)(e:Value->Bool)(j:Nat)(hj:j<items.size)
  (hit:e items[j]=true) (hno:∀m (hm:m<items.size),m<j->e items[m]=false) :
  Meets (Builtin.«tuple.index» ⟨[.ref l,x],[]⟩)
   (λA R s=>s.heap.get? l=some { cls:=.type "tuple",dict:=dd,data:=.seq items n,slots:=sl }/\(∀y,y∈items->YeQ A.in1 s y x (e y))/\R (.ok (.ret (.int j s.toks))) { s with toks:=s.toks+1 }):=
 .of_wp λprog w A R s h=>by
  obtain⟨hp,g,d,tk,os⟩:=s;obtain⟨hl,he,h⟩:=h;unfold Builtin.«tuple.index»;simp only[Std.Legacy.Range.forIn_eq_forIn_range']
  wp_walk using wpAny_loadPart' hl,wpAny_forIn_list _ (λrest b s'=>b.1=none/\s'=⟨hp,g,d,tk,os⟩/\∃i,i<=j/\rest=(YfK 0 items.size 1).drop i) _
  case turn=>
   rintro y rest b s' ⟨hb,rfl,i,hij,hz⟩;have hlt:i<(YfK 0 items.size 1).length:=by simp;omega
   rw[Ybi hlt]at hz;injection hz with hy hrest
   have hy:y=i:=by simpa using hy
   subst hy;have hlt':y<items.size:=by omega
   have hi:items[y]?=some items[y]:=Array.getElem?_eq_getElem hlt';rw[hi];refine Yad (he _ (Array.getElem_mem hlt') prog w _ _ ?_);by_cases hyj:y=j
   ·subst hyj;rw[hit]
    wp_walk
    exact⟨_,rfl,h⟩
   ·rw[hno y hlt' (by omega)]
    wp_walk
    exact⟨rfl,rfl,y+1,by omega,hrest⟩
  case fin=>
   rintro⟨b1,b2⟩ s' ⟨hb,rfl,i,hij,hz⟩;have hlt:i<(YfK 0 items.size 1).length:=by simp;omega
   rw[Ybi hlt]at hz;cases hz
  case h=>
   refine⟨rfl,rfl,0,Ybw _,?_⟩;simp[Std.Legacy.Range.size]
theorem jcq {α:Type}(l:List α)(d:α){i:Nat}(h:i<l.length):l.getD i d=l[i]:=by simp[Yfg,YaI h]
theorem jay:∀{ys:List Str} {us:List Value} {j:Nat} (h:j<us.length),Vals (ys.map V.str) us->∃t,us[j]=Yep (ys.getD j "") t
 |y::r,_,0,_,.cons ⟨t,e⟩ _=>⟨t,e⟩
 |y::r,_,j+1,h,.cons _ q=>by
  obtain⟨t,e⟩:=jay (j:=j) (by simpa using h) q
  exact⟨t,by simpa using e⟩
 |[],_,j,h,.nil=>by simp at h
section
variable {X:Cx}
def jgV (K:Yaa)(T:Bool):V->List V->Hp->VK->Prop:=λx vs H Q=>∃(p:Addr) (ys:List Str) (n:Str),x=.ref p/\vs=[.str n]/\(if T then SqT K H p (ys.map V.str) else SqL K H p (ys.map V.str))/\n∈ys/\Q (.int (ys.idxOf n)) H
theorem jjI {ys:List Str}{n:Str}{m:Nat}(h:m<ys.idxOf n)(hm:m<ys.length):(ys[m]==n)=false:=by
 have:=List.not_of_lt_findIdx (p:=(·== n)) (xs:=ys) h;simpa using this
theorem jhn:MtR X "tuple.index" (jgV X.K true):=by
 intro pins s σ H x vs v us Q I rx rv h;obtain⟨p,ys,n,rfl,rfl,hq,hn,q⟩:=h;cases rx;obtain⟨u,rfl,t,rfl⟩:=Vals.one rv;obtain⟨its,r,pl,hz⟩:=I.tuple hq;have hl:=r.length;rw[Yah]at hl;obtain⟨⟨cls,dd,data,sl⟩,ho,hc,m,hd⟩:=id pl;simp only at hc hd;subst hc hd;have hj:ys.idxOf n<ys.length:=List.idxOf_lt_length_iff.mpr hn;have fs:(ys.map V.str).all L2.flatV=true:=by rw[Ydg];intro x hx;obtain⟨y,_,rfl⟩:=List.mem_map.mp hx;rfl
 refine YbC F.slot_tuple_index ⟨_,ho,rfl⟩ F.entry_tuple_index (F.args_tuple_index_2 _ _)
  (jdw p its.toArray m dd sl (.str n t) (eqU (.str n)) (ys.idxOf n) (by simpa using (by omega:ys.idxOf n<its.length)) ?_ ?_) ⟨ho,λy hy=>jaX (x:=.str n) ⟨t,rfl⟩ rfl r fs y (by simpa using hy),⟨.int _,H,I.tok _,⟨_,rfl⟩,q⟩⟩
 ·obtain⟨t',e⟩:=jay (j:=ys.idxOf n) (by omega) r
  simp only[YcH,e];show(ys.getD (ys.idxOf n) "" == n)=true;rw[jcq _ _ hj,YfZ hj];exact beq_self_eq_true _
 ·intro m' hm hlt;have hm':m'<ys.length:=by omega
  obtain⟨t',e⟩:=jay (j:=m') (by omega) r
  simp only[YcH,e];show(ys.getD m' "" == n)=false;rw[jcq _ _ hm'];exact jjI hlt hm'
theorem jho:MtR X "list.index" (jgV X.K false):=by
 intro pins s σ H x vs v us Q I rx rv h;obtain⟨p,ys,n,rfl,rfl,hq,hn,q⟩:=h;cases rx;obtain⟨u,rfl,t,rfl⟩:=Vals.one rv;obtain⟨its,r,pl,hz⟩:=I.list hq;have hl:=r.length;rw[Yah]at hl hz;obtain⟨⟨cls,dd,data,sl⟩,m,ho,hc,hdd,hd⟩:=id pl;simp only at hc hd hdd;subst hc hd hdd;have hj:ys.idxOf n<ys.length:=List.idxOf_lt_length_iff.mpr hn;have fs:(ys.map V.str).all L2.flatV=true:=by rw[Ydg];intro x hx;obtain⟨y,_,rfl⟩:=List.mem_map.mp hx;rfl
 have h63:=jcN;refine YbC F.slot_list_index ⟨_,ho,rfl⟩ F.entry_list_index (F.args_list_index_2 _ _)
  (SeqAt.list_indexAt p its.toArray m none sl (.str n t) (eqU (.str n)) (ys.idxOf n) (by simpa using (by omega:ys.idxOf n<its.length)) (by omega) ?_ ?_) ⟨ho,λy hy=>jaX (x:=.str n) ⟨t,rfl⟩ rfl r fs y (by simpa using hy),⟨.int _,H,I.tok _,⟨_,rfl⟩,q⟩⟩
 ·obtain⟨t',e⟩:=jay (j:=ys.idxOf n) (by omega) r
  simp only[YcH,e];show(ys.getD (ys.idxOf n) "" == n)=true;rw[jcq _ _ hj,YfZ hj];exact beq_self_eq_true _
 ·intro m' hm hlt;have hm':m'<ys.length:=by omega
  obtain⟨t',e⟩:=jay (j:=m') (by omega) r
  simp only[YcH,e];show(ys.getD m' "" == n)=false;rw[jcq _ _ hm'];exact jjI hlt hm'
end
section
variable {X:Cx}{N:List Str}{scope:Scope}{cl:List (Str×Addr)}{C:Addr}{s₀:Shared}{H₀:Hp}{fp:List Addr}
end
theorem jgv (ds:List PyData):YcE ds []=ds.isEmpty:=by
 cases ds<;>rfl
theorem jci:fillsNumberSlot (.type "tuple") "mul" = pure false:=
 PySem.fillsNumberSlot_seq (id := "tuple.__mul__") (r:=some (.builtin "tuple.__rmul__")) YeM.lookup (by decide +kernel) F.slot_tuple_rmul.lookup (by decide +kernel)
theorem jd1:seqRepeat? (.type "tuple")=pure (some (.builtin "tuple.__mul__")):=by
 unfold seqRepeat?;rw[Yf7 (T := "tuple") (name := "__mul__") (id := "tuple.__mul__") YeM.lookup (by decide +kernel),Yf7 (T := "tuple") (name := "__rmul__") (id := "tuple.__rmul__") F.slot_tuple_rmul.lookup (by decide +kernel)]
 rfl
theorem jc7 (a:Int)(t:Tok)(l:Addr)(items:Array Value)(n:Nat)(dd:Option Addr)(sl:Array (Option Value)) :
  Meets (Builtin.«int.__rmul__» ⟨[.int a t,.ref l],[]⟩) (λ_ R s=>s.heap.get? l=some { cls:=.type "tuple",dict:=dd,data:=.seq items n,slots:=sl }/\R (.ok (.ret Value.notImplemented)) s):=
 .of_wp λprog w A R s h=>by obtain⟨hp,g,d,tk,os⟩:=s;obtain⟨hl,h⟩:=h;wp_walk;exact⟨_,rfl,h⟩
theorem jgb (l:Addr)(items:Array Value)(n:Nat)(dd:Option Addr)(sl:Array (Option Value))(x:Int)(t:Tok)(hx:2<=x)(hx2:x<2 ^ 62)(h0:items.isEmpty=false)(hsz:items.size*x.toNat<=Yac) :
  Meets (Builtin.«tuple.__mul__» ⟨[.ref l,.int x t],[]⟩)
   (λA R s=>s.heap.get? l=some { cls:=.type "tuple",dict:=dd,data:=.seq items n,slots:=sl }/\R (.ok (.ret (.ref s.heap.objs.size))) { s with heap:=s.heap.push { cls:=.type "tuple",data:=.seq ((Yab x.toNat items).foldl (·++·) #[]) } }):=
 .of_wp λprog w A R s h=>by
  obtain⟨hp,g,d,tk,os⟩:=s;obtain⟨hl,h⟩:=h;have c1:(decide (x < -2 ^ 63)||decide (x ≥ 2 ^ 63))=false:=by simp;omega
  have c2:(items.isEmpty||x==1)=false:=by rw[h0];simp;omega
  have c3:(decide (x<=0)||items.isEmpty)=false:=by rw[h0];simp;omega
  have hz:(items.size:Int)*x=((items.size*x.toNat:Nat):Int):=by rw[Int.natCast_mul,YdT (by omega)]
  have h63:(Yac:Nat)<=(2 ^ 63-1)/8:=by decide
  wp_walk using wpAny_loadPart' hl
  simp only[c1,Ybp,if_false]
  wp_walk using wpAny_loadPart' hl
  simp only[c2,c3,Ybp,if_false];rw[if_neg (by rw[hz];omega)]
  have c4:YdK ((items.size:Int)*x)=false:=by
   rw[hz];unfold YdK;exact decide_eq_false (by omega)
  simp only[c4,Ybp,if_false];have hs:(Yd5 (λx1 x2=>x1++x2) #[] (Yab x.toNat items)).size<=Yac:=by
   rw[AutoListH.size_joined];simp only[Yai,YcP,YcW];rw[Yeh];exact hsz
  revert hs h;generalize Yd5 (λx1 x2=>x1++x2) #[] (Yab x.toNat items)=G;intro h hs
  wp_walk
  exact⟨_,rfl,h⟩
theorem jgd (l:Addr)(items:Array Value)(n:Nat)(dd:Option Addr)(sl:Array (Option Value))(t:Tok)(h0:items.isEmpty=false) :
  Meets (Builtin.«tuple.__mul__» ⟨[.ref l,.int 0 t],[]⟩)
   (λA R s=>s.heap.get? l=some { cls:=.type "tuple",dict:=dd,data:=.seq items n,slots:=sl }/\R (.ok (.ret (.ref s.heap.objs.size))) { s with heap:=s.heap.push { cls:=.type "tuple",data:=.seq #[] } }):=
 .of_wp λprog w A R s h=>by
  obtain⟨hp,g,d,tk,os⟩:=s;obtain⟨hl,h⟩:=h;have c2:(items.isEmpty||(0:Int)==1)=false:=by rw[h0];rfl
  wp_walk using wpAny_loadPart' hl
  exact⟨_,rfl,h⟩
theorem jgc (l:Addr)(items:Array Value)(n:Nat)(dd:Option Addr)(sl:Array (Option Value))(t:Tok) :
  Meets (Builtin.«tuple.__mul__» ⟨[.ref l,.int 1 t],[]⟩)
   (λA R s=>s.heap.get? l=some { cls:=.type "tuple",dict:=dd,data:=.seq items n,slots:=sl }/\R (.ok (.ret (.ref l))) s):=
 .of_wp λprog w A R s h=>by
  obtain⟨hp,g,d,tk,os⟩:=s;obtain⟨hl,h⟩:=h;have c1:(decide ((1:Int) < -2 ^ 63)||decide ((1:Int) ≥ 2 ^ 63))=false:=by decide
  have c2:(items.isEmpty||(1:Int)==1)=true:=by simp
  wp_walk using wpAny_loadPart' hl
  exact⟨_,rfl,h⟩
section
variable {X:Cx}
def joM (K:Yaa):R2:=λx y H Q=>∃l k xs,x=.ref l/\y=.int k/\SqT K H l xs/\xs≠[]/\0<=k/\k<2 ^ 62/\xs.length*k.toNat<=Yac/\(k=1->Q (.ref l) H)/\(k≠1->∀p,H p=none->Q (.ref p) (upd H p (.tup (Yab k.toNat xs).flatten)))
theorem jkQ:OpR X (Ybf .Mult) (joM X.K):=by
 intro pins s σ H x y v u Q I rx ry h;obtain⟨l,k,xs,rfl,rfl,hH,h0,h1,h2,hz,q1,q2⟩:=h;cases rx;obtain⟨t,rfl⟩:=ry;obtain⟨its,r,pl,_⟩:=I.tuple hH;have hl:=r.length;obtain⟨⟨cls,dd,data,sl⟩,e,hc,n,hd⟩:=id pl;simp only at hc hd;subst hc hd;have hne:its≠[]:=λz=>h0 (r.nil_iff.mp z);refine Yfl (T := "tuple") (U := "int") (by decide) ⟨_,e,rfl⟩ (λs'=>YeH s' k t) jci F.fills_int_mul YdG jd1 F.slot_int_index.lookup
  (YbC YdG (YeH s k t) F.entry_int_rmul (F.args_int_rmul_2 _ _) (jc7 k t l its.toArray n dd sl) ⟨e,rfl,⟨_,e,rfl⟩,?_⟩)
 by_cases hk:k=1
 ·subst hk;exact YbC YeM ⟨_,e,rfl⟩ Yex (Yed _ _) (jgc l its.toArray n dd sl t) ⟨e,⟨.ref l,H,I,rfl,q1 rfl⟩⟩
 ·by_cases hk0:k=0
  ·subst hk0;refine YbC YeM ⟨_,e,rfl⟩ Yex (Yed _ _) (jgd l its.toArray n dd sl t (by simpa using hne)) ⟨e,?_⟩
   refine⟨.ref s.heap.objs.size,_,I.laid (t':=s.toks) (o:=.tup []) (λb ob q=>Yae _ q) (Yaf _) ?_,rfl,q2 hk _ (I.hok.fresh (Yaf _))⟩;exact⟨Ybw _,[],.nil,TupD.new _ _⟩
  refine YbC YeM ⟨_,e,rfl⟩ Yex (Yed _ _) (jgb l its.toArray n dd sl k t (by omega) h2 (by simpa using hne) (by rw[Yai,<- hl];exact hz)) ⟨e,?_⟩
  have f0:=jcQ its k.toNat [];rw[YbW]at f0;rw[f0];refine⟨.ref s.heap.objs.size,_,I.laid (t':=s.toks) (o:=.tup (Yab k.toNat xs).flatten) (λb ob q=>Yae _ q) (Yaf _) ?_,rfl,q2 hk _ (I.hok.fresh (Yaf _))⟩;exact⟨by rw[je2,Yeh];exact hz,_,r.rep k.toNat,TupD.new _ _⟩
noncomputable def repS (x:Str)(k:Nat):Str:=⟨(Yab k x.cps.toList).flatten.toArray⟩
def joN:R2:=λx y H Q=>∃z k,x=.str z/\y=.int k/\0<=k/\k<1000/\z.length<=1000/\Q (.str (repS z k.toNat)) H
theorem jfS (x:Array Nat):∀(k:Nat) (a:List Nat),((Yab k x).foldl (·++·) a.toArray)=(a++(Yab k x.toList).flatten).toArray
 |0,a=>by simp
 |k+1,a=>by
  rw[YaH,Ydr,show a.toArray++x=(a++x.toList).toArray by simp,jfS x k]
  simp[YaH]
theorem jkR:OpR X (Ybf .Mult) joN:=by
 intro pins s σ H x y v u Q I rx ry h;obtain⟨z,k,rfl,rfl,h0,h1,hz,q⟩:=h;obtain⟨t,rfl⟩:=rx;obtain⟨t',rfl⟩:=ry;have hl:z.length*k.toNat<=1000000:=Yak (Nat.mul_le_mul hz (show k.toNat<=1000 by omega)) (by decide)
 refine P.mul_str (by simp;omega) (λh2 _=>?_) (λh2 _=>?_) ?_
 ·have:((2:Int) ^ 63-1)/k ≥ 1000:=by
   refine(Int.le_ediv_iff_mul_le (by omega)).mpr ?_
   omega
  omega
 ·exact decide_eq_false (by
   have:(1000000:Nat)<=Yac:=by decide
   omega)
 ·split
  ·have e:repS z k.toNat=Yfo:=by rw[show k.toNat=0 by omega];rfl
   rw[e]at q;exact⟨by decide,.str _,H,I.tok _,⟨_,rfl⟩,q⟩
  ·split
   ·rename_i h2 h3;have e:repS z k.toNat=z:=by
     rw[YbY,beq_iff_eq,beq_iff_eq]at h3;unfold repS;rcases h3 with h3|h3
     ·subst h3;simp
     ·have:z.cps.toList=[]:=by
       have:z.cps.size=0:=h3;simpa using this
      obtain⟨c⟩:=z;simp only at this ⊢;have hc:c=#[]:=by simpa using this
      subst hc;simp
    rw[e]at q;exact⟨.str _,H,I,⟨_,rfl⟩,q⟩
   ·have e:(Yab k.toNat z.cps).foldl (·++·) #[]=(Yab k.toNat z.cps.toList).flatten.toArray:=by
     have:=jfS z.cps k.toNat [];simpa using this
    refine⟨?_,.str _,H,I.tok _,⟨_,rfl⟩,?_⟩
    ·rw[e];show(Yab k.toNat z.cps.toList).flatten.toArray.size<=Yac;rw[Yai,je2,Yeh];exact Yak hl (by decide)
    ·rw[e];exact q
theorem jc9:∀{bs:List Bool} {us:List Value} {i:Nat} {v:Value},Vals (bs.map V.bl) us->us[i]?=some v->∃b,bs[i]?=some b/\v=.bool b
 |b::r,_,0,v,.cons e q,h=>by
  cases e;exact⟨b,rfl,(Yan h).symm⟩
 |b::r,_,i+1,v,.cons e q,h=>jc9 (bs:=r) (i:=i) q (by simpa using h)
 |[],_,i,v,.nil,h=>by simp at h
theorem jgA {pins:List (Addr×Obj)}{s:Shared}{σ:St}{H:Hp}{p:Addr}{bs:List Bool}(hc:X.calm=true)(I:Inv X pins σ H s)(hq:SqL X.K H p (bs.map V.bl))(d:Bool) :
  ∃its fp wr P S,s.heap.IsList p its/\Walks X.prog X.w X.A.in1 s.heap.objs.size fp wr bs.length P S/\S 0 (s.heap.push ⟨.type "list_iterator",none,.fields #[.ref p,.int 0 0],#[]⟩)/\TruthOf X.prog X.w X.A.in1 P (λi=>(bs[i]?).getD d)/\
   ∀h':Heap,(∀b o,b∉wr->(s.heap.push ⟨.type "list_iterator",none,.fields #[.ref p,.int 0 0],#[]⟩).get? b=some o->h'.get? b=some o)->∀b o,s.heap.get? b=some o->h'.get? b=some o:=by
 obtain⟨its,r',pl,-⟩:=I.list hq;have n:its.toArray.size=bs.length:=by simpa using r'.length.symm
 obtain⟨o,ho,-⟩:=id pl.isList;have W:=Walks.list (prog:=X.prog) (w:=X.w) (A:=X.A.in1) (I.ok.hd hc) s.heap.objs.size p (YaF (Yal ho)) its.toArray;rw[n]at W;refine⟨its.toArray,_,_,_,_,pl.isList,W,⟨⟨_,Yas _ rfl,rfl,rfl⟩,pl.isList.push _⟩,λi v t Q E hP hQ=>?_,λh' hk b o e=>hk b o (λm=>?_) (Yae _ e)⟩
 ·obtain⟨b,e,rfl⟩:=jc9 (i:=i) (v:=v) r' (by simpa using hP)
  exact Yba (by simpa only[e,Option.getD]using hQ)
 ·exact absurd (Yal e) (by rw[List.mem_singleton.mp m];exact Ya6 _)
end
end L2

namespace L2
open PySem PySem.Spec PyProof.Rows
open Sem (wp)
open AutoSeq1 (wpAny_loadPart')
section
variable {prog:Program}{w:World}{A:Around}{E:Value->Shared->Prop}{s:Shared}
end
section
variable {X:Cx}{pins:List (Addr×Obj)}{σ:St}{H:Hp}{s:Shared}{h':Heap}
end
section
variable {X:Cx}
end
end L2

namespace L2
open PySem PySem.Spec PyProof.Rows
section
variable {X:Cx}
theorem jfe:jaG X (.builtin "isinstance") (λxs H Q=>∃(x:V) (c:String) (t:Value) (b:Bool),xs=[x,.ty c]/\TyOf X.K H x t/\Ydp X.K t (.type c)=some b/\Q (.bl b) H):=by
 intro pins s σ H xs us Q I r h;obtain⟨x,c,t,b,rfl,ty,e,q⟩:=h;obtain⟨u,v,rfl,ru,rv⟩:=Vals.two r;cases rv;exact jhz I ru ty e λtk=>⟨.bl b,H,I.tok tk,rfl,q⟩
end
section
variable {prog:Program}{w:World}{A:Around}{R:Result->Shared->Prop}{I:Addr}{fp wr:List Addr}{n:Nat}{P:Nat->Value->Prop}{St:Nat->Heap->Prop}
end
section
variable {prog:Program}{w:World}{A:Around}{E:Value->Shared->Prop}{s:Shared}
end

noncomputable def jnE (ks:List (List Int)):Nat:=argBest (λi j=>HT.lexLt (ks.getD i []) (ks.getD j [])) (ks.length-1)
section
variable {X:Cx}
theorem jfp {vs:List V}{us:List Value}(r:Vals vs us){i:Nat}{u:Value}(h:us[i]?=some u):∃v,vs[i]?=some v/\RelV v u:=by
 induction r generalizing i with
 |nil=>cases h
 |cons a r ih=>
  cases i with
  |zero=>exact⟨_,rfl,by cases h;exact a⟩
  |succ i=>exact ih h
end
end L2

namespace L2
open PySem PySem.Spec PyProof.Rows PySem.W
section
variable {n:Nat}{lt:Nat->Nat->Bool}{cmp:Nat->Nat->(Bool->Shared->Prop)->Shared->Prop}{s:Shared}
structure Asks (n:Nat)(lt:Nat->Nat->Bool)(cmp:Nat->Nat->(Bool->Shared->Prop)->Shared->Prop)(s:Shared):Prop where
 ask:∀i j C,i<n->j<n->C (lt i j) s->cmp i j C s
 tr:∀i j k,i<n->j<n->k<n->lt i j=true->lt j k=true->lt i k=true
 tot:∀i j,i<n->j<n->i≠j->lt i j=true\/lt j i=true
 ir:∀i,i<n->lt i i=false
noncomputable def gD (p:Array Nat)(k:Nat):Nat:=p.getD k 0
structure Arr (n:Nat)(p:Array Nat):Prop where
 z:p.size=n
 b:∀i,i<n->gD p i<n
 inj:∀i j,i<n->j<n->gD p i=gD p j->i=j
 pm:p.toList.Perm (YaQ n)
def Asc (lt:Nat->Nat->Bool)(p:Array Nat)(m:Nat):Prop:=∀i,i+1<m->lt (gD p i) (gD p (i+1))=true
end
end L2

namespace L2
open PySem PySem.Spec PyProof.Rows PySem.W
open PySem.AutoSeq1 (wpAny_loadPart')
open PySem.MeetsSeq PySem.MeetsSeq2 PySem.MeetsSeq3
end L2

namespace L2
open PySem PySem.Spec PyProof.Rows PySem.W

section
variable {prog:Program}{w:World}{A:Around}{E:Value->Shared->Prop}{s:Shared}{κ:Yer}{S:Keyed->Prop}{ρ:Keyed->Int}
end
section
variable {ρ:Keyed->Int}
def Srt (ρ:Keyed->Int)(l:List Keyed):Prop:=l.Pairwise λx y=>ρ x<=ρ y
structure Mg (ρ:Keyed->Int)(a b out xs ys:List Keyed):Prop where
 sx:Srt ρ (out++xs)
 sy:Srt ρ (out++ys)
 pm:(out++xs++ys).Perm (a++b)
variable {a b out xs ys x1 y1:List Keyed}
end
section
variable {α:Type}{a:Array α}{i k:Nat}{x:α}
end
section
abbrev T2:=Option (Array Keyed)×Array Keyed×Nat×Nat×Nat×Nat×Nat
abbrev T1:=Option (Array Keyed)×Array Keyed×Nat×Nat×Nat×Nat
end
structure Fr (st st':SortSt):Prop where
 k:kindOf st'=kindOf st
 a:arrOf st'=arrOf st
 p:pendingOf st'=pendingOf st
 f:failedOf st'=failedOf st
def Fin2 (ρ:Keyed->Int)(a b zs:Array Keyed):Prop:=Srt ρ zs.toList/\zs.toList.Perm (a.toList++b.toList)
structure Two2 (S:Keyed->Prop)(ρ:Keyed->Int)(a b:Array Keyed):Prop where
 sa:∀(i:Nat) (x:Keyed),a[i]?=some x->S x
 sb:∀(i:Nat) (x:Keyed),b[i]?=some x->S x
 oa:Srt ρ a.toList
 ob:Srt ρ b.toList
 last:∀x,a[a.size-1]?=some x->∀y∈b.toList,ρ y<=ρ x
 first:∀y,b[0]?=some y->∀x∈a.toList,ρ y<=ρ x
 na:0<a.size
 nb:0<b.size
structure Lo (ρ:Keyed->Int)(a b out:Array Keyed)(ia ib:Nat):Prop where
 m:Mg ρ a.toList b.toList out.toList (a.toList.drop ia) (b.toList.drop ib)
 ia:ia+1<a.size
 ib:ib<b.size
section
variable {S:Keyed->Prop}{ρ:Keyed->Int}{a b out:Array Keyed}{ia ib k:Nat}{x y:Keyed}
end
section
variable {prog:Program}{w:World}{A:Around}{E:Value->Shared->Prop}{s:Shared}{κ:Yer}{S:Keyed->Prop}{ρ:Keyed->Int}{a b out:Array Keyed}{ia ib g ac bc m:Nat}{st0 st:SortSt}{Q:ForInStep T2->SortSt->Prop}
structure Out2 (ρ:Keyed->Int)(a b:Array Keyed)(st0:SortSt)(m:Nat)(Q:ForInStep T2->SortSt->Prop):Prop where
 fin:∀zs d st',Fr st0 st'->Fin2 ρ a b zs->Q (.done (some zs,d)) st'
 go:∀out ia ib g ac bc st',Fr st0 st'->Lo ρ a b out ia ib->m<=ia+ib->Q (.done (none,out,ia,ib,g,ac,bc)) st'/\Q (.yield (none,out,ia,ib,g,ac,bc)) st'
end
section
abbrev H2:=Option (Array Keyed)×Nat×Nat×Array Keyed×Nat×Nat×Nat
abbrev H1:=Option (Array Keyed)×Nat×Nat×Array Keyed×Nat×Nat
abbrev H0:=Option (Array Keyed)×Nat×Nat×Array Keyed×Nat
end
structure Mh (ρ:Keyed->Int)(a b xs ys o:List Keyed):Prop where
 sx:Srt ρ (xs++o)
 sy:Srt ρ (ys++o)
 pm:(xs++ys++o).Perm (a++b)
section
variable {ρ:Keyed->Int}{a b o xs ys x1 y1:List Keyed}
end
section
variable {α:Type}{a:Array α}{i k:Nat}{x:α}
end
structure Hi (ρ:Keyed->Int)(a b out:Array Keyed)(na nb:Nat):Prop where
 m:Mh ρ a.toList b.toList (a.toList.take na) (b.toList.take nb) out.toList.reverse
 a0:0<na
 b1:1<nb
 la:na<=a.size
 lb:nb<=b.size
section
variable {S:Keyed->Prop}{ρ:Keyed->Int}{a b out:Array Keyed}{na nb k:Nat}{x y:Keyed}
end
section
variable {prog:Program}{w:World}{A:Around}{E:Value->Shared->Prop}{s:Shared}{κ:Yer}{S:Keyed->Prop}{ρ:Keyed->Int}{a b out:Array Keyed}{na nb g ac bc m:Nat}{st0 st:SortSt}{Q:ForInStep H2->SortSt->Prop}
structure Oh2 (ρ:Keyed->Int)(a b:Array Keyed)(st0:SortSt)(m:Nat)(Q:ForInStep H2->SortSt->Prop):Prop where
 fin:∀zs d st',Fr st0 st'->Fin2 ρ a b zs->Q (.done (some zs,d)) st'
 go:∀na nb out g ac bc st',Fr st0 st'->Hi ρ a b out na nb->na+nb<=m->Q (.done (none,na,nb,out,g,ac,bc)) st'/\Q (.yield (none,na,nb,out,g,ac,bc)) st'
end
section
variable {α:Type}
end
section
variable {prog:Program}{w:World}{A:Around}{E:Value->Shared->Prop}{s:Shared}{κ:Yer}{S:Keyed->Prop}{ρ:Keyed->Int}
structure Base2 (κ:Yer)(S:Keyed->Prop)(st:SortSt):Prop where
 k:kindOf st=κ
 f:failedOf st=none
 S:∀x∈(arrOf st).toList,S x
end
noncomputable def kk (ρ:Keyed->Int)(xs:Array Keyed)(i:Nat):Int:=match xs[i]? with
 |some x=>ρ x
 |none=>0
def Up2 (ρ:Keyed->Int)(xs:Array Keyed)(l h:Nat):Prop:=∀i j,l<=i->i<=j->j<h->kk ρ xs i<=kk ρ xs j
structure Ch (l:Nat)(st st':SortSt):Prop where
 e:st'=setArr st (arrOf st')
 pm:(arrOf st').Perm (arrOf st)
 pre:∀i,i<l->(arrOf st')[i]?=(arrOf st)[i]?
section
end
section
variable {prog:Program}{w:World}{A:Around}{E:Value->Shared->Prop}{s:Shared}{κ:Yer}{S:Keyed->Prop}{ρ:Keyed->Int}{l n h:Nat}{st:SortSt}
end
noncomputable def starts:Nat->List (List Keyed)->List (Nat×Nat)
 |_,[]=>[]
 |b,r::rs=>(b,r.length)::starts (b+r.length) rs
noncomputable abbrev prd (p:Nat×Nat×Nat):Nat×Nat:=(p.1,p.2.1)
structure Rws (ρ:Keyed->Int)(st:SortSt)(rs:List (List Keyed))(rest:List Keyed):Prop where
 ar:(arrOf st).toList=rs.flatten++rest
 pd:(pendingOf st).toList.map prd=starts 0 rs
 ok:∀r∈rs,r≠[]/\Srt ρ r
section
variable {prog:Program}{w:World}{A:Around}{E:Value->Shared->Prop}{s:Shared}{κ:Yer}{S:Keyed->Prop}{ρ:Keyed->Int}{st:SortSt}{rs:List (List Keyed)}{rest:List Keyed}
end
section
variable {prog:Program}{w:World}{A:Around}{s:Shared}
open Classical in
end
section
variable {prog:Program}{w:World}{A:Around}{E:Value->Shared->Prop}{s:Shared}
end

section
variable {X:Cx}
def rInD (X:Cx)(neg:Bool):R2:=λx y H Q=>∃(p:Addr) (vs:List V) (d:PyData) (ds:List PyData),y=.ref p/\SqL X.K H p vs/\DV X.K H x d/\DVs X.K H vs ds/\d.canLay0=true/\d.depth<=100/\(∀e∈ds,e.canLay0=true)/\Q (.bl (if neg then !(ds.any λe=>YaJ e d) else ds.any λe=>YaJ e d)) H
open Classical in
noncomputable def eD (h:Heap)(d:PyData)(w:Value):Bool:=decide (∃e as,e.canLay0=true/\Reads h w e as/\YaJ e d=true)
open Classical in
theorem jns {h:Heap}{d e:PyData}{w:Value}{as:List Addr}(r:Reads h w e as)(c:e.canLay0=true):eD h d w=YaJ e d:=by
 unfold eD;cases q:YaJ e d with
 |true=>exact decide_eq_true ⟨e,as,c,r,q⟩
 |false=>
  refine decide_eq_false λ⟨e',as',c',r',q'⟩=>?_;rw[SeqAt.Reads.unique e' e w as' as c' r' r,q]at q';cases q'
theorem jhD {h:Heap}{d:PyData}:∀{us:List Value} {ds:List PyData} {as:List Addr},ReadsAll h us ds as->(∀e∈ds,e.canLay0=true)->us.any (eD h d)=(ds.any λe=>YaJ e d)/\∀w∈us,∃e as,e.canLay0=true/\Reads h w e as
 |_,_,_,.nil,_=>⟨rfl,λw hw=>by simp at hw⟩
 |_,_,_,.cons r rs,c=>by
  obtain⟨h1,h2⟩:=jhD (d:=d) rs λe he=>c e (Yag _ he);refine⟨by rw[Ybj,Ybj,h1,jns r (c _ Yao)],λw hw=>?_⟩
  rcases YaL.mp hw with rfl|hw
  ·exact⟨_,_,c _ Yao,r⟩
  ·exact h2 w hw
theorem jjH {pins:List (Addr×Obj)}{σ:St}{H:Hp}{s:Shared}{A:Around}{x:V}{u:Value}{d:PyData}{vs:List V}{ds:List PyData}{its:List Value}(hu:A.units+100<cLine)(I:Inv X pins σ H s)(rx:RelV x u)(hd:DV X.K H x d)(c:d.canLay0=true)(hp:d.depth<=100)(r:Vals vs its)(hv:DVs X.K H vs ds)(cs:∀e∈ds,e.canLay0=true) :
  (∀w,w∈its->YeQ A s w u (eD s.heap d w))/\its.any (eD s.heap d)=ds.any λe=>YaJ e d:=by
 obtain⟨as,ra⟩:=DVs.reads I hv r;obtain⟨bs,rb⟩:=DV.reads I hd rx;obtain⟨h1,h2⟩:=jhD (d:=d) ra cs;refine⟨λw hw=>?_,h1⟩;obtain⟨e,as',ce,re⟩:=h2 w hw;rw[jns re ce];exact SeqAt.eqAt_reads _ _ A s _ _ _ _ re rb ce c (Ya3 (YcS (Yak (Nat.min_le_right _ _) hp) _) hu)
theorem jmQ {k:Nat}(hr:Room k X.A):OpR X (YaM .In) (rInD X false):=by
 intro pins s σ H x y v u Q I rx ry h;obtain⟨p,vs,d,ds,rfl,hq,hd,hv,c,hp,cs,q⟩:=h;cases ry;obtain⟨its,r,pl,hz⟩:=I.list hq;obtain⟨h1,h2⟩:=jjH (A:=X.A.in1) (by have:=hr.un;rw[Yf4];omega) I rx hd c hp r hv cs
 refine Ygm (eD s.heap d) pl.isList (λw hw=>h1 w (by simpa using hw)) ⟨.bl _,H,I,rfl,?_⟩
 rw[show its.toArray.any (eD s.heap d)=its.any (eD s.heap d) by simp,h2]
 exact q
theorem jg6 {k:Nat}(hr:Room k X.A):OpR X (YaM .NotIn) (rInD X true):=by
 intro pins s σ H x y v u Q I rx ry h;obtain⟨p,vs,d,ds,rfl,hq,hd,hv,c,hp,cs,q⟩:=h;cases ry;obtain⟨its,r,pl,hz⟩:=I.list hq;obtain⟨h1,h2⟩:=jjH (A:=X.A.in1) (by have:=hr.un;rw[Yf4];omega) I rx hd c hp r hv cs
 refine YfD (eD s.heap d) pl.isList (λw hw=>h1 w (by simpa using hw)) ⟨.bl _,H,I,rfl,?_⟩
 rw[show its.toArray.any (eD s.heap d)=its.any (eD s.heap d) by simp,h2]
 exact q
end
section
variable {X:Cx}
theorem jjM (bt:Nat->Nat->Bool):∀k,argBest bt k<=k
 |0=>Yaf _
 |k+1=>by
  have:=jjM bt k;show(if bt (k+1) (argBest bt k) then k+1 else argBest bt k)<=k+1
  split<;>omega
theorem je8 (val:Nat->Int):∀k j,j<=k->val j<=val (argBest (λi j=>decide (val j<val i)) k)
 |0,j,h=>by rw[show j=0 by omega];exact Int.le_refl _
 |k+1,j,h=>by
  show val j<=val (if decide (val (argBest (λi j=>decide (val j<val i)) k)<val (k+1))=true then k+1 else argBest (λi j=>decide (val j<val i)) k)
  by_cases c:val (argBest (λi j=>decide (val j<val i)) k)<val (k+1)
  ·rw[if_pos (by simpa using c)]
   by_cases e:j=k+1
   ·rw[e];exact Int.le_refl _
   ·have:=je8 val k j (by omega);omega
  ·rw[if_neg (by simpa using c)]
   by_cases e:j=k+1
   ·rw[e];omega
   ·exact je8 val k j (by omega)
theorem jh6 (hc:X.calm=true):jaG X (.builtin "max") (λxs H Q=>∃(p:Addr) (ns:List Int),xs=[.ref p]/\(SqL X.K H p (ns.map V.int)\/SqT X.K H p (ns.map V.int))/\ns≠[]/\∀z∈ns,(∀y∈ns,y<=z)->Q (.int z) H):=by
 intro pins s σ H xs us Q I r h;obtain⟨p,ns,rfl,hq,hn,q⟩:=h;obtain⟨u,rfl,rx⟩:=jcf r;cases rx;have hn0:0<ns.length:=List.length_pos_iff.mpr hn;have fin:∀{its:List Value} {h':Heap} {tk:Nat},Vals (ns.map V.int) its->∀v,its[argBest (λi j=>decide (ns.getD j 0<ns.getD i 0)) (its.toArray.size-1)]?=some v->(∀b o,s.heap.get? b=some o->h'.get? b=some o)->EP X pins σ Q v { s with heap:=h',toks:=tk }:=λ{its h' tk} r v hv k=>by
  have il:=r.length;rw[Yah]at il;obtain⟨x,ex,rx⟩:=jfp r hv;rw[Yai,<- il]at ex;have hb:=jjM (λi j=>decide (ns.getD j 0<ns.getD i 0)) (ns.length-1);obtain⟨m,hm⟩:∃m,m=argBest (λi j=>decide (ns.getD j 0<ns.getD i 0)) (ns.length-1):=⟨_,rfl⟩;rw[<- hm]at ex hb;have hml:m<ns.length:=by omega
  rw[Yat,YaI hml]at ex;have ex:=Yan ex;subst ex;refine⟨_,H,I.kept k,rx,q _ (Ycg hml) λy hy=>?_⟩;obtain⟨j,hj,rfl⟩:=List.getElem_of_mem hy;have:=je8 (λi=>ns.getD i 0) (ns.length-1) j (by omega)
  rw[<- hm]at this;simpa[Yfg,hj,hml]using this
 have val:∀{its:List Value},Vals (ns.map V.int) its->∀i v,its[i]?=some v->∃t,v=Yeq (ns.getD i 0) t:=λ{its} r i v e=>by
  obtain⟨x,ex,rx⟩:=jfp r e;rw[Yat]at ex;cases en:ns[i]? with
  |none=>rw[en]at ex;cases ex
  |some n=>
   rw[en]at ex;cases ex;obtain⟨t,rfl⟩:=rx;exact⟨t,by rw[YaS,en];rfl⟩
 have kp:∀{h':Heap} {o0:Obj},(∀b o,b∉[s.heap.objs.size]->(s.heap.push o0).get? b=some o->h'.get? b=some o)->∀b o,s.heap.get? b=some o->h'.get? b=some o:=λhk b x e=>hk b x (λhm=>by rw[List.mem_singleton.mp hm]at e;exact Ya6 _ (Yal e)) (Yae _ e)
 have bd:∀{o0:Obj},p<s.heap.objs.size->∀b∈[s.heap.objs.size,p],b<(s.heap.push o0).objs.size:=λ{o0} hlt b hb=>by
  rw[YdF];rcases YaL.mp hb with rfl|hb
  ·exact Nat.lt_succ_self _
  ·rw[List.mem_singleton.mp hb];exact Nat.lt_succ_of_lt hlt
 rcases hq with hq|hq
 ·obtain⟨its,r,pl,hz⟩:=I.list hq;have il:=r.length;rw[Yah]at il;have hL:=pl.isList;have hlt:p<s.heap.objs.size:=by obtain⟨_,e,_⟩:=hL;exact Yal e
  refine call_max_walk (Ydl hL ?_);exact⟨s.heap.objs.size,[s.heap.objs.size,p],[s.heap.objs.size],its.toArray.size,_,_,_,rfl,Walks.list (A:=X.A.in1) (I.ok.hd hc) _ p (YaF hlt) its.toArray,⟨⟨_,Yas _ rfl,rfl,rfl⟩,hL.push _⟩,bd hlt,by rw[Yai];omega,
   CmpOf.ints_gt (λi=>ns.getD i 0) (λi v e=>val r i v (by simpa using e)),λv h' tk hv hk=>fin r v (by simpa using hv) (kp hk)⟩
 ·obtain⟨its,r,pl,hz⟩:=I.tuple hq;have il:=r.length;rw[Yah]at il;have hlt:p<s.heap.objs.size:=by obtain⟨_,e,_⟩:=pl;exact Yal e
  refine call_max_walk (wpAny_pyIter_tuple pl ?_);exact⟨s.heap.objs.size,[s.heap.objs.size,p],[s.heap.objs.size],its.toArray.size,_,_,_,rfl,Walks.tuple (A:=X.A.in1) (I.ok.hd hc) _ p (YaF hlt) its.toArray,⟨⟨_,Yas _ rfl,rfl,rfl⟩,pl.push _⟩,bd hlt,by rw[Yai];omega,
   CmpOf.ints_gt (λi=>ns.getD i 0) (λi v e=>val r i v (by simpa using e)),λv h' tk hv hk=>fin r v (by simpa using hv) (kp hk)⟩
end
end L2

namespace L2
open PySem PySem.Spec PyProof.Rows
section
variable {prog:Program}{w:World}{A:Around}{R:Result->Shared->Prop}{I:Addr}{fp wr:List Addr}{n:Nat}{P:Nat->Value->Prop}{St:Nat->Heap->Prop}
end
section
variable {prog:Program}{w:World}{A:Around}{E:Value->Shared->Prop}{s:Shared}
end

section
variable {X:Cx}
end
end L2

namespace L2
open PySem PySem.Spec PyProof.Rows PySem.SeqAt PySem.MeetsSeq
theorem jbs (l:Addr)(es:Array Ycx)(n:Nat)(dd:Option Addr)(sl:Array (Option Value))(b:Str)(u:Tok) :
  Meets (Builtin.«dict.__eq__» ⟨[.ref l,.str b u],[]⟩) (λ_ R s=>s.heap.get? l=some { cls:=.type "dict",dict:=dd,data:=.dict es n,slots:=sl }/\R (.ok (.ret .notImplemented)) s):=
 .of_wp λprog w A R s h=>by obtain⟨hp,g,d,tk,os⟩:=s;obtain⟨hl,h⟩:=h;have f1:=F.sub_str_dict;wp_walk using wpAny_loadPart' hl;exact⟨_,rfl,h⟩
theorem jbr (b:Str)(u:Tok)(l:Addr)(es:Array Ycx)(n:Nat)(dd:Option Addr)(sl:Array (Option Value)) :
  Meets (Builtin.«str.__eq__» ⟨[.str b u,.ref l],[]⟩) (λ_ R s=>s.heap.get? l=some { cls:=.type "dict",dict:=dd,data:=.dict es n,slots:=sl }/\R (.ok (.ret .notImplemented)) s):=
 .of_wp λprog w A R s h=>by obtain⟨hp,g,d,tk,os⟩:=s;obtain⟨hl,h⟩:=h;wp_walk using wpAny_loadPart' hl,wpAny_load hl;exact⟨_,rfl,h⟩
section
variable {X:Cx}
theorem jeR {A:Around}{s:Shared}{l:Addr}{o:Obj}{es:Array Ycx}{n:Nat}(b:Str)(u:Tok)(ho:s.heap.get? l=some o)(hc:o.cls=.type "dict")(hd:o.data=.dict es n)(hu:A.units<cLine):RcAt A s (.ref l) (.str b u) false:=λprog w E Q h=>by
 obtain⟨cls,dd,data,sl⟩:=o;simp only at hc hd;subst hc hd;exact rc_eq_decline_or (k:=false) ⟨_,ho,rfl⟩ (Ycc s b u) (by decide) F.sub_str_dict F.slot_dict_eq F.slot_str_eq_refl
  (λ_ hq=>YbC F.slot_dict_eq ⟨_,ho,rfl⟩ F.entry_dict_eq (F.args_dict_eq_2 _ _) (jbs l es n dd sl b u) ⟨ho,hq⟩)
  (λ_ hq=>YbC F.slot_str_eq_refl (Ycc s b u) F.entry_str_eq (F.args_str_eq_2 _ _) (jbr b u l es n dd sl) ⟨ho,hq⟩)
  (λ_ hq=>wpAny_of_eq (rfl:isSame (.ref l) (.str b u)=pure false) hq) (.inr hu) h
def jiz:R2:=λx y H Q=>∃a z kvs,x=.ref a/\y=.str z/\H a=some (.dK kvs)/\Q (.bl false) H
theorem jdE {k:Nat}(hr:Room k X.A):OpR X (YaM .Eq) jiz:=by
 intro pins s σ H x y v u Q I rx ry h;obtain⟨a,z,kvs,rfl,rfl,ha,q⟩:=h;cases rx;obtain⟨t,rfl⟩:=ry;obtain⟨_,_,vs,_,o,es,ep,ho,hx,hd,_⟩:kvs.length<=Yac/\(a==Ya7)=false/\∃vs,KV kvs vs/\s.heap.DictOf (jap X.prog X.w) a vs:=I.hok a _ ha;exact jeR z t ho hx.1 hd (by have:=hr.un;omega) X.prog X.w X.xe _ ⟨.bl false,H,I,rfl,q⟩
end
def rSlS:V->Option Int->Option Int->Hp->VK->Prop:=λx lo hi H Q=>∃z,x=.str z/\z.length<=Yac/\Q (.str (Ydv z lo hi)) H
section
variable {X:Cx}
theorem jl2:SlR X rSlS:=by
 intro pins s σ H x v vl vu lo hi sl Q I rx hs pl pu h;obtain⟨z,rfl,hz,q⟩:=h;obtain⟨t,rfl⟩:=rx;refine⟨"str",_,F.slot_str_getitem.lookup,Ycc _ _ _,?_⟩;obtain⟨o,ho,hc,hd⟩:=hs;have fin:∀t' k,EP X pins σ Q (.str (Ydv z lo hi) t') { s with toks:=k }:=λt' k=>⟨.str _,H,I.tok _,⟨_,rfl⟩,q⟩
 cases pl with
 |none=>
  cases pu with
  |none=>exact Ycv (l:=none) (u:=none) (st:=none) ⟨o,ho,hc,hd⟩ rfl (YdO ⟨Yak (Ydu z _ _) hz,fin⟩)
  |int j uj=>exact Ycv (l:=none) (u:=some (j,uj)) (st:=none) ⟨o,ho,hc,hd⟩ rfl (YdO ⟨Yak (Ydu z _ _) hz,fin⟩)
 |int i ui=>
  cases pu with
  |none=>exact Ycv (l:=some (i,ui)) (u:=none) (st:=none) ⟨o,ho,hc,hd⟩ rfl (YdO ⟨Yak (Ydu z _ _) hz,fin⟩)
  |int j uj=>exact Ycv (l:=some (i,ui)) (u:=some (j,uj)) (st:=none) ⟨o,ho,hc,hd⟩ rfl (YdO ⟨Yak (Ydu z _ _) hz,fin⟩)
theorem jkV:OpR X (Ybf .Add) (λx y H Q=>∃b j,x=.bl b/\y=.int j/\Q (.int ((if b=true then (1:Int) else 0)+j)) H):=by
 intro pins s σ H x y v u Q I rx ry h;obtain⟨b,j,rfl,rfl,q⟩:=h;cases rx;obtain⟨t,rfl⟩:=ry;exact PySem.IntBool.add_bool_int ⟨.int _,H,I.tok _,⟨_,rfl⟩,q⟩
theorem jkP:OpR X (Ybf .Sub) (λx y H Q=>(∃b j,x=.bl b/\y=.int j/\Q (.int ((if b=true then (1:Int) else 0)-j)) H)\/∃i b,x=.int i/\y=.bl b/\Q (.int (i-if b=true then (1:Int) else 0)) H):=by
 intro pins s σ H x y v u Q I rx ry h;rcases h with⟨b,j,rfl,rfl,q⟩|⟨i,b,rfl,rfl,q⟩
 ·cases rx;obtain⟨t,rfl⟩:=ry;exact PySem.IntBool.sub_bool_int ⟨.int _,H,I.tok _,⟨_,rfl⟩,q⟩
 ·cases ry;obtain⟨t,rfl⟩:=rx;exact PySem.IntBool.sub_int_bool ⟨.int _,H,I.tok _,⟨_,rfl⟩,q⟩
theorem jeN {prog:Program}{w:World}{A:Around}{E:Value->Shared->Prop}{s:Shared}{b:Bool}{Q:Value->Shared->Prop}(h:Q (.str (if b then "True" else "False") s.toks) { s with toks:=s.toks+1 }):wpAny (model prog w) A (call (.type "str") [.bool b]) Q E s:=
 callType_new F.called_str (by decide) (F.typeCall_str_1 _) (F.newCall_str_1 _) (λobj=>F.args_object_init_2 obj _) F.entry_str_new
  (meets_str_new (S:=λ_ R s=>R (.ok (.ret (.str (if b then "True" else "False") s.toks))) { s with toks:=s.toks+1 }) λ_ _ _ _ s hq=>
   wpAny_strOf_gives rfl (PySem.typeIs_bool s b) F.slot_bool_str F.slot_bool_repr F.entry_bool_repr (F.args_bool_repr_1 _) (gives_bool_repr b) hq (hsz:=by cases b<;>decide)) ⟨Ycc _ _ _,h⟩
theorem jh3:jaG X (.type "str") (λxs H Q=>∃b,xs=[.bl b]/\Q (.str (if b=true then "True" else "False")) H):=by
 intro pins s σ H xs us Q I r h;obtain⟨b,rfl,q⟩:=h;obtain⟨u,rfl,r1⟩:=jcf r;cases r1;exact jeN ⟨.str _,H,I.tok _,⟨_,rfl⟩,q⟩
def jks (K:Yaa):R2:=λx y H Q=>∃a z xs,x=.ref a/\y=.str z/\(SqT K H a xs\/SqL K H a xs)/\Q (.bl false) H
theorem jd7 {k:Nat}(hr:Room k X.A):OpR X (YaM .Eq) (jks X.K):=by
 intro pins s σ H x y v u Q I rx ry h;obtain⟨a,z,xs,rfl,rfl,ha,q⟩:=h;cases rx;obtain⟨t,rfl⟩:=ry;have hu:X.A.units<cLine:=hr.units0;rcases ha with ha|ha
 ·obtain⟨its,rv,pa,_⟩:=I.tuple ha;exact SeqAt.RcAt.tuple_str z t (show s.heap.IsTuple a its.toArray from pa) hu X.prog X.w X.xe _ ⟨.bl false,H,I,rfl,q⟩
 ·obtain⟨its,rv,pa,_⟩:=I.list ha;exact SeqAt.RcAt.list_str z t pa.isList hu X.prog X.w X.xe _ ⟨.bl false,H,I,rfl,q⟩
end
end L2

namespace L2
open PySem PySem.Spec PyProof.Rows
open AutoSeq1 (wpAny_loadPart')
section
variable {prog:Program}{w:World}{A:Around}{E:Value->Shared->Prop}{s:Shared}
end
section
variable {X:Cx}
end
end L2

namespace L2
open PySem PySem.Spec PyProof.Rows PySem.W
structure Lies (lo:Nat)(pn:List (Addr×Obj))(H:Hp)(h:Heap)(e:Addr)(cls:Value)(dx:Option Addr):Prop where
 ob:∃oe vs,h.get? e=some oe/\oe.cls=cls/\oe.dict=dx/\oe.data=.fields vs/\
  (vs[1]?=some .none\/∃T oT ts,vs[1]?=some (.ref T)/\T≠e/\h.get? T=some oT/\oT.data=.fields ts/\ts[3]?=some .none/\H T=none/\lo<=T/\∀p∈pn,p.1≠T)
 hn:H e=none
 le:lo<=e
 pn:∀p∈pn,p.1≠e
section
variable {M:Model}{A:Around}{E:Value->Shared->Prop}{s:Shared}
theorem jbG {h:Heap}{a:Addr}{o:Obj}{vs:Array Value}(i:Nat)(x:Value)(ho:h.get? a=some o)(hd:o.data=.fields vs) :
  (∃o',(h.update a (Ycr (·.setIfInBounds i x))).get? a=some o'/\o'.cls=o.cls/\o'.dict=o.dict/\o'.data=.fields (vs.setIfInBounds i x))/\∀b,b≠a->(h.update a (Ycr (·.setIfInBounds i x))).get? b=h.get? b:=by
 have z:=Yga hd (·.setIfInBounds i x);refine⟨⟨_,YcB _ ho (Ydw z),Obj.cls_mapFields _ _,?_,z⟩,λb hb=>Ydk _ _ (Ne.symm hb)⟩;unfold Ycr;split<;>rfl
theorem jfW {base:Heap}{env:Env}{outer:List Env}{L e:Addr}{oe:Obj}{vs:Array Value}{head:Value}{had:Bool}{Q:Unit->Shared->Prop}
  (hfr:A.frames=some (env::outer)) (hl:s.heap.FunFrames base (env::outer)) (hf:env.frame=some L) (he:s.heap.get? e=some oe) (hd:oe.data=.fields vs) (hsz:1<vs.size)
  (h:∀(h':Heap) (T:Addr) (oe' oT:Obj) (vs' ts:Array Value),(∀b o,b∉frs (env::outer)->b≠e->s.heap.get? b=some o->h'.get? b=some o)->(∀b o,b∈frs (env::outer)->b≠e->s.heap.get? b=some o->∃sl,h'.get? b=some { o with slots:=sl })->
   s.heap.objs.size<=T->h'.get? e=some oe'->oe'.cls=oe.cls->oe'.dict=oe.dict->oe'.data=.fields vs'->vs'[1]?=some (.ref T)->h'.get? T=some oT->oT.data=.fields ts->ts[3]?=some .none->Q () { s with heap:=h' }) :
  wpAny M A (do let a <- frameOf env;let pl <- entryPlaceOf L had;let b <- EntryCells.newEntry head a .none (rawInt L) .none pl;setField (.ref e) 1 b) (λ_ s'=>wpAny M A (Yem (.ref e) none) Q E s') E s:=by
 have out:e∉frs (env::outer):=λm=>by
  rcases hl.mem m with⟨-,o,ho,no⟩;exact no vs (by rw[<- hd,Yan (he.symm.trans ho)])
 refine Yad (wpAny_frameOf_fun hfr hl hf λh1 fs=>Yad (wpAny_entryPlaceOf λpl hpl=>Yad (Ybb ?_ (hpl.sizeOk5 _ _ _ _ _))));have n3:3<([head,.ref L,.none,rawInt L,.none]++(if pl.isEmpty then Yab 6 Ybx else pl)).toArray.size:=by
  rw[Yai,YaO];exact Nat.lt_add_right _ (Nat.lt_of_sub_pos (Nat.zero_lt_succ 1))
 generalize eot:(⟨.type "traceback",none,.fields ([head,.ref L,.none,rawInt L,.none]++(if pl.isEmpty then Yab 6 Ybx else pl)).toArray,#[]⟩:Obj)=ot
 have dt:ot.data=.fields ([head,.ref L,.none,rawInt L,.none]++(if pl.isEmpty then Yab 6 Ybx else pl)).toArray:=by rw[<- eot]
 have g1:h1.get? e=some oe:=by rw[fs.2.1 e out,he]
 have new:=Yas h1 (Ydw dt);have ne:h1.objs.size≠e:=λz=>Ya6 _ (z ▸ Yal g1);obtain⟨⟨o2,g2,c2,d2,v2⟩,r2⟩:=jbG 1 (.ref h1.objs.size) (Yae ot g1) hd;have g2':=(r2 _ ne).trans new;obtain⟨⟨o3,g3,c3,d3,v3⟩,r3⟩:=jbG 3 .none g2' dt;refine Yfk (Yae ot g1) hd hsz (Yad (YbN g2 v2 (YbU hsz) ?_));rw[if_pos (by rfl)]
 refine Yfk g2' dt n3 ?_;have keep:∀b o,b≠e->h1.get? b=some o->_:=λb o hb g=>(r3 b (YaF (Yal g))).trans ((r2 b hb).trans (Yae ot g));refine h _ h1.objs.size o2 o3 _ _ (λb o hb hbe g=>keep b o hbe (by rw[fs.2.1 b hb,g])) (λb o _ hbe g=>?_) (Yei fs.1.symm) ((r3 e (Ne.symm ne)).trans g2) c2 d2 v2 (YbU hsz) g3 v3 (YbU n3)
 rcases fs.2.2 b o g with⟨sl,q⟩;exact⟨sl,keep b _ hbe q⟩
end
section
variable {X:Cx}{pins:List (Addr×Obj)}{σ:St}{H:Hp}{s:Shared}
theorem Inv.left {h':Heap}{ch:List Addr}(I:Inv X pins σ H s)(hH:∀b∈ch,H b=none)(hlo:∀b∈ch,X.s₀.heap.objs.size<=b)(hd:∀b∈ch,∃o vs,s.heap.get? b=some o/\o.data=.fields vs)(hp:∀b∈ch,∀p∈X.pn++pins,p.1≠b)
  (k:∀b o,b∉frs X.stack->b∉ch->s.heap.get? b=some o->h'.get? b=some o) (sl:∀b o,b∈frs X.stack->b∉ch->s.heap.get? b=some o->∃t,h'.get? b=some { o with slots:=t }):Inv X pins σ H { s with heap:=h' }:=by
 have u:Un (frs X.stack) ch H H s.heap h':=by
  refine⟨λb o e _ hb hc=>k b o hb hc e,λb o e _ hb hc=>sl b o hb hc e,λ_ _ _ n _=>n,λb o e hc=>?_,λ_ _ e=>e,λ_ _ _ e=>e,λb ps e=>⟨#[],by rw[e];simp⟩⟩
  by_cases hb:b∈frs X.stack
  ·obtain⟨t,q⟩:=sl b o hb hc e;exact⟨_,q⟩
  ·exact⟨o,k b o hb hc e⟩
 have tr:∀b u,H b=some u->b∉frs X.stack/\b∉ch:=λb u e=>⟨λz=>(by rw[I.stkFree b z]at e;cases e),λz=>(by rw[hH b z]at e;cases e)⟩
 have hok:HOk X.prog X.w H h':=λa o e=>(I.hok a o e).stay (λb v hb q=>by
  rcases hb with z|z
  ·subst z;exact k b v (tr b _ e).1 (tr b _ e).2 q
  ·exact k b v (tr b _ z).1 (tr b _ z).2 q) (λ_ q=>q) λ_ _ q=>q
 refine I.call (g':=s.gens) (d':=s.drawn) (t':=s.toks) u hok I.bare λb hb=>⟨.inr (hlo b hb),λz=>?_,λx c e z=>?_,hp b hb⟩
 ·obtain⟨o,vs,g,d⟩:=hd b hb;obtain⟨m,⟨o',_,_,ho,r⟩,_⟩:=I.loc;rw[z,ho]at g;cases g;have:=r.1;rw[this]at d;cases d
 ·obtain⟨o,vs,g,d⟩:=hd b hb;obtain⟨v,o',ho,hc⟩:=I.cell x c e;rw[z,g]at ho;cases ho;rw[d]at hc;cases hc
theorem jhq {M:Model}{E:Value->Shared->Prop}{ea:Addr}{cls:Value}{dx:Option Addr}{Q:Unit->Shared->Prop}(I:Inv X [] σ H s)(hst:X.stack=X.env::X.outer)(hf:X.env.frame=some X.env.locals)
  (l:Lies X.s₀.heap.objs.size X.pn H s.heap ea cls dx) (q:∀h',Inv X [] σ H { s with heap:=h' }->Lies X.s₀.heap.objs.size X.pn H h' ea cls dx->Q () { s with heap:=h' }):wpAny M X.A (Ygi (.ref ea) X.env) (λ_ s'=>wpAny M X.A (Yem (.ref ea) none) Q E s') E s:=by
 obtain⟨oe,vs,he,hc,hdx,hd,ht⟩:=l.ob;have hfr:X.A.frames=some (X.env::X.outer):=by rw[<- hst];exact I.ok.frames
 have hl:s.heap.FunFrames X.base (X.env::X.outer):=by rw[<- hst];exact I.stack
 have pe:∀p∈X.pn++[],p.1≠ea:=λp hp=>l.pn p (by simpa using hp)
 unfold Ygi;simp only[hf];rcases ht with h1|⟨T,oT,ts,h1,hTe,hT,hdT,h3,nT,lT,pT⟩
 ·refine Yad (YbN he hd h1 ?_);rw[if_neg (by decide)]
  refine jfW hfr hl hf he hd (Array.getElem?_eq_some_iff.mp h1).1 λh' T' oe' oT' vs' ts' k sl zT g1 c1 c2 c3 c4 g2 c5 c6=>?_;rw[<- hst]at k sl;have J:Inv X [] σ H { s with heap:=h' }:=I.left (ch:=[ea]) (λb hb=>by rw[List.mem_singleton.mp hb];exact l.hn) (λb hb=>by rw[List.mem_singleton.mp hb];exact l.le) (λb hb=>by rw[List.mem_singleton.mp hb];exact⟨oe,vs,he,hd⟩) (λb hb=>by rw[List.mem_singleton.mp hb];exact pe)
   (λb o hb hc e=>k b o hb (λz=>hc (by simp[z])) e) λb o hb hc e=>sl b o hb (λz=>hc (by simp[z])) e
  refine q h' J ⟨⟨oe',vs',g1,c1.trans hc,c2.trans hdx,c3,.inr ⟨T',oT',ts',c4,?_,g2,c5,c6,I.hok.fresh zT,Yak I.sz zT,λp hp z=>?_⟩⟩,l.hn,l.le,l.pn⟩
  ·exact λz=>absurd (Yal he) (Nat.not_lt.mpr (z ▸ zT))
  ·exact absurd (Yal (I.pin p (by simpa using hp)).1) (Nat.not_lt.mpr (z ▸ zT))
 ·have old:(Ybx==rawInt X.env.locals)=false:=rfl;refine Yad (YbN he hd h1 ?_);rw[if_pos (by rfl)]
  refine Yad (YbN hT hdT h3 ?_);rw[old,if_neg Yaj];refine Yad (Yfk hT hdT (Array.getElem?_eq_some_iff.mp h3).1 ?_);have other:=(jbG 3 .none hT hdT).2;have I1:Inv X [] σ H { s with heap:=s.heap.update T (Ycr (·.setIfInBounds 3 Ybx)) }:=I.left (ch:=[T]) (λb hb=>by rw[List.mem_singleton.mp hb];exact nT) (λb hb=>by rw[List.mem_singleton.mp hb];exact lT) (λb hb=>by rw[List.mem_singleton.mp hb];exact⟨oT,ts,hT,hdT⟩) (λb hb p hp=>by rw[List.mem_singleton.mp hb];exact pT p (by simpa using hp))
   (λb o _ hc e=>(other b (by simpa using hc)).trans e) λb o _ hc e=>⟨o.slots,(other b (by simpa using hc)).trans e⟩
  have he1:=(other ea (Ne.symm hTe)).trans he;have hl1:(s.heap.update T (Ycr (·.setIfInBounds 3 Ybx))).FunFrames X.base (X.env::X.outer):=by rw[<- hst];exact I1.stack
  refine jfW (s:={ s with heap:=s.heap.update T (Ycr (·.setIfInBounds 3 Ybx)) }) hfr hl1 hf he1 hd (Array.getElem?_eq_some_iff.mp h1).1 λh' T' oe' oT' vs' ts' k sl zT g1 c1 c2 c3 c4 g2 c5 c6=>?_
  rw[<- hst]at k sl;have J:Inv X [] σ H { s with heap:=h' }:=Inv.left (s:={ s with heap:=s.heap.update T (Ycr (·.setIfInBounds 3 Ybx)) }) (ch:=[ea]) I1 (λb hb=>by rw[List.mem_singleton.mp hb];exact l.hn) (λb hb=>by rw[List.mem_singleton.mp hb];exact l.le) (λb hb=>by rw[List.mem_singleton.mp hb];exact⟨oe,vs,he1,hd⟩) (λb hb=>by rw[List.mem_singleton.mp hb];exact pe)
   (λb o hb hc e=>k b o hb (λz=>hc (by simp[z])) e) λb o hb hc e=>sl b o hb (λz=>hc (by simp[z])) e
  refine q h' J ⟨⟨oe',vs',g1,c1.trans hc,c2.trans hdx,c3,.inr ⟨T',oT',ts',c4,?_,g2,c5,c6,I1.hok.fresh zT,Yak I1.sz zT,λp hp z=>?_⟩⟩,l.hn,l.le,l.pn⟩
  ·exact λz=>absurd (Yal he1) (Nat.not_lt.mpr (z ▸ zT))
  ·exact absurd (Yal (I1.pin p (by simpa using hp)).1) (Nat.not_lt.mpr (z ▸ zT))
end
def CX1 (P:Program)(w:World):CXT:=λouter H s E e s'=>∃(ea:Addr) (H':Hp) (cls:Value) (dx:Option Addr),e=.ref ea/\s'.os=s.os/\AllBare s'.gens/\Un (frs outer) [] H H' s.heap s'.heap/\HOk P w H' s'.heap/\Lies s.heap.objs.size [] H' s'.heap ea cls dx/\E cls dx H'
section
variable {X:Cx}{pins:List (Addr×Obj)}{σ:St}{H:Hp}{s s':Shared}{e:Value}{E:XK}
theorem CX1.back (I:Inv X pins σ H s)(h:CX1 X.prog X.w X.stack H s E e s'):∃(ea:Addr) (H':Hp) (cls:Value) (dx:Option Addr),e=.ref ea/\Inv X pins σ H' s'/\Lies X.s₀.heap.objs.size X.pn H' s'.heap ea cls dx/\E cls dx H':=by
 obtain⟨ea,H',cls,dx,rfl,os,bare,un,hok,l,q⟩:=h;have pn:∀b,s.heap.objs.size<=b->∀p∈X.pn,p.1≠b:=λb hb p hp z=>absurd (Yal (I.pin p (Ya1 _ hp)).1) (Nat.not_lt.mpr (z ▸ hb));refine⟨ea,H',cls,dx,rfl,I.call' (ch:=[]) os un hok bare (λb z=>absurd z (by simp)),⟨?_,l.hn,Yak I.sz l.le,pn ea l.le⟩,q⟩
 obtain⟨oe,vs,he,hc,hdx,hd,ht⟩:=l.ob;refine⟨oe,vs,he,hc,hdx,hd,ht.imp id ?_⟩;rintro⟨T,oT,ts,h1,h2,h3,h4,h5,h6,h7,_⟩;exact⟨T,oT,ts,h1,h2,h3,h4,h5,h6,Yak I.sz h7,pn T h7⟩
end
end L2

namespace L2
open PySem PySem.Spec PyProof.Rows PySem.W
open Builtin Builtin.ObjectAttr
section
variable {M:Model}{A:Around}{E:Value->Shared->Prop}{h:Heap}{g:Array Yew}{d:Drawn}{t:Nat}{os:OsState}
variable {nm q:Str}{C N D:Addr}{bs bmB:List Value}{hdct:Bool}{sn:List Str}{sub:List Value}{ab:Bool}{col:Option Bool}{dd:Option Addr}{k0 k1 k2 k3 k5:Option Value}{B newId:String}{mN mD:Str->Option Value}{name:Str}
structure Two (h:Heap)(C N D:Addr)(mN mD:Str->Option Value)(bmB:List Value)(newId:String):Prop where
 cls:∃nm q bs sn sub ab col dd k0 k1 k2 k3 k5,h.get? C=some (Yc1 nm q C N bs (.ref D::bmB) true sn sub ab col dd k0 k1 k2 k3 k5 newId)
 ns:h.Ns N mN
 low:∃c0 dd cd sl,h.get? D=some { cls:=c0,dict:=dd,data:=.cls cd,slots:=sl }/\h.Ns cd.ns mD
theorem Two.keeps {h':Heap}(T:Two h C N D mN mD bmB newId)(k:∀b o,h.get? b=some o->h'.get? b=some o):Two h' C N D mN mD bmB newId:=by
 obtain⟨⟨nm,q,bs,sn,sub,ab,col,dd,k0,k1,k2,k3,k5,e⟩,n,c0,dd',cd,sl,e2,n2⟩:=T;exact⟨⟨nm,q,bs,sn,sub,ab,col,dd,k0,k1,k2,k3,k5,k _ _ e⟩,n.keeps k,c0,dd',cd,sl,k _ _ e2,n2.keeps k⟩
theorem Two.look {y:Option Value}{Q:Option Value->Shared->Prop}(T:Two h C N D mN mD bmB newId)(hB:YaX (.type B) name=pure y)(hm:mroOf (.type B)=pure bmB)(hN:mN name=none)(hD:mD name=none)(hq:Q y ⟨h,g,d,t,os⟩) :
  wpAny M A (YaX (.ref C) name) Q E ⟨h,g,d,t,os⟩:=by
 obtain⟨⟨nm,q,bs,sn,sub,ab,col,dd,k0,k1,k2,k3,k5,e⟩,n,c0,dd',cd,sl,e2,n2⟩:=T;have hr:lookupAlong bmB name=pure y:=by rw[YfO,hm]at hB;exact hB
 rw[YfO];refine Yad (Ye7 e ?_);rw[YeV];refine Yad (wpAny_classOwn_exc e n ?_);rw[hN];show wpAny M A (lookupAlong (.ref D::bmB) name) Q E _;rw[YeV];refine Yad (wpAny_classOwn_cls e2 n2 ?_);rw[hD];show wpAny M A (lookupAlong bmB name) Q E _;rw[hr];exact Yam hq
theorem Two.own {v:Value}{Q:Option Value->Shared->Prop}(T:Two h C N D mN mD bmB newId)(hN:mN name=some v)(hq:Q (some v) ⟨h,g,d,t,os⟩):wpAny M A (YaX (.ref C) name) Q E ⟨h,g,d,t,os⟩:=by
 obtain⟨⟨nm,q,bs,sn,sub,ab,col,dd,k0,k1,k2,k3,k5,e⟩,n,_⟩:=T;rw[YfO];refine Yad (Ye7 e ?_);rw[YeV];refine Yad (wpAny_classOwn_exc e n ?_);rw[hN];exact Yam hq
end
section
variable {prog:Program}{w:World}{A:Around}{E:Value->Shared->Prop}{h:Heap}{g:Array Yew}{d:Drawn}{t:Nat}{os:OsState}
variable {C N D x:Addr}{bmB:List Value}{B newId sa owner:String}{mN mD mA:Str->Option Value}{name:Str}{v:Value}
theorem Two.check {M:Model}{o:Obj}{nameV:Value}{Q:Unit->Shared->Prop}(T:Two h C N D mN mD bmB newId)(SF:Ydo B bmB sa owner)(hx:h.get? x=some o)(hc:o.cls=.ref C)(hq:Q () ⟨h,g,d,t,os⟩) :
  wpAny M A (Ydx sa ⟨[.ref x,nameV,v],[]⟩) Q E ⟨h,g,d,t,os⟩:=by
 obtain⟨⟨nm,q,bs,sn,sub,ab,col,dd,k0,k1,k2,k3,k5,e⟩,_⟩:=T;have hb:(YaW C::.ref D::bmB).contains (.type owner)=true:=by rw[YbA,YbA,SF.hasOwner,YcC,YcC]
 have fin:wpAny M A (match Ye3 sa with|some sig=>Bind.checkArgs sa sig ⟨[.ref x,nameV,v],[]⟩|_=>pure ()) Q E ⟨h,g,d,t,os⟩:=by
  have ok:=SF.args (.ref x) nameV v;unfold argsOk at ok;generalize Ye3 sa=z at ok ⊢;cases z with
  |some sig=>exact wpAny_of_eq ok hq
  |none=>exact Yam hq
 unfold Ydx;rw[SF.kind,SF.split];refine Yad (m:=YfB _ _) ?_;unfold YfB
 repeat (first|(with_reducible refine Yau hx ?_;rw[hc])|(with_reducible refine YbM e ?_;rw[hb])|wp_step)
 exact fin
theorem Two.tail (T:Two h C N D mN mD bmB newId)(hD:mD "__init__" = none):OwnTail h bmB (.ref D::bmB):=by
 obtain⟨_,_,c0,dd',cd,sl,e2,n2⟩:=T;exact .own e2 n2 hD .base
section
variable {initId:String}{rest:List Value}{fI:Addr}{oI:Obj}
theorem Two.made {Q:Fin->Shared->Prop}(T:Two h C N D mN mD bmB newId)(F:YeS B newId initId bmB)(hD:mD "__init__" = none)(hi:mN "__init__" = some (.ref fI))(hfI:h.get? fI=some oI)(hfc:oI.cls=.type "function")(hr:rest.length<=Yac)
  (hq:∀h' e,Heap.MadeExcOf h h' e (.ref C) rest->h.objs.size<=e->wpAny (model prog w) A (call (.ref fI) (.ref e::rest)) (λr s'=>r=.none/\Q (.done (.ret (.ref e))) s') E ⟨h',g,d,t,os⟩) :
  wpAny (model prog w) A (Builtin.«type.__call__» ⟨.ref C::rest,[]⟩) Q E ⟨h,g,d,t,os⟩:=by
 have tl:=T.tail hD;obtain⟨nm,q,bs,sn,sub,ab,col,dd,k0,k1,k2,k3,k5,e⟩:=T.cls
 repeat (first|with_reducible refine Yau e ?_|with_reducible refine wpAny_madeBy_exc e ?_|wp_step)
 refine codeAny_call_builtin_code (Yf2 _ F.quiet) (wpAny_check_new_subT F tl e (codeAny_exc_new_subT F tl e ?_ hr));show wpAny _ _ _ _ _ _;generalize hh:(h.push { cls:=.type "tuple",data:=.seq rest.toArray }).push { cls:=.ref C,data:=.fields #[.ref h.objs.size,.none,.none,.none,.bool false,.none] }=h1;have k:∀b o,h.get? b=some o->h1.get? b=some o:=λb o z=>by rw[<- hh];exact Yae _ (Yae _ z)
 have T1:=T.keeps k;have g1:h1.get? (h.objs.size+1)=some { cls:=.ref C,data:=.fields #[.ref h.objs.size,.none,.none,.none,.bool false,.none] }:=by rw[<- hh];heap_get
 have g2:h1.get? h.objs.size=some { cls:=.type "tuple",data:=.seq rest.toArray }:=by rw[<- hh];exact Yae _ (Yge rfl rfl)
 have hc:(YaW C::.ref D::bmB).contains (.ref C)=true:=by simp
 have e1:=k _ _ e;unfold YfB
 repeat (first|with_reducible refine Yau g1 ?_|(with_reducible refine YbM e1 ?_;rw[hc])|wp_step)
 show wpAny _ _ (YaX (.ref C) _) _ _ _;refine T1.own hi ?_;refine Ybo (Yad ?_);unfold bindSpecial;refine Yad (YdM (T := "function") ⟨_,k _ _ hfI,hfc⟩ ?_);rw[if_pos (by decide)]
 refine Yam (Yad (YaK (hq _ (h.objs.size+1) ⟨k,YdB (YfY _),h.objs.size,g1,YdB (Yaf _),g2⟩ (YfY _)) (λr s' z=>?_) λ_ _ z=>z));obtain⟨rfl,z⟩:=z
 wp_walk
 exact z
theorem Two.make {Q:Value->Shared->Prop}(T:Two h C N D mN mD bmB newId)(F:YeS B newId initId bmB)(hD:mD "__init__" = none)(hi:mN "__init__" = some (.ref fI))(hfI:h.get? fI=some oI)(hfc:oI.cls=.type "function")(hr:rest.length<=Yac)
  (hq:∀h' e,Heap.MadeExcOf h h' e (.ref C) rest->h.objs.size<=e->wpAny (model prog w) (A.under (.builtin "type.__call__" ⟨.ref C::rest,[]⟩)) (call (.ref fI) (.ref e::rest)) (λr s'=>r=.none/\Q (.ref e) s') E ⟨h',g,d,t,os⟩) :
  wpAny (model prog w) A (call (.ref C) rest) Q E ⟨h,g,d,t,os⟩:=by
 obtain⟨nm,q,bs,sn,sub,ab,col,dd,k0,k1,k2,k3,k5,e⟩:=T.cls;have f1:=tc_lookup;have f2:=tc_bind (.ref C);have ty:(⟨h,g,d,t,os⟩:Shared).TypeIs (.ref C) "type" := ⟨_,e,rfl⟩;refine YeG (codeAny_of_tree ?_);show wpAny _ _ (callAny (.ref C) _) _ _ _
 repeat (any_goals (first|assumption|with_reducible refine Yau e ?_|wp_step))
 refine⟨rfl,codeAny_call_builtin_at (Yf2 _ (by decide +kernel)) entry_typeCall (wpAny_check_type_call_sub e (T.made (hr:=hr) F hD hi hfI hfc λh' e' hm hz=>?_))⟩
 exact hq h' e' hm hz
end
structure Reads (B:String)(bmB:List Value):Prop where
 ga:Slot B "__getattribute__" "BaseException.__getattribute__"
 mro:mroOf (.type B)=pure bmB
 no:YaX (.type B) "__getattr__" = pure none
 has:bmB.contains (.type "BaseException")=true
theorem Two.gaCheck {M:Model}{o:Obj}{nameV:Value}{Q:Unit->Shared->Prop}(T:Two h C N D mN mD bmB newId)(R:Reads B bmB)(hx:h.get? x=some o)(hc:o.cls=.ref C)(hq:Q () ⟨h,g,d,t,os⟩) :
  wpAny M A (Ydx "BaseException.__getattribute__" ⟨[.ref x,nameV],[]⟩) Q E ⟨h,g,d,t,os⟩:=by
 obtain⟨nm,q,bs,sn,sub,ab,col,dd,k0,k1,k2,k3,k5,e⟩:=T.cls;have c1:builtinKind "BaseException.__getattribute__" = some .slot:=by decide +kernel
 have c2:splitId "BaseException.__getattribute__" = some ("BaseException", "__getattribute__"):=by decide +kernel
 have hb:(YaW C::.ref D::bmB).contains (.type "BaseException")=true:=by rw[YbA,YbA,R.has,YcC,YcC]
 have ha:=F.args_bexc_ga (.ref x) nameV;simp only[Ydx,c1,c2];refine Yad ?_;unfold YfB
 repeat (first|(with_reducible refine Yau hx ?_;rw[hc])|(with_reducible refine YbM e ?_;rw[hb])|wp_step)
 exact hq
theorem Two.gaEntry {o:Obj}{dx:Addr}{tk:Tok}{Q:Fin->Shared->Prop}(T:Two h C N D mN mD bmB newId)(R:Reads B bmB)(hx:h.get? x=some o)(hc:o.cls=.ref C)(hnc:∀c,o.data≠.cls c)(hd:o.dict=some dx)(hns:h.Ns dx mA)(hv:mA name=some v)
  (hB:YaX (.type B) name=pure none) (n1:mN name=none) (n2:mD name=none) (hq:Q (.done (.ret v)) ⟨h,g,d,t,os⟩) :
  wpAny (model prog w) A (Builtin.«object.__getattribute__» ⟨[.ref x,.str name tk],[]⟩) Q E ⟨h,g,d,t,os⟩:=by
 obtain⟨nm,q,bs,sn,sub,ab,col,dd,k0,k1,k2,k3,k5,e⟩:=T.cls;unfold Builtin.«object.__getattribute__»
 repeat (first|(with_reducible refine Yau hx ?_;rw[hc])|(with_reducible refine T.look hB R.mro n1 n2 ?_)|wp_step)
 split
 ·rename_i c z;exact absurd z (hnc c)
 unfold instanceDict
 repeat (first|(with_reducible refine Yau hx ?_;rw[hc])|with_reducible refine Yau e ?_|wp_step)
 rw[hd]
 repeat (first|(with_reducible refine wpAny_nsGet hns ?_;rw[hv])|wp_step)
 exact hq
theorem Two.get {o:Obj}{dx:Addr}{expr:Bool}{Q:Value->Shared->Prop}(T:Two h C N D mN mD bmB newId)(R:Reads B bmB)(hx:h.get? x=some o)(hc:o.cls=.ref C)(hnc:∀c,o.data≠.cls c)(hd:o.dict=some dx)(hns:h.Ns dx mA)(hv:mA name=some v)(hh:handedOut v=pure v)
  (hB:YaX (.type B) name=pure none) (g1:mN "__getattribute__" = none) (g2:mD "__getattribute__" = none) (a1:mN "__getattr__" = none) (a2:mD "__getattr__" = none) (n1:mN name=none) (n2:mD name=none) (hq:Q v ⟨h,g,d,t+1,os⟩) :
  wpAny (model prog w) A (getAttr (.ref x) name expr) Q E ⟨h,g,d,t,os⟩:=by
 have f3:=R.ga.bind (.ref x);have c0:(expr&&onTheHeap (Yc7 "BaseException.__getattribute__"))=false:=by cases expr<;>rfl
 have c2:(Yc7 "BaseException.__getattribute__" == Yc7 "object.__getattribute__")=false:=by decide +kernel
 have c1:(onTheHeap (YaW C)&&Yc7 "BaseException.__getattribute__" == Yc7 "object.__getattribute__")=false:=by rw[c2];rfl
 unfold getAttr
 repeat (any_goals (first|assumption|(with_reducible refine Yau hx ?_;rw[hc])|(with_reducible refine T.look R.ga.lookup R.mro g1 g2 ?_)|(with_reducible refine T.look R.no R.mro a1 a2 ?_)|wp_step))
 refine Yd2 R.ga.plain F.entry_bexc_ga (T.gaCheck R hx hc (T.gaEntry R hx hc hnc hd hns hv hB n1 n2 ?_))
 repeat (any_goals (first|assumption|wp_step))
 all_goals first|exact hq|(rw[hh];exact Yam hq)|skip
theorem jer {M:Model}{s:Shared}{dx:Addr}{tk:Tok}{mB:Str->Option Value}{ns:List Str}{Q:Fin->Shared->Prop}(n1:s.heap.Ns1 dx mB)(hw:Within mB ns)(hl:ns.length<Yac)
  (hq:∀h' tk',h'.Ns1 dx (λy=>if y=name then some v else mB y)->Yds dx s.heap h'->Q (.done (.ret .none)) { s with heap:=h',toks:=tk' }) :
  wpAny M A (storeInDict dx (.str name tk) name v) Q E s:=by
 refine Yad (m:=newKeyGuard _ _ _) (Yam (Yad (wpAny_nsSet1 n1 λh' n2 sb=>?_)));rcases n2.count (Within.cons name v hw)with⟨o,es,ep,ho,hd,le⟩;have room:es.size<=Yac:=Yak le (by rw[Ya4];exact hl)
 refine Yad (wpAny_lookBehind ho (hd ▸ pastItsLine_dict (Nat.le_succ_of_le room)) ?_);exact Yam (hq h' _ n2 sb)
theorem Two.put {tk:Tok}{Q:Fin->Shared->Prop}{o:Obj}{ns:List Str}(T:Two h C N D mN mD bmB newId)(SF:Ydo B bmB sa owner)(n1:mN name=none)(n2:mD name=none)(hB:YaX (.type B) name=pure none)(hx:h.get? x=some o)(hc:o.cls=.ref C)(hnc:∀c,o.data≠.cls c)
  (hd:(o.dict=none/\∀n,mA n=none)\/∃dx,o.dict=some dx/\dx≠x/\h.Ns1 dx mA) (hw:Within mA ns) (hl:ns.length<Yac)
  (hq:∀h' tk' dx,(o.dict=some dx\/(o.dict=none/\dx=h.objs.size))->dx≠x->h'.get? x=some { o with dict:=some dx }->h'.Ns1 dx (λy=>if y=name then some v else mA y)->(∀b u,b≠x->b≠dx->h.get? b=some u->h'.get? b=some u)->Q (.done (.ret .none)) ⟨h',g,d,tk',os⟩) :
  wpAny (model prog w) A (Builtin.«object.__setattr__» ⟨[.ref x,.str name tk,v],[]⟩) Q E ⟨h,g,d,t,os⟩:=by
 obtain⟨nm,q,bs,sn,sub,ab,col,dd,k0,k1,k2,k3,k5,e⟩:=T.cls;have ps:=SF.passes (.ref x);unfold Builtin.«object.__setattr__»
 repeat (first|rw[refuse_eq]|(rw[refuseLoop_ref,refuseLoop_ref,ps])|(with_reducible refine Yau hx ?_;rw[hc])|with_reducible refine Ye7 e ?_|(with_reducible refine T.look hB SF.mro n1 n2 ?_)|with_reducible refine Yau e ?_|wp_step)
 rcases hd with⟨dn,ma⟩|⟨dx,de,dne,dns⟩
 ·rw[dn,if_neg (by simp[typeHasDict])]
  split
  ·rename_i z;cases z
  split
  ·rename_i c z;exact absurd z (hnc c)
  ·have xs:x≠h.objs.size:=YaF (Yal hx);have x1:=Yae { cls:=.type "dict",data:=.dict #[] } hx;refine Yad (wpAny_alloc' (Yad (wpAny_update' x1 (Yam ?_))));have fr:({ cls:=o.cls,dict:=some h.objs.size,data:=o.data,slots:=o.slots }:Obj).isFreed=false:=by
    have:=(Heap.get?_some_iff.mp hx).2;obtain⟨c1,c2,c3,c4⟩:=o;cases c3<;>first|rfl|exact this
   have x2:=YcB (λo=>({ cls:=o.cls,dict:=some h.objs.size,data:=o.data,slots:=o.slots }:Obj)) x1 fr;have d2:((h.push { cls:=.type "dict",data:=.dict #[] }).update x λo=>{ cls:=o.cls,dict:=some h.objs.size,data:=o.data,slots:=o.slots }).get? h.objs.size=some { cls:=.type "dict",data:=.dict #[] }:=(YfM _ _ _ _ xs.symm).trans (Yge rfl rfl);have k2:∀b u,b≠x->h.get? b=some u->((h.push { cls:=.type "dict",data:=.dict #[] }).update x λo=>{ cls:=o.cls,dict:=some h.objs.size,data:=o.data,slots:=o.slots }).get? b=some u:=λb u z e=>(YfM _ _ _ _ z).trans (Yae _ e);generalize ((h.push { cls:=.type "dict",data:=.dict #[] }).update x λo=>{ cls:=o.cls,dict:=some h.objs.size,data:=o.data,slots:=o.slots })=h2 at x2 d2 k2 ⊢;have nd:h2.Ns h.objs.size (λ_=>none):=⟨_,#[],_,d2,rfl,λe he=>absurd he (by simp),λ_=>rfl⟩
   refine jer (Heap.Ns1.of_empty nd) Within.nil (Nat.zero_lt_of_lt hl) λh' tk' hn' hs=>?_;refine hq h' tk' h.objs.size (.inr ⟨dn,rfl⟩) xs.symm ((hs.2 x xs).trans x2) ?_ λb u z1 z2 z=>(hs.2 b z2).trans (k2 b u z1 z);obtain⟨o',es,ep,e1,e2,e3,eu,e4⟩:=hn';exact⟨o',es,ep,e1,e2,e3,eu,λy=>by rw[e4 y];by_cases hy:y=name<;>simp[hy,ma]⟩
 ·rw[de];refine Yam (jer dns hw hl λh' tk' hn' hs=>?_);refine hq h' tk' dx (.inl de) dne ?_ hn' λb u z1 z2 z=>(hs.2 b z2).trans z;rw[hs.2 x dne.symm,hx,<- de]
theorem Two.set {Q:Unit->Shared->Prop}{o:Obj}{ns:List Str}(T:Two h C N D mN mD bmB newId)(SF:Ydo B bmB sa owner)(s1:mN "__setattr__" = none)(s2:mD "__setattr__" = none)(n1:mN name=none)(n2:mD name=none)(hB:YaX (.type B) name=pure none)(hx:h.get? x=some o)(hc:o.cls=.ref C)(hnc:∀c,o.data≠.cls c)
  (hd:(o.dict=none/\∀n,mA n=none)\/∃dx,o.dict=some dx/\dx≠x/\h.Ns1 dx mA) (hw:Within mA ns) (hl:ns.length<Yac)
  (hq:∀h' tk' dx,(o.dict=some dx\/(o.dict=none/\dx=h.objs.size))->dx≠x->h'.get? x=some { o with dict:=some dx }->h'.Ns1 dx (λy=>if y=name then some v else mA y)->(∀b u,b≠x->b≠dx->h.get? b=some u->h'.get? b=some u)->Q () ⟨h',g,d,tk',os⟩) :
  wpAny (model prog w) A (setAttr (.ref x) name v) Q E ⟨h,g,d,t,os⟩:=by
 have f3:=SF.slot.bind (.ref x);unfold setAttr callSpecial? specialOf
 repeat (any_goals (first|assumption|(with_reducible refine Yau hx ?_;rw[hc])|(with_reducible refine T.look SF.slot.lookup SF.mro s1 s2 ?_)|wp_step))
 refine Yd2 SF.slot.plain SF.entry (T.check SF hx hc (T.put SF n1 n2 hB hx hc hnc hd hw hl λh' tk' dx z1 z2 z3 z4 z5=>?_))
 repeat (any_goals (first|assumption|wp_step))
 exact hq h' tk' dx z1 z2 z3 z4 z5
end
theorem ja4:Reads "ValueError" [.type "ValueError",.type "Exception",.type "BaseException",.type "object"] where
 ga:=.of (owner := "BaseException") (n := "__getattribute__") (by rw[Ycw,YbF];kernel_rfl) (by decide +kernel) (by decide +kernel) (by decide +kernel)
  (by first|exact .inl (by decide +kernel)|exact .inr (by decide +kernel)) (by rw[isSubtype_type];kernel_rfl)
 mro:=by kernel_rfl
 no:=by rw[Ycw,YbF];kernel_rfl
 has:=by decide
section
variable {X:Cx}{pins:List (Addr×Obj)}{σ:St}{H:Hp}{s:Shared}
theorem Inv.sooner {sb:Shared}(I:Inv X pins σ H s)(k:∀b o,sb.heap.get? b=some o->X.s₀.heap.get? b=some o)(ho:sb.os=X.s₀.os)(hz:sb.heap.objs.size<=X.s₀.heap.objs.size)(hb:∀b o,X.base.get? b=some o->sb.heap.get? b=some o/\X.H₀ b=none)(hbz:X.base.objs.size<=sb.heap.objs.size)(hf:sb.heap.FunFrames X.base X.outer) :
  Inv { X with s₀:=sb } pins σ H s:=by
 refine⟨⟨I.ok.mod,I.ok.kind,I.ok.glob,I.ok.blt,Yak hz I.ok.above,I.ok.inj,I.ok.has,λx c h e=>Yak hz (I.ok.cab x c h e),I.ok.hd,I.ok.frames,I.ok.stk,I.ok.exf,hb,hbz,I.ok.noex,I.ok.exfs,hf,I.ok.frf⟩,I.os.trans ho.symm,I.bare,(Un.kept k).trans I.base,I.loc,I.cell,I.free,I.freeC,I.pin,I.hok,I.len⟩
theorem Inv.xput {h':Heap}{t':Nat}{e dx:Addr}{oe:Obj}{vs:Array Value}{fs:List (Str×V)}(I:Inv X pins σ H s)(hH:H e=none)(hlo:X.s₀.heap.objs.size<=e)(ge:s.heap.get? e=some oe)(gd:oe.data=.fields vs)(hp:∀p∈X.pn++pins,p.1≠e)
  (hdx:s.heap.objs.size<=dx\/∃fs0,H dx=some (.xd fs0)) (k:∀b u,b≠e->b≠dx->s.heap.get? b=some u->h'.get? b=some u) (new:jav X.prog X.w (upd H dx (.xd fs)) h' dx (.xd fs)):Inv X pins σ (upd H dx (.xd fs)) { s with heap:=h',toks:=t' }:=by
 have nt:∀b o,s.heap.get? b=some o->H b=none->b≠dx:=λb o g n z=>by
  rcases hdx with q|⟨fs0,q⟩
  ·rw[z]at g;exact absurd (Yal g) (Nat.not_lt.mpr q)
  ·rw[z,q]at n;cases n
 have ne:∀b u,H b=some u->b≠e:=λb u g z=>by rw[z,hH]at g;cases g
 have nx:∀b u,H b=some u->(∀f0,u≠.xd f0)->b≠dx:=λb u g hu z=>by
  rcases hdx with q|⟨fs0,q⟩
  ·rw[z,I.hok.fresh q]at g;cases g
  ·rw[z,q]at g;cases g;exact hu fs0 rfl
 obtain⟨od,god⟩:∃o,h'.get? dx=some o:=by obtain⟨_,⟨o,_,_,z,_⟩,_⟩:=new;exact⟨o,z⟩
 obtain⟨m0,⟨oL,esL,epL,gL,rL⟩,hLk⟩:=id I.loc;have hLe:X.env.locals≠e:=λz=>by
  rw[z,ge]at gL;cases gL;have:=rL.1;rw[gd]at this;cases this
 refine I.step (g':=s.gens) (d':=s.drawn) (ch:=[e]) (λb hb=>?_) (λb o _ _ hc g n=>k b o (λz=>hc (by simp[z])) (nt b o g n) g) (λb o _ _ hc g n=>⟨o.slots,k b o (λz=>hc (by simp[z])) (nt b o g n) g⟩) (λb o _ g n=>by rw[jad (nt b o g n)];exact n)
  (λb o hc g=>?_) (λb ys g=>by rw[jad (nx b _ g λ_ z=>nomatch z)];exact g) (λb o u g=>by rw[jad (nx b _ g λ_ z=>nomatch z)];exact g) (λb ps g=>⟨#[],by rw[jad (nx b _ g λ_ z=>nomatch z),g];simp⟩) (λm hm=>?_) (λa o g=>?_) I.bare
 ·have z:b=e:=by simpa using hb
  subst z;refine⟨.inr hlo,Ne.symm hLe,λx c q z=>?_,hp⟩;obtain⟨v,o',ho,hc⟩:=I.cell x c q;rw[z,ge]at ho;cases ho;rw[gd]at hc;cases hc
 ·by_cases z:b=dx
  ·exact⟨od,z ▸ god⟩
  ·exact⟨o,k b o (λz=>hc (by simp[z])) z g⟩
 ·obtain⟨o,es,ep,ho,r⟩:=hm;exact⟨o,es,ep,k _ o hLe (nt _ o ho I.free) ho,r⟩
 ·by_cases z:a=dx
  ·subst z;rw[jag]at g;cases g;exact new
  ·rw[jad z]at g;refine(I.hok a o g).stay (λb v hb q=>?_) (λb q=>by rw[jad (nx b _ q λ_ z=>nomatch z)];exact q) λb ys q=>by rw[jad (nx b _ q λ_ z=>nomatch z)];exact q
   rcases hb with z'|z'
   ·subst z';exact k b v (ne b _ g) z q
   ·exact k b v (ne b _ z') (nx b _ z' λ_ z=>nomatch z) q
theorem jej {g:Str}:∀{fs:List (Str×V)},g∉fs.map (·.1)->fs.lookup g=none
 |[],_=>rfl
 |(a,v)::r,h=>by
  rw[YaG];have:(g==a)=false:=by
   rw[beq_eq_false_iff_ne];exact λz=>h (by rw[z];simp)
  rw[this];exact jej λz=>h (by simp at z ⊢;exact .inr z)
theorem xset {A:Around}{E:Value->Shared->Prop}{Q:Unit->Shared->Prop}{C N D e:Addr}{bmB:List Value}{B newId sa owner:String}{mN mD:Str->Option Value}{f:Str}{v:V}{u:Value}{oe:Obj}{vs:Array Value}{fs:List (Str×V)}(I:Inv X pins σ H s)(T:Two s.heap C N D mN mD bmB newId)(SF:Ydo B bmB sa owner)
  (s1:mN "__setattr__" = none) (s2:mD "__setattr__" = none) (n1:mN f=none) (n2:mD f=none) (hB:YaX (.type B) f=pure none) (hH:H e=none) (hlo:X.s₀.heap.objs.size<=e) (ge:s.heap.get? e=some oe) (hc:oe.cls=.ref C) (gd:oe.data=.fields vs) (hp:∀p∈X.pn++pins,p.1≠e)
  (hd:(oe.dict=none/\fs=[])\/∃dx,oe.dict=some dx/\H dx=some (.xd fs)) (hl:fs.length<1000) (ru:RelV v u)
  (q:∀s' dx,Inv X pins σ (upd H dx (.xd (putF f v fs))) s'->s'.heap.get? e=some { oe with dict:=some dx }->(∀b u,b≠e->b≠dx->s.heap.get? b=some u->s'.heap.get? b=some u)->(oe.dict=some dx\/(oe.dict=none/\H dx=none))->Q () s') :
  wpAny (model X.prog X.w) A (setAttr (.ref e) f u) Q E s:=by
 have nc:∀c,oe.data≠.cls c:=λc z=>by rw[gd]at z;cases z
 have fin:∀(mA:Str->Option Value) (h':Heap) (tk:Nat) (dx:Addr),(∀g,RelO (fs.lookup g) (mA g))->(s.heap.objs.size<=dx\/∃fs0,H dx=some (.xd fs0))->(oe.dict=some dx\/(oe.dict=none/\H dx=none))->h'.get? e=some { oe with dict:=some dx }->h'.Ns1 dx (λy=>if y=f then some u else mA y)->(∀b u,b≠e->b≠dx->s.heap.get? b=some u->h'.get? b=some u)->Q () { s with heap:=h',toks:=tk }:=λmA h' tk dx r z0 z1 z2 z3 z4=>by
  refine q _ dx (I.xput hH hlo ge gd hp z0 z4 ⟨_,z3,λg=>?_⟩) z2 z4 z1;rw[jcM];by_cases hg:g=f
  ·rw[if_pos hg,if_pos hg];exact ru
  ·rw[if_neg hg,if_neg hg];exact r g
 obtain⟨hh,gg,dr,tk,os⟩:=s;rcases hd with⟨dn,rfl⟩|⟨dx,de,hx⟩
 ·refine T.set (mA:=λ_=>none) (ns:=[]) SF s1 s2 n1 n2 hB ge hc nc (.inl ⟨dn,λ_=>rfl⟩) Within.nil (by rw[YbO];decide) λh' tk' dx z1 z2 z3 z4 z5=>?_
  rcases z1 with z1|⟨_,rfl⟩
  ·rw[dn]at z1;cases z1
  ·exact fin (λ_=>none) h' tk' _ (λg=>YbJ) (.inl (Yaf _)) (.inr ⟨dn,I.hok.fresh (Yaf _)⟩) z3 z4 z5
 ·obtain⟨mA,n,r⟩:=(show jav X.prog X.w H hh dx (.xd fs)from I.hok dx _ hx);refine T.set (mA:=mA) (ns:=fs.map (·.1)) SF s1 s2 n1 n2 hB ge hc nc (.inr ⟨dx,de,λz=>(by rw[z,hH]at hx;cases hx),n⟩) (λg hg=>?_) (by rw[Yah,YbO];omega) λh' tk' dx' z1 z2 z3 z4 z5=>?_
  ·refine YcK λz=>hg ?_;have:=r g;rw[jej z]at this;exact RelO.none_of this
  ·rcases z1 with z1|⟨z1,_⟩
   ·have z:dx'=dx:=by rw[de]at z1;exact(Yan z1).symm
    subst z;exact fin _ h' tk' _ r (.inr ⟨fs,hx⟩) (.inl de) z3 z4 z5
   ·rw[de]at z1;cases z1
theorem xstep {Q:Flow->Shared->Prop}{C N D e:Addr}{bmB:List Value}{B newId sa owner:String}{mN mD:Str->Option Value}{f self a:Str}{v:V}{oe:Obj}{vs:Array Value}{fs:List (Str×V)}{i j:Nat}{p1 p2 p3 pos:Pos}(I:Inv X [(e,oe)] σ H s)(hpn:X.pn=[])(T:Two X.base C N D mN mD bmB newId)(SF:Ydo B bmB sa owner)
  (s1:mN "__setattr__" = none) (s2:mD "__setattr__" = none) (n1:mN f=none) (n2:mD f=none) (hB:YaX (.type B) f=pure none) (hlo:X.s₀.heap.objs.size<=e) (hc:oe.cls=.ref C) (gd:oe.data=.fields vs) (hd:(oe.dict=none/\fs=[])\/∃dx,oe.dict=some dx/\H dx=some (.xd fs)) (hl:fs.length<1000)
  (hs:PE X (.Name self p1) (tVar i)) (ha:PE X (.Name a p3) (tVar j)) (hi:σ[i]?=some (some (.ref e))) (hj:σ[j]?=some (some v)) (hsw:Ycl (.Name a p3) (some (.Attribute (.Name self p1) f p2)) pos.line X.env=pure false)
  (q:∀s' dx,Inv X [(e,{ oe with dict:=some dx })] σ (upd H dx (.xd (putF f v fs))) s'->(oe.dict=some dx\/(oe.dict=none/\H dx=none))->Q .next s') :
  wpAny (model X.prog X.w) X.A (exec (.Assign [.Attribute (.Name self p1) f p2] (.Name a p3) pos) X.env) Q X.xe s:=by
 refine plainObj_wpAny_Assign_Attribute (thn (ha _ s σ H (λy H1=>y=v/\H1=H) I ⟨v,hj,rfl,rfl⟩) λu s3 ⟨y,H1,I1,ry,hy,hH1⟩=>?_) hsw;subst hy;subst hH1;refine thn (hs _ s3 σ H1 (λz H2=>z=.ref e/\H2=H1) I1 ⟨_,hi,rfl,rfl⟩) λov s4 ⟨z,H2,I2,rz,hz,hH2⟩=>?_;subst hz;subst hH2;obtain rfl:ov=YaW e:=rz;obtain⟨ge,hH,hL,hfs,hcl⟩:=I2.pin (e,oe) (by simp)
 have J:Inv X [] σ H2 s4:=I2.pins_of λp hp=>absurd hp (by simp)
 refine xset J (T.keeps I2.bk) SF s1 s2 n1 n2 hB hH hlo ge hc gd (λp hp=>by rw[hpn]at hp;simp at hp) hd hl ry λs5 dx J5 g5 k5 z5=>?_
 refine q s5 dx (J5.pins_of λp hp=>?_) z5;obtain rfl:p=(e,{ oe with dict:=some dx }):=by simpa using hp
 refine⟨g5,?_,hL,hfs,λv z=>hcl v z⟩;show upd H2 dx _ e=none;rw[jad,hH];rintro rfl;rcases z5 with z5|z5
 ·rcases hd with⟨w0,_⟩|⟨dx',w1,w2⟩
  ·rw[w0]at z5;cases z5
  ·rw[w1]at z5;cases z5;rw[hH]at w2;cases w2
 ·have:=J5.free;obtain⟨_,_,_⟩:=J5.hok e _ jag;rename_i mA n r;obtain⟨o',es,ep,g',d',_⟩:=n;rw[g5]at g';cases g';rw[show({ oe with dict:=some e }:Obj).data=oe.data from rfl,gd]at d';cases d'
end
theorem ji0 {CX:CXT}{P:Program}{w:World}{K:Yaa}{mg:Str->Option Value}{base:Heap}{k:Nat}{f:Addr}{name qual:Str}{params:YcL}{body:List Stmt}{scope:Scope}{dV kV doc pm cdv ct oc:Value}{an od:Option Addr}{osl:Array (Option Value)}{N ps:List Str}
  {A:Around} {outer:List Env} {s sb:Shared} {H:Hp} {E:XK} {args:Args} {us:List Value} {vs:List V} {e:Addr} {oe:Obj} {R:Result->Shared->Prop}
  (lk:K.lookup f=some ⟨oc,od,.func (Ya5 name qual params body scope dV kV doc pm an cdv ct),osl⟩) (hcd:Yby K cdv qual=true) (S:FnScope N ps scope) (hr:Room (k+1) A) (e0:Env0 P w K mg base A outer s H)
  (hb:BindsTo s (Ya5 name qual params body scope dV kV doc pm an cdv ct) args (ps.zip us)) (r:Vals vs us) (hl:vs.length=ps.length) (ge:s.heap.get? e=some oe) (hH:H e=none) (hnc:∀v,oe.data≠.cell v) (hfr:e∉frs outer)
  (kb:∀b o,sb.heap.get? b=some o->s.heap.get? b=some o) (hos:sb.os=s.os) (hz:sb.heap.objs.size<=s.heap.objs.size) (hbs:∀b o,base.get? b=some o->sb.heap.get? b=some o/\H b=none) (hbz:base.objs.size<=sb.heap.objs.size) (hfn:sb.heap.FunFrames base outer)
  (hbody:∀s1,Inv { cxOf CX P w K mg base N qual scope f cdv A outer s H E with s₀:=sb } [(e,oe)] (start N vs) H s1->wpAny (model P w) (A.deeper (envOfC qual scope s.heap.objs.size f cdv)) (execs body (envOfC qual scope s.heap.objs.size f cdv)) (λfl s'=>fl=.next/\R (.ok (.ret .none)) s') (λ_ _=>False) s1) :
  codeAny (model P w) A (.call (.ref f) args) R s:=by
 have KX:K.In s.heap:=e0.mod.kin.keeps λb o z=>(e0.bs b o z).1;have lim:s.heap.NoLimit:=e0.mod.nolimit.keeps λb o z=>(e0.bs b o z).1;have kind:∀y∈ps.zip us,scope.names.lookup y.1=some .local\/(scope.names.lookup y.1=some .cell/\((Ybe (s.heap.objs.size+1) scope.names []).lookup y.1).isSome=true):=λ⟨n,v⟩ hy=>by
  rcases S.par n (Ycn hy).1 with q|q
  ·exact .inl q
  ·exact .inr ⟨q,Ycm _ _ _ (.inl q)⟩
 refine YdP hr.depth (KX _ _ lk) rfl S.co S.gen rfl (YdC KX hcd) (hb _ _ _ _ ?_);refine Yc6 S.kind kind λenv he s1 x=>?_;subst he;refine⟨lim.keeps x.toInCall.keep,Ygl ?_⟩;have I:Inv (cxOf CX P w K mg base N qual scope f cdv A outer s H E) [] (start N vs) H s1:=jcO S hr.hd e0 hl r x;have I1:Inv { cxOf CX P w K mg base N qual scope f cdv A outer s H E with s₀:=sb } [] (start N vs) H s1:=I.sooner kb hos hz hbs hbz hfn
 have I2:Inv { cxOf CX P w K mg base N qual scope f cdv A outer s H E with s₀:=sb } [(e,oe)] (start N vs) H s1:=I1.pins_of λp hp=>by
  obtain rfl:p=(e,oe):=by simpa using hp
  exact⟨x.toInCall.keep _ _ ge,hH,YaF (Yal ge),hfr,hnc⟩
 refine YaK (hbody s1 I2) (λfl s' ⟨z,h⟩=>?_) λ_ _ z=>z.elim;subst z;exact h
section
variable {X:Cx}{pins:List (Addr×Obj)}{σ:St}{H:Hp}{s:Shared}
def jeH (X:Cx)(C:Addr)(s:Shared)(H:Hp)(Nm:List Str)(qual:Str)(scope:Scope)(fI:Addr)(cdv:Value)(body:List Stmt)(vs:List V)(fs:List (Str×V)):Prop:=
 ∀(A':Around) (sM s1:Shared) (e t:Addr),Inv { cxOf (CX1 X.prog X.w) X.prog X.w X.K X.mg X.base Nm qual scope fI cdv A' X.stack sM H (λ_ _ _=>False)with s₀:=s } [(e,{ cls:=.ref C,data:=.fields #[.ref t,.none,.none,.none,.bool false,.none] })] (start Nm (.ref e::vs)) H s1->s.heap.objs.size<=e->
  wpAny (model X.prog X.w) (A'.deeper (envOfC qual scope sM.heap.objs.size fI cdv)) (execs body (envOfC qual scope sM.heap.objs.size fI cdv)) (λfl s'=>fl=.next/\∃dx,H dx=none/\Inv { cxOf (CX1 X.prog X.w) X.prog X.w X.K X.mg X.base Nm qual scope fI cdv A' X.stack sM H (λ_ _ _=>False)with s₀:=s } [(e,{ cls:=.ref C,dict:=some dx,data:=.fields #[.ref t,.none,.none,.none,.bool false,.none] })] (start Nm (.ref e::vs)) (upd H dx (.xd fs)) s') (λ_ _=>False) s1
theorem xmake {Q:Value->Shared->Prop}{C N D fI:Addr}{bmB:List Value}{B newId initId:String}{mN mD:Str->Option Value}{k:Nat}{name qual:Str}{params:YcL}{body:List Stmt}{scope:Scope}{dV kV doc pm cdv ct:Value}{an od:Option Addr}{osl:Array (Option Value)}{Nm ps:List Str}{us:List Value}{vs:List V}{fs:List (Str×V)}
  (I:Inv X pins σ H s) (T:Two X.base C N D mN mD bmB newId) (F:YeS B newId initId bmB) (hD:mD "__init__" = none) (hi:mN "__init__" = some (.ref fI)) (lk:X.K.lookup fI=some ⟨.type "function",od,.func (Ya5 name qual params body scope dV kV doc pm an cdv ct),osl⟩) (hcd:Yby X.K cdv qual=true) (S:FnScope Nm ps scope) (hr:Room (k+2) X.A)
  (hb:Binds X.K (Ya5 name qual params body scope dV kV doc pm an cdv ct) ps []) (r:Vals vs us) (hl:vs.length+1=ps.length) (hz:us.length<=Yac) (hbody:jeH X C s H Nm qual scope fI cdv body vs fs)
  (q:∀e dx s',H dx=none->Inv X pins σ (upd H dx (.xd fs)) s'->Lies X.s₀.heap.objs.size X.pn (upd H dx (.xd fs)) s'.heap e (.ref C) (some dx)->(∃t,s'.heap.get? e=some { cls:=.ref C,dict:=some dx,data:=.fields #[.ref t,.none,.none,.none,.bool false,.none] })->Q (.ref e) s'):wpAny (model X.prog X.w) X.A (call (.ref C) us) Q X.xe s:=by
 obtain⟨hh,gg,dr,tk,os⟩:=s;have I0:=I;refine(T.keeps I.bk).make F hD hi (I.kIn _ _ lk) rfl hz λh' e hm he=>?_;obtain⟨t,ge,_,_⟩:=hm.there;have e0:=I.env0.make C us [];have e1:Env0 X.prog X.w X.K X.mg X.base (X.A.under (.builtin "type.__call__" ⟨.ref C::us,[]⟩)) X.stack ⟨h',gg,dr,tk,os⟩ H:=⟨e0.frames,e0.mod,λb o z=>⟨hm.keeps _ _ (e0.bs b o z).1,(e0.bs b o z).2⟩,Yak e0.bsz (YbZ (Ya3 he (Yal ge))),e0.funs.of_keeps λb o z _=>⟨o,hm.keeps _ _ z,rfl⟩,e0.frf,e0.hok.kept hm.keeps,e0.bare⟩;have hH:H e=none:=I.hok.fresh he;refine YeG ?_;refine ji0 (k:=k) (CX:=CX1 X.prog X.w) (E:=λ_ _ _=>False) (sb:=⟨hh,gg,dr,tk,os⟩) (us:=.ref e::us) (vs:=.ref e::vs) lk hcd S (hr.make C us []) e1 ?_ (.cons rfl r) (by simpa using hl) ge hH (λv z=>by cases z) (λz=>?_) hm.keeps rfl (YbZ (Ya3 he (Yal ge))) e0.bs e0.bsz e0.funs λs1 J=>?_
 ·have:=hb ⟨h',gg,dr,tk,os⟩ (.ref e::us) (e1.mod.kin.keeps λb o z=>(e1.bs b o z).1) (by simp;have:=r.length;omega)
  simpa using this
 ·obtain⟨_,o,ho,_⟩:=e0.funs.mem z;exact absurd (Yal ho) (Nat.not_lt.mpr he)
 ·refine YaK (hbody _ _ s1 e t J he) (λfl s' ⟨z,dx,hdx,J'⟩=>⟨z,rfl,?_⟩) λ_ _ z=>z;have Ix:Inv X pins σ (upd H dx (.xd fs)) s':=I.call' (ch:=[]) J'.os J'.base J'.hok J'.bare λb z=>absurd z (by simp)
  obtain⟨g1,g2,_⟩:=J'.pin _ (Yaz _ (List.mem_singleton.mpr rfl));refine q e dx s' hdx Ix ⟨⟨_,_,g1,rfl,rfl,rfl,.inl rfl⟩,g2,Yak I.sz he,λp hp z=>?_⟩ ⟨t,g1⟩;exact absurd (Yal (I.pin p (Ya1 _ hp)).1) (Nat.not_lt.mpr (z ▸ he))
end
section
variable {X:Cx}{H:Hp}{s:Shared}{C N D fI:Addr}{bmB:List Value}{B newId sa owner:String}{mN mD:Str->Option Value}{qual self f a f2 a2:Str}{scope:Scope}{cdv:Value}{p1 p2 p3 pos q1 q2 q3 qos:Pos}{v v2:V}
theorem jo9 (T:Two X.base C N D mN mD bmB newId)(SF:Ydo B bmB sa owner)(s1:mN "__setattr__" = none)(s2:mD "__setattr__" = none)(n1:mN f=none)(n2:mD f=none)(hB:YaX (.type B) f=pure none)
  (h0:Vis scope self) (h1:Vis scope a) (d0:(self==("__debug__" : Str))=false) (d1:(a==("__debug__" : Str))=false) (c0:(self==("__classdict__" : Str))=false) (c1:(a==("__classdict__" : Str))=false)
  (sw:∀env,Ycl (.Name a p3) (some (.Attribute (.Name self p1) f p2)) pos.line env=pure false) :
  jeH X C s H [self,a] qual scope fI cdv [.Assign [.Attribute (.Name self p1) f p2] (.Name a p3) pos] [v] [(f,v)]:=by
 intro A' sM s1' e t J he;have J':=J.wish λ_ _=>False;refine YbR (xstep (X:=Cx.wish _ λ_ _=>False) (i:=0) (j:=1) (fs:=[]) J' rfl T SF s1 s2 n1 n2 hB he rfl rfl (.inl ⟨rfl,rfl⟩) (by decide) (ja5 rfl h0 d0 c0) (ja5 rfl h1 d1 c1) rfl rfl (sw _) λs' dx K z=>?_)
 refine Yam ⟨rfl,dx,?_,K.unwish⟩;rcases z with z|z
 ·cases z
 ·exact z.2
theorem jo8 (T:Two X.base C N D mN mD bmB newId)(SF:Ydo B bmB sa owner)(s1:mN "__setattr__" = none)(s2:mD "__setattr__" = none)(n1:mN f=none)(n2:mD f=none)(hB:YaX (.type B) f=pure none)(m1:mN f2=none)(m2:mD f2=none)(hB2:YaX (.type B) f2=pure none)(hne:f≠f2)
  (h0:Vis scope self) (h1:Vis scope a) (h2:Vis scope a2) (d0:(self==("__debug__" : Str))=false) (d1:(a==("__debug__" : Str))=false) (d2:(a2==("__debug__" : Str))=false) (c0:(self==("__classdict__" : Str))=false) (c1:(a==("__classdict__" : Str))=false) (c2:(a2==("__classdict__" : Str))=false)
  (sw:∀env,Ycl (.Name a p3) (some (.Attribute (.Name self p1) f p2)) pos.line env=pure false) (sw2:∀env,Ycl (.Name a2 q3) (some (.Attribute (.Name self q1) f2 q2)) qos.line env=pure false) :
  jeH X C s H [self,a,a2] qual scope fI cdv [.Assign [.Attribute (.Name self p1) f p2] (.Name a p3) pos,.Assign [.Attribute (.Name self q1) f2 q2] (.Name a2 q3) qos] [v,v2] [(f,v),(f2,v2)]:=by
 intro A' sM s1' e t J he;have J':=J.wish λ_ _=>False;refine YbR (xstep (X:=Cx.wish _ λ_ _=>False) (i:=0) (j:=1) (fs:=[]) J' rfl T SF s1 s2 n1 n2 hB he rfl rfl (.inl ⟨rfl,rfl⟩) (by decide) (ja5 rfl h0 d0 c0) (ja5 rfl h1 d1 c1) rfl rfl (sw _) λs' dx K z=>?_)
 have hn:H dx=none:=by
  rcases z with z|z
  ·cases z
  ·exact z.2
 refine YbR (xstep (X:=Cx.wish _ λ_ _=>False) (i:=0) (j:=2) (fs:=[(f,v)]) K rfl T SF s1 s2 m1 m2 hB2 he rfl rfl (.inr ⟨dx,rfl,jag⟩) (by simp) (ja5 rfl h0 d0 c0) (ja5 rfl h2 d2 c2) rfl rfl (sw2 _) λs'' dx' K2 z2=>?_)
 have e1:dx'=dx:=by
  rcases z2 with z2|z2
  ·exact(Yan z2).symm
  ·exact nomatch z2.1
 subst e1;have K3:=K2.unwish;have e2:putF f2 v2 [(f,v)]=[(f,v),(f2,v2)]:=by show(if f=f2 then _ else _)=_;rw[if_neg hne];rfl
 have e3:upd (upd H dx' (.xd (putF f v []))) dx' (.xd (putF f2 v2 [(f,v)]))=upd H dx' (.xd [(f,v),(f2,v2)]):=by
  rw[e2];funext b;by_cases hb:b=dx'
  ·rw[hb,jag,jag]
  ·rw[jad hb,jad hb,jad hb]
 rw[e3]at K3;exact Yam ⟨rfl,dx',hn,K3⟩
end
section
variable {M:Model}{A:Around}{E:Value->Shared->Prop}{env:Env}{C N D:Addr}{bmB:List Value}{newId:String}{mN mD:Str->Option Value}
theorem Two.raise {s:Shared}{x:Sem Value}{Q:Flow->Shared->Prop}(hbase:bmB.contains (.type "BaseException")=true)(hh:A.handled=none)
  (h:wpAny M A x (λv s1=>∃e t dx,v=.ref e/\Two s1.heap C N D mN mD bmB newId/\s1.heap.get? e=some { cls:=.ref C,dict:=some dx,data:=.fields #[.ref t,.none,.none,.none,.bool false,.none] }/\E (.ref e) s1) E s):wpAny M A (raiseStmt env (some x) none) Q E s:=by
 have hb:(YaW C::.ref D::bmB).contains (.type "BaseException")=true:=by rw[YbA,YbA,hbase,YcC,YcC]
 unfold raiseStmt;refine Yad (YaK h (λv s1 h1=>?_) λ_ _ z=>z);obtain⟨e,t,dx,rfl,T,he,hE⟩:=h1;obtain⟨nm,q,bs,sn,sub,ab,col,dd,k0,k1,k2,k3,k5,hC⟩:=T.cls;obtain⟨hp,g,d,tk,os⟩:=s1
 repeat (first|with_reducible refine Yau he ?_|with_reducible refine Yau hC ?_|(with_reducible refine YbM hC ?_;rw[hb])|wp_step)
 exact wpAny_raiseNew_none hh hE
end
def jjk (X:Cx)(C:Addr)(n:Nat)(mk:List V->List (Str×V))(t:TA):TS:=λ_ σ H=>t σ H λvs H1=>vs.length=n/\∀(pins:List (Addr×Obj)) (e dx:Addr) (s':Shared),H1 dx=none->Inv X pins σ (upd H1 dx (.xd (mk vs))) s'->Lies X.s₀.heap.objs.size X.pn (upd H1 dx (.xd (mk vs))) s'.heap e (.ref C) (some dx)->X.xe (.ref e) s'
theorem jiC {X:Cx}{C N D fI:Addr}{bmB:List Value}{B newId initId:String}{mN mD:Str->Option Value}{k:Nat}{name qual x:Str}{params:YcL}{body:List Stmt}{scope:Scope}{dV kV doc pm cdv ct:Value}{an od:Option Addr}{osl:Array (Option Value)}{Nm ps:List Str}{mk:List V->List (Str×V)}{t:TA}{a0:Expr}{as:List Expr}{p cpos pos:Pos}{n:Nat}
  (T:Two X.base C N D mN mD bmB newId) (F:YeS B newId initId bmB) (hD:mD "__init__" = none) (hi:mN "__init__" = some (.ref fI)) (lk:X.K.lookup fI=some ⟨.type "function",od,.func (Ya5 name qual params body scope dV kV doc pm an cdv ct),osl⟩) (hcd:Yby X.K cdv qual=true) (S:FnScope Nm ps scope) (hr:Room (k+2) X.A)
  (hb:Binds X.K (Ya5 name qual params body scope dV kV doc pm an cdv ct) ps []) (hn:n+1=ps.length) (hn8:n<=8) (hbase:bmB.contains (.type "BaseException")=true) (hg:Gl X x) (hm:X.mg x=some (.ref C)) (hk:Ya8 X.K (.ref C)=true) (ha:PA X (a0::as) t) (hbody:∀(vs:List V) (s:Shared) (H:Hp),vs.length=n->jeH X C s H Nm qual scope fI cdv body vs (mk vs))
  (hdb:(x==("__debug__" : Str))=false:=by decide) (he:Yar (a0::as) X.env=(false,eval a0 X.env)::Yar as X.env:=by rfl) (hpl:(backTo cpos (Yar as X.env)).any (·.1)=false:=by rfl) :
  PS X (.Raise (some (.Call (.Name x p) (a0::as) [] cpos)) none pos) (jjk X C n mk t):=by
 intro pins s σ H D0 I h;have go:wpAny (model X.prog X.w) X.A (eval (.Call (.Name x p) (a0::as) [] cpos) X.env) (λv s1=>∃e t dx,v=.ref e/\Two s1.heap C N D mN mD bmB newId/\s1.heap.get? e=some { cls:=.ref C,dict:=some dx,data:=.fields #[.ref t,.none,.none,.none,.bool false,.none] }/\X.xe (.ref e) s1) X.xe s:=by
  refine YbD (jb4 I hg hm ?_ hdb);refine YdD (h₀:=X.base) I.ok.mod.kin hk (thn (ha cpos pins s σ H _ I h) λus s1 ⟨vs,H1,I1,r,hl,q⟩=>⟨I1.kIn,?_⟩) he hpl;refine xmake (k:=k) I1 T F hD hi lk hcd S hr hb r (by omega) (by have:=r.length;rw[YbO,YbW];omega) (hbody vs s1 H1 hl) λe dx s' z1 J l ⟨t',g⟩=>?_
  exact⟨e,t',dx,rfl,T.keeps J.bk,g,q pins e dx s' z1 J l⟩
 rw[arm_exec_Raise]
 first
  |exact Yad (Ycb (Two.raise hbase hr.hd (Yad (YaK go (λv s1 z=>Yad (Ycb (Yam z))) λ_ _ z=>z))))
  |(simp only[evalOpt,YfI];exact Yad (Ycb (Two.raise hbase hr.hd (Yad (YaK go (λv s1 z=>Yad (Ycb (Yam z))) λ_ _ z=>z)))))
theorem jhk {X:Cx}{pins:List (Addr×Obj)}{σ:St}{H:Hp}{s:Shared}{M:Model}{A:Around}{E:Value->Shared->Prop}{i:Nat}{x:Str}{pos:Pos}{Q:Unit->Shared->Prop}(I:Inv X pins σ H s)(hN:X.N.Nodup)(hi:X.N[i]?=some x)(hk:X.env.scope.names.lookup x=some .local)
  (h:∀s',Inv X pins (σ.set i none) H s'->Q () s'):wpAny M A (do bindName X.env x .none;unbindBehindTheSuite X.env x pos) Q E s:=by
 obtain⟨m,hn,hl⟩:=id I.loc;have hcls:(X.env.scope.kind == .class||(X.env.scope.kind == .module&&X.env.locals != X.env.globals))=false:=by rw[I.ok.kind];rfl
 have hiσ:i<σ.length:=by rw[I.len];exact(List.getElem?_eq_some_iff.mp hi).1
 have cne:=I.cne;refine wpAny_nameGoes_keeps hk hn hcls λh' v hn' hs=>?_;have lt0:∀b o,X.s₀.heap.get? b=some o->b≠X.env.locals:=λb o e=>YaF (Yaq (Yal e) I.ok.above);have tr:HOk X.prog X.w H h':=λb ob e=>by
  refine(I.hok b ob e).stay (λc w' hc q=>(hs.2 c ?_).trans q) (λ_ q=>q) λ_ _ q=>q;rintro rfl;rcases hc with rfl|hc
  ·rw[I.free]at e;cases e
  ·rw[I.free]at hc;cases hc
 refine h _ ⟨I.ok,I.os,I.bare,⟨λb o e n hb hx=>(hs.2 b (lt0 b o e)).trans (I.base.keep b o e n hb hx),λb o e n hb hx=>?_,I.base.free,λb o e hx=>?_,I.base.tups,I.base.frzs,I.base.tbls⟩,⟨_,hn',λj y v' e1 e2 e3=>?_⟩,λy c e=>?_,I.free,I.freeC,λp hp=>?_,tr,by simpa using I.len⟩
 ·obtain⟨sl,e1⟩:=I.base.slot b o e n hb hx;exact⟨sl,(hs.2 b (lt0 b o e)).trans e1⟩
 ·obtain⟨o',e1⟩:=I.base.there b o e hx;exact⟨o',(hs.2 b (lt0 b o e)).trans e1⟩
 ·by_cases hj:j=i
  ·subst hj;rw[Ybg hiσ]at e2;cases e2
  ·rw[YaU (Ne.symm hj)]at e2;have hy:y≠x:=λz=>hj (jcp hN e1 (z ▸ hi));obtain⟨u,r,l⟩:=hl j y v' e1 e2 e3;refine⟨u,r,l.imp (λz=>⟨z.1,by show(if y=x then v else m y)=some u;rw[if_neg hy];exact z.2⟩) λz=>⟨z.1,?_⟩⟩
   obtain⟨c,ec,o,ho,hd⟩:=z.2;exact⟨c,ec,o,(hs.2 c (cne y c ec)).trans ho,hd⟩
 ·obtain⟨w',o,ho,hd⟩:=I.cell y c e;exact⟨w',o,(hs.2 c (cne y c e)).trans ho,hd⟩
 ·obtain⟨p1,p2,p3,p4⟩:=I.pin p hp;exact⟨(hs.2 p.1 p3).trans p1,p2,p3,p4⟩
end L2

namespace L2
open PySem PySem.Spec PyProof.Rows PySem.W
section
variable {M:Model}{A:Around}{E:Value->Shared->Prop}{h:Heap}{g:Array Yew}{d:Drawn}{t:Nat}{os:OsState}
variable {nm q nm' q':Str}{C N D ND e:Addr}{bs bm bs' bm':List Value}{hdct hdct':Bool}{sn sn':List Str}{sub sub':List Value}{ab ab':Bool}{col col':Option Bool}{dd dd':Option Addr}{k0 k1 k2 k3 k5 l0 l1 l2 l3 l5:Option Value}{newId newId':String}{oe:Obj}
theorem je9 {Q:Bool->Shared->Prop}(hC:h.get? C=some (Yc1 nm q C N bs bm hdct sn sub ab col dd k0 k1 k2 k3 k5 newId))(hD:h.get? D=some (Yc1 nm' q' D ND bs' bm' hdct' sn' sub' ab' col' dd' l0 l1 l2 l3 l5 newId'))(he:h.get? e=some oe)(hcls:oe.cls=.ref C)(hb:bm'.contains (.type "BaseException")=true)
  (hq:Q ((YaW C::bm).contains (.ref D)) ⟨h,g,d,t,os⟩):wpAny M A (excMatches (.ref e) (.ref D)) Q E ⟨h,g,d,t,os⟩:=by
 have hB:(YaW D::bm').contains (.type "BaseException")=true:=by rw[YbA,hb,YcC]
 have f:=tc_notTuple;obtain⟨b,eb⟩:∃b,b=(YaW C::bm).contains (.ref D):=⟨_,rfl⟩;rw[<- eb]at hq;unfold excMatches
 repeat (first|(with_reducible refine Yau he ?_;rw[hcls])|with_reducible refine Yau hD ?_|(with_reducible refine YbM hD ?_;rw[hB])|(with_reducible refine YbM hC ?_;rw[<- eb])|wp_step)
 cases b with
 |true=>wp_walk;exact hq
 |false=>wp_walk;exact hq
end
section
variable {X:Cx}{pins:List (Addr×Obj)}{σ:St}{H:Hp}{s:Shared}
theorem jet {M:Model}{A:Around}{E:Value->Shared->Prop}{ea:Addr}{cls:Value}{dx:Option Addr}{Q:Unit->Shared->Prop}(I:Inv X [] σ H s)(l:Lies X.s₀.heap.objs.size X.pn H s.heap ea cls dx)
  (q:∀h',Inv X [] σ H { s with heap:=h' }->Lies X.s₀.heap.objs.size X.pn H h' ea cls dx->Q () { s with heap:=h' }):wpAny M A (Yem (.ref ea) none) Q E s:=by
 obtain⟨oe,vs,he,hc,hdx,hd,ht⟩:=l.ob;rcases ht with h1|⟨T,oT,ts,h1,hTe,hT,hdT,h3,nT,lT,pT⟩
 ·unfold Yem;refine Yad (YbN he hd h1 ?_);rw[if_neg (by decide)]
  exact Yam (q s.heap I l)
 ·have sz:=(Array.getElem?_eq_some_iff.mp h3).1;refine wpAny_setFlight_none he hd h1 hT hdT sz ?_;have other:=(jbG 3 .none hT hdT).2;have d3:=Yga hdT (·.setIfInBounds 3 Ybx);refine q _ (I.left (ch:=[T]) (λb hb=>by rw[List.mem_singleton.mp hb];exact nT) (λb hb=>by rw[List.mem_singleton.mp hb];exact lT) (λb hb=>by rw[List.mem_singleton.mp hb];exact⟨oT,ts,hT,hdT⟩) (λb hb p hp=>by rw[List.mem_singleton.mp hb];exact pT p (by simpa using hp))
   (λb o _ hc e=>(other b (by simpa using hc)).trans e) λb o _ hc e=>⟨o.slots,(other b (by simpa using hc)).trans e⟩) ⟨⟨oe,vs,(other ea (Ne.symm hTe)).trans he,hc,hdx,hd,.inr ⟨T,_,_,h1,hTe,YcB _ hT (Ydw d3),d3,by simp[sz],nT,lT,pT⟩⟩,l.hn,l.le,l.pn⟩
noncomputable def Cx.tryC (X:Cx)(pins:List (Addr×Obj))(xe:Value->Shared->Prop):Cx:={ X with pn:=X.pn++pins,xe:=xe }
section
variable {xe:Value->Shared->Prop}
theorem Inv.tryIn (I:Inv X pins σ H s):Inv (X.tryC pins xe) [] σ H s:=
 ⟨⟨I.ok.mod,I.ok.kind,I.ok.glob,I.ok.blt,I.ok.above,I.ok.inj,I.ok.has,I.ok.cab,I.ok.hd,I.ok.frames,I.ok.stk,I.ok.exf,I.ok.bs,I.ok.bsz,I.ok.noex,I.ok.exfs,I.ok.funs,I.ok.frf⟩,I.os,I.bare,I.base,I.loc,I.cell,I.free,I.freeC,λp hp=>I.pin p (by simpa[Cx.tryC]using hp),I.hok,I.len⟩
theorem Inv.tryOut {pins':List (Addr×Obj)}(I:Inv (X.tryC pins xe) pins' σ H s):Inv X pins σ H s:=
 ⟨⟨I.ok.mod,I.ok.kind,I.ok.glob,I.ok.blt,I.ok.above,I.ok.inj,I.ok.has,I.ok.cab,I.ok.hd,I.ok.frames,I.ok.stk,I.ok.exf,I.ok.bs,I.ok.bsz,I.ok.noex,I.ok.exfs,I.ok.funs,I.ok.frf⟩,I.os,I.bare,I.base,I.loc,I.cell,I.free,I.freeC,λp hp=>I.pin p (by simp only[Cx.tryC];exact Ya1 _ hp),I.hok,I.len⟩
end
noncomputable def Cx.inH (X:Cx)(e:Value)(p:List (Addr×Obj)):Cx:={ X with A:=X.A.mark (some e),calm:=false,pn:=X.pn++p,xe:=λ_ _=>False }
theorem Inv.hIn {e:Value}{p:List (Addr×Obj)}(I:Inv X [] σ H s)(hp:∀q∈p,s.heap.get? q.1=some q.2/\H q.1=none/\q.1≠X.env.locals/\q.1∉X.fs/\∀v,q.2.data≠.cell v):Inv (X.inH e p) [] σ H s:=
 ⟨⟨I.ok.mod,I.ok.kind,I.ok.glob,I.ok.blt,I.ok.above,I.ok.inj,I.ok.has,I.ok.cab,(λz=>(nomatch z)),I.ok.frames,I.ok.stk,I.ok.exf,I.ok.bs,I.ok.bsz,I.ok.noex,I.ok.exfs,I.ok.funs,I.ok.frf⟩,I.os,I.bare,I.base,I.loc,I.cell,I.free,I.freeC,
  λq hq=>by
   have:q∈X.pn++p:=by simpa[Cx.inH]using hq
   rcases List.mem_append.mp this with z|z
   ·exact I.pin q (Ya1 _ z)
   ·exact hp q z,I.hok,I.len⟩
theorem Inv.hOut {e:Value}{p pins':List (Addr×Obj)}(ok:X.Ok)(I:Inv (X.inH e p) pins' σ H s):Inv X [] σ H s:=
 ⟨ok,I.os,I.bare,I.base,I.loc,I.cell,I.free,I.freeC,λq hq=>I.pin q (by simp only[Cx.inH];rw[YbX]at hq;exact Ya1 _ (Ya1 _ hq)),I.hok,I.len⟩
theorem Lies.pinned {ea:Addr}{cls:Value}{dx:Option Addr}(I:Inv X [] σ H s)(l:Lies X.s₀.heap.objs.size X.pn H s.heap ea cls dx):∃oe,s.heap.get? ea=some oe/\oe.cls=cls/\oe.dict=dx/\(∃vs,oe.data=.fields vs)/\
  ∀q∈[(ea,oe)],s.heap.get? q.1=some q.2/\H q.1=none/\q.1≠X.env.locals/\q.1∉X.fs/\∀v,q.2.data≠.cell v:=by
 obtain⟨oe,vs,he,hc,hdx,hd,_⟩:=l.ob;refine⟨oe,he,hc,hdx,⟨vs,hd⟩,λq hq=>?_⟩;rw[List.mem_singleton.mp hq];refine⟨he,l.hn,λz=>?_,λz=>?_,λv z=>by rw[show(ea,oe).2.data=oe.data from rfl,hd]at z;cases z⟩
 ·obtain⟨m,⟨o,es,ep,ho,hdd,_⟩,_⟩:=I.loc;rw[<- z,he]at ho;cases ho;rw[hd]at hdd;cases hdd
 ·obtain⟨_,o,ho,_⟩:=I.ok.funs.mem z;exact absurd (Yal ho) (Nat.not_lt.mpr l.le)
end
def XL (M:Model)(A:Around)(env:Env)(R:Value->Shared->Prop):Value->Shared->Prop:=λe s'=>wpAny M A (Ygi e env) (λ_ s''=>wpAny M A (Yem e none) (λ_ s3=>R e s3) R s'') R s'
theorem jkC {M:Model}{A:Around}{env:Env}{R:Value->Shared->Prop}:Yeu M A env (XL M A env R):=Yfb
section
variable {P:Program}{w:World}{K:Yaa}{mg:Str->Option Value}{base:Heap}
noncomputable abbrev cx1 (P:Program)(w:World)(K:Yaa)(mg:Str->Option Value)(base:Heap)(N:List Str)(qual:Str)(scope:Scope)(f:Addr)(cd:Value)(A:Around)(outer:List Env)(s:Shared)(H:Hp)(E:XK):Cx:=
 (cxOf (CX1 P w) P w K mg base N qual scope f cd A outer s H E).wish (XL (model P w) (A.deeper (envOfC qual scope s.heap.objs.size f cd)) (envOfC qual scope s.heap.objs.size f cd) λe s'=>CX1 P w outer H s E e s')
theorem Fun.okX {x qual:Str}{st:Stmt}{f:Addr}{fd:Ybk}{N ps:List Str}{k:Nat}{sp:Sp}(F:Fun K x qual st f fd)(S:FnScope N ps (jaa st))(len:∀vs H Q E,sp vs H Q E->vs.length=ps.length)
  (hbody:∀(cdv:Value) (A:Around) (outer:List Env) (s:Shared) (H:Hp) (vs:List V) (Q:VK) (E:XK),Room k (A.deeper (envOfC qual (jaa st) s.heap.objs.size f cdv))->sp vs H Q E->
   ∃t,PSs (cx1 P w K mg base N qual (jaa st) f cdv A outer s H E) (jae st) t/\t { nx:=λ_ H'=>Q .non H',rt:=Q } (start N vs) H):FnOk P w K mg base (CX1 P w) (k+1) f fd ps sp:=by
 obtain⟨oc,od,kV,doc,pm,an,cdv,ct,osl,rfl,lk,hcd⟩:=F.ex;refine jph lk hcd S len λA outer s H vs Q E hr hsp=>?_;obtain⟨t,h,q⟩:=hbody cdv A outer s H vs Q E hr hsp;refine⟨t,λpins s1 σ H1 D I hw=>?_,q⟩;refine YaK (h pins s1 σ H1 D (I.wish _) hw) (λ_ _ q=>q.unwish) λe s' z=>?_;show wpAny _ _ (leaving _ e) _ _ s';unfold leaving;exact Yad z
theorem CX1.out1 {N:List Str}{qual:Str}{scope:Scope}{f:Addr}{cd:Value}{A:Around}{outer:List Env}{s s':Shared}{H H':Hp}{E:XK}{pins:List (Addr×Obj)}{σ:St}{ea:Addr}{cls:Value}{dx:Option Addr}
  (I:Inv (cx1 P w K mg base N qual scope f cd A outer s H E) pins σ H' s') (l:Lies s.heap.objs.size [] H' s'.heap ea cls dx) (q:E cls dx H'):(cx1 P w K mg base N qual scope f cd A outer s H E).xe (.ref ea) s':=by
 have I0:Inv (cxOf (CX1 P w) P w K mg base N qual scope f cd A outer s H E) [] σ H' s':=I.unwish.pins_of λp hp=>absurd hp (by simp)
 refine jhq (X:=cxOf (CX1 P w) P w K mg base N qual scope f cd A outer s H E) (E:=λe s'=>CX1 P w outer H s E e s') I0 rfl rfl l λh' J l'=>?_;exact⟨ea,H',cls,dx,rfl,J.os,J.bare,J.base,J.hok,l',q⟩
end
end L2

namespace L2
open PySem PySem.Spec PyProof.Rows PySem.W
open Builtin Builtin.ObjectAttr
theorem jc8:YaX (.type "ValueError") "__class__" = pure (some (.builtin "object.__class__")):=by rw[Ycw,YbF];kernel_rfl
theorem jnl:YaX (.type "getset_descriptor") "__get__" = pure (some (.builtin "getset_descriptor.__get__")):=by rw[Ycw,YbF];kernel_rfl
theorem jnj:YaX (.type "getset_descriptor") "__set__" = pure (some (.builtin "getset_descriptor.__set__")):=by rw[Ycw,YbF];kernel_rfl
theorem jhG:builtinKind "object.__class__" = some .getset:=by decide +kernel
noncomputable abbrev bmV:List Value:=[.type "ValueError",.type "Exception",.type "BaseException",.type "object"]
section
variable {prog:Program}{w:World}{A:Around}{E:Value->Shared->Prop}{h:Heap}{g:Array Yew}{d:Drawn}{t:Nat}{os:OsState}
variable {C N D x:Addr}{bmB:List Value}{B newId sa owner:String}{mN mD mA:Str->Option Value}{name:Str}{v:Value}
section
variable {o od:Obj}{dx:Addr}{K:Frag}
theorem Two.gaClass {tk:Tok}{Q:Fin->Shared->Prop}(hK:K.In h)(hm:mroIn K C (.type "object")=some true)(T:Two h C N D mN mD bmB newId)(R:Reads B bmB)(hx:h.get? x=some o)(hc:o.cls=.ref C)(hnc:notCls o=true)(hdx:o.dict=some dx)(hod:h.get? dx=some od)
  (hB:YaX (.type B) "__class__" = pure (some (.builtin "object.__class__"))) (n1:mN "__class__" = none) (n2:mD "__class__" = none) (hq:Q (.done (.ret (.ref C))) ⟨h,g,d,t,os⟩) :
  wpAny (model prog w) A (Builtin.«object.__getattribute__» ⟨[.ref x,.str "__class__" tk],[]⟩) Q E ⟨h,g,d,t,os⟩:=by
 obtain⟨nm,q,bs,sn,sub,ab,col,dd,k0,k1,k2,k3,k5,e⟩:=T.cls;unfold Builtin.«object.__getattribute__»
 repeat (first|(with_reducible refine Yau hx ?_;rw[hc])|(with_reducible refine T.look hB R.mro n1 n2 ?_)|wp_step)
 rw[jhG];dsimp only;rw[jnl]
 repeat (first|(with_reducible refine Yau hx ?_;rw[hc])|wp_step)
 rw[jhG];dsimp only;rw[jnj]
 repeat (first|(with_reducible refine Yau hx ?_;rw[hc])|wp_step)
 refine PySem.W.class_get (K:=K) hK (ox:=o) (od:=some od) ⟨hx,hc,hnc,by rw[hdx];exact hod⟩ hm ?_
 exact Yam hq
theorem Two.cattr {Q:Option Value->Shared->Prop}(hK:K.In h)(hm:mroIn K C (.type "object")=some true)(T:Two h C N D mN mD bmB newId)(R:Reads B bmB)(hx:h.get? x=some o)(hc:o.cls=.ref C)(hnc:notCls o=true)(hdx:o.dict=some dx)(hod:h.get? dx=some od)
  (hB:YaX (.type B) "__class__" = pure (some (.builtin "object.__class__"))) (g1:mN "__getattribute__" = none) (g2:mD "__getattribute__" = none) (a1:mN "__getattr__" = none) (a2:mD "__getattr__" = none) (n1:mN "__class__" = none) (n2:mD "__class__" = none) (hq:Q (some (.ref C)) ⟨h,g,d,t+1,os⟩) :
  wpAny (model prog w) A (getAttr? (.ref x) "__class__") Q E ⟨h,g,d,t,os⟩:=by
 have f3:=R.ga.bind (.ref x);unfold getAttr? getAttrBy? getAttrBy
 repeat (any_goals (first|assumption|(with_reducible refine Yau hx ?_;rw[hc])|(with_reducible refine T.look R.ga.lookup R.mro g1 g2 ?_)|(with_reducible refine T.look R.no R.mro a1 a2 ?_)|wp_step))
 refine Yd2 R.ga.plain F.entry_bexc_ga (T.gaCheck R hx hc (T.gaClass hK hm R hx hc hnc hdx hod hB n1 n2 ?_))
 repeat (any_goals (first|assumption|wp_step))
end
end
noncomputable def jfM:List Ycx->Option (List Str)
 |[]=>some []
 |e::r=>match e.key,jfM r with
  |.str x _,some l=>some (x::l)
  |_,_=>none
noncomputable def jdg (K:Frag)(N:Addr):Option (List Str):=match K.lookup N with
 |some ⟨_,_,.dict es _,_⟩=>jfM es.toList
 |_=>none
theorem jdf:∀{es:List Ycx} {ks:List Str},jfM es=some ks->(∀e∈es,∃n t,e.key=.str n t)/\∀x,x∉ks->es.find? (λe=>e.key.isStr x)=none
 |[],_,_=>⟨λ_ h=>absurd h (by simp),λ_ _=>rfl⟩
 |e::r,ks,h=>by
  unfold jfM at h;split at h
  ·rename_i x t l hk hr;cases h;obtain⟨h1,h2⟩:=jdf hr;refine⟨λe' he=>?_,λy hy=>?_⟩
   ·rcases YaL.mp he with rfl|he
    ·exact⟨_,_,hk⟩
    ·exact h1 e' he
   ·have hn:y≠x:=λz=>hy (by simp[z])
    have:e.key.isStr y=false:=by rw[hk];simp[Value.isStr,Ne.symm hn]
    rw[Ybu,this];exact h2 y λz=>hy (by simp[z])
  ·cases h
theorem jmV {K:Frag}{N:Addr}{ks:List Str}(e:jdg K N=some ks):∃m:Str->Option Value,(∀h,K.In h->h.Ns N m)/\(∀x,x∉ks->m x=none)/\∀x v,nsIn K N x=some (some v)->m x=some v:=by
 unfold jdg at e;split at e
 ·rename_i c dd es ep sl lk;obtain⟨h1,h2⟩:=jdf e;refine⟨nsFind es,λh hK=>⟨_,es,ep,hK _ _ lk,rfl,λe he=>h1 e (by simpa using he),λ_=>rfl⟩,λx hx=>?_,λx v hv=>?_⟩
  ·unfold nsFind findBy;rw[<- YdV,h2 x hx];rfl
  ·unfold nsIn at hv;rw[lk]at hv;dsimp only at hv;unfold nsFind findBy;rw[<- YdV];split at hv
   ·rename_i e' he';rw[he'];cases hv;rfl
   ·split at hv<;>cases hv
 ·cases e
noncomputable def offN:List Str:=["__setattr__", "__getattribute__", "__getattr__", "__class__", "word", "at", "row"]
structure XBase (K:Frag)(mg:Str->Option Value)(D:Addr)(mD:Str->Option Value):Prop where
 m:mg "PlanError" = some (.ref D)
 kp:keepIn K (.ref D)=true
 lk:∃q ND bs hd sn sub ab col dd k0 k1 k2 k3 k5 nid,K.lookup D=some (Yc1 "PlanError" q D ND bs bmV hd sn sub ab col dd k0 k1 k2 k3 k5 nid)/\∀h,K.In h->h.Ns ND mD
 no:∀y∈offN,mD y=none
 ni:mD "__init__" = none
structure XCls (K:Frag)(mg:Str->Option Value)(x:Str)(fs:List Str)(C:Addr):Prop where
 m:mg x=some (.ref C)
 kp:keepIn K (.ref C)=true
 ex:∃(D N fI:Addr) (mN mD:Str->Option Value),XBase K mg D mD/\(∃q bs sn sub ab col dd k0 k1 k2 k3 k5,K.lookup C=some (Yc1 x q C N bs (.ref D::bmV) true sn sub ab col dd k0 k1 k2 k3 k5 "ValueError.__new__"))/\(∀h,K.In h->h.Ns N mN)/\(∀y∈offN,mN y=none)/\
  mN "__init__" = some (.ref fI)/\∃(st:Stmt) (qual:Str) (fd:Ybk),L2.Fun K "__init__" qual st fI fd/\(∃od osl,K.lookup fI=some ⟨.type "function",od,.func fd,osl⟩)/\FnScope ("self" :: fs) ("self" :: fs) (jaa st)/\Binds K fd ("self" :: fs) []/\(∀y∈(("self" : Str)::fs),(jaa st).names.lookup y=some .local)/\
  ((∃f p1 p2 p3 pos,fs=[f]/\jae st=[.Assign [.Attribute (.Name "self" p1) f p2] (.Name f p3) pos])\/∃f f2 p1 p2 p3 pos q1 q2 q3 qos,fs=[f,f2]/\f≠f2/\jae st=[.Assign [.Attribute (.Name "self" p1) f p2] (.Name f p3) pos,.Assign [.Attribute (.Name "self" q1) f2 q2] (.Name f2 q3) qos])
theorem XBase.get {K:Frag}{mg:Str->Option Value}{D:Addr}{mD:Str->Option Value}(B:XBase K mg D mD){h:Heap}(hK:K.In h):∃c0 dd cd sl,h.get? D=some { cls:=c0,dict:=dd,data:=.cls cd,slots:=sl }/\h.Ns cd.ns mD:=by
 obtain⟨q,ND,bs,hd,sn,sub,ab,col,dd,k0,k1,k2,k3,k5,nid,lk,n⟩:=B.lk;exact⟨_,_,_,_,hK _ _ lk,n h hK⟩
section
variable {K:Frag}{mg:Str->Option Value}{x:Str}{fs:List Str}{C:Addr}
theorem XCls.name (c:XCls K mg x fs C):∃cd,clsIn K C=some cd/\cd.name=x/\typeIn K (.ref C)=some (.type "type")/\∃D mD,XBase K mg D mD/\cd.mro=.ref C::.ref D::bmV:=by
 obtain⟨D,N,fI,mN,mD,B,⟨q,bs,sn,sub,ab,col,dd,k0,k1,k2,k3,k5,lk⟩,_⟩:=c.ex;refine⟨_,by unfold clsIn;rw[lk],rfl,by show YfI (λx=>x.cls) (Ybt _ K)=_;rw[lk];rfl,D,mD,B,rfl⟩
theorem XBase.nm {D:Addr}{mD:Str->Option Value}(B:XBase K mg D mD):∃cd,clsIn K D=some cd/\cd.name = "PlanError" /\ typeIn K (.ref D)=some (.type "type"):=by
 obtain⟨q,ND,bs,hd,sn,sub,ab,col,dd,k0,k1,k2,k3,k5,nid,lk,n⟩:=B.lk;exact⟨_,by unfold clsIn;rw[lk],rfl,by show YfI (λx=>x.cls) (Ybt _ K)=_;rw[lk];rfl⟩
theorem jhr (c:XCls K mg x fs C){x':Str}{fs':List Str}{C':Addr}(c':XCls K mg x' fs' C')(hp:x' ≠ "PlanError"):kitOne K (.ref C) (.ref C')=some (decide (x=x')):=by
 obtain⟨cd,h1,h2,h3,D,mD,B,hm⟩:=c.name;obtain⟨cd',h1',h2',h3',_⟩:=c'.name;unfold kitOne;by_cases e:C=C'
 ·subst e;rw[h1]at h1';cases h1';rw[if_pos (by simp),<- h2,<- h2']
  simp
 ·have hx:x≠x':=λz=>by
   subst z;have:=c.m.symm.trans c'.m;simp at this;exact e this
  rw[if_neg (by simpa using e)]
  unfold kitCls subIn mroIn;dsimp only;rw[h1',h3',h1];have hD:D≠C':=λz=>by
   subst z;obtain⟨cd2,g1,g2,_⟩:=B.nm;rw[h1']at g1;cases g1;exact hp (h2'.symm.trans g2)
  simp[hm,hx,Ne.symm e,Ne.symm hD]
theorem jm5 (c:XCls K mg x fs C):kitOne K (.ref C) (.type "ValueError")=some true:=by
 obtain⟨cd,h1,h2,h3,D,mD,B,hm⟩:=c.name;unfold kitOne;rw[if_neg (by simp)]
 unfold kitCls subIn mroIn;dsimp only;rw[if_pos (by decide +kernel),h1]
 simp[hm]
end
theorem jjK:∀f∈[("word" : Str), "at", "row"],YaX (.type "ValueError") f=pure none:=by
 intro f hf;simp only[YaL,Yax,or_false]at hf;rcases hf with rfl|rfl|rfl<;>(rw[Ycw,YbF];kernel_rfl)
noncomputable def fldN:List Str:=["word", "at", "row"]
theorem je7:∀f∈fldN,f∈offN:=by decide
section
variable {K:Frag}{mg:Str->Option Value}{x:Str}{fs:List Str}{C:Addr}
structure XPin (X:Cx)(ea C dx:Addr):Prop where
 ex:∃oe vs,(ea,oe)∈X.pn/\oe.cls=.ref C/\oe.dict=some dx/\oe.data=.fields vs
theorem Inv.xobj {X:Cx}{pins:List (Addr×Obj)}{σ:St}{H:Hp}{s:Shared}{ea C dx:Addr}{l:List (Str×V)}(I:Inv X pins σ H s)(p:XPin X ea C dx)(hl:H dx=some (.xd l)) :
  ∃oe vs od mA,s.heap.get? ea=some oe/\oe.cls=.ref C/\oe.dict=some dx/\oe.data=.fields vs/\s.heap.get? dx=some od/\s.heap.Ns dx mA/\∀f,RelO (l.lookup f) (mA f):=by
 obtain⟨oe,vs,hp,h1,h2,h3⟩:=p.ex;obtain⟨mA,n,r⟩:=(show jav X.prog X.w H s.heap dx (.xd l)from I.hok dx _ hl);obtain⟨od,es,ep,g,gd,sk,_,nf⟩:=n;exact⟨oe,vs,od,mA,(I.pin _ (Ya1 _ hp)).1,h1,h2,h3,g,⟨od,es,ep,g,gd,sk,nf⟩,r⟩
theorem XCls.two (c:XCls K mg x fs C){h:Heap}(hK:K.In h):∃N D mN mD,Two h C N D mN mD bmV "ValueError.__new__" /\ (∀y∈offN,mN y=none/\mD y=none)/\mroIn K C (.type "object")=some true:=by
 obtain⟨D,N,fI,mN,mD,B,⟨q,bs,sn,sub,ab,col,dd,k0,k1,k2,k3,k5,lk⟩,hn,ho,_⟩:=c.ex;refine⟨N,D,mN,mD,⟨⟨_,_,_,_,_,_,_,_,_,_,_,_,_,hK _ _ lk⟩,hn h hK,B.get hK⟩,λy hy=>⟨ho y hy,B.no y hy⟩,?_⟩;unfold mroIn clsIn;rw[lk];simp
theorem jdM (c:XCls K mg x fs C){ea dx:Addr}{oe od:Obj}{vs:Array Value}(h1:oe.cls=.ref C)(h2:oe.dict=some dx)(h3:oe.data=.fields vs):KitX K (.ref ea) (.ref C) (λh=>h.get? ea=some oe/\h.get? dx=some od):=by
 have hnc:notCls oe=true:=by unfold notCls;rw[h3]
 refine⟨λM h hK hh=>?_,λM h hK hh=>?_,λh tp dd its n sl hK ht=>?_,λ{prog w A E Q s} hK hh hq=>?_⟩
 ·intro A Q E s k q;obtain⟨hp,g,d,t,os⟩:=s;have g1:=k _ _ hh.1;show wpAny M A (typeOf (.ref ea)) Q E _;unfold typeOf
  repeat (first|(with_reducible refine Yau g1 ?_;rw[h1])|wp_step)
  exact q
 ·intro A Q E s k q;obtain⟨hp,g,d,t,os⟩:=s;obtain⟨D,N,fI,mN,mD,B,⟨q',bs,sn,sub,ab,col,dd,k0,k1,k2,k3,k5,lk⟩,_⟩:=c.ex;have g1:=k _ _ (hK _ _ lk);unfold isType
  repeat (first|with_reducible refine Yau g1 ?_|wp_step)
  exact q
 ·obtain⟨D,N,fI,mN,mD,B,⟨q',bs,sn,sub,ab,col,dd',k0,k1,k2,k3,k5,lk⟩,_⟩:=c.ex;have g1:=hK _ _ lk;by_cases z:C=tp
  ·subst z;rw[ht]at g1;simp at g1
  ·simpa using z
 ·obtain⟨hp,g,d,t,os⟩:=s;obtain⟨N,D,mN,mD,T,off,hm⟩:=c.two hK;have o1:=off "__getattribute__" (by decide)
  have o2:=off "__getattr__" (by decide)
  have o3:=off "__class__" (by decide)
  exact T.cattr hK hm ja4 hh.1 h1 hnc h2 hh.2 jc8 o1.1 o1.2 o2.1 o2.2 o3.1 o3.2 hq
end
section
variable {X:Cx}{mg:Str->Option Value}{x:Str}{fs:List Str}{C ea dx:Addr}
theorem jia {x':Str}{fs':List Str}{C':Addr}(c:XCls X.K mg x fs C)(c':XCls X.K mg x' fs' C')(hp:x' ≠ "PlanError")(p:XPin X ea C dx):jaG X (.builtin "isinstance") (λxs H Q=>xs=[.ref ea,.ref C']/\(∃l,H dx=some (.xd l))/\Q (.bl (decide (x=x'))) H):=by
 intro pins s σ H xs us Q I r h;obtain⟨rfl,⟨l,hl⟩,q⟩:=h;obtain⟨u,v,rfl,ru,rv⟩:=Vals.two r;cases ru;cases rv;obtain⟨oe,vs,od,mA,g1,g2,g3,g4,g5,_⟩:=I.xobj p hl;exact kia_one (jdM c g2 g3 g4) I.kIn ⟨g1,g5⟩ (jhr c c' hp) (λz=>(nomatch z)) λtk=>⟨.bl _,H,I.tok tk,rfl,q⟩
theorem jh8 (c:XCls X.K mg x fs C)(p:XPin X ea C dx):jaG X (.builtin "isinstance") (λxs H Q=>xs=[.ref ea,.ty "ValueError"]/\(∃l,H dx=some (.xd l))/\Q (.bl true) H):=by
 intro pins s σ H xs us Q I r h;obtain⟨rfl,⟨l,hl⟩,q⟩:=h;obtain⟨u,v,rfl,ru,rv⟩:=Vals.two r;cases ru;cases rv;obtain⟨oe,vs,od,mA,g1,g2,g3,g4,g5,_⟩:=I.xobj p hl;exact kia_one (jdM c g2 g3 g4) I.kIn ⟨g1,g5⟩ (jm5 c) (λz=>(nomatch z)) λtk=>⟨.bl true,H,I.tok tk,rfl,q⟩
inductive XMany (X:Cx)(mg:Str->Option Value):List Str->List Addr->Prop
 |nil:XMany X mg [] []
 |cons {x:Str} {fs:List Str} {C:Addr} {xs:List Str} {Cs:List Addr}:XCls X.K mg x fs C->x ≠ "PlanError" -> XMany X mg xs Cs->XMany X mg (x::xs) (C::Cs)
theorem jfL (c:XCls X.K mg x fs C):∀{xs:List Str} {Cs:List Addr},XMany X mg xs Cs->kitAny X.K (.ref C) (Cs.map .ref)=some (xs.contains x)
 |_,_,.nil=>rfl
 |_,_,.cons (x:=x') (C:=C') c' hp r=>by
  have h1:=jhr c c' hp;have h2:=jfL c r;by_cases e:x=x'
  ·subst e;simp only[YaA,kitAny];rw[h1];simp
  ·simp only[YaA,kitAny];rw[h1,h2];simp[e]
theorem jh9 {xs:List Str}{Cs:List Addr}(c:XCls X.K mg x fs C)(cs:XMany X mg xs Cs)(p:XPin X ea C dx):jaG X (.builtin "isinstance") (λas H Q=>∃tp,as=[.ref ea,.ref tp]/\H tp=some (.tup (Cs.map .ref))/\(∃l,H dx=some (.xd l))/\Q (.bl (xs.contains x)) H):=by
 intro pins s σ H as us Q I r h;obtain⟨tp,rfl,ht,⟨l,hl⟩,q⟩:=h;obtain⟨u,v,rfl,ru,rv⟩:=Vals.two r;cases ru;cases rv;obtain⟨oe,vs,od,mA,g1,g2,g3,g4,g5,_⟩:=I.xobj p hl;obtain⟨z,us,ru,o,t1,t2,t3,t4,t5⟩:=(show jav X.prog X.w H s.heap tp (.tup (Cs.map .ref))from I.hok tp _ ht);have hus:us=Cs.map .ref:=by
  clear ht t4 z t5 t1 t2;generalize Cs=Ds at ru
  induction Ds generalizing us with
  |nil=>cases ru;rfl
  |cons a r ih=>
   cases ru with
   |cons h1 h2=>cases h1;rw[ih _ h2];rfl
 subst hus;have hk:=jfL c cs;obtain⟨oc,od',dt,sl⟩:=o;obtain rfl:oc=Value.type "tuple" := t2;obtain rfl:dt=Data.seq (List.map YaW Cs).toArray t3:=t4;exact kia_tup (jdM c g2 g3 g4) I.kIn ⟨g1,g5⟩ t1 hk (λz=>(nomatch z)) λtk=>⟨.bl _,H,I.tok tk,rfl,q⟩
theorem je5 {v:V}{u:Value}(r:RelV v u):handedOut u=pure u:=by
 cases v with
 |non=>cases r;rfl
 |bl _=>cases r;rfl
 |int _=>obtain⟨_,rfl⟩:=r;rfl
 |str _=>obtain⟨_,rfl⟩:=r;rfl
 |byt _=>obtain⟨_,rfl⟩:=r;rfl
 |flt _=>obtain⟨_,rfl⟩:=r;rfl
 |ref _=>cases r;rfl
 |ty _=>cases r;rfl
theorem jkJ {e:Expr}{f:Str}{pos:Pos}{te:TE}(c:XCls X.K mg x fs C)(p:XPin X ea C dx)(hf:f∈fldN)(he:PE X e te)(hb:Ycd e f X.env (eval e X.env)=eval e X.env) :
  PE X (.Attribute e f pos) (λσ H Q=>te σ H λv H1=>v=.ref ea/\∃l u,H1 dx=some (.xd l)/\l.lookup f=some u/\Q u H1):=by
 intro pins s σ H Q I h;refine jlC hb (thn (he pins s σ H _ I h) λu s1 ⟨v,H1,I1,rv,ev,l,w,hl,hlk,q⟩=>?_);subst ev;cases rv;obtain⟨oe,vs,od,mA,g1,g2,g3,g4,g5,g6,g7⟩:=I1.xobj p hl;obtain⟨N,D,mN,mD,T,off,hm⟩:=c.two I1.kIn;obtain⟨u',hu,ru⟩:=RelO.some_of (v:=w) (o:=mA f) (by rw[<- hlk];exact g7 f)
 have o1:=off "__getattribute__" (by decide)
 have o2:=off "__getattr__" (by decide)
 have o3:=off f (je7 f hf);obtain⟨hp,gg,d,t,os⟩:=s1;exact T.get ja4 g1 g2 (λcd z=>by rw[g4]at z;cases z) g3 g6 hu (je5 ru) (jjK f hf) o1.1 o1.2 o2.1 o2.2 o3.1 o3.2 ⟨w,H1,I1.tok _,ru,q⟩
theorem jgX {k:Nat}{t:TA}{a0:Expr}{as:List Expr}{p cpos pos:Pos}(c:XCls X.K mg x fs C)(hfs:∀f∈fs,f∈fldN)(hr:Room (k+2) X.A)(hg:Gl X x)(hmg:X.mg x=some (.ref C))(ha:PA X (a0::as) t)
  (hdb:(x==("__debug__" : Str))=false) (he:Yar (a0::as) X.env=(false,eval a0 X.env)::Yar as X.env) (hpl:(backTo cpos (Yar as X.env)).any (·.1)=false) :
  PS X (.Raise (some (.Call (.Name x p) (a0::as) [] cpos)) none pos) (jjk X C fs.length (λvs=>fs.zip vs) t):=by
 intro pins s σ H D0 I h;have hK:X.K.In X.base:=I.ok.mod.kin;obtain⟨D,N,fI,mN,mD,B,⟨q,bs,sn,sub,ab,col,dd,k0,k1,k2,k3,k5,lk⟩,hn,ho,hi,st,qual,fd,F0,⟨od,osl,lkI⟩,S,hb,hloc,hbody⟩:=c.ex;obtain⟨oc,od',kV,doc,pm,an,cdv,ct,osl',rfl,lkI',hcd⟩:=F0.ex;have T:Two X.base C N D mN mD bmV "ValueError.__new__" := ⟨⟨_,_,_,_,_,_,_,_,_,_,_,_,_,hK _ _ lk⟩,hn _ hK,B.get hK⟩;have set0:mN "__setattr__" = none/\mD "__setattr__" = none:=⟨ho _ (by decide),B.no _ (by decide)⟩
 have fd0:∀f∈fs,mN f=none/\mD f=none/\YaX (.type "ValueError") f=pure none:=λf hf=>⟨ho _ (je7 f (hfs f hf)),B.no _ (je7 f (hfs f hf)),jjK f (hfs f hf)⟩;have nm:∀f∈fldN,(f==("__debug__" : Str))=false/\(f==("__classdict__" : Str))=false:=by decide
 have go:∀(vs:List V) (s:Shared) (H:Hp),vs.length=fs.length->jeH X C s H (("self" : Str)::fs) qual (jaa st) fI cdv (jae st) vs (fs.zip vs):=by
  intro vs s H hl;rcases hbody with⟨f,p1,p2,p3,pos,rfl,hbd⟩|⟨f,f2,p1,p2,p3,pos,q1,q2,q3,qos,rfl,hne,hbd⟩
  ·rw[hbd];obtain⟨v,rfl⟩:∃v,vs=[v]:=by
    match vs,hl with
    |[v],_=>exact⟨v,rfl⟩
   have a1:=fd0 f (by simp)
   have b1:=nm f (hfs f (by simp))
   exact jo9 T F.store_ValueError set0.1 set0.2 a1.1 a1.2.1 a1.2.2 (.inl (hloc _ (by simp))) (.inl (hloc _ (by simp))) (by decide) b1.1 (by decide) b1.2 (λ_=>rfl)
  ·rw[hbd];obtain⟨v,v2,rfl⟩:∃v v2,vs=[v,v2]:=by
    match vs,hl with
    |[v,v2],_=>exact⟨v,v2,rfl⟩
   have a1:=fd0 f (by simp)
   have a2:=fd0 f2 (by simp)
   have b1:=nm f (hfs f (by simp))
   have b2:=nm f2 (hfs f2 (by simp))
   exact jo8 T F.store_ValueError set0.1 set0.2 a1.1 a1.2.1 a1.2.2 a2.1 a2.2.1 a2.2.2 hne (.inl (hloc _ (by simp))) (.inl (hloc _ (by simp))) (.inl (hloc _ (by simp))) (by decide) b1.1 b2.1 (by decide) b1.2 b2.2 (λ_=>rfl) (λ_=>rfl)
 have hn8:fs.length<=8:=by
  rcases hbody with⟨f,p1,p2,p3,pos,rfl,hbd⟩|⟨f,f2,p1,p2,p3,pos,q1,q2,q3,qos,rfl,hne,hbd⟩<;>simp
 exact jiC T F.excBase_ValueError B.ni hi lkI hcd S hr hb (by simp) hn8 (by decide) hg hmg c.kp ha go hdb he hpl pins s σ H D0 I h
theorem jgm {M:Model}{A:Around}{E:Value->Shared->Prop}{s:Shared}{Q:Bool->Shared->Prop}{oe:Obj}{D':Addr}{mD':Str->Option Value}(c:XCls X.K mg x fs C)(B':XBase X.K mg D' mD')(hK:X.K.In s.heap)(he:s.heap.get? ea=some oe)(hcls:oe.cls=.ref C)
  (hq:Q true s):wpAny M A (excMatches (.ref ea) (.ref D')) Q E s:=by
 obtain⟨D,N,fI,mN,mD,B,⟨q,bs,sn,sub,ab,col,dd,k0,k1,k2,k3,k5,lk⟩,_⟩:=c.ex;have e:D=D':=by have:=B.m.symm.trans B'.m;simpa using this
 subst e;obtain⟨q,ND,bs,hd,sn,sub,ab,col,dd,k0,k1,k2,k3,k5,nid,lk2,n⟩:=B.lk;obtain⟨h,g,d,t,os⟩:=s;refine je9 (hK _ _ lk) (hK _ _ lk2) he hcls (by decide) ?_
 have e:(YaW C::.ref D::bmV).contains (.ref D)=true:=by simp
 rw[e];exact hq
end
end L2

namespace L2
open PySem PySem.Spec PyProof.Rows
section
variable {prog:Program}{w:World}{A:Around}{E:Value->Shared->Prop}{s:Shared}{d it:Addr}{o:Obj}{es:Array Ycx}{ep i:Nat}
end
end L2

namespace L2
open PySem PySem.Spec PyProof.Rows
theorem jb8:∀(l:List (Str×Tok)),Vals ((l.map (·.1)).map V.str) (strValues l)
 |[]=>.nil
 |(_,t)::l=>.cons ⟨t,rfl⟩ (jb8 l)
section
variable {X:Cx}
def jmh:V->List V->Hp->VK->Prop:=λx vs H Q=>∃z y:Str,x=.str z/\vs=[.str y]/\(y.length==0)=false/\z.length<=Yac/\(Ybr z y).length<=Yac/\∀l,H l=none->Q (.ref l) (upd H l (.lst ((Ybr z y).map V.str)))
theorem jiW:MtR X "str.split" jmh:=by
 intro pins s σ H x vs v us Q I rx rv h;obtain⟨z,y,rfl,rfl,hy,hz,hn,q⟩:=h;obtain⟨t,rfl⟩:=rx;obtain⟨w,rfl,ru⟩:=Vals.one rv;obtain⟨u,rfl⟩:=ru;have fin:∀(l:List (Str×Tok)) (tk:Nat),l.map (·.1)=Ybr z y->EP X pins σ Q (.ref s.heap.objs.size) { s with toks:=tk,heap:=s.heap.push { cls:=.type "list",data:=.seq (strValues l).toArray } }:=λl tk e=>by
  have hv:=jb8 l;rw[e]at hv;refine⟨.ref _,_,I.laid (t':=tk) (o:=.lst ((Ybr z y).map V.str)) (λb o e=>Yae _ e) (Yaf _) ?_,rfl,q _ (I.hok.fresh (Yaf _))⟩;exact⟨by rw[Yah];exact hn,strValues l,0,hv,Yas _ rfl⟩
 cases h1:(decide (z.length<y.length)||decide (YeO z<YeO y))
 ·cases hf:(Yav z y 0 z.length (z.length+1)).isEmpty
  ·have es:Ybr z y=Yd6 z (Yav z y 0 z.length (z.length+1)) y.length:=(if_neg (ne_true_of_eq_false h1)).trans (if_neg (ne_true_of_eq_false hf));refine YbC YeN (Ycc _ _ _) Yey (Yee _ _) (meets_str_split_sep z y t u h1 hy hf hz (by rw[<- es];exact hn)) ?_
   show EP X pins σ Q _ { s with toks:=_,heap:=s.heap.push { cls:=.type "list",data:=.seq (strsFrom s.toks (Yd6 z (Yav z y 0 z.length (z.length+1)) y.length)).toArray } }
   rw[strsFrom_eq];exact fin (numbered s.toks _) _ ((numbered_texts _ _).trans es.symm)
  ·exact YbC YeN (Ycc _ _ _) Yey (Yee _ _) (meets_str_split_not_found z y t u h1 hy hf) (fin [(z,t)] _ ((if_neg (ne_true_of_eq_false h1)).trans (if_pos hf)).symm)
 ·exact YbC YeN (Ycc _ _ _) Yey (Yee _ _) (meets_str_split_cannot_occur z y t u h1) (fin [(z,t)] _ (if_pos h1).symm)
end
end L2

namespace L2
open PySem PySem.Spec PyProof.Rows PySem.W
noncomputable def jbo (cells:List (Str×Addr)):List (Str×Ybh)->List (Str×Addr)->List (Str×Addr)
 |[],acc=>acc
 |(n,k)::r,acc=>jbo cells r (if k == .free then (match cells.lookup n with|some c=>(n,c)::acc|none=>acc) else acc)
theorem jdR {env:Env}{f:Str×Ybh->List (Str×Addr)->Sem (ForInStep (List (Str×Addr)))}
  (hf:∀n k cs,f (n,k) cs=if k == .free then (do let a <- cellOf env n;pure (.yield ((n,a)::cs))) else pure (.yield cs)) :
  ∀(names:List (Str×Ybh)) (acc:List (Str×Addr)),(∀y∈names,y.2=.free->∃c,env.cells.lookup y.1=some c)->forIn names acc f=pure (jbo env.cells names acc)
 |[],acc,_=>rfl
 |(n,k)::r,acc,h=>by
  rw[YeD,hf];unfold jbo;cases hk:k==Yay with
  |true=>
   obtain⟨c,e⟩:=h (n,k) Yao (eq_of_beq hk);simp only[if_true,cellOf,e,pure_bind];exact jdR hf r _ λy hy=>h y (Yag _ hy)
  |false=>
   simp only[Ybp,if_false,pure_bind];exact jdR hf r _ λy hy=>h y (Yag _ hy)
theorem jbQ {scope:Scope}{env:Env}(h:∀y∈scope.names,y.2=.free->∃c,env.cells.lookup y.1=some c):YfC scope env=pure (jbo env.cells scope.names []):=by
 simp only[YfC];rw[jdR (env:=env) (λn k cs=>by cases hk:k==Yay<;>simp[hk]) _ _ h]
 rfl
section
variable {cells:List (Str×Addr)}{x:Str}{c:Addr}
theorem jf2:∀{names:List (Str×Ybh)} {acc:List (Str×Addr)},(jbo cells names acc).lookup x=some c->(cells.lookup x=some c/\(x,Yay)∈names)\/acc.lookup x=some c
 |[],_,h=>.inr h
 |(n,k)::r,acc,h=>by
  unfold jbo at h;rcases jf2 h with⟨e,m⟩|e
  ·exact .inl ⟨e,Yag _ m⟩
  ·by_cases hk:(k==Yay)=true
   ·rw[if_pos hk]at e;cases hc:cells.lookup n with
    |none=>rw[hc]at e;exact .inr e
    |some c'=>
     rw[hc]at e;simp only[YaG]at e;by_cases hx:x=n
     ·subst hx;simp only[beq_self_eq_true]at e;cases e;exact .inl ⟨hc,by rw[eq_of_beq hk];exact Yao⟩
     ·rw[beq_eq_false_iff_ne.mpr hx]at e;exact .inr e
   ·rw[if_neg hk]at e;exact .inr e
theorem jex:∀{names:List (Str×Ybh)} {acc:List (Str×Addr)},cells.lookup x=some c->acc.lookup x=some c->(jbo cells names acc).lookup x=some c
 |[],_,_,h=>h
 |(n,k)::r,acc,hc,h=>by
  unfold jbo;refine jex hc ?_;split
  ·split
   ·rename_i c' e;by_cases hx:x=n
    ·subst hx;rw[hc]at e;cases e;simp
    ·simp only[YaG,beq_eq_false_iff_ne.mpr hx];exact h
   ·exact h
  ·exact h
theorem jc0:∀{names:List (Str×Ybh)} {acc:List (Str×Addr)},cells.lookup x=some c->(x,Yay)∈names->(jbo cells names acc).lookup x=some c
 |(n,k)::r,acc,hc,h=>by
  unfold jbo;rcases YaL.mp h with e|h
  ·cases e;refine jex hc ?_;simp[hc]
  ·exact jc0 hc h
end
structure CloScope (N P:List Str)(sc:Scope):Prop where
 kind:sc.kind=.function
 co:sc.isCoroutine=false
 gen:sc.isGenerator=false
 nd:N.Nodup
 pre:N.take P.length=P
 par:∀x∈P,sc.names.lookup x=some .local
 nocell:∀y∈sc.names,y.2≠.cell
 frees:∀x,(x,Yay)∈sc.names->sc.names.lookup x=some .free
section
variable {P:Program}{w:World}{K:Yaa}{mg:Str->Option Value}{base:Heap}
noncomputable def cxC (P:Program)(w:World)(K:Yaa)(mg:Str->Option Value)(base:Heap)(N:List Str)(qual:Str)(scope:Scope)(cl:List (Str×Addr))(f:Addr)(cd:Value)(A:Around)(outer:List Env)(s:Shared)(H:Hp)(E:XK):Cx where
 prog:=P
 w:=w
 K:=K
 mg:=mg
 base:=base
 A:=A.deeper (envX qual scope s.heap.objs.size f cd cl)
 N:=N
 s₀:=s
 H₀:=H
 env:=envX qual scope s.heap.objs.size f cd cl
 outer:=outer
 stack:=envX qual scope s.heap.objs.size f cd cl::outer
 ex:=[]
 calm:=true
 fn:=λx=>scope.names.lookup x != some .free
 pn:=[]
 xe:=XL (model P w) (A.deeper (envX qual scope s.heap.objs.size f cd cl)) (envX qual scope s.heap.objs.size f cd cl) λe s'=>CX1 P w outer H s E e s'
theorem jgM {N:List Str}{vs:List V}{i:Nat}{v:V}(h:(start N vs)[i]?=some (some v)):vs[i]?=some v:=by
 unfold start at h;by_cases hi:i<vs.length
 ·rw[YaC (by simpa using hi),Yat]at h
  cases e:vs[i]? with
  |none=>rw[e]at h;cases h
  |some a=>rw[e]at h;simpa using h
 ·rw[YaR (by simpa using hi),Yco]at h
  split at h<;>cases h
theorem jj1 {ps:List Str}{us:List Value}{i:Nat}{x:Str}{u:Value}(nd:ps.Nodup)(h1:ps[i]?=some x)(h2:us[i]?=some u):(ps.zip us).reverse.lookup x=some u:=by
 have hm:(x,u)∈ps.zip us:=Ybq (List.getElem?_zip_eq_some.mpr ⟨h1,h2⟩);have key:∀{l:List (Str×Value)},(x,u)∈l->(∀v,(x,v)∈l->v=u)->l.lookup x=some u:=by
  intro l
  induction l with
  |nil=>intro h _;exact absurd h (by simp)
  |cons p r ih=>
   obtain⟨y,v⟩:=p;intro h hu;rw[YaG];by_cases hy:x=y
   ·subst hy;rw[beq_self_eq_true,hu v Yao]
   ·rw[beq_eq_false_iff_ne.mpr hy];rcases YaL.mp h with e|h
    ·cases e;exact absurd rfl hy
    ·exact ih h λv hv=>hu v (Yag _ hv)
 refine key (List.mem_reverse.mpr hm) λv hv=>?_;obtain⟨j,hj⟩:=List.getElem?_of_mem (List.mem_reverse.mp hv);obtain⟨e1,e2⟩:=List.getElem?_zip_eq_some.mp hj;obtain rfl:=jcp nd h1 e1;rw[h2]at e2;exact(Yan e2).symm
theorem jlh {N ps:List Str}{qual:Str}{scope:Scope}{cl:List (Str×Addr)}{f:Addr}{cd:Value}{A:Around}{outer:List Env}{s:Shared}{h1:Heap}{tk:Tok}{H:Hp}{E:XK}{us:List Value}{vs cvs:List V}
  (S:CloScope N ps scope) (hd:A.handled=none) (e0:Env0 P w K mg base A outer s H) (hl:vs.length=ps.length) (r:Vals vs us) (hN:vs.length+cvs.length<=N.length)
  (hns:h1.Ns s.heap.objs.size λx=>(ps.zip us).reverse.lookup x) (hk:∀b o,s.heap.get? b=some o->h1.get? b=some o)
  (hcl:∀x c,cl.lookup x=some c->scope.names.lookup x=some .free/\(∃v,s.heap.IsCell c v)/\H c=none) (inj:∀x y c,cl.lookup x=some c->cl.lookup y=some c->x=y)
  (has:∀x,scope.names.lookup x=some .free->∃c,cl.lookup x=some c)
  (hv:∀i x v,N[ps.length+i]?=some x->cvs[i]?=some v->scope.names.lookup x=some .free/\∃c u,cl.lookup x=some c/\RelV v u/\s.heap.IsCell c (some u)) :
  Inv (cxC P w K mg base N qual scope cl f cd A outer s H E) [] (start N (vs++cvs)) H { s with heap:=h1,toks:=tk }:=by
 have noA:∀b:Addr,b∉(cxC P w K mg base N qual scope cl f cd A outer s H E).ex:=λb z=>absurd (show b∈([]:List Addr)from z) (by simp)
 have cellK:∀{c:Addr} {v:Option Value},s.heap.IsCell c v->h1.IsCell c v:=λ⟨o,ho,hd⟩=>⟨o,hk _ _ ho,hd⟩;refine⟨⟨e0.mod,S.kind,rfl,rfl,Yaf _,inj,λy hy=>?_,λy c hf h=>?_,λ_=>hd,Yfe e0.frames,.inr ⟨rfl,rfl⟩,λb z=>absurd z (noA b),e0.bs,e0.bsz,λb _ _=>noA b,λb z=>absurd z (noA b),e0.funs,e0.frf⟩,
  rfl,e0.bare,Un.kept hk,⟨_,hns,λi y v h1 h2 h3=>?_⟩,λy c h=>?_,e0.hok.fresh (Yaf _),λy c h=>(hcl y c h).2.2,λp hp=>absurd (show p∈([]:List (Addr×Obj))from hp) (by simp),e0.hok.kept hk,?_⟩
 ·have hy:scope.names.lookup y=some .cell\/scope.names.lookup y=some .free:=hy;rcases hy with hy|hy
  ·exact absurd rfl (S.nocell _ (Yaw hy))
  ·exact has y hy
 ·have hf:(scope.names.lookup y != some .free)=true:=hf;rw[(hcl y c h).1]at hf;exact absurd hf (by decide)
 ·have e:=jgM h2;by_cases hi:i<vs.length
  ·rw[YaC hi]at e;obtain⟨u,hu,rv⟩:=r.get e;have hp:ps[i]?=some y:=by
    rw[<- S.pre,Ye0 (by omega)];exact h1
   have ndP:ps.Nodup:=by rw[<- S.pre];exact S.nd.sublist (Yc5 _ _)
   exact⟨u,rv,.inl ⟨S.par y (Ybq hp),jj1 ndP hp hu⟩⟩
  ·rw[YaR (by omega)]at e
   obtain⟨hf,c,u,hc,rv,z⟩:=hv (i-vs.length) y v (by rw[<- hl,Nat.add_sub_cancel' (by omega)];exact h1) e
   exact⟨u,rv,.inr ⟨.inr hf,c,hc,cellK z⟩⟩
 ·obtain⟨_,⟨v,z⟩,_⟩:=hcl y c h;exact⟨v,cellK z⟩
 ·unfold start;show _=N.length;rw[YaO,Yah,Yff,YaO];omega
theorem jlz {name qual:Str}{params:YcL}{body:List Stmt}{scope:Scope}{cl:List (Str×Addr)}{doc pm ctv cdv:Value}{f:Addr}{o:Obj}{N ps:List Str}{k:Nat}{A:Around}{outer:List Env}{s:Shared}{H:Hp}{args:Args}{us:List Value}{vs cvs:List V}{Q:VK}{E:XK}
  (ho:s.heap.get? f=some o) (hd:o.data=.func (fnX name qual params body scope cl .none .none doc pm none cdv ctv)) (hcd:s.heap.CodeRec cdv qual) (S:CloScope N ps scope) (hr:Room (k+1) A) (e0:Env0 P w K mg base A outer s H)
  (hb:BindsTo s (fnX name qual params body scope cl .none .none doc pm none cdv ctv) args (ps.zip us)) (r:Vals vs us) (hl:vs.length=ps.length) (hN:vs.length+cvs.length<=N.length)
  (hcl:∀x c,cl.lookup x=some c->scope.names.lookup x=some .free/\(∃v,s.heap.IsCell c v)/\H c=none) (inj:∀x y c,cl.lookup x=some c->cl.lookup y=some c->x=y)
  (has:∀x,scope.names.lookup x=some .free->∃c,cl.lookup x=some c)
  (hv:∀i x v,N[ps.length+i]?=some x->cvs[i]?=some v->scope.names.lookup x=some .free/\∃c u,cl.lookup x=some c/\RelV v u/\s.heap.IsCell c (some u))
  (hbody:Room k (A.deeper (envX qual scope s.heap.objs.size f cdv cl))->∃t,PSs (cxC P w K mg base N qual scope cl f cdv A outer s H E) body t/\t { nx:=λ_ H'=>Q .non H',rt:=Q } (start N (vs++cvs)) H) :
  codeAny (model P w) A (.call (.ref f) args) (CR (CX1 P w) outer P w H s Q E) s:=by
 have lim:s.heap.NoLimit:=e0.mod.nolimit.keeps λb o e=>(e0.bs b o e).1;refine codeAny_call_def (fd:=fnX name qual params body scope cl .none .none doc pm none cdv ctv) (body:=body) hr.depth ho hd lim hcd rfl hb S.nocell (λy hy=>S.par y.1 (Ycn (show(y.1,y.2)∈_ from hy)).1) (λh1 hns hk=>?_) S.co S.gen S.kind;obtain⟨t,ht,hq⟩:=hbody (hr.deeper _);have I:=jlh (tk:=s.toks+(ps.zip us).length) (qual:=qual) (f:=f) (cd:=cdv) (E:=E) S hr.hd e0 hl r hN hns hk hcl inj has hv;refine YaK (ht [] _ _ H _ I hq) (λfl s' hs=>?_) λe s' z=>?_
 ·have fin:∀{σ':St} {H':Hp} {v:V} {u:Value},Inv (cxC P w K mg base N qual scope cl f cdv A outer s H E) [] σ' H' s'->RelV v u->Q v H'->CE outer P w H s Q u s':=
   λ{σ' H' v u} J rv q=>⟨v,H',J.os,J.bare,J.base,J.hok,rv,q⟩
  cases fl with
  |ret u=>
   obtain⟨v,σ',H',J,rv,q⟩:=hs;exact fin J rv q
  |next=>
   obtain⟨σ',H',J,q⟩:=hs;exact fin (v:=V.non) (u:=Ybx) J rfl q
  |brk=>
   obtain⟨_,_,_,q⟩:=hs;exact Ybn q
  |cont=>
   obtain⟨_,_,_,q⟩:=hs;exact Ybn q
 ·show wpAny _ _ (leaving _ e) _ _ s';unfold leaving;exact Yad z
theorem Fun.runX {x qual:Str}{st:Stmt}{f:Addr}{fd:Ybk}{N ps:List Str}{k:Nat}{A:Around}{outer:List Env}{s:Shared}{H:Hp}{args:Args}{us:List Value}{vs:List V}{Q:VK}{E:XK}
  (F:Fun K x qual st f fd) (S:FnScope N ps (jaa st)) (hr:Room (k+1) A) (e0:Env0 P w K mg base A outer s H) (hb:BindsTo s fd args (ps.zip us)) (r:Vals vs us) (hl:vs.length=ps.length)
  (hbody:∀cdv,fd.code=cdv->Room k (A.deeper (envOfC qual (jaa st) s.heap.objs.size f cdv))->∃t,PSs (cx1 P w K mg base N qual (jaa st) f cdv A outer s H E) (jae st) t/\t { nx:=λ_ H'=>Q .non H',rt:=Q } (start N vs) H) :
  codeAny (model P w) A (.call (.ref f) args) (CR (CX1 P w) outer P w H s Q E) s:=by
 obtain⟨oc,od,kV,doc,pm,an,cdv,ct,osl,rfl,lk,hcd⟩:=F.ex;have kx:K.In s.heap:=e0.mod.kin.keeps λb o e=>(e0.bs b o e).1;have hcell:∀y∈ps.zip us,(jaa st).names.lookup y.1=some .local\/((jaa st).names.lookup y.1=some .cell/\((Ybe (s.heap.objs.size+1) (jaa st).names []).lookup y.1).isSome=true):=λ⟨n,v⟩ hy=>
  (S.par n (Ycn hy).1).imp id λq=>⟨q,Ycm _ _ _ (.inl q)⟩
 refine YdP hr.depth (kx _ _ lk) rfl S.co S.gen rfl (YdC kx hcd) (hb _ _ _ _ (Yc6 S.kind hcell λenv he s1 y=>?_));subst he;refine⟨(e0.mod.nolimit.keeps λb o e=>(e0.bs b o e).1).keeps y.toInCall.keep,Ygl ?_⟩;obtain⟨t,ht,hq⟩:=hbody cdv rfl (hr.deeper _);have I:Inv (cxOf (CX1 P w) P w K mg base N qual (jaa st) f cdv A outer s H E) [] (start N vs) H s1:=jcO S hr.hd e0 hl r y;refine YaK (ht [] s1 (start N vs) H _ (I.wish _) hq) (λfl s' hs=>?_) λe s' z=>?_
 ·cases fl with
  |ret u=>obtain⟨v,σ',H',J,rv,q⟩:=hs;exact⟨v,H',J.os,J.bare,J.base,J.hok,rv,q⟩
  |next=>obtain⟨σ',H',J,q⟩:=hs;exact⟨.non,H',J.os,J.bare,J.base,J.hok,rfl,q⟩
  |brk=>obtain⟨_,_,_,q⟩:=hs;exact q.elim
  |cont=>obtain⟨_,_,_,q⟩:=hs;exact q.elim
 ·show wpAny _ _ (leaving _ e) _ _ s';unfold leaving;exact Yad z
theorem CX1.outC {N:List Str}{qual:Str}{scope:Scope}{cl:List (Str×Addr)}{f:Addr}{cd:Value}{A:Around}{outer:List Env}{s s':Shared}{H H':Hp}{E:XK}{pins:List (Addr×Obj)}{σ:St}{ea:Addr}{cls:Value}{dx:Option Addr}
  (I:Inv (cxC P w K mg base N qual scope cl f cd A outer s H E) pins σ H' s') (l:Lies s.heap.objs.size [] H' s'.heap ea cls dx) (q:E cls dx H'):(cxC P w K mg base N qual scope cl f cd A outer s H E).xe (.ref ea) s':=by
 have J:Inv (cxC P w K mg base N qual scope cl f cd A outer s H E) [] σ H' s':=I.pins_of λp hp=>absurd hp (by simp)
 exact jhq (X:=cxC P w K mg base N qual scope cl f cd A outer s H E) (E:=λe s'=>CX1 P w outer H s E e s') J rfl rfl l λh' J' l'=>⟨ea,H',cls,dx,rfl,J'.os,J'.bare,J'.base,J'.hok,l',q⟩
end
def jlH (o:Obj)(q:Str):Prop:=∃vs t,o.data=.fields vs/\vs[1]?=some (.str q t)
noncomputable abbrev frzC (o:Obj):HO:=.frz o (.ext λ_=>True)
def jjX (H:Hp)(P:Addr)(pos:Pos)(q:Str):Prop:=
 H P=some (.tbl #[])\/∃c oc,H P=some (.tbl #[rawInt pos.line,rawInt pos.col,.ref c])/\H c=some (frzC oc)/\jlH oc q
def jjY (H H':Hp)(P:Addr)(pos:Pos)(q:Str)(c:Addr)(oc:Obj):Prop:=
 H' c=some (frzC oc)/\jlH oc q/\(H'=H\/(H P=some (.tbl #[])/\H c=none/\H'=upd (upd H c (frzC oc)) P (.tbl #[rawInt pos.line,rawInt pos.col,.ref c])))
def BmAt (mg:Str->Option Value)(base:Heap):Prop:=∃bm ob,mg "__builtins__" = some (.ref bm)/\bm≠YdX/\base.get? bm=some ob/\ob.cls=.type "module" /\ ob.dict=some YdX/\ob.data=.plain
section
variable {X:Cx}{pins:List (Addr×Obj)}{σ:St}{H:Hp}{s:Shared}
theorem jiT {name:Str}{params:YcL}{body:List Stmt}{scope:Scope}{pos:Pos}{c P:Addr}{i:Nat}{Q:Flow->Shared->Prop}(I:Inv X pins σ H s)(hN:X.N.Nodup)(hi:X.N[i]?=some name)(hx:Loc X.env.scope name)(hfn:X.fn name=true\/X.env.scope.names.lookup name=some .local)
  (hcd:X.env.code=.ref c) (hC:CodeHd X.base c P) (hB:BmAt X.mg X.base) (hT:jjX H P pos (YcV X.env name name)) (hd0:params.defaults=[]) (hk0:params.kw_defaults=[]) (ha:annTrees params none X.env=[])
  (hfree:∀y∈scope.names,y.2=.free->∃c,X.env.cells.lookup y.1=some c)
  (h:∀f c' oc doc ctv H' s',jjY H H' P pos (YcV X.env name name) c' oc->
   Inv X (pins++[(f,fnMade name (YcV X.env name name) params body scope (jbo X.env.cells scope.names []) doc ((X.mg "__name__").getD .none) c' ctv)]) (σ.set i (some (.ref f))) H' s'->Q .next s') :
  wpAny (model X.prog X.w) X.A (exec (.FunctionDef name params body [] none [] scope none name pos) X.env) Q X.xe s:=by
 refine nestDef_K hd0 hk0 ha ?_;have hg:s.heap.Ns YaB X.mg:=I.mod.glob.keeps I.bk;obtain⟨bm,ob,b1,b2,b3,b4,b5,b6⟩:=hB;have b3s:=I.bk _ _ b3;have neG:bm≠YaB:=λq=>by
  obtain⟨o,es,ep,e,hd,_⟩:=hg;rw[q,e]at b3s;cases b3s;rw[hd]at b6;cases b6
 have noP:∀{ps:Array Value},s.heap.get? P=some (tabObj ps)->YaB≠P/\bm≠P:=by
  intro ps hP;constructor
  ·intro q;obtain⟨o,es,ep,e,hd,_⟩:=hg;rw[q,hP]at e;cases e;cases hd
  ·intro q;rw[q,hP]at b3s;cases b3s;cases b4
 have pinOk:∀{f:Addr} {fo:Obj} {H':Hp} {s':Shared},s.heap.objs.size<=f->s'.heap.get? f=some fo->H' f=none->(∀v,fo.data≠.cell v)->Inv X pins σ H' s'->Inv X (pins++[(f,fo)]) σ H' s':=λ{f fo H' s'} hf hg hn hd J=>
  J.pins_of λp hp=>(List.mem_append.mp hp).elim (λz=>J.pin p (Yaz _ z)) λz=>by
   rw[List.mem_singleton.mp z];exact⟨hg,hn,Yfu (Yaq I.lt hf),I.nofs hf,hd⟩
 rcases hT with hP|⟨c',oc,hP,hc',hco⟩
 ·have gP:s.heap.get? P=some (tabObj #[]):=I.hok P _ hP;refine makeFunction_K (mg:=X.mg) (jbQ hfree) I.ok.glob hg hcd (hC.keeps I.bk) gP trivial rfl (noP gP).1 ⟨bm,ob,b1,b2,neG,(noP gP).2,b3s,b4,b5,b6⟩ λc' ctv doc h' tk hx1 hge hlt hrec htb=>?_;obtain⟨c2,oc,vs,t,e2,hoc,hdc,hvc⟩:=hrec;cases e2;have hcn:H c'=none:=I.hok.fresh hge;have hcP:c'≠P:=λz=>by rw[z,hP]at hcn;cases hcn
  have htb':h'.get? P=some (tabObj #[rawInt pos.line,rawInt pos.col,.ref c']):=by
   have e:(#[]:Array Value)++#[rawInt pos.line,rawInt pos.col,.ref c']=#[rawInt pos.line,rawInt pos.col,.ref c']:=by simp
   rw[e]at htb;exact htb
  let fo:=fnMade name (YcV X.env name name) params body scope (jbo X.env.cells scope.names []) doc ((X.mg "__name__").getD .none) c' ctv
  let H':=upd (upd H c' (frzC oc)) P (.tbl #[rawInt pos.line,rawInt pos.col,.ref c'])
  have oth:∀b,b≠P->b≠c'->H' b=H b:=λb h1 h2=>by show upd _ _ _ b=_;rw[jad h1,jad h2]
  have hPP:H' P=some (.tbl #[rawInt pos.line,rawInt pos.col,.ref c']):=jag;have hcc:H' c'=some (frzC oc):=by show upd _ _ _ c'=_;rw[jad hcP,jag]
  have neP:∀b,H b=none->b≠P:=λb n z=>by rw[z,hP]at n;cases n
  have neC:∀b o,s.heap.get? b=some o->b≠c':=λb o e z=>absurd (Yal e) (Nat.not_lt.mpr (z ▸ hge));have kp:∀b o,b≠P->s.heap.get? b=some o->(h'.push fo).get? b=some o:=λb o hb e=>Yae _ (hx1 b o hb e);have trc:∀b u,H b=some u->b≠c':=λb u e z=>by rw[z,hcn]at e;cases e
  have un:Un X.fs [] H H' s.heap (h'.push fo):=by
   refine⟨λb o e n _ _=>kp b o (neP b n) e,λb o e n _ _=>⟨o.slots,kp b o (neP b n) e⟩,λb o e n _=>?_,λb o e _=>?_,λb xs e=>?_,λb o u e=>?_,λb ps e=>?_⟩
   ·rw[oth b (neP b n) (neC b o e)];exact n
   ·by_cases hb:b=P
    ·exact⟨_,by rw[hb];exact Yae _ htb'⟩
    ·exact⟨o,kp b o hb e⟩
   ·rw[oth b (λz=>by rw[z,hP]at e;cases e) (trc b _ e)];exact e
   ·rw[oth b (λz=>by rw[z,hP]at e;cases e) (trc b _ e)];exact e
   ·by_cases hb:b=P
    ·subst hb;rw[hP]at e;cases e;exact⟨#[rawInt pos.line,rawInt pos.col,.ref c'],by rw[hPP];simp⟩
    ·exact⟨#[],by rw[oth b hb (trc b _ e),e];simp⟩
  have hok:HOk X.prog X.w H' (h'.push fo):=λb u e=>by
   by_cases hb:b=P
   ·subst hb;rw[hPP]at e;cases e;exact Yae _ htb'
   ·by_cases hbc:b=c'
    ·subst hbc;rw[hcc]at e;cases e;exact⟨Yae _ hoc,trivial,⟨_,Yae _ hoc⟩,λ_ _ _ _=>trivial⟩
    ·rw[oth b hb hbc]at e;refine(I.hok b u e).stay (λd v hd q=>kp d v ?_ q) (λd q=>?_) λd xs q=>?_
     ·rcases hd with rfl|hd
      ·exact hb
      ·intro z;rw[z,hP]at hd;cases hd
     ·rw[oth d (λz=>by rw[z,hP]at q;cases q) (trc d _ q)];exact q
     ·rw[oth d (λz=>by rw[z,hP]at q;cases q) (trc d _ q)];exact q
  have hfs:s.heap.objs.size<=h'.objs.size:=YbZ (Ya3 hge hlt);have hfn':H' h'.objs.size=none:=by
   have hn:H h'.objs.size=none:=I.hok.fresh hfs;rw[oth _ (neP _ hn) (Yfu hlt)];exact hn
  have J:=pinOk (fo:=fo) (s':={ s with heap:=h'.push fo,toks:=tk }) hfs (Yas _ rfl) hfn' (λv z=>by cases z) (I.un (t':=tk) un hok)
  exact jcn J hN hi hx (v:=.ref h'.objs.size) rfl (λs' J'=>h _ c' oc doc ctv H' s' ⟨hcc,⟨vs,t,hdc,hvc⟩,.inr ⟨hP,hcn,rfl⟩⟩ J') hfn
 ·have gP:s.heap.get? P=some (tabObj #[rawInt pos.line,rawInt pos.col,.ref c']):=I.hok P _ hP;refine makeFunction_hit (mg:=X.mg) (cv:=.ref c') (jbQ hfree) I.ok.glob hg hcd (hC.keeps I.bk) gP trivial (by simp[codeAmong,rawInt]) ⟨bm,ob,b1,b2,neG,(noP gP).2,b3s,b4,b5,b6⟩ λctv doc h' tk hk hsz=>?_
  have kp:∀b o,s.heap.get? b=some o->(h'.push (fnMade name (YcV X.env name name) params body scope (jbo X.env.cells scope.names []) doc ((X.mg "__name__").getD .none) c' ctv)).get? b=some o:=λb o e=>Yae _ (hk b o e);have J:=pinOk (fo:=fnMade name (YcV X.env name name) params body scope (jbo X.env.cells scope.names []) doc ((X.mg "__name__").getD .none) c' ctv) (H':=H) (s':={ s with heap:=_,toks:=tk }) hsz (Yas _ rfl) (I.hok.fresh hsz) (λv z=>by cases z) (I.kept (t':=tk) kp)
  exact jcn J hN hi hx (v:=.ref h'.objs.size) rfl (λs' J'=>h _ c' oc doc ctv H s' ⟨hc',hco,.inl rfl⟩ J') hfn
end
def jjd (tb:List Addr)(H:Hp):Prop:=∀b,if b∈tb then H b=some (.tbl #[]) else H b=none\/∃o xs,H b=some (.frz o (.lst xs))
theorem law_callT {P:Program}{w:World}{K:Yaa}{mg mb:Str->Option Value}{CX:CXT}{k:Nat}{fa a:Addr}{fd:Ybk}{x:Str}{sp:Sp}{s₁:Shared}{vs:List Value}{ns:List Int}{tb:List Addr}
  (hKl:(K.all λp=>p.2.cls != .type "list")=true) (htb:∀b∈tb,s₁.heap.get? b=some (tabObj #[])/\isCodeTable s₁.heap b/\K.lookup b=none) (hbm:BmAt mg s₁.heap)
  (KX:K.In s₁.heap) (hsys:∃o,K.lookup Ya7=some o/\o.cls=.type "dict") (hns:s₁.heap.Ns YaB mg) (hb:s₁.heap.Ns YdX mb) (hbb:∀x:Str,x ≠ "__name__" -> mb x=YbK x) (hlim:s₁.heap.NoLimit) (hg:s₁.gens=#[])
  (ha:s₁.heap.get? a=some { cls:=.type "list",data:=.seq vs.toArray }) (hi:IntsAre vs ns) (hl:ns.length<=Yac) (hr:Room k callerA)
  (F:∀base:Heap,K.In base->base.Ns YaB mg->BmAt mg base->FnOk P w K mg base CX k fa fd [x] sp) (hbind:∀(s:Shared) (u:Value),BindsTo s fd ⟨[u],[]⟩ [(x,u)])
  (hsp:∀(H:Hp) (o:Obj),jjd tb H->H a=some (.frz o (.lst (ns.map V.int)))->sp [.ref a] H (λv _=>v=.bl true) λ_ _ _=>False)
  (hCX:∀H e s',CX [] H s₁ (λ_ _ _=>False) e s'->False) :
  codeAny (model P w) callerA (.call (.ref fa) ⟨[.ref a],[]⟩) (λr s'=>r=.ok (.ret (.bool true))/\OldK s₁.heap s'.heap/\s'.os=s₁.os/\AllBare s'.gens) s₁:=by
 have ka:K.lookup a=none:=by
  cases hk:K.lookup a with
  |none=>rfl
  |some o=>
   have e:=KX a o hk;rw[ha]at e;cases e;have:=Ydg.mp hKl (a,_) (mem_of_lookupK hk);simp at this
 let oa:Obj:={ cls:=.type "list",data:=.seq vs.toArray }
 have hat:a∉tb:=λz=>by
  have e:=(htb a z).1;rw[ha]at e;cases e
 obtain⟨H,hH⟩:∃H:Hp,H=λb=>if b∈tb then some (.tbl #[]) else if b=a then some (.frz oa (.lst (ns.map V.int))) else none:=⟨_,rfl⟩
 have H1:∀{b},b∈tb->H b=some (.tbl #[]):=λhb=>by rw[hH];exact if_pos hb
 have H2:H a=some (.frz oa (.lst (ns.map V.int))):=by
  rw[hH];show(if a∈tb then _ else if a=a then _ else _)=_
  rw[if_neg hat,if_pos rfl]
 have H3:∀{b},b∉tb->b≠a->H b=none:=λ{b} h1 h2=>by
  rw[hH];show(if b∈tb then _ else if b=a then _ else _)=_
  rw[if_neg h1,if_neg h2]
 clear hH;have free:∀{b:Addr} {o:Obj},s₁.heap.get? b=some o->o.cls≠.none->(∀xs n,o.data≠.seq xs n)->H b=none:=λ{b o} e h1 h2=>by
  refine H3 (λz=>?_) λz=>?_
  ·have e2:=(htb b z).1;rw[e]at e2;cases e2;exact h1 rfl
  ·rw[z,ha]at e;cases e;exact h2 _ _ rfl
 have hok:HOk P w H s₁.heap:=λb u e=>by
  by_cases h1:b∈tb
  ·rw[H1 h1]at e;cases e;exact(htb b h1).1
  ·by_cases h2:b=a
   ·subst h2;rw[H2]at e;cases e;exact⟨ha,by rw[Yah];exact hl,vs,_,jdV hi,ha⟩
   ·rw[H3 h1 h2]at e;cases e
 have nsK:∀{b:Addr} {m:Str->Option Value},s₁.heap.Ns b m->(hidT s₁.heap H).Ns b m:=λ{b m} ⟨o,es,ep,e,d,r⟩=>by
  refine⟨o,es,ep,jdO e (H3 (λz=>?_) λz=>?_),d,r⟩
  ·have e2:=(htb b z).1;rw[e]at e2;cases e2;cases d
  ·rw[z,ha]at e;cases e;cases d
 have hKb:K.In (hidT s₁.heap H):=λb o e=>jdO (KX b o e) (H3 (λz=>by rw[(htb b z).2.2]at e;cases e) λz=>by rw[z,ka]at e;cases e)
 have hM:Mod K mg (hidT s₁.heap H):=⟨hKb,nsK hns,⟨mb,nsK hb,hbb⟩,let ⟨mc,h1,h2⟩:=hlim;⟨mc,nsK h1,h2⟩,hsys⟩
 have hBb:BmAt mg (hidT s₁.heap H):=by
  obtain⟨bm,ob,b1,b2,b3,b4,b5,b6⟩:=hbm;exact⟨bm,ob,b1,b2,jdO b3 (free b3 (by rw[b4];nofun) (by rw[b6];nofun)),b4,b5,b6⟩
 have e0:Env0 P w K mg (hidT s₁.heap H) callerA [] s₁ H:=⟨rfl,hM,λb o e=>jk0 e,Yei (jhF _ _),trivial,λb hb=>(nomatch hb),hok,.of_eq hg⟩;have only:jjd tb H:=λb=>by
  by_cases h1:b∈tb
  ·rw[if_pos h1];exact H1 h1
  ·rw[if_neg h1];by_cases h2:b=a
   ·subst h2;exact .inr ⟨_,_,H2⟩
   ·exact .inl (H3 h1 h2)
 refine Ydb ((F _ hKb (nsK hns) hBb).run callerA [] s₁ H ⟨[.ref a],[]⟩ [.ref a] [.ref a] _ _ hr e0 (hbind s₁ (.ref a)) (.cons rfl .nil) (hsp H oa only H2)) λr s' h=>?_
 match r,h with
 |.error e,h=>exact(hCX H e s' h).elim
 |.ok (.ret u),h=>
  obtain⟨v,H',os,bare,un,hok',r',q⟩:=h;have q':v=.bl true:=q;subst q';obtain rfl:u=YeP true:=r';refine⟨rfl,⟨λb o e=>?_,λb o e=>un.there b o e (by simp)⟩,os,bare⟩
  by_cases h1:b∈tb
  ·obtain⟨e1,ht,_⟩:=htb b h1;rw[e]at e1;cases e1;obtain⟨more,e2⟩:=un.tbls b _ (H1 h1);exact .inr (.inl ⟨ht,rfl,#[],more,rfl,hok' b _ e2⟩)
  ·by_cases h2:b=a
   ·subst h2;obtain⟨e2,_⟩:=hok' b _ (un.frzs b _ _ H2);rw[ha]at e;cases e;exact .inl e2
   ·exact .inl (un.keep b o e (H3 h1 h2) (by intro z;exact(nomatch z)) (by simp))
theorem walk_ofT {l:Yea}{n k:Nat}{q:Program}{loose:List Str}{XP:(Str->Option Value)->Heap->Prop}{YP:World->Heap->Prop}{d:DefRec}{K:Params->Yaa}{CX:World->CXT}{sp:World->Sp}{x:Str}{tbs:List (Str×Addr×Addr)}
  (hKl:∀w:World,((K w.params).all λp=>p.2.cls != .type "list")=true) (htb:∀(w:World),∀t∈tbs,(∃dr,(recsOf q).find? (λe=>e.name==t.1)=some dr)/\tabIn (K w.params) t.1=some (t.2.1,t.2.2)/\(K w.params).lookup t.2.2=none)
  (hn:l.most=some n) (hn2:n<=Yac) (hdf:d.params.defaults=[]) (hr:Room k callerA)
  (hY:∀(w:World) (h:Heap),YP w h->(K w.params).In h) (hsy:∀w:World,∃o,(K w.params).lookup Ya7=some o/\o.cls=.type "dict")
  (F:∀(w:World) (mg:Str->Option Value) (fa:Addr) (h:Heap),(K w.params).In h->h.Ns YaB mg->mg d.name=some (.ref fa)->
   ∃fd:Ybk,(∀(s:Shared) (u:Value),BindsTo s fd ⟨[u],[]⟩ [(x,u)])/\
    ∀base:Heap,(K w.params).In base->base.Ns YaB mg->BmAt mg base->FnOk l.prog w (K w.params) mg base (CX w) k fa fd [x] (sp w))
  (hsp:∀(w:World) (H:Hp) (o:Obj) (a:Addr) (ns:List Int),ns.length<=n->jjd (tbs.map (·.2.2)) H->H a=some (.frz o (.lst (ns.map V.int)))->sp w [.ref a] H (λv _=>v=.bl true) λ_ _ _=>False)
  (hCX:∀(w:World) (H:Hp) (s:Shared) (e:Value) (s':Shared),CX w [] H s (λ_ _ _=>False) e s'->False) :
  Ygn q loose XP YP l.row.toRowW d [] (λf vs=>YfU f vs):=by
 refine Att.attach_call hn hdf λw s₀ s₁ mg mb fa o pm cd doc a vs ns G Y ho hd hcd hmg hobj hints hlen hg=>?_;have kx:=hY w _ Y;obtain⟨fd,hb,hF⟩:=F w mg fa _ kx G.T.g hmg;refine law_callT (tb:=tbs.map (·.2.2)) (hKl w) (λb hb=>?_) ?_ kx (hsy w) G.T.g G.T.b G.T.builtins G.T.nolimit hg hobj hints (Yak hlen hn2) hr hF hb (λH o hO hS=>hsp w H o a ns hlen hO hS) λH e s'=>hCX w H s₁ e s'
 ·obtain⟨t,ht,rfl⟩:=List.mem_map.mp hb;obtain⟨⟨dr,h1⟩,h2,h3⟩:=htb w t ht;obtain⟨c1,c2⟩:=tab_of G.T kx h1 h2;exact⟨c2,(c1.tab c2).isCodeTable,h3⟩
 ·obtain⟨bm,ob,b1,b2,b3,b4,b5,b6⟩:=G.T.bmain;exact⟨bm,ob,b1,b2,b3,b4,b5,b6⟩
end L2

namespace L2
open PySem PySem.Spec PyProof.Rows
open Sem (wp)
open AutoSeq1 (wpAny_loadPart')
section
variable {prog:Program}{w:World}{A:Around}{E:Value->Shared->Prop}{s:Shared}
end
section
variable {X:Cx}{pins:List (Addr×Obj)}{σ:St}{H:Hp}{s:Shared}{h':Heap}
end
section
variable {X:Cx}
end
end L2

namespace L2
open PySem PySem.Spec PyProof.Rows
section
variable {X:Cx}
theorem jg7:OpR X (YaM .LtE) (λx y H Q=>∃i j,x=.str i/\y=.str j/\Q (.bl (!decide (j.cps.toList<i.cps.toList))) H):=by
 intro pins s σ H x y v u Q I rx ry h;obtain⟨i,j,rfl,rfl,q⟩:=h;obtain⟨t,rfl⟩:=rx;obtain⟨t',rfl⟩:=ry;exact PySem.P.le_str (jak I q rfl)
theorem jdU:jaG X (.type "int") (λxs H Q=>∃z n,xs=[.str z]/\PySem.intText? z=some n/\z.length<=640/\Q (.int n) H):=by
 intro pins s σ H xs us Q I r h;obtain⟨z,n,rfl,h1,h2,q⟩:=h;obtain⟨u,rfl,rx⟩:=jcf r;obtain⟨t,rfl⟩:=rx;exact PySem.W.KIN.call_text h1 h2 ⟨.int n,H,I.tok _,⟨_,rfl⟩,q⟩
noncomputable def Its (x:Str):It:=⟨λi _=>i<x.cps.size,λi H y H'=>H'=H/\∃c,x.cps[i]?=some c/\y=.str ⟨#[c]⟩,λi _=>x.cps.size<=i⟩
theorem jim {P:Program}{w:World}{K:Yaa}{tg:Expr}(x:Str)(t:Tok)(it:Addr):Turn P w K tg (Its x) [it] it (λi h=>h.IsStrIter it "str_ascii_iterator" x t i) where
 mem:=by simp
 obj:=λi h st b hb=>by
  obtain rfl:b=it:=by simpa using hb
  obtain⟨o,e,c,d⟩:=st;exact⟨o,e,λv z=>by rw[d]at z;cases z⟩
 keep:=λi h h' st k=>let ⟨o,e,r⟩:=st;⟨o,k it (by simp) o e,r⟩
 item:=by
  intro X hP hw hK hc i pins s σ H E I hf st hg;subst hP hw hK;obtain⟨f0,f1,f2,f3,f4,f5⟩:=hf it (by simp)
  have hg:i<x.cps.size:=hg;have hx:x.cps[i]?=some x.cps[i]:=by simp[hg]
  refine wpAny_pyNext_ascii_item st hx λh' st' sb=>?_;have I1:Inv X pins σ H { s with heap:=h',toks:=s.toks+1 }:=I.turned (t':=s.toks+1) (λb o hb e=>(sb.2 b hb).trans e) f0 f1 f3 f4 f5
  obtain⟨o,e,c,d⟩:=id st';exact⟨_,rfl,ji3 (s:={ s with heap:=h',toks:=s.toks+1 }) e c d (by decide) ⟨.str ⟨#[x.cps[i]]⟩,H,I1,⟨_,rfl⟩,⟨rfl,_,hx,rfl⟩,st',λb hb=>(hf b hb).1⟩⟩
 done:=by
  intro X hP hw hK hc i pins s σ H E I hf st hg;subst hP hw hK;obtain⟨f0,f1,f2,f3,f4,f5⟩:=hf it (by simp)
  have hg:x.cps.size<=i:=hg;exact wpAny_pyNext_ascii_end (I.ok.hd hc) st (by simpa using hg) λh' eb=>⟨rfl,I.turned (t':=s.toks) (λb o hb e=>eb b o hb e) f0 f1 f3 f4 f5⟩
 self:=λ_ _ _ _ _ st h=>wpAny_pyIter_striter_ascii st h
def iStr (tl:TE):TI:=λσ H R=>tl σ H λx H1=>∃z:Str,x=.str z/\z.cps.all (·< 128)=true/\R (Its z) H1
theorem jmq {tg l:Expr}{tl:TE}(hl:PE X l tl):PI X tg l (iStr tl):=by
 intro pins s σ H R I h;refine thn (hl pins s σ H _ I h) λv s1 ⟨x,H1,I1,r1,z,e,ha,q⟩=>?_;subst e;obtain⟨t,rfl⟩:=r1;refine wpAny_pyIter_ascii ha ?_;refine⟨s1.heap.objs.size,[s1.heap.objs.size],_,_,H1,rfl,I1.kept (t':=s1.toks) λb o e=>Yae _ e,jim z t _,⟨_,Yas _ rfl,rfl,rfl⟩,λb hb=>?_,q⟩;obtain rfl:b=s1.heap.objs.size:=by simpa using hb
 exact I1.fpOk (Yaf _) (I1.hok.fresh (Yaf _))
abbrev TF:=St->Hp->(List Str->Hp->Prop)->Prop
noncomputable def cats (out:Str)(ys:List Str):Str:=ys.foldl (·++·) out
def PJ (X:Cx)(vs:List Expr)(t:TF):Prop:=
 ∀(out:Str) (pins:List (Addr×Obj)) (s:Shared) (σ:St) (H:Hp) (Q:VK),out.length+10000*vs.length<=Yac->Inv X pins σ H s->t σ H (λys H1=>Q (.str (cats out ys)) H1)->wpAny (model X.prog X.w) X.A (joinParts out (evalEach vs X.env)) (EP X pins σ Q) X.xe s
theorem jfY {prog:Program}{w:World}{A:Around}{E:Value->Shared->Prop}{it a:Addr}{its:Array Value}(hne:a≠it):∀(m i:Nat) (s:Shared) (Q:List Value->Shared->Prop),s.heap.IsListIter it a i->s.heap.IsList a its->i+m<=its.size->
  (∀h',h'.IsListIter it a (i+m)->Yds it s.heap h'->Q ((its.toList.drop i).take m) { s with heap:=h' })->wpAny (model prog w) A (draw (.ref it) m) Q E s
 |0,i,s,Q,hit,_,_,q=>Yam (by simpa using q s.heap hit (Yds.refl ..))
 |m+1,i,s,Q,hit,hl,hle,q=>by
  have hi:i<its.size:=by omega
  show wpAny _ _ (pyNext (.ref it) >>= _) Q E s;refine Yad (Yf5 hit hl (x:=its[i]) (by simp[hi]) λh1 hit1 sb1=>?_)
  refine Yad (Ybo (jfY hne m (i+1) _ _ hit1 (hl.extBut sb1.extBut hne) (by omega) λh2 hit2 sb2=>Yam ?_))
  have e:its.toList.drop i=its[i]::its.toList.drop (i+1):=by simp[Ybi,hi]
  have r:=q h2 (by rw[show i+(m+1)=i+1+m by omega];exact hit2) (sb1.trans sb2)
  rw[e,List.take_succ_cons]at r;exact r
def gLst (K:Yaa)(n:Nat)(t:TGs):TG:=λv σ H Q=>∃a xs,v=.ref a/\SqL K H a xs/\xs.length=n/\t xs σ H Q
theorem jmu {es:List Expr}{k n:Nat}{pos:Pos}{t:TGs}(hc:X.calm=true)(h:PGs X es t)
  (hn:(YaY es X.env).length=n:=by rfl) (hst:(YaY es X.env).findIdx? (·.1)=none:=by rfl):PG X (.Tuple es k pos) (gLst X.K n t):=by
 intro pins s σ H v u Q I r hw;obtain⟨a,xs,rfl,hq,hl,hw⟩:=hw;cases r;obtain⟨its,rv,hp,hz⟩:=I.list hq;have hL:=hp.isList;have hlt:a≠s.heap.objs.size:=by obtain⟨o,ho,_⟩:=hL;exact YaF (Yal ho)
 have sz:its.toArray.size=n:=by rw[Yai,<- rv.length];exact hl
 rw[assign_Tuple];refine Yad (Ycb ?_);unfold unpack;rw[hn,hst];refine Yad (Ybo ?_);unfold unpackItems;refine Yad ?_;unfold notIterableAtAll;refine Yad (wpAny_specialOf hL.typeIs slot_list_iter.lookup ?_);refine Yam ?_;simp only[Ybp,if_false];refine Yad (Ybo (Ydl hL ?_));refine Yad (Ybo (jfY hlt n 0 _ _ ⟨_,Yas _ rfl,rfl,rfl⟩ (hL.push _) (by omega) λh1 hit1 sb1=>?_))
 have hall:List.take n (List.drop 0 its.toArray.toList)=its:=by
  rw[YcX];exact Ycs (by simp;rw[<- rv.length];omega)
 rw[hall];have hil:its.length=n:=by rw[<- rv.length];exact hl
 rw[if_neg (by omega)]
 have hL1:h1.IsList a its.toArray:=(hL.push _).extBut sb1.extBut hlt;refine Yad (Ybo (Ygg (I.ok.hd hc) hit1 hL1 (by simp;omega) λh2 eb=>?_))
 simp only[Option.isSome_none,Ybp,if_false];refine Yam ?_;have I1:Inv X pins σ H { s with heap:=h2 }:=I.kept (t':=s.toks) λb o e=>eb b o (YaF (Yal e)) (sb1.extBut b o (YaF (Yal e)) (Yae _ e))
 exact h pins _ σ H xs _ Q I1 rv hw
end
end L2

namespace L2
open PySem PySem.Spec PyProof.Rows Builtin Builtin.Str
theorem jgu (x y z:Str)(t u v w:Tok)(h0:(u==0||v==0)=false)(huv:(u==v)=false)(hyz:(y==z)=false)(hy:(y.length==0&&z.length==0)=false)
  (hl:tooLong (x.length+(occurrences x y 0 x.length 1).length*z.length)=false) :
  Gives («str.replace» ⟨[.str x t,.str y u,.str z v,.int 1 w],[]⟩) (if (occurrences x y 0 x.length 1).isEmpty=true then .val (.str x t) else .str (glued z (partsBetween x (occurrences x y 0 x.length 1) y.length))):=by
 have body:∀n:Nat,(limit:Sem Nat)->limit=pure n->Gives ((limit >>= λm=>if ((occurrences x y 0 x.length m).isEmpty||(y.length==0&&z.length==0))=true then (rule "str.replace.nothing" >>= λ_=>ret (.str x t)) else
   isSame (.str y u) (.str z v) >>= λsame=>if same=true then (rule "str.replace.old-is-new" >>= λ_=>ret (.str x t)) else if tooLong (x.length+(occurrences x y 0 x.length m).length*z.length)=true then unsupported "str.replace:memory" else
    retStr (glued z (partsBetween x (occurrences x y 0 x.length m) y.length)))) (if (occurrences x y 0 x.length n).isEmpty=true then .val (.str x t) else .str (glued z (partsBetween x (occurrences x y 0 x.length n) y.length)))\/tooLong (x.length+(occurrences x y 0 x.length n).length*z.length)=true:=by
  rintro n limit rfl;cases hl:tooLong (x.length+(occurrences x y 0 x.length n).length*z.length)
  ·left;show Gives (if _=true then _ else _) _
   rw[hy,Ye4];cases hc:(occurrences x y 0 x.length n).isEmpty
   ·rw[isSame_str_other y z u v h0 huv hyz];show Gives (if tooLong _=true then _ else _) _
    rw[hl];exact .of_eq rfl
   ·exact .rule (.of_eq rfl)
  ·exact .inr rfl
 rcases body 1 (countLimit "str.replace" (some (.int 1 w)) (x.length+1)) (countLimit_int "str.replace" 1 w (x.length+1) (by decide))with h|h
 ·exact h
 ·rw[hl]at h;cases h
theorem jiy (x y z:Str):(glued z (partsBetween x (occurrences x y 0 x.length 1) y.length)).length<=x.length+z.length:=by
 have h1:=YeW x y 0 x.length 1;have hy:(glued y (partsBetween x (occurrences x y 0 x.length 1) y.length)).length=x.length:=by rw[Yef]
 rw[size_glued,Yc0,Ygb]at hy;rw[size_glued,Yc0,Ygb];have h2:(occurrences x y 0 x.length 1).length*z.length<=1*z.length:=YcI _ h1;omega
theorem jfT (sep:Str){c:Nat}:∀(rest:List Str) (acc:Array Nat),c∈(rest.foldl (λacc p=>acc++sep.cps++p.cps) acc).toList->c∈acc.toList\/c∈sep.cps.toList\/∃p∈rest,c∈p.cps.toList
 |[],_,h=>.inl h
 |p::r,acc,h=>by
  rw[Ydr]at h;rcases jfT sep r _ h with z|z|⟨y,hy,z⟩
  ·rw[Yfz,Yfz]at z;rcases List.mem_append.mp z with z|z
   ·rcases List.mem_append.mp z with z|z
    ·exact .inl z
    ·exact .inr (.inl z)
   ·exact .inr (.inr ⟨p,Yao ..,z⟩)
  ·exact .inr (.inl z)
  ·exact .inr (.inr ⟨y,Yag _ hy,z⟩)
theorem jkg {x:Str}{i j c:Nat}(h:c∈(strSub x i j).cps.toList):c∈x.cps.toList:=by
 unfold strSub at h;have h:c∈(x.cps.extract i j).toList:=h;rw[Array.toList_extract]at h;exact YcG (YdA h)
theorem jd4 {x p:Str}{cuts:List Nat}{n c:Nat}(hp:p∈partsBetween x cuts n)(h:c∈p.cps.toList):c∈x.cps.toList:=by
 unfold partsBetween at hp;obtain⟨⟨i,j⟩,_,rfl⟩:=List.mem_map.mp hp;exact jkg h
theorem jix {x y z:Str}{n c:Nat}(h:c∈(glued z (partsBetween x (occurrences x y 0 x.length n) y.length)).cps.toList):c∈x.cps.toList\/c∈z.cps.toList:=by
 cases e:partsBetween x (occurrences x y 0 x.length n) y.length with
 |nil=>rw[e]at h;exact nomatch h
 |cons p r=>
  have hm:∀q∈p::r,c∈q.cps.toList->c∈x.cps.toList:=λq hq hc=>jd4 (by rw[e];exact hq) hc
  rw[e]at h;rcases jfT z r p.cps h with w|w|⟨q,hq,w⟩
  ·exact .inl (hm p (Yao ..) w)
  ·exact .inr w
  ·exact .inl (hm q (Yag _ hq) w)
section
variable {X:Cx}
theorem jhl {pins:List (Addr×Obj)}{s:Shared}{σ:St}{H:Hp}{i:Nat}{x:Str}{pos:Pos}{v:V}{Q:Value->Shared->Prop}(I:Inv X pins σ H s)(hN:X.N[i]?=some x)(hv:Vis X.env.scope x)(hd:(x==("__debug__" : Str))=false)(hcd:(x==("__classdict__" : Str))=false)
  (e:σ[i]?=some (some v)) (h:∀u,RelV v u->Q u s):wpAny (model X.prog X.w) X.A (eval (.Name x pos) X.env) Q X.xe s:=by
 obtain⟨m,hn,hl⟩:=I.loc;obtain⟨u,r,l⟩:=hl i x v hN e hv;rcases l with⟨hk,hm⟩|⟨hk,c,hc,hcell⟩
 ·exact YdW (wpAny_loadName_local I.ok.kind hk hn hm (h u r)) hd
 ·rcases hk with hk|hk
  ·exact YdW (wpAny_loadName_cell I.ok.kind hk hc hcell (h u r)) hd
  ·exact YdW (wpAny_loadName_free I.ok.kind hk hc hcell (h u r) hcd) hd
def tRep (i:Nat)(y0 b:Str)(ts:TA):TA:=λσ H Q=>∃z:Str,σ[i]?=some (some (.str z))/\y0.length+z.length<=Yac/\z.length+b.length<=Yac/\
 ∀w:Str,w.length<=z.length+b.length->(∀c∈w.cps.toList,c∈z.cps.toList\/c∈b.cps.toList)->ts σ H λxs H2=>Q (.str (y0++z)::.str w::xs) H2
theorem jmB {i:Nat}{x y0 a b:Str}{es:List Expr}{ts:TA}{k0 k1 k2 k3:Nat}{p0 p1 p2 p3 p4 p5 p6 p7 p8:Pos}(hN:X.N[i]?=some x)(hv:Vis X.env.scope x)(hd:(x==("__debug__" : Str))=false)(hcd:(x==("__classdict__" : Str))=false)
  (hy0:(y0.length==0)=false) (hab:(a==b)=false) (hl:(a.length==0&&b.length==0)=false) (hline:(p4.endLine==p8.line)=true) (hr:PA X es ts) :
  PA X (.BinOp (.Constant (.str y0) k0 p0) .Add (.Name x p1) p2::.Call (.Attribute (.Name x p3) "replace" p4) [.Constant (.str a) k1 p5,.Constant (.str b) k2 p6,.Constant (.int 1) k3 p7] [] p8::es) (tRep i y0 b ts):=by
 intro pos pins s σ H Q I h;obtain⟨z,e,l1,l2,h⟩:=h;show wpAny _ _ (spliced ((false,_)::(false,_)::backTo pos (Yar es X.env))) _ _ s;have two:∀(t':Tok) (tk:Nat),0<tk->wpAny (model X.prog X.w) X.A (spliced ((false,eval (.Call (.Attribute (.Name x p3) "replace" p4) [.Constant (.str a) k1 p5,.Constant (.str b) k2 p6,.Constant (.int 1) k3 p7] [] p8) X.env)::backTo pos (Yar es X.env)))
   (λvs s2=>AP X pins σ Q (.str (y0++z) t'::vs) s2) X.xe { s with toks:=tk }:=by
  intro t' tk htk;have I1:Inv X pins σ H { s with toks:=tk }:=I.tok tk
  have fin:∀(w:Str) (t2:Tok) (tk2:Nat),w.length<=z.length+b.length->(∀c∈w.cps.toList,c∈z.cps.toList\/c∈b.cps.toList)->wpAny (model X.prog X.w) X.A (spliced (backTo pos (Yar es X.env))) (λvs s2=>AP X pins σ Q (.str (y0++z) t'::.str w t2::vs) s2) X.xe { s with toks:=tk2 }:=λw t2 tk2 hw hw2=>
   thn (hr pos pins _ σ H _ (I.tok tk2) (h w hw hw2)) λus s2 ⟨xs,H2,I2,r2,q2⟩=>⟨.str (y0++z)::.str w::xs,H2,I2,.cons ⟨_,rfl⟩ (.cons ⟨_,rfl⟩ r2),q2⟩
  refine YbL ?_;refine Yeg rfl rfl hline rfl (jhl I1 hN hv hd hcd e λu ru=>?_);obtain⟨t,rfl⟩:=ru;refine⟨"str", "str.replace",Yc9,PySem.F.slot_str_replace,PySem.F.type_str_replace,Ycc _ _ _,(jgG I1 (x:=.str z) ⟨t,rfl⟩ rfl).2,?_⟩;refine Ydh rfl (Yfi (YbL (YcT (k:=k1) (pos:=p5) (YbL (YcT (k:=k2) (pos:=p6) (YbL (wpAny_Constant_int (k:=k3) (pos:=p7) (Yf3 ?_))))))));have ht:(tk==0||(tk+1)==0)=false:=by simp;omega
  have hb1:=jiy z a b;refine call_gives F.slot_str_replace (Ycc _ _ _) F.entry_str_replace (F.args_str_replace_4 _ _ _ _) (jgu z a b t tk (tk+1) (tk+1+1) ht (by simp) hab hl ?_) ?_
  ·have h1:=YeW z a 0 z.length 1;have h2:(occurrences z a 0 z.length 1).length*b.length<=1*b.length:=YcI _ h1;unfold tooLong;exact decide_eq_false (by omega)
  ·split
   ·exact fin z t _ (by omega) λc h=>.inl h
   ·exact⟨by omega,fin _ _ _ hb1 λc h=>jix h⟩
 refine YbL (wpAny_BinOp (YcT ?_));refine jhl (I.tok (s.toks+1)) hN hv hd hcd e λu ru=>?_;obtain⟨t,rfl⟩:=ru;refine PySem.P.add_str ?_;rw[if_neg (by rw[hy0];exact Yaj)]
 by_cases hz:(z.length==0)=true
 ·rw[if_pos hz];have ez:y0++z=y0:=by
   obtain⟨c⟩:=z;have:c=#[]:=Array.eq_empty_of_size_eq_zero (eq_of_beq hz);subst this;obtain⟨c0⟩:=y0;show(⟨c0++#[]⟩:Str)=⟨c0⟩;rw[Array.append_empty]
  rw[ez]at two;exact two _ _ (Nat.succ_pos _)
 ·rw[if_neg hz];exact⟨by show(y0.cps++z.cps).size<=_;rw[Yc4];exact l1,two _ _ (Nat.succ_pos _)⟩
end
end L2

namespace L2
open PySem PySem.Spec PyProof.Rows
section
variable {prog:Program}{w:World}{K:Type}[DecidableEq K]{knd:KeyKind prog w K}{A:Around}{E:Value->Shared->Prop}{s:Shared}
end
section
variable {X:Cx}
end
end L2

namespace Z
open PySem L2
inductive U where
 |non|bl (b:Bool)|int (i:Int)|str (x:Str)|tup (xs:List U)|loc (a:Addr)|fn (n:Nat)|ty (n:String)
 |exc (c:Nat) (fs:List U)|own (n:Nat)|clo (n:Nat) (cs:List U)
inductive MO where
 |lst (xs:List U)|fro (xs:List U)|dK (kvs:List (Key×U))|dT (kvs:List (List Key×U))|frd (o:Obj) (kvs:List (List Key×U))
abbrev Gp:=Addr->Option MO
noncomputable def gup (G:Gp)(a:Addr)(o:MO):Gp:=λb=>if b=a then some o else G b
structure New (G:Gp)(p:Addr)(o:MO)(G':Gp):Prop where
 no:G p=none
 eq:G'=gup G p o
structure Put (G:Gp)(a:Addr)(o:MO)(G':Gp):Prop where
 eq:G'=gup G a o
structure XV where
 c:Nat
 fs:List U
abbrev Sg:=List (Option U)
abbrev K1:=U->Gp->Prop
abbrev KX:=XV->Gp->Prop
def newO (G:Gp)(o:MO)(Q:K1):Prop:=∀p G',New G p o G'->Q (.loc p) G'
def putO (G:Gp)(a:Addr)(o:MO)(Q:Gp->Prop):Prop:=∀G',Put G a o G'->Q G'
theorem newO.at {G:Gp}{o:MO}{Q:K1}(h:newO G o Q):∀p,G p=none->Q (.loc p) (gup G p o):=λp hp=>h p _ ⟨hp,rfl⟩
theorem putO.at {G:Gp}{a:Addr}{o:MO}{Q:Gp->Prop}(h:putO G a o Q):Q (gup G a o):=h _ ⟨rfl⟩
structure En where
 nx:Sg->Gp->Prop
 rt:K1
 ex:XV->Sg->Gp->Prop
noncomputable def lsG (G:Gp)(a:Addr):Option (List U):=match G a with
 |some (.lst xs)=>some xs
 |some (.fro xs)=>some xs
 |_=>none
noncomputable def kU:U->Option Key
 |.int i=>some (.inl i)
 |.str x=>some (.inr x)
 |_=>none
noncomputable def kUs:List U->Option (List Key)
 |[]=>some []
 |u::r=>match kU u,kUs r with
  |some k,some ks=>some (k::ks)
  |_,_=>none
noncomputable def Ku:Key->U
 |.inl i=>.int i
 |.inr x=>.str x
section
variable {κ α:Type}[DecidableEq κ]
noncomputable def dGet (kvs:List (κ×α))(k:κ):Option α:=(kvs.find? λkv=>decide (kv.1=k)).map (·.2)
noncomputable def dPut (kvs:List (κ×α))(k:κ)(v:α):List (κ×α):=
 if (kvs.any λkv=>decide (kv.1=k))=true then kvs.map (λkv=>if kv.1=k then (kv.1,v) else kv) else kvs++[(k,v)]
noncomputable def jcW (more:List (κ×α)):List (κ×α):=more.foldl (λacc kv=>dPut acc kv.1 kv.2) []
end
noncomputable def cut {α:Type}(xs:List α)(lo hi:Option Int):List α:=(xs.drop (HT.sIx xs.length 0 lo)).take (HT.sIx xs.length xs.length hi-HT.sIx xs.length 0 lo)
mutual
inductive DU (G:Gp):U->PyData->Prop
 |non:DU G .non .none
 |bl (b:Bool):DU G (.bl b) (.bool b)
 |int (i:Int):DU G (.int i) (.int i)
 |str (x:Str):DU G (.str x) (.str x)
 |tup {us:List U} {ds:List PyData}:DUs G us ds->DU G (.tup us) (.tuple ds)
 |lst {a:Addr} {us:List U} {ds:List PyData}:lsG G a=some us->DUs G us ds->DU G (.loc a) (.list ds)
 |dic {a:Addr}:G a=some (.dK [])->DU G (.loc a) (.dict [])
inductive DUs (G:Gp):List U->List PyData->Prop
 |nil:DUs G [] []
 |cons {u:U} {d:PyData} {us:List U} {ds:List PyData}:DU G u d->DUs G us ds->DUs G (u::us) (d::ds)
end
def addU:U->U->Gp->K1->Prop
 |.int i,.int j,G,Q=>Q (.int (i+j)) G
 |.str x,.str y,G,Q=>x.length+y.length<=Yac/\Q (.str (x++y)) G
 |.tup xs,.tup ys,G,Q=>xs.length+ys.length<=Yac/\Q (.tup (xs++ys)) G
 |.loc a,.loc b,G,Q=>∃xs ys,G a=some (.lst xs)/\G b=some (.lst ys)/\xs.length+ys.length<=Yac/\newO G (.lst (xs++ys)) Q
 |.bl b,.int j,G,Q=>Q (.int ((if b=true then (1:Int) else 0)+j)) G
 |_,_,_,_=>False
def subU:U->U->Gp->K1->Prop
 |.int i,.int j,G,Q=>Q (.int (i-j)) G
 |.bl b,.int j,G,Q=>Q (.int ((if b=true then (1:Int) else 0)-j)) G
 |.int i,.bl b,G,Q=>Q (.int (i-if b=true then (1:Int) else 0)) G
 |_,_,_,_=>False
def mulU:U->U->Gp->K1->Prop
 |.int i,.int j,G,Q=>CMul i j/\Q (.int (i*j)) G
 |.loc a,.int k,G,Q=>∃xs,G a=some (.lst xs)/\-(2 ^ 63)<=k/\k<2 ^ 63/\xs.length*k.toNat<=Yac/\newO G (.lst (Yab k.toNat xs).flatten) Q
 |.tup xs,.int k,G,Q=>xs≠[]/\0<=k/\k<2 ^ 62/\xs.length*k.toNat<=Yac/\Q (.tup (Yab k.toNat xs).flatten) G
 |.str z,.int k,G,Q=>0<=k/\k<1000/\z.length<=1000/\Q (.str (repS z k.toNat)) G
 |_,_,_,_=>False
def jlt:U->U->Gp->K1->Prop
 |.int i,.int j,G,Q=>0<j/\j<1073741824/\Q (.int (i/j)) G
 |_,_,_,_=>False
def modU:U->U->Gp->K1->Prop
 |.int i,.int j,G,Q=>0<j/\Q (.int (i%j)) G
 |_,_,_,_=>False
def powU:U->U->Gp->K1->Prop
 |.int i,.int j,G,Q=>CPow i j/\Q (.int (i ^ j.toNat)) G
 |_,_,_,_=>False
def binU:Ydc->U->U->Gp->K1->Prop
 |.Add=>addU
 |.Sub=>subU
 |.Mult=>mulU
 |.FloorDiv=>jlt
 |.Mod=>modU
 |.Pow=>powU
 |_=>λ_ _ _ _=>False
def jni:Ydc->U->U->Gp->K1->Prop
 |.Add,.int i,.int j,G,Q=>Q (.int (i+j)) G
 |.Add,.str x,.str y,G,Q=>x.length+y.length<=Yac/\Q (.str (x++y)) G
 |.Sub,.int i,.int j,G,Q=>Q (.int (i-j)) G
 |.Mult,.int i,.int j,G,Q=>CMul i j/\Q (.int (i*j)) G
 |_,_,_,_,_=>False
def negU:U->Gp->K1->Prop
 |.int i,G,Q=>Q (.int (-i)) G
 |_,_,_=>False
def Small (d:PyData):Prop:=d.canLay0=true/\d.depth<=100
noncomputable def eqU:U->U->Gp->(Bool->Prop)->Prop
 |.non,.non,_,k=>k true
 |.non,.bl _,_,k=>k false
 |.non,.int _,_,k=>k false
 |.non,.str _,_,k=>k false
 |.bl _,.non,_,k=>k false
 |.bl a,.bl b,_,k=>k (decide (a=b))
 |.bl _,.str _,_,k=>k false
 |.int _,.non,_,k=>k false
 |.int i,.int j,_,k=>k (decide (i=j))
 |.int _,.str _,_,k=>k false
 |.str _,.non,_,k=>k false
 |.str _,.bl _,_,k=>k false
 |.str _,.int _,_,k=>k false
 |.str x,.str y,_,k=>k (decide (x=y))
 |x,y,G,k=>∃d e,DU G x d/\DU G y e/\Small d/\Small e/\k (YaJ d e)
def eqQ:U->U->Gp->(Bool->Prop)->Prop
 |.loc a,.str y,G,k=>(∃kvs,G a=some (.dK kvs)/\k false)\/(∃xs,G a=some (.lst xs)/\k false)\/eqU (.loc a) (.str y) G k
 |.tup xs,.tup [],_,k=>k xs.isEmpty
 |.tup _,.str _,_,k=>k false
 |x,y,G,k=>eqU x y G k
def isU:U->U->(Bool->Prop)->Prop
 |.non,.non,k=>k true
 |.bl a,.bl b,k=>k (decide (a=b))
 |.non,.bl _,k|.non,.int _,k|.non,.str _,k|.non,.tup _,k|.non,.loc _,k=>k false
 |.bl _,.non,k|.int _,.non,k|.str _,.non,k|.tup _,.non,k|.loc _,.non,k=>k false
 |.int _,.bl _,k|.str _,.bl _,k|.tup _,.bl _,k|.loc _,.bl _,k=>k false
 |_,_,_=>False
noncomputable def flat:U->Bool
 |.non|.bl _|.int _|.str _=>true
 |_=>false
noncomputable def eqF:U->U->Bool
 |.non,.non=>true
 |.bl a,.bl b=>a==b
 |.bl a,.int b=>(if a then 1 else 0)==b
 |.int a,.bl b=>a==(if b then 1 else 0)
 |.int a,.int b=>a==b
 |.str a,.str b=>a==b
 |_,_=>false
def inU:U->U->Gp->(Bool->Prop)->Prop
 |.str x,.str y,_,k=>k (!(Yav y x 0 y.length 1).isEmpty)
 |x,.tup ys,_,k=>flat x=true/\ys.all flat=true/\k (ys.any λy=>eqF y x)
 |x,.loc a,G,k=>match G a with
  |some (.lst ys)=>(flat x=true/\ys.all flat=true/\k (ys.any λy=>eqF y x))\/
    ∃d ds,DU G x d/\DUs G ys ds/\Small d/\(∀e∈ds,Small e)/\k (ds.any λe=>YaJ e d)
  |some (.fro ys)=>flat x=true/\ys.all flat=true/\k (ys.any λy=>eqF y x)
  |some (.dK kvs)=>match kU x with
   |some y=>k (dGet kvs y).isSome
   |none=>False
  |some (.dT kvs)=>match x with
   |.tup xs=>match kUs xs with
    |some y=>k (dGet kvs y).isSome
    |none=>False
   |_=>False
  |_=>False
 |_,_,_,_=>False
def ordU:CmpOp->U->U->(Bool->Prop)->Prop
 |.Lt,.int i,.int j,k=>k (decide (i<j))
 |.LtE,.int i,.int j,k=>k (decide (i<=j))
 |.LtE,.str x,.str y,k=>k (!decide (y.cps.toList<x.cps.toList))
 |.Gt,.int i,.int j,k=>k (decide (j<i))
 |_,_,_,_=>False
def cmpU:CmpOp->U->U->Gp->(Bool->Prop)->Prop
 |.Eq,x,y,G,k=>eqQ x y G k
 |.NotEq,x,y,G,k=>eqU x y G λb=>k (!b)
 |.Is,x,y,_,k=>isU x y k
 |.IsNot,x,y,_,k=>isU x y λb=>k (!b)
 |.In,x,y,G,k=>inU x y G k
 |.NotIn,x,y,G,k=>inU x y G λb=>k (!b)
 |o,x,y,_,k=>ordU o x y k
def truU:U->Gp->(Bool->Prop)->Prop
 |.non,_,k=>k false
 |.bl b,_,k=>k b
 |.int i,_,k=>k (i != 0)
 |.str x,_,k=>x.length<=Yac/\k ((x.length:Int) != 0)
 |.tup xs,_,k=>k (!xs.isEmpty)
 |.loc a,G,k=>match G a with
  |some (.lst xs)=>k (!xs.isEmpty)
  |some (.fro xs)=>k (!xs.isEmpty)
  |some (.dK kvs)=>k (!kvs.isEmpty)
  |_=>False
 |_,_,_=>False
def ixU:U->U->Gp->K1->Prop
 |.tup xs,.int i,G,Q=>match atI xs i with
  |some u=>Q u G
  |none=>False
 |.str x,.int i,G,Q=>x.length<=Yac/\match atI x.cps.toList i with
  |some c=>Q (.str ⟨#[c]⟩) G
  |none=>False
 |.loc a,y,G,Q=>match G a with
  |some (.lst xs)=>(match y with|.int i=>(match atI xs i with|some u=>Q u G|none=>False)|_=>False)
  |some (.fro xs)=>(match y with|.int i=>(match atI xs i with|some u=>Q u G|none=>False)|_=>False)
  |some (.dK kvs)=>(match kU y with|some k=>(match dGet kvs k with|some u=>Q u G|none=>False)|none=>False)
  |some (.dT kvs)=>(match y with|.tup ys=>(match kUs ys with|some k=>(match dGet kvs k with|some u=>Q u G|none=>False)|none=>False)|_=>False)
  |_=>False
 |_,_,_,_=>False
def slU:U->Option Int->Option Int->Gp->K1->Prop
 |.tup xs,lo,hi,G,Q=>Q (.tup (cut xs lo hi)) G
 |.str x,lo,hi,G,Q=>x.length<=Yac/\Q (.str (Ydv x lo hi)) G
 |.loc a,lo,hi,G,Q=>match lsG G a with
  |some xs=>newO G (.lst (cut xs lo hi)) Q
  |none=>False
 |_,_,_,_,_=>False
def revU:U->U->Gp->K1->Prop
 |.tup xs,.int i,G,Q=>i=-1/\Q (.tup xs.reverse) G
 |.loc a,.int i,G,Q=>match lsG G a with
  |some xs=>(i=1\/i=-1)/\newO G (.lst (if i=1 then xs else xs.reverse)) Q
  |none=>False
 |_,_,_,_=>False
def jo7:U->U->Gp->K1->Prop
 |.loc a,.int i,G,Q=>(match G a with
  |some (.lst xs)=>0<=i/\(match xs[i.toNat]? with|some u=>Q u G|none=>False)
  |_=>False)
 |_,_,_,_=>False
def setU:U->U->U->Gp->(Gp->Prop)->Prop
 |.loc a,y,v,G,Q=>match G a with
  |some (.lst xs)=>(match y with|.int i=>(match ixN xs.length i with|some j=>putO G a (.lst (xs.set j v)) Q|none=>False)|_=>False)
  |some (.dK kvs)=>(match kU y with|some k=>kvs.length<Yac/\putO G a (.dK (dPut kvs k v)) Q|none=>False)
  |some (.dT kvs)=>(match y with|.tup ys=>(match kUs ys with|some k=>kvs.length<Yac/\putO G a (.dT (dPut kvs k v)) Q|none=>False)|_=>False)
  |_=>False
 |_,_,_,_,_=>False
inductive Blt|len|repr|min|max|sum|all|any|sorted|int|str|isi
 deriving DecidableEq
inductive Mth|append|extend|insert|pop|reverse|index|join|get|split|setd
 deriving DecidableEq
noncomputable def jhC:List U->Option (List Int)
 |[]=>some []
 |.int i::r=>(match jhC r with|some l=>some (i::l)|none=>none)
 |_=>none
noncomputable def jcg:List U->Option (List Str)
 |[]=>some []
 |.str x::r=>(match jcg r with|some l=>some (x::l)|none=>none)
 |_=>none
noncomputable def jbp:List U->Option (List Bool)
 |[]=>some []
 |.bl x::r=>(match jbp r with|some l=>some (x::l)|none=>none)
 |_=>none
noncomputable def tyN:U->Gp->Option String
 |.non,_=>some "NoneType"
 |.bl _,_=>some "bool"
 |.int _,_=>some "int"
 |.str _,_=>some "str"
 |.tup _,_=>some "tuple"
 |.loc a,G=>match G a with
  |some (.lst _)=>some "list"
  |some (.dK _)=>some "dict"
  |some (.dT _)=>some "dict"
  |_=>none
 |_,_=>none
noncomputable def isiU (x:U)(G:Gp)(t:String):Option Bool:=match tyN x G with
 |some n=>if t∈["bool", "int", "str", "list", "tuple", "dict"] then some (n==t||(n == "bool" && t == "int")) else none
 |none=>none
def lenU:List U->Gp->K1->Prop
 |[.tup xs],G,Q=>Q (.int xs.length) G
 |[.str x],G,Q=>x.length<=Yac/\Q (.int x.length) G
 |[.loc a],G,Q=>(match G a with
  |some (.lst xs)=>Q (.int xs.length) G
  |some (.fro xs)=>Q (.int xs.length) G
  |some (.dK kvs)=>Q (.int kvs.length) G
  |_=>False)
 |_,_,_=>False
def jeQ:List U->Gp->K1->Prop
 |[u],G,Q=>∃d,DU G u d/\Fits 16000000 60 d/\Q (.str d.shown) G
 |_,_,_=>False
def minU:List U->Gp->K1->Prop
 |[.int i,.int j],G,Q=>Q (.int (if j<i then j else i)) G
 |_,_,_=>False
def jiX (xs:List U)(G:Gp)(Q:K1):Prop:=match jhC xs with
 |some ns=>ns≠[]/\∀z∈ns,(∀y∈ns,y<=z)->Q (.int z) G
 |none=>False
def maxU:List U->Gp->K1->Prop
 |[.int i,.int j],G,Q=>Q (.int (if j>i then j else i)) G
 |[.loc a],G,Q=>(match G a with
  |some (.lst xs)=>jiX xs G Q
  |_=>False)
 |[.tup xs],G,Q=>jiX xs G Q
 |_,_,_=>False
def allU:List U->Gp->K1->Prop
 |[.loc a],G,Q=>(match G a with
  |some (.lst xs)=>(match jbp xs with|some bs=>Q (.bl (bs.all id)) G|none=>False)
  |_=>False)
 |_,_,_=>False
def intU:List U->Gp->K1->Prop
 |[.int i],G,Q=>Q (.int i) G
 |[.bl b],G,Q=>Q (.int (if b then 1 else 0)) G
 |[.str z],G,Q=>∃n,PySem.intText? z=some n/\z.length<=640/\Q (.int n) G
 |_,_,_=>False
def strU:List U->Gp->K1->Prop
 |[.int i],G,Q=>i.natAbs.log2<1920/\Q (.str (toString i:String)) G
 |[.bl b],G,Q=>Q (.str (if b=true then ("True" : Str) else "False")) G
 |_,_,_=>False
def jep:List U->Gp->K1->Prop
 |[x,.ty t],G,Q=>(match isiU x G t with|some b=>Q (.bl b) G|none=>False)
 |_,_,_=>False
def mkDU:U->Gp->K1->Prop
 |.loc a,G,Q=>(match G a with
  |some (.dK kvs)=>∃ns:List Int,kvs.map (·.1)=ns.map (λz=>(Sum.inl z:Key))/\newO G (.lst (ns.map .int)) Q
  |_=>False)
 |_,_,_=>False
def joB:U->Gp->K1->Prop
 |.tup us,G,Q=>∃ns:List Int,us=ns.map .int/\ns.length<64/\∀ms:List Int,ms.Pairwise (·< ·)->(∀z,z∈ms↔z∈ns)->newO G (.lst (ms.map .int)) Q
 |_,_,_=>False
def jo3:U->Gp->K1->Prop
 |.loc a,G,Q=>(match G a with
  |some (.lst us)=>∃ks:List (List Int),(us=ks.map (λk=>U.tup (k.map .int))\/∃ns:List Int,us=ns.map .int/\ks=ns.map λn=>[n])/\(us=[]->Q .non G)/\∀u,us[jnE ks]?=some u->Q u G
  |_=>False)
 |_,_,_=>False
def jo4:U->Gp->K1->Prop
 |.loc a,G,Q=>(match G a with
  |some (.lst us)=>∃ns:List Int,us=ns.map .int/\(ns=[]->Q (.int 0) G)/\∀z∈ns,(∀y∈ns,y<=z)->Q (.int z) G
  |_=>False)
 |_,_,_=>False
def bltU:Blt->List U->Gp->K1->Prop
 |.len=>lenU
 |.repr=>jeQ
 |.min=>minU
 |.max=>maxU
 |.sum=>λ_ _ _=>False
 |.all=>allU
 |.any=>λ_ _ _=>False
 |.sorted=>λ_ _ _=>False
 |.int=>intU
 |.str=>strU
 |.isi=>jep
def jfk:U->List U->Gp->K1->Prop
 |.loc a,[v],G,Q=>(match G a with
  |some (.lst xs)=>xs.length<Yac/\putO G a (.lst (xs++[v])) (Q .non)
  |_=>False)
 |_,_,_,_=>False
def jfQ:U->List U->Gp->K1->Prop
 |.tup xs,[.str n],G,Q=>(match jcg xs with|some ys=>n∈ys/\Q (.int (ys.idxOf n)) G|none=>False)
 |.loc a,[.str n],G,Q=>(match G a with
  |some (.lst xs)=>(match jcg xs with|some ys=>n∈ys/\Q (.int (ys.idxOf n)) G|none=>False)
  |_=>False)
 |_,_,_,_=>False
def jlb:U->List U->Gp->K1->Prop
 |.str z,[.tup xs],G,Q=>(match jcg xs with|some ys=>z.length<=16/\(ys.map (·.length)).sum+ys.length<=1048576/\Q (.str (YaZ z ys)) G|none=>False)
 |.str z,[.loc a],G,Q=>(match G a with
  |some (.lst xs)=>(match jcg xs with|some ys=>z.length<=16/\(ys.map (·.length)).sum+ys.length<=1048576/\Q (.str (YaZ z ys)) G|none=>False)
  |_=>False)
 |_,_,_,_=>False
def jjo:U->List U->Gp->K1->Prop
 |.str z,[.str y],G,Q=>(y.length==0)=false/\z.length<=Yac/\(Yfs z y).length<=Yac/\newO G (.lst ((Yfs z y).map .str)) Q
 |_,_,_,_=>False
def jax:Mth->U->List U->Gp->K1->Prop
 |.append=>jfk
 |.extend=>λ_ _ _ _=>False
 |.insert=>λ_ _ _ _=>False
 |.pop=>λ_ _ _ _=>False
 |.reverse=>λ_ _ _ _=>False
 |.index=>jfQ
 |.join=>jlb
 |.get=>λ_ _ _ _=>False
 |.split=>jjo
 |.setd=>λ_ _ _ _=>False
noncomputable def mtU:Mth->U->Gp->Option (String×String)
 |.append,x,G=>(match x with|.loc a=>(match G a with|some (.lst _)=>some ("list", "list.append")|_=>none)|_=>none)
 |.extend,_,_=>none
 |.insert,_,_=>none
 |.pop,_,_=>none
 |.reverse,_,_=>none
 |.index,x,G=>(match x with|.loc a=>(match G a with|some (.lst _)=>some ("list", "list.index")|_=>none)|.tup _=>some ("tuple", "tuple.index")|_=>none)
 |.join,x,_=>(match x with|.str _=>some ("str", "str.join")|_=>none)
 |.get,_,_=>none
 |.split,x,_=>(match x with|.str _=>some ("str", "str.split")|_=>none)
 |.setd,_,_=>none
noncomputable def clsA:List (Str×List Str):=[("PlanError",[]),("NoPaper",["word", "at"]),("TooMany",["word"]),("NoRing",["word"]),("NoText",["row", "word"]),("NoRow",["row"])]
noncomputable def clsN (c:Nat):Str:=(clsA.getD c ("",[])).1
noncomputable def clsF (c:Nat):List Str:=(clsA.getD c ("",[])).2
inductive HL where
 |is1 (c:Nat)|isi (cs:List Nat)|isiV|v (i:Nat)
inductive HA where
 |str (x:Str)|att (f:Str)
inductive HV where
 |cond (k:Bool) (a:Bool×HL) (as:List (Bool×HL))|one (a:HA)|bl (b:Bool)|tup (as:List HA)|lst (as:List HA)
inductive HS where
 |asg (i:Nat) (e:HV)|ifa (k:Bool) (a:Bool×HL) (as:List (Bool×HL)) (i:Nat) (e:HV)
section
variable (x:XV)
noncomputable def litH (ς:Sg):HL->Option Bool
 |.is1 c=>some (decide (x.c=c))
 |.isi cs=>some (cs.contains x.c)
 |.isiV=>some true
 |.v i=>match ς[i]? with
  |some (some (.bl b))=>some b
  |_=>none
noncomputable def lit1 (ς:Sg)(p:Bool×HL):Option Bool:=match litH x ς p.2 with
 |some b=>some (if p.1=true then !b else b)
 |none=>none
noncomputable def jbx (ς:Sg)(k:Bool):Bool×HL->List (Bool×HL)->Option Bool
 |a,[]=>lit1 x ς a
 |a,b::r=>match lit1 x ς a with
  |some t=>if t=k then jbx ς k b r else some t
  |none=>none
noncomputable def atH:HA->Option U
 |.str y=>some (.str y)
 |.att f=>((clsF x.c).zip x.fs).lookup f
noncomputable def atsH:List HA->Option (List U)
 |[]=>some []
 |a::r=>match atH x a,atsH r with
  |some u,some us=>some (u::us)
  |_,_=>none
def hvH (ς:Sg):HV->Gp->K1->Prop
 |.cond k a as,G,Q=>match jbx x ς k a as with
  |some b=>Q (.bl b) G
  |none=>False
 |.one a,G,Q=>match atH x a with
  |some u=>Q u G
  |none=>False
 |.bl b,G,Q=>Q (.bl b) G
 |.tup as,G,Q=>match atsH x as with
  |some us=>Q (.tup us) G
  |none=>False
 |.lst as,G,Q=>match atsH x as with
  |some us=>newO G (.lst us) Q
  |none=>False
def hsH:List HS->Sg->Gp->(Sg->Gp->Prop)->Prop
 |[],ς,G,k=>k ς G
 |.asg i e::r,ς,G,k=>hvH x ς e G λu G1=>hsH r (ς.set i (some u)) G1 k
 |.ifa q a as i e::r,ς,G,k=>match jbx x ς q a as with
  |some true=>hvH x ς e G λu G1=>hsH r (ς.set i (some u)) G1 k
  |some false=>hsH r ς G k
  |none=>False
end
mutual
inductive E where
 |v (i:Nat)|non|bl (b:Bool)|int (i:Int)|str (x:Str)|g (n:Nat)
 |bin (o:Ydc) (a b:E)|neg (a:E)|not (a:E)|bop (k:Bool) (a:E) (es:Es)
 |cmp (o:CmpOp) (a b:E)|cmp2 (o p:CmpOp) (a b c:E)|ife (c a b:E)
 |tup (es:Es)|lst (es:Es)|dic (es:Es)|dicT
 |ix (a b:E)|sl (a:E) (lo hi:Eo)|rev (a st:E)
 |call (n:Nat) (es:Es)|app (i:Nat) (es:Es)|blt (b:Blt) (es:Es)|meth (m:Mth) (o:E) (es:Es)
 |ty (n:String)
 |lc (pick:List (Option Nat)) (t:Tg) (it:It) (ifs:Es) (e:E)|lc2 (pick:List (Option Nat)) (t:Tg) (it:It) (ifs:Es) (t2:Tg) (it2:It) (ifs2:Es) (e:E)|mkL (e:E)|mkT (e:E)|rngL (a:E)|rngT (a:E)|rngL2 (a b:E)|minD (e:E)|maxD (e:E)|mkD (e:E)|sset (e:E)|fst (es:Es)|lrp (e:E) (i:Nat) (y a b:Str) (es:Es)
inductive Eo where
 |no|so (e:E)
inductive Es where
 |nil|cons (e:E) (es:Es)
inductive Tg where
 |n (i:Nat)|t (ts:Tgs)
inductive Tgs where
 |nil|cons (t:Tg) (ts:Tgs)
inductive It where
 |e (e:E)|r1 (e:E)|r2 (a b:E)|enum (e:E)|dk (e:E)|s (e:E)
end
mutual
inductive S where
 |pass|expr (e:E)|asg (t:Tg) (e:E)|asgC (i:Nat) (e:E)|unp (ts:Tgs) (e:E)|setS (o i e:E)|par (is:List Nat) (es:Es)|aug (i:Nat) (o:Ydc) (e:E)|augS (o i:E) (p:Ydc) (e:E)
 |ite (c:E) (a b:Ss)|fr (t:Tg) (it:It) (b:Ss)|wh (c:E) (b:Ss)|ret (e:E)|retN
 |never|raise (c:Nat) (es:Es)|tr (b:Ss) (c:Nat) (n:Nat) (h:List HS)
inductive Ss where
 |nil|cons (s:S) (ss:Ss)
end
mutual
noncomputable def tgU:Tg->U->Sg->(Sg->Prop)->Prop
 |.n i,u,ς,k=>k (ς.set i (some u))
 |.t ts,u,ς,k=>match u with
  |.tup us=>tgsU ts us ς k
  |_=>False
noncomputable def tgsU:Tgs->List U->Sg->(Sg->Prop)->Prop
 |.nil,us,ς,k=>us=[]/\k ς
 |.cons t ts,us,ς,k=>match us with
  |[]=>False
  |u::r=>tgU t u ς λς'=>tgsU ts r ς' k
end
abbrev Cl:=Nat->List U->Gp->K1->KX->Prop
def slot (ς:Sg)(i:Nat)(k:U->Prop):Prop:=match ς[i]? with
 |some (some u)=>k u
 |_=>False
noncomputable def jbt (pick:List (Option Nat))(ς:Sg):Sg:=pick.map λo=>o.bind λj=>(ς[j]?).join
def jbP (ok:Gp->Prop)(b:U->Gp->(Option U->Gp->Prop)->Prop):List U->List U->Gp->(List U->Gp->Prop)->Prop
 |[],acc,G,k=>ok G/\k acc G
 |x::xs,acc,G,k=>ok G/\b x G λo G'=>jbP ok b xs (match o with|some u=>acc++[u]|none=>acc) G' k
def jlx (ok:Gp->Prop)(b:U->List U->Gp->(List U->Gp->Prop)->Prop):List U->List U->Gp->(List U->Gp->Prop)->Prop
 |[],acc,G,k=>ok G/\k acc G
 |x::xs,acc,G,k=>ok G/\b x acc G λacc' G'=>jlx ok b xs acc' G' k
def forL (ok:Gp->Prop)(b:U->Sg->Gp->(Sg->Gp->Prop)->Prop):List U->Sg->Gp->(Sg->Gp->Prop)->Prop
 |[],ς,G,k=>ok G/\k ς G
 |x::xs,ς,G,k=>ok G/\b x ς G λς' G'=>forL ok b xs ς' G' k
noncomputable def rngU (i:Int)(n:Nat):List U:=(YaQ n).map λk:Nat=>.int (i+k)
noncomputable def jlv:Nat->List U->List U
 |_,[]=>[]
 |n,u::r=>.tup [.int n,u]::jlv (n+1) r
def itU:U->Gp->(List U->(Gp->Prop)->Prop)->Prop
 |.tup xs,_,k=>k xs λ_=>True
 |.loc a,G,k=>match lsG G a with
  |some xs=>k xs λG'=>lsG G' a=some xs
  |none=>False
 |_,_,_=>False
def enI:U->Gp->(List U->(Gp->Prop)->Prop)->Prop
 |.tup xs,_,k=>k (jlv 0 xs) λ_=>True
 |.loc a,G,k=>match lsG G a with
  |some xs=>k (jlv 0 xs) λG'=>lsG G' a=some xs
  |none=>False
 |_,_,_=>False
def jlI:U->Gp->(List U->(Gp->Prop)->Gp->Prop)->Prop
 |.loc a,G,Q=>match G a with
  |some (.dT kvs)=>∀o G',Put G a (.frd o kvs) G'->Q (kvs.map λp=>.tup (p.1.map Ku)) (λG'=>G' a=some (.frd o kvs)) G'
  |_=>False
 |_,_,_=>False
def sgU:U->(List U->Prop)->Prop
 |.str z,k=>z.cps.all (·< 128)=true/\k (z.cps.toList.map λc=>.str ⟨#[c]⟩)
 |_,_=>False
def fpU:U->(Str->Prop)->Prop
 |.str z,k=>z.length<=10000/\k z
 |.int i,k=>i.natAbs.log2<1920/\k (toString i:String)
 |_,_=>False
def repU (y b:Str):U->(Str->Str->Prop)->Prop
 |.str z,k=>y.length+z.length<=Yac/\z.length+b.length<=Yac/\∀w:Str,w.length<=z.length+b.length->(∀c∈w.cps.toList,c∈z.cps.toList\/c∈b.cps.toList)->k (y++z) w
 |_,_=>False
def unpU (ts:Tgs):U->Gp->Sg->(Sg->Prop)->Prop
 |.loc a,G,ς,k=>match lsG G a with
  |some us=>tgsU ts us ς k
  |none=>False
 |_,_,_,_=>False
def glU (gs:List U)(n:Nat)(k:U->Prop):Prop:=match gs[n]? with
 |some u=>k u
 |none=>False
abbrev UE:=Sg->Gp->K1->KX->Prop
abbrev UT:=Sg->Gp->(Bool->Gp->Prop)->KX->Prop
abbrev UA:=Sg->Gp->(List U->Gp->Prop)->KX->Prop
def truT (t:UE):UT:=λς G Q X=>t ς G (λx G1=>truU x G1 λb=>Q b G1) X
noncomputable abbrev tp (t:UE):UE×UT:=(t,truT t)
noncomputable def comb:Bool->UE×UT->UE×UT->UE×UT
 |true,p,q=>(λς G Q X=>p.1 ς G (λx G1=>truU x G1 λc=>if c=true then q.1 ς G1 Q X else Q x G1) X,λς G Q X=>p.2 ς G (λc G1=>if c=true then q.2 ς G1 Q X else Q false G1) X)
 |false,p,q=>(λς G Q X=>p.1 ς G (λx G1=>truU x G1 λc=>if c=true then Q x G1 else q.1 ς G1 Q X) X,λς G Q X=>p.2 ς G (λc G1=>if c=true then Q true G1 else q.2 ς G1 Q X) X)
section
variable (gs:List U)(Δ:Cl)
mutual
noncomputable def den:E->UE×UT
 |.v i=>tp λς G Q _=>slot ς i λu=>Q u G
 |.non=>tp λ_ G Q _=>Q .non G
 |.bl b=>tp λ_ G Q _=>Q (.bl b) G
 |.int i=>tp λ_ G Q _=>Q (.int i) G
 |.str x=>tp λ_ G Q _=>Q (.str x) G
 |.g n=>tp λ_ G Q _=>glU gs n λu=>Q u G
 |.bin o a b=>tp λς G Q X=>(den a).1 ς G (λx G1=>(den b).1 ς G1 (λy G2=>binU o x y G2 Q) X) X
 |.neg a=>tp λς G Q X=>(den a).1 ς G (λx G1=>negU x G1 Q) X
 |.not a=>(λς G Q X=>(den a).1 ς G (λx G1=>truU x G1 λb=>Q (.bl (!b)) G1) X,
   λς G Q X=>(den a).2 ς G (λb G1=>Q (!b) G1) X)
 |.bop k a es=>denB k (den a) es
 |.cmp o a b=>tp λς G Q X=>(den a).1 ς G (λx G1=>(den b).1 ς G1 (λy G2=>cmpU o x y G2 λc=>Q (.bl c) G2) X) X
 |.cmp2 o p a b c=>tp λς G Q X=>(den a).1 ς G (λx G1=>(den b).1 ς G1 (λy G2=>cmpU o x y G2 λt=>if t=true then (den c).1 ς G2 (λz G3=>cmpU p y z G3 λt'=>Q (.bl t') G3) X else Q (.bl false) G2) X) X
 |.ife c a b=>(λς G Q X=>(den c).2 ς G (λt G1=>if t=true then (den a).1 ς G1 Q X else (den b).1 ς G1 Q X) X,
   λς G Q X=>(den c).2 ς G (λt G1=>if t=true then (den a).2 ς G1 Q X else (den b).2 ς G1 Q X) X)
 |.tup es=>tp λς G Q X=>jau es ς G (λus G1=>us.length<=Yac/\Q (.tup us) G1) X
 |.lst es=>tp λς G Q X=>jau es ς G (λus G1=>us.length<=Yac/\newO G1 (.lst us) Q) X
 |.dic es=>tp λς G Q X=>denD es ς G (λkvs G1=>kvs.length<=15/\newO G1 (.dK (jcW kvs)) Q) X
 |.dicT=>tp λ_ G Q _=>newO G (.dT []) Q
 |.ix a b=>tp λς G Q X=>(den a).1 ς G (λx G1=>(den b).1 ς G1 (λy G2=>ixU x y G2 Q) X) X
 |.sl a lo hi=>tp λς G Q X=>(den a).1 ς G (λx G1=>denO lo ς G1 (λl G2=>denO hi ς G2 (λh G3=>slU x l h G3 Q) X) X) X
 |.rev a b=>tp λς G Q X=>(den a).1 ς G (λx G1=>(den b).1 ς G1 (λy G2=>revU x y G2 Q) X) X
 |.call n es=>tp λς G Q X=>jau es ς G (λus G1=>Δ n us G1 Q X) X
 |.app _ _=>tp λ_ _ _ _=>False
 |.blt b es=>tp λς G Q X=>jau es ς G (λus G1=>bltU b us G1 Q) X
 |.meth m o es=>tp λς G Q X=>(den o).1 ς G (λx G1=>match mtU m x G1 with
   |some _=>jau es ς G1 (λus G2=>jax m x us G2 Q) X
   |none=>False) X
 |.ty n=>tp λ_ G Q _=>Q (.ty n) G
 |.lc pick t it ifs e=>tp λς G Q X=>denI it ς G (λxs ok G1=>xs.length<=Yac/\jbP ok (λx G2 k=>tgU t x (jbt pick ς) λτ=>denC ifs τ G2 (λb G3=>if b=true then (den e).1 τ G3 (λu G4=>k (some u) G4) (λ_ _=>False) else k none G3)) xs [] G1
   λus G5=>newO G5 (.lst us) Q) X
 |.lc2 pick t it ifs t2 it2 ifs2 e=>tp λς G Q X=>denI it ς G (λxs ok G1=>jlx ok (λx acc G2 k=>tgU t x (jbt pick ς) λτ=>denC ifs τ G2 (λb G3=>if b=true then denI it2 τ G3 (λys ok2 G4=>acc.length+ys.length<=Yac/\jbP ok2 (λy G5 k5=>tgU t2 y τ λτ'=>denC ifs2 τ' G5 (λb2 G6=>if b2=true then (den e).1 τ' G6 (λu G7=>k5 (some u) G7) (λ_ _=>False) else k5 none G6)) ys acc G4 k) (λ_ _=>False) else k acc G3)) xs [] G1
   λus G5=>newO G5 (.lst us) Q) X
 |.sset e=>tp λς G Q X=>(den e).1 ς G (λx G1=>joB x G1 Q) X
 |.fst es=>tp λς G Q X=>denF es ς G (λzs G1=>Q (.str (L2.cats Yfo zs)) G1) X
 |.lrp e i y _ b es=>tp λς G Q X=>(den e).1 ς G (λx G1=>slot ς i λu=>repU y b u λz w=>jau es ς G1 (λus G2=>(x::.str z::.str w::us).length<=Yac/\newO G2 (.lst (x::.str z::.str w::us)) Q) X) X
 |.mkD e=>tp λς G Q X=>(den e).1 ς G (λx G1=>mkDU x G1 Q) X
 |.maxD e=>tp λς G Q X=>(den e).1 ς G (λx G1=>jo4 x G1 Q) X
 |.minD e=>tp λς G Q X=>(den e).1 ς G (λx G1=>jo3 x G1 Q) X
 |.mkL e=>tp λς G Q X=>(den e).1 ς G (λx G1=>itU x G1 λxs _=>newO G1 (.lst xs) Q) X
 |.mkT e=>tp λς G Q X=>(den e).1 ς G (λx G1=>itU x G1 λxs _=>Q (.tup xs) G1) X
 |.rngL e=>tp λς G Q X=>(den e).1 ς G (λx G1=>match x with
   |.int j=>0<=j/\j<=1000000/\newO G1 (.lst (rngU 0 j.toNat)) Q
   |_=>False) X
 |.rngT e=>tp λς G Q X=>(den e).1 ς G (λx G1=>match x with
   |.int j=>0<=j/\j<=1000000/\Q (.tup (rngU 0 j.toNat)) G1
   |_=>False) X
 |.rngL2 a b=>tp λς G Q X=>(den a).1 ς G (λx G1=>(den b).1 ς G1 (λy G2=>match x,y with
   |.int i,.int j=>0<=i/\i<=j/\j<=1000000000/\j-i<=1000000/\newO G2 (.lst (rngU i (j-i).toNat)) Q
   |_,_=>False) X) X
noncomputable def denB (k:Bool)(p:UE×UT):Es->UE×UT
 |.nil=>p
 |.cons e es=>comb k p (denB k (den e) es)
noncomputable def denC:Es->Sg->Gp->(Bool->Gp->Prop)->Prop
 |.nil,_,G,Q=>Q true G
 |.cons e es,ς,G,Q=>(den e).2 ς G (λb G1=>if b=true then denC es ς G1 Q else Q false G1) (λ_ _=>False)
noncomputable def denO:Eo->Sg->Gp->(Option Int->Gp->Prop)->KX->Prop
 |.no,_,G,Q,_=>Q none G
 |.so e,ς,G,Q,X=>(den e).1 ς G (λx G1=>match x with|.int i=>Q (some i) G1|_=>False) X
noncomputable def jau:Es->Sg->Gp->(List U->Gp->Prop)->KX->Prop
 |.nil,_,G,Q,_=>Q [] G
 |.cons e es,ς,G,Q,X=>(den e).1 ς G (λx G1=>jau es ς G1 (λxs G2=>Q (x::xs) G2) X) X
noncomputable def denF:Es->Sg->Gp->(List Str->Gp->Prop)->KX->Prop
 |.nil,_,G,Q,_=>Q [] G
 |.cons e es,ς,G,Q,X=>(den e).1 ς G (λx G1=>fpU x λz=>denF es ς G1 (λzs G2=>Q (z::zs) G2) X) X
noncomputable def denD:Es->Sg->Gp->(List (Key×U)->Gp->Prop)->KX->Prop
 |.nil,_,G,Q,_=>Q [] G
 |.cons e (.cons f es),ς,G,Q,X=>(den e).1 ς G (λx G1=>(den f).1 ς G1 (λy G2=>match kU x with
   |some k=>denD es ς G2 (λkvs G3=>Q ((k,y)::kvs) G3) X
   |none=>False) X) X
 |.cons _ .nil,_,_,_,_=>False
noncomputable def denI:It->Sg->Gp->(List U->(Gp->Prop)->Gp->Prop)->KX->Prop
 |.e e,ς,G,Q,X=>(den e).1 ς G (λx G1=>itU x G1 λxs ok=>Q xs ok G1) X
 |.r1 e,ς,G,Q,X=>(den e).1 ς G (λx G1=>match x with
   |.int j=>-(2 ^ 62)<=j/\j<2 ^ 62/\Q (rngU 0 j.toNat) (λ_=>True) G1
   |_=>False) X
 |.r2 a b,ς,G,Q,X=>(den a).1 ς G (λx G1=>(den b).1 ς G1 (λy G2=>match x,y with
   |.int i,.int j=>-(2 ^ 62)<=i/\i<2 ^ 62/\-(2 ^ 62)<=j/\j<2 ^ 62/\Q (rngU i (j-i).toNat) (λ_=>True) G2
   |_,_=>False) X) X
 |.enum e,ς,G,Q,X=>(den e).1 ς G (λx G1=>enI x G1 λxs ok=>Q xs ok G1) X
 |.dk e,ς,G,Q,X=>(den e).1 ς G (λx G1=>jlI x G1 Q) X
 |.s e,ς,G,Q,X=>(den e).1 ς G (λx G1=>sgU x λxs=>Q xs (λ_=>True) G1) X
end
def denE (e:E):UE:=(den gs Δ e).1
def denT (e:E):UT:=(den gs Δ e).2
mutual
noncomputable def denS:S->En->Sg->Gp->Prop
 |.pass,D,ς,G=>D.nx ς G
 |.expr e,D,ς,G=>denE gs Δ e ς G (λ_ G1=>D.nx ς G1) λx G1=>D.ex x ς G1
 |.asg t e,D,ς,G=>denE gs Δ e ς G (λu G1=>tgU t u ς λς'=>D.nx ς' G1) λx G1=>D.ex x ς G1
 |.asgC i e,D,ς,G=>denE gs Δ e ς G (λu G1=>D.nx (ς.set i (some u)) G1) λx G1=>D.ex x ς G1
 |.unp ts e,D,ς,G=>denE gs Δ e ς G (λu G1=>unpU ts u G1 ς λς'=>D.nx ς' G1) λx G1=>D.ex x ς G1
 |.setS o i e,D,ς,G=>denE gs Δ e ς G (λv G1=>denE gs Δ o ς G1 (λx G2=>denE gs Δ i ς G2 (λy G3=>setU x y v G3 λG4=>D.nx ς G4) λx G1=>D.ex x ς G1) λx G1=>D.ex x ς G1) λx G1=>D.ex x ς G1
 |.par is es,D,ς,G=>jau gs Δ es ς G (λus G1=>us.length=is.length/\D.nx ((is.zip us).foldl (λs p=>s.set p.1 (some p.2)) ς) G1) λx G1=>D.ex x ς G1
 |.aug i o e,D,ς,G=>slot ς i λx=>denE gs Δ e ς G (λy G1=>jni o x y G1 λz G2=>D.nx (ς.set i (some z)) G2) λx G1=>D.ex x ς G1
 |.augS o i p e,D,ς,G=>denE gs Δ o ς G (λx G1=>denE gs Δ i ς G1 (λy G2=>jo7 x y G2 λa G3=>denE gs Δ e ς G3 (λb G4=>jni p a b G4 λz G5=>setU x y z G5 λG6=>D.nx ς G6) λx G1=>D.ex x ς G1) λx G1=>D.ex x ς G1) λx G1=>D.ex x ς G1
 |.ite c a b,D,ς,G=>denT gs Δ c ς G (λt G1=>if t=true then jaC a D ς G1 else jaC b D ς G1) λx G1=>D.ex x ς G1
 |.fr t it b,D,ς,G=>denI gs Δ it ς G (λxs ok G1=>forL ok (λx ς1 G2 k=>tgU t x ς1 λς2=>jaC b { D with nx:=k } ς2 G2) xs ς G1 D.nx) λx G1=>D.ex x ς G1
 |.wh c b,D,ς,G=>∃W:Nat->Sg->Gp->Prop,(∃m,W m ς G)/\∀m ς1 G1,W m ς1 G1->
   denT gs Δ c ς1 G1 (λt G2=>if t=true then jaC b { D with nx:=λς' G'=>∃m',m'<m/\W m' ς' G' } ς1 G2 else D.nx ς1 G2) λx G1=>D.ex x ς1 G1
 |.ret e,D,ς,G=>denE gs Δ e ς G D.rt λx G1=>D.ex x ς G1
 |.retN,D,_,G=>D.rt .non G
 |.never,_,_,_=>False
 |.raise c es,D,ς,G=>jau gs Δ es ς G (λus G1=>us.length=(clsF c).length/\D.ex ⟨c,us⟩ ς G1) λx G1=>D.ex x ς G1
 |.tr b c n h,D,ς,G=>jaC b { D with ex:=λx ς1 G1=>(c=0\/x.c=c)/\hsH x h (ς1.set n none) G1 λς2 G2=>D.nx (ς2.set n none) G2 } ς G
noncomputable def jaC:Ss->En->Sg->Gp->Prop
 |.nil,D,ς,G=>D.nx ς G
 |.cons s ss,D,ς,G=>denS s { D with nx:=λς' G'=>jaC ss D ς' G' } ς G
end
end
structure Fun where
 name:Str
 ps:List Str
 N:List Str
 body:Ss
structure Nst where
 P:Addr
 ff:Nat
 vi:Nat
 fi:Nat
 caps:List Nat
 wi:Nat
 fni:Nat
 least:Int
 wn:Str
 fn:Str
 at':Str
structure Tab where
 funs:List Fun
 gs:List U
 gn:List Str:=[]
 cs:List Nat:=[]
 vf:List Fun:=[]
 ns:List (Nat×Nst):=[]
noncomputable def jaf (n:Nat)(us:List U):Sg:=us.map some++Yab (n-us.length) none
def jac (T:Tab):Nat->Cl
 |0,_,_,_,_,_=>False
 |k+1,n,us,G,Q,X=>match (T.funs++T.vf)[n]? with
  |some d=>us.length=d.ps.length/\jaC T.gs (jac T k) d.body ⟨λ_ G'=>Q .non G',Q,λx _ G'=>X x G'⟩ (jaf d.N.length us) G
  |none=>False
mutual
noncomputable def RU (K:Yaa)(H:Hp):U->V->Prop
 |.non,v=>v=.non
 |.bl b,v=>v=.bl b
 |.int i,v=>v=.int i
 |.str x,v=>v=.str x
 |.tup xs,v=>∃a vs,v=.ref a/\H a=some (.tup vs)/\RUs K H xs vs
 |.loc a,v=>v=.ref a
 |.fn _,_=>False
 |.ty n,v=>v=.ty n
 |.exc _ _,_=>False
 |.own _,_=>False
 |.clo _ _,_=>False
noncomputable def RUs (K:Yaa)(H:Hp):List U->List V->Prop
 |[],vs=>vs=[]
 |u::us,vs=>∃v vr,vs=v::vr/\RU K H u v/\RUs K H us vr
end
def RKs {κ:Type}(K:Yaa)(H:Hp):List (κ×U)->List (κ×V)->Prop
 |[],l=>l=[]
 |(k,u)::r,l=>∃v l',l=(k,v)::l'/\RU K H u v/\RKs K H r l'
def MOk (K:Yaa)(H:Hp)(a:Addr):MO->Prop
 |.lst us=>∃vs,H a=some (.lst vs)/\RUs K H us vs
 |.fro us=>∃o vs,H a=some (.frz o (.lst vs))/\RUs K H us vs
 |.dK kvs=>∃l,H a=some (.dK l)/\RKs K H kvs l
 |.dT kvs=>∃l,H a=some (.dT l)/\RKs K H kvs l
 |.frd o kvs=>∃l,H a=some (.frz o (.dT l))/\RKs K H kvs l
noncomputable def tabs:List (Addr×Pos×Str):=[(148,⟨50,4,53,89⟩,("works_fault" : Str) ++ ".<locals>." ++ "fits"),(155,⟨57,4,64,91⟩,("span_fault" : Str) ++ ".<locals>." ++ "fits")]
def jeG (H:Hp):Prop:=∀t∈tabs,jjX H t.1 t.2.1 t.2.2
structure HR (K:Yaa)(H:Hp)(G:Gp):Prop where
 mo:∀a o,G a=some o->MOk K H a o
 tab:jeG H
instance {K:Yaa} {H:Hp} {G:Gp}:CoeFun (HR K H G) λ_=>∀a o,G a=some o->MOk K H a o:=⟨HR.mo⟩
noncomputable def noTb:HO->Bool
 |.tbl _=>false
 |_=>true
structure Fr (H:Hp)(G:Gp)(H':Hp)(G':Gp):Prop where
 go:∀a o,H a=some o->G a=none->(nt:noTb o=true:=by rfl)->H' a=some o/\G' a=none
instance {H H':Hp} {G G':Gp}:CoeFun (Fr H G H' G') λ_=>∀a o,H a=some o->G a=none->(nt:noTb o=true:=by rfl)->H' a=some o/\G' a=none:=⟨@Fr.go H G H' G'⟩
def SR (K:Yaa)(H:Hp)(ς:Sg)(σ:St):Prop:=ς.length=σ.length/\∀(i:Nat) (u:U),ς[i]?=some (some u)->∃v,σ[i]?=some (some v)/\RU K H u v
section
variable {K:Yaa}{H H' H1 H2:Hp}{G G' G1 G2:Gp}
theorem Fr.refl (H:Hp)(G:Gp):Fr H G H G:=⟨λ_ _ h g _=>⟨h,g⟩⟩
theorem Fr.trans (a:Fr H G H1 G1)(b:Fr H1 G1 H2 G2):Fr H G H2 G2:=⟨λc o h g nt=>let ⟨h1,g1⟩:=a c o h g nt;b c o h1 g1 nt⟩
structure TS (H H':Hp):Prop where
 tup:∀a xs,H a=some (.tup xs)->H' a=some (.tup xs)
 cod:∀a o,H a=some (frzC o)->H' a=some (frzC o)
instance:CoeFun (TS H H') λ_=>∀a xs,H a=some (.tup xs)->H' a=some (.tup xs):=⟨TS.tup⟩
theorem TS.trans (a:TS H H1)(b:TS H1 H2):TS H H2:=⟨λc xs h=>b.tup c xs (a.tup c xs h),λc o h=>b.cod c o (a.cod c o h)⟩
mutual
theorem RU.ts (t:TS H H'):∀{u:U} {v:V},RU K H u v->RU K H' u v
 |.non,_,h=>h
 |.bl _,_,h=>h
 |.int _,_,h=>h
 |.str _,_,h=>h
 |.tup xs,_,h=>by
  obtain⟨a,vs,e,q,r⟩:=h
  exact⟨a,vs,e,t _ _ q,RUs.ts t r⟩
 |.loc _,_,h=>h
 |.fn _,_,h=>h
 |.ty _,_,h=>h
 |.exc _ _,_,h=>h
 |.own _,_,h=>h
 |.clo _ _,_,h=>h
theorem RUs.ts (t:TS H H'):∀{us:List U} {vs:List V},RUs K H us vs->RUs K H' us vs
 |[],_,h=>h
 |_::_,_,h=>by
  obtain⟨v,vr,e,r,rs⟩:=h
  exact⟨v,vr,e,RU.ts t r,RUs.ts t rs⟩
end
theorem RKs.ts {κ:Type}(t:TS H H'):∀{kvs:List (κ×U)} {l:List (κ×V)},RKs K H kvs l->RKs K H' kvs l
 |[],_,h=>h
 |(_,_)::_,_,h=>by
  obtain⟨v,l',e,r,rs⟩:=h;exact⟨v,l',e,r.ts t,RKs.ts t rs⟩
theorem SR.ts {ς:Sg}{σ:St}(t:TS H H')(h:SR K H ς σ):SR K H' ς σ:=⟨h.1,λi u e=>let ⟨v,e1,r⟩:=h.2 i u e;⟨v,e1,r.ts t⟩⟩
theorem HR.tupNone (h:HR K H G){a:Addr}{xs:List V}(e:H a=some (.tup xs)):G a=none:=by
 cases q:G a with
 |none=>rfl
 |some o=>
  have m:=h a o q;cases o with
  |lst us=>obtain⟨_,e2,_⟩:=m;rw[e]at e2;cases e2
  |fro us=>obtain⟨_,_,e2,_⟩:=m;rw[e]at e2;cases e2
  |dK us=>obtain⟨_,e2,_⟩:=m;rw[e]at e2;cases e2
  |dT us=>obtain⟨_,e2,_⟩:=m;rw[e]at e2;cases e2
  |frd _ us=>obtain⟨_,e2,_⟩:=m;rw[e]at e2;cases e2
theorem HR.codNone (h:HR K H G){a:Addr}{ob:Obj}(e:H a=some (frzC ob)):G a=none:=by
 cases q:G a with
 |none=>rfl
 |some o=>
  have m:=h a o q;cases o with
  |lst us=>obtain⟨_,e2,_⟩:=m;rw[e]at e2;cases e2
  |fro us=>obtain⟨_,_,e2,_⟩:=m;rw[e]at e2;cases e2
  |dK us=>obtain⟨_,e2,_⟩:=m;rw[e]at e2;cases e2
  |dT us=>obtain⟨_,e2,_⟩:=m;rw[e]at e2;cases e2
  |frd _ us=>obtain⟨_,e2,_⟩:=m;rw[e]at e2;cases e2
theorem HR.tblNone (h:HR K H G){a:Addr}{ps:Array Value}(e:H a=some (.tbl ps)):G a=none:=by
 cases q:G a with
 |none=>rfl
 |some o=>
  have m:=h a o q;cases o with
  |lst us=>obtain⟨_,e2,_⟩:=m;rw[e]at e2;cases e2
  |fro us=>obtain⟨_,_,e2,_⟩:=m;rw[e]at e2;cases e2
  |dK us=>obtain⟨_,e2,_⟩:=m;rw[e]at e2;cases e2
  |dT us=>obtain⟨_,e2,_⟩:=m;rw[e]at e2;cases e2
  |frd _ us=>obtain⟨_,e2,_⟩:=m;rw[e]at e2;cases e2
theorem Fr.ts (f:Fr H G H' G')(h:HR K H G):TS H H':=⟨λa xs e=>(f a _ e (h.tupNone e)).1,λa o e=>(f a _ e (h.codNone e)).1⟩
theorem jeG.upd (h:jeG H){p:Addr}{o:HO}(h1:∀ps,H p≠some (.tbl ps))(h2:∀ob,H p≠some (frzC ob)):jeG (L2.upd H p o):=λt ht=>by
 rcases h t ht with e|⟨c,oc,e1,e2,q⟩
 ·exact .inl (by rw[jad (λz=>h1 _ (z ▸ e))];exact e)
 ·exact .inr ⟨c,oc,by rw[jad (λz=>h1 _ (z ▸ e1))];exact e1,by rw[jad (λz=>h2 _ (z ▸ e2))];exact e2,q⟩
theorem jeG.new (h:jeG H){p:Addr}{o:HO}(e:H p=none):jeG (L2.upd H p o):=h.upd (λps z=>by rw[e]at z;cases z) λob z=>by rw[e]at z;cases z
theorem HR.tabW (h:HR K H G){p:Addr}{o:HO}{mo:MO}(g:G p=some mo):jeG (L2.upd H p o):=h.tab.upd (λps z=>by rw[h.tblNone z]at g;cases g) λob z=>by rw[h.codNone z]at g;cases g
theorem MOk.there {a:Addr}{o:MO}(m:MOk K H a o):∃ho,H a=some ho:=by
 cases o with
 |lst _=>obtain⟨_,e,_⟩:=m;exact⟨_,e⟩
 |fro _=>obtain⟨_,_,e,_⟩:=m;exact⟨_,e⟩
 |dK _=>obtain⟨_,e,_⟩:=m;exact⟨_,e⟩
 |dT _=>obtain⟨_,e,_⟩:=m;exact⟨_,e⟩
 |frd _ _=>obtain⟨_,e,_⟩:=m;exact⟨_,e⟩
theorem MOk.keep {a:Addr}{o:MO}(m:MOk K H a o)(e:H' a=H a)(t:TS H H'):MOk K H' a o:=by
 cases o with
 |lst _=>obtain⟨vs,q,r⟩:=m;exact⟨vs,e.trans q,r.ts t⟩
 |fro _=>obtain⟨ob,vs,q,r⟩:=m;exact⟨ob,vs,e.trans q,r.ts t⟩
 |dK _=>obtain⟨l,q,r⟩:=m;exact⟨l,e.trans q,r.ts t⟩
 |dT _=>obtain⟨l,q,r⟩:=m;exact⟨l,e.trans q,r.ts t⟩
 |frd _ _=>obtain⟨l,q,r⟩:=m;exact⟨l,e.trans q,r.ts t⟩
theorem HR.nope (h:HR K H G){a:Addr}(e:H a=none):G a=none:=by
 cases q:G a with
 |none=>rfl
 |some o=>
  obtain⟨_,e2⟩:=(h a o q).there;rw[e]at e2;cases e2
theorem jas {a:Addr}{o:MO}:gup G a o a=some o:=by unfold gup;rw[if_pos rfl]
theorem jbj {a b:Addr}{o:MO}(h:b≠a):gup G a o b=G b:=by unfold gup;rw[if_neg h]
theorem TS.new {p:Addr}{o:HO}(e:H p=none):TS H (upd H p o):=⟨λa xs h=>by rw[jad (jah h e)];exact h,λa ob h=>by rw[jad (jah h e)];exact h⟩
theorem HR.newT (h:HR K H G){p:Addr}{xs:List V}(e:H p=none):HR K (upd H p (.tup xs)) G:=⟨λa o q=>by
 have m:=h a o q;obtain⟨ho,e2⟩:=m.there;exact m.keep (jad (jah e2 e)) (TS.new e),h.tab.new e⟩
theorem Fr.new {p:Addr}{o:HO}(e:H p=none):Fr H G (upd H p o) G:=⟨λa ob h g _=>⟨by rw[jad (jah h e)];exact h,g⟩⟩
theorem HR.newO (h:HR K H G){p:Addr}{o:HO}{mo:MO}(e:H p=none)(m:MOk K (upd H p o) p mo):HR K (upd H p o) (gup G p mo):=⟨λa ob q=>by
 by_cases z:a=p
 ·subst z;rw[jas]at q;cases q;exact m
 ·rw[jbj z]at q;exact(h a ob q).keep (jad z) (TS.new e),h.tab.new e⟩
theorem Fr.newO {p:Addr}{o:HO}{mo:MO}(e:H p=none):Fr H G (upd H p o) (gup G p mo):=⟨λa ob h g _=>by
 have z:a≠p:=jah h e;exact⟨by rw[jad z];exact h,by rw[jbj z];exact g⟩⟩
theorem TS.write (h:HR K H G){p:Addr}{o:HO}{mo:MO}(g:G p=some mo):TS H (upd H p o):=⟨λa xs e=>by
 have z:a≠p:=λz=>by subst z;rw[h.tupNone e]at g;cases g
 rw[jad z];exact e,λa ob e=>by
 have z:a≠p:=λz=>by subst z;rw[h.codNone e]at g;cases g
 rw[jad z];exact e⟩
theorem HR.write (h:HR K H G){p:Addr}{o:HO}{mo mo':MO}(g:G p=some mo)(m:MOk K (upd H p o) p mo'):HR K (upd H p o) (gup G p mo'):=⟨λa ob q=>by
 by_cases z:a=p
 ·subst z;rw[jas]at q;cases q;exact m
 ·rw[jbj z]at q;exact(h a ob q).keep (jad z) (TS.write h g),h.tabW g⟩
theorem Fr.write {p:Addr}{o:HO}{mo mo':MO}(g:G p=some mo):Fr H G (upd H p o) (gup G p mo'):=⟨λa ob h n _=>by
 have z:a≠p:=λz=>by subst z;rw[n]at g;cases g
 exact⟨by rw[jad z];exact h,by rw[jbj z];exact n⟩⟩
theorem RUs.length:∀{us:List U} {vs:List V},RUs K H us vs->us.length=vs.length
 |[],_,h=>by cases h;rfl
 |_::_,_,h=>by
  obtain⟨v,vr,rfl,_,rs⟩:=h;simp[rs.length]
theorem RUs.append:∀{us ws:List U} {vs xs:List V},RUs K H us vs->RUs K H ws xs->RUs K H (us++ws) (vs++xs)
 |[],_,_,_,h,h'=>by cases h;exact h'
 |_::_,_,_,_,h,h'=>by
  obtain⟨v,vr,rfl,r,rs⟩:=h;exact⟨v,vr++_,rfl,r,rs.append h'⟩
theorem RUs.get:∀{us:List U} {vs:List V} {i:Nat} {u:U},RUs K H us vs->us[i]?=some u->∃v,vs[i]?=some v/\RU K H u v
 |[],_,_,_,_,e=>by simp at e
 |_::_,_,0,_,h,e=>by
  obtain⟨v,vr,rfl,r,_⟩:=h;simp at e;subst e;exact⟨v,rfl,r⟩
 |_::_,_,i+1,_,h,e=>by
  obtain⟨v,vr,rfl,_,rs⟩:=h;obtain⟨w,h1,h2⟩:=rs.get (i:=i) (by simpa using e)
  exact⟨w,by simpa using h1,h2⟩
theorem RUs.take:∀{us:List U} {vs:List V} (n:Nat),RUs K H us vs->RUs K H (us.take n) (vs.take n)
 |_,_,0,_=>rfl
 |[],_,_+1,h=>by cases h;rfl
 |_::_,_,n+1,h=>by
  obtain⟨v,vr,rfl,r,rs⟩:=h;exact⟨v,vr.take n,rfl,r,rs.take n⟩
theorem RUs.drop:∀{us:List U} {vs:List V} (n:Nat),RUs K H us vs->RUs K H (us.drop n) (vs.drop n)
 |_,_,0,h=>h
 |[],_,_+1,h=>by cases h;rfl
 |_::_,_,n+1,h=>by
  obtain⟨v,vr,rfl,_,rs⟩:=h;exact rs.drop n
theorem RUs.set {u:U}{v:V}(r:RU K H u v):∀{us:List U} {vs:List V} (i:Nat),RUs K H us vs->RUs K H (us.set i u) (vs.set i v)
 |[],_,_,h=>by cases h;rfl
 |_::_,_,0,h=>by
  obtain⟨w,vr,rfl,_,rs⟩:=h;exact⟨v,vr,rfl,r,rs⟩
 |_::_,_,i+1,h=>by
  obtain⟨w,vr,rfl,q,rs⟩:=h;exact⟨w,vr.set i v,rfl,q,rs.set r i⟩
theorem RUs.reverse:∀{us:List U} {vs:List V},RUs K H us vs->RUs K H us.reverse vs.reverse
 |[],_,h=>by cases h;rfl
 |_::_,_,h=>by
  obtain⟨v,vr,rfl,r,rs⟩:=h;rw[Yb0,Yb0];exact rs.reverse.append ⟨v,[],rfl,r,rfl⟩
section
variable {us:List U}{vs:List V}
theorem RUs.rep (h:RUs K H us vs):∀k:Nat,RUs K H (Yab k us).flatten (Yab k vs).flatten
 |0=>rfl
 |k+1=>by
  rw[YaH,YaH,YbG,YbG];exact h.append (h.rep k)
theorem RUs.atI {i:Int}{u:U}(h:RUs K H us vs)(e:atI us i=some u):∃v,L2.atI vs i=some v/\RU K H u v:=by
 unfold L2.atI at e ⊢;rw[h.length]at e;cases q:ixN vs.length i with
 |none=>rw[q]at e;cases e
 |some j=>
  rw[q]at e;exact h.get e
theorem RUs.cut (h:RUs K H us vs)(lo hi:Option Int):RUs K H (Z.cut us lo hi) (cutV vs lo hi):=by
 unfold Z.cut cutV;rw[h.length];exact(h.drop _).take _
theorem RUs.isEmpty (h:RUs K H us vs):us.isEmpty=vs.isEmpty:=by
 cases us with
 |nil=>cases h;rfl
 |cons u us=>obtain⟨v,vr,rfl,_⟩:=h;rfl
end
theorem RUs.ints:∀{us:List U} {vs:List V} {ns:List Int},RUs K H us vs->jhC us=some ns->vs=ns.map V.int
 |[],_,_,h,e=>by cases h;cases e;rfl
 |u::us,_,ns,h,e=>by
  obtain⟨v,vr,rfl,r,rs⟩:=h;cases u with
  |int i=>
   cases r;rw[jhC]at e;cases q:jhC us with
   |none=>rw[q]at e;cases e
   |some l=>rw[q]at e;cases e;rw[rs.ints q];rfl
  |_=>cases e
theorem RUs.strs:∀{us:List U} {vs:List V} {ns:List Str},RUs K H us vs->jcg us=some ns->vs=ns.map V.str
 |[],_,_,h,e=>by cases h;cases e;rfl
 |u::us,_,ns,h,e=>by
  obtain⟨v,vr,rfl,r,rs⟩:=h;cases u with
  |str i=>
   cases r;rw[jcg]at e;cases q:jcg us with
   |none=>rw[q]at e;cases e
   |some l=>rw[q]at e;cases e;rw[rs.strs q];rfl
  |_=>cases e
theorem RUs.bools:∀{us:List U} {vs:List V} {ns:List Bool},RUs K H us vs->jbp us=some ns->vs=ns.map V.bl
 |[],_,_,h,e=>by cases h;cases e;rfl
 |u::us,_,ns,h,e=>by
  obtain⟨v,vr,rfl,r,rs⟩:=h;cases u with
  |bl i=>
   cases r;rw[jbp]at e;cases q:jbp us with
   |none=>rw[q]at e;cases e
   |some l=>rw[q]at e;cases e;rw[rs.bools q];rfl
  |_=>cases e
theorem HR.lst (h:HR K H G){a:Addr}{us:List U}(e:G a=some (.lst us)):∃vs,H a=some (.lst vs)/\RUs K H us vs:=h a _ e
theorem HR.ls (h:HR K H G){a:Addr}{us:List U}(e:lsG G a=some us):∃vs,SqL K H a vs/\RUs K H us vs:=by
 unfold lsG at e;split at e
 ·rename_i xs q;cases e;obtain⟨vs,q2,r⟩:=h a _ q;exact⟨vs,.inl (.inl q2),r⟩
 ·rename_i xs q;cases e;obtain⟨o,vs,q2,r⟩:=h a _ q;exact⟨vs,.inl (.inr ⟨o,q2⟩),r⟩
 ·cases e
theorem HR.rd (h:HR K H G){a:Addr}{us:List U}(e:lsG G a=some us):∃vs,Rd H a (.lst vs)/\RUs K H us vs:=by
 unfold lsG at e;split at e
 ·rename_i xs q;cases e;obtain⟨vs,q2,r⟩:=h a _ q;exact⟨vs,.inl q2,r⟩
 ·rename_i xs q;cases e;obtain⟨o,vs,q2,r⟩:=h a _ q;exact⟨vs,.inr ⟨o,q2⟩,r⟩
 ·cases e
end
mutual
theorem DU.dv {K:Yaa}{H:Hp}{G:Gp}(h:HR K H G):∀{u:U} {d:PyData} {v:V},DU G u d->RU K H u v->DV K H v d
 |_,_,_,.non,r=>by cases r;exact .non
 |_,_,_,.bl b,r=>by cases r;exact .bl b
 |_,_,_,.int i,r=>by cases r;exact .int i
 |_,_,_,.str x,r=>by cases r;exact .str x
 |_,_,_,.tup q,r=>by
  obtain⟨a,vs,rfl,s,rs⟩:=r
  exact .tup (.of s) (DUs.dv h q rs)
 |_,_,_,.lst e q,r=>by
  cases r
  obtain⟨vs,s,rs⟩:=h.rd e
  exact .lst s (DUs.dv h q rs)
 |_,_,_,.dic e,r=>by
  cases r
  obtain⟨l,q,rs⟩:=h _ _ e
  cases rs
  exact .dic q
theorem DUs.dv {K:Yaa}{H:Hp}{G:Gp}(h:HR K H G):∀{us:List U} {ds:List PyData} {vs:List V},DUs G us ds->RUs K H us vs->DVs K H vs ds
 |_,_,_,.nil,r=>by cases r;exact .nil
 |_,_,_,.cons a b,r=>by
  obtain⟨v,vr,rfl,r1,rs⟩:=r
  exact .cons (DU.dv h a r1) (DUs.dv h b rs)
end
end Z

namespace L2
open PySem
section
variable {X:Cx}
theorem PE.imp {e:Expr}{t t':TE}(h:PE X e t)(i:∀σ H Q,t' σ H Q->t σ H Q):PE X e t':=λpins s σ H Q I q=>h pins s σ H Q I (i σ H Q q)
theorem PT.imp {e:Expr}{t t':TT}(h:PT X e t)(i:∀σ H Q,t' σ H Q->t σ H Q):PT X e t':=λpins s σ H Q I q=>h pins s σ H Q I (i σ H Q q)
theorem PW.imp {e:Expr}{t t':TT}(h:PW X e t)(i:∀σ H Q,t' σ H Q->t σ H Q):PW X e t':=λw pins s σ H Q I q=>h w pins s σ H Q I (i σ H Q q)
theorem PA.imp {e:List Expr}{t t':TA}(h:PA X e t)(i:∀σ H Q,t' σ H Q->t σ H Q):PA X e t':=λpos pins s σ H Q I q=>h pos pins s σ H Q I (i σ H Q q)
theorem PO.imp {e:Option Expr}{t t':TO}(h:PO X e t)(i:∀σ H Q,t' σ H Q->t σ H Q):PO X e t':=λpins s σ H Q I q=>h pins s σ H Q I (i σ H Q q)
theorem PS.imp {e:Stmt}{t t':L2.TS}(h:PS X e t)(i:∀D σ H,t' D σ H->t D σ H):PS X e t':=λpins s σ H D I q=>h pins s σ H D I (i D σ H q)
theorem PSs.imp {e:List Stmt}{t t':L2.TS}(h:PSs X e t)(i:∀D σ H,t' D σ H->t D σ H):PSs X e t':=λpins s σ H D I q=>h pins s σ H D I (i D σ H q)
end
end L2
namespace Z
open PySem L2
noncomputable def gK (K:Yaa):Str->Option Value:=λx=>(Ybc K YaB x).join
def XD (K:Yaa)(H:Hp)(C dx:Addr)(x:XV):Prop:=1<=x.c/\x.c<6/\XCls K (gK K) (clsN x.c) (clsF x.c) C/\∃l,H dx=some (.xd l)/\l.map (·.1)=clsF x.c/\RUs K H x.fs (l.map (·.2))
def XAt (X:Cx)(H:Hp)(s:Shared)(e:Value)(x:XV):Prop:=∃ea C dx,e=.ref ea/\Lies X.s₀.heap.objs.size X.pn H s.heap ea (.ref C) (some dx)/\XD X.K H C dx x
section
variable (X:Cx)
def LX (σ:St)(H:Hp)(G:Gp)(E:KX):Prop:=∀(pins:List (Addr×Obj)) (e:Value) (s':Shared) (x:XV) (G':Gp) (H':Hp),Inv X pins σ H' s'->XAt X H' s' e x->HR X.K H' G'->Fr H G H' G'->E x G'->X.xe e s'
def LV (H:Hp)(G:Gp)(Q:K1)(Q0:VK):Prop:=∀w v G' H',RU X.K H' w v->HR X.K H' G'->Fr H G H' G'->Q w G'->Q0 v H'
def lE (t:UE):TE:=λσ H Q0=>∃ς G Q E,SR X.K H ς σ/\HR X.K H G/\t ς G Q E/\LV X H G Q Q0/\LX X σ H G E
def lT (t:UT):TT:=λσ H Q0=>∃ς G Q E,SR X.K H ς σ/\HR X.K H G/\t ς G Q E/\(∀b G' H',HR X.K H' G'->Fr H G H' G'->Q b G'->Q0 b H')/\LX X σ H G E
def lA (t:UA):TA:=λσ H Q0=>∃ς G Q E,SR X.K H ς σ/\HR X.K H G/\t ς G Q E/\(∀ws vs G' H',RUs X.K H' ws vs->HR X.K H' G'->Fr H G H' G'->Q ws G'->Q0 vs H')/\LX X σ H G E
def lO (t:Sg->Gp->(Option Int->Gp->Prop)->KX->Prop):TO:=λσ H Q0=>∃ς G Q E,SR X.K H ς σ/\HR X.K H G/\t ς G Q E/\(∀o G' H',HR X.K H' G'->Fr H G H' G'->Q o G'->Q0 o H')/\LX X σ H G E
end
section
variable {X:Cx}{σ:St}{H H1 H2:Hp}{G G1 G2:Gp}
theorem LX.fr {E:KX}(h:LX X σ H G E)(f:Fr H G H1 G1):LX X σ H1 G1 E:=λpins e s' x G' H' I a hr f' q=>h pins e s' x G' H' I a hr (f.trans f') q
section
variable {Q:K1}{Q0:VK}
theorem LV.fr (h:LV X H G Q Q0)(f:Fr H G H1 G1):LV X H1 G1 Q Q0:=λw v G' H' r hr f' q=>h w v G' H' r hr (f.trans f') q
theorem LV.here (h:LV X H G Q Q0){w:U}{v:V}(r:RU X.K H w v)(hr:HR X.K H G)(q:Q w G):Q0 v H:=h w v G H r hr (Fr.refl _ _) q
theorem LV.bl (h:LV X H G Q Q0){b:Bool}(hr:HR X.K H G)(q:Q (.bl b) G):Q0 (.bl b) H:=h.here (w:=.bl b) rfl hr q
theorem LV.int (h:LV X H G Q Q0){b:Int}(hr:HR X.K H G)(q:Q (.int b) G):Q0 (.int b) H:=h.here (w:=.int b) rfl hr q
theorem LV.str (h:LV X H G Q Q0){b:Str}(hr:HR X.K H G)(q:Q (.str b) G):Q0 (.str b) H:=h.here (w:=.str b) rfl hr q
theorem LV.tup (h:LV X H G Q Q0){p:Addr}{us:List U}{vs:List V}(e:H p=none)(r:RUs X.K H us vs)(hr:HR X.K H G)(q:Q (.tup us) G):Q0 (.ref p) (upd H p (.tup vs)):=
 h (.tup us) (.ref p) G _ ⟨p,vs,rfl,jag,r.ts (TS.new e)⟩ (hr.newT e) (Fr.new e) q
theorem LV.lst (h:LV X H G Q Q0){p:Addr}{us:List U}{vs:List V}(e:H p=none)(r:RUs X.K H us vs)(hr:HR X.K H G)(q:newO G (.lst us) Q):Q0 (.ref p) (upd H p (.lst vs)):=
 h (.loc p) (.ref p) _ _ rfl (hr.newO (mo:=.lst us) e ⟨vs,jag,r.ts (TS.new e)⟩) (Fr.newO e) (q.at p (hr.nope e))
theorem LV.wl (h:LV X H G Q Q0){p:Addr}{us:List U}{vs:List V}{mo:MO}(g:G p=some mo)(r:RUs X.K H us vs)(hr:HR X.K H G){w:U}{v:V}(rw':RU X.K H w v)(q:putO G p (.lst us) (Q w)):Q0 v (upd H p (.lst vs)):=
 h w v _ _ (rw'.ts (TS.write hr g)) (hr.write (mo':=.lst us) g ⟨vs,jag,r.ts (TS.write hr g)⟩) (Fr.write g) q.at
end
end
section
variable {X:Cx}{σ:St}{H:Hp}{Q0:VK}{ta tb:UE}
theorem lE.two {R:V->V->Hp->Prop}{k:U->U->Gp->K1->Prop}(h:lE X (λς G Q E=>ta ς G (λx G1=>tb ς G1 (λy G2=>k x y G2 Q) E) E) σ H Q0)
  (f:∀x y v v' G H' Q,RU X.K H' x v->RU X.K H' y v'->HR X.K H' G->k x y G Q->LV X H' G Q Q0->R v v' H'):lE X ta σ H λv H1=>lE X tb σ H1 λv' H2=>R v v' H2:=by
 obtain⟨ς,G,Q,E,hς,hG,h,lv,lx⟩:=h;refine⟨ς,G,_,E,hς,hG,h,λx v G1 H1 rx hG1 f1 h1=>?_,lx⟩;refine⟨ς,G1,_,E,hς.ts (f1.ts hG),hG1,h1,λy v' G2 H2 ry hG2 f2 h2=>?_,lx.fr f1⟩;exact f x y v v' G2 H2 Q (rx.ts (f2.ts hG1)) ry hG2 h2 (lv.fr (f1.trans f2))
theorem lE.one {R:V->Hp->Prop}{k:U->Gp->K1->Prop}(h:lE X (λς G Q E=>ta ς G (λx G1=>k x G1 Q) E) σ H Q0)
  (f:∀x v G H' Q,RU X.K H' x v->HR X.K H' G->k x G Q->LV X H' G Q Q0->R v H'):lE X ta σ H R:=by
 obtain⟨ς,G,Q,E,hς,hG,h,lv,lx⟩:=h;exact⟨ς,G,_,E,hς,hG,h,λx v G1 H1 rx hG1 f1 h1=>f x v G1 H1 Q rx hG1 h1 (lv.fr f1),lx⟩
theorem lE.many {ta:UA}{R:List V->Hp->Prop}{k:List U->Gp->K1->Prop}(h:lE X (λς G Q E=>ta ς G (λx G1=>k x G1 Q) E) σ H Q0)
  (f:∀x v G H' Q,RUs X.K H' x v->HR X.K H' G->k x G Q->LV X H' G Q Q0->R v H'):lA X ta σ H R:=by
 obtain⟨ς,G,Q,E,hς,hG,h,lv,lx⟩:=h;exact⟨ς,G,_,E,hς,hG,h,λx v G1 H1 rx hG1 f1 h1=>f x v G1 H1 Q rx hG1 h1 (lv.fr f1),lx⟩
end
section
variable {X:Cx}{pos:Pos}
theorem jn9 {i:Nat}{x:Str}(hN:X.N[i]?=some x)(hv:Vis X.env.scope x)(hd:(x==("__debug__" : Str))=false)(hcd:(x==("__classdict__" : Str))=false):PE X (.Name x pos) (lE X λς G Q _=>slot ς i λu=>Q u G):=by
 refine(ja5 hN hv hd hcd).imp λσ H Q0 h=>?_;obtain⟨ς,G,Q,E,hς,hG,h,lv,_⟩:=h;unfold slot at h;split at h
 ·rename_i u e;obtain⟨v,e1,r⟩:=hς.2 i u e;exact⟨v,e1,lv.here r hG h⟩
 ·exact h.elim
theorem jbU {e:Expr}{u:U}{v:V}(h:PE X e (tC v))(r:∀H,RU X.K H u v):PE X e (lE X λ_ G Q _=>Q u G):=
 h.imp λ_ _ _ ⟨_,_,_,_,_,hG,q,lv,_⟩=>lv.here (r _) hG q
end
def OpU (X:Cx)(f:Value->Value->Sem Value)(b:U->U->Gp->K1->Prop):Prop:=
 ∃r:R2,OpR X f r/\∀x y v v' G H Q Q0,RU X.K H x v->RU X.K H y v'->HR X.K H G->b x y G Q->LV X H G Q Q0->r v v' H Q0
section
variable {X:Cx}{pos:Pos}{a b c:Expr}{ta tb tc:UE}
theorem joo {o:Ydc}{k:U->U->Gp->K1->Prop}(ho:OpU X (Ybf o) k)(ha:PE X a (lE X ta))(hb:PE X b (lE X tb)) :
  PE X (.BinOp a o b pos) (lE X λς G Q E=>ta ς G (λx G1=>tb ς G1 (λy G2=>k x y G2 Q) E) E):=by
 obtain⟨r,h1,h2⟩:=ho;exact(joU h1 ha hb).imp λσ H Q0 h=>lE.two h λx y v v' G H' Q rx ry hG q lv=>h2 x y v v' G H' Q Q0 rx ry hG q lv
theorem jmI:OpU X (Ybf .Add) addU:=by
 refine⟨_,jmU.or (jgi.or ((jkU (X:=X)).or (jmT.or jkV))),?_⟩;intro x y v v' G H Q Q0 rx ry hG h lv;cases x<;>try exact h.elim
 ·cases y<;>try exact h.elim
  cases rx;cases ry;exact .inr (.inr (.inr (.inr ⟨_,_,rfl,rfl,lv.int hG h⟩)))
 ·cases y<;>try exact h.elim
  cases rx;cases ry;exact .inl ⟨_,_,rfl,rfl,lv.int hG h⟩
 ·cases y<;>try exact h.elim
  cases rx;cases ry;exact .inr (.inl ⟨_,_,rfl,rfl,h.1,lv.str hG h.2⟩)
 ·cases y<;>try exact h.elim
  rename_i xs ys;obtain⟨a,vs,rfl,s1,r1⟩:=rx;obtain⟨b,ws,rfl,s2,r2⟩:=ry;obtain⟨hl,q⟩:=h;refine .inr (.inr (.inl ⟨a,b,vs,ws,rfl,rfl,.of s1,.of s2,by rw[<- r1.length,<- r2.length];exact hl,λz=>?_,λ_ z=>?_,λ_ _ p hp=>?_⟩))
  ·have:xs=[]:=by have:=r1.length;rw[z]at this;simpa using this
   subst this;exact lv.here (w:=.tup ys) ⟨b,ws,rfl,s2,r2⟩ hG q
  ·have:ys=[]:=by have:=r2.length;rw[z]at this;simpa using this
   subst this;rw[YbX]at q;exact lv.here (w:=.tup xs) ⟨a,vs,rfl,s1,r1⟩ hG q
  ·exact lv.tup hp (r1.append r2) hG q
 ·cases y<;>try exact h.elim
  cases rx;cases ry;obtain⟨xs,ys,g1,g2,hl,q⟩:=h;obtain⟨vs,e1,r1⟩:=hG.lst g1;obtain⟨ws,e2,r2⟩:=hG.lst g2;exact .inr (.inr (.inr (.inl ⟨_,_,vs,ws,rfl,rfl,e1,e2,by rw[<- r1.length,<- r2.length];exact hl,λp hp=>lv.lst hp (r1.append r2) hG q⟩)))
theorem jmD:OpU X (Ybf .Sub) subU:=by
 refine⟨_,jmJ.or (jkP (X:=X)),?_⟩;intro x y v v' G H Q Q0 rx ry hG h lv;unfold subU at h;split at h
 ·cases rx;cases ry;exact .inl ⟨_,_,rfl,rfl,lv.int hG h⟩
 ·cases rx;cases ry;exact .inr (.inl ⟨_,_,rfl,rfl,lv.int hG h⟩)
 ·cases rx;cases ry;exact .inr (.inr ⟨_,_,rfl,rfl,lv.int hG h⟩)
 ·exact h.elim
theorem jmF:OpU X (Ybf .Mult) mulU:=by
 refine⟨_,jmN.or (jmK.or ((jkQ (X:=X)).or jkR)),?_⟩;intro x y v v' G H Q Q0 rx ry hG h lv;unfold mulU at h;split at h
 ·cases rx;cases ry;exact .inl ⟨_,_,rfl,rfl,h.1,lv.int hG h.2⟩
 ·cases rx;cases ry;obtain⟨xs,g1,h1,h2,hl,q⟩:=h;obtain⟨vs,e1,r1⟩:=hG.lst g1;exact .inr (.inl ⟨_,_,vs,rfl,rfl,e1,h1,h2,by rw[<- r1.length];exact hl,λp hp=>lv.lst hp (r1.rep _) hG q⟩)
 ·rename_i xs k;obtain⟨a,vs,rfl,s1,r1⟩:=rx;cases ry;obtain⟨h0,h1,h2,hl,q⟩:=h;refine .inr (.inr (.inl ⟨a,k,vs,rfl,rfl,.of s1,?_,h1,h2,by rw[<- r1.length];exact hl,λz=>?_,λ_ p hp=>lv.tup hp (r1.rep _) hG q⟩))
  ·intro z;subst z;exact h0 (by have:=r1.length;simpa using this)
  ·subst z;have e:(Yab (Yfx 1) xs).flatten=xs:=by simp
   rw[e]at q;exact lv.here (w:=.tup xs) ⟨a,vs,rfl,s1,r1⟩ hG q
 ·cases rx;cases ry;exact .inr (.inr (.inr ⟨_,_,rfl,rfl,h.1,h.2.1,h.2.2.1,lv.str hG h.2.2.2⟩))
 ·exact h.elim
theorem jkO:OpU X (Ybf .FloorDiv) jlt:=by
 refine⟨_,jkS,?_⟩;intro x y v v' G H Q Q0 rx ry hG h lv;unfold jlt at h;split at h
 ·cases rx;cases ry;exact⟨_,_,rfl,rfl,⟨h.1,h.2.1⟩,lv.int hG h.2.2⟩
 ·exact h.elim
theorem jmG:OpU X (Ybf .Mod) modU:=by
 refine⟨_,jmO,?_⟩;intro x y v v' G H Q Q0 rx ry hG h lv;unfold modU at h;split at h
 ·cases rx;cases ry;exact⟨_,_,rfl,rfl,h.1,lv.int hG h.2⟩
 ·exact h.elim
theorem jmE:OpU X (Ybf .Pow) powU:=by
 refine⟨_,jmL,?_⟩;intro x y v v' G H Q Q0 rx ry hG h lv;unfold powU at h;split at h
 ·cases rx;cases ry;exact⟨_,_,rfl,rfl,h.1,lv.int hG h.2⟩
 ·exact h.elim
theorem jmH (o:Ydc):OpU X (Ybf o) (binU o):=by
 cases o with
 |Add=>exact jmI
 |Sub=>exact jmD
 |Mult=>exact jmF
 |FloorDiv=>exact jkO
 |Mod=>exact jmG
 |Pow=>exact jmE
 |_=>exact⟨λ_ _ _ _=>False,λ_ _ _ _ _ _ _ _ _ _ _ _ h=>h.elim,λ_ _ _ _ _ _ _ _ _ _ _ h _=>h⟩
theorem joh (ha:PE X a (lE X ta)):PE X (.UnaryOp .USub a pos) (lE X λς G Q E=>ta ς G (λx G1=>negU x G1 Q) E):=by
 refine(joS jlK ha).imp λσ H Q0 h=>lE.one h λx v G H' Q rx hG q lv=>?_;unfold negU at q;split at q
 ·cases rx;exact⟨_,rfl,lv.int hG q⟩
 ·exact q.elim
end
def CmU (X:Cx)(o:CmpOp):Prop:=
 ∃r:R2,OpR X (YaM o) r/\∀x y v v' G H (k:Bool->Prop) (Q0:VK),RU X.K H x v->RU X.K H y v'->HR X.K H G->cmpU o x y G k->(∀c,k c->Q0 (.bl c) H)->r v v' H Q0
section
variable {X:Cx}
def rIs (neg:Bool):R2:=λx y H Q=>((x=.non\/∃b,x=.bl b)\/(y=.non\/∃b,y=.bl b))/\Q (.bl (if neg then !decide (x=y) else decide (x=y))) H
theorem jfF {x y:V}{v u:Value}(rx:RelV x v)(ry:RelV y u)(h:(x=.non\/∃b,x=.bl b)\/(y=.non\/∃b,y=.bl b)):plainIs v u=true/\(v==u)=decide (x=y):=by
 rcases h with(rfl|⟨b,rfl⟩)|(rfl|⟨b,rfl⟩)
 ·cases rx;cases y with
  |non=>cases ry;exact⟨rfl,by simp⟩
  |bl c=>cases ry;exact⟨rfl,by simp⟩
  |int _=>obtain⟨t,rfl⟩:=ry;exact⟨rfl,by simp⟩
  |str _=>obtain⟨t,rfl⟩:=ry;exact⟨rfl,by simp⟩
  |byt _=>obtain⟨t,rfl⟩:=ry;exact⟨rfl,by simp⟩
  |flt _=>obtain⟨t,rfl⟩:=ry;exact⟨rfl,by simp⟩
  |ref _=>cases ry;exact⟨rfl,by simp⟩
  |ty _=>cases ry;exact⟨rfl,by simp⟩
 ·cases rx;cases y with
  |non=>cases ry;exact⟨rfl,by simp⟩
  |bl c=>cases ry;exact⟨rfl,by cases b<;>cases c<;>rfl⟩
  |int _=>obtain⟨t,rfl⟩:=ry;exact⟨rfl,by simp⟩
  |str _=>obtain⟨t,rfl⟩:=ry;exact⟨rfl,by simp⟩
  |byt _=>obtain⟨t,rfl⟩:=ry;exact⟨rfl,by simp⟩
  |flt _=>obtain⟨t,rfl⟩:=ry;exact⟨rfl,by simp⟩
  |ref _=>cases ry;exact⟨rfl,by simp⟩
  |ty _=>cases ry;exact⟨rfl,by simp⟩
 ·cases ry;cases x with
  |non=>cases rx;exact⟨rfl,by simp⟩
  |bl c=>cases rx;exact⟨rfl,by simp⟩
  |int _=>obtain⟨t,rfl⟩:=rx;exact⟨rfl,by simp⟩
  |str _=>obtain⟨t,rfl⟩:=rx;exact⟨rfl,by simp⟩
  |byt _=>obtain⟨t,rfl⟩:=rx;exact⟨rfl,by simp⟩
  |flt _=>obtain⟨t,rfl⟩:=rx;exact⟨rfl,by simp⟩
  |ref _=>cases rx;exact⟨rfl,by simp⟩
  |ty _=>cases rx;exact⟨rfl,by simp⟩
 ·cases ry;cases x with
  |non=>cases rx;exact⟨rfl,by simp⟩
  |bl c=>cases rx;exact⟨rfl,by cases b<;>cases c<;>rfl⟩
  |int _=>obtain⟨t,rfl⟩:=rx;exact⟨rfl,by simp⟩
  |str _=>obtain⟨t,rfl⟩:=rx;exact⟨rfl,by simp⟩
  |byt _=>obtain⟨t,rfl⟩:=rx;exact⟨rfl,by simp⟩
  |flt _=>obtain⟨t,rfl⟩:=rx;exact⟨rfl,by simp⟩
  |ref _=>cases rx;exact⟨rfl,by simp⟩
  |ty _=>cases rx;exact⟨rfl,by simp⟩
theorem jmP:OpR X (YaM .Is) (rIs false):=by
 intro pins s σ H x y v u Q I rx ry h;obtain⟨c,q⟩:=h;obtain⟨h1,h2⟩:=jfF rx ry c;refine wpAny_is_plain h1 ⟨.bl _,H,I,?_,q⟩;rw[h2];rfl
theorem jg8:OpR X (YaM .IsNot) (rIs true):=by
 intro pins s σ H x y v u Q I rx ry h;obtain⟨c,q⟩:=h;obtain⟨h1,h2⟩:=jfF rx ry c;refine wpAny_isNot_plain h1 ⟨.bl _,H,I,?_,q⟩;rw[h2];rfl
theorem jjF {K:Yaa}{H:Hp}{x y:U}{v v':V}{k:Bool->Prop}(rx:RU K H x v)(ry:RU K H y v')(h:isU x y k):((v=.non\/∃b,v=.bl b)\/(v'=.non\/∃b,v'=.bl b))/\k (decide (v=v')):=by
 have e:∀{a b:V},a≠b->k false->k (decide (a=b)):=λn q=>by rw[decide_eq_false n];exact q
 cases x<;>try exact h.elim
 ·cases y
  case non=>have h':k true:=h;cases rx;cases ry;exact⟨.inl (.inl rfl),by simpa using h'⟩
  all_goals first
   |exact h.elim
   |(cases rx;obtain⟨a,vs,rfl,_⟩:=ry;exact⟨.inl (.inl rfl),e (λz=>nomatch z) h⟩)
   |(cases rx;cases ry;exact⟨.inl (.inl rfl),e (λz=>nomatch z) h⟩)
 ·cases y<;>first
   |exact h.elim
   |(cases rx;cases ry;exact⟨.inr (.inl rfl),e (λz=>nomatch z) h⟩)
   |(cases rx;cases ry;rename_i b c;exact⟨.inl (.inr ⟨_,rfl⟩),by rw[decide_eq_decide.mpr (⟨λz=>V.bl.inj z,λz=>z ▸ rfl⟩:V.bl b=.bl c↔b=c)];exact h⟩)
 ·cases y<;>first
   |exact h.elim
   |(cases rx;cases ry;exact⟨.inr (.inl rfl),e (λz=>nomatch z) h⟩)
   |(cases rx;cases ry;exact⟨.inr (.inr ⟨_,rfl⟩),e (λz=>nomatch z) h⟩)
 ·cases y<;>first
   |exact h.elim
   |(cases rx;cases ry;exact⟨.inr (.inl rfl),e (λz=>nomatch z) h⟩)
   |(cases rx;cases ry;exact⟨.inr (.inr ⟨_,rfl⟩),e (λz=>nomatch z) h⟩)
 ·cases y<;>first
   |exact h.elim
   |(cases ry;obtain⟨a,vs,rfl,_⟩:=rx;exact⟨.inr (.inl rfl),e (λz=>nomatch z) h⟩)
   |(cases ry;obtain⟨a,vs,rfl,_⟩:=rx;exact⟨.inr (.inr ⟨_,rfl⟩),e (λz=>nomatch z) h⟩)
 ·cases y<;>first
   |exact h.elim
   |(cases rx;cases ry;exact⟨.inr (.inl rfl),e (λz=>nomatch z) h⟩)
   |(cases rx;cases ry;exact⟨.inr (.inr ⟨_,rfl⟩),e (λz=>nomatch z) h⟩)
theorem jjO {H:Hp}{G:Gp}{x y:U}{v v':V}{k:Bool->Prop}(rx:RU X.K H x v)(ry:RU X.K H y v')(hG:HR X.K H G)(h:eqU x y G k) :
  (scal v v'=true/\k (decide (v=v')))\/∃d e,DV X.K H v d/\DV X.K H v' e/\d.canLay0=true/\e.canLay0=true/\d.depth<=100/\k (YaJ d e):=by
 have g:(∃d e,DU G x d/\DU G y e/\Small d/\Small e/\k (YaJ d e))->(scal v v'=true/\k (decide (v=v')))\/∃d e,DV X.K H v d/\DV X.K H v' e/\d.canLay0=true/\e.canLay0=true/\d.depth<=100/\k (YaJ d e):=
  λ⟨d,e,h1,h2,⟨s1,s2⟩,⟨s3,_⟩,q⟩=>.inr ⟨d,e,h1.dv hG rx,h2.dv hG ry,s1,s3,s2,q⟩
 have e:∀{p:Prop} [Decidable p],¬p->k false->k (decide p):=λn q=>by rw[decide_eq_false n];exact q
 cases x<;>try exact g h
 all_goals
  cases y<;>first
   |exact g h
   |(cases rx;cases ry;exact .inl ⟨rfl,e (λz=>V.noConfusion z) h⟩)
   |(cases rx;cases ry;exact .inl ⟨rfl,by simp only[V.bl.injEq,V.int.injEq,V.str.injEq];exact h⟩)
theorem jgT {K:Yaa}{H:Hp}{us:List U}{vs:List V}(r:RUs K H us vs):vs.isEmpty=us.isEmpty:=by
 have:=r.length;cases us<;>cases vs<;>first|rfl|cases this
theorem jlu {H:Hp}{G:Gp}{x y:U}{v v':V}{k:Bool->Prop}(rx:RU X.K H x v)(ry:RU X.K H y v')(hG:HR X.K H G)(h:eqQ x y G k):eqU x y G k\/(∃a z kvs,v=.ref a/\v'=.str z/\H a=some (.dK kvs)/\k false)\/(∃a b xs,v=.ref a/\v'=.ref b/\SqT X.K H a xs/\SqT X.K H b []/\k xs.isEmpty)\/∃a z xs,v=.ref a/\v'=.str z/\(SqT X.K H a xs\/SqL X.K H a xs)/\k false:=by
 unfold eqQ at h;split at h
 ·rcases h with⟨kvs,g,q⟩|⟨xs,g,q⟩|h
  ·cases rx;cases ry;obtain⟨l,e,rs⟩:=hG _ _ g;exact .inr (.inl ⟨_,_,l,rfl,rfl,e,q⟩)
  ·cases rx;cases ry;obtain⟨vs,e,rs⟩:=hG.lst g;exact .inr (.inr (.inr ⟨_,_,vs,rfl,rfl,.inr (.of e),q⟩))
  ·exact .inl h
 ·obtain⟨a,vs,rfl,s1,r1⟩:=rx;obtain⟨b,ws,rfl,s2,r2⟩:=ry;cases r2;refine .inr (.inr (.inl ⟨a,b,vs,rfl,rfl,.of s1,.of s2,?_⟩));rw[jgT r1];exact h
 ·obtain⟨a,vs,rfl,s1,r1⟩:=rx;cases ry;exact .inr (.inr (.inr ⟨a,_,vs,rfl,rfl,.inl (.of s1),h⟩))
 ·exact .inl h
section
variable {K:Yaa}{H:Hp}
theorem jhu {x:U}{v:V}{k:Key}(r:RU K H x v)(e:kU x=some k):v=kV k:=by
 cases x with
 |int i=>cases r;cases e;rfl
 |str i=>cases r;cases e;rfl
 |_=>cases e
theorem jfN:∀{xs:List U} {vs:List V} {ks:List Key},RUs K H xs vs->kUs xs=some ks->vs=ks.map kV
 |[],_,_,r,e=>by cases r;cases e;rfl
 |x::xs,_,ks,r,e=>by
  obtain⟨v,vr,rfl,r1,rs⟩:=r;rw[kUs]at e;cases h1:kU x with
  |none=>rw[h1]at e;cases e
  |some k=>
   cases h2:kUs xs with
   |none=>rw[h1,h2]at e;cases e
   |some l=>
    rw[h1,h2]at e;cases e;rw[jhu r1 h1,jfN rs h2];rfl
theorem jdP {x:U}{v:V}(r:RU K H x v)(e:flat x=true):flatV v=true:=by
 cases x<;>first|(cases r;rfl)|exact absurd (show false=true from e) (by decide)
theorem jcr:∀{xs:List U} {vs:List V},RUs K H xs vs->xs.all flat=true->vs.all flatV=true
 |[],_,r,_=>by cases r;rfl
 |x::xs,_,r,e=>by
  obtain⟨v,vr,rfl,r1,rs⟩:=r;rw[YbB,Yap]at e;rw[YbB,jdP r1 e.1,jcr rs e.2];rfl
theorem jnq {x y:U}{v v':V}(r:RU K H x v)(r':RU K H y v')(e:flat x=true)(e':flat y=true):eqV v v'=eqF x y:=by
 cases x<;>first|(exact absurd (show false=true from e) (by decide))|(cases y<;>first|(exact absurd (show false=true from e') (by decide))|(cases r;cases r';rfl))
theorem jf6 {x:U}{v:V}(r:RU K H x v)(e:flat x=true):∀{xs:List U} {vs:List V},RUs K H xs vs->xs.all flat=true->inV v vs=xs.any λy=>eqF y x
 |[],_,rs,_=>by cases rs;rfl
 |y::xs,_,rs,e'=>by
  obtain⟨v',vr,rfl,r1,rs⟩:=rs;rw[YbB,Yap]at e';have ih:=jf6 r e rs e'.2;unfold inV at ih ⊢;rw[Ybj,Ybj,jnq r1 r e'.1 e,ih]
end
theorem jdu {κ:Type}[DecidableEq κ]{K:Yaa}{H:Hp}(k:κ):∀{kvs:List (κ×U)} {l:List (κ×V)},RKs K H kvs l->match dGet kvs k with|some u=>∃v,valV l k=some v/\RU K H u v|none=>valV l k=none
 |[],_,r=>by cases r;exact rfl
 |(k',u)::kvs,_,r=>by
  obtain⟨v,l',rfl,r1,rs⟩:=r;by_cases e:k'=k
  ·subst e;have:dGet ((k',u)::kvs) k'=some u:=by simp[dGet,Ybu]
   rw[this];exact⟨v,jck rfl,r1⟩
  ·have:dGet ((k',u)::kvs) k=dGet kvs k:=by simp[dGet,Ybu,e]
   rw[this,jcl (p:=(k',v)) e];exact jdu k rs
theorem jeq {κ:Type}[DecidableEq κ]{K:Yaa}{H:Hp}(k:κ){kvs:List (κ×U)}{l:List (κ×V)}(r:RKs K H kvs l):(valV l k).isSome=(dGet kvs k).isSome:=by
 have:=jdu k r;cases e:dGet kvs k with
 |none=>rw[e]at this;rw[show valV l k=none from this];rfl
 |some u=>rw[e]at this;obtain⟨v,h,_⟩:=this;rw[h];rfl
def rDIn (neg:Bool):R2:=λx y H Q=>∃a o,y=.ref a/\DGet H a x o/\Q (.bl (if neg then !o.isSome else o.isSome)) H
theorem jmS (hu:X.A.units+1<cLine):OpR X (YaM .In) (rDIn false):=by
 intro pins s σ H x y v u Q I rx ry h;obtain⟨a,o,rfl,g,q⟩:=h;cases ry;exact d_in hu I g rx λs' I'=>⟨.bl o.isSome,H,I',rfl,q⟩
theorem jhb (hu:X.A.units+1<cLine):OpR X (YaM .NotIn) (rDIn true):=by
 intro pins s σ H x y v u Q I rx ry h;obtain⟨a,o,rfl,g,q⟩:=h;cases ry;exact jlw hu I g rx λs' I'=>⟨.bl (!o.isSome),H,I',rfl,q⟩
theorem jjG {H:Hp}{G:Gp}{x y:U}{v v':V}{k:Bool->Prop}(rx:RU X.K H x v)(ry:RU X.K H y v')(hG:HR X.K H G)(h:inU x y G k) :
  (∃i j,v=.str i/\v'=.str j/\k (!(Yav j i 0 j.length 1).isEmpty))\/(∃p xs,v'=.ref p/\(SqL X.K H p xs\/SqT X.K H p xs)/\flatV v=true/\xs.all flatV=true/\k (inV v xs))\/
   (∃a o,v'=.ref a/\DGet H a v o/\k o.isSome)\/∃(p:Addr) (vs:List V) (d:PyData) (ds:List PyData),v'=.ref p/\SqL X.K H p vs/\DV X.K H v d/\DVs X.K H vs ds/\d.canLay0=true/\d.depth<=100/\(∀e∈ds,e.canLay0=true)/\k (ds.any λe=>YaJ e d):=by
 unfold inU at h;split at h
 ·cases rx;cases ry;exact .inl ⟨_,_,rfl,rfl,h⟩
 ·obtain⟨a,vs,rfl,e,rs⟩:=ry;obtain⟨f1,f2,q⟩:=h;exact .inr (.inl ⟨a,vs,rfl,.inr (.of e),jdP rx f1,jcr rs f2,by rw[jf6 rx f1 rs f2];exact q⟩)
 ·cases ry;rename_i a;split at h
  ·rename_i ys g;obtain⟨vs,e,rs⟩:=hG.lst g;rcases h with⟨f1,f2,q⟩|⟨d,ds,hd,hds,sd,sds,q⟩
   ·exact .inr (.inl ⟨a,vs,rfl,.inl (.of e),jdP rx f1,jcr rs f2,by rw[jf6 rx f1 rs f2];exact q⟩)
   ·exact .inr (.inr (.inr ⟨a,vs,d,ds,rfl,.inl (.of e),hd.dv hG rx,hds.dv hG rs,sd.1,sd.2,λe he=>(sds e he).1,q⟩))
  ·rename_i ys g;obtain⟨ob,vs,e,rs⟩:=hG a _ g;obtain⟨f1,f2,q⟩:=h;exact .inr (.inl ⟨a,vs,rfl,.inl (.inl (.inr ⟨ob,e⟩)),jdP rx f1,jcr rs f2,by rw[jf6 rx f1 rs f2];exact q⟩)
  ·rename_i kvs g;obtain⟨l,e,rs⟩:=hG a _ g;split at h
   ·rename_i y ek;have:=jhu rx ek;subst this;exact .inr (.inr (.inl ⟨a,_,rfl,DGet.k e,by rw[jeq y rs];exact h⟩))
   ·exact h.elim
  ·rename_i kvs g;obtain⟨l,e,rs⟩:=hG a _ g;split at h
   ·rename_i xs;obtain⟨b,vs,rfl,eb,rb⟩:=rx;split at h
    ·rename_i y ek;have:=jfN rb ek;subst this;exact .inr (.inr (.inl ⟨a,_,rfl,DGet.t e eb,by rw[jeq y rs];exact h⟩))
    ·exact h.elim
   ·exact h.elim
  ·exact h.elim
 ·exact h.elim
theorem jeV {o:CmpOp}{x y:U}{k:Bool->Prop}(h:ordU o x y k):(∃i j,x=.int i/\y=.int j)\/(o=.LtE/\∃i j,x=.str i/\y=.str j):=by
 unfold ordU at h;split at h<;>first|exact .inl ⟨_,_,rfl,rfl⟩|exact .inr ⟨rfl,_,_,rfl,rfl⟩|exact h.elim
theorem jdq {k:Nat}(hr:Room k X.A)(o:CmpOp):CmU X o:=by
 have hu:X.A.units+1<cLine:=by have:=hr.un;omega
 cases o with
 |Eq=>
  refine⟨_,jo1.or ((jmR hr).or ((jdE hr).or ((jgh hr).or (jd7 hr)))),λx y v v' G H k Q0 rx ry hG h q=>?_⟩;rcases jlu rx ry hG h with h|⟨a,z,kvs,h1,h2,h3,h4⟩|⟨a,b,xs,h1,h2,h3,h4,h5⟩|⟨a,z,xs,h1,h2,h3,h4⟩
  ·rcases jjO rx ry hG h with⟨h1,h2⟩|⟨d,e,h1,h2,h3,h4,h5,h6⟩
   ·exact .inl ⟨h1,q _ h2⟩
   ·exact .inr (.inl ⟨d,e,h1,h2,h3,h4,h5,q _ h6⟩)
  ·exact .inr (.inr (.inl ⟨a,z,kvs,h1,h2,h3,q _ h4⟩))
  ·exact .inr (.inr (.inr (.inl ⟨a,b,xs,h1,h2,h3,h4,q _ h5⟩)))
  ·exact .inr (.inr (.inr (.inr ⟨a,z,xs,h1,h2,h3,q _ h4⟩)))
 |NotEq=>
  refine⟨_,joX.or (jmM hr),λx y v v' G H k Q0 rx ry hG h q=>?_⟩;rcases jjO rx ry hG h with⟨h1,h2⟩|⟨d,e,h1,h2,h3,h4,h5,h6⟩
  ·exact .inl ⟨h1,q _ h2⟩
  ·exact .inr ⟨d,e,h1,h2,h3,h4,h5,q _ h6⟩
 |Is=>
  refine⟨_,jmP,λx y v v' G H k Q0 rx ry hG h q=>?_⟩;obtain⟨h1,h2⟩:=jjF rx ry h;exact⟨h1,q _ h2⟩
 |IsNot=>
  refine⟨_,jg8,λx y v v' G H k Q0 rx ry hG h q=>?_⟩;obtain⟨h1,h2⟩:=jjF rx ry h;exact⟨h1,q _ h2⟩
 |In=>
  refine⟨_,jg9.or ((jha (X:=X)).or ((jmS hu).or (jmQ hr))),λx y v v' G H k Q0 rx ry hG h q=>?_⟩;rcases jjG rx ry hG h with⟨i,j,h1,h2,h3⟩|⟨p,xs,h1,h2,h3,h4,h5⟩|⟨a,o,h1,h2,h3⟩|⟨p,vs,d,ds,h1,h2,h3,h4,h5,h6,h7,h8⟩
  ·exact .inl ⟨i,j,h1,h2,q _ h3⟩
  ·exact .inr (.inl ⟨p,xs,h1,h2,h3,h4,q _ h5⟩)
  ·exact .inr (.inr (.inl ⟨a,o,h1,h2,q _ h3⟩))
  ·exact .inr (.inr (.inr ⟨p,vs,d,ds,h1,h2,h3,h4,h5,h6,h7,q _ h8⟩))
 |NotIn=>
  refine⟨_,jd5.or ((jd6 (X:=X)).or ((jhb hu).or (jg6 hr))),λx y v v' G H k Q0 rx ry hG h q=>?_⟩;rcases jjG rx ry hG h with⟨i,j,h1,h2,h3⟩|⟨p,xs,h1,h2,h3,h4,h5⟩|⟨a,o,h1,h2,h3⟩|⟨p,vs,d,ds,h1,h2,h3,h4,h5,h6,h7,h8⟩
  ·exact .inl ⟨i,j,h1,h2,q _ h3⟩
  ·exact .inr (.inl ⟨p,xs,h1,h2,h3,h4,q _ h5⟩)
  ·exact .inr (.inr (.inl ⟨a,o,h1,h2,q _ h3⟩))
  ·exact .inr (.inr (.inr ⟨p,vs,d,ds,h1,h2,h3,h4,h5,h6,h7,q _ h8⟩))
 |Lt=>
  refine⟨_,joY,λx y v v' G H k Q0 rx ry hG h q=>?_⟩;obtain⟨i,j,rfl,rfl⟩|⟨z,_⟩:=jeV h
  rotate_left
  ·cases z
  cases rx;cases ry;exact⟨_,_,rfl,rfl,q _ h⟩
 |LtE=>
  refine⟨_,joZ.or jg7,λx y v v' G H k Q0 rx ry hG h q=>?_⟩;obtain⟨i,j,rfl,rfl⟩|⟨_,i,j,rfl,rfl⟩:=jeV h
  ·cases rx;cases ry;exact .inl ⟨_,_,rfl,rfl,q _ h⟩
  ·cases rx;cases ry;exact .inr ⟨_,_,rfl,rfl,q _ h⟩
 |Gt=>
  refine⟨_,jo0,λx y v v' G H k Q0 rx ry hG h q=>?_⟩;obtain⟨i,j,rfl,rfl⟩|⟨z,_⟩:=jeV h
  rotate_left
  ·cases z
  cases rx;cases ry;exact⟨_,_,rfl,rfl,q _ h⟩
 |GtE=>exact⟨λ_ _ _ _=>False,λ_ _ _ _ _ _ _ _ _ _ _ _ h=>h.elim,λ_ _ _ _ _ _ _ _ _ _ _ h _=>h.elim⟩
variable {pos:Pos}{a b c:Expr}{ta tb tc:UE}{tA tB:UT}
theorem jom {o:CmpOp}(ho:CmU X o)(ha:PE X a (lE X ta))(hb:PE X b (lE X tb))(hm:Yen o b=false) :
  PE X (.Compare a [o] [b] pos) (lE X λς G Q E=>ta ς G (λx G1=>tb ς G1 (λy G2=>cmpU o x y G2 λc=>Q (.bl c) G2) E) E):=by
 obtain⟨r,h1,h2⟩:=ho;exact(jkM h1 ha hb hm).imp λσ H Q0 h=>lE.two h λx y v v' G H' Q rx ry hG q lv=>h2 x y v v' G H' _ Q0 rx ry hG q λc q=>lv.bl hG q
theorem jlR {o o':CmpOp}(ho:CmU X o)(ho':CmU X o')(ha:PE X a (lE X ta))(hb:PE X b (lE X tb))(hc:PE X c (lE X tc))(hm:Ygj [o,o'] [b,c]=false) :
  PE X (.Compare a [o,o'] [b,c] pos) (lE X λς G Q E=>ta ς G (λx G1=>tb ς G1 (λy G2=>cmpU o x y G2 λt=>if t=true then tc ς G2 (λz G3=>cmpU o' y z G3 λt'=>Q (.bl t') G3) E else Q (.bl false) G2) E) E):=by
 obtain⟨r,h1,h2⟩:=ho;obtain⟨r',h1',h2'⟩:=ho';refine(jiK h1 h1' ha hb hc hm).imp λσ H Q0 h=>?_;obtain⟨ς,G,Q,E,hς,hG,h,lv,lx⟩:=h;refine⟨ς,G,_,E,hς,hG,h,λx v G1 H1 rx hG1 f1 h1=>?_,lx⟩;refine⟨ς,G1,_,E,hς.ts (f1.ts hG),hG1,h1,λy v' G2 H2 ry hG2 f2 h3=>?_,lx.fr f1⟩;refine h2 x y v v' G2 H2 _ _ (rx.ts (f2.ts hG1)) ry hG2 h3 λt q=>⟨t,rfl,?_⟩;cases t with
 |false=>
  rw[if_neg Yaj]at q ⊢;exact(lv.fr (f1.trans f2)).bl hG2 q
 |true=>
  rw[if_pos rfl]at q ⊢;refine⟨ς,G2,_,E,(hς.ts (f1.ts hG)).ts (f2.ts hG1),hG2,q,λz v3 G3 H3 rz hG3 f3 h4=>?_,lx.fr (f1.trans f2)⟩;exact h2' y z v' v3 G3 H3 _ Q0 (ry.ts (f3.ts hG2)) rz hG3 h4 λc q=>(lv.fr ((f1.trans f2).trans f3)).bl hG3 q
theorem jdx {H:Hp}{G:Gp}{x:U}{v:V}{k:Bool->Prop}(rx:RU X.K H x v)(hG:HR X.K H G)(h:truU x G k):∃b,TruV X.K v H b/\k b:=by
 unfold truU at h;split at h
 ·cases rx;exact⟨_,rfl,h⟩
 ·cases rx;exact⟨_,rfl,h⟩
 ·cases rx;exact⟨_,rfl,h⟩
 ·cases rx;exact⟨_,⟨h.1,rfl⟩,h.2⟩
 ·obtain⟨a,vs,rfl,e,rs⟩:=rx;exact⟨_,.inr (.inl ⟨vs,.of e,rfl⟩),by rw[<- rs.isEmpty];exact h⟩
 ·cases rx;split at h
  ·rename_i g;obtain⟨vs,e,rs⟩:=hG.lst g;exact⟨_,.inl ⟨vs,.of e,rfl⟩,by rw[<- rs.isEmpty];exact h⟩
  ·rename_i g;obtain⟨ob,vs,e,rs⟩:=hG _ _ g;exact⟨_,.inl ⟨vs,.inl (.inr ⟨ob,e⟩),rfl⟩,by rw[<- rs.isEmpty];exact h⟩
  ·rename_i kvs g;obtain⟨l,e,rs⟩:=hG _ _ g;refine⟨_,.inr (.inr ⟨l,e,rfl⟩),?_⟩;cases kvs with
   |nil=>cases rs;exact h
   |cons p r=>obtain⟨v,l',rfl,_⟩:=rs;exact h
  ·exact h.elim
 ·exact h.elim
theorem jlL (ha:PE X a (lE X ta))(he:∀whole,isTrue a X.env whole=(do let v <- whole;standAt a.pos;holding [v] (truthy v))):PT X a (lT X λς G Q E=>ta ς G (λx G1=>truU x G1 λb=>Q b G1) E):=by
 refine(jiA ha he).imp λσ H Q0 h=>?_;obtain⟨ς,G,Q,E,hς,hG,h,lv,lx⟩:=h;refine⟨ς,G,_,E,hς,hG,h,λx v G1 H1 rx hG1 f1 h1=>?_,lx⟩;obtain⟨b,h2,h3⟩:=jdx rx hG1 h1;exact⟨b,h2,lv b G1 H1 hG1 f1 h3⟩
theorem jlQ {o:CmpOp}(ho:CmU X o)(ha:PE X a (lE X ta))(hb:PE X b (lE X tb))(hm:Yen o b=false) :
  PT X (.Compare a [o] [b] pos) (lT X λς G Q E=>ta ς G (λx G1=>tb ς G1 (λy G2=>cmpU o x y G2 λc=>truU (.bl c) G2 λc=>Q c G2) E) E):=by
 obtain⟨r,h1,h2⟩:=ho;refine(jku h1 ha hb hm).imp λσ H Q0 h=>?_;obtain⟨ς,G,Q,E,hς,hG,h,lv,lx⟩:=h;refine⟨ς,G,_,E,hς,hG,h,λx v G1 H1 rx hG1 f1 h1=>?_,lx⟩;refine⟨ς,G1,_,E,hς.ts (f1.ts hG),hG1,h1,λy v' G2 H2 ry hG2 f2 h3=>?_,lx.fr f1⟩;exact h2 x y v v' G2 H2 _ _ (rx.ts (f2.ts hG1)) ry hG2 h3 λt q=>⟨t,rfl,lv t G2 H2 hG2 (f1.trans f2) q⟩
theorem jj9 {o o':CmpOp}(ho:CmU X o)(ho':CmU X o')(ha:PE X a (lE X ta))(hb:PE X b (lE X tb))(hc:PE X c (lE X tc))(hm:Ygj [o,o'] [b,c]=false) :
  PT X (.Compare a [o,o'] [b,c] pos) (lT X λς G Q E=>ta ς G (λx G1=>tb ς G1 (λy G2=>cmpU o x y G2 λt=>if t=true then tc ς G2 (λz G3=>cmpU o' y z G3 λt'=>truU (.bl t') G3 λc=>Q c G3) E else truU (.bl false) G2 λc=>Q c G2) E) E):=by
 obtain⟨r,h1,h2⟩:=ho;obtain⟨r',h1',h2'⟩:=ho';refine(jiB h1 h1' ha hb hc hm).imp λσ H Q0 h=>?_;obtain⟨ς,G,Q,E,hς,hG,h,lv,lx⟩:=h;refine⟨ς,G,_,E,hς,hG,h,λx v G1 H1 rx hG1 f1 h1=>?_,lx⟩;refine⟨ς,G1,_,E,hς.ts (f1.ts hG),hG1,h1,λy v' G2 H2 ry hG2 f2 h3=>?_,lx.fr f1⟩;refine h2 x y v v' G2 H2 _ _ (rx.ts (f2.ts hG1)) ry hG2 h3 λt q=>⟨t,rfl,?_⟩;cases t with
 |false=>
  rw[if_neg Yaj]at q ⊢;exact⟨false,rfl,lv false G2 H2 hG2 (f1.trans f2) q⟩
 |true=>
  rw[if_pos rfl]at q ⊢;refine⟨ς,G2,_,E,(hς.ts (f1.ts hG)).ts (f2.ts hG1),hG2,q,λz v3 G3 H3 rz hG3 f3 h4=>?_,lx.fr (f1.trans f2)⟩;exact h2' y z v' v3 G3 H3 _ _ (ry.ts (f3.ts hG2)) rz hG3 h4 λc q=>⟨c,rfl,lv c G3 H3 hG3 ((f1.trans f2).trans f3) q⟩
section
variable {rest:List Expr}
theorem jkN {sa sb:TE}(ha:PE X a sa)(hb:PE X (.BoolOp .And (b::rest) pos) sb):PE X (.BoolOp .And (a::b::rest) pos) (λσ H Q=>sa σ H λx H1=>∃k,TruV X.K x H1 k/\if k=true then sb σ H1 Q else Q x H1):=by
 intro pins s σ H Q I h;refine PyProof.Rows.BoolOp_and (thn (ha pins s σ H _ I h) λv s1 ⟨x,H1,I1,r1,k,hk,q1⟩=>?_);refine thn (jft pins s1 σ H1 x v (λc H2=>c=k/\H2=H1) I1 r1 ⟨k,hk,rfl,rfl⟩) λc s2 ⟨H2,I2,e1,e2⟩=>?_;subst e1 e2;cases c with
 |true=>exact hb pins s2 σ H2 Q I2 q1
 |false=>exact⟨x,H2,I2,r1,q1⟩
theorem jmv {sa sb:TE}(ha:PE X a sa)(hb:PE X (.BoolOp .Or (b::rest) pos) sb):PE X (.BoolOp .Or (a::b::rest) pos) (λσ H Q=>sa σ H λx H1=>∃k,TruV X.K x H1 k/\if k=true then Q x H1 else sb σ H1 Q):=by
 intro pins s σ H Q I h;refine PyProof.Rows.BoolOp_or (thn (ha pins s σ H _ I h) λv s1 ⟨x,H1,I1,r1,k,hk,q1⟩=>?_);refine thn (jft pins s1 σ H1 x v (λc H2=>c=k/\H2=H1) I1 r1 ⟨k,hk,rfl,rfl⟩) λc s2 ⟨H2,I2,e1,e2⟩=>?_;subst e1 e2;cases c with
 |true=>exact⟨x,H2,I2,r1,q1⟩
 |false=>exact hb pins s2 σ H2 Q I2 q1
theorem joq (ha:PE X a (lE X ta))(hb:PE X (.BoolOp .And (b::rest) pos) (lE X tb)):PE X (.BoolOp .And (a::b::rest) pos) (lE X λς G Q E=>ta ς G (λx G1=>truU x G1 λc=>if c=true then tb ς G1 Q E else Q x G1) E):=by
 refine(jkN ha hb).imp λσ H Q0 h=>?_;obtain⟨ς,G,Q,E,hς,hG,h,lv,lx⟩:=h;refine⟨ς,G,_,E,hς,hG,h,λx v G1 H1 rx hG1 f1 h1=>?_,lx⟩;obtain⟨k,h2,h3⟩:=jdx rx hG1 h1;refine⟨k,h2,?_⟩;cases k with
 |true=>rw[if_pos rfl]at h3 ⊢;exact⟨ς,G1,Q,E,hς.ts (f1.ts hG),hG1,h3,lv.fr f1,lx.fr f1⟩
 |false=>rw[if_neg Yaj]at h3 ⊢;exact(lv.fr f1).here rx hG1 h3
theorem u_or (ha:PE X a (lE X ta))(hb:PE X (.BoolOp .Or (b::rest) pos) (lE X tb)):PE X (.BoolOp .Or (a::b::rest) pos) (lE X λς G Q E=>ta ς G (λx G1=>truU x G1 λc=>if c=true then Q x G1 else tb ς G1 Q E) E):=by
 refine(jmv ha hb).imp λσ H Q0 h=>?_;obtain⟨ς,G,Q,E,hς,hG,h,lv,lx⟩:=h;refine⟨ς,G,_,E,hς,hG,h,λx v G1 H1 rx hG1 f1 h1=>?_,lx⟩;obtain⟨k,h2,h3⟩:=jdx rx hG1 h1;refine⟨k,h2,?_⟩;cases k with
 |true=>rw[if_pos rfl]at h3 ⊢;exact(lv.fr f1).here rx hG1 h3
 |false=>rw[if_neg Yaj]at h3 ⊢;exact⟨ς,G1,Q,E,hς.ts (f1.ts hG),hG1,h3,lv.fr f1,lx.fr f1⟩
end
theorem jog (ha:PE X a (lE X ta)):PE X (.UnaryOp .Not a pos) (lE X λς G Q E=>ta ς G (λx G1=>truU x G1 λb=>Q (.bl (!b)) G1) E):=by
 intro pins s σ H Q0 I h;obtain⟨ς,G,Q,E,hς,hG,h,lv,lx⟩:=h;refine PyProof.Rows.UnaryOp_ (thn (ha pins s σ H (λv H1=>∃k,TruV X.K v H1 k/\Q0 (.bl (!k)) H1) I ⟨ς,G,_,E,hς,hG,h,λx v G1 H1 rx hG1 f1 h1=>?_,lx⟩) λv s1 ⟨x,H1,I1,r1,k,hk,q1⟩=>?_)
 ·obtain⟨k,h2,h3⟩:=jdx rx hG1 h1;exact⟨k,h2,(lv.fr f1).bl hG1 h3⟩
 ·refine PyProof.Rows.not_of (thn (jft pins s1 σ H1 x v (λc H2=>c=k/\H2=H1) I1 r1 ⟨k,hk,rfl,rfl⟩) λc s2 ⟨H2,I2,e1,e2⟩=>?_);subst e1 e2;exact⟨.bl (!c),H2,I2,rfl,q1⟩
theorem jlO (hc:PT X c (lT X tA)){tC:UT}(ha:PT X a (lT X tB))(hb:PT X b (lT X tC)):PT X (.IfExp c a b pos) (lT X λς G Q E=>tA ς G (λt G1=>if t=true then tB ς G1 Q E else tC ς G1 Q E) E):=by
 intro pins s σ H Q0 I h;obtain⟨ς,G,Q,E,hς,hG,h,lv,lx⟩:=h;show wpAny _ _ (do if <- isTrue c X.env (eval c X.env) then isTrue a X.env (eval a X.env) else isTrue b X.env (eval b X.env)) _ _ s
 refine Yad (thn (hc pins s σ H (λt H1=>∃G1,HR X.K H1 G1/\Fr H G H1 G1/\if t=true then tB ς G1 Q E else tC ς G1 Q E) I ⟨ς,G,_,E,hς,hG,h,λt G1 H1 hG1 f1 h1=>⟨G1,hG1,f1,h1⟩,lx⟩) λt s1 ⟨H1,I1,G1,hG1,f1,h1⟩=>?_)
 cases t with
 |true=>exact ha pins s1 σ H1 Q0 I1 ⟨ς,G1,Q,E,hς.ts (f1.ts hG),hG1,h1,λb G2 H2 hG2 f2 h2=>lv b G2 H2 hG2 (f1.trans f2) h2,lx.fr f1⟩
 |false=>exact hb pins s1 σ H1 Q0 I1 ⟨ς,G1,Q,E,hς.ts (f1.ts hG),hG1,h1,λb G2 H2 hG2 f2 h2=>lv b G2 H2 hG2 (f1.trans f2) h2,lx.fr f1⟩
theorem jjh (ha:PT X a (lT X tA)):PT X (.UnaryOp .Not a pos) (lT X λς G Q E=>tA ς G (λb G1=>Q (!b) G1) E):=by
 refine(jjp ha).imp λσ H Q0 h=>?_;obtain⟨ς,G,Q,E,hς,hG,h,lv,lx⟩:=h;exact⟨ς,G,_,E,hς,hG,h,λb G1 H1 hG1 f1 h1=>lv (!b) G1 H1 hG1 f1 h1,lx⟩
theorem jlT {rest:List Expr}(ha:PT X a (lT X tA))(hb:PW X (.BoolOp .And (b::rest) pos) (lT X tB)):PW X (.BoolOp .And (a::b::rest) pos) (lT X λς G Q E=>tA ς G (λc G1=>if c=true then tB ς G1 Q E else Q false G1) E):=by
 refine(pw_and ha hb).imp λσ H Q0 h=>?_;obtain⟨ς,G,Q,E,hς,hG,h,lv,lx⟩:=h;refine⟨ς,G,_,E,hς,hG,h,λc G1 H1 hG1 f1 h1=>?_,lx⟩;cases c with
 |false=>rw[if_neg Yaj]at h1 ⊢;exact lv false G1 H1 hG1 f1 h1
 |true=>rw[if_pos rfl]at h1 ⊢;exact⟨ς,G1,Q,E,hς.ts (f1.ts hG),hG1,h1,λb G2 H2 hG2 f2 h2=>lv b G2 H2 hG2 (f1.trans f2) h2,lx.fr f1⟩
theorem jof {rest:List Expr}(ha:PT X a (lT X tA))(hb:PW X (.BoolOp .Or (b::rest) pos) (lT X tB)):PW X (.BoolOp .Or (a::b::rest) pos) (lT X λς G Q E=>tA ς G (λc G1=>if c=true then Q true G1 else tB ς G1 Q E) E):=by
 refine(pw_or ha hb).imp λσ H Q0 h=>?_;obtain⟨ς,G,Q,E,hς,hG,h,lv,lx⟩:=h;refine⟨ς,G,_,E,hς,hG,h,λc G1 H1 hG1 f1 h1=>?_,lx⟩;cases c with
 |true=>rw[if_pos rfl]at h1 ⊢;exact lv true G1 H1 hG1 f1 h1
 |false=>rw[if_neg Yaj]at h1 ⊢;exact⟨ς,G1,Q,E,hς.ts (f1.ts hG),hG1,h1,λb G2 H2 hG2 f2 h2=>lv b G2 H2 hG2 (f1.trans f2) h2,lx.fr f1⟩
theorem jok (hc:PT X c (lT X tA))(ha:PE X a (lE X ta))(hb:PE X b (lE X tb)):PE X (.IfExp c a b pos) (lE X λς G Q E=>tA ς G (λt G1=>if t=true then ta ς G1 Q E else tb ς G1 Q E) E):=by
 refine(jiI hc ha hb).imp λσ H Q0 h=>?_;obtain⟨ς,G,Q,E,hς,hG,h,lv,lx⟩:=h;refine⟨ς,G,_,E,hς,hG,h,λc G1 H1 hG1 f1 h1=>?_,lx⟩;cases c with
 |true=>rw[if_pos rfl]at h1 ⊢;exact⟨ς,G1,Q,E,hς.ts (f1.ts hG),hG1,h1,lv.fr f1,lx.fr f1⟩
 |false=>rw[if_neg Yaj]at h1 ⊢;exact⟨ς,G1,Q,E,hς.ts (f1.ts hG),hG1,h1,lv.fr f1,lx.fr f1⟩
end
end Z

namespace L2
open PySem PySem.Spec PyProof.Rows
section
variable {X:Cx}{e st:Expr}{te tst:TE}{pos p2:Pos}
def jos (K:Yaa)(te tst:TE):TE:=λσ H Q=>te σ H λx H1=>tst σ H1 λy H2=>(∃a xs,x=.ref a/\SqL K H2 a xs/\
 ((y=.int 1/\∀p,H2 p=none->Q (.ref p) (upd H2 p (.lst xs)))\/(y=.int (-1)/\∀p,H2 p=none->Q (.ref p) (upd H2 p (.lst xs.reverse)))))\/
 ∃a xs,x=.ref a/\SqT K H2 a xs/\y=.int (-1)/\∀p,H2 p=none->Q (.ref p) (upd H2 p (.tup xs.reverse))
theorem jkK (he:PE X e te)(hs:PE X st tst):PE X (.Subscript e (.Slice none none (some st) p2) pos) (jos X.K te tst):=by
 intro pins s σ H Q I h;refine Subscript_ (thn (he pins s σ H _ I h) λv s1 ⟨x,H1,I1,r1,q1⟩=>?_);refine wpAny_Slice ?_;rw[YfS,evalPart_some];refine Yam (Yam ?_);refine thn (hs pins s1 σ H1 _ I1 q1) λu s3 ⟨y,H3,I3,r3,q3⟩=>?_;have I4:Inv X pins σ H3 { s3 with heap:=s3.heap.push { cls:=.type "slice",data:=.fields #[.none,.none,u] } }:=I3.kept (t':=s3.toks) λb ob q=>Yae _ q
 rcases q3 with⟨a,xs,rfl,hx,q3⟩|⟨a,xs,rfl,hx,rfl,q⟩
 ·cases r1;obtain⟨its,r,ht,hz⟩:=I4.list hx;have hlen:=r.length;show wpAny (model X.prog X.w) X.A (Yek e (.Slice none none (some st) p2) (.ref a) (.ref s3.heap.objs.size)) (EP X pins σ Q) X.xe { s3 with heap:=s3.heap.push { cls:=.type "slice",data:=.fields #[.none,.none,u] } }
  refine tail_any (ops:=[.ref a,.ref s3.heap.objs.size]) ht.isList.typeIs slot_list_getitem.lookup ?_ (by with_unfolding_all rfl)
  rcases q3 with⟨rfl,q⟩|⟨rfl,q⟩
  ·obtain⟨t,rfl⟩:=r3;refine Ydm ht.isList (Heap.IsSliceOf.new ..) .none .none (.int 1 t) (by decide) ?_ (by rw[Yai]<;>omega)
   rw[jjc];refine⟨.ref _,_,I4.laid (t':=s3.toks) (o:=.lst xs) (λb ob q=>Yae _ q) (Yaf _) ?_,rfl,q _ (I4.hok.fresh (Yaf _))⟩;exact⟨hz,_,0,r,Yas _ rfl⟩
  ·obtain⟨t,rfl⟩:=r3;refine Ydm ht.isList (Heap.IsSliceOf.new ..) .none .none (.int (-1) t) (by decide) ?_ (by rw[Yai]<;>omega)
   rw[jiw];refine⟨.ref _,_,I4.laid (t':=s3.toks) (o:=.lst xs.reverse) (λb ob q=>Yae _ q) (Yaf _) ?_,rfl,q _ (I4.hok.fresh (Yaf _))⟩;exact⟨by rw[YcO];exact hz,_,0,r.rev,Yas _ rfl⟩
 ·cases r1;obtain⟨t,rfl⟩:=r3;obtain⟨its,r,ht,hz⟩:=I4.tuple hx;have hlen:=r.length;show wpAny (model X.prog X.w) X.A (Yek e (.Slice none none (some st) p2) (.ref a) (.ref s3.heap.objs.size)) (EP X pins σ Q) X.xe { s3 with heap:=s3.heap.push { cls:=.type "slice",data:=.fields #[.none,.none,.int (-1) t] } }
  refine tail_any (ops:=[.ref a,.ref s3.heap.objs.size]) ht.typeIs YaV.lookup ?_ (by with_unfolding_all rfl)
  refine HT.getItem_tuple_rev ht (Heap.IsSliceOf.new ..) ?_ (by rw[<- hlen];exact hz)
  refine⟨.ref _,_,I4.laid (t':=s3.toks) (o:=.tup xs.reverse) (λb ob q=>Yae _ q) (Yaf _) ?_,rfl,q _ (I4.hok.fresh (Yaf _))⟩;exact⟨by rw[YcO];exact hz,_,r.rev,TupD.new _ _⟩
end
end L2
namespace Z
open PySem L2
section
variable {X:Cx}{pos:Pos}{a b e:Expr}{es:List Expr}{ta tb te:UE}{ts:UA}
theorem jgF:PA X [] (lA X λ_ G Q _=>Q [] G):=by
 refine jcB.imp λσ H Q0 h=>?_;obtain⟨ς,G,Q,E,hς,hG,h,lv,lx⟩:=h;exact lv [] [] G H rfl hG (Fr.refl _ _) h
theorem jcu (ha:PE X e (lE X te))(hr:PA X es (lA X ts))(hs:Yar (e::es) X.env=(false,eval e X.env)::Yar es X.env):PA X (e::es) (lA X λς G Q E=>te ς G (λx G1=>ts ς G1 (λxs G2=>Q (x::xs) G2) E) E):=by
 refine(jaD ha hr hs).imp λσ H Q0 h=>?_;obtain⟨ς,G,Q,E,hς,hG,h,lv,lx⟩:=h;refine⟨ς,G,_,E,hς,hG,h,λx v G1 H1 rx hG1 f1 h1=>?_,lx⟩;refine⟨ς,G1,_,E,hς.ts (f1.ts hG),hG1,h1,λxs vs G2 H2 rxs hG2 f2 h2=>?_,lx.fr f1⟩;exact lv (x::xs) (v::vs) G2 H2 ⟨v,vs,rfl,rx.ts (f2.ts hG1),rxs⟩ hG2 (f1.trans f2) h2
theorem joa {k}(h:PA X es (lA X ts)):PE X (.Tuple es k pos) (lE X λς G Q E=>ts ς G (λus G1=>us.length<=Yac/\Q (.tup us) G1) E):=
 (jg2 h).imp λσ H Q0 h=>lE.many h λus vs G H' Q r hG q lv=>⟨by rw[<- r.length];exact q.1,λp hp=>lv.tup hp r hG q.2⟩
theorem joe {i:Nat}{x y0 a b:Str}{k0 k1 k2 k3:Nat}{p0 p1 p2 p3 p4 p5 p6 p7 p8:Pos}(hN:X.N[i]?=some x)(hv:Vis X.env.scope x)(hd:(x==("__debug__" : Str))=false)(hcd:(x==("__classdict__" : Str))=false)
  (hy0:(y0.length==0)=false) (hab:(a==b)=false) (hl:(a.length==0&&b.length==0)=false) (hline:(p4.endLine==p8.line)=true) (hr:PA X es (lA X ts)) :
  PA X (.BinOp (.Constant (.str y0) k0 p0) .Add (.Name x p1) p2::.Call (.Attribute (.Name x p3) "replace" p4) [.Constant (.str a) k1 p5,.Constant (.str b) k2 p6,.Constant (.int 1) k3 p7] [] p8::es)
   (lA X λς G Q E=>slot ς i λu=>repU y0 b u λz w=>ts ς G (λus G2=>Q (.str z::.str w::us) G2) E):=by
 refine(jmB hN hv hd hcd hy0 hab hl hline hr).imp λσ H Q0 h=>?_;obtain⟨ς,G,Q,E,hς,hG,h,lv,lx⟩:=h;unfold slot at h;split at h
 ·rename_i u e;obtain⟨v,e1,r⟩:=hς.2 i u e;cases u with
  |str z=>
   cases r;have h:y0.length+z.length<=Yac/\z.length+b.length<=Yac/\∀w:Str,w.length<=z.length+b.length->(∀c∈w.cps.toList,c∈z.cps.toList\/c∈b.cps.toList)->ts ς G (λus G2=>Q (.str (y0++z)::.str w::us) G2) E:=h;exact⟨z,e1,h.1,h.2.1,λw hw hw2=>⟨ς,G,_,E,hς,hG,h.2.2 w hw hw2,λus vs G2 H2 rs hG2 f2 h2=>lv (.str (y0++z)::.str w::us) (.str (y0++z)::.str w::vs) G2 H2 ⟨_,_,rfl,rfl,_,_,rfl,rfl,rs⟩ hG2 f2 h2,lx⟩⟩
  |_=>exact Ybn h
 ·exact h.elim
theorem jlN (h:PA X es (lA X ts)):PE X (.List es pos) (lE X λς G Q E=>ts ς G (λus G1=>us.length<=Yac/\newO G1 (.lst us) Q) E):=
 (jjr h).imp λσ H Q0 h=>lE.many h λus vs G H' Q r hG q lv=>⟨by rw[<- r.length];exact q.1,λp hp=>lv.lst hp r hG q.2⟩
def rDix:R2:=λx y H Q=>∃a v,x=.ref a/\DGet H a y (some v)/\Q v H
theorem jld (hu:X.A.units+1<cLine):IxR X rDix:=by
 intro value slice pins s σ H x y v u Q I rx ry h hs;obtain⟨a,w,rfl,g,q⟩:=h;cases rx;exact PyProof.Rows.tail_any (jfb I g) PySem.F.slot_dict_getitem.lookup (jhT hu I g ry λw' s3 I3 rw'=>⟨w,H,I3,rw',q⟩) hs
theorem jjE {H:Hp}{G:Gp}{y:U}{v':V}{Q:K1}{Q0:VK}{a:Addr}{xs:List U}{vs:List V}(h:match y with|.int i=>(match atI xs i with|some u=>Q u G|none=>False)|_=>False)
  (ry:RU X.K H y v') (hG:HR X.K H G) (lv:LV X H G Q Q0) (sq:SqL X.K H a vs) (rs:RUs X.K H xs vs):rIx X.K (.ref a) v' H Q0:=by
 cases y with
 |int i=>
  cases ry;dsimp only at h;split at h
  ·rename_i u e;obtain⟨w,e2,r⟩:=rs.atI e;exact .inl ⟨_,vs,_,w,rfl,rfl,sq,e2,lv.here r hG h⟩
  ·exact h.elim
 |_=>exact h.elim
theorem jnf {H:Hp}{G:Gp}{x y:U}{v v':V}{Q:K1}{Q0:VK}(rx:RU X.K H x v)(ry:RU X.K H y v')(hG:HR X.K H G)(h:ixU x y G Q)(lv:LV X H G Q Q0):rIx X.K v v' H Q0\/rDix v v' H Q0:=by
 unfold ixU at h;split at h
 ·obtain⟨a,vs,rfl,e,rs⟩:=rx;cases ry;split at h
  ·rename_i u e1;obtain⟨w,e2,r⟩:=rs.atI e1;exact .inl (.inr (.inl ⟨a,vs,_,w,rfl,rfl,.of e,e2,lv.here r hG h⟩))
  ·exact h.elim
 ·cases rx;cases ry;obtain⟨h1,h⟩:=h;split at h
  ·rename_i c e1;exact .inl (.inr (.inr ⟨_,_,c,rfl,rfl,h1,e1,lv.str hG h⟩))
  ·exact h.elim
 ·cases rx;split at h
  ·rename_i g;obtain⟨vs,e,rs⟩:=hG.lst g;exact .inl (jjE h ry hG lv (.of e) rs)
  ·rename_i g;obtain⟨ob,vs,e,rs⟩:=hG _ _ g;exact .inl (jjE h ry hG lv (.inl (.inr ⟨ob,e⟩)) rs)
  ·rename_i kvs g;obtain⟨l,e,rs⟩:=hG _ _ g;split at h
   ·rename_i k ek;have:=jhu ry ek;subst this;split at h
    ·rename_i u eu;have:=jdu k rs;rw[eu]at this;obtain⟨w,e2,r⟩:=this;exact .inr ⟨_,w,rfl,by rw[<- e2];exact DGet.k e,lv.here r hG h⟩
    ·exact h.elim
   ·exact h.elim
  ·rename_i kvs g;obtain⟨l,e,rs⟩:=hG _ _ g;split at h
   ·rename_i ys;obtain⟨b,bs,rfl,eb,rb⟩:=ry;split at h
    ·rename_i k ek;have:=jfN rb ek;subst this;split at h
     ·rename_i u eu;have:=jdu k rs;rw[eu]at this;obtain⟨w,e2,r⟩:=this;exact .inr ⟨_,w,rfl,by rw[<- e2];exact DGet.t e eb,lv.here r hG h⟩
     ·exact h.elim
    ·exact h.elim
   ·exact h.elim
  ·exact h.elim
 ·exact h.elim
theorem u_ix (hu:X.A.units+1<cLine)(ha:PE X a (lE X ta))(hb:PE X b (lE X tb))(hs:jfo b):PE X (.Subscript a b pos) (lE X λς G Q E=>ta ς G (λx G1=>tb ς G1 (λy G2=>ixU x y G2 Q) E) E):=
 (joW ((jne (X:=X)).or (jld hu)) ha hb hs).imp λσ H Q0 h=>lE.two h λx y v v' G H' Q rx ry hG q lv=>jnf rx ry hG q lv
theorem u_no:PO X none (lO X λ_ G Q _=>Q none G):=jkB.imp λσ H Q0 h=>by
 obtain⟨ς,G,Q,E,hς,hG,h,lv,lx⟩:=h;exact lv none G H hG (Fr.refl _ _) h
theorem u_so (ha:PE X e (lE X te)):PO X (some e) (lO X λς G Q E=>te ς G (λx G1=>match x with|.int i=>Q (some i) G1|_=>False) E):=(jkA ha).imp λσ H Q0 h=>by
 obtain⟨ς,G,Q,E,hς,hG,h,lv,lx⟩:=h;refine⟨ς,G,_,E,hς,hG,h,λx v G1 H1 rx hG1 f1 h1=>?_,lx⟩;dsimp only at h1;split at h1
 ·cases rx;exact⟨_,rfl,lv _ G1 H1 hG1 f1 h1⟩
 ·exact h1.elim
theorem u_sl {lo hi:Option Expr}{p2:Pos}{tl th:Sg->Gp->(Option Int->Gp->Prop)->KX->Prop}(ha:PE X e (lE X te))(hl:PO X lo (lO X tl))(hh:PO X hi (lO X th)) :
  PE X (.Subscript e (.Slice lo hi none p2) pos) (lE X λς G Q E=>te ς G (λx G1=>tl ς G1 (λl G2=>th ς G2 (λh G3=>slU x l h G3 Q) E) E) E):=by
 refine(jiH (SlR.or (jkk (X:=X)) (SlR.or jkl jl2)) ha hl hh).imp λσ H Q0 h=>?_;obtain⟨ς,G,Q,E,hς,hG,h,lv,lx⟩:=h;refine⟨ς,G,_,E,hς,hG,h,λx v G1 H1 rx hG1 f1 h1=>?_,lx⟩;refine⟨ς,G1,_,E,hς.ts (f1.ts hG),hG1,h1,λl G2 H2 hG2 f2 h2=>?_,lx.fr f1⟩;refine⟨ς,G2,_,E,(hς.ts (f1.ts hG)).ts (f2.ts hG1),hG2,h2,λu G3 H3 hG3 f3 h3=>?_,lx.fr (f1.trans f2)⟩;have lv3:=lv.fr ((f1.trans f2).trans f3);have rx3:=rx.ts ((f2.ts hG1).trans (f3.ts hG2));unfold slU at h3;split at h3
 ·obtain⟨a,vs,rfl,ea,rs⟩:=rx3;by_cases z:HT.sIx vs.length 0 l=0/\HT.sIx vs.length vs.length u=vs.length
  ·refine .inl (.inr ⟨a,vs,rfl,.of ea,z,?_⟩);refine lv3.here (w:=.tup _) ⟨a,vs,rfl,ea,?_⟩ hG3 h3;have e2:cutV vs l u=vs:=by unfold cutV;rw[z.1,z.2];simp
   have:=rs.cut l u;rw[e2]at this;exact this
  ·exact .inl (.inl ⟨a,vs,rfl,.of ea,z,λp hp=>lv3.tup hp (rs.cut l u) hG3 h3⟩)
 ·cases rx3;exact .inr (.inr ⟨_,rfl,h3.1,lv3.str hG3 h3.2⟩)
 ·cases rx3;split at h3
  ·rename_i us eu;obtain⟨vs,sq,rs⟩:=hG3.ls eu;exact .inr (.inl ⟨_,vs,rfl,sq,λp hp=>lv3.lst hp (rs.cut l u) hG3 h3⟩)
  ·exact h3.elim
 ·exact h3.elim
theorem jod {st:Expr}{p2:Pos}(ha:PE X a (lE X ta))(hb:PE X st (lE X tb)):PE X (.Subscript a (.Slice none none (some st) p2) pos) (lE X λς G Q E=>ta ς G (λx G1=>tb ς G1 (λy G2=>revU x y G2 Q) E) E):=by
 refine(jkK ha hb).imp λσ H Q0 h=>lE.two h λx y v v' G H' Q rx ry hG q lv=>?_;unfold revU at q;split at q
 ·obtain⟨a,vs,rfl,ea,rs⟩:=rx;cases ry;obtain⟨rfl,q⟩:=q;exact .inr ⟨a,vs,rfl,.of ea,rfl,λp hp=>lv.tup hp rs.reverse hG q⟩
 ·cases rx;cases ry;split at q
  ·rename_i us eu;obtain⟨vs,sq,rs⟩:=hG.ls eu;obtain⟨hi,q⟩:=q;rcases hi with rfl|rfl
   ·exact .inl ⟨_,vs,rfl,sq,.inl ⟨rfl,λp hp=>lv.lst hp rs hG q⟩⟩
   ·exact .inl ⟨_,vs,rfl,sq,.inr ⟨rfl,λp hp=>lv.lst hp rs.reverse hG q⟩⟩
  ·exact q.elim
 ·exact q.elim
end
end Z

namespace L2
open PySem PySem.Spec PyProof.Rows
section
variable {X:Cx}
theorem jja (hc:X.calm=true):jaG X (.builtin "all") (λxs H Q=>∃(p:Addr) (bs:List Bool),xs=[.ref p]/\SqL X.K H p (bs.map V.bl)/\Q (.bl (bs.all id)) H):=by
 rintro pins s σ H xs us Q I r ⟨p,bs,rfl,hq,q⟩;obtain⟨u,rfl,rx⟩:=jcf r;cases rx;obtain⟨its,fp,wr,P,S,hl,W,st,tr,kp⟩:=jgA hc I hq true;exact call_all_walk (Ydl hl ⟨_,fp,wr,_,P,S,_,rfl,W,st,tr,λh' tk hk=>⟨.bl _,H,I.kept (kp h' hk),congrArg YeP (LSm.range_all bs),q⟩⟩)
end
end L2
namespace Z
open PySem L2
noncomputable def bltN:Blt->Str
 |.len => "len" |.repr => "repr" |.min => "min" |.max => "max" |.sum => "sum" |.all => "all" |.any => "any" |.sorted => "sorted" |.int => "int" |.str => "str" |.isi => "isinstance"
noncomputable def bltV:Blt->Value
 |.len=>.builtin "len" |.repr=>.builtin "repr" |.min=>.builtin "min" |.max=>.builtin "max" |.sum=>.builtin "sum" |.all=>.builtin "all" |.any=>.builtin "any" |.sorted=>.builtin "sorted" |.int=>.type "int" |.str=>.type "str" |.isi=>.builtin "isinstance"
section
variable {X:Cx}
theorem RUs.one {K:Yaa}{H:Hp}{u:U}{vs:List V}(r:RUs K H [u] vs):∃v,vs=[v]/\RU K H u v:=by
 obtain⟨v,vr,rfl,r1,rs⟩:=r;cases rs;exact⟨v,rfl,r1⟩
theorem RUs.two {K:Yaa}{H:Hp}{u w:U}{vs:List V}(r:RUs K H [u,w] vs):∃v v',vs=[v,v']/\RU K H u v/\RU K H w v':=by
 obtain⟨v,vr,rfl,r1,rs⟩:=r;obtain⟨v',rfl,r2⟩:=rs.one;exact⟨v,v',rfl,r1,r2⟩
theorem jk9 (K:Yaa):∀t∈["NoneType", "bool", "int", "str", "list", "tuple", "dict"],∀c∈["bool", "int", "str", "list", "tuple", "dict"],Ydp K (.type t) (.type c)=some (t==c||(t == "bool" && c == "int")):=by
 simp only[List.forall_mem_cons,Yax,false_implies,implies_true,and_true];refine⟨?_,?_,?_,?_,?_,?_,?_⟩<;>refine⟨?_,?_,?_,?_,?_,?_⟩<;>rfl
theorem jkb {x:U}{G:Gp}{n:String}(h:tyN x G=some n):n∈["NoneType", "bool", "int", "str", "list", "tuple", "dict"]:=by
 unfold tyN at h;split at h<;>first|(cases h;decide)|(split at h<;>first|(cases h;decide)|cases h)|cases h
theorem jlf {H:Hp}{G:Gp}{x:U}{v:V}{t:String}{b:Bool}(r:RU X.K H x v)(hG:HR X.K H G)(h:isiU x G t=some b):∃tv,TyOf X.K H v tv/\Ydp X.K tv (.type t)=some b:=by
 unfold isiU at h;split at h
 ·rename_i n en;split at h
  ·rename_i ht;cases h;refine⟨.type n,?_,jk9 X.K n (jkb en) t ht⟩;unfold tyN at en;split at en
   ·cases en;cases r;exact .non
   ·cases en;cases r;exact .bl _
   ·cases en;cases r;exact .int _
   ·cases en;cases r;exact .str _
   ·cases en;obtain⟨a,ws,rfl,e,_⟩:=r;exact .tup e
   ·cases r;split at en
    ·rename_i g;cases en;obtain⟨ws,e,_⟩:=hG.lst g;exact .lst e
    ·rename_i g;cases en;obtain⟨ws,e,_⟩:=hG _ _ g;exact .dK e
    ·rename_i g;cases en;obtain⟨ws,e,_⟩:=hG _ _ g;exact .dT e
    ·cases en
   ·cases en
  ·cases h
 ·cases h
def BlU (X:Cx)(b:Blt):Prop:=∃r,jaG X (bltV b) r/\∀us vs G H Q Q0,RUs X.K H us vs->HR X.K H G->bltU b us G Q->LV X H G Q Q0->r vs H Q0
theorem jnB {k:Nat}(hr:Room k X.A)(hc:X.calm=true)(b:Blt):BlU X b:=by
 cases b with
 |len=>
  refine⟨_,jaG.or (ji9 (X:=X)) jh7,λus vs G H Q Q0 r hG h lv=>?_⟩
  change lenU us G Q at h
  unfold lenU at h;split at h<;>first|exact h.elim|skip
  ·obtain⟨v,rfl,r1⟩:=r.one;obtain⟨a,ws,rfl,e,rs⟩:=r1;exact .inl ⟨_,_,rfl,.inr ⟨ws,.of e,rfl⟩,by rw[<- rs.length];exact lv.int hG h⟩
  ·obtain⟨v,rfl,r1⟩:=r.one;cases r1;exact .inl ⟨_,_,rfl,⟨h.1,rfl⟩,lv.int hG h.2⟩
  ·obtain⟨v,rfl,r1⟩:=r.one;cases r1;split at h
   ·rename_i g;obtain⟨ws,e,rs⟩:=hG.lst g;exact .inl ⟨_,_,rfl,.inl ⟨ws,.of e,rfl⟩,by rw[<- rs.length];exact lv.int hG h⟩
   ·rename_i g;obtain⟨ob,ws,e,rs⟩:=hG _ _ g;exact .inl ⟨_,_,rfl,.inl ⟨ws,.inl (.inr ⟨ob,e⟩),rfl⟩,by rw[<- rs.length];exact lv.int hG h⟩
   ·rename_i kvs g;obtain⟨l,e,rs⟩:=hG _ _ g;refine .inr ⟨_,l,rfl,e,?_⟩;have:∀{kvs:List (Key×U)} {l:List (Key×V)},RKs X.K H kvs l->kvs.length=l.length:=by
     intro kvs
     induction kvs with
     |nil=>intro l r;cases r;rfl
     |cons p q ih=>intro l r;obtain⟨v,l',rfl,_,rs⟩:=r;simp[ih rs]
    rw[<- this rs];exact lv.int hG h
   ·exact h.elim
 |repr=>
  refine⟨_,jgz hr,λus vs G H Q Q0 r hG h lv=>?_⟩
  change jeQ us G Q at h
  unfold jeQ at h;split at h<;>first|exact h.elim|skip
  obtain⟨v,rfl,r1⟩:=r.one;obtain⟨d,h1,h2,h3⟩:=h;exact⟨v,d,rfl,h1.dv hG r1,h2,lv.str hG h3⟩
 |min=>
  refine⟨_,jh4 hc,λus vs G H Q Q0 r hG h lv=>?_⟩
  change minU us G Q at h
  unfold minU at h;split at h<;>first|exact h.elim|skip
  obtain⟨v,v',rfl,r1,r2⟩:=r.two;cases r1;cases r2;exact⟨_,_,rfl,lv.int hG h⟩
 |max=>
  refine⟨_,(jh5 hc).or (jh6 hc),λus vs G H Q Q0 r hG h lv=>?_⟩
  change maxU us G Q at h
  unfold maxU at h;split at h<;>first|exact h.elim|skip
  ·obtain⟨v,v',rfl,r1,r2⟩:=r.two;cases r1;cases r2;exact .inl ⟨_,_,rfl,lv.int hG h⟩
  ·obtain⟨v,rfl,r1⟩:=r.one;cases r1;split at h
   ·rename_i g;obtain⟨ws,e,rs⟩:=hG.lst g;unfold jiX at h;split at h
    ·rename_i ns en;have:=rs.ints en;subst this;exact .inr ⟨_,ns,rfl,.inl (.of e),h.1,λz hz hy=>lv.int hG (h.2 z hz hy)⟩
    ·exact h.elim
   ·exact h.elim
  ·obtain⟨v,rfl,r1⟩:=r.one;obtain⟨a,ws,rfl,e,rs⟩:=r1;unfold jiX at h;split at h
   ·rename_i ns en;have:=rs.ints en;subst this;exact .inr ⟨_,ns,rfl,.inr (.of e),h.1,λz hz hy=>lv.int hG (h.2 z hz hy)⟩
   ·exact h.elim
 |sum=>exact⟨λ_ _ _=>False,λ_ _ _ _ _ _ _ _ _ h=>h.elim,λ_ _ _ _ _ _ _ _ h _=>h.elim⟩
 |any=>exact⟨λ_ _ _=>False,λ_ _ _ _ _ _ _ _ _ h=>h.elim,λ_ _ _ _ _ _ _ _ h _=>h.elim⟩
 |all=>
  refine⟨_,jja hc,λus vs G H Q Q0 r hG h lv=>?_⟩
  change allU us G Q at h
  unfold allU at h;split at h<;>first|exact h.elim|skip
  obtain⟨v,rfl,r1⟩:=r.one;cases r1;split at h
  ·rename_i g;obtain⟨ws,e,rs⟩:=hG.lst g;split at h
   ·rename_i ns en;have:=rs.bools en;subst this;exact⟨_,ns,rfl,.of e,lv.bl hG h⟩
   ·exact h.elim
  ·exact h.elim
 |sorted=>exact⟨λ_ _ _=>False,λ_ _ _ _ _ _ _ _ _ h=>h.elim,λ_ _ _ _ _ _ _ _ h _=>h.elim⟩
 |int=>
  refine⟨_,jib.or jdU,λus vs G H Q Q0 r hG h lv=>?_⟩
  change intU us G Q at h
  unfold intU at h;split at h<;>first|exact h.elim|skip
  ·obtain⟨v,rfl,r1⟩:=r.one;cases r1;exact .inl (.inl ⟨_,rfl,lv.int hG h⟩)
  ·obtain⟨v,rfl,r1⟩:=r.one;cases r1;exact .inl (.inr ⟨_,rfl,lv.int hG h⟩)
  ·obtain⟨v,rfl,r1⟩:=r.one;cases r1;obtain⟨n,h1,h2,h⟩:=h;exact .inr ⟨_,n,rfl,h1,h2,lv.int hG h⟩
 |str=>
  refine⟨_,jez.or (jh3 (X:=X)),λus vs G H Q Q0 r hG h lv=>?_⟩
  change strU us G Q at h
  unfold strU at h;split at h<;>first|exact h.elim|skip
  ·obtain⟨v,rfl,r1⟩:=r.one;cases r1;exact .inl ⟨_,rfl,h.1,lv.str hG h.2⟩
  ·obtain⟨v,rfl,r1⟩:=r.one;cases r1;exact .inr ⟨_,rfl,lv.str hG h⟩
 |isi=>
  refine⟨_,jfe,λus vs G H Q Q0 r hG h lv=>?_⟩
  change jep us G Q at h
  unfold jep at h;split at h<;>first|exact h.elim|skip
  rename_i t;obtain⟨v,v',rfl,r1,r2⟩:=r.two;cases r2;split at h
  ·rename_i b eb;obtain⟨tv,h1,h2⟩:=jlf r1 hG eb;exact⟨v,t,tv,b,rfl,h1,h2,lv.bl hG h⟩
  ·exact h.elim
theorem jjb (b:Blt):YbK (bltN b)=some (bltV b):=by
 cases b with
 |len=>exact PySem.boot_len
 |repr=>exact(by with_unfolding_all rfl)
 |min=>exact PyProof.Rows.boot_min
 |max=>exact PyProof.Rows.boot_max
 |sum=>exact PyProof.Rows.boot_sum
 |any=>exact PyProof.Rows.boot_any
 |all=>exact PyProof.Rows.boot_all
 |sorted=>exact PyProof.Rows.boot_sorted
 |int=>exact PyProof.Rows.boot_int
 |str=>exact PyProof.Rows.boot_str
 |isi=>exact YdE
theorem jnC (b:Blt):bltN b ≠ "__name__" /\ (bltN b==("__debug__" : Str))=false:=by cases b<;>decide
theorem jon {b:Blt}{e:Expr}{es:List Expr}{ts:UA}{p pos:Pos}(hb:BlU X b)(hg:Gl X (bltN b))(hm:X.mg (bltN b)=none)(ha:PA X (e::es) (lA X ts))
  (he:Yar (e::es) X.env=(false,eval e X.env)::Yar es X.env) (hpl:(backTo pos (Yar es X.env)).any (·.1)=false) :
  PE X (.Call (.Name (bltN b) p) (e::es) [] pos) (lE X λς G Q E=>ts ς G (λus G1=>bltU b us G1 Q) E):=by
 obtain⟨r,h1,h2⟩:=hb;have fin:∀σ H Q0,lE X (λς G Q E=>ts ς G (λus G1=>bltU b us G1 Q) E) σ H Q0->tCB r (lA X ts) σ H Q0:=λσ H Q0 h=>lE.many h λus vs G H' Q rs hG q lv=>h2 us vs G H' Q Q0 rs hG q lv;have hv:=jjb b;obtain⟨n1,n2⟩:=jnC b;cases b
 all_goals first
  |exact(jco h1 hg hm hv ha n1 n2 he hpl).imp fin
  |exact(jcA h1 hg hm hv ha n1 n2 he hpl).imp fin
end
noncomputable def mthN:Mth->Str
 |.append => "append" |.extend => "extend" |.insert => "insert" |.pop => "pop" |.reverse => "reverse" |.index => "index" |.join => "join" |.get => "get" |.split => "split" |.setd => "setdefault"
section
variable {X:Cx}
theorem RUs.mk {K:Yaa}{H:Hp}{u:U}{v:V}{us:List U}{vs:List V}(r:RU K H u v)(rs:RUs K H us vs):RUs K H (u::us) (v::vs):=⟨v,vs,rfl,r,rs⟩
structure MtK (X:Cx)(m:Mth)(T id:String):Prop where
 pa:PlainAttrs T
 sl:Slot T (mthN m) id
 ty:typeOf (.builtin id)=pure (.type "method_descriptor")
def MtU (X:Cx)(m:Mth):Prop:=∀x G1 T id,mtU m x G1=some (T,id)->MtK X m T id/\(∀v H1,RU X.K H1 x v->HR X.K H1 G1->tyV X.K T v H1)/\
 ∃r,MtR X id r/\∀us v vs G H Q Q0,RU X.K H x v->RUs X.K H us vs->HR X.K H G->jax m x us G Q->LV X H G Q Q0->r v vs H Q0
theorem jji {a:Addr}{G:Gp}{us:List U}(g:G a=some (.lst us)):∀v H1,RU X.K H1 (.loc a) v->HR X.K H1 G->tyV X.K "list" v H1:=λv H1 r hG=>by
 cases r;obtain⟨vs,e,_⟩:=hG.lst g;exact .inl ⟨rfl,vs,.of e⟩
theorem jhm:MtU X .append:=by
 intro x G1 T id h;dsimp only[mtU]at h;split at h<;>first|contradiction|skip
 split at h
 ·rename_i g;cases h;refine⟨⟨YeI,PySem.F.slot_list_append,PySem.F.type_list_append⟩,jji g,_,jei,λus v vs G H Q Q0 rx rs hG h lv=>?_⟩;cases rx;dsimp only[jax]at h;unfold jfk at h;split at h<;>first|exact h.elim|skip
  rename_i e2;cases e2;split at h
  ·rename_i g2;obtain⟨ws,e,r⟩:=hG.lst g2;obtain⟨y,rfl,ry⟩:=rs.one;refine⟨_,ws,y,rfl,rfl,e,by rw[<- r.length];exact h.1,?_⟩
   exact lv.wl g2 (r.append (RUs.mk (us:=[]) (vs:=[]) ry rfl)) hG (w:=.non) rfl h.2
  ·exact h.elim
 ·cases h
theorem jiV:MtU X .index:=by
 intro x G1 T id h;dsimp only[mtU]at h;split at h<;>first|contradiction|skip
 ·split at h
  ·rename_i g;cases h;refine⟨⟨YeI,PySem.F.slot_list_index,PySem.F.type_list_index⟩,jji g,_,jho,λus v vs G H Q Q0 rx rs hG h lv=>?_⟩;cases rx;dsimp only[jax]at h;unfold jfQ at h;split at h<;>first|exact h.elim|contradiction|skip
   rename_i e2;cases e2;split at h
   ·rename_i g2;obtain⟨ws,e,r⟩:=hG.lst g2;obtain⟨y,rfl,ry⟩:=rs.one;cases ry;split at h
    ·rename_i ys ey;have:=r.strs ey;subst this;exact⟨_,ys,_,rfl,rfl,.of e,h.1,lv.int hG h.2⟩
    ·exact h.elim
   ·exact h.elim
  ·cases h
 ·cases h;refine⟨⟨PySem.F.plainAttrs_tuple,PySem.F.slot_tuple_index,PySem.F.type_tuple_index⟩,λv H1 r hG=>?_,_,jhn,λus v vs G H Q Q0 rx rs hG h lv=>?_⟩
  ·obtain⟨a,ws,rfl,e,_⟩:=r;exact .inr (.inr (.inr (.inr ⟨rfl,ws,e⟩)))
  ·obtain⟨a,ws,rfl,e,r⟩:=rx;dsimp only[jax]at h;unfold jfQ at h;split at h<;>first|exact h.elim|contradiction|skip
   rename_i e2;cases e2;obtain⟨y,rfl,ry⟩:=rs.one;cases ry;split at h
   ·rename_i ys ey;have:=r.strs ey;subst this;exact⟨_,ys,_,rfl,rfl,.of e,h.1,lv.int hG h.2⟩
   ·exact h.elim
theorem jk4:MtU X .join:=by
 intro x G1 T id h;dsimp only[mtU]at h;split at h<;>first|contradiction|skip
 cases h;refine⟨⟨Yc9,PySem.F.slot_str_join,PySem.F.type_str_join⟩,λv H1 r hG=>by cases r;rfl,_,mt_join,λus v vs G H Q Q0 rx rs hG h lv=>?_⟩
 cases rx;dsimp only[jax]at h;unfold jlb at h;split at h<;>first|exact h.elim|skip
 ·rename_i e2;cases e2;obtain⟨y,rfl,ry⟩:=rs.one;obtain⟨a,ws,rfl,e,r⟩:=ry;split at h
  ·rename_i ys ey;have:=r.strs ey;subst this;exact⟨_,a,ys,rfl,rfl,.inr (.of e),h.1,h.2.1,lv.str hG h.2.2⟩
  ·exact h.elim
 ·rename_i e2;cases e2;obtain⟨y,rfl,ry⟩:=rs.one;cases ry;split at h
  ·rename_i g2;obtain⟨ws,e,r⟩:=hG.lst g2;split at h
   ·rename_i ys ey;have:=r.strs ey;subst this;exact⟨_,_,ys,rfl,rfl,.inl (.of e),h.1,h.2.1,lv.str hG h.2.2⟩
   ·exact h.elim
  ·exact h.elim
theorem jgK {K:Yaa}{H:Hp}:∀ys:List Str,RUs K H (ys.map .str) (ys.map V.str)
 |[]=>rfl
 |_::r=>⟨_,_,rfl,rfl,jgK r⟩
theorem jiU:MtU X .split:=by
 intro x G1 T id h;dsimp only[mtU]at h;split at h<;>first|contradiction|skip
 cases h;refine⟨⟨Yc9,PySem.F.slot_str_split,PySem.F.type_str_split⟩,λv H1 r hG=>by cases r;rfl,_,jiW,λus v vs G H Q Q0 rx rs hG h lv=>?_⟩
 cases rx;dsimp only[jax]at h;unfold jjo at h;split at h<;>first|exact h.elim|skip
 rename_i e2;cases e2;obtain⟨y,rfl,ry⟩:=rs.one;cases ry;exact⟨_,_,rfl,rfl,h.1,h.2.1,h.2.2.1,λl hl=>lv.lst hl (jgK _) hG h.2.2.2⟩
theorem RKs.put {κ:Type}[DecidableEq κ]{K:Yaa}{H:Hp}{k:κ}{u:U}{v:V}(r:RU K H u v):∀{kvs:List (κ×U)} {l:List (κ×V)},RKs K H kvs l->RKs K H (dPut kvs k u) (putK l k v):=by
 intro kvs l h;have any:∀{kvs:List (κ×U)} {l:List (κ×V)},RKs K H kvs l->(kvs.any λkv=>decide (kv.1=k))=l.any λkv=>decide (kv.1=k):=by
  intro kvs
  induction kvs with
  |nil=>intro l h;cases h;rfl
  |cons p q ih=>intro l h;obtain⟨w,l',rfl,_,rs⟩:=h;simp only[Ybj];rw[ih rs]
 have repl:∀{kvs:List (κ×U)} {l:List (κ×V)},RKs K H kvs l->RKs K H (kvs.map λkv=>if kv.1=k then (kv.1,u) else kv) (l.map λkv=>if kv.1=k then (kv.1,v) else kv):=by
  intro kvs
  induction kvs with
  |nil=>intro l h;cases h;rfl
  |cons p q ih=>
   intro l h;obtain⟨k',u'⟩:=p;obtain⟨w,l',rfl,rw',rs⟩:=h;simp only[YaA];by_cases e:k'=k
   ·rw[if_pos e,if_pos e];exact⟨v,_,rfl,r,ih rs⟩
   ·rw[if_neg e,if_neg e];exact⟨w,_,rfl,rw',ih rs⟩
 have snoc:∀{kvs:List (κ×U)} {l:List (κ×V)},RKs K H kvs l->RKs K H (kvs++[(k,u)]) (l++[(k,v)]):=by
  intro kvs
  induction kvs with
  |nil=>intro l h;cases h;exact⟨v,[],rfl,r,rfl⟩
  |cons p q ih=>intro l h;obtain⟨k',u'⟩:=p;obtain⟨w,l',rfl,rw',rs⟩:=h;exact⟨w,_,rfl,rw',ih rs⟩
 unfold dPut putK;rw[any h];split
 ·exact repl h
 ·exact snoc h
theorem RKs.length {κ:Type}{K:Yaa}{H:Hp}:∀{kvs:List (κ×U)} {l:List (κ×V)},RKs K H kvs l->kvs.length=l.length
 |[],_,h=>by cases h;rfl
 |(_,_)::_,_,h=>by obtain⟨v,l',rfl,_,rs⟩:=h;simp[rs.length]
theorem jjA (m:Mth):MtU X m:=by
 cases m with
 |append=>exact jhm
 |extend=>intro x G1 T id h;cases h
 |insert=>intro x G1 T id h;cases h
 |pop=>intro x G1 T id h;cases h
 |reverse=>intro x G1 T id h;cases h
 |index=>exact jiV
 |join=>exact jk4
 |split=>exact jiU
 |setd=>intro x G1 T id h;cases h
 |get=>intro x G1 T id h;unfold mtU at h;split at h<;>contradiction
variable {m:Mth}{o e:Expr}{es:List Expr}{to:UE}{ts:UA}{apos cpos:Pos}
theorem jlM (hm:MtU X m)(ho:PE X o (lE X to))(ha:PA X (e::es) (lA X ts))(hbase:Ycd o (mthN m) X.env (eval o X.env)=eval o X.env)
  (hfew:((backTo cpos (Yar (e::es) X.env)).all (λx=>!x.1)&&(backToKw cpos (Yfa [] X.env)).all (λx=>x.1.isSome)
   && decide ((e::es).length+([]:List Keyword).length+(if ([]:List Keyword).isEmpty then 0 else 1)<30))=true)
  (hline:(apos.endLine==cpos.line)=true) (hs:Yar (e::es) X.env=(false,eval e X.env)::Yar es X.env) (hplain:(backTo cpos (Yar es X.env)).any (·.1)=false) :
  PE X (.Call (.Attribute o (mthN m) apos) (e::es) [] cpos) (lE X λς G Q E=>to ς G (λx G1=>match mtU m x G1 with|some _=>ts ς G1 (λus G2=>jax m x us G2 Q) E|none=>False) E):=by
 intro pins s σ H Q0 I h;obtain⟨ς,G,Q,E,hς,hG,h,lv,lx⟩:=h;refine Yeg hbase hfew hline rfl (thn (ho pins s σ H (λv H1=>∃x G1 T id,RU X.K H1 x v/\HR X.K H1 G1/\Fr H G H1 G1/\mtU m x G1=some (T,id)/\ts ς G1 (λus G2=>jax m x us G2 Q) E) I
  ⟨ς,G,_,E,hς,hG,h,λx v G1 H1 rx hG1 f1 h1=>?_,lx⟩) λv s1 ⟨xv,H1,I1,r1,x,G1,T,id,rx,hG1,f1,em,h1⟩=>?_)
 ·dsimp only at h1;split at h1
  ·rename_i p ep;exact⟨x,G1,p.1,p.2,rx,hG1,f1,ep,h1⟩
  ·exact h1.elim
 ·obtain⟨k,hty,r,hr1,hr2⟩:=hm x G1 T id em;obtain⟨t1,t2⟩:=jgG I1 r1 (hty xv H1 rx hG1);refine⟨T,id,k.pa,k.sl,k.ty,t1,t2,?_⟩;have hA:=ha cpos pins s1 σ H1 (λvs H2=>∃us G2,RUs X.K H2 us vs/\HR X.K H2 G2/\Fr H1 G1 H2 G2/\jax m x us G2 Q) I1 ⟨ς,G1,_,E,hς.ts (f1.ts hG),hG1,h1,λus vs G2 H2 rs hG2 f2 h2=>⟨us,G2,rs,hG2,f2,h2⟩,lx.fr f1⟩;rw[hs]at hA ⊢;refine Ydh (by show(false||(backTo cpos (Yar es X.env)).any (·.1))=false;rw[hplain]<;>rfl) (Yfi ?_)
  exact thn hA λus s2 ⟨vs,H2,I2,r2,ws,G2,rs,hG2,f2,h2⟩=>hr1 pins s2 σ H2 xv vs v us Q0 I2 r1 r2 (hr2 ws xv vs G2 H2 Q Q0 (rx.ts (f2.ts hG1)) rs hG2 h2 (lv.fr (f1.trans f2)))
theorem jj8 (hm:MtU X m)(ho:PE X o (lE X to))(hbase:Ycd o (mthN m) X.env (eval o X.env)=eval o X.env)(hline:(apos.endLine==cpos.line)=true) :
  PE X (.Call (.Attribute o (mthN m) apos) [] [] cpos) (lE X λς G Q E=>to ς G (λx G1=>match mtU m x G1 with|some _=>jax m x [] G1 Q|none=>False) E):=by
 intro pins s σ H Q0 I h;obtain⟨ς,G,Q,E,hς,hG,h,lv,lx⟩:=h;refine PySem.wpAny_Call_method0_late hbase hline (thn (ho pins s σ H (λv H1=>∃x G1 T id,RU X.K H1 x v/\HR X.K H1 G1/\Fr H G H1 G1/\mtU m x G1=some (T,id)/\jax m x [] G1 Q) I
  ⟨ς,G,_,E,hς,hG,h,λx v G1 H1 rx hG1 f1 h1=>?_,lx⟩) λv s1 ⟨xv,H1,I1,r1,x,G1,T,id,rx,hG1,f1,em,h1⟩=>?_)
 ·dsimp only at h1;split at h1
  ·rename_i p ep;exact⟨x,G1,p.1,p.2,rx,hG1,f1,ep,h1⟩
  ·exact h1.elim
 ·obtain⟨k,hty,r,hr1,hr2⟩:=hm x G1 T id em;obtain⟨t1,t2⟩:=jgG I1 r1 (hty xv H1 rx hG1);exact⟨T,id,k.pa,k.sl,k.ty,t1,t2,Ydh rfl (PySem.evalArgs_none (hr1 pins s1 σ H1 xv [] v [] Q0 I1 r1 .nil (hr2 [] xv [] G1 H1 Q Q0 rx rfl hG1 h1 (lv.fr f1))))⟩
end
end Z

namespace L2
open PySem PySem.Spec PyProof.Rows
section
variable {X:Cx}{tg:Expr}
def iSeq (K:Yaa)(tl:TE):TI:=λσ H R=>tl σ H λx H1=>∃a,x=.ref a/\(((∃xs,SqL K H1 a xs)/\R (Itl K a) H1)\/((∃xs,SqT K H1 a xs)/\R (Itt K a) H1))
theorem jmr {l:Expr}{tl:TE}(hl:PE X l tl):PI X tg l (iSeq X.K tl):=by
 intro pins s σ H R I h;refine thn (hl pins s σ H _ I h) λv s1 ⟨x,H1,I1,r1,q1⟩=>?_;obtain⟨a,e,⟨⟨xs,hq⟩,q⟩|⟨⟨xs,hq⟩,q⟩⟩:=q1
 ·subst e;cases r1;obtain⟨its,rv,p,hz⟩:=I1.list hq;refine Ydl p.isList ?_;refine⟨s1.heap.objs.size,[s1.heap.objs.size],_,_,H1,rfl,I1.kept (t':=s1.toks) λb o e=>Yae _ e,jgI a _,⟨_,Yas _ rfl,rfl,rfl⟩,λb hb=>?_,q⟩;have e:b=s1.heap.objs.size:=by simpa using hb
  subst e;exact I1.fpOk (Yaf _) (I1.hok.fresh (Yaf _))
 ·subst e;cases r1;obtain⟨its,rv,p,hz⟩:=I1.tuple hq;refine wpAny_pyIter_tuple (show s1.heap.IsTuple a its.toArray from p) ?_;refine⟨s1.heap.objs.size,[s1.heap.objs.size],_,_,H1,rfl,I1.kept (t':=s1.toks) λb o e=>Yae _ e,jf9 a _,⟨_,Yas _ rfl,rfl,rfl⟩,λb hb=>?_,q⟩;have e:b=s1.heap.objs.size:=by simpa using hb
  subst e;exact I1.fpOk (Yaf _) (I1.hok.fresh (Yaf _))
theorem PI.imp {iter:Expr}{t t':TI}(h:PI X tg iter t)(i:∀σ H R,t' σ H R->t σ H R):PI X tg iter t':=λpins s σ H R I q=>h pins s σ H R I (i σ H R q)
theorem PG.imp {target:Expr}{t t':TG}(h:PG X target t)(i:∀v σ H Q,t' v σ H Q->t v σ H Q):PG X target t':=λpins s σ H v u Q I r q=>h pins s σ H v u Q I r (i v σ H Q q)
theorem PGs.imp {ts:List Expr}{t t':TGs}(h:PGs X ts t)(i:∀v σ H Q,t' v σ H Q->t v σ H Q):PGs X ts t':=λpins s σ H v u Q I r q=>h pins s σ H v u Q I r (i v σ H Q q)
theorem PIfs.imp {ifs:List Expr}{t t':TT}(h:PIfs X ifs t)(i:∀σ H Q,t' σ H Q->t σ H Q):PIfs X ifs t':=λpins s σ H Q I q=>h pins s σ H Q I (i σ H Q q)
end
end L2
namespace Z
open PySem L2
abbrev UI:=Sg->Gp->(List U->(Gp->Prop)->Gp->Prop)->KX->Prop
def jfn (K:Yaa)(J:L2.It)(H:Hp)(G:Gp)(xs:List U)(ok:Gp->Prop):Prop:=∀i H' G',TS H H'->HR K H' G'->ok G'->
 (∀u,xs[i]?=some u->J.go i H'/\∀v H'',J.yld i H' v H''->RU K H'' u v/\HR K H'' G'/\Fr H' G' H'' G')/\(i=xs.length->J.stop i H')
theorem jfn.mono {K:Yaa}{J:L2.It}{H H2:Hp}{G G2:Gp}{xs:List U}{ok:Gp->Prop}(h:jfn K J H G xs ok)(t:TS H H2):jfn K J H2 G2 xs ok:=λi H' G' t'=>h i H' G' (t.trans t')
section
variable (X:Cx)
def lI (t:UI):TI:=λσ H R=>∃ς G Q E,SR X.K H ς σ/\HR X.K H G/\t ς G Q E/\(∀xs ok G' H' J,HR X.K H' G'->Fr H G H' G'->jfn X.K J H' G' xs ok->Q xs ok G'->R J H')/\LX X σ H G E
def lG (K:Yaa)(t:U->Sg->(Sg->Prop)->Prop):TG:=λv σ H Q0=>∃u ς k,RU K H u v/\SR K H ς σ/\t u ς k/\∀ς' σ',SR K H ς' σ'->k ς'->Q0 σ' H
def lGs (K:Yaa)(t:List U->Sg->(Sg->Prop)->Prop):TGs:=λvs σ H Q0=>∃us ς k,RUs K H us vs/\SR K H ς σ/\t us ς k/\∀ς' σ',SR K H ς' σ'->k ς'->Q0 σ' H
end
section
variable {X:Cx}{tg:Expr}{pos:Pos}{te ta tb:UE}
theorem u_ie {l:Expr}(hl:PE X l (lE X te)):PI X tg l (lI X λς G Q E=>te ς G (λx G1=>itU x G1 λxs ok=>Q xs ok G1) E):=by
 refine(jmr hl).imp λσ H R h=>?_;obtain⟨ς,G,Q,E,hς,hG,h,lv,lx⟩:=h;refine⟨ς,G,_,E,hς,hG,h,λx v G1 H1 rx hG1 f1 h1=>?_,lx⟩;dsimp only at h1;unfold itU at h1;split at h1
 ·obtain⟨a,vs,rfl,ea,rs⟩:=rx;refine⟨a,rfl,.inr ⟨⟨vs,.of ea⟩,lv _ _ _ H1 _ hG1 f1 (λi H' G' f hr _=>?_) h1⟩⟩;have e':H' a=some (.tup vs):=f a _ ea;refine⟨λu eu=>?_,λe=>⟨vs,.of e',by rw[e,rs.length];exact Yaf _⟩⟩
  obtain⟨w,ew,rw'⟩:=rs.get eu;refine⟨⟨vs,w,.of e',ew⟩,λv H'' y=>?_⟩;obtain⟨rfl,y⟩:=y;have:=y vs (.of e');rw[ew]at this;cases this;exact⟨rw'.ts f,hr,Fr.refl _ _⟩
 ·cases rx;rename_i a;split at h1
  ·rename_i us eu;obtain⟨vs,sq,rs⟩:=hG1.ls eu;refine⟨_,rfl,.inl ⟨⟨vs,sq⟩,lv _ _ _ H1 _ hG1 f1 (λi H' G' f hr ok=>?_) h1⟩⟩;obtain⟨vs',sq',rs'⟩:=hr.ls ok;refine⟨λu eu=>?_,λe=>⟨vs',sq',by rw[e,rs'.length];exact Yaf _⟩⟩
   obtain⟨w,ew,rw'⟩:=rs'.get eu;refine⟨⟨vs',w,sq',ew⟩,λv H'' y=>?_⟩;obtain⟨rfl,y⟩:=y;have:=y vs' sq';rw[ew]at this;cases this;exact⟨rw',hr,Fr.refl _ _⟩
  ·exact h1.elim
 ·exact h1.elim
theorem jfA {K:Yaa}{H:Hp}{G:Gp}(lo:Int)(n:Nat):jfn K (Itr lo n) H G (rngU lo n) λ_=>True:=by
 intro i H' G' f hr _;have hl:(rngU lo n).length=n:=by simp[rngU]
 refine⟨λu eu=>?_,λe=>by rw[hl]at e;exact Yei e.symm⟩
 have hi:i<n:=by have:=(List.getElem?_eq_some_iff.mp eu).1;omega
 refine⟨hi,λv H'' y=>?_⟩;obtain⟨rfl,rfl⟩:=y;have:(rngU lo n)[i]?=some (.int (lo+i)):=by simp[rngU,Yat,YdJ hi]
 rw[this]at eu;cases eu;exact⟨rfl,hr,Fr.refl _ _⟩
theorem u_r1 {a:Expr}{p:Pos}(hg:Gl X "range")(hm:X.mg "range" = none)(ha:PE X a (lE X ta))(hs:Yar [a] X.env=[(false,eval a X.env)]):PI X tg (.Call (.Name "range" p) [a] [] pos) (lI X λς G Q E=>ta ς G (λx G1=>match x with
   |.int j=>-(2 ^ 62)<=j/\j<2 ^ 62/\Q (rngU 0 j.toNat) (λ_=>True) G1
   |_=>False) E):=by
 refine(jg1 hg hm (jcu ha jgF hs) hs).imp λσ H R h=>?_;obtain⟨ς,G,Q,E,hς,hG,h,lv,lx⟩:=h;refine⟨ς,G,λus G1=>match us with|[x]=>(match x with|.int j=>-(2 ^ 62)<=j/\j<2 ^ 62/\Q (rngU 0 j.toNat) (λ_=>True) G1|_=>False)|_=>False,E,hς,hG,h,λus vs G1 H1 rs hG1 f1 h1=>?_,lx⟩
 dsimp only at h1;split at h1
 ·obtain⟨v,rfl,r⟩:=rs.one;split at h1
  ·cases r;exact⟨_,rfl,h1.1,h1.2.1,lv _ _ G1 H1 _ hG1 f1 (jfA 0 _) h1.2.2⟩
  ·exact h1.elim
 ·exact h1.elim
theorem u_r2 {a b:Expr}{p:Pos}(hg:Gl X "range")(hm:X.mg "range" = none)(ha:PE X a (lE X ta))(hb:PE X b (lE X tb))(hs:Yar [a,b] X.env=[(false,eval a X.env),(false,eval b X.env)])(hs2:Yar [b] X.env=[(false,eval b X.env)]) :
  PI X tg (.Call (.Name "range" p) [a,b] [] pos) (lI X λς G Q E=>ta ς G (λx G1=>tb ς G1 (λy G2=>match x,y with
   |.int i,.int j=>-(2 ^ 62)<=i/\i<2 ^ 62/\-(2 ^ 62)<=j/\j<2 ^ 62/\Q (rngU i (j-i).toNat) (λ_=>True) G2
   |_,_=>False) E) E):=by
 refine(jg0 hg hm (jcu ha (jcu hb jgF hs2) (by rw[hs,hs2])) hs hs2).imp λσ H R h=>?_
 obtain⟨ς,G,Q,E,hς,hG,h,lv,lx⟩:=h;refine⟨ς,G,λus G1=>match us with|[x,y]=>(match x,y with|.int i,.int j=>-(2 ^ 62)<=i/\i<2 ^ 62/\-(2 ^ 62)<=j/\j<2 ^ 62/\Q (rngU i (j-i).toNat) (λ_=>True) G1|_,_=>False)|_=>False,E,hς,hG,h,λus vs G1 H1 rs hG1 f1 h1=>?_,lx⟩
 dsimp only at h1;split at h1
 ·obtain⟨v,v',rfl,r,r'⟩:=rs.two;split at h1
  ·cases r;cases r';exact⟨_,_,rfl,⟨h1.1,h1.2.1,h1.2.2.1,h1.2.2.2.1⟩,lv _ _ G1 H1 _ hG1 f1 (jfA _ _) h1.2.2.2.2⟩
  ·exact h1.elim
 ·exact h1.elim
theorem u_is {l:Expr}(hl:PE X l (lE X te)):PI X tg l (lI X λς G Q E=>te ς G (λx G1=>sgU x λxs=>Q xs (λ_=>True) G1) E):=by
 refine(jmq hl).imp λσ H R h=>?_;obtain⟨ς,G,Q,E,hς,hG,h,lv,lx⟩:=h;refine⟨ς,G,_,E,hς,hG,h,λx v G1 H1 rx hG1 f1 h1=>?_,lx⟩;cases x with
 |str z=>
  cases rx;obtain⟨ha,h1⟩:=h1;refine⟨z,rfl,ha,lv _ _ _ H1 _ hG1 f1 (λi H' G' f hr _=>⟨λu eu=>?_,λe=>?_⟩) h1⟩
  ·rw[Yat]at eu;cases ec:z.cps.toList[i]? with
   |none=>rw[ec]at eu;cases eu
   |some c=>
    rw[ec]at eu;cases eu;have ec':z.cps[i]?=some c:=by simpa using ec
    refine⟨(Array.getElem?_eq_some_iff.mp ec').1,λv H'' y=>?_⟩;obtain⟨rfl,d,ed,rfl⟩:=y;rw[ec']at ed;cases ed;exact⟨rfl,hr,Fr.refl _ _⟩
  ·rw[e];simp[Its]
 |_=>exact h1.elim
theorem SR.set {K:Yaa}{H:Hp}{ς:Sg}{σ:St}{u:U}{v:V}(h:SR K H ς σ)(r:RU K H u v)(i:Nat):SR K H (ς.set i (some u)) (σ.set i (some v)):=by
 refine⟨by simp[h.1],λj w e=>?_⟩
 by_cases hj:j=i
 ·subst hj;by_cases hl:j<ς.length
  ·rw[Ybg hl]at e;cases e;exact⟨v,Ybg (by rw[<- h.1];exact hl),r⟩
  ·rw[YcA (by simp;omega)]at e
   cases e
 ·rw[YaU (Ne.symm hj)]at e ⊢;exact h.2 j w e
theorem u_tn {i:Nat}{x:Str}(hN:X.N.Nodup)(hi:X.N[i]?=some x)(hx:Loc X.env.scope x)(hf:X.fn x=true\/X.env.scope.names.lookup x=some .local):PG X (.Name x pos) (lG X.K (tgU (.n i))):=by
 refine(jeT hN hi hx hf).imp λv σ H Q h=>?_;obtain⟨u,ς,k,r,hς,h,q⟩:=h;exact q _ _ (hς.set r i) h
theorem u_tt {es:List Expr}{k n:Nat}{ts:Tgs}(hc:X.calm=true)(h:PGs X es (lGs X.K (tgsU ts)))(hn:(YaY es X.env).length=n)(hst:(YaY es X.env).findIdx? (·.1)=none)(hl:∀us ς k,tgsU ts us ς k->us.length=n) :
  PG X (.Tuple es k pos) (lG X.K (tgU (.t ts))):=by
 refine(jms hc h hn hst).imp λv σ H Q h=>?_;obtain⟨u,ς,k,r,hς,h,q⟩:=h;cases u with
 |tup us=>
  obtain⟨a,vs,rfl,e,rs⟩:=r;have h':tgsU ts us ς k:=h;exact⟨a,vs,rfl,.of e,by rw[<- rs.length];exact hl _ _ _ h',us,ς,k,rs,hς,h',q⟩
 |_=>exact h.elim
theorem job:PGs X [] (lGs X.K (tgsU .nil)):=by
 refine jkI.imp λvs σ H Q h=>?_;obtain⟨us,ς,k,r,hς,h,q⟩:=h;obtain⟨rfl,h⟩:=h;cases r;exact⟨rfl,q _ _ hς h⟩
theorem joc {e:Expr}{es:List Expr}{t:Tg}{ts:Tgs}(h1:PG X e (lG X.K (tgU t)))(h2:PGs X es (lGs X.K (tgsU ts)))(hs:(YaY (e::es) X.env).map (·.2)=assign e X.env::(YaY es X.env).map (·.2)) :
  PGs X (e::es) (lGs X.K (tgsU (.cons t ts))):=by
 refine(jiG h1 h2 hs).imp λvs σ H Q h=>?_;obtain⟨us,ς,k,r,hς,h,q⟩:=h;cases us with
 |nil=>exact h.elim
 |cons u us=>
  obtain⟨v,vr,rfl,r1,rs⟩:=r;exact⟨v,vr,rfl,u,ς,_,r1,hς,h,λς' σ' hs' h'=>⟨us,ς',k,rs,hs',h',q⟩⟩
end
def lE0 (K:Yaa)(t:UE):TE:=λτ H Q0=>∃ς G Q,SR K H ς τ/\HR K H G/\t ς G Q (λ_ _=>False)/\∀w v G' H',RU K H' w v->HR K H' G'->Fr H G H' G'->Q w G'->Q0 v H'
def lT0 (K:Yaa)(t:Sg->Gp->(Bool->Gp->Prop)->Prop):TT:=λτ H Q0=>∃ς G Q,SR K H ς τ/\HR K H G/\t ς G Q/\∀b G' H',HR K H' G'->Fr H G H' G'->Q b G'->Q0 b H'
theorem LX.no {X:Cx}{σ:St}{H:Hp}{G:Gp}:LX X σ H G λ_ _=>False:=λ_ _ _ _ _ _ _ _ _ _ h=>h.elim
theorem lE0.of {X:Cx}{e:Expr}{t:UE}(h:PE X e (lE X t)):PE X e (lE0 X.K t):=h.imp λσ H Q0 ⟨ς,G,Q,h1,h2,h3,h4⟩=>⟨ς,G,Q,_,h1,h2,h3,h4,LX.no⟩
theorem lT0.of {X:Cx}{e:Expr}{t:UT}(h:PT X e (lT X t)):PT X e (lT0 X.K λς G Q=>t ς G Q λ_ _=>False):=h.imp λσ H Q0 ⟨ς,G,Q,h1,h2,h3,h4⟩=>⟨ς,G,Q,_,h1,h2,h3,h4,LX.no⟩
mutual
noncomputable def tgS:Tg->List Nat
 |.n i=>[i]
 |.t ts=>tgsS ts
noncomputable def tgsS:Tgs->List Nat
 |.nil=>[]
 |.cons t ts=>tgS t++tgsS ts
end
def Ext (ς0 ς:Sg):Prop:=ς0.length=ς.length/\∀(j:Nat) (w:U),ς0[j]?=some (some w)->ς[j]?=some (some w)
mutual
theorem jjj {ς0:Sg}:∀{t:Tg} {u:U} {ς:Sg} {k:Sg->Prop},(∀i∈tgS t,∀w,ς0[i]?≠some (some w))->Ext ς0 ς->tgU t u ς k->tgU t u ς λς'=>k ς'/\Ext ς0 ς'
 |.n i,u,ς,k,hf,he,h=>by
  refine⟨h,by simp[he.1],λj w e=>?_⟩
  have hj:j≠i:=λz=>hf i (by simp[tgS]) w (z ▸ e)
  rw[YaU (Ne.symm hj)]
  exact he.2 j w e
 |.t ts,u,ς,k,hf,he,h=>by
  cases u with
  |tup us=>exact jgJ (ts:=ts) (us:=us) (λi hi=>hf i hi) he h
  |_=>exact h
theorem jgJ {ς0:Sg}:∀{ts:Tgs} {us:List U} {ς:Sg} {k:Sg->Prop},(∀i∈tgsS ts,∀w,ς0[i]?≠some (some w))->Ext ς0 ς->tgsU ts us ς k->tgsU ts us ς λς'=>k ς'/\Ext ς0 ς'
 |.nil,us,ς,k,_,he,h=>⟨h.1,h.2,he⟩
 |.cons t ts,us,ς,k,hf,he,h=>by
  cases us with
  |nil=>exact h
  |cons u r=>
   have:=jjj (t:=t) (u:=u) (λi hi=>hf i (by simp[tgsS,hi])) he h
   refine jcw this λς' ⟨h1,h2⟩=>jgJ (λi hi=>hf i (by simp[tgsS,hi])) h2 h1
theorem jcw:∀{t:Tg} {u:U} {ς:Sg} {k k':Sg->Prop},tgU t u ς k->(∀ς,k ς->k' ς)->tgU t u ς k'
 |.n _,_,_,_,_,h,i=>i _ h
 |.t ts,u,ς,_,_,h,i=>by
  cases u with
  |tup us=>exact jfu (ts:=ts) (us:=us) h i
  |_=>exact h
theorem jfu:∀{ts:Tgs} {us:List U} {ς:Sg} {k k':Sg->Prop},tgsU ts us ς k->(∀ς,k ς->k' ς)->tgsU ts us ς k'
 |.nil,_,_,_,_,h,i=>⟨h.1,i _ h.2⟩
 |.cons t ts,us,ς,_,_,h,i=>by
  cases us with
  |nil=>exact h
  |cons u r=>exact jcw (t:=t) h λς' h'=>jfu h' i
end
theorem SR.ext {K:Yaa}{H:Hp}{ς0 ς:Sg}{σ:St}(h:SR K H ς σ)(e:Ext ς0 ς):SR K H ς0 σ:=⟨e.1.trans h.1,λi u q=>h.2 i u (e.2 i u q)⟩
theorem SR.pick {K:Yaa}{H:Hp}{ς:Sg}{σ:St}(h:SR K H ς σ)(pick:List (Option Nat)):SR K H (jbt pick ς) (pick.map λo=>o.bind λj=>(σ[j]?).join):=by
 refine⟨by simp[jbt],λi u e=>?_⟩
 unfold jbt at e;rw[Yat]at e ⊢;cases q:pick[i]? with
 |none=>rw[q]at e;cases e
 |some o=>
  rw[q]at e;cases o with
  |none=>simp at e
  |some j=>
   simp only[Option.map_some,Option.bind_some,Option.some.injEq]at e ⊢;have e':ς[j]?=some (some u):=by
    cases z:ς[j]? with
    |none=>rw[z]at e;cases e
    |some w=>rw[z]at e;simp at e;rw[e]
   obtain⟨v,ev,r⟩:=h.2 j u e';exact⟨v,by rw[ev];rfl,r⟩
section
variable {K:Yaa}{H:Hp}{G:Gp}
theorem HR.newH (h:HR K H G){p:Addr}{o:HO}(e:H p=none):HR K (upd H p o) G:=⟨λa ob q=>by
 have m:=h a ob q;obtain⟨ho,e2⟩:=m.there;exact m.keep (jad (jah e2 e)) (TS.new e),h.tab.new e⟩
theorem TS.hid {p:Addr}{ys:List V}{o:HO}(e:H p=some (.lst ys)):TS H (upd H p o):=⟨λa xs h=>by
 have:a≠p:=λz=>by subst z;rw[e]at h;cases h
 rw[jad this];exact h,λa ob h=>by
 have:a≠p:=λz=>by subst z;rw[e]at h;cases h
 rw[jad this];exact h⟩
theorem HR.hid (h:HR K H G){p:Addr}{ys:List V}{o:HO}(e:H p=some (.lst ys))(g:G p=none):HR K (upd H p o) G:=⟨λa ob q=>by
 have:a≠p:=λz=>by subst z;rw[g]at q;cases q
 exact(h a ob q).keep (jad this) (TS.hid e),h.tab.upd (λps z=>by rw[e]at z;cases z) λob z=>by rw[e]at z;cases z⟩
theorem HR.know (h:HR K H G){p:Addr}{ys:List V}{us:List U}(e:H p=some (.lst ys))(r:RUs K H us ys):HR K H (gup G p (.lst us)):=⟨λa ob q=>by
 by_cases z:a=p
 ·subst z;rw[jas]at q;cases q;exact⟨ys,e,r⟩
 ·rw[jbj z]at q;exact h a ob q,h.tab⟩
end
section
variable {X:Cx}{pick:List (Option Nat)}{ti:UI}{t:Tg}{tc:Sg->Gp->(Bool->Gp->Prop)->Prop}{te:UE}{σ:St}{H:Hp}{Q0:VK}
abbrev lcD (pick:List (Option Nat))(ti:UI)(t:Tg)(tc:Sg->Gp->(Bool->Gp->Prop)->Prop)(te:UE):UE:=λς G Q E=>ti ς G (λxs ok G1=>xs.length<=Yac/\jbP ok (λx G2 k=>tgU t x (jbt pick ς) λτ=>tc τ G2 (λb G3=>if b=true then te τ G3 (λu G4=>k (some u) G4) (λ_ _=>False) else k none G3)) xs [] G1
   λus G5=>newO G5 (.lst us) Q) E
structure FrX (D:Addr)(H:Hp)(G:Gp)(H':Hp)(G':Gp):Prop where
 go:∀a o,a≠D->H a=some o->G a=none->(nt:noTb o=true:=by rfl)->H' a=some o/\G' a=none
instance {D:Addr} {H H':Hp} {G G':Gp}:CoeFun (FrX D H G H' G') λ_=>∀a o,a≠D->H a=some o->G a=none->(nt:noTb o=true:=by rfl)->H' a=some o/\G' a=none:=⟨@FrX.go D H G H' G'⟩
theorem jm0 {xs:List U}{ok:Gp->Prop}{G1:Gp}{H1:Hp}{J:L2.It}{τu:Sg}{τ0:St}{D:Addr}{acc0:List U}{ys0:List V}{kk:List U->Gp->Prop}{QQ:St->List V->Hp->Prop}
  (free:∀i∈tgS t,∀w,τu[i]?≠some (some w)) (wk:jfn X.K J H1 G1 xs ok) (hG1:HR X.K H1 G1) (eD1:H1 D=some (.lst ys0)) (gD1:G1 D=none) (ra1:RUs X.K H1 acc0 ys0) (sr1:SR X.K H1 τu τ0) (hl:acc0.length+xs.length<=Yac)
  (h1:jbP ok (λx G2 k=>tgU t x τu λτ=>tc τ G2 (λb G3=>if b=true then te τ G3 (λu G4=>k (some u) G4) (λ_ _=>False) else k none G3)) xs acc0 G1 kk)
  (fin:∀τ' acc' ys' G' H',SR X.K H' τu τ'->HR X.K H' G'->FrX D H1 G1 H' G'->H' D=some (.lst ys')->G' D=none->RUs X.K H' acc' ys'->kk acc' G'->QQ τ' ys' H') :
  jih J (lG X.K (tgU t)) (lT0 X.K tc) (emA (lE0 X.K te) D) QQ τ0 ys0 H1:=by
 refine⟨λi m τ ys H'=>m=xs.length-i/\i<=xs.length/\∃acc G',SR X.K H' τu τ/\HR X.K H' G'/\FrX D H1 G1 H' G'/\H' D=some (.lst ys)/\G' D=none/\RUs X.K H' acc ys/\acc.length<=acc0.length+i/\
  jbP ok (λx G2 k=>tgU t x τu λτ=>tc τ G2 (λb G3=>if b=true then te τ G3 (λu G4=>k (some u) G4) (λ_ _=>False) else k none G3)) (xs.drop i) acc G' kk,⟨xs.length,by simp,Ybw _,acc0,G1,sr1,hG1,⟨λ_ _ _ a b _=>⟨a,b⟩⟩,eD1,gD1,ra1,by omega,by simpa using h1⟩,?_⟩
 rintro i m τ ys H' ⟨rfl,hi,acc,G',sr,hr,f,eD,gD',ra,hal,hc⟩;have ts:TS H1 H':=⟨λa zs e=>(f a _ (λz=>by rw[z,eD1]at e;cases e) e (hG1.tupNone e)).1,λa zs e=>(f a _ (λz=>by rw[z,eD1]at e;cases e) e (hG1.codNone e)).1⟩
 by_cases hlt:i<xs.length
 ·rw[Ybi hlt]at hc;obtain⟨hok,hb⟩:=hc;obtain⟨w1,_⟩:=wk i H' G' ts hr hok;obtain⟨go,yl⟩:=w1 xs[i] (by simp[hlt])
  refine .inr ⟨go,λv H'' y=>?_⟩;obtain⟨rx,hr2,f2⟩:=yl v H'' y;have sr2:=sr.ts (f2.ts hr);refine⟨xs[i],τu,_,rx,sr2,jjj free ⟨rfl,λ_ _ e=>e⟩ hb,λτv σ' hs' ⟨hk,he⟩=>?_⟩;refine⟨τv,G',_,hs',hr2,hk,λb G3 H3 hr3 f3 h3=>?_⟩;have f13:FrX D H1 G1 H3 G3:=⟨λa o n h g nt=>let ⟨a1,a2⟩:=f a o n h g nt;let ⟨b1,b2⟩:=f2 a o a1 a2 nt;f3 a o b1 b2 nt⟩
  have hs3:SR X.K H3 τu σ':=(hs'.ext he).ts (f3.ts hr2);obtain⟨eD2,gD2⟩:=f2 D _ eD gD';obtain⟨eD3,gD3⟩:=f3 D _ eD2 gD2;have ra3:=(ra.ts (f2.ts hr)).ts (f3.ts hr2);cases b with
  |false=>
   rw[if_neg Yaj]at h3;dsimp only;rw[if_neg Yaj];exact⟨xs.length-(i+1),by omega,rfl,hlt,acc,G3,hs3,hr3,f13,eD3,gD3,ra3,by omega,h3⟩
  |true=>
   rw[if_pos rfl]at h3;dsimp only;rw[if_pos rfl];refine⟨τv,G3,_,hs'.ts (f3.ts hr2),hr3,h3,λu v G4 H4 ru hr4 f4 h4=>?_⟩;obtain⟨eD4,gD4⟩:=f4 D _ eD3 gD3;have ra4:=ra3.ts (f4.ts hr3);have tsn:=TS.hid (o:=.lst (ys++[v])) eD4;refine⟨eD4,by rw[<- ra.length];omega,xs.length-(i+1),by omega,rfl,hlt,acc++[u],G4,(hs3.ts (f4.ts hr3)).ts tsn,hr4.hid eD4 gD4,?_,jag,gD4,(ra4.append (RUs.mk (us:=[]) (vs:=[]) ru rfl)).ts tsn,by simp;omega,h4⟩
   refine⟨λa o n ha ga nt=>?_⟩;obtain⟨x1,x2⟩:=f13 a o n ha ga nt;obtain⟨y1,y2⟩:=f4 a o x1 x2 nt;exact⟨by rw[jad n];exact y1,y2⟩
 ·have e:i=xs.length:=by omega
  subst e;rw[Ygr]at hc;obtain⟨hok,q⟩:=hc;obtain⟨_,w2⟩:=wk xs.length H' G' ts hr hok;exact .inl ⟨w2 rfl,fin τ acc ys G' H' sr hr f eD gD' ra q⟩
theorem jgZ {is:List Nat}(hp:is.all (λi=>(pick[i]?).join.isNone)=true)(ς:Sg):∀i∈is,∀w,(jbt pick ς)[i]?≠some (some w):=λi hi w e=>by
 have:=Ydg.mp hp i hi;unfold jbt at e;rw[Yat]at e;cases q:pick[i]? with
 |none=>rw[q]at e;cases e
 |some o=>
  rw[q]at e this;cases o with
  |none=>simp at e
  |some j=>simp at this
theorem jjC (hp:(tgS t).all (λi=>(pick[i]?).join.isNone)=true)(h:lE X (lcD pick ti t tc te) σ H Q0):tLc pick (lI X ti) (lG X.K (tgU t)) (lT0 X.K tc) (lE0 X.K te) σ H Q0:=by
 obtain⟨ς,G,Q,E,hς,hG,h,lv,lx⟩:=h;refine⟨ς,G,_,E,hς,hG,h,λxs ok G1 H1 J hG1 f1 wk h1=>?_,lx⟩;obtain⟨hl,h1⟩:=h1;intro D hD;refine jm0 (acc0:=[]) (jgZ hp ς) (wk.mono (TS.new hD)) (hG1.newH hD) jag (hG1.nope hD) rfl (((hς.ts (f1.ts hG)).ts (TS.new hD)).pick pick) (by simpa using hl) h1 λτ' acc' ys' G' H' sr hr f eD gD' ra q=>?_
 refine lv (.loc D) (.ref D) _ H' rfl (hr.know eD ra) ?_ (q.at D gD');refine⟨λa o ha ga nt=>?_⟩;obtain⟨x1,x2⟩:=f1 a o ha ga nt;obtain⟨y1,y2⟩:=f a o (jah x1 hD) (by rw[jad (jah x1 hD)];exact x1) x2 nt
 exact⟨y1,by rw[jbj (jah x1 hD)];exact y2⟩
def lI0 (K:Yaa)(t:UI):TI:=λσ H R=>∃ς G Q,SR K H ς σ/\HR K H G/\t ς G Q (λ_ _=>False)/\∀xs ok G' H' J,HR K H' G'->Fr H G H' G'->jfn K J H' G' xs ok->Q xs ok G'->R J H'
mutual
theorem jkd {is:List Nat}:∀{t:Tg} {u:U} {ς:Sg} {k:Sg->Prop},(∀i∈is,i∉tgS t)->(∀i∈is,∀w,ς[i]?≠some (some w))->tgU t u ς k->tgU t u ς λς'=>k ς'/\∀i∈is,∀w,ς'[i]?≠some (some w)
 |.n j,u,ς,k,hf,he,h=>by
  refine⟨h,λi hi w e=>?_⟩
  have hj:i≠j:=λz=>hf i hi (by simp[tgS,z])
  rw[YaU (Ne.symm hj)]at e
  exact he i hi w e
 |.t ts,u,ς,k,hf,he,h=>by
  cases u with
  |tup us=>exact jfv (ts:=ts) (us:=us) (λi hi=>hf i hi) he h
  |_=>exact h
theorem jfv {is:List Nat}:∀{ts:Tgs} {us:List U} {ς:Sg} {k:Sg->Prop},(∀i∈is,i∉tgsS ts)->(∀i∈is,∀w,ς[i]?≠some (some w))->tgsU ts us ς k->tgsU ts us ς λς'=>k ς'/\∀i∈is,∀w,ς'[i]?≠some (some w)
 |.nil,us,ς,k,_,he,h=>⟨h.1,h.2,he⟩
 |.cons t ts,us,ς,k,hf,he,h=>by
  cases us with
  |nil=>exact h
  |cons u r=>
   have:=jkd (t:=t) (u:=u) (λi hi z=>hf i hi (by simp[tgsS,z])) he h
   refine jcw this λς' ⟨h1,h2⟩=>jfv (λi hi z=>hf i hi (by simp[tgsS,z])) h2 h1
end
variable {tg iter elt:Expr}{ifs:List Expr}{pos:Pos}{N:List Str}{scope:Scope}
theorem u_lc (hc:X.calm=true)(S:CScope X N pick scope)(hw:PI X tg iter (lI X ti))(hp:(tgS t).all (λi=>(pick[i]?).join.isNone)=true)
  (hg:∀cl C s₀ H₀ fp,PG (jal X N scope cl C s₀ H₀ fp) tg (lG X.K (tgU t))) (hi:∀cl C s₀ H₀ fp,PIfs (jal X N scope cl C s₀ H₀ fp) ifs (lT0 X.K tc)) (he:∀cl C s₀ H₀ fp,PE (jal X N scope cl C s₀ H₀ fp) elt (lE0 X.K te))
  (hs:∀x,Ya2 iter X.env x=pure x):PE X (.ListComp elt [⟨tg,iter,ifs,0⟩] scope pos) (lE X (lcD pick ti t tc te)):=
 (joV hc S hw hg hi he hs).imp λ_ _ _ h=>jjC hp h
end
section
variable {X:Cx}{e:Expr}{te ta tb:UE}{p pos:Pos}
theorem joj (hg:Gl X "list")(hm:X.mg "list" = none)(ha:PE X e (lE X te))(he:Yar [e] X.env=[(false,eval e X.env)]) :
  PE X (.Call (.Name "list" p) [e] [] pos) (lE X λς G Q E=>te ς G (λx G1=>itU x G1 λxs _=>newO G1 (.lst xs) Q) E):=by
 refine(jcA (jeA (X:=X)) hg hm PyProof.Rows.boot_list (jcu ha jgF he) (by decide) (by decide) he rfl).imp λσ H Q0 h=>?_
 obtain⟨ς,G,Q,E,hς,hG,h,lv,lx⟩:=h;refine⟨ς,G,λus G1=>match us with|[x]=>(itU x G1 λxs _=>newO G1 (.lst xs) Q)|_=>False,E,hς,hG,h,λus vs G1 H1 rs hG1 f1 h1=>?_,lx⟩
 dsimp only at h1;split at h1
 ·obtain⟨v,rfl,r⟩:=rs.one;unfold itU at h1;split at h1
  ·obtain⟨a,ws,rfl,ea,rr⟩:=r;exact⟨a,ws,rfl,.inr (.of ea),λl hl=>(lv.fr f1).lst hl rr hG1 h1⟩
  ·cases r;split at h1
   ·rename_i us eu;obtain⟨ws,sq,rr⟩:=hG1.ls eu;exact⟨_,ws,rfl,.inl sq,λl hl=>(lv.fr f1).lst hl rr hG1 h1⟩
   ·exact h1.elim
  ·exact h1.elim
 ·exact h1.elim
theorem joi (hg:Gl X "tuple")(hm:X.mg "tuple" = none)(ha:PE X e (lE X te))(he:Yar [e] X.env=[(false,eval e X.env)]) :
  PE X (.Call (.Name "tuple" p) [e] [] pos) (lE X λς G Q E=>te ς G (λx G1=>itU x G1 λxs _=>Q (.tup xs) G1) E):=by
 refine(jcA (jdT (X:=X)) hg hm PyProof.Rows.boot_tuple (jcu ha jgF he) (by decide) (by decide) he rfl).imp λσ H Q0 h=>?_
 obtain⟨ς,G,Q,E,hς,hG,h,lv,lx⟩:=h;refine⟨ς,G,λus G1=>match us with|[x]=>(itU x G1 λxs _=>Q (.tup xs) G1)|_=>False,E,hς,hG,h,λus vs G1 H1 rs hG1 f1 h1=>?_,lx⟩
 dsimp only at h1;split at h1
 ·obtain⟨v,rfl,r⟩:=rs.one;unfold itU at h1;split at h1
  ·obtain⟨a,ws,rfl,ea,rr⟩:=r;exact⟨a,ws,rfl,.inr ⟨.of ea,(lv.fr f1).here (w:=.tup _) ⟨a,ws,rfl,ea,rr⟩ hG1 h1⟩⟩
  ·cases r;split at h1
   ·rename_i us eu;obtain⟨ws,sq,rr⟩:=hG1.ls eu;exact⟨_,ws,rfl,.inl ⟨sq,λl hl=>(lv.fr f1).tup hl rr hG1 h1⟩⟩
   ·exact h1.elim
  ·exact h1.elim
 ·exact h1.elim
theorem u_ty {x:Str}{n:String}(hg:Gl X x)(hm:X.mg x=none)(hv:YbK x=some (.type n))(hn:x ≠ "__name__")(hd:(x==("__debug__" : Str))=false):PE X (.Name x pos) (lE X λ_ G Q _=>Q (.ty n) G):=
 jbU (u:=.ty n) (jg4 (v:=.ty n) hg hm hv rfl hn hd) λ_=>rfl
theorem u_gl {x:Str}{u:U}{v:V}{w:Value}(hg:Gl X x)(hm:X.mg x=some w)(r:RelV v w)(hr:∀H,RU X.K H u v)(hd:(x==("__debug__" : Str))=false):PE X (.Name x pos) (lE X λ_ G Q _=>Q u G):=
 jbU (jg3 hg hm r hd) hr
theorem jlP:PE X (.Dict [] [] pos) (lE X λ_ G Q _=>newO G (.dK []) Q):=by
 refine jiJ.imp λσ H Q0 h p hp=>?_;obtain⟨ς,G,Q,E,hς,hG,h,lv,lx⟩:=h;exact lv (.loc p) (.ref p) _ _ rfl (hG.newO (mo:=.dK []) hp ⟨[],jag,rfl⟩) (Fr.newO hp) (h.at p (hG.nope hp))
theorem RKs.merge {K:Yaa}{H:Hp}:∀{more:List (Key×U)} {m:List (Key×V)},RKs K H more m->∀{kvs:List (Key×U)} {l:List (Key×V)},RKs K H kvs l->RKs K H (more.foldl (λacc kv=>dPut acc kv.1 kv.2) kvs) (jcL l m)
 |[],_,h,_,_,h'=>by cases h;exact h'
 |(k,u)::more,_,h,_,_,h'=>by
  obtain⟨v,l',rfl,r,rs⟩:=h;exact RKs.merge rs (h'.put r)
def lD (X:Cx)(t:Sg->Gp->(List (Key×U)->Gp->Prop)->KX->Prop)(trs:List (TE×TE)):Prop:=
 ∀σ H ς G Q E (Q0:List (V×V)->Hp->Prop),SR X.K H ς σ->HR X.K H G->t ς G Q E->LX X σ H G E->
  (∀kvs (l:List (Key×V)) G' H',RKs X.K H' kvs l->HR X.K H' G'->Fr H G H' G'->Q kvs G'->Q0 (l.map λkv=>(kV kv.1,kv.2)) H')->jfw trs σ H Q0
theorem jol {keys:List (Option Expr)}{values:List Expr}{trs:List (TE×TE)}{t:Sg->Gp->(List (Key×U)->Gp->Prop)->KX->Prop}(hp:PPs X pos keys values trs)(hd:lD X t trs)(hall:keys.all (·.isSome)=true)(hl:keys.length=values.length)(h0:keys≠[])
  (h15:keys.length<=15):PE X (.Dict keys values pos) (lE X λς G Q E=>t ς G (λkvs G1=>kvs.length<=15/\newO G1 (.dK (jcW kvs)) Q) E):=by
 refine(jkL hp hall hl h0 h15).imp λσ H Q0 h p hp=>?_;obtain⟨ς,G,Q,E,hς,hG,h,lv,lx⟩:=h;have gp:=hG.nope hp;refine hd σ _ ς G _ E _ (hς.ts (TS.new hp)) (hG.newH hp) h (lx.fr (Fr.new hp)) λkvs l G' H' r hG' f q=>?_;obtain⟨e,g⟩:=f p _ jag gp;refine⟨e,l,rfl,by rw[<- r.length];exact q.1,?_⟩
 have ts:TS H' (upd H' p (.dK (jcL [] l))):=⟨λa xs h=>by
  have:a≠p:=λz=>by subst z;rw[e]at h;cases h
  rw[jad this];exact h,λa xs h=>by
  have:a≠p:=λz=>by subst z;rw[e]at h;cases h
  rw[jad this];exact h⟩
 refine lv (.loc p) (.ref p) (gup G' p (.dK (jcW kvs))) _ rfl ⟨λa ob z=>?_,hG'.tab.upd (λps z=>by rw[e]at z;cases z) λob z=>by rw[e]at z;cases z⟩ ⟨λa o ha ga nt=>?_⟩ (q.2.at p g)
 ·by_cases ea:a=p
  ·subst ea;rw[jas]at z;cases z;exact⟨_,jag,(RKs.merge r (kvs:=[]) (l:=[]) rfl).ts ts⟩
  ·rw[jbj ea]at z;exact(hG' a ob z).keep (jad ea) ts
 ·have ea:a≠p:=jah ha hp;obtain⟨x1,x2⟩:=f a o (by rw[jad ea];exact ha) ga nt
  exact⟨by rw[jad ea];exact x1,by rw[jbj ea];exact x2⟩
theorem jm4:lD X (λ_ G Q _=>Q [] G) []:=λσ H ς G Q E Q0 hς hG h lx q=>q [] [] G H rfl hG (Fr.refl _ _) h
theorem jk8 {tk tv:UE}{t:Sg->Gp->(List (Key×U)->Gp->Prop)->KX->Prop}{trs:List (TE×TE)}(hr:lD X t trs):lD X (λς G Q E=>tk ς G (λx G1=>tv ς G1 (λy G2=>match kU x with
   |some k=>t ς G2 (λkvs G3=>Q ((k,y)::kvs) G3) E
   |none=>False) E) E) ((lE X tk,lE X tv)::trs):=by
 intro σ H ς G Q E Q0 hς hG h lx q;refine⟨ς,G,_,E,hς,hG,h,λx v G1 H1 rx hG1 f1 h1=>?_,lx⟩;refine⟨ς,G1,_,E,hς.ts (f1.ts hG),hG1,h1,λy v' G2 H2 ry hG2 f2 h2=>?_,lx.fr f1⟩;dsimp only at h2;split at h2
 ·rename_i k ek;have:=jhu rx ek;subst this;refine hr σ H2 ς G2 _ E _ ((hς.ts (f1.ts hG)).ts (f2.ts hG1)) hG2 h2 (lx.fr (f1.trans f2)) λkvs l G3 H3 r hG3 f3 h3=>?_;exact q ((k,y)::kvs) ((k,v')::l) G3 H3 ⟨v',l,rfl,ry.ts (f3.ts hG2),r⟩ hG3 ((f1.trans f2).trans f3) h3
 ·exact h2.elim
end
end Z

namespace L2
open PySem
end L2
namespace Z
open PySem L2
structure LD (X:Cx)(H:Hp)(G:Gp)(De:En)(D:Ends):Prop where
 nx:∀ς' σ' G' H',SR X.K H' ς' σ'->HR X.K H' G'->Fr H G H' G'->De.nx ς' G'->D.nx σ' H'
 rt:∀w v G' H',RU X.K H' w v->HR X.K H' G'->Fr H G H' G'->De.rt w G'->D.rt v H'
 ex:∀(pins:List (Addr×Obj)) (e:Value) (s':Shared) (x:XV) ς' σ' G' H',Inv X pins σ' H' s'->SR X.K H' ς' σ'->XAt X H' s' e x->HR X.K H' G'->Fr H G H' G'->De.ex x ς' G'->X.xe e s'
abbrev US:=En->Sg->Gp->Prop
def lS (X:Cx)(t:US):L2.TS:=λD σ H=>∃De ς G,SR X.K H ς σ/\HR X.K H G/\t De ς G/\LD X H G De D
section
variable {X:Cx}{H H1:Hp}{G G1:Gp}{De:En}{D:Ends}{ς:Sg}{σ:St}
theorem LD.fr (h:LD X H G De D)(f:Fr H G H1 G1):LD X H1 G1 De D:=
 ⟨λς' σ' G' H' a b c=>h.nx ς' σ' G' H' a b (f.trans c),λw v G' H' a b c=>h.rt w v G' H' a b (f.trans c),λpins e s' x ς' σ' G' H' i a b c d=>h.ex pins e s' x ς' σ' G' H' i a b c (f.trans d)⟩
theorem LD.lx (h:LD X H G De D)(hς:SR X.K H ς σ)(hG:HR X.K H G):LX X σ H G λx G1=>De.ex x ς G1:=λpins e s' x G' H' I a hr f q=>h.ex pins e s' x ς σ G' H' I (hς.ts (f.ts hG)) a hr f q
theorem LD.here (h:LD X H G De D)(hς:SR X.K H ς σ)(hG:HR X.K H G)(q:De.nx ς G):D.nx σ H:=h.nx ς σ G H hς hG (Fr.refl _ _) q
theorem LD.with {k:Sg->Gp->Prop}{D':Ends}(h:LD X H G De D)(hn:∀ς' σ' G' H',SR X.K H' ς' σ'->HR X.K H' G'->Fr H G H' G'->k ς' G'->D'.nx σ' H')(hr:D'.rt=D.rt):LD X H G { De with nx:=k } D':=
 ⟨hn,λw v G' H' a b c d=>by rw[hr];exact h.rt w v G' H' a b c d,h.ex⟩
end
section
variable {X:Cx}{st:Stmt}{rest:List Stmt}{pos:Pos}{e:Expr}{te:UE}{t u:US}
theorem s_nil:PSs X [] (lS X λD ς G=>D.nx ς G):=jeS.imp λD σ H ⟨De,ς,G,hς,hG,h,ld⟩=>ld.here hς hG h
theorem s_cons (h1:PS X st (lS X t))(h2:PSs X rest (lS X u)):PSs X (st::rest) (lS X λD ς G=>t { D with nx:=λς' G'=>u D ς' G' } ς G):=by
 refine(jdC h1 h2).imp λD σ H ⟨De,ς,G,hς,hG,h,ld⟩=>?_;exact⟨_,ς,G,hς,hG,h,ld.with (λς' σ' G' H' a b c d=>⟨De,ς',G',a,b,d,ld.fr c⟩) rfl⟩
theorem s_expr (he:PE X e (lE X te))(hs:Ycl e none pos.line X.env=pure false):PS X (.Expr e pos) (lS X λD ς G=>te ς G (λ_ G1=>D.nx ς G1) λx G1=>D.ex x ς G1):=
 (jkx he hs).imp λD σ H ⟨De,ς,G,hς,hG,h,ld⟩=>⟨ς,G,_,_,hς,hG,h,λw v G' H' _ hr f q=>ld.nx ς σ G' H' (hς.ts (f.ts hG)) hr f q,ld.lx hς hG⟩
theorem s_ret (he:PE X e (lE X te)):PS X (.Return (some e) pos) (lS X λD ς G=>te ς G D.rt λx G1=>D.ex x ς G1):=
 (jmm he).imp λD σ H ⟨De,ς,G,hς,hG,h,ld⟩=>⟨ς,G,_,_,hς,hG,h,λw v G' H' r hr f q=>ld.rt w v G' H' r hr f q,ld.lx hς hG⟩
theorem s_if {c:Expr}{a b:List Stmt}{tc:UT}(hc:PT X c (lT X tc))(ha:PSs X a (lS X t))(hb:PSs X b (lS X u)):PS X (.If c a b pos) (lS X λD ς G=>tc ς G (λx G1=>if x=true then t D ς G1 else u D ς G1) λx G1=>D.ex x ς G1):=by
 refine(jmo hc ha hb).imp λD σ H ⟨De,ς,G,hς,hG,h,ld⟩=>⟨ς,G,_,_,hς,hG,h,λb G' H' hr f q=>?_,ld.lx hς hG⟩;cases b with
 |true=>rw[if_pos rfl]at q ⊢;exact⟨De,ς,G',hς.ts (f.ts hG),hr,q,ld.fr f⟩
 |false=>rw[if_neg Yaj]at q ⊢;exact⟨De,ς,G',hς.ts (f.ts hG),hr,q,ld.fr f⟩
theorem jlD {g:Tg}{D:Ends}{σ:St}{H:Hp}(h:lS X (λD ς G=>te ς G (λu G1=>tgU g u ς λς'=>D.nx ς' G1) λx G1=>D.ex x ς G1) D σ H) :
  lE X te σ H λx H1=>lG X.K (tgU g) x σ H1 D.nx:=by
 obtain⟨De,ς,G,hς,hG,h,ld⟩:=h;exact⟨ς,G,_,_,hς,hG,h,λw v G' H' r hr f q=>⟨w,ς,_,r,hς.ts (f.ts hG),q,λς' σ' hs hk=>ld.nx ς' σ' G' H' hs hr f hk⟩,ld.lx hς hG⟩
theorem s_unp {ts:Tgs}{es:List Expr}{k n:Nat}{p:Pos}(hc:X.calm=true)(he:PE X e (lE X te))(hg:PGs X es (lGs X.K (tgsU ts)))(hn:(YaY es X.env).length=n)(hst:(YaY es X.env).findIdx? (·.1)=none)(hl:∀us ς k,tgsU ts us ς k->us.length=n)
  (hs:YbE [.Tuple es k p] e pos.line X.env=pure false) (hw:Ybv [.Tuple es k p] e X.env=pure none) (h1:(YaY [.Tuple es k p] X.env).map (·.2)=[assign (.Tuple es k p) X.env]) :
  PS X (.Assign [.Tuple es k p] e pos) (lS X λD ς G=>te ς G (λu G1=>unpU ts u G1 ς λς'=>D.nx ς' G1) λx G1=>D.ex x ς G1):=by
 refine(jfD he (jmu hc hg hn hst) hs hw h1).imp λD σ H h=>?_;obtain⟨De,ς,G,hς,hG,h,ld⟩:=h;refine⟨ς,G,_,_,hς,hG,h,λw v G' H' r hr f q=>?_,ld.lx hς hG⟩;cases w with
 |loc a=>
  cases r;unfold unpU at q;dsimp only at q;split at q
  ·rename_i us eu;obtain⟨vs,sq,rs⟩:=hr.ls eu;exact⟨a,vs,rfl,sq,by rw[<- rs.length];exact hl _ _ _ q,us,ς,_,rs,hς.ts (f.ts hG),q,λς' σ' hs hk=>ld.nx ς' σ' G' H' hs hr f hk⟩
  ·exact q.elim
 |_=>exact q.elim
theorem s_asg {tg:Expr}{g:Tg}(he:PE X e (lE X te))(hg:PG X tg (lG X.K (tgU g)))(hs:YbE [tg] e pos.line X.env=pure false)(hw:Ybv [tg] e X.env=pure none)
  (h1:(YaY [tg] X.env).map (·.2)=[assign tg X.env]):PS X (.Assign [tg] e pos) (lS X λD ς G=>te ς G (λu G1=>tgU g u ς λς'=>D.nx ς' G1) λx G1=>D.ex x ς G1):=
 (jfD he hg hs hw h1).imp λ_ _ _ h=>jlD h
theorem s_lc {i:Nat}{y:Str}{py spos:Pos}{tg iter elt:Expr}{ifs:List Expr}{pick:List (Option Nat)}{N:List Str}{scope:Scope}{ti:UI}{g:Tg}{tc:Sg->Gp->(Bool->Gp->Prop)->Prop}
  (hN:X.N.Nodup) (hi':X.N[i]?=some y) (hy:X.env.scope.names.lookup y=some .local) (hc:X.calm=true) (S:CScope X N pick scope) (hw:PI X tg iter (lI X ti)) (hp:(tgS g).all (λi=>(pick[i]?).join.isNone)=true)
  (hg:∀cl C s₀ H₀ fp,PG (jal X N scope cl C s₀ H₀ fp) tg (lG X.K (tgU g))) (hi:∀cl C s₀ H₀ fp,PIfs (jal X N scope cl C s₀ H₀ fp) ifs (lT0 X.K tc)) (he:∀cl C s₀ H₀ fp,PE (jal X N scope cl C s₀ H₀ fp) elt (lE0 X.K te))
  (hsw:Ycl (.ListComp elt [⟨tg,iter,ifs,0⟩] scope pos) (some (.Name y py)) spos.line X.env=pure true) (hs:∀x,Ya2 iter X.env x=pure x) :
  PS X (.Assign [.Name y py] (.ListComp elt [⟨tg,iter,ifs,0⟩] scope pos) spos) (lS X λD ς G=>lcD pick ti g tc te ς G (λu G1=>tgU (.n i) u ς λς'=>D.nx ς' G1) λx G1=>D.ex x ς G1):=by
 refine(joR hN hi' hy hc S hw hg hi he hsw hs).imp λD σ H h=>?_;obtain⟨De,ς,G,hς,hG,h,ld⟩:=h;exact jjC hp ⟨ς,G,_,_,hς,hG,h,λw v G' H' r hr f q=>ld.nx _ _ G' H' ((hς.ts (f.ts hG)).set r i) hr f q,ld.lx hς hG⟩
def jmj:TSet:=λo i v H Q=>∃a H',o=.ref a/\DPut H a i v H'/\Q H'
theorem jiu (hu:X.A.units+1<cLine):PSet X jmj:=by
 intro pins s σ H o i v ov iv u Q I ro ri rv h;obtain⟨a,H',rfl,g,q⟩:=h;cases ro;exact jhS hu I g ri rv λs' I'=>⟨H',I',q⟩
theorem _root_.L2.PSet.or {t t':TSet}(h:PSet X t)(h':PSet X t'):PSet X λo i v H Q=>t o i v H Q\/t' o i v H Q:=by
 intro pins s σ H o i v ov iv u Q I ro ri rv q;rcases q with q|q
 ·exact h pins s σ H o i v ov iv u Q I ro ri rv q
 ·exact h' pins s σ H o i v ov iv u Q I ro ri rv q
theorem jko {H:Hp}{G:Gp}{x y w:U}{v v' v'':V}{k:Gp->Prop}{Q0:Hp->Prop}(rx:RU X.K H x v)(ry:RU X.K H y v')(rw':RU X.K H w v'')(hG:HR X.K H G)(h:setU x y w G k)
  (q:∀G' H',HR X.K H' G'->Fr H G H' G'->k G'->Q0 H'):jmi v v' v'' H Q0\/jmj v v' v'' H Q0:=by
 cases x with
 |loc a=>
  cases rx;unfold setU at h;dsimp only at h;split at h
  ·rename_i xs g;obtain⟨vs,e,rs⟩:=hG.lst g;cases y with
   |int i=>
    cases ry;dsimp only at h;split at h
    ·rename_i j ej;refine .inl ⟨a,vs,i,j,rfl,rfl,e,by rw[<- rs.length];exact ej,?_⟩
     exact q _ _ (hG.write (mo':=.lst (xs.set j w)) g ⟨_,jag,(rs.set rw' j).ts (TS.write hG g)⟩) (Fr.write g) h.at
    ·exact h.elim
   |_=>exact h.elim
  ·rename_i kvs g;obtain⟨l,e,rs⟩:=hG a _ g;split at h
   ·rename_i k' ek;have:=jhu ry ek;subst this;refine .inr ⟨a,_,rfl,DPut.k e (by rw[<- rs.length];exact h.1),?_⟩
    exact q _ _ (hG.write (mo':=.dK (dPut kvs k' w)) g ⟨_,jag,(rs.put rw').ts (TS.write hG g)⟩) (Fr.write g) h.2.at
   ·exact h.elim
  ·rename_i kvs g;obtain⟨l,e,rs⟩:=hG a _ g;cases y with
   |tup ys=>
    obtain⟨b,ws,rfl,eb,rb⟩:=ry;dsimp only at h;split at h
    ·rename_i k' ek;have:=jfN rb ek;subst this;refine .inr ⟨a,_,rfl,DPut.t e eb (by rw[<- rs.length];exact h.1),?_⟩
     exact q _ _ (hG.write (mo':=.dT (dPut kvs k' w)) g ⟨_,jag,(rs.put rw').ts (TS.write hG g)⟩) (Fr.write g) h.2.at
    ·exact h.elim
   |_=>exact h.elim
  ·exact h.elim
 |_=>exact h.elim
theorem s_set {o i:Expr}{to ti:UE}{tpos:Pos}(hu:X.A.units+1<cLine)(he:PE X e (lE X te))(ho:PE X o (lE X to))(hi:PE X i (lE X ti))(hs:YbE [.Subscript o i tpos] e pos.line X.env=pure false)(hw:Ybv [.Subscript o i tpos] e X.env=pure none)
  (h1:(YaY [.Subscript o i tpos] X.env).map (·.2)=[assign (.Subscript o i tpos) X.env]) (ha:∀v,assign (.Subscript o i tpos) X.env v=(do
   let ov <- holding [v] (eval o X.env)
   let iv <- holding [v,ov] (eval i X.env)
   standAt tpos
   holding [v,ov,iv] (setItem ov iv v)
   release [v,ov,iv] [])):PS X (.Assign [.Subscript o i tpos] e pos) (lS X λD ς G=>te ς G (λv G1=>to ς G1 (λx G2=>ti ς G2 (λy G3=>setU x y v G3 λG4=>D.nx ς G4) λx G1=>D.ex x ς G1) λx G1=>D.ex x ς G1) λx G1=>D.ex x ς G1):=by
 refine(jfD he (jmt ho hi (PSet.or jit (jiu hu)) ha) hs hw h1).imp λD σ H ⟨De,ς,G,hς,hG,h,ld⟩=>?_;refine⟨ς,G,_,_,hς,hG,h,λw v G1 H1 rw' hG1 f1 h1=>?_,ld.lx hς hG⟩;have hς1:=hς.ts (f1.ts hG);refine⟨ς,G1,_,_,hς1,hG1,h1,λx vx G2 H2 rx hG2 f2 h2=>?_,(ld.fr f1).lx hς1 hG1⟩;have hς2:=hς1.ts (f2.ts hG1);refine⟨ς,G2,_,_,hς2,hG2,h2,λy vy G3 H3 ry hG3 f3 h3=>?_,(ld.fr (f1.trans f2)).lx hς2 hG2⟩;have hς3:=hς2.ts (f3.ts hG2);exact jko (rx.ts (f3.ts hG2)) ry ((rw'.ts (f2.ts hG1)).ts (f3.ts hG2)) hG3 h3 λG' H' hr f q=>ld.nx ς σ G' H' (hς3.ts (f.ts hG3)) hr (((f1.trans f2).trans f3).trans f) q
theorem _root_.L2.PGet.or {t t':V->V->Hp->VK->Prop}(h:PGet X t)(h':PGet X t'):PGet X λo i H Q=>t o i H Q\/t' o i H Q:=by
 intro pins s σ H o i ov iv Q I ro ri q;rcases q with q|q
 ·exact h pins s σ H o i ov iv Q I ro ri q
 ·exact h' pins s σ H o i ov iv Q I ro ri q
theorem s_for {tg iter:Expr}{body:List Stmt}{ti:UI}{g:Tg}{tb:US}(hp:Yeu (model X.prog X.w) X.A X.env X.xe)(hc:X.calm=true)(hi:PI X tg iter (lI X ti))(hg:PG X tg (lG X.K (tgU g)))(hb:PSs X body (lS X tb))
  (hs:∀x,Ya2 iter X.env x=pure x):PS X (.For tg iter body [] pos) (lS X λD ς G=>ti ς G (λxs ok G1=>forL ok (λx ς1 G2 k=>tgU g x ς1 λς2=>tb { D with nx:=k } ς2 G2) xs ς G1 D.nx) λx G1=>D.ex x ς G1):=by
 refine(jmp hp hc hi hg hb hs).imp λD σ H ⟨De,ς,G,hς,hG,h,ld⟩=>?_;refine⟨ς,G,_,_,hς,hG,h,λxs ok G1 H1 J hG1 f1 wk h1=>?_,ld.lx hς hG⟩;refine⟨λi m σ' H'=>m=xs.length-i/\i<=xs.length/\∃ς' G',SR X.K H' ς' σ'/\HR X.K H' G'/\Fr H1 G1 H' G'/\forL ok (λx ς1 G2 k=>tgU g x ς1 λς2=>tb { De with nx:=k } ς2 G2) (xs.drop i) ς' G' De.nx,⟨xs.length,by simp,Ybw _,ς,G1,hς.ts (f1.ts hG),hG1,Fr.refl _ _,by simpa using h1⟩,?_⟩
 rintro i m σ' H' ⟨rfl,hi',ς',G',sr,hr,f,hc'⟩;by_cases hlt:i<xs.length
 ·rw[Ybi hlt]at hc';obtain⟨hok,hb'⟩:=hc';obtain⟨w1,_⟩:=wk i H' G' (f.ts hG1) hr hok;obtain⟨go,yl⟩:=w1 xs[i] (by simp[hlt])
  refine .inr ⟨go,λσ2 H2=>∃ς2 G2,SR X.K H2 ς2 σ2/\HR X.K H2 G2/\Fr H1 G1 H2 G2/\forL ok (λx ς1 G2 k=>tgU g x ς1 λς2=>tb { De with nx:=k } ς2 G2) (xs.drop (i+1)) ς2 G2 De.nx,λσ2 H2 q=>⟨xs.length-(i+1),by omega,rfl,hlt,q⟩,λv H'' y=>?_⟩
  obtain⟨rx,hr2,f2⟩:=yl v H'' y;refine⟨xs[i],ς',_,rx,sr.ts (f2.ts hr),hb',λς2 σ2 hs2 hk=>?_⟩;have f3:=(f1.trans f).trans f2;refine⟨_,ς2,G',hs2,hr2,hk,(ld.fr f3).with (λς3 σ3 G3 H3 a b c d=>⟨ς3,G3,a,b,(f.trans f2).trans c,d⟩) rfl⟩
 ·have e:i=xs.length:=by omega
  subst e;rw[Ygr]at hc';obtain⟨hok,q⟩:=hc';exact .inl ⟨(wk xs.length H' G' (f.ts hG1) hr hok).2 rfl,ld.nx ς' σ' G' H' sr hr (f1.trans f) q⟩
end
structure Ctx where
 N:List Str
 sc:List (Str×Ybh)
noncomputable def kd (c:Ctx)(x:Str)(k:Ybh):Bool:=c.sc.lookup x==some k
noncomputable def glo (c:Ctx)(x:Str):Bool:=kd c x .globalImplicit && !(x==("__debug__" : Str))
noncomputable def nm1:Expr->List Str
 |.Name x _=>[x]
 |_=>[]
noncomputable def nm2:Expr->List Str
 |.Tuple es _ _=>es.flatMap nm1
 |e=>nm1 e
noncomputable def jeM:Expr->List Str
 |.Tuple es _ _=>es.flatMap nm2
 |e=>nm1 e
noncomputable def jgH:List String:=["bool", "int", "str", "list", "tuple", "dict"]
noncomputable def cOkS (c:Ctx)(N:List Str)(pick:List (Option Nat))(scope:Scope):Bool:=
 decide (scope.kind=.function)&&scope.names.all (λy=>y.2 != .cell||scope.names.lookup y.1==some .cell)&&scope.names.all (λy=>y.2 != .local||scope.names.lookup y.1==some .local)
  && scope.names.all (λy=>y.2 != .free||(scope.names.lookup y.1==some .free&&(kd c y.1 .cell||kd c y.1 .free)))
  && pick.length==N.length&&(N.zip pick).all (λp=>match p.2 with|none=>true|some j=>c.N[j]?==some p.1&&scope.names.lookup p.1==some .free)&&decide N.Nodup
noncomputable def jjx:Expr->Bool
 |.Call (.Name _ _) [] [] _=>false
 |_=>true
noncomputable def e0:Expr:=.Name "" ⟨0,0,0,0⟩
noncomputable def hd:List Expr->Expr
 |[]=>e0
 |e::_=>e
noncomputable def c0:Expr->Expr
 |.BinOp l _ _ _=>l
 |.UnaryOp _ x _=>x
 |.IfExp t _ _ _=>t
 |.Compare l _ _ _=>l
 |.Subscript v _ _=>v
 |.Attribute v _ _=>v
 |.Call f _ _ _=>f
 |.ListComp e _ _ _=>e
 |.FormattedValue v _ _ _=>v
 |_=>e0
noncomputable def c1:Expr->Expr
 |.BinOp _ _ r _=>r
 |.IfExp _ b _ _=>b
 |.Subscript _ s _=>s
 |_=>e0
noncomputable def c2:Expr->Expr
 |.IfExp _ _ b _=>b
 |_=>e0
noncomputable def cl:Expr->List Expr
 |.BoolOp _ vs _=>vs
 |.Compare _ _ vs _=>vs
 |.Call _ vs _ _=>vs
 |.List vs _=>vs
 |.Tuple vs _ _=>vs
 |.Dict _ vs _=>vs
 |.JoinedStr vs _=>vs
 |_=>[]
noncomputable def kw0:Expr->Keyword
 |.Call _ _ (k::_) _=>k
 |_=>⟨none,e0,⟨0,0,0,0⟩⟩
noncomputable def kk:Expr->Nat
 |.Constant _ k _=>k
 |.Tuple _ k _=>k
 |_=>0
noncomputable def oe:Option Expr->Expr
 |some e=>e
 |none=>e0
noncomputable def dk:Expr->List Expr
 |.Dict ks _ _=>ks.map oe
 |_=>[]
noncomputable def gen1:Expr->YbP
 |.ListComp _ (g::_) _ _=>g
 |_=>⟨e0,e0,[],0⟩
noncomputable def gen2:Expr->YbP
 |.ListComp _ (_::g::_) _ _=>g
 |_=>⟨e0,e0,[],0⟩
noncomputable def scp:Expr->Scope
 |.ListComp _ _ s _=>s
 |_=>⟨.module,[],false,false,[]⟩
noncomputable def s0:Expr->Expr
 |.Slice (some e) _ _ _=>e
 |_=>e0
noncomputable def s1:Expr->Expr
 |.Slice _ (some e) _ _=>e
 |_=>e0
noncomputable def s2:Expr->Expr
 |.Slice _ _ (some e) _=>e
 |_=>e0
noncomputable def nmA (c:Ctx)(i:Nat):Str:=c.N.getD i ""
noncomputable def boU:Bool->PySem.BoolOp
 |true=>.And
 |false=>.Or
noncomputable def lh1 (h:Expr):Expr:=hd (cl h).tail
noncomputable def lh2 (h:Expr):Expr:=hd (cl h).tail.tail
noncomputable def jb3:Es->Nat
 |.nil=>0
 |.cons _ es=>jb3 es+1
noncomputable def jdX:Tgs->Nat
 |.nil=>0
 |.cons _ ts=>jdX ts+1
noncomputable def isLc:E->Bool
 |.lc ..=>true
 |.lc2 ..=>true
 |_=>false
noncomputable def cc (c:Ctx)(pick:List (Option Nat))(h:Expr):Ctx:=⟨jeM (gen1 h).target++(pick.filterMap id).filterMap (λj=>c.N[j]?),(scp h).names⟩
noncomputable def cc2 (c:Ctx)(pick:List (Option Nat))(h:Expr):Ctx:=⟨jeM (gen1 h).target++jeM (gen2 h).target++(pick.filterMap id).filterMap (λj=>c.N[j]?),(scp h).names⟩
mutual
noncomputable def unTg (c:Ctx):Tg->Expr->Expr
 |.n i,h=>.Name (nmA c i) h.pos
 |.t ts,h=>.Tuple (jdv c ts (cl h)) (kk h) h.pos
noncomputable def jdv (c:Ctx):Tgs->List Expr->List Expr
 |.nil,_=>[]
 |.cons t ts,hs=>unTg c t (hd hs)::jdv c ts hs.tail
end
noncomputable def okN (c:Ctx)(i:Nat):Bool:=decide (i<c.N.length)&&(kd c (nmA c i) .local||kd c (nmA c i) .cell)
mutual
noncomputable def okTg (c:Ctx):Tg->Bool
 |.n i=>okN c i
 |.t ts=>jiP c ts
noncomputable def jiP (c:Ctx):Tgs->Bool
 |.nil=>true
 |.cons t ts=>okTg c t&&jiP c ts
end
section
variable (T:Tab)
noncomputable def fnN (n:Nat):Str:=match T.funs[n]? with
 |some d=>d.name
 |none => ""
mutual
noncomputable def unE (c:Ctx):E->Expr->Expr
 |.v i,h=>.Name (nmA c i) h.pos
 |.non,h=>.Constant .none (kk h) h.pos
 |.bl b,h=>.Constant (.bool b) (kk h) h.pos
 |.int i,h=>.Constant (.int i) (kk h) h.pos
 |.str x,h=>.Constant (.str x) (kk h) h.pos
 |.g n,h=>.Name (T.gn.getD n "") h.pos
 |.ty n,h=>.Name (Ycj n) h.pos
 |.bin o a b,h=>.BinOp (unE c a (c0 h)) o (unE c b (c1 h)) h.pos
 |.neg a,h=>.UnaryOp .USub (unE c a (c0 h)) h.pos
 |.not a,h=>.UnaryOp .Not (unE c a (c0 h)) h.pos
 |.bop k a es,h=>.BoolOp (boU k) (unE c a (hd (cl h))::unEs c es (cl h).tail) h.pos
 |.cmp o a b,h=>.Compare (unE c a (c0 h)) [o] [unE c b (hd (cl h))] h.pos
 |.cmp2 o p a b d,h=>.Compare (unE c a (c0 h)) [o,p] [unE c b (hd (cl h)),unE c d (hd (cl h).tail)] h.pos
 |.ife t a b,h=>.IfExp (unE c t (c0 h)) (unE c a (c1 h)) (unE c b (c2 h)) h.pos
 |.tup es,h=>.Tuple (unEs c es (cl h)) (kk h) h.pos
 |.lst es,h=>.List (unEs c es (cl h)) h.pos
 |.dic es,h=>.Dict (unK c es (dk h)) (unV c es (cl h)) h.pos
 |.dicT,h=>.Dict [] [] h.pos
 |.ix a b,h=>.Subscript (unE c a (c0 h)) (unE c b (c1 h)) h.pos
 |.sl a lo hi,h=>.Subscript (unE c a (c0 h)) (.Slice (unO c lo (s0 (c1 h))) (unO c hi (s1 (c1 h))) none (c1 h).pos) h.pos
 |.rev a b,h=>.Subscript (unE c a (c0 h)) (.Slice none none (some (unE c b (s2 (c1 h)))) (c1 h).pos) h.pos
 |.call n es,h=>.Call (.Name (fnN T n) (c0 h).pos) (unEs c es (cl h)) [] h.pos
 |.app i es,h=>.Call (.Name (nmA c i) (c0 h).pos) (unEs c es (cl h)) [] h.pos
 |.blt b es,h=>.Call (.Name (bltN b) (c0 h).pos) (unEs c es (cl h)) [] h.pos
 |.meth m o es,h=>.Call (.Attribute (unE c o (c0 (c0 h))) (mthN m) (c0 h).pos) (unEs c es (cl h)) [] h.pos
 |.lc pick t it ifs d,h=>.ListComp (unE (cc c pick h) d (c0 h)) [⟨unTg (cc c pick h) t (gen1 h).target,unI c it (gen1 h).iter,unEs (cc c pick h) ifs (gen1 h).ifs,0⟩] (scp h) h.pos
 |.lc2 pick t it ifs t2 it2 ifs2 d,h=>.ListComp (unE (cc2 c pick h) d (c0 h)) [⟨unTg (cc2 c pick h) t (gen1 h).target,unI c it (gen1 h).iter,unEs (cc2 c pick h) ifs (gen1 h).ifs,0⟩,⟨unTg (cc2 c pick h) t2 (gen2 h).target,unI (cc2 c pick h) it2 (gen2 h).iter,unEs (cc2 c pick h) ifs2 (gen2 h).ifs,0⟩] (scp h) h.pos
 |.fst es,h=>.JoinedStr (unF c es (cl h)) h.pos
 |.lrp d i y a b es,h=>.List (unE c d (hd (cl h))::.BinOp (.Constant (.str y) (kk (c0 (lh1 h))) (c0 (lh1 h)).pos) .Add (.Name (nmA c i) (c1 (lh1 h)).pos) (lh1 h).pos::
   .Call (.Attribute (.Name (nmA c i) (c0 (c0 (lh2 h))).pos) "replace" (c0 (lh2 h)).pos) [.Constant (.str a) (kk (hd (cl (lh2 h)))) (hd (cl (lh2 h))).pos,.Constant (.str b) (kk (lh1 (lh2 h))) (lh1 (lh2 h)).pos,.Constant (.int 1) (kk (lh2 (lh2 h))) (lh2 (lh2 h)).pos] [] (lh2 h).pos::unEs c es (cl h).tail.tail.tail) h.pos
 |.sset d,h=>.Call (.Name "sorted" (c0 h).pos) [.Call (.Name "set" (c0 (hd (cl h))).pos) [unE c d (hd (cl (hd (cl h))))] [] (hd (cl h)).pos] [] h.pos
 |.mkD d,h=>.Call (.Name "list" (c0 h).pos) [unE c d (hd (cl h))] [] h.pos
 |.maxD d,h=>.Call (.Name "max" (c0 h).pos) [unE c d (hd (cl h))] [⟨some "default",.Constant (.int 0) (kk (kw0 h).value) (kw0 h).value.pos,(kw0 h).pos⟩] h.pos
 |.minD d,h=>.Call (.Name "min" (c0 h).pos) [unE c d (hd (cl h))] [⟨some "default",.Constant .none (kk (kw0 h).value) (kw0 h).value.pos,(kw0 h).pos⟩] h.pos
 |.mkL d,h=>.Call (.Name "list" (c0 h).pos) [unE c d (hd (cl h))] [] h.pos
 |.mkT d,h=>.Call (.Name "tuple" (c0 h).pos) [unE c d (hd (cl h))] [] h.pos
 |.rngL d,h=>.Call (.Name "list" (c0 h).pos) [.Call (.Name "range" (c0 (hd (cl h))).pos) [unE c d (hd (cl (hd (cl h))))] [] (hd (cl h)).pos] [] h.pos
 |.rngT d,h=>.Call (.Name "tuple" (c0 h).pos) [.Call (.Name "range" (c0 (hd (cl h))).pos) [unE c d (hd (cl (hd (cl h))))] [] (hd (cl h)).pos] [] h.pos
 |.rngL2 _ _,_=>e0
noncomputable def unO (c:Ctx):Eo->Expr->Option Expr
 |.no,_=>none
 |.so d,h=>some (unE c d h)
noncomputable def unEs (c:Ctx):Es->List Expr->List Expr
 |.nil,_=>[]
 |.cons d es,hs=>unE c d (hd hs)::unEs c es hs.tail
noncomputable def unK (c:Ctx):Es->List Expr->List (Option Expr)
 |.cons d (.cons _ es),hs=>some (unE c d (hd hs))::unK c es hs.tail
 |_,_=>[]
noncomputable def unV (c:Ctx):Es->List Expr->List Expr
 |.cons _ (.cons d es),hs=>unE c d (hd hs)::unV c es hs.tail
 |_,_=>[]
noncomputable def unF (c:Ctx):Es->List Expr->List Expr
 |.nil,_=>[]
 |.cons d es,hs=>(match d with
  |.str x=>.Constant (.str x) (kk (hd hs)) (hd hs).pos
  |d=>.FormattedValue (unE c d (c0 (hd hs))) (-1) none (hd hs).pos)::unF c es hs.tail
noncomputable def unI (c:Ctx):It->Expr->Expr
 |.e d,h=>unE c d h
 |.r1 d,h=>.Call (.Name "range" (c0 h).pos) [unE c d (hd (cl h))] [] h.pos
 |.r2 a b,h=>.Call (.Name "range" (c0 h).pos) [unE c a (hd (cl h)),unE c b (hd (cl h).tail)] [] h.pos
 |.enum d,h=>.Call (.Name "enumerate" (c0 h).pos) [unE c d (hd (cl h))] [] h.pos
 |.dk d,h=>unE c d h
 |.s d,h=>unE c d h
end
mutual
noncomputable def okE (c:Ctx):E->Expr->Bool
 |.v i,_=>decide (i<c.N.length)&&(kd c (nmA c i) .local||kd c (nmA c i) .cell||kd c (nmA c i) .free) && !(nmA c i==("__debug__" : Str)) && !(nmA c i==("__classdict__" : Str))
 |.non,_=>true
 |.bl _,_=>true
 |.int _,_=>true
 |.str _,_=>true
 |.g n,_=>decide (n<T.gs.length)&&decide (n<T.gn.length)&&glo c (T.gn.getD n "")
 |.ty n,_=>jgH.contains n&&glo c (Ycj n)
 |.bin _ a b,h=>okE c a (c0 h)&&okE c b (c1 h)
 |.neg a,h=>okE c a (c0 h)
 |.not a,h=>okE c a (c0 h)
 |.bop _ a es,h=>okE c a (hd (cl h))&&okEs c es (cl h).tail
 |.cmp o a b,h=>okE c a (c0 h)&&okE c b (hd (cl h)) && !behindInMarks o (unE T c b (hd (cl h)))
 |.cmp2 o p a b d,h=>okE c a (c0 h)&&okE c b (hd (cl h))&&okE c d (hd (cl h).tail) && !lastMarks [o,p] [unE T c b (hd (cl h)),unE T c d (hd (cl h).tail)]
 |.ife t a b,h=>okE c t (c0 h)&&okE c a (c1 h)&&okE c b (c2 h)
 |.tup es,h=>okEs c es (cl h)
 |.lst es,h=>okEs c es (cl h)
 |.dic es,h=>okD c es (dk h) (cl h)&&decide (jb3 es<=30)
 |.dicT,_=>false
 |.ix a b,h=>okE c a (c0 h)&&okE c b (c1 h)
 |.sl a lo hi,h=>okE c a (c0 h)&&okO c lo (s0 (c1 h))&&okO c hi (s1 (c1 h))
 |.rev a b,h=>okE c a (c0 h)&&okE c b (s2 (c1 h))
 |.call n es,h=>decide (n<T.funs.length)&&glo c (fnN T n)&&okEs c es (cl h)
 |.app i es,h=>decide (i<c.N.length)&&(kd c (nmA c i) .local||kd c (nmA c i) .cell||kd c (nmA c i) .free) && !(nmA c i==("__debug__" : Str)) && !(nmA c i==("__classdict__" : Str))&&okEs c es (cl h)
 |.blt b es,h=>decide (0<jb3 es)&&glo c (bltN b)&&okEs c es (cl h)
 |.meth _ o es,h=>okE c o (c0 (c0 h))&&okEs c es (cl h)&&((c0 h).pos.endLine==h.pos.line)&&decide (jb3 es<30)&&jjx (unE T c o (c0 (c0 h)))
 |.lc pick t it ifs d,h=>cOkS c (cc c pick h).N pick (scp h)&&(tgS t).all (λi=>(pick[i]?).join.isNone)&&okTg (cc c pick h) t&&okI c t it (gen1 h).iter&&okEs (cc c pick h) ifs (gen1 h).ifs&&decide (jb3 ifs<=1)&&okE (cc c pick h) d (c0 h)
 |.lc2 _ _ _ _ _ _ _ _,_=>false
 |.fst _,_=>false
 |.lrp d i y a b es,h=>okE c d (hd (cl h))&&okEs c es (cl h).tail.tail.tail&&(decide (i<c.N.length)&&(kd c (nmA c i) .local||kd c (nmA c i) .cell||kd c (nmA c i) .free) && !(nmA c i==("__debug__" : Str)) && !(nmA c i==("__classdict__" : Str))) &&
   !(y.length==0) && !(a==b) && !(a.length==0&&b.length==0)&&((c0 (lh2 h)).pos.endLine==(lh2 h).pos.line)
 |.sset _,_=>false
 |.mkD _,_=>false
 |.maxD _,_=>false
 |.minD _,_=>false
 |.mkL d,h=>glo c "list" && okE c d (hd (cl h))
 |.mkT d,h=>glo c "tuple" && okE c d (hd (cl h))
 |.rngL _,_=>false
 |.rngT _,_=>false
 |.rngL2 _ _,_=>false
noncomputable def okO (c:Ctx):Eo->Expr->Bool
 |.no,_=>true
 |.so d,h=>okE c d h
noncomputable def okEs (c:Ctx):Es->List Expr->Bool
 |.nil,_=>true
 |.cons d es,hs=>okE c d (hd hs)&&okEs c es hs.tail
noncomputable def okD (c:Ctx):Es->List Expr->List Expr->Bool
 |.nil,_,_=>true
 |.cons d (.cons f es),hs,gs=>okE c d (hd hs)&&okE c f (hd gs)&&okD c es hs.tail gs.tail
 |.cons _ .nil,_,_=>false
noncomputable def okF (c:Ctx):Es->List Expr->Bool
 |.nil,_=>true
 |.cons d es,hs=>(match d with
  |.str x=>decide (x.length<=10000)
  |d=>okE c d (c0 (hd hs)))&&okF c es hs.tail
noncomputable def okI (c:Ctx)(t:Tg):It->Expr->Bool
 |.e d,h=>okE c d h
 |.r1 d,h=>glo c "range" && okE c d (hd (cl h))
 |.r2 a b,h=>glo c "range" && okE c a (hd (cl h))&&okE c b (hd (cl h).tail)
 |.enum _,_=>false
 |.dk _,_=>false
 |.s d,h=>okE c d h
end
noncomputable def jjm (ts:List Expr):Nat:=(ts.head?.map (·.pos.line)).getD 0
noncomputable def jaJ (c:Ctx)(ts:List Expr):List Str:=ts.filterMap fun
  |.Name id pos=>if c.sc.lookup id==some .local&&pos.line==jjm ts then some id else none
  |_=>none
noncomputable def jhA:Expr->Bool
 |.Starred ..=>true
 |_=>false
noncomputable def jbX (c:Ctx)(ts vs:List Expr):Bool:=
 !(ts.length==2||ts.length==3)||vs.length != ts.length||(!(vs.any jhA)&&((jaJ c ts).length != ts.length||(jaJ c ts).eraseDups.length != (jaJ c ts).length||vs.all (foldedForSure 8)))
noncomputable def lcSw (c:Ctx)(y:Str)(py p:Pos)(s:Scope):Bool:=c.sc.lookup y==some .local&&py.line==p.line && !(s.names.any λ(n,k)=>n==y&&(k == .local||k == .cell))
noncomputable def q0:Stmt->Expr
 |.Expr e _=>e
 |.Assign _ e _=>e
 |.Return (some e) _=>e
 |.AugAssign _ _ e _=>e
 |.If e _ _ _=>e
 |.While e _ _ _=>e
 |.For _ e _ _ _=>e
 |_=>e0
noncomputable def q1:Stmt->Expr
 |.Assign (t::_) _ _=>t
 |.AugAssign t _ _ _=>t
 |.For t _ _ _ _=>t
 |_=>e0
noncomputable def qr:Stmt->Expr
 |.Raise (some e) _ _=>e
 |_=>e0
noncomputable def hTy:Stmt->Expr
 |.Try _ (.ExceptHandler (some t) _ _ _::_) _ _ _=>t
 |_=>e0
noncomputable def hBd:Stmt->List Stmt
 |.Try _ (.ExceptHandler _ _ b _::_) _ _ _=>b
 |_=>[]
noncomputable def hPs:Stmt->Pos
 |.Try _ (.ExceptHandler _ _ _ p::_) _ _ _=>p
 |_=>⟨0,0,0,0⟩
noncomputable def qa:Stmt->List Stmt
 |.Try a _ _ _ _=>a
 |.If _ a _ _=>a
 |.While _ a _ _=>a
 |.For _ _ a _ _=>a
 |_=>[]
noncomputable def qb:Stmt->List Stmt
 |.If _ _ b _=>b
 |_=>[]
noncomputable def qh:List Stmt->Stmt
 |[]=>.Pass ⟨0,0,0,0⟩
 |s::_=>s
noncomputable def unNs (c:Ctx):List Nat->List Expr->List Expr
 |[],_=>[]
 |i::is,hs=>.Name (nmA c i) (hd hs).pos::unNs c is hs.tail
noncomputable def unCs:List Nat->List Expr->List Expr
 |[],_=>[]
 |k::ks,hs=>.Name (clsN k) (hd hs).pos::unCs ks hs.tail
section
variable (c:Ctx)(n:Nat)
noncomputable def unHL:HL->Expr->Expr
 |.v i,h=>.Name (nmA c i) h.pos
 |.isiV,h=>.Call (.Name "isinstance" (c0 h).pos) [.Name (nmA c n) (hd (cl h)).pos,.Name "ValueError" (hd (cl h).tail).pos] [] h.pos
 |.is1 k,h=>.Call (.Name "isinstance" (c0 h).pos) [.Name (nmA c n) (hd (cl h)).pos,.Name (clsN k) (hd (cl h).tail).pos] [] h.pos
 |.isi ks,h=>.Call (.Name "isinstance" (c0 h).pos) [.Name (nmA c n) (hd (cl h)).pos,.Tuple (unCs ks (cl (hd (cl h).tail))) (kk (hd (cl h).tail)) (hd (cl h).tail).pos] [] h.pos
noncomputable def jeJ:Bool×HL->Expr->Expr
 |(true,l),h=>.UnaryOp .Not (unHL c n l (c0 h)) h.pos
 |(false,l),h=>unHL c n l h
noncomputable def jfr:List (Bool×HL)->List Expr->List Expr
 |[],_=>[]
 |a::r,hs=>jeJ c n a (hd hs)::jfr r hs.tail
noncomputable def jfs (k:Bool)(a:Bool×HL):List (Bool×HL)->Expr->Expr
 |[],h=>jeJ c n a h
 |b::r,h=>.BoolOp (boU k) (jeJ c n a (hd (cl h))::jfr c n (b::r) (cl h).tail) h.pos
noncomputable def unHA:HA->Expr->Expr
 |.str x,h=>.Constant (.str x) (kk h) h.pos
 |.att f,h=>.Attribute (.Name (nmA c n) (c0 h).pos) f h.pos
noncomputable def jil:List HA->List Expr->List Expr
 |[],_=>[]
 |a::r,hs=>unHA c n a (hd hs)::jil r hs.tail
noncomputable def unHV:HV->Expr->Expr
 |.cond k a as,h=>jfs c n k a as h
 |.one a,h=>unHA c n a h
 |.bl b,h=>.Constant (.bool b) (kk h) h.pos
 |.tup as,h=>.Tuple (jil c n as (cl h)) (kk h) h.pos
 |.lst as,h=>.List (jil c n as (cl h)) h.pos
noncomputable def jj7 (i:Nat)(e:HV)(h:Stmt):Stmt:=.Assign [.Name (nmA c i) (q1 h).pos] (unHV c n e (q0 h)) h.pos
noncomputable def unHS:HS->Stmt->Stmt
 |.asg i e,h=>jj7 c n i e h
 |.ifa k a as i e,h=>.If (jfs c n k a as (q0 h)) [jj7 c n i e (qh (qa h))] [] h.pos
noncomputable def jeK:List HS->List Stmt->List Stmt
 |[],_=>[]
 |s::r,hs=>unHS c n s (qh hs)::jeK r hs.tail
end
section
variable (cs:List Nat)(c:Ctx)
noncomputable def okC (k:Nat):Bool:=decide (1<=k)&&decide (k<6)&&cs.contains k&&glo c (clsN k)
noncomputable def okHL:HL->Bool
 |.v i=>decide (i<c.N.length)&&(kd c (nmA c i) .local||kd c (nmA c i) .cell||kd c (nmA c i) .free) && !(nmA c i==("__debug__" : Str)) && !(nmA c i==("__classdict__" : Str))
 |.isiV=>glo c "isinstance" && glo c "ValueError"
 |.is1 k=>glo c "isinstance" && okC cs c k
 |.isi ks=>glo c "isinstance" && ks.all (okC cs c)&&decide (ks.length<=8)
noncomputable def jcF (as:List (Bool×HL)):Bool:=as.all λp=>okHL cs c p.2
noncomputable def okHA:HA->Bool
 |.str _=>true
 |.att f=>fldN.contains f
noncomputable def okHV:HV->Bool
 |.cond _ a as=>okHL cs c a.2&&jcF cs c as
 |.one a=>okHA a
 |.bl _=>true
 |.tup as=>as.all okHA&&decide (as.length<=8)
 |.lst as=>as.all okHA&&decide (as.length<=8)
noncomputable def okHS (n:Nat):HS->Bool
 |.asg i e=>okN c i&&decide (i≠n)&&okHV cs c e
 |.ifa _ a as i e=>okHL cs c a.2&&jcF cs c as&&okN c i&&decide (i≠n)&&okHV cs c e
end
mutual
noncomputable def unS (c:Ctx):S->Stmt->Stmt
 |.pass,h=>.Pass h.pos
 |.expr d,h=>.Expr (unE T c d (q0 h)) h.pos
 |.asg t d,h=>.Assign [unTg c t (q1 h)] (unE T c d (q0 h)) h.pos
 |.unp ts d,h=>.Assign [.Tuple (jdv c ts (cl (q1 h))) (kk (q1 h)) (q1 h).pos] (unE T c d (q0 h)) h.pos
 |.asgC i d,h=>.Assign [.Name (nmA c i) (q1 h).pos] (unE T c d (q0 h)) h.pos
 |.setS o i d,h=>.Assign [.Subscript (unE T c o (c0 (q1 h))) (unE T c i (c1 (q1 h))) (q1 h).pos] (unE T c d (q0 h)) h.pos
 |.par is es,h=>.Assign [.Tuple (unNs c is (cl (q1 h))) (kk (q1 h)) (q1 h).pos] (.Tuple (unEs T c es (cl (q0 h))) (kk (q0 h)) (q0 h).pos) h.pos
 |.aug i o d,h=>.AugAssign (.Name (nmA c i) (q1 h).pos) o (unE T c d (q0 h)) h.pos
 |.augS a i o d,h=>.AugAssign (.Subscript (unE T c a (c0 (q1 h))) (unE T c i (c1 (q1 h))) (q1 h).pos) o (unE T c d (q0 h)) h.pos
 |.ite t a b,h=>.If (unE T c t (q0 h)) (unSs c a (qa h)) (unSs c b (qb h)) h.pos
 |.fr t it b,h=>.For (unTg c t (q1 h)) (unI T c it (q0 h)) (unSs c b (qa h)) [] h.pos
 |.wh t b,h=>.While (unE T c t (q0 h)) (unSs c b (qa h)) [] h.pos
 |.ret d,h=>.Return (some (unE T c d (q0 h))) h.pos
 |.retN,h=>.Return none h.pos
 |.never,h=>h
 |.raise k es,h=>.Raise (some (.Call (.Name (clsN k) (c0 (qr h)).pos) (unEs T c es (cl (qr h))) [] (qr h).pos)) none h.pos
 |.tr b k n hs,h=>.Try (unSs c b (qa h)) [.ExceptHandler (some (.Name (clsN k) (hTy h).pos)) (some (nmA c n)) (jeK c n hs (hBd h)) (hPs h)] [] [] h.pos
noncomputable def unSs (c:Ctx):Ss->List Stmt->List Stmt
 |.nil,_=>[]
 |.cons s r,hs=>unS c s (qh hs)::unSs c r hs.tail
end
noncomputable def okA (c:Ctx):Tg->E->Stmt->Bool
 |.n i,.lc ..,_=>!(kd c (nmA c i) .local)
 |.n i,.lc2 ..,_=>!(kd c (nmA c i) .local)
 |.t _,.lc ..,_=>false
 |.t _,.lc2 ..,_=>false
 |.t ts,.tup es,h=>jbX c (jdv c ts (cl (q1 h))) (unEs T c es (cl (q0 h)))
 |_,_,_=>true
mutual
noncomputable def okS (c:Ctx):S->Stmt->Bool
 |.pass,_=>false
 |.expr d,h=>okE T c d (q0 h) && !isLc d
 |.asg t d,h=>okE T c d (q0 h)&&okTg c t&&okA T c t d h
 |.unp ts d,h=>okE T c d (q0 h)&&jiP c ts&&okA T c (.t ts) d h
 |.asgC i d,h=>isLc d&&okE T c d (q0 h)&&decide (i<c.N.length)&&lcSw c (nmA c i) (q1 h).pos (q0 h).pos (scp (q0 h))
 |.setS o i d,h=>okE T c d (q0 h)&&okE T c o (c0 (q1 h))&&okE T c i (c1 (q1 h))
 |.par _ _,_=>false
 |.aug _ _ _,_=>false
 |.augS _ _ _ _,_=>false
 |.ite t a b,h=>okE T c t (q0 h)&&okSs c a (qa h)&&okSs c b (qb h)
 |.fr t it b,h=>okTg c t&&okI T c t it (q0 h)&&okSs c b (qa h)
 |.wh _ _,_=>false
 |.ret d,h=>okE T c d (q0 h)
 |.retN,_=>false
 |.never,_=>true
 |.raise k es,h=>okC T.cs c k&&decide (0<jb3 es)&&okEs T c es (cl (qr h))
 |.tr b k n hs,h=>okSs c b (qa h)&&decide (k=0)&&glo c (clsN k)&&decide (n<c.N.length)&&kd c (nmA c n) .local && !(nmA c n==("__debug__" : Str)) && !(nmA c n==("__classdict__" : Str)) && !hs.isEmpty&&hs.all (okHS T.cs c n)
noncomputable def okSs (c:Ctx):Ss->List Stmt->Bool
 |.nil,_=>true
 |.cons s r,hs=>okS c s (qh hs)&&okSs c r hs.tail
end
end
def lSp (K:Yaa)(t:List U->Gp->K1->KX->Prop):Sp:=λvs H Q0 E0=>∃us G Q E,RUs K H us vs/\HR K H G/\t us G Q E/\(∀w v G' H',RU K H' w v->HR K H' G'->Fr H G H' G'->Q w G'->Q0 v H')/\
 ∀x G' H' C dx,XD K H' C dx x->HR K H' G'->Fr H G H' G'->E x G'->E0 (.ref C) (some dx) H'
def FnU (P:Program)(w:World)(K:Yaa)(mg:Str->Option Value)(base:Heap)(k:Nat)(d:Fun)(t:List U->Gp->K1->KX->Prop):Prop:=
 ∃(f:Addr) (fd:Ybk),FnOk P w K mg base (CX1 P w) (k+2) f fd d.ps (lSp K t)/\mg d.name=some (.ref f)/\Ya8 K (.ref f)=true/\Binds K fd d.ps []
noncomputable def jbR:List Str:=["len", "repr", "min", "max", "sum", "all", "any", "sorted", "int", "str", "isinstance", "range", "enumerate", "list", "tuple", "bool", "dict", "ValueError", "set"]
structure Cok (T:Tab)(k:Nat)(X:Cx)(c:Ctx):Prop where
 hN:X.N=c.N
 nd:c.N.Nodup
 loc:∀x,kd c x .local=true->X.env.scope.names.lookup x=some .local
 cel:∀x,kd c x .cell=true->X.env.scope.names.lookup x=some .cell/\X.fn x=true
 fre:∀x,kd c x .free=true->X.env.scope.names.lookup x=some .cell\/X.env.scope.names.lookup x=some .free
 glb:∀x,kd c x .globalImplicit=true->Gl X x
 room:Room k X.A
 calm:X.calm=true
 po:Yeu (model X.prog X.w) X.A X.env X.xe
 blt:∀x∈jbR,X.mg x=none
 fns:∀(n:Nat) (d:Fun),T.funs[n]?=some d->FnU X.prog X.w X.K X.mg X.base k d (jac T k n)
 gls:∀(n:Nat) (x:Str) (u:U),T.gn[n]?=some x->T.gs[n]?=some u->∃v w,X.mg x=some w/\RelV v w/\∀H,RU X.K H u v
 room2:Room (k+2) X.A
 cls:∀n∈T.cs,1<=n->∃C,XCls X.K (gK X.K) (clsN n) (clsF n) C
 mgK:∀x v,gK X.K x=some v->X.mg x=some v
structure Cos (T:Tab)(k:Nat)(X:Cx)(c:Ctx):Prop extends Cok T k X c where
 sc:X.env.scope.names=c.sc
 kind:X.env.scope.kind=.function
 stk:X.stack=X.env::X.outer/\X.env.frame=some X.env.locals
section
variable {T:Tab}{k:Nat}{X:Cx}{c:Ctx}
theorem Cok.hu (h:Cok T k X c):X.A.units+1<cLine:=jpc h.room
theorem Cok.vis (h:Cok T k X c){x:Str}(v:(kd c x .local||kd c x .cell||kd c x .free)=true):Vis X.env.scope x:=by
 simp only[YbY]at v;rcases v with(v|v)|v
 ·exact .inl (h.loc x v)
 ·exact .inr (.inl (h.cel x v).1)
 ·rcases h.fre x v with z|z
  ·exact .inr (.inl z)
  ·exact .inr (.inr z)
theorem Cok.store (h:Cok T k X c){x:Str}(v:(kd c x .local||kd c x .cell)=true):Loc X.env.scope x/\(X.fn x=true\/X.env.scope.names.lookup x=some .local):=by
 simp only[YbY]at v;rcases v with v|v
 ·exact⟨.inl (h.loc x v),.inr (h.loc x v)⟩
 ·exact⟨.inr (h.cel x v).1,.inl (h.cel x v).2⟩
theorem Cok.gl (h:Cok T k X c){x:Str}(v:glo c x=true):Gl X x/\(x==("__debug__" : Str))=false:=by
 unfold glo at v;rw[Yap]at v;exact⟨h.glb x v.1,by simpa using v.2⟩
end
noncomputable def jes:Expr->Bool
 |.BoolOp ..|.BinOp ..|.UnaryOp ..|.IfExp ..|.Dict ..|.ListComp ..|.Compare ..|.Call ..|.Constant ..|.Subscript ..|.Name ..|.List ..|.Tuple ..|.JoinedStr ..=>true
 |_=>false
section
variable {T:Tab}{c:Ctx}
theorem jam (ir:E)(h:Expr):jes (unE T c ir h)=true:=by cases ir<;>rfl
theorem jaj {e:Expr}(h:jes e=true)(es:List Expr)(env:Env):Yar (e::es) env=(false,eval e env)::Yar es env:=by
 cases e<;>first|rfl|cases h
theorem jlk {e:Expr}(h:jes e=true):jfo e:=by
 intro o i;cases e<;>first|rfl|cases h
theorem jbi {e:Expr}(h:jes e=true)(env:Env):∀x,Ya2 e env x=pure x:=by
 intro x;cases e<;>first|rfl|cases h
theorem jj5 (it:It)(h:Expr)(env:Env):∀x,Ya2 (unI T c it h) env x=pure x:=by
 cases it with
 |e d=>exact jbi (jam d _) env
 |dk d=>exact jbi (jam d _) env
 |s d=>exact jbi (jam d _) env
 |_=>exact λ_=>rfl
theorem ji2 {o i:Expr}(h:jes i=true)(env:Env)(tpos:Pos):∀v,assign (.Subscript o i tpos) env v=(holding [v] (eval o env) >>= λa=>holding [v,a] (eval i env) >>= λb=>standAt tpos >>= λ_=>holding [v,a,b] (setItem a b v) >>= λ_=>release [v,a,b] []):=by
 intro v;cases i<;>first|rfl|cases h
theorem jj6 {ir:E}(q:isLc ir=false)(h:Expr)(env:Env)(l:Nat):Ycl (unE T c ir h) none l env=pure false:=by
 cases ir<;>first|rfl|cases q
theorem jj4 {ir:E}(q:isLc ir=false)(h tg:Expr)(env:Env)(l:Nat):YbE [tg] (unE T c ir h) l env=pure false:=by
 cases ir<;>first|rfl|cases q
theorem jjf (ir:E)(h x y:Expr)(p:Pos)(env:Env)(l:Nat):YbE [.Subscript x y p] (unE T c ir h) l env=pure false/\Ybv [.Subscript x y p] (unE T c ir h) env=pure none:=by
 cases ir<;>exact⟨rfl,rfl⟩
theorem jn8 (ir:E)(h:Expr)(x:Str)(p:Pos)(env:Env):Ybv [.Name x p] (unE T c ir h) env=pure none:=by
 cases ir<;>rfl
theorem jgE (t:Tg)(h:Expr)(env:Env):(YaY [unTg c t h] env).map (·.2)=[assign (unTg c t h) env]:=by
 cases t<;>rfl
theorem jid {o:Expr}(h:jjx o=true)(m:Str)(env:Env)(w:Sem Value):Ycd o m env w=w:=by
 unfold Ycd;split
 ·cases h
 ·rfl
theorem jbT:∀(es:Es) (hs:List Expr) (env:Env) (pos:Pos),(backTo pos (Yar (unEs T c es hs) env)).any (·.1)=false/\(backTo pos (Yar (unEs T c es hs) env)).all (λx=>!x.1)=true
 |.nil,_,_,_=>⟨rfl,rfl⟩
 |.cons d es,hs,env,pos=>by
  obtain⟨h1,h2⟩:=jbT es hs.tail env pos;show(backTo pos (Yar (unE T c d (hd hs)::unEs T c es hs.tail) env)).any (·.1)=false/\(backTo pos (Yar (unE T c d (hd hs)::unEs T c es hs.tail) env)).all (λx=>!x.1)=true;rw[jaj (jam d _)];exact⟨by show(false||(backTo pos (Yar (unEs T c es hs.tail) env)).any (·.1))=false;rw[h1];rfl,by show(!false&&(backTo pos (Yar (unEs T c es hs.tail) env)).all (λx=>!x.1))=true;rw[h2];rfl⟩
theorem jjg:∀(es:Es) (hs:List Expr),(unEs T c es hs).length=jb3 es
 |.nil,_=>rfl
 |.cons _ es,hs=>congrArg (·+ 1) (jjg es hs.tail)
theorem ba {a b:Bool}(h:(a&&b)=true):a=true/\b=true:=by simpa using h
theorem bn {a:Bool}(h:(!a)=true):a=false:=by simpa using h
theorem jhg {i:Nat}(h:decide (i<c.N.length)=true):c.N[i]?=some (nmA c i):=by
 unfold nmA;rw[YaS,YaI (of_decide_eq_true h)];rfl
end
theorem jeL:∀{ts:Tgs} {us:List U} {ς:Sg} {k:Sg->Prop},tgsU ts us ς k->us.length=jdX ts
 |.nil,us,ς,k,h=>by rw[h.1];rfl
 |.cons t ts,us,ς,k,h=>by
  cases us with
  |nil=>exact h.elim
  |cons u r=>
   have:∃ς',tgsU ts r ς' k:=tg_some h;obtain⟨ς',h'⟩:=this;show r.length+1=jdX ts+1;rw[jeL h']
where
 tg_some {t:Tg} {u:U} {ς:Sg} {P:Sg->Prop} (h:tgU t u ς P):∃ς',P ς':=by
  have:=jcw (k':=λ_=>∃ς',P ς') h λς' h'=>⟨ς',h'⟩;exact tg_const this
 tg_const:∀{t:Tg} {u:U} {ς:Sg} {P:Prop},tgU t u ς (λ_=>P)->P
  |.n _,_,_,_,h=>h
  |.t ts,u,ς,P,h=>by
   cases u with
   |tup us=>exact tgs_const (ts:=ts) (us:=us) h
   |_=>exact h.elim
 tgs_const:∀{ts:Tgs} {us:List U} {ς:Sg} {P:Prop},tgsU ts us ς (λ_=>P)->P
  |.nil,_,_,_,h=>h.2
  |.cons t ts,us,ς,P,h=>by
   cases us with
   |nil=>exact h.elim
   |cons u r=>exact tg_const (jcw (t:=t) h λς' h'=>tgs_const h')
section
variable {T:Tab}{k:Nat}{X:Cx}{c:Ctx}
theorem jcv:∀(ts:Tgs) (hs:List Expr) (env:Env),(YaY (jdv c ts hs) env).length=jdX ts/\(YaY (jdv c ts hs) env).findIdx? (·.1)=none
 |.nil,_,_=>⟨rfl,rfl⟩
 |.cons t ts,hs,env=>by
  obtain⟨h1,h2⟩:=jcv ts hs.tail env;have e:YaY (jdv c (.cons t ts) hs) env=(false,assign (unTg c t (hd hs)) env)::YaY (jdv c ts hs.tail) env:=by cases t<;>rfl
  rw[e];exact⟨by simp[h1,jdX],by simp[List.findIdx?_cons,h2]⟩
theorem Cok.nm {i:Nat}(C:Cok T k X c)(h:decide (i<c.N.length)=true):X.N[i]?=some (nmA c i):=by rw[C.hN];exact jhg h
mutual
theorem sTg (C:Cok T k X c):∀(t:Tg) (h:Expr),okTg c t=true->PG X (unTg c t h) (lG X.K (tgU t))
 |.n _,_,q=>let s:=C.store (ba q).2;u_tn (by rw[C.hN];exact C.nd) (C.nm (ba q).1) s.1 s.2
 |.t ts,h,q=>u_tt C.calm (sTgs C ts (cl h) q) (jcv ts _ X.env).1 (jcv ts _ X.env).2 λus ς k q=>jeL q
theorem sTgs (C:Cok T k X c):∀(ts:Tgs) (hs:List Expr),jiP c ts=true->PGs X (jdv c ts hs) (lGs X.K (tgsU ts))
 |.nil,_,_=>job
 |.cons t ts,hs,q=>joc (sTg C t (hd hs) (ba q).1) (sTgs C ts hs.tail (ba q).2) (by cases t<;>rfl)
end
def EB (X:Cx)(σ:St):XK:=λcls dx H'=>∀(pins:List (Addr×Obj)) (ea:Addr) (s':Shared),Inv X pins σ H' s'->Lies X.s₀.heap.objs.size X.pn H' s'.heap ea cls dx->X.xe (.ref ea) s'
theorem jgU {j:Nat}{f:Addr}{fd:Ybk}{ps:List Str}{sp:Sp}{pins:List (Addr×Obj)}{σ:St}{H:Hp}{s:Shared}{Q:VK}{us:List Value}{vs:List V}(F:FnOk X.prog X.w X.K X.mg X.base (CX1 X.prog X.w) j f fd ps sp)(hr:Room j X.A)(hb:Binds X.K fd ps [])
  (I:Inv X pins σ H s) (r:Vals vs us) (h:sp vs H Q (EB X σ)):wpAny (model X.prog X.w) X.A (call (.ref f) us) (EP X pins σ Q) X.xe s:=by
 have hl:(us++[]).length=ps.length:=by rw[YbX,<- r.length];exact F.len _ _ _ _ h
 have hbs:=hb s us I.kIn hl;rw[YbX]at hbs;refine YeG (Ydb (F.run X.A X.stack s H ⟨us,[]⟩ us vs Q (EB X σ) hr I.env0 hbs r h) λr s' hq=>?_);cases r with
 |error e=>
  obtain⟨ea,H',cls,dx,rfl,I',l,q⟩:=CX1.back I hq;exact q pins ea s' I' l
 |ok fl=>
  cases fl with
  |ret u=>exact I.after hq
  |next=>exact Ybn hq
  |brk=>exact Ybn hq
  |cont=>exact Ybn hq
theorem jgO {n:Nat}{σ:St}{H:Hp}{G:Gp}{us:List U}{vs:List V}{Q:K1}{E:KX}{Q0:VK}(r:RUs X.K H us vs)(hG:HR X.K H G)(h:jac T k n us G Q E)(lv:LV X H G Q Q0)(lx:LX X σ H G E):lSp X.K (jac T k n) vs H Q0 (EB X σ):=
 ⟨us,G,Q,E,r,hG,h,lv,λx G' H' C dx xd hr f q pins ea s' I' l=>lx pins (.ref ea) s' x G' H' I' ⟨ea,C,dx,rfl,l,xd⟩ hr f q⟩
theorem jlS {n:Nat}{d:Fun}{x:Str}{e:Expr}{es:List Expr}{ts:UA}{p pos:Pos}(C:Cok T k X c)(hd:T.funs[n]?=some d)(hx:d.name=x)(hg:glo c x=true)(ha:PA X (e::es) (lA X ts))
  (he:Yar (e::es) X.env=(false,eval e X.env)::Yar es X.env) (hpl:(backTo pos (Yar es X.env)).any (·.1)=false) :
  PE X (.Call (.Name x p) (e::es) [] pos) (lE X λς G Q E=>ts ς G (λus G1=>jac T k n us G1 Q E) E):=by
 obtain⟨f,fd,F,hm,hk,hb⟩:=C.fns n d hd;obtain⟨g1,g2⟩:=C.gl hg;rw[hx]at hm;intro pins s σ H Q0 I ⟨ς,G,Q,E,hς,hG,h,lv,lx⟩;refine YbD (jb4 I g1 hm ?_ g2);have h':lA X ts σ H λvs H1=>lSp X.K (jac T k n) vs H1 Q0 (EB X σ):=⟨ς,G,_,E,hς,hG,h,λus vs G1 H1 rs hG1 f1 h1=>jgO rs hG1 h1 (lv.fr f1) (lx.fr f1),lx⟩;refine YdD (h₀:=X.base) I.ok.mod.kin hk (thn (ha pos pins s σ H _ I h') λus s1 ⟨vs,H1,I1,r,q⟩=>⟨I1.kIn,?_⟩) he hpl;exact jgU F C.room2 hb I1 r q
theorem jka {n:Nat}{d:Fun}{x:Str}{p pos:Pos}(C:Cok T k X c)(hd:T.funs[n]?=some d)(hx:d.name=x)(hg:glo c x=true) :
  PE X (.Call (.Name x p) [] [] pos) (lE X λ_ G Q E=>jac T k n [] G Q E):=by
 obtain⟨f,fd,F,hm,hk,hb⟩:=C.fns n d hd;obtain⟨g1,g2⟩:=C.gl hg;rw[hx]at hm;intro pins s σ H Q0 I ⟨ς,G,Q,E,hς,hG,h,lv,lx⟩;refine YbD (jb4 I g1 hm ?_ g2);exact PySem.W.callWith_K0 I.kIn hk (jgU (us:=[]) (vs:=[]) F C.room2 hb I .nil (jgO (show RUs X.K H [] []from rfl) hG h lv lx))
theorem Cok.comp {pick:List (Option Nat)}{scope:Scope}{N:List Str}(C:Cok T k X c)(h:cOkS c N pick scope=true):CScope X N pick scope/\∀cl A s₀ H₀ fp,Cok T k (jal X N scope cl A s₀ H₀ fp) ⟨N,scope.names⟩:=by
 unfold cOkS at h;simp only[Yap,decide_eq_true_eq]at h;obtain⟨⟨⟨⟨⟨⟨h1,h2⟩,h3⟩,h4⟩,h5⟩,h6⟩,h7⟩:=h;have cells:∀y∈scope.names,y.2=.cell->scope.names.lookup y.1=some .cell:=λy hy hc=>by
  have:=Ydg.mp h2 y hy;rw[hc]at this;simpa using this
 refine⟨⟨h1,cells,λy hy hl=>?_,λy hy hf=>?_,by simpa using h5,λi j x e1 e2=>?_⟩,λcl A s₀ H₀ fp=>?_⟩
 ·have:=Ydg.mp h3 y hy;rw[hl]at this;simpa using this
 ·have:=Ydg.mp h4 y hy;rw[hf]at this;simp only[bne_self_eq_false,Ye5,Yap,YbY,beq_iff_eq]at this;refine⟨this.1,?_⟩;rcases this.2 with z|z
  ·exact .inl (C.cel _ z).1
  ·exact C.fre _ z
 ·have hz:(N.zip pick)[i]?=some (x,some j):=by rw[List.getElem?_zip_eq_some];exact⟨e1,e2⟩
  have:=Ydg.mp h6 _ (Ybq hz);rw[C.hN];simpa using this
 ·refine⟨rfl,h7,λx z=>?_,λx z=>?_,λx z=>?_,λx z=>?_,C.room,C.calm,Yeu.never,C.blt,C.fns,C.gls,C.room2,C.cls,C.mgK⟩
  ·exact jat (by decide) (eq_of_beq z)
  ·exact⟨jat (by decide) (eq_of_beq z),z⟩
  ·exact jaM (eq_of_beq z)
  ·exact glc (eq_of_beq z)
end
end Z

namespace Z
open PySem L2
section
variable {K:Yaa}{H H':Hp}{G G':Gp}
theorem HR.newX (h:HR K H G){p:Addr}{l:List (Str×V)}(e:H p=none):HR K (upd H p (.xd l)) G:=⟨λa o q=>by
 have m:=h a o q;obtain⟨ho,e2⟩:=m.there;exact m.keep (jad (jah e2 e)) (TS.new e),h.tab.new e⟩
theorem HR.xdNone (h:HR K H G){a:Addr}{l:List (Str×V)}(e:H a=some (.xd l)):G a=none:=by
 cases q:G a with
 |none=>rfl
 |some o=>
  have m:=h a o q;cases o with
  |lst us=>obtain⟨_,e2,_⟩:=m;rw[e]at e2;cases e2
  |fro us=>obtain⟨_,_,e2,_⟩:=m;rw[e]at e2;cases e2
  |dK us=>obtain⟨_,e2,_⟩:=m;rw[e]at e2;cases e2
  |dT us=>obtain⟨_,e2,_⟩:=m;rw[e]at e2;cases e2
  |frd _ us=>obtain⟨_,e2,_⟩:=m;rw[e]at e2;cases e2
theorem XD.fr {C dx:Addr}{x:XV}(h:XD K H C dx x)(hG:HR K H G)(f:Fr H G H' G'):XD K H' C dx x:=by
 obtain⟨h1,h2,h3,l,hl,hn,r⟩:=h;exact⟨h1,h2,h3,l,(f dx _ hl (hG.xdNone hl)).1,hn,r.ts (f.ts hG)⟩
end
theorem jh1:∀k<6,∀f∈clsF k,f∈fldN:=by decide +kernel
theorem ji8 (k:Nat):∀f∈clsF k,f∈fldN:=by
 by_cases h:k<6
 ·exact jh1 k h
 ·intro f hf;have:clsF k=[]:=by
   unfold clsF;rw[YaS,YcA (by show clsA.length<=k;simp only[clsA,Ya4,YcP];omega)];rfl
  rw[this]at hf;cases hf
theorem jf1:∀i<6,∀j<6,clsN i=clsN j->i=j:=by decide +kernel
theorem jh0:∀i<6,1<=i->clsN i ≠ "PlanError" := by decide +kernel
section
variable {T:Tab}{k:Nat}{X:Cx}{c:Ctx}
theorem jfI {cs:List Nat}{n:Nat}(h:okC cs c n=true):1<=n/\n<6/\n∈cs/\glo c (clsN n)=true:=by
 unfold okC at h;simp only[Yap,decide_eq_true_eq]at h;exact⟨h.1.1.1,h.1.1.2,by simpa using h.1.2,h.2⟩
theorem s_raise {n:Nat}{e:Expr}{es:List Expr}{ts:UA}{p cpos pos:Pos}(C:Cok T k X c)(hn:okC T.cs c n=true)(ha:PA X (e::es) (lA X ts))(he:Yar (e::es) X.env=(false,eval e X.env)::Yar es X.env)(hpl:(backTo cpos (Yar es X.env)).any (·.1)=false) :
  PS X (.Raise (some (.Call (.Name (clsN n) p) (e::es) [] cpos)) none pos) (lS X λD ς G=>ts ς G (λus G1=>us.length=(clsF n).length/\D.ex ⟨n,us⟩ ς G1) λx G1=>D.ex x ς G1):=by
 obtain⟨n1,n2,n3,n4⟩:=jfI hn;obtain⟨Ca,cl⟩:=C.cls n n3 n1;obtain⟨g1,g2⟩:=C.gl n4;refine(jgX (k:=k) cl (ji8 n) C.room2 g1 (C.mgK _ _ cl.m) ha g2 he hpl).imp λD σ H ⟨De,ς,G,hς,hG,h,ld⟩=>?_;refine⟨ς,G,_,_,hς,hG,h,λus vs G1 H1 rs hG1 f1 h1=>?_,ld.lx hς hG⟩;have hl:vs.length=(clsF n).length:=rs.length.symm.trans h1.1;refine⟨hl,λpins ea dx s' hd I l=>?_⟩;have f2:Fr H1 G1 (upd H1 dx (.xd ((clsF n).zip vs))) G1:=Fr.new hd;refine ld.ex pins (.ref ea) s' ⟨n,us⟩ ς σ G1 _ I ((hς.ts (f1.ts hG)).ts (f2.ts hG1)) ⟨ea,Ca,dx,rfl,l,n1,n2,cl,_,jag,?_,?_⟩ (hG1.newX hd) (f1.trans f2) h1.2
 ·exact Ygq (by omega)
 ·rw[List.map_snd_zip (by omega)]
  exact rs.ts (f2.ts hG1)
end
structure HC (T:Tab)(X:Cx)(c:Ctx)(n:Nat)(ea C dx:Addr)(x:XV):Prop where
 hN:X.N=c.N
 nd:c.N.Nodup
 loc:∀y,kd c y .local=true->X.env.scope.names.lookup y=some .local
 cel:∀y,kd c y .cell=true->X.env.scope.names.lookup y=some .cell/\X.fn y=true
 fre:∀y,kd c y .free=true->X.env.scope.names.lookup y=some .cell\/X.env.scope.names.lookup y=some .free
 glb:∀y,kd c y .globalImplicit=true->Gl X y
 blt:∀y∈jbR,X.mg y=none
 cls:∀n∈T.cs,1<=n->∃C,XCls X.K (gK X.K) (clsN n) (clsF n) C
 me:XCls X.K (gK X.K) (clsN x.c) (clsF x.c) C
 lo:1<=x.c
 hi:x.c<6
 pin:XPin X ea C dx
 mgK:∀y v,gK X.K y=some v->X.mg y=some v
 en:n<c.N.length/\kd c (nmA c n) .local=true/\(nmA c n==("__debug__" : Str))=false/\(nmA c n==("__classdict__" : Str))=false
structure HSt (X:Cx)(n:Nat)(ea C dx:Addr)(x:XV)(σ:St)(H:Hp)(ς:Sg)(G:Gp):Prop where
 sr:SR X.K H ς σ
 hr:HR X.K H G
 en:σ[n]?=some (some (.ref ea))
 xd:XD X.K H C dx x
def hB (X:Cx)(n:Nat)(ea C dx:Addr)(x:XV)(f:Sg->Option Bool):TE:=λσ H Q=>∃ς G b,HSt X n ea C dx x σ H ς G/\f ς=some b/\∀H',HR X.K H' G->Fr H G H' G->Q (.bl b) H'
def hT (X:Cx)(n:Nat)(ea C dx:Addr)(x:XV)(f:Sg->Option Bool):TT:=λσ H Q=>∃ς G b,HSt X n ea C dx x σ H ς G/\f ς=some b/\∀H',HR X.K H' G->Fr H G H' G->Q b H'
section
variable {T:Tab}{X:Cx}{c:Ctx}{n:Nat}{ea C dx:Addr}{x:XV}
theorem HSt.fr {σ:St}{H H':Hp}{ς:Sg}{G G':Gp}(h:HSt X n ea C dx x σ H ς G)(hr:HR X.K H' G')(f:Fr H G H' G'):HSt X n ea C dx x σ H' ς G':=⟨h.sr.ts (f.ts h.hr),hr,h.en,h.xd.fr h.hr f⟩
theorem HC.pe (h:HC T X c n ea C dx x){p:Pos}:PE X (.Name (nmA c n) p) (tVar n):=by
 obtain⟨h1,h2,h3,h4⟩:=h.en;exact ja5 (by rw[h.hN];exact jhg (decide_eq_true h1)) (.inl (h.loc _ h2)) h3 h4
theorem HC.gl (h:HC T X c n ea C dx x){y:Str}(v:glo c y=true):Gl X y/\(y==("__debug__" : Str))=false:=by
 unfold glo at v;rw[Yap]at v;exact⟨h.glb y v.1,by simpa using v.2⟩
theorem HC.ownC (h:HC T X c n ea C dx x){m:Nat}(q:okC T.cs c m=true):∃C',XCls X.K (gK X.K) (clsN m) (clsF m) C'/\clsN m ≠ "PlanError" /\ ∀p,PE X (.Name (clsN m) p) (tC (.ref C')):=by
 obtain⟨m1,m2,m3,m4⟩:=jfI q;obtain⟨C',cl⟩:=h.cls m m3 m1;obtain⟨g1,g2⟩:=h.gl m4;exact⟨C',cl,jh0 m m2 m1,λp=>jg3 g1 (h.mgK _ _ cl.m) rfl g2⟩
theorem HC.pcs (h:HC T X c n ea C dx x):∀{ks:List Nat},ks.all (okC T.cs c)=true->∀hs:List Expr,∃(xs:List Str) (Cs:List Addr),xs=ks.map clsN/\XMany X (gK X.K) xs Cs/\Cs.length=ks.length/\PA X (unCs ks hs) (λ_ H Q=>Q (Cs.map .ref) H)
 |[],_,_=>⟨[],[],rfl,.nil,rfl,jcB⟩
 |m::ks,q,hs=>by
  simp only[YbB,Yap]at q;obtain⟨C',cl,np,pe⟩:=h.ownC q.1;obtain⟨xs,Cs,e,mn,ln,pa⟩:=h.pcs q.2 hs.tail;subst e;exact⟨_,C'::Cs,rfl,.cons cl np mn,by simp[ln],jaD (pe _) pa⟩
theorem je4:YbK "isinstance" = some (.builtin "isinstance"):=YdE
theorem HC.isiT (h:HC T X c n ea C dx x)(g1:Gl X "isinstance")(g2:(("isinstance" : Str)==("__debug__" : Str))=false){Cs:List Addr}{xs:List Str}(mn:XMany X (gK X.K) xs Cs){p1 p2 p3 p4:Pos}{kq:Nat}{es:List Expr}(pa:PA X es (λ_ H Q=>Q (Cs.map .ref) H)) :
  PE X (.Call (.Name "isinstance" p3) [.Name (nmA c n) p1,.Tuple es kq p2] [] p4) (λσ H Q=>σ[n]?=some (some (.ref ea))/\Cs.length<=8/\∀p,H p=none->(∃l,upd H p (.tup (Cs.map .ref)) dx=some (.xd l))/\Q (.bl (xs.contains (clsN x.c))) (upd H p (.tup (Cs.map .ref)))):=by
 have isn:X.mg "isinstance" = none:=h.blt _ (by decide)
 have a1:PA X [.Tuple es kq p2] _:=jaD (jg2 pa) jcB (jaj rfl _ _);have a2:PA X [.Name (nmA c n) p1,.Tuple es kq p2] _:=jaD (h.pe) a1 (jaj rfl _ _);have cr:=jh9 h.me mn h.pin;have hh:Yar [.Name (nmA c n) p1,.Tuple es kq p2] X.env=(false,eval (.Name (nmA c n) p1) X.env)::Yar [.Tuple es kq p2] X.env:=jaj rfl _ _;have hp:(backTo p4 (Yar [.Tuple es kq p2] X.env)).any (·.1)=false:=by rw[jaj rfl];rfl
 refine PE.imp (jco (p:=p3) (pos:=p4) cr g1 isn je4 a2 (by decide) g2 hh hp) λσ H Q ⟨e1,e2,k⟩=>?_
 refine⟨_,e1,?_,λp hp=>⟨p,rfl,jag,(k p hp).1,(k p hp).2⟩⟩;rw[Yah,YbO];omega
theorem HC.lit (h:HC T X c n ea C dx x){l:HL}(q:okHL T.cs c l=true)(hx:Expr):PE X (unHL c n l hx) (hB X n ea C dx x λς=>litH x ς l)/\PT X (unHL c n l hx) (hT X n ea C dx x λς=>litH x ς l):=by
 have fin:PE X (unHL c n l hx) (hB X n ea C dx x λς=>litH x ς l):=by
  have isn:X.mg "isinstance" = none:=h.blt _ (by decide)
  have ven:X.mg "ValueError" = none:=h.blt _ (by decide)
  cases l with
  |v i=>
   have q':((decide (i<c.N.length)&&(kd c (nmA c i) .local||kd c (nmA c i) .cell||kd c (nmA c i) .free) && !(nmA c i==("__debug__" : Str)) && !(nmA c i==("__classdict__" : Str))))=true:=q;obtain⟨⟨⟨h1,h2⟩,h3⟩,h4⟩:=(⟨⟨ba (ba (ba q').1).1,(ba (ba q').1).2⟩,(ba q').2⟩:((_/\_)/\_)/\_);have vis:Vis X.env.scope (nmA c i):=by
    simp only[YbY]at h2;rcases h2 with(z|z)|z
    ·exact .inl (h.loc _ z)
    ·exact .inr (.inl (h.cel _ z).1)
    ·exact(h.fre _ z).elim (λz=>.inr (.inl z)) λz=>.inr (.inr z)
   refine(ja5 (by rw[h.hN];exact jhg h1) vis (bn h3) (bn h4)).imp λσ H Q ⟨ς,G,b,st,e,k⟩=>?_
   have e':(match ς[i]? with|some (some (U.bl b))=>some b|_=>none)=some b:=e
   split at e'
   ·rename_i b' eb;cases e';obtain⟨v,ev,r⟩:=st.sr.2 i _ eb;cases r;exact⟨_,ev,k H st.hr (Fr.refl _ _)⟩
   ·cases e'
  |isiV=>
   have q':(glo c "isinstance" && glo c "ValueError")=true:=q;obtain⟨g1,g2⟩:=h.gl (ba q').1;obtain⟨g3,g4⟩:=h.gl (ba q').2;refine(jco (jh8 h.me h.pin) g1 isn je4 (jaD h.pe (jaD (jg4 (v:=.ty "ValueError") g3 ven (by decide +kernel) rfl (by decide) g4) jcB)) (by decide) g2 rfl rfl).imp λσ H Q ⟨ς,G,b,st,e,k⟩=>?_
   cases(show true=b from Yan e);obtain⟨_,_,_,l,hl,_⟩:=st.xd;exact⟨_,st.en,rfl,⟨l,hl⟩,k H st.hr (Fr.refl _ _)⟩
  |is1 m=>
   have q':(glo c "isinstance" && okC T.cs c m)=true:=q;obtain⟨g1,g2⟩:=h.gl (ba q').1;obtain⟨C',cl,np,pe⟩:=h.ownC (ba q').2;refine(jco (jia h.me cl np h.pin) g1 isn je4 (jaD h.pe (jaD (pe _) jcB)) (by decide) g2 rfl rfl).imp λσ H Q ⟨ς,G,b,st,e,k⟩=>?_
   have eb:decide (x.c=m)=b:=Yan e;have e2:decide (clsN x.c=clsN m)=b:=by
    rw[<- eb];obtain⟨_,m2,_⟩:=jfI (ba q').2;by_cases z:x.c=m
    ·simp[z]
    ·have:clsN x.c≠clsN m:=λy=>z (jf1 _ h.hi _ m2 y);simp[z,this]
   obtain⟨_,_,_,l,hl,_⟩:=st.xd;exact⟨_,st.en,rfl,⟨l,hl⟩,by rw[e2];exact k H st.hr (Fr.refl _ _)⟩
  |isi ks=>
   have q':(glo c "isinstance" && ks.all (okC T.cs c)&&decide (ks.length<=8))=true:=q;obtain⟨g1,g2⟩:=h.gl (ba (ba q').1).1;obtain⟨xs,Cs,exs,mn,ln,pa⟩:=h.pcs (ba (ba q').1).2 (cl (hd (cl hx).tail));refine PE.imp (h.isiT g1 g2 mn pa) λσ H Q ⟨ς,G,b,st,e,k⟩=>?_;have eb:ks.contains x.c=b:=Yan e;have e2:xs.contains (clsN x.c)=b:=by
    rw[<- eb,exs];have all:∀m∈ks,m<6:=λm hm=>(jfI (Ydg.mp (ba (ba q').1).2 m hm)).2.1;rw[Ybl];simp only[List.contains_iff_mem,List.mem_map];constructor
    ·rintro⟨m,hm,em⟩;have:=jf1 _ (all m hm) _ h.hi em;rw[<- this];exact hm
    ·intro hm;exact⟨_,hm,rfl⟩
   refine⟨st.en,?_,λp hp=>⟨?_,?_⟩⟩
   ·have:=of_decide_eq_true (ba q').2;omega
   ·obtain⟨_,_,_,l,hl,_⟩:=(st.fr (st.hr.newT hp) (Fr.new hp)).xd;exact⟨l,hl⟩
   ·rw[e2];exact k _ (st.hr.newT hp) (Fr.new hp)
 refine⟨fin,?_⟩;have tr:∀whole,isTrue (unHL c n l hx) X.env whole=(do let v <- whole;standAt (unHL c n l hx).pos;holding [v] (truthy v)):=by
  intro whole;cases l<;>rfl
 refine(jml fin tr).imp λσ H Q ⟨ς,G,b,st,e,k⟩=>?_;exact⟨ς,G,b,st,e,λH' a f=>⟨b,rfl,k H' a f⟩⟩
theorem HC.litN (h:HC T X c n ea C dx x){p:Bool×HL}(q:okHL T.cs c p.2=true)(hx:Expr):PE X (jeJ c n p hx) (hB X n ea C dx x λς=>lit1 x ς p)/\PT X (jeJ c n p hx) (hT X n ea C dx x λς=>lit1 x ς p):=by
 obtain⟨neg,l⟩:=p;cases neg with
 |false=>
  obtain⟨h1,h2⟩:=h.lit q hx;refine⟨PE.imp h1 λσ H Q ⟨ς,G,b,st,e,k⟩=>⟨ς,G,b,st,?_,k⟩,PT.imp h2 λσ H Q ⟨ς,G,b,st,e,k⟩=>⟨ς,G,b,st,?_,k⟩⟩ <;>
  ·unfold lit1 at e;dsimp only at e;split at e
   ·rename_i b' eb;show litH x ς l=some b;rw[eb];simpa using e
   ·cases e
 |true=>
  obtain⟨h1,h2⟩:=h.lit q (c0 hx);refine⟨PE.imp (jmw h1) λσ H Q ⟨ς,G,b,st,e,k⟩=>⟨ς,G,!b,st,?_,λH' a f=>⟨!b,rfl,by rw[Yfj];exact k H' a f⟩⟩,PT.imp (jjp h2) λσ H Q ⟨ς,G,b,st,e,k⟩=>⟨ς,G,!b,st,?_,λH' a f=>by show Q (!!b) H';rw[Yfj];exact k H' a f⟩⟩ <;>
  ·unfold lit1 at e;dsimp only at e;split at e
   ·rename_i b' eb;show litH x ς l=some (!b);rw[eb];have:(!b')=b:=by simpa using e
    rw[<- this,Yfj]
   ·cases e
theorem HC.conds (h : HC T X c n ea C dx x)(k : Bool) : ∀ (as : List (Bool × HL)) (a : Bool × HL) (hx : Expr) (hs : List Expr) (pos : Pos), okHL T.cs c a.2 = true -> jcF T.cs c as = true ->
    PE X (.BoolOp (boU k) (jeJ c n a hx :: jfr c n as hs) pos) (hB X n ea C dx x λς => jbx x ς k a as) /\ PW X (.BoolOp (boU k) (jeJ c n a hx :: jfr c n as hs) pos) (hT X n ea C dx x λς => jbx x ς k a as)
  | [], a, hx, hs, pos, q, _ => by
    obtain ⟨h1, h2⟩ := h.litN q hx
    cases k with
    | true => exact ⟨jfH h1, pw_and1 h2⟩
    | false => exact ⟨jfH h1, pw_or1 h2⟩
  | b :: r, a, hx, hs, pos, q, qs => by
    unfold jcF at qs
    simp only [YbB, Yap] at qs
    obtain ⟨h1, h2⟩ := h.litN q hx
    obtain ⟨r1, r2⟩ := h.conds k r b (hd hs) hs.tail pos qs.1 qs.2
    have red : ∀ {ς : Sg} {t b' : Bool}, lit1 x ς a = some t -> jbx x ς k a (b :: r) = some b' -> (if t = k then jbx x ς k b r else some t) = some b' := λ{ς t b'} e1 e2 => by
      have e3 : (match lit1 x ς a with | some t => if t = k then jbx x ς k b r else some t | none => none) = some b' := e2
      rw [e1] at e3
      exact e3
    have some1 : ∀ {ς : Sg} {b' : Bool}, jbx x ς k a (b :: r) = some b' -> ∃ t, lit1 x ς a = some t := λ{ς b'} e2 => by
      have e3 : (match lit1 x ς a with | some t => if t = k then jbx x ς k b r else some t | none => none) = some b' := e2
      cases z : lit1 x ς a with
      | none => rw [z] at e3; cases e3
      | some t => exact ⟨t, rfl⟩
    cases k with
    | true =>
      refine ⟨PE.imp (jmA h1 r1) λσ H Q ⟨ς, G, b', st, e, kk⟩ => ?_, PW.imp (pw_and h2 r2) λσ H Q ⟨ς, G, b', st, e, kk⟩ => ?_⟩ <;>
      · obtain ⟨t, et⟩ := some1 e
        have e' := red et e
        first
          | (refine ⟨ς, G, t, st, et, λH' hr f => ⟨t, rfl, ?_⟩⟩
             cases t with
             | true => exact ⟨ς, G, b', st.fr hr f, by simpa using e', λH'' a b => kk H'' a (f.trans b)⟩
             | false => cases (by simpa using e' : false = b'); exact kk H' hr f)
          | (refine ⟨ς, G, t, st, et, λH' hr f => ?_⟩
             cases t with
             | true => exact ⟨ς, G, b', st.fr hr f, by simpa using e', λH'' a b => kk H'' a (f.trans b)⟩
             | false => cases (by simpa using e' : false = b'); exact kk H' hr f)
    | false =>
      refine ⟨PE.imp (joT h1 r1) λσ H Q ⟨ς, G, b', st, e, kk⟩ => ?_, PW.imp (pw_or h2 r2) λσ H Q ⟨ς, G, b', st, e, kk⟩ => ?_⟩ <;>
      · obtain ⟨t, et⟩ := some1 e
        have e' := red et e
        first
          | (refine ⟨ς, G, t, st, et, λH' hr f => ⟨t, rfl, ?_⟩⟩
             cases t with
             | false => exact ⟨ς, G, b', st.fr hr f, by simpa using e', λH'' a b => kk H'' a (f.trans b)⟩
             | true => cases (by simpa using e' : true = b'); exact kk H' hr f)
          | (refine ⟨ς, G, t, st, et, λH' hr f => ?_⟩
             cases t with
             | false => exact ⟨ς, G, b', st.fr hr f, by simpa using e', λH'' a b => kk H'' a (f.trans b)⟩
             | true => cases (by simpa using e' : true = b'); exact kk H' hr f)
theorem HC.cond (h:HC T X c n ea C dx x)(k:Bool)(a:Bool×HL)(as:List (Bool×HL))(hx:Expr)(q:okHL T.cs c a.2=true)(qs:jcF T.cs c as=true) :
  PE X (jfs c n k a as hx) (hB X n ea C dx x λς=>jbx x ς k a as)/\PT X (jfs c n k a as hx) (hT X n ea C dx x λς=>jbx x ς k a as):=by
 cases as with
 |nil=>exact h.litN q hx
 |cons b r=>let z:=h.conds k (b::r) a (hd (cl hx)) (cl hx).tail hx.pos q qs;exact⟨z.1,z.2.pt⟩
def hV (X:Cx)(n:Nat)(ea C dx:Addr)(x:XV)(f:Sg->Gp->K1->Prop):TE:=λσ H Q0=>∃ς G Q,HSt X n ea C dx x σ H ς G/\f ς G Q/\LV X H G Q Q0
section
variable {K:Yaa}{H:Hp}{f:Str}{u:U}
theorem jgC:∀{l:List (Str×V)} {us:List U},RUs K H us (l.map (·.2))->((l.map (·.1)).zip us).lookup f=some u->∃v,l.lookup f=some v/\RU K H u v
 |[],us,_,e=>by simp at e
 |(y,v)::l,[],r,e=>by simp at e
 |(y,v)::l,w::us,r,e=>by
  obtain⟨v',vr,ev,r1,rs⟩:=r;simp only[YaA,Yfw]at ev;obtain⟨rfl,rfl⟩:=ev;simp only[YaA,YdZ,YaG]at e ⊢;split at e
  ·rename_i z;cases e;exact⟨v,rfl,r1⟩
  ·rename_i z;obtain⟨v',h1,h2⟩:=jgC rs e;exact⟨v',h1,h2⟩
theorem XD.get (xd:XD K H C dx x)(e:atH x (.att f)=some u):∃l v,H dx=some (.xd l)/\l.lookup f=some v/\RU K H u v:=by
 obtain⟨_,_,_,l,hl,hn,r⟩:=xd;have e':((clsF x.c).zip x.fs).lookup f=some u:=e;rw[<- hn]at e';obtain⟨v,h1,h2⟩:=jgC r e';exact⟨l,v,hl,h1,h2⟩
end
theorem HC.at (h:HC T X c n ea C dx x){a:HA}(q:okHA a=true)(hx:Expr):PE X (unHA c n a hx) (λσ H Q0=>∃ς G u,HSt X n ea C dx x σ H ς G/\atH x a=some u/\∀v,RU X.K H u v->Q0 v H):=by
 cases a with
 |str y=>exact PE.imp jjq λσ H Q ⟨ς,G,u,st,e,k⟩=>by cases e;exact k _ rfl
 |att f=>
  have hf:f∈fldN:=by simpa[okHA]using q
  refine PE.imp (jkJ h.me h.pin hf h.pe rfl) λσ H Q ⟨ς,G,u,st,e,k⟩=>?_;obtain⟨l,v,hl,h1,h2⟩:=st.xd.get e;exact⟨_,st.en,rfl,l,v,hl,h1,k v h2⟩
theorem jll (a:HA)(hx:Expr)(es:List Expr)(env:Env):Yar (unHA c n a hx::es) env=(false,eval (unHA c n a hx) env)::Yar es env:=by cases a<;>rfl
theorem HC.ats (h:HC T X c n ea C dx x):∀{as:List HA} (_:as.all okHA=true) (hs:List Expr),PA X (jil c n as hs) (λσ H Q0=>∃ς G us,HSt X n ea C dx x σ H ς G/\atsH x as=some us/\∀vs,RUs X.K H us vs->Q0 vs H)
 |[],_,_=>λpos pins s σ H Q0 I ⟨ς,G,us,st,e,k⟩=>by cases e;exact jcB pos pins s σ H Q0 I (k [] rfl)
 |a::r,q,hs=>by
  simp only[YbB,Yap]at q;refine PA.imp (jaD (h.at q.1 (hd hs)) (h.ats q.2 hs.tail) (jll a _ _ _)) λσ H Q0 ⟨ς,G,us,st,e,k⟩=>?_;have e':(match atH x a,atsH x r with|some u,some us=>some (u::us)|_,_=>none)=some us:=e
  split at e'
  ·rename_i u us' e1 e2;cases e';exact⟨ς,G,u,st,e1,λv rv=>⟨ς,G,us',st,e2,λvs rvs=>k (v::vs) ⟨v,vs,rfl,rv,rvs⟩⟩⟩
  ·cases e'
theorem jfg:∀{as:List HA} {us:List U},atsH x as=some us->us.length=as.length
 |[],us,e=>by cases e;rfl
 |a::r,us,e=>by
  have e':(match atH x a,atsH x r with|some u,some us=>some (u::us)|_,_=>none)=some us:=e
  split at e'
  ·rename_i u us' e1 e2;cases e';simp[jfg e2]
  ·cases e'
theorem HC.val (h:HC T X c n ea C dx x){e:HV}(q:okHV T.cs c e=true)(hx:Expr):PE X (unHV c n e hx) (hV X n ea C dx x λς G Q=>hvH x ς e G Q):=by
 cases e with
 |cond k a as=>
  have q':(okHL T.cs c a.2&&jcF T.cs c as)=true:=q;refine PE.imp (h.cond k a as hx (ba q').1 (ba q').2).1 λσ H Q0 ⟨ς,G,Q,st,e,lv⟩=>?_;have e':(match jbx x ς k a as with|some b=>Q (.bl b) G|none=>False):=e
  split at e'
  ·rename_i b eb;exact⟨ς,G,b,st,eb,λH' hr f=>lv (.bl b) (.bl b) G H' rfl hr f e'⟩
  ·exact e'.elim
 |one a=>
  refine PE.imp (h.at (show okHA a=true from q) hx) λσ H Q0 ⟨ς,G,Q,st,e,lv⟩=>?_;have e':(match atH x a with|some u=>Q u G|none=>False):=e
  split at e'
  ·rename_i u eu;exact⟨ς,G,u,st,eu,λv rv=>lv.here rv st.hr e'⟩
  ·exact e'.elim
 |bl b=>exact PE.imp jmz λσ H Q0 ⟨ς,G,Q,st,e,lv⟩=>lv.bl st.hr e
 |tup as=>
  have q':(as.all okHA&&decide (as.length<=8))=true:=q;refine PE.imp (jg2 (h.ats (ba q').1 (cl hx))) λσ H Q0 ⟨ς,G,Q,st,e,lv⟩=>?_;have e':(match atsH x as with|some us=>Q (.tup us) G|none=>False):=e
  split at e'
  ·rename_i us eu;refine⟨ς,G,us,st,eu,λvs rvs=>⟨?_,λp hp=>lv.tup hp rvs st.hr e'⟩⟩;have:=of_decide_eq_true (ba q').2;rw[<- rvs.length,jfg eu,YbO];omega
  ·exact e'.elim
 |lst as=>
  have q':(as.all okHA&&decide (as.length<=8))=true:=q;refine PE.imp (jjr (h.ats (ba q').1 (cl hx))) λσ H Q0 ⟨ς,G,Q,st,e,lv⟩=>?_;have e':(match atsH x as with|some us=>newO G (.lst us) Q|none=>False):=e
  split at e'
  ·rename_i us eu;refine⟨ς,G,us,st,eu,λvs rvs=>⟨?_,λp hp=>lv.lst hp rvs st.hr e'⟩⟩;have:=of_decide_eq_true (ba q').2;rw[<- rvs.length,jfg eu,YbO];omega
  ·exact e'.elim
theorem jhE (e:HV)(hx:Expr)(y:Str)(p:Pos)(env:Env)(l:Nat):YbE [.Name y p] (unHV c n e hx) l env=pure false/\Ybv [.Name y p] (unHV c n e hx) env=pure none:=by
 cases e with
 |cond k a as=>
  cases as with
  |nil=>
   obtain⟨neg,l⟩:=a;cases neg<;>cases l<;>exact⟨rfl,rfl⟩
  |cons=>exact⟨rfl,rfl⟩
 |one a=>cases a<;>exact⟨rfl,rfl⟩
 |_=>exact⟨rfl,rfl⟩
theorem HC.store (h:HC T X c n ea C dx x){i:Nat}(q:okN c i=true){p:Pos}:PG X (.Name (nmA c i) p) (jhH i):=by
 have q':(decide (i<c.N.length)&&(kd c (nmA c i) .local||kd c (nmA c i) .cell))=true:=q;have v:=(ba q').2;simp only[YbY]at v;rcases v with v|v
 ·exact jeT (by rw[h.hN];exact h.nd) (by rw[h.hN];exact jhg (ba q').1) (.inl (h.loc _ v)) (.inr (h.loc _ v))
 ·exact jeT (by rw[h.hN];exact h.nd) (by rw[h.hN];exact jhg (ba q').1) (.inr (h.cel _ v).1) (.inl (h.cel _ v).2)
theorem HSt.set {σ:St}{H:Hp}{ς:Sg}{G:Gp}{i:Nat}{u:U}{v:V}(h:HSt X n ea C dx x σ H ς G)(hi:i≠n)(r:RU X.K H u v):HSt X n ea C dx x (σ.set i (some v)) H (ς.set i (some u)) G:=
 ⟨h.sr.set r i,h.hr,by rw[YaU hi];exact h.en,h.xd⟩
theorem HC.asg (h:HC T X c n ea C dx x){i:Nat}{e:HV}(qi:okN c i=true)(hi:i≠n)(qe:okHV T.cs c e=true)(st:Stmt) :
  PS X (jj7 c n i e st) (λD σ H=>∃(ς:Sg) (G:Gp) (k:Sg->Gp->Prop),HSt X n ea C dx x σ H ς G/\hvH x ς e G (λu G1=>k (ς.set i (some u)) G1)/\∀ς' σ' G' H',HSt X n ea C dx x σ' H' ς' G'->Fr H G H' G'->k ς' G'->D.nx σ' H'):=by
 refine PS.imp (jfD (h.val qe (q0 st)) (h.store qi) (jhE e _ _ _ _ _).1 (jhE e _ _ _ _ 0).2 rfl) λD σ H ⟨ς,G,k,hs,hv,fin⟩=>?_;exact⟨ς,G,_,hs,hv,λu v G' H' r hr f q=>fin _ _ G' H' ((hs.fr hr f).set hi r) f q⟩
def hS (X:Cx)(n:Nat)(ea C dx:Addr)(x:XV)(hs:List HS):L2.TS:=λD σ H=>∃ς G k,HSt X n ea C dx x σ H ς G/\hsH x hs ς G k/\∀ς' σ' G' H',HSt X n ea C dx x σ' H' ς' G'->Fr H G H' G'->k ς' G'->D.nx σ' H'
theorem HC.stmts (h:HC T X c n ea C dx x):∀{hs:List HS} (_:hs.all (okHS T.cs c n)=true) (sts:List Stmt),PSs X (jeK c n hs sts) (hS X n ea C dx x hs)
 |[],_,_=>PSs.imp jeS λD σ H ⟨ς,G,k,st,q,fin⟩=>fin ς σ G H st (Fr.refl _ _) q
 |.asg i e::r,q,sts=>by
  simp only[YbB,Yap]at q;have q1:(okN c i&&decide (i≠n)&&okHV T.cs c e)=true:=q.1;refine PSs.imp (jdC (h.asg (ba (ba q1).1).1 (of_decide_eq_true (ba (ba q1).1).2) (ba q1).2 (qh sts)) (h.stmts q.2 sts.tail)) λD σ H ⟨ς,G,k,st,hq,fin⟩=>?_;exact⟨ς,G,λς1 G1=>hsH x r ς1 G1 k,st,hq,λς' σ' G' H' st' f q'=>⟨ς',G',k,st',q',λς2 σ2 G2 H2 st2 f2 q2=>fin ς2 σ2 G2 H2 st2 (f.trans f2) q2⟩⟩
 |.ifa kk a as i e::r,q,sts=>by
  simp only[YbB,Yap]at q;have q1:(okHL T.cs c a.2&&jcF T.cs c as&&okN c i&&decide (i≠n)&&okHV T.cs c e)=true:=q.1;have p1:=jmo (pos:=(qh sts).pos) (h.cond kk a as (q0 (qh sts)) (ba (ba (ba (ba q1).1).1).1).1 (ba (ba (ba (ba q1).1).1).1).2).2 (jkv (h.asg (ba (ba (ba q1).1).1).2 (of_decide_eq_true (ba (ba q1).1).2) (ba q1).2 (qh (qa (qh sts))))) jeS;refine PSs.imp (jdC p1 (h.stmts q.2 sts.tail)) λD σ H ⟨ς,G,k,st,hq,fin⟩=>?_;have nxt:∀ς' σ' G' H',HSt X n ea C dx x σ' H' ς' G'->Fr H G H' G'->hsH x r ς' G' k->hS X n ea C dx x r D σ' H':=λς' σ' G' H' st' f q'=>⟨ς',G',k,st',q',λς2 σ2 G2 H2 st2 f2 q2=>fin ς2 σ2 G2 H2 st2 (f.trans f2) q2⟩;have hq':(match jbx x ς kk a as with|some true=>hvH x ς e G λu G1=>hsH x r (ς.set i (some u)) G1 k|some false=>hsH x r ς G k|none=>False):=hq
  split at hq'
  ·rename_i ec;refine⟨ς,G,true,st,ec,λH' hr f=>?_⟩;refine iteT ?_;exact⟨ς,G,λς1 G1=>hsH x r ς1 G1 k,st.fr hr f,hq',λς' σ' G' H'' st' f' q'=>nxt ς' σ' G' H'' st' (f.trans f') q'⟩
  ·rename_i ec;refine⟨ς,G,false,st,ec,λH' hr f=>?_⟩;refine iteF ?_;exact nxt ς σ G H' (st.fr hr f) f hq'
  ·exact hq'.elim
end
theorem SR.hide {K:Yaa}{H:Hp}{ς:Sg}{σ:St}(h:SR K H ς σ)(n:Nat)(o:Option V):SR K H (ς.set n none) (σ.set n o):=by
 refine⟨by simp[h.1],λi u e=>?_⟩
 by_cases z:i=n
 ·subst z;rw[List.getElem?_set]at e;simp only[if_true]at e;split at e<;>cases e
 ·rw[YaU (Ne.symm z)]at e ⊢;exact h.2 i u e
section
variable {T:Tab}{k:Nat}{X:Cx}{c:Ctx}
theorem s_try {n m:Nat}{b:List Stmt}{hs:List HS}{sts:List Stmt}{tb:US}{pt ph pos:Pos}(C:Cos T k X c)(hm:decide (m=0)=true)(hg:glo c (clsN m)=true)(hn:decide (n<c.N.length)=true)(hl:kd c (nmA c n) .local=true)(hd1:(nmA c n==("__debug__" : Str))=false)(hd2:(nmA c n==("__classdict__" : Str))=false)
  (hne:hs.isEmpty=false) (hok:hs.all (okHS T.cs c n)=true) (hb:∀(pins:List (Addr×Obj)) (xe:Value->Shared->Prop),Yeu (model X.prog X.w) X.A X.env xe->PSs (X.tryC pins xe) b (lS (X.tryC pins xe) tb)) :
  PS X (.Try b [.ExceptHandler (some (.Name (clsN m) pt)) (some (nmA c n)) (jeK c n hs sts) ph] [] [] pos)
   (lS X λD ς G=>tb { D with ex:=λx ς1 G1=>(m=0\/x.c=m)/\hsH x hs (ς1.set n none) G1 λς2 G2=>D.nx (ς2.set n none) G2 } ς G):=by
 intro pins s σ H D I ⟨De,ς,G,hς,hG,h0,ld⟩;obtain⟨s0,sr,hse⟩:∃s0 sr,jeK c n hs sts=s0::sr:=by
  cases hs with
  |nil=>cases hne
  |cons a r=>exact⟨_,_,rfl⟩
 have nd:X.N.Nodup:=by rw[C.hN];exact C.nd
 have hi:X.N[n]?=some (nmA c n):=C.toCok.nm hn;have hlc:=C.loc _ hl;obtain⟨gl1,gl2⟩:=C.toCok.gl hg
 let XT:Value->Shared->Prop:=λe s₁=>wpAny (model X.prog X.w) X.A (Ygi e X.env) (λ_ s₂=>wpAny (model X.prog X.w) X.A (Yem e none) (λ_ s₃=>wpAny (model X.prog X.w) X.A (handleBy e X.env [.ExceptHandler (some (.Name (clsN m) pt)) (some (nmA c n)) (jeK c n hs sts) ph]) (SP X pins D) X.xe s₃) X.xe s₂) X.xe s₁
 have main:∀(pins':List (Addr×Obj)) (e:Value) (s':Shared) (x:XV) ς' σ' G' H',Inv (X.tryC pins XT) pins' σ' H' s'->SR X.K H' ς' σ'->XAt (X.tryC pins XT) H' s' e x->HR X.K H' G'->Fr H G H' G'->((m=0\/x.c=m)/\hsH x hs (ς'.set n none) G' λς2 G2=>De.nx (ς2.set n none) G2)->XT e s':=by
  intro pins' e s' x ς' σ' G' H' I' sr' xat hr' f' ⟨hmx,hq⟩;obtain⟨ea,C0,dx,rfl,l,xd⟩:=xat;have xd0:=xd;obtain⟨x1,x2,xc,lx,hlx,hnx,rx⟩:=xd0;have I0:Inv (X.tryC pins XT) [] σ' H' s':=I'.pins_of λp hp=>absurd hp (by simp)
  refine jhq (X:=X.tryC pins XT) (E:=X.xe) I0 C.stk.1 C.stk.2 l λh' J l'=>?_;refine wpAny_handleBy_cons ?_ (by intro z;cases z)
  refine codeAny_handlers_test ?_;have J':Inv ((X.tryC pins XT).inH (.ref ea) []) [] σ' H' { s' with heap:=h' }:=J.hIn λq hq=>absurd hq (by simp)
  have fin:∀s2:Shared,s2={ s' with heap:=h' }->codeAny (model X.prog X.w) (X.A.mark (some (.ref ea))) (Code.handlers (.ref ea) [.ExceptHandler none (some (nmA c n)) (jeK c n hs sts) ph] X.env)
    (λr s₂=>match r with
     |.ok f=>wpAny (model X.prog X.w) X.A (do bindName X.env (nmA c n) .none;unbindBehindTheSuite X.env (nmA c n) ph) (λ_ s₃=>SP X pins D f s₃) X.xe s₂
     |.error y=>cameBackBy (model X.prog X.w) X.A X.env X.xe y s₂) s2:=by
   intro s2 es2;subst es2;rw[hse];refine codeAny_handlers_suite_as ?_;refine jet (X:=X.tryC pins XT) J l' λh2 J2 l2=>?_;obtain⟨oe,g1,g2,g3,⟨vs,g4⟩,g5⟩:=l2.pinned J2;have J3:Inv ((X.tryC pins XT).inH (.ref ea) [(ea,oe)]) [] σ' H' { s' with heap:=h2 }:=J2.hIn g5
   refine jcn (X:=(X.tryC pins XT).inH (.ref ea) [(ea,oe)]) (v:=.ref ea) J3 nd hi (.inl hlc) rfl (λs3 J4=>?_) (.inr hlc);have hc:HC T ((X.tryC pins XT).inH (.ref ea) [(ea,oe)]) c n ea C0 dx x:=⟨C.hN,C.nd,C.loc,C.cel,C.fre,C.glb,C.blt,C.cls,xc,x1,x2,⟨oe,vs,by simp only[Cx.inH];exact Yaz _ (List.mem_singleton.mpr rfl),g2,g3,g4⟩,C.mgK,of_decide_eq_true hn,hl,hd1,hd2⟩
   have hσ:n<σ'.length:=by
    have:=J3.len;rw[this];exact(List.getElem?_eq_some_iff.mp hi).1
   have hst:HSt ((X.tryC pins XT).inH (.ref ea) [(ea,oe)]) n ea C0 dx x (σ'.set n (some (.ref ea))) H' (ς'.set n none) G':=⟨sr'.hide n _,hr',by rw[Ybg hσ],xd⟩
   rw[<- hse];refine YaK (hc.stmts hok sts [] s3 _ H' ⟨λσ2 H2=>D.nx (σ2.set n none) H2,λ_ _=>False,λ_ _=>False,λ_ _=>False⟩ J4 ⟨_,G',_,hst,hq,λς2 σ2 G2 H2 st2 f2 q2=>?_⟩) (λfl s4 q4=>?_) λ_ _ z=>Ybn z
   ·exact ld.nx _ _ G2 H2 (st2.sr.hide n none) st2.hr (f'.trans f2) q2
   ·cases fl with
    |next=>
     obtain⟨σ2,H2,J5,q5⟩:=q4;exact jhk (X:=X.tryC pins XT) (J5.hOut J.ok) nd hi hlc λs5 J6=>⟨σ2.set n none,H2,J6.tryOut,q5⟩
    |brk=>obtain⟨_,_,_,z⟩:=q4;exact z.elim
    |cont=>obtain⟨_,_,_,z⟩:=q4;exact z.elim
    |ret u=>obtain⟨_,_,_,_,_,z⟩:=q4;exact z.elim
  obtain⟨oe,vs,he,hcl,_⟩:=l'.ob;by_cases m0:m=0
  ·obtain⟨D0,N0,fI,mN,mD,B,_⟩:=xc.ex;have hmg:X.mg (clsN m)=some (.ref D0):=by rw[m0];exact C.mgK _ _ B.m
   refine jb4 J' gl1 hmg ?_ gl2;refine jgm (X:=X) xc B J'.kIn he hcl ?_;exact fin _ rfl
  ·exact absurd (of_decide_eq_true hm) m0
 refine wpAny_Try_except (YaK (hb pins XT Yfb [] s σ H ⟨D.nx,D.rt,D.bk,D.ct⟩ I.tryIn ⟨_,ς,G,hς,hG,h0,⟨ld.nx,ld.rt,main⟩⟩) (λfl s1 q1=>?_) λe s1 z=>z);cases fl with
 |next=>
  obtain⟨σ',H',J,q⟩:=q1;exact YdN ⟨σ',H',J.tryOut,q⟩
 |brk=>obtain⟨σ',H',J,q⟩:=q1;exact⟨σ',H',J.tryOut,q⟩
 |cont=>obtain⟨σ',H',J,q⟩:=q1;exact⟨σ',H',J.tryOut,q⟩
 |ret u=>obtain⟨v,σ',H',J,r,q⟩:=q1;exact⟨v,σ',H',J.tryOut,r,q⟩
end
section
variable {T:Tab}{k:Nat}
theorem jk6 (b:Blt):bltN b∈jbR:=by cases b<;>decide
theorem jlU:∀n∈jgH,YbK (Ycj n)=some (.type n)/\Ycj n∈jbR/\Ycj n ≠ "__name__" := by decide +kernel
abbrev SE (T:Tab)(k:Nat)(X:Cx)(c:Ctx)(ir:E)(h:Expr):Prop:=PE X (unE T c ir h) (lE X (den T.gs (jac T k) ir).1)/\PT X (unE T c ir h) (lT X (den T.gs (jac T k) ir).2)
section
variable {X:Cx}{c:Ctx}
theorem tru {e:Expr}{t:UE}(h:PE X e (lE X t))(hp:∀whole,isTrue e X.env whole=(do let v <- whole;standAt e.pos;holding [v] (truthy v))):PE X e (lE X t)/\PT X e (lT X (truT t)):=⟨h,jlL h hp⟩
section
variable {a b:Expr}{rest:List Expr}{pos:Pos}{p q:UE×UT}
theorem jmb (ha:PE X a (lE X p.1)/\PT X a (lT X p.2))(hb:PE X (.BoolOp .And (b::rest) pos) (lE X q.1)/\PW X (.BoolOp .And (b::rest) pos) (lT X q.2)) :
  PE X (.BoolOp .And (a::b::rest) pos) (lE X (comb true p q).1)/\PW X (.BoolOp .And (a::b::rest) pos) (lT X (comb true p q).2):=⟨joq ha.1 hb.1,jlT ha.2 hb.2⟩
theorem joG (ha:PE X a (lE X p.1)/\PT X a (lT X p.2))(hb:PE X (.BoolOp .Or (b::rest) pos) (lE X q.1)/\PW X (.BoolOp .Or (b::rest) pos) (lT X q.2)) :
  PE X (.BoolOp .Or (a::b::rest) pos) (lE X (comb false p q).1)/\PW X (.BoolOp .Or (a::b::rest) pos) (lT X (comb false p q).2):=⟨u_or ha.1 hb.1,jof ha.2 hb.2⟩
end
theorem se_v {i:Nat}{h:Expr}(C:Cok T k X c)(q:okE T c (.v i) h=true):SE T k X c (.v i) h:=tru (jn9 (C.nm (ba (ba (ba q).1).1).1) (C.vis (ba (ba (ba q).1).1).2) (bn (ba (ba q).1).2) (bn (ba q).2)) λ_=>rfl
theorem jl6 {i:Nat}{y0 a b:Str}{es:List Expr}{ts:UA}{k0 k1 k2 k3:Nat}{p0 p1 p2 p3 p4 p5 p6 p7 p8:Pos}(C:Cok T k X c)(q:(decide (i<c.N.length)&&(kd c (nmA c i) .local||kd c (nmA c i) .cell||kd c (nmA c i) .free) && !(nmA c i==("__debug__" : Str)) && !(nmA c i==("__classdict__" : Str)))=true)
  (hy0:(y0.length==0)=false) (hab:(a==b)=false) (hl:(a.length==0&&b.length==0)=false) (hline:(p4.endLine==p8.line)=true) (hr:PA X es (lA X ts)) :
  PA X (.BinOp (.Constant (.str y0) k0 p0) .Add (.Name (nmA c i) p1) p2::.Call (.Attribute (.Name (nmA c i) p3) "replace" p4) [.Constant (.str a) k1 p5,.Constant (.str b) k2 p6,.Constant (.int 1) k3 p7] [] p8::es)
   (lA X λς G Q E=>slot ς i λu=>repU y0 b u λz w=>ts ς G (λus G2=>Q (.str z::.str w::us) G2) E):=
 joe (C.nm (ba (ba (ba q).1).1).1) (C.vis (ba (ba (ba q).1).1).2) (bn (ba (ba q).1).2) (bn (ba q).2) hy0 hab hl hline hr
theorem se_g {n:Nat}{h:Expr}(C:Cok T k X c)(q:okE T c (.g n) h=true):SE T k X c (.g n) h:=by
 have h1:=of_decide_eq_true (ba (ba q).1).1;have h2:=of_decide_eq_true (ba (ba q).1).2;have hn:T.gn[n]?=some (T.gn.getD n ""):=by rw[YaS,YaI h2];rfl
 obtain⟨v,w,m,r,ru⟩:=C.gls n _ T.gs[n] hn (by simp[h1])
 obtain⟨g1,g2⟩:=C.gl (ba q).2;refine tru (PE.imp (u_gl (u:=T.gs[n]) g1 m r ru g2) λσ H Q0 ⟨ς,G,Q,E,hς,hG,h,lv,lx⟩=>⟨ς,G,Q,E,hς,hG,?_,lv,lx⟩) λ_=>rfl;have h':glU T.gs n λu=>Q u G:=h;unfold glU at h';rw[YaI h1]at h';exact h'
theorem joF {n:String}{h:Expr}(C:Cok T k X c)(q:okE T c (.ty n) h=true):SE T k X c (.ty n) h:=by
 obtain⟨g1,g2⟩:=C.gl (ba q).2;obtain⟨t1,t2,t3⟩:=jlU n (by simpa using (ba q).1)
 exact tru (u_ty g1 (C.blt _ t2) t1 t3 g2) λ_=>rfl
theorem jl7 {es:Es}{h:Expr}{trs:List (TE×TE)}(h1:PPs X h.pos (unK T c es (dk h)) (unV T c es (cl h)) trs)(h2:lD X (denD T.gs (jac T k) es) trs)(h3:(unK T c es (dk h)).all (·.isSome)=true)(h4:(unK T c es (dk h)).length=(unV T c es (cl h)).length)
  (h5:(unK T c es (dk h)).length<=15):SE T k X c (.dic es) h:=by
 refine tru ?_ λ_=>rfl
 match es,h1,h2,h3,h4,h5 with
 |.nil,_,_,_,_,_=>exact PE.imp jlP λσ H Q0 ⟨ς,G,Q,E,hς,hG,h,lv,lx⟩=>⟨ς,G,Q,E,hς,hG,(show([]:List (Key×U)).length<=15/\newO G (.dK (jcW [])) Q from h).2,lv,lx⟩
 |.cons _ .nil,_,_,_,_,_=>exact λpins s σ H Q0 I ⟨ς,G,Q,E,hς,hG,h,lv,lx⟩=>(show False from h).elim
 |.cons d (.cons f es),h1,h2,h3,h4,h5=>exact jol h1 h2 h3 h4 (λz=>nomatch z) h5
theorem jkq {n:Nat}{es:Es}{h:Expr}(C:Cok T k X c)(q:okE T c (.call n es) h=true)(ha:PA X (unEs T c es (cl h)) (lA X (jau T.gs (jac T k) es))):SE T k X c (.call n es) h:=by
 refine tru ?_ λ_=>rfl;have hn:=of_decide_eq_true (ba (ba q).1).1;have hd':T.funs[n]?=some T.funs[n]:=by simp[hn]
 have hx:T.funs[n].name=fnN T n:=by unfold fnN;rw[hd']
 match es,ha with
 |.nil,_=>exact jka C hd' hx (ba (ba q).1).2
 |.cons d es,ha=>exact jlS C hd' hx (ba (ba q).1).2 ha (jaj (jam d _) _ _) (jbT es _ _ _).1
theorem jl8 {b:Blt}{es:Es}{h:Expr}(C:Cok T k X c)(q:okE T c (.blt b es) h=true)(ha:PA X (unEs T c es (cl h)) (lA X (jau T.gs (jac T k) es))):SE T k X c (.blt b es) h:=by
 refine tru ?_ λ_=>rfl;obtain⟨g1,g2⟩:=C.gl (ba (ba q).1).2
 match es,ha,q with
 |.nil,_,q=>exact absurd (of_decide_eq_true (ba (ba q).1).1) (Ya6 0)
 |.cons d es,ha,_=>exact jon (jnB C.room C.calm b) g1 (C.blt _ (jk6 b)) ha (jaj (jam d _) _ _) (jbT es _ _ _).1
theorem jkp {m:Mth}{o:E}{es:Es}{h:Expr}(q:okE T c (.meth m o es) h=true)(ho:PE X (unE T c o (c0 (c0 h))) (lE X (den T.gs (jac T k) o).1))(ha:PA X (unEs T c es (cl h)) (lA X (jau T.gs (jac T k) es))):SE T k X c (.meth m o es) h:=by
 refine tru ?_ λ_=>rfl;have h6:=(ba q).2;have h5:=of_decide_eq_true (ba (ba q).1).2;have h4:=(ba (ba (ba q).1).1).2
 match es,ha,h5 with
 |.nil,_,_=>exact jj8 (jjA m) ho (jid h6 _ _ _) h4
 |.cons d es,ha,h5=>
  refine jlM (jjA m) ho ha (jid h6 _ _ _) ?_ h4 (jaj (jam d _) _ _) (jbT es _ _ _).1;have e:=(jbT (T:=T) (c:=c) (.cons d es) (cl h) X.env h.pos).2;show((backTo h.pos (Yar (unEs T c (.cons d es) (cl h)) X.env)).all (λx=>!x.1)&&_&&decide ((unEs T c (.cons d es) (cl h)).length+0+0<30))=true;rw[e,jjg];exact decide_eq_true h5
theorem s_r2 {a b:E}{h:Expr}{tg:Expr}(C:Cok T k X c)(g:glo c "range" = true)(ha:SE T k X c a (hd (cl h)))(hb:SE T k X c b (hd (cl h).tail)):PI X tg (unI T c (.r2 a b) h) (lI X (denI T.gs (jac T k) (.r2 a b))):=
 u_r2 (C.gl g).1 (C.blt _ (by decide)) ha.1 hb.1 (by rw[jaj (jam a _),jaj (jam b _)];rfl) (jaj (jam b _) _ _)
theorem jl9 {d:E}{e:Expr}(h:PT X e (lT X (den T.gs (jac T k) d).2)):PIfs X [e] (lT0 X.K (denC T.gs (jac T k) (.cons d .nil))):=by
 refine PIfs.imp (jkG (lT0.of h)) λσ H Q0 ⟨ς,G,Q,h1,h2,h3,h4⟩=>⟨ς,G,λb G'=>Q b G',h1,h2,?_,h4⟩;have h3':(den T.gs (jac T k) d).2 ς G (λb G1=>if b=true then Q true G1 else Q false G1) (λ_ _=>False):=h3
 have e:(λ(b:Bool) (G1:Gp)=>if b=true then Q true G1 else Q false G1)=λb G'=>Q b G':=by
  funext b G1;cases b<;>simp
 rw[e]at h3';exact h3'
theorem jma:PIfs X [] (lT0 X.K (denC T.gs (jac T k) .nil)):=PIfs.imp jkH λσ H Q0 ⟨ς,G,Q,h1,h2,h3,h4⟩=>h4 true G H h2 (Fr.refl _ _) h3
theorem jnb:∀(es:Es) (hs:List Expr),2*(unK T c es hs).length<=jb3 es
 |.nil,_=>Yaf _
 |.cons _ .nil,_=>Ybw _
 |.cons _ (.cons _ es),hs=>by
  have:=jnb es hs.tail;show 2*((unK T c es hs.tail).length+1)<=jb3 es+1+1;omega
theorem k_le {es:Es}{hs:List Expr}(h:jb3 es<=30):(unK T c es hs).length<=15:=by
 have:=jnb (T:=T) (c:=c) es hs;omega
end
mutual
theorem sE:∀(ir:E) {X:Cx} {c:Ctx} {h:Expr},Cok T k X c->okE T c ir h=true->SE T k X c ir h
 |.v _,_,_,_,C,q=>se_v C q
 |.non,_,_,_,_,_=>tru (jbU (u:=.non) jmx λ_=>rfl) λ_=>rfl
 |.bl b,_,_,_,_,_=>tru (jbU (u:=.bl b) jmz λ_=>rfl) λ_=>rfl
 |.int i,_,_,_,_,_=>tru (jbU (u:=.int i) jjs λ_=>rfl) λ_=>rfl
 |.str x,_,_,_,_,_=>tru (jbU (u:=.str x) jjq λ_=>rfl) λ_=>rfl
 |.g _,_,_,_,C,q=>se_g C q
 |.ty _,_,_,_,C,q=>joF C q
 |.bin o a b,_,_,_,C,q=>tru (joo (jmH o) (sE a C (ba q).1).1 (sE b C (ba q).2).1) λ_=>rfl
 |.neg a,_,_,_,C,q=>tru (joh (sE a C q).1) λ_=>rfl
 |.not a,_,_,_,C,q=>⟨jog (sE a C q).1,jjh (sE a C q).2⟩
 |.bop k a es,_,_,h,C,q=>let r:=sB es k C (sE a C (ba q).1) (ba q).2 h.pos;⟨r.1,r.2.pt⟩
 |.cmp o a b,_,_,_,C,q=>⟨jom (jdq C.room o) (sE a C (ba (ba q).1).1).1 (sE b C (ba (ba q).1).2).1 (bn (ba q).2),jlQ (jdq C.room o) (sE a C (ba (ba q).1).1).1 (sE b C (ba (ba q).1).2).1 (bn (ba q).2)⟩
 |.cmp2 o p a b d,_,_,_,C,q=>⟨jlR (jdq C.room o) (jdq C.room p) (sE a C (ba (ba (ba q).1).1).1).1 (sE b C (ba (ba (ba q).1).1).2).1 (sE d C (ba (ba q).1).2).1 (bn (ba q).2),
   PT.imp (jj9 (jdq C.room o) (jdq C.room p) (sE a C (ba (ba (ba q).1).1).1).1 (sE b C (ba (ba (ba q).1).1).2).1 (sE d C (ba (ba q).1).2).1 (bn (ba q).2)) λ_ _ _ ⟨ς,G,Q,E,hς,hG,h,lv,lx⟩=>⟨ς,G,Q,E,hς,hG,h,lv,lx⟩⟩
 |.ife t a b,_,_,_,C,q=>⟨jok (sE t C (ba (ba q).1).1).2 (sE a C (ba (ba q).1).2).1 (sE b C (ba q).2).1,jlO (sE t C (ba (ba q).1).1).2 (sE a C (ba (ba q).1).2).2 (sE b C (ba q).2).2⟩
 |.tup es,_,_,_,C,q=>tru (joa (sEs es C q)) λ_=>rfl
 |.lst es,_,_,_,C,q=>tru (jlN (sEs es C q)) λ_=>rfl
 |.dic es,_,_,h,C,q=>let ⟨_,h1,h2,h3,h4⟩:=sD es C h.pos (ba q).1;jl7 h1 h2 h3 h4 (k_le (of_decide_eq_true (ba q).2))
 |.dicT,_,_,_,_,q=>nomatch q
 |.ix a b,_,_,_,C,q=>tru (u_ix C.hu (sE a C (ba q).1).1 (sE b C (ba q).2).1 (jlk (jam b _))) λ_=>rfl
 |.sl a lo hi,_,_,_,C,q=>tru (u_sl (sE a C (ba (ba q).1).1).1 (sO lo C (ba (ba q).1).2) (sO hi C (ba q).2)) λ_=>rfl
 |.rev a b,_,_,_,C,q=>tru (jod (sE a C (ba q).1).1 (sE b C (ba q).2).1) λ_=>rfl
 |.call _ es,_,_,_,C,q=>jkq C q (sEs es C (ba q).2)
 |.app _ _,_,_,_,_,_=>⟨λ_ _ _ _ _ _ ⟨_,_,_,_,_,_,h,_⟩=>(show False from h).elim,λ_ _ _ _ _ _ ⟨_,_,_,_,_,_,h,_⟩=>(show False from h).elim⟩
 |.blt _ es,_,_,_,C,q=>jl8 C q (sEs es C (ba q).2)
 |.meth _ o es,_,_,_,C,q=>jkp q (sE o C (ba (ba (ba (ba q).1).1).1).1).1 (sEs es C (ba (ba (ba (ba q).1).1).1).2)
 |.lc _ t it ifs d,_,_,_,C,q=>let S:=C.comp (ba (ba (ba (ba (ba (ba q).1).1).1).1).1).1
   tru (u_lc C.calm S.1 (sI it t _ _ C (ba (ba (ba (ba q).1).1).1).2).1 (ba (ba (ba (ba (ba (ba q).1).1).1).1).1).2 (λcl A s₀ H₀ fp=>sTg (S.2 cl A s₀ H₀ fp) t _ (ba (ba (ba (ba (ba q).1).1).1).1).2)
    (λcl A s₀ H₀ fp=>sC ifs (S.2 cl A s₀ H₀ fp) (of_decide_eq_true (ba (ba q).1).2) (ba (ba (ba q).1).1).2) (λcl A s₀ H₀ fp=>lE0.of (sE d (S.2 cl A s₀ H₀ fp) (ba q).2).1) (sI it t ⟨[],[]⟩ e0 C (ba (ba (ba (ba q).1).1).1).2).2) λ_=>rfl
 |.lc2 _ _ _ _ _ _ _ _,_,_,_,_,q=>nomatch q
 |.fst _,_,_,_,_,q=>nomatch q
 |.lrp d i _ _ _ es,_,_,_,C,q=>tru (jlN (jcu (sE d C (ba (ba (ba (ba (ba (ba q).1).1).1).1).1).1).1 (jl6 C (ba (ba (ba (ba (ba q).1).1).1).1).2 (bn (ba (ba (ba (ba q).1).1).1).2) (bn (ba (ba (ba q).1).1).2) (bn (ba (ba q).1).2) (ba q).2 (sEs es C (ba (ba (ba (ba (ba (ba q).1).1).1).1).1).2)) (jaj (jam d _) _ _))) λ_=>rfl
 |.sset _,_,_,_,_,q=>nomatch q
 |.mkD _,_,_,_,_,q=>nomatch q
 |.maxD _,_,_,_,_,q=>nomatch q
 |.minD _,_,_,_,_,q=>nomatch q
 |.mkL d,_,_,_,C,q=>tru (joj (C.gl (ba q).1).1 (C.blt _ (by decide)) (sE d C (ba q).2).1 (jaj (jam d _) _ _)) λ_=>rfl
 |.mkT d,_,_,_,C,q=>tru (joi (C.gl (ba q).1).1 (C.blt _ (by decide)) (sE d C (ba q).2).1 (jaj (jam d _) _ _)) λ_=>rfl
 |.rngL _,_,_,_,_,q=>nomatch q
 |.rngT _,_,_,_,_,q=>nomatch q
 |.rngL2 _ _,_,_,_,_,q=>nomatch q
theorem sO:∀(ir:Eo) {X:Cx} {c:Ctx} {h:Expr},Cok T k X c->okO T c ir h=true->PO X (unO T c ir h) (lO X (denO T.gs (jac T k) ir))
 |.no,_,_,_,_,_=>u_no
 |.so d,_,_,_,C,q=>u_so (sE d C q).1
theorem sEs:∀(ir:Es) {X:Cx} {c:Ctx} {hs:List Expr},Cok T k X c->okEs T c ir hs=true->PA X (unEs T c ir hs) (lA X (jau T.gs (jac T k) ir))
 |.nil,_,_,_,_,_=>jgF
 |.cons d ir,_,_,_,C,q=>jcu (sE d C (ba q).1).1 (sEs ir C (ba q).2) (jaj (jam d _) _ _)
theorem sB:∀(ir:Es) (b:Bool) {X:Cx} {c:Ctx} {hs:List Expr} {a:Expr} {p:UE×UT},Cok T k X c->PE X a (lE X p.1)/\PT X a (lT X p.2)->okEs T c ir hs=true->∀pos:Pos,
  PE X (.BoolOp (boU b) (a::unEs T c ir hs) pos) (lE X (denB T.gs (jac T k) b p ir).1)/\PW X (.BoolOp (boU b) (a::unEs T c ir hs) pos) (lT X (denB T.gs (jac T k) b p ir).2)
 |.nil,true,_,_,_,_,_,_,ha,_,_=>⟨jfH ha.1,pw_and1 ha.2⟩
 |.nil,false,_,_,_,_,_,_,ha,_,_=>⟨jfH ha.1,pw_or1 ha.2⟩
 |.cons d ir,true,_,_,_,_,_,C,ha,q,pos=>jmb ha (sB ir true C (sE d C (ba q).1) (ba q).2 pos)
 |.cons d ir,false,_,_,_,_,_,C,ha,q,pos=>joG ha (sB ir false C (sE d C (ba q).1) (ba q).2 pos)
theorem sC:∀(ir:Es) {X:Cx} {c:Ctx} {hs:List Expr},Cok T k X c->jb3 ir<=1->okEs T c ir hs=true->PIfs X (unEs T c ir hs) (lT0 X.K (denC T.gs (jac T k) ir))
 |.nil,_,_,_,_,_,_=>jma
 |.cons d .nil,_,_,_,C,_,q=>jl9 (sE d C (ba q).1).2
 |.cons _ (.cons _ es),_,_,_,_,l,_=>absurd l (by show ¬(jb3 es+1+1<=1);omega)
theorem sD:∀(ir:Es) {X:Cx} {c:Ctx} {hs gs:List Expr},Cok T k X c->(p:Pos)->okD T c ir hs gs=true->∃trs,PPs X p (unK T c ir hs) (unV T c ir gs) trs/\lD X (denD T.gs (jac T k) ir) trs/\(unK T c ir hs).all (·.isSome)=true/\(unK T c ir hs).length=(unV T c ir gs).length
 |.nil,_,_,_,_,_,_,_=>⟨[],jkz,jm4,rfl,rfl⟩
 |.cons d (.cons f ir),_,_,_,_,C,p,q=>let ⟨_,h1,h2,h3,h4⟩:=sD ir C p (ba q).2;⟨_,jiD (sE d C (ba (ba q).1).1).1 (sE f C (ba (ba q).1).2).1 h1,jk8 h2,h3,congrArg (·+ 1) h4⟩
 |.cons _ .nil,_,_,_,_,_,_,q=>nomatch q
theorem sI:∀(ir:It) (t:Tg) (ct:Ctx) (ht:Expr) {X:Cx} {c:Ctx} {h:Expr},Cok T k X c->okI T c t ir h=true->PI X (unTg ct t ht) (unI T c ir h) (lI X (denI T.gs (jac T k) ir))/\∀x,Ya2 (unI T c ir h) X.env x=pure x
 |.e d,_,_,_,_,_,_,C,q=>⟨u_ie (sE d C q).1,jbi (jam d _) _⟩
 |.r1 d,_,_,_,_,_,_,C,q=>⟨u_r1 (C.gl (ba q).1).1 (C.blt _ (by decide)) (sE d C (ba q).2).1 (jaj (jam d _) _ _),λ_=>rfl⟩
 |.r2 a b,_,_,_,_,_,_,C,q=>⟨s_r2 C (ba (ba q).1).1 (sE a C (ba (ba q).1).2) (sE b C (ba q).2),λ_=>rfl⟩
 |.enum _,_,_,_,_,_,_,_,q=>nomatch q
 |.dk _,_,_,_,_,_,_,_,q=>nomatch q
 |.s d,_,_,_,_,_,_,C,q=>⟨u_is (sE d C q).1,jbi (jam d _) _⟩
end
end
section
variable {c:Ctx}{env:Env}
noncomputable def swF (sb:Bool)(names:List Str)(bk:ScopeKind)(ts vs:List Expr):Sem (Option (List Str)):=
 if (!(ts.length==2||ts.length==3)||vs.length != ts.length||bk != .function)=true then pure none
 else if sb=true then pure none
 else if (names.length != ts.length||names.eraseDups.length != names.length)=true then pure none
 else if vs.all (foldedForSure 8)=true then pure none
 else if vs.all (constantsAlone 8)=true then do unsupported "assign.tuple-of-constant-expressions:order-of-the-stores";pure (some names)
 else pure (some names)
noncomputable def jdy (env:Env)(ts:List Expr):List Str:=ts.filterMap fun
  |.Name id pos=>if env.kindOf id==some .local&&pos.line==jjm ts then some id else none
  |_=>none
theorem joA {ts vs:List Expr}{a b:Nat}{p q:Pos}:Ybv [.Tuple ts a p] (.Tuple vs b q) env=swF (vs.any jhA) (jdy env ts) env.blockKind ts vs:=by
 have e1:jhA=fun|.Starred ..=>true|_=>false:=by funext e;cases e<;>rfl
 with_unfolding_all rfl
theorem jip (hk:∀x,env.kindOf x=c.sc.lookup x)(ts:List Expr):jdy env ts=jaJ c ts:=by
 unfold jaJ jdy;congr 1;funext e;cases e<;>first|rfl|(dsimp only;rw[hk])
theorem jdY (hk:∀x,env.kindOf x=c.sc.lookup x)(hb:env.blockKind=.function){ts vs:List Expr}{a b:Nat}{p q:Pos}(h:jbX c ts vs=true):Ybv [.Tuple ts a p] (.Tuple vs b q) env=pure none:=by
 rw[joA,jip hk,hb];unfold swF;unfold jbX at h;by_cases h1:(!(ts.length==2||ts.length==3)||vs.length != ts.length)=true
 ·rw[if_pos (by rw[h1];rfl)]
 ·have h1':(!(ts.length==2||ts.length==3)||vs.length != ts.length)=false:=by simpa using h1
  rw[h1']at h;rw[if_neg (by rw[h1'];decide)]
  simp only[Ye5,Yap,Ycu]at h;obtain⟨h2,h3⟩:=h;rw[if_neg (by rw[h2];decide)]
  by_cases h4:((jaJ c ts).length != ts.length||(jaJ c ts).eraseDups.length != (jaJ c ts).length)=true
  ·rw[if_pos h4]
  ·rw[if_neg h4];have h4':((jaJ c ts).length != ts.length||(jaJ c ts).eraseDups.length != (jaJ c ts).length)=false:=by simpa using h4
   rw[h4']at h3;rw[if_pos (by simpa using h3)]
theorem jio (hk:∀x,env.kindOf x=c.sc.lookup x)(hb:env.blockKind=.function){elt:Expr}{gs:List YbP}{s:Scope}{p py:Pos}{y:Str}{l:Nat}(h:lcSw c y py p s=true) :
  Ycl (.ListComp elt gs s p) (some (.Name y py)) l env=pure true:=by
 unfold lcSw at h;simp only[Yap]at h;unfold Ycl;dsimp only;show(pure (env.blockKind == .function&&env.kindOf y==some .local&&py.line==p.line && !(s.names.any λ(n,k)=>n==y&&(k == .local||k == .cell))):Sem Bool)=pure true;rw[hb,hk,h.1.1,h.1.2,h.2];rfl
theorem jfx (hk:∀x,env.kindOf x=c.sc.lookup x){elt:Expr}{gs:List YbP}{s:Scope}{p py:Pos}{y:Str}{l:Nat}(h:(c.sc.lookup y==some .local)=false) :
  YbE [.Name y py] (.ListComp elt gs s p) l env=pure false:=by
 show(pure (env.blockKind == .function&&env.kindOf y==some .local&&py.line==p.line && !(s.names.any λ(n,k)=>n==y&&(k == .local||k == .cell))):Sem Bool)=pure false;rw[hk,h];simp
end
section
variable {T:Tab}{k:Nat}
theorem Cos.kindOf {X:Cx}{c:Ctx}(C:Cos T k X c):∀x,X.env.kindOf x=c.sc.lookup x:=λx=>by
 unfold Env.kindOf;rw[C.sc]
theorem Cos.block {X:Cx}{c:Ctx}(C:Cos T k X c):X.env.blockKind=.function:=by
 unfold Env.blockKind;rw[C.kind];rfl
section
variable {X:Cx}{c:Ctx}
theorem jlZ {t:Tg}{d:E}{h:Stmt}(C:Cos T k X c)(q:okS T c (.asg t d) h=true)(hs:PE X (unE T c d (q0 h)) (lE X (den T.gs (jac T k) d).1)):PS X (unS T c (.asg t d) h) (lS X (denS T.gs (jac T k) (.asg t d))):=by
 have hg:=sTg C.toCok t (q1 h) (ba (ba q).1).2;have q3:=(ba q).2;have fin:YbE [unTg c t (q1 h)] (unE T c d (q0 h)) h.pos.line X.env=pure false/\Ybv [unTg c t (q1 h)] (unE T c d (q0 h)) X.env=pure none:=by
  cases t with
  |n i=>
   refine⟨?_,jn8 d _ _ _ _⟩;by_cases hl:isLc d=true
   ·cases d with
    |lc=>exact jfx C.kindOf (bn q3)
    |lc2=>exact jfx C.kindOf (bn q3)
    |_=>cases hl
   ·exact jj4 (by simpa using hl) _ _ _ _
  |t ts=>
   cases d with
   |lc=>cases q3
   |lc2=>cases q3
   |tup es=>exact⟨rfl,jdY C.kindOf C.block q3⟩
   |_=>exact⟨rfl,rfl⟩
 exact s_asg hs hg fin.1 fin.2 (jgE t _ _)
theorem jlY {ts:Tgs}{d:E}{h:Stmt}(C:Cos T k X c)(q:okS T c (.unp ts d) h=true)(hs:PE X (unE T c d (q0 h)) (lE X (den T.gs (jac T k) d).1)):PS X (unS T c (.unp ts d) h) (lS X (denS T.gs (jac T k) (.unp ts d))):=by
 have hg:=sTgs C.toCok ts (cl (q1 h)) (ba (ba q).1).2;have q3:=(ba q).2;have fin:YbE [unTg c (.t ts) (q1 h)] (unE T c d (q0 h)) h.pos.line X.env=pure false/\Ybv [unTg c (.t ts) (q1 h)] (unE T c d (q0 h)) X.env=pure none:=by
  cases d with
  |lc=>cases q3
  |lc2=>cases q3
  |tup es=>exact⟨rfl,jdY C.kindOf C.block q3⟩
  |_=>exact⟨rfl,rfl⟩
 exact s_unp C.calm hs hg (jcv ts _ X.env).1 (jcv ts _ X.env).2 (λus ς k q=>jeL q) fin.1 fin.2 (jgE (.t ts) (q1 h) _)
theorem jkh {i:Nat}{d:E}{h:Stmt}(C:Cos T k X c)(q:okS T c (.asgC i d) h=true):PS X (unS T c (.asgC i d) h) (lS X (denS T.gs (jac T k) (.asgC i d))):=by
 have qd:=(ba (ba (ba q).1).1);have hl:=(ba q).2;have hi:=C.nm (ba (ba q).1).2;have hy:=eq_of_beq (ba (ba hl).1).1;cases d with
 |lc pick t it ifs d=>
  have q1':=qd.2;have S:=C.toCok.comp (ba (ba (ba (ba (ba (ba q1').1).1).1).1).1).1;exact s_lc (by rw[C.hN];exact C.nd) hi (by rw[C.sc];exact hy) C.calm S.1 (sI it t _ _ C.toCok (ba (ba (ba (ba q1').1).1).1).2).1 (ba (ba (ba (ba (ba (ba q1').1).1).1).1).1).2
   (λcl A s₀ H₀ fp=>sTg (S.2 cl A s₀ H₀ fp) t _ (ba (ba (ba (ba (ba q1').1).1).1).1).2) (λcl A s₀ H₀ fp=>sC ifs (S.2 cl A s₀ H₀ fp) (of_decide_eq_true (ba (ba q1').1).2) (ba (ba (ba q1').1).1).2)
   (λcl A s₀ H₀ fp=>lE0.of (sE d (S.2 cl A s₀ H₀ fp) (ba q1').2).1) (jio C.kindOf C.block hl) (jj5 it _ _)
 |lc2 pick t it ifs t2 it2 ifs2 d=>exact Bool.noConfusion (show false=true from qd.2)
 |_=>cases qd.1
theorem jir {n:Nat}{es:Es}{h:Stmt}(C:Cos T k X c)(q:okS T c (.raise n es) h=true):PS X (unS T c (.raise n es) h) (lS X (denS T.gs (jac T k) (.raise n es))):=by
 have q':(okC T.cs c n&&decide (0<jb3 es)&&okEs T c es (cl (qr h)))=true:=q
 match es,q' with
 |.nil,q'=>exact absurd (of_decide_eq_true (ba (ba q').1).2) (Ya6 0)
 |.cons d es,q'=>exact s_raise C.toCok (ba (ba q').1).1 (sEs (.cons d es) C.toCok (ba q').2) (jaj (jam d _) _ _) (jbT es _ _ _).1
theorem Cos.tryC {pins:List (Addr×Obj)}{xe:Value->Shared->Prop}(C:Cos T k X c)(po:Yeu (model X.prog X.w) X.A X.env xe):Cos T k (X.tryC pins xe) c:=
 ⟨⟨C.hN,C.nd,C.loc,C.cel,C.fre,C.glb,C.room,C.calm,po,C.blt,C.fns,C.gls,C.room2,C.cls,C.mgK⟩,C.sc,C.kind,C.stk⟩
end
mutual
theorem sS:∀(ir:S) {X:Cx} {c:Ctx} {h:Stmt},Cos T k X c->okS T c ir h=true->PS X (unS T c ir h) (lS X (denS T.gs (jac T k) ir))
 |.pass,_,_,_,_,q=>nomatch q
 |.expr d,_,_,_,C,q=>s_expr (sE d C.toCok (ba q).1).1 (jj6 (bn (ba q).2) _ _ _)
 |.asg _ d,_,_,_,C,q=>jlZ C q (sE d C.toCok (ba (ba q).1).1).1
 |.asgC _ _,_,_,_,C,q=>jkh C q
 |.unp _ d,_,_,_,C,q=>jlY C q (sE d C.toCok (ba (ba q).1).1).1
 |.setS o i d,_,_,_,C,q=>s_set C.toCok.hu (sE d C.toCok (ba (ba q).1).1).1 (sE o C.toCok (ba (ba q).1).2).1 (sE i C.toCok (ba q).2).1 (jjf d _ _ _ _ _ _).1 (jjf d _ _ _ _ _ 0).2 rfl (ji2 (jam i _) _ _)
 |.par _ _,_,_,_,_,q=>nomatch q
 |.aug _ _ _,_,_,_,_,q=>nomatch q
 |.augS _ _ _ _,_,_,_,_,q=>nomatch q
 |.ite t a b,_,_,_,C,q=>s_if (sE t C.toCok (ba (ba q).1).1).2 (sSs a C (ba (ba q).1).2) (sSs b C (ba q).2)
 |.fr t it b,_,_,_,C,q=>s_for C.po C.calm (sI it t _ _ C.toCok (ba (ba q).1).2).1 (sTg C.toCok t _ (ba (ba q).1).1) (sSs b C (ba q).2) (sI it t ⟨[],[]⟩ e0 C.toCok (ba (ba q).1).2).2
 |.wh _ _,_,_,_,_,q=>nomatch q
 |.ret d,_,_,_,C,q=>s_ret (sE d C.toCok q).1
 |.retN,_,_,_,_,q=>nomatch q
 |.never,_,_,_,_,_=>λ_ _ _ _ _ _ ⟨_,_,_,_,_,q,_⟩=>(show False from q).elim
 |.raise _ _,_,_,_,C,q=>jir C q
 |.tr b _ _ _,_,_,_,C,q=>s_try C (ba (ba (ba (ba (ba (ba (ba (ba q).1).1).1).1).1).1).1).2 (ba (ba (ba (ba (ba (ba (ba q).1).1).1).1).1).1).2 (ba (ba (ba (ba (ba (ba q).1).1).1).1).1).2 (ba (ba (ba (ba (ba q).1).1).1).1).2 (bn (ba (ba (ba (ba q).1).1).1).2) (bn (ba (ba (ba q).1).1).2) (bn (ba (ba q).1).2) (ba q).2
   λ_ _ po=>sSs b (C.tryC po) (ba (ba (ba (ba (ba (ba (ba (ba q).1).1).1).1).1).1).1).1
theorem sSs:∀(ir:Ss) {X:Cx} {c:Ctx} {hs:List Stmt},Cos T k X c->okSs T c ir hs=true->PSs X (unSs T c ir hs) (lS X (jaC T.gs (jac T k) ir))
 |.nil,_,_,_,_,_=>s_nil
 |.cons s r,_,_,_,C,q=>s_cons (t:=denS T.gs (jac T k) s) (u:=jaC T.gs (jac T k) r) (sS s C (ba q).1) (sSs r C (ba q).2)
end
end
section
variable {T:Tab}{k:Nat}{X:Cx}{c:Ctx}
structure CloU (X:Cx)(f:Addr)(Ψ:List U->Gp->K1->KX->Prop):Prop where
 fn:∀(pins:List (Addr×Obj)) (σ:St) (H:Hp) (s:Shared),Inv X pins σ H s->PySem.W.FnAt f s.heap
 run:∀(pins:List (Addr×Obj)) (σ:St) (H:Hp) (s:Shared) (us:List Value) (vs:List V) (Q0:VK) (E0:XK),Inv X pins σ H s->Vals vs us->lSp X.K Ψ vs H Q0 E0->
  codeAny (model X.prog X.w) X.A (.call (.ref f) ⟨us,[]⟩) (CR (CX1 X.prog X.w) X.stack X.prog X.w H s Q0 E0) s
def appD (i:Nat)(f:Addr)(Ψ:List U->Gp->K1->KX->Prop)(ts:UA):UE:=λς G Q E=>slot ς i λu=>u=.loc f/\ts ς G (λus G1=>Ψ us G1 Q E) E
theorem jbE {ς:Sg}{i:Nat}{φ:U->Prop}(h:slot ς i φ):∃u,ς[i]?=some (some u)/\φ u:=by
 unfold slot at h;split at h
 ·rename_i u e;exact⟨u,e,h⟩
 ·exact h.elim
theorem jop {f:Addr}{Ψ:List U->Gp->K1->KX->Prop}{i:Nat}{x:Str}{e:Expr}{es:List Expr}{ts:UA}{p pos:Pos}(A:CloU X f Ψ)(hN:X.N[i]?=some x)(hv:Vis X.env.scope x)(hd:(x==("__debug__" : Str))=false)(hcd:(x==("__classdict__" : Str))=false)
  (ha:PA X (e::es) (lA X ts)) (he:Yar (e::es) X.env=(false,eval e X.env)::Yar es X.env) (hpl:(backTo pos (Yar es X.env)).any (·.1)=false) :
  PE X (.Call (.Name x p) (e::es) [] pos) (lE X (appD i f Ψ ts)):=by
 intro pins s σ H Q0 I ⟨ς,G,Q,E,hς,hG,h,lv,lx⟩;obtain⟨u,hu,rfl,h⟩:=jbE h;obtain⟨v,ev,rv⟩:=hς.2 i _ hu;obtain rfl:v=.ref f:=rv;refine YbD (thn (ja5 hN hv hd hcd pins s σ H (λv' H'=>v'=.ref f/\H'=H) I ⟨_,ev,rfl,rfl⟩) λu0 s0 ⟨v0,H0,I0,r0,e1,e2⟩=>?_);subst e1;subst e2;obtain rfl:u0=YaW f:=r0;have h':lA X ts σ H0 λvs H1=>lSp X.K Ψ vs H1 Q0 (EB X σ):=⟨ς,G,_,E,hς,hG,h,λus vs G1 H1 rs hG1 f1 h1=>⟨us,G1,Q,E,rs,hG1,h1,lv.fr f1,λx G' H' C dx xd hr f q pins ea s' I' l=>(lx.fr f1) pins (.ref ea) s' x G' H' I' ⟨ea,C,dx,rfl,l,xd⟩ hr f q⟩,lx⟩;refine PySem.W.callWith_F (first:=[]) (A.fn pins σ H0 s0 I0) (thn (ha pos pins s0 σ H0 _ I0 h') λus s1 ⟨vs,H1,I1,r,q⟩=>⟨A.fn pins σ H1 s1 I1,?_⟩) he hpl
 refine YeG (Ydb (A.run pins σ H1 s1 us vs Q0 (EB X σ) I1 r q) λr s' hq=>?_);cases r with
 |error e=>
  obtain⟨ea,H',cls,dx,rfl,I',l,q⟩:=CX1.back I1 hq;exact q pins ea s' I' l
 |ok fl=>
  cases fl with
  |ret u=>exact I1.after hq
  |next=>exact Ybn hq
  |brk=>exact Ybn hq
  |cont=>exact Ybn hq
noncomputable def irL (i:Nat):E:=.blt .len (.cons (.v i) .nil)
noncomputable def irFF:Ss:=.cons (.fr (.n 3) (.r1 (irL 0)) (.cons (.ite (.not (.app 2 (.cons (.v 3) .nil))) (.cons (.ret (.v 3)) .nil) .nil) .nil))
 (.cons (.ret (.ife (.cmp .Lt (irL 0) (.v 1)) (irL 0) .non)) .nil)
def ffB1 (gs:List U)(Δ:Cl)(f:Addr)(Ψ:List U->Gp->K1->KX->Prop):US:=λD ς G=>
 truT (appD 2 f Ψ (jau gs Δ (.cons (.v 3) .nil))) ς G (λb G1=>if (!b)=true then jaC gs Δ (.cons (.ret (.v 3)) .nil) { D with nx:=λς' G'=>D.nx ς' G' } ς G1 else D.nx ς G1) λx G1=>D.ex x ς G1
def ffD (gs:List U)(Δ:Cl)(f:Addr)(Ψ:List U->Gp->K1->KX->Prop):US:=λD ς G=>
 denI gs Δ (.r1 (irL 0)) ς G (λxs ok G1=>forL ok (λx ς1 G2 k=>tgU (.n 3) x ς1 λς2=>ffB1 gs Δ f Ψ { D with nx:=k } ς2 G2) xs ς G1 λς' G'=>jaC gs Δ (.cons (.ret (.ife (.cmp .Lt (irL 0) (.v 1)) (irL 0) .non)) .nil) D ς' G') λx G1=>D.ex x ς G1
theorem jls {f:Addr}{Ψ:List U->Gp->K1->KX->Prop}{hs:List Stmt}(C:Cos T k X c)(A:CloU X f Ψ)(q:okSs T c irFF hs=true):PSs X (unSs T c irFF hs) (lS X (ffD T.gs (jac T k) f Ψ)):=by
 have q1:=(ba q).1;have q2:=(ba q).2;have qb:=(ba q1).2;have qi:=(ba (ba (ba qb).1).1).1;have qr:=(ba (ba (ba qb).1).1).2;have qe:=(ba qi).2;have pa:=sEs (T:=T) (k:=k) (.cons (.v 3) .nil) C.toCok qe;have ap:=jop (p:=(c0 (c0 (q0 (qh (qa (qh hs)))))).pos) (pos:=(c0 (q0 (qh (qa (qh hs))))).pos) A (C.nm (ba (ba (ba (ba qi).1).1).1).1) (C.vis (ba (ba (ba (ba qi).1).1).1).2) (bn (ba (ba (ba qi).1).1).2) (bn (ba (ba qi).1).2) pa (jaj (jam (.v 3) _) _ _) rfl;have hb:PSs X (unSs T c (.cons (.ite (.not (.app 2 (.cons (.v 3) .nil))) (.cons (.ret (.v 3)) .nil) .nil) .nil) (qa (qh hs))) (lS X (ffB1 T.gs (jac T k) f Ψ)):=
  s_cons (s_if (jjh (jlL ap λ_=>rfl)) (sSs (.cons (.ret (.v 3)) .nil) C qr) s_nil) s_nil
 have hf:=s_for C.po C.calm (sI (.r1 (irL 0)) (.n 3) c (Z.q1 (qh hs)) C.toCok (ba (ba q1).1).2).1 (sTg C.toCok (.n 3) (Z.q1 (qh hs)) (ba (ba q1).1).1) hb (sI (.r1 (irL 0)) (.n 3) ⟨[],[]⟩ e0 C.toCok (ba (ba q1).1).2).2 (pos:=(qh hs).pos);have he:=s_cons hf (sSs (.cons (.ret (.ife (.cmp .Lt (irL 0) (.v 1)) (irL 0) .non)) .nil) C q2);exact he
end
noncomputable def vsE:Nat->Nat->Es
 |_,0=>.nil
 |i,n+1=>.cons (.v i) (vsE (i+1) n)
noncomputable def ffB (m fi:Nat):Ss:=.cons (.fr (.n (m+2)) (.r1 (irL m)) (.cons (.ite (.not (.call fi (.cons (.v (m+2)) (vsE 0 m)))) (.cons (.ret (.v (m+2))) .nil) .nil) .nil))
 (.cons (.ret (.ife (.cmp .Lt (irL m) (.v (m+1))) (irL m) .non)) .nil)
section
variable {gs:List U}{Δ Δ':Cl}
theorem jcz {ς:Sg}{i:Nat}{u:U}{φ:U->Prop}(e:ς[i]?=some (some u)):slot ς i φ=φ u:=by unfold slot;rw[e]
theorem jje {ς:Sg}{G:Gp}{X:KX}:∀{cs:List U} {i:Nat} {Q:List U->Gp->Prop},(∀j u,cs[j]?=some u->ς[i+j]?=some (some u))->jau gs Δ (vsE i cs.length) ς G Q X=Q cs G
 |[],_,_,_=>rfl
 |u::cs,i,Q,e=>by
  show(slot ς i λx=>jau gs Δ (vsE (i+1) cs.length) ς G (λxs G2=>Q (x::xs) G2) X)=_;rw[jcz (show ς[i]?=some (some u)from e 0 u rfl)];exact jje (λj v hj=>by rw[show i+1+j=i+(j+1) by omega];exact e (j+1) v (by simpa using hj))
theorem jb2 {ς:Sg}{G:Gp}{X:KX}{Q:K1}{i:Nat}{w:U}(e:ς[i]?=some (some w)):(den gs Δ (irL i)).1 ς G Q X=bltU .len [w] G Q:=by
 show(slot ς i λx=>bltU .len [x] G Q)=_;rw[jcz e]
noncomputable def sgA (cs:List U)(w l:U)(a:Option U):Sg:=(cs++[w,l]).map some++[a]
section
variable {cs:List U}{w l:U}{a:Option U}
theorem joE:∀j u,cs[j]?=some u->(sgA cs w l a)[0+j]?=some (some u):=λj u e=>by
 have hj:=(List.getElem?_eq_some_iff.mp e).1;unfold sgA;rw[YcW,YaC (by simp;omega),Yat,YaC hj,e]
 rfl
theorem jkm:(sgA cs w l a)[cs.length]?=some (some w):=by
 unfold sgA;rw[YaC (by simp),Yat,YaR (Yaf _)]
 simp
theorem joD:(sgA cs w l a)[cs.length+1]?=some (some l):=by
 unfold sgA;rw[YaC (by simp),Yat,YaR (by omega)]
 simp
theorem jl4:(sgA cs w l a)[cs.length+2]?=some a:=by
 unfold sgA;rw[YaR (by simp)]
 simp
end
theorem jkn {cs:List U}{w l x:U}{a:Option U}:(sgA cs w l a).set (cs.length+2) (some x)=sgA cs w l (some x):=by
 unfold sgA;rw[List.set_append_right _ _ (by simp)]
 simp
theorem jgR {cs:List U}{w l:U}:jaf (cs.length+3) (cs++[w,l])=sgA cs w l none:=by
 unfold jaf sgA;simp
theorem jhJ {ok:Gp->Prop}{b b':U->Sg->Gp->(Sg->Gp->Prop)->Prop}{A B:Option U->Sg}{k k':Sg->Gp->Prop}
  (hb:∀x a G (kk kk':Sg->Gp->Prop),(∀a G,kk (A a) G=kk' (B a) G)->b x (A a) G kk=b' x (B a) G kk') (hk:∀a G,k (A a) G=k' (B a) G) :
  ∀(xs:List U) (a:Option U) (G:Gp),forL ok b xs (A a) G k=forL ok b' xs (B a) G k'
 |[],a,G=>congrArg (ok G/\·) (hk a G)
 |x::xs,a,G=>congrArg (ok G/\·) (hb x a G _ _ λa G=>jhJ hb hk xs a G)
theorem jno {fi:Nat}{cs:List U}{w l:U}{f:Addr}{n0 n1:Sg->Gp->Prop}{rt:K1}{ex:KX}{G:Gp} :
  jaC gs Δ (ffB cs.length fi) ⟨n0,rt,λx _ G'=>ex x G'⟩ (jaf (cs.length+3) (cs++[w,l])) G=ffD gs Δ' f (λus G Q E=>Δ fi (us++cs) G Q E) ⟨n1,rt,λx _ G'=>ex x G'⟩ [some w,some l,some (.loc f),none] G:=by
 rw[jgR];have last:∀(a:Option U) (G:Gp),jaC gs Δ (.cons (.ret (.ife (.cmp .Lt (irL cs.length) (.v (cs.length+1))) (irL cs.length) .non)) .nil) ⟨n0,rt,λx _ G'=>ex x G'⟩ (sgA cs w l a) G =
   jaC gs Δ' (.cons (.ret (.ife (.cmp .Lt (irL 0) (.v 1)) (irL 0) .non)) .nil) ⟨n1,rt,λx _ G'=>ex x G'⟩ [some w,some l,some (.loc f),a] G:=λa G=>by
  show(den gs Δ (irL cs.length)).1 (sgA cs w l a) G (λx G1=>slot (sgA cs w l a) (cs.length+1) λy=>cmpU .Lt x y G1 λc=>truU (.bl c) G1 λb=>if b=true then (den gs Δ (irL cs.length)).1 (sgA cs w l a) G1 rt ex else rt .non G1) ex =
   (den gs Δ' (irL 0)).1 [some w,some l,some (.loc f),a] G (λx G1=>cmpU .Lt x l G1 λc=>truU (.bl c) G1 λb=>if b=true then (den gs Δ' (irL 0)).1 [some w,some l,some (.loc f),a] G1 rt ex else rt .non G1) ex
  rw[jb2 jkm,jb2 rfl];congr 1;funext x G1;rw[jcz joD,jb2 jkm,jb2 rfl]
 show(den gs Δ (irL cs.length)).1 (sgA cs w l none) G (λx G1=>match x with
   |.int j=>-(2 ^ 62)<=j/\j<2 ^ 62/\forL (λ_=>True) (λx ς1 G2 k=>jaC gs Δ (.cons (.ite (.not (.call fi (.cons (.v (cs.length+2)) (vsE 0 cs.length)))) (.cons (.ret (.v (cs.length+2))) .nil) .nil) .nil) ⟨k,rt,λx _ G'=>ex x G'⟩ (ς1.set (cs.length+2) (some x)) G2) (rngU 0 j.toNat) (sgA cs w l none) G1
    λς' G'=>jaC gs Δ (.cons (.ret (.ife (.cmp .Lt (irL cs.length) (.v (cs.length+1))) (irL cs.length) .non)) .nil) ⟨n0,rt,λx _ G'=>ex x G'⟩ ς' G'
   |_=>False) ex =
  (den gs Δ' (irL 0)).1 [some w,some l,some (.loc f),none] G (λx G1=>match x with
   |.int j=>-(2 ^ 62)<=j/\j<2 ^ 62/\forL (λ_=>True) (λx ς1 G2 k=>ffB1 gs Δ' f (λus G Q E=>Δ fi (us++cs) G Q E) ⟨k,rt,λx _ G'=>ex x G'⟩ (ς1.set 3 (some x)) G2) (rngU 0 j.toNat) [some w,some l,some (.loc f),none] G1
    λς' G'=>jaC gs Δ' (.cons (.ret (.ife (.cmp .Lt (irL 0) (.v 1)) (irL 0) .non)) .nil) ⟨n1,rt,λx _ G'=>ex x G'⟩ ς' G'
   |_=>False) ex
 rw[jb2 jkm,jb2 rfl];congr 1;funext x G1;cases x with
 |int j=>
  refine congrArg (-(2 ^ 62)<=j/\j<2 ^ 62/\·) (jhJ (A:=sgA cs w l) (B:=λa=>[some w,some l,some (.loc f),a]) (λx a G kk kk' hkk=>?_) last _ _ _);rw[jkn];show(slot (sgA cs w l (some x)) (cs.length+2) λu=>jau gs Δ (vsE 0 cs.length) (sgA cs w l (some x)) G (λus G1=>Δ fi (u::us) G1 (λr G2=>truU r G2 λb=>if (!b)=true then (slot (sgA cs w l (some x)) (cs.length+2) λz=>rt z G2) else kk (sgA cs w l (some x)) G2) ex) ex) =
   (U.loc f=.loc f/\Δ fi (x::cs) G (λr G2=>truU r G2 λb=>if (!b)=true then rt x G2 else kk' [some w,some l,some (.loc f),some x] G2) ex)
  rw[jcz jl4,jje joE];have e:(λr G2=>truU r G2 λb=>if (!b)=true then (slot (sgA cs w l (some x)) (cs.length+2) λz=>rt z G2) else kk (sgA cs w l (some x)) G2)=λ(r:U) (G2:Gp)=>truU r G2 λb=>if (!b)=true then rt x G2 else kk' [some w,some l,some (.loc f),some x] G2:=by
   funext r G2;rw[jcz jl4,hkk]
  rw[e];exact propext ⟨λh=>⟨rfl,h⟩,λh=>h.2⟩
 |_=>rfl
end
theorem jfU {T:Tab}{n:Nat}{d:Fun}(h:T.funs[n]?=some d):(T.funs++T.vf)[n]?=some d:=by
 rw[YaC (List.getElem?_eq_some_iff.mp h).1];exact h
theorem jby {T:Tab}{k n:Nat}{d:Fun}(hd:(T.funs++T.vf)[n]?=some d){us:List U}{G:Gp}{Q:K1}{E:KX}(h:jac T (k+1) n us G Q E) :
  us.length=d.ps.length/\jaC T.gs (jac T k) d.body ⟨λ_ G'=>Q .non G',Q,λx _ G'=>E x G'⟩ (jaf d.N.length us) G:=by
 have h':(match (T.funs++T.vf)[n]? with|some d=>us.length=d.ps.length/\jaC T.gs (jac T k) d.body ⟨λ_ G'=>Q .non G',Q,λx _ G'=>E x G'⟩ (jaf d.N.length us) G|none=>False):=h
 rw[hd]at h';exact h'
theorem jgW {X:Cx}{a b:List Stmt}{t:L2.TS}(e:a=b)(h:PSs X a t):PSs X b t:=e ▸ h
theorem jcy {K:Yaa}{H:Hp}{N:List Str}{us:List U}{vs:List V}(r:RUs K H us vs):SR K H (jaf N.length us) (L2.start N vs):=by
 unfold jaf L2.start;refine⟨by simp[r.length],λi u e=>?_⟩
 by_cases hi:i<us.length
 ·rw[YaC (by simpa using hi),Yat]at e
  cases q:us[i]? with
  |none=>rw[q]at e;cases e
  |some w=>
   rw[q]at e;have:w=u:=by simpa using e
   subst this;obtain⟨v,ev,rv⟩:=r.get q;have hv:i<vs.length:=by rw[<- r.length];exact hi
   exact⟨v,by rw[YaC (by simpa using hv),Yat,ev];rfl,rv⟩
 ·rw[YaR (by simpa using hi),Yco]at e
  split at e<;>cases e
structure PF (T:Tab)(P:Program)(w:World)(K:Yaa)(mg:Str->Option Value)(base:Heap)(k:Nat):Prop where
 blt:∀x∈jbR,mg x=none
 fns:∀(n:Nat) (d:Fun),T.funs[n]?=some d->FnU P w K mg base k d (jac T k n)
 gls:∀(n:Nat) (x:Str) (u:U),T.gn[n]?=some x->T.gs[n]?=some u->∃v w,mg x=some w/\RelV v w/\∀H,RU K H u v
 cls:∀n∈T.cs,1<=n->∃C,XCls K (gK K) (clsN n) (clsF n) C
 mgK:∀x v,gK K x=some v->mg x=some v
theorem Inv.tsU {X:Cx}{pins:List (Addr×Obj)}{σ:St}{H:Hp}{s:Shared}(I:Inv X pins σ H s):TS X.H₀ H:=⟨I.base.tups,λa o e=>I.base.frzs a o _ e⟩
section
variable {T:Tab}{k:Nat}{X:Cx}
theorem jnA {j:Nat}{f c':Addr}{name qual:Str}{params:YcL}{body:List Stmt}{scope:Scope}{cl:List (Str×Addr)}{doc pm ctv:Value}{oc:Obj}{d:Fun}{n:Nat}{cs:List U}{cvs:List V}{ps:List Str}
  (F:PF T X.prog X.w X.K X.mg X.base (j-1)) (hex:X.ex=[]) (ho:X.s₀.heap.get? f=some (Yet name qual params body scope cl doc pm c' ctv)) (hn:X.H₀ f=none) (hfs:f∉X.fs) (hc:X.H₀ c'=some (frzC oc)) (hco:jlH oc qual) (S:CloScope d.N ps scope)
  (hcl:∀x c,cl.lookup x=some c->scope.names.lookup x=some .free/\(∃v,X.s₀.heap.IsCell c v)/\X.H₀ c=none/\c∉X.fs) (inj:∀x y c,cl.lookup x=some c->cl.lookup y=some c->x=y) (has:∀x,scope.names.lookup x=some .free->∃c,cl.lookup x=some c)
  (hv:∀i x v,d.N[ps.length+i]?=some x->cvs[i]?=some v->scope.names.lookup x=some .free/\∃c u,cl.lookup x=some c/\RelV v u/\X.s₀.heap.IsCell c (some u))
  (rc:RUs X.K X.H₀ cs cvs) (hdp:d.ps.length=ps.length+cs.length) (hNl:d.ps.length<=d.N.length)
  (hb:∀(s:Shared) (us:List Value),us.length=ps.length->BindsTo s (PySem.W.fnX name qual params body scope cl .none .none doc pm none (.ref c') ctv) ⟨us,[]⟩ (ps.zip us))
  (hr:Room (j+2) X.A) (hd:(T.funs++T.vf)[n]?=some d) (ok:okSs T ⟨d.N,scope.names⟩ d.body body=true) (un:unSs T ⟨d.N,scope.names⟩ d.body body=body) :
  CloU X f λus G Q E=>jac T j n (us++cs) G Q E:=by
 have noX:∀b,b∉X.ex:=λb z=>by rw[hex]at z;exact absurd z (by simp)
 have cellK:∀{pins:List (Addr×Obj)} {σ:St} {H:Hp} {s:Shared} {x:Str} {c:Addr} {v:Option Value},Inv X pins σ H s->cl.lookup x=some c->X.s₀.heap.IsCell c v->s.heap.IsCell c v:=λ{pins σ H s x c v} I e ⟨o,h1,h2⟩=>
  ⟨o,I.base.keep c o h1 (hcl x c e).2.2.1 (hcl x c e).2.2.2 (noX c),h2⟩
 refine⟨λpins σ H s I=>⟨_,_,_,_,I.base.keep f _ ho hn hfs (noX f)⟩,λpins σ H s us vs Q0 E0 I r hsp=>?_⟩;obtain⟨zs,G,Q,E,rz,hG,h,lv,lx⟩:=hsp;obtain _|k:=j
 ·exact(show False from h).elim
 obtain⟨hl,h⟩:=jby hd h;rw[YaO]at hl;have hvl:vs.length=ps.length:=by rw[<- rz.length];omega
 have hcH:H c'=some (frzC oc):=I.base.frzs c' oc _ hc;obtain⟨hco1,_⟩:=I.hok c' _ hcH;obtain⟨wv,wt,w1,w2⟩:=hco;have rc':=rc.ts (Inv.tsU I);refine jlz (k:=k+2) (cvs:=cvs) (N:=d.N) (ps:=ps) (I.base.keep f _ ho hn hfs (noX f)) rfl ⟨c',oc,wv,wt,rfl,hco1,w1,w2⟩ S hr I.env0 (hb s us (by rw[<- r.length];exact hvl)) r hvl (by rw[<- rc.length];omega)
  (λx c e=>⟨(hcl x c e).1,let ⟨v,z⟩:=(hcl x c e).2.1;⟨v,cellK I e z⟩,let ⟨_,o,h1,_⟩:=(hcl x c e).2.1;I.base.free c o h1 (hcl x c e).2.2.1 (noX c)⟩) inj has
  (λi x v e1 e2=>let ⟨a,c,u,e,rv,z⟩:=hv i x v e1 e2;⟨a,c,u,e,rv,cellK I e z⟩) λhroom=>?_
 refine⟨_,jgW un (sSs d.body (k:=k) (c:=⟨d.N,scope.names⟩) (hs:=body) ⟨⟨rfl,S.nd,λx z=>eq_of_beq z,λx z=>⟨eq_of_beq z,by show(scope.names.lookup x != some .free)=true;rw[eq_of_beq z];rfl⟩,λx z=>.inr (eq_of_beq z),λx z=>eq_of_beq z,hroom.mono (by omega),rfl,jkC,F.blt,F.fns,F.gls,hroom,F.cls,F.mgK⟩,rfl,S.kind,rfl,rfl⟩ ok),?_⟩
 exact⟨_,_,G,jcy (rz.append rc'),hG,h,⟨λς' σ' G' H' a b c q=>lv .non .non G' H' rfl b c q,λw v G' H' a b c q=>lv w v G' H' a b c q,λpins e s' x ς' σ' G' H' I sr xat hr' f q=>by obtain⟨ea,C0,dx,rfl,l,xd⟩:=xat;exact CX1.outC I l (lx x G' H' C0 dx xd hr' f q)⟩⟩
theorem HR.tabNew {K:Yaa}{H H':Hp}{G:Gp}{P c:Addr}{pos:Pos}{q:Str}{oc:Obj}(h:HR K H G)(hU:∀t∈tabs,∀t'∈tabs,t.1=t'.1->t=t')(ht:(P,pos,q)∈tabs)(n:jjY H H' P pos q c oc):HR K H' G/\Fr H G H' G:=by
 obtain⟨hc,hco,rfl|⟨hP,hn,rfl⟩⟩:=n
 ·exact⟨h,Fr.refl _ _⟩
 have oth:∀b,b≠P->b≠c->L2.upd (L2.upd H c (frzC oc)) P (.tbl #[rawInt pos.line,rawInt pos.col,.ref c]) b=H b:=λb h1 h2=>by rw[jad h1,jad h2]
 have neC:∀{b u},H b=some u->b≠c:=λ{b u} e z=>by rw[z,hn]at e;cases e
 have ts:TS H (L2.upd (L2.upd H c (frzC oc)) P (.tbl #[rawInt pos.line,rawInt pos.col,.ref c])):=⟨λa xs e=>by rw[oth a (λz=>by rw[z,hP]at e;cases e) (neC e)];exact e,λa xs e=>by rw[oth a (λz=>by rw[z,hP]at e;cases e) (neC e)];exact e⟩
 refine⟨⟨λa o g=>?_,λt hm=>?_⟩,⟨λa o e g nt=>⟨?_,g⟩⟩⟩
 ·have m:=h a o g;obtain⟨ho,e⟩:=m.there;exact m.keep (oth a (λz=>by rw[z,h.tblNone hP]at g;cases g) (neC e)) ts
 ·by_cases e:t.1=P
  ·obtain rfl:=hU t hm _ ht e;exact .inr ⟨c,oc,jag,hc,hco⟩
  ·rcases h.tab t hm with e1|⟨c2,oc2,e1,e2,q2⟩
   ·exact .inl (by rw[oth _ e (neC e1)];exact e1)
   ·exact .inr ⟨c2,oc2,by rw[oth _ e (neC e1)];exact e1,ts.cod _ _ e2,q2⟩
 ·rw[oth a (λz=>by rw[z,hP]at e;cases e;cases nt) (neC e)];exact e
end
end Z

namespace Z
open PySem L2
noncomputable def nDef (st:Stmt):Stmt:=(jae st).getD 0 (.Pass ⟨0,0,0,0⟩)
noncomputable def capE:List Nat->Es->Es
 |[],r=>r
 |i::is,r=>.cons (.v i) (capE is r)
structure NestS (T:Tab)(sts:List Stmt)(d:Fun)(st:Stmt)(z:Nst)(dff:Fun)(stff:Stmt)(dv dc:Fun):Prop where
 sc:FnScope d.N d.ps (jaa st)
 body:d.body=.cons (.ret (.call z.vi (capE z.caps (.cons (.v z.wi) (.cons (.int z.least) .nil))))) .nil
 text:∃pos p1 p2 p3 p4 p5 p6 j,jae st=[.FunctionDef z.fn (jar (nDef st)) (jae (nDef st)) [] none [] (jaa (nDef st)) none z.fn pos,.Return (some (.Call (.Name dff.name p1) [.Name z.wn p2,.Constant (.int z.least) j p3,.Name z.fn p4] [] p5)) p6]/\(z.P,pos,d.name ++ ".<locals>." ++ z.fn)∈tabs
 wi:d.N[z.wi]?=some z.wn
 wv:(jaa st).names.lookup z.wn=some .local\/(jaa st).names.lookup z.wn=some .cell
 fi:d.N[z.fni]?=some z.fn
 fl:(jaa st).names.lookup z.fn=some .local
 gl:(jaa st).names.lookup dff.name=some .globalImplicit
 dbg:(z.wn==("__debug__" : Str))=false/\(z.wn==("__classdict__" : Str))=false/\(z.fn==("__debug__" : Str))=false/\(z.fn==("__classdict__" : Str))=false/\(dff.name==("__debug__" : Str))=false
 caps:∀(i j:Nat),z.caps[i]?=some j->j<d.ps.length/\∃x,d.N[j]?=some x/\dc.N[1+i]?=some x/\(jaa (nDef st)).names.lookup x=some .free/\(jaa st).names.lookup x=some .cell
 wlt:z.wi<d.ps.length
 fge:d.ps.length<=z.fni
 frees:∀y∈(jaa (nDef st)).names,y.2=.free->(jaa st).names.lookup y.1=some .cell
 cs:CloScope dc.N [z.at'] (jaa (nDef st))
 args:(jar (nDef st)).defaults=[]/\(jar (nDef st)).kw_defaults=[]
 ann:∀env,annTrees (jar (nDef st)) none env=[]
 bind:∀(qual:Str) (cl:List (Str×Addr)) (doc pm cv ctv u:Value),YfT (PySem.W.fnX z.fn qual (jar (nDef st)) (jae (nDef st)) (jaa (nDef st)) cl .none .none doc pm none cv ctv) ⟨[u],[]⟩=pure [(z.at',u)]
 ff:T.funs[z.ff]?=some dff
 ffs:sts[z.ff]?=some stff
 ffb:dff.body=irFF
 ffp:dff.ps.length=3
 ffl:dff.N.length=4
 hdv:(T.funs++T.vf)[z.vi]?=some dv
 dvb:dv.body=ffB z.caps.length z.fi
 dvN:dv.N.length=z.caps.length+3
 hdc:(T.funs++T.vf)[z.fi]?=some dc
 dcp:dc.ps.length=1+z.caps.length
 dcN:dc.ps.length<=dc.N.length
 ok:okSs T ⟨dc.N,(jaa (nDef st)).names⟩ dc.body (jae (nDef st))=true
 un:unSs T ⟨dc.N,(jaa (nDef st)).names⟩ dc.body (jae (nDef st))=jae (nDef st)
theorem jfd {gs:List U}{Δ:Cl}{ς:Sg}{G:Gp}{X:KX}{r:Es}:∀{is:List Nat} {Q:List U->Gp->Prop},jau gs Δ (capE is r) ς G Q X->∃cs:List U,cs.length=is.length/\(∀(i j:Nat),is[i]?=some j->∃u,cs[i]?=some u/\ς[j]?=some (some u))/\jau gs Δ r ς G (λus G'=>Q (cs++us) G') X
 |[],_,h=>⟨[],rfl,λ_ _ e=>by simp at e,h⟩
 |i::is,Q,h=>by
  have h':slot ς i λx=>jau gs Δ (capE is r) ς G (λxs G2=>Q (x::xs) G2) X:=h;obtain⟨u,e,h'⟩:=jbE h';obtain⟨cs,h1,h2,h3⟩:=jfd h';refine⟨u::cs,by simp[h1],λa j ej=>?_,h3⟩
  cases a with
  |zero=>simp at ej;subst ej;exact⟨u,rfl,e⟩
  |succ a=>simpa using h2 a j (by simpa using ej)
theorem jda {n i:Nat}{us:List U}{u:U}(h:(jaf n us)[i]?=some (some u)):us[i]?=some u:=by
 unfold jaf at h;by_cases hi:i<us.length
 ·rw[YaC (by simpa using hi),Yat]at h
  cases e:us[i]? with
  |none=>rw[e]at h;cases h
  |some a=>rw[e]at h;simpa using h
 ·rw[YaR (by simpa using hi),Yco]at h
  split at h<;>cases h
theorem jfy {N:List Str}{vs:List V}{i:Nat}{v:V}(h:vs[i]?=some v):(L2.start N vs)[i]?=some (some v):=by
 unfold L2.start;have hi:=(List.getElem?_eq_some_iff.mp h).1;rw[YaC (by simpa using hi),Yat,h]
 rfl
theorem jey {K:Yaa}{H:Hp}{us:List U}{vs:List V}(r:RUs K H us vs):∀{is:List Nat} {cs:List U},cs.length=is.length->(∀(i j:Nat),is[i]?=some j->∃u,cs[i]?=some u/\us[j]?=some u)->∃cvs:List V,RUs K H cs cvs/\cvs.length=is.length/\∀(i j:Nat) (v:V),is[i]?=some j->cvs[i]?=some v->vs[j]?=some v
 |[],[],_,_=>⟨[],rfl,rfl,λ_ _ _ e=>by simp at e⟩
 |[],_::_,h,_=>by simp at h
 |_::_,[],h,_=>by simp at h
 |j::is,c::cs,hl,h=>by
  obtain⟨u,e1,e2⟩:=h 0 j rfl;have:c=u:=by simpa using e1
  subst this;obtain⟨v,ev,rv⟩:=r.get e2;obtain⟨cvs,r2,l2,g2⟩:=jey r (is:=is) (cs:=cs) (by simpa using hl) λi j' e=>by simpa using h (i+1) j' (by simpa using e)
  refine⟨v::cvs,⟨v,cvs,rfl,rv,r2⟩,by simp[l2],λi j' w e e'=>?_⟩
  cases i with
  |zero=>simp at e e';subst e;subst e';exact ev
  |succ i=>exact g2 i j' w (by simpa using e) (by simpa using e')
section
variable {T:Tab}{k j:Nat}{P:Program}{w:World}{K:Yaa}{mg:Str->Option Value}{base:Heap}
theorem jk1 {n:Nat}{sts:List Stmt}{d dff dv dc:Fun}{st stff:Stmt}{z:Nst}{f fff:Addr}{fd fdff:Ybk}(N:NestS T sts d st z dff stff dv dc)(hU:∀t∈tabs,∀t'∈tabs,t.1=t'.1->t=t')(Sff:FnScope dff.N dff.ps (jaa stff))(okf:okSs T ⟨dff.N,(jaa stff).names⟩ dff.body (jae stff)=true)(unf:unSs T ⟨dff.N,(jaa stff).names⟩ dff.body (jae stff)=jae stff)
  (F:L2.Fun K d.name d.name st f fd) (Fff:L2.Fun K dff.name dff.name stff fff fdff) (mff:mg dff.name=some (.ref fff)) (bff:Binds K fdff dff.ps []) (hcode:∃c,fd.code=.ref c/\Yf9 base c z.P) (hB:BmAt mg base) (pf:PF T P w K mg base (j-1)) (hd:(T.funs++T.vf)[n]?=some d) :
  FnOk P w K mg base (CX1 P w) (j+4) f fd d.ps (lSp K (jac T (j+2) n)):=by
 have len:∀vs H Q E,lSp K (jac T (j+2) n) vs H Q E->vs.length=d.ps.length:=λvs H Q E ⟨us,G,Q',E',r,hG,h,lv,lx⟩=>by rw[<- r.length];exact(jby hd h).1
 refine⟨len,λA outer s H args us0 vs Q E hr e0 hb r hsp=>F.runX (k:=j+3) N.sc hr e0 hb r (len _ _ _ _ hsp) λcdv hcdv hroom=>?_⟩;have hvl:=len _ _ _ _ hsp;obtain⟨us,G,Q',E',ru,hG,h,lv,lx⟩:=hsp;obtain⟨hul,h⟩:=jby hd h;rw[N.body]at h;have h:jau T.gs (jac T (j+1)) (capE z.caps (.cons (.v z.wi) (.cons (.int z.least) .nil))) (jaf d.N.length us) G (λzs G1=>jac T (j+1) z.vi zs G1 Q' λx G'=>E' x G') λx G'=>E' x G':=h;obtain⟨cs,csl,csg,h⟩:=jfd h;have h:slot (jaf d.N.length us) z.wi λx=>jac T (j+1) z.vi (cs++[x,.int z.least]) G Q' λx G'=>E' x G':=h;obtain⟨uw,euw,h⟩:=jbE h;have euw:=jda euw;obtain⟨vw,evw,rvw⟩:=ru.get euw;obtain⟨cvs,rcs,cvl,cvg⟩:=jey ru csl λi j e=>let ⟨u,a,b⟩:=csg i j e;⟨u,a,jda b⟩
 obtain⟨_,h⟩:=jby N.hdv h;rw[N.dvb,N.dvN,<- csl]at h;obtain⟨c,hcc,hCH⟩:=hcode;obtain⟨pos,p1,p2,p3,p4,p5,p6,jj,text,htab⟩:=N.text
 let X0:=cx1 P w K mg base d.N d.name (jaa st) f cdv A outer s H E
 refine⟨λD σ' H'=>σ'=L2.start d.N vs/\H'=H/\D.rt=Q,λpins s1 σ1 H1 D I ⟨e1,e2,e3⟩=>?_,rfl,rfl,rfl⟩;subst e1;subst e2;subst e3;rw[text];have hq:YcV X0.env z.fn z.fn=d.name ++ ".<locals>." ++ z.fn:=by
  unfold YcV;have:X0.env.kindOf z.fn=some .local:=N.fl;rw[this];rfl
 refine YbR (jiT (X:=X0) (c:=c) (P:=z.P) (i:=z.fni) I N.sc.nd N.fi (.inl N.fl) (.inr N.fl) (hcdv.symm.trans hcc) hCH hB (by rw[hq];exact hG.tab _ htab) N.args.1 N.args.2 (N.ann _)
  (λy hy hf=>I.ok.has y.1 (.inl (N.frees y hy hf))) λf' c' oc doc ctv H' s2 tn J=>?_)
 rw[hq]at tn J;obtain⟨hG',fr'⟩:=hG.tabNew hU htab tn
 let σ2:St:=(L2.start d.N vs).set z.fni (some (.ref f'))
 have hws:σ2[z.wi]?=some (some vw):=by
  show((L2.start d.N vs).set z.fni (some (.ref f')))[z.wi]?=_;rw[YaU (by have:=N.wlt;have:=N.fge;omega)]
  exact jfy evw
 have hfs:σ2[z.fni]?=some (some (.ref f')):=by
  show((L2.start d.N vs).set z.fni (some (.ref f')))[z.fni]?=_;rw[Ybg (by have:=I.len;rw[this];exact(List.getElem?_eq_some_iff.mp N.fi).1)]
 have hcall:wpAny (model X0.prog X0.w) X0.A (eval (.Call (.Name dff.name p1) [.Name z.wn p2,.Constant (.int z.least) jj p3,.Name z.fn p4] [] p5) X0.env) (EP X0 (pins++[(f',Yet z.fn (d.name ++ ".<locals>." ++ z.fn) (jar (nDef st)) (jae (nDef st)) (jaa (nDef st)) (jbo X0.env.cells (jaa (nDef st)).names []) doc ((mg "__name__").getD .none) c' ctv)]) σ2 D.rt) X0.xe s2:=by
  have pa:PA X0 [.Name z.wn p2,.Constant (.int z.least) jj p3,.Name z.fn p4] (jin (tVar z.wi) (jin (tC (.int z.least)) (jin (tVar z.fni) tNil))):=
   jaD (ja5 N.wi (N.wv.imp id λq=>.inl q) N.dbg.1 N.dbg.2.1) (jaD jjs (jaD (ja5 N.fi (.inl N.fl) N.dbg.2.2.1 N.dbg.2.2.2.1) jcB))
  refine YbD (jb4 J N.gl mff ?_ N.dbg.2.2.2.2);refine YdD (h₀:=base) J.ok.mod.kin Fff.kp (thn (pa p5 _ s2 σ2 H' (λvs3 H3=>vs3=[vw,.int z.least,.ref f']/\H3=H') J ⟨_,hws,_,hfs,rfl,rfl⟩) λus3 s3 ⟨vs3,H3,J3,r3,e1,e2⟩=>⟨J3.kIn,?_⟩) rfl rfl;subst e1;subst e2;have l3:us3.length=dff.ps.length:=by rw[<- r3.length,N.ffp];rfl
  have hb3:=bff s3 us3 J3.kIn (by rw[YbX];exact l3)
  rw[YbX]at hb3;refine YeG (Ydb (Fff.runX (k:=j+2) (Q:=D.rt) (E:=EB X0 σ2) Sff hroom J3.env0 hb3 r3 (by rw[N.ffp];rfl) λcdv2 _ hroom2=>?_) λr s' hq=>?_)
  ·have hp:=J3.pin (f',Yet z.fn (d.name ++ ".<locals>." ++ z.fn) (jar (nDef st)) (jae (nDef st)) (jaa (nDef st)) (jbo X0.env.cells (jaa (nDef st)).names []) doc ((mg "__name__").getD .none) c' ctv) (Yaz _ (Yaz _ (List.mem_singleton.mpr rfl)));obtain⟨hp1,hp2,hp3,hp4,_⟩:=hp;have nofs:∀b,b≠X0.env.locals->b∉X0.fs->b∉frs X0.stack:=λb h1 h2 hb=>(YaL.mp (J3.stkSub b hb)).elim h1 h2;have clof:∀x c,(jbo X0.env.cells (jaa (nDef st)).names []).lookup x=some c->X0.env.cells.lookup x=some c/\(x,Yay)∈(jaa (nDef st)).names:=λx c e=>(jf2 e).elim id λz=>by cases z
   obtain⟨m,hns,hloc⟩:=J3.loc;have CLO:=jnA (T:=T) (j:=j) (X:=cx1 P w K mg base dff.N dff.name (jaa stff) fff cdv2 X0.A X0.stack s3 H3 (EB X0 σ2)) (d:=dc) (n:=z.fi) (cs:=cs) (cvs:=cvs) (ps:=[z.at']) pf rfl hp1 hp2 (nofs f' hp3 hp4) tn.1 tn.2.1 N.cs
    (λx c e=>⟨N.cs.frees x (clof x c e).2,J3.cell x c (clof x c e).1,J3.freeC x c (clof x c e).1,nofs c (J3.cne x c (clof x c e).1) λhb=>by
     obtain⟨_,o,ho,_⟩:=J3.ok.funs.mem hb;exact absurd (Yal ho) (Nat.not_lt.mpr (J3.ok.cab x c rfl (clof x c e).1))⟩)
    (λx y c e1 e2=>J3.ok.inj x y c (clof x c e1).1 (clof y c e2).1)
    (λx e=>by
     have hm:=Yaw e;obtain⟨c,hc⟩:=J3.ok.has x (.inl (N.frees _ hm rfl));exact⟨c,jc0 hc hm⟩)
    (λi x v e1 e2=>by
     have hi:i<z.caps.length:=by rw[<- cvl];exact(List.getElem?_eq_some_iff.mp e2).1
     obtain⟨jl,y,g1,g2,g3,g4⟩:=N.caps i z.caps[i] (by simp[hi])
     have:x=y:=by
      have e1':dc.N[1+i]?=some x:=e1;rw[g2]at e1';exact(Yan e1').symm
     subst this;refine⟨g3,?_⟩;have ev:=cvg i z.caps[i] v (by simp[hi]) e2
     have es:σ2[z.caps[i]]?=some (some v):=by
      show((L2.start d.N vs).set z.fni (some (.ref f')))[z.caps[i]]?=_;rw[YaU (by have:=N.fge;omega)]
      exact jfy ev
     obtain⟨u,rv,lk⟩:=hloc z.caps[i] x v g1 es (.inr (.inl g4));rcases lk with⟨k1,_⟩|⟨_,c,hc,hcell⟩
     ·have k2:(jaa st).names.lookup x=some .local:=k1;rw[g4]at k2;cases k2
     ·exact⟨c,u,jc0 hc (Yaw g3),rv,hcell⟩)
    (rcs.ts (fr'.ts hG)) (by rw[N.dcp,csl];rfl) N.dcN (λs us hl=>by
     obtain _|⟨u,_|⟨_,_⟩⟩:=us
     ·cases hl
     ·exact .of_eq (N.bind _ _ _ _ _ _ _)
     ·cases hl) hroom2 N.hdc N.ok N.un
   refine⟨_,jgW unf (by
    rw[N.ffb]at okf ⊢;exact jls (T:=T) (k:=j-1) (c:=⟨dff.N,(jaa stff).names⟩) ⟨⟨rfl,Sff.nd,λx z=>eq_of_beq z,λx z=>⟨eq_of_beq z,rfl⟩,λx z=>.inr (eq_of_beq z),λx z=>eq_of_beq z,hroom2.mono (by omega),rfl,jkC,pf.blt,pf.fns,pf.gls,hroom2.mono (by omega),pf.cls,pf.mgK⟩,rfl,Sff.kind,rfl,rfl⟩ CLO okf),?_⟩
   have ru3:RUs K H3 [uw,.int z.least,.loc f'] [vw,.int z.least,.ref f']:=⟨_,_,rfl,rvw.ts (fr'.ts hG),_,_,rfl,rfl,_,_,rfl,rfl,rfl⟩;have sr:=jcy (N:=dff.N) ru3;rw[N.ffl]at sr;refine⟨⟨λ_ _=>False,Q',λx _ G'=>E' x G'⟩,_,G,sr,hG',jno.mp h,⟨λ_ _ _ _ _ _ _ q=>q.elim,λw v G' H' a b c q=>lv w v G' H' a b (fr'.trans c) q,λpins e s' x ς' σ' G' H' I1 sr xat hr' fx q=>?_⟩⟩;obtain⟨ea,C0,dx,rfl,l,xd⟩:=xat;exact CX1.out1 I1 l λpins' ea' s'' I'' l''=>CX1.out1 I'' l'' (lx x G' H' C0 dx xd hr' (fr'.trans fx) q)
  ·cases r with
   |error e=>
    obtain⟨ea,H',cls,dx,rfl,I',l,q⟩:=CX1.back J3 hq;exact q _ ea s' I' l
   |ok fl=>
    cases fl with
    |ret u=>exact J3.after hq
    |next=>exact Ybn hq
    |brk=>exact Ybn hq
    |cont=>exact Ybn hq
 refine YbR (wpAny_Return_some (thn hcall λu s3 ⟨v,H3,I3,rv,q⟩=>?_));exact⟨v,σ2,H3,I3.unpinned,rv,q⟩
end
noncomputable def scB (N ps:List Str)(sc:Scope):Bool:=
 decide (sc.kind=.function) && !sc.isCoroutine && !sc.isGenerator&&decide N.Nodup&&(N.take ps.length==ps)&&ps.all (λx=>sc.names.lookup x==some .local||sc.names.lookup x==some .cell)&&sc.names.all (λy=>y.2 != .free)
theorem jge {N ps:List Str}{sc:Scope}(h:scB N ps sc=true):FnScope N ps sc:=by
 unfold scB at h;simp only[Yap,decide_eq_true_eq,Ycu]at h;obtain⟨⟨⟨⟨⟨⟨h1,h2⟩,h3⟩,h4⟩,h5⟩,h6⟩,h7⟩:=h;refine⟨h1,h2,h3,h4,eq_of_beq h5,λx hx=>?_,λy hy=>?_⟩
 ·have:=Ydg.mp h6 x hx;simpa using this
 ·simpa using Ydg.mp h7 y hy
noncomputable def cloB (N ps:List Str)(sc:Scope):Bool:=
 decide (sc.kind=.function) && !sc.isCoroutine && !sc.isGenerator&&decide N.Nodup&&(N.take ps.length==ps)&&ps.all (λx=>sc.names.lookup x==some .local)&&sc.names.all (λy=>y.2 != .cell)&&sc.names.all (λy=>y.2 != .free||sc.names.lookup y.1==some .free)
theorem jjU {N ps:List Str}{sc:Scope}(h:cloB N ps sc=true):CloScope N ps sc:=by
 unfold cloB at h;simp only[Yap,decide_eq_true_eq,Ycu]at h;obtain⟨⟨⟨⟨⟨⟨⟨h1,h2⟩,h3⟩,h4⟩,h5⟩,h6⟩,h7⟩,h8⟩:=h;refine⟨h1,h2,h3,h4,eq_of_beq h5,λx hx=>?_,λy hy=>?_,λx hx=>?_⟩
 ·simpa using Ydg.mp h6 x hx
 ·simpa using Ydg.mp h7 y hy
 ·simpa using Ydg.mp h8 _ hx
noncomputable def jdD (T:Tab):Nat->List Fun->List Stmt->Bool
 |_,[],[]=>true
 |i,d::ds,st::sts=>scB d.N d.ps (jaa st)&&((T.ns.lookup i).isSome||okSs T ⟨d.N,(jaa st).names⟩ d.body (jae st))&&jdD T (i+1) ds sts
 |_,_,_=>false
def jd2 (T:Tab)(all:List Stmt):Nat->List Fun->List Stmt->Prop
 |_,[],_=>True
 |i,d::ds,st::sts=>(match T.ns.lookup i with
  |none=>unSs T ⟨d.N,(jaa st).names⟩ d.body (jae st)=jae st
  |some z=>T.ns.lookup z.ff=none/\∃dff stff dv dc,NestS T all d st z dff stff dv dc)/\jd2 T all (i+1) ds sts
 |_,_::_,[]=>False
theorem jbW {T:Tab}{all:List Stmt}:∀{i:Nat} {ds:List Fun} {sts:List Stmt},jdD T i ds sts=true->jd2 T all i ds sts->∀{n:Nat} {d:Fun},ds[n]?=some d->∃st,sts[n]?=some st/\scB d.N d.ps (jaa st)=true/\(match T.ns.lookup (i+n)with
  |none=>okSs T ⟨d.N,(jaa st).names⟩ d.body (jae st)=true/\unSs T ⟨d.N,(jaa st).names⟩ d.body (jae st)=jae st
  |some z=>T.ns.lookup z.ff=none/\∃dff stff dv dc,NestS T all d st z dff stff dv dc)
 |_,[],_,_,_,_,_,e=>by simp at e
 |_,_::_,[],h,_,_,_,_=>by unfold jdD at h;cases h
 |i,d::ds,st::sts,h,g,n,d',e=>by
  unfold jdD at h;unfold jd2 at g;simp only[Yap]at h;cases n with
  |zero=>
   simp at e;subst e;refine⟨st,rfl,h.1.1,?_⟩;have g1:=g.1;have h1:=h.1.2;rw[Nat.add_zero];cases q:T.ns.lookup i with
   |none=>rw[q]at g1 h1;exact⟨by simpa using h1,g1⟩
   |some z=>rw[q]at g1;exact g1
  |succ n=>
   obtain⟨st',e',q⟩:=jbW h.2 g.2 (n:=n) (by simpa using e)
   rw[show i+1+n=i+(n+1) by omega]at q
   exact⟨st',by simpa using e',q⟩
noncomputable def jcZ (K:Yaa)(v:Value)(P:Addr):Bool:=match v with
 |.ref c=>(match K.lookup c with
  |some ⟨.type t,_,.fields vs,_⟩=>t == "code" && (match (vs[11]?:Option Value)with|some (.ref Q)=>Q==P|_=>false)&&(match vs.getD 18 .none with|.str _ _=>true|_=>false)&&(match vs.getD 7 .none with|.int _ _=>true|_=>false)
   && (match vs.getD 9 .none with|.bool _=>true|_=>false)&&(match vs.getD 10 .none with|.int _ _=>true|_=>false)&&c != P
  |_=>false)
 |_=>false
theorem jhY {K:Yaa}{h:Heap}{v:Value}{P:Addr}(X:K.In h)(q:jcZ K v P=true):∃c,v=.ref c/\Yf9 h c P:=by
 unfold jcZ at q;split at q
 ·rename_i c;split at q
  ·rename_i t dd vs sl hk;simp only[Yap]at q;obtain⟨⟨⟨⟨⟨⟨q1,q2⟩,q3⟩,q4⟩,q5⟩,q6⟩,q7⟩:=q;refine⟨c,rfl,⟨.type t,dd,.fields vs,sl⟩,vs,?_⟩;have ho:=X c _ hk;split at q2
   ·rename_i Q e11;obtain rfl:Q=P:=by simpa using q2
    split at q3
    ·rename_i s1 t1 e18;split at q4
     ·rename_i s2 t2 e7;split at q5
      ·rename_i b e9;split at q6
       ·rename_i s3 t3 e10;exact⟨s1,t1,s2,t2,b,s3,t3,ho,by rw[eq_of_beq q1],rfl,e11,by rw[Array.getD_eq_getD_getElem?,e11];rfl,e18,e7,e9,e10,by simpa using q7⟩
       ·cases q6
      ·cases q5
     ·cases q4
    ·cases q3
   ·cases q2
  ·cases q
 ·cases q
section
variable {T:Tab}{P:Program}{w:World}{K:Yaa}{mg:Str->Option Value}{base:Heap}
theorem jdt {j n:Nat}{f:Addr}{fd:Ybk}{ps:List Str}{t:List U->Gp->K1->KX->Prop}(hz:∀us G Q E,¬t us G Q E):FnOk P w K mg base (CX1 P w) j f fd ps (lSp K t):=
 ⟨λvs H Q E ⟨_,_,_,_,_,_,h,_⟩=>(hz _ _ _ _ h).elim,λA outer s H args us vs Q E _ _ _ _ ⟨_,_,_,_,_,_,h,_⟩=>(hz _ _ _ _ h).elim⟩
theorem jfE {k n:Nat}{d:Fun}{st:Stmt}{f:Addr}{fd:Ybk}(F:L2.Fun K d.name d.name st f fd)(h1:scB d.N d.ps (jaa st)=true)(h2:okSs T ⟨d.N,(jaa st).names⟩ d.body (jae st)=true)(h3:unSs T ⟨d.N,(jaa st).names⟩ d.body (jae st)=jae st)
  (pf:PF T P w K mg base k) (hd:T.funs[n]?=some d):FnOk P w K mg base (CX1 P w) (k+3) f fd d.ps (lSp K (jac T (k+1) n)):=by
 have S:=jge h1;refine F.okX S (λvs H Q E ⟨us,G,Q',E',r,hG,h,lv,lx⟩=>by rw[<- r.length];exact(jby (jfU hd) h).1) λcdv A outer s H vs Q E hr hsp=>?_
 obtain⟨us,G,Q',E',r,hG,h,lv,lx⟩:=hsp;obtain⟨hl,h⟩:=jby (jfU hd) h;refine⟨_,jgW h3 (sSs d.body (k:=k) (c:=⟨d.N,(jaa st).names⟩) (hs:=jae st) ⟨⟨rfl,S.nd,λx z=>eq_of_beq z,λx z=>⟨eq_of_beq z,rfl⟩,λx z=>.inr (eq_of_beq z),λx z=>eq_of_beq z,hr.mono (by omega),rfl,jkC,pf.blt,pf.fns,pf.gls,hr,pf.cls,pf.mgK⟩,rfl,S.kind,rfl,rfl⟩ h2),?_⟩
 exact⟨_,_,G,jcy r,hG,h,⟨λς' σ' G' H' a b c q=>lv .non .non G' H' rfl b c q,λw v G' H' a b c q=>lv w v G' H' a b c q,λpins e s' x ς' σ' G' H' I sr xat hr' f q=>by obtain⟨ea,C0,dx,rfl,l,xd⟩:=xat;exact CX1.out1 I l (lx x G' H' C0 dx xd hr' f q)⟩⟩
abbrev Dyn (T:Tab)(K:Yaa)(mg:Str->Option Value)(sts:List Stmt):Prop:=∀(n:Nat) (d:Fun) (st:Stmt),T.funs[n]?=some d->sts[n]?=some st->∃(f:Addr) (fd:Ybk),L2.Fun K d.name d.name st f fd/\mg d.name=some (.ref f)/\Binds K fd d.ps []/\∀z,T.ns.lookup n=some z->jcZ K fd.code z.P=true
theorem jky {sts:List Stmt}(hst:jdD T 0 T.funs sts=true)(heq:jd2 T sts 0 T.funs sts)(dyn:Dyn T K mg sts)(hU:∀t∈tabs,∀t'∈tabs,t.1=t'.1->t=t')(hKb:K.In base)(hB:BmAt mg base)
  (hb:∀x∈jbR,mg x=none) (hg:∀(n:Nat) (x:Str) (u:U),T.gn[n]?=some x->T.gs[n]?=some u->∃v w,mg x=some w/\RelV v w/\∀H,RU K H u v) (hc:∀n∈T.cs,1<=n->∃C,XCls K (gK K) (clsN n) (clsF n) C) (hm:∀x v,gK K x=some v->mg x=some v) :
  ∀(k:Nat),PF T P w K mg base k:=by
 intro k
 induction k using Nat.strongRecOn with
 |ind k ih=>
  refine⟨hb,λn d hd=>?_,hg,hc,hm⟩;obtain⟨st,e,h1,h2⟩:=jbW hst heq hd;obtain⟨f,fd,F,m,b,hz⟩:=dyn n d st hd e;refine⟨f,fd,?_,m,F.kp,b⟩;rw[YcW]at h2;cases q:T.ns.lookup n with
  |none=>
   rw[q]at h2;obtain _|k:=k
   ·exact jdt (n:=n) λ_ _ _ _ h=>h
   ·exact jfE F h1 h2.1 h2.2 (ih k (by omega)) hd
  |some z=>
   rw[q]at h2;obtain⟨hff,dff,stff,dv,dc,N⟩:=h2;obtain _|_|j:=k
   ·exact jdt (n:=n) λ_ _ _ _ h=>h
   ·refine jdt (n:=n) λus G Q E h=>?_;obtain⟨_,h⟩:=jby (jfU hd) h;rw[N.body]at h;obtain⟨cs,_,_,h⟩:=jfd (show jau T.gs (jac T 0) (capE z.caps (.cons (.v z.wi) (.cons (.int z.least) .nil))) (jaf d.N.length us) G (λzs G1=>jac T 0 z.vi zs G1 Q λx G'=>E x G') _ from h);obtain⟨_,_,h⟩:=jbE (show slot (jaf d.N.length us) z.wi λx=>jac T 0 z.vi (cs++[x,.int z.least]) G Q λx G'=>E x G' from h);exact h
   ·obtain⟨st2,e2,g1,g2⟩:=jbW hst heq N.ff;rw[YcW,hff]at g2;obtain⟨fff,fdff,Fff,mff,bff,_⟩:=dyn z.ff dff st2 N.ff e2;have:st2=stff:=by rw[N.ffs]at e2;exact(Yan e2).symm
    subst this;exact jk1 N hU (jge g1) g2.1 g2.2 F Fff mff bff (jhY hKb (hz z q)) hB (ih (j-1) (by omega)) (jfU hd)
noncomputable def G0 (a:Addr)(ns:List Int):Gp:=λb=>if b=a then some (.fro (ns.map .int)) else none
theorem jhB {H:Hp}:∀ns:List Int,RUs K H (ns.map .int) (ns.map V.int)
 |[]=>rfl
 |_::r=>⟨_,_,rfl,rfl,jhB r⟩
theorem law_sp {k n:Nat}{H:Hp}{o:Obj}{a:Addr}{ns:List Int}{tb:List Addr}(hT:∀t∈tabs,t.1∈tb)(hO:jjd tb H)(fr:H a=some (.frz o (.lst (ns.map V.int))))(h:jac T k n [.loc a] (G0 a ns) (λu _=>u=.bl true) λ_ _=>False) :
  lSp K (jac T k n) [.ref a] H (λv _=>v=.bl true) λ_ _ _=>False:=by
 refine⟨[.loc a],G0 a ns,_,_,⟨_,_,rfl,rfl,rfl⟩,⟨λb mo e=>?_,λt ht=>.inl ?_⟩,h,λw v G' H' r _ _ q=>?_,λ_ _ _ _ _ _ _ _ z=>z.elim⟩
 ·unfold G0 at e;split at e
  ·rename_i z;subst z;cases e;exact⟨o,_,fr,jhB ns⟩
  ·cases e
 ·have:=hO t.1;rw[if_pos (hT t ht)]at this;exact this
 ·subst q;exact r
theorem jgf {sts:List Stmt}{k n:Nat}{d:Fun}{st:Stmt}{f:Addr}{fd:Ybk}(F:L2.Fun K d.name d.name st f fd)(hst:jdD T 0 T.funs sts=true)(heq:jd2 T sts 0 T.funs sts)(dyn:Dyn T K mg sts)(hU:∀t∈tabs,∀t'∈tabs,t.1=t'.1->t=t')(hKb:K.In base)(hB:BmAt mg base)
  (hb:∀x∈jbR,mg x=none) (hg:∀(n:Nat) (x:Str) (u:U),T.gn[n]?=some x->T.gs[n]?=some u->∃v w,mg x=some w/\RelV v w/\∀H,RU K H u v) (hc:∀n∈T.cs,1<=n->∃C,XCls K (gK K) (clsN n) (clsF n) C) (hm:∀x v,gK K x=some v->mg x=some v) (hd:T.funs[n]?=some d) (hs:sts[n]?=some st) (hn:T.ns.lookup n=none) :
  FnOk P w K mg base (CX1 P w) (k+2) f fd d.ps (lSp K (jac T k n)):=by
 cases k with
 |zero=>exact jdt (n:=n) λ_ _ _ _ h=>h
 |succ k=>
  obtain⟨st',e,h1,h2⟩:=jbW hst heq hd;rw[hs]at e;cases e;rw[YcW,hn]at h2;exact jfE F h1 h2.1 h2.2 (jky hst heq dyn hU hKb hB hb hg hc hm k) hd
end
section
variable {K:Yaa}
theorem jpd {x:Str}{v:Value}(h:gK K x=some v):Ybc K YaB x=some (some v):=by
 unfold gK at h;cases q:Ybc K YaB x with
 |none=>rw[q]at h;cases h
 |some o=>rw[q]at h;rw[show o=some v from h]
theorem jmY {h:Heap}{mg:Str->Option Value}(X:K.In h)(G:h.Ns YaB mg):∀x v,gK K x=some v->mg x=some v:=λ_ _ e=>Yc2 X G (jpd e)
theorem jnn {x:Str}{v:Value}(h:Ybc K YaB x=some (some v)):gK K x=some v:=by unfold gK;rw[h];rfl
noncomputable def ksB:List Str:=["__module__", "__firstlineno__", "__static_attributes__", "__weakref__", "__doc__"]
noncomputable def ksC:List Str:=["__module__", "__firstlineno__", "__init__", "__static_attributes__", "__doc__"]
noncomputable def offB (ks:List Str):Bool:=offN.all λy=>!ks.contains y
theorem jju {ks:List Str}{m:Str->Option Value}(h:offB ks=true)(hm:∀x,x∉ks->m x=none):∀y∈offN,m y=none:=λy hy=>hm y (by
 have:=Ydg.mp h y hy;simpa using this)
theorem jij {D ND:Addr}{q:Str}{bs sub:List Value}{hd ab:Bool}{sn ks:List Str}{col:Option Bool}{dd:Option Addr}{k0 k1 k2 k3 k5:Option Value}{nid:String}(a:Ybc K YaB "PlanError" = some (some (.ref D)))(kp:Ya8 K (.ref D)=true)
  (l:K.lookup D=some (Yc1 "PlanError" q D ND bs bmV hd sn sub ab col dd k0 k1 k2 k3 k5 nid)) (n:jdg K ND=some ks) (h1:offB ks=true) (h2:ks.contains ("__init__" : Str)=false):∃mD,XBase K (gK K) D mD:=by
 obtain⟨m,hn,hno,_⟩:=jmV n;exact⟨m,jnn a,kp,⟨_,_,_,_,_,_,_,_,_,_,_,_,_,_,_,l,hn⟩,jju h1 hno,hno _ (by simpa using h2)⟩
theorem jj2 {C D N fI:Addr}{x q qual:Str}{fs:List Str}{bs sub:List Value}{ab:Bool}{sn ks:List Str}{col:Option Bool}{dd od:Option Addr}{k0 k1 k2 k3 k5:Option Value}{mD:Str->Option Value}{st:Stmt}{fd:Ybk}{osl:Array (Option Value)}(B:XBase K (gK K) D mD)(a:Ybc K YaB x=some (some (.ref C)))(kp:Ya8 K (.ref C)=true)
  (l:K.lookup C=some (Yc1 x q C N bs (.ref D::bmV) true sn sub ab col dd k0 k1 k2 k3 k5 "ValueError.__new__")) (n:jdg K N=some ks) (h1:offB ks=true) (i:Ybc K N "__init__" = some (some (.ref fI))) (F:L2.Fun K "__init__" qual st fI fd) (lf:K.lookup fI=some ⟨.type "function",od,.func fd,osl⟩)
  (S:scB (("self" : Str)::fs) ("self" :: fs) (jaa st)=true) (b:Binds K fd (("self" : Str)::fs) []) (hloc:((("self" : Str)::fs).all λy=>(jaa st).names.lookup y==some .local)=true)
  (bd:(∃f p1 p2 p3 pos,fs=[f]/\jae st=[.Assign [.Attribute (.Name "self" p1) f p2] (.Name f p3) pos])\/∃f f2 p1 p2 p3 pos q1 q2 q3 qos,fs=[f,f2]/\f≠f2/\jae st=[.Assign [.Attribute (.Name "self" p1) f p2] (.Name f p3) pos,.Assign [.Attribute (.Name "self" q1) f2 q2] (.Name f2 q3) qos]):XCls K (gK K) x fs C:=by
 obtain⟨m,hn,hno,hso⟩:=jmV n;exact⟨jnn a,kp,D,N,fI,m,mD,B,⟨_,_,_,_,_,_,_,_,_,_,_,_,l⟩,hn,jju h1 hno,hso _ _ i,st,qual,fd,F,⟨_,_,lf⟩,jge S,b,λy hy=>eq_of_beq (Ydg.mp hloc y hy),bd⟩
end
theorem je6 {G:Gp}{a:Addr}{o u:MO}:gup (gup G a o) a u=gup G a u:=by funext b;unfold gup;split<;>rfl
def Sm (f:Addr)(G G':Gp):Prop:=∀b o,b≠f->G b=some o->G' b=some o
def Sa (G G':Gp):Prop:=∀b o,G b=some o->G' b=some o
theorem Sm.refl {f:Addr}{G:Gp}:Sm f G G:=λ_ _ _ h=>h
theorem Sa.refl {G:Gp}:Sa G G:=λ_ _ h=>h
theorem Sm.trans {f:Addr}{G G1 G2:Gp}(a:Sm f G G1)(b:Sm f G1 G2):Sm f G G2:=λc o n h=>b c o n (a c o n h)
theorem Sa.trans {G G1 G2:Gp}(a:Sa G G1)(b:Sa G1 G2):Sa G G2:=λc o h=>b c o (a c o h)
theorem Sa.sm {f:Addr}{G G':Gp}(a:Sa G G'):Sm f G G':=λc o _ h=>a c o h
theorem Sa.new {G:Gp}{p:Addr}{o:MO}(h:G p=none):Sa G (gup G p o):=λc u e=>by
 rw[jbj (λz=>by rw[z,h]at e;cases e)];exact e
theorem Sm.put {G:Gp}{f:Addr}{o:MO}:Sm f G (gup G f o):=λc u n e=>by rw[jbj n];exact e
theorem jhj {G:Gp}{a p:Addr}{o:MO}(h:G a=some o)(hp:G p=none):p≠a:=λz=>by rw[z,h]at hp;cases hp
section
variable {G G':Gp}{p:Addr}{o:MO}
theorem New.at (n:New G p o G'):G' p=some o:=by rw[n.eq];exact jas
theorem New.sa (n:New G p o G'):Sa G G':=by rw[n.eq];exact Sa.new n.no
theorem Put.at (n:Put G p o G'):G' p=some o:=by rw[n.eq];exact jas
theorem Put.sm (n:Put G p o G'):Sm p G G':=by rw[n.eq];exact Sm.put
end
mutual
noncomputable def pd:U->PyData
 |.non=>.none
 |.bl b=>.bool b
 |.int i=>.int i
 |.str x=>.str x
 |.tup us=>.tuple (pds us)
 |.loc _=>.none
 |.fn _=>.none
 |.ty _=>.none
 |.exc _ _=>.none
 |.own _=>.none
 |.clo _ _=>.none
noncomputable def pds:List U->List PyData
 |[]=>[]
 |u::us=>pd u::pds us
end
mutual
noncomputable def bare:U->Bool
 |.non=>true
 |.bl _=>true
 |.int _=>true
 |.str _=>true
 |.tup us=>bares us
 |.loc _=>false
 |.fn _=>false
 |.ty _=>false
 |.exc _ _=>false
 |.own _=>false
 |.clo _ _=>false
noncomputable def bares:List U->Bool
 |[]=>true
 |u::us=>bare u&&bares us
end
mutual
theorem jnu {G:Gp}:∀{u:U},bare u=true->DU G u (pd u)
 |.non,_=>.non
 |.bl b,_=>.bl b
 |.int i,_=>.int i
 |.str x,_=>.str x
 |.tup _,h=>.tup (jfX h)
 |.loc _,h=>nomatch h
 |.fn _,h=>nomatch h
 |.ty _,h=>nomatch h
 |.exc _ _,h=>nomatch h
 |.own _,h=>nomatch h
 |.clo _ _,h=>nomatch h
theorem jfX {G:Gp}:∀{us:List U},bares us=true->DUs G us (pds us)
 |[],_=>.nil
 |_::_,h=>.cons (jnu (ba h).1) (jfX (ba h).2)
end
theorem jf3:∀{us:List U},(∀u∈us,bare u=true)->bares us=true
 |[],_=>rfl
 |u::us,h=>by
  show(bare u&&bares us)=true;rw[h u Yao,jf3 λv hv=>h v (Yag _ hv)];rfl
theorem jg5:∀us:List U,pds us=us.map pd
 |[]=>rfl
 |u::us=>by
  show pd u::pds us=_;rw[jg5 us];rfl
theorem jme {G:Gp}{u:U}{Q:K1}(h:bare u=true)(f:Fits 16000000 60 (pd u))(q:Q (.str (pd u).shown) G):jeQ [u] G Q:=⟨pd u,jnu h,f,q⟩
structure Sml (n:Nat)(u:U):Prop where
 b:bare u=true
 l:(pd u).canLay0=true
 d:(pd u).depth<=n
theorem Sml.int (i:Int):Sml 0 (.int i):=⟨rfl,rfl,Yaf _⟩
theorem Sml.str {x:Str}(h:∀c∈x.cps.toList,c<128):Sml 0 (.str x):=⟨rfl,by
 show x.cps.all (λc=>decide (c<0x110000))=true;rw[<- Ygf,Ydg];exact λc hc=>by simpa using YcD (h c hc) (by decide),Yaf _⟩
theorem smls {n:Nat}:∀{us:List U},(∀u∈us,Sml n u)->bares us=true/\YfH (pds us)=true/\Yck (pds us)<=n
 |[],_=>⟨rfl,rfl,Ybw _⟩
 |u::us,h=>by
  obtain⟨h1,h2,h3⟩:=smls λv hv=>h v (Yag _ hv);have hu:=h u Yao;refine⟨?_,?_,?_⟩
  ·show(bare u&&bares us)=true;rw[hu.b,h1];rfl
  ·show((pd u).canLay0&&YfH (pds us))=true;rw[hu.l,h2];rfl
  ·show max (pd u).depth (Yck (pds us))<=n;exact Nat.max_le.mpr ⟨hu.d,h3⟩
theorem Sml.tup {n:Nat}{us:List U}(h:∀u∈us,Sml n u):Sml (n+1) (.tup us):=let ⟨h1,h2,h3⟩:=smls h;⟨h1,h2,Yev h3⟩
theorem jnp {G:Gp}{n:Nat}{a b:Addr}{us:List U}{k:Bool->Prop}(ga:G a=some (.lst us))(gb:G b=some (.lst []))(h:∀u∈us,Sml n u)(hn:n<100)(q:k us.isEmpty):eqU (.loc a) (.loc b) G k:=by
 obtain⟨h1,h2,h3⟩:=smls h;have la:lsG G a=some us:=by unfold lsG;rw[ga]
 have lb:lsG G b=some []:=by unfold lsG;rw[gb]
 refine⟨.list (pds us),.list [],.lst la (jfX h1),.lst lb .nil,⟨h2,?_⟩,⟨rfl,by decide⟩,?_⟩
 ·show Yck (pds us)+1<=100;omega
 ·have e:YaJ (.list (pds us)) (.list [])=us.isEmpty:=by
   show YcE (pds us) []=_;rw[jgv];cases us<;>rfl
  rw[e];exact q
structure Ft (n k:Nat)(u:U):Prop where
 b:bare u=true
 f:Fits n k (pd u)
theorem Ft.mono {n n' k k':Nat}{u:U}(h:Ft n k u)(h1:n<=n')(h2:k<=k'):Ft n' k' u:=⟨h.b,h.f.mono h1 h2⟩
theorem Ft.int {i:Int}(h:i.natAbs<2 ^ 1000):Ft 1921 0 (.int i):=⟨rfl,Fits.int h⟩
theorem Ft.str {x:Str}{m:Nat}(h:x.length<=m)(hc:∀c∈x.cps.toList,c<128):Ft (10*m+2) 0 (.str x):=⟨rfl,Fits.str h λc hc'=>YcD (hc c hc') (by decide)⟩
theorem Ft.tup {n k m N:Nat}{us:List U}(hl:us.length<=m)(h:∀u∈us,Ft n k u)(hN:m*(n+2)+3<=N):Ft N (k+1) (.tup us):=by
 refine⟨jf3 λu hu=>(h u hu).b,?_⟩;show Fits N (k+1) (.tuple (pds us));rw[jg5];refine Fits.tupLe (m:=m) (n:=n) (by rw[Yah];exact hl) (λd hd=>?_) hN
 obtain⟨u,hu,rfl⟩:=List.mem_map.mp hd;exact(h u hu).f
theorem jmf {G:Gp}{n k:Nat}{u:U}{Q:K1}(h:Ft n k u)(h1:n<=16000000)(h2:k<=60)(q:Q (.str (pd u).shown) G):jeQ [u] G Q:=jme h.b (h.f.mono h1 h2) q
section
variable {ok:Gp->Prop}
theorem jaB {b:U->Sg->Gp->(Sg->Gp->Prop)->Prop}{k:Sg->Gp->Prop}:∀{xs:List U} (I:Nat->Sg->Gp->Prop) (_:∀ς G,I xs.length ς G->ok G/\k ς G)
  (_:∀i x ς G (K:Sg->Gp->Prop),xs[i]?=some x->I i ς G->(∀ς' G',I (i+1) ς' G'->K ς' G')->ok G/\b x ς G K) {ς:Sg} {G:Gp} (_:I 0 ς G),forL ok b xs ς G k
 |[],_,h0,_,_,_,h=>h0 _ _ h
 |x::_,I,h0,h1,_,_,h=>h1 0 x _ _ _ rfl h λ_ _ h'=>jaB (λi=>I (i+1)) h0 (λi y ς G K e hi hk=>h1 (i+1) y ς G K e hi hk) h'
theorem jcs {b:U->Gp->(Option U->Gp->Prop)->Prop}{k:List U->Gp->Prop}:∀{xs:List U} (I:Nat->List U->Gp->Prop) (_:∀acc G,I xs.length acc G->ok G/\k acc G)
  (_:∀i x acc G (K:Option U->Gp->Prop),xs[i]?=some x->I i acc G->(∀u G',I (i+1) (acc++[u]) G'->K (some u) G')->(∀G',I (i+1) acc G'->K none G')->ok G/\b x G K) {acc:List U} {G:Gp} (_:I 0 acc G),jbP ok b xs acc G k
 |[],_,h0,_,_,_,h=>h0 _ _ h
 |x::_,I,h0,h1,_,_,h=>h1 0 x _ _ _ rfl h (λ_ _ h'=>jcs (λi=>I (i+1)) h0 (λi y a G K e hi hk hn=>h1 (i+1) y a G K e hi hk hn) h') (λ_ h'=>jcs (λi=>I (i+1)) h0 (λi y a G K e hi hk hn=>h1 (i+1) y a G K e hi hk hn) h')
theorem jcY {b:U->Gp->(Option U->Gp->Prop)->Prop}{k:List U->Gp->Prop}{G:Gp}(f:U->U)(hok:ok G):∀{xs:List U} (_:∀x∈xs,∀K:Option U->Gp->Prop,K (some (f x)) G->b x G K) {acc:List U} (_:k (acc++xs.map f) G),jbP ok b xs acc G k
 |[],_,acc,q=>⟨hok,by simpa using q⟩
 |x::xs,hb,acc,q=>⟨hok,hb x Yao _ (jcY f hok (λy hy=>hb y (Yag _ hy)) (by simpa using q))⟩
theorem jce {b:U->Gp->(Option U->Gp->Prop)->Prop}{k:List U->Gp->Prop}{G:Gp}(f:U->Option U)(hok:ok G):∀{xs:List U} (_:∀x∈xs,∀K:Option U->Gp->Prop,K (f x) G->b x G K) {acc:List U} (_:k (acc++xs.filterMap f) G),jbP ok b xs acc G k
 |[],_,acc,q=>⟨hok,by simpa using q⟩
 |x::xs,hb,acc,q=>⟨hok,hb x Yao _ (jce f hok (λy hy=>hb y (Yag _ hy)) (by
   cases e:f x with
   |none=>rw[List.filterMap_cons_none e]at q;exact q
   |some u=>rw[List.filterMap_cons_some e]at q;simpa using q))⟩
end
theorem jaW (i:Int)(n:Nat):(rngU i n).length=n:=by unfold rngU;simp
theorem jbd {n i:Nat}{x:U}(h:(rngU 0 n)[i]?=some x):i<n/\x=.int i:=by
 unfold rngU at h;rw[Yat]at h;by_cases hi:i<n
 ·rw[YdJ hi]at h;exact⟨hi,by simpa using h.symm⟩
 ·rw[YcA (by simpa using hi)]at h
  cases h
theorem jfh {α β:Type}(f:α->β)(l:List α)(i:Int):atI (l.map f) i=(atI l i).map f:=by
 unfold atI;rw[Yah];cases ixN l.length i with
 |none=>rfl
 |some j=>simp
theorem jfj {α:Type}(a:α)(l:List α):atI (a::l) 0=some a:=jbz (xs:=a::l) (j:=0) rfl
theorem jf5 {α:Type}{l:List α}{r:Int}(h0:0<=r)(h1:r<l.length):∃x,x∈l/\atI l r=some x:=by
 obtain⟨j,rfl⟩:=Ya0 h0;have hj:j<l.length:=by omega
 exact⟨l[j],Ycg hj,jbz (YaI hj)⟩
noncomputable def fdU (c:Addr)(a l t:Int):List (Key×U):=[(.inr "cells",.loc c),(.inr "at",.int a),(.inr "left",.int l),(.inr "turn",.int t)]
structure Fd (G:Gp)(f c:Addr):Prop where
 ex:∃(ns:List Int) (a l t:Int),G f=some (.dK (fdU c a l t))/\G c=some (.lst (ns.map .int))/\ns≠[]
section
theorem k_ca:¬((Sum.inr ("cells" : Str):Key)=Sum.inr ("at" : Str)):=by decide +kernel
theorem k_cl:¬((Sum.inr ("cells" : Str):Key)=Sum.inr ("left" : Str)):=by decide +kernel
theorem k_ct:¬((Sum.inr ("cells" : Str):Key)=Sum.inr ("turn" : Str)):=by decide +kernel
theorem k_al:¬((Sum.inr ("at" : Str):Key)=Sum.inr ("left" : Str)):=by decide +kernel
theorem k_at:¬((Sum.inr ("at" : Str):Key)=Sum.inr ("turn" : Str)):=by decide +kernel
theorem k_lt:¬((Sum.inr ("left" : Str):Key)=Sum.inr ("turn" : Str)):=by decide +kernel
variable {c:Addr}{a l t:Int}
theorem jlm:dGet (fdU c a l t) (.inr "cells")=some (.loc c):=by simp[dGet,fdU]
theorem g_at:dGet (fdU c a l t) (.inr "at")=some (.int a):=by simp[dGet,fdU,k_ca,-Yci]
theorem jnm:dGet (fdU c a l t) (.inr "left")=some (.int l):=by simp[dGet,fdU,k_cl,k_al,-Yci]
theorem jjJ:dGet (fdU c a l t) (.inr "turn")=some (.int t):=by simp[dGet,fdU,k_ct,k_at,k_lt,-Yci]
theorem jjt (x:Int):dPut (fdU c a l t) (.inr "turn") (.int x)=fdU c a l x:=by simp[dPut,fdU,k_ct,k_at,k_lt,-Yci]
theorem p_at (x:Int):dPut (fdU c a l t) (.inr "at") (.int x)=fdU c x l t:=by simp[dPut,fdU,k_ca,Ne.symm k_al,Ne.symm k_at,-Yci]
theorem jmC (x:Int):dPut (fdU c a l t) (.inr "left") (.int x)=fdU c a x t:=by simp[dPut,fdU,k_cl,k_al,Ne.symm k_lt,-Yci]
theorem jmZ {p:Addr}:jcW [((Sum.inr ("cells" : Str):Key),U.loc p),(.inr "at",.int 0),(.inr "left",.int 0),(.inr "turn",.int 0)]=fdU p 0 0 0:=by
 simp[jcW,dPut,fdU,k_ca,k_cl,k_ct,k_al,k_at,k_lt,-Yci]
theorem jfV:(fdU c a l t).length<Yac:=by show 4<Yac;decide
section
variable {G G':Gp}
theorem Fd.put {f c:Addr}{ns:List Int}{kvs:List (Key×U)}{a l t:Int}(p:Put G f (.dK (fdU c a l t)) G')(h:G f=some (.dK kvs))(hc:G c=some (.lst (ns.map .int)))(hn:ns≠[]):Fd G' f c:=
 ⟨ns,a,l,t,p.at,p.sm _ _ (λz=>by rw[z,h]at hc;cases hc) hc,hn⟩
theorem Fd.sa {f c:Addr}(h:Fd G f c)(s:Sa G G'):Fd G' f c:=let ⟨ns,a,l,t,h1,h2,h3⟩:=h.ex;⟨ns,a,l,t,s _ _ h1,s _ _ h2,h3⟩
theorem Fd.new {f c p:Addr}{o:MO}(h:Fd G f c)(n:New G p o G'):Fd G' f c:=h.sa n.sa
theorem Fd.away {f c p:Addr}{o:MO}(h:Fd G f c)(n:New G p o G'):p≠f/\p≠c:=by
 obtain⟨ns,a,l,t,h1,h2,_⟩:=h.ex;exact⟨jhj h1 n.no,jhj h2 n.no⟩
theorem Fd.off {f c p:Addr}{o:MO}(h:Fd G f c)(hp:p≠f/\p≠c)(w:Put G p o G'):Fd G' f c:=let ⟨ns,a,l,t,h1,h2,h3⟩:=h.ex;⟨ns,a,l,t,w.sm _ _ (Ne.symm hp.1) h1,w.sm _ _ (Ne.symm hp.2) h2,h3⟩
end
theorem Sm.wr {f p:Addr}{G G1 G2 G3:Gp}{o:MO}(s1:Sm f G G1)(n:G1 p=none)(s2:Sm f G G2)(w:Put G2 p o G3):Sm f G G3:=λb u hb e=>w.sm b u (λz=>by
 have:=s1 _ _ hb e;rw[z,n]at this;cases this) (s2 b u hb e)
theorem Sm.nw {f p:Addr}{G G1 G2:Gp}{o:MO}(s:Sm f G G1)(n:New G1 p o G2):Sm f G G2:=s.trans n.sa.sm
end
section
variable {gs:List U}{Δ:Cl}
theorem D_v {ς:Sg}{G:Gp}{Q:K1}{X:KX}(i:Nat):(den gs Δ (.v i)).1 ς G Q X=(slot ς i λu=>Q u G):=rfl
theorem T_v {ς:Sg}{G:Gp}{R:Bool->Gp->Prop}{X:KX}(i:Nat):(den gs Δ (.v i)).2 ς G R X=(den gs Δ (.v i)).1 ς G (λx G1=>truU x G1 λb=>R b G1) X:=rfl
theorem jqd {ς:Sg}{G:Gp}{Q:K1}{X:KX}: (den gs Δ (.non)).1 ς G Q X=(Q .non G):=rfl
theorem D_bl {ς:Sg}{G:Gp}{Q:K1}{X:KX}(b:Bool):(den gs Δ (.bl b)).1 ς G Q X=(Q (.bl b) G):=rfl
theorem jqk {ς:Sg}{G:Gp}{Q:K1}{X:KX}(i:Int):(den gs Δ (.int i)).1 ς G Q X=(Q (.int i) G):=rfl
theorem jqa {ς:Sg}{G:Gp}{Q:K1}{X:KX}(x:Str):(den gs Δ (.str x)).1 ς G Q X=(Q (.str x) G):=rfl
theorem D_g {ς:Sg}{G:Gp}{Q:K1}{X:KX}(n:Nat):(den gs Δ (.g n)).1 ς G Q X=(glU gs n λu=>Q u G):=rfl
theorem T_g {ς:Sg}{G:Gp}{R:Bool->Gp->Prop}{X:KX}(n:Nat):(den gs Δ (.g n)).2 ς G R X=(den gs Δ (.g n)).1 ς G (λx G1=>truU x G1 λb=>R b G1) X:=rfl
theorem D_ty {ς:Sg}{G:Gp}{Q:K1}{X:KX}(n:String):(den gs Δ (.ty n)).1 ς G Q X=(Q (.ty n) G):=rfl
theorem T_ty {ς:Sg}{G:Gp}{R:Bool->Gp->Prop}{X:KX}(n:String):(den gs Δ (.ty n)).2 ς G R X=(den gs Δ (.ty n)).1 ς G (λx G1=>truU x G1 λb=>R b G1) X:=rfl
theorem jqq {ς:Sg}{G:Gp}{Q:K1}{X:KX}(o:Ydc)(a b:E):(den gs Δ (.bin o a b)).1 ς G Q X=((den gs Δ a).1 ς G (λx G1=>(den gs Δ b).1 ς G1 (λy G2=>binU o x y G2 Q) X) X):=rfl
theorem jpQ {ς:Sg}{G:Gp}{R:Bool->Gp->Prop}{X:KX}(o:Ydc)(a b:E):(den gs Δ (.bin o a b)).2 ς G R X=(den gs Δ (.bin o a b)).1 ς G (λx G1=>truU x G1 λb=>R b G1) X:=rfl
theorem jqe {ς:Sg}{G:Gp}{Q:K1}{X:KX}(a:E):(den gs Δ (.neg a)).1 ς G Q X=((den gs Δ a).1 ς G (λx G1=>negU x G1 Q) X):=rfl
theorem jqo {ς:Sg}{G:Gp}{Q:K1}{X:KX}(o:CmpOp)(a b:E):(den gs Δ (.cmp o a b)).1 ς G Q X=((den gs Δ a).1 ς G (λx G1=>(den gs Δ b).1 ς G1 (λy G2=>cmpU o x y G2 λc=>Q (.bl c) G2) X) X):=rfl
theorem jpO {ς:Sg}{G:Gp}{R:Bool->Gp->Prop}{X:KX}(o:CmpOp)(a b:E):(den gs Δ (.cmp o a b)).2 ς G R X=(den gs Δ (.cmp o a b)).1 ς G (λx G1=>truU x G1 λb=>R b G1) X:=rfl
theorem jn1 {ς:Sg}{G:Gp}{Q:K1}{X:KX}(o p:CmpOp)(a b c:E):(den gs Δ (.cmp2 o p a b c)).1 ς G Q X=((den gs Δ a).1 ς G (λx G1=>(den gs Δ b).1 ς G1 (λy G2=>cmpU o x y G2 λt=>if t=true then (den gs Δ c).1 ς G2 (λz G3=>cmpU p y z G3 λt'=>Q (.bl t') G3) X else Q (.bl false) G2) X) X):=rfl
theorem jnL {ς:Sg}{G:Gp}{R:Bool->Gp->Prop}{X:KX}(o p:CmpOp)(a b c:E):(den gs Δ (.cmp2 o p a b c)).2 ς G R X=(den gs Δ (.cmp2 o p a b c)).1 ς G (λx G1=>truU x G1 λb=>R b G1) X:=rfl
theorem jp9 {ς:Sg}{G:Gp}{Q:K1}{X:KX}(es:Es):(den gs Δ (.tup es)).1 ς G Q X=(jau gs Δ es ς G (λus G1=>us.length<=Yac/\Q (.tup us) G1) X):=rfl
theorem jqh {ς:Sg}{G:Gp}{Q:K1}{X:KX}(es:Es):(den gs Δ (.lst es)).1 ς G Q X=(jau gs Δ es ς G (λus G1=>us.length<=Yac/\newO G1 (.lst us) Q) X):=rfl
theorem jqn {ς:Sg}{G:Gp}{Q:K1}{X:KX}(es:Es):(den gs Δ (.dic es)).1 ς G Q X=(denD gs Δ es ς G (λkvs G1=>kvs.length<=15/\newO G1 (.dK (jcW kvs)) Q) X):=rfl
theorem D_ix {ς:Sg}{G:Gp}{Q:K1}{X:KX}(a b:E):(den gs Δ (.ix a b)).1 ς G Q X=((den gs Δ a).1 ς G (λx G1=>(den gs Δ b).1 ς G1 (λy G2=>ixU x y G2 Q) X) X):=rfl
theorem T_ix {ς:Sg}{G:Gp}{R:Bool->Gp->Prop}{X:KX}(a b:E):(den gs Δ (.ix a b)).2 ς G R X=(den gs Δ (.ix a b)).1 ς G (λx G1=>truU x G1 λb=>R b G1) X:=rfl
theorem D_sl {ς:Sg}{G:Gp}{Q:K1}{X:KX}(a:E)(lo hi:Eo):(den gs Δ (.sl a lo hi)).1 ς G Q X=((den gs Δ a).1 ς G (λx G1=>denO gs Δ lo ς G1 (λl G2=>denO gs Δ hi ς G2 (λh G3=>slU x l h G3 Q) X) X) X):=rfl
theorem jqb {ς:Sg}{G:Gp}{Q:K1}{X:KX}(a b:E):(den gs Δ (.rev a b)).1 ς G Q X=((den gs Δ a).1 ς G (λx G1=>(den gs Δ b).1 ς G1 (λy G2=>revU x y G2 Q) X) X):=rfl
theorem jn2 {ς:Sg}{G:Gp}{Q:K1}{X:KX}(n:Nat)(es:Es):(den gs Δ (.call n es)).1 ς G Q X=(jau gs Δ es ς G (λus G1=>Δ n us G1 Q X) X):=rfl
theorem jnM {ς:Sg}{G:Gp}{R:Bool->Gp->Prop}{X:KX}(n:Nat)(es:Es):(den gs Δ (.call n es)).2 ς G R X=(den gs Δ (.call n es)).1 ς G (λx G1=>truU x G1 λb=>R b G1) X:=rfl
theorem jqp {ς:Sg}{G:Gp}{Q:K1}{X:KX}(b:Blt)(es:Es):(den gs Δ (.blt b es)).1 ς G Q X=(jau gs Δ es ς G (λus G1=>bltU b us G1 Q) X):=rfl
theorem jpP {ς:Sg}{G:Gp}{R:Bool->Gp->Prop}{X:KX}(b:Blt)(es:Es):(den gs Δ (.blt b es)).2 ς G R X=(den gs Δ (.blt b es)).1 ς G (λx G1=>truU x G1 λb=>R b G1) X:=rfl
theorem jn0 {ς:Sg}{G:Gp}{Q:K1}{X:KX}(m:Mth)(o:E)(es:Es):(den gs Δ (.meth m o es)).1 ς G Q X=((den gs Δ o).1 ς G (λx G1=>match mtU m x G1 with|some _=>jau gs Δ es ς G1 (λus G2=>jax m x us G2 Q) X|none=>False) X):=rfl
theorem D_lc {ς:Sg}{G:Gp}{Q:K1}{X:KX}(pick:List (Option Nat))(t:Tg)(it:It)(ifs:Es)(e:E):(den gs Δ (.lc pick t it ifs e)).1 ς G Q X=(denI gs Δ it ς G (λxs ok G1=>xs.length<=Yac/\jbP ok (λx G2 k=>tgU t x (jbt pick ς) λτ=>denC gs Δ ifs τ G2 (λb G3=>if b=true then (den gs Δ e).1 τ G3 (λu G4=>k (some u) G4) (λ_ _=>False) else k none G3)) xs [] G1 λus G5=>newO G5 (.lst us) Q) X):=rfl
theorem jqj {ς:Sg}{G:Gp}{Q:K1}{X:KX}(pick:List (Option Nat))(t:Tg)(it:It)(ifs:Es)(t2:Tg)(it2:It)(ifs2:Es)(e:E):(den gs Δ (.lc2 pick t it ifs t2 it2 ifs2 e)).1 ς G Q X=(denI gs Δ it ς G (λxs ok G1=>jlx ok (λx acc G2 k=>tgU t x (jbt pick ς) λτ=>denC gs Δ ifs τ G2 (λb G3=>if b=true then denI gs Δ it2 τ G3 (λys ok2 G4=>acc.length+ys.length<=Yac/\jbP ok2 (λy G5 k5=>tgU t2 y τ λτ'=>denC gs Δ ifs2 τ' G5 (λb2 G6=>if b2=true then (den gs Δ e).1 τ' G6 (λu G7=>k5 (some u) G7) (λ_ _=>False) else k5 none G6)) ys acc G4 k) (λ_ _=>False) else k acc G3)) xs [] G1 λus G5=>newO G5 (.lst us) Q) X):=rfl
theorem jpL {ς:Sg}{G:Gp}{R:Bool->Gp->Prop}{X:KX}(pick:List (Option Nat))(t:Tg)(it:It)(ifs:Es)(t2:Tg)(it2:It)(ifs2:Es)(e:E):(den gs Δ (.lc2 pick t it ifs t2 it2 ifs2 e)).2 ς G R X=(den gs Δ (.lc2 pick t it ifs t2 it2 ifs2 e)).1 ς G (λx G1=>truU x G1 λb=>R b G1) X:=rfl
theorem jqm {ς:Sg}{G:Gp}{Q:K1}{X:KX}(es:Es):(den gs Δ (.fst es)).1 ς G Q X=(denF gs Δ es ς G (λzs G1=>Q (.str (L2.cats Yfo zs)) G1) X):=rfl
theorem jpN {ς:Sg}{G:Gp}{R:Bool->Gp->Prop}{X:KX}(es:Es):(den gs Δ (.fst es)).2 ς G R X=(den gs Δ (.fst es)).1 ς G (λx G1=>truU x G1 λb=>R b G1) X:=rfl
theorem jqi {ς:Sg}{G:Gp}{Q:K1}{X:KX}(e:E)(i:Nat)(y a b:Str)(es:Es):(den gs Δ (.lrp e i y a b es)).1 ς G Q X=((den gs Δ e).1 ς G (λx G1=>slot ς i λu=>repU y b u λz w=>jau gs Δ es ς G1 (λus G2=>(x::.str z::.str w::us).length<=Yac/\newO G2 (.lst (x::.str z::.str w::us)) Q) X) X):=rfl
theorem jpK {ς:Sg}{G:Gp}{R:Bool->Gp->Prop}{X:KX}(e:E)(i:Nat)(y a b:Str)(es:Es):(den gs Δ (.lrp e i y a b es)).2 ς G R X=(den gs Δ (.lrp e i y a b es)).1 ς G (λx G1=>truU x G1 λb=>R b G1) X:=rfl
theorem jqg {ς:Sg}{G:Gp}{Q:K1}{X:KX}(e:E):(den gs Δ (.mkL e)).1 ς G Q X=((den gs Δ e).1 ς G (λx G1=>itU x G1 λxs _=>newO G1 (.lst xs) Q) X):=rfl
theorem jqf {ς:Sg}{G:Gp}{Q:K1}{X:KX}(e:E):(den gs Δ (.mkT e)).1 ς G Q X=((den gs Δ e).1 ς G (λx G1=>itU x G1 λxs _=>Q (.tup xs) G1) X):=rfl
theorem jqc {ς:Sg}{G:Gp}{Q:K1}{X:KX}(a:E):(den gs Δ (.not a)).1 ς G Q X=((den gs Δ a).1 ς G (λx G1=>truU x G1 λb=>Q (.bl (!b)) G1) X):=rfl
theorem jpJ {ς:Sg}{G:Gp}{R:Bool->Gp->Prop}{X:KX}(a:E):(den gs Δ (.not a)).2 ς G R X=((den gs Δ a).2 ς G (λb G1=>R (!b) G1) X):=rfl
theorem jql {ς:Sg}{G:Gp}{Q:K1}{X:KX}(c a b:E):(den gs Δ (.ife c a b)).1 ς G Q X=((den gs Δ c).2 ς G (λt G1=>if t=true then (den gs Δ a).1 ς G1 Q X else (den gs Δ b).1 ς G1 Q X) X):=rfl
theorem jpM {ς:Sg}{G:Gp}{R:Bool->Gp->Prop}{X:KX}(c a b:E):(den gs Δ (.ife c a b)).2 ς G R X=((den gs Δ c).2 ς G (λt G1=>if t=true then (den gs Δ a).2 ς G1 R X else (den gs Δ b).2 ς G1 R X) X):=rfl
theorem jn3 {k:Bool}{a:E}:den gs Δ (.bop k a .nil)=den gs Δ a:=rfl
theorem jqr {ς:Sg}{G:Gp}{Q:K1}{X:KX}{a b:E}{es:Es}:(den gs Δ (.bop true a (.cons b es))).1 ς G Q X=(den gs Δ a).1 ς G (λx G1=>truU x G1 λc=>if c=true then (den gs Δ (.bop true b es)).1 ς G1 Q X else Q x G1) X:=rfl
theorem D_or {ς:Sg}{G:Gp}{Q:K1}{X:KX}{a b:E}{es:Es}:(den gs Δ (.bop false a (.cons b es))).1 ς G Q X=(den gs Δ a).1 ς G (λx G1=>truU x G1 λc=>if c=true then Q x G1 else (den gs Δ (.bop false b es)).1 ς G1 Q X) X:=rfl
theorem jpR {ς:Sg}{G:Gp}{R:Bool->Gp->Prop}{X:KX}{a b:E}{es:Es}:(den gs Δ (.bop true a (.cons b es))).2 ς G R X=(den gs Δ a).2 ς G (λc G1=>if c=true then (den gs Δ (.bop true b es)).2 ς G1 R X else R false G1) X:=rfl
theorem T_or {ς:Sg}{G:Gp}{R:Bool->Gp->Prop}{X:KX}{a b:E}{es:Es}:(den gs Δ (.bop false a (.cons b es))).2 ς G R X=(den gs Δ a).2 ς G (λc G1=>if c=true then R true G1 else (den gs Δ (.bop false b es)).2 ς G1 R X) X:=rfl
theorem O_no {ς:Sg}{G:Gp}{X:KX}{Q:Option Int->Gp->Prop}:denO gs Δ .no ς G Q X=Q none G:=rfl
theorem O_so {ς:Sg}{G:Gp}{X:KX}{Q:Option Int->Gp->Prop}{e:E}:denO gs Δ (.so e) ς G Q X=(den gs Δ e).1 ς G (λx G1=>match x with|.int i=>Q (some i) G1|_=>False) X:=rfl
theorem jqu {ς:Sg}{G:Gp}{X:KX}{Q:List U->Gp->Prop}:jau gs Δ .nil ς G Q X=Q [] G:=rfl
theorem jn6 {ς:Sg}{G:Gp}{X:KX}{Q:List U->Gp->Prop}{e:E}{es:Es}:jau gs Δ (.cons e es) ς G Q X=(den gs Δ e).1 ς G (λx G1=>jau gs Δ es ς G1 (λxs G2=>Q (x::xs) G2) X) X:=rfl
theorem jqs {ς:Sg}{G:Gp}{Q:Bool->Gp->Prop}:denC gs Δ .nil ς G Q=Q true G:=rfl
theorem jn4 {ς:Sg}{G:Gp}{Q:Bool->Gp->Prop}{e:E}{es:Es}:denC gs Δ (.cons e es) ς G Q=(den gs Δ e).2 ς G (λb G1=>if b=true then denC gs Δ es ς G1 Q else Q false G1) (λ_ _=>False):=rfl
theorem jpW {ς:Sg}{G:Gp}{X:KX}{Q:List (Key×U)->Gp->Prop}:denD gs Δ .nil ς G Q X=Q [] G:=rfl
theorem jnR {ς:Sg}{G:Gp}{X:KX}{Q:List (Key×U)->Gp->Prop}{e f:E}{es:Es}:denD gs Δ (.cons e (.cons f es)) ς G Q X=(den gs Δ e).1 ς G (λx G1=>(den gs Δ f).1 ς G1 (λy G2=>match kU x with|some k=>denD gs Δ es ς G2 (λkvs G3=>Q ((k,y)::kvs) G3) X|none=>False) X) X:=rfl
theorem I_e {ς:Sg}{G:Gp}{X:KX}{Q:List U->(Gp->Prop)->Gp->Prop}{e:E}:denI gs Δ (.e e) ς G Q X=(den gs Δ e).1 ς G (λx G1=>itU x G1 λxs ok=>Q xs ok G1) X:=rfl
theorem I_r1 {ς:Sg}{G:Gp}{X:KX}{Q:List U->(Gp->Prop)->Gp->Prop}{e:E}:denI gs Δ (.r1 e) ς G Q X=(den gs Δ e).1 ς G (λx G1=>match x with|.int j=>-(2 ^ 62)<=j/\j<2 ^ 62/\Q (rngU 0 j.toNat) (λ_=>True) G1|_=>False) X:=rfl
theorem I_r2 {ς:Sg}{G:Gp}{X:KX}{Q:List U->(Gp->Prop)->Gp->Prop}{a b:E}:denI gs Δ (.r2 a b) ς G Q X=(den gs Δ a).1 ς G (λx G1=>(den gs Δ b).1 ς G1 (λy G2=>match x,y with|.int i,.int j=>-(2 ^ 62)<=i/\i<2 ^ 62/\-(2 ^ 62)<=j/\j<2 ^ 62/\Q (rngU i (j-i).toNat) (λ_=>True) G2|_,_=>False) X) X:=rfl
theorem I_s {ς:Sg}{G:Gp}{X:KX}{Q:List U->(Gp->Prop)->Gp->Prop}{e:E}:denI gs Δ (.s e) ς G Q X=(den gs Δ e).1 ς G (λx G1=>sgU x λxs=>Q xs (λ_=>True) G1) X:=rfl
theorem jp2 {ς:Sg}{G:Gp}{X:KX}{Q:List Str->Gp->Prop}:denF gs Δ .nil ς G Q X=Q [] G:=rfl
theorem jnZ {ς:Sg}{G:Gp}{X:KX}{Q:List Str->Gp->Prop}{e:E}{es:Es}:denF gs Δ (.cons e es) ς G Q X=(den gs Δ e).1 ς G (λx G1=>fpU x λz=>denF gs Δ es ς G1 (λzs G2=>Q (z::zs) G2) X) X:=rfl
theorem I_dk {ς:Sg}{G:Gp}{X:KX}{Q:List U->(Gp->Prop)->Gp->Prop}{e:E}:denI gs Δ (.dk e) ς G Q X=(den gs Δ e).1 ς G (λx G1=>jlI x G1 Q) X:=rfl
theorem jpS {D:En}{ς:Sg}{G:Gp}{ts:Tgs}{e:E}:denS gs Δ (.unp ts e) D ς G=(den gs Δ e).1 ς G (λu G1=>unpU ts u G1 ς λς'=>D.nx ς' G1) λx G1=>D.ex x ς G1:=rfl
theorem jnP {D:En}{ς:Sg}{G:Gp}{e:E}:denS gs Δ (.expr e) D ς G=(den gs Δ e).1 ς G (λ_ G1=>D.nx ς G1) λx G1=>D.ex x ς G1:=rfl
theorem jpV {D:En}{ς:Sg}{G:Gp}{t:Tg}{e:E}:denS gs Δ (.asg t e) D ς G=(den gs Δ e).1 ς G (λu G1=>tgU t u ς λς'=>D.nx ς' G1) λx G1=>D.ex x ς G1:=rfl
theorem jnQ {D:En}{ς:Sg}{G:Gp}{i:Nat}{e:E}:denS gs Δ (.asgC i e) D ς G=(den gs Δ e).1 ς G (λu G1=>D.nx (ς.set i (some u)) G1) λx G1=>D.ex x ς G1:=rfl
theorem jnO {D:En}{ς:Sg}{G:Gp}{o i e:E}:denS gs Δ (.setS o i e) D ς G=(den gs Δ e).1 ς G (λv G1=>(den gs Δ o).1 ς G1 (λx G2=>(den gs Δ i).1 ς G2 (λy G3=>setU x y v G3 λG4=>D.nx ς G4) (λx G1=>D.ex x ς G1)) (λx G1=>D.ex x ς G1)) (λx G1=>D.ex x ς G1):=rfl
theorem jpU {D:En}{ς:Sg}{G:Gp}{c:E}{a b:Ss}:denS gs Δ (.ite c a b) D ς G=(den gs Δ c).2 ς G (λt G1=>if t=true then jaC gs Δ a D ς G1 else jaC gs Δ b D ς G1) λx G1=>D.ex x ς G1:=rfl
theorem S_fr {D:En}{ς:Sg}{G:Gp}{t:Tg}{it:It}{b:Ss}:denS gs Δ (.fr t it b) D ς G=denI gs Δ it ς G (λxs ok G1=>forL ok (λx ς1 G2 k=>tgU t x ς1 λς2=>jaC gs Δ b { D with nx:=k } ς2 G2) xs ς G1 D.nx) λx G1=>D.ex x ς G1:=rfl
theorem jpT {D:En}{ς:Sg}{G:Gp}{e:E}:denS gs Δ (.ret e) D ς G=(den gs Δ e).1 ς G D.rt λx G1=>D.ex x ς G1:=rfl
theorem jlG {D:En}{ς:Sg}{G:Gp}{c:Nat}{es:Es}:denS gs Δ (.raise c es) D ς G=jau gs Δ es ς G (λus G1=>us.length=(clsF c).length/\D.ex ⟨c,us⟩ ς G1) λx G1=>D.ex x ς G1:=rfl
theorem S_tr {D:En}{ς:Sg}{G:Gp}{b:Ss}{c n:Nat}{h:List HS}:denS gs Δ (.tr b c n h) D ς G=jaC gs Δ b { D with ex:=λx ς1 G1=>(c=0\/x.c=c)/\hsH x h (ς1.set n none) G1 λς2 G2=>D.nx (ς2.set n none) G2 } ς G:=rfl
theorem jqt {D:En}{ς:Sg}{G:Gp}:jaC gs Δ .nil D ς G=D.nx ς G:=rfl
theorem jn5 {D:En}{ς:Sg}{G:Gp}{s:S}{r:Ss}:jaC gs Δ (.cons s r) D ς G=denS gs Δ s { D with nx:=λς' G'=>jaC gs Δ r D ς' G' } ς G:=rfl
end
section
variable {G:Gp}
theorem jpI {Q:K1}{i j:Int}:binU .Add (.int i) (.int j) G Q=Q (.int (i+j)) G:=rfl
theorem jpH {Q:K1}{xs ys:List U}:binU .Add (.tup xs) (.tup ys) G Q=(xs.length+ys.length<=Yac/\Q (.tup (xs++ys)) G):=rfl
theorem jf7 {Q:K1}{a b:Addr}:binU .Add (.loc a) (.loc b) G Q=∃xs ys,G a=some (.lst xs)/\G b=some (.lst ys)/\xs.length+ys.length<=Yac/\newO G (.lst (xs++ys)) Q:=rfl
theorem jpC {Q:K1}{i j:Int}:binU .Sub (.int i) (.int j) G Q=Q (.int (i-j)) G:=rfl
theorem jpF {Q:K1}{i j:Int}:binU .Mult (.int i) (.int j) G Q=(CMul i j/\Q (.int (i*j)) G):=rfl
theorem jjW {Q:K1}{a:Addr}{k:Int}:binU .Mult (.loc a) (.int k) G Q=∃xs,G a=some (.lst xs)/\-(2 ^ 63)<=k/\k<2 ^ 63/\xs.length*k.toNat<=Yac/\newO G (.lst (Yab k.toNat xs).flatten) Q:=rfl
theorem jnI {Q:K1}{xs:List U}{k:Int}:binU .Mult (.tup xs) (.int k) G Q=(xs≠[]/\0<=k/\k<2 ^ 62/\xs.length*k.toNat<=Yac/\Q (.tup (Yab k.toNat xs).flatten) G):=rfl
theorem jnJ {Q:K1}{i j:Int}:binU .FloorDiv (.int i) (.int j) G Q=(0<j/\j<1073741824/\Q (.int (i/j)) G):=rfl
theorem jpG {Q:K1}{i j:Int}:binU .Mod (.int i) (.int j) G Q=(0<j/\Q (.int (i%j)) G):=rfl
theorem jpD {Q:K1}{i j:Int}:binU .Pow (.int i) (.int j) G Q=(CPow i j/\Q (.int (i ^ j.toNat)) G):=rfl
theorem jpE {Q:K1}{i:Int}:negU (.int i) G Q=Q (.int (-i)) G:=rfl
theorem jpB {k:Bool->Prop}{i j:Int}:cmpU .Eq (.int i) (.int j) G k=k (decide (i=j)):=rfl
theorem jpw {k:Bool->Prop}{i j:Int}:cmpU .NotEq (.int i) (.int j) G k=k (!decide (i=j)):=rfl
theorem jpz {k:Bool->Prop}{i j:Str}:cmpU .Eq (.str i) (.str j) G k=k (decide (i=j)):=rfl
theorem jpu {k:Bool->Prop}{i j:Str}:cmpU .NotEq (.str i) (.str j) G k=k (!decide (i=j)):=rfl
theorem W_lt {k:Bool->Prop}{i j:Int}:cmpU .Lt (.int i) (.int j) G k=k (decide (i<j)):=rfl
theorem W_le {k:Bool->Prop}{i j:Int}:cmpU .LtE (.int i) (.int j) G k=k (decide (i<=j)):=rfl
theorem W_gt {k:Bool->Prop}{i j:Int}:cmpU .Gt (.int i) (.int j) G k=k (decide (j<i)):=rfl
theorem jpt {k:Bool->Prop}{xs ys:List U}:cmpU .NotEq (.tup xs) (.tup ys) G k=eqU (.tup xs) (.tup ys) G λb=>k (!b):=rfl
theorem jpy {k:Bool->Prop}{xs ys:List U}{y:U}:cmpU .Eq (.tup xs) (.tup (y::ys)) G k=eqU (.tup xs) (.tup (y::ys)) G k:=rfl
theorem jnF {k:Bool->Prop}{xs:List U}:cmpU .Eq (.tup xs) (.tup []) G k=k xs.isEmpty:=rfl
theorem jpv {k:Bool->Prop}{a b:Addr}:cmpU .NotEq (.loc a) (.loc b) G k=eqU (.loc a) (.loc b) G λb=>k (!b):=rfl
theorem jpA {k:Bool->Prop}{a b:Addr}:cmpU .Eq (.loc a) (.loc b) G k=eqU (.loc a) (.loc b) G k:=rfl
theorem W_in {k:Bool->Prop}{x y:U}:cmpU .In x y G k=inU x y G k:=rfl
theorem jps {k:Bool->Prop}{x y:U}:cmpU .NotIn x y G k=inU x y G λb=>k (!b):=rfl
theorem W_is {k:Bool->Prop}{x y:U}:cmpU .Is x y G k=isU x y k:=rfl
theorem jpx {k:Bool->Prop}{x y:U}:cmpU .IsNot x y G k=isU x y λb=>k (!b):=rfl
theorem Y_bl {k:Bool->Prop}{b:Bool}:truU (.bl b) G k=k b:=rfl
theorem jpo {k:Bool->Prop}:truU .non G k=k false:=rfl
theorem jpp {k:Bool->Prop}{i:Int}:truU (.int i) G k=k (i != 0):=rfl
theorem jpn {k:Bool->Prop}{xs:List U}:truU (.tup xs) G k=k (!xs.isEmpty):=rfl
theorem jpZ {k:List U->(Gp->Prop)->Prop}{xs:List U}:itU (.tup xs) G k=k xs λ_=>True:=rfl
theorem jpq {Q:K1}{lo hi:Option Int}{xs:List U}:slU (.tup xs) lo hi G Q=Q (.tup (cut xs lo hi)) G:=rfl
end
section
variable {us:List U}{G:Gp}{Q:K1}
theorem jp5:bltU .len us G Q=lenU us G Q:=rfl
theorem jnT:bltU .repr us G Q=jeQ us G Q:=rfl
theorem jp3:bltU .min us G Q=minU us G Q:=rfl
theorem jp4:bltU .max us G Q=maxU us G Q:=rfl
theorem jp8:bltU .all us G Q=allU us G Q:=rfl
theorem jp7:bltU .int us G Q=intU us G Q:=rfl
theorem jp1:bltU .str us G Q=strU us G Q:=rfl
theorem jp6:bltU .isi us G Q=jep us G Q:=rfl
end
section
variable {G:Gp}{Q:K1}
theorem jpr {lo hi:Option Int}{x:Str}:slU (.str x) lo hi G Q=(x.length<=Yac/\Q (.str (Ydv x lo hi)) G):=rfl
theorem jnK {b:Bool}{j:Int}:binU .Add (.bl b) (.int j) G Q=Q (.int ((if b=true then (1:Int) else 0)+j)) G:=rfl
theorem jnH {b:Bool}{j:Int}:binU .Sub (.bl b) (.int j) G Q=Q (.int ((if b=true then (1:Int) else 0)-j)) G:=rfl
theorem jnG {b:Bool}{i:Int}:binU .Sub (.int i) (.bl b) G Q=Q (.int (i-if b=true then (1:Int) else 0)) G:=rfl
theorem jnW {xs:List U}:lenU [.tup xs] G Q=Q (.int xs.length) G:=rfl
theorem jnU {i j:Int}:minU [.int i,.int j] G Q=Q (.int (if j<i then j else i)) G:=rfl
theorem jnV {i j:Int}:maxU [.int i,.int j] G Q=Q (.int (if j>i then j else i)) G:=rfl
theorem jnY {b:Bool}:intU [.bl b] G Q=Q (.int (if b then 1 else 0)) G:=rfl
theorem jnX {i:Int}:intU [.int i] G Q=Q (.int i) G:=rfl
end
theorem G_n {i:Nat}{u:U}{ς:Sg}{k:Sg->Prop}:tgU (.n i) u ς k=k (ς.set i (some u)):=rfl
theorem G_t {ts:Tgs}{us:List U}{ς:Sg}{k:Sg->Prop}:tgU (.t ts) (.tup us) ς k=tgsU ts us ς k:=rfl
theorem jp0 {us:List U}{ς:Sg}{k:Sg->Prop}:tgsU .nil us ς k=(us=[]/\k ς):=rfl
theorem jnS {t:Tg}{ts:Tgs}{u:U}{r:List U}{ς:Sg}{k:Sg->Prop}:tgsU (.cons t ts) (u::r) ς k=tgU t u ς λς'=>tgsU ts r ς' k:=rfl
theorem sl_0 {u:U}{ς:Sg}{k:U->Prop}:slot (some u::ς) 0 k=k u:=rfl
theorem sl_s {o:Option U}{ς:Sg}{i:Nat}{k:U->Prop}:slot (o::ς) (i+1) k=slot ς i k:=rfl
theorem jdB {G:Gp}{a:Addr}{o:MO}{Q:Gp->Prop}:putO G a o Q=Q (gup G a o):=propext ⟨λh=>h.at,λh G1 p=>by rw[p.eq];exact h⟩
theorem ix_t {xs:List U}{i:Int}{u:U}{G:Gp}{Q:K1}(h:atI xs i=some u):ixU (.tup xs) (.int i) G Q=Q u G:=by unfold ixU;dsimp only;rw[h]
theorem ix_l {a:Addr}{xs:List U}{i:Int}{u:U}{G:Gp}{Q:K1}(g:G a=some (.lst xs))(h:atI xs i=some u):ixU (.loc a) (.int i) G Q=Q u G:=by unfold ixU;dsimp only;rw[g];dsimp only;rw[h]
theorem ix_d {a:Addr}{kvs:List (Key×U)}{x:Str}{u:U}{G:Gp}{Q:K1}(g:G a=some (.dK kvs))(h:dGet kvs (.inr x)=some u):ixU (.loc a) (.str x) G Q=Q u G:=by unfold ixU;dsimp only;rw[g];show(match dGet kvs (.inr x)with|some u=>Q u G|none=>False)=_;rw[h]
theorem jb5 {a:Addr}{xs:List U}{r:Int}{G:Gp}{Q:K1}(g:G a=some (.lst xs))(h0:0<=r)(h1:r<xs.length)(q:∀u∈xs,Q u G):ixU (.loc a) (.int r) G Q:=by
 obtain⟨u,hu,e⟩:=jf5 h0 h1;rw[ix_l g e];exact q u hu
theorem jaY (zs:List Int){a:Addr}{r:Int}{G:Gp}{Q:K1}(g:G a=some (.lst (zs.map .int)))(h0:0<=r)(h1:r<zs.length)(q:∀z∈zs,Q (.int z) G):ixU (.loc a) (.int r) G Q:=
 jb5 g h0 (by rw[Yah];exact h1) λu hu=>by
  obtain⟨z,hz,rfl⟩:=List.mem_map.mp hu;exact q z hz
theorem jcm:∀zs:List Str,jcg (zs.map .str)=some zs
 |[]=>rfl
 |x::r=>by show(match jcg (r.map .str)with|some l=>some (x::l)|none=>none)=_;rw[jcm r]
theorem mt_join {z:Str}{G:Gp}:mtU .join (.str z) G=some ("str", "str.join"):=rfl
theorem jfP {z:Str}{a:Addr}{ys:List Str}{G:Gp}{Q:K1}(g:G a=some (.lst (ys.map .str))):jax .join (.str z) [.loc a] G Q=(z.length<=16/\(ys.map (·.length)).sum+ys.length<=1048576/\Q (.str (YaZ z ys)) G):=by
 unfold jax jlb;dsimp only;rw[g];dsimp only;rw[jcm]
theorem ix_s {x:Str}{i:Int}{c:Nat}{G:Gp}{Q:K1}(h1:x.length<=Yac)(h:atI x.cps.toList i=some c)(q:Q (.str ⟨#[c]⟩) G):ixU (.str x) (.int i) G Q:=by unfold ixU;dsimp only;rw[h];exact⟨h1,q⟩
theorem jcR (zs:List Str):(zs.map U.str).all flat=true:=by simp[flat]
section
variable {a:Addr}
theorem in_l {ys:List U}{x:U}{G:Gp}{k:Bool->Prop}(g:G a=some (.lst ys))(h1:flat x=true)(h2:ys.all flat=true)(q:k (ys.any λy=>eqF y x)):inU x (.loc a) G k:=by
 cases x<;>first|(cases h1;done)|(unfold inU;dsimp only;rw[g];exact .inl ⟨h1,h2,q⟩)
theorem jbh {xs:List U}{G:Gp}{Q:K1}(g:G a=some (.lst xs)):lenU [.loc a] G Q=Q (.int xs.length) G:=by unfold lenU;dsimp only;rw[g]
theorem jo6 {xs:List U}{G:Gp}{Q:K1}(g:G a=some (.fro xs)):lenU [.loc a] G Q=Q (.int xs.length) G:=by unfold lenU;dsimp only;rw[g]
theorem it_l {xs:List U}{G:Gp}{k:List U->(Gp->Prop)->Prop}(g:G a=some (.lst xs)):itU (.loc a) G k=k xs λG'=>lsG G' a=some xs:=by unfold itU;dsimp only;have e:lsG G a=some xs:=(by unfold lsG;rw[g]);rw[e]
theorem jfl {xs:List U}{v:U}{G:Gp}{Q:K1}(g:G a=some (.lst xs)):jax .append (.loc a) [v] G Q=(xs.length<Yac/\putO G a (.lst (xs++[v])) (Q .non)):=by unfold jax jfk;dsimp only;rw[g]
theorem jaN {xs:List U}{G:Gp}(g:G a=some (.lst xs)):mtU .append (.loc a) G=some ("list", "list.append"):=by unfold mtU;dsimp only;rw[g]
theorem jl5 {xs:List U}{i:Int}{j:Nat}{v:U}{G:Gp}{Q:Gp->Prop}(g:G a=some (.lst xs))(h:ixN xs.length i=some j):setU (.loc a) (.int i) v G Q=putO G a (.lst (xs.set j v)) Q:=by unfold setU;dsimp only;rw[g];dsimp only;rw[h]
theorem jiv {kvs:List (Key×U)}{x:Str}{v:U}{G:Gp}{Q:Gp->Prop}(g:G a=some (.dK kvs)):setU (.loc a) (.str x) v G Q=(kvs.length<Yac/\putO G a (.dK (dPut kvs (.inr x) v)) Q):=by unfold setU;dsimp only;rw[g];rfl
end
theorem jhy {n j:Nat}(h:j<n):ixN n (j:Int)=some j:=by unfold ixN;rw[if_pos (Int.natCast_nonneg j),if_pos (by exact_mod_cast h)];simp
noncomputable def ji6:Nat->Ss->Ss
 |0,s=>s
 |_+1,.nil=>.nil
 |n+1,.cons _ r=>ji6 n r
theorem dr_0 {s:Ss}:ji6 0 s=s:=rfl
theorem dr_s {n:Nat}{s:S}{r:Ss}:ji6 (n+1) (.cons s r)=ji6 n r:=rfl
theorem pk_nil {ς:Sg}:jbt [] ς=[]:=rfl
theorem jkF {ς:Sg}{r:List (Option Nat)}:jbt (none::r) ς=none::jbt r ς:=rfl
theorem jkE {ς:Sg}{j:Nat}{r:List (Option Nat)}:jbt (some j::r) ς=(ς[j]?).join::jbt r ς:=rfl
theorem jpX {x:Str}:kU (.str x)=some (.inr x):=rfl
theorem jpY {i:Int}:kU (.int i)=some (.inl i):=rfl
section
variable {a:Addr}{xs:List U}{lo hi:Option Int}{G:Gp}{Q:K1}
theorem sl_f (g:G a=some (.fro xs)):slU (.loc a) lo hi G Q=newO G (.lst (cut xs lo hi)) Q:=by unfold slU;dsimp only;have e:lsG G a=some xs:=(by unfold lsG;rw[g]);rw[e]
theorem sl_l (g:G a=some (.lst xs)):slU (.loc a) lo hi G Q=newO G (.lst (cut xs lo hi)) Q:=by unfold slU;dsimp only;have e:lsG G a=some xs:=(by unfold lsG;rw[g]);rw[e]
end
theorem jb6 {α β:Type}(f:α->β)(xs:List α)(lo hi:Option Int):cut (xs.map f) lo hi=(cut xs lo hi).map f:=by unfold cut;rw[Yah,<- List.map_drop,<- List.map_take]
theorem jhU {α:Type}(xs:List α)(n:Nat):cut xs none (some (n:Int))=xs.take n:=by
 unfold cut;rw[HT.sIx_none,HT.sIx_nat,YcX,Nat.sub_zero,List.take_eq_take_iff];omega
theorem jf0 {α:Type}(xs:List α)(n:Nat):cut xs (some (n:Int)) none=xs.drop n:=by
 unfold cut;rw[HT.sIx_none,HT.sIx_nat];by_cases h:n<=xs.length
 ·rw[Nat.min_eq_left h,Ycs (by simp)]
 ·rw[Nat.min_eq_right (by omega),Yfd (Yaf _),Yfd (by omega),List.take_nil]
section
variable {G:Gp}{f c:Addr}{a l t:Int}{Q:K1}
theorem ji4:ixU (.loc f) (.str "cells") (gup G f (.dK (fdU c a l t))) Q=Q (.loc c) (gup G f (.dK (fdU c a l t))):=ix_d jas jlm
theorem jpf:ixU (.loc f) (.str "at") (gup G f (.dK (fdU c a l t))) Q=Q (.int a) (gup G f (.dK (fdU c a l t))):=ix_d jas g_at
theorem jlo:ixU (.loc f) (.str "left") (gup G f (.dK (fdU c a l t))) Q=Q (.int l) (gup G f (.dK (fdU c a l t))):=ix_d jas jnm
theorem jln:ixU (.loc f) (.str "turn") (gup G f (.dK (fdU c a l t))) Q=Q (.int t) (gup G f (.dK (fdU c a l t))):=ix_d jas jjJ
end
section
variable {G:Gp}{f c:Addr}{a l t x:Int}{Q:Gp->Prop}
theorem jpg:setU (.loc f) (.str "at") (.int x) (gup G f (.dK (fdU c a l t))) Q=Q (gup G f (.dK (fdU c x l t))):=by rw[jiv jas,p_at,jdB,je6];exact propext ⟨λh=>h.2,λh=>⟨jfV,h⟩⟩
theorem jlq:setU (.loc f) (.str "left") (.int x) (gup G f (.dK (fdU c a l t))) Q=Q (gup G f (.dK (fdU c a x t))):=by rw[jiv jas,jmC,jdB,je6];exact propext ⟨λh=>h.2,λh=>⟨jfV,h⟩⟩
theorem jlp:setU (.loc f) (.str "turn") (.int x) (gup G f (.dK (fdU c a l t))) Q=Q (gup G f (.dK (fdU c a l x))):=by rw[jiv jas,jjt,jdB,je6];exact propext ⟨λh=>h.2,λh=>⟨jfV,h⟩⟩
end
end Z

namespace Y
open PySem L2
noncomputable def nO:Obj:=⟨.none,none,.fields ⟨[]⟩,⟨[]⟩⟩
noncomputable def tO (v:List Value):Obj:=⟨.type "tuple",none,.seq ⟨v⟩ 0,⟨[]⟩⟩
noncomputable def sO (c:Value)(v:List Value):Obj:=⟨c,none,.fields ⟨v⟩,⟨[]⟩⟩
noncomputable def rO (v:List (Option Value)):Obj:=⟨.type "frame",none,.plain,⟨v⟩⟩
noncomputable def gO (x q:Str)(s:Stmt):Obj:=⟨.none,none,.func { name:=x,qualname:=q,params:=jar s,body:=.stmts (jae s),scope:=jaa s,globals:=0,closure:=[],defaults:=.none,kwdefaults:=.none },⟨[]⟩⟩
noncomputable def fO (x q:Str)(s:Stmt)(m:Value)(c:Nat):Obj:=⟨.type "function",none,.func (Ya5 x q (jar s) (jae s) (jaa s) .none .none .none m none (.ref c) .none),⟨[]⟩⟩
noncomputable def kO (fi x q:Str)(t:Nat)(l a f:Int)(r:Nat)(b:Bool)(u v w:Value)(z:Nat):Obj:=⟨.type "code",none,.fields ⟨[.str x t,.str q (t+1),.str fi (t+2),.int l 0,.int a 0,.int 0 0,.int 0 0,.int f 0,.ref r,.bool b,.int 181 0,.ref (r+1),.none,u,v,w,.int z 0,.int l 0,.str fi (z+1)]⟩,⟨[]⟩⟩
noncomputable def dE (P:Params)(x:Str)(t:Nat)(v:Value):Ycx:=⟨PyData.keyHash P x,.str x t,v⟩
noncomputable def dO (e:List Ycx)(n:Nat):Obj:=⟨.type "dict",none,.dict ⟨e⟩ n,⟨[]⟩⟩
noncomputable def cO (x:Str)(b m:List Value)(n:Nat)(u:List Value)(s:List (Option Value)):Obj:=⟨.type "type",none,.cls { name:=x,bases:=b,mro:=m,ns:=n,qualname:=x,subclasses:=u },⟨s⟩⟩
noncomputable def tE:Obj:=tO []
noncomputable abbrev bE:Ycq:=.nil
noncomputable abbrev bN (o:Obj)(l r:Ycq):Ycq:=.node o l r
noncomputable abbrev bL (o:Obj):Ycq:=.node o .nil .nil
end Y
namespace Z
open PySem L2
noncomputable def argB (ps:List Str)(a:YcL):Bool:=a.posonlyargs.isEmpty&&(a.args.map (·.arg)==ps)&&a.vararg.isNone&&a.kwonlyargs.isEmpty&&a.kwarg.isNone
theorem jm1:∀{ps:List Str} {us:List Value},us.length=ps.length->ps.Nodup->(ps.filterMap λn=>((ps.zip us).lookup n).map (n,·))=ps.zip us/\∀n∈ps,((ps.zip us).lookup n).isSome=true:=by
 have key:∀{l:List Str} {vs:List Value} {L:List (Str×Value)},vs.length=l.length->l.Nodup->(∀(i:Nat) n v,l[i]?=some n->vs[i]?=some v->L.lookup n=some v)->(l.filterMap λn=>(L.lookup n).map (n,·))=l.zip vs/\∀n∈l,(L.lookup n).isSome=true:=by
  intro l
  induction l with
  |nil=>intro vs L _ _ _;exact⟨rfl,λn h=>absurd h Yax⟩
  |cons x l ih=>
   intro vs L hl nd hL;obtain _|⟨v,vs⟩:=vs
   ·cases hl
   ·have h0:=hL 0 x v rfl rfl;obtain⟨e1,e2⟩:=ih (L:=L) (vs:=vs) (by simpa using hl) (List.nodup_cons.mp nd).2 λi n v a b=>hL (i+1) n v a b
    refine⟨?_,λn hn=>?_⟩
    ·rw[Ych,h0,YdZ,<- e1];rfl
    ·rcases YaL.mp hn with rfl|hn
     ·rw[h0];rfl
     ·exact e2 n hn
 intro ps us hl nd;refine key hl nd λi n v a b=>?_;have hz:(ps.zip us)[i]?=some (n,v):=List.getElem?_zip_eq_some.mpr ⟨a,b⟩;have:∀(l:List (Str×Value)),(l.map (·.1)).Nodup->(n,v)∈l->l.lookup n=some v:=by
  intro l
  induction l with
  |nil=>intro _ h;exact absurd h Yax
  |cons p l ih=>
   intro nd h;obtain⟨m,u⟩:=p;rw[YaG];by_cases e:n=m
   ·subst e;rw[beq_self_eq_true];rcases YaL.mp h with h|h
    ·cases h;rfl
    ·exact absurd (List.mem_map.mpr ⟨_,h,rfl⟩) (List.nodup_cons.mp nd).1
   ·rw[beq_eq_false_iff_ne.mpr e];rcases YaL.mp h with h|h
    ·cases h;exact absurd rfl e
    ·exact ih (List.nodup_cons.mp nd).2 h
 exact this _ (by rw[Ygq (by omega)];exact nd) (Ybq hz)
theorem jff {ps:List Str}{a:YcL}(h:argB ps a=true)(nd:ps.Nodup){x q:Str}{b:List Stmt}{sc:Scope}{kV doc pm:Value}{an:Option Addr}{cdv ct:Value}{us:List Value}(hl:us.length=ps.length) :
  YfT (Ya5 x q a b sc .none kV doc pm an cdv ct) ⟨us,[]⟩=pure (ps.zip us):=by
 obtain⟨po,as,va,ko,kd,ka,df⟩:=a;unfold argB at h;simp only[Yap,List.isEmpty_iff,Option.isNone_iff_eq_none,beq_iff_eq]at h;obtain⟨⟨⟨⟨rfl,rfl⟩,rfl⟩,rfl⟩,rfl⟩:=h;obtain⟨e1,e2⟩:=jm1 hl nd;have e3:(List.filter (λn=>(Ybt n ((as.map (·.arg)).zip us)).isNone) (as.map (·.arg)))=[]:=List.filter_eq_nil_iff.mpr λn hn=>by
  have:=e2 n hn;cases q:Ybt n ((as.map (·.arg)).zip us)with
  |none=>rw[q]at this;cases this
  |some _=>simp
 have e0:seqItems? Ybx=pure none:=rfl;unfold YfT;dsimp only;rw[e0];generalize as.map (·.arg)=ns at *;have e4:ns.take (ns.length-0)=ns:=by rw[Nat.sub_zero,Ygp]
 simp[hl,e1,e3,e4]

abbrev FL:=List (Addr×Addr×Value)
noncomputable def refB (v:Option (Option Value))(f:Addr):Bool:=match v with
 |some (some (.ref a))=>a==f
 |_=>false
theorem jfB {v:Option (Option Value)}{f:Addr}(h:refB v f=true):v=some (some (.ref f)):=by
 unfold refB at h;split at h
 ·rw[eq_of_beq h]
 ·cases h
noncomputable def dynB (T:Tab)(K:Yaa):Nat->FL->List Fun->List Stmt->Bool
 |_,[],[],[]=>true
 |i,x::fs,d::ds,s::ss=>refB (Ybc K YaB d.name) x.1&&Yby K (.ref x.2.1) d.name&&(match T.ns.lookup i with|none=>true|some z=>jcZ K (.ref x.2.1) z.P)&&argB d.ps (jar s)&&dynB T K (i+1) fs ds ss
 |_,_,_,_=>false
noncomputable def lkR:FL->List Fun->List Stmt->List (Option Obj)
 |x::fs,d::ds,s::ss=>some (Y.fO d.name d.name s x.2.2 x.2.1)::lkR fs ds ss
 |_,_,_=>[]
theorem jhL {T:Tab}{K:Yaa}:∀{i:Nat} {fs:FL} {ds:List Fun} {ss:List Stmt},dynB T K i fs ds ss=true->fs.map (λx=>K.lookup x.1)=lkR fs ds ss->∀{n:Nat} {d:Fun} {s:Stmt},ds[n]?=some d->ss[n]?=some s->
  ∃x:Addr×Addr×Value,Ybc K YaB d.name=some (some (.ref x.1))/\K.lookup x.1=some (Y.fO d.name d.name s x.2.2 x.2.1)/\Yby K (.ref x.2.1) d.name=true/\(∀z,T.ns.lookup (i+n)=some z->jcZ K (.ref x.2.1) z.P=true)/\argB d.ps (jar s)=true
 |_,_,[],_,_,_,_,_,_,e,_=>by simp at e
 |_,_,_::_,[],_,_,_,_,_,_,e=>by simp at e
 |_,[],_::_,_::_,h,_,_,_,_,_,_=>by unfold dynB at h;cases h
 |i,x::fs,d::ds,s::ss,h,g,n,d',s',e1,e2=>by
  unfold dynB at h;simp only[Yap]at h;obtain⟨⟨⟨⟨h1,h2⟩,h3⟩,h4⟩,h5⟩:=h;unfold lkR at g;rw[YaA]at g;injection g with g1 g2
  cases n with
  |zero=>
   cases(Yan e1:d=d');cases(Yan e2:s=s');exact⟨x,jfB h1,g1,h2,λz hz=>by rw[Nat.add_zero]at hz;rw[hz]at h3;exact h3,h4⟩
  |succ n=>
   obtain⟨y,q1,q2,q3,q4,q5⟩:=jhL h5 g2 (n:=n) e1 e2;exact⟨y,q1,q2,q3,λz hz=>q4 z (by rw[show i+1+n=i+(n+1) by omega];exact hz),q5⟩
theorem jkw {N ps:List Str}{sc:Scope}(h:scB N ps sc=true):ps.Nodup:=by
 have S:=jge h;rw[<- S.pre];exact S.nd.sublist (Yc5 _ _)
theorem je3 {K:Yaa}{f:Addr}{c:Value}{d:Option Addr}{fd:Ybk}{sl:Array (Option Value)}(h:K.lookup f=some ⟨c,d,.func fd,sl⟩):Ya8 K (.ref f)=true:=by
 unfold Ya8;dsimp only;rw[h]
section
variable {T:Tab}{K:Yaa}{h:Heap}{mg:Str->Option Value}
theorem jnt {fs:FL}{sts:List Stmt}(X:K.In h)(G:h.Ns YaB mg)(hst:jdD T 0 T.funs sts=true)(heq:jd2 T sts 0 T.funs sts)(hB:dynB T K 0 fs T.funs sts=true)(hL:fs.map (λx=>K.lookup x.1)=lkR fs T.funs sts):Dyn T K mg sts:=by
 intro n d st h1 h2;obtain⟨x,q1,q2,q3,q4,q5⟩:=jhL hB hL h1 h2;have F:=jhI (st:=st) q2 q3 (je3 q2);obtain⟨st',e,hs,_⟩:=jbW hst heq h1;cases h2.symm.trans e;exact⟨_,_,F,Yc2 X G q1,F.binds λ_ _ _ _ _ _ us hl=>jff q5 (jkw hs) hl,λz hz=>q4 z (by rw[YcW];exact hz)⟩
noncomputable def bltB (K:Yaa):Bool:=jbR.all λx=>match Ybc K YaB x with
 |some none=>true
 |_=>false
theorem jnD (X:K.In h)(G:h.Ns YaB mg)(hb:bltB K=true):∀x∈jbR,mg x=none:=λx hx=>by
 have:=Ydg.mp hb x hx;refine PySem.W.mg_none_of X G ?_;split at this
 ·assumption
 ·cases this
noncomputable def gsB (K:Yaa):List Str->List U->Bool
 |[],[]=>true
 |x::xs,u::us=>(match u,Ybc K YaB x with
  |.int i,some (some (.int j _))=>i==j
  |.str i,some (some (.str j _))=>i==j
  |_,_=>false)&&gsB K xs us
 |_,_=>false
theorem jnk (X:K.In h)(G:h.Ns YaB mg):∀{xs:List Str} {us:List U},gsB K xs us=true->∀(n:Nat) (x:Str) (u:U),xs[n]?=some x->us[n]?=some u->∃v w,mg x=some w/\RelV v w/\∀H,RU K H u v
 |[],_,_,_,_,_,e,_=>by simp at e
 |_::_,[],_,_,_,_,_,e=>by simp at e
 |x::xs,u::us,hb,n,x',u',e1,e2=>by
  unfold gsB at hb;rw[Yap]at hb;cases n with
  |zero=>
   cases(Yan e1:x=x');cases(Yan e2:u=u');have h1:=hb.1;split at h1
   ·rename_i i j t q;cases eq_of_beq h1;exact⟨.int i,_,Yc2 X G q,⟨_,rfl⟩,λ_=>rfl⟩
   ·rename_i i j t q;cases eq_of_beq h1;exact⟨.str i,_,Yc2 X G q,⟨_,rfl⟩,λ_=>rfl⟩
   ·cases h1
  |succ n=>exact jnk X G hb.2 n x' u' e1 e2
def CsA (K:Yaa):List Nat->Prop
 |[]=>True
 |n::r=>(∃C,XCls K (gK K) (clsN n) (clsF n) C)/\CsA K r
theorem jnz:∀{l:List Nat},CsA K l->∀n∈l,1<=n->∃C,XCls K (gK K) (clsN n) (clsF n) C
 |[],_,_,hn,_=>absurd hn Yax
 |m::r,hc,n,hn,h1=>by
  unfold CsA at hc;rcases YaL.mp hn with rfl|hn
  ·exact hc.1
  ·exact jnz hc.2 n hn h1
theorem all2 {l:Yea}{w:World}{fa:Addr}{fs:FL}{sts:List Stmt}{k n:Nat}{d:Fun}{st:Stmt}(X:K.In h)(G:h.Ns YaB mg)(hfa:mg "law" = some (.ref fa))(hst:jdD T 0 T.funs sts=true)(heq:jd2 T sts 0 T.funs sts)
  (hU:∀t∈tabs,∀t'∈tabs,t.1=t'.1->t=t') (hB:dynB T K 0 fs T.funs sts=true) (hL:fs.map (λx=>K.lookup x.1)=lkR fs T.funs sts) (hb:bltB K=true) (hg:gsB K T.gn T.gs=true) (hc:CsA K T.cs)
  (hd:T.funs[n]?=some d) (hs:sts[n]?=some st) (hn:T.ns.lookup n=none) (hdn:d.name = "law") (hps:d.ps=[("_law_script" : Str)]) :
  ∃fd:Ybk,(∀(s:Shared) (v:Value),BindsTo s fd ⟨[v],[]⟩ [("_law_script",v)])/\∀base:Heap,K.In base->base.Ns YaB mg->BmAt mg base->FnOk l.prog w K mg base (CX1 l.prog w) (k+2) fa fd ["_law_script"] (lSp K (jac T k n)):=by
 have dyn:=jnt X G hst heq hB hL;obtain⟨x,q1,q2,q3,q4,q5⟩:=jhL hB hL hd hs;obtain⟨st',e,hsc,_⟩:=jbW hst heq hd;cases hs.symm.trans e;have F:=jhI (st:=st) q2 q3 (je3 q2);rw[hdn]at q1;cases hfa.symm.trans (Yc2 X G q1);refine⟨Ya5 d.name d.name (jar st) (jae st) (jaa st) .none .none .none x.2.2 none (.ref x.2.1) .none,λs v=>.of_eq ((jff (us:=[v]) q5 (jkw hsc) (by rw[hps];rfl)).trans (by rw[hps];rfl)),λbase hKb _ hBm=>?_⟩
 rw[<- hps];exact jgf F hst heq dyn hU hKb hBm (jnD X G hb) (jnk X G hg) (jnz hc) (jmY X G) hd hs hn
end
section
variable {K:Yaa}
noncomputable def jpl (x:Str)(D N b t t':Nat)(u:List Value):Obj:=Y.cO x [.type "ValueError"] (.ref D::bmV) N u [some (.ref b),none,some (.str x t),some (.str x t'),some (.builtin "ValueError.__new__"),some (.bool true)]
noncomputable def clsO (x:Str)(C D N b t t':Nat):Obj:=Y.cO x [.ref D] (.ref C::.ref D::bmV) N [] [some (.ref b),none,some (.str x t),some (.str x t'),some (.builtin "ValueError.__new__"),some (.bool true)]
theorem xb_mk (D N b t t':Nat)(u:List Value)(l:K.lookup D=some (jpl "PlanError" D N b t t' u))(h:(refB (Ybc K YaB "PlanError") D&&Ya8 K (.ref D)&&(jdg K N==some ksB)&&offB ksB && !ksB.contains ("__init__" : Str))=true):∃mD,XBase K (gK K) D mD:=by
 simp only[Yap,Ycu]at h;obtain⟨⟨⟨⟨h1,h2⟩,h3⟩,h4⟩,h5⟩:=h;exact jij (jfB h1) h2 l (eq_of_beq h3) h4 h5
theorem xc_mk {D:Addr}(B:∃mD,XBase K (gK K) D mD)(x qual:Str)(fs:List Str)(st:Stmt)(C N b t t' fI c:Nat)(m:Value)(l1:K.lookup C=some (clsO x C D N b t t'))(l2:K.lookup fI=some (Y.fO "__init__" qual st m c))
  (h:(refB (Ybc K YaB x) C&&Ya8 K (.ref C)&&(jdg K N==some ksC)&&offB ksC&&refB (Ybc K N "__init__") fI&&Yby K (.ref c) qual&&scB (("self" : Str)::fs) ("self" :: fs) (jaa st)&&((("self" : Str)::fs).all λy=>(jaa st).names.lookup y==some .local)&&argB (("self" : Str)::fs) (jar st))=true)
  (bd:(∃f p1 p2 p3 pos,fs=[f]/\jae st=[.Assign [.Attribute (.Name "self" p1) f p2] (.Name f p3) pos])\/∃f f2 p1 p2 p3 pos q1 q2 q3 qos,fs=[f,f2]/\f≠f2/\jae st=[.Assign [.Attribute (.Name "self" p1) f p2] (.Name f p3) pos,.Assign [.Attribute (.Name "self" q1) f2 q2] (.Name f2 q3) qos]):∃C,XCls K (gK K) x fs C:=by
 obtain⟨mD,B⟩:=B;simp only[Yap]at h;obtain⟨⟨⟨⟨⟨⟨⟨⟨h1,h2⟩,h3⟩,h4⟩,h5⟩,h6⟩,h7⟩,h8⟩,h9⟩:=h;have F:=jhI (st:=st) l2 h6 (je3 l2);exact⟨C,jj2 B (jfB h1) h2 l1 (eq_of_beq h3) h4 (jfB h5) F l2 h7 (F.binds λ_ _ _ _ _ _ us hl=>jff h9 (jkw h7) hl) h8 bd⟩
end
section
local macro_rules
 |`(#[])=>`(.nil)
 |`(#[$x])=>`(.cons $x .nil)
 |`(#[$x,$xs,*])=>`(.cons $x #[$xs,*])
noncomputable abbrev jeh:Nat:=0
noncomputable abbrev jbY:Nat:=1
noncomputable abbrev jaq:Nat:=2
noncomputable abbrev jbJ:Nat:=4
noncomputable abbrev jcb:Nat:=5
noncomputable abbrev jeg:Nat:=6
noncomputable abbrev jcH:Nat:=7
noncomputable abbrev jdd:Nat:=8
noncomputable abbrev jab:Nat:=9
noncomputable abbrev jcI:Nat:=10
noncomputable abbrev jcK:Nat:=11
noncomputable abbrev jbf:Nat:=12
noncomputable abbrev jb0:Nat:=13
noncomputable abbrev jdc:Nat:=14
noncomputable abbrev jcJ:Nat:=15
noncomputable abbrev jan:Nat:=16
noncomputable abbrev jbK:Nat:=17
noncomputable abbrev ja6:Nat:=18
noncomputable abbrev jb1:Nat:=19
noncomputable abbrev jbZ:Nat:=20
noncomputable abbrev jaL:Nat:=21
noncomputable abbrev jdb:Nat:=22
noncomputable abbrev jaE:Nat:=23
noncomputable abbrev jbg:Nat:=24
noncomputable abbrev jk3:Nat:=25
noncomputable def jev:Fun:=⟨"is_name",["thing"],["thing"],#[.ite (.not (.bop true (.blt .isi #[.v 0,.ty "str"]) #[.cmp2 .LtE .LtE (.int 1) (.blt .len #[.v 0]) (.g 0)])) #[.ret (.bl false)] .nil,.ret (.blt .all #[.lc [none] (.n 0) (.s (.v 0)) .nil (.cmp2 .LtE .LtE (.str "a") (.v 0) (.str "z"))])]⟩
noncomputable def jdi:Fun:=⟨"words_of",["line"],["line"],#[.ret (.meth .split (.v 0) #[.str " "])]⟩
noncomputable def jbw:Fun:=⟨"number_in",["word"],["word"],#[.ite (.bop false (.not (.cmp2 .LtE .LtE (.int 1) (.blt .len #[.v 0]) (.g 1))) #[.not (.blt .all #[.lc [none] (.n 0) (.s (.v 0)) .nil (.cmp .In (.v 0) (.g 2))])]) #[.ret .non] .nil,.ret (.ife (.bop true (.cmp .Gt (.blt .len #[.v 0]) (.int 1)) #[.cmp .Eq (.ix (.v 0) (.int 0)) (.str "0")]) .non (.blt .int #[.v 0]))]⟩
noncomputable def ja2:Fun:=⟨"first_fault",["words", "least", "fits"],["words", "least", "fits", "at"],#[.fr (.n 3) (.r1 (.blt .len #[.v 0])) #[.ite (.not (.app 2 #[.v 3])) #[.ret (.v 3)] .nil],.ret (.ife (.cmp .Lt (.blt .len #[.v 0]) (.v 1)) (.blt .len #[.v 0]) .non)]⟩
noncomputable abbrev jc6:Nat:=27
noncomputable def ja1:Fun:=⟨"works_fault",["words"],["words", "fits"],#[.ret (.call 26 #[.v 0,.v 0,.int 2])]⟩
noncomputable def jaS:Fun:=⟨"ff@works_fault",["words", "w@", "n@"],["words", "w@", "n@", "at@"],#[.fr (.n 3) (.r1 (.blt .len #[.v 1])) #[.ite (.not (.call 27 #[.v 3,.v 0])) #[.ret (.v 3)] .nil],.ret (.ife (.cmp .Lt (.blt .len #[.v 1]) (.v 2)) (.blt .len #[.v 1]) .non)]⟩
noncomputable def jaT:Fun:=⟨"fits@works_fault",["at", "words"],["at", "words"],#[.ite (.cmp .Eq (.v 0) (.int 0)) #[.ret (.cmp .Eq (.ix (.v 1) (.v 0)) (.str "works"))] .nil,(.ret (.bop true (.cmp .LtE (.v 0) (.g 3)) #[.call jeh #[.ix (.v 1) (.v 0)],.cmp .NotIn (.ix (.v 1) (.v 0)) (.sl (.v 1) (.so (.int 1)) (.so (.v 0)))]))]⟩
noncomputable def jbB:Nst:=⟨148,3,26,27,[0],0,1,2, "words", "fits", "at"⟩
noncomputable abbrev jdL:Nat:=29
noncomputable def jbk:Fun:=⟨"span_fault",["names", "words"],["names", "words", "fits"],#[.ret (.call 28 #[.v 0,.v 1,.v 1,.int 5])]⟩
noncomputable def jaZ:Fun:=⟨"ff@span_fault",["names", "words", "w@", "n@"],["names", "words", "w@", "n@", "at@"],#[.fr (.n 4) (.r1 (.blt .len #[.v 2])) #[.ite (.not (.call 29 #[.v 4,.v 0,.v 1])) #[.ret (.v 4)] .nil],.ret (.ife (.cmp .Lt (.blt .len #[.v 2]) (.v 3)) (.blt .len #[.v 2]) .non)]⟩
noncomputable def ja0:Fun:=⟨"fits@span_fault",["at", "names", "words"],["at", "names", "words"],#[.ite (.cmp .Eq (.v 0) (.int 0)) #[.ret (.cmp .In (.ix (.v 2) (.v 0)) (.tup #[.str "span",.str "apart"]))] .nil,.ite (.cmp .Lt (.v 0) (.int 3)) #[.ret (.cmp .In (.ix (.v 2) (.v 0)) (.v 1))] .nil,.ite (.bop false (.cmp .Gt (.v 0) (.int 4)) #[.cmp .Is (.call jaq #[.ix (.v 2) (.v 0)]) .non]) #[.ret (.bl false)] .nil,.ret (.bop false (.cmp .Eq (.v 0) (.int 3)) #[.cmp .Eq (.ix (.v 2) (.int 0)) (.str "apart"),.cmp .LtE (.call jaq #[.ix (.v 2) (.int 3)]) (.call jaq #[.ix (.v 2) (.int 4)])])]⟩
noncomputable def jb7:Nst:=⟨155,3,28,29,[0,1],1,2,5, "words", "fits", "at"⟩
noncomputable def jeu:Fun:=⟨"span_in",["names", "words"],["names", "words", "word", "one", "other", "low", "high"],#[.unp #[.n 2,.n 3,.n 4,.n 5,.n 6] (.v 1),(.ret (.tup #[.v 2,.meth .index (.v 0) #[.v 3],.meth .index (.v 0) #[.v 4],.call jaq #[.v 5],.call jaq #[.v 6]]))]⟩
noncomputable def jcS:Fun:=⟨"read_plan",["lines"],["lines", "first", "at", "names", "spans", "row", "words"],#[.ite (.not (.v 0)) #[.raise 4 #[.int 0,.int 0]] .nil,.asg (.n 1) (.call jbY #[.ix (.v 0) (.int 0)]),.asg (.n 2) (.call jbJ #[.v 1]),.ite (.cmp .IsNot (.v 2) .non) #[.raise 4 #[.int 0,.v 2]] .nil,.asg (.n 3) (.mkT (.sl (.v 1) (.so (.int 1)) .no)),.asg (.n 4) (.lst .nil),(.fr (.n 5) (.r2 (.int 1) (.blt .len #[.v 0])) #[.asg (.n 6) (.call jbY #[.ix (.v 0) (.v 5)]),.asg (.n 2) (.ife (.cmp .LtE (.v 5) (.g 4)) (.call jcb #[.v 3,.v 6]) (.int 0)),.ite (.cmp .IsNot (.v 2) .non) #[.raise 4 #[.v 5,.v 2]] .nil,.expr (.meth .append (.v 4) #[.call jeg #[.v 3,.v 6]])]),.ret (.tup #[.v 3,.mkT (.v 4)])]⟩
noncomputable def jdo:Fun:=⟨"_law_feed",["_law_script"],["_law_script"],#[(.ret (.dic #[.str "cells",.bin .Add (.mkL (.sl (.v 0) .no (.so (.int 63)))) (.bin .Mult (.lst #[.int 0]) (.blt .int #[.cmp .Eq (.blt .len #[.v 0]) (.int 0)])),.str "at",.int 0,.str "left",.int 0,.str "turn",.int 0]))]⟩
noncomputable def jdp:Fun:=⟨"_law_draw",["_law_feed_here", "_law_many"],["_law_feed_here", "_law_many", "_law_cell", "_law_mixed", "_law_found"],#[.setS (.v 0) (.str "turn") (.bin .Add (.ix (.v 0) (.str "turn")) (.int 1)),(.ite (.cmp .Eq (.ix (.v 0) (.str "left")) (.int 0)) #[.asg (.n 2) (.ix (.ix (.v 0) (.str "cells")) (.bin .Mod (.ix (.v 0) (.str "at")) (.blt .len #[.ix (.v 0) (.str "cells")]))),.setS (.v 0) (.str "at") (.bin .Add (.ix (.v 0) (.str "at")) (.int 1)),.ite (.cmp .Lt (.v 2) (.bin .Pow (.int 10) (.int 18))) #[.asg (.n 3) (.bin .Mod (.bin .Mult (.bin .Add (.bin .Mod (.v 2) (.int 2147483629)) (.bin .Mult (.int 1013) (.ix (.v 0) (.str "turn")))) (.int 48271)) (.int 2147483647)),.asg (.n 3) (.bin .Mod (.bin .Mult (.bin .Add (.bin .FloorDiv (.v 3) (.int 64)) (.bin .Mult (.int 41) (.ix (.v 0) (.str "turn")))) (.int 69621)) (.int 2147483587)),.ret (.bin .Mod (.bin .FloorDiv (.v 3) (.int 64)) (.v 1))] .nil,.setS (.v 0) (.str "left") (.v 2)] .nil),.asg (.n 4) (.bin .Mod (.ix (.v 0) (.str "left")) (.v 1)),.setS (.v 0) (.str "left") (.bin .FloorDiv (.ix (.v 0) (.str "left")) (.v 1)),.ret (.v 4)]⟩
noncomputable def jcT:Fun:=⟨"_law_names",["_law_feed_here", "_law_many"],["_law_feed_here", "_law_many", "_law_menu", "_law_first", "_law_step", "_law_names_here", "_law_signs"],#[.asg (.n 2) (.lst #[.str "a",.str "ab",.str "abc",.str "works",.str "span",.str "apart",.str "none",.str "round",.str "held",.str "zzzzzzzz",.str "undo",.str "b",.str "ba",.str "plan"]),.expr (.meth .append (.v 2) #[.str "x"]),.asg (.n 3) (.call jab #[.v 0,.int 15]),.asg (.n 4) (.ix (.lst #[.int 1,.int 2,.int 4,.int 7,.int 8,.int 11,.int 13,.int 14]) (.call jab #[.v 0,.int 8])),.asgC 5 (.lc [none,some 2,some 3,some 4] (.n 0) (.r1 (.v 1)) .nil (.ix (.v 1) (.bin .Mod (.bin .Add (.v 2) (.bin .Mult (.v 3) (.v 0))) (.int 15)))),(.ite (.cmp .Eq (.call jab #[.v 0,.int 3]) (.int 0)) #[.asgC 6 (.lc [none,some 0] (.n 0) (.r1 (.bin .Add (.int 1) (.call jab #[.v 0,.int 8]))) .nil (.ix (.str "abcdefghijklmnopqrstuvwxyz") (.call jab #[.v 1,.int 26]))),.ite (.cmp .NotIn (.meth .join (.str "") #[.v 6]) (.v 5)) #[.setS (.v 5) (.call jab #[.v 0,.v 1]) (.meth .join (.str "") #[.v 6])] .nil] .nil),.ret (.mkT (.v 5))]⟩
noncomputable def jcV:Fun:=⟨"_law_cycle",["_law_feed_here"],["_law_feed_here"],#[.ret (.ix (.lst #[.int 1,.int 2,.int 3,.int 4,.int 5,.int 6,.int 7,.int 8,.int 10,.int 12,.int 30,.int 60,.int 120,.int 600]) (.call jab #[.v 0,.int 14]))]⟩
noncomputable def jcd:Fun:=⟨"_law_number",["_law_feed_here", "_law_cycle_here"],["_law_feed_here", "_law_cycle_here", "_law_way"],#[.asg (.n 2) (.call jab #[.v 0,.int 6]),.ite (.cmp .Lt (.v 2) (.int 3)) #[.ret (.call jab #[.v 0,.bin .Add (.v 1) (.int 1)])] .nil,.ite (.cmp .Eq (.v 2) (.int 3)) #[.ret (.ix (.lst #[.int 0,.int 1,.v 1,.bin .Sub (.bin .Mult (.int 2) (.v 1)) (.int 1),.bin .Mult (.int 2) (.v 1)]) (.call jab #[.v 0,.int 5]))] .nil,.ret (.call jab #[.v 0,.ix (.lst #[.bin .Add (.bin .Mult (.int 3) (.v 1)) (.int 1),.int 10000]) (.bin .Sub (.v 2) (.int 4))])]⟩
noncomputable def jdl:Fun:=⟨"_law_span",["_law_feed_here", "_law_one", "_law_other", "_law_cycle_here"],["_law_feed_here", "_law_one", "_law_other", "_law_cycle_here", "_law_low", "_law_more"],#[.asg (.n 4) (.call jbf #[.v 0,.v 3]),.ite (.cmp .Eq (.call jab #[.v 0,.int 4]) (.int 0)) #[.ret (.tup #[.str "apart",.v 1,.v 2,.v 4,.call jbf #[.v 0,.v 3]])] .nil,.asg (.n 5) (.ix (.lst #[.int 0,.int 0,.int 1,.int 2,.bin .FloorDiv (.v 3) (.int 2),.bin .Sub (.v 3) (.int 1),.bin .Mult (.int 3) (.v 3),.int 9999]) (.call jab #[.v 0,.int 8])),.ret (.tup #[.str "span",.v 1,.v 2,.v 4,.blt .min #[.int 9999,.bin .Add (.v 4) (.v 5)]])]⟩
noncomputable def jdn:Fun:=⟨"_law_plan",["_law_feed_here", "_law_cycle_here"],["_law_feed_here", "_law_cycle_here", "_law_works", "_law_names_here", "_law_spans", "_law_k"],#[.asg (.n 2) (.ix (.lst #[.int 1,.int 2,.int 2,.int 3,.int 3,.int 4,.int 5,.int 8]) (.call jab #[.v 0,.int 8])),.asg (.n 3) (.call jcI #[.v 0,.v 2]),.asg (.n 4) (.lst .nil),(.fr (.n 5) (.r1 (.ix (.lst #[.int 0,.int 1,.int 2,.int 3,.int 4,.int 6,.int 9,.int 24]) (.call jab #[.v 0,.int 8]))) #[(.ite (.bop true (.cmp .NotEq (.v 4) (.lst .nil)) #[.cmp .Eq (.call jab #[.v 0,.int 9]) (.int 0)]) #[.expr (.meth .append (.v 4) #[.ix (.v 4) (.call jab #[.v 0,.blt .len #[.v 4]])])] #[(.expr (.meth .append (.v 4) #[(.call jb0 #[.v 0,.call jab #[.v 0,.v 2],.call jab #[.v 0,.v 2],.v 1])]))])]),.ret (.tup #[.v 3,.mkT (.v 4)])]⟩
noncomputable def jcU:Fun:=⟨"_law_lines",["_law_plan_here"],["_law_plan_here", "_law_names_here", "_law_spans", "_law_lines_here", "_law_word_here", "_law_one", "_law_other", "_law_low", "_law_high", "_law_words"],#[.asg (.t #[.n 1,.n 2]) (.v 0),.asg (.n 3) (.lst #[.meth .join (.str " ") #[.bin .Add (.lst #[.str "works"]) (.mkL (.v 1))]]),(.fr (.t #[.n 4,.n 5,.n 6,.n 7,.n 8]) (.e (.v 2)) #[.asg (.n 9) (.lst #[.v 4,.ix (.v 1) (.v 5),.ix (.v 1) (.v 6)]),(.expr (.meth .append (.v 3) #[(.meth .join (.str " ") #[(.bin .Add (.v 9) (.lst #[.blt .str #[.v 7],.blt .str #[.v 8]]))])]))]),.ret (.v 3)]⟩
noncomputable def jbO:Fun:=⟨"_law_figures",["_law_word_here"],["_law_word_here"],#[.ite (.bop false (.cmp .NotIn (.blt .len #[.v 0]) (.tup #[.int 1,.int 2,.int 3,.int 4])) #[.cmp .NotEq (.lc [none] (.n 0) (.s (.v 0)) #[.cmp .NotIn (.v 0) (.str "0123456789")] (.v 0)) (.lst .nil)]) #[.ret .non] .nil,.ret (.ife (.bop false (.cmp .Eq (.v 0) (.str "0")) #[.cmp .NotEq (.ix (.v 0) (.int 0)) (.str "0")]) (.blt .int #[.v 0]) .non)]⟩
noncomputable def jbN:Fun:=⟨"_law_is_name",["_law_word_here"],["_law_word_here", "_law_letters"],#[.asgC 1 (.lc [none] (.n 0) (.s (.v 0)) #[.cmp .In (.v 0) (.str "abcdefghijklmnopqrstuvwxyz")] (.v 0)),.ret (.bop true (.cmp2 .LtE .LtE (.int 1) (.blt .len #[.v 0]) (.int 8)) #[.cmp .Eq (.blt .len #[.v 1]) (.blt .len #[.v 0])])]⟩
noncomputable def ja8:Fun:=⟨"_law_span_words",["_law_names_here", "_law_words"],["_law_names_here", "_law_words", "_law_at", "_law_good", "_law_ends"],#[.ite (.cmp .NotIn (.ix (.v 1) (.int 0)) (.tup #[.str "span",.str "apart"])) #[.ret (.int 0)] .nil,(.fr (.n 2) (.r2 (.int 1) (.blt .len #[.v 1])) #[.asg (.n 3) (.cmp .Lt (.v 2) (.int 5)),.ite (.cmp .In (.v 2) (.tup #[.int 1,.int 2])) #[.asg (.n 3) (.cmp .In (.ix (.v 1) (.v 2)) (.v 0))] .nil,.ite (.cmp .In (.v 2) (.tup #[.int 3,.int 4])) #[.asg (.n 3) (.cmp .IsNot (.call jan #[.ix (.v 1) (.v 2)]) .non)] .nil,.ite (.bop true (.v 3) #[.cmp .Eq (.v 2) (.int 4),.cmp .Eq (.ix (.v 1) (.int 0)) (.str "span")]) #[.asg (.n 3) (.cmp .LtE (.call jan #[.ix (.v 1) (.int 3)]) (.call jan #[.ix (.v 1) (.int 4)]))] .nil,.ite (.not (.v 3)) #[.ret (.v 2)] .nil]),.ite (.cmp .Lt (.blt .len #[.v 1]) (.int 5)) #[.ret (.blt .len #[.v 1])] .nil,(.asg (.n 4) (.lst #[.meth .index (.v 0) #[.ix (.v 1) (.int 1)],.meth .index (.v 0) #[.ix (.v 1) (.int 2)]])),(.ret (.lst #[(.tup #[.ix (.v 1) (.int 0),.ix (.v 4) (.int 0),.ix (.v 4) (.int 1),.call jan #[.ix (.v 1) (.int 3)],.call jan #[.ix (.v 1) (.int 4)]])]))]⟩
noncomputable def jdm:Fun:=⟨"_law_read",["_law_lines_here"],["_law_lines_here", "_law_words", "_law_names_here", "_law_at", "_law_spans", "_law_row", "_law_found"],#[.asg (.n 1) (.ife (.cmp .NotEq (.v 0) (.lst .nil)) (.meth .split (.ix (.v 0) (.int 0)) #[.str " "]) (.lst #[.str "",.str ""])),.ite (.cmp .NotEq (.ix (.v 1) (.int 0)) (.str "works")) #[.ret (.lst #[.int 0,.int 0])] .nil,.asg (.n 2) (.sl (.v 1) (.so (.int 1)) .no),(.fr (.n 3) (.r1 (.blt .len #[.v 2])) #[(.ite (.bop false (.cmp .Gt (.v 3) (.int 7)) #[.not (.call jbK #[.ix (.v 2) (.v 3)]),.cmp .In (.ix (.v 2) (.v 3)) (.sl (.v 2) .no (.so (.v 3)))]) #[.ret (.lst #[.int 0,.bin .Add (.v 3) (.int 1)])] .nil)]),.ite (.cmp .Eq (.v 2) (.lst .nil)) #[.ret (.lst #[.int 0,.int 1])] .nil,.asg (.n 4) (.lst .nil),(.fr (.n 5) (.r2 (.int 1) (.blt .len #[.v 0])) #[.asg (.n 6) (.int 0),.ite (.cmp .Lt (.blt .len #[.v 4]) (.int 24)) #[.asg (.n 6) (.call ja6 #[.v 2,.meth .split (.ix (.v 0) (.v 5)) #[.str " "]])] .nil,.ite (.not (.blt .isi #[.v 6,.ty "list"])) #[.ret (.lst #[.v 5,.v 6])] .nil,.asg (.n 4) (.bin .Add (.v 4) (.v 6))]),.ret (.tup #[.mkT (.v 2),.mkT (.v 4)])]⟩
noncomputable def jdj:Fun:=⟨"_law_word",["_law_feed_here", "_law_names_here"],["_law_feed_here", "_law_names_here", "_law_some"],#[.asg (.n 2) (.lst #[.str "",.str "works",.str "span",.str "apart",.str "0",.str "00",.str "07",.str "1",.str "9999",.str "10000",.str "99999",.str "-1",.str "-",.str "A",.str "abcdefghi"]),.asg (.n 2) (.bin .Add (.bin .Add (.v 2) (.lst #[.str "x1",.str "zzzz",.str "span2",.str "a",.str "0x",.str "+3"])) (.mkL (.v 1))),.ret (.ix (.v 2) (.call jab #[.v 0,.blt .len #[.v 2]]))]⟩
noncomputable def jbl:Fun:=⟨"_law_line_bent",["_law_feed_here", "_law_line", "_law_names_here"],["_law_feed_here", "_law_line", "_law_names_here", "_law_words", "_law_at", "_law_way"],#[.asg (.n 3) (.meth .split (.v 1) #[.str " "]),.asg (.n 4) (.call jab #[.v 0,.blt .len #[.v 3]]),.asg (.n 5) (.call jab #[.v 0,.int 7]),.ite (.cmp .Eq (.v 5) (.int 0)) #[.asg (.n 3) (.bin .Add (.sl (.v 3) .no (.so (.v 4))) (.sl (.v 3) (.so (.bin .Add (.v 4) (.int 1))) .no))] #[.ite (.cmp .Eq (.v 5) (.int 1)) #[.asg (.n 3) (.bin .Add (.bin .Add (.sl (.v 3) .no (.so (.v 4))) (.lst #[.ix (.v 3) (.v 4)])) (.sl (.v 3) (.so (.v 4)) .no))] #[.ite (.cmp .Eq (.v 5) (.int 2)) #[.asg (.n 3) (.bin .Add (.bin .Add (.sl (.v 3) .no (.so (.v 4))) (.rev (.sl (.v 3) (.so (.v 4)) (.so (.bin .Add (.v 4) (.int 2)))) (.neg (.int 1)))) (.sl (.v 3) (.so (.bin .Add (.v 4) (.int 2))) .no))] #[.ite (.cmp .Eq (.v 5) (.int 3)) #[.asg (.n 3) (.bin .Add (.bin .Add (.sl (.v 3) .no (.so (.v 4))) (.lst #[.call jbZ #[.v 0,.v 2]])) (.sl (.v 3) (.so (.v 4)) .no))] #[.ite (.cmp .Eq (.v 5) (.int 4)) #[.ret (.ix (.lrp (.bin .Add (.v 1) (.str " ")) 1 " " " " "  " #[.bin .Add (.v 1) (.str "1"),.sl (.v 1) (.so (.int 1)) .no]) (.call jab #[.v 0,.int 5]))] #[.setS (.v 3) (.v 4) (.call jbZ #[.v 0,.v 2])]]]]],.ret (.meth .join (.str " ") #[.v 3])]⟩
noncomputable def jdk:Fun:=⟨"_law_told",["_law_lines_here"],["_law_lines_here", "_law_found", "e", "_law_others"],#[.asg (.n 1) .non,(.tr #[.asg (.n 1) (.call jcH #[.v 0])] 0 2 [.asg 1 (.one (.str "other")),.asg 3 (.cond false (false,.isi [1,3,5,2]) [(true,.isiV)]),.ifa true (false,.is1 4) [(true,.v 3)] 1 (.lst [(.att "row"),(.att "word")])]),.ret (.v 1)]⟩
noncomputable def ja9:Fun:=⟨"_law_lines_bent",["_law_feed_here", "_law_lines_here", "_law_names_here"],["_law_feed_here", "_law_lines_here", "_law_names_here", "_law_at", "_law_way", "_law_some"],#[.asg (.n 3) (.call jab #[.v 0,.bin .Add (.blt .len #[.v 1]) (.int 1)]),.asg (.n 4) (.call jab #[.v 0,.int 9]),.ite (.cmp .Eq (.v 4) (.int 0)) #[.ret (.bin .Add (.sl (.v 1) .no (.so (.v 3))) (.sl (.v 1) (.so (.bin .Add (.v 3) (.int 1))) .no))] .nil,.ite (.cmp .Eq (.v 4) (.int 1)) #[.ret (.bin .Add (.bin .Add (.sl (.v 1) .no (.so (.v 3))) (.sl (.v 1) (.so (.v 3)) (.so (.bin .Add (.v 3) (.int 1))))) (.sl (.v 1) (.so (.v 3)) .no))] .nil,.ite (.cmp .Eq (.v 4) (.int 2)) #[.ret (.bin .Add (.bin .Add (.sl (.v 1) .no (.so (.v 3))) (.rev (.sl (.v 1) (.so (.v 3)) (.so (.bin .Add (.v 3) (.int 2)))) (.neg (.int 1)))) (.sl (.v 1) (.so (.bin .Add (.v 3) (.int 2))) .no))] .nil,(.ite (.cmp .Eq (.v 4) (.int 3)) #[.asg (.n 5) (.lst #[.str "",.str "works",.str "works a",.str "span",.ix (.v 2) (.int 0),.bin .Add (.str "span ") (.ix (.v 2) (.int 0))]),.expr (.meth .append (.v 5) #[.bin .Add (.bin .Add (.bin .Add (.bin .Add (.str "apart ") (.ix (.v 2) (.int 0))) (.str " ")) (.ix (.v 2) (.neg (.int 1)))) (.str " 5 0")]),.ret (.bin .Add (.bin .Add (.sl (.v 1) .no (.so (.v 3))) (.lst #[.ix (.v 5) (.call jab #[.v 0,.int 7])])) (.sl (.v 1) (.so (.v 3)) .no))] .nil),.ite (.cmp .Eq (.v 3) (.blt .len #[.v 1])) #[.ret (.ife (.cmp .NotEq (.v 1) (.lst .nil)) (.bin .Add (.v 1) (.lst #[.call jaL #[.v 0,.ix (.v 1) (.neg (.int 1)),.v 2]])) (.lst #[.str ""]))] .nil,.ret (.bin .Add (.bin .Add (.sl (.v 1) .no (.so (.v 3))) (.lst #[.call jaL #[.v 0,.ix (.v 1) (.v 3),.v 2]])) (.sl (.v 1) (.so (.bin .Add (.v 3) (.int 1))) .no))]⟩
noncomputable def jbm:Fun:=⟨"_law_at_bounds",["_law_feed_here"],["_law_feed_here", "_law_works", "_law_line", "_law_low", "_law_some"],#[.asg (.n 1) (.str "works a b c d e f g h"),.asg (.n 2) (.str "span a a 0 0"),.asg (.n 3) (.call jab #[.v 0,.int 10000]),(.asg (.n 4) (.lst #[.lst #[.v 1],.lst #[.bin .Add (.v 1) (.str " i")],.bin .Add (.lst #[.v 1]) (.bin .Mult (.lst #[.v 2]) (.int 24)),.bin .Add (.lst #[.v 1]) (.bin .Mult (.lst #[.v 2]) (.int 25))])),.expr (.meth .append (.v 4) #[.bin .Add (.bin .Add (.lst #[.v 1]) (.bin .Mult (.lst #[.v 2]) (.int 24))) (.lst #[.str "cut"])]),.expr (.meth .append (.v 4) #[.lst #[.str "works a",.bin .Add (.bin .Add (.bin .Add (.str "span a a ") (.blt .str #[.v 3])) (.str " ")) (.blt .str #[.v 3])]]),.expr (.meth .append (.v 4) #[.lst #[.str "works a",.bin .Add (.bin .Add (.bin .Add (.str "span a a ") (.blt .str #[.v 3])) (.str " ")) (.blt .str #[.ife (.cmp .Gt (.v 3) (.int 0)) (.bin .Sub (.v 3) (.int 1)) (.int 10000)])]]),.expr (.meth .append (.v 4) #[.lst #[.str "works a",.bin .Add (.bin .Add (.bin .Add (.str "apart a a ") (.blt .str #[.v 3])) (.str " ")) (.blt .str #[.blt .max #[.int 0,.bin .Sub (.v 3) (.int 1)]])]]),(.asg (.n 4) (.bin .Add (.v 4) (.lst #[.lst #[.str "works abcdefgh"],.lst #[.str "works abcdefghi"],.lst #[.str "works a",.bin .Add (.v 2) (.str " 0")],.lst #[.str "works a",.str "span a a 0"]]))),(.asg (.n 4) (.bin .Add (.v 4) (.lst #[.lst #[.str "works a a"],.lst .nil,.lst #[.str ""],.lst #[.str "works"],.lst #[.str "works a",.str ""]]))),(.ret (.bin .Add (.v 4) (.lst #[.lst #[.str "works a",.str "span a b 0 0"],.lst #[.str "works a",.str "span"]])))]⟩
noncomputable def jny:Fun:=⟨"law",["_law_script"],["_law_script", "_law_feed_here", "_law_some", "_law_k", "_law_plan_here", "_law_lines_here", "_law_turn", "_law_bent", "_law_more", "_law_handed"],#[.asg (.n 1) (.call jdd #[.v 0]),.asg (.n 2) (.call jbg #[.v 1]),(.fr (.n 3) (.r1 (.int 3)) #[.asg (.n 4) (.call jdc #[.v 1,.call jcK #[.v 1]]),.asg (.n 5) (.call jcJ #[.v 4]),.expr (.meth .append (.v 2) #[.v 5]),(.fr (.n 6) (.r1 (.int 6)) #[.asg (.n 7) (.call jaE #[.v 1,.v 5,.ix (.v 4) (.int 0)]),.fr (.n 8) (.r1 (.call jab #[.v 1,.int 3])) #[.asg (.n 7) (.call jaE #[.v 1,.v 7,.ix (.v 4) (.int 0)])],.expr (.meth .append (.v 2) #[.v 7])]),.expr (.meth .append (.v 2) #[.v 5])]),.fr (.n 5) (.e (.v 2)) #[.asg (.n 9) (.mkL (.v 5)),.ite (.bop false (.cmp .NotEq (.blt .repr #[.call jdb #[.v 9]]) (.blt .repr #[.call jb1 #[.v 5]])) #[.cmp .NotEq (.v 9) (.v 5)]) #[.ret (.bl false)] .nil],.ret (.bl true)]⟩
noncomputable def T:Tab:=⟨[jev,jdi,jbw,ja2,ja1,jbk,jeu,jcS,jdo,jdp,jcT,jcV,jcd,jdl,jdn,jcU,jbO,jbN,ja8,jdm,jdj,jbl,jdk,ja9,jbm,jny],[(.int 8),(.int 4),(.str "0123456789"),(.int 8),(.int 24)],["MOST_SIGNS", "MOST_FIGURES", "FIGURES", "MOST_NAMES", "MOST_SPANS"],[1,2,3,4,5],[jaS,jaT,jaZ,ja0],[(4,jbB),(5,jb7)]⟩
def top (i:Nat):Stmt:=PySem.Challenge.pw_beatplans_k75_lines_that_write_no_plan.main.body.getD i (.Pass ⟨0,0,0,0⟩)
noncomputable abbrev s_is_name:Stmt:=top 11
noncomputable abbrev s_words_of:Stmt:=top 15
noncomputable abbrev s_number_in:Stmt:=top 16
noncomputable abbrev s_first_fault:Stmt:=top 17
noncomputable abbrev s_works_fault:Stmt:=top 18
noncomputable abbrev s_span_fault:Stmt:=top 19
noncomputable abbrev s_span_in:Stmt:=top 20
noncomputable abbrev s_read_plan:Stmt:=top 21
noncomputable abbrev s_law_feed:Stmt:=top 23
noncomputable abbrev s_law_draw:Stmt:=top 24
noncomputable abbrev s_law_names:Stmt:=top 25
noncomputable abbrev s_law_cycle:Stmt:=top 26
noncomputable abbrev s_law_number:Stmt:=top 27
noncomputable abbrev s_law_span:Stmt:=top 28
noncomputable abbrev s_law_plan:Stmt:=top 29
noncomputable abbrev s_law_lines:Stmt:=top 30
noncomputable abbrev s_law_figures:Stmt:=top 31
noncomputable abbrev s_law_is_name:Stmt:=top 32
noncomputable abbrev s_law_span_words:Stmt:=top 33
noncomputable abbrev s_law_read:Stmt:=top 34
noncomputable abbrev s_law_word:Stmt:=top 35
noncomputable abbrev s_law_line_bent:Stmt:=top 36
noncomputable abbrev s_law_told:Stmt:=top 37
noncomputable abbrev s_law_lines_bent:Stmt:=top 38
noncomputable abbrev s_law_at_bounds:Stmt:=top 39
noncomputable abbrev s_law:Stmt:=top 40
end
local macro_rules
 |`(tactic| simp! only[$xs,*])=>`(tactic| try simp only[D_v,T_v,jqd,D_bl,jqk,jqa,D_g,T_g,D_ty,T_ty,jqq,jpQ,jqe,jqo,jpO,jn1,jnL,jp9,jqh,jqn,D_ix,T_ix,D_sl,jqb,jn2,jnM,jqp,jpP,jn0,D_lc,jqj,jpL,jqm,jpN,jqi,jpK,jqg,jqf,jqc,jpJ,jql,jpM,jn3,jqr,D_or,jpR,T_or,O_no,O_so,jqu,jn6,jqs,jn4,jpW,jnR,I_e,I_r1,I_r2,I_s,jp2,jnZ,I_dk,jpS,jnP,jpV,jnQ,jnO,jpU,S_fr,jpT,jlG,S_tr,jqt,jn5,jpI,jpH,jf7,jpC,jpF,jjW,jnI,jnJ,jpG,jpD,jpE,jpB,jpw,jpz,jpu,W_lt,W_le,W_gt,jpt,jpy,jnF,jpv,jpA,W_in,jps,W_is,jpx,Y_bl,jpo,jpp,jpn,jpZ,jpq,jp5,jnT,jp3,jp4,jp8,jp7,jp1,jp6,jpr,jnK,jnH,jnG,jnW,jnU,jnV,jnY,jnX,G_n,G_t,jp0,jnS,sl_0,sl_s,dr_0,dr_s,pk_nil,jkF,jkE,jpX,jpY,ji4,jpf,jlo,jln,jpg,jlq,jlp,YaA,Yec,Yej,YbW,Ya4,YcP,Yd0,Yd1,YdZ,List.zip_nil_right,List.zip_nil_left,Ydr,List.foldl_nil,List.getElem?_cons_zero,List.getElem?_cons_succ,Option.join_some,ite_true,ite_false,Ybp,Ygs,$xs,*])
theorem jlA (x y:Str):(x++y).cps.toList=x.cps.toList++y.cps.toList:=by
 show(x.cps++y.cps).toList=_;simp
theorem jgL {x y:Str}(h:x.cps.toList=y.cps.toList):x=y:=Str.ext' (Array.toList_inj.mp h)
theorem jdN {y a b:Str}{r:List Str}:YaZ y (a::b::r)=a++y++YaZ y (b::r):=rfl
theorem jl0:(" " : Str)=⟨#[32]⟩:=by decide +kernel
theorem jis (x:Str)(c:Nat):Ybr x ⟨#[c]⟩≠[]:=by
 intro h;have e:=StrLaws.join_split x ⟨#[c]⟩;unfold Ybr at h;split at h
 ·cases h
 ·split at h
  ·cases h
  ·rw[StrLaws.partsBetween_eq]at h;obtain⟨p,q,e⟩:=StrLaws.partsFrom_ne x (⟨#[c]⟩:Str).length 0 (Yav x ⟨#[c]⟩ 0 x.length (x.length+1));rw[h]at e;cases e
section
variable {k:Nat}{G:Gp}{Q:K1}{X:KX}
theorem jai {f c:Addr}{m:Int}(hf:Fd G f c)(h0:0<m)(h1:m<1073741824)(q:∀(r:Int) (G':Gp),0<=r->r<m->Fd G' f c->Sm f G G'->Q (.int r) G'):jac T (k+1) jab [.loc f,.int m] G Q X:=by
 obtain⟨ns,a,l,t,g1,g2,hn⟩:=hf.ex;have fin:∀(z a' l' t':Int),Q (.int (z%m)) (gup G f (.dK (fdU c a' l' t'))):=λz a' l' t'=>q _ _ (YeL z (by omega)) (Yd4 z h0) (Fd.put ⟨rfl⟩ g1 g2 hn) Sm.put
 have hlen:0<ns.length:=List.length_pos_iff.mpr hn;have gc:∀kvs,gup G f (.dK kvs) c=some (.lst (ns.map .int)):=λkvs=>by rw[jbj (λz=>by rw[z,g1]at g2;cases g2)];exact g2
 obtain⟨z,hz,ez⟩:=jf5 (l:=ns) (r:=a%ns.length) (YeL _ (by omega)) (Yd4 _ (by omega))
 refine⟨rfl,?_⟩;simp! only[jdp,jaf,Yab,ix_d g1 jjJ,jiv g1,jdB,jjt,jfV,true_and,jbh (gc _),Yah,ix_l (gc _) ((jfh U.int ns _).trans (congrArg _ ez))];have cut:∀(l' a' t':Int),(0<m/\0<m/\m<1073741824/\Q (.int (l'%m)) (gup G f (.dK (fdU c a' (l'/m) t')))):=λl' a' t'=>⟨h0,h0,by omega,fin _ _ _ _⟩
 by_cases hl:l=0
 ·rw[if_pos (by simpa using hl)]
  refine⟨by omega,by constructor<;>decide,?_⟩
  by_cases hc:z<10 ^ Yfx 18
  ·rw[if_pos (by simpa using hc)]
   exact⟨by decide,.inl (by decide),.inr (by decide),by decide,by decide,by decide,.inl (by decide),.inr (by decide),by decide,by decide,by decide,h0,fin _ _ _ _⟩
  ·rw[if_neg (by simpa using hc)]
   exact cut _ _ _
 ·rw[if_neg (by simpa using hl)]
  exact cut _ _ _
theorem jkZ {a:Addr}{ns:List Int}(ha:G a=some (.fro (ns.map .int)))(hl:ns.length<=63)(q:∀(f c:Addr) (G':Gp),Fd G' f c->Q (.loc f) G'):jac T (k+1) jdd [.loc a] G Q X:=by
 have hcl:(cut ns none (some 63)).length<=63:=by rw[show(63:Int)=((63:Nat):Int)from rfl,jhU];simp;omega
 refine⟨rfl,?_⟩;simp! only[jdo,jaf,Yab,sl_f ha,jb6];intro p1 G1 n1;rw[it_l n1.at];intro p2 G2 n2;refine⟨by decide,λp3 G3 n3=>?_⟩
 simp! only[jo6 (n3.sa _ _ (n2.sa _ _ (n1.sa _ _ ha)))];obtain⟨zs,ez,lz,hz⟩:∃zs:List Int,(Yab (Yfx (if decide (((ns.map U.int).length:Int)=0)=true then 1 else 0)) [U.int 0]).flatten=zs.map U.int/\zs.length<=1/\(ns=[]->zs≠[]):=by
  by_cases h:ns=[]
  ·subst h;exact⟨[0],rfl,by decide,λ_=>by simp⟩
  ·refine⟨[],?_,by decide,λz=>absurd z h⟩
   rw[if_neg (by simpa using h)]
   rfl
 refine⟨_,n3.at,by split<;>decide,by split<;>decide,by split<;>decide,λp4 G4 n4=>?_⟩
 rw[ez]at n4;refine⟨_,_,n4.sa _ _ (n3.sa _ _ n2.at),n4.at,?_,λp5 G5 n5=>⟨by decide,λp6 G6 n6=>?_⟩⟩
 ·rw[Yah,Yah];exact Yak (Nat.add_le_add hcl lz) (by decide:63+1<=Yac)
 rw[jmZ]at n6;rw[<- Ybd]at n5;refine q _ p5 _ ⟨_,0,0,0,n6.at,n6.sa _ _ n5.at,λz=>?_⟩;obtain⟨z1,z2⟩:=List.append_eq_nil_iff.mp z;refine hz ?_ z2;rw[show(63:Int)=((63:Nat):Int)from rfl,jhU]at z1;cases ns with
 |nil=>rfl
 |cons _ _=>cases z1
end

structure Nm (x:Str):Prop where
 l8:x.length<=8
 ch:∀c∈x.cps.toList,c<128
 lw:∀c∈x.cps.toList,97<=c
 up:∀c∈x.cps.toList,c<=122
 ne:0<x.length
noncomputable def menu:List Str:=["a", "ab", "abc", "works", "span", "apart", "none", "round", "held", "zzzzzzzz", "undo", "b", "ba", "plan", "x"]
theorem jk5:∀x∈menu,Nm x:=by
 have h:∀x∈menu,x.length<=8/\(∀c∈x.cps.toList,c<128)/\(∀c∈x.cps.toList,97<=c)/\(∀c∈x.cps.toList,c<=122)/\0<x.length:=by decide +kernel
 exact λx hx=>⟨(h x hx).1,(h x hx).2.1,(h x hx).2.2.1,(h x hx).2.2.2.1,(h x hx).2.2.2.2⟩
noncomputable def nm3 (first step:Int)(k:Nat):Str:=menu.getD ((first+step*(k:Int))%15).toNat "a"
theorem jhh {first step:Int}{n:Nat}(h0:0<=first)(h1:first<15)(hs:step∈([1,2,4,7,8,11,13,14]:List Int))(hn:n<=8):((YaQ n).map (nm3 first step)).Nodup:=by
 have key:∀f∈YaQ 15,∀st∈([1,2,4,7,8,11,13,14]:List Int),((YaQ 8).map (nm3 (f:Int) st)).Nodup:=by decide +kernel
 have h2:=key first.toNat (List.mem_range.mpr (by omega)) step hs
 rw[YdT h0]at h2;have e:(YaQ n).map (nm3 first step)=((YaQ 8).map (nm3 first step)).take n:=by
  rw[<- List.map_take,List.take_range,Nat.min_eq_left hn]
 rw[e];exact h2.sublist (Yc5 _ _)
theorem jef {α:Type}:∀{l:List α} {i:Nat} {x:α},l.Nodup->x∉l->(l.set i x).Nodup
 |[],_,_,_,_=>by simp
 |a::r,0,x,h,hx=>by
  rw[Yd0];exact List.nodup_cons.mpr ⟨λm=>hx (Yag _ m),(List.nodup_cons.mp h).2⟩
 |a::r,i+1,x,h,hx=>by
  rw[Yd1];have h2:=List.nodup_cons.mp h;refine List.nodup_cons.mpr ⟨λm=>?_,jef h2.2 λm=>hx (Yag _ m)⟩;rcases Yca m with z|z
  ·exact h2.1 z
  ·exact hx (by rw[z];simp)
theorem jfm {x:Str}{l:List Str}:((l.map U.str).any λy=>eqF y (.str x))=decide (x∈l):=by
 induction l with
 |nil=>simp
 |cons y r ih=>
  rw[YaA,Ybj,ih];show((y==x)||_)=_;by_cases h:x=y
  ·subst h;simp
  ·have:¬y=x:=λz=>h z.symm;simp[h,this]
structure Nms (xs:List Str):Prop where
 ok:∀x∈xs,Nm x
 nd:xs.Nodup
 one:∃w,∀x∈xs,x∈menu\/x=w
section
variable {k:Nat}{G:Gp}{Q:K1}{X:KX}
theorem jiN {f c:Addr}{m:Nat}(hf:Fd G f c)(h0:0<m)(h1:m<=8)(q:∀(xs:List Str) (G':Gp),xs.length=m->Nms xs->Fd G' f c->Sm f G G'->Q (.tup (xs.map .str)) G'):jac T (k+2) jcI [.loc f,.int m] G Q X:=by
 refine⟨rfl,?_⟩;simp! only[jcT,jaf,Yab];refine⟨by decide,λp G1 n1=>?_⟩
 simp! only[jaN n1.at,jfl n1.at];refine⟨by decide,λG2 p2=>?_⟩
 have hp:=hf.away n1;have f2:=(hf.new n1).off hp p2;have s2:Sm f G G2:=Sm.wr Sm.refl n1.no n1.sa.sm p2;have g2:G2 p=some (.lst (menu.map .str)):=p2.at
 refine jai f2 (by decide) (by decide) λfirst G3 a3 b3 f3 s3=>?_
 have g3:=s3 _ _ hp.1 g2;refine⟨by decide,λp4 G4 n4=>jai (f3.new n4) (by decide) (by decide) λr5 G5 a5 b5 f5 s5=>?_⟩
 have g5:=s5 _ _ hp.1 (n4.sa _ _ g3);refine jaY [1,2,4,7,8,11,13,14] (s5 _ _ (f3.away n4).1 n4.at) a5 b5 λstep hs=>?_;have s5':=(s2.trans s3).nw n4 |>.trans s5;refine⟨by omega,by omega,by rw[jaW];exact Yak h1 (by decide),?_⟩
 have fin:∀(xs:List Str) (p6:Addr) (G6:Gp),xs.length=m->Nms xs->Fd G6 f c->Sm f G G6->G6 p6=some (.lst (xs.map .str))->itU (.loc p6) G6 λxs _=>Q (.tup xs) G6:=λxs p6 G6 e1 e2 e3 e4 e5=>by
  rw[it_l e5];exact q xs G6 e1 e2 e3 e4
 refine jcs (λi acc G'=>G'=G5/\∃xs:List Str,acc=xs.map .str/\xs.length=i/\(∀x∈xs,x∈menu)/\xs=(YaQ i).map (nm3 first step)) ?_ ?_ ⟨rfl,[],rfl,rfl,(λ_ h=>(nomatch h)),rfl⟩
 ·rintro acc G' ⟨rfl,xs,rfl,hl,hm,hxe⟩;rw[jaW]at hl hxe;have hnd:xs.Nodup:=by rw[hxe];exact jhh a3 b3 hs (by omega)
  have hx:∀x∈xs,Nm x:=λx hx=>jk5 x (hm x hx);have hN:Nms xs:=⟨hx,hnd, "a",λx hx=>.inl (hm x hx)⟩;refine⟨trivial,λp6 G6 n6=>?_⟩;have f6:=f5.new n6;have h6:=f5.away n6;have s6:=s5'.nw n6;refine jai f6 (by decide) (by decide) λr7 G7 a7 b7 f7 s7=>?_
  have g7:=s7 _ _ h6.1 n6.at
  simp! only[];by_cases hr:r7=0
  ·rw[if_pos (by simpa using hr)]
   refine jai f7 (by decide) (by decide) λr8 G8 a8 b8 f8 s8=>?_
   have g8:=s8 _ _ h6.1 g7;simp! only[];refine⟨by omega,by omega,by rw[jaW];exact Yak (by omega:(1+r8).toNat<=8) (by decide),?_⟩
   refine jcs (λi acc G'=>Fd G' f c/\Sm f G8 G'/\∃zs:List Str,acc=zs.map .str/\zs.length=i/\∀x∈zs,x.length=1/\∀c∈x.cps.toList,c<128/\97<=c/\c<=122) ?_ ?_ ⟨f8,Sm.refl,[],rfl,rfl,λ_ h=>nomatch h⟩
   ·rintro acc G9 ⟨f9,s9,zs,rfl,lz,hz⟩;rw[jaW]at lz;refine⟨trivial,λpa Ga na=>?_⟩;have fa:=f9.new na;have ga:=na.sa _ _ (s9 _ _ h6.1 g8);have sa:=(s6.trans (s7.trans (s8.trans s9))).nw na;have hnew:Nm (YaZ "" zs):=by
     refine⟨?_,λc hc=>?_,λc hc=>?_,λc hc=>?_,?_⟩
     ·rw[jaR zs λt ht=>(hz t ht).1];omega
     ·obtain⟨t,ht,hd⟩:=(jaQ zs c).mp hc;exact((hz t ht).2 c hd).1
     ·obtain⟨t,ht,hd⟩:=(jaQ zs c).mp hc;exact((hz t ht).2 c hd).2.1
     ·obtain⟨t,ht,hd⟩:=(jaQ zs c).mp hc;exact((hz t ht).2 c hd).2.2
     ·rw[jaR zs λt ht=>(hz t ht).1];omega
    have hsum:(zs.map (·.length)).sum+zs.length<=1048576:=by
     have:∀l:List Str,(∀x∈l,x.length=1)->(l.map (·.length)).sum=l.length:=λl=>by
      induction l with
      |nil=>intro _;rfl
      |cons x r ih=>
       intro h;rw[YaA,List.sum_cons,Ya4,ih λy hy=>h y (Yag _ hy),h x (by simp)]
       omega
     rw[this zs λt ht=>(hz t ht).1];omega
    simp! only[mt_join,jfP na.at];refine⟨by decide,hsum,in_l ga rfl (jcR _) ?_⟩
    rw[jfm];split
    ·rename_i hni;have hni':YaZ "" zs∉xs:=by simpa using hni
     refine⟨by decide,hsum,jai fa (by omega) (by omega) λr G' a' b' f' s'=>?_⟩
     have g':=s' _ _ h6.1 ga;rw[jl5 g' (show ixN _ r=some r.toNat from by
      rw[Yah];obtain⟨j,rfl⟩:=Ya0 a';exact jhy (by omega))]
     intro Gb pb;have e:(xs.map U.str).set r.toNat (.str (YaZ "" zs))=(xs.set r.toNat (YaZ "" zs)).map .str:=by rw[List.map_set]
     rw[e]at pb;refine fin _ p6 Gb (by rw[List.length_set];exact hl) ⟨λx hx'=>?_,jef hnd hni',YaZ "" zs,λx hx'=>?_⟩ (f'.off h6 pb) (Sm.wr s5' n6.no (sa.trans s') pb) pb.at
     ·rcases Yca hx' with z|z
      ·exact hx x z
      ·rw[z];exact hnew
     ·rcases Yca hx' with z|z
      ·exact .inl (hm x z)
      ·exact .inr z
    ·exact fin xs p6 Ga hl hN fa sa ga
   ·rintro i x acc G9 K hx9 ⟨f9,s9,zs,rfl,lz,hz⟩ hk _;refine⟨trivial,jai f9 (by decide) (by decide) λr G' a' b' f' s'=>?_⟩
    have hb:∀c∈("abcdefghijklmnopqrstuvwxyz" : Str).cps.toList,c<128/\97<=c/\c<=122:=by decide +kernel
    have e26:("abcdefghijklmnopqrstuvwxyz" : Str).cps.toList.length=26:=by decide +kernel
    obtain⟨d,hd,ed⟩:=jf5 (l:=("abcdefghijklmnopqrstuvwxyz" : Str).cps.toList) a' (by rw[e26];exact b')
    refine ix_s (by decide +kernel) ed (hk _ _ ⟨f',s9.trans s',zs++[⟨#[d]⟩],by simp,by simp[lz],λz hz'=>?_⟩)
    rcases List.mem_append.mp hz' with z'|z'
    ·exact hz z z'
    ·rw[List.mem_singleton.mp z'];exact⟨rfl,λe he=>by
      have:e=d:=by simpa using he
      rw[this];exact hb d hd⟩
  ·rw[if_neg (by simpa using hr)]
   exact fin xs p6 G7 hl hN f7 (s6.trans s7) g7
 ·rintro i x acc G' K hx ⟨rfl,xs,rfl,hl,hn,hxe⟩ hk _;obtain⟨hi,rfl⟩:=jbd hx;simp! only[];have e0:0<=(first+step*(i:Int))%15:=YeL _ (by decide)
  have e1:(first+step*(i:Int))%15<15:=Yd4 _ (by decide)
  have hlt:((first+step*(i:Int))%15).toNat<menu.length:=by show _<15;omega
  have ey:menu[((first+step*(i:Int))%15).toNat]?=some (nm3 first step i):=by unfold nm3;simp[Yfg,hlt]
  have ea:atI menu ((first+step*(i:Int))%15)=some (nm3 first step i):=by
   have:=jbz ey
   rwa [YdT e0]at this
  have hy:=Ybq ey;refine⟨trivial,.inr (by constructor<;>omega),by decide,?_⟩
  rw[ix_l g5 ((jfh U.str menu _).trans (congrArg _ ea))];exact hk _ _ ⟨rfl,xs++[nm3 first step i],by simp,by simp[hl],λz hz=>by
   rcases List.mem_append.mp hz with z'|z'
   ·exact hn z z'
   ·rw[List.mem_singleton.mp z'];exact hy,by rw[hxe,Ydq,Ybd];rfl⟩
theorem jiO {f c:Addr}(hf:Fd G f c)(q:∀(P:Int) (G':Gp),1<=P->P<=600->Fd G' f c->Sm f G G'->Q (.int P) G'):jac T (k+2) jcK [.loc f] G Q X:=by
 refine⟨rfl,?_⟩;simp! only[jcV,jaf,Yab];refine⟨by decide,λp G1 n1=>jai (hf.new n1) (by decide) (by decide) λr G2 a2 b2 f2 s2=>?_⟩
 refine jaY [1,2,3,4,5,6,7,8,10,12,30,60,120,600] (s2 _ _ (hf.away n1).1 n1.at) a2 b2 λz hz=>?_;have:1<=z/\z<=600:=by simp only[YaL,Yax,or_false]at hz;omega
 exact q z _ this.1 this.2 f2 (n1.sa.sm.trans s2)
theorem jea {f c:Addr}{P:Int}(hf:Fd G f c)(h1:1<=P)(h2:P<=600)(q:∀(z:Int) (G':Gp),0<=z->z<=9999->Fd G' f c->Sm f G G'->Q (.int z) G'):jac T (k+2) jbf [.loc f,.int P] G Q X:=by
 refine⟨rfl,?_⟩;simp! only[jcd,jaf,Yab];refine jai hf (by decide) (by decide) λw G1 a1 b1 f1 s1=>?_
 simp! only[];by_cases hw:w<3
 ·rw[if_pos (by simpa using hw)]
  exact jai f1 (by omega) (by omega) λr G2 a2 b2 f2 s2=>q r _ a2 (by omega) f2 (s1.trans s2)
 rw[if_neg (by simpa using hw)]
 by_cases hw':w=3
 ·rw[if_pos (by simpa using hw')]
  refine⟨.inl (by decide),.inl (by decide),by decide,λp G2 n2=>jai (f1.new n2) (by decide) (by decide) λr G3 a3 b3 f3 s3=>?_⟩
  refine jaY [0,1,P,2*P-1,2*P] (s3 _ _ (f1.away n2).1 n2.at) a3 b3 λz hz=>?_;have:0<=z/\z<=9999:=by simp only[YaL,Yax,or_false]at hz;omega
  exact q z _ this.1 this.2 f3 ((s1.nw n2).trans s3)
 ·rw[if_neg (by simpa using hw')]
  refine⟨.inl (by decide),by decide,λp G2 n2=>?_⟩
  refine jaY [3*P+1,10000] n2.at (by omega) (by show w-4<2;omega) λz hz=>?_
  have:0<z/\z<=10000:=by simp only[YaL,Yax,or_false]at hz;omega
  exact jai (f1.new n2) this.1 (by omega) λr G3 a3 b3 f3 s3=>q r _ a3 (by omega) f3 ((s1.nw n2).trans s3)
end

structure Spn where
 w:Str
 o:Nat
 t:Nat
 lo:Int
 hi:Int
noncomputable def Spn.u (s:Spn):U:=.tup [.str s.w,.int s.o,.int s.t,.int s.lo,.int s.hi]
structure Spn.Ok (W:Nat)(s:Spn):Prop where
 w:s.w = "apart" \/ s.w = "span"
 o:s.o<W
 t:s.t<W
 lo:0<=s.lo/\s.lo<=9999
 hi:0<=s.hi/\s.hi<=9999
 le:s.w = "span" -> s.lo<=s.hi
theorem jeI {x:Str}(h:x = "apart" \/ x = "span"):x.length<=8/\∀c∈x.cps.toList,c<128:=by
 rcases h with rfl|rfl
 ·exact⟨by decide +kernel,by decide +kernel⟩
 ·exact⟨by decide +kernel,by decide +kernel⟩
theorem Spn.Ok.sml {W:Nat}{s:Spn}(h:s.Ok W):Sml 1 s.u:=Sml.tup λu hu=>by
 simp only[YaL,Yax,or_false]at hu;rcases hu with rfl|rfl|rfl|rfl|rfl
 ·exact Sml.str (jeI h.w).2
 all_goals exact Sml.int _
theorem jfR {i:Int}(h:-100000<=i/\i<=100000):Ft 1921 0 (.int i):=Ft.int (Ya3 (show i.natAbs<=100000 by omega) (by decide))
section
variable {k:Nat}{G:Gp}{Q:K1}{X:KX}
theorem jkX {f c:Addr}{P:Int}{W o t:Nat}(hf:Fd G f c)(h1:1<=P)(h2:P<=600)(ho:o<W)(ht:t<W)(q:∀(s:Spn) (G':Gp),s.Ok W->Fd G' f c->Sm f G G'->Q s.u G'):jac T (k+3) jb0 [.loc f,.int o,.int t,.int P] G Q X:=by
 refine⟨rfl,?_⟩;simp! only[jdl,jaf,Yab];refine jea hf h1 h2 λlo G1 a1 b1 f1 s1=>?_;refine jai f1 (by decide) (by decide) λr G2 a2 b2 f2 s2=>?_
 simp! only[];by_cases hr:r=0
 ·rw[if_pos (by simpa using hr)]
  refine jea f2 h1 h2 λhi G3 a3 b3 f3 s3=>⟨by decide,?_⟩
  exact q ⟨"apart",o,t,lo,hi⟩ _ ⟨.inl rfl,ho,ht,⟨a1,b1⟩,⟨a3,b3⟩,λz=>absurd (show("apart" : Str) = "span" from z) (by decide +kernel)⟩ f3 (s1.trans (s2.trans s3))
 ·rw[if_neg (by simpa using hr)]
  refine⟨by decide,by decide,.inl (by decide),by decide,λp G3 n3=>jai (f2.new n3) (by decide) (by decide) λr4 G4 a4 b4 f4 s4=>?_⟩
  refine jaY [0,0,1,2,P/2,P-1,3*P,9999] (s4 _ _ (f2.away n3).1 n3.at) a4 b4 λz hz=>?_;have hz':0<=z:=by simp only[YaL,Yax,or_false]at hz;omega
  simp! only[];refine⟨by decide,q ⟨"span",o,t,lo,if lo+z<9999 then lo+z else 9999⟩ _ ⟨.inr rfl,ho,ht,⟨a1,b1⟩,by dsimp only;split<;>omega,λ_=>by dsimp only;split<;>omega⟩ f4 ((s1.trans s2).nw n3 |>.trans s4)⟩
theorem jkY {f c:Addr}{P:Int}(hf:Fd G f c)(h1:1<=P)(h2:P<=600)(q:∀(xs:List Str) (ss:List Spn) (G':Gp),0<xs.length->xs.length<=8->Nms xs->ss.length<=24->(∀s∈ss,s.Ok xs.length)->Fd G' f c->Sm f G G'->Q (.tup [.tup (xs.map .str),.tup (ss.map Spn.u)]) G') :
  jac T (k+4) jdc [.loc f,.int P] G Q X:=by
 refine⟨rfl,?_⟩;simp! only[jdn,jaf,Yab];refine⟨by decide,λp G1 n1=>jai (hf.new n1) (by decide) (by decide) λr G2 a2 b2 f2 s2=>?_⟩
 refine jaY [1,2,2,3,3,4,5,8] (s2 _ _ (hf.away n1).1 n1.at) a2 b2 λW' hW=>?_;have hW':1<=W'/\W'<=8:=by simp only[YaL,Yax,or_false]at hW;omega
 obtain⟨W,rfl⟩:=Ya0 (show 0<=W' by omega)
 refine jiN f2 (by omega) (by omega) λxs G3 l3 x3 f3 s3=>?_
 have S3:Sm f G G3:=n1.sa.sm.trans (s2.trans s3);refine⟨by decide,λp4 G4 n4=>⟨by decide,λp5 G5 n5=>jai ((f3.new n4).new n5) (by decide) (by decide) λr6 G6 a6 b6 f6 s6=>?_⟩⟩
 have aw:=f3.away n4;have S6:Sm f G G6:=((S3.nw n4).nw n5).trans s6;refine jaY [0,1,2,3,4,6,9,24] (s6 _ _ ((f3.new n4).away n5).1 n5.at) a6 b6 λm hm=>?_;have hm':0<=m/\m<=24:=by simp only[YaL,Yax,or_false]at hm;omega
 have g6:G6 p4=some (.lst []):=s6 _ _ aw.1 (n5.sa _ _ n4.at);simp! only[];refine⟨by omega,by omega,?_⟩
 refine jaB (λi ς G'=>∃(ss:List Spn) (o:Option U),ς=[some (.loc f),some (.int P),some (.int (W:Int)),some (.tup (xs.map .str)),some (.loc p4),o]/\Fd G' f c/\Sm f G G'/\G' p4=some (.lst (ss.map Spn.u))/\ss.length=i/\∀s∈ss,s.Ok W) ?_ ?_ ⟨[],_,rfl,f6,S6,g6,rfl,λ_ h=>nomatch h⟩
 ·rintro ς G7 ⟨ss,o,rfl,f7,s7,g7,l7,o7⟩;rw[jaW]at l7;simp! only[];refine⟨trivial,?_⟩;rw[it_l g7];exact⟨by decide,q xs ss _ (by omega) (by omega) x3 (by omega) (by rw[l3];exact o7) f7 s7⟩
 ·rintro i x ς G7 K hx ⟨ss,o,rfl,f7,s7,g7,l7,o7⟩ hk;obtain⟨hi,rfl⟩:=jbd hx;simp! only[];have add:∀(s:Spn) (G8:Gp),s.Ok W->Fd G8 f c->Sm f G G8->G8 p4=some (.lst (ss.map Spn.u))->∀o,((ss.map Spn.u).length<Yac/\putO G8 p4 (.lst (ss.map Spn.u++[s.u])) λG'=>K [some (.loc f),some (.int P),some (.int (W:Int)),some (.tup (xs.map .str)),some (.loc p4),o] G'):=λs G8 e1 e2 e3 e4 o=>by
   refine⟨?_,λG9 p9=>?_⟩
   ·rw[Yah];exact Yaq (show ss.length<25 by omega) (by decide)
   ·refine hk _ _ ⟨ss++[s],_,rfl,e2.off aw p9,Sm.wr S3 n4.no e3 p9,by rw[Ybd];exact p9.at,by simp[l7],λz hz=>?_⟩
    rcases List.mem_append.mp hz with z'|z'
    ·exact o7 z z'
    ·rw[List.mem_singleton.mp z'];exact e1
  have fresh:∀(o:Option U) (G8:Gp),Fd G8 f c->Sm f G G8->G8 p4=some (.lst (ss.map Spn.u))->(match mtU .append (.loc p4) G8 with
    |some _=>jac T (k+3) jab [.loc f,.int (W:Int)] G8 (λx G1=>jac T (k+3) jab [.loc f,.int (W:Int)] G1 (λx_1 G1=>jac T (k+3) jb0 [.loc f,x,x_1,.int P] G1 (λx_2 G1=>jax .append (.loc p4) [x_2] G1 λ_ G1=>K [some (.loc f),some (.int P),some (.int (W:Int)),some (.tup (xs.map .str)),some (.loc p4),o] G1) X) X) X
    |none=>False):=λo G8 e1 e2 e3=>by
   rw[jaN e3];refine jai e1 (by omega) (by omega) λr9 G9 a9 b9 f9 s9=>jai f9 (by omega) (by omega) λra Ga aa ba fa sa=>?_
   obtain⟨o1,rfl⟩:=Ya0 a9;obtain⟨o2,rfl⟩:=Ya0 aa;refine jkX (W:=W) fa h1 h2 (by omega) (by omega) λs Gb ob fb sb=>?_
   have gb:=sb _ _ aw.1 (sa _ _ aw.1 (s9 _ _ aw.1 e3));rw[jfl gb];exact add s Gb ob fb (e2.trans (s9.trans (sa.trans sb))) gb _
  refine⟨trivial,by decide,λpb Gb nb=>?_⟩
  have gb:=nb.sa _ _ g7;have fb:=f7.new nb;have sb:=s7.nw nb;simp! only[];refine jnp gb nb.at (λu hu=>?_) (show 1<100 by decide) ?_
  ·obtain⟨s,hs,rfl⟩:=List.mem_map.mp hu;exact(o7 s hs).sml
  by_cases hss:ss=[]
  ·rw[if_neg (by rw[hss];simp)]
   exact fresh _ Gb fb sb gb
  ·rw[if_pos (by simpa using hss)]
   refine jai fb (by decide) (by decide) λr8 G8 a8 b8 f8 s8=>?_
   have g8:=s8 _ _ aw.1 gb;have hl:0<ss.length:=List.length_pos_iff.mpr hss;simp! only[];by_cases hr:r8=0
   ·rw[if_pos (by simpa using hr)]
    simp! only[jaN g8,jbh g8,Yah];refine jai f8 (by omega) (by omega) λr9 G9 a9 b9 f9 s9=>?_
    have g9:=s9 _ _ aw.1 g8;obtain⟨s,hs,es⟩:=jf5 (l:=ss) a9 b9;rw[ix_l g9 ((jfh Spn.u ss _).trans (congrArg _ es)),jfl g9];exact add s G9 (o7 s hs) f9 (sb.trans (s8.trans s9)) g9 _
   ·rw[if_neg (by simpa using hr)]
    exact fresh _ G8 f8 (sb.trans s8) g8
end

noncomputable def nstr (t:Int):Str:=(toString t:String)
theorem jhO:∀(n m:Nat),m<=n->0<m->((Ybm 10 m).map Ybz).head?≠some 48
 |0,m,h,h0=>by omega
 |n+1,m,h,h0=>by
  by_cases hm:m<10
  ·rw[Yde hm];have:∀m∈YaQ 10,0<m->([Yfc m].map Ybz).head?≠some 48:=by decide
   exact this m (List.mem_range.mpr hm) h0
  ·rw[Nat.toDigits_of_base_le (by decide) (by omega),Ybd]
   have ih:=jhO n (m/10) (by omega) (by omega)
   cases hc:(Ybm 10 (m/10)).map Ybz with
   |nil=>exact absurd (YfL.mp hc) Nat.toDigits_ne_nil
   |cons a l=>
    rw[hc]at ih;rw[Yej];exact ih
theorem jcG {t:Int}(h0:0<=t)(h1:t<=9999):(1<=(nstr t).length/\(nstr t).length<=4)/\(∀c∈(nstr t).cps.toList,48<=c/\c<=57)/\((nstr t).length<=1\/(nstr t).cps.toList.head?≠some 48):=by
 obtain⟨m,rfl⟩:=Ya0 h0;have e:nstr (m:Int)=⟨((Ybm 10 m).map Ybz).toArray⟩:=YcN m;have el:(nstr (m:Int)).length=(Ybm 10 m).length:=by
  rw[e];show(((Ybm 10 m).map Ybz).toArray).size=_;rw[Yai,Yah]
 have ec:(nstr (m:Int)).cps.toList=(Ybm 10 m).map Ybz:=by rw[e]
 rw[el,ec];refine⟨⟨Nat.length_toDigits_pos,(Yb9 (by decide) (by decide)).mpr (by omega)⟩,λc hc=>?_,?_⟩
 ·obtain⟨d,hd,rfl⟩:=List.mem_map.mp hc;have:=YeJ (by decide) (by decide) hd
  unfold Char.isDigit at this;obtain⟨a,b⟩:=(Yap _ _).mp this |> λz=>(⟨of_decide_eq_true z.1,of_decide_eq_true z.2⟩:_/\_);exact⟨UInt32.le_iff_toNat_le.mp a,UInt32.le_iff_toNat_le.mp b⟩
 ·by_cases hm:m<10
  ·exact .inl ((Yb9 (by decide) (by decide)).mpr (by omega))
  ·exact .inr (jhO m m (Yaf _) (by omega))
theorem jbI {t:Int}(h0:0<=t)(h1:t<=9999):intText? (nstr t)=some t:=PySem.W.KIN.num_reads h0 (by omega)
theorem jiQ {t u:Int}(h0:0<=t)(h1:t<=9999)(u0:0<=u)(u1:u<=9999)(e:nstr t=nstr u):t=u:=by
 have:=jbI h0 h1;rw[e,jbI u0 u1]at this;exact(Yan this).symm
theorem jjB {t:Int}(h0:0<=t)(h1:t<=9999):t.natAbs.log2<1920:=by
 have h2:t.natAbs<2 ^ 14:=by omega
 by_cases hz:t.natAbs=0
 ·rw[hz];decide
 ·exact YcD ((YfX hz).mpr h2) (by decide)

section
variable {k n:Nat}{G:Gp}{Q:K1}{X:KX}
section
variable {φ:U->Prop}
theorem g0:glU T.gs 0 φ=φ (.int 8):=rfl
theorem g1:glU T.gs 1 φ=φ (.int 4):=rfl
theorem g2:glU T.gs 2 φ=φ (.str "0123456789"):=rfl
theorem g3:glU T.gs 3 φ=φ (.int 8):=rfl
end
theorem jnw:∀c,48<=c->c<=57->(Yav "0123456789" ⟨#[c]⟩ 0 ("0123456789" : Str).length 1).isEmpty=false:=by
 have h:∀d∈YaQ 10,(Yav "0123456789" ⟨#[48+d]⟩ 0 ("0123456789" : Str).length 1).isEmpty=false:=by decide +kernel
 intro c h1 h2;have:=h (c-48) (List.mem_range.mpr (by omega))
 rw[show 48+(c-48)=c by omega]at this
 exact this
theorem jgq {x:Str}:lenU [.str x] G Q=(x.length<=Yac/\Q (.int x.length) G):=rfl
theorem jel {x y:Int}{φ:Bool->Prop}:cmpU .LtE (.int x) (.int y) G φ=φ (decide (x<=y)):=rfl
section
variable {x y:Str}{φ:Bool->Prop}
theorem ji5:cmpU .Eq (.str x) (.str y) G φ=φ (decide (x=y)):=rfl
theorem jm3:cmpU .LtE (.str x) (.str y) G φ=φ (!decide (y.cps.toList<x.cps.toList)):=rfl
theorem ji1:inU (.str x) (.str y) G φ=φ (!(Yav y x 0 y.length 1).isEmpty):=rfl
end
theorem sg_s {z:Str}{φ:List U->Prop}:sgU (.str z) φ=(z.cps.all (·< 128)=true/\φ (z.cps.toList.map λc=>.str ⟨#[c]⟩)):=rfl
theorem jc2 {b:Bool}{φ:Bool->Prop}:truU (.bl b) G φ=φ b:=rfl
theorem jpm {p:Addr}{m:Nat}(g:G p=some (.lst (Yab m (.bl true))))(q:Q (.bl true) G):allU [.loc p] G Q:=by
 have e:∀m:Nat,jbp (Yab m (.bl true))=some (Yab m true):=λm=>by
  induction m with
  |zero=>rfl
  |succ m ih=>
   rw[YaH,YaH];show(match jbp (Yab m (.bl true))with|some l=>some (true::l)|none=>none)=_
   rw[ih]
 unfold allU;dsimp only;rw[g];show(match jbp (Yab m (.bl true))with|some bs=>Q (.bl (bs.all id)) G|none=>False)
 rw[e];show Q (.bl ((Yab m true).all id)) G;have h:(Yab m true).all id=true:=Ydg.mpr λb hb=>Ye1 hb;rw[h];exact q
theorem jeF {z:Str}(h:∀c∈z.cps.toList,c<128):z.cps.all (·< 128)=true:=by
 rw[<- Ygf];exact Ydg.mpr λc hc=>decide_eq_true (h c hc)
theorem jhV {z:Str}{b:U->Gp->(Option U->Gp->Prop)->Prop}{kk:List U->Gp->Prop}(hb:∀c∈z.cps.toList,∀K:Option U->Gp->Prop,K (some (.bl true)) G->b (.str ⟨#[c]⟩) G K)(q:kk (Yab z.cps.toList.length (.bl true)) G) :
  jbP (λ_=>True) b (z.cps.toList.map λc=>.str ⟨#[c]⟩) [] G kk:=by
 refine jcY (λ_=>.bl true) trivial (λx hx K hk=>?_) ?_
 ·obtain⟨c,hc,rfl⟩:=List.mem_map.mp hx;exact hb c hc K hk
 ·rw[YbW,Ycz];have e:(z.cps.toList.map ((λ_=>U.bl true) ∘ λc=>U.str ⟨#[c]⟩))=Yab z.cps.toList.length (U.bl true):=List.map_const' ..;rw[e];exact q
theorem jd9 {t:Int}(h0:0<=t)(h1:t<=9999)(q:∀G',Sa G G'->Q (.int t) G'):jac T (k+1) jaq [.str (nstr t)] G Q X:=by
 obtain⟨⟨l1,l4⟩,hd,hz⟩:=jcG h0 h1;refine⟨rfl,?_⟩;simp! only[jbw,jaf,Yab,jgq,jel,g1,sg_s];have hs:(nstr t).length<=Yac:=Yak l4 (by decide)
 have hlen:(nstr t).cps.toList.length=(nstr t).length:=by simp[YcM]
 refine⟨hs,?_⟩;rw[if_pos (by simp;omega),if_neg (by simp;omega)]
 refine⟨jeF λc hc=>by have:=(hd c hc).2;omega,by rw[Yah,hlen];exact hs,?_⟩
 refine jhV (λc hc K hk=>?_) λp G1 n1=>?_
 ·rw[g2,ji1,jnw c (hd c hc).1 (hd c hc).2];exact hk
 ·refine jpm n1.at ?_;rw[jc2,if_neg (by simp)]
  have fin:intU [.str (nstr t)] G1 Q:=⟨t,jbI h0 h1,Yak l4 (by decide),q G1 n1.sa⟩
  refine⟨hs,?_⟩;by_cases h2:1<(nstr t).length
  ·rw[if_pos (by simp;omega)]
   obtain⟨d,r,e⟩:∃d r,(nstr t).cps.toList=d::r:=by
    cases e:(nstr t).cps.toList with
    |nil=>rw[e]at hlen;simp at hlen;omega
    |cons d r=>exact⟨d,r,rfl⟩
   refine ix_s hs (c:=d) (by rw[e];exact jfj _ _) ?_
   rw[ji5,if_neg]
   ·exact fin
   ·intro z;have z:(⟨#[d]⟩:Str) = "0" := by simpa using z
    have hd0:d≠48:=by
     rcases hz with hz|hz
     ·omega
     ·rw[e]at hz;intro y;exact hz (by rw[y];rfl)
    have:[d]=[48]:=by
     have:=congrArg (λs:Str=>s.cps.toList) z;have e0:("0" : Str).cps.toList=[48]:=by decide +kernel
     rw[show(⟨#[d]⟩:Str).cps.toList=[d]from rfl,e0]at this;exact this
    exact hd0 (Yf1 this).1
  ·rw[if_neg (by simp;omega)]
   exact fin
theorem jle {x:Str}:jep [.str x,.ty "str"] G Q=Q (.bl true) G:=rfl
end

noncomputable def jkD (xs:List Str)(ss:List Spn):U:=.tup [.tup (xs.map .str),.tup (ss.map Spn.u)]
noncomputable def wl (xs:List Str):List Str := "works" :: xs
noncomputable def sw (xs:List Str)(s:Spn):List Str:=[s.w,xs.getD s.o "",xs.getD s.t "",nstr s.lo,nstr s.hi]
noncomputable def jek (xs:List Str)(ss:List Spn):List Str:=YaZ " " (wl xs)::ss.map λs=>YaZ " " (sw xs s)
structure Pl (xs:List Str)(ss:List Spn):Prop where
 x0:0<xs.length
 x8:xs.length<=8
 nm:Nms xs
 sl:ss.length<=24
 so:∀s∈ss,s.Ok xs.length
section
variable {k n:Nat}{G:Gp}{Q:K1}{X:KX}{xs:List Str}{ss:List Spn}
theorem at_o {W o:Nat}(hx:xs.length=W)(h:o<W):xs[o]?=some (xs.getD o "")/\xs.getD o "" ∈ xs:=by
 have ho:o<xs.length:=by omega
 have e:xs.getD o "" = xs[o]:=by simp[Yfg,ho]
 rw[e];exact⟨by simp[ho],Ycg ho⟩
theorem jjn {n:Nat}:∀{l:List Str},(∀x∈l,x.length<=n)->(l.map (·.length)).sum<=l.length*n
 |[],_=>Ybw _
 |x::r,h=>by
  rw[YaA,List.sum_cons,Ya4,Nat.succ_mul];have:=jjn (l:=r) λy hy=>h y (Yag _ hy);have:=h x (by simp)
  omega
structure Wd (x:Str):Prop where
 l:x.length<=8
 c:∀c∈x.cps.toList,c<128/\c≠32
theorem Nm.wd {x:Str}(h:Nm x):Wd x:=⟨h.l8,λc hc=>⟨h.ch c hc,λz=>absurd (h.lw c hc) (by omega)⟩⟩
theorem jjv {t:Int}(h0:0<=t)(h1:t<=9999):Wd (nstr t):=by
 obtain⟨⟨_,l4⟩,hd,_⟩:=jcG h0 h1;exact⟨by omega,λc hc=>⟨by have:=(hd c hc).2;omega,by have:=(hd c hc).1;omega⟩⟩
theorem jik:Wd "works" := ⟨by decide +kernel,by decide +kernel⟩
theorem w_wd {x:Str}(h:x = "apart" \/ x = "span"):Wd x:=by
 rcases h with rfl|rfl
 ·exact⟨by decide +kernel,by decide +kernel⟩
 ·exact⟨by decide +kernel,by decide +kernel⟩
theorem Pl.wl (h:Pl xs ss):(∀x∈wl xs,Wd x)/\(wl xs).length<=9:=⟨λx hx=>by
 rcases YaL.mp hx with rfl|hx
 ·exact jik
 ·exact(h.nm.ok x hx).wd,by have:=h.x8;show xs.length+1<=9;omega⟩
theorem Pl.sw (h:Pl xs ss){s:Spn}(hs:s∈ss):(∀x∈sw xs s,Wd x)/\(sw xs s).length<=9:=⟨λx hx=>by
 have o:=h.so s hs;unfold Z.sw at hx;simp only[YaL,Yax,or_false]at hx;rcases hx with rfl|rfl|rfl|rfl|rfl
 ·exact w_wd o.w
 ·exact(h.nm.ok _ (at_o rfl o.o).2).wd
 ·exact(h.nm.ok _ (at_o rfl o.t).2).wd
 ·exact jjv o.lo.1 o.lo.2
 ·exact jjv o.hi.1 o.hi.2,by show 5<=9;decide⟩
theorem jgD {ws:List Str}(h:(∀x∈ws,Wd x)/\ws.length<=9):(ws.map (·.length)).sum+ws.length<=81:=by
 have:=jjn (n:=8) λx hx=>(h.1 x hx).l;have:=h.2;omega
theorem jhv {ws:List Str}(h:(∀x∈ws,Wd x)/\ws.length<=9):(YaZ " " ws).length<=100/\∀c∈(YaZ " " ws).cps.toList,c<128:=by
 refine⟨?_,?_⟩
 ·have a:=StrLaws.join_length_le " " ws;have e:(" " : Str).length=1:=rfl;rw[e]at a;have:=jgD h;omega
 ·have key:∀(ws:List Str),(∀x∈ws,∀c∈x.cps.toList,c<128)->∀c∈(YaZ " " ws).cps.toList,c<128:=by
   intro ws
   induction ws with
   |nil=>intro _ c hc;exact absurd hc (by show c∉([]:List Nat);simp)
   |cons x r ih=>
    intro hw c hc;cases r with
    |nil=>exact hw x (by simp) c hc
    |cons y r=>
     rw[jdN,jlA,jlA]at hc;rcases List.mem_append.mp hc with hc|hc
     ·rcases List.mem_append.mp hc with hc|hc
      ·exact hw x (by simp) c hc
      ·have:c=32:=by simpa[jl0]using hc
       omega
     ·exact ih (λz hz=>hw z (Yag _ hz)) c hc
  exact key _ λx hx c hc=>((h.1 x hx).c c hc).1
theorem jke {α:Type}{l:List α}{i:Nat}{a:α}(h:l[i]?=some a):l.take (i+1)=l.take i++[a]:=by
 rw[List.take_succ,h];rfl
theorem jec (h:Pl xs ss)(q:∀(p:Addr) (G':Gp),G p=none->Sa G G'->G' p=some (.lst ((jek xs ss).map .str))->Q (.loc p) G'):jac T (k+1) jcJ [jkD xs ss] G Q X:=by
 refine⟨rfl,?_⟩;simp! only[jcU,jaf,Yab,jkD,mt_join];refine⟨trivial,by decide,λpa Ga na pb Gb nb=>?_⟩
 have ga:=nb.sa _ _ na.at
 refine⟨_,_,ga,nb.at,by simp;exact Yak (YcS h.x8 1) (by decide),λpc Gc nc=>?_⟩
 dsimp only;rw[jfP (ys:=wl xs) nc.at];refine⟨by decide,Yak (jgD h.wl) (by decide),by decide,λp1 G1 n1=>?_⟩
 have s1:Sa G G1:=na.sa.trans (nb.sa.trans (nc.sa.trans n1.sa));have hp1:G p1=none:=by
  cases e:G p1 with
  |none=>rfl
  |some o=>have:=n1.no;rw[nc.sa _ _ (nb.sa _ _ (na.sa _ _ e))]at this;cases this
 refine jaB (λi ς G'=>(∃o4 o5 o6 o7 o8 o9,ς=[some (jkD xs ss),some (.tup (xs.map .str)),some (.tup (ss.map Spn.u)),some (.loc p1),o4,o5,o6,o7,o8,o9])/\Sa G G'/\G' p1=some (.lst ((YaZ " " (wl xs)::(ss.take i).map λs=>YaZ " " (sw xs s)).map .str))) ?_ ?_ ⟨⟨_,_,_,_,_,_,rfl⟩,s1,n1.at⟩
 ·rintro ς G2 ⟨⟨o4,o5,o6,o7,o8,o9,rfl⟩,s2,g2⟩;rw[Yah,Ygp]at g2;simp! only[];exact⟨trivial,q p1 G2 hp1 s2 g2⟩
 ·rintro i x ς G2 K hx ⟨⟨o4,o5,o6,o7,o8,o9,rfl⟩,s2,g2⟩ hk;have hi:i<ss.length:=by have:=(List.getElem?_eq_some_iff.mp hx).1;simpa using this
  have es:ss[i]?=some ss[i]:=by simp[hi]
  have eu:x=ss[i].u:=by
   rw[Yat,es]at hx;exact(Yan hx).symm
  subst eu;have hm:ss[i]∈ss:=Ycg hi;have o:=h.so _ hm;have ao:atI (xs.map U.str) (ss[i].o:Int)=some (.str (xs.getD ss[i].o "")):=jbz (by rw[Yat,(at_o rfl o.o).1];rfl)
  have at':atI (xs.map U.str) (ss[i].t:Int)=some (.str (xs.getD ss[i].t "")):=jbz (by rw[Yat,(at_o rfl o.t).1];rfl)
  simp! only[Spn.u,ix_t ao,ix_t at'];refine⟨trivial,trivial,by decide,λpd Gd nd=>?_⟩
  have gd2:=nd.sa _ _ g2;simp! only[jaN gd2,mt_join];refine⟨jjB o.lo.1 o.lo.2,jjB o.hi.1 o.hi.2,by decide,λpe Ge ne=>?_⟩
  refine⟨_,_,ne.sa _ _ nd.at,ne.at,by show 3+2<=Yac;decide,λpf Gf nf=>?_⟩
  dsimp only;rw[jfP (ys:=sw xs ss[i]) nf.at];refine⟨by decide,Yak (jgD (h.sw hm)) (by decide),?_⟩
  have gf2:=nf.sa _ _ (ne.sa _ _ gd2);rw[jfl gf2];refine⟨by simp;exact Ya3 (show _<=25 by have:=h.sl;omega) (by decide),λG3 w3=>hk _ _ ⟨⟨_,_,_,_,_,_,rfl⟩,λb o h=>w3.sm b o (λz=>by rw[z,hp1]at h;cases h) (nf.sa _ _ (ne.sa _ _ (nd.sa _ _ (s2 b o h)))),?_⟩⟩
  rw[w3.at,jke es,Ybd,YaA,YaA,Ybd];rfl
end

theorem jnx:∀(n:Nat) (l:List Nat),l.length=n+1->(∀c∈l,48<=c/\c<=57)->l.head?≠some 48->∃m:Nat,0<m/\l=(Ybm 10 m).map Ybz
 |0,l,hl,hd,hh=>by
  obtain⟨c,rfl⟩:=List.length_eq_one_iff.mp hl;have h1:=hd c (by simp)
  have h2:c≠48:=λz=>hh (by rw[z];rfl)
  refine⟨c-48,by omega,?_⟩
  rw[Yde (by omega)]
  have:∀d∈YaQ 10,[48+d]=[Yfc d].map Ybz:=by decide
  have:=this (c-48) (List.mem_range.mpr (by omega))
  rw[<- this,show 48+(c-48)=c by omega]
 |n+1,l,hl,hd,hh=>by
  have hne:l≠[]:=λz=>by rw[z]at hl;simp at hl
  have e:=List.dropLast_concat_getLast hne;obtain⟨a,ea⟩:∃a,a=l.dropLast:=⟨_,rfl⟩;obtain⟨c,ec⟩:∃c,c=l.getLast hne:=⟨_,rfl⟩;rw[<- ea,<- ec]at e;have la:a.length=n+1:=by rw[ea,List.length_dropLast];omega
  have ha:a.head?=l.head?:=by
   rw[<- e];cases a with
   |nil=>simp at la
   |cons x r=>rfl
  obtain⟨m,h0,em⟩:=jnx n a la (λx hx=>hd x (by rw[<- e];simp[hx])) (by rw[ha];exact hh)
  have hc:=hd c (by rw[<- e];simp)
  refine⟨10*m+(c-48),by omega,?_⟩
  rw[<- Nat.toDigits_append_toDigits (b:=10) (n:=m) (d:=c-48) (by decide) h0 (by omega),Ybd,<- em,Yde (by omega)]
  have:∀d∈YaQ 10,[48+d]=[Yfc d].map Ybz:=by decide
  have:=this (c-48) (List.mem_range.mpr (by omega))
  rw[<- this,show 48+(c-48)=c by omega,e]
theorem jfJ {x:Str}(h1:1<=x.length)(h4:x.length<=4)(hd:∀c∈x.cps.toList,48<=c/\c<=57)(hh:x.length<=1\/x.cps.toList.head?≠some 48):∃t:Int,0<=t/\t<=9999/\x=nstr t:=by
 have hlen:x.cps.toList.length=x.length:=by simp[YcM]
 have key:∃m:Nat,x.cps.toList=(Ybm 10 m).map Ybz:=by
  by_cases hz:x.cps.toList.head?=some 48
  ·have h:x.length<=1:=by rcases hh with h|h;exact h;exact absurd hz h
   obtain⟨c,e⟩:=List.length_eq_one_iff.mp (show x.cps.toList.length=1 by omega)
   rw[e]at hz ⊢;have:c=48:=by simpa using hz
   subst this;exact⟨0,by decide⟩
  ·obtain⟨m,_,e⟩:=jnx (x.length-1) x.cps.toList (by omega) hd hz
   exact⟨m,e⟩
 obtain⟨m,e⟩:=key;have el:(Ybm 10 m).length=x.length:=by rw[<- hlen,e,Yah]
 have hm:m<10 ^ 4:=(Yb9 (by decide) (by decide)).mp (by omega)
 refine⟨m,by omega,by omega,jgL ?_⟩
 rw[e,show nstr (m:Int)=⟨((Ybm 10 m).map Ybz).toArray⟩from YcN m]
def NumW (x:Str):Option Int->Prop
 |some t=>0<=t/\t<=9999/\x=nstr t
 |none=>∀t:Int,0<=t->t<=9999->x≠nstr t
noncomputable def oI:Option Int->U
 |some t=>.int t
 |none=>.non
theorem NumW.uniq {x:Str}:∀{o o':Option Int},NumW x o->NumW x o'->o=o'
 |some t,some u,⟨a,b,c⟩,⟨a',b',c'⟩=>by rw[jiQ a b a' b' (c.symm.trans c')]
 |some t,none,⟨a,b,c⟩,h=>absurd c (h t a b)
 |none,some t,h,⟨a,b,c⟩=>absurd c (h t a b)
 |none,none,_,_=>rfl
theorem NumW.ex (x:Str):∃o,NumW x o:=by
 by_cases h:∃t:Int,0<=t/\t<=9999/\x=nstr t
 ·obtain⟨t,h⟩:=h;exact⟨some t,h⟩
 ·exact⟨none,λt a b c=>h ⟨t,a,b,c⟩⟩
theorem jjS:∀c,c<128->(!(Yav "0123456789" ⟨#[c]⟩ 0 ("0123456789" : Str).length 1).isEmpty)=decide (48<=c/\c<=57):=by
 have h:∀d∈YaQ 128,(!(Yav "0123456789" ⟨#[d]⟩ 0 ("0123456789" : Str).length 1).isEmpty)=decide (48<=d/\d<=57):=by decide +kernel
 exact λc hc=>h c (List.mem_range.mpr hc)
theorem jm2:∀c,c<128->(!(Yav "abcdefghijklmnopqrstuvwxyz" ⟨#[c]⟩ 0 ("abcdefghijklmnopqrstuvwxyz" : Str).length 1).isEmpty)=decide (97<=c/\c<=122):=by
 have h:∀d∈YaQ 128,(!(Yav "abcdefghijklmnopqrstuvwxyz" ⟨#[d]⟩ 0 ("abcdefghijklmnopqrstuvwxyz" : Str).length 1).isEmpty)=decide (97<=d/\d<=122):=by decide +kernel
 exact λc hc=>h c (List.mem_range.mpr hc)
theorem lex2 {a b:Nat}:decide ([a] < [b])=decide (a<b):=by
 refine decide_eq_decide.mpr ?_;rw[List.cons_lt_cons_iff];simp
theorem jie {l:List Nat}{P:Nat->Prop}[DecidablePred P]:(l.map λc=>decide (P c)).all id=decide (∀c∈l,P c):=by
 rw[Ybl,Ydg,decide_eq_true_iff];constructor
 ·exact λh c hc=>of_decide_eq_true (h _ (List.mem_map.mpr ⟨c,hc,rfl⟩))
 ·rintro h b hb;obtain⟨c,hc,rfl⟩:=List.mem_map.mp hb;exact decide_eq_true (h c hc)
section
variable {k:Nat}{G:Gp}{Q:K1}{X:KX}
theorem jjV {p:Addr}{bs:List Bool}(g:G p=some (.lst (bs.map .bl)))(q:Q (.bl (bs.all id)) G):allU [.loc p] G Q:=by
 have e:∀bs:List Bool,jbp (bs.map .bl)=some bs:=λbs=>by
  induction bs with
  |nil=>rfl
  |cons b r ih=>
   show(match jbp (r.map .bl)with|some l=>some (b::l)|none=>none)=_
   rw[ih]
 unfold allU;dsimp only;rw[g];show(match jbp (bs.map .bl)with|some bs=>Q (.bl (bs.all id)) G|none=>False)
 rw[e];exact q
theorem jhX {z:Str}{f:Nat->Bool}{b:U->Gp->(Option U->Gp->Prop)->Prop}{kk:List U->Gp->Prop}(hb:∀c∈z.cps.toList,∀K:Option U->Gp->Prop,K (some (.bl (f c))) G->b (.str ⟨#[c]⟩) G K)(q:kk ((z.cps.toList.map f).map .bl) G) :
  jbP (λ_=>True) b (z.cps.toList.map λc=>.str ⟨#[c]⟩) [] G kk:=by
 refine jcY (λu=>match u with|.str s=>.bl (f (s.cps.toList.headD 0))|_=>.non) trivial (λx hx K hk=>?_) ?_
 ·obtain⟨c,hc,rfl⟩:=List.mem_map.mp hx;exact hb c hc K hk
 ·rw[YbW,Ycz];rw[Ycz]at q;exact q
theorem jdH {x : Str}(hx : x.length <= 10000)(ha : ∀ c ∈ x.cps.toList, c < 128)(q : ∀ o, NumW x o -> ∀ G', Sa G G' -> Q (oI o) G') : jac T (k + 1) jaq [.str x] G Q X := by
  by_cases hn : ∃ t : Int, 0 <= t /\ t <= 9999 /\ x = nstr t
  · obtain ⟨t, h0, h1, rfl⟩ := hn
    exact jd9 h0 h1 λG' s => q (some t) ⟨h0, h1, rfl⟩ G' s
  · have hq : ∀ G', Sa G G' -> Q .non G' := q none λt a b c => hn ⟨t, a, b, c⟩
    have hs : x.length <= Yac := Yak hx (by decide)
    have hlen : x.cps.toList.length = x.length := by simp [YcM]
    refine ⟨rfl, ?_⟩
    simp! only [jbw, jaf, Yab, jgq, jel, g1, sg_s]
    refine ⟨hs, ?_⟩
    by_cases h1 : 1 <= x.length
    · rw [if_pos (by simp; omega)]
      by_cases h4 : x.length <= 4
      · rw [if_neg (by simp; omega)]
        refine ⟨jeF ha, by rw [Yah, hlen]; exact hs, ?_⟩
        refine jhX (f := λc => decide (48 <= c /\ c <= 57)) (λc hc K hk => ?_) λp G1 n1 => ?_
        · rw [g2, ji1, jjS c (ha c hc)]
          exact hk
        · refine jjV n1.at ?_
          rw [jc2, jie]
          by_cases hd : ∀ c ∈ x.cps.toList, 48 <= c /\ c <= 57
          · rw [decide_eq_true hd, if_neg (by simp)]
            refine ⟨hs, ?_⟩
            have h2 : 1 < x.length := Nat.lt_of_not_le λz => hn (jfJ h1 h4 hd (.inl z))
            have hz : x.cps.toList.head? = some 48 := YcK λz => hn (jfJ h1 h4 hd (.inr z))
            rw [if_pos (by simp; omega)]
            obtain ⟨r, e⟩ : ∃ r, x.cps.toList = 48 :: r := by
              cases e : x.cps.toList with
              | nil => rw [e] at hlen; simp at hlen; omega
              | cons d r => rw [e] at hz; have : d = 48 := by simpa using hz
                            exact ⟨r, by rw [this]⟩
            refine ix_s hs (c := 48) (by rw [e]; exact jfj _ _) ?_
            rw [ji5, if_pos (by decide +kernel)]
            exact hq G1 n1.sa
          · rw [decide_eq_false hd, if_pos (by simp)]
            exact hq G1 n1.sa
      · rw [if_pos (by simp; omega)]
        exact hq G λ_ _ h => h
    · rw [if_neg (by simp; omega)]
      exact hq G λ_ _ h => h
end

section
variable {k n:Nat}{G:Gp}{Q:K1}{X:KX}{xs ys:List Str}{ss ts:List Spn}
theorem jdK:∀l:List Str,noBs (l.map YcF)=true
 |[]=>rfl
 |_::r=>by
  show(noB (.str _)&&noBs (r.map YcF))=true;rw[jdK r];rfl
theorem jiq {l l':List Str}(h:l.map YcF=l'.map YcF):l=l':=by
 have:=congrArg (List.map λd:PyData=>match d with|.str x=>x|_ => "") h
 rw[Ycz,Ycz]at this;have e:((λd:PyData=>match d with|.str x=>x|_ => "") ∘ YcF)=id:=rfl
 rw[e,List.map_id,List.map_id]at this;exact this
theorem jbV {l:List Str}(h:∀x∈l,∀c∈x.cps.toList,c<128):Small (.list (l.map .str))/\DUs G (l.map .str) (l.map YcF):=by
 have hs:∀u∈l.map U.str,Sml 0 u:=λu hu=>by
  obtain⟨x,hx,rfl⟩:=List.mem_map.mp hu;exact Sml.str (h x hx)
 obtain⟨h1,h2,h3⟩:=smls hs;have e:pds (l.map U.str)=l.map YcF:=by rw[jg5,Ycz];rfl
 rw[e]at h2 h3;refine⟨⟨h2,?_⟩,by have:=jfX (G:=G) h1;rw[e]at this;exact this⟩
 show Yck (l.map YcF)+1<=100;omega
theorem jdQ {a b:Addr}{l l':List Str}{φ:Bool->Prop}(ga:G a=some (.lst (l.map .str)))(gb:G b=some (.lst (l'.map .str)))(h:∀x∈l,∀c∈x.cps.toList,c<128)(h':∀x∈l',∀c∈x.cps.toList,c<128)(q:φ (decide (l=l'))):eqU (.loc a) (.loc b) G φ:=by
 obtain⟨s1,d1⟩:=jbV (G:=G) h;obtain⟨s2,d2⟩:=jbV (G:=G) h';refine⟨.list (l.map .str),.list (l'.map .str),.lst (by unfold lsG;rw[ga]) d1,.lst (by unfold lsG;rw[gb]) d2,s1,s2,?_⟩
 have e:YaJ (.list (l.map .str)) (.list (l'.map .str))=decide (l=l'):=by
  by_cases hl:l=l'
  ·subst hl;rw[Yez _ s1.1];simp
  ·rw[decide_eq_false hl];cases e:YaJ (.list (l.map .str)) (.list (l'.map .str))with
   |false=>rfl
   |true=>
    have:=jjN (d:=.list (l.map .str)) (e:=.list (l'.map .str)) (jdK l) (jdK l') e;exact absurd (jiq (PyData.list.inj this)) hl
 rw[e];exact q
theorem jlg {p:Addr}{us:List U}(g:G p=some (.lst us)):jep [.loc p,.ty "list"] G Q=Q (.bl true) G:=by
 unfold jep isiU tyN;dsimp only;rw[g];rfl
section
variable {a b:Addr}{φ:Bool->Prop}
theorem jly:cmpU .Eq (.loc a) (.loc b) G φ=eqU (.loc a) (.loc b) G φ:=rfl
theorem jhZ:cmpU .NotEq (.loc a) (.loc b) G φ=eqU (.loc a) (.loc b) G λb=>φ (!b):=rfl
end
theorem jhi {x y:Str}{φ:Bool->Prop}:cmpU .NotEq (.str x) (.str y) G φ=φ (!decide (x=y)):=rfl
end

theorem jjL {f:Nat->Bool}:∀l:List Nat,(l.map λc=>U.str ⟨#[c]⟩).filterMap (λu=>match u with|.str s=>if f (s.cps.toList.headD 0)=true then some u else none|_=>none)=(l.filter f).map λc=>U.str ⟨#[c]⟩
 |[]=>rfl
 |c::r=>by
  rw[YaA,Ych,jjL r,List.filter_cons];have e:f ((⟨#[c]⟩:Str).cps.toList.headD 0)=f c:=rfl;dsimp only;rw[e];cases f c<;>rfl
section
variable {l:List Nat}{P:Nat->Prop}
theorem jhK [DecidablePred P]:(l.filter λc=>!decide (P c))=[]↔∀c∈l,P c:=by
 rw[List.filter_eq_nil_iff];simp
theorem jlr [DecidablePred P]:(l.filter λc=>decide (P c)).length=l.length↔∀c∈l,P c:=by
 rw[List.length_filter_eq_length_iff];simp
end
instance (x:Str):Decidable (Nm x):=decidable_of_iff (x.length<=8/\(∀c∈x.cps.toList,97<=c/\c<=122)/\0<x.length) ⟨λh=>⟨h.1,λc hc=>by have:=h.2.1 c hc;omega,λc hc=>(h.2.1 c hc).1,λc hc=>(h.2.1 c hc).2,h.2.2⟩,λh=>⟨h.l8,λc hc=>⟨h.lw c hc,h.up c hc⟩,h.ne⟩⟩
section
variable {k:Nat}{G:Gp}{Q:K1}{X:KX}
theorem jhW {z:Str}{f:Nat->Bool}{b:U->Gp->(Option U->Gp->Prop)->Prop}{kk:List U->Gp->Prop}(hb:∀c∈z.cps.toList,∀K:Option U->Gp->Prop,K (if f c=true then some (.str ⟨#[c]⟩) else none) G->b (.str ⟨#[c]⟩) G K)(q:kk ((z.cps.toList.filter f).map λc=>.str ⟨#[c]⟩) G) :
  jbP (λ_=>True) b (z.cps.toList.map λc=>.str ⟨#[c]⟩) [] G kk:=by
 refine jce (λu=>match u with|.str s=>if f (s.cps.toList.headD 0)=true then some u else none|_=>none) trivial (λx hx K hk=>?_) ?_
 ·obtain⟨c,hc,rfl⟩:=List.mem_map.mp hx;exact hb c hc K hk
 ·rw[YbW,jjL];exact q
theorem jeY {x:Str}(hx:x.length<=10000)(ha:∀c∈x.cps.toList,c<128)(q:∀G',Sa G G'->Q (.bl (decide (Nm x))) G'):jac T (k+1) jeh [.str x] G Q X:=by
 have hs:x.length<=Yac:=Yak hx (by decide)
 have hlen:x.cps.toList.length=x.length:=by simp[YcM]
 refine⟨rfl,?_⟩;simp! only[jev,jaf,Yab,jgq,jel,g0,sg_s,jle,jc2];refine⟨hs,?_⟩;by_cases h1:1<=x.length
 ·rw[if_pos (by simp;omega)]
  by_cases h8:x.length<=8
  ·rw[if_neg (by simp;omega)]
   refine⟨jeF ha,by rw[Yah,hlen];exact hs,?_⟩
   refine jhX (f:=λc=>decide (97<=c/\c<=122)) (λc hc K hk=>?_) λp G1 n1=>jjV n1.at ?_
   ·have ea:("a" : Str).cps.toList=[97]:=by decide +kernel
    have ez:("z" : Str).cps.toList=[122]:=by decide +kernel
    rw[jm3,ea,show(⟨#[c]⟩:Str).cps.toList=[c]from rfl,lex2];by_cases hc1:97<=c
    ·rw[if_pos (by simp;omega),jm3,ez,show(⟨#[c]⟩:Str).cps.toList=[c]from rfl,lex2]
     have e:(!decide (122<c))=decide (97<=c/\c<=122):=by
      rw[Ybl];simp;omega
     rw[e];exact hk
    ·rw[if_neg (by simp;omega)]
     rw[show decide (97<=c/\c<=122)=false from decide_eq_false λz=>hc1 z.1]at hk;exact hk
   ·rw[jie];have e:decide (∀c∈x.cps.toList,97<=c/\c<=122)=decide (Nm x):=decide_eq_decide.mpr ⟨λh=>⟨h8,ha,λc hc=>(h c hc).1,λc hc=>(h c hc).2,h1⟩,λh c hc=>⟨h.lw c hc,h.up c hc⟩⟩;rw[e];exact q G1 n1.sa
  ·rw[if_pos (by simp;omega)]
   have:=q G λ_ _ h=>h;rw[decide_eq_false λh:Nm x=>h8 h.l8]at this;exact this
 ·rw[if_neg (by simp;omega)]
  have:=q G λ_ _ h=>h;rw[decide_eq_false λh:Nm x=>h1 h.ne]at this;exact this
theorem jc4 {x:Str}(hx:x.length<=10000)(ha:∀c∈x.cps.toList,c<128)(q:∀G',Sa G G'->Q (.bl (decide (Nm x))) G'):jac T (k+1) jbK [.str x] G Q X:=by
 have hs:x.length<=Yac:=Yak hx (by decide)
 have hlen:x.cps.toList.length=x.length:=by simp[YcM]
 refine⟨rfl,?_⟩;simp! only[jbN,jaf,Yab,jgq,jel,sg_s];refine⟨jeF ha,by rw[Yah,hlen];exact hs,?_⟩
 refine jhW (f:=λc=>decide (97<=c/\c<=122)) (λc hc K hk=>?_) λp G1 n1=>?_
 ·show inU _ _ _ _;rw[ji1,jm2 c (ha c hc)];cases hd:decide (97<=c/\c<=122)<;>rw[hd]at hk<;>exact hk
 ·simp! only[jgq,jel,jbh n1.at];refine⟨hs,?_⟩;have q1:=q G1 n1.sa;by_cases h1:1<=x.length
  ·rw[if_pos (by simp;omega)]
   by_cases h8:x.length<=8
   ·rw[if_pos (by simp;omega)]
    refine⟨hs,?_⟩;have e:decide (((((x.cps.toList.filter λc=>decide (97<=c/\c<=122)).map λc=>U.str ⟨#[c]⟩).length:Nat):Int)=(x.length:Int))=decide (Nm x):=by
     refine decide_eq_decide.mpr ?_;rw[Yah,<- hlen,Int.ofNat_inj,jlr];exact⟨λh=>⟨h8,ha,λc hc=>(h c hc).1,λc hc=>(h c hc).2,h1⟩,λh c hc=>⟨h.lw c hc,h.up c hc⟩⟩
    rw[e];exact q1
   ·rw[if_neg (by simp;omega),decide_eq_false (by omega)]
    rw[decide_eq_false λh:Nm x=>h8 h.l8]at q1;exact q1
  ·rw[if_neg (by simp;omega)]
   rw[decide_eq_false λh:Nm x=>h1 h.ne]at q1;exact q1
theorem jgl {x:Str}(hx:x.length<=10000)(ha:∀c∈x.cps.toList,c<128)(q:∀o,NumW x o->∀G',Sa G G'->Q (oI o) G'):jac T (k+1) jan [.str x] G Q X:=by
 have hs:x.length<=Yac:=Yak hx (by decide)
 have hlen:x.cps.toList.length=x.length:=by simp[YcM]
 refine⟨rfl,?_⟩;simp! only[jbO,jaf,Yab,jgq,jel,sg_s];refine⟨hs,by decide,rfl,rfl,?_⟩
 have e4:([U.int 1,U.int 2,U.int 3,U.int 4].any λy=>eqF y (.int x.length))=decide (1<=x.length/\x.length<=4):=by
  rw[Ybl];simp[eqF];omega
 rw[e4];by_cases h14:1<=x.length/\x.length<=4
 ·rw[decide_eq_true h14];show if (!true)=true then _ else _
  rw[if_neg (by simp)]
  refine⟨jeF ha,by rw[Yah,hlen];exact hs,?_⟩
  refine jhW (f:=λc=>!decide (48<=c/\c<=57)) (λc hc K hk=>?_) λp G1 n1=>⟨by decide,λp2 G2 n2=>?_⟩
  ·show inU _ _ _ _;rw[ji1,jjS c (ha c hc)];cases hd:decide (48<=c/\c<=57)<;>rw[hd]at hk<;>exact hk
  ·have g1:G2 p=some (.lst (((x.cps.toList.filter λc=>!decide (48<=c/\c<=57)).map λc=>(⟨#[c]⟩:Str)).map .str)):=by
    rw[Ycz];exact n2.sa _ _ n1.at
   have g2':G2 p2=some (.lst (([]:List Str).map .str)):=n2.at
   have sa:Sa G G2:=λb o h=>n2.sa b o (n1.sa b o h);show eqU (.loc p) (.loc p2) G2 λb=>if (!b)=true then _ else _
   refine jdQ g1 g2' (λy hy c hc=>?_) (λy hy=>nomatch hy) ?_
   ·obtain⟨d,hd,rfl⟩:=List.mem_map.mp hy;have:c=d:=by simpa using hc
    rw[this];exact ha d (List.mem_filter.mp hd).1
   ·by_cases hd:∀c∈x.cps.toList,48<=c/\c<=57
    ·rw[decide_eq_true (by rw[YfL];exact jhK.mpr hd),if_neg (by simp)]
     by_cases hn:∃t:Int,0<=t/\t<=9999/\x=nstr t
     ·obtain⟨t,h0,h1,e⟩:=hn;have fin:intU [.str x] G2 Q:=⟨t,by rw[e];exact jbI h0 h1,Yak h14.2 (by decide),q (some t) ⟨h0,h1,e⟩ G2 sa⟩
      obtain⟨_,_,hz⟩:=jcG h0 h1;rw[<- e]at hz;by_cases h0':x = "0"
      ·rw[if_pos (decide_eq_true h0')];exact fin
      ·rw[if_neg (λz=>h0' (of_decide_eq_true z))];obtain⟨d,r,ed⟩:∃d r,x.cps.toList=d::r:=by
        cases e:x.cps.toList with
        |nil=>rw[e]at hlen;simp at hlen;omega
        |cons d r=>exact⟨d,r,rfl⟩
       refine ix_s hs (c:=d) (by rw[ed];exact jfj _ _) ?_
       have e0:("0" : Str).cps.toList=[48]:=by decide +kernel
       have hd0:d≠48:=by
        rintro rfl;rcases hz with hz|hz
        ·refine h0' (jgL ?_);rw[ed]at hlen;have:r=[]:=List.length_eq_zero_iff.mp (by simp at hlen;omega)
         rw[ed,this,e0]
        ·rw[ed]at hz;exact hz rfl
       rw[jhi,if_pos]
       ·exact fin
       ·rw[Ycu,decide_eq_false_iff_not];intro z;have:=congrArg (λs:Str=>s.cps.toList) z;rw[show(⟨#[d]⟩:Str).cps.toList=[d]from rfl]at this;exact hd0 (Yf1 (this.trans e0)).1
     ·have q1:=q none (λt a b c=>hn ⟨t,a,b,c⟩) G2 sa;have h2:1<x.length:=Nat.lt_of_not_le λz=>hn (jfJ h14.1 h14.2 hd (.inl z));have hz:x.cps.toList.head?=some 48:=YcK λz=>hn (jfJ h14.1 h14.2 hd (.inr z));obtain⟨r,e⟩:∃r,x.cps.toList=48::r:=by
       cases e:x.cps.toList with
       |nil=>rw[e]at hlen;simp at hlen;omega
       |cons d r=>
        rw[e]at hz;have:d=48:=by simpa using hz
        exact⟨r,by rw[this]⟩
      rw[if_neg (λz=>by
       have z:x = "0" := of_decide_eq_true z;rw[z]at h2;exact absurd h2 (by decide))]
      refine ix_s hs (c:=48) (by rw[e];exact jfj _ _) ?_
      rw[jhi,if_neg (by decide +kernel)]
      exact q1
    ·rw[decide_eq_false (λz=>by rw[YfL]at z;exact hd (jhK.mp z)),if_pos (by simp)]
     refine q none (λt a b c=>hd ?_) G2 sa;rw[c];exact(jcG a b).2.1
 ·rw[decide_eq_false h14];show if (!false)=true then _ else _
  rw[if_pos (by simp)]
  refine q none (λt a b c=>h14 ?_) G λ_ _ h=>h;rw[c];exact(jcG a b).1
end

noncomputable def wd (ws:List Str)(i:Nat):Str:=ws.getD i ""
def Fw (fit:Nat->Bool)(n least:Nat):Option Nat->Prop
 |some i=>(∀j,j<i->fit j=true)/\((i<n/\fit i=false)\/(i=n/\n<least))
 |none=>(∀j,j<n->fit j=true)/\least<=n
noncomputable def oN:Option Nat->U
 |some i=>.int i
 |none=>.non
theorem Fw.uniq {fit:Nat->Bool}{n l:Nat}:∀{o o':Option Nat},Fw fit n l o->Fw fit n l o'->o=o'
 |some i,some i',⟨h1,h2⟩,⟨h1',h2'⟩=>by
  rcases Ygo i i' with h|h|h
  ·have:=h1' i h;rcases h2 with⟨_,e⟩|⟨e,l⟩
   ·rw[this]at e;cases e
   ·rcases h2' with⟨l',_⟩|⟨l',_⟩<;>omega
  ·rw[h]
  ·have:=h1 i' h;rcases h2' with⟨_,e⟩|⟨e,l⟩
   ·rw[this]at e;cases e
   ·rcases h2 with⟨l',_⟩|⟨l',_⟩<;>omega
 |some i,none,⟨_,h2⟩,⟨h1',h2'⟩=>by
  rcases h2 with⟨l,e⟩|⟨e,l⟩
  ·rw[h1' i l]at e;cases e
  ·omega
 |none,some i,⟨h1',h2'⟩,⟨_,h2⟩=>by
  rcases h2 with⟨l,e⟩|⟨e,l⟩
  ·rw[h1' i l]at e;cases e
  ·omega
 |none,none,_,_=>rfl
structure Ww (ws:List Str):Prop where
 l:ws.length<=10000
 w:∀x∈ws,x.length<=10000/\∀c∈x.cps.toList,c<128
noncomputable def fitW (ws:List Str)(i:Nat):Bool:=if i=0 then decide (wd ws 0 = "works") else decide (i<=8/\Nm (wd ws i)/\wd ws i∉(ws.drop 1).take (i-1))
theorem jbD {ws:List Str}{i:Nat}(h:i<ws.length):wd ws i∈ws:=by
 unfold wd;rw[YaS,YaI h];exact Ycg h
theorem jba {ws:List Str}{j:Nat}(hj:j<ws.length):atI (ws.map U.str) (j:Int)=some (.str (wd ws j)):=jbz (by simp[wd,hj])
section
variable {k n:Nat}{G:Gp}{Q:K1}{X:KX}{xs:List Str}{ss:List Spn}
theorem in_t {x:Str}{ys:List Str}{φ:Bool->Prop}(q:φ (decide (x∈ys))):inU (.str x) (.tup (ys.map .str)) G φ:=⟨rfl,jcR _,by rw[jfm];exact q⟩
theorem jng {x:Str}{ys:List Str}(h:x∈ys)(q:Q (.int (ys.idxOf x)) G):jax .index (.tup (ys.map .str)) [.str x] G Q:=by
 show(match jcg (ys.map .str)with|some ys=>x∈ys/\Q (.int (ys.idxOf x)) G|none=>False)
 rw[jcm];exact⟨h,q⟩
theorem jlj {a:Addr}{x:Str}{ys:List Str}{φ:Bool->Prop}(g:G a=some (.lst (ys.map .str)))(q:φ (decide (x∈ys))):inU (.str x) (.loc a) G φ:=in_l g rfl (jcR _) (by rw[jfm];exact q)
theorem jpk {α:Type}(l:List α)(n:Nat):cut l (some 1) (some ((n+1:Nat):Int))=(l.drop 1).take n:=by
 unfold cut;have e1:HT.sIx l.length 0 (some 1)=min 1 l.length:=HT.sIx_nat l.length 0 1;have e2:HT.sIx l.length l.length (some ((n+1:Nat):Int))=min (n+1) l.length:=HT.sIx_nat l.length l.length (n+1);rw[e1,e2];cases l with
 |nil=>simp
 |cons a r=>
  have:min 1 (a::r).length=1:=by simp
  rw[this];show(r.drop 0).take _=(r.drop 0).take n;rw[YcX];by_cases h:n<=r.length
  ·rw[show min (n+1) (a::r).length-1=n by simp;omega]
  ·rw[Ycs (by simp;omega),Ycs (by omega)]
theorem jgj {i:Nat}{pw:Addr}{ws:List Str}(h:Ww ws)(hi:i<ws.length)(gw:G pw=some (.lst (ws.map .str)))(q:∀G',Sa G G'->Q (.bl (fitW ws i)) G'):jac T (k+2) jc6 [.int i,.loc pw] G Q X:=by
 refine⟨rfl,?_⟩;simp! only[jaT,jaf,Yab,ix_l gw (jba hi)];unfold fitW at q;obtain _|i:=i
 ·rw[if_pos (by simp)]
  rw[if_pos rfl]at q;exact q G Sa.refl
 ·rw[if_neg (by simp;omega)]
  rw[if_neg (by omega)]at q
  rw[g3,jel];obtain⟨w1,w2⟩:=h.w _ (jbD hi);by_cases h8:i+1<=8
  ·rw[if_pos (by simp;omega)]
   refine jeY w1 w2 λG1 s1=>?_;have gw1:=s1 _ _ gw;rw[jc2];by_cases hn:Nm (wd ws (i+1))
   ·rw[decide_eq_true hn,if_pos rfl,ix_l gw1 (jba hi),sl_l gw1,jb6,jpk];intro p2 G2 n2;refine jlj n2.at ?_;have q2:=q G2 (s1.trans n2.sa);have e:decide (i+1<=8/\Nm (wd ws (i+1))/\wd ws (i+1)∉(ws.drop 1).take (i+1-1)) = !decide (wd ws (i+1)∈(ws.drop 1).take i):=by
     rw[Ybl];simp[hn,h8]
    rw[e]at q2;exact q2
   ·rw[decide_eq_false hn,if_neg (by simp)]
    have q1:=q G1 s1;rw[decide_eq_false (λz=>hn z.2.1)]at q1;exact q1
  ·rw[if_neg (by simp;omega)]
   have q1:=q G Sa.refl;rw[decide_eq_false (λz=>h8 z.1)]at q1;rw[decide_eq_false (by omega)]
   exact q1
theorem jcD {pw:Addr}{ws:List Str}(h:Ww ws)(gw:G pw=some (.lst (ws.map .str)))(q:∀o,Fw (fitW ws) ws.length 2 o->∀G',Sa G G'->Q (oN o) G'):jac T (k+4) jbJ [.loc pw] G Q X:=by
 refine⟨rfl,?_⟩;simp! only[ja1,jaf,Yab];refine⟨rfl,?_⟩;simp! only[jaS,jaf,Yab,jbh gw];have hs:(10000:Nat)<=Yac:=by decide
 have hw:=h.l;refine⟨by omega,by simp;omega,?_⟩
 refine jaB (λi ς G'=>(∃o,ς=[some (.loc pw),some (.loc pw),some (.int 2),o])/\Sa G G'/\∀j,j<i->fitW ws j=true) ?_ ?_ ⟨⟨_,rfl⟩,Sa.refl,λ_ h=>absurd h (YcR _)⟩
 ·rintro ς G1 ⟨⟨o,rfl⟩,s1,hf⟩;have hf:∀j,j<ws.length->fitW ws j=true:=λj hj=>hf j (by unfold rngU;simpa using hj)
  simp! only[jbh (s1 _ _ gw)];refine⟨trivial,?_⟩;by_cases h2:ws.length<2
  ·rw[if_pos (by simpa using (by exact_mod_cast h2))]
   have:=q (some ws.length) ⟨hf,.inr ⟨rfl,h2⟩⟩ G1 s1;simpa[oN]using this
  ·rw[if_neg (by simp;omega)]
   exact q none ⟨hf,by omega⟩ G1 s1
 ·rintro i x ς G1 K hx ⟨⟨o,rfl⟩,s1,hf⟩ hk';obtain⟨hi,rfl⟩:=jbd hx;have hi:i<ws.length:=by simpa using hi
  simp! only[];refine⟨trivial,?_⟩;refine jgj h hi (s1 _ _ gw) λG2 s2=>?_;rw[jc2];cases hb:fitW ws i
  ·rw[if_pos (by simp)]
   exact q (some i) ⟨hf,.inl ⟨hi,hb⟩⟩ G2 (s1.trans s2)
  ·rw[if_neg (by simp)]
   refine hk' _ _ ⟨⟨_,rfl⟩,s1.trans s2,λj hj=>?_⟩;rcases Nat.lt_succ_iff_lt_or_eq.mp hj with h|h
   ·exact hf j h
   ·rw[h];exact hb
end

noncomputable def nmW (x:Str):Option Int:=Classical.choose (NumW.ex x)
theorem jjy (x:Str):NumW x (nmW x):=Classical.choose_spec (NumW.ex x)
theorem jjz {x:Str}{o:Option Int}(h:NumW x o):o=nmW x:=h.uniq (jjy x)
noncomputable def leO:Option Int->Option Int->Bool
 |some a,some b=>decide (a<=b)
 |_,_=>false
noncomputable def fitS (nm ws:List Str)(i:Nat):Bool:=
 if i=0 then decide (wd ws 0∈(["span", "apart"]:List Str)) else if i<3 then decide (wd ws i∈nm) else
 if 4<i then false else if (nmW (wd ws i)).isNone=true then false else if i=3 then true else if wd ws 0 = "apart" then true else leO (nmW (wd ws 3)) (nmW (wd ws 4))
section
variable {k:Nat}{G:Gp}{Q:K1}{X:KX}{nm:List Str}
theorem jeb {x:Str}(h:x.length<=10000/\∀c∈x.cps.toList,c<128)(q:∀G',Sa G G'->Q (oI (nmW x)) G'):jac T (k+1) jaq [.str x] G Q X:=
 jdH h.1 h.2 λo ho G' s=>by rw[jjz ho];exact q G' s
theorem jed {x:Str}(h:x.length<=10000/\∀c∈x.cps.toList,c<128)(q:∀G',Sa G G'->Q (oI (nmW x)) G'):jac T (k+1) jan [.str x] G Q X:=
 jgl h.1 h.2 λo ho G' s=>by rw[jjz ho];exact q G' s
theorem is_o {o:Option Int}{φ:Bool->Prop}:isU (oI o) .non φ=φ o.isNone:=by cases o<;>rfl
theorem jgk {i:Nat}{pw:Addr}{ws:List Str}(h:Ww ws)(hi:i<ws.length)(hp:∀j,j<i->fitS nm ws j=true)(gw:G pw=some (.lst (ws.map .str)))(q:∀G',Sa G G'->Q (.bl (fitS nm ws i)) G'):jac T (k+2) jdL [.int i,.tup (nm.map .str),.loc pw] G Q X:=by
 have ww:∀{j:Nat},j<ws.length->(wd ws j).length<=10000/\∀c∈(wd ws j).cps.toList,c<128:=λhj=>h.w _ (jbD hj);refine⟨rfl,?_⟩;simp! only[ja0,jaf,Yab,ix_l gw (jba hi)];unfold fitS at q;by_cases h0:i=0
 ·subst h0;rw[if_pos rfl]at q;rw[if_pos (by simp)]
  exact⟨by decide,in_t (ys:=["span", "apart"]) (q G Sa.refl)⟩
 ·rw[if_neg h0]at q;rw[if_neg (by simp;omega)]
  by_cases h3:i<3
  ·rw[if_pos h3]at q;rw[if_pos (by simp;omega)]
   exact in_t (q G Sa.refl)
  ·rw[if_neg h3]at q;rw[if_neg (by simp;omega)]
   by_cases h4:4<i
   ·rw[if_pos h4]at q;rw[if_pos (by simp;omega)]
    exact q G Sa.refl
   ·rw[if_neg h4]at q;rw[if_neg (by simp;omega)]
    refine jeb (ww hi) λG1 s1=>?_;have gw1:=s1 _ _ gw;rw[is_o];by_cases hn:(nmW (wd ws i)).isNone=true
    ·rw[if_pos hn]at q;rw[if_pos hn];exact q G1 s1
    ·rw[if_neg hn]at q;rw[if_neg hn];by_cases h3':i=3
     ·rw[if_pos h3']at q;rw[if_pos (by simp;omega)]
      have e:decide ((i:Int)=3)=true:=decide_eq_true (by omega)
      rw[e];exact q G1 s1
     ·rw[if_neg h3']at q;have e4:i=4:=by omega
      subst e4;have f3:(nmW (wd ws 3)).isNone=false:=by
       have:=hp 3 (by omega)
       unfold fitS at this;rw[if_neg (by omega),if_neg (by omega),if_neg (by omega)]at this
       cases z:(nmW (wd ws 3)).isNone with
       |false=>rfl
       |true=>rw[if_pos z]at this;cases this
      have a0:∀{G:Gp} {Q:K1},G pw=some (.lst (ws.map .str))->ixU (.loc pw) (.int 0) G Q=Q (.str (wd ws 0)) G:=λg=>ix_l g (jba (j:=0) (by omega))
      have a3:∀{G:Gp} {Q:K1},G pw=some (.lst (ws.map .str))->ixU (.loc pw) (.int 3) G Q=Q (.str (wd ws 3)) G:=λg=>ix_l g (jba (j:=3) (by omega))
      have a4:∀{G:Gp} {Q:K1},G pw=some (.lst (ws.map .str))->ixU (.loc pw) (.int 4) G Q=Q (.str (wd ws 4)) G:=λg=>ix_l g (jba (j:=4) (by omega))
      rw[if_neg (by simp),a0 gw1,ji5]
      by_cases ha:wd ws 0 = "apart"
      ·rw[if_pos ha]at q;rw[if_pos (decide_eq_true ha),decide_eq_true ha];exact q G1 s1
      ·rw[if_neg ha]at q;rw[if_neg (by simpa using ha),a3 gw1]
       refine jeb (ww (by omega)) λG2 s2=>?_
       rw[a4 (s2 _ _ gw1)];refine jeb (ww hi) λG3 s3=>?_;have q3:=q G3 ((s1.trans s2).trans s3);cases e3:nmW (wd ws 3)with
       |none=>rw[e3]at f3;cases f3
       |some a=>
        cases e4:nmW (wd ws 4)with
        |none=>rw[e4]at hn;exact absurd rfl hn
        |some b=>rw[e3,e4]at q3;exact q3
theorem jc3 {pw:Addr}{ws:List Str}(h:Ww ws)(gw:G pw=some (.lst (ws.map .str)))(q:∀o,Fw (fitS nm ws) ws.length 5 o->∀G',Sa G G'->Q (oN o) G'):jac T (k+4) jcb [.tup (nm.map .str),.loc pw] G Q X:=by
 refine⟨rfl,?_⟩;simp! only[jbk,jaf,Yab];refine⟨rfl,?_⟩;simp! only[jaZ,jaf,Yab,jbh gw];have hs:(10000:Nat)<=Yac:=by decide
 have hw:=h.l;refine⟨by omega,by simp;omega,?_⟩
 refine jaB (λi ς G'=>(∃o,ς=[some (.tup (nm.map .str)),some (.loc pw),some (.loc pw),some (.int 5),o])/\Sa G G'/\∀j,j<i->fitS nm ws j=true) ?_ ?_ ⟨⟨_,rfl⟩,Sa.refl,λ_ h=>absurd h (YcR _)⟩
 ·rintro ς G1 ⟨⟨o,rfl⟩,s1,hf⟩;have hf:∀j,j<ws.length->fitS nm ws j=true:=λj hj=>hf j (by unfold rngU;simpa using hj)
  simp! only[jbh (s1 _ _ gw)];refine⟨trivial,?_⟩;by_cases h2:ws.length<5
  ·rw[if_pos (by simpa using (by exact_mod_cast h2))]
   have:=q (some ws.length) ⟨hf,.inr ⟨rfl,h2⟩⟩ G1 s1;simpa[oN]using this
  ·rw[if_neg (by simp;omega)]
   exact q none ⟨hf,by omega⟩ G1 s1
 ·rintro i x ς G1 K hx ⟨⟨o,rfl⟩,s1,hf⟩ hk';obtain⟨hi,rfl⟩:=jbd hx;have hi:i<ws.length:=by simpa using hi
  simp! only[];refine⟨trivial,?_⟩;refine jgk h hi hf (s1 _ _ gw) λG2 s2=>?_;rw[jc2];cases hb:fitS nm ws i
  ·rw[if_pos (by simp)]
   exact q (some i) ⟨hf,.inl ⟨hi,hb⟩⟩ G2 (s1.trans s2)
  ·rw[if_neg (by simp)]
   refine hk' _ _ ⟨⟨_,rfl⟩,s1.trans s2,λj hj=>?_⟩;rcases Nat.lt_succ_iff_lt_or_eq.mp hj with h|h
   ·exact hf j h
   ·rw[h];exact hb
end

theorem jbb (x:Str):((Ybr x " ").map (·.length)).sum+(Ybr x " ").length=x.length+1:=by
 unfold Ybr;split
 ·simp
 ·split
  ·simp
  ·have h1:=Yef x " " (x.length+1);have h2:=congrArg YcM h1;rw[size_glued,Yc0]at h2;rw[Yc0];have e:(" " : Str).length=1:=by decide +kernel
   rw[e]at h2 ⊢;omega
theorem jeP (x:Str):1<=(Ybr x " ").length:=by
 have:=jis x 32;rw[<- jl0]at this;exact List.length_pos_iff.mpr this
section
variable {k:Nat}{G:Gp}{Q:K1}{X:KX}
theorem jeO {x:Str}(h1:x.length<=9000)(q:newO G (.lst ((Ybr x " ").map .str)) Q):jax .split (.str x) [.str " "] G Q:=by
 have hs:=jbb x;have hz:(9001:Nat)<=Yac:=by decide
 exact⟨rfl,by omega,by omega,q⟩
theorem jaF {a b:Str}(h:a.length+b.length<=Yac)(q:Q (.str (a++b)) G):binU .Add (.str a) (.str b) G Q:=⟨h,q⟩
theorem jd8 {x:Str}(h1:x.length<=9000)(q:∀(p:Addr) (G':Gp),G p=none->Sa G G'->G' p=some (.lst ((Ybr x " ").map .str))->Q (.loc p) G'):jac T (k+1) jbY [.str x] G Q X:=by
 have hs:=jbb x;have hz:(9001:Nat)<=Yac:=by decide
 refine⟨rfl,?_⟩;simp! only[jdi,jaf,Yab];exact⟨rfl,by omega,by omega,λp G' n'=>q p G' n'.no n'.sa n'.at⟩
end

noncomputable def Sz (l:List Str):Nat:=(l.map (·.length)).sum+l.length
theorem jaV (a b:List Str):Sz (a++b)=Sz a+Sz b:=by unfold Sz;simp;omega
theorem jbS (x:Str):Sz [x]=x.length+1:=by unfold Sz;simp
theorem jbA (x:Str)(l:List Str):Sz (x::l)=x.length+1+Sz l:=by rw[show x::l=[x]++l from rfl,jaV,jbS]
theorem jif (l:List Str)(n:Nat):Sz (l.take n)+Sz (l.drop n)=Sz l:=by rw[<- jaV,List.take_append_drop]
theorem jj0 (l:List Str)(lo hi:Option Int):Sz (cut l lo hi)<=Sz l:=by
 unfold cut;obtain⟨a,ea⟩:∃a,a=HT.sIx l.length 0 lo:=⟨_,rfl⟩;rw[<- ea];have h1:=jif l a;have h2:=jif (l.drop a) (HT.sIx l.length l.length hi-a);omega
theorem jig (l:List Str):Sz l.reverse=Sz l:=by
 induction l with
 |nil=>rfl
 |cons x r ih=>rw[Yb0,jaV,ih,jbS,jbA];omega
theorem jnN (l:List Str)(j:Nat)(x:Str):Sz (l.set j x)<=Sz l+x.length:=by
 induction l generalizing j with
 |nil=>exact Ybw _
 |cons y r ih=>
  cases j with
  |zero=>rw[Yd0,jbA,jbA];omega
  |succ j=>rw[Yd1,jbA,jbA];have:=ih j;omega
theorem jf8 (l:List Str):l.length<=Sz l:=by unfold Sz;omega
theorem jjZ {l:List Str}{x:Str}(h:x∈l):x.length<=Sz l:=by
 induction l with
 |nil=>exact nomatch h
 |cons y r ih=>
  rw[jbA];rcases YaL.mp h with rfl|h
  ·omega
  ·have:=ih h;omega
theorem jaA (a b:Str):(a++b).length=a.length+b.length:=by
 show(a.cps++b.cps).size=_;exact Yc4
theorem jb9:(" " : Str).length=1:=by decide +kernel
theorem jfO:∀l:List Str,(YaZ " " l).length<=Sz l
 |[]=>Yaf _
 |[x]=>by rw[jbS];exact YfY _
 |x::y::r=>by
  have:=jfO (y::r);rw[jdN,jaA,jaA,jb9,jbA];omega
def As (x:Str):Prop:=∀c∈x.cps.toList,c<128
def Lk (l:List Str):Prop:=∀x∈l,As x
theorem As.app {a b:Str}(ha:As a)(hb:As b):As (a++b):=λc hc=>by
 rw[jlA]at hc;rcases List.mem_append.mp hc with h|h
 ·exact ha c h
 ·exact hb c h
theorem jgP:As " " := by
 have:∀c∈(" " : Str).cps.toList,c<128:=by decide +kernel
 exact this
theorem jhw:∀{l:List Str},Lk l->As (YaZ " " l)
 |[],_=>λc hc=>nomatch hc
 |[x],h=>h x (Yao ..)
 |x::y::r,h=>by
  rw[jdN];exact((h x (Yao ..)).app jgP).app (jhw λz hz=>h z (Yag _ hz))
theorem jfz {x:Str}(h:As x):Lk (Ybr x " "):=λy hy=>by
 unfold Ybr at hy;split at hy
 ·rw[List.mem_singleton.mp hy];exact h
 ·split at hy
  ·rw[List.mem_singleton.mp hy];exact h
  ·exact λc hc=>h c (jd4 hy hc)
theorem Lk.app {a b:List Str}(ha:Lk a)(hb:Lk b):Lk (a++b):=λx hx=>(List.mem_append.mp hx).elim (ha x) (hb x)
theorem Lk.one {x:Str}(h:As x):Lk [x]:=λy hy=>by rw[List.mem_singleton.mp hy];exact h
section
variable {l:List Str}
theorem Lk.cut (h:Lk l)(lo hi:Option Int):Lk (Z.cut l lo hi):=λx hx=>h x (YcG (YdA hx))
theorem Lk.rev (h:Lk l):Lk l.reverse:=λx hx=>h x (List.mem_reverse.mp hx)
theorem Lk.set (h:Lk l){x:Str}(hx:As x)(j:Nat):Lk (l.set j x):=λy hy=>by
 rcases Yca hy with z|z
 ·exact h y z
 ·rw[z];exact hx
end
section
variable {k:Nat}{G:Gp}{Q:K1}{X:KX}{nm:List Str}
theorem jgy {a b:Addr}{xs ys:List Str}(ga:G a=some (.lst (xs.map .str)))(gb:G b=some (.lst (ys.map .str)))(hl:xs.length+ys.length<=Yac)
  (q:∀(p:Addr) (G':Gp),G p=none->Sa G G'->G' p=some (.lst ((xs++ys).map .str))->Q (.loc p) G'):binU .Add (.loc a) (.loc b) G Q:=by
 rw[jf7];exact⟨_,_,ga,gb,by simpa using hl,λp G' n=>q p G' n.no n.sa (by rw[n.at,Ybd])⟩
theorem jaO {a:Addr}{xs:List Str}{lo hi:Option Int}(g:G a=some (.lst (xs.map .str)))(q:∀(p:Addr) (G':Gp),G p=none->Sa G G'->G' p=some (.lst ((cut xs lo hi).map .str))->Q (.loc p) G'):slU (.loc a) lo hi G Q:=by
 rw[sl_l g,jb6];exact λp G' n=>q p G' n.no n.sa n.at
theorem rv_s {a:Addr}{xs:List Str}(g:G a=some (.lst (xs.map .str)))(q:∀(p:Addr) (G':Gp),G p=none->Sa G G'->G' p=some (.lst (xs.reverse.map .str))->Q (.loc p) G'):revU (.loc a) (.int (-1)) G Q:=by
 unfold revU lsG;dsimp only;rw[g];exact⟨.inr rfl,λp G' n=>q p G' n.no n.sa (by rw[n.at,if_neg (by decide),List.map_reverse])⟩
noncomputable def wA:List Str:=["", "works", "span", "apart", "0", "00", "07", "1", "9999", "10000", "99999", "-1", "-", "A", "abcdefghi"]
noncomputable def wB:List Str:=["x1", "zzzz", "span2", "a", "0x", "+3"]
theorem Fd.ne_l {f c p:Addr}{xs:List U}(h:Fd G f c)(g:G p=some (.lst xs)):p≠f:=λz=>by
 obtain⟨ns,a,l,t,h1,_,_⟩:=h.ex;rw[z,h1]at g;cases g
def Wn (nm:List Str):Prop:=∀x∈nm,x.length<=8/\As x
theorem jhd {f c:Addr}(hf:Fd G f c)(hn:Wn nm)(h9:nm.length<=9)(q:∀(w:Str) (G':Gp),w.length<=9->As w->Fd G' f c->Sm f G G'->Q (.str w) G'):jac T (k+2) jbZ [.loc f,.tup (nm.map .str)] G Q X:=by
 refine⟨rfl,?_⟩;simp! only[jdj,jaf,Yab];refine⟨by decide,λp1 G1 n1=>⟨by decide,λp2 G2 n2=>?_⟩⟩
 have g1:G1 p1=some (.lst (wA.map .str)):=n1.at
 have g2:G2 p2=some (.lst (wB.map .str)):=n2.at
 have hz:(100:Nat)<=Yac:=by decide
 refine jgy (n2.sa _ _ g1) g2 (by show 15+6<=_;omega) λp3 G3 h3 s3 g3=>?_
 intro p4 G4 n4;refine jgy (n4.sa _ _ g3) n4.at (by show 21+_<=_;omega) λp5 G5 h5 s5 g5=>?_
 obtain⟨al,eal⟩:∃al:List Str,al=wA++wB++nm:=⟨_,rfl⟩;have bd:∀x∈al,x.length<=9/\As x:=λx hx=>by
  rw[eal]at hx;rcases List.mem_append.mp hx with hx|hx
  ·have:∀x∈wA++wB,x.length<=9/\∀c∈x.cps.toList,c<128:=by decide +kernel
   exact this x hx
  ·exact⟨Yak (hn x hx).1 (by decide),(hn x hx).2⟩
 have la:0<al.length/\al.length<=40:=by
  rw[eal,YaO];show 0<21+_/\21+_<=40;omega
 rw[<- eal]at g5;have s5':Sa G G5:=n1.sa.trans (n2.sa.trans (s3.trans (n4.sa.trans s5)));have f5:Fd G5 f c:=hf.sa s5';rw[jbh g5];refine jai f5 (by rw[Yah];omega) (by rw[Yah];omega) λr G6 r0 r1 f6 s6=>?_
 have p5f:p5≠f:=f5.ne_l g5;refine jb5 (s6 _ _ p5f g5) r0 r1 λu hu=>?_;obtain⟨x,hx,rfl⟩:=List.mem_map.mp hu;exact q x G6 (bd x hx).1 (bd x hx).2 f6 (s5'.sm.trans s6)
end

section
variable {k L:Nat}{G:Gp}{Q:K1}{X:KX}{nm:List Str}
theorem jl3 {x:Str}{lo hi:Option Int}:(Ydv x lo hi).length<=x.length:=by
 exact Ydu x lo hi
theorem joC {x:Str}(h:As x)(lo hi:Option Int):As (Ydv x lo hi):=λc hc=>by
 unfold Ydv at hc;split at hc
 ·exact h c hc
 ·have hc:c∈(YeR (λi=>x.cps[i]?) (Builtin.Str.strSliceIndices lo hi 1 x.length)):=by simpa using hc
  obtain⟨i,_,e⟩:=List.mem_filterMap.mp hc;exact h c (Array.mem_toList_iff.mpr (Array.mem_of_getElem? e))
theorem jgQ:("  " : Str).length=2:=by decide +kernel
theorem jhc:("1" : Str).length=1:=by decide +kernel
theorem jca {f c:Addr}{x:Str}(hf:Fd G f c)(hn:Wn nm)(h9:nm.length<=9)(hL:L<=3000)(hx:x.length<=L)(hA:As x)
  (q:∀(w:Str) (G':Gp),w.length<=3*L+40->As w->Fd G' f c->Sm f G G'->Q (.str w) G'):jac T (k+3) jaL [.loc f,.str x,.tup (nm.map .str)] G Q X:=by
 have hz:(100000:Nat)<=Yac:=by decide
 have hs:=jbb x;have w1:=jeP x;obtain⟨ws,ews⟩:∃ws,ws=Ybr x " " := ⟨_,rfl⟩;have hS:Sz ws=x.length+1:=by rw[ews];exact hs
 have hl:=jf8 ws;have lk:Lk ws:=by rw[ews];exact jfz hA
 refine⟨rfl,?_⟩;simp! only[jbl,jaf,Yab];show jax .split _ _ _ _;refine jeO (by omega) λp1 G1 n1=>?_
 rw[<- ews]at n1 w1;have g1:=n1.at
 have f1:=hf.new n1;simp! only[jbh g1];refine jai f1 (by rw[Yah];omega) (by rw[Yah];omega) λr G2 r0 r1 f2 s2=>?_
 have g2:=s2 _ _ (f1.ne_l g1) g1;refine jai f2 (by omega) (by omega) λy G3 y0 y1 f3 s3=>?_
 have g3:=s3 _ _ (f2.ne_l g2) g2;have s3':Sm f G G3:=n1.sa.sm.trans (s2.trans s3);rw[Yah]at r1;have J:∀(p:Addr) (ys:List Str) (G':Gp),G' p=some (.lst (ys.map .str))->Sz ys<=3*L+40->Lk ys->Fd G' f c->Sm f G G'->jax .join (.str " ") [.loc p] G' Q:=λp ys G' g h hk f' s'=>by
  rw[jfP g];exact⟨by decide,by show Sz ys<=_;omega,q _ G' (Yak (jfO ys) h) (jhw hk) f' s'⟩
 have cl:∀lo hi,(cut ws lo hi).length<=Sz ws/\Sz (cut ws lo hi)<=Sz ws:=λlo hi=>⟨Yak (jf8 _) (jj0 ws lo hi),jj0 ws lo hi⟩;have cat:∀{a b:Addr} {xs ys:List Str} {G':Gp} {R:K1},G' a=some (.lst (xs.map .str))->G' b=some (.lst (ys.map .str))->Sz xs+Sz ys<=3*L+40->(∀(p:Addr) (G2:Gp),Sa G' G2->G2 p=some (.lst ((xs++ys).map .str))->R (.loc p) G2)->binU .Add (.loc a) (.loc b) G' R:=λ{a b xs ys G' R} ga gb h r'=>
  jgy ga gb (by have:=jf8 xs;have:=jf8 ys;omega) λp G2 _ s2 g2=>r' p G2 s2 g2
 simp! only[];by_cases c0:y=0
 ·rw[if_pos (by simpa using c0)]
  refine jaO g3 λp4 G4 h4 s4 g4=>?_;show slU _ _ _ _ _;refine jaO (s4 _ _ g3) λp5 G5 h5 s5 g5=>?_;have a1:=(cl none (some r)).2;have a2:=(cl (some (r+1)) none).2;refine cat (s5 _ _ g4) g5 (by omega) λp6 G6 s6 g6=>?_
  have sa:=s4.trans (s5.trans s6);exact J p6 _ G6 g6 (by rw[jaV];omega) ((lk.cut _ _).app (lk.cut _ _)) (f3.sa sa) (s3'.trans sa.sm)
 rw[if_neg (by simpa using c0)]
 simp! only[];by_cases c1:y=1
 ·rw[if_pos (by simpa using c1)]
  refine jaO g3 λp4 G4 h4 s4 g4=>?_;refine jb5 (s4 _ _ g3) r0 (by rw[Yah];exact r1) λu hu=>?_
  obtain⟨w,hw,rfl⟩:=List.mem_map.mp hu;refine⟨by omega,λp5 G5 n5=>?_⟩
  have g5:G5 p5=some (.lst ([w].map .str)):=n5.at
  have a0:=jjZ hw;have a1:=(cl none (some r)).2;have a2:=(cl (some r) none).2;refine cat (n5.sa _ _ g4) g5 (by rw[jbS];omega) λp6 G6 s6 g6=>?_
  show slU _ _ _ _ _;refine jaO (s6 _ _ (n5.sa _ _ (s4 _ _ g3))) λp7 G7 h7 s7 g7=>?_;refine cat (s7 _ _ g6) g7 (by rw[jaV,jbS];omega) λp8 G8 s8 g8=>?_
  have sa:=s4.trans (n5.sa.trans (s6.trans (s7.trans s8)));exact J p8 _ G8 g8 (by rw[jaV,jaV,jbS];omega) (((lk.cut _ _).app (.one (lk w hw))).app (lk.cut _ _)) (f3.sa sa) (s3'.trans sa.sm)
 rw[if_neg (by simpa using c1)]
 simp! only[];by_cases c2:y=2
 ·rw[if_pos (by simpa using c2)]
  refine jaO g3 λp4 G4 h4 s4 g4=>?_;show slU _ _ _ _ _;refine jaO (s4 _ _ g3) λp5 G5 h5 s5 g5=>?_;show revU _ _ _ _;refine rv_s g5 λp6 G6 h6 s6 g6=>?_;have a1:=(cl none (some r)).2;have a2:=(cl (some r) (some (r+2))).2;have a3:=(cl (some (r+2)) none).2;refine cat (s6 _ _ (s5 _ _ g4)) g6 (by rw[jig];omega) λp7 G7 s7 g7=>?_
  show slU _ _ _ _ _;refine jaO (s7 _ _ (s6 _ _ (s5 _ _ (s4 _ _ g3)))) λp8 G8 h8 s8 g8=>?_;refine cat (s8 _ _ g7) g8 (by rw[jaV,jig];omega) λp9 G9 s9 g9=>?_
  have sa:=s4.trans (s5.trans (s6.trans (s7.trans (s8.trans s9))));exact J p9 _ G9 g9 (by rw[jaV,jaV,jig];omega) (((lk.cut _ _).app (lk.cut _ _).rev).app (lk.cut _ _)) (f3.sa sa) (s3'.trans sa.sm)
 rw[if_neg (by simpa using c2)]
 simp! only[];by_cases c3:y=3
 ·rw[if_pos (by simpa using c3)]
  refine jaO g3 λp4 G4 h4 s4 g4=>?_;have f4:=f3.sa s4;refine jhd f4 hn h9 λw G5 hw aw f5 s5=>?_;refine⟨by omega,λp6 G6 n6=>?_⟩
  have g6:G6 p6=some (.lst ([w].map .str)):=n6.at
  have a1:=(cl none (some r)).2;have a2:=(cl (some r) none).2;refine cat (n6.sa _ _ (s5 _ _ (f4.ne_l g4) g4)) g6 (by rw[jbS];omega) λp7 G7 s7 g7=>?_
  show slU _ _ _ _ _;have g43:=s4 _ _ g3;refine jaO (s7 _ _ (n6.sa _ _ (s5 _ _ (f4.ne_l g43) g43))) λp8 G8 h8 s8 g8=>?_;refine cat (s8 _ _ g7) g8 (by rw[jaV,jbS];omega) λp9 G9 s9 g9=>?_
  have sa:=n6.sa.trans (s7.trans (s8.trans s9));exact J p9 _ G9 g9 (by rw[jaV,jaV,jbS];omega) (((lk.cut _ _).app (.one aw)).app (lk.cut _ _)) (f5.sa sa) (s3'.trans (s4.sm.trans (s5.trans sa.sm)))
 rw[if_neg (by simpa using c3)]
 simp! only[];by_cases c4:y=4
 ·rw[if_pos (by simpa using c4)]
  refine jaF (by rw[jb9];omega) ?_
  refine⟨by rw[jb9];omega,by rw[jgQ];omega,λw hw hw2=>?_⟩
  rw[jgQ]at hw;refine jaF (by rw[jhc];omega) ?_
  refine⟨by omega,by omega,λp4 G4 n4=>?_⟩
  have f4:=f3.new n4;refine jai f4 (by omega) (by omega) λt G5 t0 t1 f5 s5=>?_
  refine jb5 (s5 _ _ (f4.ne_l n4.at) n4.at) t0 (by show t<5;exact t1) λu hu=>?_
  have sp2:As "  " := by
   have:∀c∈("  " : Str).cps.toList,c<128:=by decide +kernel
   exact this
  have on:As "1" := by
   have:∀c∈("1" : Str).cps.toList,c<128:=by decide +kernel
   exact this
  have:∃v:Str,u=.str v/\v.length<=3*L+40/\As v:=by
   have e1:=jaA x " ";have e2:=jaA " " x;have e3:=jaA x "1";have e4:=jl3 (x:=x) (lo:=some 1) (hi:=none);rw[jb9]at e1 e2;rw[jhc]at e3;simp only[YaL,Yax,or_false]at hu;rcases hu with rfl|rfl|rfl|rfl|rfl
   ·exact⟨_,rfl,by omega,(hA.app jgP)⟩
   ·exact⟨_,rfl,by omega,(jgP.app hA)⟩
   ·exact⟨_,rfl,by omega,(λc hc=>(hw2 c hc).elim (hA c) (sp2 c))⟩
   ·exact⟨_,rfl,by omega,(hA.app on)⟩
   ·exact⟨_,rfl,by omega,(joC hA _ _)⟩
  obtain⟨v,rfl,hv,av⟩:=this;exact q v G5 hv av f5 (s3'.trans (n4.sa.sm.trans s5))
 rw[if_neg (by simpa using c4)]
 simp! only[];refine jhd f3 hn h9 λw G5 hw aw' f5 s5=>?_;have g5:=s5 _ _ (f3.ne_l g3) g3;obtain⟨j,rfl⟩:=Ya0 r0;have hj:j<ws.length:=by omega
 rw[jl5 g5 (jhy (by rw[Yah];exact hj))]
 intro G6 w6;show jax .join _ _ _ _;have g6:G6 p1=some (.lst ((ws.set j w).map .str)):=by rw[w6.at,List.map_set]
 have hS2:=jnN ws j w;have aw:=hf.away n1;exact J p1 _ G6 g6 (by omega) (lk.set aw' j) (f5.off aw w6) (Sm.wr Sm.refl n1.no (s3'.trans s5) w6)
end

noncomputable def jgN (nm ws:List Str):U:=.tup [.str (wd ws 0),.int (nm.idxOf (wd ws 1)),.int (nm.idxOf (wd ws 2)),oI (nmW (wd ws 3)),oI (nmW (wd ws 4))]
theorem jcj {x:Str}(hx:x.length<=9000)(ha:As x):Ww (Ybr x " "):=by
 have hs:=jbb x;refine⟨by omega,λy hy=>⟨?_,jfz ha y hy⟩⟩
 have:=jjZ hy;unfold Sz at this;omega
theorem five {ws:List Str}{nm:List Str}(h:Fw (fitS nm ws) ws.length 5 none):ws.length=5/\wd ws 1∈nm/\wd ws 2∈nm:=by
 obtain⟨h1,h2⟩:=h;have l5:ws.length=5:=by
  refine Nat.le_antisymm (Ydj λz=>?_) h2;have:=h1 5 z;unfold fitS at this;rw[if_neg (by omega),if_neg (by omega),if_pos (by omega)]at this
  cases this
 have f1:=h1 1 (by omega)
 have f2:=h1 2 (by omega)
 unfold fitS at f1 f2;rw[if_neg (by omega),if_pos (by omega)]at f1 f2
 exact⟨l5,of_decide_eq_true f1,of_decide_eq_true f2⟩
theorem jo5 {ws:List Str}(h:ws.length=5):ws=[wd ws 0,wd ws 1,wd ws 2,wd ws 3,wd ws 4]:=by
 match ws,h with
 |[a,b,c,d,e],_=>rfl
section
variable {k:Nat}{G:Gp}{Q:K1}{X:KX}{nm:List Str}
theorem jn7 {ts:Tgs}{a:Addr}{us:List U}{ς:Sg}{φ:Sg->Prop}(g:G a=some (.lst us)):unpU ts (.loc a) G ς φ=tgsU ts us ς φ:=by
 have:lsG G a=some us:=by unfold lsG;rw[g]
 unfold unpU;dsimp only;rw[this]
theorem jeW {pw:Addr}{ws:List Str}(h:Ww ws)(hf:Fw (fitS nm ws) ws.length 5 none)(gw:G pw=some (.lst (ws.map .str)))(q:∀G',Sa G G'->Q (jgN nm ws) G'):jac T (k+2) jeg [.tup (nm.map .str),.loc pw] G Q X:=by
 obtain⟨l5,m1,m2⟩:=five hf;have ww:∀{j:Nat},j<ws.length->(wd ws j).length<=10000/\∀c∈(wd ws j).cps.toList,c<128:=λhj=>h.w _ (jbD hj);have w3:=ww (j:=3) (by omega)
 have w4:=ww (j:=4) (by omega)
 rw[jo5 l5]at gw;refine⟨rfl,?_⟩;simp! only[jeu,jaf,Yab,jn7 gw];refine⟨trivial,?_⟩;show jax .index _ _ _ _;refine jng m1 ?_;show jax .index _ _ _ _;refine jng m2 ?_;exact jeb w3 λG1 s1=>jeb w4 λG2 s2=>⟨by decide,q G2 (s1.trans s2)⟩
end

noncomputable def rwZ (ls:List Str)(j:Nat):List Str:=Ybr (wd ls j) " "
noncomputable def nmZ (ls:List Str):List Str:=(rwZ ls 0).drop 1
def Row0 (ls:List Str):Prop:=Fw (fitW (rwZ ls 0)) (rwZ ls 0).length 2 none
def jii (ls:List Str)(i:Nat):Prop:=∀j,1<=j->j<i->j<=24/\Fw (fitS (nmZ ls) (rwZ ls j)) (rwZ ls j).length 5 none
def OutF (ls:List Str)(a b:Nat):Prop:=
 (ls=[]/\a=0/\b=0)\/(ls≠[]/\a=0/\Fw (fitW (rwZ ls 0)) (rwZ ls 0).length 2 (some b))\/
 (Row0 ls/\1<=a/\a<ls.length/\jii ls a/\((24<a/\b=0)\/(a<=24/\Fw (fitS (nmZ ls) (rwZ ls a)) (rwZ ls a).length 5 (some b))))
def OutR (ls:List Str):Prop:=ls≠[]/\Row0 ls/\jii ls ls.length
noncomputable def spsZ (ls:List Str)(n:Nat):List U:=(YaQ n).map λj=>jgN (nmZ ls) (rwZ ls (j+1))
section
variable {k:Nat}{G:Gp}{Q:K1}{X:KX}{ls:List Str}
theorem is_n {o:Option Nat}{φ:Bool->Prop}:isU (oN o) .non φ=φ o.isNone:=by cases o<;>rfl
theorem jor {a:Addr}{us:List U}{φ:Bool->Prop}(g:G a=some (.lst us)):truU (.loc a) G φ=φ (!us.isEmpty):=by
 unfold truU;dsimp only;rw[g]
theorem g4 {φ:U->Prop}:glU T.gs 4 φ=φ (.int 24):=rfl
theorem jdA {n i:Nat}{x:U}(h:(rngU 1 n)[i]?=some x):i<n/\x=.int (1+(i:Int)):=by
 unfold rngU at h;rw[Yat]at h;by_cases hi:i<n
 ·rw[YdJ hi]at h;exact⟨hi,by simpa using h.symm⟩
 ·rw[YcA (by simpa using hi)]at h
  cases h
theorem jdG {pl:Addr}(hl:ls.length<=20000)(hb:∀x∈ls,x.length<=9000/\As x)(gl:G pl=some (.lst (ls.map .str)))
  (q:OutR ls->∀G',Sa G G'->Q (.tup [.tup ((nmZ ls).map .str),.tup (spsZ ls (ls.length-1))]) G') (x:∀a b,OutF ls a b->∀G',Sa G G'->X ⟨4,[.int a,.int b]⟩ G'):jac T (k+5) jcH [.loc pl] G Q X:=by
 have hz:(20000:Nat)<=Yac:=by decide
 refine⟨rfl,?_⟩;simp! only[jcS,jaf,Yab,jor gl];by_cases h0:ls=[]
 ·rw[if_pos (by simp[h0])]
  exact⟨rfl,x 0 0 (.inl ⟨h0,rfl,rfl⟩) G Sa.refl⟩
 ·rw[if_neg (by simp[h0])]
  have l1:0<ls.length:=List.length_pos_iff.mpr h0;have wb:∀{j:Nat},j<ls.length->(wd ls j).length<=9000/\As (wd ls j):=λhj=>hb _ (jbD hj);have a0:∀{G:Gp} {Q:K1},G pl=some (.lst (ls.map .str))->ixU (.loc pl) (.int 0) G Q=Q (.str (wd ls 0)) G:=λg=>ix_l g (jba (j:=0) l1);rw[a0 gl];refine jd8 (wb l1).1 λp1 G1 hp1 s1 g1=>?_;have w0:Ww (rwZ ls 0):=jcj (wb l1).1 (wb l1).2;refine jcD w0 g1 λo ho G2 s2=>?_;have g21:=s2 _ _ g1;simp! only[is_n,sl_l g21];cases o with
  |some b=>
   rw[if_pos (by simp)]
   exact⟨rfl,x 0 b (.inr (.inl ⟨h0,rfl,ho⟩)) G2 (s1.trans s2)⟩
  |none=>
   rw[if_neg (by simp),show(some (1:Int))=some ((1:Nat):Int)from rfl,jb6,jf0]
   intro p3 G3 n3;rw[it_l n3.at];have w0l:=w0.l;refine⟨by decide,λp4 G4 n4=>?_⟩
   have s4:Sa G G4:=s1.trans (s2.trans (n3.sa.trans n4.sa));have gl4:=s4 _ _ gl;have hp4:G p4=none:=by
    cases e:G p4 with
    |none=>rfl
    |some o=>have:=n4.no;rw[n3.sa _ _ (s2 _ _ (s1 _ _ e))]at this;cases this
   dsimp only;simp! only[jbh gl4];rw[Yah];refine⟨by omega,by omega,by omega,by omega,?_⟩
   rw[show((ls.length:Int)-1).toNat=ls.length-1 by omega]
   refine jaB (λi ς G'=>(∃o2 o5 o6,ς=[some (.loc pl),some (.loc p1),o2,some (.tup ((nmZ ls).map .str)),some (.loc p4),o5,o6])/\Sa G G'/\G' p4=some (.lst (spsZ ls i))/\jii ls (i+1)) ?_ ?_ ⟨⟨_,_,_,rfl⟩,s4,n4.at,λj h1 h2=>by omega⟩
   ·rintro ς G5 ⟨⟨o2,o5,o6,rfl⟩,s5,g5,hg⟩;rw[jaW]at g5 hg;simp! only[];rw[it_l g5];rw[show ls.length-1+1=ls.length by omega]at hg
    exact⟨trivial,by decide,q ⟨h0,ho,hg⟩ G5 s5⟩
   ·rintro i y ς G5 K hy ⟨⟨o2,o5,o6,rfl⟩,s5,g5,hg⟩ hk;obtain⟨hi,rfl⟩:=jdA hy;have al:atI (ls.map U.str) (1+(i:Int))=some (.str (wd ls (i+1))):=by
     rw[show(1+(i:Int))=((i+1:Nat):Int) by omega]
     exact jba (by omega)
    simp! only[ix_l (s5 _ _ gl) al];have wi:=wb (j:=i+1) (by omega)
    refine⟨trivial,jd8 wi.1 λp6 G6 hp6 s6 g6=>?_⟩;have ww:Ww (rwZ ls (i+1)):=jcj wi.1 wi.2;rw[g4,jel];have ei:((i+1:Nat):Int)=1+(i:Int):=by omega
    have s56:Sa G G6:=s5.trans s6;by_cases h24:i+1<=24
    ·rw[if_pos (by simp;omega)]
     refine jc3 ww g6 λo ho' G7 s7=>?_;show isU (oN o) .non _;rw[is_n];have g75:=s7 _ _ (s6 _ _ g5);cases o with
     |some b=>
      rw[if_pos (by simp)]
      have:=x (i+1) b (.inr (.inr ⟨ho,by omega,by omega,hg,.inr ⟨h24,ho'⟩⟩)) G7 (s56.trans s7)
      rw[ei]at this;exact⟨rfl,this⟩
     |none=>
      rw[if_neg (by simp),jaN g75]
      refine jeW ww ho' (s7 _ _ g6) λG8 s8=>?_;rw[jfl (s8 _ _ g75)];refine⟨by unfold spsZ;simp;exact Ya3 (show _<=24 by omega) (by decide),λG9 w9=>hk _ _ ⟨⟨_,_,_,rfl⟩,λb o h=>w9.sm b o (λz=>by rw[z,hp4]at h;cases h) (s8 _ _ (s7 _ _ (s6 _ _ (s5 b o h)))),?_,λj h1 h2=>?_⟩⟩
      ·rw[w9.at];unfold spsZ;rw[Ydq,Ybd];rfl
      ·rcases Nat.lt_succ_iff_lt_or_eq.mp h2 with h|h
       ·exact hg j h1 h
       ·rw[h];exact⟨h24,ho'⟩
    ·rw[if_neg (by simp;omega)]
     have is_i:∀{z:Int} {φ:Bool->Prop},isU (.int z) .non φ=φ false:=rfl;rw[is_i,if_pos (by simp)]
     have:=x (i+1) 0 (.inr (.inr ⟨ho,by omega,by omega,hg,.inl ⟨by omega,rfl⟩⟩)) G6 s56
     rw[ei]at this;exact⟨rfl,this⟩
end

theorem OutF.uniq {ls:List Str}{a b a' b':Nat}(h:OutF ls a b)(h':OutF ls a' b'):a=a'/\b=b':=by
 have no0:∀{b:Nat},Row0 ls->¬Fw (fitW (rwZ ls 0)) (rwZ ls 0).length 2 (some b):=λr z=>nomatch r.uniq z;have l0:∀{a:Nat},a<ls.length->ls≠[]:=λz e=>by rw[e]at z;exact absurd z (YcR _)
 rcases h with⟨e,rfl,rfl⟩|⟨n,rfl,f⟩|⟨r,h1,h2,g,f⟩<;>rcases h' with⟨e',rfl,rfl⟩|⟨n',rfl,f'⟩|⟨r',h1',h2',g',f'⟩
 ·exact⟨rfl,rfl⟩
 ·exact absurd e n'
 ·exact absurd e (l0 h2')
 ·exact absurd e' n
 ·exact⟨rfl,Yan (f.uniq f')⟩
 ·exact absurd f (no0 r')
 ·exact absurd e' (l0 h2)
 ·exact absurd f' (no0 r)
 ·have bad:∀{a a' b:Nat},jii ls a'->1<=a->a<a'->((24<a/\b=0)\/(a<=24/\Fw (fitS (nmZ ls) (rwZ ls a)) (rwZ ls a).length 5 (some b)))->False:=λg h1 hl f=>by
   obtain⟨x1,x2⟩:=g _ h1 hl;rcases f with⟨f,_⟩|⟨_,f⟩
   ·omega
   ·exact nomatch x2.uniq f
  rcases Ygo a a' with z|z|z
  ·exact(bad g' h1 z f).elim
  ·subst z;refine⟨rfl,?_⟩;rcases f with⟨x,rfl⟩|⟨x,f⟩<;>rcases f' with⟨x',rfl⟩|⟨x',f'⟩
   ·rfl
   ·omega
   ·omega
   ·exact Yan (f.uniq f')
  ·exact(bad g h1' z f').elim
theorem OutF.not {ls:List Str}{a b:Nat}(h:OutF ls a b)(h':OutR ls):False:=by
 obtain⟨n,r,g⟩:=h';rcases h with⟨e,_⟩|⟨_,_,f⟩|⟨_,h1,h2,_,f⟩
 ·exact n e
 ·exact nomatch r.uniq f
 ·obtain⟨x1,x2⟩:=g _ h1 h2;rcases f with⟨f,_⟩|⟨_,f⟩
  ·omega
  ·exact nomatch x2.uniq f

section
variable {k:Nat}{G:Gp}{Q:K1}{X:KX}{nm ws:List Str}
theorem jnh {a:Addr}{x:Str}{ys:List Str}(g:G a=some (.lst (ys.map .str)))(h:x∈ys)(q:Q (.int (ys.idxOf x)) G):jax .index (.loc a) [.str x] G Q:=by
 unfold jax jfQ;dsimp only;rw[g];show(match jcg (ys.map .str)with|some ys=>x∈ys/\Q (.int (ys.idxOf x)) G|none=>False)
 rw[jcm];exact⟨h,q⟩
theorem in_2 {z a b:Int}{φ:Bool->Prop}(q:φ (decide (z=a\/z=b))):inU (.int z) (.tup [.int a,.int b]) G φ:=by
 refine⟨rfl,rfl,?_⟩;have e:([U.int a,U.int b].any λy=>eqF y (.int z))=decide (z=a\/z=b):=by
  rw[Ybl,decide_eq_true_iff];simp only[Ybj,List.any_nil,Ye4,YbY,eqF,beq_iff_eq];exact⟨λh=>h.imp Eq.symm Eq.symm,λh=>h.imp Eq.symm Eq.symm⟩
 rw[e];exact q
theorem jmX {a:Addr}{us:List U}(g:G a=some (.lst us)):mtU .index (.loc a) G=some ("list", "list.index"):=by
 unfold mtU;dsimp only;rw[g]
theorem jdF {pn pw:Addr}(h:Ww ws)(l1:1<=ws.length)(gn:G pn=some (.lst (nm.map .str)))(gw:G pw=some (.lst (ws.map .str)))
  (q1:∀b,Fw (fitS nm ws) ws.length 5 (some b)->∀G',Sa G G'->Q (.int b) G')
  (q2:Fw (fitS nm ws) ws.length 5 none->∀p G',G p=none->Sa G G'->G' p=some (.lst [jgN nm ws])->Q (.loc p) G'):jac T (k+2) ja6 [.loc pn,.loc pw] G Q X:=by
 have ww:∀{j:Nat},j<ws.length->(wd ws j).length<=10000/\∀c∈(wd ws j).cps.toList,c<128:=λhj=>h.w _ (jbD hj);have hz:(20000:Nat)<=Yac:=by decide
 have hl:=h.l;have a0:∀{G:Gp} {Q:K1},G pw=some (.lst (ws.map .str))->ixU (.loc pw) (.int 0) G Q=Q (.str (wd ws 0)) G:=λg=>ix_l g (jba (j:=0) l1);refine⟨rfl,?_⟩;simp! only[ja8,jaf,Yab,a0 gw];refine⟨by decide,in_t (ys:=["span", "apart"]) ?_⟩
 have f0:fitS nm ws 0=decide (wd ws 0∈(["span", "apart"]:List Str)):=rfl;by_cases hs:wd ws 0∈(["span", "apart"]:List Str)
 ·rw[decide_eq_true hs,if_neg (by simp)]
  simp! only[jbh gw];rw[Yah];refine⟨by omega,by omega,by omega,by omega,?_⟩
  rw[show((ws.length:Int)-1).toNat=ws.length-1 by omega]
  refine jaB (λi ς G'=>(∃o2 o3,ς=[some (.loc pn),some (.loc pw),o2,o3,none])/\Sa G G'/\∀j,j<i+1->fitS nm ws j=true) ?_ ?_ ⟨⟨_,_,rfl⟩,Sa.refl,λj hj=>by rw[show j=0 by omega,f0,decide_eq_true hs]⟩
  ·rintro ς G1 ⟨⟨o2,o3,rfl⟩,s1,hf⟩;rw[jaW,show ws.length-1+1=ws.length by omega]at hf
   have gw1:=s1 _ _ gw;have gn1:=s1 _ _ gn;simp! only[jbh gw1,jmX gn1];refine⟨trivial,?_⟩;rw[Yah];by_cases h5:ws.length<5
   ·rw[if_pos (by simp;omega)]
    exact q1 ws.length ⟨hf,.inr ⟨rfl,h5⟩⟩ G1 s1
   ·rw[if_neg (by simp;omega)]
    have fw:Fw (fitS nm ws) ws.length 5 none:=⟨hf,by omega⟩
    obtain⟨l5,m1,m2⟩:=five fw;have aj:∀{G:Gp} {Q:K1} (j:Nat),j<5->G pw=some (.lst (ws.map .str))->ixU (.loc pw) (.int j) G Q=Q (.str (wd ws j)) G:=λj hj g=>ix_l g (jba (j:=j) (by omega))
    have a1:∀{G:Gp} {Q:K1},G pw=some (.lst (ws.map .str))->ixU (.loc pw) (.int 1) G Q=Q (.str (wd ws 1)) G:=aj 1 (by omega)
    have a2:∀{G:Gp} {Q:K1},G pw=some (.lst (ws.map .str))->ixU (.loc pw) (.int 2) G Q=Q (.str (wd ws 2)) G:=aj 2 (by omega)
    have a3:∀{G:Gp} {Q:K1},G pw=some (.lst (ws.map .str))->ixU (.loc pw) (.int 3) G Q=Q (.str (wd ws 3)) G:=aj 3 (by omega)
    have a4:∀{G:Gp} {Q:K1},G pw=some (.lst (ws.map .str))->ixU (.loc pw) (.int 4) G Q=Q (.str (wd ws 4)) G:=aj 4 (by omega)
    rw[a1 gw1];refine jnh gn1 m1 ?_;rw[jmX gn1];dsimp only;rw[a2 gw1];refine jnh gn1 m2 ⟨by decide,λp2 G2 n2=>?_⟩
    dsimp only;have gw2:=n2.sa _ _ gw1;have b1:atI [U.int (nm.idxOf (wd ws 1)),U.int (nm.idxOf (wd ws 2))] 1=some (.int (nm.idxOf (wd ws 2))):=jbz (j:=1) rfl;rw[a0 gw2,ix_l n2.at (jfj _ _),ix_l n2.at b1,a3 gw2];refine jed (ww (by omega)) λG3 s3=>?_
    rw[a4 (s3 _ _ gw2)];refine jed (ww (by omega)) λG4 s4=>⟨by decide,by decide,λp5 G5 n5=>?_⟩
    have s14:Sa G G4:=s1.trans (n2.sa.trans (s3.trans s4));refine q2 fw p5 G5 ?_ (s14.trans n5.sa) n5.at
    cases e:G p5 with
    |none=>rfl
    |some o=>have:=n5.no;rw[s14 _ _ e]at this;cases this
  ·rintro i y ς G1 K hy ⟨⟨o2,o3,rfl⟩,s1,hf⟩ hk;obtain⟨hi,rfl⟩:=jdA hy;have gw1:=s1 _ _ gw;have gn1:=s1 _ _ gn;have al:atI (ws.map U.str) (1+(i:Int))=some (.str (wd ws (i+1))):=by
    rw[show(1+(i:Int))=((i+1:Nat):Int) by omega]
    exact jba (by omega)
   simp! only[ix_l gw1 al];have ei:((i+1:Nat):Int)=1+(i:Int):=by omega
   have hi':i+1<ws.length:=by omega
   have bad:fitS nm ws (i+1)=false->∀G',Sa G G'->Q (.int (1+(i:Int))) G':=λz G' s=>by
    have:=q1 (i+1) ⟨hf,.inl ⟨hi',z⟩⟩ G' s;rw[ei]at this;exact this
   have good:fitS nm ws (i+1)=true->∀(u:Option U) G',Sa G G'->K [some (.loc pn),some (.loc pw),some (.int (1+(i:Int))),u,none] G':=λz u G' s=>hk _ _ ⟨⟨_,_,rfl⟩,s,λj hj=>by
    rcases Nat.lt_succ_iff_lt_or_eq.mp hj with h|h
    ·exact hf j h
    ·rw[h];exact z⟩
   have both:∀(b:Bool) G',b=fitS nm ws (i+1)->Sa G G'->if (!b)=true then Q (.int (1+(i:Int))) G' else K [some (.loc pn),some (.loc pw),some (.int (1+(i:Int))),some (.bl b),none] G':=λb G' e s=>by
    cases b
    ·exact bad e.symm G' s
    ·exact good e.symm (some (.bl true)) G' s
   refine⟨trivial,by decide,in_2 ?_⟩
   by_cases h2:i<2
   ·have fe:fitS nm ws (i+1)=decide (wd ws (i+1)∈nm):=by
     unfold fitS;rw[if_neg (by omega),if_pos (by omega)]
    rw[decide_eq_true (by omega),if_pos rfl]
    refine jlj gn1 ⟨by decide,in_2 ?_⟩
    rw[decide_eq_false (by omega),if_neg (by simp),<- fe]
    have fin:=both _ G1 rfl s1;by_cases z:fitS nm ws (i+1)=true
    ·rw[if_pos z,if_neg (by simp;omega)]
     exact fin
    ·rw[if_neg z];exact fin
   ·rw[decide_eq_false (by omega),if_neg (by simp)]
    refine⟨by decide,in_2 ?_⟩
    by_cases h4:i<4
    ·rw[decide_eq_true (by omega),if_pos rfl]
     refine jed (ww hi') λG2 s2=>?_;show isU (oI _) .non _;rw[is_o];have s12:=s1.trans s2;have gw2:=s2 _ _ gw1;have fe:fitS nm ws (i+1)=if (nmW (wd ws (i+1))).isNone=true then false else if i+1=3 then true else if wd ws 0 = "apart" then true else leO (nmW (wd ws 3)) (nmW (wd ws 4)):=by
      conv=>lhs;unfold fitS
      rw[if_neg (by omega),if_neg (by omega),if_neg (by omega)]
     cases hn:(nmW (wd ws (i+1))).isNone
     ·rw[hn,if_neg (by simp)]at fe
      rw[if_pos (by simp)]
      by_cases h3:i=2
      ·rw[if_pos (by omega)]at fe
       rw[if_neg (by simp;omega)]
       exact both true G2 fe.symm s12
      ·rw[if_neg (by omega)]at fe
       have e3:i=3:=by omega
       subst e3;rw[if_pos (by simp),a0 gw2,ji5]
       have a3:∀{G:Gp} {Q:K1},G pw=some (.lst (ws.map .str))->ixU (.loc pw) (.int 3) G Q=Q (.str (wd ws 3)) G:=λg=>ix_l g (jba (j:=3) (by omega))
       have a4:∀{G:Gp} {Q:K1},G pw=some (.lst (ws.map .str))->ixU (.loc pw) (.int 4) G Q=Q (.str (wd ws 4)) G:=λg=>ix_l g (jba (j:=4) (by omega))
       have f3:(nmW (wd ws 3)).isNone=false:=by
        have:=hf 3 (by omega)
        unfold fitS at this;rw[if_neg (by omega),if_neg (by omega),if_neg (by omega)]at this
        cases z:(nmW (wd ws 3)).isNone with
        |false=>rfl
        |true=>rw[if_pos z]at this;cases this
       by_cases hsp:wd ws 0 = "span"
       ·rw[if_neg (by rw[hsp];decide +kernel)]at fe
        rw[if_pos (decide_eq_true hsp),a3 gw2];refine jed (ww (by omega)) λG3 s3=>?_
        rw[a4 (s3 _ _ gw2)];refine jed (ww (by omega)) λG4 s4=>?_
        cases e3:nmW (wd ws 3)with
        |none=>rw[e3]at f3;cases f3
        |some a=>
         cases e4:nmW (wd ws 4)with
         |none=>rw[e4]at hn;cases hn
         |some b=>
          rw[e3,e4]at fe;exact both _ G4 fe.symm (s12.trans (s3.trans s4))
       ·have hap:wd ws 0 = "apart" := by
         rcases YaL.mp hs with z|z
         ·exact absurd z hsp
         ·exact List.mem_singleton.mp z
        rw[if_pos hap]at fe;rw[if_neg (by simpa using hsp)]
        exact both true G2 fe.symm s12
     ·rw[hn,if_pos rfl]at fe;rw[if_neg (by simp)]
      exact both false G2 fe.symm s12
    ·have fe:fitS nm ws (i+1)=false:=by
      unfold fitS;rw[if_neg (by omega),if_neg (by omega),if_pos (by omega)]
     rw[decide_eq_false (by omega),if_neg (by simp),if_neg (by simp;omega),decide_eq_false (by omega)]
     exact both false G1 fe.symm s1
 ·rw[decide_eq_false hs,if_pos (by simp)]
  exact q1 0 ⟨λj hj=>absurd hj (YcR _),.inl ⟨l1,by rw[f0,decide_eq_false hs]⟩⟩ G Sa.refl
end

section
variable {k:Nat}{G:Gp}{Q:K1}{X:KX}{ls:List Str}
theorem jeX {pl:Addr}(hl:ls.length<=20000)(hb:∀x∈ls,x.length<=9000/\As x)(gl:G pl=some (.lst (ls.map .str)))
  (q1:∀a b:Nat,OutF ls a b->∀p G',G p=none->Sa G G'->G' p=some (.lst [.int a,.int b])->Q (.loc p) G')
  (q2:OutR ls->∀G',Sa G G'->Q (.tup [.tup ((nmZ ls).map .str),.tup (spsZ ls (ls.length-1))]) G'):jac T (k+3) jb1 [.loc pl] G Q X:=by
 have hz:(20000:Nat)<=Yac:=by decide
 have wb:∀{j:Nat},j<ls.length->(wd ls j).length<=9000/\As (wd ls j):=λhj=>hb _ (jbD hj);have fresh:∀{p:Addr} {G':Gp},Sa G G'->G' p=none->G p=none:=λ{p G'} s e=>by
  cases z:G p with
  |none=>rfl
  |some o=>rw[s _ _ z]at e;cases e
 refine⟨rfl,?_⟩;simp! only[jdm,jaf,Yab];refine⟨by decide,λp1 G1 n1=>?_⟩
 dsimp only;rw[jhZ];have ne1:G1 p1=some (.lst (([]:List Str).map .str)):=n1.at
 have gl1:=n1.sa _ _ gl;refine jdQ gl1 ne1 (λx hx=>(hb x hx).2) (λy hy=>nomatch hy) ?_;by_cases h0:ls=[]
 ·rw[decide_eq_true h0];rw[if_neg (by simp)]
  refine⟨by decide,λp2 G2 n2=>?_⟩
  dsimp only;rw[ix_l n2.at (jfj _ _),jhi,if_pos (by decide +kernel)]
  exact⟨by decide,λp3 G3 n3=>q1 0 0 (.inl ⟨h0,rfl,rfl⟩) p3 G3 (fresh (n1.sa.trans n2.sa) n3.no) (n1.sa.trans (n2.sa.trans n3.sa)) n3.at⟩
 ·rw[decide_eq_false h0];have l1:0<ls.length:=List.length_pos_iff.mpr h0;have a0:∀{G:Gp} {Q:K1},G pl=some (.lst (ls.map .str))->ixU (.loc pl) (.int 0) G Q=Q (.str (wd ls 0)) G:=λg=>ix_l g (jba (j:=0) l1);rw[if_pos (by simp),a0 gl1]
  show jax .split _ _ _ _;refine jeO (wb l1).1 λp2 G2 n2=>?_;have r1:0<(rwZ ls 0).length:=jeP _;have w0:Ww (rwZ ls 0):=jcj (wb l1).1 (wb l1).2;have g2:G2 p2=some (.lst ((rwZ ls 0).map .str)):=n2.at
  have b0:∀{G:Gp} {Q:K1},G p2=some (.lst ((rwZ ls 0).map .str))->ixU (.loc p2) (.int 0) G Q=Q (.str (wd (rwZ ls 0) 0)) G:=λg=>ix_l g (jba (j:=0) r1);have s2:Sa G G2:=n1.sa.trans n2.sa;rw[b0 g2,jhi];have f0:fitW (rwZ ls 0) 0=decide (wd (rwZ ls 0) 0 = "works"):=rfl;by_cases hw:wd (rwZ ls 0) 0 = "works"
  ·rw[if_neg (by simp[hw]),sl_l g2,show(some (1:Int))=some ((1:Nat):Int)from rfl,jb6,jf0]
   intro p3 G3 n3;have g3:G3 p3=some (.lst ((nmZ ls).map .str)):=n3.at
   have nl:(nmZ ls).length+1=(rwZ ls 0).length:=by unfold nmZ;rw[Ycf];omega
   have w0l:=w0.l;have s3:Sa G G3:=s2.trans n3.sa;have nw:∀{i:Nat},wd (nmZ ls) i=wd (rwZ ls 0) (i+1):=λ{i}=>by unfold nmZ wd;rw[YaS,YaS,List.getElem?_drop,Yfv]
   rw[jbh g3]
   try dsimp only
   rw[Yah];refine⟨by omega,by omega,?_⟩
   refine jaB (λi ς G'=>(∃o3,ς=[some (.loc pl),some (.loc p2),some (.loc p3),o3,none,none,none])/\Sa G3 G'/\∀j,j<i+1->fitW (rwZ ls 0) j=true) ?_ ?_ ⟨⟨_,rfl⟩,Sa.refl,λj hj=>by rw[show j=0 by omega,f0,decide_eq_true hw]⟩
   ·rintro ς G4 ⟨⟨o3,rfl⟩,s4,hf⟩;rw[jaW,show(((nmZ ls).length:Int)).toNat=(nmZ ls).length by omega,nl]at hf
    simp! only[];have g4:=s4 _ _ g3;refine⟨trivial,by decide,λp5 G5 n5=>?_⟩
    dsimp only;rw[jly];have ne5:G5 p5=some (.lst (([]:List Str).map .str)):=n5.at
    refine jdQ (n5.sa _ _ g4) ne5 (λx hx=>(w0.w x (YcG hx)).2) (λy hy=>nomatch hy) ?_;have s5:Sa G G5:=s3.trans (s4.trans n5.sa);by_cases hn:nmZ ls=[]
    ·rw[decide_eq_true hn,if_pos rfl];have l0:(rwZ ls 0).length=1:=by rw[hn]at nl;simpa using nl.symm
     exact⟨by decide,λp6 G6 n6=>q1 0 1 (.inr (.inl ⟨h0,rfl,λj hj=>hf j (by omega),.inr ⟨l0.symm,by omega⟩⟩)) p6 G6 (fresh s5 n6.no) (s5.trans n6.sa) n6.at⟩
    ·rw[decide_eq_false hn,if_neg (by simp)]
     have n1:0<(nmZ ls).length:=List.length_pos_iff.mpr hn;have ho:Row0 ls:=⟨hf,by omega⟩
     refine⟨by decide,λp6 G6 n6=>?_⟩
     have s6:Sa G G6:=s5.trans n6.sa;have gl6:=s6 _ _ gl
     try dsimp only
     simp! only[jbh gl6];rw[Yah];refine⟨by decide,by decide,by omega,by omega,?_⟩
     rw[show((ls.length:Int)-1).toNat=ls.length-1 by omega]
     have g36:G6 p3=some (.lst ((nmZ ls).map .str)):=n6.sa _ _ (n5.sa _ _ g4);have isn:∀{z:Int} {G:Gp} {Q:K1},jep [.int z,.ty "list"] G Q=Q (.bl false) G:=rfl;refine jaB (λi ς G'=>(∃p7 o5 o6,ς=[some (.loc pl),some (.loc p2),some (.loc p3),o3,some (.loc p7),o5,o6]/\G' p7=some (.lst (spsZ ls i)))/\Sa G6 G'/\jii ls (i+1)) ?_ ?_ ⟨⟨_,_,_,rfl,n6.at⟩,Sa.refl,λj h1 h2=>by omega⟩
     ·rintro ς G7 ⟨⟨p7,o5,o6,rfl,g7⟩,s7,hg⟩;rw[jaW]at g7 hg;rw[show ls.length-1+1=ls.length by omega]at hg
      simp! only[];rw[it_l (s7 _ _ g36),it_l g7];exact⟨trivial,by decide,q2 ⟨h0,ho,hg⟩ G7 (s6.trans s7)⟩
     ·rintro i y ς G7 K hy ⟨⟨p7,o5,o6,rfl,g7⟩,s7,hg⟩ hk;obtain⟨hi,rfl⟩:=jdA hy;have al:atI (ls.map U.str) (1+(i:Int))=some (.str (wd ls (i+1))):=by
       rw[show(1+(i:Int))=((i+1:Nat):Int) by omega]
       exact jba (by omega)
      have gl7:=s7 _ _ gl6;have s67:Sa G G7:=s6.trans s7;have spl:(spsZ ls i).length=i:=by unfold spsZ;simp
      have ei:((i+1:Nat):Int)=1+(i:Int):=by omega
      have wi:=wb (j:=i+1) (by omega)
      have ww:Ww (rwZ ls (i+1)):=jcj wi.1 wi.2;have bad:∀b:Nat,((24<i+1/\b=0)\/(i+1<=24/\Fw (fitS (nmZ ls) (rwZ ls (i+1))) (rwZ ls (i+1)).length 5 (some b)))->∀G',Sa G G'->newO G' (.lst [.int (1+(i:Int)),.int b]) Q:=λb z G' s p G'' n=>by
       refine q1 (i+1) b (.inr (.inr ⟨ho,by omega,by omega,hg,z⟩)) p G'' (fresh s n.no) (s.trans n.sa) ?_
       rw[ei];exact n.at
      simp! only[jbh g7,ix_l gl7 al];refine⟨trivial,?_⟩;rw[spl];by_cases h24:i<24
      ·rw[if_pos (by simp;omega)]
       show jax .split _ _ _ _;refine jeO wi.1 λp8 G8 n8=>?_;refine jdF (nm:=nmZ ls) (ws:=rwZ ls (i+1)) ww (jeP _) (n8.sa _ _ (s7 _ _ g36)) n8.at (λb hb' G9 s9=>?_) (λhf' p9 G9 hp9 s9 g9=>?_)
       ·rw[isn,jc2,if_pos (by simp)]
        exact⟨by decide,bad b (.inr ⟨by omega,hb'⟩) G9 (s67.trans (n8.sa.trans s9))⟩
       ·rw[jlg g9,jc2,if_neg (by simp),jf7]
        refine⟨_,_,s9 _ _ (n8.sa _ _ g7),g9,by rw[spl];simp;omega,λpa Ga na=>hk _ _ ⟨⟨_,_,_,rfl,?_⟩,s7.trans (n8.sa.trans (s9.trans na.sa)),λj h1 h2=>?_⟩⟩
        ·rw[na.at];unfold spsZ;rw[Ydq,Ybd];rfl
        ·rcases Nat.lt_succ_iff_lt_or_eq.mp h2 with h|h
         ·exact hg j h1 h
         ·rw[h];exact⟨by omega,hf'⟩
      ·rw[if_neg (by simp;omega),isn,jc2,if_pos (by simp)]
       exact⟨by decide,bad 0 (.inl ⟨by omega,rfl⟩) G7 s67⟩
   ·rintro i y ς G4 K hy ⟨⟨o3,rfl⟩,s4,hf⟩ hk;obtain⟨hi,rfl⟩:=jbd hy;have hi:i<(nmZ ls).length:=by simpa using hi
    have al:atI ((nmZ ls).map U.str) (i:Int)=some (.str (wd (nmZ ls) i)):=jba hi;have g4:=s4 _ _ g3;simp! only[ix_l g4 al];refine⟨trivial,?_⟩;have s34:Sa G G4:=s3.trans s4;have hi':i+1<(rwZ ls 0).length:=by omega
    have fe:fitW (rwZ ls 0) (i+1)=decide (i+1<=8/\Nm (wd (nmZ ls) i)/\wd (nmZ ls) i∉(nmZ ls).take i):=by
     rw[nw];unfold fitW;rw[if_neg (by omega)]
     rfl
    have bad:fitW (rwZ ls 0) (i+1)=false->∀G',Sa G G'->newO G' (.lst [.int 0,.int ((i:Int)+1)]) Q:=λz G' s p G'' n=>
     q1 0 (i+1) (.inr (.inl ⟨h0,rfl,hf,.inl ⟨hi',z⟩⟩)) p G'' (fresh s n.no) (s.trans n.sa) n.at
    obtain⟨m1,m2⟩:=w0.w _ (show wd (nmZ ls) i∈rwZ ls 0 by rw[nw];exact jbD hi')
    by_cases h7:7<i
    ·rw[if_pos (by simp;omega)]
     exact⟨by decide,bad (by rw[fe,decide_eq_false λz=>by omega]) G4 s34⟩
    ·rw[if_neg (by simp;omega)]
     refine jc4 m1 m2 λG5 s5=>?_;rw[jc2];by_cases hn:Nm (wd (nmZ ls) i)
     ·rw[decide_eq_true hn,if_neg (by simp),ix_l (s5 _ _ g4) al,sl_l (s5 _ _ g4),jb6,jhU]
      intro p6 G6 n6;refine jlj n6.at ?_;by_cases hm:wd (nmZ ls) i∈(nmZ ls).take i
      ·rw[decide_eq_true hm,if_pos rfl];exact⟨by decide,bad (by rw[fe,decide_eq_false λz=>z.2.2 hm]) G6 (s34.trans (s5.trans n6.sa))⟩
      ·rw[decide_eq_false hm,if_neg (by simp)]
       refine hk _ _ ⟨⟨_,rfl⟩,s4.trans (s5.trans n6.sa),λj hj=>?_⟩;rcases Nat.lt_succ_iff_lt_or_eq.mp hj with h|h
       ·exact hf j h
       ·rw[h,fe,decide_eq_true ⟨by omega,hn,hm⟩]
     ·rw[decide_eq_false hn,if_pos (by simp)]
      exact⟨by decide,bad (by rw[fe,decide_eq_false λz=>hn z.2.1]) G5 (s34.trans s5)⟩
  ·rw[if_pos (by simpa using hw)]
   exact⟨by decide,λp3 G3 n3=>q1 0 0 (.inr (.inl ⟨h0,rfl,λj hj=>absurd hj (YcR _),.inl ⟨r1,by rw[f0,decide_eq_false hw]⟩⟩)) p3 G3 (fresh s2 n3.no) (s2.trans n3.sa) n3.at⟩
end

section
variable {k:Nat}{G:Gp}{Q:K1}{X:KX}{ls:List Str}
structure An (ls:List Str)(G:Gp)(Q:K1):Prop where
 r:OutR ls->∀G',Sa G G'->Q (.tup [.tup ((nmZ ls).map .str),.tup (spsZ ls (ls.length-1))]) G'
 f:∀a b:Nat,OutF ls a b->∀p G',G p=none->Sa G G'->G' p=some (.lst [.int a,.int b])->Q (.loc p) G'
theorem jiL {pl:Addr}(hl:ls.length<=20000)(hb:∀x∈ls,x.length<=9000/\As x)(gl:G pl=some (.lst (ls.map .str)))(q:An ls G Q):jac T (k+6) jdb [.loc pl] G Q X:=by
 refine⟨rfl,?_⟩;simp! only[jdk,jaf,Yab];refine jdG (k:=k) hl hb gl (λhR G1 s1=>?_) (λa b hF G1 s1=>⟨.inl trivial,?_⟩)
 ·simp! only[];exact q.r hR G1 s1
 ·simp[hsH,hvH,jbx,lit1,litH,atsH,atH,clsF,clsA,-Yfw];intro p G2 n2;refine q.f a b hF p G2 ?_ (s1.trans n2.sa) n2.at
  cases z:G p with
  |none=>rfl
  |some o=>have:=n2.no;rw[s1 _ _ z]at this;cases this
theorem jiM {pl:Addr}(hl:ls.length<=20000)(hb:∀x∈ls,x.length<=9000/\As x)(gl:G pl=some (.lst (ls.map .str)))(q:An ls G Q):jac T (k+3) jb1 [.loc pl] G Q X:=
 jeX hl hb gl q.f q.r
end

structure Bd (L M:Nat)(ls:List Str):Prop where
 n:ls.length<=M
 l:∀x∈ls,x.length<=L/\As x
section
variable {L M M':Nat}{a b:List Str}
theorem Bd.cut (h:Bd L M a)(lo hi:Option Int):Bd L M (Z.cut a lo hi):=⟨Yak (by unfold Z.cut;rw[Ydf,Ycf];omega) h.n,λx hx=>h.l x (YcG (YdA hx))⟩
theorem Bd.rev (h:Bd L M a):Bd L M a.reverse:=⟨by rw[YcO];exact h.n,λx hx=>h.l x (List.mem_reverse.mp hx)⟩
theorem Bd.app (h:Bd L M a)(h':Bd L M' b):Bd L (M+M') (a++b):=⟨by rw[YaO];exact Nat.add_le_add h.n h'.n,λx hx=>(List.mem_append.mp hx).elim (h.l x) (h'.l x)⟩
theorem Bd.one {x:Str}(h:x.length<=L)(h':As x):Bd L 1 [x]:=⟨Yaf _,λy hy=>by rw[List.mem_singleton.mp hy];exact⟨h,h'⟩⟩
theorem Bd.up {L':Nat}(h:Bd L M a)(hl:L<=L')(hm:M<=M'):Bd L' M' a:=⟨Yak h.n hm,λx hx=>⟨Yak (h.l x hx).1 hl,(h.l x hx).2⟩⟩
theorem Bd.nil:Bd L 0 []:=⟨Yaf _,λ_ h=>nomatch h⟩
end
section
variable {k L M:Nat}{G:Gp}{Q:K1}{X:KX}{nm:List Str}
theorem jf4 {l:List Str}(h:0<l.length):∃x,x∈l/\atI (l.map U.str) (-1)=some (.str x):=by
 have e0:ixN (l.map U.str).length (-1)=some (l.length-1):=by
  rw[Yah];unfold ixN;rw[if_neg (by omega),if_pos (by omega)]
  congr 1;omega
 have e:atI (l.map U.str) (-1)=(l.map U.str)[l.length-1]?:=by
  unfold atI;rw[e0];rfl
 refine⟨l[l.length-1],Ycg (by omega),?_⟩
 rw[e,Yat,YaI (by omega)]
 rfl
theorem jbH {f c p : Addr}{ls : List Str}(hf : Fd G f c)(hn : Wn nm)(h0 : 0 < nm.length)(h8 : nm.length <= 9)(hL : 10 <= L)(hL' : L <= 3000)(hM : M <= 6000)(hb : Bd L M ls)(gl : G p = some (.lst (ls.map .str)))
    (q : ∀ (p' : Addr) (ys : List Str) (G' : Gp), Bd (3 * L + 40) (3 * M + 1) ys -> G' p' = some (.lst (ys.map .str)) -> Fd G' f c -> Sm f G G' -> Q (.loc p') G') : jac T (k + 4) jaE [.loc f, .loc p, .tup (nm.map .str)] G Q X := by
  have hz : (100000 : Nat) <= Yac := by decide
  have hbn := hb.n
  refine ⟨rfl, ?_⟩
  simp! only [ja9, jaf, Yab, jbh gl]
  refine jai hf (by rw [Yah]; omega) (by rw [Yah]; omega) λr G1 r0 r1 f1 s1 => ?_
  have g1 := s1 _ _ (hf.ne_l gl) gl
  rw [Yah] at r1
  refine jai f1 (by omega) (by omega) λy G2 y0 y1 f2 s2 => ?_
  have g2 := s2 _ _ (f1.ne_l g1) g1
  have sm2 : Sm f G G2 := s1.trans s2
  have bdU : Bd (3 * L + 40) M ls := hb.up (by omega) (Yaf _)
  have cat : ∀ {a b : Addr} {xs ys : List Str} {G' : Gp} {R : K1} {M1 M2 : Nat}, Bd (3 * L + 40) M1 xs -> Bd (3 * L + 40) M2 ys -> G' a = some (.lst (xs.map .str)) -> G' b = some (.lst (ys.map .str)) -> M1 + M2 <= 3 * M + 1 -> (∀ (p' : Addr) (G2 : Gp), Sa G' G2 -> Bd (3 * L + 40) (M1 + M2) (xs ++ ys) -> G2 p' = some (.lst ((xs ++ ys).map .str)) -> R (.loc p') G2) -> binU .Add (.loc a) (.loc b) G' R := λ{a b xs ys G' R M1 M2} b1 b2 ga gb h r' =>
    jgy ga gb (by have := b1.n; have := b2.n; omega) λp' G2 _ s2 g2 => r' p' G2 s2 (b1.app b2) g2
  have three : ∀ (p4 : Addr) (G5 : Gp) (w : Str), G5 p4 = some (.lst ((Z.cut ls none (some r)).map .str)) -> G5 p = some (.lst (ls.map .str)) -> Fd G5 f c -> Sm f G G5 -> w.length <= 3 * L + 40 -> As w ->
      (0 + 1 <= Yac /\ newO G5 (MO.lst [U.str w]) λy G2 => binU .Add (.loc p4) y G2 λx G1 => slU (.loc p) (some (r + 1)) none G1 λy G2 => binU .Add x y G2 Q) := λp4 G5 w g4 g f5 sm hw aw =>
    ⟨by omega, λp6 G6 n6 => cat (bdU.cut none (some r)) (Bd.one hw aw) (n6.sa _ _ g4) (show G6 p6 = some (.lst ([w].map .str)) from n6.at) (by omega) λp7 G7 s7 b7 g7 =>
      jaO (s7 _ _ (n6.sa _ _ g)) λp8 G8 _ s8 g8 => cat b7 (bdU.cut _ _) (s8 _ _ g7) g8 (by omega) λp9 G9 s9 b9 g9 =>
        q p9 _ G9 (b9.up (Yaf _) (by omega)) g9 (f5.sa (n6.sa.trans (s7.trans (s8.trans s9)))) (sm.trans (n6.sa.trans (s7.trans (s8.trans s9))).sm)⟩
  simp! only [jbh g2]
  by_cases c0 : y = 0
  · rw [if_pos (by simpa using c0)]
    refine jaO g2 λp4 G4 h4 s4 g4 => ?_
    refine jaO (s4 _ _ g2) λp5 G5 h5 s5 g5 => ?_
    refine cat (bdU.cut _ _) (bdU.cut _ _) (s5 _ _ g4) g5 (by omega) λp6 G6 s6 b6 g6 => ?_
    have sa := s4.trans (s5.trans s6)
    exact q p6 _ G6 (b6.up (Yaf _) (by omega)) g6 (f2.sa sa) (sm2.trans sa.sm)
  rw [if_neg (by simpa using c0)]
  by_cases c1 : y = 1
  · rw [if_pos (by simpa using c1)]
    refine jaO g2 λp4 G4 h4 s4 g4 => ?_
    refine jaO (s4 _ _ g2) λp5 G5 h5 s5 g5 => ?_
    refine cat (bdU.cut _ _) (bdU.cut _ _) (s5 _ _ g4) g5 (by omega) λp6 G6 s6 b6 g6 => ?_
    refine jaO (s6 _ _ (s5 _ _ (s4 _ _ g2))) λp7 G7 h7 s7 g7 => ?_
    refine cat b6 (bdU.cut _ _) (s7 _ _ g6) g7 (by omega) λp8 G8 s8 b8 g8 => ?_
    have sa := s4.trans (s5.trans (s6.trans (s7.trans s8)))
    exact q p8 _ G8 (b8.up (Yaf _) (by omega)) g8 (f2.sa sa) (sm2.trans sa.sm)
  rw [if_neg (by simpa using c1)]
  by_cases c2 : y = 2
  · rw [if_pos (by simpa using c2)]
    refine jaO g2 λp4 G4 h4 s4 g4 => ?_
    refine jaO (s4 _ _ g2) λp5 G5 h5 s5 g5 => ?_
    refine rv_s g5 λp6 G6 h6 s6 g6 => ?_
    refine cat (bdU.cut _ _) (bdU.cut _ _).rev (s6 _ _ (s5 _ _ g4)) g6 (by omega) λp7 G7 s7 b7 g7 => ?_
    refine jaO (s7 _ _ (s6 _ _ (s5 _ _ (s4 _ _ g2)))) λp8 G8 h8 s8 g8 => ?_
    refine cat b7 (bdU.cut _ _) (s8 _ _ g7) g8 (by omega) λp9 G9 s9 b9 g9 => ?_
    have sa := s4.trans (s5.trans (s6.trans (s7.trans (s8.trans s9))))
    exact q p9 _ G9 (b9.up (Yaf _) (by omega)) g9 (f2.sa sa) (sm2.trans sa.sm)
  rw [if_neg (by simpa using c2)]
  by_cases c3 : y = 3
  · rw [if_pos (by simpa using c3)]
    have a0 : atI (nm.map U.str) 0 = some (.str (wd nm 0)) := jba (j := 0) h0
    obtain ⟨l0, as0⟩ := hn _ (jbD h0)
    obtain ⟨nz, hnz, ez⟩ := jf4 h0
    obtain ⟨lz, asz⟩ := hn nz hnz
    have k1 : (("span " : Str).length = 5 /\ ∀ c ∈ ("span " : Str).cps.toList, c < 128) /\ (("apart " : Str).length = 6 /\ ∀ c ∈ ("apart " : Str).cps.toList, c < 128) /\ (" 5 0" : Str).length = 4 /\ ∀ c ∈ (" 5 0" : Str).cps.toList, c < 128 := by decide +kernel
    have k2 : ∀ x ∈ (["", "works", "works a", "span"] : List Str), x.length <= 8 /\ ∀ c ∈ x.cps.toList, c < 128 := by decide +kernel
    have e1 := jaA "span " (wd nm 0)
    have e2 := jaA "apart " (wd nm 0)
    have e3 := jaA ("apart " ++ wd nm 0) " "
    have e4 := jaA ("apart " ++ wd nm 0 ++ " ") nz
    have e5 := jaA ("apart " ++ wd nm 0 ++ " " ++ nz) " 5 0"
    rw [jb9] at e3
    rw [ix_t a0, ix_t a0]
    refine jaF (by omega) ⟨by omega, λp4 G4 n4 => ?_⟩
    dsimp only
    rw [jaN n4.at]
    dsimp only
    rw [ix_t a0]
    refine jaF (by omega) (jaF (by rw [jb9]; omega) ?_)
    rw [ix_t ez]
    refine jaF (by omega) (jaF (by omega) ?_)
    rw [jfl n4.at]
    refine ⟨by show (6 : Nat) < Yac; omega, λG5 w5 => ?_⟩
    have hp4 := f2.away n4
    have f5 := (f2.new n4).off hp4 w5
    have s5 : Sm f G2 G5 := Sm.wr Sm.refl n4.no n4.sa.sm w5
    have g5 : G5 p = some (.lst (ls.map .str)) := s5 _ _ (f2.ne_l g2) g2
    have g54 := w5.at
    refine jaO g5 λp6 G6 h6 s6 g6 => ?_
    have f6 := f5.sa s6
    refine jai f6 (by omega) (by omega) λz G7 z0 z1 f7 s7 => ?_
    refine jb5 (s7 _ _ hp4.1 (s6 _ _ g54)) z0 (by show z < 7; exact z1) λv hv => ?_
    have : ∃ w : Str, v = .str w /\ w.length <= 40 /\ As w := by
      rcases List.mem_append.mp hv with hv | hv
      · simp only [YaL, Yax, or_false] at hv
        rcases hv with rfl | rfl | rfl | rfl | rfl | rfl
        · exact ⟨_, rfl, by have := (k2 "" (by simp)).1; omega, (k2 "" (by simp)).2⟩
        · exact ⟨_, rfl, by have := (k2 "works" (by simp)).1; omega, (k2 "works" (by simp)).2⟩
        · exact ⟨_, rfl, by have := (k2 "works a" (by simp)).1; omega, (k2 "works a" (by simp)).2⟩
        · exact ⟨_, rfl, by have := (k2 "span" (by simp)).1; omega, (k2 "span" (by simp)).2⟩
        · exact ⟨_, rfl, by omega, as0⟩
        · exact ⟨_, rfl, by omega, As.app k1.1.2 as0⟩
      · rw [List.mem_singleton.mp hv]
        exact ⟨_, rfl, by omega, As.app (As.app (As.app (As.app k1.2.1.2 as0) jgP) asz) k1.2.2.2⟩
    obtain ⟨w, rfl, hw, aw⟩ := this
    have g76 := s7 _ _ (f6.ne_l g6) g6
    have g7p := s7 _ _ (f6.ne_l (s6 _ _ g5)) (s6 _ _ g5)
    refine ⟨by omega, λp8 G8 n8 => ?_⟩
    refine cat (bdU.cut none (some r)) (Bd.one (x := w) (by omega) aw) (n8.sa _ _ g76) (show G8 p8 = some (.lst ([w].map .str)) from n8.at) (by omega) λp9 G9 s9 b9 g9 => ?_
    refine jaO (s9 _ _ (n8.sa _ _ g7p)) λpa Ga ha sa' ga => ?_
    refine cat b9 (bdU.cut _ _) (sa' _ _ g9) ga (by omega) λpb Gb sb bb gb => ?_
    have sa := n8.sa.trans (s9.trans (sa'.trans sb))
    exact q pb _ Gb (bb.up (Yaf _) (by omega)) gb (f7.sa sa) (sm2.trans (s5.trans (s6.sm.trans (s7.trans sa.sm))))
  rw [if_neg (by simpa using c3)]
  by_cases ce : r = ls.length
  · rw [if_pos (by rw [Yah]; simpa using ce)]
    refine ⟨by omega, λp4 G4 n4 => ?_⟩
    dsimp only
    rw [jhZ]
    have ne4 : G4 p4 = some (.lst (([] : List Str).map .str)) := n4.at
    have g4 := n4.sa _ _ g2
    refine jdQ g4 ne4 (λx hx => (hb.l x hx).2) (λy hy => nomatch hy) ?_
    by_cases hl : ls = []
    · rw [decide_eq_true hl, if_neg (by simp)]
      exact ⟨by omega, λp5 G5 n5 => q p5 [""] G5 ((Bd.one (x := "") (Ybw _) (λc hc => nomatch hc)).up (Yaf _) (by omega)) n5.at ((f2.new n4).new n5) (sm2.trans (n4.sa.trans n5.sa).sm)⟩
    · rw [decide_eq_false hl, if_pos (by simp)]
      obtain ⟨x, hx, ex⟩ := jf4 (List.length_pos_iff.mpr hl)
      rw [ix_l g4 ex]
      have f4 := f2.new n4
      refine jca f4 hn h8 hL' (hb.l x hx).1 (hb.l x hx).2 λw G5 hw aw f5 s5 => ?_
      have g5 := s5 _ _ (f4.ne_l g4) g4
      refine ⟨by omega, λp6 G6 n6 => ?_⟩
      refine cat bdU (Bd.one hw aw) (n6.sa _ _ g5) (show G6 p6 = some (.lst ([w].map .str)) from n6.at) (by omega) λp7 G7 s7 b7 g7 => ?_
      exact q p7 _ G7 (b7.up (Yaf _) (by omega)) g7 (f5.sa (n6.sa.trans s7)) (sm2.trans (n4.sa.sm.trans (s5.trans (n6.sa.trans s7).sm)))
  · rw [if_neg (by rw [Yah]; simpa using ce)]
    refine jaO g2 λp4 G4 h4 s4 g4 => ?_
    have f4 := f2.sa s4
    refine jb5 (s4 _ _ g2) r0 (by rw [Yah]; omega) λv hv => ?_
    obtain ⟨x, hx, rfl⟩ := List.mem_map.mp hv
    refine jca f4 hn h8 hL' (hb.l x hx).1 (hb.l x hx).2 λw G5 hw aw f5 s5 => ?_
    exact three p4 G5 w (s5 _ _ (f4.ne_l g4) g4) (s5 _ _ (f4.ne_l (s4 _ _ g2)) (s4 _ _ g2)) f5 (sm2.trans (s4.sm.trans s5)) hw aw
end

theorem ft_i {i:Int}(h:-100000<=i/\i<=100000):Fits 1921 0 (.int i):=Fits.int (Ya3 (show i.natAbs<=100000 by omega) (Yaq (by decide:100000<2 ^ 17) (Nat.pow_le_pow_right (by decide) (by decide))))
theorem jhM {G:Gp}:∀l:List Int,DUs G (l.map .int) (l.map .int)
 |[]=>.nil
 |i::l=>.cons (.int i) (jhM l)
theorem Fw.le {fit:Nat->Bool}{n l w:Nat}(h:Fw fit n l (some w)):w<=n:=by
 rcases h.2 with⟨z,_⟩|⟨z,_⟩<;>omega
theorem jmd {ls:List Str}(hb:∀x∈ls,x.length<=9000/\As x){j:Nat}(hj:j<ls.length):(rwZ ls j).length<=9001:=by
 have:=jbb (wd ls j);have:=(hb _ (jbD hj)).1;unfold rwZ;omega
theorem jkr {ls:List Str}(h:Row0 ls):(nmZ ls).length<=8/\∀x∈nmZ ls,Nm x:=by
 have l:(rwZ ls 0).length<=9:=Ydj λz=>by
  have:=h.1 9 z;unfold fitW at this;rw[if_neg (by omega),decide_eq_false (λz=>by omega)]at this
  cases this
 refine⟨by unfold nmZ;rw[Ycf];omega,λx hx=>?_⟩
 unfold nmZ at hx;obtain⟨i,hi,e⟩:=List.mem_iff_getElem.mp hx;rw[Ycf]at hi;have:=h.1 (i+1) (by omega)
 unfold fitW at this;rw[if_neg (by omega)]at this
 have:=(of_decide_eq_true this).2.1;have e2:wd (rwZ ls 0) (i+1)=x:=by
  rw[<- e,List.getElem_drop];unfold wd;rw[YaS,YaI (by omega)]
  simp[Yfv]
 rw[e2]at this;exact this
theorem jki {nm ws:List Str}(h8:nm.length<=8)(h:Fw (fitS nm ws) ws.length 5 none):Ft 10000 1 (jgN nm ws):=by
 obtain⟨l5,m1,m2⟩:=five h;have i1:=YeC m1;have i2:=YeC m2;have num:∀j,3<=j->j<5->∃t:Int,nmW (wd ws j)=some t/\0<=t/\t<=9999:=λj h3 h5=>by
  have:=h.1 j (by omega)
  unfold fitS at this;rw[if_neg (by omega),if_neg (by omega),if_neg (by omega)]at this
  cases e:nmW (wd ws j)with
  |none=>rw[e]at this;exact absurd this (by simp)
  |some t=>
   have:=jjy (wd ws j);rw[e]at this;exact⟨t,rfl,this.1,this.2.1⟩
 obtain⟨a,ea,a0,a1⟩:=num 3 (by omega) (by omega)
 obtain⟨b,eb,b0,b1⟩:=num 4 (by omega) (by omega)
 have w0:wd ws 0 = "apart" \/ wd ws 0 = "span" := by
  have:=of_decide_eq_true (h.1 0 (by omega))
  simp only[YaL,Yax,or_false]at this;exact this.symm
 unfold jgN;rw[ea,eb];refine Ft.tup (n:=1921) (m:=5) (Yaf _) (λu hu=>?_) (by decide)
 simp only[YaL,Yax,or_false]at hu;rcases hu with rfl|rfl|rfl|rfl|rfl
 ·exact(Ft.str (m:=8) (jeI w0).1 (jeI w0).2).mono (by decide) (Yaf _)
 ·exact jfR (by omega)
 ·exact jfR (by omega)
 ·exact jfR (by omega)
 ·exact jfR (by omega)
theorem jlE {ls:List Str}(hl:ls.length<=20000)(hb:∀x∈ls,x.length<=9000/\As x) :
  ∃z:Str,∀(G:Gp) (Q:U->U->Gp->Prop),(∀u G',Sa G G'->Q u (.str z) G')->An ls G (λu G'=>jeQ [u] G' (Q u)):=by
 by_cases hF:∃a b,OutF ls a b
 ·obtain⟨a,b,hF⟩:=hF;have ab:a<=20000/\b<=9001:=by
   rcases hF with⟨_,rfl,rfl⟩|⟨n,rfl,f⟩|⟨_,_,l,_,⟨_,rfl⟩|⟨_,f⟩⟩
   ·omega
   ·have:=f.le;have:=jmd hb (j:=0) (List.length_pos_iff.mpr n);omega
   ·omega
   ·have:=f.le;have:=jmd hb l;omega
  have f:Fits 16000000 60 (.list ([(a:Int),(b:Int)].map YfG)):=by
   refine(Fits.lstLe (n:=1921) (k:=0) (m:=8) (N:=16000) (by simp) (λd hd=>?_) (by decide)).mono (by decide) (by decide)
   obtain⟨z,hz,rfl⟩:=List.mem_map.mp hd;simp only[YaL,Yax,or_false]at hz;rcases hz with rfl|rfl<;>exact ft_i (by omega)
  refine⟨(PyData.list ([(a:Int),(b:Int)].map YfG)).shown,λG Q q=>⟨λhR=>(hF.not hR).elim,λa' b' hF' p G' _ s g=>?_⟩⟩;obtain⟨rfl,rfl⟩:=hF.uniq hF';exact⟨.list ([(a:Int),(b:Int)].map YfG),.lst (by unfold lsG;rw[g];rfl) (jhM [(a:Int),(b:Int)]),f,q _ _ s⟩
 ·by_cases hR:OutR ls
  ·obtain⟨n,r,g⟩:=hR;obtain⟨x8,xn⟩:=jkr r;have l1:0<ls.length:=List.length_pos_iff.mpr n;have l24:ls.length<=25:=Ydj λz=>by have:=(g 25 (by omega) z).1;omega
   have f1:Ft 675 1 (.tup ((nmZ ls).map .str)):=Ft.tup (m:=8) (n:=82) (k:=0) (by simpa using x8) (λu hu=>by
    obtain⟨x,hx,rfl⟩:=List.mem_map.mp hu;exact Ft.str (m:=8) (xn x hx).l8 (xn x hx).ch) (by decide)
   have f2:Ft 240051 2 (.tup (spsZ ls (ls.length-1))):=Ft.tup (m:=24) (n:=10000) (k:=1) (by unfold spsZ;simp;omega) (λu hu=>by
    unfold spsZ at hu;obtain⟨j,hj,rfl⟩:=List.mem_map.mp hu;have hj:=List.mem_range.mp hj;exact jki x8 (g (j+1) (by omega) (by omega)).2) (by decide)
   have f3:Ft 480109 3 (.tup [.tup ((nmZ ls).map .str),.tup (spsZ ls (ls.length-1))]):=Ft.tup (m:=2) (n:=240051) (k:=2) (Yaf _) (λu hu=>by
    rcases YaL.mp hu with rfl|hu
    ·exact f1.mono (by decide) (by decide)
    ·rw[List.mem_singleton.mp hu];exact f2) (by decide)
   exact⟨_,λG Q q=>⟨λ_ G' s=>jmf f3 (by decide) (by decide) (q _ _ s),λa b h=>(hF ⟨a,b,h⟩).elim⟩⟩
  ·exact⟨"",λG Q q=>⟨λh=>(hR h).elim,λa b h=>(hF ⟨a,b,h⟩).elim⟩⟩
theorem jk2 {G:Gp}{a b:Addr}{l:List Str}{φ:Bool->Prop}(ga:G a=some (.lst (l.map .str)))(gb:G b=some (.lst (l.map .str)))(h:∀x∈l,∀c∈x.cps.toList,c<128)(q:φ false):cmpU .NotEq (.loc a) (.loc b) G φ:=by
 obtain⟨s1,d1⟩:=jbV (G:=G) h;refine⟨.list (l.map .str),.list (l.map .str),.lst (by unfold lsG;rw[ga]) d1,.lst (by unfold lsG;rw[gb]) d1,s1,s1,?_⟩
 rw[Yez _ s1.1];exact q
theorem Nms.wn {xs:List Str}(h:Nms xs):Wn xs:=λx hx=>⟨(h.ok x hx).l8,(h.ok x hx).ch⟩

structure Sb (G:Gp)(as:List Addr):Prop where
 b:∀a∈as,∃ls,Bd 3220 2000 ls/\G a=some (.lst (ls.map .str))
theorem Sb.sa {G G':Gp}{as:List Addr}(h:Sb G as)(s:Sa G G'):Sb G' as:=⟨λa ha=>let ⟨ls,b,g⟩:=h.b a ha;⟨ls,b,s _ _ g⟩⟩
theorem Sb.app {G:Gp}{as bs:List Addr}(h:Sb G as)(h':Sb G bs):Sb G (as++bs):=⟨λa ha=>(List.mem_append.mp ha).elim (h.b a) (h'.b a)⟩
theorem Sb.one {G:Gp}{a:Addr}{ls:List Str}(g:G a=some (.lst (ls.map .str)))(b:Bd 3220 2000 ls):Sb G [a]:=⟨λx hx=>by rw[List.mem_singleton.mp hx];exact⟨ls,b,g⟩⟩
theorem jiY {G:Gp}{ps a:Addr}{l:List Addr}{ys:List Str}(g:G ps=some (.lst (l.map .loc)))(h0:l≠[])(ga:G a=some (.lst (ys.map .str))):a≠ps:=λz=>by
 rw[z,g]at ga;have e:l.map U.loc=ys.map .str:=by injection ga with e;injection e
 cases l with
 |nil=>exact h0 rfl
 |cons x r=>
  cases ys with
  |nil=>cases e
  |cons y t=>rw[YaA,YaA]at e;injection e with e _;cases e
section
variable {k:Nat}{G:Gp}{Q:K1}{X:KX}
theorem jlX {z:Int}(h:z.natAbs.log2<1920)(q:Q (.str (nstr z)) G):strU [.int z] G Q:=⟨h,q⟩
theorem jmW {a:Addr}{x:Str}{n:Nat}(g:G a=some (.lst [.str x]))(hn:n<=100)(q:∀(p:Addr) (G':Gp),Sa G G'->G' p=some (.lst ((Yab n x).map .str))->Q (.loc p) G'):binU .Mult (.loc a) (.int n) G Q:=by
 have hz:(1000:Nat)<=Yac:=by decide
 rw[jjW];refine⟨_,g,by omega,by omega,by simp;omega,λp G' n'=>q p G' n'.sa ?_⟩
 rw[n'.at];have:∀m:Nat,(Yab m [U.str x]).flatten=(Yab m x).map .str:=λm=>by
  induction m with
  |zero=>rfl
  |succ m ih=>rw[YaH,YbG,ih,YaH,YaA];rfl
 rw[<- this];simp
noncomputable def rWk:Str := "works a b c d e f g h"
noncomputable def rSp:Str := "span a a 0 0"
theorem ja7:∀x∈([rWk,rSp,rWk ++ " i",rSp ++ " 0", "cut", "works a", "works abcdefgh", "works abcdefghi", "span a a 0", "works a a", "", "works", "span a b 0 0", "span", "span a a ", "apart a a "]:List Str),x.length<=40/\As x:=by
 have:∀x∈([rWk,rSp,rWk ++ " i",rSp ++ " 0", "cut", "works a", "works abcdefgh", "works abcdefghi", "span a a 0", "works a a", "", "works", "span a b 0 0", "span", "span a a ", "apart a a "]:List Str),x.length<=40/\∀c∈x.cps.toList,c<128:=by decide +kernel
 exact this
theorem jkW {R:K1}{n:Nat}(hn:n<=30)(q:∀(p:Addr) (G':Gp),Sa G G'->G' p=some (.lst ((rWk::Yab n rSp).map .str))->R (.loc p) G') :
  0+1<=Yac/\newO G (.lst [.str rWk]) λx G1=>0+1<=Yac/\newO G1 (.lst [.str rSp]) λy G2=>binU .Mult y (.int n) G2 λz G3=>binU .Add x z G3 R:=by
 have hz:(1000:Nat)<=Yac:=by decide
 refine⟨by decide,λp1 G1 n1=>⟨by decide,λp2 G2 n2=>?_⟩⟩
 refine jmW n2.at (by omega) λp3 G3 s3 g3=>?_
 refine jgy (xs:=[rWk]) (ys:=Yab n rSp) (s3 _ _ (n2.sa _ _ n1.at)) g3 (by simp;omega) λp4 G4 _ s4 g4=>?_
 exact q p4 G4 (n1.sa.trans (n2.sa.trans (s3.trans s4))) g4
theorem jj3 {n:Nat}(hn:n<=30):Bd 100 100 (rWk::Yab n rSp):=⟨by simp;omega,λx hx=>by
 rcases YaL.mp hx with rfl|hx
 ·have:=ja7 rWk (by simp);exact⟨by omega,this.2⟩
 ·rw[Ye1 hx];have:=ja7 rSp (by simp);exact⟨by omega,this.2⟩⟩
theorem jiR {t:Nat}(h:t<=20000):(nstr t).length<=5/\As (nstr t)/\(t:Int).natAbs.log2<1920:=by
 have e:nstr (t:Int)=⟨((Ybm 10 t).map Ybz).toArray⟩:=YcN t;refine⟨?_,λc hc=>?_,?_⟩
 ·rw[e];show(((Ybm 10 t).map Ybz).toArray).size<=5;rw[Yai,Yah];exact(Yb9 (by decide) (by decide)).mpr (by omega)
 ·rw[e]at hc;have hc:c∈(Ybm 10 t).map Ybz:=hc;obtain⟨d,hd,rfl⟩:=List.mem_map.mp hc;have:=YeJ (by decide) (by decide) hd
  unfold Char.isDigit at this;have b:=of_decide_eq_true ((Yap _ _).mp this).2;exact Ya3 (UInt32.le_iff_toNat_le.mp b) (by decide)
 ·have h2:(t:Int).natAbs<2 ^ 15:=by omega
  by_cases hz:(t:Int).natAbs=0
  ·rw[hz];decide
  ·exact YcD ((YfX hz).mpr h2) (by decide)
theorem jjw {t:Int}(h0:0<=t)(h1:t<=10000):(nstr t).length<=5/\As (nstr t)/\t.natAbs.log2<1920:=by
 obtain⟨j,rfl⟩:=Ya0 h0;exact jiR (by omega)
theorem jdI {A:Str}{t:Int}{R:K1}(hA:A.length<=40/\As A)(h0:0<=t)(h1:t<=10000)(q:∀w:Str,w.length<=46/\As w->R (.str w) G):strU [.int t] G λy G2=>binU .Add (.str A) y G2 λx G1=>binU .Add x (.str " ") G1 R:=by
 have hz:(1000:Nat)<=Yac:=by decide
 obtain⟨a,b,c⟩:=jjw h0 h1;have e1:=jaA A (nstr t);have e2:=jaA (A++nstr t) " ";rw[jb9]at e2;refine jlX c (jaF (by omega) (jaF (by rw[jb9];omega) (q _ ⟨by omega,(hA.2.app b).app jgP⟩)))
theorem jcE {w:Str}{t:Int}{R:K1}(hw:w.length<=46/\As w)(h0:0<=t)(h1:t<=10000)(q:∀v:Str,v.length<=60/\As v->R (.str v) G):strU [.int t] G λy G2=>binU .Add (.str w) y G2 R:=by
 have hz:(1000:Nat)<=Yac:=by decide
 obtain⟨a,b,c⟩:=jjw h0 h1;have e1:=jaA w (nstr t);refine jlX c (jaF (by omega) (q _ ⟨by omega,hw.2.app b⟩))
theorem jaI {f c ps pg:Addr}{as:List Addr}{xs:List Str}{R:K1}(gs:G ps=some (.lst (as.map .loc)))(hne:as≠[])(sb:Sb G as)(gg:G pg=some (.lst (xs.map .str)))(bd:Bd 3220 2000 xs)(hl:as.length<=100)(hf:Fd G f c)
  (q:∀G',Put G ps (.lst ((as++[pg]).map .loc)) G'->Fd G' f c->Sb G' (as++[pg])->G' ps=some (.lst ((as++[pg]).map .loc))->R .non G'):jax .append (.loc ps) [.loc pg] G R:=by
 have hz:(1000:Nat)<=Yac:=by decide
 rw[jfl gs];refine⟨by simp;omega,λG' w=>?_⟩
 rw[show as.map U.loc++[U.loc pg]=(as++[pg]).map .loc by simp]at w
 have psf:=hf.ne_l gs;have psc:ps≠c:=λz=>by
  obtain⟨ns',_,_,_,_,h2,_⟩:=hf.ex;rw[<- z,gs]at h2;have e:as.map U.loc=ns'.map .int:=by injection h2 with e;injection e
  cases as with
  |nil=>exact hne rfl
  |cons x r=>
   cases ns' with
   |nil=>cases e
   |cons y t=>rw[YaA,YaA]at e;injection e with e _;cases e
 refine q G' w (hf.off ⟨psf,psc⟩ w) ?_ w.at
 refine Sb.app ⟨λa ha=>?_⟩ (Sb.one (w.sm _ _ (jiY gs hne gg) gg) bd);obtain⟨ls,b,g⟩:=sb.b a ha;exact⟨ls,b,w.sm _ _ (jiY gs hne g) g⟩
theorem jlB {a b:Addr}{as bs:List Addr}(ga:G a=some (.lst (as.map .loc)))(gb:G b=some (.lst (bs.map .loc)))(hl:as.length+bs.length<=100)(q:∀(p:Addr) (G':Gp),Sa G G'->G' p=some (.lst ((as++bs).map .loc))->Q (.loc p) G'):binU .Add (.loc a) (.loc b) G Q:=by
 have hz:(1000:Nat)<=Yac:=by decide
 rw[jf7];exact⟨_,_,ga,gb,by simp;omega,λp G' n=>q p G' n.sa (by rw[n.at,Ybd])⟩
theorem jhe {ps:Addr}{as:List Addr}(hne:as≠[])(hl:as.length<=20)(sb:Sb G as)(gs:G ps=some (.lst (as.map .loc)))
  (q:∀(p:Addr) (as':List Addr) (G':Gp),as'≠[]->as'.length<=40->Sb G' as'->G' p=some (.lst (as'.map .loc))->Sa G G'->Q (.loc p) G') :
  0+1<=Yac/\newO G (.lst [.str "works abcdefgh"]) λx G1=>0+1<=Yac/\newO G1 (.lst [.str "works abcdefghi"]) λx1 G1=>binU .Add (.str "span a a 0 0") (.str " 0") G1 λx2 G1=>
   0+1+1<=Yac/\newO G1 (.lst [.str "works a",x2]) λx3 G1=>0+1+1<=Yac/\newO G1 (.lst [.str "works a",.str "span a a 0"]) λx4 G1=>0+1+1+1+1<=Yac/\newO G1 (.lst [x,x1,x3,x4]) λy G2=>
   binU .Add (.loc ps) y G2 λu G1=>0+1<=Yac/\newO G1 (.lst [.str "works a a"]) λx G1=>0<=Yac/\newO G1 (.lst []) λx1 G1=>0+1<=Yac/\newO G1 (.lst [.str ""]) λx2 G1=>0+1<=Yac/\newO G1 (.lst [.str "works"]) λx3 G1=>
   0+1+1<=Yac/\newO G1 (.lst [.str "works a",.str ""]) λx4 G1=>0+1+1+1+1+1<=Yac/\newO G1 (.lst [x,x1,x2,x3,x4]) λy G2=>binU .Add u y G2 λx G1=>
   0+1+1<=Yac/\newO G1 (.lst [.str "works a",.str "span a b 0 0"]) λx5 G1=>0+1+1<=Yac/\newO G1 (.lst [.str "works a",.str "span"]) λx6 G1=>0+1+1<=Yac/\newO G1 (.lst [x5,x6]) λy G2=>binU .Add x y G2 Q:=by
 have l1:∀{x:Str},x∈([rWk,rSp,rWk ++ " i",rSp ++ " 0", "cut", "works a", "works abcdefgh", "works abcdefghi", "span a a 0", "works a a", "", "works", "span a b 0 0", "span", "span a a ", "apart a a "]:List Str)->Bd 3220 2000 [x]:=λ{x} h=>(Bd.one (ja7 x h).1 (ja7 x h).2).up (by decide) (by decide)
 have l2:∀{x:Str},x∈([rWk,rSp,rWk ++ " i",rSp ++ " 0", "cut", "works a", "works abcdefgh", "works abcdefghi", "span a a 0", "works a a", "", "works", "span a b 0 0", "span", "span a a ", "apart a a "]:List Str)->Bd 3220 2000 ["works a",x]:=λ{x} h=>((l1 (x := "works a") (by simp)).app (l1 h)) |> λb=>⟨by simp,b.l⟩
 refine⟨by decide,λq1 H1 m1=>⟨by decide,λq2 H2 m2=>jaF (by decide) ⟨by decide,λq3 H3 m3=>⟨by decide,λq4 H4 m4=>⟨by decide,λq5 H5 m5=>?_⟩⟩⟩⟩⟩
 have sa5:Sa G H5:=m1.sa.trans (m2.sa.trans (m3.sa.trans (m4.sa.trans m5.sa)));have b5:Sb H5 [q1,q2,q3,q4]:=
  ((Sb.one (ls:=["works abcdefgh"]) m1.at (l1 (by simp))).sa (m2.sa.trans (m3.sa.trans (m4.sa.trans m5.sa)))).app
   (((Sb.one (ls:=["works abcdefghi"]) m2.at (l1 (by simp))).sa (m3.sa.trans (m4.sa.trans m5.sa))).app
    (((Sb.one (ls:=["works a",rSp ++ " 0"]) m3.at (l2 (by simp))).sa (m4.sa.trans m5.sa)).app ((Sb.one (ls:=["works a", "span a a 0"]) m4.at (l2 (by simp))).sa m5.sa)))
 refine jlB (bs:=[q1,q2,q3,q4]) (sa5 _ _ gs) m5.at (by simp;omega) λp6 H6 s6 g6=>?_
 have b6:Sb H6 (as++[q1,q2,q3,q4]):=((sb.sa sa5).app b5).sa s6;refine⟨by decide,λt1 J1 o1=>⟨by decide,λt2 J2 o2=>⟨by decide,λt3 J3 o3=>⟨by decide,λt4 J4 o4=>⟨by decide,λt5 J5 o5=>⟨by decide,λt6 J6 o6=>?_⟩⟩⟩⟩⟩⟩
 have sa6:Sa H6 J6:=o1.sa.trans (o2.sa.trans (o3.sa.trans (o4.sa.trans (o5.sa.trans o6.sa))));have c6:Sb J6 [t1,t2,t3,t4,t5]:=
  ((Sb.one (ls:=["works a a"]) o1.at (l1 (by simp))).sa (o2.sa.trans (o3.sa.trans (o4.sa.trans (o5.sa.trans o6.sa))))).app
   (((Sb.one (ls:=[]) o2.at (Bd.nil.up (Yaf _) (by decide))).sa (o3.sa.trans (o4.sa.trans (o5.sa.trans o6.sa)))).app
    (((Sb.one (ls:=[""]) o3.at (l1 (by simp))).sa (o4.sa.trans (o5.sa.trans o6.sa))).app
     (((Sb.one (ls:=["works"]) o4.at (l1 (by simp))).sa (o5.sa.trans o6.sa)).app ((Sb.one (ls:=["works a", ""]) o5.at (l2 (by simp))).sa o6.sa))))
 refine jlB (bs:=[t1,t2,t3,t4,t5]) (sa6 _ _ g6) o6.at (by simp;omega) λp7 H7 s7 g7=>?_
 have b7:Sb H7 (as++[q1,q2,q3,q4]++[t1,t2,t3,t4,t5]):=((b6.sa sa6).app c6).sa s7;refine⟨by decide,λu1 K1 e1=>⟨by decide,λu2 K2 e2=>⟨by decide,λu3 K3 e3=>?_⟩⟩⟩
 have sa8:Sa H7 K3:=e1.sa.trans (e2.sa.trans e3.sa);have d8:Sb K3 [u1,u2]:=((Sb.one (ls:=["works a", "span a b 0 0"]) e1.at (l2 (by simp))).sa (e2.sa.trans e3.sa)).app ((Sb.one (ls:=["works a", "span"]) e2.at (l2 (by simp))).sa e3.sa)
 refine jlB (bs:=[u1,u2]) (sa8 _ _ g7) e3.at (by simp;omega) λp9 H9 s9 g9=>?_
 exact q p9 _ H9 (by simp) (by simp;omega) (((b7.sa sa8).app d8).sa s9) g9 (sa5.trans (s6.trans (sa6.trans (s7.trans (sa8.trans s9)))))
theorem jee {f c:Addr}(hf:Fd G f c)(q:∀(p:Addr) (as:List Addr) (G':Gp),as≠[]->as.length<=40->Sb G' as->G' p=some (.lst (as.map .loc))->Fd G' f c->Sm f G G'->Q (.loc p) G'):jac T (k+3) jbg [.loc f] G Q X:=by
 refine⟨rfl,?_⟩;simp! only[jbm,jaf,Yab];refine jai hf (by omega) (by omega) λr G1 r0 r1 f1 s1=>?_
 simp! only[];refine⟨by decide,λpa Ga na=>?_⟩
 refine jaF (by decide) ⟨by decide,λpb Gb nb=>?_⟩
 refine jkW (n:=24) (by decide) λpc Gc sc gc=>?_
 refine jkW (n:=25) (by decide) λpd Gd sd gd=>?_
 refine⟨by decide,λps Gs ns=>?_⟩
 have up:∀{xs:List Str},Bd 100 100 xs->Bd 3220 2000 xs:=λb=>b.up (by decide) (by decide)
 have l40:∀{x:Str},x.length<=40/\As x->Bd 3220 2000 [x]:=λh=>(Bd.one h.1 h.2).up (by decide) (by decide)
 have sb:Sb Gs [pa,pb,pc,pd]:=by
  have a1:Sb Gs [pa]:=(Sb.one (ls:=[rWk]) na.at (l40 (ja7 _ (by simp)))).sa (nb.sa.trans (sc.trans (sd.trans ns.sa)))
  have a2:Sb Gs [pb]:=(Sb.one (ls:=[rWk ++ " i"]) nb.at (l40 (ja7 _ (by simp)))).sa (sc.trans (sd.trans ns.sa))
  have a3:Sb Gs [pc]:=(Sb.one gc (up (jj3 (by decide)))).sa (sd.trans ns.sa)
  have a4:Sb Gs [pd]:=(Sb.one gd (up (jj3 (by decide)))).sa ns.sa
  exact a1.app (a2.app (a3.app a4))
 have gs:Gs ps=some (.lst ([pa,pb,pc,pd].map .loc)):=ns.at
 have saS:Sa G1 Gs:=na.sa.trans (nb.sa.trans (sc.trans (sd.trans ns.sa)));have fs:=f1.sa saS;have hps:G1 ps=none:=by
  cases z:G1 ps with
  |none=>rfl
  |some o=>have:=ns.no;rw[sd _ _ (sc _ _ (nb.sa _ _ (na.sa _ _ z)))]at this;cases this
 have put:∀{A B:Gp} {o:MO},Sm f G1 A->Put A ps o B->Sm f G1 B:=λs w b o hbf hb=>w.sm b o (λz=>by rw[z,hps]at hb;cases hb) (s b o hbf hb)
 dsimp only;rw[jaN gs];dsimp only;have wa:∀{v:Str},v.length<=60/\As v->Bd 3220 2000 ["works a",v]:=λ{v} h=>⟨by simp,λx hx=>by
  rcases YaL.mp hx with rfl|hx
  ·have:=ja7 "works a" (by simp);exact⟨by omega,this.2⟩
  ·rw[List.mem_singleton.mp hx];exact⟨by omega,h.2⟩⟩
 refine jkW (n:=24) (by decide) λpe Ge se ge=>⟨by decide,λpf Gf nf=>?_⟩
 refine jgy (xs:=rWk::Yab 24 rSp) (ys:=["cut"]) (nf.sa _ _ ge) nf.at (by decide) λpg Gg _ sg gg=>?_
 have sa1:Sa Gs Gg:=se.trans (nf.sa.trans sg);refine jaI (sa1 _ _ gs) (by simp) (sb.sa sa1) gg (up (Bd.app (M':=1) (jj3 (n:=24) (by decide)) (Bd.one (L:=100) (x := "cut") (by decide) (ja7 "cut" (by simp)).2) |>.up (Yaf _) (Yaf _) |> λh=>⟨by decide,h.l⟩)) (by simp) (fs.sa sa1) λG2 w2 f2 sb2 gs2=>?_
 rw[jaN gs2];dsimp only;refine jdI (ja7 "span a a " (by simp)) r0 (by omega) λw hw=>jcE hw r0 (by omega) λv hv=>⟨by decide,λph Gh nh=>?_⟩
 refine jaI (nh.sa _ _ gs2) (by simp) (sb2.sa nh.sa) (xs:=["works a",v]) nh.at (wa hv) (by simp) (f2.new nh) λG3 w3 f3 sb3 gs3=>?_
 rw[jaN gs3];dsimp only;have m0:0<=(if r-1>0 then r-1 else 0)/\(if r-1>0 then r-1 else 0)<=10000:=by split<;>omega
 refine jdI (ja7 "span a a " (by simp)) r0 (by omega) λw' hw'=>?_
 by_cases hr:0<r
 ·rw[if_pos (decide_eq_true hr)];refine jcE hw' (by omega) (by omega) λv2 hv2=>⟨by decide,λpi Gi ni=>?_⟩
  refine jaI (ni.sa _ _ gs3) (by simp) (sb3.sa ni.sa) (xs:=["works a",v2]) ni.at (wa hv2) (by simp) (f3.new ni) λG4 w4 f4 sb4 gs4=>?_
  rw[jaN gs4];dsimp only;refine jdI (ja7 "apart a a " (by simp)) r0 (by omega) λw5 hw5=>jcE hw5 m0.1 m0.2 λv5 hv5=>⟨by decide,λpj Gj nj=>?_⟩
  refine jaI (nj.sa _ _ gs4) (by simp) (sb4.sa nj.sa) (xs:=["works a",v5]) nj.at (wa hv5) (by simp) (f4.new nj) λG5 w5' f5 sb5 gs5=>?_
  refine jhe (by simp) (by simp) sb5 gs5 λp as' G' h1 h2 h3 h4 h5=>?_
  have z2:Sm f G1 G2:=put (saS.trans sa1).sm w2;have z3:Sm f G1 G3:=put (z2.trans nh.sa.sm) w3;have z4:Sm f G1 G4:=put (z3.trans ni.sa.sm) w4;have z5:Sm f G1 G5:=put (z4.trans nj.sa.sm) w5';exact q p as' G' h1 h2 h3 h4 (f5.sa h5) (s1.trans (z5.trans h5.sm))
 ·rw[if_neg (by simpa using hr)]
  refine jcE hw' (by omega) (by omega) λv2 hv2=>⟨by decide,λpi Gi ni=>?_⟩
  refine jaI (ni.sa _ _ gs3) (by simp) (sb3.sa ni.sa) (xs:=["works a",v2]) ni.at (wa hv2) (by simp) (f3.new ni) λG4 w4 f4 sb4 gs4=>?_
  rw[jaN gs4];dsimp only;refine jdI (ja7 "apart a a " (by simp)) r0 (by omega) λw5 hw5=>jcE hw5 m0.1 m0.2 λv5 hv5=>⟨by decide,λpj Gj nj=>?_⟩
  refine jaI (nj.sa _ _ gs4) (by simp) (sb4.sa nj.sa) (xs:=["works a",v5]) nj.at (wa hv5) (by simp) (f4.new nj) λG5 w5' f5 sb5 gs5=>?_
  refine jhe (by simp) (by simp) sb5 gs5 λp as' G' h1 h2 h3 h4 h5=>?_
  have z2:Sm f G1 G2:=put (saS.trans sa1).sm w2;have z3:Sm f G1 G3:=put (z2.trans nh.sa.sm) w3;have z4:Sm f G1 G4:=put (z3.trans ni.sa.sm) w4;have z5:Sm f G1 G5:=put (z4.trans nj.sa.sm) w5';exact q p as' G' h1 h2 h3 h4 (f5.sa h5) (s1.trans (z5.trans h5.sm))
end

noncomputable def bL:Nat->Nat
 |0=>340
 |m+1=>3*bL m+40
noncomputable def bM:Nat->Nat
 |0=>76
 |m+1=>3*bM m+1
theorem b_le {m:Nat}(h:m<=2):bL m<=3220/\bM m<=2000/\340<=bL m/\(m<=1->bL m<=3000/\bM m<=6000):=by
 rcases(show m=0\/m=1\/m=2 by omega)with rfl|rfl|rfl<;>decide
theorem jiZ {xs:List Str}{ss:List Spn}(h:Pl xs ss):Bd 100 25 (jek xs ss):=by
 refine⟨by unfold jek;have:=h.sl;simp;omega,λx hx=>?_⟩
 unfold jek at hx;rcases YaL.mp hx with rfl|hx
 ·exact jhv h.wl
 ·obtain⟨s,hs,rfl⟩:=List.mem_map.mp hx;exact jhv (h.sw hs)
theorem law_ir (a:Addr)(ns:List Int)(hl:ns.length<=63):jac T 300 jk3 [.loc a] (G0 a ns) (λu _=>u=.bl true) λ_ _=>False:=by
 refine⟨rfl,?_⟩;simp! only[jny,jaf,Yab];refine jkZ (by unfold G0;rw[if_pos rfl]) hl λf c G1 f1=>?_
 simp! only[];refine jee f1 λps as0 G2 hne0 hl0 sb0 gs0 f2 s2=>⟨by decide,by decide,?_⟩
 refine jaB (λi ς G'=>(∃o3 o4 o5 o6 o7 o8 o9,ς=[some (.loc a),some (.loc f),some (.loc ps),o3,o4,o5,o6,o7,o8,o9])/\Fd G' f c/\∃as:List Addr,as≠[]/\as.length<=40+8*i/\Sb G' as/\G' ps=some (.lst (as.map .loc))) ?_ ?_ ⟨⟨_,_,_,_,_,_,_,rfl⟩,f2,as0,hne0,by omega,sb0,gs0⟩
 ·rintro ς G3 ⟨⟨o3,o4,o5,o6,o7,o8,o9,rfl⟩,f3,as,hne,hal,sb,gs⟩;simp! only[];rw[it_l gs];refine⟨trivial,?_⟩;refine jaB (λm ς G'=>(∃o3 o4 o5 o6 o7 o8 o9,ς=[some (.loc a),some (.loc f),some (.loc ps),o3,o4,o5,o6,o7,o8,o9])/\Sa G3 G') ?_ ?_ ⟨⟨_,_,_,_,_,_,_,rfl⟩,Sa.refl⟩
  ·rintro ς G4 ⟨⟨o3,o4,o5,o6,o7,o8,o9,rfl⟩,s4⟩;simp! only[];exact⟨by unfold lsG;rw[s4 _ _ gs],trivial⟩
  ·rintro m x ς G4 K hx ⟨⟨o3,o4,o5,o6,o7,o8,o9,rfl⟩,s4⟩ hk;obtain⟨p,hp,rfl⟩:∃p,p∈as/\x=.loc p:=by
    obtain⟨p,hp,e⟩:=List.mem_map.mp (Ybq hx);exact⟨p,hp,e.symm⟩
   obtain⟨ls,bls,gls⟩:=sb.b p hp;have gq:=s4 _ _ gls;refine⟨by unfold lsG;rw[s4 _ _ gs],?_⟩
   simp! only[it_l gq];intro ph G5 n5;have l2:ls.length<=20000:=Yak bls.n (by decide)
   have l9:∀y∈ls,y.length<=9000/\As y:=λy hy=>⟨Yak (bls.l y hy).1 (by decide),(bls.l y hy).2⟩
   obtain⟨z0,hz0⟩:=jlE l2 l9;refine jiL (k:=293) l2 l9 n5.at (hz0 G5 _ λu G6 s6=>?_);refine jiM (k:=296) l2 l9 (s6 _ _ (n5.sa _ _ gq)) (hz0 G6 _ λu' G7 s7=>?_);rw[jhi,decide_eq_true rfl,if_neg (by simp)]
   refine jk2 (s7 _ _ (s6 _ _ n5.at)) (s7 _ _ (s6 _ _ (n5.sa _ _ gq))) (λy hy=>(bls.l y hy).2) ?_;rw[if_neg (by simp)]
   exact hk _ _ ⟨⟨_,_,_,_,_,_,_,rfl⟩,s4.trans (n5.sa.trans (s6.trans s7))⟩
 ·rintro i x ς G3 K hx ⟨⟨o3,o4,o5,o6,o7,o8,o9,rfl⟩,f3,as,hne,hal,sb,gs⟩ hk;obtain⟨hi,rfl⟩:=jbd hx;have hi:i<3:=by simpa using hi
  refine⟨trivial,?_⟩;simp! only[];refine jiO f3 λP G4 p1 p6 f4 s4=>?_;refine jkY f4 (by omega) (by omega) λxs ss G5 x0 x8 hxs sl so f5 s5=>?_
  have hP:Pl xs ss:=⟨x0,x8,hxs,sl,so⟩;have e1:atI [U.tup (xs.map U.str),U.tup (ss.map Spn.u)] 0=some (U.tup (xs.map U.str)):=jfj _ _;refine jec hP λpl G6 h6 s6 g6=>?_;have b0:=jiZ hP;have sm6:Sm f G3 G6:=s4.trans (s5.trans s6.sm);have f6:=f5.sa s6;have keep:∀{A B:Gp} {bs:List Addr},Fd A f c->Sm f A B->Sb A bs->Sb B bs:=λfa s h=>⟨λq hq=>let ⟨ls,b,g⟩:=h.b q hq;⟨ls,b,s _ _ (fa.ne_l g) g⟩⟩
  have gs6:=sm6 _ _ (f3.ne_l gs) gs;have sb6:=keep f3 sm6 sb;simp! only[jaN gs6];refine jaI gs6 hne sb6 g6 (b0.up (by decide) (by decide)) (by omega) f6 λG7 w7 f7 sb7 gs7=>?_
  have g7:=w7.sm _ _ (jiY gs6 hne g6) g6;refine⟨by decide,by decide,?_⟩
  refine jaB (λj ς G'=>(∃o6 o7 o8 o9,ς=[some (.loc a),some (.loc f),some (.loc ps),some (.int i),some (.tup [.tup (xs.map .str),.tup (ss.map Spn.u)]),some (.loc pl),o6,o7,o8,o9])/\Fd G' f c/\G' pl=some (.lst ((jek xs ss).map .str))/\∃bs:List Addr,bs≠[]/\bs.length<=41+8*i+j/\Sb G' bs/\G' ps=some (.lst (bs.map .loc))) ?_ ?_ ⟨⟨_,_,_,_,rfl⟩,f7,g7,_,by simp,by simp;omega,sb7,gs7⟩
  ·rintro ς G8 ⟨⟨o6,o7,o8,o9,rfl⟩,f8,g8,bs,bne,bl,sb8,gs8⟩;have el:(rngU 0 (Yfx 6)).length=6:=by unfold rngU;simp
   rw[el]at bl;simp! only[jaN gs8];refine⟨trivial,jaI gs8 bne sb8 g8 (b0.up (by decide) (by decide)) (by omega) f8 λG9 w9 f9 sb9 gs9=>?_⟩
   exact hk _ _ ⟨⟨_,_,_,_,_,_,_,rfl⟩,f9,_,by simp,by simp;omega,sb9,gs9⟩
  ·rintro j x ς G8 K' hx ⟨⟨o6,o7,o8,o9,rfl⟩,f8,g8,bs,bne,bl,sb8,gs8⟩ hk2;obtain⟨hj,rfl⟩:=jbd hx;have hj:j<6:=by simpa using hj
   refine⟨trivial,?_⟩;simp! only[ix_t e1];refine jbH (k:=295) f8 hxs.wn x0 (by omega) (L:=100) (M:=25) (by decide) (by decide) (by decide) b0 g8 λp1 ys G9 by1 gy1 f9 s9=>?_
   refine jai f9 (by omega) (by omega) λd G10 d0 d1 f10 s10=>?_
   have g10:=s10 _ _ (f9.ne_l gy1) gy1;refine⟨by omega,by omega,?_⟩
   refine jaB (λm ς G'=>(∃p' o8,ς=[some (.loc a),some (.loc f),some (.loc ps),some (.int i),some (.tup [.tup (xs.map .str),.tup (ss.map Spn.u)]),some (.loc pl),some (.int j),some (.loc p'),o8,o9]/\∃ys,G' p'=some (.lst (ys.map .str))/\Bd (bL m) (bM m) ys)/\Fd G' f c/\Sm f G8 G') ?_ ?_ ⟨⟨_,_,rfl,ys,g10,by1⟩,f10,s9.trans s10⟩
   ·rintro ς G11 ⟨⟨p',o8',rfl,ys,gy,by'⟩,f11,s11⟩
    have el:(rngU 0 d.toNat).length=d.toNat:=by unfold rngU;simp
    rw[el]at by'
    have hb':=b_le (m:=d.toNat) (by omega)
    have gs11:=s11 _ _ (f8.ne_l gs8) gs8;simp! only[jaN gs11];refine⟨trivial,jaI gs11 bne (keep f8 s11 sb8) gy (by'.up hb'.1 hb'.2.1) (by omega) f11 λG12 w12 f12 sb12 gs12=>?_⟩
    have g11:=s11 _ _ (f8.ne_l g8) g8;exact hk2 _ _ ⟨⟨_,_,_,_,rfl⟩,f12,w12.sm _ _ (jiY gs11 bne g11) g11,_,by simp,by simp;omega,sb12,gs12⟩
   ·rintro m x ς G11 K3 hx ⟨⟨p',o8',rfl,ys,gy,by'⟩,f11,s11⟩ hk3
    obtain⟨hm,rfl⟩:=jbd hx;have hb':=b_le (m:=m) (by omega)
    have hb2:=hb'.2.2.2 (by omega)
    refine⟨trivial,?_⟩;simp! only[ix_t e1];refine jbH (k:=295) f11 hxs.wn x0 (by omega) (L:=bL m) (M:=bM m) (by omega) hb2.1 hb2.2 by' gy λp2 ys2 G12 by2 gy2 f12 s12=>?_
    exact hk3 _ _ ⟨⟨_,_,rfl,ys2,gy2,by2⟩,f12,s11.trans s12⟩

noncomputable def sts:List Stmt:=[s_is_name,s_words_of,s_number_in,s_first_fault,s_works_fault,s_span_fault,s_span_in,s_read_plan,s_law_feed,s_law_draw,s_law_names,s_law_cycle,s_law_number,s_law_span,s_law_plan,s_law_lines,s_law_figures,s_law_is_name,s_law_span_words,s_law_read,s_law_word,s_law_line_bent,s_law_told,s_law_lines_bent,s_law_at_bounds,s_law]
theorem prog_rep:jdD T 0 T.funs sts=true:=by decide +kernel
theorem jc5:NestS T sts ja1 s_works_fault jbB ja2 s_first_fault jaS jaT where
 sc:=jge (by decide +kernel)
 body:=rfl
 text:=⟨_,_,_,_,_,_,_,_,rfl,by unfold tabs;exact Ygd _⟩
 wi:=rfl
 wv:=.inr rfl
 fi:=rfl
 fl:=rfl
 gl:=rfl
 dbg:=⟨rfl,rfl,rfl,rfl,rfl⟩
 caps:=λi j e=>by
  rcases i with _|i
  ·cases e;exact⟨by decide,_,rfl,rfl,rfl,rfl⟩
  cases e
 wlt:=by decide
 fge:=by decide
 frees:=by decide +kernel
 cs:=jjU (by decide +kernel)
 args:=⟨rfl,rfl⟩
 ann:=λ_=>rfl
 bind:=λ_ _ _ _ _ _ _=>rfl
 ff:=rfl
 ffs:=rfl
 ffb:=rfl
 ffp:=rfl
 ffl:=rfl
 hdv:=rfl
 dvb:=rfl
 dvN:=rfl
 hdc:=rfl
 dcp:=rfl
 dcN:=by decide
 ok:=by decide +kernel
 un:=rfl
theorem jdJ:NestS T sts jbk s_span_fault jb7 ja2 s_first_fault jaZ ja0 where
 sc:=jge (by decide +kernel)
 body:=rfl
 text:=⟨_,_,_,_,_,_,_,_,rfl,by unfold tabs;exact List.Mem.tail _ (Ygd _)⟩
 wi:=rfl
 wv:=.inr rfl
 fi:=rfl
 fl:=rfl
 gl:=rfl
 dbg:=⟨rfl,rfl,rfl,rfl,rfl⟩
 caps:=λi j e=>by
  rcases i with _|i
  ·cases e;exact⟨by decide,_,rfl,rfl,rfl,rfl⟩
  rcases i with _|i
  ·cases e;exact⟨by decide,_,rfl,rfl,rfl,rfl⟩
  cases e
 wlt:=by decide
 fge:=by decide
 frees:=by decide +kernel
 cs:=jjU (by decide +kernel)
 args:=⟨rfl,rfl⟩
 ann:=λ_=>rfl
 bind:=λ_ _ _ _ _ _ _=>rfl
 ff:=rfl
 ffs:=rfl
 ffb:=rfl
 ffp:=rfl
 ffl:=rfl
 hdv:=rfl
 dvb:=rfl
 dvN:=rfl
 hdc:=rfl
 dcp:=rfl
 dcN:=by decide
 ok:=by decide +kernel
 un:=rfl
theorem prog_eq:jd2 T sts 0 T.funs sts:=⟨rfl,rfl,rfl,rfl,⟨rfl,_,_,_,_,jc5⟩,⟨rfl,_,_,_,_,jdJ⟩,rfl,rfl,rfl,rfl,rfl,rfl,rfl,rfl,rfl,rfl,rfl,rfl,rfl,rfl,rfl,rfl,rfl,rfl,rfl,rfl,trivial⟩
theorem tabsU:∀t∈tabs,∀t'∈tabs,t.1=t'.1->t=t':=by
 intro t h t' h' e;simp only[tabs,YaL,Yax,or_false]at h;simp only[tabs,YaL,Yax,or_false]at h';rcases h with rfl|rfl<;>rcases h' with rfl|rfl<;>first|rfl|exact absurd e (by decide)
noncomputable def tbs:List (Str×Addr×Addr):=[("works_fault",152,148),("span_fault",159,155)]
theorem walk {l:Yea}{q:Program}{loose:List Str}{XP:(Str->Option Value)->Heap->Prop}{YP:World->Heap->Prop}{d:DefRec}{K:Params->Yaa}(hn:l.most=some 63)(hdf:d.params.defaults=[])
  (hY:∀(w:World) (h:Heap),YP w h->(K w.params).In h) (hK:∀w:World,((K w.params).all λp=>p.2.cls != .type "list")=true) (hsy:∀w:World,∃o,(K w.params).lookup Ya7=some o/\o.cls=.type "dict")
  (hT:∀(w:World),∀t∈tbs,(∃dr,(PyProof.Rows.recsOf q).find? (λe=>e.name==t.1)=some dr)/\PySem.W.tabIn (K w.params) t.1=some (t.2.1,t.2.2)/\(K w.params).lookup t.2.2=none)
  (F:∀(w:World) (mg:Str->Option Value) (fa:Addr) (h:Heap),(K w.params).In h->h.Ns YaB mg->mg d.name=some (.ref fa)->
   ∃fd:Ybk,(∀(s:Shared) (u:Value),BindsTo s fd ⟨[u],[]⟩ [("_law_script",u)])/\∀base:Heap,(K w.params).In base->base.Ns YaB mg->BmAt mg base->FnOk l.prog w (K w.params) mg base (CX1 l.prog w) 302 fa fd ["_law_script"] (lSp (K w.params) (jac T 300 jk3))) :
  Ygn q loose XP YP l.row.toRowW d [] (λf vs=>YfU f vs):=
 L2.walk_ofT (n:=63) (k:=302) (x := "_law_script") (CX:=λw=>CX1 l.prog w) (sp:=λw=>lSp (K w.params) (jac T 300 jk3)) hK hT hn (by decide) hdf ⟨rfl,by decide,by decide,rfl⟩ hY hsy F (λw _ _ a ns hl hO hS=>law_sp (by decide) hO hS (law_ir a ns hl)) λ_ _ _ _ _ ⟨_,_,_,_,_,_,_,_,_,_,z⟩=>z
end Z
namespace Y
open PySem L2
set_option maxHeartbeats 0
noncomputable def q0:Str := "/claim/cut.py"
noncomputable def q1:Str := "<module>"
noncomputable def q2:Str := "__main__"
noncomputable def q3:Str := "TooMany"
noncomputable def q4:Str := "__init__"
noncomputable def q5:Str := "NoRing.__init__"
noncomputable def q6:Str := "beatplans.errors"
noncomputable def q7:Str := "NoRing"
noncomputable def q8:Str := "NoPaper.__init__"
noncomputable def q9:Str := "__module__"
noncomputable def q10:Str := "__firstlineno__"
noncomputable def q11:Str := "__static_attributes__"
noncomputable def q12:Str := "__weakref__"
noncomputable def q13:Str := "__doc__"
noncomputable def q14:Str := "self"
noncomputable def q15:Str := "word"
noncomputable def q16:Str := "TooMany.__init__"
noncomputable def q17:Str := "__name__"
noncomputable def q18:Str := "__package__"
noncomputable def q19:Str := "__loader__"
noncomputable def q20:Str := "__spec__"
noncomputable def q21:Str := "__annotations__"
noncomputable def q22:Str := "__builtins__"
noncomputable def q23:Str := "__file__"
noncomputable def q24:Str := "__cached__"
noncomputable def q25:Str := "PlanError"
noncomputable def q26:Str := "NoPaper"
noncomputable def q27:Str := "__qualname__"
noncomputable def q28:Str := "at"
noncomputable def q29:Str := "is_name"
noncomputable def q30:Str := "beatplans.plans"
noncomputable def q31:Str := "_law_names"
noncomputable def q32:Str := "span_fault"
noncomputable def q33:Str := "_law_number"
noncomputable def q34:Str := "law_beatplans_k75_lines_that_write_no_plan"
noncomputable def q35:Str := "_law_cycle"
noncomputable def q36:Str := "span_in"
noncomputable def q37:Str := "beatplans.lines"
noncomputable def q38:Str := "works_fault"
noncomputable def q39:Str := "NoText"
noncomputable def q40:Str := "names"
noncomputable def q41:Str := "words"
noncomputable def q42:Str := "one"
noncomputable def q43:Str := "other"
noncomputable def q44:Str := "low"
noncomputable def q45:Str := "high"
noncomputable def q46:Str := "row"
noncomputable def q47:Str := "_law_feed"
noncomputable def q48:Str := "NoRow.__init__"
noncomputable def q49:Str := "number_in"
noncomputable def q50:Str := "_law_feed_here"
noncomputable def q51:Str := "_law_cycle_here"
noncomputable def q52:Str := "_law_way"
noncomputable def q53:Str := "_law_draw"
noncomputable def q54:Str := "NoRow"
noncomputable def q55:Str := "MOST_SIGNS"
noncomputable def q56:Str := "MOST_NAMES"
noncomputable def q57:Str := "MOST_SPANS"
noncomputable def q58:Str := "MOST_FIGURES"
noncomputable def q59:Str := "FIGURES"
noncomputable def q60:Str := "0123456789"
noncomputable def q61:Str := "words_of"
noncomputable def q62:Str := "first_fault"
noncomputable def q63:Str := "read_plan"
noncomputable def q64:Str := "_law_span"
noncomputable def q65:Str := "NoText.__init__"
noncomputable def q66:Str := "_law_script"
noncomputable def q67:Str := "fits"
noncomputable def q68:Str := "_law_many"
noncomputable def q69:Str := "_law_cell"
noncomputable def q70:Str := "_law_mixed"
noncomputable def q71:Str := "_law_found"
noncomputable def q72:Str := "line"
noncomputable def q73:Str := "_law_one"
noncomputable def q74:Str := "_law_other"
noncomputable def q75:Str := "_law_low"
noncomputable def q76:Str := "_law_more"
noncomputable def q77:Str := "lines"
noncomputable def q78:Str := "first"
noncomputable def q79:Str := "spans"
noncomputable def q80:Str := "least"
noncomputable def q81:Str := "_law_names_here"
noncomputable def q82:Str := "_law_some"
noncomputable def q83:Str := "_law_at_bounds"
noncomputable def q84:Str := "_law_told"
noncomputable def q85:Str := "_law_figures"
noncomputable def q86:Str := "_law_lines_bent"
noncomputable def q87:Str := "_law_word"
noncomputable def q88:Str := "_law_lines"
noncomputable def q89:Str := "_law_span_words"
noncomputable def q90:Str := "_law_works"
noncomputable def q91:Str := "_law_line"
noncomputable def q92:Str := "_law_plan"
noncomputable def q93:Str := "_law_read"
noncomputable def q94:Str := "_law_is_name"
noncomputable def q95:Str := "_law_line_bent"
noncomputable def q96:Str := "law"
noncomputable def q97:Str := "_law_words"
noncomputable def q98:Str := "_law_at"
noncomputable def q99:Str := "_law_good"
noncomputable def q100:Str := "_law_ends"
noncomputable def q101:Str := "_law_spans"
noncomputable def q102:Str := "_law_k"
noncomputable def q103:Str := "_law_lines_here"
noncomputable def q104:Str := "e"
noncomputable def q105:Str := "_law_others"
noncomputable def q106:Str := "_law_plan_here"
noncomputable def q107:Str := "_law_word_here"
noncomputable def q108:Str := "_law_high"
noncomputable def q109:Str := "_law_row"
noncomputable def q110:Str := "_law_turn"
noncomputable def q111:Str := "_law_bent"
noncomputable def q112:Str := "_law_handed"
noncomputable def h0:List Value:=[]
noncomputable def o0:Obj:=sO .none h0
noncomputable def o1:Obj:=kO q0 q1 q1 182 1 0 0 11 false .none .none .none 185
noncomputable def o2:Obj:=rO [(some (.ref 13)),(some (.ref 3)),(some (.ref 3)),none,(some (.str q2 164)),none,(some (.ref 0))]
noncomputable def o3:Obj:=cO q3 [(.ref 24)] [(.ref 63),(.ref 24),(.type "ValueError"),(.type "Exception"),(.type "BaseException"),(.type "object")] 62 [] [(some (.ref 47)),none,(some (.str q3 234)),(some (.str q3 242)),(some (.builtin "ValueError.__new__")),(some (.bool true))]
noncomputable def o4:Obj:=fO q4 q5 (jaw (Z.top 4) 0) (.str q6 187) 78
noncomputable def o5:Obj:=tO [(.ref 24)]
noncomputable def o6:Obj:=tO [(.type "ValueError")]
noncomputable def o7:Obj:=kO q0 q7 q7 261 13 0 0 69 false .none .none .none 264
noncomputable def o8:Obj:=gO q4 q8 (jaw (Z.top 2) 0)
noncomputable def o9 (P:Params):Obj:=dO (dE P q9 196 (.str q6 187)::dE P q10 200 (.int 2 199)::dE P q11 201 (.ref 22)::dE P q12 203 (.ref 25)::dE P q13 204 .none::[]) 3
noncomputable def o10:Obj:=sO (.type "builtin_function_or_method") [(.builtin "type.__prepare__"),(.type "type")]
noncomputable def o11:Obj:=sO (.type "super") [(.ref 82),(.ref 82),(.ref 82)]
noncomputable def o12:Obj:=sO .none [(.int 11 0),(.int 4 0),(.ref 59)]
noncomputable def o13:Obj:=tO [(.str q14 274),(.str q15 275)]
noncomputable def o14 (P:Params):Obj:=dO (dE P q9 214 (.str q6 187)::dE P q10 218 (.int 4 217)::dE P q4 227 (.ref 41)::dE P q11 230 (.ref 42)::dE P q13 231 .none::[]) 2
noncomputable def o15:Obj:=kO q0 q4 q16 246 11 2 3 54 true (.ref 56) (.ref 57) (.ref 58) 251
noncomputable def o16:Obj:=sO (.type "builtin_function_or_method") [(.builtin "object.__init_subclass__"),(.ref 24)]
noncomputable def g18 (P:Params):List Ycx:=dE P q13 166 .none::dE P q18 167 .none::dE P q19 168 (.builtin "__main__.__loader__#opaque")::dE P q20 169 .none::dE P q21 170 (.ref 6)::dE P q22 171 (.ref 4)::dE P q23 173 (.str q0 172)::dE P q24 174 .none::dE P q25 206 (.ref 24)::dE P q26 233 (.ref 44)::dE P q3 258 (.ref 63)::dE P q7 283 (.ref 82)::[]
noncomputable def o17 (P:Params):Obj:=dO (dE P q17 165 (.str q6 187)::g18 P) 13
noncomputable def o18:Obj:=sO (.type "builtin_function_or_method") [(.builtin "object.__init_subclass__"),(.ref 63)]
noncomputable def o19:Obj:=kO q0 q26 q26 209 4 0 0 31 false .none .none .none 212
noncomputable def o20 (P:Params):Obj:=dO (dE P q9 266 (.str q6 187)::dE P q10 270 (.int 13 269)::dE P q4 278 (.ref 79)::dE P q11 280 (.ref 80)::dE P q13 281 .none::[]) 2
noncomputable def o21 (P:Params):Obj:=dO (dE P q9 241 (.str q6 187)::dE P q27 243 (.str q3 242)::dE P q10 245 (.int 9 244)::dE P q4 253 (.ref 60)::dE P q11 255 (.ref 61)::[]) 5
noncomputable def o22 (P:Params):Obj:=dO (dE P q9 196 (.str q6 187)::dE P q27 198 (.str q25 197)::dE P q10 200 (.int 2 199)::dE P q11 201 (.ref 22)::[]) 4
noncomputable def o23:Obj:=fO q4 q8 (jaw (Z.top 2) 0) (.str q6 187) 40
noncomputable def o24:Obj:=sO (.type "getset_descriptor") [(.str q12 202),(.ref 24),(.builtin "ExceptionGroup.__weakref__"),.none]
noncomputable def o25:Obj:=tO [(.str q14 222),(.str q15 223),(.str q28 224)]
noncomputable def o26:Obj:=rO [(some (.ref 52)),(some (.ref 3)),(some (.ref 49)),none,(some (.str q6 187)),none,(some (.ref 0))]
noncomputable def o27:Obj:=rO [(some (.ref 20)),(some (.ref 3)),(some (.ref 17)),none,(some (.str q6 187)),none,(some (.ref 0))]
noncomputable def o28:Obj:=gO q4 q5 (jaw (Z.top 4) 0)
noncomputable def o29:Obj:=sO (.type "super") [(.ref 44),(.ref 44),(.ref 44)]
noncomputable def o30:Obj:=tO [(.str q15 254)]
noncomputable def o31:Obj:=sO (.type "super") [(.ref 63),(.ref 63),(.ref 63)]
noncomputable def o32:Obj:=sO .none [(.int 6 0),(.int 4 0),(.ref 40)]
noncomputable def o33:Obj:=tO [(.str q15 279)]
noncomputable def o34:Obj:=rO [(some (.ref 71)),(some (.ref 3)),(some (.ref 68)),none,(some (.str q6 187)),none,(some (.ref 0))]
noncomputable def o35:Obj:=kO q0 q4 q8 219 6 3 3 35 true (.ref 37) (.ref 38) (.ref 39) 225
noncomputable def o36:Obj:=tO [(.str q14 249),(.str q15 250)]
noncomputable def o37:Obj:=cO q25 [(.type "ValueError")] [(.ref 24),(.type "ValueError"),(.type "Exception"),(.type "BaseException"),(.type "object")] 23 [(.ref 44),(.ref 63),(.ref 82)] [(some (.ref 15)),none,(some (.str q25 189)),(some (.str q25 197)),(some (.builtin "ValueError.__new__")),(some (.bool true))]
noncomputable def o38 (P:Params):Obj:=dO (dE P q9 266 (.str q6 187)::dE P q27 268 (.str q7 267)::dE P q10 270 (.int 13 269)::dE P q4 278 (.ref 79)::dE P q11 280 (.ref 80)::[]) 5
noncomputable def o39:Obj:=sO (.type "builtin_function_or_method") [(.builtin "object.__init_subclass__"),(.ref 82)]
noncomputable def o40:Obj:=kO q0 q3 q3 236 9 0 0 50 false .none .none .none 239
noncomputable def o41:Obj:=kO q0 q25 q25 191 2 0 0 18 false .none .none .none 194
noncomputable def o42:Obj:=cO q26 [(.ref 24)] [(.ref 44),(.ref 24),(.type "ValueError"),(.type "Exception"),(.type "BaseException"),(.type "object")] 43 [] [(some (.ref 28)),none,(some (.str q26 207)),(some (.str q26 215)),(some (.builtin "ValueError.__new__")),(some (.bool true))]
noncomputable def o43:Obj:=fO q4 q16 (jaw (Z.top 3) 0) (.str q6 187) 59
noncomputable def h46:List Value:=h0++[(.int 2 0),(.int 0 0),(.ref 20),(.int 4 0),(.int 0 0),(.ref 33),(.int 9 0),(.int 0 0),(.ref 52),(.int 13 0),(.int 0 0),(.ref 71)]
noncomputable def o44:Obj:=sO .none h46
noncomputable def o45:Obj:=rO [(some (.ref 33)),(some (.ref 3)),(some (.ref 30)),none,(some (.str q6 187)),none,(some (.ref 0))]
noncomputable def o46:Obj:=cO q7 [(.ref 24)] [(.ref 82),(.ref 24),(.type "ValueError"),(.type "Exception"),(.type "BaseException"),(.type "object")] 81 [] [(some (.ref 66)),none,(some (.str q7 259)),(some (.str q7 267)),(some (.builtin "ValueError.__new__")),(some (.bool true))]
noncomputable def o47:Obj:=tO [(.str q28 228),(.str q15 229)]
noncomputable def o48:Obj:=gO q4 q16 (jaw (Z.top 3) 0)
noncomputable def o49:Obj:=sO (.type "super") [(.ref 24),(.ref 24),(.ref 24)]
noncomputable def o50:Obj:=sO .none [(.int 15 0),(.int 4 0),(.ref 78)]
noncomputable def o51:Obj:=kO q0 q4 q5 271 15 2 3 73 true (.ref 75) (.ref 76) (.ref 77) 276
noncomputable def o52:Obj:=sO (.type "builtin_function_or_method") [(.builtin "object.__init_subclass__"),(.ref 44)]
noncomputable def o53 (P:Params):Obj:=dO (dE P q9 241 (.str q6 187)::dE P q10 245 (.int 9 244)::dE P q4 253 (.ref 60)::dE P q11 255 (.ref 61)::dE P q13 256 .none::[]) 2
noncomputable def o54 (P:Params):Obj:=dO (dE P q9 214 (.str q6 187)::dE P q27 216 (.str q26 215)::dE P q10 218 (.int 4 217)::dE P q4 227 (.ref 41)::dE P q11 230 (.ref 42)::[]) 5
noncomputable def o55:Obj:=fO q29 q29 (Z.top 11) (.str q30 336) 126
noncomputable def o56:Obj:=gO q31 q31 (Z.top 25)
noncomputable def o57:Obj:=kO q0 q32 q32 388 55 2 3 154 true (.ref 156) (.ref 157) (.ref 158) 396
noncomputable def o58:Obj:=fO q33 q33 (Z.top 27) (.str q34 425) 206
noncomputable def o59:Obj:=kO q0 q35 q35 451 112 1 3 194 true (.ref 196) (.ref 197) (.ref 198) 455
noncomputable def o60:Obj:=fO q36 q36 (Z.top 20) (.str q37 350) 166
noncomputable def o61:Obj:=sO (.type "builtin_function_or_method") [(.builtin "object.__init_subclass__"),(.ref 101)]
noncomputable def o62:Obj:=gO q38 q38 (Z.top 18)
noncomputable def o63 (P:Params):Obj:=dO (dE P q9 291 (.str q6 187)::dE P q27 293 (.str q39 292)::dE P q10 295 (.int 17 294)::dE P q4 304 (.ref 98)::dE P q11 307 (.ref 99)::[]) 5
noncomputable def o64 (P:Params):Obj:=dO (dE P q9 318 (.str q6 187)::dE P q10 322 (.int 22 321)::dE P q4 330 (.ref 117)::dE P q11 332 (.ref 118)::dE P q13 333 .none::[]) 2
noncomputable def o65:Obj:=tO [(.str q40 402),(.str q41 403),(.str q15 404),(.str q42 405),(.str q43 406),(.str q44 407),(.str q45 408)]
noncomputable def o66:Obj:=tO [(.str q46 305),(.str q15 306)]
noncomputable def o67:Obj:=gO q47 q47 (Z.top 23)
noncomputable def o68:Obj:=gO q4 q48 (jaw (Z.top 6) 0)
noncomputable def o69:Obj:=fO q49 q49 (Z.top 16) (.str q37 350) 138
noncomputable def o70:Obj:=tO [(.str q50 461),(.str q51 462),(.str q52 463)]
noncomputable def o71:Obj:=rO [(some (.ref 90)),(some (.ref 3)),(some (.ref 87)),none,(some (.str q6 187)),none,(some (.ref 0))]
noncomputable def o72:Obj:=kO q0 q53 q53 434 88 2 3 182 true (.ref 184) (.ref 185) (.ref 186) 442
noncomputable def g76 (P:Params):List Ycx:=g18 P++[dE P q39 310 (.ref 101),dE P q54 335 (.ref 120),dE P q55 339 (.int 8 338),dE P q56 341 (.int 8 340),dE P q57 343 (.int 24 342),dE P q29 349 (.ref 127),dE P q58 353 (.int 4 352),dE P q59 355 (.str q60 354),dE P q61 362 (.ref 134),dE P q49 368 (.ref 139),dE P q62 378 (.ref 146),dE P q38 387 (.ref 153),dE P q32 398 (.ref 160),dE P q36 411 (.ref 167),dE P q63 424 (.ref 174),dE P q47 433 (.ref 181),dE P q53 444 (.ref 188),dE P q31 450 (.ref 193),dE P q35 457 (.ref 200),dE P q33 466 (.ref 207),dE P q64 478 (.ref 214)]
noncomputable def o73 (P:Params):Obj:=dO (dE P q17 165 (.str q34 425)::g76 P) 34
noncomputable def o74:Obj:=fO q31 q31 (Z.top 25) (.str q34 425) 192
noncomputable def o75:Obj:=kO q0 q4 q65 296 19 3 3 92 true (.ref 94) (.ref 95) (.ref 96) 302
noncomputable def o76:Obj:=kO q0 q62 q62 369 43 3 3 140 true (.ref 142) (.ref 143) (.ref 144) 376
noncomputable def o77:Obj:=tO [(.str q66 430)]
noncomputable def o78:Obj:=tO [(.str q14 326),(.str q46 327)]
noncomputable def o79:Obj:=gO q49 q49 (Z.top 16)
noncomputable def o80:Obj:=fO q38 q38 (Z.top 18) (.str q37 350) 152
noncomputable def o81:Obj:=sO .none [(.int 19 0),(.int 4 0),(.ref 97)]
noncomputable def o82:Obj:=sO (.type "super") [(.ref 120),(.ref 120),(.ref 120)]
noncomputable def o83:Obj:=kO q0 q61 q61 356 37 1 3 128 true (.ref 130) (.ref 131) (.ref 132) 360
noncomputable def o84:Obj:=gO q36 q36 (Z.top 20)
noncomputable def o85:Obj:=cO q39 [(.ref 24)] [(.ref 101),(.ref 24),(.type "ValueError"),(.type "Exception"),(.type "BaseException"),(.type "object")] 100 [] [(some (.ref 85)),none,(some (.str q39 284)),(some (.str q39 292)),(some (.builtin "ValueError.__new__")),(some (.bool true))]
noncomputable def o86:Obj:=tO [(.str q41 382),(.str q67 383)]
noncomputable def o87:Obj:=kO q0 q64 q64 467 121 4 3 208 true (.ref 210) (.ref 211) (.ref 212) 476
noncomputable def o88:Obj:=fO q47 q47 (Z.top 23) (.str q34 425) 180
noncomputable def o89:Obj:=fO q4 q48 (jaw (Z.top 6) 0) (.str q6 187) 116
noncomputable def o90:Obj:=gO q33 q33 (Z.top 27)
noncomputable def o91:Obj:=kO q0 q63 q63 412 69 1 3 168 true (.ref 170) (.ref 171) (.ref 172) 422
noncomputable def o92:Obj:=kO q0 q54 q54 313 22 0 0 107 false .none .none .none 316
noncomputable def o93:Obj:=tO [(.str q40 394),(.str q41 395)]
noncomputable def o94:Obj:=gO q29 q29 (Z.top 11)
noncomputable def o95:Obj:=kO q0 q31 q31 445 101 2 3 189 true .none .none (.ref 191) 448
noncomputable def o96:Obj:=fO q32 q32 (Z.top 19) (.str q37 350) 159
noncomputable def o97:Obj:=gO q4 q65 (jaw (Z.top 5) 0)
noncomputable def o98:Obj:=gO q62 q62 (Z.top 17)
noncomputable def o99:Obj:=fO q35 q35 (Z.top 26) (.str q34 425) 199
noncomputable def o100:Obj:=kO q0 q38 q38 379 48 1 3 147 true (.ref 149) (.ref 150) (.ref 151) 385
noncomputable def o101:Obj:=tO [(.str q50 437),(.str q68 438),(.str q69 439),(.str q70 440),(.str q71 441)]
noncomputable def o102:Obj:=cO q54 [(.ref 24)] [(.ref 120),(.ref 24),(.type "ValueError"),(.type "Exception"),(.type "BaseException"),(.type "object")] 119 [] [(some (.ref 104)),none,(some (.str q54 311)),(some (.str q54 319)),(some (.builtin "ValueError.__new__")),(some (.bool true))]
noncomputable def o103:Obj:=cO q25 [(.type "ValueError")] [(.ref 24),(.type "ValueError"),(.type "Exception"),(.type "BaseException"),(.type "object")] 23 [(.ref 44),(.ref 63),(.ref 82),(.ref 101),(.ref 120)] [(some (.ref 15)),none,(some (.str q25 189)),(some (.str q25 197)),(some (.builtin "ValueError.__new__")),(some (.bool true))]
noncomputable def o104:Obj:=gO q61 q61 (Z.top 15)
noncomputable def o105:Obj:=tO [(.str q50 454)]
noncomputable def o106 (P:Params):Obj:=dO (dE P q9 291 (.str q6 187)::dE P q10 295 (.int 17 294)::dE P q4 304 (.ref 98)::dE P q11 307 (.ref 99)::dE P q13 308 .none::[]) 2
noncomputable def o107:Obj:=gO q64 q64 (Z.top 28)
noncomputable def o108:Obj:=kO q0 q47 q47 427 86 1 3 175 true (.ref 177) (.ref 178) (.ref 179) 431
noncomputable def o109:Obj:=kO q0 q4 q48 323 24 2 3 111 true (.ref 113) (.ref 114) (.ref 115) 328
noncomputable def o110:Obj:=gO q63 q63 (Z.top 21)
noncomputable def o111:Obj:=sO .none [(.int 24 0),(.int 4 0),(.ref 116)]
noncomputable def o112:Obj:=tO [(.str q40 391),(.str q41 392),(.str q67 393)]
noncomputable def o113:Obj:=fO q53 q53 (Z.top 24) (.str q34 425) 187
noncomputable def h118:List Value:=h46++[(.int 17 0),(.int 0 0),(.ref 90),(.int 22 0),(.int 0 0),(.ref 109),(.int 30 0),(.int 0 0),(.ref 126),(.int 37 0),(.int 0 0),(.ref 133),(.int 39 0),(.int 0 0),(.ref 138),(.int 43 0),(.int 0 0),(.ref 145),(.int 48 0),(.int 0 0),(.ref 152),(.int 55 0),(.int 0 0),(.ref 159),(.int 66 0),(.int 0 0),(.ref 166),(.int 69 0),(.int 0 0),(.ref 173),(.int 86 0),(.int 0 0),(.ref 180),(.int 88 0),(.int 0 0),(.ref 187),(.int 101 0),(.int 0 0),(.ref 192),(.int 112 0),(.int 0 0),(.ref 199),(.int 114 0),(.int 0 0),(.ref 206),(.int 121 0),(.int 0 0),(.ref 213)]
noncomputable def o114:Obj:=sO .none h118
noncomputable def o115:Obj:=tO [(.str q72 359)]
noncomputable def o116:Obj:=fO q4 q65 (jaw (Z.top 5) 0) (.str q6 187) 97
noncomputable def o117:Obj:=fO q62 q62 (Z.top 17) (.str q37 350) 145
noncomputable def o118:Obj:=tO [(.str q50 470),(.str q73 471),(.str q74 472),(.str q51 473),(.str q75 474),(.str q76 475)]
noncomputable def o119:Obj:=kO q0 q49 q49 363 39 1 3 135 true .none .none (.ref 137) 366
noncomputable def o120:Obj:=tO [(.str q77 415),(.str q78 416),(.str q28 417),(.str q40 418),(.str q79 419),(.str q46 420),(.str q41 421)]
noncomputable def o121 (P:Params):Obj:=dO (dE P q9 318 (.str q6 187)::dE P q27 320 (.str q54 319)::dE P q10 322 (.int 22 321)::dE P q4 330 (.ref 117)::dE P q11 332 (.ref 118)::[]) 5
noncomputable def o122:Obj:=kO q0 q39 q39 286 17 0 0 88 false .none .none .none 289
noncomputable def o123:Obj:=gO q53 q53 (Z.top 24)
noncomputable def o124:Obj:=sO (.type "builtin_function_or_method") [(.builtin "object.__init_subclass__"),(.ref 120)]
noncomputable def o125:Obj:=fO q61 q61 (Z.top 15) (.str q37 350) 133
noncomputable def o126:Obj:=gO q35 q35 (Z.top 26)
noncomputable def o127:Obj:=kO q0 q36 q36 399 66 2 3 161 true (.ref 163) (.ref 164) (.ref 165) 409
noncomputable def o128:Obj:=sO (.type "super") [(.ref 101),(.ref 101),(.ref 101)]
noncomputable def o129:Obj:=tO [(.str q41 384)]
noncomputable def o130:Obj:=fO q64 q64 (Z.top 28) (.str q34 425) 213
noncomputable def o131:Obj:=tO [(.str q46 331)]
noncomputable def o132:Obj:=tO [(.str q41 372),(.str q80 373),(.str q67 374),(.str q28 375)]
noncomputable def o133:Obj:=kO q0 q33 q33 458 114 2 3 201 true (.ref 203) (.ref 204) (.ref 205) 464
noncomputable def o134:Obj:=fO q63 q63 (Z.top 21) (.str q37 350) 173
noncomputable def o135:Obj:=rO [(some (.ref 109)),(some (.ref 3)),(some (.ref 106)),none,(some (.str q6 187)),none,(some (.ref 0))]
noncomputable def o136:Obj:=gO q32 q32 (Z.top 19)
noncomputable def o137:Obj:=tO [(.str q14 299),(.str q46 300),(.str q15 301)]
noncomputable def o138:Obj:=kO q0 q29 q29 344 30 1 3 123 true .none .none (.ref 125) 347
noncomputable def o139:Obj:=tO [(.str q50 546),(.str q81 547),(.str q82 548)]
noncomputable def o140:Obj:=fO q83 q83 (Z.top 39) (.str q34 425) 286
noncomputable def o141:Obj:=gO q84 q84 (Z.top 37)
noncomputable def o142:Obj:=gO q85 q85 (Z.top 31)
noncomputable def o143:Obj:=kO q0 q86 q86 574 218 3 3 274 true (.ref 276) (.ref 277) (.ref 278) 583
noncomputable def o144:Obj:=fO q87 q87 (Z.top 35) (.str q34 425) 258
noncomputable def o145:Obj:=kO q0 q88 q88 491 137 1 3 222 true (.ref 224) (.ref 225) (.ref 226) 504
noncomputable def o146:Obj:=gO q89 q89 (Z.top 33)
noncomputable def o147:Obj:=tO [(.str q50 589),(.str q90 590),(.str q91 591),(.str q75 592),(.str q82 593)]
noncomputable def o148:Obj:=gO q92 q92 (Z.top 29)
noncomputable def o149:Obj:=kO q0 q93 q93 530 168 1 3 246 true (.ref 248) (.ref 249) (.ref 250) 540
noncomputable def g155 (P:Params):List Ycx:=g76 P++[dE P q92 490 (.ref 221),dE P q88 506 (.ref 228),dE P q85 512 (.ref 233),dE P q94 518 (.ref 238),dE P q89 529 (.ref 245),dE P q93 542 (.ref 252),dE P q87 551 (.ref 259),dE P q95 563 (.ref 266),dE P q84 573 (.ref 273),dE P q86 585 (.ref 280),dE P q83 596 (.ref 287),dE P q96 612 (.ref 294)]
noncomputable def o150 (P:Params):Obj:=dO (dE P q17 165 (.str q34 425)::g155 P) 46
noncomputable def o151:Obj:=gO q87 q87 (Z.top 35)
noncomputable def o152:Obj:=fO q84 q84 (Z.top 37) (.str q34 425) 272
noncomputable def o153:Obj:=tO [(.str q81 522),(.str q97 523),(.str q98 524),(.str q99 525),(.str q100 526)]
noncomputable def o154:Obj:=kO q0 q95 q95 552 191 3 3 260 true (.ref 262) (.ref 263) (.ref 264) 561
noncomputable def o155:Obj:=fO q85 q85 (Z.top 31) (.str q34 425) 232
noncomputable def o156:Obj:=tO [(.str q50 482),(.str q51 483),(.str q90 484),(.str q81 485),(.str q101 486),(.str q102 487)]
noncomputable def o157:Obj:=kO q0 q96 q96 597 246 1 3 288 true (.ref 290) (.ref 291) (.ref 292) 610
noncomputable def o158:Obj:=fO q89 q89 (Z.top 33) (.str q34 425) 244
noncomputable def o159:Obj:=tO [(.str q103 567),(.str q71 568),(.str q104 569),(.str q105 570)]
noncomputable def o160:Obj:=kO q0 q94 q94 513 148 1 3 234 true .none .none (.ref 236) 516
noncomputable def o161:Obj:=gO q83 q83 (Z.top 39)
noncomputable def o162:Obj:=fO q92 q92 (Z.top 29) (.str q34 425) 220
noncomputable def o163:Obj:=tO [(.str q106 494),(.str q81 495),(.str q101 496),(.str q103 497),(.str q107 498),(.str q73 499),(.str q74 500),(.str q75 501),(.str q108 502),(.str q97 503)]
noncomputable def o164:Obj:=kO q0 q84 q84 564 208 1 3 267 true (.ref 269) (.ref 270) (.ref 271) 571
noncomputable def o165:Obj:=gO q95 q95 (Z.top 36)
noncomputable def o166:Obj:=kO q0 q85 q85 507 144 1 3 229 true .none .none (.ref 231) 510
noncomputable def o167:Obj:=fO q86 q86 (Z.top 38) (.str q34 425) 279
noncomputable def o168:Obj:=tO [(.str q103 533),(.str q97 534),(.str q81 535),(.str q98 536),(.str q101 537),(.str q109 538),(.str q71 539)]
noncomputable def o169:Obj:=gO q96 q96 (Z.top 40)
noncomputable def o170:Obj:=fO q88 q88 (Z.top 30) (.str q34 425) 227
noncomputable def o171:Obj:=tO [(.str q50 577),(.str q103 578),(.str q81 579),(.str q98 580),(.str q52 581),(.str q82 582)]
noncomputable def o172:Obj:=kO q0 q89 q89 519 151 2 3 239 true (.ref 241) (.ref 242) (.ref 243) 527
noncomputable def o173:Obj:=gO q94 q94 (Z.top 32)
noncomputable def o174:Obj:=kO q0 q92 q92 479 127 2 3 215 true (.ref 217) (.ref 218) (.ref 219) 488
noncomputable def o175:Obj:=fO q93 q93 (Z.top 34) (.str q34 425) 251
noncomputable def h182:List Value:=h118++[(.int 127 0),(.int 0 0),(.ref 220),(.int 137 0),(.int 0 0),(.ref 227),(.int 144 0),(.int 0 0),(.ref 232),(.int 148 0),(.int 0 0),(.ref 237),(.int 151 0),(.int 0 0),(.ref 244),(.int 168 0),(.int 0 0),(.ref 251),(.int 187 0),(.int 0 0),(.ref 258),(.int 191 0),(.int 0 0),(.ref 265),(.int 208 0),(.int 0 0),(.ref 272),(.int 218 0),(.int 0 0),(.ref 279),(.int 234 0),(.int 0 0),(.ref 286),(.int 246 0),(.int 0 0),(.ref 293)]
noncomputable def o176:Obj:=sO .none h182
noncomputable def o177:Obj:=kO q0 q87 q87 543 187 2 3 253 true (.ref 255) (.ref 256) (.ref 257) 549
noncomputable def o178:Obj:=tO [(.str q66 600),(.str q50 601),(.str q82 602),(.str q102 603),(.str q106 604),(.str q103 605),(.str q110 606),(.str q111 607),(.str q76 608),(.str q112 609)]
noncomputable def o179:Obj:=gO q88 q88 (Z.top 30)
noncomputable def o180:Obj:=fO q95 q95 (Z.top 36) (.str q34 425) 265
noncomputable def o181:Obj:=gO q93 q93 (Z.top 34)
noncomputable def o182:Obj:=tO [(.str q50 555),(.str q91 556),(.str q81 557),(.str q97 558),(.str q98 559),(.str q52 560)]
noncomputable def o183:Obj:=fO q96 q96 (Z.top 40) (.str q34 425) 293
noncomputable def o184:Obj:=gO q86 q86 (Z.top 38)
noncomputable def o185:Obj:=fO q94 q94 (Z.top 32) (.str q34 425) 237
noncomputable def o186:Obj:=kO q0 q83 q83 586 234 1 3 281 true (.ref 283) (.ref 284) (.ref 285) 594
noncomputable def Ha (P:Params):Heap:=⟨⟨Yb8 P::YbH P::Yb7 P::YfF P::Yb6 P::Yb5 P::Yb4 P::Yb3 P::Yb2 P::Yb1 P::YbS P::tE::o0::o1::o2::[]⟩,{}⟩
noncomputable def t0 (P:Params):Ycq:=(bN (Yb8 P) (bN (YbH P) (bN (YfF P) (bL (Yb3 P)) (bL tE)) (bN (Yb5 P) (bL (Yb1 P)) (bL o1))) (bN (Yb7 P) (bN (Yb6 P) (bL (Yb2 P)) (bL o0)) (bN (Yb4 P) (bL (YbS P)) (bL o2))))
noncomputable def t1 (P:Params):Ycq:=(bN (Yb8 P) (bN (YbH P) (bN (o17 P) (bN (Yb3 P) (bN o6 (bN tE (bL o3) bE) (bN o5 (bL o4) bE)) (bN (o9 P) (bN o8 (bL o7) bE) (bL nO))) (bN tE (bN nO (bN tE (bL o10) bE) (bN o12 (bL o11) bE)) (bN o16 (bN (o14 P) (bL o13) bE) (bL o15)))) (bN (Yb5 P) (bN (Yb1 P) (bN (o22 P) (bN o19 (bL o18) bE) (bN (o21 P) (bL (o20 P)) bE)) (bN o24 (bN o23 (bL tE) bE) (bL tE))) (bN o1 (bN o27 (bN o25 (bL tE) bE) (bL o26)) (bN o10 (bN o29 (bL o28) bE) (bL o30))))) (bN (Yb7 P) (bN (Yb6 P) (bN (Yb2 P) (bN o10 (bN o32 (bL o31) bE) (bN o10 (bL o33) bE)) (bN o37 (bN o35 (bL o34) bE) (bL o36))) (bN o44 (bN o41 (bN nO (bL (o38 P)) bE) (bN o40 (bL o39) bE)) (bN o5 (bN o42 (bL tE) bE) (bL o43)))) (bN (Yb4 P) (bN (YbS P) (bN tE (bN o45 (bL o5) bE) (bN tE (bL o46) bE)) (bN o49 (bN o47 (bL nO) bE) (bL o48))) (bN o2 (bN tE (bN tE (bL o50) bE) (bL tE)) (bN (o54 P) (bN o52 (bL o51) bE) (bL (o53 P)))))))
noncomputable def t2 (P:Params):Ycq:=(bN (Yb8 P) (bN (YbH P) (bN (o73 P) (bN (Yb3 P) (bN o6 (bN tE (bN o3 (bL o55) (bL o56)) (bN tE (bL o57) bE)) (bN o5 (bN o4 (bL tE) (bL o58)) (bN tE (bL tE) bE))) (bN (o9 P) (bN o8 (bN o7 (bL tE) (bL o59)) (bN o61 (bL o60) bE)) (bN nO (bN (o63 P) (bL o62) bE) (bN (o64 P) (bL nO) bE)))) (bN tE (bN nO (bN tE (bN o10 (bL tE) (bL nO)) (bN o66 (bL o65) bE)) (bN o12 (bN o11 (bL tE) (bL tE)) (bN o68 (bL o67) bE))) (bN o16 (bN (o14 P) (bN o13 (bL o69) (bL o70)) (bN tE (bL tE) bE)) (bN o15 (bN o71 (bL nO) bE) (bN tE (bL o72) bE))))) (bN (Yb5 P) (bN (Yb1 P) (bN (o22 P) (bN o19 (bN o18 (bL nO) (bL o74)) (bN o75 (bL tE) bE)) (bN (o21 P) (bN (o20 P) (bL o76) (bL nO)) (bN o78 (bL o77) bE))) (bN o24 (bN o23 (bN tE (bL o79) (bL tE)) (bN o10 (bL nO) bE)) (bN tE (bN o81 (bL o80) bE) (bN o82 (bL tE) bE)))) (bN o1 (bN o27 (bN o25 (bN tE (bL o83) (bL tE)) (bN o85 (bL o84) bE)) (bN o26 (bN o5 (bL o86) (bL o87)) (bN o89 (bL o88) bE))) (bN o10 (bN o29 (bN o28 (bL nO) (bL o90)) (bN o92 (bL o91) bE)) (bN o30 (bN nO (bL o93) bE) (bN o94 (bL tE) bE)))))) (bN (Yb7 P) (bN (Yb6 P) (bN (Yb2 P) (bN o10 (bN o32 (bN o31 (bL tE) (bL o95)) (bN o97 (bL o96) bE)) (bN o10 (bN o33 (bL o98) (bL tE)) (bN nO (bL nO) bE))) (bN o103 (bN o35 (bN o34 (bL nO) (bL o99)) (bN o5 (bL tE) bE)) (bN o36 (bN tE (bL o100) bE) (bN o102 (bL o101) bE)))) (bN o114 (bN o41 (bN nO (bN (o38 P) (bL o104) (bL o105)) (bN (o106 P) (bL tE) bE)) (bN o40 (bN o39 (bL nO) (bL o107)) (bN o109 (bL o108) bE))) (bN o5 (bN o42 (bN tE (bL tE) (bL tE)) (bN o111 (bL o110) bE)) (bN o43 (bN tE (bL o112) bE) (bN nO (bL o113) bE))))) (bN (Yb4 P) (bN (YbS P) (bN tE (bN o45 (bN o5 (bL o115) (bL tE)) (bN o116 (bL nO) bE)) (bN tE (bN o46 (bL o117) (bL o118)) (bN tE (bL tE) bE))) (bN o49 (bN o47 (bN nO (bL o119) (bL nO)) (bN (o121 P) (bL o120) bE)) (bN o48 (bN o122 (bL tE) bE) (bN o124 (bL o123) bE)))) (bN o2 (bN tE (bN tE (bN o50 (bL o125) (bL o126)) (bN o128 (bL o127) bE)) (bN tE (bN o10 (bL o129) (bL o130)) (bN o131 (bL tE) bE))) (bN (o54 P) (bN o52 (bN o51 (bL o132) (bL o133)) (bN o135 (bL o134) bE)) (bN (o53 P) (bN o137 (bL o136) bE) (bN o138 (bL nO) bE)))))))
noncomputable def t3 (P:Params):Ycq:=(bN (Yb8 P) (bN (YbH P) (bN (o150 P) (bN (Yb3 P) (bN o6 (bN tE (bN o3 (bN o55 (bL o139) bE) (bL o56)) (bN tE (bN o57 (bL o140) bE) (bL nO))) (bN o5 (bN o4 (bN tE (bL o141) bE) (bL o58)) (bN tE (bL tE) (bL tE)))) (bN (o9 P) (bN o8 (bN o7 (bN tE (bL tE) bE) (bL o59)) (bN o61 (bL o60) (bL o142))) (bN nO (bN (o63 P) (bN o62 (bL o143) bE) (bL tE)) (bN (o64 P) (bL nO) (bL nO))))) (bN tE (bN nO (bN tE (bN o10 (bN tE (bL o144) bE) (bL nO)) (bN o66 (bN o65 (bL tE) bE) (bL o145))) (bN o12 (bN o11 (bN tE (bL nO) bE) (bL tE)) (bN o68 (bL o67) (bL o146)))) (bN o16 (bN (o14 P) (bN o13 (bN o69 (bL tE) bE) (bL o70)) (bN tE (bL tE) (bL nO))) (bN o15 (bN o71 (bN nO (bL o147) bE) (bL o148)) (bN tE (bL o72) (bL o149)))))) (bN (Yb5 P) (bN (Yb1 P) (bN (o22 P) (bN o19 (bN o18 (bN nO (bL o151) bE) (bL o74)) (bN o75 (bN tE (bL nO) bE) (bL tE))) (bN (o21 P) (bN (o20 P) (bN o76 (bL o152) bE) (bL nO)) (bN o78 (bL o77) (bL o153)))) (bN o24 (bN o23 (bN tE (bN o79 (bL o154) bE) (bL tE)) (bN o10 (bL nO) (bL o155))) (bN tE (bN o81 (bN o80 (bL tE) bE) (bL o156)) (bN o82 (bL tE) (bL tE))))) (bN o1 (bN o27 (bN o25 (bN tE (bN o83 (bL nO) bE) (bL tE)) (bN o85 (bN o84 (bL o157) bE) (bL tE))) (bN o26 (bN o5 (bN o86 (bL tE) bE) (bL o87)) (bN o89 (bL o88) (bL o158)))) (bN o10 (bN o29 (bN o28 (bN nO (bL o159) bE) (bL o90)) (bN o92 (bL o91) (bL o160))) (bN o30 (bN nO (bN o93 (bL o161) bE) (bL o162)) (bN o94 (bL tE) (bL tE))))))) (bN (Yb7 P) (bN (Yb6 P) (bN (Yb2 P) (bN o10 (bN o32 (bN o31 (bN tE (bL tE) bE) (bL o95)) (bN o97 (bN o96 (bL tE) bE) (bL o163))) (bN o10 (bN o33 (bN o98 (bL o164) bE) (bL tE)) (bN nO (bL nO) (bL nO)))) (bN o103 (bN o35 (bN o34 (bN nO (bL o165) bE) (bL o99)) (bN o5 (bL tE) (bL o166))) (bN o36 (bN tE (bN o100 (bL o167) bE) (bL nO)) (bN o102 (bL o101) (bL o168))))) (bN o176 (bN o41 (bN nO (bN (o38 P) (bN o104 (bL tE) bE) (bL o105)) (bN (o106 P) (bN tE (bL o169) bE) (bL o170))) (bN o40 (bN o39 (bN nO (bL o171) bE) (bL o107)) (bN o109 (bL o108) (bL o172)))) (bN o5 (bN o42 (bN tE (bN tE (bL nO) bE) (bL tE)) (bN o111 (bL o110) (bL o173))) (bN o43 (bN tE (bN o112 (bL tE) bE) (bL o174)) (bN nO (bL o113) (bL o175)))))) (bN (Yb4 P) (bN (YbS P) (bN tE (bN o45 (bN o5 (bN o115 (bL o177) bE) (bL tE)) (bN o116 (bN nO (bL o178) bE) (bL o179))) (bN tE (bN o46 (bN o117 (bL tE) bE) (bL o118)) (bN tE (bL tE) (bL tE)))) (bN o49 (bN o47 (bN nO (bN o119 (bL o180) bE) (bL nO)) (bN (o121 P) (bL o120) (bL tE))) (bN o48 (bN o122 (bN tE (bL nO) bE) (bL tE)) (bN o124 (bL o123) (bL o181))))) (bN o2 (bN tE (bN tE (bN o50 (bN o125 (bL o182) bE) (bL o126)) (bN o128 (bN o127 (bL o183) bE) (bL nO))) (bN tE (bN o10 (bN o129 (bL o184) bE) (bL o130)) (bN o131 (bL tE) (bL tE)))) (bN (o54 P) (bN o52 (bN o51 (bN o132 (bL tE) bE) (bL o133)) (bN o135 (bL o134) (bL o185))) (bN (o53 P) (bN o137 (bN o136 (bL o186) bE) (bL tE)) (bN o138 (bL nO) (bL nO))))))))
noncomputable def Hz (P:Params):Heap:=⟨⟨Yb8 P::YbH P::Yb7 P::o150 P::Yb6 P::Yb5 P::Yb4 P::Yb3 P::Yb2 P::Yb1 P::YbS P::tE::o176::o1::o2::o6::o10::o22 P::tE::nO::o41::o27::tE::o9 P::o103::o24::o49::o16::o5::o10::o54 P::tE::o32::o19::o45::tE::nO::o25::tE::o8::o35::o23::o47::o14 P::o42::o29::o52::o5::o10::o21 P::tE::o12::o40::o26::tE::nO::o36::tE::o48::o15::o43::o30::o53 P::o3::o31::o18::o5::o10::o38 P::tE::o50::o7::o34::tE::nO::o13::tE::o28::o51::o4::o33::o20 P::o46::o11::o39::o5::o10::o63 P::tE::o81::o122::o71::tE::nO::o137::tE::o97::o75::o116::o66::o106 P::o85::o128::o61::o5::o10::o121 P::tE::o111::o92::o135::tE::nO::o78::tE::o68::o109::o89::o131::o64 P::o102::o82::o124::tE::nO::o94::o138::o55::tE::nO::o115::tE::o104::o83::o125::tE::nO::o79::o119::o69::tE::nO::o132::tE::o98::o76::o117::tE::nO::o86::o129::o62::o100::o80::tE::nO::o112::o93::o136::o57::o96::tE::nO::o65::tE::o84::o127::o60::tE::nO::o120::tE::o110::o91::o134::tE::nO::o77::tE::o67::o108::o88::tE::nO::o101::tE::o123::o72::o113::tE::nO::o56::o95::o74::tE::nO::o105::tE::o126::o59::o99::tE::nO::o70::tE::o90::o133::o58::tE::nO::o118::tE::o107::o87::o130::tE::nO::o156::tE::o148::o174::o162::tE::nO::o163::tE::o179::o145::o170::tE::nO::o142::o166::o155::tE::nO::o173::o160::o185::tE::nO::o153::tE::o146::o172::o158::tE::nO::o168::tE::o181::o149::o175::tE::nO::o139::tE::o151::o177::o144::tE::nO::o182::tE::o165::o154::o180::tE::nO::o159::tE::o141::o164::o152::tE::nO::o171::tE::o184::o143::o167::tE::nO::o147::tE::o161::o186::o140::tE::nO::o178::tE::o169::o157::o183::[]⟩,{}⟩
noncomputable def st1:List Stmt:=[Z.top 0,Z.top 1,Z.top 2,Z.top 3,Z.top 4]
noncomputable def st2:List Stmt:=[Z.top 5,Z.top 6,Z.top 7,Z.top 8,Z.top 9,Z.top 10,Z.top 11,Z.top 12,Z.top 13,Z.top 14,Z.top 15,Z.top 16,Z.top 17,Z.top 18,Z.top 19,Z.top 20,Z.top 21,Z.top 22,Z.top 23,Z.top 24,Z.top 25,Z.top 26,Z.top 27,Z.top 28]
noncomputable def st3:List Stmt:=[Z.top 29,Z.top 30,Z.top 31,Z.top 32,Z.top 33,Z.top 34,Z.top 35,Z.top 36,Z.top 37,Z.top 38,Z.top 39,Z.top 40]
noncomputable def bd:List Stmt:=st1++(st2++(st3++[]))
noncomputable abbrev pw:Program:=PySem.Challenge.pw_beatplans_k75_lines_that_write_no_plan
noncomputable def qw:Program:={ pw with main:={ pw.main with body:=[Z.top 1,Z.top 2,Z.top 3,Z.top 4,Z.top 5,Z.top 6,Z.top 8,Z.top 9,Z.top 10,Z.top 11,Z.top 13,Z.top 14,Z.top 15,Z.top 16,Z.top 17,Z.top 18,Z.top 19,Z.top 20,Z.top 21,Z.top 23,Z.top 24,Z.top 25,Z.top 26,Z.top 27,Z.top 28,Z.top 29,Z.top 30,Z.top 31,Z.top 32,Z.top 33,Z.top 34,Z.top 35,Z.top 36,Z.top 37,Z.top 38,Z.top 39,Z.top 40] } }
noncomputable def en:Env:={ scope:=pw.main.scope,locals:=mainNs,globals:=mainNs,cells:=[],code:=.ref 13,frame:=some 14 }
noncomputable def cE:Code:=.body bd en
noncomputable abbrev pz:Pos:=⟨0,0,0,0⟩
noncomputable abbrev fz:List Frame:=[PySem.W.topFrame pz]
noncomputable abbrev s0 (w:World)(os:OsState):Shared:=⟨YbT w.params,⟨[]⟩,PySem.W.boot_drawn,PySem.W.boot_toks,os⟩
noncomputable abbrev sz (w:World)(os:OsState):Shared:=⟨Hz w.params,⟨[]⟩,{},613,os⟩
noncomputable def sT (t:Params->Ycq)(n k:Nat)(w:World)(os:OsState):PySem.W.SharedT:=⟨t w.params,n,{},⟨[]⟩,{},k,os⟩
section
variable (w:World)(os:OsState)
theorem joI:PySem.W.topGo Ydn pw w 11 (some (.ref 6)) 12 (s0 w os) (YfV pw)=some (⟨Ha w.params,⟨[]⟩,{},187,os⟩,⟨denote Ydn cE,cE,pz,fz⟩):=by
 rw[PySem.W.Fast.te15667345088766844465,YaN,PySem.W.Fast.te11892475500146522536];kernel_rfl
theorem joK:PySem.W.segRun Ydn pw w 11 (some (.ref 6)) 1 1 ⟨Ha w.params,⟨[]⟩,{},187,os⟩ (PySem.W.blockOf bd en cE pz fz)=some (.next,(sT t0 15 187 w os).abs,cE,pz):=by
 rw[PySem.W.Fast.te14374325043358763698,YaN];kernel_rfl
theorem r1:Yd8 Ydn pw w 11 (some (.ref 6)) 1 933 (sT t0 15 187 w os) (Yd3 st1 en cE pz fz)=some (.next,sT t1 85 284 w os,cE,⟨13,0,16,24⟩):=by
 rw[YbV,YaN];kernel_rfl
theorem r2:Yd8 Ydn pw w 11 (some (.ref 6)) 1 994 (sT t1 85 284 w os) (Yd3 st2 en cE ⟨13,0,16,24⟩ fz)=some (.next,sT t2 215 479 w os,cE,⟨121,0,126,84⟩):=by
 rw[YbV,YaN];kernel_rfl
theorem r3:Yd8 Ydn pw w 11 (some (.ref 6)) 1 395 (sT t2 215 479 w os) (Yd3 st3 en cE ⟨121,0,126,84⟩ fz)=some (.next,sT t3 295 613 w os,cE,⟨246,0,263,15⟩):=by
 rw[YbV,YaN];kernel_rfl
theorem joJ:Yf8 Ydn pw w 11 (some (.ref 6)) 2 (sT t3 295 613 w os).abs ⟨PySem.W.doneF .next,cE,⟨246,0,263,15⟩,fz⟩=some (sz w os):=by
 rw[PySem.W.Fast.te14082659384304107361,YaN];kernel_rfl
theorem joH:Yf8 Ydn pw w 11 (some (.ref 6)) (12+(1+(933+(994+(395+(2)))))) (s0 w os) (YfV pw)=some (sz w os):=
 PySem.W.go_top (joI w os) (PySem.W.piece_block (joK w os) (YdR (YdQ (r1 w os)) (YdR (YdQ (r2 w os)) (YdR (YdQ (r3 w os)) (joJ w os)))))
end
noncomputable def KK:Params->Yaa:=λP=>((1:Addr),YbH P)::((3:Addr),o150 P)::((23:Addr),o9 P)::((24:Addr),o103)::((40:Addr),o35)::((41:Addr),o23)::((43:Addr),o14 P)::((44:Addr),o42)::((59:Addr),o15)::((60:Addr),o43)::((62:Addr),o53 P)::((63:Addr),o3)::((78:Addr),o51)::((79:Addr),o4)::((81:Addr),o20 P)::((82:Addr),o46)::((97:Addr),o75)::((98:Addr),o116)::((100:Addr),o106 P)::((101:Addr),o85)::((116:Addr),o109)::((117:Addr),o89)::((119:Addr),o64 P)::((120:Addr),o102)::((126:Addr),o138)::((127:Addr),o55)::((133:Addr),o83)::((134:Addr),o125)::((138:Addr),o119)::((139:Addr),o69)::((145:Addr),o76)::((146:Addr),o117)::((152:Addr),o100)::((153:Addr),o80)::((159:Addr),o57)::((160:Addr),o96)::((166:Addr),o127)::((167:Addr),o60)::((173:Addr),o91)::((174:Addr),o134)::((180:Addr),o108)::((181:Addr),o88)::((187:Addr),o72)::((188:Addr),o113)::((192:Addr),o95)::((193:Addr),o74)::((199:Addr),o59)::((200:Addr),o99)::((206:Addr),o133)::((207:Addr),o58)::((213:Addr),o87)::((214:Addr),o130)::((220:Addr),o174)::((221:Addr),o162)::((227:Addr),o145)::((228:Addr),o170)::((232:Addr),o166)::((233:Addr),o155)::((237:Addr),o160)::((238:Addr),o185)::((244:Addr),o172)::((245:Addr),o158)::((251:Addr),o149)::((252:Addr),o175)::((258:Addr),o177)::((259:Addr),o144)::((265:Addr),o154)::((266:Addr),o180)::((272:Addr),o164)::((273:Addr),o152)::((279:Addr),o143)::((280:Addr),o167)::((286:Addr),o186)::((287:Addr),o140)::((293:Addr),o157)::((294:Addr),o183)::[]
noncomputable def KA:List Addr:=1::3::23::24::40::41::43::44::59::60::62::63::78::79::81::82::97::98::100::101::116::117::119::120::126::127::133::134::138::139::145::146::152::153::159::160::166::167::173::174::180::181::187::188::192::193::199::200::206::207::213::214::220::221::227::228::232::233::237::238::244::245::251::252::258::259::265::266::272::273::279::280::286::287::293::294::[]
noncomputable def fl:Z.FL:=(127,126,(.str q30 336))::(134,133,(.str q37 350))::(139,138,(.str q37 350))::(146,145,(.str q37 350))::(153,152,(.str q37 350))::(160,159,(.str q37 350))::(167,166,(.str q37 350))::(174,173,(.str q37 350))::(181,180,(.str q34 425))::(188,187,(.str q34 425))::(193,192,(.str q34 425))::(200,199,(.str q34 425))::(207,206,(.str q34 425))::(214,213,(.str q34 425))::(221,220,(.str q34 425))::(228,227,(.str q34 425))::(233,232,(.str q34 425))::(238,237,(.str q34 425))::(245,244,(.str q34 425))::(252,251,(.str q34 425))::(259,258,(.str q34 425))::(266,265,(.str q34 425))::(273,272,(.str q34 425))::(280,279,(.str q34 425))::(287,286,(.str q34 425))::(294,293,(.str q34 425))::[]
theorem k_dyn (P:Params):Z.dynB Z.T (KK P) 0 fl Z.T.funs Z.sts=true:=by kernel_rfl
theorem k_lk (P:Params):fl.map (λx=>(KK P).lookup x.1)=Z.lkR fl Z.T.funs Z.sts:=by kernel_rfl
theorem k_blt (P:Params):Z.bltB (KK P)=true:=by kernel_rfl
theorem k_gs (P:Params):Z.gsB (KK P) Z.T.gn Z.T.gs=true:=by kernel_rfl
theorem k_xb (P:Params):∃mD,L2.XBase (KK P) (Z.gK (KK P)) 24 mD:=Z.xb_mk 24 23 15 189 197 [(.ref 44),(.ref 63),(.ref 82),(.ref 101),(.ref 120)] (by kernel_rfl) (by kernel_rfl)
theorem k_cs (P:Params):Z.CsA (KK P) Z.T.cs:=⟨Z.xc_mk (k_xb P) "NoPaper" "NoPaper.__init__" ["word", "at"] (jaw (Z.top 2) 0) 44 43 28 207 215 41 40 (.str q6 187) (by kernel_rfl) (by kernel_rfl) (by kernel_rfl) (.inr ⟨_,_,_,_,_,_,_,_,_,_,rfl,by decide,rfl⟩),
 Z.xc_mk (k_xb P) "TooMany" "TooMany.__init__" ["word"] (jaw (Z.top 3) 0) 63 62 47 234 242 60 59 (.str q6 187) (by kernel_rfl) (by kernel_rfl) (by kernel_rfl) (.inl ⟨_,_,_,_,_,rfl,rfl⟩),
 Z.xc_mk (k_xb P) "NoRing" "NoRing.__init__" ["word"] (jaw (Z.top 4) 0) 82 81 66 259 267 79 78 (.str q6 187) (by kernel_rfl) (by kernel_rfl) (by kernel_rfl) (.inl ⟨_,_,_,_,_,rfl,rfl⟩),
 Z.xc_mk (k_xb P) "NoText" "NoText.__init__" ["row", "word"] (jaw (Z.top 5) 0) 101 100 85 284 292 98 97 (.str q6 187) (by kernel_rfl) (by kernel_rfl) (by kernel_rfl) (.inr ⟨_,_,_,_,_,_,_,_,_,_,rfl,by decide,rfl⟩),
 Z.xc_mk (k_xb P) "NoRow" "NoRow.__init__" ["row"] (jaw (Z.top 6) 0) 120 119 104 311 319 117 116 (.str q6 187) (by kernel_rfl) (by kernel_rfl) (by kernel_rfl) (.inl ⟨_,_,_,_,_,rfl,rfl⟩),trivial⟩
noncomputable abbrev rr:PySem.W.OpenRow:=PySem.Challenge.rw_beatplans_k75_lines_that_write_no_plan.row
noncomputable def Xt:Shared->Bool:=λs=>PySem.W.xlAt qw [] s&&PySem.W.recOk (PySem.W.RowW.records rr.toRowW) s
noncomputable abbrev hk:PySem.W.Hook:=PySem.W.kHook KK KA (λ_=>by kernel_rfl)
theorem jna (w:World):((YbT w.params).isNs YaB&&(⟨[]⟩:Array Yew).size==0,(YbT w.params).objs.size,(YbT w.params).nsMap YaB "__annotations__")=(true,11,some (YaW 6)):=by
 rw[PySem.W.Fast.te8920871248978507458];kernel_rfl
theorem k_l1 (w:World)(os:OsState):(PySem.W.staticsOk (importedModules pw.main.body) (YbT w.params) (Hz w.params)&&PySem.W.namesBound pw (Hz w.params)&&PySem.W.gensDone (sz w os)&&PySem.W.laidKept (YbT w.params) (Hz w.params))=true:=by
 rw[Ydd];kernel_rfl
theorem k_l2 (w:World)(os:OsState):PySem.W.openSeen qw [] (importedModules pw.main.body) Xt true (sz w os)=PySem.W.openGood qw []:=by
 rw[PySem.W.Fast.te4187177175401517315,Ydd];kernel_rfl
theorem k_l3 (w:World)(os:OsState):Ydz hk (sz w os)=Ydy hk w:=by kernel_rfl
theorem k_hl:PySem.W.LeftO pw qw [] Xt (Ydz hk) (Ydy hk) 4764:=PySem.W.LeftO.of_pieces (PySem.W.boot_open (by kernel_rfl) (by decide) λ_=>by kernel_rfl) jna joH (by decide) λw=>funext λos=>Prod.ext (k_l1 w os) (Prod.ext (k_l2 w os) (k_l3 w os))
end Y
set_option maxRecDepth 100000 in
set_option maxHeartbeats 0 in
theorem Z.wellS:PySem.Challenge.rw_beatplans_k75_lines_that_write_no_plan.wellSaid=true:=by decide +kernel
open PySem PySem.W PyProof.Rows
set_option maxRecDepth 100000 in
set_option maxHeartbeats 0 in
theorem PySem.Challenge.cw_beatplans_k75_lines_that_write_no_plan_holds : PySem.Challenge.rw_beatplans_k75_lines_that_write_no_plan.Holds := by
 refine PySem.W.holds_law Z.wellS λsaid=>?_
 refine PySem.W.holds_open (q:=Y.qw) (loose:=[]) (Xt:=Y.Xt) (XP:=PySem.W.XL Y.qw []) (Yf:=Ydz Y.hk) (Ya:=Ydy Y.hk) (YP:=PySem.W.Hook.says Y.hk) (N:=4764) Y.k_hl (PySem.W.Hook.of Y.hk) (PySem.W.Hook.keeps Y.hk) (λs e=>PySem.W.xl_of s (Bool.and_eq_true_iff.mp e).1) PySem.W.XL.keeps (by rfl) (by rfl) (by rfl) (λs e=>PySem.W.recFacts_of (Bool.and_eq_true_iff.mp e).2) (by rfl) said (by decide +kernel) ⟨rfl,rfl,rfl,rfl,rfl,by decide +kernel⟩ ?hw ?hc
 case hw=>w_witness2
 refine Z.walk (l:=PySem.Challenge.rw_beatplans_k75_lines_that_write_no_plan) rfl rfl (λw h Y=>PySem.W.kIn_of Y) ?K ?S ?B ?F
 case K=>intro w;rfl
 case S=>intro w;exact⟨_,rfl,rfl⟩
 case B=>
  intro w t ht
  simp only[Z.tbs,YaL,Yax,or_false]at ht
  rcases ht with rfl|rfl
  ·exact⟨⟨_,rfl⟩,by kernel_rfl,by kernel_rfl⟩
  ·exact⟨⟨_,rfl⟩,by kernel_rfl,by kernel_rfl⟩
 case F=>exact λw mg fa h X G hm=>Z.all2 X G hm Z.prog_rep Z.prog_eq Z.tabsU (Y.k_dyn _) (Y.k_lk _) (Y.k_blt _) (Y.k_gs _) (Y.k_cs _) rfl rfl rfl rfl rfl
