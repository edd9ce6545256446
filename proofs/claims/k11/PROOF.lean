import PyProof.Rows.All
import Wide.All
import OpenK.AllK
import Wide.FinOn
import Lean
import PyProof.EqAt
import PyProof.EqKinds
import PyProof.TupleCall
import PySem.Challenge.RW_beatplans_k11_whole_beats_by_lengths
set_option compiler.extract_closed false
set_option Elab.async false
set_option linter.all false
set_option maxRecDepth 100000
set_option maxHeartbeats 8000000
open List renaming all_cons → YcP, any_cons → Ybp, any_eq_false → Yfy, any_eq_true → YfP, append_assoc → Yds, append_nil → Yc2, cons_append → YfO, dropLast_eq_take → YeG, drop_eq_getElem_cons → YaX, drop_length → YfN, drop_of_length_le → YcT, drop_zero → Ydb, eraseIdxIfInBounds_toArray → Ydr, ext_getElem → YdH, filterMap_cons → YbX, filterMap_map → Yfk, filter_append → Ycq, filter_cons_of_neg → Yes, filter_cons_of_pos → Yer, filter_sublist → Ye2, find?_cons → Ybx, find?_cons_of_neg → YeA, flatten_append → Ye1, flatten_cons → Ybw, foldl → Ydq, foldl_cons → Yd2, forIn_cons → Yd1, getD → Ya1, getD_eq_getElem?_getD → YaM, getElem?_append_left → Ybc, getElem?_append_right → Ycl, getElem?_eq_getElem → Yae, getElem?_eq_none → Ybo, getElem?_inj → Yfx, getElem?_map → Yal, getElem?_range → Ye0, getElem?_replicate → YcO, getElem?_set_ne → Ybv, getElem?_set_self → Yb8, getElem?_take → Yfj, getElem?_toArray → YeF, getElem_mem → YbW, getElem_of_mem → YaQ, getElem_take → Yfw, length → Ydh, length_append → YaJ, length_cons → YaB, length_drop → YdG, length_map → Yaa, length_nil → Yc1, length_range → Yca, length_reverse → Ydg, length_singleton → YeE, length_take → Ybn, lookup → Yd0, lookup_cons → Ya5, map_append → Yax, map_congr_left → Ydf, map_cons → YaF, map_inj_right → Yfi, map_map → Ya0, map_nil → Yc0, map_reverse → YfM, map_set → YeD, mem_append_left → Yau, mem_append_right → Yas, mem_cons → YaL, mem_cons_of_mem → Yaj, mem_cons_self → Yaw, mem_of_getElem? → Yak, mem_of_mem_take → Ybh, mem_or_eq_of_mem_set → Yei, nil_append → Ya7, not_mem_nil → Yay, of_mem_zip → YdZ, pairwise_singleton → YcN, range → YaW, replicate → Yaf, replicate_succ → YaU, reverse_cons → YbQ, size_toArray → Yah, take_append_of_le_length → YdF, take_length → YaI, take_of_length_le → YcS, take_sublist → Yfv, take_succ → YaS, toArray → YcZ, zip_cons_cons → Yfh
open PySem.Heap renaming SameBut → Ycr, get?_push_ne → YcF, get?_push_of_some → Yab, get?_push_size → Yaq, get?_update_ne → Ye3, get?_update_other → YcU, get?_update_self → Yc3, lt_size → Yao, size_push → Ybs
open PySem.W renaming BT → Yco, Frag → Yac, OpenLaw → Ydw, WalkO → YfL, boot_heap → YbJ, boot_o_0 → YcE, boot_o_1 → Ycc, boot_o_10 → Ycn, boot_o_2 → YcD, boot_o_3 → YeY, boot_o_4 → YcC, boot_o_5 → YcB, boot_o_6 → YcA, boot_o_7 → Ycz, boot_o_8 → Ycy, boot_o_9 → Ycx, cellsFrom_some → Yeh, codeIn → Yck, findIn → Ycj, fnOf → YbH, instObj → Ydv, kas_place → YfH, keepIn → YbR, kia_one → Ya6, kitOne → YcY, kitx_dict → YeO, kitx_list → YeN, lookIn → YdQ, methodObj → Ydl, mg_of → Ycu, nsIn → Yb7, plainGet → YeX, specialIn → YeM, topRun → Yft, topStub → Yfe
open PySem renaming Arguments → YfQ, Comprehension → YbI, DictEntry → Ycf, FuncData → Ybm, GenState → YdT, NameKind → YbC, Operator → YbP, PassesOwn → YdR, Spec → YaE, assignEach → Ya2, assignInOrder → Yfb, attributeBase → Ybu, behindInMarks → YdM, binaryOp → Yba, bootBuiltins → YbT, builtinsNs → Ydn, call → Yfd, callType_new → YfJ, call_meets → Ybt, cellsFrom → Ybg, codeAny_mono → Yef, compTurn → Yen, compareOp → YaR, concat_meets → YfI, evalArgs_none → Yda, evalPart_none → Yfa, foldedForSure → Ye9, foldedSetIterable → Ya4, inplaceOp → YdL, keywordEach → Yey, lastMarks → YfG, letOwnedTupleGo → Yct, mainGlobals → YaN, mem_of_lookup → YaC, newFunctionEnv → YeJ, noFill_tuple_add → Yej, post_val_or_str → Ydk, pushCells → Yex, repr_of_reads' → YeI, seqIndex? → YfF, seqIndex_neg → YfE, seqSlot_of → Yfs, seq_tuple_add → Ye8, sizeLine → Yai, sizeLine_eq → Yce, sliceBounds → Yb4, slicePick → YdK, starEach → YaA, swappedStores → Ya9, swapsWith → YcX, swapsWithSole → Ybl, sysModules → YaY, treeTable → YdI, tupleKind → Yew, tupleKind_room_in1 → YcM, typeIs_int → Yd7, typeIs_str → Yd6, wpAny_Call_Name_kw → YcL, wpAny_Call_method0_late → Ye6, wpAny_binaryOp_repeat_ref → YeH, wpAny_bind → Yad, wpAny_callSpecial?_slot → YbG, wpAny_call_entry → Yb3, wpAny_comprehension_free → YeV, wpAny_execs_nil → Yev, wpAny_field → Ybi, wpAny_getItem_list_slice → YcW, wpAny_getItem_str_slice → Ycb, wpAny_holding → Ya8, wpAny_letOwnedTupleGo_enum → YeC, wpAny_mono → Ybe, wpAny_newObj_type → Ya3, wpAny_passesOwn → YbS, wpAny_pure → Yap, wpAny_pyIter_enum → YcV, wpAny_pyIter_list → Yd5, wpAny_pyIter_tuple → YcK, wpAny_pyNext_enum_endD → Yfq, wpAny_pyNext_enum_itemD → Ye5, wpAny_pyNext_list_end → YfD, wpAny_pyNext_list_item → Yfp, wpAny_rule → YeU, wpAny_seqItems → Ydp, wpAny_sequenceKey → Yd4, wpAny_setField → YcQ, wpAny_setField_rec → YcJ, wpAny_standAt → Yc5, wpAny_truthy_bool → YbV, wpAny_typeOf → Yee
open Nat renaming add_le_add_left → Yfg, le_of_eq → YdE, le_of_lt → Yb2, le_refl → Yag, le_succ → Yeb, le_trans → Yan, lt_irrefl → Ybd, lt_of_le_of_lt → YaO, lt_of_lt_of_le → Yat, lt_succ_of_lt → Ydy, lt_trans → YdD, mul_comm → YdC, ne_of_gt → YeS, ne_of_lt → Yav, sub_self → YeR, zero_add → Ycs, zero_le → Ybb
open Bool renaming and_eq_true → Yaz, eq_iff_iff → Ybk, false_eq_true → Ybq, false_ne_true → Yam, false_or → Yeu, not_eq_true' → Ydt, or_eq_true → Yci
open Option.some renaming inj → Yar
open Int renaming dvd_sub → Yfm, ediv_one → YeT, emod_add_mul_ediv → Yc7, emod_eq_zero_of_dvd → Yb5, emod_lt_of_pos → Ybr, emod_nonneg → Yby, eq_ofNat_of_zero_le → YaD, toNat_natCast → YcH
open PySem.PyData renaming canLayAll0 → YeZ, depthAll → Yb1, eqv → YaG, eqvAll → Ydd, int → Yea, showable → YdB, showableAll → YeP, shown → Yb9, shownAll → Yb0
open PySem.NameKind renaming cell → YaH, free → YaK
open PySem.Value renaming bool → Yfc, int → YdP, none → YaP, ref → YbD, str → Yez
open PySem.Builtin.Slice renaming sliceAdjust → Ybj, sliceApplied → YbF, sliceFields → Ydm, slicePlaces → YaT
open PySem.Builtin.Tuple renaming tupleExact → YaV, tupleIsExact → Ydj, tupleItemsOf → Ycd, tupleTooMany → Ydi
open PyProof.Rows renaming args_tuple_getitem → YdO, assignInOrder_cons → YdN, boot_list → Ydx, callWith_type1 → YbB, entry_tuple_getitem → Ydu, slot_tuple_getitem → YaZ, subscriptTail → YdJ, subscriptTail_builtinR → Yfr, tupleItemsOf_ → Ye7
open PySem.W.Fast renaming te14364793385576792824 → Ybf, te5923862056798008813 → YcR
open Array renaming getD_eq_getD_getElem? → YbM, getElem?_setIfInBounds_self_of_lt → YbL, getElem?_toList → YbK, length_toList → Ybz
open PySem.Str renaming empty → YeL, ofString → YbA
open PySem.Obj renaming isFreed_of_fields → YeQ, mapFields → YbE, mapSeq → Ycg
open PySem.Builtin.List renaming listTooLong → YbN
open True renaming intro → YbO
open PySem.Builtin.Str renaming occurrences → YbU
open Sum.inr renaming injEq → YbY
open PySem.F renaming args_object_init_2 → Yfz, args_tuple_add_2 → Ycp, args_tuple_mul_2 → Ydz, entry_enumerate_new → Yfo, entry_tuple_add → Ycv, entry_tuple_mul → YdU, newCall_enumerate_1 → Yfn, plainAttrs_dict → Yd9, plainAttrs_list → YbZ, slot_dict_items → Yd8, slot_dict_values → YdW, slot_int_rmul → Ydc, slot_list_lt → Yep, slot_tuple_add → YcG, slot_tuple_iterator_next → Yet, slot_tuple_mul → Yed, typeCall_enumerate_1 → Ye4
open PySem.Calls renaming Name_function_global → Yd3, callWith_builtin → Yb6
open PySem.W.KasT renaming kasWp_bind → Ych, ret → Yfl
open PySem.Builtin.SmallTypes renaming nextOf → YfC, ownedTupleHandOut → YfB, ownedTupleIsFree → Ycm, stopIteration → YfA
open Prod.mk renaming inj → Ycw
open PySem.Around renaming in1_units → YcI, under_plainId → YeB
open False renaming elim → Yc4
open Prod renaming ext → Yc6
open PySem.W.Hook renaming obs → Yc9, val → Yc8
open PySem.Paired renaming length → Yde
open Option renaming getD_none → Yff, isSome_map → Ydo, map_some → Yfu, none_or → YdY, some_or → YdX
open PySem.Txt renaming slice → YeK, slice_le → YdA
open List.cons renaming inj → YdS
open PySem.AutoSeq1 renaming wpAny_loadPart' → YdV
open List.Pairwise renaming nil → Yec
open PySem.SeqAt renaming EqAt → Yeg, in_listAt → YfK, notIn_listAt → YeW
open PySem.SeqAt.EqAt renaming int_int → Yem, int_str → Yel, str_int → Yek
open PySem.ScopeKind renaming function → Yeo
open PySem.Draws renaming list → Yeq
namespace L2
open PySem PySem.Spec PyProof.Rows

abbrev Key:=Sum Int Str
noncomputable def je1:Key->Value->Bool
 |.inl k,v=>Value.isInt k v
 |.inr x,v=>Value.isStrOf x v
noncomputable def keyH (w:World):Key->Int
 |.inl k=>hashInt k
 |.inr x=>hashStr w x
theorem jam:∀{k:Key} {v:Value},je1 k v=true->(∃i t,k=Sum.inl i/\v=YdP i t)\/(∃x t,k=Sum.inr x/\v=Yez x t)
 |.inl i,v,h=>by
  obtain⟨t,e⟩:=Value.isInt_shape (k:=i) (v:=v) h;exact .inl ⟨i,t,rfl,e⟩
 |.inr x,v,h=>by
  obtain⟨t,e⟩:=Value.isStrOf_shape (x:=x) (v:=v) h;exact .inr ⟨x,t,rfl,e⟩
theorem jgT (i:Int)(t:Tok):je1 (.inl i) (.int i t)=true:=by simp[je1,Value.isInt]
theorem jgS (x:Str)(t:Tok):je1 (.inr x) (.str x t)=true:=by simp[je1,Value.isStrOf]
theorem jmq (a b:Int):decide ((Sum.inl a:Key)=Sum.inl b)=(a==b):=by
 by_cases e:a=b
 ·subst e;simp
 ·have h:¬(Sum.inl a:Key)=Sum.inl b:=λq=>e (Sum.inl.inj q);rw[decide_eq_false h];exact(beq_eq_false_iff_ne.mpr e).symm
theorem jmn (a b:Str):decide ((Sum.inr a:Key)=Sum.inr b)=decide (a=b):=by
 by_cases e:a=b
 ·subst e;simp
 ·have h:¬(Sum.inr a:Key)=Sum.inr b:=λq=>e (Sum.inr.inj q);rw[decide_eq_false h,decide_eq_false e]
theorem jmp (a:Int)(b:Str):decide ((Sum.inl a:Key)=Sum.inr b)=false:=decide_eq_false (λq=>nomatch q)
theorem jmo (a:Str)(b:Int):decide ((Sum.inr a:Key)=Sum.inl b)=false:=decide_eq_false (λq=>nomatch q)

noncomputable def jai (prog:Program)(w:World):PySem.KeyKind prog w Key where
 is:=je1
 hash:=keyH w
 inj:=λv a b ha hb=>by
  rcases jam ha with⟨i,t,rfl,rfl⟩|⟨x,t,rfl,rfl⟩
  ·rcases jam hb with⟨j,u,rfl,e⟩|⟨y,u,rfl,e⟩
   ·injection e with e1 _;rw[e1]
   ·exact nomatch e
  ·rcases jam hb with⟨j,u,rfl,e⟩|⟨y,u,rfl,e⟩
   ·exact nomatch e
   ·injection e with e1 _;rw[e1]
 byValue:=λk v h=>by
  rcases jam h with⟨i,t,rfl,rfl⟩|⟨x,t,rfl,rfl⟩<;>rfl
 pyHash:=λhv h=>by
  rcases jam hv with⟨i,t,rfl,rfl⟩|⟨x,t,rfl,rfl⟩
  ·exact wpAny_pyHash_int h
  ·exact wpAny_pyHash_str h
 eqBool:=λhu hv h=>by
  rcases jam hu with⟨i,t,rfl,rfl⟩|⟨x,t,rfl,rfl⟩
  ·rcases jam hv with⟨j,u,rfl,rfl⟩|⟨y,u,rfl,rfl⟩
   ·rw[jmq]at h;exact wpAny_eqBool_int h
   ·rw[jmp]at h;exact Yel i t y u _ _ _ _ h
  ·rcases jam hv with⟨j,u,rfl,rfl⟩|⟨y,u,rfl,rfl⟩
   ·rw[jmo]at h;exact Yek x t j u _ _ _ _ h
   ·rw[jmn]at h;exact wpAny_eqBool_str h
 «strs»:=λk x t v h=>by
  rcases jam h with⟨i,u,rfl,e⟩|⟨y,u,rfl,e⟩
  ·exact nomatch e
  ·injection e with e1 _
   subst e1
   cases v<;>rfl

theorem jeZ (prog:Program)(w:World)(i:Int)(t:Tok):(jai prog w).is (.inl i) (.int i t)=true:=jgT i t
theorem jeY (prog:Program)(w:World)(x:Str)(t:Tok):(jai prog w).is (.inr x) (.str x t)=true:=jgS x t

inductive V where
 |non|bl (b:Bool)|int (i:Int)|str (x:Str)|byt (b:Array UInt8)|flt (b:UInt64)|ref (a:Addr)|ty (n:String)
 deriving DecidableEq

def RelV:V->Value->Prop
 |.non,u=>u=YaP
 |.bl b,u=>u=Yfc b
 |.int i,u=>∃t,u=YdP i t
 |.str x,u=>∃t,u=Yez x t
 |.byt b,u=>∃t,u=Value.bytes b t
 |.flt b,u=>∃t,u=Value.float b t
 |.ref a,u=>u=YbD a
 |.ty n,u=>u=Value.type n

abbrev Vals:List V->List Value->Prop:=Paired RelV
theorem Vals.length {xs:List V}{us:List Value}(r:Vals xs us):xs.length=us.length:=Yde r
theorem Vals.get:∀{xs:List V} {us:List Value} {i:Nat} {x:V},Vals xs us->xs[i]?=some x->∃u,us[i]?=some u/\RelV x u
 |_,_,_,_,.nil,e=>by simp at e
 |_,_,0,_,.cons r _,e=>by simp at e;subst e;exact⟨_,rfl,r⟩
 |_,_,i+1,x,.cons _ t,e=>by
  obtain⟨u,h1,h2⟩:=Vals.get (i:=i) (x:=x) t (by simpa using e)
  exact⟨u,by simpa using h1,h2⟩
theorem Vals.set {x:V}{u:Value}(r:RelV x u):∀{xs:List V} {us:List Value} (i:Nat),Vals xs us->Vals (xs.set i x) (us.set i u)
 |_,_,_,.nil=>.nil
 |_,_,0,.cons _ t=>.cons r t
 |_,_,i+1,.cons q t=>.cons q (Vals.set r i t)
theorem Vals.append:∀{xs ys:List V} {us ws:List Value},Vals xs us->Vals ys ws->Vals (xs++ys) (us++ws)
 |_,_,_,_,.nil,s=>s
 |_,_,_,_,.cons r t,s=>.cons r (Vals.append t s)
theorem Vals.take:∀{xs:List V} {us:List Value} (n:Nat),Vals xs us->Vals (xs.take n) (us.take n)
 |_,_,0,_=>.nil
 |_,_,_+1,.nil=>.nil
 |_,_,n+1,.cons r t=>.cons r (Vals.take n t)
theorem Vals.drop:∀{xs:List V} {us:List Value} (n:Nat),Vals xs us->Vals (xs.drop n) (us.drop n)
 |_,_,0,r=>r
 |_,_,_+1,.nil=>.nil
 |_,_,n+1,.cons _ t=>Vals.drop n t
def RelO:Option V->Option Value->Prop
 |some v,some u=>RelV v u
 |none,none=>True
 |_,_=>False
def KV {κ:Type}:List (κ×V)->List (κ×Value)->Prop:=Paired λ(p:κ×V) (q:κ×Value)=>p.1=q.1/\RelV p.2 q.2

noncomputable def kV:Key->V
 |.inl i=>.int i
 |.inr x=>.str x

inductive HO where
 |lst (xs:List V)
 |tup (xs:List V)
 |dK (kvs:List (Key×V))|dT (kvs:List (List Key×V))
 |set (S:Int->Bool) (n:Nat)
 |ins (C dx:Addr) (fs:List (Str×V))
 |own (x:Addr)
 |xd (fs:List (Str×V))
 |met (f x:Addr)
 |rng (lo hi:Int)
 |frz (o:Obj) (u:HO)
 |tbl (ps:Array Value)
 |ext (φ:Heap->Prop)

abbrev Hp:=Addr->Option HO
noncomputable def upd (H:Hp)(a:Addr)(o:HO):Hp:=λb=>if b=a then some o else H b
theorem jan {H:Hp}{a:Addr}{o:HO}:upd H a o a=some o:=by unfold upd;rw[if_pos rfl]
section
variable {H:Hp}{a b:Addr}
theorem jad {o:HO}(h:b≠a):upd H a o b=H b:=by unfold upd;rw[if_neg h]
theorem jot {o u:HO}(h:H a=some o)(h':H b=some u)(d:o≠u):a≠b:=by
 intro e;subst e;rw[h]at h';exact d (Yar h')
theorem jah {o:HO}(h:H a=some o)(h':H b=none):a≠b:=by
 intro e;subst e;rw[h]at h';cases h'

end
def TupD (h:Heap)(a:Addr)(items:Array Value):Prop:=∃o,h.get? a=some o/\o.cls=.type "tuple" /\ ∃n,o.data=.seq items n/\o.dict=none
theorem TupD.tup {h:Heap}{a:Addr}{items:Array Value}(x:TupD h a items):IsTup h a items:=let ⟨o,e,c,n,d,_⟩:=x;⟨o,e,c,n,d⟩
theorem TupD.new (h:Heap)(items:Array Value):TupD (h.push { cls:=.type "tuple",data:=.seq items }) h.objs.size items:=⟨_,Yaq _ rfl,rfl,_,rfl,rfl⟩
section
variable (P:Program)(w:World)
def jay (H:Hp)(h:Heap)(a:Addr):HO->Prop
 |.lst xs=>xs.length<=Yai/\∃(its:List Value) (n:Nat),Vals xs its/\h.get? a=some { cls:=.type "list",data:=.seq its.toArray n }
 |.tup xs=>xs.length<=Yai/\∃its:List Value,Vals xs its/\TupD h a its.toArray
 |.dK kvs=>kvs.length<=Yai/\(a==YaY)=false/\∃vs,KV kvs vs/\h.DictOf (jai P w) a vs
 |.dT kvs=>kvs.length<=Yai/\(a==YaY)=false/\∃xs:List (List Key×Addr×Value),
   Paired (λ(p:List Key×V) (q:List Key×Addr×Value)=>p.1=q.1/\H q.2.1=some (.tup (p.1.map kV))/\RelV p.2 q.2.2) kvs xs/\
   ∃o es ep,h.get? a=some o/\o.ExactDict/\o.data=.dict es ep/\es.toList=xs.map (entryOfKey (Yew (jai P w)))/\(xs.map (·.1)).Nodup
 |.set S n=>h.SetOf (intKind P w) a S n
 |.ins C dx fs=>H dx=some (.own a)/\fs.length<=1000/\dx≠a/\h.get? a=some (Ydv C dx)/\
   ∃mA,h.Ns1 dx mA/\(∀f,RelO (fs.lookup f) (mA f))/\PySem.Within mA (fs.map (·.1))
 |.own _=>∃o,h.get? a=some o
 |.xd fs=>∃mA,h.Ns1 a mA/\∀f,RelO (fs.lookup f) (mA f)
 |.rng lo hi=>∃t u v,h.get? a=some { cls:=.type "range",data:=.fields #[.int lo t,.int hi u,.int 1 v] }
 |.frz o u=>h.get? a=some o/\jay H h a u
 |.tbl ps=>h.get? a=some { cls:=.none,data:=.fields ps }
 |.met f x=>h.get? a=some (Ydl (.ref f) (.ref x))
 |.ext φ=>φ h/\(∃o,h.get? a=some o)/\∀h1 h2:Heap,φ h1->(∀o,h1.get? a=some o->h2.get? a=some o)->φ h2
def HOk (H:Hp)(h:Heap):Prop:=∀a o,H a=some o->jay P w H h a o
end

section
variable {P:Program}{w:World}{H H':Hp}{h h':Heap}{a:Addr}{o:HO}
theorem jay.lt (x:jay P w H h a o):a<h.objs.size:=by
 cases o with
 |lst xs=>obtain⟨_,_,_,_,e⟩:=x;exact Yao e
 |tup xs=>obtain⟨_,_,_,p⟩:=x;exact p.tup.lt
 |dK kvs=>obtain⟨_,_,_,_,o,_,_,e,_⟩:=x;exact Yao e
 |dT kvs=>obtain⟨_,_,_,_,o,_,_,e,_⟩:=x;exact Yao e
 |set S n=>obtain⟨o,_,_,_,e,_⟩:=x;exact Yao e
 |ins C dx fs=>obtain⟨_,_,_,e,_⟩:=x;exact Yao e
 |own y=>obtain⟨_,e⟩:=x;exact Yao e
 |xd fs=>obtain⟨_,⟨_,_,_,e,_⟩,_⟩:=x;exact Yao e
 |rng lo hi=>obtain⟨_,_,_,e⟩:=x;exact Yao e
 |frz ob u=>obtain⟨e,_⟩:=x;exact Yao e
 |tbl ps=>exact Yao (show h.get? a=some _ from x)
 |met f y=>exact Yao (show h.get? a=some _ from x)
 |ext φ=>obtain⟨_,⟨_,e⟩,_⟩:=x;exact Yao e
theorem Paired.mapP {α β:Type}{F G:α->β->Prop}:∀{l₁:List α} {l₂:List β},Paired F l₁ l₂->(∀a b,F a b->G a b)->Paired G l₁ l₂
 |_,_,.nil,_=>.nil
 |_,_,.cons r t,f=>.cons (f _ _ r) (Paired.mapP t f)
theorem jay.stay (x:jay P w H h a o)(k:∀b u,(b=a\/H b=some (.own a))->h.get? b=some u->h'.get? b=some u)
  (ho:∀b,H b=some (.own a)->H' b=some (.own a)) (ht:∀b xs,H b=some (.tup xs)->H' b=some (.tup xs)):jay P w H' h' a o:=by
 induction o with
 |lst xs=>obtain⟨z,its,n,r,e⟩:=x;exact⟨z,its,n,r,k _ _ (.inl rfl) e⟩
 |tup xs=>obtain⟨z,its,r,ob,e,c⟩:=x;exact⟨z,its,r,ob,k _ _ (.inl rfl) e,c⟩
 |dK kvs=>obtain⟨z,y,vs,r,ob,es,ep,e,c⟩:=x;exact⟨z,y,vs,r,ob,es,ep,k _ _ (.inl rfl) e,c⟩
 |dT kvs=>
  obtain⟨z,y,xs,r,ob,es,ep,e,c⟩:=x;exact⟨z,y,xs,Paired.mapP r λp q z=>⟨z.1,ht _ _ z.2.1,z.2.2⟩,ob,es,ep,k _ _ (.inl rfl) e,c⟩
 |set S n=>obtain⟨ob,es,ep,t,e,c⟩:=x;exact⟨ob,es,ep,t,k _ _ (.inl rfl) e,c⟩
 |ins C dx fs=>
  obtain⟨d,z,ne,e,mA,⟨od,es,ep,e2,c⟩,r⟩:=x;exact⟨ho _ d,z,ne,k _ _ (.inl rfl) e,mA,⟨od,es,ep,k _ _ (.inr d) e2,c⟩,r⟩
 |own y=>obtain⟨ob,e⟩:=x;exact⟨ob,k _ _ (.inl rfl) e⟩
 |xd fs=>obtain⟨mA,⟨od,es,ep,e,c⟩,r⟩:=x;exact⟨mA,⟨od,es,ep,k _ _ (.inl rfl) e,c⟩,r⟩
 |rng lo hi=>obtain⟨t,u,v,e⟩:=x;exact⟨t,u,v,k _ _ (.inl rfl) e⟩
 |frz ob u ih=>obtain⟨e,q⟩:=x;exact⟨k _ _ (.inl rfl) e,ih q⟩
 |tbl ps=>
  have e:h.get? a=some { cls:=.none,data:=.fields ps }:=x;show h'.get? a=some { cls:=.none,data:=.fields ps };exact k a _ (.inl rfl) e
 |met f y=>
  have e:h.get? a=some (Ydl (.ref f) (.ref y)):=x;show h'.get? a=some (Ydl (.ref f) (.ref y));exact k a _ (.inl rfl) e
 |ext φ=>obtain⟨p,⟨o,e⟩,st⟩:=x;exact⟨st _ _ p λo q=>k _ _ (.inl rfl) q,⟨o,k _ _ (.inl rfl) e⟩,st⟩
theorem HOk.lt (x:HOk P w H h)(e:H a=some o):a<h.objs.size:=(x a o e).lt
theorem HOk.fresh (x:HOk P w H h)(e:h.objs.size<=a):H a=none:=by
 cases q:H a with
 |none=>rfl
 |some u=>exact absurd (Yat (x.lt q) e) (Ybd _)
theorem HOk.kept (x:HOk P w H h)(k:∀b u,h.get? b=some u->h'.get? b=some u):HOk P w H h':=λa o e=>
 (x a o e).stay (λb u _ q=>k b u q) (λ_ q=>q) λ_ _ q=>q
theorem HOk.laid (x:HOk P w H h)(k:∀b u,h.get? b=some u->h'.get? b=some u)(hp:h.objs.size<=a)(new:jay P w (upd H a o) h' a o):HOk P w (upd H a o) h':=λb u e=>by
 have hn:=x.fresh hp;by_cases hb:b=a
 ·subst hb;rw[jan]at e;cases e;exact new
 ·rw[jad hb]at e;exact(x b u e).stay (λc v _ q=>k c v q) (λc q=>by rw[jad (jah q hn)];exact q) λc xs q=>by rw[jad (jah q hn)];exact q
end

def Rd (H:Hp)(a:Addr)(u:HO):Prop:=H a=some u\/∃o,H a=some (.frz o u)
theorem Rd.of {H:Hp}{a:Addr}{u:HO}(h:H a=some u):Rd H a u:=.inl h
theorem Rd.ok {P:Program}{w:World}{H:Hp}{h:Heap}{a:Addr}{u:HO}(r:Rd H a u)(x:HOk P w H h):jay P w H h a u:=by
 rcases r with r|⟨o,r⟩
 ·exact x a u r
 ·obtain⟨_,q⟩:=x a _ r;exact q
def Mut:Option HO->Prop
 |some (.lst _)=>True
 |some (.dK _)=>True
 |some (.dT _)=>True
 |some (.set _ _)=>True
 |some (.ins _ _ _)=>True
 |some (.ext _)=>True
 |_=>False
section
variable {P:Program}{w:World}{H:Hp}{h h':Heap}{x e:Addr}{o':HO}
theorem HOk.write (ok:HOk P w H h)(mu:Mut (H x))(he:e=x\/H e=some (.own x))(k:∀b u,b≠e->h.get? b=some u->h'.get? b=some u)(heo:∃u,h'.get? e=some u)
  (new:jay P w (upd H x o') h' x o'):HOk P w (upd H x o') h':=λb u q=>by
 have nown:∀c y,H c=some (.own y)->c≠x:=λc y r z=>by subst z;rw[r]at mu;exact mu
 have ntup:∀c xs,H c=some (.tup xs)->c≠x:=λc xs r z=>by subst z;rw[r]at mu;exact mu
 by_cases hb:b=x
 ·subst hb;rw[jan]at q;cases q;exact new
 ·rw[jad hb]at q;by_cases hbe:b=e
  ·have q':H b=some (.own x):=by
    rcases he with z|z
    ·exact absurd (hbe.trans z) hb
    ·rw[hbe];exact z
   rw[q]at q';cases q';obtain⟨v,hv⟩:=heo;exact⟨v,by rw[hbe];exact hv⟩
  ·refine(ok b u q).stay (λc v hc r=>k c v ?_ r) (λc r=>by rw[jad (nown c b r)];exact r) λc xs r=>by rw[jad (ntup c xs r)];exact r
   rcases hc with rfl|hc
   ·exact hbe
   ·rintro rfl;rcases he with z|z
    ·exact nown c b hc z
    ·rw[hc]at z;cases z;exact hb rfl
end

structure Un (fs ex:List Addr)(H H':Hp)(h h':Heap):Prop where
 keep:∀b o,h.get? b=some o->H b=none->b∉fs->b∉ex->h'.get? b=some o
 slot:∀b o,h.get? b=some o->H b=none->b∈fs->b∉ex->∃sl,h'.get? b=some { o with slots:=sl }
 free:∀b o,h.get? b=some o->H b=none->b∉ex->H' b=none
 there:∀b o,h.get? b=some o->b∉ex->∃o',h'.get? b=some o'
 tups:∀b xs,H b=some (.tup xs)->H' b=some (.tup xs)
 frzs:∀b o u,H b=some (.frz o u)->H' b=some (.frz o u)
 tbls:∀b ps,H b=some (.tbl ps)->∃more,H' b=some (.tbl (ps++more))
section
variable {fs fs' ex ex':List Addr}{H H1 H2:Hp}{h h1 h2 h':Heap}{a x e:Addr}{o:HO}
theorem Un.any (u:Un fs ex H H1 h h1){b:Addr}{ob:Obj}(q:h.get? b=some ob)(n:H b=none)(hx:b∉ex):∃sl,h1.get? b=some { ob with slots:=sl }:=by
 by_cases hb:b∈fs
 ·exact u.slot b ob q n hb hx
 ·exact⟨ob.slots,u.keep b ob q n hb hx⟩
theorem Un.kept (k:∀b u,h.get? b=some u->h'.get? b=some u):Un fs ex H H h h':=
 ⟨λb ob q _ _ _=>k b ob q,λb ob q _ _ _=>⟨ob.slots,k b ob q⟩,λ_ _ _ n _=>n,λb ob q _=>⟨ob,k b ob q⟩,λ_ _ q=>q,λ_ _ _ q=>q,λ_ ps q=>⟨#[],by rw[q];simp⟩⟩
theorem Un.refl:Un fs ex H H h h:=Un.kept λ_ _ q=>q
theorem Un.laid (k:∀b u,h.get? b=some u->h'.get? b=some u)(hp:h.objs.size<=a)(hn:H a=none):Un fs ex H (upd H a o) h h' where
 keep:=λb u q _ _ _=>k b u q
 slot:=λb u q _ _ _=>⟨u.slots,k b u q⟩
 free:=λb u q n _=>by rw[jad (Yav (Yat (Yao q) hp))];exact n
 there:=λb u q _=>⟨u,k b u q⟩
 tups:=λb xs q=>by rw[jad (jah q hn)];exact q
 frzs:=λb u xs q=>by rw[jad (jah q hn)];exact q
 tbls:=λb ps q=>⟨#[],by rw[jad (jah q hn),q];simp⟩
theorem Un.write (mu:Mut (H x))(he:e=x\/H e=some (.own x))(k:∀b u,b≠e->h.get? b=some u->h'.get? b=some u)(heo:∃u,h'.get? e=some u):Un fs ex H (upd H x o) h h':=by
 have hx:∀b,H b=none->b≠x:=λb n z=>by subst z;rw[n]at mu;exact mu
 have hb:∀b,H b=none->b≠e:=λb n z=>by
  subst z;rcases he with r|r
  ·exact hx b n r
  ·rw[n]at r;cases r
 have hm:∀b u,H b=some u->¬Mut (some u)->b≠x:=λb u q nm z=>by subst z;rw[q]at mu;exact nm mu
 refine⟨λb u q n _ _=>k b u (hb b n) q,λb u q n _ _=>⟨u.slots,k b u (hb b n) q⟩,λb u q n _=>by rw[jad (hx b n)];exact n,λb u q _=>?_,
  λb xs q=>by rw[jad (hm b _ q λz=>z)];exact q,λb u xs q=>by rw[jad (hm b _ q λz=>z)];exact q,λb ps q=>⟨#[],by rw[jad (hm b _ q λz=>z),q];simp⟩⟩
 by_cases hbe:b=e
 ·subst hbe;exact heo
 ·exact⟨u,k b u hbe q⟩
end

noncomputable def trk (h:Heap)(H:Hp):List Addr:=(YaW h.objs.size).filter λa=>(H a).isSome
noncomputable def hidT (h:Heap)(H:Hp):Heap:=PySem.W.hideAll h (trk h H)
theorem jg2 (h:Heap)(H:Hp):(hidT h H).objs.size=h.objs.size:=PySem.W.hideAll_size _ _
section
variable {h:Heap}{H:Hp}{b:Addr}{o:Obj}
theorem jd1 (e:h.get? b=some o)(n:H b=none):(hidT h H).get? b=some o:=
 PySem.W.hideAll_get _ e λhm=>by
  have q:(H b).isSome=true:=(List.mem_filter.mp hm).2;rw[n]at q;simp at q
theorem jj0 (e:(hidT h H).get? b=some o):h.get? b=some o/\H b=none:=by
 have e':h.get? b=some o:=PySem.W.of_hideAll (trk h H) e;refine⟨e',?_⟩;cases q:H b with
 |none=>rfl
 |some x=>
  have hm:b∈trk h H:=List.mem_filter.mpr ⟨List.mem_range.mpr (Yao e'),by simp[q]⟩
  have z:(hidT h H).get? b=none:=PySem.W.hideAll_none (trk h H) hm;rw[z]at e;cases e

end
noncomputable def jkM (g h:Heap)(L:Addr):List (Addr×Obj):=(YaW h.objs.size).filterMap λa=>if a=L\/(g.get? a).isSome=true then none else (h.get? a).map λo=>(a,o)
noncomputable def rest (g h:Heap)(L d:Addr):List (Addr×Obj):=(jkM g h L).filter λp=>decide (p.1≠d)

structure Mod (K:Yac)(mg:Str->Option Value)(base:Heap):Prop where
 kin:K.In base
 glob:base.Ns YaN mg
 blt:∃mb,base.Ns Ydn mb/\∀x:Str,x ≠ "__name__" -> mb x=YbT x
 nolimit:base.NoLimit
 sys:∃o,K.lookup YaY=some o/\o.cls=.type "dict"

structure Cx where
 prog:Program
 w:World
 K:Yac
 mg:Str->Option Value
 base:Heap
 A:Around
 N:List Str
 s₀:Shared
 H₀:Hp
 env:Env
 outer:List Env
 stack:List Env
 ex:List Addr
 fn:Str->Bool
 calm:Bool
 pn:List (Addr×Obj)
 xe:Value->Shared->Prop
noncomputable def frs (l:List Env):List Addr:=l.filterMap (·.frame)
noncomputable abbrev Cx.fs (X:Cx):List Addr:=frs X.outer

def Vis (sc:Scope)(x:Str):Prop:=sc.names.lookup x=some .local\/sc.names.lookup x=some .cell\/sc.names.lookup x=some .free
def Loc (sc:Scope)(x:Str):Prop:=sc.names.lookup x=some .local\/sc.names.lookup x=some .cell
def Look (env:Env)(h:Heap)(m:Str->Option Value)(x:Str)(u:Value):Prop:=
 (env.kindOf x=some .local/\m x=some u)\/((env.kindOf x=some .cell\/env.kindOf x=some .free)/\∃c,env.cells.lookup x=some c/\h.IsCell c (some u))

structure Cx.Ok (X:Cx):Prop where
 mod:Mod X.K X.mg X.base
 kind:X.env.scope.kind=.function
 glob:X.env.globals=YaN
 blt:X.env.builtins=Ydn
 above:X.s₀.heap.objs.size<=X.env.locals
 inj:∀x y c,X.env.cells.lookup x=some c->X.env.cells.lookup y=some c->x=y
 has:∀x,(X.env.kindOf x=some .cell\/X.env.kindOf x=some .free)->∃c,X.env.cells.lookup x=some c
 cab:∀x c,X.fn x=true->X.env.cells.lookup x=some c->X.s₀.heap.objs.size<=c
 hd:X.calm=true->X.A.handled=none
 frames:X.A.frames=some X.stack
 stk:X.stack=X.outer\/(X.stack=X.env::X.outer/\X.env.frame=some X.env.locals)
 exf:∀b∈X.ex,b≠X.env.locals/\∀x c,X.env.cells.lookup x=some c->c≠b
 bs:∀b o,X.base.get? b=some o->X.s₀.heap.get? b=some o/\X.H₀ b=none
 bsz:X.base.objs.size<=X.s₀.heap.objs.size
 noex:∀b o,X.base.get? b=some o->b∉X.ex
 exfs:∀b∈X.ex,b∉X.fs
 funs:X.s₀.heap.FunFrames X.base X.outer
 frf:∀b∈X.fs,X.H₀ b=none

structure Inv (X:Cx)(pins:List (Addr×Obj))(σ:List (Option V))(H:Hp)(s:Shared):Prop where
 ok:X.Ok
 os:s.os=X.s₀.os
 bare:AllBare s.gens
 base:Un X.fs X.ex X.H₀ H X.s₀.heap s.heap
 loc:∃m,s.heap.Ns X.env.locals m/\∀(i:Nat) (x:Str) (v:V),X.N[i]?=some x->σ[i]?=some (some v)->Vis X.env.scope x->∃u,RelV v u/\Look X.env s.heap m x u
 cell:∀x c,X.env.cells.lookup x=some c->∃v,s.heap.IsCell c v
 free:H X.env.locals=none
 freeC:∀x c,X.env.cells.lookup x=some c->H c=none
 pin:∀p∈X.pn++pins,s.heap.get? p.1=some p.2/\H p.1=none/\p.1≠X.env.locals/\p.1∉X.fs/\∀v,p.2.data≠.cell v
 hok:HOk X.prog X.w H s.heap
 len:σ.length=X.N.length

section
variable {X:Cx}{pins:List (Addr×Obj)}{σ:List (Option V)}{H H':Hp}{s:Shared}{h':Heap}

theorem Cx.Ok.nofr (ok:X.Ok){b:Addr}{o:Obj}(e:X.base.get? b=some o):b∉X.fs:=λhb=>by
 have:=(ok.funs.mem hb).1;rw[e]at this;cases this
theorem Inv.bs (I:Inv X pins σ H s):∀b o,X.base.get? b=some o->s.heap.get? b=some o/\H b=none:=λb o e=>
 ⟨I.base.keep b o (I.ok.bs b o e).1 (I.ok.bs b o e).2 (I.ok.nofr e) (I.ok.noex b o e),I.base.free b o (I.ok.bs b o e).1 (I.ok.bs b o e).2 (I.ok.noex b o e)⟩
theorem Inv.bk (I:Inv X pins σ H s):∀b o,X.base.get? b=some o->s.heap.get? b=some o:=λb o e=>(I.bs b o e).1
theorem Inv.mod (I:Inv X pins σ H s):Mod X.K X.mg X.base:=I.ok.mod
theorem Inv.kIn (I:Inv X pins σ H s):X.K.In s.heap:=I.ok.mod.kin.keeps I.bk
theorem Inv.lt (I:Inv X pins σ H s):X.env.locals<s.heap.objs.size:=let ⟨_,hn,_⟩:=I.loc;hn.lt
theorem Inv.sz (I:Inv X pins σ H s):X.s₀.heap.objs.size<=s.heap.objs.size:=Yan I.ok.above (Yb2 I.lt)
theorem Inv.nofs (I:Inv X pins σ H s){a:Addr}(h:s.heap.objs.size<=a):a∉X.fs:=λhb=>by
 obtain⟨_,o,ho,_⟩:=I.ok.funs.mem hb;exact absurd (Yat (Yao ho) (Yan I.sz h)) (Ybd _)
theorem Inv.cne (I:Inv X pins σ H s):∀x c,X.env.cells.lookup x=some c->c≠X.env.locals:=λx c e z=>by
 obtain⟨v,o,ho,hd⟩:=I.cell x c e;obtain⟨m,⟨o',es,ep,ho',hd',_⟩,_⟩:=I.loc;rw[z,ho']at ho;cases ho;rw[hd']at hd;cases hd
theorem Inv.funs (I:Inv X pins σ H s):s.heap.FunFrames X.base X.outer:=by
 have all:∀(l:List Env),(∀b∈frs l,b∈X.fs)->X.s₀.heap.FunFrames X.base l->s.heap.FunFrames X.base l:=by
  intro l
  induction l with
  |nil=>intro _ _;trivial
  |cons env r ih=>
   intro hs hl;obtain⟨hk,⟨L,o,hf,hn,ho,hd⟩,hr⟩:=hl;have hL:L∈X.fs:=hs L (by unfold frs;rw[YbX,hf];exact Yaw)
   obtain⟨sl,e⟩:=I.base.slot L o ho (I.ok.frf L hL) hL λz=>I.ok.exfs L z hL;exact⟨hk,⟨L,_,hf,hn,e,hd⟩,ih (λb hb=>hs b (by unfold frs;rw[YbX,hf];exact Yaj _ hb)) hr⟩
 exact all X.outer (λ_ hb=>hb) I.ok.funs

theorem Inv.stack (I:Inv X pins σ H s):s.heap.FunFrames X.base X.stack:=by
 rcases I.ok.stk with e|⟨e,hf⟩
 ·rw[e];exact I.funs
 ·rw[e];obtain⟨m,hn,_⟩:=I.loc;refine .cons (by rw[I.ok.kind];decide) hf hn ?_ I.funs
  exact Heap.get?_none_of_le (Yan I.ok.bsz I.ok.above)
theorem Inv.stkSub (I:Inv X pins σ H s):∀b∈frs X.stack,b∈X.env.locals::X.fs:=λb hb=>by
 rcases I.ok.stk with e|⟨e,hf⟩
 ·rw[e]at hb;exact Yaj _ hb
 ·rw[e]at hb;unfold frs at hb;rw[YbX,hf]at hb;exact hb
theorem Inv.stkFree (I:Inv X pins σ H s):∀b∈frs X.stack,H b=none:=λb hb=>by
 rcases YaL.mp (I.stkSub b hb)with e|hb
 ·rw[e];exact I.free
 ·obtain⟨_,o,ho,_⟩:=I.ok.funs.mem hb;exact I.base.free b o ho (I.ok.frf b hb) λz=>I.ok.exfs b z hb

theorem Inv.step {g':Array YdT}{t':Nat}{d':Drawn}{ch:List Addr}(I:Inv X pins σ H s)
  (hch:∀b∈ch,(b∈X.ex\/X.s₀.heap.objs.size<=b)/\b≠X.env.locals/\(∀x c,X.env.cells.lookup x=some c->c≠b)/\∀p∈X.pn++pins,p.1≠b)
  (keep:∀b o,b≠X.env.locals->b∉X.fs->b∉ch->s.heap.get? b=some o->H b=none->h'.get? b=some o)
  (slot:∀b o,b≠X.env.locals->b∈X.fs->b∉ch->s.heap.get? b=some o->H b=none->∃sl,h'.get? b=some { o with slots:=sl }) (free:∀b o,b∉ch->s.heap.get? b=some o->H b=none->H' b=none)
  (there:∀b o,b∉ch->s.heap.get? b=some o->∃o',h'.get? b=some o')
  (tups:∀b xs,H b=some (.tup xs)->H' b=some (.tup xs)) (frzs:∀b o u,H b=some (.frz o u)->H' b=some (.frz o u)) (tbls:∀b ps,H b=some (.tbl ps)->∃more,H' b=some (.tbl (ps++more)))
  (ns:∀m,s.heap.Ns X.env.locals m->h'.Ns X.env.locals m) (hok:HOk X.prog X.w H' h') (hg:AllBare g') :
  Inv X pins σ H' { s with heap:=h',gens:=g',drawn:=d',toks:=t' }:=by
 have neL:∀b o,X.s₀.heap.get? b=some o->b≠X.env.locals:=λb o e=>Yav (Yat (Yao e) I.ok.above);have neC:∀b o,X.s₀.heap.get? b=some o->b∉X.ex->b∉ch:=λb o e hx hb=>by
  rcases(hch b hb).1 with z|z
  ·exact hx z
  ·exact absurd (Yat (Yao e) z) (Ybd _)
 have cellK:∀x c,X.env.cells.lookup x=some c->∀v,s.heap.IsCell c v->h'.IsCell c v:=λx c e v ⟨o,ho,hd⟩=>by
  have nch:c∉ch:=λz=>(hch c z).2.2.1 x c e rfl;by_cases hc:c∈X.fs
  ·obtain⟨sl,q⟩:=slot c o (I.cne x c e) hc nch ho (I.freeC x c e);exact⟨_,q,hd⟩
  ·exact⟨o,keep c o (I.cne x c e) hc nch ho (I.freeC x c e),hd⟩
 refine⟨I.ok,I.os,hg,⟨λb o e n hb hx=>?_,λb o e n hb hx=>?_,λb o e n hx=>?_,λb o e hx=>?_,λb xs e=>tups b xs (I.base.tups b xs e),λb o xs e=>frzs b o xs (I.base.frzs b o xs e),λb ps e=>?_⟩,?_,λx c e=>?_,?_,λx c e=>?_,λp hp=>?_,hok,I.len⟩
 ·exact keep b o (neL b o e) hb (neC b o e hx) (I.base.keep b o e n hb hx) (I.base.free b o e n hx)
 ·obtain⟨sl,e1⟩:=I.base.slot b o e n hb hx;obtain⟨sl',e2⟩:=slot b _ (neL b o e) hb (neC b o e hx) e1 (I.base.free b o e n hx);exact⟨sl',e2⟩
 ·obtain⟨o',e1⟩:=I.base.there b o e hx;exact free b o' (neC b o e hx) e1 (I.base.free b o e n hx)
 ·obtain⟨o',e1⟩:=I.base.there b o e hx;exact there b o' (neC b o e hx) e1
 ·obtain⟨m1,e1⟩:=I.base.tbls b ps e;obtain⟨m2,e2⟩:=tbls b _ e1;exact⟨m1++m2,by rw[e2,Array.append_assoc]⟩
 ·obtain⟨m,hn,hl⟩:=I.loc;refine⟨m,ns m hn,λi x v e1 e2 e3=>?_⟩;obtain⟨u,r,l⟩:=hl i x v e1 e2 e3;refine⟨u,r,?_⟩;rcases l with l|⟨k,c,e,z⟩
  ·exact .inl l
  ·exact .inr ⟨k,c,e,cellK x c e _ z⟩
 ·obtain⟨v,z⟩:=I.cell x c e;exact⟨v,cellK x c e v z⟩
 ·obtain⟨m,⟨o,_,_,ho,_⟩,_⟩:=I.loc;exact free _ o (λz=>(hch _ z).2.1 rfl) ho I.free
 ·obtain⟨v,o,ho,hd⟩:=I.cell x c e;exact free c o (λz=>(hch c z).2.2.1 x c e rfl) ho (I.freeC x c e)
 ·obtain⟨e,n,ne,nf,d⟩:=I.pin p hp;have nch:p.1∉ch:=λz=>(hch p.1 z).2.2.2 p hp rfl;exact⟨keep p.1 p.2 ne nf nch e n,free p.1 p.2 nch e n,ne,nf,d⟩
theorem Inv.un {t':Nat}(I:Inv X pins σ H s)(u:Un X.fs [] H H' s.heap h')(hok:HOk X.prog X.w H' h'):Inv X pins σ H' { s with heap:=h',toks:=t' }:=by
 obtain⟨m,⟨o,es,ep,ho,r⟩,_⟩:=id I.loc;obtain⟨sl,hL⟩:=u.any ho I.free (by simp)
 exact I.step (g':=s.gens) (d':=s.drawn) (ch:=[]) (λ_ z=>nomatch z) (λb o _ hb _ e n=>u.keep b o e n hb (by simp)) (λb o _ hb _ e n=>u.slot b o e n hb (by simp)) (λb o _ e n=>u.free b o e n (by simp)) (λb o _ e=>u.there b o e (by simp)) u.tups u.frzs u.tbls (λm' hm=>by
  obtain⟨o',es',ep',ho',r'⟩:=hm;rw[ho]at ho';cases ho';exact⟨_,es',ep',hL,r'⟩) hok I.bare
theorem Inv.call {g':Array YdT}{t':Nat}{d':Drawn}{ch:List Addr}(I:Inv X pins σ H s)(u:Un (frs X.stack) ch H H' s.heap h')(hok:HOk X.prog X.w H' h')(hg:AllBare g')
  (hch:∀b∈ch,(b∈X.ex\/X.s₀.heap.objs.size<=b)/\b≠X.env.locals/\(∀x c,X.env.cells.lookup x=some c->c≠b)/\∀p∈X.pn++pins,p.1≠b) :
  Inv X pins σ H' { s with heap:=h',gens:=g',drawn:=d',toks:=t' }:=by
 obtain⟨m,⟨o,es,ep,ho,r⟩,_⟩:=id I.loc;obtain⟨sl,hL⟩:=u.any ho I.free λz=>(hch _ z).2.1 rfl;exact I.step (ch:=ch) hch (λb o hL hb hc e n=>u.keep b o e n (λz=>(YaL.mp (I.stkSub b z)).elim hL hb) hc) (λb o _ _ hc e n=>u.any e n hc) (λb o hc e n=>u.free b o e n hc) (λb o hc e=>u.there b o e hc) u.tups u.frzs u.tbls (λm' hm=>by
  obtain⟨o',es',ep',ho',r'⟩:=hm;rw[ho]at ho';cases ho';exact⟨_,es',ep',hL,r'⟩) hok hg
theorem Inv.turned {t':Nat}{it:Addr}(I:Inv X pins σ H s)(k:∀b o,b≠it->s.heap.get? b=some o->h'.get? b=some o)(hn:H it=none)(hL:it≠X.env.locals)
  (h1:it∈X.ex\/X.s₀.heap.objs.size<=it) (h2:∀x c,X.env.cells.lookup x=some c->c≠it) (h3:∀p∈X.pn++pins,p.1≠it):Inv X pins σ H { s with heap:=h',toks:=t' }:=by
 have nit:∀b u,H b=some u->b≠it:=λb u e z=>by rw[z,hn]at e;cases e
 refine I.step (g':=s.gens) (d':=s.drawn) (ch:=[it]) (λb hb=>?_) (λb o _ _ hc e _=>k b o (λz=>hc (by simp[z])) e) (λb o _ _ hc e _=>⟨o.slots,k b o (λz=>hc (by simp[z])) e⟩) (λ_ _ _ _ n=>n)
  (λb o hc e=>⟨o,k b o (λz=>hc (by simp[z])) e⟩) (λ_ _ e=>e) (λ_ _ _ e=>e) (λb ps e=>⟨#[],by rw[e];simp⟩) (λm hm=>?_) (λb u e=>?_) I.bare
 ·have e:b=it:=by simpa using hb
  subst e;exact⟨h1,hL,h2,h3⟩
 ·obtain⟨o,es,ep,ho,r⟩:=hm;exact⟨o,es,ep,k _ o (Ne.symm hL) ho,r⟩
 ·refine(I.hok b u e).stay (λc v hc q=>k c v ?_ q) (λ_ q=>q) λ_ _ q=>q;rcases hc with z|z
  ·rw[z];exact nit b u e
  ·exact nit c _ z
theorem Inv.tok (I:Inv X pins σ H s)(t:Nat):Inv X pins σ H { s with toks:=t }:=I.un (h':=s.heap) (t':=t) Un.refl I.hok
theorem Inv.kept {t':Nat}(I:Inv X pins σ H s)(k:∀b u,s.heap.get? b=some u->h'.get? b=some u):Inv X pins σ H { s with heap:=h',toks:=t' }:=I.un (Un.kept k) (I.hok.kept k)
theorem Inv.laid {a:Addr}{o:HO}{t':Nat}(I:Inv X pins σ H s)(k:∀b u,s.heap.get? b=some u->h'.get? b=some u)(hp:s.heap.objs.size<=a)(new:jay X.prog X.w (upd H a o) h' a o) :
  Inv X pins σ (upd H a o) { s with heap:=h',toks:=t' }:=I.un (Un.laid k hp (I.hok.fresh hp)) (I.hok.laid k hp new)
theorem Inv.write {x e:Addr}{o:HO}{t':Nat}(I:Inv X pins σ H s)(mu:Mut (H x))(he:e=x\/H e=some (.own x))(k:∀b u,b≠e->s.heap.get? b=some u->h'.get? b=some u)(heo:∃u,h'.get? e=some u)
  (new:jay X.prog X.w (upd H x o) h' x o):Inv X pins σ (upd H x o) { s with heap:=h',toks:=t' }:=I.un (Un.write mu he k heo) (I.hok.write mu he k heo new)
theorem Inv.pins_of {pins':List (Addr×Obj)}(I:Inv X pins σ H s)(h:∀p∈pins',s.heap.get? p.1=some p.2/\H p.1=none/\p.1≠X.env.locals/\p.1∉X.fs/\∀v,p.2.data≠.cell v):Inv X pins' σ H s:=
 ⟨I.ok,I.os,I.bare,I.base,I.loc,I.cell,I.free,I.freeC,λp hp=>(List.mem_append.mp hp).elim (λz=>I.pin p (Yau _ z)) (h p),I.hok,I.len⟩

theorem jft {N:List Str}(hN:N.Nodup){i j:Nat}{x:Str}(a:N[i]?=some x)(b:N[j]?=some x):i=j:=by
 obtain⟨h1,e1⟩:=List.getElem?_eq_some_iff.mp a;obtain⟨h2,e2⟩:=List.getElem?_eq_some_iff.mp b;exact(List.getElem_inj hN).mp (e1.trans e2.symm)

section
variable {M:Model}{A:Around}{E:Value->Shared->Prop}{i:Nat}{x:Str}{v:V}{u:Value}{Q:Unit->Shared->Prop}
theorem jeg (I:Inv X pins σ H s)(hN:X.N.Nodup)(hi:X.N[i]?=some x)(hx:Loc X.env.scope x)(r:RelV v u)
  (h:∀s',Inv X pins (σ.set i (some v)) H s'->(∃a,Ycr a s.heap s'.heap/\(a=X.env.locals\/X.env.cells.lookup x=some a))->Q () s') (hf:X.fn x=true\/X.env.scope.names.lookup x=some .local:=by first|exact .inl rfl|exact .inr rfl|assumption):wpAny M A (storeName X.env x u) Q E s:=by
 obtain⟨m,hn,hl⟩:=id I.loc;have hcls:(X.env.scope.kind == .class||(X.env.scope.kind == .module&&X.env.locals != X.env.globals))=false:=by rw[I.ok.kind];rfl
 have hiσ:i<σ.length:=by rw[I.len];exact(List.getElem?_eq_some_iff.mp hi).1
 have cne:=I.cne;have tracked:∀{a:Addr} {h':Heap},(∃o,s.heap.get? a=some o/\H a=none)->Ycr a s.heap h'->HOk X.prog X.w H h':=λ{a h'} ha hs b ob e=>by
  obtain⟨_,_,hfree⟩:=ha;refine(I.hok b ob e).stay (λc w' hc q=>(hs.2 c ?_).trans q) (λ_ q=>q) λ_ _ q=>q;rintro rfl;rcases hc with rfl|hc
  ·rw[hfree]at e;cases e
  ·rw[hfree]at hc;cases hc
 rcases hx with hk|hk
 ·refine wpAny_storeName_local hk hn (λh' hn' hs=>?_) hcls;obtain⟨oL,_,_,hoL,_⟩:=id hn;refine h _ ⟨I.ok,I.os,I.bare,⟨λb o e n hb hx=>?_,λb o e n hb hx=>?_,I.base.free,λb o e hx=>?_,I.base.tups,I.base.frzs,I.base.tbls⟩,⟨_,hn',λj y v' e1 e2 e3=>?_⟩,λy c e=>?_,I.free,I.freeC,λp hp=>?_,tracked ⟨oL,hoL,I.free⟩ hs,by simpa using I.len⟩ ⟨_,hs,.inl rfl⟩
  ·exact(hs.2 b (Yav (Yat (Yao e) I.ok.above))).trans (I.base.keep b o e n hb hx)
  ·obtain⟨sl,e1⟩:=I.base.slot b o e n hb hx;exact⟨sl,(hs.2 b (Yav (Yat (Yao e) I.ok.above))).trans e1⟩
  ·obtain⟨o',e1⟩:=I.base.there b o e hx;exact⟨o',(hs.2 b (Yav (Yat (Yao e) I.ok.above))).trans e1⟩
  ·by_cases hj:j=i
   ·subst hj;rw[hi]at e1;cases e1;rw[Yb8 hiσ]at e2;cases e2;exact⟨u,r,.inl ⟨hk,by simp⟩⟩
   ·rw[Ybv (Ne.symm hj)]at e2;obtain⟨u',r',q⟩:=hl j y v' e1 e2 e3;refine⟨u',r',?_⟩;rcases q with⟨k,e⟩|⟨k,c,e,z⟩
    ·refine .inl ⟨k,?_⟩;have:y≠x:=λe=>hj (jft hN e1 (e ▸ hi));simp[this,e]
    ·exact .inr ⟨k,c,e,z.sameBut hs (cne y c e)⟩
  ·obtain⟨w',z⟩:=I.cell y c e;exact⟨w',z.sameBut hs (cne y c e)⟩
  ·obtain⟨e,n,ne,nf,d⟩:=I.pin p hp;exact⟨(hs.2 p.1 ne).trans e,n,ne,nf,d⟩
 ·have hfn:X.fn x=true:=by
   rcases hf with z|z
   ·exact z
   ·rw[z]at hk;cases hk
  obtain⟨c,hc⟩:=I.ok.has x (.inl hk);obtain⟨w',z⟩:=I.cell x c hc;refine wpAny_storeName_cell I.ok.kind hk hc z (λh' hc' hs=>?_);obtain⟨oc,hoc,hocd⟩:=id z;refine h { s with heap:=h' } ⟨I.ok,I.os,I.bare,⟨λb o e n hb hx=>?_,λb o e n hb hx=>?_,I.base.free,λb o e hx=>?_,I.base.tups,I.base.frzs,I.base.tbls⟩,⟨m,hn.sameBut hs (Ne.symm (cne x c hc)),λj y v' e1 e2 e3=>?_⟩,λy c' e=>?_,I.free,I.freeC,λp hp=>?_,tracked ⟨oc,hoc,I.freeC x c hc⟩ hs,by simpa using I.len⟩ ⟨c,hs,.inr hc⟩
  ·exact(hs.2 b (Yav (Yat (Yao e) (I.ok.cab x c hfn hc)))).trans (I.base.keep b o e n hb hx)
  ·obtain⟨sl,e1⟩:=I.base.slot b o e n hb hx;exact⟨sl,(hs.2 b (Yav (Yat (Yao e) (I.ok.cab x c hfn hc)))).trans e1⟩
  ·obtain⟨o',e1⟩:=I.base.there b o e hx;exact⟨o',(hs.2 b (Yav (Yat (Yao e) (I.ok.cab x c hfn hc)))).trans e1⟩
  ·by_cases hj:j=i
   ·subst hj;rw[hi]at e1;cases e1;rw[Yb8 hiσ]at e2;cases e2;exact⟨u,r,.inr ⟨.inl hk,c,hc,hc'⟩⟩
   ·rw[Ybv (Ne.symm hj)]at e2;obtain⟨u',r',q⟩:=hl j y v' e1 e2 e3;refine⟨u',r',?_⟩;rcases q with q|⟨k,c',e,z'⟩
    ·exact .inl q
    ·refine .inr ⟨k,c',e,z'.sameBut hs ?_⟩;rintro rfl;exact hj (jft hN e1 (I.ok.inj _ _ _ e hc ▸ hi))
  ·by_cases hcc:c'=c
   ·subst hcc;exact⟨_,hc'⟩
   ·obtain⟨w2,z2⟩:=I.cell y c' e;exact⟨w2,z2.sameBut hs hcc⟩
  ·obtain⟨e,n,ne,nf,d⟩:=I.pin p hp;refine⟨(hs.2 p.1 ?_).trans e,n,ne,nf,d⟩;intro q;rw[q,hoc]at e;have q':oc=p.2:=Yar e;exact d w' (by rw[<- q'];exact hocd)
theorem jcJ (I:Inv X pins σ H s)(hN:X.N.Nodup)(hi:X.N[i]?=some x)(hx:Loc X.env.scope x)(r:RelV v u)
  (h:∀s',Inv X pins (σ.set i (some v)) H s'->Q () s') (hf:X.fn x=true\/X.env.scope.names.lookup x=some .local:=by first|exact .inl rfl|exact .inr rfl|assumption):wpAny M A (storeName X.env x u) Q E s:=
 jeg I hN hi hx r (λs' I' _=>h s' I') hf
end
theorem Inv.call' {s':Shared}{ch:List Addr}(I:Inv X pins σ H s)(ho:s'.os=s.os)(u:Un (frs X.stack) ch H H' s.heap s'.heap)(hok:HOk X.prog X.w H' s'.heap)(hg:AllBare s'.gens)
  (hch:∀b∈ch,(b∈X.ex\/X.s₀.heap.objs.size<=b)/\b≠X.env.locals/\(∀x c,X.env.cells.lookup x=some c->c≠b)/\∀p∈X.pn++pins,p.1≠b):Inv X pins σ H' s':=by
 obtain⟨h',g',d',t',o'⟩:=s';have e:o'=s.os:=ho;subst e;exact I.call (g':=g') (t':=t') (d':=d') u hok hg hch
end

abbrev XK:=Value->Option Addr->Hp->Prop
abbrev St:=List (Option V)
abbrev VK:=V->Hp->Prop
abbrev TE:=St->Hp->VK->Prop
abbrev TT:=St->Hp->(Bool->Hp->Prop)->Prop
abbrev TA:=St->Hp->(List V->Hp->Prop)->Prop
structure Ends where
 nx:St->Hp->Prop
 rt:VK
 bk:St->Hp->Prop:=λ_ _=>False
 ct:St->Hp->Prop:=λ_ _=>False
abbrev TS:=Ends->St->Hp->Prop

def EP (X:Cx)(pins:List (Addr×Obj))(σ:St)(Q:VK)(u:Value)(s':Shared):Prop:=∃v H',Inv X pins σ H' s'/\RelV v u/\Q v H'
def TP (X:Cx)(pins:List (Addr×Obj))(σ:St)(Q:Bool->Hp->Prop)(b:Bool)(s':Shared):Prop:=∃H',Inv X pins σ H' s'/\Q b H'
def AP (X:Cx)(pins:List (Addr×Obj))(σ:St)(Q:List V->Hp->Prop)(us:List Value)(s':Shared):Prop:=∃vs H',Inv X pins σ H' s'/\Vals vs us/\Q vs H'
def SP (X:Cx)(pins:List (Addr×Obj))(D:Ends)(f:Flow)(s':Shared):Prop:=
 match f with
 |.next=>∃σ' H',Inv X pins σ' H' s'/\D.nx σ' H'
 |.brk=>∃σ' H',Inv X pins σ' H' s'/\D.bk σ' H'
 |.cont=>∃σ' H',Inv X pins σ' H' s'/\D.ct σ' H'
 |.ret u=>∃v σ' H',Inv X pins σ' H' s'/\RelV v u/\D.rt v H'

def PE (X:Cx)(e:Expr)(t:TE):Prop:=
 ∀(pins:List (Addr×Obj)) (s:Shared) (σ:St) (H:Hp) (Q:VK),Inv X pins σ H s->t σ H Q->wpAny (model X.prog X.w) X.A (eval e X.env) (EP X pins σ Q) X.xe s
def PT (X:Cx)(e:Expr)(t:TT):Prop:=
 ∀(pins:List (Addr×Obj)) (s:Shared) (σ:St) (H:Hp) (Q:Bool->Hp->Prop),Inv X pins σ H s->t σ H Q->wpAny (model X.prog X.w) X.A (isTrue e X.env (eval e X.env)) (TP X pins σ Q) X.xe s
def PW (X:Cx)(e:Expr)(t:TT):Prop:=
 ∀(whole:Sem Value) (pins:List (Addr×Obj)) (s:Shared) (σ:St) (H:Hp) (Q:Bool->Hp->Prop),Inv X pins σ H s->t σ H Q->wpAny (model X.prog X.w) X.A (isTrue e X.env whole) (TP X pins σ Q) X.xe s
theorem PW.pt {X:Cx}{e:Expr}{t:TT}(h:PW X e t):PT X e t:=h _
def PA (X:Cx)(es:List Expr)(t:TA):Prop:=
 ∀(pos:Pos) (pins:List (Addr×Obj)) (s:Shared) (σ:St) (H:Hp) (Q:List V->Hp->Prop),Inv X pins σ H s->t σ H Q->wpAny (model X.prog X.w) X.A (spliced (backTo pos (YaA es X.env))) (AP X pins σ Q) X.xe s
def PS (X:Cx)(st:Stmt)(t:TS):Prop:=
 ∀(pins:List (Addr×Obj)) (s:Shared) (σ:St) (H:Hp) (D:Ends),Inv X pins σ H s->t D σ H->wpAny (model X.prog X.w) X.A (exec st X.env) (SP X pins D) X.xe s
def PSs (X:Cx)(st:List Stmt)(t:TS):Prop:=
 ∀(pins:List (Addr×Obj)) (s:Shared) (σ:St) (H:Hp) (D:Ends),Inv X pins σ H s->t D σ H->wpAny (model X.prog X.w) X.A (execs st X.env) (SP X pins D) X.xe s
theorem thn {α:Type}{t:Sem α}{Q Q':α->Shared->Prop}{M:Model}{A:Around}{E:Value->Shared->Prop}{s:Shared}(h:wpAny M A t Q E s)(hQ:∀a s,Q a s->Q' a s):wpAny M A t Q' E s:=Ybe h hQ λ_ _ x=>x
section
variable {X:Cx}

def tVar (i:Nat):TE:=λσ H Q=>∃v,σ[i]?=some (some v)/\Q v H
def tC (v:V):TE:=λ_ H Q=>Q v H
theorem jlH {i:Nat}{x:Str}{pos:Pos}(hN:X.N[i]?=some x)(hv:Vis X.env.scope x)(hd:(x==("__debug__" : Str))=false:=by decide)(hcd:(x==("__classdict__" : Str))=false:=by decide):PE X (.Name x pos) (tVar i):=by
 intro pins s σ H Q I h;obtain⟨v,e,h⟩:=h;obtain⟨m,hn,hl⟩:=I.loc;obtain⟨u,r,l⟩:=hl i x v hN e hv;have fin:EP X pins σ Q u s:=⟨v,H,I,r,h⟩;rcases l with⟨hk,hm⟩|⟨hk,c,hc,hcell⟩
 ·exact wpAny_Name (wpAny_loadName_local I.ok.kind hk hn hm fin) hd
 ·rcases hk with hk|hk
  ·exact wpAny_Name (wpAny_loadName_cell I.ok.kind hk hc hcell fin) hd
  ·exact wpAny_Name (wpAny_loadName_free I.ok.kind hk hc hcell fin hcd) hd
theorem jlO {i j pos}:PE X (.Constant (.int i) j pos) (tC (.int i)):=λ_ _ _ H _ I h=>wpAny_Constant_int ⟨.int i,H,I.tok _,⟨_,rfl⟩,h⟩
theorem jom {b j pos}:PE X (.Constant (.bool b) j pos) (tC (.bl b)):=λ_ _ _ H _ I h=>Constant_bool ⟨.bl b,H,I,rfl,h⟩
theorem jlL {j pos}:PE X (.Constant .none j pos) (tC .non):=λ_ _ _ H _ I h=>Constant_none ⟨.non,H,I,rfl,h⟩
theorem jlJ {x j pos}:PE X (.Constant (.str x) j pos) (tC (.str x)):=λ_ _ _ H _ I h=>Calls.Constant_str ⟨.str x,H,I.tok _,⟨_,rfl⟩,h⟩

def Gl (X:Cx)(x:Str):Prop:=X.env.kindOf x=some .globalImplicit
section
variable {E:Value->Shared->Prop}{pins:List (Addr×Obj)}{s:Shared}{σ:St}{H:Hp}{x:Str}{u:Value}{pos:Pos}{Q:Value->Shared->Prop}
theorem jgQ (I:Inv X pins σ H s)(hg:Gl X x)(hm:X.mg x=some u)(h:Q u s)
  (hd:(x==("__debug__" : Str))=false:=by decide):wpAny (model X.prog X.w) X.A (eval (.Name x pos) X.env) Q E s:=
 Yd3 I.ok.kind hg (Calls.loadGlobal_global (by rw[I.ok.glob];exact I.mod.glob.keeps I.bk) hm h) hd
theorem jdA (I:Inv X pins σ H s)(hg:Gl X x)(hm:X.mg x=none)(hv:YbT x=some u)(h:Q u s)
  (hn:x ≠ "__name__" := by decide) (hd:(x==("__debug__" : Str))=false:=by decide):wpAny (model X.prog X.w) X.A (eval (.Name x pos) X.env) Q E s:=by
 obtain⟨mb,h1,h2⟩:=I.mod.blt;exact Yd3 I.ok.kind hg (Calls.loadGlobal_builtin (by rw[I.ok.glob];exact I.mod.glob.keeps I.bk) hm (by rw[I.ok.blt];exact h1.keeps I.bk) ((h2 x hn).trans hv) h) hd
end
theorem jjI {x:Str}{v:V}{u:Value}{pos:Pos}(hg:Gl X x)(hm:X.mg x=none)(hv:YbT x=some u)(r:RelV v u)(hn:x ≠ "__name__" := by decide)(hd:(x==("__debug__" : Str))=false:=by decide):PE X (.Name x pos) (tC v):=
 λ_ _ _ H _ I h=>jdA I hg hm hv ⟨v,H,I,r,h⟩ hn hd

variable {a b:Expr}{ta tb:TE}{pos:Pos}
def tB (t:TE):TT:=λσ H Q=>t σ H λx H1=>∃c,x=.bl c/\Q c H1
variable {tA tB':TT}{rest:List Expr}
def tAnd (t u:TT):TT:=λσ H Q=>t σ H λc H1=>if c=true then u σ H1 Q else Q false H1
def tOr (t u:TT):TT:=λσ H Q=>t σ H λc H1=>if c=true then Q true H1 else u σ H1 Q
def tNot (t:TT):TT:=λσ H Q=>t σ H λc H1=>Q (!c) H1
theorem pw_and1 (ha:PT X a tA):PW X (.BoolOp .And [a] pos) tA:=by
 intro wh pins s σ H Q I h;refine isTrue_and (thn (ha pins s σ H Q I h) λc s1 e=>?_);cases c with
 |true=>exact isTrue_and_nil e
 |false=>exact e
theorem pw_or1 (ha:PT X a tA):PW X (.BoolOp .Or [a] pos) tA:=by
 intro wh pins s σ H Q I h;refine isTrue_or (thn (ha pins s σ H Q I h) λc s1 e=>?_);cases c with
 |false=>exact isTrue_or_nil e
 |true=>exact e
theorem pw_and (ha:PT X a tA)(hb:PW X (.BoolOp .And (b::rest) pos) tB'):PW X (.BoolOp .And (a::b::rest) pos) (tAnd tA tB'):=by
 intro wh pins s σ H Q I h;refine isTrue_and (thn (ha pins s σ H _ I h) λc s1 ⟨H1,I1,q1⟩=>?_);cases c with
 |true=>exact hb wh pins s1 σ H1 Q I1 q1
 |false=>exact⟨H1,I1,q1⟩
theorem pw_or (ha:PT X a tA)(hb:PW X (.BoolOp .Or (b::rest) pos) tB'):PW X (.BoolOp .Or (a::b::rest) pos) (tOr tA tB'):=by
 intro wh pins s σ H Q I h;refine isTrue_or (thn (ha pins s σ H _ I h) λc s1 ⟨H1,I1,q1⟩=>?_);cases c with
 |true=>exact⟨H1,I1,q1⟩
 |false=>exact hb wh pins s1 σ H1 Q I1 q1
theorem jlt (ha:PT X a tA):PT X (.UnaryOp .Not a pos) (tNot tA):=by
 intro pins s σ H Q I h;exact isTrue_not (ha pins s σ H (λc H1=>Q (!c) H1) I h)
def jpW (ta tb:TE):TE:=λσ H Q=>ta σ H λx H1=>∃c,x=.bl c/\if c=true then tb σ H1 Q else Q (.bl false) H1
def tOrV (ta tb:TE):TE:=λσ H Q=>ta σ H λx H1=>∃c,x=.bl c/\if c=true then Q (.bl true) H1 else tb σ H1 Q
def jpV (ta:TE):TE:=λσ H Q=>ta σ H λx H1=>∃c,x=.bl c/\Q (.bl (!c)) H1
theorem jix {op}{t:TE}(h:PE X a t):PE X (.BoolOp op [a] pos) t:=λpins s σ H Q I hw=>BoolOp_one (h pins s σ H Q I hw)
def tIf (t:TT)(ta tb:TE):TE:=λσ H Q=>t σ H λc H1=>if c=true then ta σ H1 Q else tb σ H1 Q
theorem jhU {c:Expr}(hc:PT X c tA)(ha:PE X a ta)(hb:PE X b tb):PE X (.IfExp c a b pos) (tIf tA ta tb):=by
 intro pins s σ H Q I h;refine wpAny_IfExp (thn (hc pins s σ H _ I h) λd s1 ⟨H1,I1,q1⟩=>?_);cases d with
 |true=>exact ha pins s1 σ H1 Q I1 q1
 |false=>exact hb pins s1 σ H1 Q I1 q1
end

def SqL (K:Yac)(H:Hp)(a:Addr)(xs:List V):Prop:=
 Rd H a (.lst xs)\/
  ∃(o:Obj) (its:Array Value) (n:Nat),K.lookup a=some o/\o.cls=.type "list" /\ o.dict=none/\o.data=.seq its n/\its.size<=Yai/\Vals xs its.toList
def SqT (K:Yac)(H:Hp)(a:Addr)(xs:List V):Prop:=
 Rd H a (.tup xs)\/
  ∃(o:Obj) (its:Array Value) (n:Nat),K.lookup a=some o/\o.cls=.type "tuple" /\ o.data=.seq its n/\its.size<=Yai/\Vals xs its.toList
noncomputable def absV:Value->Option V
 |.none=>some .non
 |.bool b=>some (.bl b)
 |.int i _=>some (.int i)
 |.str x _=>some (.str x)
 |.bytes b _=>some (.byt b)
 |.float b _=>some (.flt b)
 |.ref a=>some (.ref a)
 |.type n=>some (.ty n)
 |_=>none
theorem RelV.abs {x:V}{u:Value}(r:RelV x u):absV u=some x:=by
 cases x with
 |non=>cases r;rfl
 |bl _=>cases r;rfl
 |int _=>obtain⟨t,rfl⟩:=r;rfl
 |str _=>obtain⟨t,rfl⟩:=r;rfl
 |byt _=>obtain⟨t,rfl⟩:=r;rfl
 |flt _=>obtain⟨t,rfl⟩:=r;rfl
 |ref _=>cases r;rfl
 |ty _=>cases r;rfl
theorem RelV.inj {x y:V}{u:Value}(r:RelV x u)(q:RelV y u):x=y:=Yar (r.abs.symm.trans q.abs)
theorem Vals.inj:∀{xs ys:List V} {us:List Value},Vals xs us->Vals ys us->xs=ys
 |_,_,_,.nil,.nil=>rfl
 |_,_,_,.cons r t,.cons r' t'=>by rw[r.inj r',Vals.inj t t']
section
variable {X:Cx}{pins:List (Addr×Obj)}{σ:St}{H:Hp}{s:Shared}{a:Addr}{xs ys:List V}
theorem SqL.of {K:Yac}(h:H a=some (.lst xs)):SqL K H a xs:=.inl (.inl h)
theorem SqT.of {K:Yac}(h:H a=some (.tup xs)):SqT K H a xs:=.inl (.inl h)
theorem Inv.list (I:Inv X pins σ H s)(h:SqL X.K H a xs):∃its:List Value,Vals xs its/\PlainL s.heap a its.toArray/\xs.length<=Yai:=by
 rcases h with h|⟨o,its,n,hk,hc,hd,hs,hz,r⟩
 ·obtain⟨z,its,n,r,e⟩:=h.ok I.hok;exact⟨its,r,⟨_,n,e,rfl,rfl,rfl⟩,z⟩
 ·refine⟨its.toList,r,⟨o,n,I.kIn a o hk,hc,hd,by simpa using hs⟩,?_⟩
  have e:=r.length;simp only[Ybz]at e;omega
theorem Inv.tuple (I:Inv X pins σ H s)(h:SqT X.K H a xs):∃its:List Value,Vals xs its/\IsTup s.heap a its.toArray/\xs.length<=Yai:=by
 rcases h with h|⟨o,its,n,hk,hc,hs,hz,r⟩
 ·obtain⟨z,its,r,p⟩:=h.ok I.hok;exact⟨its,r,p.tup,z⟩
 ·refine⟨its.toList,r,⟨o,I.kIn a o hk,hc,n,by simpa using hs⟩,?_⟩
  have e:=r.length;simp only[Ybz]at e;omega
theorem Inv.list_inj (I:Inv X pins σ H s)(h:SqL X.K H a xs)(h':SqL X.K H a ys):xs=ys:=by
 obtain⟨its,r,⟨o,n,e,_,_,d⟩,_⟩:=I.list h;obtain⟨its',r',⟨o',n',e',_,_,d'⟩,_⟩:=I.list h';rw[e]at e';cases e';rw[d]at d';injection d' with d1 _
 have:its=its':=by simpa using congrArg Array.toList d1
 subst this;exact r.inj r'
theorem Inv.tuple_inj (I:Inv X pins σ H s)(h:SqT X.K H a xs)(h':SqT X.K H a ys):xs=ys:=by
 obtain⟨its,r,⟨o,e,_,n,d⟩,_⟩:=I.tuple h;obtain⟨its',r',⟨o',e',_,n',d'⟩,_⟩:=I.tuple h';rw[e]at e';cases e';rw[d]at d';injection d' with d1 _
 have:its=its':=by simpa using congrArg Array.toList d1
 subst this;exact r.inj r'
end

noncomputable abbrev Cx.wish (X:Cx)(E:Value->Shared->Prop):Cx:={ X with xe:=E }
noncomputable abbrev Cx.nox (X:Cx):Cx:=X.wish λ_ _=>False
theorem Cx.Ok.wish {X:Cx}(ok:X.Ok)(E:Value->Shared->Prop):(X.wish E).Ok:=
 ⟨ok.mod,ok.kind,ok.glob,ok.blt,ok.above,ok.inj,ok.has,ok.cab,ok.hd,ok.frames,ok.stk,ok.exf,ok.bs,ok.bsz,ok.noex,ok.exfs,ok.funs,ok.frf⟩
theorem Cx.Ok.unwish {X:Cx}{E:Value->Shared->Prop}(ok:(X.wish E).Ok):X.Ok:=
 ⟨ok.mod,ok.kind,ok.glob,ok.blt,ok.above,ok.inj,ok.has,ok.cab,ok.hd,ok.frames,ok.stk,ok.exf,ok.bs,ok.bsz,ok.noex,ok.exfs,ok.funs,ok.frf⟩
section
variable {X:Cx}{pins:List (Addr×Obj)}{σ:St}{H:Hp}{s:Shared}{E:Value->Shared->Prop}
theorem Inv.wish (I:Inv X pins σ H s)(E:Value->Shared->Prop):Inv (X.wish E) pins σ H s:=⟨I.ok.wish E,I.os,I.bare,I.base,I.loc,I.cell,I.free,I.freeC,I.pin,I.hok,I.len⟩
theorem Inv.unwish (I:Inv (X.wish E) pins σ H s):Inv X pins σ H s:=⟨I.ok.unwish,I.os,I.bare,I.base,I.loc,I.cell,I.free,I.freeC,I.pin,I.hok,I.len⟩
theorem SP.unwish {D:Ends}{f:Flow}{s':Shared}(h:SP (X.wish E) pins D f s'):SP X pins D f s':=by
 cases f with
 |next=>obtain⟨σ',H',I,q⟩:=h;exact⟨σ',H',I.unwish,q⟩
 |brk=>obtain⟨σ',H',I,q⟩:=h;exact⟨σ',H',I.unwish,q⟩
 |cont=>obtain⟨σ',H',I,q⟩:=h;exact⟨σ',H',I.unwish,q⟩
 |ret u=>obtain⟨v,σ',H',I,r,q⟩:=h;exact⟨v,σ',H',I.unwish,r,q⟩
end

section
variable {X:Cx}{st:Stmt}{rest:List Stmt}{t u:TS}{e:Expr}{te:TE}{pos:Pos}
def jnT:TS:=λD σ H=>D.nx σ H
def tSeq (t u:TS):TS:=λD σ H=>t { D with nx:=u D } σ H
theorem jjt:PSs X [] jnT:=λ_ _ σ H _ I h=>Yev ⟨σ,H,I,h⟩
theorem jhK (h1:PS X st t)(h2:PSs X rest u):PSs X (st::rest) (tSeq t u):=by
 intro pins s σ H D I h;refine wpAny_execs_cons (thn (h1 pins s σ H { D with nx:=u D } I h) λf s1 q=>?_)
 cases f with
 |next=>
  obtain⟨σ',H',I',q⟩:=q;exact h2 pins s1 σ' H' D I' q
 |ret v=>exact q
 |brk=>exact q
 |cont=>exact q
theorem Inv.quiet {pins:List (Addr×Obj)}{σ:St}{H:Hp}{s:Shared}(I:Inv X pins σ H s):interactive X.env=false:=by simp[interactive,I.ok.kind]
def jnU (te:TE):TS:=λD σ H=>te σ H λ_ H1=>D.nx σ H1
theorem jju (he:PE X e te)(hs:YcX e none pos.line X.env=pure false:=by rfl):PS X (.Expr e pos) (jnU te):=by
 intro pins s σ H D I h;exact wpAny_Expr_any (thn (he pins s σ H _ I h) λv s1 ⟨x,H1,I1,r1,q1⟩=>⟨σ,H1,I1,q1⟩) I.quiet hs
def tRet (te:TE):TS:=λD σ H=>te σ H D.rt
theorem jlv (he:PE X e te):PS X (.Return (some e) pos) (tRet te):=by
 intro pins s σ H D I h;exact wpAny_Return_some (thn (he pins s σ H _ I h) λv s1 ⟨x,H1,I1,r1,q1⟩=>⟨x,σ,H1,I1,r1,q1⟩)
def tIfS (c:TT)(t u:TS):TS:=λD σ H=>c σ H λb H1=>if b=true then t D σ H1 else u D σ H1
theorem joe {c:Expr}{a b:List Stmt}{tc:TT}(hc:PT X c tc)(ha:PSs X a t)(hb:PSs X b u):PS X (.If c a b pos) (tIfS tc t u):=by
 intro pins s σ H D I h;refine wpAny_If (thn (hc pins s σ H _ I h) λd s1 ⟨H1,I1,q1⟩=>?_);cases d with
 |true=>exact ha pins s1 σ H1 D I1 q1
 |false=>exact hb pins s1 σ H1 D I1 q1
end

abbrev TG:=V->St->Hp->(St->Hp->Prop)->Prop
abbrev TGs:=List V->St->Hp->(St->Hp->Prop)->Prop
def PG (X:Cx)(target:Expr)(t:TG):Prop:=
 ∀(pins:List (Addr×Obj)) (s:Shared) (σ:St) (H:Hp) (v:V) (u:Value) (Q:St->Hp->Prop),Inv X pins σ H s->RelV v u->t v σ H Q->
  wpAny (model X.prog X.w) X.A (assign target X.env u) (λ_ s'=>∃σ' H',Inv X pins σ' H' s'/\Q σ' H') X.xe s
def PGs (X:Cx)(ts:List Expr)(t:TGs):Prop:=
 ∀(pins:List (Addr×Obj)) (s:Shared) (σ:St) (H:Hp) (vs:List V) (us:List Value) (Q:St->Hp->Prop),Inv X pins σ H s->Vals vs us->t vs σ H Q->
  wpAny (model X.prog X.w) X.A (Yfb ((Ya2 ts X.env).map (·.2)) us) (λ_ s'=>∃σ' H',Inv X pins σ' H' s'/\Q σ' H') X.xe s
abbrev TSet:=V->V->V->Hp->(Hp->Prop)->Prop
def PSet (X:Cx)(t:TSet):Prop:=
 ∀(pins:List (Addr×Obj)) (s:Shared) (σ:St) (H:Hp) (o i v:V) (ov iv u:Value) (Q:Hp->Prop),Inv X pins σ H s->RelV o ov->RelV i iv->RelV v u->t o i v H Q->
  wpAny (model X.prog X.w) X.A (setItem ov iv u) (λ_ s'=>∃H',Inv X pins σ H' s'/\Q H') X.xe s
abbrev TIp:=V->V->Hp->VK->Prop
def PIp (X:Cx)(op:YbP)(t:TIp):Prop:=
 ∀(pins:List (Addr×Obj)) (s:Shared) (σ:St) (H:Hp) (x y:V) (v u:Value) (Q:VK),Inv X pins σ H s->RelV x v->RelV y u->t x y H Q->
  wpAny (model X.prog X.w) X.A (YdL op v u) (EP X pins σ Q) X.xe s
section
variable {X:Cx}{pos:Pos}
def jid (i:Nat):TG:=λv σ H Q=>Q (σ.set i (some v)) H
theorem jjE {i:Nat}{x:Str}(hN:X.N.Nodup)(hi:X.N[i]?=some x)(hx:Loc X.env.scope x)(hf:X.fn x=true\/X.env.scope.names.lookup x=some .local:=by first|exact .inl rfl|exact .inr rfl|assumption):PG X (.Name x pos) (jid i):=by
 intro pins s σ H v u Q I r h;exact wpAny_assign_Name (jcJ I hN hi hx r (λs' I'=>⟨_,H,I',h⟩) hf)
def gNil:TGs:=λvs σ H Q=>vs=[]/\Q σ H
def joE (t:TG)(u:TGs):TGs:=λvs σ H Q=>∃v r,vs=v::r/\t v σ H λσ' H'=>u r σ' H' Q
theorem jjD:PGs X [] gNil:=by
 intro pins s σ H vs us Q I r h;obtain⟨e,h⟩:=h;subst e;cases r;exact assignInOrder_nil ⟨σ,H,I,h⟩
theorem jhS {e:Expr}{es:List Expr}{t:TG}{u:TGs}(h1:PG X e t)(h2:PGs X es u)
  (hs:(Ya2 (e::es) X.env).map (·.2)=assign e X.env::(Ya2 es X.env).map (·.2):=by rfl):PGs X (e::es) (joE t u):=by
 intro pins s σ H vs us Q I r h;obtain⟨v,vr,e1,h⟩:=h;subst e1;cases r with
 |cons r rr=>
  rw[hs];refine YdN (thn (h1 pins s σ H _ _ _ I r h) λ_ s1 ⟨σ1,H1,I1,q1⟩=>?_);exact h2 pins s1 σ1 H1 _ _ Q I1 rr q1
def gTup (K:Yac)(n:Nat)(t:TGs):TG:=λv σ H Q=>∃a xs,v=.ref a/\SqT K H a xs/\xs.length=n/\t xs σ H Q
theorem jlE {es:List Expr}{k:Nat}{t:TGs}{n:Nat}(hc:X.calm=true)(h:PGs X es t)
  (hn:(Ya2 es X.env).length=n:=by rfl) (hst:(Ya2 es X.env).findIdx? (·.1)=none:=by rfl):PG X (.Tuple es k pos) (gTup X.K n t):=by
 intro pins s σ H v u Q I r hw;obtain⟨a,xs,e1,hq,hl,hw⟩:=hw;subst e1;cases r;obtain⟨its,rv,ht,hz⟩:=I.tuple hq;refine assign_Tuple_tuple (I.ok.hd hc) ht (by simp[hn,<- hl,rv.length]) hst λh' hx=>?_
 have I1:Inv X pins σ H { s with heap:=h' }:=I.kept (t':=s.toks) λb o e=>hx b o (Yav (Yao e)) e
 exact h pins _ σ H xs _ Q I1 (by simpa using rv) hw
def gSub (to ti:TE)(t:TSet):TG:=λv σ H Q=>to σ H λo H1=>ti σ H1 λi H2=>t o i v H2 λH3=>Q σ H3
theorem jlF {o i:Expr}{to ti:TE}{t:TSet}(ho:PE X o to)(hi:PE X i ti)(hs:PSet X t)
  (ha:∀v,assign (.Subscript o i pos) X.env v=(do
   let ov <- holding [v] (eval o X.env)
   let iv <- holding [v,ov] (eval i X.env)
   standAt pos
   holding [v,ov,iv] (setItem ov iv v)
   release [v,ov,iv] []):=by intro _;rfl):PG X (.Subscript o i pos) (gSub to ti t):=by
 intro pins s σ H v u Q I r h;rw[ha];refine Yad (Ya8 (thn (ho pins s σ H _ I h) λov s1 ⟨x,H1,I1,r1,q1⟩=>?_));refine Yad (Ya8 (thn (hi pins s1 σ H1 _ I1 q1) λiv s2 ⟨y,H2,I2,r2,q2⟩=>?_));refine Yad (Yc5 (Yad (Ya8 (thn (hs pins s2 σ H2 x y v ov iv u _ I2 r1 r2 r q2) λ_ s3 ⟨H3,I3,q3⟩=>?_))));exact wpAny_release ⟨σ,H3,I3,q3⟩
def tAsg (te:TE)(g:TG):TS:=λD σ H=>te σ H λx H1=>g x σ H1 D.nx
theorem jgt {tg e:Expr}{te:TE}{g:TG}(he:PE X e te)(hg:PG X tg g)(hs:Ybl [tg] e pos.line X.env=pure false:=by rfl)(hw:Ya9 [tg] e X.env=pure none:=by rfl)
  (h1:(Ya2 [tg] X.env).map (·.2)=[assign tg X.env]:=by rfl):PS X (.Assign [tg] e pos) (tAsg te g):=by
 intro pins s σ H D I h;refine wpAny_Assign_stores (thn (he pins s σ H _ I h) λv s1 ⟨x,H1,I1,r1,q1⟩=>?_) hs hw;rw[h1];exact thn (hg pins s1 σ H1 x v _ I1 r1 q1) λ_ s2 q=>q
def tPar (i j:Nat)(ta:TA):TS:=λD σ H=>ta σ H λvs H1=>∃v w,vs=[v,w]/\D.nx ((σ.set i (some v)).set j (some w)) H1
theorem jlw {i j:Nat}{x y:Str}{a b:Expr}{ta:TA}{px py pt:Pos}{kt k2 pt2}(hc:X.calm=true)(hN:X.N.Nodup)(hi:X.N[i]?=some x)(hj:X.N[j]?=some y)(hij:i≠j)
  (hx:X.env.scope.names.lookup x=some .local) (hy:X.env.scope.names.lookup y=some .local) (ha:PA X [a,b] ta)
  (hw:Ya9 [.Tuple [.Name x px,.Name y py] kt pt] (.Tuple [a,b] k2 pt2) X.env=pure (some [x,y]))
  (hs:Ybl [.Tuple [.Name x px,.Name y py] kt pt] (.Tuple [a,b] k2 pt2) pos.line X.env=pure false:=by rfl) :
  PS X (.Assign [.Tuple [.Name x px,.Name y py] kt pt] (.Tuple [a,b] k2 pt2) pos) (tPar i j ta):=by
 intro pins s σ H D I h;rw[exec_Assign_arm];refine Yad (Yc5 ?_);rw[hs];refine Yad (Yap ?_);rw[if_neg (by decide)]
 refine Yad (Tuple_ (thn (ha _ pins s σ H _ I h) λus s1 ⟨vs,H1,I1,r1,q1⟩=>?_));obtain⟨v,w,e1,q1⟩:=q1;subst e1;obtain⟨u1,u2,rfl,rv,rw'⟩:∃u1 u2,us=[u1,u2]/\RelV v u1/\RelV w u2:=by
  cases r1 with
  |cons p q=>
   cases q with
   |cons p' q'=>
    cases q';exact⟨_,_,rfl,p,p'⟩
 refine Ya3 ?_ (by show 2<=Yai;decide)
 have I2:Inv X pins σ H1 { s1 with heap:=s1.heap.push { cls:=.type "tuple",data:=.seq [u1,u2].toArray } }:=I1.kept (t':=s1.toks) λb o e=>Yab _ e
 rw[hw];refine Yad (Yap ?_);show wpAny (model X.prog X.w) X.A (do rule "assign.swapped-stores";let items <- unpackItems (.ref s1.heap.objs.size) 2 none;Yfb [λv=>bindName X.env y v,λv=>bindName X.env x v] items.reverse;pure Flow.next) _ _ _
 refine Yad (YeU (Yad (unpackItems_tuple (items:=#[u1,u2]) (I.ok.hd hc) (IsTup.new s1.heap _) λh' hx'=>?_)));have I3:=I2.kept (h':=h') (t':=s1.toks) λb o e=>hx' b o (Yav (Yao e)) e;show wpAny _ _ (Yfb [λv=>bindName X.env y v,λv=>bindName X.env x v] [u2,u1] >>= λ_=>pure Flow.next) _ _ _
 refine Yad (YdN (wpAny_bindName (jcJ I3 hN hj (.inl hy) rw' (λs2 I4=>?_) (.inr hy))));refine YdN (wpAny_bindName (jcJ I4 hN hi (.inl hx) rv (λs3 I5=>assignInOrder_nil (Yap ?_)) (.inr hx)));rw[List.set_comm _ _ (Ne.symm hij)]at I5;exact⟨_,H1,I5,q1⟩
def tAug (i:Nat)(te:TE)(ti:TIp):TS:=λD σ H=>∃x,σ[i]?=some (some x)/\te σ H λy H1=>ti x y H1 λz H2=>D.nx (σ.set i (some z)) H2
theorem jlA {i:Nat}{x:Str}{e:Expr}{te:TE}{op:YbP}{ti:TIp}{pos':Pos}(hN:X.N.Nodup)(hi:X.N[i]?=some x)(hx:Loc X.env.scope x)(he:PE X e te)(ho:PIp X op ti)(hf:X.fn x=true\/X.env.scope.names.lookup x=some .local:=by first|exact .inl rfl|exact .inr rfl|assumption) :
  PS X (.AugAssign (.Name x pos') op e pos) (tAug i te ti):=by
 intro pins s σ H D I h;obtain⟨v,e1,h⟩:=h;obtain⟨m,hn,hl⟩:=I.loc;have vis:Vis X.env.scope x:=by rcases hx with k|k;exact .inl k;exact .inr (.inl k)
 obtain⟨u,r,l⟩:=hl i x v hi e1 vis;refine wpAny_AugAssign_Name ?_;have go:wpAny (model X.prog X.w) X.A (eval e X.env) (λw s₂=>wpAny (model X.prog X.w) X.A (YdL op u w) (λr s₃=>wpAny (model X.prog X.w) X.A (storeName X.env x r) (λ_=>SP X pins D .next) X.xe s₃) X.xe s₂) X.xe s:=by
  refine thn (he pins s σ H _ I h) λw s1 ⟨y,H1,I1,r1,q1⟩=>?_;refine thn (ho pins s1 σ H1 v y u w _ I1 r r1 q1) λz s2 ⟨zv,H2,I2,r2,q2⟩=>?_;exact jcJ I2 hN hi hx r2 (λs3 I3=>⟨_,H2,I3,q2⟩) hf
 rcases l with⟨hk,hm⟩|⟨hk,c,hc,hcell⟩
 ·exact wpAny_loadName_local I.ok.kind hk hn hm go
 ·rcases hk with hk|hk
  ·exact wpAny_loadName_cell I.ok.kind hk hc hcell go
  ·rcases hx with k|k
   ·have:X.env.scope.names.lookup x=some .free:=hk;rw[k]at this;cases this
   ·have:X.env.scope.names.lookup x=some .free:=hk;rw[k]at this;cases this
def PGet (X:Cx)(t:V->V->Hp->VK->Prop):Prop:=
 ∀(pins:List (Addr×Obj)) (s:Shared) (σ:St) (H:Hp) (o i:V) (ov iv:Value) (Q:VK),Inv X pins σ H s->RelV o ov->RelV i iv->t o i H Q->
  wpAny (model X.prog X.w) X.A (getItem ov iv) (EP X pins σ Q) X.xe s
def jk3 (c:TT)(tb:TS):TS:=λD σ H=>∃W:Nat->St->Hp->Prop,(∃m,W m σ H)/\∀m σ H,W m σ H->
 c σ H λb H1=>if b=true then ∃N:St->Hp->Prop,(∀σ' H',N σ' H'->∃m',m'<m/\W m' σ' H')/\tb { D with nx:=N,ct:=N,bk:=D.nx } σ H1 else D.nx σ H1
theorem jhL {c:Expr}{body:List Stmt}{tc:TT}{tb:TS}(hp:YdR (model X.prog X.w) X.A X.env X.xe)(hc:PT X c tc)(hb:PSs X body tb):PS X (.While c body [] pos) (jk3 tc tb):=by
 intro pins s σ H D I h;obtain⟨W,⟨m0,w0⟩,turn⟩:=h;refine wpAny_While (codeAny_whileLoop (λn s'=>∃σ' H',Inv X pins σ' H' s'/\W n σ' H') ?_ m0 ⟨σ,H,I,w0⟩);rintro n s1 ⟨σ1,H1,I1,w1⟩;refine YbS hp (thn (hc pins s1 σ1 H1 _ I1 (turn n σ1 H1 w1)) λb s2 ⟨H2,I2,q2⟩=>?_);cases b with
 |true=>
  obtain⟨N,hN,q2⟩:=q2;rw[if_pos rfl];refine YbS hp (thn (hb pins s2 σ1 H2 _ I2 q2) λf s3 q3=>?_);cases f with
  |next=>
   obtain⟨σ3,H3,I3,n3⟩:=q3;obtain⟨m',hm,w3⟩:=hN σ3 H3 n3;exact⟨m',hm,σ3,H3,I3,w3⟩
  |cont=>
   obtain⟨σ3,H3,I3,n3⟩:=q3;obtain⟨m',hm,w3⟩:=hN σ3 H3 n3;exact⟨m',hm,σ3,H3,I3,w3⟩
  |brk=>exact q3
  |ret v=>exact q3
 |false=>
  rw[if_neg Yam];exact Yev ⟨σ1,H2,I2,q2⟩
end

structure It where
 go:Nat->Hp->Prop
 yld:Nat->Hp->V->Hp->Prop
 stop:Nat->Hp->Prop
def FpOk (X:Cx)(pins:List (Addr×Obj))(H:Hp)(b:Addr):Prop:=
 H b=none/\b≠X.env.locals/\b∉X.fs/\(b∈X.ex\/X.s₀.heap.objs.size<=b)/\(∀x c,X.env.cells.lookup x=some c->c≠b)/\∀p∈X.pn++pins,p.1≠b
theorem Inv.fpOk {X:Cx}{pins:List (Addr×Obj)}{σ:St}{H H':Hp}{s:Shared}{b:Addr}(I:Inv X pins σ H s)(hb:s.heap.objs.size<=b)(hn:H' b=none):FpOk X pins H' b:=by
 refine⟨hn,YeS (Yat I.lt hb),I.nofs hb,.inr (Yan I.sz hb),λx c e z=>?_,λp hp z=>?_⟩
 ·obtain⟨v,q⟩:=I.cell x c e;exact absurd (Yat q.lt (by rw[z];exact hb)) (Ybd _)
 ·exact absurd (Yat (Yao (I.pin p hp).1) (by rw[z];exact hb)) (Ybd _)
structure Turn (P:Program)(w:World)(K:Yac)(tg:Expr)(J:It)(fp:List Addr)(it:Addr)(tn:Nat->Heap->Prop):Prop where
 mem:it∈fp
 obj:∀i h,tn i h->∀b∈fp,∃o,h.get? b=some o/\∀v,o.data≠.cell v
 keep:∀i h h',tn i h->(∀b∈fp,∀o,h.get? b=some o->h'.get? b=some o)->tn i h'
 item:∀(X:Cx),X.prog=P->X.w=w->X.K=K->X.calm=true->∀(i:Nat) (pins:List (Addr×Obj)) (s:Shared) (σ:St) (H:Hp) (E:Value->Shared->Prop),Inv X pins σ H s->(∀b∈fp,FpOk X pins H b)->tn i s.heap->J.go i H->
  wpAny (model P w) X.A (pyNext (.ref it)) (λr s1=>∃u,r=some u/\
   wpAny (model P w) X.A (Yct tg (.ref it) u) (λ_ s2=>∃x H',Inv X pins σ H' s2/\RelV x u/\J.yld i H x H'/\tn (i+1) s2.heap/\∀b∈fp,H' b=none) E s1) E s
 done:∀(X:Cx),X.prog=P->X.w=w->X.K=K->X.calm=true->∀(i:Nat) (pins:List (Addr×Obj)) (s:Shared) (σ:St) (H:Hp) (E:Value->Shared->Prop),Inv X pins σ H s->(∀b∈fp,FpOk X pins H b)->tn i s.heap->J.stop i H->
  wpAny (model P w) X.A (pyNext (.ref it)) (λr s1=>r=none/\Inv X pins σ H s1) E s
 self:∀(A:Around) (i:Nat) (s:Shared) (Q:Value->Shared->Prop) (E:Value->Shared->Prop),tn i s.heap->Q (.ref it) s->wpAny (model P w) A (pyIter (.ref it)) Q E s
abbrev TI:=St->Hp->(It->Hp->Prop)->Prop
def PIE (X:Cx)(pins:List (Addr×Obj))(σ:St)(tg:Expr)(R:It->Hp->Prop)(itv:Value)(s2:Shared):Prop:=
 ∃(it:Addr) (fp:List Addr) (tn:Nat->Heap->Prop) (J:It) (H':Hp),itv=.ref it/\Inv X pins σ H' s2/\Turn X.prog X.w X.K tg J fp it tn/\tn 0 s2.heap/\(∀b∈fp,FpOk X pins H' b)/\R J H'
def PI (X:Cx)(tg iter:Expr)(wi:TI):Prop:=
 ∀(pins:List (Addr×Obj)) (s:Shared) (σ:St) (H:Hp) (R:It->Hp->Prop),Inv X pins σ H s->wi σ H R->
  wpAny (model X.prog X.w) X.A (eval iter X.env) (λv s1=>wpAny (model X.prog X.w) X.A (pyIter v) (PIE X pins σ tg R) X.xe s1) X.xe s

theorem jg4 {M : Model}{A : Around}{E : Value -> Shared -> Prop}{s : Shared}{tg : Expr}{it : Addr}{u : Value}{o : Obj}{n : String}{vs : Array Value}{Q : Unit -> Shared -> Prop}(ho : s.heap.get? it = some o)(hc : o.cls = .type n)(hd : o.data = .fields vs)
    (hn : ["enumerate", "zip", "dict_itemiterator", "dict_reverseitemiterator", "odict_iterator", "itertools.zip_longest", "itertools.pairwise"].contains n = false) (hQ : Q () s) : wpAny M A (Yct tg (.ref it) u) Q E s := by
  unfold Yct
  cases tg <;> first
    | exact Yap hQ
    | (cases u <;> first
        | exact Yap hQ
        | (refine Yad (wpAny_load ho ?_)
           rw [hc, hd]
           show wpAny M A (if (["enumerate", "zip", "dict_itemiterator", "dict_reverseitemiterator", "odict_iterator", "itertools.zip_longest", "itertools.pairwise"].contains n && vs[0]? == some (rawInt _)) = true then _ else _) Q E s
           rw [if_neg (by intro h; rw [hn, Bool.false_and] at h; cases h)]
           exact Yap hQ))

noncomputable def Itl (K:Yac)(a:Addr):It:=
 ⟨λi H=>∃xs x,SqL K H a xs/\xs[i]?=some x,λi H x H'=>H'=H/\∀xs,SqL K H a xs->xs[i]?=some x,λi H=>∃xs,SqL K H a xs/\xs.length<=i⟩
noncomputable def Itt (K:Yac)(a:Addr):It:=
 ⟨λi H=>∃xs x,SqT K H a xs/\xs[i]?=some x,λi H x H'=>H'=H/\∀xs,SqT K H a xs->xs[i]?=some x,λi H=>∃xs,SqT K H a xs/\xs.length<=i⟩
noncomputable def Itr (lo:Int)(n:Nat):It:=⟨λi _=>i<n,λi H x H'=>H'=H/\x=.int (lo+i),λi _=>n<=i⟩
section
variable {P:Program}{w:World}{K:Yac}{tg:Expr}
theorem jgg (a it:Addr):Turn P w K tg (Itl K a) [it] it (λi h=>h.IsListIter it a i) where
 mem:=by simp
 obj:=λi h st b hb=>by
  have e:b=it:=by simpa using hb
  subst e;obtain⟨o,e,c,d⟩:=st;exact⟨o,e,λv z=>by rw[d]at z;cases z⟩
 keep:=λi h h' st k=>st.at λo e=>k it (by simp) o e
 item:=by
  intro X hP hw hK hc i pins s σ H E I hf st hg;subst hP hw hK;obtain⟨xs,x,hq,hx⟩:=hg;obtain⟨its,rv,p,hz⟩:=I.list hq;obtain⟨u,hu,ru⟩:=rv.get hx;obtain⟨f0,f1,f2,f3,f4,f5⟩:=hf it (by simp)
  refine Yfp st p.isList (x:=u) (by simpa using hu) λh' st' sb=>?_
  have I1:Inv X pins σ H { s with heap:=h' }:=I.turned (t':=s.toks) (λb o hb e=>(sb.2 b hb).trans e) f0 f1 f3 f4 f5
  obtain⟨o,e,c,d⟩:=id st';exact⟨u,rfl,jg4 (s:={ s with heap:=h' }) e c d (by decide) ⟨x,H,I1,ru,⟨rfl,λys hy=>by rw[I.list_inj hy hq];exact hx⟩,st',λb hb=>(hf b hb).1⟩⟩
 done:=by
  intro X hP hw hK hc i pins s σ H E I hf st hg;subst hP hw hK;obtain⟨xs,hq,hx⟩:=hg;obtain⟨its,rv,p,hz⟩:=I.list hq;obtain⟨f0,f1,f2,f3,f4,f5⟩:=hf it (by simp)
  have hl:=rv.length;exact YfD (I.ok.hd hc) st p.isList (by simp;omega) λh' eb=>⟨rfl,I.turned (t':=s.toks) (λb o hb e=>eb b o hb e) f0 f1 f3 f4 f5⟩
 self:=λ_ _ _ _ _ st h=>wpAny_pyIter_listiter st h
theorem jfL (a it:Addr):Turn P w K tg (Itt K a) [it] it (λi h=>h.IsTupleIter it a i) where
 mem:=by simp
 obj:=λi h st b hb=>by
  have e:b=it:=by simpa using hb
  subst e;obtain⟨o,e,c,d⟩:=st;exact⟨o,e,λv z=>by rw[d]at z;cases z⟩
 keep:=λi h h' st k=>st.at λo e=>k it (by simp) o e
 item:=by
  intro X hP hw hK hc i pins s σ H E I hf st hg;subst hP hw hK;obtain⟨xs,x,hq,hx⟩:=hg;obtain⟨its,rv,p,hz⟩:=I.tuple hq;obtain⟨u,hu,ru⟩:=rv.get hx;obtain⟨f0,f1,f2,f3,f4,f5⟩:=hf it (by simp)
  refine wpAny_pyNext_tuple_item st (show s.heap.IsTuple a its.toArray from p) (x:=u) (by simpa using hu) λh' st' sb=>?_
  have I1:Inv X pins σ H { s with heap:=h' }:=I.turned (t':=s.toks) (λb o hb e=>(sb.2 b hb).trans e) f0 f1 f3 f4 f5
  obtain⟨o,e,c,d⟩:=id st';exact⟨u,rfl,jg4 (s:={ s with heap:=h' }) e c d (by decide) ⟨x,H,I1,ru,⟨rfl,λys hy=>by rw[I.tuple_inj hy hq];exact hx⟩,st',λb hb=>(hf b hb).1⟩⟩
 done:=by
  intro X hP hw hK hc i pins s σ H E I hf st hg;subst hP hw hK;obtain⟨xs,hq,hx⟩:=hg;obtain⟨its,rv,p,hz⟩:=I.tuple hq;obtain⟨f0,f1,f2,f3,f4,f5⟩:=hf it (by simp)
  have hl:=rv.length;exact wpAny_pyNext_tuple_end (I.ok.hd hc) st (show s.heap.IsTuple a its.toArray from p) (by simp;omega) λh' eb=>⟨rfl,I.turned (t':=s.toks) (λb o hb e=>eb b o hb e) f0 f1 f3 f4 f5⟩
 self:=λ_ _ _ _ _ st h=>wpAny_pyIter_tupleiter st h
theorem jfM (it:Addr)(lo:Int)(n:Nat):Turn P w K tg (Itr lo n) [it] it (λi h=>IsRangeIter h it (lo+(i:Nat)*1) ((n:Int)-(i:Nat)) 1) where
 mem:=by simp
 obj:=λi h st b hb=>by
  have e:b=it:=by simpa using hb
  subst e;exact⟨_,st,λv z=>by
   have z':Data.fields _=Data.cell v:=z;cases z'⟩
 keep:=λi h h' st k=>k it (by simp) _ st
 item:=by
  intro X hP hw hK hc i pins s σ H E I hf st hg;subst hP hw hK;obtain⟨f0,f1,f2,f3,f4,f5⟩:=hf it (by simp)
  have W:=Walks.range (prog:=X.prog) (w:=X.w) (I.ok.hd hc) it lo 1 n;refine W.item i s _ _ hg st λv h' tk hv st' kk=>?_;obtain⟨t,rfl⟩:=hv;have I1:Inv X pins σ H { s with heap:=h',toks:=tk }:=I.turned (λb o hb e=>kk b o (by simpa using hb) e) f0 f1 f3 f4 f5
  refine⟨_,rfl,jg4 (s:={ s with heap:=h',toks:=tk }) (n := "range_iterator") st' rfl rfl (by decide) ⟨.int (lo+i),H,I1,⟨t,?_⟩,⟨rfl,rfl⟩,st',λb hb=>(hf b hb).1⟩⟩
  rw[Int.mul_one]
 done:=by
  intro X hP hw hK hc i pins s σ H E I hf st hg;subst hP hw hK;obtain⟨f0,f1,f2,f3,f4,f5⟩:=hf it (by simp)
  exact wpAny_pyNext_range_end (I.ok.hd hc) st (by have:n<=i:=hg;omega) λh' eb=>⟨rfl,I.turned (t':=s.toks) (λb o hb e=>eb b o hb e) f0 f1 f3 f4 f5⟩
 self:=λ_ _ _ _ _ st h=>wpAny_pyIter_rangeiter st h
end
section
variable {X:Cx}{tg:Expr}
theorem jhF {pins:List (Addr×Obj)}{σ:St}{H:Hp}{s:Shared}{R:It->Hp->Prop}{E:Value->Shared->Prop}{lo hi:Int}{t u v:Tok}{tk:Nat}(I:Inv X pins σ H s)(h1:-(2 ^ 62)<=lo)(h2:lo<2 ^ 62)(h3:-(2 ^ 62)<=hi)(h4:hi<2 ^ 62)
  (q:R (Itr lo (hi-lo).toNat) H):wpAny (model X.prog X.w) X.A (pyIter (.ref s.heap.objs.size)) (PIE X pins σ tg R) E { s with heap:=s.heap.push { cls:=.type "range",data:=.fields #[.int lo t,.int hi u,.int 1 v] },toks:=tk }:=by
 refine wpAny_pyIter_range (IsRange.new ..) (small_one h1 h2 h3 h4) ?_;have I1:Inv X pins σ H { s with heap:=s.heap.push { cls:=.type "range",data:=.fields #[.int lo t,.int hi u,.int 1 v] },toks:=tk }:=I.kept λb o e=>Yab _ e
 refine⟨(s.heap.push { cls:=.type "range",data:=.fields #[.int lo t,.int hi u,.int 1 v] }).objs.size,[(s.heap.push { cls:=.type "range",data:=.fields #[.int lo t,.int hi u,.int 1 v] }).objs.size],_,_,H,rfl,
  I1.kept (t':=tk) λb o e=>Yab _ e,jfM _ lo (hi-lo).toNat,?_,λb hb=>?_,q⟩
 ·have e1:lo+((0:Nat):Int)*1=lo:=by simp
  have e2:(((hi-lo).toNat:Nat):Int)-((0:Nat):Int)=Builtin.Range.rangeSize lo hi 1:=by rw[rangeSize_one];split<;>omega
  show IsRangeIter _ _ (lo+((0:Nat):Int)*1) ((((hi-lo).toNat:Nat):Int)-((0:Nat):Int)) 1;rw[e1,e2];exact Yaq _ rfl
 ·have e:b=(s.heap.push { cls:=.type "range",data:=.fields #[.int lo t,.int hi u,.int 1 v] }).objs.size:=by simpa using hb
  subst e;exact I1.fpOk (Yag _) (I1.hok.fresh (Yag _))
def joB (ta:TA):TI:=λσ H R=>ta σ H λvs H1=>∃j:Int,vs=[.int j]/\-(2 ^ 62)<=j/\j<2 ^ 62/\R (Itr 0 j.toNat) H1
theorem jgx {a:Expr}{ta:TA}{p pos:Pos}(hg:Gl X "range")(hm:X.mg "range" = none)(ha:PA X [a] ta)(hs:YaA [a] X.env=[(false,eval a X.env)]:=by rfl):PI X tg (.Call (.Name "range" p) [a] [] pos) (joB ta):=by
 intro pins s σ H R I h;refine Call_ (jdA I hg hm boot_range (YbB (thn (ha pos pins s σ H _ I h) λus s1 ⟨vs,H1,I1,r1,q1⟩=>?_) hs rfl));obtain⟨j,e,q1,q2,q⟩:=q1;subst e;cases r1 with
 |cons r rr=>
  cases rr;obtain⟨t,rfl⟩:=r;exact call_range_1 (jhF I1 (by omega) (by omega) q1 q2 (by simpa using q))
def tFor (wi:TI)(g:TG)(tb:TS):TS:=λD σ H=>wi σ H λJ H1=>∃W:Nat->Nat->St->Hp->Prop,(∃m,W 0 m σ H1)/\∀i m σ H,W i m σ H->
 (J.stop i H/\D.nx σ H)\/(J.go i H/\∃N:St->Hp->Prop,(∀σ' H',N σ' H'->∃m',m'<m/\W (i+1) m' σ' H')/\∀x H',J.yld i H x H'->g x σ H' λσ2 H2=>tb { D with nx:=N,ct:=N,bk:=D.nx } σ2 H2)
noncomputable def jek (fp:List Addr)(h:Heap):List (Addr×Obj):=fp.filterMap λb=>(h.get? b).map λo=>(b,o)
theorem jbv {fp:List Addr}{h:Heap}{b:Addr}{o:Obj}(hb:b∈fp)(e:h.get? b=some o):(b,o)∈jek fp h:=List.mem_filterMap.mpr ⟨b,hb,by rw[e];rfl⟩
theorem jgI {fp:List Addr}{h:Heap}{p:Addr×Obj}(hp:p∈jek fp h):p.1∈fp/\h.get? p.1=some p.2:=by
 obtain⟨b,hb,e⟩:=List.mem_filterMap.mp hp;cases q:h.get? b with
 |none=>rw[q]at e;cases e
 |some o=>
  rw[q]at e;have e':(b,o)=p:=Yar e;subst e';exact⟨hb,q⟩
theorem Inv.pinned {pins:List (Addr×Obj)}{σ:St}{H:Hp}{s:Shared}{fp:List Addr}(I:Inv X pins σ H s)(hf:∀b∈fp,FpOk X pins H b)(ho:∀b∈fp,∃o,s.heap.get? b=some o/\∀v,o.data≠.cell v):Inv X (pins++jek fp s.heap) σ H s:=
 I.pins_of λp hp=>(List.mem_append.mp hp).elim (λz=>I.pin p (Yas _ z)) λz=>by
  obtain⟨hb,e⟩:=jgI z;obtain⟨f0,f1,f2,_⟩:=hf p.1 hb;obtain⟨o,e',d⟩:=ho p.1 hb;rw[e]at e';cases e';exact⟨e,f0,f1,f2,d⟩
theorem Inv.unpinned {pins pl:List (Addr×Obj)}{σ:St}{H:Hp}{s:Shared}(I:Inv X (pins++pl) σ H s):Inv X pins σ H s:=I.pins_of λp hp=>I.pin p (Yas _ (Yau _ hp))
theorem jlz {iter:Expr}{body:List Stmt}{wi:TI}{g:TG}{tb:TS}{pos:Pos}(hp:YdR (model X.prog X.w) X.A X.env X.xe)(hc:X.calm=true)(hi:PI X tg iter wi)(hg:PG X tg g)(hb:PSs X body tb)
  (hs:∀x,Ya4 iter X.env x=pure x:=by intro _;rfl):PS X (.For tg iter body [] pos) (tFor wi g tb):=by
 intro pins s σ H D I h;refine wpAny_For (thn (hi pins s σ H _ I h) λv s1 h1=>thn h1 λitv s2 h2=>?_) hs;obtain⟨it,fp,tn,J,H2,e,I2,T,st2,f2,W,⟨m0,w0⟩,turn⟩:=h2;subst e;have stat:∀{H':Hp},(∀b∈fp,H' b=none)->∀b∈fp,FpOk X pins H' b:=λhn b hb=>⟨hn b hb,(f2 b hb).2⟩;refine codeAny_forLoop_any (λn s'=>∃i σ' H',Inv X pins σ' H' s'/\tn i s'.heap/\(∀b∈fp,H' b=none)/\W i n σ' H') ?_ m0 ⟨0,σ,H2,I2,st2,λb hb=>(f2 b hb).1,w0⟩;rintro n s3 ⟨i,σ3,H3,I3,st3,fr3,w3⟩;rcases turn i n σ3 H3 w3 with⟨stop,qn⟩|⟨go,N,hN,step⟩
 ·refine YbS hp (thn (T.done X rfl rfl rfl hc i pins s3 σ3 H3 X.xe I3 (stat fr3) st3 stop) λr s4 ⟨hr,I4⟩=>?_);subst hr;exact Yev ⟨σ3,H3,I4,qn⟩
 ·refine YbS hp (thn (T.item X rfl rfl rfl hc i pins s3 σ3 H3 X.xe I3 (stat fr3) st3 go) λr s4 ⟨u,hr,h4⟩=>?_);subst hr;refine YbS hp (thn h4 λ_ s5 ⟨x,H5,I5,r5,y5,st5,fr5⟩=>?_);have I5':=I5.pinned (stat fr5) (T.obj _ _ st5);refine YbS hp (thn (hg _ s5 σ3 H5 x u _ I5' r5 (step x H5 y5)) λ_ s6 ⟨σ6,H6,I6,q6⟩=>?_);refine YbS hp (thn (hb _ s6 σ6 H6 _ I6 q6) λf s7 q7=>?_);have again:∀{σ7:St} {H7:Hp},Inv X (pins++jek fp s5.heap) σ7 H7 s7->N σ7 H7->∃m,m<n/\∃i σ' H',Inv X pins σ' H' s7/\tn i s7.heap/\(∀b∈fp,H' b=none)/\W i m σ' H':=λ{σ7 H7} I7 n7=>by
   obtain⟨m',hm,w7⟩:=hN σ7 H7 n7;refine⟨m',hm,i+1,σ7,H7,I7.unpinned,T.keep _ _ _ st5 λb hb o e=>(I7.pin (b,o) (Yas _ (Yas _ (jbv hb e)))).1,λb hb=>?_,w7⟩;obtain⟨o,e,d⟩:=T.obj _ _ st5 b hb;exact(I7.pin (b,o) (Yas _ (Yas _ (jbv hb e)))).2.1
  cases f with
  |next=>obtain⟨σ7,H7,I7,n7⟩:=q7;exact again I7 n7
  |cont=>obtain⟨σ7,H7,I7,n7⟩:=q7;exact again I7 n7
  |brk=>obtain⟨σ7,H7,I7,q7⟩:=q7;exact⟨σ7,H7,I7.unpinned,q7⟩
  |ret v=>obtain⟨x7,σ7,H7,I7,r7,q7⟩:=q7;exact⟨x7,σ7,H7,I7.unpinned,r7,q7⟩
end


abbrev R2:=V->V->Hp->VK->Prop
def OpR (X:Cx)(f:Value->Value->Sem Value)(r:R2):Prop:=
 ∀(pins:List (Addr×Obj)) (s:Shared) (σ:St) (H:Hp) (x y:V) (v u:Value) (Q:VK),Inv X pins σ H s->RelV x v->RelV y u->r x y H Q->
  wpAny (model X.prog X.w) X.A (f v u) (EP X pins σ Q) X.xe s
def UnR (X:Cx)(f:Value->Sem Value)(r:V->Hp->VK->Prop):Prop:=
 ∀(pins:List (Addr×Obj)) (s:Shared) (σ:St) (H:Hp) (x:V) (v:Value) (Q:VK),Inv X pins σ H s->RelV x v->r x H Q->
  wpAny (model X.prog X.w) X.A (f v) (EP X pins σ Q) X.xe s
def jaX (X:Cx)(f:Value)(r:List V->Hp->VK->Prop):Prop:=
 ∀(pins:List (Addr×Obj)) (s:Shared) (σ:St) (H:Hp) (xs:List V) (us:List Value) (Q:VK),Inv X pins σ H s->Vals xs us->r xs H Q->
  wpAny (model X.prog X.w) X.A (call f us) (EP X pins σ Q) X.xe s
def TruR (X:Cx)(r:V->Hp->(Bool->Hp->Prop)->Prop):Prop:=
 ∀(pins:List (Addr×Obj)) (s:Shared) (σ:St) (H:Hp) (x:V) (v:Value) (Q:Bool->Hp->Prop),Inv X pins σ H s->RelV x v->r x H Q->
  wpAny (model X.prog X.w) X.A (truthy v) (TP X pins σ Q) X.xe s

def tOp (r:R2)(ta tb:TE):TE:=λσ H Q=>ta σ H λx H1=>tb σ H1 λy H2=>r x y H2 Q
def tUn (r:V->Hp->VK->Prop)(ta:TE):TE:=λσ H Q=>ta σ H λx H1=>r x H1 Q
def rI (C:Int->Int->Prop)(g:Int->Int->V):R2:=λx y H Q=>∃i j,x=.int i/\y=.int j/\C i j/\Q (g i j) H
def rI0 (g:Int->Int->V):R2:=λx y H Q=>∃i j,x=.int i/\y=.int j/\Q (g i j) H
def rU (g:Int->V):V->Hp->VK->Prop:=λx H Q=>∃i,x=.int i/\Q (g i) H

section
variable {X:Cx}{a b c:Expr}{ta tb tc:TE}{pos:Pos}

theorem binT (ha:PE X a ta)(hb:PE X b tb){pins:List (Addr×Obj)}{s:Shared}{σ:St}{H:Hp}{R:V->V->Hp->Prop}(I:Inv X pins σ H s)
  (h:ta σ H λx H1=>tb σ H1 λy H2=>R x y H2) {Q:Value->Shared->Prop} {f:Value->Value->Sem Value}
  (hf:∀v u s2 x y H2,Inv X pins σ H2 s2->RelV x v->RelV y u->R x y H2->wpAny (model X.prog X.w) X.A (f v u) Q X.xe s2) :
  wpAny (model X.prog X.w) X.A (eval a X.env) (λv s₁=>wpAny (model X.prog X.w) X.A (eval b X.env) (λu s₂=>wpAny (model X.prog X.w) X.A (f v u) Q X.xe s₂) X.xe s₁) X.xe s:=by
 refine thn (ha pins s σ H _ I h) λv s1 ⟨x,H1,I1,r1,q1⟩=>?_;refine thn (hb pins s1 σ H1 _ I1 q1) λu s2 ⟨y,H2,I2,r2,q2⟩=>?_;exact hf v u s2 x y H2 I2 r1 r2 q2

theorem joj {op:YbP}{r:R2}(ho:OpR X (Yba op) r)(ha:PE X a ta)(hb:PE X b tb):PE X (.BinOp a op b pos) (tOp r ta tb):=by
 intro pins s σ H Q I h;exact wpAny_BinOp (binT ha hb I h λv u s2 x y H2 I2 rx ry q=>ho pins s2 σ H2 x y v u Q I2 rx ry q)
theorem joi {op:UnaryOp}{r:V->Hp->VK->Prop}(ho:UnR X (unaryOp op) r)(ha:PE X a ta):PE X (.UnaryOp op a pos) (tUn r ta):=by
 intro pins s σ H Q I h;exact UnaryOp_ (thn (ha pins s σ H _ I h) λv s1 ⟨x,H1,I1,r1,q1⟩=>ho pins s1 σ H1 x v Q I1 r1 q1)
section
variable {f:Value->Value->Sem Value}
theorem opI {C:Int->Int->Prop}{g:Int->Int->Int}
  (rule:∀(i j:Int) (t u:Tok) (s:Shared) (Q:Value->Shared->Prop) (E:Value->Shared->Prop),C i j->Q (.int (g i j) s.toks) { s with toks:=s.toks+1 }->wpAny (model X.prog X.w) X.A (f (.int i t) (.int j u)) Q E s) :
  OpR X f (rI C λi j=>.int (g i j)):=by
 intro pins s σ H x y v u Q I rx ry h;obtain⟨i,j,rfl,rfl,hc,q⟩:=h;obtain⟨t,rfl⟩:=rx;obtain⟨t',rfl⟩:=ry;exact rule i j t t' s _ _ hc ⟨.int (g i j),H,I.tok _,⟨_,rfl⟩,q⟩
theorem opI0 {g:Int->Int->Int}
  (rule:∀(i j:Int) (t u:Tok) (s:Shared) (Q:Value->Shared->Prop) (E:Value->Shared->Prop),Q (.int (g i j) s.toks) { s with toks:=s.toks+1 }->wpAny (model X.prog X.w) X.A (f (.int i t) (.int j u)) Q E s) :
  OpR X f (rI0 λi j=>.int (g i j)):=by
 intro pins s σ H x y v u Q I rx ry h;obtain⟨i,j,rfl,rfl,q⟩:=h;obtain⟨t,rfl⟩:=rx;obtain⟨t',rfl⟩:=ry;exact rule i j t t' s _ _ ⟨.int (g i j),H,I.tok _,⟨_,rfl⟩,q⟩
theorem opB0 {g:Int->Int->Bool}
  (rule:∀(i j:Int) (t u:Tok) (s:Shared) (Q:Value->Shared->Prop) (E:Value->Shared->Prop),Q (.bool (g i j)) s->wpAny (model X.prog X.w) X.A (f (.int i t) (.int j u)) Q E s) :
  OpR X f (rI0 λi j=>.bl (g i j)):=by
 intro pins s σ H x y v u Q I rx ry h;obtain⟨i,j,rfl,rfl,q⟩:=h;obtain⟨t,rfl⟩:=rx;obtain⟨t',rfl⟩:=ry;exact rule i j t t' s _ _ ⟨.bl (g i j),H,I,rfl,q⟩

end
def CDiv (i j:Int):Prop:=0<j/\j<1073741824
def CPow (i j:Int):Prop:=0<=j/\j<=1000000/\i.natAbs<2 ^ 64
def CMul (i j:Int):Prop:=(-(2 ^ 64)<i/\i<2 ^ 64)\/(-(2 ^ 64)<j/\j<2 ^ 64)
theorem CMul.ok {i j:Int}(h:CMul i j):IntMulOk i j:=by
 rcases h with⟨h1,h2⟩|⟨h1,h2⟩
 ·exact .of_left (intBits_le_64 h1 h2)
 ·exact .of_right (intBits_le_64 h1 h2)
theorem jma:OpR X (Yba .Add) (rI0 λi j=>.int (i+j)):=opI0 λ_ _ _ _ _ _ _ q=>add_int q
theorem jlZ:OpR X (Yba .Sub) (rI0 λi j=>.int (i-j)):=opI0 λ_ _ _ _ _ _ _ q=>sub_int q
theorem jl3:OpR X (Yba .Mult) (rI CMul λi j=>.int (i*j)):=opI λ_ _ _ _ _ _ _ hc q=>mul_int q hc.ok
theorem jjP:OpR X (Yba .FloorDiv) (rI CDiv λi j=>.int (i/j)):=opI λi j _ _ _ _ _ hc q=>by
 have h1:(0:Int)<j:=hc.1;have h2:j<1073741824:=hc.2;exact floordiv_int (by omega) (by rw[Int.fdiv_eq_ediv_of_nonneg i (by omega)];exact q) (.inl (PyProof.noPylong_small (by omega)))
theorem jl4:OpR X (Yba .Mod) (rI (λ_ j=>0<j) λi j=>.int (i%j)):=opI λi j _ _ _ _ _ hc q=>by
 have h1:(0:Int)<j:=hc;exact mod_int' (by omega) (by rw[Int.fmod_eq_emod_of_nonneg i (by omega)];exact q)
theorem jl1:OpR X (Yba .Pow) (rI CPow λi j=>.int (i ^ j.toNat)):=opI λ_ _ _ _ _ _ _ hc q=>pow_int_small hc.1 hc.2.1 hc.2.2 q
theorem jko:OpR X (YdL .Add) (rI0 λi j=>.int (i+j)):=opI0 λ_ _ _ _ _ _ _ q=>iadd_int q
theorem jkm:OpR X (YdL .Sub) (rI0 λi j=>.int (i-j)):=opI0 λ_ _ _ _ _ _ _ q=>isub_int q
theorem jkn:OpR X (YdL .Mult) (rI CMul λi j=>.int (i*j)):=opI λ_ _ _ _ _ _ _ hc q=>imul_int q hc.ok
theorem unI {f:Value->Sem Value}{g:Int->Int}
  (rule:∀(i:Int) (t:Tok) (s:Shared) (Q:Value->Shared->Prop) (E:Value->Shared->Prop),Q (.int (g i) s.toks) { s with toks:=s.toks+1 }->wpAny (model X.prog X.w) X.A (f (.int i t)) Q E s) :
  UnR X f (rU λi=>.int (g i)):=by
 intro pins s σ H x v Q I rx h;obtain⟨i,rfl,q⟩:=h;obtain⟨t,rfl⟩:=rx;exact rule i t s _ _ ⟨.int (g i),H,I.tok _,⟨_,rfl⟩,q⟩
theorem jkP:UnR X (unaryOp .USub) (rU λi=>.int (-i)):=unI λ_ _ _ _ _ q=>neg_int q
end

noncomputable def scal:V->V->Bool
 |.non,.non=>true|.non,.int _=>true|.int _,.non=>true|.non,.bl _=>true|.bl _,.non=>true|.non,.str _=>true|.str _,.non=>true
 |.int _,.int _=>true|.bl _,.bl _=>true|.str _,.str _=>true|.byt _,.byt _=>true
 |.int _,.str _=>true|.str _,.int _=>true|.bl _,.str _=>true|.str _,.bl _=>true
 |_,_=>false
def rEq:R2:=λx y H Q=>scal x y=true/\Q (.bl (decide (x=y))) H
def rNe:R2:=λx y H Q=>scal x y=true/\Q (.bl (!decide (x=y))) H

theorem jhg {i j:Int}:decide (V.int i=V.int j)=(i==j):=by
 rw[Ybk];simp
theorem jiW {i j:Bool}:decide (V.bl i=V.bl j)=(i==j):=by
 rw[Ybk];simp
theorem jhf {i j:Str}:decide (V.str i=V.str j)=(i==j):=by
 rw[Ybk];simp
theorem jhh {i j:Array UInt8}:decide (V.byt i=V.byt j)=(i.toList==j.toList):=by
 rw[Ybk];cases i;cases j;simp

section
variable {X:Cx}{a b c:Expr}{ta tb tc:TE}{pos:Pos}
theorem jak {pins:List (Addr×Obj)}{σ:St}{H:Hp}{s:Shared}{Q:VK}{k k':Bool}(I:Inv X pins σ H s)(q:Q (.bl k) H)(e:k=k'):EP X pins σ Q (.bool k') s:=by
 subst e;exact⟨.bl k,H,I,rfl,q⟩
theorem jor:OpR X (YaR .Eq) rEq:=by
 intro pins s σ H x y v u Q I rx ry h;obtain⟨hs,q⟩:=h;cases x with
 |non=>
  cases rx;cases y with
  |non=>cases ry;exact PySem.EqNone.eq_none_none (jak I q (by simp))
  |bl j=>cases ry;exact PySem.EqNone.eq_none_bool (jak I q (by simp))
  |int j=>obtain⟨t',rfl⟩:=ry;exact PySem.EqNone.eq_none_int (jak I q (by simp))
  |str j=>obtain⟨t',rfl⟩:=ry;exact PySem.EqNone.eq_none_str (jak I q (by simp))
  |_=>exact absurd (show false=true from hs) Yam
 |bl i=>
  cases rx;cases y with
  |non=>cases ry;exact PySem.EqNone.eq_bool_none (jak I q (by simp))
  |bl j=>cases ry;exact eq_bool (jak I q jiW)
  |str j=>obtain⟨t',rfl⟩:=ry;exact PySem.EqMixed.eq_bool_str (jak I q (by simp))
  |_=>exact absurd (show false=true from hs) Yam
 |int i=>
  obtain⟨t,rfl⟩:=rx;cases y with
  |non=>cases ry;exact PySem.EqNone.eq_int_none (jak I q (by simp))
  |int j=>obtain⟨t',rfl⟩:=ry;exact eq_int (jak I q jhg)
  |str j=>obtain⟨t',rfl⟩:=ry;exact PySem.EqMixed.eq_int_str (jak I q (by simp))
  |_=>exact absurd (show false=true from hs) Yam
 |str i=>
  obtain⟨t,rfl⟩:=rx;cases y with
  |non=>cases ry;exact PySem.EqNone.eq_str_none (jak I q (by simp))
  |bl j=>cases ry;exact PySem.EqMixed.eq_str_bool (jak I q (by simp))
  |int j=>obtain⟨t',rfl⟩:=ry;exact PySem.EqMixed.eq_str_int (jak I q (by simp))
  |str j=>obtain⟨t',rfl⟩:=ry;exact eq_str (jak I q jhf)
  |_=>exact absurd (show false=true from hs) Yam
 |byt i=>
  obtain⟨t,rfl⟩:=rx;cases y with
  |byt j=>obtain⟨t',rfl⟩:=ry;exact PySem.W.eq_bytes (jak I q jhh)
  |_=>exact absurd (show false=true from hs) Yam
 |_=>cases y<;>exact absurd (show false=true from hs) Yam
theorem jon:OpR X (YaR .NotEq) rNe:=by
 intro pins s σ H x y v u Q I rx ry h;obtain⟨hs,q⟩:=h;cases x with
 |non=>
  cases rx;cases y with
  |non=>cases ry;exact PySem.EqNone.ne_none_none (jak I q (by simp))
  |bl j=>cases ry;exact PySem.EqNone.ne_none_bool (jak I q (by simp))
  |int j=>obtain⟨t',rfl⟩:=ry;exact PySem.EqNone.ne_none_int (jak I q (by simp))
  |str j=>obtain⟨t',rfl⟩:=ry;exact PySem.EqNone.ne_none_str (jak I q (by simp))
  |_=>exact absurd (show false=true from hs) Yam
 |bl i=>
  cases rx;cases y with
  |non=>cases ry;exact PySem.EqNone.ne_bool_none (jak I q (by simp))
  |bl j=>cases ry;exact ne_bool (jak I q (congrArg not jiW))
  |str j=>obtain⟨t',rfl⟩:=ry;exact PySem.EqMixed.ne_bool_str (jak I q (by simp))
  |_=>exact absurd (show false=true from hs) Yam
 |int i=>
  obtain⟨t,rfl⟩:=rx;cases y with
  |non=>cases ry;exact PySem.EqNone.ne_int_none (jak I q (by simp))
  |int j=>obtain⟨t',rfl⟩:=ry;exact ne_int (jak I q (congrArg not jhg))
  |str j=>obtain⟨t',rfl⟩:=ry;exact PySem.EqMixed.ne_int_str (jak I q (by simp))
  |_=>exact absurd (show false=true from hs) Yam
 |str i=>
  obtain⟨t,rfl⟩:=rx;cases y with
  |non=>cases ry;exact PySem.EqNone.ne_str_none (jak I q (by simp))
  |bl j=>cases ry;exact PySem.EqMixed.ne_str_bool (jak I q (by simp))
  |int j=>obtain⟨t',rfl⟩:=ry;exact PySem.EqMixed.ne_str_int (jak I q (by simp))
  |str j=>obtain⟨t',rfl⟩:=ry;exact ne_str (jak I q (congrArg not jhf))
  |_=>exact absurd (show false=true from hs) Yam
 |byt i=>
  obtain⟨t,rfl⟩:=rx;cases y with
  |byt j=>obtain⟨t',rfl⟩:=ry;exact PySem.W.ne_bytes (jak I q (congrArg not jhh))
  |_=>exact absurd (show false=true from hs) Yam
 |_=>cases y<;>exact absurd (show false=true from hs) Yam

theorem joo:OpR X (YaR .Lt) (rI0 λi j=>.bl (decide (i<j))):=opB0 λ_ _ _ _ _ _ _ q=>lt_int q
theorem jop:OpR X (YaR .LtE) (rI0 λi j=>.bl (decide (i<=j))):=opB0 λ_ _ _ _ _ _ _ q=>le_int q
theorem joq:OpR X (YaR .Gt) (rI0 λi j=>.bl (decide (j<i))):=opB0 λ_ _ _ _ _ _ _ q=>gt_int q
theorem jgA:OpR X (YaR .In) (λx y H Q=>∃i j,x=.str i/\y=.str j/\Q (.bl (!(YbU j i 0 j.length 1).isEmpty)) H):=by
 intro pins s σ H x y v u Q I rx ry h;obtain⟨i,j,rfl,rfl,q⟩:=h;obtain⟨t,rfl⟩:=rx;obtain⟨t',rfl⟩:=ry;exact in_str (jak I q rfl)

theorem jem:OpR X (YaR .NotIn) (λx y H Q=>∃i j,x=.str i/\y=.str j/\Q (.bl (!(!(YbU j i 0 j.length 1).isEmpty))) H):=by
 intro pins s σ H x y v u Q I rx ry h;obtain⟨i,j,rfl,rfl,q⟩:=h;obtain⟨t,rfl⟩:=rx;obtain⟨t',rfl⟩:=ry;exact notIn_str (jak I q rfl)
theorem OpR.or {f:Value->Value->Sem Value}{r r':R2}(h:OpR X f r)(h':OpR X f r'):OpR X f (λx y H Q=>r x y H Q\/r' x y H Q):=by
 intro pins s σ H x y v u Q I rx ry q;rcases q with q|q
 ·exact h pins s σ H x y v u Q I rx ry q
 ·exact h' pins s σ H x y v u Q I rx ry q

theorem jjH {op:CmpOp}{r:R2}(ho:OpR X (YaR op) r)(ha:PE X a ta)(hb:PE X b tb)(hm:YdM op b=false):PE X (.Compare a [op] [b] pos) (tOp r ta tb):=by
 intro pins s σ H Q I h;exact wpAny_Compare1 (binT ha hb I h λv u s2 x y H2 I2 rx ry q=>ho pins s2 σ H2 x y v u Q I2 rx ry q) hm
def jk4 (t:TE):TT:=λσ H Q=>t σ H λx H'=>∃k,x=.bl k/\Q k H'
theorem jjs {op:CmpOp}{r:R2}(ho:OpR X (YaR op) r)(ha:PE X a ta)(hb:PE X b tb)(hm:YdM op b=false):PT X (.Compare a [op] [b] pos) (jk4 (tOp r ta tb)):=by
 intro pins s σ H Q I h;refine wpAny_isTrue_Compare1 (thn (ha pins s σ H _ I h) λv s1 ⟨x,H1,I1,r1,q1⟩=>thn (hb pins s1 σ H1 _ I1 q1) λu s2 ⟨y,H2,I2,r2,q2⟩=>
  thn (ho pins s2 σ H2 x y v u _ I2 r1 r2 q2) λc s3 ⟨z,H3,I3,r3,k,e,q3⟩=>?_) hm
 subst e;cases r3;exact YbV ⟨H3,I3,q3⟩
def jiv (r r':R2)(ta tb tc:TE):TE:=λσ H Q=>ta σ H λx H1=>tb σ H1 λy H2=>r x y H2 λz H3=>∃k,z=.bl k/\
 (if k=true then tc σ H3 λw' H4=>r' y w' H4 Q else Q (.bl false) H3)
section
variable {op op':CmpOp}{r r':R2}
theorem jhW (ho:OpR X (YaR op) r)(ho':OpR X (YaR op') r')(ha:PE X a ta)(hb:PE X b tb)(hc:PE X c tc)
  (hm:YfG [op,op'] [b,c]=false:=by with_unfolding_all rfl):PE X (.Compare a [op,op'] [b,c] pos) (jiv r r' ta tb tc):=by
 intro pins s σ H Q I h;refine Compare_chain (thn (ha pins s σ H _ I h) λv s1 ⟨x,H1,I1,r1,q1⟩=>chain_link (thn (hb pins s1 σ H1 _ I1 q1) λu s2 ⟨y,H2,I2,r2,q2⟩=>
  thn (ho pins s2 σ H2 x y v u _ I2 r1 r2 q2) λd s3 ⟨z,H3,I3,r3,k,e,q3⟩=>?_)) hm
 subst e;cases r3;refine YbV ?_;cases k with
 |false=>exact ite_ff ⟨.bl false,H3,I3,rfl,q3⟩
 |true=>exact ite_tt (chain_last (thn (hc pins s3 σ H3 _ I3 q3) λw' s4 ⟨z',H4,I4,r4,q4⟩=>ho' pins s4 σ H4 y z' u w' Q I4 r2 r4 q4))
theorem jhJ (ho:OpR X (YaR op) r)(ho':OpR X (YaR op') r')(ha:PE X a ta)(hb:PE X b tb)(hc:PE X c tc)
  (hm:YfG [op,op'] [b,c]=false:=by with_unfolding_all rfl):PT X (.Compare a [op,op'] [b,c] pos) (jk4 (jiv r r' ta tb tc)):=by
 intro pins s σ H Q I h;refine isTrue_chain (thn (ha pins s σ H _ I h) λv s1 ⟨x,H1,I1,r1,q1⟩=>test_link (thn (hb pins s1 σ H1 _ I1 q1) λu s2 ⟨y,H2,I2,r2,q2⟩=>
  thn (ho pins s2 σ H2 x y v u _ I2 r1 r2 q2) λd s3 ⟨z,H3,I3,r3,k,e,q3⟩=>?_)) hm
 subst e;cases r3;refine YbV ?_;cases k with
 |false=>
  obtain⟨k',e',q'⟩:=q3;cases e';exact ite_ff ⟨H3,I3,q'⟩
 |true=>
  refine ite_tt (test_last (thn (hc pins s3 σ H3 _ I3 q3) λw' s4 ⟨z',H4,I4,r4,q4⟩=>thn (ho' pins s4 σ H4 y z' u w' _ I4 r2 r4 q4) λd' s5 ⟨z2,H5,I5,r5,k2,e2,q5⟩=>?_));subst e2;cases r5;exact YbV ⟨H5,I5,q5⟩

end
def TruV (K:Yac)(x:V)(H:Hp)(k:Bool):Prop:=
 match x with
 |.non=>k=false
 |.bl b=>k=b
 |.int i=>k=(i != 0)
 |.str y=>y.length<=Yai/\k=((y.length:Int) != 0)
 |.byt y=>y.size<=Yai/\k=((y.size:Int) != 0)
 |.ref p=>(∃xs,SqL K H p xs/\k = !xs.isEmpty)\/(∃xs,SqT K H p xs/\k = !xs.isEmpty)\/∃kvs,H p=some (.dK kvs)/\k = !kvs.isEmpty
 |_=>False
theorem jf1 {κ:Type}{kvs:List (κ×V)}{vs:List (κ×Value)}(r:KV kvs vs):(!vs.isEmpty) = !kvs.isEmpty:=by
 cases r<;>rfl
theorem jdB {xs:List V}{its:List Value}(r:Vals xs its):(!its.toArray.isEmpty) = !xs.isEmpty:=by
 cases r<;>simp
theorem jc5:(Yai:Nat)<2 ^ 63:=by rw[Yce];decide
theorem jfk:TruR X (λx H Q=>∃k,TruV X.K x H k/\Q k H):=by
 intro pins s σ H x v Q I rx h;obtain⟨k,e,q⟩:=h;have hl:=jc5;have hs:Yai=16777216:=Yce;cases x with
 |non=>
  cases rx;have e':k=false:=e;subst e';exact truthy_none ⟨H,I,q⟩
 |bl b=>
  cases rx;have e':k=b:=e;subst e';exact YbV ⟨H,I,q⟩
 |int i=>
  obtain⟨t,rfl⟩:=rx;have e':k=(i != 0):=e;subst e';exact PySem.P.truthy_int ⟨H,I,q⟩
 |str y=>
  obtain⟨t,rfl⟩:=rx;obtain⟨hy,e'⟩:y.length<=Yai/\k=((y.length:Int) != 0):=e;subst e';exact PySem.P.truthy_str (by omega) ⟨H,I.tok _,q⟩
 |byt y=>
  obtain⟨t,rfl⟩:=rx;obtain⟨hy,e'⟩:y.size<=Yai/\k=((y.size:Int) != 0):=e;subst e';exact PySem.W.truthy_bytes (by omega) ⟨H,I.tok _,q⟩
 |ref p=>
  cases rx;have e':(∃xs,SqL X.K H p xs/\k = !xs.isEmpty)\/(∃xs,SqT X.K H p xs/\k = !xs.isEmpty)\/∃kvs,H p=some (.dK kvs)/\k = !kvs.isEmpty:=e;rcases e' with⟨xs,hx,e'⟩|⟨xs,hx,e'⟩|⟨kvs,hx,e'⟩
  ·subst e';obtain⟨its,r,pl,hz⟩:=I.list hx;have hlen:=r.length;exact wpAny_truthy_list pl.isList (by simp only[Yah];omega) ⟨H,I.tok _,by rw[jdB r];exact q⟩
  ·subst e';obtain⟨its,r,pl,hz⟩:=I.tuple hx;have hlen:=r.length;exact truthy_tuple pl (by simp only[Yah];omega) ⟨H,I.tok _,by rw[jdB r];exact q⟩
  ·subst e';obtain⟨hz,hS,vs,r,m⟩:kvs.length<=Yai/\(p==YaY)=false/\∃vs,KV kvs vs/\s.heap.DictOf (jai X.prog X.w) p vs:=I.hok p _ hx;have hlen:kvs.length=vs.length:=Yde r;exact wpAny_truthy_dict hS m (by omega) ⟨H,I.tok _,by rw[jf1 r];exact q⟩
 |_=>exact(show False from e).elim
theorem jhI (ha:PE X a ta)(he:∀whole,isTrue a X.env whole=(do let v <- whole;standAt a.pos;holding [v] (truthy v))) :
  PT X a (λσ H Q=>ta σ H λx H'=>∃k,TruV X.K x H' k/\Q k H'):=by
 intro pins s σ H Q I h;exact isTrue_plain (thn (ha pins s σ H _ I h) λv s1 ⟨x,H1,I1,r1,q1⟩=>jfk pins s1 σ H1 x v Q I1 r1 q1) (he _)

theorem jfV:OpR X (Yba .Add) (λx y H Q=>∃i j,x=.str i/\y=.str j/\i.length+j.length<=Yai/\Q (.str (i++j)) H):=by
 intro pins s σ H x y v u Q I rx ry h;obtain⟨i,j,rfl,rfl,hz,q⟩:=h;obtain⟨t,rfl⟩:=rx;obtain⟨t',rfl⟩:=ry;exact add_str (λt' tk=>⟨.str (i++j),H,I.tok _,⟨_,rfl⟩,q⟩) hz
theorem je5:OpR X (YdL .Add) (λx y H Q=>∃i j,x=.str i/\y=.str j/\i.length+j.length<=Yai/\Q (.str (i++j)) H):=by
 intro pins s σ H x y v u Q I rx ry h;obtain⟨i,j,rfl,rfl,hz,q⟩:=h;obtain⟨t,rfl⟩:=rx;obtain⟨t',rfl⟩:=ry;exact iadd_str (λt' tk=>⟨.str (i++j),H,I.tok _,⟨_,rfl⟩,q⟩) hz
theorem jb9 {x:V}{us:List Value}(r:Vals [x] us):∃u,us=[u]/\RelV x u:=by
 cases r with
 |cons r1 r2=>cases r2;exact⟨_,rfl,r1⟩
theorem jnv {x y:V}{us:List Value}(r:Vals [x,y] us):∃u w',us=[u,w']/\RelV x u/\RelV y w':=by
 cases r with
 |cons r1 r2=>
  cases r2 with
  |cons r3 r4=>cases r4;exact⟨_,_,rfl,r1,r3⟩
theorem jhn (hc:X.calm=true):jaX X (.builtin "min") (λxs H Q=>∃i j,xs=[.int i,.int j]/\Q (.int (if j<i then j else i)) H):=by
 intro pins s σ H xs us Q I r h;obtain⟨i,j,rfl,q⟩:=h;obtain⟨u,w',rfl,⟨t,rfl⟩,⟨t',rfl⟩⟩:=jnv r;refine min_two_ints (I.ok.hd hc) λh' tk k=>⟨_,H,I.kept k,?_,q⟩;by_cases hj:j<i
 ·rw[if_pos hj,if_pos hj];exact⟨_,rfl⟩
 ·rw[if_neg hj,if_neg hj];exact⟨_,rfl⟩
theorem jhp:jaX X (.type "int") (λxs H Q=>(∃i,xs=[.int i]/\Q (.int i) H)\/∃k,xs=[.bl k]/\Q (.int (if k then 1 else 0)) H):=by
 intro pins s σ H xs us Q I r h;rcases h with⟨i,rfl,q⟩|⟨k,rfl,q⟩
 ·obtain⟨u,rfl,t,rfl⟩:=jb9 r;exact call_int_int ⟨.int i,H,I,⟨_,rfl⟩,q⟩
 ·obtain⟨u,rfl,r1⟩:=jb9 r;cases r1;exact call_int_bool ⟨.int (if k then 1 else 0),H,I.tok _,⟨_,rfl⟩,q⟩
def LenV (K:Yac)(x:V)(H:Hp)(n:Nat):Prop:=
 match x with
 |.str y=>y.length<=Yai/\n=y.length
 |.byt y=>y.size<=Yai/\n=y.size
 |.ref p=>(∃xs,SqL K H p xs/\n=xs.length)\/∃xs,SqT K H p xs/\n=xs.length
 |_=>False
theorem jik:jaX X (.builtin "len") (λxs H Q=>∃x n,xs=[x]/\LenV X.K x H n/\Q (.int n) H):=by
 intro pins s σ H xs us Q I r h;obtain⟨x,n,rfl,e,q⟩:=h;obtain⟨u,rfl,rx⟩:=jb9 r;have hl:=jc5;have hs:Yai=16777216:=Yce;cases x with
 |str y=>
  obtain⟨t,rfl⟩:=rx;obtain⟨hy,e'⟩:y.length<=Yai/\n=y.length:=e;subst e';exact len_str (by omega) ⟨.int _,H,I.tok _,⟨_,rfl⟩,q⟩
 |byt y=>
  obtain⟨t,rfl⟩:=rx;obtain⟨hy,e'⟩:y.size<=Yai/\n=y.size:=e;subst e';exact PySem.W.len_bytes (by omega) ⟨.int _,H,I.tok _,⟨_,rfl⟩,q⟩
 |ref p=>
  cases rx;have e':(∃xs,SqL X.K H p xs/\n=xs.length)\/∃xs,SqT X.K H p xs/\n=xs.length:=e;rcases e' with⟨xs,hx,e'⟩|⟨xs,hx,e'⟩
  ·subst e';obtain⟨its,r',pl,hz⟩:=I.list hx;have hlen:=r'.length;exact Calls.call_len_list pl.isList (by simp only[Yah];omega) ⟨.int xs.length,H,I.tok _,⟨_,by simp only[Yah];rw[hlen]⟩,q⟩
  ·subst e';obtain⟨its,r',pl,hz⟩:=I.tuple hx;have hlen:=r'.length;exact len_tuple pl (by simp only[Yah];omega) ⟨.int xs.length,H,I.tok _,⟨_,by simp only[Yah];rw[hlen]⟩,q⟩
 |_=>exact(show False from e).elim
end

structure ObjM (h:Heap)(x dx C:Addr)(mA:Str->Option Value):Prop where
 obj:h.get? x=some (Ydv C dx)
 ns:h.Ns1 dx mA
 ne:dx≠x

theorem jgP {h:Heap}{dx:Addr}{mA:Str->Option Value}(n:h.Ns1 dx mA):∃od,h.get? dx=some od/\∀name,YdQ name od=some (mA name):=by
 obtain⟨o,es,ep,ho,hd,hk,_,hm⟩:=n;refine⟨o,ho,λname=>?_⟩;have e:=hm name;unfold nsFind findBy at e;rw[<- Array.find?_toList]at e;unfold YdQ;rw[hd];dsimp only;split
 ·rename_i y q;rw[q]at e;exact congrArg some e
 ·rename_i q;rw[q]at e;have a:es.toList.any (·.refKey)=false:=by
   rw[Yfy];intro y hy;obtain⟨z,t,hkey⟩:=hk y (Array.mem_toList_iff.mp hy);simp[Ycf.refKey,hkey]
  have a':¬es.toList.any (·.refKey)=true:=by rw[a];exact Yam
  rw[if_neg a'];exact congrArg some e

theorem ObjM.look {h:Heap}{x dx C:Addr}{mA:Str->Option Value}(I:ObjM h x dx C mA):∃od,PySem.W.InstAt h x (Ydv C dx) C (some od)/\∀name,YdQ name od=some (mA name):=
 let ⟨od,ho,hl⟩:=jgP I.ns
 ⟨od,⟨I.obj,rfl,rfl,ho⟩,hl⟩

section
variable {prog:Program}{w:World}{A:Around}{E:Value->Shared->Prop}{s:Shared}{K:Yac}{x dx C f:Addr}{mA:Str->Option Value}{name:Str}{v:Value}

end

theorem RelO.some_of {v:V}{o:Option Value}(r:RelO (some v) o):∃u,o=some u/\RelV v u:=by
 cases o with
 |none=>exact(show False from r).elim
 |some u=>exact⟨u,rfl,r⟩
section
variable {P:Program}{w:World}{H H':Hp}{h h':Heap}{a C dx:Addr}{fs fs':List (Str×V)}
theorem jkp (hok:HOk P w H h)(e:H a=some (.ins C dx fs)):∃mA,ObjM h a dx C mA/\(∀f,RelO (fs.lookup f) (mA f))/\PySem.Within mA (fs.map (·.1))/\fs.length<=1000/\H dx=some (.own a):=by
 obtain⟨d,z,ne,ob,mA,n,r,q⟩:=(show jay P w H h a (.ins C dx fs)from hok a _ e);exact⟨mA,⟨ob,n,ne⟩,r,q,z,d⟩
end

structure Cls (K:Yac)(C:Addr):Prop where
 pg:YeX K C YeL=true
 hd:PySem.W.hasDictIn K C=true
 po:PySem.W.plainOver K C=true
 sa:Ycj K (.ref C) "__setattr__" = some (some (.builtin "object.__setattr__"))
theorem Cls.get {K:Yac}{C:Addr}(c:Cls K C)(f:Str):YeX K C f=true:=c.pg
structure Con (K:Yac)(C:Addr)(f:Str)(v:V)(u:Value):Prop where
 at_:Ycj K (.ref C) f=some (some u)
 rel:RelV v u
 get:YeM K u "__get__" = some none
 cp:PySem.W.copiedNames.contains f=false
structure Meth (K:Yac)(C:Addr)(m:Str)(f:Addr):Prop where
 at_:Ycj K (.ref C) m=some (some (.ref f))
 fn:PySem.W.isFn K (.ref f)=true
 kp:YbR K (.ref f)=true

section
variable {X:Cx}{pins:List (Addr×Obj)}{σ:St}{H:Hp}{s:Shared}{a C dx:Addr}{fs:List (Str×V)}{f:Str}{v:V}{A:Around}{E:Value->Shared->Prop}

end

section
variable {X:Cx}{o e value:Expr}{f:Str}{pos pos' tpos:Pos}{ta tv:TE}
end

section
variable {X:Cx}{pins:List (Addr×Obj)}{σ:St}{H:Hp}{s:Shared}{A:Around}{E:Value->Shared->Prop}{Q:Value->Shared->Prop}{c:Value}{b:Bool}
inductive TyOf (K:Yac)(H:Hp):V->Value->Prop where
 |non:TyOf K H .non (.type "NoneType")
 |bl (x:Bool):TyOf K H (.bl x) (.type "bool")
 |int (i:Int):TyOf K H (.int i) (.type "int")
 |str (x:Str):TyOf K H (.str x) (.type "str")
 |flt (x:UInt64):TyOf K H (.flt x) (.type "float")
 |lst {a:Addr} {xs:List V} (e:H a=some (.lst xs)):TyOf K H (.ref a) (.type "list")
 |frz {a:Addr} {o:Obj} {xs:List V} (e:H a=some (.frz o (.lst xs))):TyOf K H (.ref a) (.type "list")
 |tup {a:Addr} {xs:List V} (e:H a=some (.tup xs)):TyOf K H (.ref a) (.type "tuple")
 |dK {a:Addr} {kvs:List (Key×V)} (e:H a=some (.dK kvs)):TyOf K H (.ref a) (.type "dict")
 |dT {a:Addr} {kvs:List (List Key×V)} (e:H a=some (.dT kvs)):TyOf K H (.ref a) (.type "dict")
 |ins {a C dx:Addr} {fs:List (Str×V)} (e:H a=some (.ins C dx fs)) (cl:Cls K C) (ha:Ycj K (.ref C) "__class__" = some (some (.builtin "object.__class__")))
   (hn:YeM K (.builtin "object.__class__") "__get__" = some (some (.builtin "getset_descriptor.__get__"))) (htk:PySem.W.takesIn K (.builtin "object.__class__")=some true)
   (hm:PySem.W.mroIn K C (.type "object")=some true):TyOf K H (.ref a) (.ref C)
theorem jgW {x:V}{u t:Value}(I:Inv X pins σ H s)(rx:RelV x u)(ty:TyOf X.K H x t)(e:YcY X.K t c=some b)(h:∀tk,Q (.bool b) { s with toks:=tk }) :
  wpAny (model X.prog X.w) A (call (.builtin "isinstance") [u,c]) Q E s:=by
 cases ty with
 |non=>cases(show u=YaP from rx);exact Ya6 PySem.W.kitx_none I.kIn YbO e (λz=>nomatch z) h
 |bl y=>cases(show u=Yfc y from rx);exact Ya6 PySem.W.kitx_bool I.kIn YbO e (λz=>nomatch z) h
 |int i=>obtain⟨t,q⟩:=(show ∃t,u=YdP i t from rx);cases q;exact Ya6 PySem.W.kitx_int I.kIn YbO e (λz=>nomatch z) h
 |str y=>obtain⟨t,q⟩:=(show ∃t,u=Yez y t from rx);cases q;exact Ya6 PySem.W.kitx_str I.kIn YbO e (λz=>nomatch z) h
 |flt y=>obtain⟨t,q⟩:=(show ∃t,u=Value.float y t from rx);cases q;exact Ya6 PySem.W.kitx_float I.kIn YbO e (λz=>nomatch z) h
 |@lst a xs ea=>
  cases(show u=YbD a from rx);obtain⟨_,_,n,_,h1⟩:=(show jay X.prog X.w H s.heap a (.lst xs)from I.hok a _ ea);exact Ya6 YeN I.kIn ⟨_,h1,rfl⟩ e (λz=>nomatch z) h
 |@frz a ob xs ea=>
  cases(show u=YbD a from rx);obtain⟨_,_,_,n,_,h1⟩:=(show jay X.prog X.w H s.heap a (.frz ob (.lst xs))from I.hok a _ ea);exact Ya6 YeN I.kIn ⟨_,h1,rfl⟩ e (λz=>nomatch z) h
 |@tup a xs ea=>
  cases(show u=YbD a from rx);obtain⟨_,_,_,p⟩:=(show jay X.prog X.w H s.heap a (.tup xs)from I.hok a _ ea);obtain⟨o,h1,h2,_⟩:=p;exact Ya6 PySem.W.kitx_tuple I.kIn ⟨o,h1,h2⟩ e (λz=>nomatch z) h
 |@dK a kvs ea=>
  cases(show u=YbD a from rx);obtain⟨_,_,vs,_,p⟩:=(show jay X.prog X.w H s.heap a (.dK kvs)from I.hok a _ ea);obtain⟨o,es,ep,h1,h2,_⟩:=p;exact Ya6 YeO I.kIn ⟨o,h1,h2.1⟩ e (λz=>nomatch z) h
 |@dT a kvs ea=>
  cases(show u=YbD a from rx);obtain⟨_,_,xs,_,o,es,ep,h1,h2,_⟩:=(show jay X.prog X.w H s.heap a (.dT kvs)from I.hok a _ ea);exact Ya6 YeO I.kIn ⟨o,h1,h2.1⟩ e (λz=>nomatch z) h
 |@ins a C dx fs ea cl ha hn htk hm=>
  cases(show u=YbD a from rx);obtain⟨mA,O,_⟩:=jkp I.hok ea;obtain⟨od,J,_⟩:=O.look;exact Ya6 (PySem.W.kitx_own (cl.get _) cl.hd ha hn htk hm) I.kIn J e (λz=>nomatch z) h
end

structure Room (k:Nat)(A:Around):Prop where
 hd:A.handled=none
 dp:A.depth+k+20<recursionLimit
 un:A.units+8*k+200<cLine
 gd:A.guards=some []
theorem Room.mono {j k:Nat}{A:Around}(r:Room k A)(h:j<=k):Room j A:=⟨r.hd,by have:=r.dp;omega,by have:=r.un;omega,r.gd⟩
section
variable {k:Nat}{A:Around}
theorem Room.deeper (r:Room (k+1) A)(env:Env):Room k (A.deeper env):=
 ⟨r.hd,by have:=r.dp;show A.depth+1+k+20<_;omega,by have:=r.un;show A.units+3+8*k+200<_;omega,r.gd⟩
theorem Room.depth (r:Room k A):A.depth<recursionLimit:=by have:=r.dp;omega
theorem Room.units (r:Room k A):A.units+64<cLine:=by have:=r.un;omega
theorem Room.units0 (r:Room k A):A.units<cLine:=by have:=r.un;omega

end
def tNil:TA:=λ_ H Q=>Q [] H
def jnW (ta:TE)(tr:TA):TA:=λσ H Q=>ta σ H λx H1=>tr σ H1 λxs H2=>Q (x::xs) H2
section
variable {X:Cx}{e:Expr}{es:List Expr}{te:TE}{t:TA}{pos:Pos}
theorem jlP:PA X [] tNil:=λ_ _ _ _ H Q I h=>Calls.spliced_nil ⟨[],H,I,.nil,h⟩
theorem jjK (ha:PE X e te)(hr:PA X es t)(hs:YaA (e::es) X.env=(false,eval e X.env)::YaA es X.env:=by rfl):PA X (e::es) (jnW te t):=by
 intro pos pins s σ H Q I h;rw[hs];show wpAny _ _ (spliced ((false,eval e X.env)::backTo pos (YaA es X.env))) _ _ s;refine Calls.spliced_cons (thn (ha pins s σ H _ I h) λu s1 ⟨x,H1,I1,r1,q1⟩=>?_);exact thn (hr pos pins s1 σ H1 _ I1 q1) λus s2 ⟨xs,H2,I2,r2,q2⟩=>⟨x::xs,H2,I2,.cons r1 r2,q2⟩

def tTup (t:TA):TE:=λσ H Q=>t σ H λxs H1=>xs.length<=Yai/\∀p,H1 p=none->Q (.ref p) (upd H1 p (.tup xs))
def tLst (t:TA):TE:=λσ H Q=>t σ H λxs H1=>xs.length<=Yai/\∀p,H1 p=none->Q (.ref p) (upd H1 p (.lst xs))
theorem jlI {x1}(h:PA X es t):PE X (.Tuple es x1 pos) (tTup t):=by
 intro pins s σ H Q I hq;refine wpAny_Tuple_spliced (thn (h pos pins s σ H _ I hq) λus s1 ⟨xs,H1,I1,r,z,q⟩=>⟨by rw[<- r.length];exact z,?_⟩)
 have hf:H1 s1.heap.objs.size=none:=I1.hok.fresh (Yag _);refine⟨.ref s1.heap.objs.size,upd H1 s1.heap.objs.size (.tup xs),I1.laid (t':=s1.toks) (λb u e=>Yab _ e) (Yag _) ?_,rfl,q _ hf⟩;exact⟨z,us,r,⟨_,Yaq _ rfl,rfl,_,rfl,rfl⟩⟩
theorem jlM (h:PA X es t):PE X (.List es pos) (tLst t):=by
 intro pins s σ H Q I hq;refine wpAny_List_spliced (thn (h pos pins s σ H _ I hq) λus s1 ⟨xs,H1,I1,r,z,q⟩=>⟨by rw[<- r.length];exact z,?_⟩)
 have hf:H1 s1.heap.objs.size=none:=I1.hok.fresh (Yag _);refine⟨.ref s1.heap.objs.size,upd H1 s1.heap.objs.size (.lst xs),I1.laid (t':=s1.toks) (λb u e=>Yab _ e) (Yag _) ?_,rfl,q _ hf⟩;exact⟨z,us,0,r,Yaq _ rfl⟩
end

abbrev Sp:=List V->Hp->VK->XK->Prop
abbrev CXT:=List Env->Hp->Shared->XK->Value->Shared->Prop

structure Env0 (P:Program)(w:World)(K:Yac)(mg:Str->Option Value)(base:Heap)(A:Around)(outer:List Env)(s:Shared)(H:Hp):Prop where
 frames:A.frames=some outer
 mod:Mod K mg base
 bs:∀b o,base.get? b=some o->s.heap.get? b=some o/\H b=none
 bsz:base.objs.size<=s.heap.objs.size
 funs:s.heap.FunFrames base outer
 frf:∀b∈frs outer,H b=none
 hok:HOk P w H s.heap
 bare:AllBare s.gens
def CE (outer:List Env)(P:Program)(w:World)(H:Hp)(s:Shared)(Q:VK)(u:Value)(s':Shared):Prop:=
 ∃v H',s'.os=s.os/\AllBare s'.gens/\Un (frs outer) [] H H' s.heap s'.heap/\HOk P w H' s'.heap/\RelV v u/\Q v H'
def CR (CX:CXT)(outer:List Env)(P:Program)(w:World)(H:Hp)(s:Shared)(Q:VK)(E:XK)(r:Result)(s':Shared):Prop:=
 match r with
 |.ok (.ret u)=>CE outer P w H s Q u s'
 |.ok _=>False
 |.error e=>CX outer H s E e s'
structure FnOk (P:Program)(w:World)(K:Yac)(mg:Str->Option Value)(base:Heap)(CX:CXT)(k:Nat)(f:Addr)(fd:Ybm)(ps:List Str)(sp:Sp):Prop where
 len:∀vs H Q E,sp vs H Q E->vs.length=ps.length
 run:∀(A:Around) (outer:List Env) (s:Shared) (H:Hp) (args:Args) (us:List Value) (vs:List V) (Q:VK) (E:XK),Room k A->Env0 P w K mg base A outer s H->BindsTo s fd args (ps.zip us)->Vals vs us->sp vs H Q E->
  codeAny (model P w) A (.call (.ref f) args) (CR CX outer P w H s Q E) s
section
variable {X:Cx}{pins:List (Addr×Obj)}{σ:St}{H:Hp}{s s':Shared}
theorem Inv.env0 (I:Inv X pins σ H s):Env0 X.prog X.w X.K X.mg X.base X.A X.stack s H:=
 ⟨I.ok.frames,I.ok.mod,I.bs,Yan I.ok.bsz I.sz,I.stack,I.stkFree,I.hok,I.bare⟩
theorem Inv.after {Q:VK}{u:Value}(I:Inv X pins σ H s)(h:CE X.stack X.prog X.w H s Q u s'):EP X pins σ Q u s':=by
 obtain⟨v,H',os,bare,un,hok,r,q⟩:=h;obtain⟨hh,g,d,t,os'⟩:=s';obtain rfl:os'=s.os:=os;exact⟨v,H',I.call (h':=hh) (g':=g) (d':=d) (t':=t) (ch:=[]) un hok bare (λb z=>absurd z (by simp)),r,q⟩
end

def Binds (K:Yac)(fd:Ybm)(ps:List Str)(ds:List Value):Prop:=
 ∀(s:Shared) (us:List Value),K.In s.heap->(us++ds).length=ps.length->BindsTo s fd ⟨us,[]⟩ (ps.zip (us++ds))
theorem Binds.all {K:Yac}{fd:Ybm}{ps:List Str}(h:∀us:List Value,us.length=ps.length->bindArgs fd ⟨us,[]⟩=pure (ps.zip us)):Binds K fd ps []:=λs us _ hl=>by
 rw[Yc2]at hl ⊢;exact .of_eq (h us hl)

section
variable {X:Cx}{CX:CXT}{k:Nat}{f C:Addr}{fd:Ybm}{ps:List Str}{sp:Sp}{dvs:List V}{ds:List Value}{E:XK}{x m:Str}{p pos apos:Pos}{e o:Expr}{es:List Expr}{ta:TE}{t:TA}

structure Mk (K:Yac)(C f:Addr):Prop where
 makes:PySem.W.makesIn K C=true
 init:Ycj K (.ref C) "__init__" = some (some (.ref f))
 fn:PySem.W.isFn K (.ref f)=true
 kp:YbR K (.ref C)=true

end

def PK (X:Cx)(kws:List Keyword)(t:TA):Prop:=
 ∀(pos:Pos) (pins:List (Addr×Obj)) (s:Shared) (σ:St) (H:Hp) (Q:List V->Hp->Prop),Inv X pins σ H s->t σ H Q->wpAny (model X.prog X.w) X.A (evalAll ((backToKw pos (Yey kws X.env)).map (·.2))) (AP X pins σ Q) X.xe s
section
variable {X:Cx}{CX:CXT}{k:Nat}{f C:Addr}{fd:Ybm}{ps ks:List Str}{sp:Sp}{E:XK}{x m:Str}{p pos apos kpos:Pos}{e o:Expr}{es:List Expr}{kws:List Keyword}{te ta:TE}{t tk:TA}{nm:Option Str}
theorem pk_nil:PK X [] tNil:=λ_ _ _ _ H Q I h=>wpAny_evalAll_nil ⟨[],H,I,.nil,h⟩
structure KBinds (K:Yac)(fd:Ybm)(ps ks:List Str)(g:List Value->List Value->List Value)(gV:List V->List V->List V):Prop where
 to:∀(s:Shared) (us ws:List Value),K.In s.heap->(g us ws).length=ps.length->BindsTo s fd ⟨us,ks.zip ws⟩ (ps.zip (g us ws))
 rel:∀{vs:List V} {us:List Value} {zs:List V} {ws:List Value},Vals vs us->Vals zs ws->Vals (gV vs zs) (g us ws)
variable {g:List Value->List Value->List Value}{gV:List V->List V->List V}
end

structure FnScope (N P:List Str)(sc:Scope):Prop where
 kind:sc.kind=.function
 co:sc.isCoroutine=false
 gen:sc.isGenerator=false
 nd:N.Nodup
 pre:N.take P.length=P
 par:∀x∈P,sc.names.lookup x=some .local\/sc.names.lookup x=some .cell
 nofree:∀y∈sc.names,y.2≠.free

section
variable {kindOf:Str->Option YbC}{x:Str}
theorem jeH:∀{binds:List (Str×Value)} {m:Str->Option Value},(∀v,(x,v)∉binds)->bindL kindOf binds m x=m x
 |[],_,_=>rfl
 |(n,v)::r,m,h=>by
  unfold bindL;rw[jeH λw hw=>h w (Yaj _ hw)];split
  ·have:x≠n:=by rintro rfl;exact h v Yaw
   simp[this]
  ·rfl
theorem jeJ:∀{binds:List (Str×Value)} {m:Str->Option Value},(∀v,(x,v)∉binds)->bindC kindOf binds m x=m x
 |[],_,_=>rfl
 |(n,v)::r,m,h=>by
  unfold bindC;rw[jeJ λw hw=>h w (Yaj _ hw)];split
  ·rfl
  ·have:x≠n:=by rintro rfl;exact h v Yaw
   simp[this]
theorem jeI {v:Value}:∀{P:List Str} {vs:List Value} {i:Nat} {m:Str->Option Value},P.Nodup->P[i]?=some x->vs[i]?=some v->kindOf x=some .local->
  bindL kindOf (P.zip vs) m x=some v
 |[],_,_,_,_,h,_,_=>by simp at h
 |_::_,[],_,_,_,_,h,_=>by simp at h
 |p::P,w::vs,0,m,nd,h1,h2,hk=>by
  simp at h1 h2;subst h1;subst h2;show bindL kindOf ((p,w)::P.zip vs) m p=_;unfold bindL;rw[jeH λv hv=>(List.nodup_cons.mp nd).1 (YdZ hv).1,if_pos hk];simp
 |p::P,w::vs,i+1,m,nd,h1,h2,hk=>by
  show bindL kindOf ((p,w)::P.zip vs) m x=_;unfold bindL;exact jeI (i:=i) (List.nodup_cons.mp nd).2 (by simpa using h1) (by simpa using h2) hk
theorem jeK {v:Value}:∀{P:List Str} {vs:List Value} {i:Nat} {m:Str->Option Value},P.Nodup->P[i]?=some x->vs[i]?=some v->kindOf x≠some .local->
  bindC kindOf (P.zip vs) m x=some v
 |[],_,_,_,_,h,_,_=>by simp at h
 |_::_,[],_,_,_,_,h,_=>by simp at h
 |p::P,w::vs,0,m,nd,h1,h2,hk=>by
  simp at h1 h2;subst h1;subst h2;show bindC kindOf ((p,w)::P.zip vs) m p=_;unfold bindC;rw[jeJ λv hv=>(List.nodup_cons.mp nd).1 (YdZ hv).1,if_neg hk];simp
 |p::P,w::vs,i+1,m,nd,h1,h2,hk=>by
  show bindC kindOf ((p,w)::P.zip vs) m x=_;unfold bindC;exact jeK (i:=i) (List.nodup_cons.mp nd).2 (by simpa using h1) (by simpa using h2) hk

end
noncomputable def start (N:List Str)(vs:List V):St:=vs.map some++Yaf (N.length-vs.length) none

noncomputable def cxOf (CX:CXT)(P:Program)(w:World)(K:Yac)(mg:Str->Option Value)(base:Heap)(N:List Str)(qual:Str)(scope:Scope)(f:Addr)(cd:Value)(A:Around)(outer:List Env)(s:Shared)(H:Hp)(E:XK):Cx where
 prog:=P
 w:=w
 K:=K
 mg:=mg
 base:=base
 A:=A.deeper (envOfC qual scope s.heap.objs.size f cd)
 N:=N
 s₀:=s
 H₀:=H
 env:=envOfC qual scope s.heap.objs.size f cd
 outer:=outer
 stack:=envOfC qual scope s.heap.objs.size f cd::outer
 ex:=[]
 calm:=true
 fn:=λ_=>true
 pn:=[]
 xe:=λe s'=>wpAny (model P w) (A.deeper (envOfC qual scope s.heap.objs.size f cd)) (leaving (envOfC qual scope s.heap.objs.size f cd) e) (λ_ s''=>CX outer H s E e s'') (λe' s''=>CX outer H s E e' s'') s'

theorem jd6 {sc:Scope}{n:Nat}{x:Str}(h:sc.names.lookup x=some .cell):∃c,(Ybg n sc.names []).lookup x=some c:=by
 have q:=Yeh sc.names n [] (.inl h);exact Option.isSome_iff_exists.mp q

section
variable {CX:CXT}{P:Program}{w:World}{K:Yac}{mg:Str->Option Value}{base:Heap}
theorem jgX {N ps:List Str}{qual:Str}{scope:Scope}{f:Addr}{cd:Value}{A:Around}{outer:List Env}{s s1:Shared}{H:Hp}{E:XK}{us:List Value}{vs:List V}
  (S:FnScope N ps scope) (hd:A.handled=none) (e0:Env0 P w K mg base A outer s H) (hl:vs.length=ps.length) (r:Vals vs us)
  (x:InCallC s s.heap.objs.size (bindL (envOfC qual scope s.heap.objs.size f cd).kindOf (ps.zip us) λ_=>none) (Ybg (s.heap.objs.size+1) scope.names []) (bindC (envOfC qual scope s.heap.objs.size f cd).kindOf (ps.zip us) λ_=>none) s1) :
  Inv (cxOf CX P w K mg base N qual scope f cd A outer s H E) [] (start N vs) H s1:=by
 have hpl:ps.length<=N.length:=by have:=congrArg Ydh S.pre;rw[Ybn]at this;omega
 obtain⟨h1,tk,rfl,hk⟩:=x.done;have noA:∀b:Addr,b∉(cxOf CX P w K mg base N qual scope f cd A outer s H E).ex:=λb z=>absurd (show b∈([]:List Addr)from z) (by simp)
 refine⟨⟨e0.mod,S.kind,rfl,rfl,Yag _,λy z c h1 h2=>?_,λy hy=>?_,λy c _ h=>?_,λ_=>hd,Around.frames_deeper e0.frames,.inr ⟨rfl,rfl⟩,λb z=>absurd z (noA b),e0.bs,e0.bsz,λb _ _=>noA b,λb z=>absurd z (noA b),e0.funs,e0.frf⟩,
  rfl,e0.bare,Un.kept hk,⟨_,x.toInCall.ns,λi y v h1 h2 h3=>?_⟩,λy c h=>⟨_,x.cell y c h⟩,e0.hok.fresh (Yag _),λy c h=>?_,λp hp=>absurd (show p∈([]:List (Addr×Obj))from hp) (by simp),e0.hok.kept hk,?_⟩
 ·exact name_of_addr x.apart (YaC h1) (YaC h2)
 ·have hy:scope.names.lookup y=some .cell\/scope.names.lookup y=some .free:=hy;rcases hy with hy|hy
  ·exact jd6 hy
  ·exact absurd rfl (S.nofree _ (YaC hy))
 ·exact Yb2 (x.above y c (YaC h))
 ·have hi:i<vs.length:=by
   unfold start at h2;by_cases hi:i<vs.length
   ·exact hi
   ·rw[Ycl (by simpa using hi)]at h2
    rw[YcO]at h2;split at h2<;>cases h2
  have ha:vs[i]?=some v:=by
   unfold start at h2;rw[Ybc (by simpa using hi),Yal]at h2
   cases e:vs[i]? with
   |none=>rw[e]at h2;cases h2
   |some a=>rw[e]at h2;cases h2;rfl
  obtain⟨u,hu,rv⟩:=r.get ha;have hp:ps[i]?=some y:=by
   rw[<- S.pre,List.getElem?_take_of_lt (by omega)];exact h1
  have ndP:ps.Nodup:=by rw[<- S.pre];exact S.nd.sublist (Yfv _ _)
  refine⟨u,rv,?_⟩;rcases S.par y (Yak hp)with k|k
  ·exact .inl ⟨k,jeI ndP hp hu k⟩
  ·obtain⟨c,e⟩:=jd6 (n:=s.heap.objs.size+1) k;refine .inr ⟨.inl k,c,e,?_⟩;have q:=x.cell y c e;rw[jeK ndP hp hu (by show scope.names.lookup y≠_;rw[k];decide)]at q
   exact q
 ·exact e0.hok.fresh (Yb2 (x.above y c (YaC h)))
 ·unfold start;show _=N.length;rw[YaJ,Yaa,List.length_replicate];omega

theorem joH {k:Nat}{f:Addr}{name qual:Str}{params:YfQ}{body:List Stmt}{scope:Scope}{dV kV doc pm cdv ct oc:Value}{an od:Option Addr}
  {osl:Array (Option Value)} {N ps:List Str} {sp:Sp} (lk:K.lookup f=some ⟨oc,od,.func (YbH name qual params body scope dV kV doc pm an cdv ct),osl⟩) (hcd:Yck K cdv qual=true) (S:FnScope N ps scope)
  (len:∀vs H Q E,sp vs H Q E->vs.length=ps.length)
  (hbody:∀(A:Around) (outer:List Env) (s:Shared) (H:Hp) (vs:List V) (Q:VK) (E:XK),Room k (A.deeper (envOfC qual scope s.heap.objs.size f cdv))->sp vs H Q E->
   ∃t,PSs (cxOf CX P w K mg base N qual scope f cdv A outer s H E) body t/\t { nx:=λ_ H'=>Q .non H',rt:=Q } (start N vs) H) :
  FnOk P w K mg base CX (k+1) f (YbH name qual params body scope dV kV doc pm an cdv ct) ps sp:=by
 refine⟨len,λA outer s H args us vs Q E hr e0 hb r hsp=>?_⟩;have hl:=len _ _ _ _ hsp;have KX:K.In s.heap:=e0.mod.kin.keeps λb o e=>(e0.bs b o e).1;have lim:s.heap.NoLimit:=e0.mod.nolimit.keeps λb o e=>(e0.bs b o e).1;have hkind:∀y∈ps.zip us,scope.names.lookup y.1=some .local\/(scope.names.lookup y.1=some .cell/\((Ybg (s.heap.objs.size+1) scope.names []).lookup y.1).isSome=true):=λ⟨n,v⟩ hy=>by
  rcases S.par n (YdZ hy).1 with q|q
  ·exact .inl q
  ·exact .inr ⟨q,Yeh _ _ _ (.inl q)⟩
 refine codeAny_call_function hr.depth (KX _ _ lk) rfl S.co S.gen rfl (PySem.W.codeRec_of KX hcd) (hb _ _ _ _ ?_);refine wpAny_newFunctionEnv_cells S.kind hkind λenv he s1 x=>?_;subst he;refine⟨lim.keeps x.toInCall.keep,codeAny_func ?_⟩;obtain⟨t,ht,hq⟩:=hbody A outer s H vs Q E (hr.deeper _) hsp;have I:Inv (cxOf CX P w K mg base N qual scope f cdv A outer s H E) [] (start N vs) H s1:=jgX S hr.hd e0 hl r x;refine Ybe (ht [] s1 (start N vs) H _ I hq) (λfl s' hs=>?_) λe s' hs=>hs;have fin:∀{σ':St} {H':Hp} {v:V} {u:Value},Inv (cxOf CX P w K mg base N qual scope f cdv A outer s H E) [] σ' H' s'->RelV v u->Q v H'->CE outer P w H s Q u s':=
  λ{σ' H' v u} J rv q=>⟨v,H',J.os,J.bare,J.base,J.hok,rv,q⟩
 cases fl with
 |ret u=>
  obtain⟨v,σ',H',J,rv,q⟩:=hs;exact fin J rv q
 |next=>
  obtain⟨σ',H',J,q⟩:=hs;exact fin (v:=V.non) (u:=YaP) J rfl q
 |brk=>
  obtain⟨_,_,_,q⟩:=hs;exact Yc4 q
 |cont=>
  obtain⟨_,_,_,q⟩:=hs;exact Yc4 q
end
section
variable {X:Cx}{x:Str}{p pos:Pos}{e:Expr}{es:List Expr}{t:TA}{id T:String}{r:List V->Hp->VK->Prop}

def tCB (r:List V->Hp->VK->Prop)(t:TA):TE:=λσ H Q=>t σ H λvs H1=>r vs H1 Q
theorem jhX (hc:jaX X (.builtin id) r)(hg:Gl X x)(hm:X.mg x=none)(hv:YbT x=some (.builtin id))(ha:PA X (e::es) t)(hn:x ≠ "__name__" := by decide)(hdb:(x==("__debug__" : Str))=false:=by decide)
  (he:YaA (e::es) X.env=(false,eval e X.env)::YaA es X.env:=by rfl) (hpl:(backTo pos (YaA es X.env)).any (·.1)=false:=by rfl):PE X (.Call (.Name x p) (e::es) [] pos) (tCB r t):=by
 intro pins s σ H Q I h;refine YcL (jdA I hg hm hv ?_ hn hdb);exact PyProof.Rows.callWith_builtin1 (thn (ha pos pins s σ H _ I h) λus s1 ⟨vs,H1,I1,r1,q1⟩=>hc pins s1 σ H1 vs us Q I1 r1 q1) he hpl
theorem jbT (hc:jaX X (.type T) r)(hg:Gl X x)(hm:X.mg x=none)(hv:YbT x=some (.type T))(ha:PA X (e::es) t)(hn:x ≠ "__name__" := by decide)(hdb:(x==("__debug__" : Str))=false:=by decide)
  (he:YaA (e::es) X.env=(false,eval e X.env)::YaA es X.env:=by rfl) (hpl:(backTo pos (YaA es X.env)).any (·.1)=false:=by rfl):PE X (.Call (.Name x p) (e::es) [] pos) (tCB r t):=by
 intro pins s σ H Q I h;refine YcL (jdA I hg hm hv ?_ hn hdb);exact YbB (thn (ha pos pins s σ H _ I h) λus s1 ⟨vs,H1,I1,r1,q1⟩=>hc pins s1 σ H1 vs us Q I1 r1 q1) he hpl
end
end L2

namespace HT
open PySem PyProof.Rows

noncomputable def lexLt:List Int->List Int->Bool
 |[],[]=>false
 |[],_::_=>true
 |_::_,[]=>false
 |x::xs,y::ys=>if x=y then lexLt xs ys else decide (x<y)
theorem lexLt_cons (x y:Int)(xs ys:List Int):lexLt (x::xs) (y::ys)=if x=y then lexLt xs ys else decide (x<y):=rfl
theorem lexLt_nil_nil:lexLt [] []=false:=rfl
theorem lexLt_nil_cons (y:Int)(ys:List Int):lexLt [] (y::ys)=true:=rfl
theorem lexLt_cons_nil (x:Int)(xs:List Int):lexLt (x::xs) []=false:=rfl

theorem eqAt_int (A:Around)(s:Shared)(a:Int)(t:Tok)(c:Int)(u:Tok):∃e,Yeg A s (.int a t) (.int c u) e/\(e=true↔a=c):=
 ⟨(a==c),Yem a t c u,by simp⟩
theorem rcLt_int (A:Around)(s:Shared)(a:Int)(t:Tok)(c:Int)(u:Tok)(prog:Program)(w:World)(E:Value->Shared->Prop)(Q:Value->Shared->Prop)(h:Q (.bool (decide (a<c))) s) :
  wpAny (model prog w) A (richCompare .Lt (.int a t) (.int c u)) Q E s:=
 (PyProof.Rows.lt_int h:wpAny (model prog w) A (YaR .Lt (.int a t) (.int c u)) Q E s)

section
open PySem.SeqAt
open PySem.AutoSeq1 (wpAny_loadPart')
open PySem.MeetsSeq PySem.MeetsSeq2 PySem.MeetsSeq3

end

section
variable {prog:Program}{w:World}{A:Around}{E:Value->Shared->Prop}{s:Shared}

theorem cat_tup {t b:Addr}{vs ws:List Value}{Q:Value->Shared->Prop}(ht:IsTup s.heap t vs.toArray)(hb:IsTup s.heap b ws.toArray)(hv:vs≠[])
  (h1:ws=[]->Q (.ref t) s) (h2:ws≠[]->Q (.ref s.heap.objs.size) { s with heap:=s.heap.push { cls:=.type "tuple",data:=.seq (vs++ws).toArray } })
  (hsz:vs.length+ws.length<=Yai):wpAny (model prog w) A (Yba .Add (.ref t) (.ref b)) Q E s:=by
 obtain⟨⟨cls,dd,data,sl⟩,ho,hc,n,hd⟩:=id ht;obtain⟨⟨cls2,dd2,data2,sl2⟩,ho2,hc2,n2,hd2⟩:=id hb;simp only at hc hd hc2 hd2;subst hc hd hc2 hd2;have e:vs.toArray++ws.toArray=(vs++ws).toArray:=by simp
 by_cases hw:ws=[]
 ·exact YfI ⟨_,ho,rfl⟩ ⟨_,ho2,rfl⟩ Yej Ye8 YcG Ycv (Ycp _ _)
   (tuple_addW1 t b vs.toArray ws.toArray n n2 dd dd2 sl sl2 (by simpa using hv) (by simp[hw])) ⟨ho,ho2,h1 hw⟩
 ·refine YfI ⟨_,ho,rfl⟩ ⟨_,ho2,rfl⟩ Yej Ye8 YcG Ycv (Ycp _ _)
   (tuple_addW2 t b vs.toArray ws.toArray n n2 dd dd2 sl sl2 (by simpa using hv) (by simpa using hw) (by rw[Yah,Yah];exact hsz)) ⟨ho,ho2,?_⟩
  rw[e];exact h2 hw

noncomputable def sIx (n d:Nat):Option Int->Nat
 |none=>d
 |some v=>if v<0 then (v+(n:Int)).toNat else min v.toNat n
theorem sIx_none (n d:Nat):sIx n d none=d:=rfl
theorem sIx_nat (n d k:Nat):sIx n d (some (k:Int))=min k n:=by
 show(if (k:Int)<0 then ((k:Int)+(n:Int)).toNat else min (k:Int).toNat n)=min k n
 rw[if_neg (by omega),YcH]
theorem jll (n d:Nat)(hd:d<=n)(o:Option Int):sIx n d o<=n:=by
 cases o with
 |none=>exact hd
 |some v=>
  show(if v<0 then (v+(n:Int)).toNat else min v.toNat n)<=n
  by_cases hv:v<0
  ·rw[if_pos hv];omega
  ·rw[if_neg hv];exact Nat.min_le_right _ _
theorem jhl (v:Int)(n d:Nat):(if v<0 then max (v+(n:Int)) 0 else min v (n:Int))=((sIx n d (some v):Nat):Int):=by
 show(if v<0 then max (v+(n:Int)) 0 else min v (n:Int))=(((if v<0 then (v+(n:Int)).toNat else min v.toNat n):Nat):Int)
 by_cases hv:v<0
 ·simp only[if_pos hv];omega
 ·simp only[if_neg hv];omega
theorem jf7 (lo hi:Option Int)(n:Nat):Ybj lo hi 1 (n:Int)=(((sIx n 0 lo:Nat):Int),((sIx n n hi:Nat):Int)):=by
 have h1:¬((1:Int)<0):=by omega
 unfold Ybj;simp only[h1,if_false];refine Yc6 ?_ ?_
 ·cases lo with
  |none=>rfl
  |some v=>exact jhl v n 0
 ·cases hi with
  |none=>rfl
  |some v=>exact jhl v n n
theorem jfS (i j:Nat):YaT (i:Int) (j:Int) 1=j-i:=by
 unfold YaT;have h1:(1:Int)>0:=by omega
 simp only[h1,if_true,YeT];split<;>omega
theorem jaW {v:Value}{o:Option Int}{Q:Option Int->Shared->Prop}(p:IsPart v o)(h:Q o s):wpAny (model prog w) A (Builtin.Slice.slicePartIndex v) Q E s:=by
 cases p with
 |none=>exact slicePart_none h
 |int i t=>exact slicePart_int h
theorem jbd {sl:Addr}{vl vu:Value}{lo hi:Option Int}{n:Nat}{Q:Int×Int×Nat->Shared->Prop}(hs:s.heap.IsSliceOf sl vl vu .none)(pl:IsPart vl lo)(pu:IsPart vu hi)
  (h:Q (((sIx n 0 lo:Nat):Int),1,sIx n n hi-sIx n 0 lo) s):wpAny (model prog w) A (YbF (.ref sl) (pure (n:Int))) Q E s:=by
 obtain⟨os,hos,hcs,hds⟩:=id hs;unfold YbF Ydm;refine Yad (Yad (Ybi hos hds (x:=vl) rfl (Yad (Ybi hos hds (x:=vu) rfl (Yad (Ybi hos hds (x:=.none) rfl (Yap ?_)))))));refine Yad (slicePart_none ?_);show wpAny _ _ (if ((1:Int)==0)=true then _ else _) _ _ s
 rw[if_neg (by decide)]
 refine Yad (jaW pl (Yad (jaW pu (Yad (Yap ?_)))));show wpAny _ _ (match Ybj lo hi 1 (n:Int)with|(lo,hi)=>pure (lo,(1:Int),YaT lo hi 1)) _ _ s
 rw[jf7 lo hi n];show wpAny _ _ (pure (((sIx n 0 lo:Nat):Int),(1:Int),YaT ((sIx n 0 lo:Nat):Int) ((sIx n n hi:Nat):Int) 1)) _ _ s;rw[jfS];exact Yap h
theorem jhQ (xs:Array Value)(i k:Nat):((YaW k).filterMap λ(m:Nat)=>xs[((i:Int)+(m:Int)*1).toNat]?).toArray=((xs.toList.drop i).take k).toArray:=by
 have e:(λ(m:Nat)=>xs[((i:Int)+(m:Int)*1).toNat]?)=λm=>xs[i+m]?:=by
  funext m;have:((i:Int)+(m:Int)*1).toNat=i+m:=by omega
  rw[this]
 rw[e];have:=pick_run xs i k;rw[Yfk]at this;have e2:((λx=>xs[x]?) ∘ λx=>i+x)=λm=>xs[i+m]?:=rfl;rw[e2]at this;rw[this]

theorem getItem_tuple_cut {t sl:Addr}{items:Array Value}{vl vu:Value}{lo hi:Option Int}{Q:Value->Shared->Prop}(ht:IsTup s.heap t items)(hs:s.heap.IsSliceOf sl vl vu .none)(pl:IsPart vl lo)(pu:IsPart vu hi)
  (hw:¬(sIx items.size 0 lo=0/\sIx items.size items.size hi=items.size))
  (h:Q (.ref s.heap.objs.size) { s with heap:=s.heap.push { cls:=.type "tuple",data:=.seq ((items.toList.drop (sIx items.size 0 lo)).take (sIx items.size items.size hi-sIx items.size 0 lo)).toArray } })
  (hsz:items.size<=Yai):wpAny (model prog w) A (getItem (.ref t) (.ref sl)) Q E s:=by
 have htake:sizeOk (.seq ((items.toList.drop (sIx items.size 0 lo)).take (sIx items.size items.size hi-sIx items.size 0 lo)).toArray):=by
  show((items.toList.drop (sIx items.size 0 lo)).take (sIx items.size items.size hi-sIx items.size 0 lo)).toArray.size<=Yai;rw[Yah,Ybn,YdG,Ybz];omega
 have hj:sIx items.size items.size hi<=items.size:=jll _ _ (Yag _) hi;obtain⟨os,hos,hcs,hds⟩:=id hs;have hTs:s.TypeIs (.ref sl) "slice" := ⟨os,hos,hcs⟩;unfold getItem
 try with_reducible refine Ya8 ?_
 first|refine Yad (Yap ?_)|skip
 refine Yad (Yd4 ht.typeIs (by decide) ?_)
 refine Yad (YbG (name:=YbA "__getitem__") ht.typeIs YaZ
  (Yb3 YaZ ht.typeIs Ydu ?_ (YdO _ _)))
 show wpAny _ _ (Ycd (.ref t) >>= _) _ _ s;refine Yad (Ye7 ht ?_);refine Yad (Yee hTs ?_);rw[if_pos (by decide)]
 refine Yad (jbd hs pl pu ?_);have hno:¬((((sIx items.size 0 lo:Nat):Int)==0&&(1:Int)==1&&(sIx items.size items.size hi-sIx items.size 0 lo)==items.size)=true):=by
  intro q;rw[Yaz,Yaz]at q;have q1:((sIx items.size 0 lo:Nat):Int)=0:=eq_of_beq q.1.1;have q2:sIx items.size items.size hi-sIx items.size 0 lo=items.size:=eq_of_beq q.2;exact hw ⟨by omega,by omega⟩
 show wpAny _ _ (if (((sIx items.size 0 lo:Nat):Int)==0&&(1:Int)==1&&(sIx items.size items.size hi-sIx items.size 0 lo)==items.size)=true then _ else _) _ _ s
 rw[if_neg hno,jhQ]
 first
  |exact Yad (m:=YaV _) (Ya3 (Yap ⟨_,rfl,Yap h⟩) htake)
  |exact Yad (m:=YaV _) (Ya3 (Yad (Yap (Yap ⟨_,rfl,Yap h⟩))) htake)
  |exact Yad (Yad (m:=YaV _) (Ya3 (Yap (Yap ⟨_,rfl,Yap h⟩)) htake))
  |exact Yad (Yad (m:=YaV _) (Ya3 (Yap ⟨_,rfl,Yap h⟩) htake))
end
end HT

namespace L2
open PySem PySem.Spec PyProof.Rows

abbrev TO:=St->Hp->(Option Int->Hp->Prop)->Prop
def PO (X:Cx)(e:Option Expr)(t:TO):Prop:=
 ∀(pins:List (Addr×Obj)) (s:Shared) (σ:St) (H:Hp) (Q:Option Int->Hp->Prop),Inv X pins σ H s->t σ H Q->
  wpAny (model X.prog X.w) X.A (evalPart e X.env) (λu s'=>∃o H',Inv X pins σ H' s'/\IsPart u o/\Q o H') X.xe s
def jjc:TO:=λ_ H Q=>Q none H
def jnR (t:TE):TO:=λσ H Q=>t σ H λx H1=>∃i,x=.int i/\Q (some i) H1

section
variable {X:Cx}{e:Expr}{te:TE}{lo hi:Option Expr}{tl th:TO}{pos p2:Pos}

theorem jjy:PO X none jjc:=by
 intro pins s σ H Q I h;rw[Yfa];exact Yap ⟨none,H,I,.none,h⟩
theorem jjx (h:PE X e te):PO X (some e) (jnR te):=by
 intro pins s σ H Q I hw;rw[evalPart_some];refine thn (h pins s σ H _ I hw) λu s1 ⟨x,H1,I1,r1,q1⟩=>?_;obtain⟨i,rfl,q⟩:=q1;obtain⟨t,rfl⟩:=r1;exact⟨some i,H1,I1,.int i t,q⟩

def SlR (X:Cx)(r:V->Option Int->Option Int->Hp->VK->Prop):Prop:=
 ∀(pins:List (Addr×Obj)) (s:Shared) (σ:St) (H:Hp) (x:V) (v vl vu:Value) (lo hi:Option Int) (sl:Addr) (Q:VK),Inv X pins σ H s->RelV x v->s.heap.IsSliceOf sl vl vu .none->IsPart vl lo->IsPart vu hi->r x lo hi H Q->
  ∃T id,typeLookup (.type T) "__getitem__" = pure (some (.builtin id))/\s.TypeIs v T/\wpAny (model X.prog X.w) X.A (getItem v (.ref sl)) (EP X pins σ Q) X.xe s
theorem SlR.or {r r':V->Option Int->Option Int->Hp->VK->Prop}(h:SlR X r)(h':SlR X r'):SlR X (λx lo hi H Q=>r x lo hi H Q\/r' x lo hi H Q):=by
 intro pins s σ H x v vl vu lo hi sl Q I rx hs pl pu q;rcases q with q|q
 ·exact h pins s σ H x v vl vu lo hi sl Q I rx hs pl pu q
 ·exact h' pins s σ H x v vl vu lo hi sl Q I rx hs pl pu q
def tSl (r:V->Option Int->Option Int->Hp->VK->Prop)(te:TE)(tl th:TO):TE:=λσ H Q=>te σ H λx H1=>tl σ H1 λl H2=>th σ H2 λu H3=>r x l u H3 Q
theorem jhT {r:V->Option Int->Option Int->Hp->VK->Prop}(hr:SlR X r)(he:PE X e te)(hl:PO X lo tl)(hu:PO X hi th):PE X (.Subscript e (.Slice lo hi none p2) pos) (tSl r te tl th):=by
 intro pins s σ H Q I h;refine Subscript_ (thn (he pins s σ H _ I h) λv s1 ⟨x,H1,I1,r1,q1⟩=>?_);refine wpAny_Slice (thn (hl pins s1 σ H1 _ I1 q1) λvl s2 ⟨l,H2,I2,pl,q2⟩=>thn (hu pins s2 σ H2 _ I2 q2) λvu s3 ⟨u,H3,I3,pu,q3⟩=>?_);rw[Yfa];refine Yap ?_;have I4:Inv X pins σ H3 { s3 with heap:=s3.heap.push { cls:=.type "slice",data:=.fields #[vl,vu,.none] } }:=I3.kept (t':=s3.toks) λb ob q=>Yab _ q
 obtain⟨T,id,hT,ht,hg⟩:=hr pins { s3 with heap:=s3.heap.push { cls:=.type "slice",data:=.fields #[vl,vu,.none] } } σ H3 x v vl vu l u s3.heap.objs.size Q I4 r1 (Heap.IsSliceOf.new ..) pl pu q3;show wpAny (model X.prog X.w) X.A (YdJ e (.Slice lo hi none p2) v (.ref s3.heap.objs.size)) (EP X pins σ Q) X.xe { s3 with heap:=s3.heap.push { cls:=.type "slice",data:=.fields #[vl,vu,.none] } }
 exact tail_any (ops:=[.ref s3.heap.objs.size,v]) ht hT hg (by with_unfolding_all rfl)

noncomputable def cutV (xs:List V)(lo hi:Option Int):List V:=(xs.drop (HT.sIx xs.length 0 lo)).take (HT.sIx xs.length xs.length hi-HT.sIx xs.length 0 lo)
theorem jdi (xs:List V)(lo hi:Option Int):(cutV xs lo hi).length<=xs.length:=by
 unfold cutV;rw[Ybn,YdG];omega
def rSlT (K:Yac):V->Option Int->Option Int->Hp->VK->Prop:=λx lo hi H Q=>∃a xs,x=.ref a/\SqT K H a xs/\
 ¬(HT.sIx xs.length 0 lo=0/\HT.sIx xs.length xs.length hi=xs.length)/\∀p,H p=none->Q (.ref p) (upd H p (.tup (cutV xs lo hi)))
theorem jlb:SlR X (rSlT X.K):=by
 intro pins s σ H x v vl vu lo hi sl Q I rx hs pl pu h;obtain⟨a,xs,rfl,hx,hw,q⟩:=h;cases rx;obtain⟨its,r,ht,hz⟩:=I.tuple hx;have hlen:its.toArray.size=xs.length:=by rw[Yah];exact r.length.symm
 refine⟨"tuple",_,YaZ.lookup,ht.typeIs,?_⟩;refine HT.getItem_tuple_cut ht hs pl pu (by rw[hlen];exact hw) ?_ (by rw[hlen];exact hz)
 rw[hlen];refine⟨.ref s.heap.objs.size,_,I.laid (t':=s.toks) (o:=.tup (cutV xs lo hi)) (λb ob q=>Yab _ q) (Yag _) ?_,rfl,q _ (I.hok.fresh (Yag _))⟩;exact⟨Yan (jdi xs lo hi) hz,_,(r.drop (HT.sIx xs.length 0 lo)).take (HT.sIx xs.length xs.length hi-HT.sIx xs.length 0 lo),TupD.new _ _⟩

def job (K:Yac):R2:=λx y H Q=>∃a b xs ys,x=.ref a/\y=.ref b/\SqT K H a xs/\SqT K H b ys/\xs≠[]/\xs.length+ys.length<=Yai/\
 (ys=[]->Q (.ref a) H)/\(ys≠[]->∀p,H p=none->Q (.ref p) (upd H p (.tup (xs++ys))))
theorem Vals.nil_iff {xs:List V}{us:List Value}(r:Vals xs us):us=[]↔xs=[]:=by
 cases r with
 |nil=>simp
 |cons _ _=>simp
theorem jjQ:OpR X (Yba .Add) (job X.K):=by
 intro pins s σ H x y v u Q I rx ry h;obtain⟨a,b,xs,ys,rfl,rfl,ha,hb,hx,hz,q1,q2⟩:=h;cases rx;cases ry;obtain⟨its,r1,p1,_⟩:=I.tuple ha;obtain⟨its2,r2,p2,_⟩:=I.tuple hb;refine HT.cat_tup p1 p2 (λz=>hx (r1.nil_iff.mp z)) (λz=>⟨.ref a,H,I,rfl,q1 (r2.nil_iff.mp z)⟩) (λz=>?_) (by rw[<- r1.length,<- r2.length];exact hz)
 refine⟨.ref s.heap.objs.size,_,I.laid (t':=s.toks) (o:=.tup (xs++ys)) (λb ob q=>Yab _ q) (Yag _) ?_,rfl,q2 (λw=>z (r2.nil_iff.mpr w)) _ (I.hok.fresh (Yag _))⟩;exact⟨by rw[YaJ];exact hz,_,r1.append r2,TupD.new _ _⟩
end

noncomputable def ixN (n:Nat)(i:Int):Option Nat:=if 0<=i then (if i<n then some i.toNat else none) else if -(n:Int)<=i then some (i+n).toNat else none
noncomputable def atI {α:Type}(xs:List α)(i:Int):Option α:=(ixN xs.length i).bind λj=>xs[j]?
theorem jgV {n:Nat}{i:Int}{j:Nat}(h:ixN n i=some j):YfF i n=some j/\j<n/\-(n:Int)<=i/\i<n:=by
 unfold ixN at h;by_cases h0:0<=i
 ·rw[if_pos h0]at h;by_cases h1:i<n
  ·rw[if_pos h1]at h;have e:i.toNat=j:=Yar h;exact⟨by rw[seqIndex_of h0 h1,e],by omega,by omega,h1⟩
  ·rw[if_neg h1]at h;cases h
 ·rw[if_neg h0]at h;by_cases h1:-(n:Int)<=i
  ·rw[if_pos h1]at h;have e:(i+n).toNat=j:=Yar h;exact⟨by rw[YfE (by omega) h1,e],by omega,h1,by omega⟩
  ·rw[if_neg h1]at h;cases h
theorem jfe {α:Type}{xs:List α}{i:Int}{v:α}(h:atI xs i=some v):∃j,YfF i xs.length=some j/\xs[j]?=some v/\j<xs.length/\-(xs.length:Int)<=i/\i<xs.length:=by
 unfold atI at h;cases e:ixN xs.length i with
 |none=>rw[e]at h;cases h
 |some j=>
  rw[e]at h;obtain⟨h1,h2,h3,h4⟩:=jgV e;exact⟨j,h1,h,h2,h3,h4⟩
theorem jdj {α:Type}{xs:List α}{j:Nat}{v:α}(h:xs[j]?=some v):atI xs (j:Int)=some v:=by
 have hj:j<xs.length:=(List.getElem?_eq_some_iff.mp h).1;have e:ixN xs.length (j:Int)=some j:=by
  unfold ixN;rw[if_pos (by omega),if_pos (by omega)];simp
 unfold atI;rw[e];exact h
def jfg (b:Expr):Prop:=∀o i,subscripted b false o i=operate [o,i] (getItem o i)
def IxR (X:Cx)(r:R2):Prop:=
 ∀(value slice:Expr) (pins:List (Addr×Obj)) (s:Shared) (σ:St) (H:Hp) (x y:V) (v u:Value) (Q:VK),Inv X pins σ H s->RelV x v->RelV y u->r x y H Q->
  subscripted slice false v u=operate [v,u] (getItem v u)->wpAny (model X.prog X.w) X.A (YdJ value slice v u) (EP X pins σ Q) X.xe s
def MtR (X:Cx)(id:String)(r:V->List V->Hp->VK->Prop):Prop:=
 ∀(pins:List (Addr×Obj)) (s:Shared) (σ:St) (H:Hp) (x:V) (xs:List V) (v:Value) (us:List Value) (Q:VK),Inv X pins σ H s->RelV x v->Vals xs us->r x xs H Q->
  wpAny (model X.prog X.w) X.A (call (.builtin id) (v::us)) (EP X pins σ Q) X.xe s
section
variable {X:Cx}{a b:Expr}{ta tb:TE}{pos:Pos}
theorem IxR.or {r r':R2}(h:IxR X r)(h':IxR X r'):IxR X (λx y H Q=>r x y H Q\/r' x y H Q):=by
 intro value slice pins s σ H x y v u Q I rx ry q hs;rcases q with q|q
 ·exact h value slice pins s σ H x y v u Q I rx ry q hs
 ·exact h' value slice pins s σ H x y v u Q I rx ry q hs
theorem MtR.or {id:String}{r r':V->List V->Hp->VK->Prop}(h:MtR X id r)(h':MtR X id r'):MtR X id (λx xs H Q=>r x xs H Q\/r' x xs H Q):=by
 intro pins s σ H x xs v us Q I rx rs q;rcases q with q|q
 ·exact h pins s σ H x xs v us Q I rx rs q
 ·exact h' pins s σ H x xs v us Q I rx rs q
theorem jol {r:R2}(hr:IxR X r)(ha:PE X a ta)(hb:PE X b tb)(hs:jfg b):PE X (.Subscript a b pos) (tOp r ta tb):=by
 intro pins s σ H Q I h;exact Subscript_ (binT ha hb I h λv u s2 x y H2 I2 rx ry q=>hr a b pins s2 σ H2 x y v u Q I2 rx ry q (hs _ _))

def rIxL (K:Yac):R2:=λx y H Q=>∃p xs i v,x=.ref p/\y=.int i/\SqL K H p xs/\atI xs i=some v/\Q v H
def rIxT (K:Yac):R2:=λx y H Q=>∃p xs i v,x=.ref p/\y=.int i/\SqT K H p xs/\atI xs i=some v/\Q v H
def rIxS:R2:=λx y H Q=>∃z i c,x=.str z/\y=.int i/\z.length<=Yai/\atI z.cps.toList i=some c/\Q (.str ⟨#[c]⟩) H
theorem jkj:IxR X (rIxL X.K):=by
 intro value slice pins s σ H x y v u Q I rx ry h hs;obtain⟨p,xs,i,z,rfl,rfl,hq,he,q⟩:=h;cases rx;obtain⟨t,rfl⟩:=ry;obtain⟨its,r,pl,hz⟩:=I.list hq;obtain⟨j,h1,h2,h3,h4,h5⟩:=jfe he;obtain⟨w,ew,rw'⟩:=r.get h2;have hl:=r.length;have hn:=jc5;have fin:EP X pins σ Q w s:=⟨z,H,I,rw',q⟩;by_cases h0:0<=i
 ·have hj:i.toNat=j:=by
   rw[seqIndex_of h0 h5]at h1;exact Yar h1
  exact item_listR pl.isList h0 (by omega) (by rw[hj];simpa using ew) fin hs
 ·have hj:(i+(its.toArray.size:Int)).toNat=j:=by
   rw[YfE (by omega) h4]at h1
   rw[Yah,<- hl];exact Yar h1
  exact Yfr (x:=w) pl.isList.typeIs slot_list_getitem.lookup
   (wpAny_getItem_list_neg (Q:=λr s'=>r=w/\EP X pins σ Q r s') pl.isList (by omega) (by rw[Yah]<;>omega) (by omega) (by rw[hj];simpa using ew) ⟨rfl,fin⟩) hs
theorem jmt:IxR X (rIxT X.K):=by
 intro value slice pins s σ H x y v u Q I rx ry h hs;obtain⟨p,xs,i,z,rfl,rfl,hq,he,q⟩:=h;cases rx;obtain⟨t,rfl⟩:=ry;obtain⟨its,r,pl,hz⟩:=I.tuple hq;obtain⟨j,h1,h2,h3,h4,h5⟩:=jfe he;obtain⟨w,ew,rw'⟩:=r.get h2;have hl:=r.length;have hn:=jc5;have fin:EP X pins σ Q w s:=⟨z,H,I,rw',q⟩;exact Yfr (x:=w) pl.typeIs slot_tuple_getitem.lookup
  (getItem_tuple (j:=j) (Q:=λr s'=>r=w/\EP X pins σ Q r s') pl (by omega) (by omega) (by rw[Yah,<- hl];exact h1) (by simpa using ew) ⟨rfl,fin⟩) hs
theorem jmu:IxR X rIxS:=by
 intro value slice pins s σ H x y v u Q I rx ry h hs;obtain⟨z,i,c,rfl,rfl,hz,he,q⟩:=h;obtain⟨t,rfl⟩:=rx;obtain⟨t',rfl⟩:=ry;obtain⟨j,h1,h2,h3,h4,h5⟩:=jfe he;have hl:z.cps.toList.length=z.length:=by simp[Str.length]
 rw[hl]at h1 h4 h5;have hn:=jc5;exact tail_any (Yd6 s z t) slot_str_getitem.lookup (getItem_str (c:=c) (by
  have e1:decide (i < -(2 ^ 63:Int))=false:=decide_eq_false (by omega)
  have e2:decide (i ≥ 2 ^ 63)=false:=decide_eq_false (by omega)
  rw[e1,e2,Bool.or_false]) (by rw[h1];simpa using h2) ⟨.str ⟨#[c]⟩,H,I.tok _,⟨_,rfl⟩,q⟩) hs
def rIx (K:Yac):R2:=λx y H Q=>rIxL K x y H Q\/rIxT K x y H Q\/rIxS x y H Q
theorem jmv:IxR X (rIx X.K):=jkj.or (jmt.or jmu)

theorem jfZ (its:List Value)(n j:Nat)(u:Value):Ycg (·.setIfInBounds j u) { cls:=.type "list",data:=.seq its.toArray n }={ cls:=.type "list",data:=.seq (its.set j u).toArray n }:=by
 simp[Ycg]
section
variable {pins:List (Addr×Obj)}{σ:St}{H:Hp}{s:Shared}{p:Addr}
theorem Inv.lst {xs:List V}(I:Inv X pins σ H s)(h:H p=some (.lst xs)) :
  ∃(its:List Value) (n:Nat),Vals xs its/\s.heap.get? p=some { cls:=.type "list",data:=.seq its.toArray n }/\xs.length<=Yai:=by
 obtain⟨z,its,n,r,e⟩:=I.hok p _ h;exact⟨its,n,r,e,z⟩
theorem Inv.lstUpd {xs ys:List V}{its its':List Value}{n n':Nat}{f:Obj->Obj}(I:Inv X pins σ H s)(h:H p=some (.lst xs))
  (ho:s.heap.get? p=some { cls:=.type "list",data:=.seq its.toArray n }) (hf:f { cls:=.type "list",data:=.seq its.toArray n }={ cls:=.type "list",data:=.seq its'.toArray n' }) (r:Vals ys its') (hz:ys.length<=Yai) (t:Nat) :
  Inv X pins σ (upd H p (.lst ys)) { s with heap:=s.heap.update p f,toks:=t }:=by
 have e:(s.heap.update p f).get? p=some { cls:=.type "list",data:=.seq its'.toArray n' }:=by
  rw[Yc3 f ho (by rw[hf]<;>rfl),hf]
 refine I.write (x:=p) (e:=p) (by rw[h];trivial) (.inl rfl) (λb u hb q=>(YcU _ _ (Ne.symm hb)).trans q) ⟨_,e⟩ ?_
 exact⟨hz,its',n',r,e⟩
end
def jlp:V->V->V->Hp->(Hp->Prop)->Prop:=λo i v H Q=>∃p xs k j,o=.ref p/\i=.int k/\H p=some (.lst xs)/\ixN xs.length k=some j/\Q (upd H p (.lst (xs.set j v)))
theorem jhz:PSet X jlp:=by
 intro pins s σ H o i v ov iv u Q I ro ri rv h;obtain⟨p,xs,k,j,rfl,rfl,hp,hj,q⟩:=h;cases ro;obtain⟨t,rfl⟩:=ri;obtain⟨its,n,r,ho,hz⟩:=I.lst hp;obtain⟨h1,h2,h3,h4⟩:=jgV hj;have hl:=r.length;have hn:=jc5;have I':Inv X pins σ (upd H p (.lst (xs.set j v))) { s with heap:=s.heap.update p (Ycg (·.setIfInBounds j u)) }:=
  I.lstUpd hp ho (jfZ its n j u) (r.set rv j) (by rw[List.length_set];exact hz) s.toks
 by_cases h0:0<=k
 ·have hk:k.toNat=j:=by
   rw[seqIndex_of h0 h4]at h1;exact Yar h1
  exact PySem.W.ki_setAt ho h0 (by omega) (by rw[Yah,<- hl];exact h4) (by rw[hk];exact⟨_,I',q⟩)
 ·have hk:(k+(its.toArray.size:Int)).toNat=j:=by
   rw[YfE (by omega) h3]at h1
   rw[Yah,<- hl];exact Yar h1
  exact PySem.W.ki_setBack ho (by omega) (by rw[Yah,<- hl];exact h3) (by omega) (by rw[hk];exact⟨_,I',q⟩)

theorem jeh (lo hi:Option Int)(n:Nat):(Yb4 lo hi none n).1=((HT.sIx n 0 lo:Nat):Int)/\(Yb4 lo hi none n).2.1=((HT.sIx n n hi:Nat):Int)/\(Yb4 lo hi none n).2.2=1:=by
 refine⟨?_,?_,rfl⟩
 ·cases lo with
  |none=>simp[Yb4,HT.sIx]
  |some i=>
   simp only[Yb4,HT.sIx,Yff,show(1:Int)>0 by decide,if_true]
   by_cases h:i<0
   ·simp only[h,if_true]<;>omega
   ·simp only[h,if_false]<;>omega
 ·cases hi with
  |none=>simp[Yb4,HT.sIx]
  |some i=>
   simp only[Yb4,HT.sIx,Yff,show(1:Int)>0 by decide,if_true]
   by_cases h:i<0
   ·simp only[h,if_true]<;>omega
   ·simp only[h,if_false]<;>omega
theorem jdS (its:List Value)(lo hi:Option Int):YdK its.toArray lo hi none=((its.drop (HT.sIx its.length 0 lo)).take (HT.sIx its.length its.length hi-HT.sIx its.length 0 lo)).toArray:=by
 obtain⟨h1,h2,h3⟩:=jeh lo hi its.toArray.size;unfold YdK;rw[h1,h2,h3];simp only[sliceRange_one,pick_run,Yah]<;>rfl
def rSlL (K:Yac):V->Option Int->Option Int->Hp->VK->Prop:=λx lo hi H Q=>∃a xs,x=.ref a/\SqL K H a xs/\∀p,H p=none->Q (.ref p) (upd H p (.lst (cutV xs lo hi)))
theorem jji:SlR X (rSlL X.K):=by
 intro pins s σ H x v vl vu lo hi sl Q I rx hs pl pu h;obtain⟨a,xs,rfl,hx,q⟩:=h;cases rx;obtain⟨its,r,ht,hz⟩:=I.list hx;have hlen:=r.length;refine⟨"list",_,slot_list_getitem.lookup,ht.isList.typeIs,?_⟩;refine YcW ht.isList hs pl pu .none (by simp) ?_ (by rw[Yah]<;>omega)
 rw[jdS,<- hlen];refine⟨.ref s.heap.objs.size,_,I.laid (t':=s.toks) (o:=.lst (cutV xs lo hi)) (λb ob q=>Yab _ q) (Yag _) ?_,rfl,q _ (I.hok.fresh (Yag _))⟩;exact⟨Yan (jdi xs lo hi) hz,_,0,(r.drop (HT.sIx xs.length 0 lo)).take (HT.sIx xs.length xs.length hi-HT.sIx xs.length 0 lo),Yaq _ rfl⟩

noncomputable def jcF:V->Bool
 |.non=>true
 |.bl _=>true
 |.int _=>true
 |.str _=>true
 |_=>false
noncomputable def eqV:V->V->Bool
 |.non,.non=>true
 |.bl a,.bl b=>a==b
 |.bl a,.int b=>(if a then 1 else 0)==b
 |.int a,.bl b=>a==(if b then 1 else 0)
 |.int a,.int b=>a==b
 |.str a,.str b=>a==b
 |_,_=>false
theorem jmG {A:Around}{s:Shared}{y x:V}{u v:Value}(ry:RelV y u)(rx:RelV x v)(fy:jcF y=true)(fx:jcF x=true):Yeg A s u v (eqV y x):=by
 cases y with
 |non=>
  cases ry;cases x with
  |non=>cases rx;exact Yeg.same _
  |bl b=>cases rx;exact Yeg.none_bool b
  |int b=>obtain⟨t,rfl⟩:=rx;exact Yeg.none_int b t
  |str b=>obtain⟨t,rfl⟩:=rx;exact Yeg.none_str b t
  |_=>exact absurd (show false=true from fx) Yam
 |bl a=>
  cases ry;cases x with
  |non=>cases rx;exact Yeg.bool_none a
  |bl b=>cases rx;exact Yeg.bool_bool a b
  |int b=>obtain⟨t,rfl⟩:=rx;exact Yeg.bool_int a b t
  |str b=>obtain⟨t,rfl⟩:=rx;exact Yeg.bool_str a b t
  |_=>exact absurd (show false=true from fx) Yam
 |int a=>
  obtain⟨t',rfl⟩:=ry;cases x with
  |non=>cases rx;exact Yeg.int_none a t'
  |bl b=>cases rx;exact Yeg.int_bool a t' b
  |int b=>obtain⟨t,rfl⟩:=rx;exact Yem a t' b t
  |str b=>obtain⟨t,rfl⟩:=rx;exact Yel a t' b t
  |_=>exact absurd (show false=true from fx) Yam
 |str a=>
  obtain⟨t',rfl⟩:=ry;cases x with
  |non=>cases rx;exact Yeg.str_none a t'
  |bl b=>cases rx;exact Yeg.str_bool a t' b
  |int b=>obtain⟨t,rfl⟩:=rx;exact Yek a t' b t
  |str b=>obtain⟨t,rfl⟩:=rx;exact Yeg.str_str a t' b t
  |_=>exact absurd (show false=true from fx) Yam
 |_=>exact absurd (show false=true from fy) Yam
noncomputable def eqU (x:V)(u:Value):Bool:=match u with
 |.none=>eqV .non x
 |.bool b=>eqV (.bl b) x
 |.int i _=>eqV (.int i) x
 |.str z _=>eqV (.str z) x
 |_=>false
theorem jiS {x y:V}{u:Value}(r:RelV y u)(f:jcF y=true):eqU x u=eqV y x:=by
 cases y with
 |non=>cases r;rfl
 |bl b=>cases r;rfl
 |int i=>obtain⟨t,rfl⟩:=r;rfl
 |str z=>obtain⟨t,rfl⟩:=r;rfl
 |_=>exact absurd (show false=true from f) Yam
theorem jdl {x:V}:∀{xs:List V} {us:List Value},Vals xs us->xs.all jcF=true->us.any (eqU x)=xs.any λy=>eqV y x
 |_,_,.nil,_=>rfl
 |y::xs,u::us,.cons r t,f=>by
  rw[YcP,Yaz]at f;rw[Ybp,Ybp,jiS r f.1,jdl t f.2]
theorem jbX {A:Around}{s:Shared}{x:V}{v:Value}(rx:RelV x v)(fx:jcF x=true):∀{xs:List V} {us:List Value},Vals xs us->xs.all jcF=true->∀u∈us,Yeg A s u v (eqU x u)
 |_,_,.nil,_=>λu hu=>by cases hu
 |y::xs,u::us,.cons r t,f=>λu' hu=>by
  rw[YcP,Yaz]at f;rcases YaL.mp hu with rfl|hu
  ·rw[jiS r f.1];exact jmG r rx f.1 fx
  ·exact jbX rx fx t f.2 u' hu
noncomputable def inV (x:V)(xs:List V):Bool:=xs.any λy=>eqV y x
def rIn (K:Yac)(neg:Bool):R2:=λx y H Q=>∃p xs,y=.ref p/\(SqL K H p xs\/SqT K H p xs)/\jcF x=true/\xs.all jcF=true/\Q (.bl (if neg then !inV x xs else inV x xs)) H
theorem jgB:OpR X (YaR .In) (rIn X.K false):=by
 intro pins s σ H x y v u Q I rx ry h;obtain⟨p,xs,rfl,hq,fx,fs,q⟩:=h;cases ry;rcases hq with hq|hq
 ·obtain⟨its,r,pl,hz⟩:=I.list hq;refine YfK (eqU x) pl.isList (λw hw=>jbX rx fx r fs w (by simpa using hw)) ⟨.bl _,H,I,rfl,?_⟩
  rw[show its.toArray.any (eqU x)=its.any (eqU x) by simp,jdl r fs]
  exact q
 ·obtain⟨its,r,pl,hz⟩:=I.tuple hq;refine SeqAt.in_tupleAt (eqU x) pl (λw hw=>jbX rx fx r fs w (by simpa using hw)) ⟨.bl _,H,I,rfl,?_⟩
  rw[show its.toArray.any (eqU x)=its.any (eqU x) by simp,jdl r fs]
  exact q
theorem jen:OpR X (YaR .NotIn) (rIn X.K true):=by
 intro pins s σ H x y v u Q I rx ry h;obtain⟨p,xs,rfl,hq,fx,fs,q⟩:=h;cases ry;rcases hq with hq|hq
 ·obtain⟨its,r,pl,hz⟩:=I.list hq;refine YeW (eqU x) pl.isList (λw hw=>jbX rx fx r fs w (by simpa using hw)) ⟨.bl _,H,I,rfl,?_⟩
  rw[show its.toArray.any (eqU x)=its.any (eqU x) by simp,jdl r fs]
  exact q
 ·obtain⟨its,r,pl,hz⟩:=I.tuple hq;refine SeqAt.notIn_tupleAt (eqU x) pl (λw hw=>jbX rx fx r fs w (by simpa using hw)) ⟨.bl _,H,I,rfl,?_⟩
  rw[show its.toArray.any (eqU x)=its.any (eqU x) by simp,jdl r fs]
  exact q
theorem jaX.or {f:Value}{r r':List V->Hp->VK->Prop}(h:jaX X f r)(h':jaX X f r'):jaX X f (λxs H Q=>r xs H Q\/r' xs H Q):=by
 intro pins s σ H xs us Q I rs q;rcases q with q|q
 ·exact h pins s σ H xs us Q I rs q
 ·exact h' pins s σ H xs us Q I rs q
theorem jeG:jaX X (.type "list") (λxs H Q=>∃p ys,xs=[.ref p]/\(SqL X.K H p ys\/SqT X.K H p ys)/\∀l,H l=none->Q (.ref l) (upd H l (.lst ys))):=by
 intro pins s σ H xs us Q I r h;obtain⟨p,ys,rfl,hq,q⟩:=h;obtain⟨u,rfl,rx⟩:=jb9 r;cases rx;have fin:∀(its:List Value),Vals ys its->ys.length<=Yai->∀(h':Heap) (c':Nat),(∀b o',s.heap.get? b=some o'->h'.get? b=some o')->
   h'.get? s.heap.objs.size=some { cls:=.type "list",dict:=none,data:=.seq its.toArray c',slots:=#[] }->EP X pins σ Q (.ref s.heap.objs.size) { s with heap:=h' }:=λits r' hz h' c' kp e=>
  ⟨.ref s.heap.objs.size,_,I.laid (t':=s.toks) kp (Yag _) (show jay X.prog X.w _ h' _ (.lst ys)from⟨hz,its,c',r',e⟩),rfl,q _ (I.hok.fresh (Yag _))⟩
 rcases hq with hq|hq
 ·obtain⟨its,r',pl,hz⟩:=I.list hq;have hlen:=r'.length;obtain⟨o,ho,hc,n,hd⟩:=pl.isList;exact call_list_seq p (.inl rfl) ho hc hd (λh' c' kp e=>fin its r' hz h' c' kp e) (by simp only[Yah]<;>omega)
 ·obtain⟨its,r',pl,hz⟩:=I.tuple hq;have hlen:=r'.length;obtain⟨o,ho,hc,n,hd⟩:=pl;exact call_list_seq p (.inr rfl) ho hc hd (λh' c' kp e=>fin its r' hz h' c' kp e) (by simp only[Yah]<;>omega)
theorem jd7:jaX X (.type "tuple") (λxs H Q=>∃p ys,xs=[.ref p]/\((SqL X.K H p ys/\∀l,H l=none->Q (.ref l) (upd H l (.tup ys)))\/(SqT X.K H p ys/\Q (.ref p) H))):=by
 intro pins s σ H xs us Q I r h;obtain⟨p,ys,rfl,h⟩:=h;obtain⟨u,rfl,rx⟩:=jb9 r;cases rx;rcases h with⟨hq,q⟩|⟨hq,q⟩
 ·obtain⟨its,r',pl,hz⟩:=I.list hq;have hlen:=r'.length;refine call_tuple_list pl.isList (λh' kp=>?_) (by simp only[Yah]<;>omega)
  have I1:Inv X pins σ H { s with heap:=h' }:=I.kept (t':=s.toks) kp
  have I2:Inv X pins σ (upd H h'.objs.size (.tup ys)) { s with heap:=h'.push { cls:=.type "tuple",data:=.seq its.toArray } }:=
   I1.laid (t':=s.toks) (λb o e=>Yab _ e) (Yag _) (show jay X.prog X.w _ _ _ (.tup ys)from⟨hz,its,r',TupD.new _ _⟩)
  exact⟨.ref h'.objs.size,_,I2,rfl,q _ (I1.hok.fresh (Yag _))⟩
 ·obtain⟨its,r',pl,hz⟩:=I.tuple hq;exact call_tuple_same pl ⟨.ref p,H,I,rfl,q⟩

def tyV (K:Yac)(T:String)(x:V)(H:Hp):Prop:=match x with
 |.str _=>T = "str"
 |.int _=>T = "int"
 |.ref p=>(T = "list" /\ ∃xs,SqL K H p xs)\/(T = "tuple" /\ ∃o,K.lookup p=some o/\o.cls=.type "tuple" /\ o.dict=none)\/
   (T = "dict" /\ ((∃kvs,H p=some (.dK kvs))\/∃kvs,H p=some (.dT kvs)))\/(T = "set" /\ ∃S n,H p=some (.set S n))\/(T = "tuple" /\ ∃xs,H p=some (.tup xs))
 |_=>False
theorem jit {pins:List (Addr×Obj)}{σ:St}{H:Hp}{s:Shared}{T:String}{x:V}{v:Value}(I:Inv X pins σ H s)(r:RelV x v)(ty:tyV X.K T x H) :
  s.TypeIs v T/\∀a,v=.ref a->∃ob,s.heap.get? a=some ob/\ob.dict=none:=by
 cases x with
 |str z=>
  obtain⟨t,rfl⟩:=r;cases(show T = "str" from ty);exact⟨Yd6 s z t,λ_ e=>nomatch e⟩
 |int i=>
  obtain⟨t,rfl⟩:=r;cases(show T = "int" from ty);exact⟨Yd7 s i t,λ_ e=>nomatch e⟩
 |ref p=>
  cases r;rcases ty with⟨rfl,xs,hq⟩|⟨rfl,o,hk,hc,hd⟩|⟨rfl,hk⟩|⟨rfl,S,n,hk⟩|⟨rfl,xs,hk⟩
  ·obtain⟨its,_,pl,_⟩:=I.list hq;refine⟨pl.isList.typeIs,λa e=>?_⟩;cases e;obtain⟨o,n,e,c,hd,_⟩:=pl;exact⟨o,e,hd⟩
  ·refine⟨⟨o,I.kIn p o hk,hc⟩,λa e=>?_⟩;cases e;exact⟨o,I.kIn _ o hk,hd⟩
  ·have z:∃o,s.heap.get? p=some o/\o.ExactDict:=by
    rcases hk with⟨kvs,hk⟩|⟨kvs,hk⟩
    ·obtain⟨_,_,_,_,o,_,_,e,ex,_⟩:=I.hok p _ hk;exact⟨o,e,ex⟩
    ·obtain⟨_,_,_,_,o,_,_,e,ex,_⟩:=I.hok p _ hk;exact⟨o,e,ex⟩
   obtain⟨o,e,ex⟩:=z;refine⟨⟨o,e,ex.1⟩,λa e2=>?_⟩;cases e2;exact⟨o,e,ex.2.1⟩
  ·obtain⟨o,_,_,_,e,ex,_⟩:=I.hok p _ hk;refine⟨⟨o,e,ex.1⟩,λa e2=>?_⟩;cases e2;exact⟨o,e,ex.2.1⟩
  ·obtain⟨_,its,r,o,e,c,n,d,hd⟩:=(show jay X.prog X.w H s.heap p (.tup xs)from I.hok p _ hk);refine⟨⟨o,e,c⟩,λa e2=>?_⟩;cases e2;exact⟨o,e,hd⟩
 |_=>exact Yc4 ty
variable {o e:Expr}{es:List Expr}{to:TE}{t:TA}{name:Str}{apos cpos:Pos}{T id:String}{r:V->List V->Hp->VK->Prop}
end

def MtM (X:Cx)(id:String)(r:V->List V->Hp->VK->Prop):Prop:=
 ∀(pins:List (Addr×Obj)) (s:Shared) (σ:St) (H:Hp) (x:V) (xs:List V) (v:Value) (us:List Value) (Q:VK),Inv X pins σ H s->RelV x v->Vals xs us->r x xs H Q->
  wpAny (model X.prog X.w) X.A (call (.builtin id) (v::us)) (EP X pins σ Q) X.xe s

theorem Vals.one:∀{x:V} {us:List Value},Vals [x] us->∃u,us=[u]/\RelV x u
 |_,_,.cons r .nil=>⟨_,rfl,r⟩
theorem Vals.two:∀{x y:V} {us:List Value},Vals [x,y] us->∃u v,us=[u,v]/\RelV x u/\RelV y v
 |_,_,_,.cons r (.cons q .nil)=>⟨_,_,rfl,r,q⟩
theorem Vals.zero:∀{us:List Value},Vals [] us->us=[]
 |_,.nil=>rfl
theorem Vals.dropLast {xs:List V}{us:List Value}(h:Vals xs us):Vals xs.dropLast us.dropLast:=by
 induction h with
 |nil=>exact .nil
 |cons r t ih=>
  cases t with
  |nil=>exact .nil
  |cons q t'=>exact .cons r ih
theorem Vals.eraseIdx:∀{xs:List V} {us:List Value} (i:Nat),Vals xs us->Vals (xs.eraseIdx i) (us.eraseIdx i)
 |_,_,_,.nil=>.nil
 |_,_,0,.cons _ t=>t
 |_,_,i+1,.cons r t=>.cons r (Vals.eraseIdx i t)
theorem Vals.rep {xs:List V}{us:List Value}(h:Vals xs us):∀k:Nat,Vals (Yaf k xs).flatten (Yaf k us).flatten
 |0=>.nil
 |k+1=>by
  rw[YaU,YaU,Ybw,Ybw];exact Vals.append h (Vals.rep h k)
theorem jf2 {α:Type}(l:List α):l.eraseIdx (l.length-1)=l.dropLast:=by
 induction l with
 |nil=>rfl
 |cons a r ih=>
  cases r with
  |nil=>rfl
  |cons b r=>
   have e:(a::b::r).length-1=((b::r).length-1)+1:=by
    have h1:(a::b::r).length=r.length+2:=rfl;have h2:(b::r).length=r.length+1:=rfl;omega
   rw[e,List.eraseIdx_cons_succ,ih]
   all_goals rfl
theorem jer {α:Type}:∀(l:List α) (i:Nat),(l.eraseIdx i).length<=l.length
 |[],_=>Yag _
 |_::_,0=>Yeb _
 |_::r,i+1=>Nat.succ_le_succ (jer r i)
theorem jc8 (its:List Value):∀(k:Nat) (acc:List Value),
  Ydq (λx1 x2=>x1++x2) acc.toArray (Yaf k its.toArray)=(acc++(Yaf k its).flatten).toArray
 |0,acc=>by simp
 |k+1,acc=>by
  have e:acc.toArray++its.toArray=(acc++its).toArray:=by simp
  have e2:(acc++its)++(Yaf k its).flatten=acc++(Yaf (k+1) its).flatten:=by
   rw[YaU,Ybw,Yds]
  rw[<- e2,<- jc8 its k (acc++its),<- e,YaU,Yd2]

section
variable {X:Cx}{pins:List (Addr×Obj)}{σ:St}{H:Hp}{s:Shared}{l b:Addr}{xs ys zs:List V}

theorem Inv.lset {its its':List Value}{n:Nat}{f:Array Value->Array Value}{t':Nat}(I:Inv X pins σ H s)(hH:H l=some (.lst xs))
  (e:s.heap.get? l=some { cls:=.type "list",data:=.seq its.toArray n }) (hf:f its.toArray=its'.toArray) (hv:Vals ys its') (hz:ys.length<=Yai) :
  Inv X pins σ (upd H l (.lst ys)) { s with heap:=s.heap.update l (Ycg f),toks:=t' }:=by
 have q:=PySem.IsL.update e f;rw[hf]at q;refine I.write (x:=l) (e:=l) (by rw[hH];exact trivial) (.inl rfl) (λb' u hb hu=>(YcU s.heap (Ycg f) (Ne.symm hb)).trans hu) ⟨_,q⟩ ?_
 exact⟨hz,its',_,hv,q⟩
theorem Inv.lnew {its:List Value}{t':Nat}(I:Inv X pins σ H s)(hv:Vals ys its)(hz:ys.length<=Yai) :
  Inv X pins σ (upd H s.heap.objs.size (.lst ys)) { s with heap:=s.heap.push { cls:=.type "list",data:=.seq its.toArray },toks:=t' }:=
 I.laid (λ_ _ q=>Yab _ q) (Yag _) ⟨hz,its,0,hv,Yaq _ rfl⟩
theorem Inv.fresh (I:Inv X pins σ H s):H s.heap.objs.size=none:=I.hok.fresh (Yag _)
theorem Inv.lstM (I:Inv X pins σ H s)(hH:H l=some (.lst xs)):xs.length<=Yai/\∃(its:List Value) (n:Nat),Vals xs its/\xs.length=its.length/\s.heap.get? l=some { cls:=.type "list",data:=.seq its.toArray n }:=by
 obtain⟨z,its,n,r,e⟩:=I.hok l _ hH;exact⟨z,its,n,r,r.length,e⟩

theorem jfs {n:Nat}(h:n<=Yai):YbN n=false:=by
 unfold YbN;exact decide_eq_false (by omega)
end

section
variable {X:Cx}

def jjq:V->List V->Hp->VK->Prop:=λx vs H Q=>∃l xs y,x=.ref l/\vs=[y]/\H l=some (.lst xs)/\xs.length<Yai/\Q .non (upd H l (.lst (xs++[y])))
theorem jeq:MtM X "list.append" jjq:=by
 intro pins s σ H x vs v us Q I rx rv h;obtain⟨l,xs,y,rfl,rfl,hH,hz,q⟩:=h;cases rx;obtain⟨u,rfl,ru⟩:=rv.one;obtain⟨z,its,n,r,hl,e⟩:=I.lstM hH;refine Ybt F.slot_list_append ⟨_,e,rfl⟩ F.entry_list_append (F.args_list_append_2 _ _) (PySem.list_append l its.toArray n u (by rw[Yah];omega)) ⟨e,?_⟩
 refine⟨.non,_,I.lset (its':=its++[u]) hH e (by simp) (r.append (.cons ru .nil)) ?_,rfl,q⟩
 rw[YaJ,YeE];omega

def jjp:V->List V->Hp->VK->Prop:=λx vs H Q=>∃l b xs zs,x=.ref l/\vs=[.ref b]/\H l=some (.lst xs)/\H b=some (.lst zs)/\xs.length+zs.length<=Yai/\Q .non (upd H l (.lst (xs++zs)))
theorem jgO:MtM X "list.extend" jjp:=by
 intro pins s σ H x vs v us Q I rx rv h;obtain⟨l,b,xs,zs,rfl,rfl,hH,hB,hz,q⟩:=h;cases rx;obtain⟨u,rfl,ru⟩:=rv.one;cases ru;obtain⟨z,its,n,r,hl,e⟩:=I.lstM hH;obtain⟨z2,its2,n2,r2,hl2,e2⟩:=I.lstM hB;have hsz:its.toArray.size+its2.toArray.size<=Yai:=by rw[Yah,Yah];omega
 have hlong:¬(!its.toArray.isEmpty&&YbN (its.toArray.size+its2.toArray.size))=true:=by
  rw[jfs hsz,Bool.and_false];exact Yam
 refine Ybt F.slot_list_extend ⟨_,e,rfl⟩ F.entry_list_extend (F.args_list_extend_2 _ _)
  (AutoSeq1.list_extend_list_list_0 l its.toArray n b its2.toArray n2 hlong (by rw[Yah];omega) (by omega)) ⟨e,e2,?_⟩
 refine⟨.non,_,I.lset (its':=its++its2) hH e (by simp) (r.append r2) ?_,rfl,q⟩
 rw[YaJ];omega

def rPop:V->List V->Hp->VK->Prop:=λx vs H Q=>∃l xs y,x=.ref l/\vs=[]/\H l=some (.lst xs)/\xs[xs.length-1]?=some y/\Q y (upd H l (.lst xs.dropLast))
theorem mt_pop:MtM X "list.pop" rPop:=by
 intro pins s σ H x vs v us Q I rx rv h;obtain⟨l,xs,y,rfl,rfl,hH,hy,q⟩:=h;cases rx;have hus:=rv.zero;subst hus;obtain⟨z,its,n,r,hl,e⟩:=I.lstM hH;obtain⟨u,hu,ru⟩:=r.get hy;have hy':its.toArray[its.toArray.size-1]?=some u:=by
  show its.toArray[its.length-1]?=some u;rw[<- YbK,<- hl];exact hu
 refine Ybt F.slot_list_pop ⟨_,e,rfl⟩ F.entry_list_pop (F.args_list_pop_1 _) (MeetsSeq.list_pop_last l its.toArray n u hy' (by rw[Yah];omega)) ⟨e,?_⟩
 refine⟨y,_,I.lset (its':=its.dropLast) hH e ?_ r.dropLast ?_,ru,q⟩
 ·show its.toArray.eraseIdxIfInBounds (its.toArray.size-1)=its.dropLast.toArray;rw[Yah,Ydr,jf2]
 ·rw[List.length_dropLast];omega

def jlr:V->List V->Hp->VK->Prop:=λx vs H Q=>∃l xs i k y,x=.ref l/\vs=[.int i]/\H l=some (.lst xs)/\-(2 ^ 63)<=i/\i<2 ^ 63/\YfF i xs.length=some k/\xs[k]?=some y/\Q y (upd H l (.lst (xs.eraseIdx k)))
theorem jh7:MtM X "list.pop" jlr:=by
 intro pins s σ H x vs v us Q I rx rv h;obtain⟨l,xs,i,k,y,rfl,rfl,hH,h1,h2,hk,hy,q⟩:=h;cases rx;obtain⟨u,rfl,ru⟩:=rv.one;obtain⟨t,rfl⟩:=ru;obtain⟨z,its,n,r,hl,e⟩:=I.lstM hH;obtain⟨w,hw,rw'⟩:=r.get hy;refine Ybt F.slot_list_pop ⟨_,e,rfl⟩ F.entry_list_pop (F.args_list_pop_2 _ _)
  (MeetsSeq.list_pop_at l its.toArray n i t k w (fitsIndex_both h1 h2) (by rw[Yah,<- hl];exact hk) (by rw[<- YbK];exact hw) (by rw[Yah];omega)) ⟨e,?_⟩
 refine⟨y,_,I.lset (its':=its.eraseIdx k) hH e ?_ (r.eraseIdx k) ?_,rw',q⟩
 ·show its.toArray.eraseIdxIfInBounds k=(its.eraseIdx k).toArray;rw[Ydr]
 ·have:=jer xs k;omega

def rCat:R2:=λx y H Q=>∃l b xs zs,x=.ref l/\y=.ref b/\H l=some (.lst xs)/\H b=some (.lst zs)/\xs.length+zs.length<=Yai/\∀p,H p=none->Q (.ref p) (upd H p (.lst (xs++zs)))
theorem jl9:OpR X (Yba .Add) rCat:=by
 intro pins s σ H x y v u Q I rx ry h;obtain⟨l,b,xs,zs,rfl,rfl,hH,hB,hz,q⟩:=h;cases rx;cases ry;obtain⟨z,its,n,r,hl,e⟩:=I.lstM hH;obtain⟨z2,its2,n2,r2,hl2,e2⟩:=I.lstM hB;refine PySem.P.add_list e e2 ?_ (by rw[Yah,Yah];omega)
 have ea:its.toArray++its2.toArray=(its++its2).toArray:=by simp
 rw[ea];exact⟨.ref _,_,I.lnew (t':=s.toks) (r.append r2) (by rw[YaJ];omega),rfl,q _ I.fresh⟩
def rRep:R2:=λx y H Q=>∃l k xs,x=.ref l/\y=.int k/\H l=some (.lst xs)/\-(2 ^ 63)<=k/\k<2 ^ 63/\xs.length*k.toNat<=Yai/\
 ∀p,H p=none->Q (.ref p) (upd H p (.lst (Yaf k.toNat xs).flatten))
theorem je0 {α:Type}(xs:List α)(k:Nat):(Yaf k xs).flatten.length=k*xs.length:=by
 induction k with
 |zero=>simp
 |succ k ih=>rw[YaU,Ybw,YaJ,ih,Nat.succ_mul,Nat.add_comm]
theorem jl0:OpR X (Yba .Mult) rRep:=by
 intro pins s σ H x y v u Q I rx ry h;obtain⟨l,k,xs,rfl,rfl,hH,h1,h2,hz,q⟩:=h;cases rx;obtain⟨t,rfl⟩:=ry;obtain⟨z,its,n,r,hl,e⟩:=I.lstM hH;have hlen:its.toArray.size*k.toNat<=Yai:=by rw[Yah,<- hl];exact hz
 have hcap:¬its.toArray.size*k.toNat>(2 ^ 63-1)/8:=by
  have:(Yai:Nat)<=(2 ^ 63-1)/8:=by decide
  omega
 have hfit:¬(!Builtin.List.listFitsIndex k)=true:=by
  rw[fitsIndex_both h1 h2];exact Yam
 have hlong:¬YbN (its.toArray.size*k.toNat)=true:=by
  rw[jfs hlen];exact Yam
 have hnew:Ydq (λx1 x2=>x1++x2) #[] (Yaf (if its.toArray.isEmpty=true then 0 else k.toNat) its.toArray)=(Yaf k.toNat its).flatten.toArray:=by
  have f0:∀m:Nat,Ydq (λx1 x2=>x1++x2) #[] (Yaf m its.toArray)=(Yaf m its).flatten.toArray:=λm=>by
   have:=jc8 its m [];rw[Ya7]at this;exact this
  rw[f0];cases its with
  |nil=>simp
  |cons a r'=>rw[if_neg (by simp)]
 refine YeH (T := "list") (U := "int") (by decide) ⟨_,e,rfl⟩ (λs'=>Yd7 s' k t) noFill_list_mul F.fills_int_mul Ydc repeat_list F.slot_int_index.lookup
  (Ybt Ydc (Yd7 s k t) F.entry_int_rmul (F.args_int_rmul_2 _ _) (int___rmul___int_list k t l its.toArray n)
   ⟨e,rfl,⟨_,e,rfl⟩,Ybt F.slot_list_mul ⟨_,e,rfl⟩ F.entry_list_mul (F.args_list_mul_2 _ _) (AutoListH.list___mul___list_int_3 l its.toArray n k t hfit hcap hlong) ⟨e,?_⟩⟩)
 rw[hnew];exact⟨.ref _,_,I.lnew (t':=s.toks) (r.rep k.toNat) (by rw[je0,YdC];exact hz),rfl,q _ I.fresh⟩

end

section
variable {prog:Program}{w:World}{A:Around}{E:Value->Shared->Prop}{s:Shared}
end

section
variable {X:Cx}
end

section
variable {κ:Type}[DecidableEq κ]
noncomputable def valV (kvs:List (κ×V))(k:κ):Option V:=(kvs.find? λkv=>decide (kv.1=k)).map (·.2)
noncomputable def putK (kvs:List (κ×V))(k:κ)(v:V):List (κ×V):=
 if (kvs.any λkv=>decide (kv.1=k))=true then kvs.map (λkv=>if kv.1=k then (kv.1,v) else kv) else kvs++[(k,v)]
noncomputable def jpX (kvs:List (κ×V))(k:κ):List (κ×V):=kvs.filter λkv=>decide (kv.1≠k)

section
variable {p:κ×V}{r:List (κ×V)}{k:κ}
theorem jcG (e:p.1=k):valV (p::r) k=some p.2:=by simp[valV,Ybx,e]
theorem jcH (e:¬p.1=k):valV (p::r) k=valV r k:=by simp[valV,Ybx,e]
end
theorem jfi (k:κ):∀kvs:List (κ×V),(kvs.any λkv=>decide (kv.1=k))=(valV kvs k).isSome
 |[]=>rfl
 |p::r=>by
  rw[Ybp];by_cases e:p.1=k
  ·simp only[jcG e,decide_eq_true e,Bool.true_or,Option.isSome_some]
  ·rw[jcH e,decide_eq_false e,Yeu];exact jfi k r
theorem jbK (kvs:List (κ×V))(k:κ)(v:V):(putK kvs k v).length<=kvs.length+1:=by
 unfold putK;split
 ·rw[Yaa];omega
 ·rw[YaJ,YaB,Yc1];omega
theorem RelO.isSome_eq {o:Option V}{u:Option Value}(r:RelO o u):o.isSome=u.isSome:=by
 cases o with
 |none=>cases u with
  |none=>rfl
  |some _=>exact(show False from r).elim
 |some _=>cases u with
  |none=>exact(show False from r).elim
  |some _=>rfl
section
variable {kvs:List (κ×V)}{vs:List (κ×Value)}
theorem KV.val (r:KV kvs vs)(k:κ):RelO (valV kvs k) (valueAt vs k):=by
 unfold KV at r
 induction r with
 |nil=>exact YbO
 |@cons p q ps qs h t ih=>
  obtain⟨h1,h2⟩:=h;by_cases e:p.1=k
  ·have e':q.1=k:=h1.symm.trans e;have b:valueAt (q::qs) k=some q.2:=by simp[valueAt,Ybx,e']
   rw[jcG e,b];exact h2
  ·have e':¬q.1=k:=λz=>e (h1.trans z);have b:valueAt (q::qs) k=valueAt qs k:=by simp[valueAt,Ybx,e']
   rw[jcH e,b];exact ih
theorem KV.any (r:KV kvs vs)(k:κ):(kvs.any λkv=>decide (kv.1=k))=vs.any λkv=>decide (kv.1=k):=by
 unfold KV at r
 induction r with
 |nil=>rfl
 |cons h t ih=>rw[Ybp,Ybp,ih,h.1]
theorem KV.repl (r:KV kvs vs)(k:κ){y:V}{u:Value}(ry:RelV y u) :
  KV (kvs.map λkv=>if kv.1=k then (kv.1,y) else kv) (vs.map λkv=>if kv.1=k then (kv.1,u) else kv):=by
 unfold KV at r ⊢
 induction r with
 |nil=>exact .nil
 |@cons p q ps qs h t ih=>
  rw[YaF,YaF];refine .cons ?_ ih;obtain⟨h1,h2⟩:=h;by_cases e:p.1=k
  ·rw[if_pos e,if_pos (h1.symm.trans e)];exact⟨h1,ry⟩
  ·rw[if_neg e,if_neg (λz=>e (h1.trans z))];exact⟨h1,h2⟩
theorem KV.put (r:KV kvs vs)(k:κ){y:V}{u:Value}(ry:RelV y u):KV (putK kvs k y) (stored vs k u):=by
 unfold putK stored;rw[r.any k];by_cases e:(vs.any λkv=>decide (kv.1=k))=true
 ·rw[if_pos e,if_pos e];exact r.repl k ry
 ·rw[if_neg e,if_neg e];exact Paired.snoc r ⟨rfl,ry⟩
theorem KV.length (r:KV kvs vs):kvs.length=vs.length:=Yde r
end
end

theorem jf0 {P:Program}{w:World}{k:Key}{u:Value}(r:RelV (kV k) u):(jai P w).is k u=true:=by
 cases k with
 |inl i=>obtain⟨t,e⟩:=(show ∃t,u=YdP i t from r);subst e;exact jeZ P w i t
 |inr x=>obtain⟨t,e⟩:=(show ∃t,u=Yez x t from r);subst e;exact jeY P w x t
theorem jet {P:Program}{w:World}:∀{ks:List Key} {us:List Value},Vals (ks.map kV) us->ItemsAre (jai P w) ks us
 |[],_,r=>by rw[Yc0]at r;cases r;exact .nil
 |k::ks,_,r=>by
  rw[YaF]at r;cases r with
  |cons h t=>exact .cons (jf0 h) (jet t)

abbrev KT (H:Hp):List (List Key×V)->List (List Key×Addr×Value)->Prop:=Paired λp q=>p.1=q.1/\H q.2.1=some (.tup (p.1.map kV))/\RelV p.2 q.2.2
section
variable {H:Hp}{kvs:List (List Key×V)}{xs:List (List Key×Addr×Value)}
theorem KT.val (r:KT H kvs xs)(k:List Key):RelO (valV kvs k) ((atKey xs k).map (·.2)):=by
 induction r with
 |nil=>exact YbO
 |@cons p q ps qs h t ih=>
  obtain⟨h1,_,h2⟩:=h;by_cases e:p.1=k
  ·have e':q.1=k:=h1.symm.trans e;have b:atKey (q::qs) k=some q.2:=by simp[atKey,Ybx,e']
   rw[jcG e,b];exact h2
  ·have e':¬q.1=k:=λz=>e (h1.trans z);have b:atKey (q::qs) k=atKey qs k:=by simp[atKey,Ybx,e']
   rw[jcH e,b];exact ih
theorem KT.repl (r:KT H kvs xs)(k:List Key){y:V}{u:Value}(ry:RelV y u) :
  KT H (kvs.map λkv=>if kv.1=k then (kv.1,y) else kv) (xs.map (putAt k u)):=by
 induction r with
 |nil=>exact .nil
 |@cons p q ps qs h t ih=>
  rw[YaF,YaF];refine .cons ?_ ih;obtain⟨h1,h2,h3⟩:=h;unfold putAt;by_cases e:p.1=k
  ·rw[if_pos e,if_pos (h1.symm.trans e)];exact⟨h1,h2,ry⟩
  ·rw[if_neg e,if_neg (λz=>e (h1.trans z))];exact⟨h1,h2,h3⟩
theorem KT.put (r:KT H kvs xs)(k:List Key){b:Addr}{y:V}{u:Value}(hb:H b=some (.tup (k.map kV)))(ry:RelV y u) :
  KT H (putK kvs k y) (storedH xs k b u):=by
 have e:(kvs.any λkv=>decide (kv.1=k))=(atKey xs k).isSome:=by
  rw[jfi,(r.val k).isSome_eq,Ydo]
 unfold putK storedH;rw[e];by_cases q:(atKey xs k).isSome=true
 ·rw[if_pos q,if_pos q];exact r.repl k ry
 ·rw[if_neg q,if_neg q];exact Paired.snoc r ⟨rfl,hb,ry⟩
end
theorem KT.keeps {H H':Hp}{kvs:List (List Key×V)}{xs:List (List Key×Addr×Value)}(r:KT H kvs xs)(ht:∀b ys,H b=some (.tup ys)->H' b=some (.tup ys)):KT H' kvs xs:=
 Paired.mapP r λ_ _ z=>⟨z.1,ht _ _ z.2.1,z.2.2⟩

section
variable {P:Program}{w:World}{H:Hp}{h:Heap}{a:Addr}
theorem jlo {u:HO}(ok:HOk P w H h)(e:Rd H a u):jay P w H h a u:=e.ok ok
theorem jez {kvs:List (Key×V)}(ok:HOk P w H h)(e:Rd H a (.dK kvs)):kvs.length<=Yai/\(a==YaY)=false/\∃vs,KV kvs vs/\h.DictOf (jai P w) a vs:=
 show jay P w H h a (.dK kvs)from jlo ok e
theorem jmO {kvs:List (Key×V)}(ok:HOk P w H h)(e:H a=some (.dK kvs)):kvs.length<=Yai/\(a==YaY)=false/\∃vs,KV kvs vs/\h.DictOf (jai P w) a vs:=jez ok (.inl e)
theorem jes {ks:List Key}(ok:HOk P w H h)(e:H a=some (.tup (ks.map kV))):(Yew (jai P w)).is h ks a:=by
 obtain⟨_,its,r,o,h1,h2,n,h3,_⟩:=(show jay P w H h a (.tup (ks.map kV))from ok a _ e);exact⟨o,its.toArray,n,h1,h2,h3,by simpa using jet r⟩
section
variable {kvs:List (List Key×V)}
theorem jf3 (ok:HOk P w H h)(e:Rd H a (.dT kvs)):kvs.length<=Yai/\(a==YaY)=false/\
  ∃xs,KT H kvs xs/\h.DictOfH (Yew (jai P w)) a xs:=by
 obtain⟨z,y,xs,r,o,es,ep,h1,h2,h3,h4,h5⟩:=(show jay P w H h a (.dT kvs)from jlo ok e);refine⟨z,y,xs,r,o,es,ep,h1,h2,h3,h4,λx hx=>?_,h5⟩;have all:∀{l:List (List Key×V)} {m:List (List Key×Addr×Value)},KT H l m->∀x∈m,(Yew (jai P w)).is h x.1 x.2.1:=by
  intro l m q
  induction q with
  |nil=>intro x hx;exact nomatch hx
  |@cons p q ps qs hq t ih=>
   intro x hx;rcases YaL.mp hx with e|hx
   ·subst e;exact jes ok (by rw[<- hq.1];exact hq.2.1)
   ·exact ih x hx
 exact all r x hx
theorem joK (ok:HOk P w H h)(e:H a=some (.dT kvs)):kvs.length<=Yai/\(a==YaY)=false/\
  ∃xs,KT H kvs xs/\h.DictOfH (Yew (jai P w)) a xs:=jf3 ok (.inl e)
end
end

def DGet (H:Hp)(a:Addr)(y:V)(r:Option V):Prop:=
 (∃kvs k,Rd H a (.dK kvs)/\y=kV k/\r=valV kvs k)\/∃kvs k b,Rd H a (.dT kvs)/\y=.ref b/\H b=some (.tup (k.map kV))/\r=valV kvs k
def DPut (H:Hp)(a:Addr)(y v:V)(H':Hp):Prop:=
 (∃kvs k,H a=some (.dK kvs)/\y=kV k/\kvs.length<Yai/\H'=upd H a (.dK (putK kvs k v)))\/
 ∃kvs k b,H a=some (.dT kvs)/\y=.ref b/\H b=some (.tup (k.map kV))/\kvs.length<Yai/\H'=upd H a (.dT (putK kvs k v))
theorem DGet.k {H:Hp}{a:Addr}{kvs:List (Key×V)}{k:Key}(e:H a=some (.dK kvs)):DGet H a (kV k) (valV kvs k):=.inl ⟨kvs,k,.inl e,rfl,rfl⟩
theorem DGet.t {H:Hp}{a b:Addr}{kvs:List (List Key×V)}{k:List Key}(e:H a=some (.dT kvs))(eb:H b=some (.tup (k.map kV))):DGet H a (.ref b) (valV kvs k):=.inr ⟨kvs,k,b,.inl e,rfl,eb,rfl⟩
theorem DPut.k {H:Hp}{a:Addr}{kvs:List (Key×V)}{k:Key}{v:V}(e:H a=some (.dK kvs))(hl:kvs.length<Yai):DPut H a (kV k) v (upd H a (.dK (putK kvs k v))):=.inl ⟨kvs,k,e,rfl,hl,rfl⟩
theorem DPut.t {H:Hp}{a b:Addr}{kvs:List (List Key×V)}{k:List Key}{v:V}(e:H a=some (.dT kvs))(eb:H b=some (.tup (k.map kV)))(hl:kvs.length<Yai) :
  DPut H a (.ref b) v (upd H a (.dT (putK kvs k v))):=.inr ⟨kvs,k,b,e,rfl,eb,hl,rfl⟩

section
variable {X:Cx}{pins:List (Addr×Obj)}{σ:St}{H:Hp}{s:Shared}{a:Addr}{y v:V}{u r:Value}{o:Option V}{A:Around}{E:Value->Shared->Prop}

theorem Inv.big (I:Inv X pins σ H s):YaY<s.heap.objs.size:=by
 have h:YaN<s.heap.objs.size:=(I.mod.glob.keeps I.bk).lt;exact YdD (by decide) h

section
variable {Q:Value->Shared->Prop}
theorem jhj (hu:A.units+1<cLine)(I:Inv X pins σ H s)(g:DGet H a y (some v))(ry:RelV y u)(h:∀w' s',Inv X pins σ H s'->RelV v w'->Q w' s') :
  wpAny (model X.prog X.w) A (getItem (.ref a) u) Q E s:=by
 rcases g with⟨kvs,k,e,ey,l⟩|⟨kvs,k,b,e,ey,eb,l⟩
 ·subst ey;obtain⟨z,hd,vs,rel,dd⟩:=jez I.hok e;obtain⟨w',hw,rw'⟩:=RelO.some_of (v:=v) (o:=valueAt vs k) (by rw[l];exact rel.val k)
  exact wpAny_getItem_of (jf0 ry) dd.mapOf hw (h w' _ (I.tok _) rw')
 ·subst ey;cases(show u=YbD b from ry);obtain⟨z,hd,xs,rel,dd⟩:=jf3 I.hok e;obtain⟨w',hw,rw'⟩:=RelO.some_of (v:=v) (o:=(atKey xs k).map (·.2)) (by rw[l];exact rel.val k)
  obtain⟨p,hp,hp2⟩:=Option.map_eq_some_iff.mp hw;refine wpAny_getItem_heap (YcM hu) (jes I.hok eb) dd hp ?_;rw[hp2];exact h w' _ (I.tok _) rw'
theorem d_in (hu:A.units+1<cLine)(I:Inv X pins σ H s)(g:DGet H a y o)(ry:RelV y u)(h:∀s',Inv X pins σ H s'->Q (.bool o.isSome) s') :
  wpAny (model X.prog X.w) A (YaR .In u (.ref a)) Q E s:=by
 rcases g with⟨kvs,k,e,ey,l⟩|⟨kvs,k,b,e,ey,eb,l⟩
 ·subst ey;obtain⟨z,hd,vs,rel,dd⟩:=jez I.hok e;refine wpAny_in_of (jf0 ry) hd dd.mapOf ?_;rw[<- (rel.val k).isSome_eq,<- l];exact h _ (I.tok _)
 ·subst ey;cases(show u=YbD b from ry);obtain⟨z,hd,xs,rel,dd⟩:=jf3 I.hok e;refine wpAny_in_heap (YcM hu) (jes I.hok eb) hd dd ?_;have q:=(rel.val k).isSome_eq;rw[Ydo]at q;rw[<- q,<- l];exact h _ (I.tok _)
theorem jkG (hu:A.units+1<cLine)(I:Inv X pins σ H s)(g:DGet H a y o)(ry:RelV y u)(h:∀s',Inv X pins σ H s'->Q (.bool (!o.isSome)) s') :
  wpAny (model X.prog X.w) A (YaR .NotIn u (.ref a)) Q E s:=by
 rcases g with⟨kvs,k,e,ey,l⟩|⟨kvs,k,b,e,ey,eb,l⟩
 ·subst ey;obtain⟨z,hd,vs,rel,dd⟩:=jez I.hok e;refine wpAny_notIn_of (jf0 ry) hd dd.mapOf ?_;rw[<- (rel.val k).isSome_eq,<- l];exact h _ (I.tok _)
 ·subst ey;cases(show u=YbD b from ry);obtain⟨z,hd,xs,rel,dd⟩:=jf3 I.hok e;refine wpAny_notIn_heap (YcM hu) (jes I.hok eb) hd dd ?_;have q:=(rel.val k).isSome_eq;rw[Ydo]at q;rw[<- q,<- l];exact h _ (I.tok _)
end
theorem jfb {h':Heap}{t':Nat}{ob:HO}(I:Inv X pins σ H s)(mu:Mut (H a))(hs:Ycr a s.heap h')(he:∃q,h'.get? a=some q)(new:jay X.prog X.w (upd H a ob) h' a ob) :
  Inv X pins σ (upd H a ob) { s with heap:=h',toks:=t' }:=
 I.write (x:=a) (e:=a) mu (.inl rfl) (λb q hb z=>(hs.2 b hb).trans z) he new
theorem jiV {P:Program}{w:World}{H':Hp}{h':Heap}{kvs:List (Key×V)}{vs:List (Key×Value)}(z:kvs.length<=Yai)(hd:(a==YaY)=false)(rel:KV kvs vs)(dd:h'.DictOf (jai P w) a vs) :
  jay P w H' h' a (.dK kvs):=⟨z,hd,vs,rel,dd⟩
theorem jhi {H':Hp}{Q:Unit->Shared->Prop}(hu:A.units+1<cLine)(I:Inv X pins σ H s)(g:DPut H a y v H')(ry:RelV y u)(rv:RelV v r)(h:∀s',Inv X pins σ H' s'->Q () s') :
  wpAny (model X.prog X.w) A (setItem (.ref a) u r) Q E s:=by
 rcases g with⟨kvs,k,e,ey,l,eH⟩|⟨kvs,k,b,e,ey,eb,l,eH⟩
 ·subst ey eH;obtain⟨z,hd,vs,rel,dd⟩:=jmO I.hok e;have hz:vs.length<=Yai:=by rw[<- rel.length];exact z
  have hl:(putK kvs k v).length<=Yai:=by have:=jbK kvs k v;omega
  refine wpAny_setItem_pairs (hsz:=hz) (jf0 ry) dd λh' dd' hs=>h _ ?_;have he:∃q,h'.get? a=some q:=let ⟨q,_,_,hq,_⟩:=dd';⟨q,hq⟩
  exact jfb I (by rw[e];exact YbO) hs he (jiV hl hd (rel.put k rv) dd')
 ·subst ey eH;cases(show u=YbD b from ry);obtain⟨z,hd,xs,rel,dd⟩:=joK I.hok e;have hz:xs.length<=Yai:=by rw[<- Yde rel];exact z
  have hl:(putK kvs k v).length<=Yai:=by have:=jbK kvs k v;omega
  refine wpAny_setItem_heap (hsz:=hz) (YcM hu) (jes I.hok eb) dd λh' dd' hs=>h _ ?_;obtain⟨q,es,ep,hq,h2,h3,h4,_,h5⟩:=dd';refine jfb I (by rw[e];exact YbO) hs ⟨q,hq⟩ ⟨hl,hd,_,(rel.put k eb rv).keeps λc ys ec=>?_,q,es,ep,hq,h2,h3,h4,h5⟩
  rw[jad (jot ec e (λz=>nomatch z))];exact ec
end

section
variable {X:Cx}{pins:List (Addr×Obj)}{σ:St}{H:Hp}{s:Shared}{a:Addr}{kvs:List (Key×V)}{k:Key}{u:Value}{A:Around}{E:Value->Shared->Prop}
theorem joL {Q:Value->Shared->Prop}(I:Inv X pins σ H s)(e:Rd H a (.dK kvs))(h:∀t s',Inv X pins σ H s'->Q (.int kvs.length t) s'):wpAny (model X.prog X.w) A (call (.builtin "len") [.ref a]) Q E s:=by
 obtain⟨z,hd,vs,rel,dd⟩:=jez I.hok e;refine call_len_dict hd dd (by rw[<- rel.length];rw[Yce]at z;omega) ?_
 rw[<- rel.length];exact h _ _ (I.tok _)
end

theorem jfa {X:Cx}{pins:List (Addr×Obj)}{σ:St}{H:Hp}{s:Shared}{a:Addr}{y:V}{o:Option V}(I:Inv X pins σ H s)(g:DGet H a y o):s.TypeIs (.ref a) "dict" := by
 rcases g with⟨kvs,k,e,_,_⟩|⟨kvs,k,b,e,_,_,_⟩
 ·obtain⟨_,_,vs,_,dd⟩:=jez I.hok e;exact dd.typeIs
 ·obtain⟨_,_,xs,_,dd⟩:=jf3 I.hok e;exact dd.typeIs
section
variable {X:Cx}{o i e value:Expr}{pos pos' tpos:Pos}{td ty tv:TE}
end

theorem jfI {P:Program}{w:World}{H:Hp}(h:Heap)(hb:YaY<h.objs.size):jay P w H (h.push { cls:=.type "dict",data:=.dict #[] }) h.objs.size (.dK []):=
 ⟨Ybb _,beq_eq_false_iff_ne.mpr (Ne.symm (Yav hb)),[],.nil,Heap.DictOf.new h⟩
def jk5:TE:=λ_ H Q=>∀p,H p=none->Q (.ref p) (upd H p (.dK []))
section
variable {X:Cx}{pos:Pos}
theorem jhV:PE X (.Dict [] [] pos) jk5:=λpins s σ H Q I h=>
 wpAny_Dict_empty ⟨.ref s.heap.objs.size,_,I.laid (a:=s.heap.objs.size) (o:=.dK []) (t':=s.toks) (λ_ _ q=>Yab _ q) (Yag _) (jfI s.heap I.big),rfl,h _ (I.hok.fresh (Yag _))⟩
end

def jfn:List (TE×TE)->St->Hp->(List (V×V)->Hp->Prop)->Prop
 |[],_,H,Q=>Q [] H
 |(tk,tv)::r,σ,H,Q=>tk σ H λx H1=>tv σ H1 λy H2=>jfn r σ H2 λps H3=>Q ((x,y)::ps) H3
abbrev VV:List (V×V)->List (Value×Value)->Prop:=Paired λp q=>RelV p.1 q.1/\RelV p.2 q.2
def PPs (X:Cx)(pos:Pos)(keys:List (Option Expr))(values:List Expr)(trs:List (TE×TE)):Prop:=
 ∀(pins:List (Addr×Obj)) (s:Shared) (σ:St) (H:Hp) (Q:List (V×V)->Hp->Prop),Inv X pins σ H s->jfn trs σ H Q->
  wpAny (model X.prog X.w) X.A (evalPairs (pairTrees keys values X.env pos)) (λvs s'=>∃ps H',Inv X pins σ H' s'/\VV ps vs/\Q ps H') X.xe s
theorem jjw {X:Cx}{pos:Pos}:PPs X pos [] [] []:=λpins s σ H Q I h=>pairTrees_nil_walk ⟨[],H,I,.nil,h⟩
theorem jhM {X:Cx}{pos:Pos}{k v:Expr}{ks:List (Option Expr)}{vs:List Expr}{tk tv:TE}{trs:List (TE×TE)}(hk:PE X k tk)(hv:PE X v tv)(hr:PPs X pos ks vs trs) :
  PPs X pos (some k::ks) (v::vs) ((tk,tv)::trs):=λpins s σ H Q I h=>
 pairTrees_cons_walk (thn (hk pins s σ H _ I h) λu s1 ⟨x,H1,I1,rx,q1⟩=>thn (hv pins s1 σ H1 _ I1 q1) λw2 s2 ⟨y,H2,I2,ry,q2⟩=>
  thn (hr pins s2 σ H2 _ I2 q2) λws s3 ⟨ps,H3,I3,rel,q3⟩=>⟨(x,y)::ps,H3,I3,.cons ⟨rx,ry⟩ rel,q3⟩)

noncomputable def jc4 (kvs more:List (Key×V)):List (Key×V):=more.foldl (λacc kv=>putK acc kv.1 kv.2) kvs
theorem KV.merge:∀{more:List (Key×V)} {rs:List (Key×Value)} {kvs:List (Key×V)} {vs:List (Key×Value)},KV more rs->KV kvs vs->KV (jc4 kvs more) (merged vs rs):=by
 intro more rs kvs vs r;unfold KV at r
 induction r generalizing kvs vs with
 |nil=>intro q;exact q
 |@cons p q ps qs h t ih=>
  intro r0;have e:KV (putK kvs p.1 p.2) (stored vs q.1 q.2):=by
   have:=r0.put p.1 h.2;rw[<- h.1];exact this
  exact ih e
theorem jb0:∀(more kvs:List (Key×V)),(jc4 kvs more).length<=kvs.length+more.length
 |[],kvs=>by show kvs.length<=kvs.length+0;omega
 |p::r,kvs=>by
  have h1:=jb0 r (putK kvs p.1 p.2);have h2:=jbK kvs p.1 p.2;show(jc4 (putK kvs p.1 p.2) r).length<=_;rw[YaB];omega
theorem jdN {P:Program}{w:World}:∀{kvs:List (Key×V)} {ws:List (Value×Value)},VV (kvs.map λkv=>(kV kv.1,kv.2)) ws->∃rs,Carries (jai P w) ws rs/\KV kvs rs
 |[],_,r=>by rw[Yc0]at r;cases r;exact⟨[],YbO,.nil⟩
 |p::kvs,_,r=>by
  rw[YaF]at r;cases r with
  |@cons a b as bs h t=>
   obtain⟨rs,c,q⟩:=jdN (P:=P) (w:=w) t;obtain⟨b1,b2⟩:=b;exact⟨(p.1,b2)::rs,⟨jf0 h.1,rfl,c⟩,.cons ⟨rfl,h.2⟩ q⟩
def jnV (trs:List (TE×TE)):TE:=λσ H Q=>∀p,H p=none->jfn trs σ (upd H p (.dK [])) λps H2=>H2 p=some (.dK [])/\∃kvs:List (Key×V),ps=kvs.map (λkv=>(kV kv.1,kv.2))/\kvs.length<=15/\Q (.ref p) (upd H2 p (.dK (jc4 [] kvs)))
theorem jjG {X:Cx}{pos:Pos}{keys:List (Option Expr)}{values:List Expr}{trs:List (TE×TE)}(h:PPs X pos keys values trs)(hall:keys.all (·.isSome)=true)(hl:keys.length=values.length)(h0:keys≠[])
  (h15:keys.length<=15):PE X (.Dict keys values pos) (jnV trs):=by
 intro pins s σ H Q I q;have hn:=I.hok.fresh (Yag s.heap.objs.size);have I1:=I.laid (a:=s.heap.objs.size) (o:=.dK []) (h':=s.heap.push { cls:=.type "dict",data:=.dict #[] }) (t':=s.toks) (λ_ _ q=>Yab _ q) (Yag _) (jfI s.heap I.big);refine wpAny_Dict_walk (knd:=jai X.prog X.w) hall hl h0 h15 (thn (h pins _ σ _ _ I1 (q _ hn)) λws s2 ⟨ps,H2,I2,rel,e,kvs,ep,lk,q2⟩=>?_);subst ep;obtain⟨rs,c,rk⟩:=jdN (P:=X.prog) (w:=X.w) rel;obtain⟨z,hd,vs0,r0,dd⟩:=jmO I2.hok e;cases r0;refine⟨rs,c,dd,λh' dd' hs=>⟨.ref s.heap.objs.size,_,?_,rfl,q2⟩⟩;have hz:(jc4 [] kvs).length<=Yai:=by
  have h1:=jb0 kvs [];rw[Yc1]at h1;rw[Yce];omega
 have he:∃q,h'.get? s.heap.objs.size=some q:=let ⟨q,_,_,hq,_⟩:=dd';⟨q,hq⟩
 exact jfb I2 (by rw[e];exact YbO) hs he (jiV hz hd (rk.merge .nil) dd')

structure M1 (X:Cx)(o:Expr)(m:Str)(apos:Pos)(e:Expr)(cpos:Pos):Prop where
 base:Ybu o m X.env (eval o X.env)=eval o X.env
 few:((backTo cpos (YaA [e] X.env)).all (λx=>!x.1)&&(backToKw cpos (Yey [] X.env)).all (λx=>x.1.isSome)
  && decide (([e]:List Expr).length+([]:List Keyword).length+(if ([]:List Keyword).isEmpty then 0 else 1)<30))=true
 line:(apos.endLine==cpos.line)=true
 trees:backTo cpos (YaA [e] X.env)=[(false,eval e X.env)]
structure M2 (X:Cx)(o:Expr)(m:Str)(apos:Pos)(e f:Expr)(cpos:Pos):Prop where
 base:Ybu o m X.env (eval o X.env)=eval o X.env
 few:((backTo cpos (YaA [e,f] X.env)).all (λx=>!x.1)&&(backToKw cpos (Yey [] X.env)).all (λx=>x.1.isSome)
  && decide (([e,f]:List Expr).length+([]:List Keyword).length+(if ([]:List Keyword).isEmpty then 0 else 1)<30))=true
 line:(apos.endLine==cpos.line)=true
 trees:backTo cpos (YaA [e,f] X.env)=[(false,eval e X.env),(false,eval f X.env)]

def IsD (H:Hp)(a:Addr):Prop:=(∃kvs,Rd H a (.dK kvs))\/∃kvs,Rd H a (.dT kvs)
theorem jiJ {X:Cx}{pins:List (Addr×Obj)}{σ:St}{H:Hp}{s:Shared}{a:Addr}(I:Inv X pins σ H s)(d:IsD H a) :
  s.TypeIs (.ref a) "dict" /\ (∀b,YbD a=.ref b->∃ob,s.heap.get? b=some ob/\ob.dict=none)/\(a==YaY)=false:=by
 rcases d with⟨kvs,e⟩|⟨kvs,e⟩
 ·obtain⟨_,hd,vs,_,dd⟩:=jez I.hok e;refine⟨dd.typeIs,λb q=>?_,hd⟩;cases q;obtain⟨ob,_,_,h1,h2,_⟩:=dd;exact⟨ob,h1,h2.2.1⟩
 ·obtain⟨_,hd,xs,_,dd⟩:=jf3 I.hok e;refine⟨dd.typeIs,λb q=>?_,hd⟩;cases q;obtain⟨ob,_,_,h1,h2,_⟩:=dd;exact⟨ob,h1,h2.2.1⟩

section
variable {X:Cx}{pins:List (Addr×Obj)}{σ:St}{H:Hp}{s:Shared}{a:Addr}{y d:V}{u r:Value}{o:Option V}{A:Around}{E:Value->Shared->Prop}
end

section
variable {X:Cx}{o e f:Expr}{apos cpos:Pos}{td ty tx:TE}
end

section
variable {X:Cx}{pins:List (Addr×Obj)}{σ:St}{H:Hp}{s:Shared}{a:Addr}{kvs:List (Key×V)}{A:Around}{E:Value->Shared->Prop}
end

section
variable {X:Cx}{pins:List (Addr×Obj)}{σ:St}{H:Hp}{s:Shared}{a:Addr}{y:V}{u:Value}{A:Around}{E:Value->Shared->Prop}
end
end L2

namespace Att
open PySem PySem.W PySem.Calls PyProof.Rows

theorem jc7 {P:Params}{h:Heap}:∀(ns:List Int) (vs:List Value),WellAll P h vs (ns.map WData.int)->IntsAre vs ns:=by
 intro ns
 induction ns with
 |nil=>
  intro vs w;rw[Yc0]at w;cases w;exact .nil
 |cons n ns ih=>
  intro vs w;rw[YaF]at w;cases w with
  |cons a b=>
   cases a;exact .cons _ _ (ih _ b)

theorem jgn {l:OpenLaw}{n:Nat}(hn:l.most=some n){P:Params}{h:Heap}{args:List WData}{vals:List Value}
  (hpre:l.row.toRowW.claim.pre args=true) (hwl:WellAll P h vals args) :
  ∃a vs ns,vals=[YbD a]/\args=[WData.list (ns.map WData.int)]/\h.get? a=some { cls:=.type "list",data:=.seq vs.toArray }/\IntsAre vs ns/\ns.length<=n:=by
 have hsh:WShape.hasAll [] args [.list .int]=true:=(pre_splitW hpre).1;have hc:l.pre.holds [] { args:=args }=true:=(pre_splitW hpre).2;obtain⟨d,r,rfl,h1,h2⟩:=hasAllW_cons hsh;obtain rfl:=hasAllW_nil h2;obtain⟨xs,rfl,h3⟩:=hasW_list h1;obtain⟨ns,rfl⟩:=items_int h3;have hlen:ns.length<=n:=by
  unfold OpenLaw.pre at hc;have h4:(WTm.not (.lt (.lit (.int (n:Int))) (.len (.arg 0)))).holds [] { args:=[.list (ns.map .int)] }=true:=by
   have h4:=(holds_andW hc).1;rw[hn]at h4;exact h4
  have h5:=condW_of h4 (w_not (w_lt w_lit (w_len_list (w_arg rfl))));rw[Yaa]at h5;refine Nat.le_of_not_lt λq=>?_;have q':(n:Int)<((ns.length:Nat):Int):=by omega
  first
   |(rw[decide_eq_true q']at h5;exact absurd h5 (by decide))
   |(simp at h5;omega)
 cases hwl with
 |cons w1 w2=>
  cases w2;cases w1 with
  |list ho hall=>exact⟨_,_,ns,rfl,rfl,ho,jc7 ns _ hall,hlen⟩

theorem jgu (l:OpenLaw)(args:List WData):l.row.toRowW.claim.post args (.bool true) args=true:=
 postW_of (r:=l.row.toRowW) (X:=(true==true))
  (show WShape.has [] (.bool true) .bool=true by first|rfl|decide|simp[WShape.has,WShape.arms,WShape.armsAll])
  (show(WTm.eq .res (.lit (.bool true))).value [] { args:=args,res:=some (.bool true),after:=args }=some (.bool (true==true))from w_eq_bool (w_res rfl) w_lit) rfl

theorem attach_call {l:OpenLaw}{n:Nat}{q:Program}{loose:List Str}{XP:(Str->Option Value)->Heap->Prop}{YP:World->Heap->Prop}{d:DefRec}
  (hn:l.most=some n) (hdf:d.params.defaults=[])
  (call:∀(w:World) (s₀ s₁:Shared) (mg mb:Str->Option Value) (fa:Addr) (o:Obj) (pm cd doc:Value) (a:Addr) (vs:List Value) (ns:List Int),
   Ground q loose [] XP w s₀ mg mb s₁.heap->YP w s₁.heap->
   s₁.heap.get? fa=some o->o.data=.func (docDef d.name d.params d.body d.scope pm cd doc)->s₁.heap.CodeRec cd d.name->mg d.name=some (.ref fa)->
   s₁.heap.get? a=some { cls:=.type "list",data:=.seq vs.toArray }->IntsAre vs ns->ns.length<=n->s₁.gens=#[]->
   codeAny (model l.prog w) callerA (.call (.ref fa) ⟨[.ref a],[]⟩) (λr s'=>r=.ok (.ret (.bool true))/\OldK s₁.heap s'.heap/\s'.os=s₁.os/\AllBare s'.gens) s₁) :
  WalkO q loose XP YP l.row.toRowW d [] (λf vs=>Yfd f vs):=by
 intro w s₀ s₁ mg mb G Y fa o pm cd doc dV kV ho hd hcd hD hmg hg args vals as hpre hlay hrd hwl hlo;obtain rfl:dV=.none:=Dflts.none hD hdf;obtain rfl:kV=.none:=Dflts.noKw hD;obtain⟨a,vs,ns,rfl,rfl,hobj,hints,hlen⟩:=jgn hn hpre hwl;refine enter_call (Yef (call w s₀ s₁ mg mb fa o pm cd doc a vs ns G Y ho (fd_plain hd) hcd hmg hobj hints hlen hg) λr s' hq=>?_);obtain⟨rfl,h2,h3,h4⟩:=hq;exact⟨.inl ⟨.bool true,.bool true,[],rfl,λ_=>rfl,.bool true,jgu l _,λ_=>⟨Yec,λ_ hm=>(nomatch hm)⟩⟩,h2,h3,h4⟩

section
variable {prog:Program}{w:World}{A:Around}{E:Value->Shared->Prop}{s:Shared}{K:Frag}

end
end Att

namespace L2
open PySem PySem.Spec PyProof.Rows

theorem jec:∀{vs:List Value} {ns:List Int},IntsAre vs ns->Vals (ns.map V.int) vs
 |_,_,.nil=>.nil
 |_,_,.cons n t h=>.cons ⟨t,rfl⟩ (jec h)



def ja4 (s:Stmt):YfQ:=match s with
 |.FunctionDef _ a _ _ _ _ _ _ _ _=>a
 |_=>{ posonlyargs:=[],args:=[],vararg:=none,kwonlyargs:=[],kw_defaults:=[],kwarg:=none,defaults:=[] }
def jaq (s:Stmt):List Stmt:=match s with
 |.FunctionDef _ _ b _ _ _ _ _ _ _=>b
 |_=>[]
def jag (s:Stmt):Scope:=match s with
 |.FunctionDef _ _ _ _ _ _ sc _ _ _=>sc
 |_=>{ kind:=.function,names:=[],isGenerator:=false,isCoroutine:=false }

abbrev CX0:CXT:=λ_ _ _ _ _ _=>False
abbrev E0:XK:=λ_ _ _=>False
structure Fun (K:Yac)(x qual:Str)(st:Stmt)(f:Addr)(fd:Ybm):Prop where
 ex:∃(oc:Value) (od:Option Addr) (kV doc pm:Value) (an:Option Addr) (cdv ct:Value) (osl:Array (Option Value)),
  fd=YbH x qual (ja4 st) (jaq st) (jag st) .none kV doc pm an cdv ct/\K.lookup f=some ⟨oc,od,.func fd,osl⟩/\Yck K cdv qual=true
 kp:YbR K (.ref f)=true
section
variable {P:Program}{w:World}{K:Yac}{mg:Str->Option Value}{base:Heap}
section
variable {x qual:Str}{st:Stmt}{f:Addr}
theorem Fun.binds {fd:Ybm}{ps:List Str}(F:Fun K x qual st f fd)
  (h:∀(kV doc pm:Value) (an:Option Addr) (cdv ct:Value) (us:List Value),us.length=ps.length->bindArgs (YbH x qual (ja4 st) (jaq st) (jag st) .none kV doc pm an cdv ct) ⟨us,[]⟩=pure (ps.zip us)):Binds K fd ps []:=by
 obtain⟨oc,od,kV,doc,pm,an,cdv,ct,osl,rfl,lk,hcd⟩:=F.ex;exact .all (h kV doc pm an cdv ct)
theorem jiN {oc:Value}{od an:Option Addr}{osl:Array (Option Value)}{kV doc pm cdv ct:Value}(l:K.lookup f=some ⟨oc,od,.func (YbH x qual (ja4 st) (jaq st) (jag st) .none kV doc pm an cdv ct),osl⟩)
  (c:Yck K cdv qual=true) (k:YbR K (.ref f)=true):Fun K x qual st f (YbH x qual (ja4 st) (jaq st) (jag st) .none kV doc pm an cdv ct):=⟨⟨oc,od,kV,doc,pm,an,cdv,ct,osl,rfl,l,c⟩,k⟩
end
end
theorem joC {A:Around}{k:Nat}(hr:Room k A):A.units+1<cLine:=YaO (Yfg (by decide:1<=64) _) hr.units
section
variable {X:Cx}
end

def Same (H H':Hp):Prop:=∀b o,H b=some o->H' b=some o
section
variable {X:Cx}
theorem jho:jaX X (.builtin "len") (λxs H Q=>∃a kvs,xs=[V.ref a]/\H a=some (.dK kvs)/\Q (.int kvs.length) H):=by
 intro pins s σ H xs us Q I r h;obtain⟨a,kvs,rfl,ha,q⟩:=h;obtain⟨u,rfl,ru⟩:=jb9 r;cases ru;exact joL I (.inl ha) λt s' I'=>⟨.int kvs.length,H,I',⟨t,rfl⟩,q⟩
end
section
variable {κ:Type}[DecidableEq κ]
end
end L2

namespace L2
open PySem PySem.Spec PyProof.Rows

section
variable {prog:Program}{w:World}{A:Around}{R:Result->Shared->Prop}{s:Shared}
noncomputable def jeV (env:Env)(ifs:List Expr):Sem Bool:=forIn ifs true λc r=>ite (r=true) (isTrue c env (eval c env) >>= λb=>pure (.yield b)) (pure (.yield r))
noncomputable def jcW (ip:Pos)(tg:Expr)(ifs:List Expr)(it:Value)(env:Env)(em:Sem Unit)(next:Code):Sem Fin:=
 standAt ip >>= λ_=>pyNext it >>= λr=>match r with
  |none=>pure (.done .next)
  |some v=>Yct tg it v >>= λ_=>assign tg env v >>= λ_=>jeV env ifs >>= λok=>ite (ok=true) (em >>= λ_=>again next) (again next)
def jja (M:Model)(A:Around)(tg:Expr)(ifs:List Expr)(it:Value)(env:Env)(em:Sem Unit)(fin:Shared->Prop)(less:Shared->Prop):Option Value->Shared->Prop
 |none,s=>fin s
 |some v,s=>wpAny M A (Yct tg it v) (λ_ s=>wpAny M A (assign tg env v) (λ_ s=>wpAny M A (jeV env ifs) (λok s=>if ok=true then wpAny M A em (λ_ s=>less s) (λ_ _=>False) s else less s) (λ_ _=>False) s) (λ_ _=>False) s) (λ_ _=>False) s
theorem jeD {elt:Expr}{gens:List YbI}{scope:Scope}{pos:Pos}{dp:Nat}{target:Expr}{ip:Pos}{ifs:List Expr}{it acc:Value}{env:Env}{em:Sem Unit}(I:Nat->Shared->Prop)
  (hct:Yen (.ListComp elt gens scope pos) dp it acc env=jcW ip target ifs it env em (.compLoop (.ListComp elt gens scope pos) dp it acc env))
  (turn:∀k t,I k t->wpAny (model prog w) A (pyNext it) (jja (model prog w) A target ifs it env em (R (.ok .next)) λt=>∃m,m<k/\I m t) (λ_ _=>False) t)
  (n:Nat) (h:I n s):codeAny (model prog w) A (.compLoop (.ListComp elt gens scope pos) dp it acc env) R s:=by
 have no:∀{Z:Value->Shared->Prop} (e:Value) (t:Shared),False->Z e t:=λ_ _ f=>f.elim;refine codeAny_loop rfl I (λk t hk=>wpAny_noted (m:=Yen (.ListComp elt gens scope pos) dp it acc env) (hct ▸ ?_)) n h;refine Yad (Yc5 (Yad (Ybe (turn k t hk) (λr t1 p=>?_) no)))
 match r,p with
 |none,p=>exact Yap p
 |some v,p=>
  refine Yad (Ybe p (λ_ t2 p=>Yad (Ybe p (λ_ t3 p=>Yad (Ybe p (λok t4 p=>?_) no)) no)) no)
  match ok,p with
  |false,p=>exact Yap ⟨rfl,p⟩
  |true,p=>exact Yad (Ybe p (λ_ t5 p=>Yap ⟨rfl,p⟩) no)
end

theorem jbt (env:Env):∀(names:List (Str×YbC)) (acc:List (Str×Addr)),(∀y∈names,y.2=.free->∃c,env.cells.lookup y.1=some c)->
  ∃cl:List (Str×Addr),(forIn names acc (λ(y:Str×YbC) (cs:List (Str×Addr))=>(if (y.2==YaK)=true then (do let c <- cellOf env y.1;pure (ForInStep.yield ((y.1,c)::cs))) else pure (ForInStep.yield cs):Sem (ForInStep (List (Str×Addr))))):Sem (List (Str×Addr)))=pure cl/\
   (∀x c,(x,c)∈cl->(x,c)∈acc\/(env.cells.lookup x=some c/\(x,YaK)∈names))/\(∀p∈acc,p∈cl)/\(∀y∈names,y.2=.free->∃c,(y.1,c)∈cl)
 |[],acc,_=>⟨acc,rfl,λ_ _ h=>.inl h,λ_ h=>h,λ_ h=>nomatch h⟩
 |(n,k)::r,acc,h=>by
  by_cases hk:k=.free
  ·subst hk;obtain⟨c,hc⟩:=h (n,.free) Yaw rfl;obtain⟨cl,e,h1,h2,h3⟩:=jbt env r ((n,c)::acc) λy hy=>h y (Yaj _ hy);refine⟨cl,?_,λx d hd=>?_,λp hp=>h2 p (Yaj _ hp),λy hy hf=>?_⟩
   ·rw[Yd1];have:(cellOf env n:Sem Addr)=pure c:=by unfold cellOf;rw[hc]
    simp only[beq_self_eq_true,if_true,this,pure_bind];exact e
   ·rcases h1 x d hd with z|⟨z,z'⟩
    ·rcases YaL.mp z with z|z
     ·cases z;exact .inr ⟨hc,Yaw⟩
     ·exact .inl z
    ·exact .inr ⟨z,Yaj _ z'⟩
   ·rcases YaL.mp hy with z|z
    ·subst z;exact⟨c,h2 _ Yaw⟩
    ·exact h3 y z hf
  ·obtain⟨cl,e,h1,h2,h3⟩:=jbt env r acc λy hy=>h y (Yaj _ hy);have hb:(k==YaK)=false:=by simpa using hk
   refine⟨cl,?_,λx d hd=>?_,h2,λy hy hf=>?_⟩
   ·rw[Yd1];simp only[hb,Ybq,if_false,pure_bind];exact e
   ·rcases h1 x d hd with z|⟨z,z'⟩
    ·exact .inl z
    ·exact .inr ⟨z,Yaj _ z'⟩
   ·rcases YaL.mp hy with z|z
    ·subst z;exact absurd hf hk
    ·exact h3 y z hf
theorem jbZ {β:Type}:∀{l:List (Str×β)} {x:Str} {c:β},(x,c)∈l->∃d,l.lookup x=some d/\(x,d)∈l
 |(n,k)::r,x,c,h=>by
  cases hx:x==n with
  |true=>
   refine⟨k,by simp only[Ya5,hx],?_⟩
   rw[eq_of_beq hx];exact Yaw
  |false=>
   rcases YaL.mp h with z|z
   ·cases z;simp at hx
   ·obtain⟨d,e,m⟩:=jbZ z;exact⟨d,by simp only[Ya5,hx];exact e,Yaj _ m⟩
theorem jdL {scope:Scope}{env:Env}(h:∀y∈scope.names,y.2=.free->∃c,env.cells.lookup y.1=some c) :
  ∃cl:List (Str×Addr),closureFor scope env=pure cl/\(∀x c,cl.lookup x=some c->env.cells.lookup x=some c)/\(∀y∈scope.names,y.2=.free->∃c,cl.lookup y.1=some c):=by
 obtain⟨cl,e,h1,_,h3⟩:=jbt env scope.names [] h;refine⟨cl,?_,λx c hx=>?_,λy hy hf=>?_⟩
 ·unfold closureFor;rw[<- e];simp only[bind_pure]
 ·rcases h1 x c (YaC hx)with z|⟨z,_⟩
  ·exact nomatch z
  ·exact z
 ·obtain⟨c,hc⟩:=h3 y hy hf;obtain⟨d,e,_⟩:=jbZ hc;exact⟨d,e⟩

noncomputable def jao (X:Cx)(N:List Str)(scope:Scope)(cl:List (Str×Addr))(C:Addr)(s₀:Shared)(H₀:Hp)(fp:List Addr):Cx where
 prog:=X.prog
 w:=X.w
 K:=X.K
 mg:=X.mg
 base:=X.base
 A:=X.A
 N:=N
 s₀:=s₀
 H₀:=H₀
 env:=compEnvC scope cl C X.env
 outer:=X.stack
 stack:=X.stack
 ex:=fp
 fn:=λx=>scope.names.lookup x==some .cell
 calm:=X.calm
 pn:=[]
 xe:=λ_ _=>False

noncomputable def cOk (oN:List Str)(on:List (Str×YbC))(N:List Str)(pick:List (Option Nat))(scope:Scope):Bool:=
 decide (scope.kind=.function)&&scope.names.all (λy=>y.2 != .cell||scope.names.lookup y.1==some .cell)&&scope.names.all (λy=>y.2 != .local||scope.names.lookup y.1==some .local)
  && scope.names.all (λy=>y.2 != .free||(scope.names.lookup y.1==some .free&&(on.lookup y.1==some .cell||on.lookup y.1==some .free)))
  && pick.length==N.length&&(N.zip pick).all (λp=>match p.2 with|none=>true|some j=>oN[j]?==some p.1&&scope.names.lookup p.1==some .free)

structure CScope (X:Cx)(N:List Str)(pick:List (Option Nat))(scope:Scope):Prop where
 kind:scope.kind=.function
 cells:∀y∈scope.names,y.2=.cell->scope.names.lookup y.1=some .cell
 names:∀y∈scope.names,y.2=.local->scope.names.lookup y.1=some .local
 fre:∀y∈scope.names,y.2=.free->scope.names.lookup y.1=some .free/\(X.env.kindOf y.1=some .cell\/X.env.kindOf y.1=some .free)
 len:pick.length=N.length
 caps:∀(i j:Nat) (x:Str),N[i]?=some x->pick[i]?=some (some j)->X.N[j]?=some x/\scope.names.lookup x=some .free
theorem jcw (f:Str->YbC->YbC):∀(names:List (Str×YbC)) (x:Str),(names.map λy=>(y.1,f y.1 y.2)).lookup x=(names.lookup x).map (f x)
 |[],_=>rfl
 |(n,k)::r,x=>by
  rw[YaF,Ya5,Ya5,jcw f r x];by_cases e:x=n
  ·subst e;rw[beq_self_eq_true];rfl
  ·rw[beq_false_of_ne e]
noncomputable def jiH (env:Env)(n:Str)(k:YbC):YbC:=if (k==YaK&&env.scope.kind == .function&&env.kindOf n==some .cell) then .cell else k
theorem jbS (env:Env)(names:List (Str×YbC))(x:Str) :
  (names.map λ(n,k)=>if (k==YaK&&env.scope.kind == .function&&env.kindOf n==some .cell) then (n,YaH) else (n,k)).lookup x=(names.lookup x).map (jiH env x):=by
 rw[<- jcw (jiH env)];congr 2;funext y;show ite _ _ _=(y.1,ite _ _ _);split<;>rfl
theorem jaM {env:Env}{names:List (Str×YbC)}{x:Str}(h:names.lookup x=some .free) :
  (names.map λ(n,k)=>if (k==YaK&&env.scope.kind == .function&&env.kindOf n==some .cell) then (n,YaH) else (n,k)).lookup x=some .cell\/
  (names.map λ(n,k)=>if (k==YaK&&env.scope.kind == .function&&env.kindOf n==some .cell) then (n,YaH) else (n,k)).lookup x=some .free:=by
 rw[jbS,h];show some (ite _ _ _)=_\/some (ite _ _ _)=_;split
 ·exact .inl rfl
 ·exact .inr rfl
theorem jav {env:Env}{q:YbC}(hq:q≠.free){names:List (Str×YbC)}{x:Str}(h:names.lookup x=some q) :
  (names.map λ(n,k)=>if (k==YaK&&env.scope.kind == .function&&env.kindOf n==some .cell) then (n,YaH) else (n,k)).lookup x=some q:=by
 rw[jbS,h];show some (ite _ _ _)=_;rw[beq_false_of_ne hq];rfl
theorem jbn {env:Env}:∀{names:List (Str×YbC)} {x:Str},
  ((names.map λ(n,k)=>if (k==YaK&&env.scope.kind == .function&&env.kindOf n==some .cell) then (n,YaH) else (n,k)).lookup x=some .cell\/
  (names.map λ(n,k)=>if (k==YaK&&env.scope.kind == .function&&env.kindOf n==some .cell) then (n,YaH) else (n,k)).lookup x=some .free)->(x,YaK)∈names\/(x,YaH)∈names
 |[],_,h=>by simp at h
 |(n,k)::r,x,h=>by
  have ih:_->_:=@jbn env r x;have h':Yd0 x ((if (k==YaK&&env.scope.kind == .function&&env.kindOf n==some .cell)=true then (n,YaH) else (n,k))::r.map λ(n,k)=>if (k==YaK&&env.scope.kind == .function&&env.kindOf n==some .cell) then (n,YaH) else (n,k))=some .cell\/Yd0 x ((if (k==YaK&&env.scope.kind == .function&&env.kindOf n==some .cell)=true then (n,YaH) else (n,k))::r.map λ(n,k)=>if (k==YaK&&env.scope.kind == .function&&env.kindOf n==some .cell) then (n,YaH) else (n,k))=some .free:=h
  by_cases hk:k=.free
  ·cases hx:x==n with
   |true=>rw[eq_of_beq hx,hk];exact .inl Yaw
   |false=>
    refine(ih ?_).imp (Yaj _) (Yaj _);by_cases hcc:(k==YaK&&env.scope.kind == .function&&env.kindOf n==some .cell)=true
    ·rw[if_pos hcc]at h';simpa only[Ya5,hx]using h'
    ·rw[if_neg hcc]at h';simpa only[Ya5,hx]using h'
  ·have hb:(k==YaK)=false:=by simpa using hk
   rw[if_neg (by simp[hb])]at h'
   cases hx:x==n with
   |true=>
    simp only[Ya5,hx]at h';rcases h' with z|z
    ·rw[eq_of_beq hx,Yar z];exact .inr Yaw
    ·exact absurd (Yar z) hk
   |false=>exact(ih (by simpa only[Ya5,hx]using h')).imp (Yaj _) (Yaj _)

theorem jaz:∀(names:List (Str×YbC)) (n:Nat) (acc:List (Str×Addr)),Ybg n names acc=Ybg n names []++acc
 |[],_,_=>rfl
 |(x,k)::r,n,acc=>by
  unfold Ybg;split
  ·rw[jaz r (n+1) ((x,n)::acc),jaz r (n+1) [(x,n)],Yds];rfl
  ·exact jaz r n acc
theorem jaK:∀(names:List (Str×YbC)) (n:Nat) {x:Str} {c:Addr},(x,c)∈Ybg n names []->(x,YaH)∈names
 |[],_,_,_,h=>nomatch h
 |(y,k)::r,n,x,c,h=>by
  unfold Ybg at h;split at h
  ·rename_i hk;rw[jaz]at h;rcases List.mem_append.mp h with h|h
   ·exact Yaj _ (jaK r _ h)
   ·have e:(x,c)=(y,n):=by simpa using h
    cases e;rw[eq_of_beq hk];exact Yaw
  ·exact Yaj _ (jaK r _ h)
theorem jdz {β:Type}:∀(l m:List (Str×β)) (x:Str),(l++m).lookup x=(l.lookup x).or (m.lookup x)
 |[],_,_=>by simp
 |(n,k)::r,m,x=>by
  rw[YfO,Ya5,Ya5];cases hx:x==n with
  |true=>simp
  |false=>exact jdz r m x
structure BCells (scope:Scope)(cl cs:List (Str×Addr))(lo:Nat)(h:Heap):Prop where
 lk:∀x c,cs.lookup x=some c->((x,YaH)∈scope.names/\lo<c/\h.IsCell c none)\/((x,YaH)∉scope.names/\cl.lookup x=some c)
 own:∀x,scope.names.lookup x=some .cell->∃c,cs.lookup x=some c/\lo<c
 old:∀x c,(x,YaH)∉scope.names->cl.lookup x=some c->cs.lookup x=some c
 inj:∀x y c,cs.lookup x=some c->cs.lookup y=some c->lo<c->x=y
theorem jhr {scope:Scope}{cl:List (Str×Addr)}{h:Heap}{lo:Nat}(hl:h.objs.size=lo+1)(S:∀y∈scope.names,y.2=.cell->scope.names.lookup y.1=some .cell)(hcl:∀x c,cl.lookup x=some c->c<=lo):BCells scope cl (Ybg (lo+1) scope.names cl) lo (Yex h scope.names):=by
 have ok:=cellsFrom_ok scope.names h (lo+1) [] ⟨λ_ _ hm=>(nomatch hm),Yec⟩ (by omega)
 rw[hl]at ok;have look:∀x,(Ybg (lo+1) scope.names cl).lookup x=((Ybg (lo+1) scope.names []).lookup x).or (cl.lookup x):=λx=>by rw[jaz,jdz]
 have own:∀x,(x,YaH)∈scope.names->∃c,(Ybg (lo+1) scope.names []).lookup x=some c:=λx hx=>jd6 (S _ hx rfl);refine⟨λx c e=>?_,λx hx=>?_,λx c hx hc=>?_,λx y c e1 e2 hc=>?_⟩
 ·rw[look]at e;by_cases hx:(x,YaH)∈scope.names
  ·obtain⟨c',e'⟩:=own x hx;rw[e',YdX]at e;have e:c'=c:=Yar e;subst e;obtain⟨z1,z2⟩:=ok.empty x c' (YaC e');exact .inl ⟨hx,z2,z1⟩
  ·cases q:(Ybg (lo+1) scope.names []).lookup x with
   |some c'=>exact absurd (jaK _ _ (YaC q)) hx
   |none=>rw[q,YdY]at e;exact .inr ⟨hx,e⟩
 ·obtain⟨c,e⟩:=own x (YaC hx);exact⟨c,by rw[look,e,YdX],(ok.empty x c (YaC e)).2⟩
 ·rw[look];cases q:(Ybg (lo+1) scope.names []).lookup x with
  |some c'=>exact absurd (jaK _ _ (YaC q)) hx
  |none=>rw[YdY];exact hc
 ·rw[look]at e1 e2;have new:∀x,((Ybg (lo+1) scope.names []).lookup x).or (cl.lookup x)=some c->(Ybg (lo+1) scope.names []).lookup x=some c:=λx e=>by
   cases q:(Ybg (lo+1) scope.names []).lookup x with
   |some c'=>rw[q,YdX]at e;exact e
   |none=>
    rw[q,YdY]at e;exact absurd (Yat hc (hcl x c e)) (Ybd _)
  exact name_of_addr ok.apart (YaC (new x e1)) (YaC (new y e2))
theorem jbL {M:Model}{A:Around}{E:Value->Shared->Prop}{s:Shared}{scope:Scope}{globals:Addr}{cl:List (Str×Addr)}{qual:Str}{env:Env}{Q:Env->Shared->Prop}
  (hQ:Q (newEnv scope s.heap.objs.size globals (Ybg (s.heap.objs.size+1) scope.names cl) qual none .none (some env) Ydn) { s with heap:=Yex (s.heap.push { cls:=.type "dict",data:=.dict #[] }) scope.names }) :
  wpAny M A (YeJ scope globals cl [] qual none .none (some env)) Q E s:=by
 have sz:(s.heap.push { cls:=.type "dict",data:=.dict #[] }).objs.size=s.heap.objs.size+1:=Ybs ..;unfold YeJ;rw[if_pos (by rfl)]
 refine Yad (wpAny_alloc (Yad (wpAny_layCells _ (λx k c=>by by_cases e:(k==YaH)=true<;>simp[e]) _ _ _ _ ?_)))
 rw[show Heap.objs (Shared.heap _)=(s.heap.push { cls:=.type "dict",data:=.dict #[] }).objs from rfl,sz];exact Yad (Yap (Yap hQ))

section
variable {X:Cx}{N:List Str}{scope:Scope}{cl:List (Str×Addr)}{C:Addr}{s₀:Shared}{H₀:Hp}{fp:List Addr}
theorem glc {x:Str}(h:scope.names.lookup x=some .globalImplicit):Gl (jao X N scope cl C s₀ H₀ fp) x:=jav (by decide) h
end

def PIfs (X:Cx)(ifs:List Expr)(t:TT):Prop:=
 ∀(pins:List (Addr×Obj)) (s:Shared) (σ:St) (H:Hp) (Q:Bool->Hp->Prop),Inv X pins σ H s->t σ H Q->
  wpAny (model X.prog X.w) X.A (jeV X.env ifs) (TP X pins σ Q) X.xe s
def jnS:TT:=λ_ H Q=>Q true H
theorem jjC {X:Cx}:PIfs X [] jnS:=λ_ _ _ H _ I h=>wpAny_tests_nil ⟨H,I,h⟩
theorem jjB {X:Cx}{c:Expr}{t:TT}(h:PT X c t):PIfs X [c] t:=λpins s σ H Q I q=>wpAny_tests_one (h pins s σ H Q I q)

abbrev TEm:=St->List V->Hp->(St->List V->Hp->Prop)->Prop
def jhv (J:It)(g:TG)(tt:TT)(tem:TEm)(QQ:St->List V->Hp->Prop)(τ0:St)(ys0:List V)(H1:Hp):Prop:=∃W:Nat->Nat->St->List V->Hp->Prop,
 (∃m,W 0 m τ0 ys0 H1)/\∀i m τ ys H,W i m τ ys H->
  (J.stop i H/\QQ τ ys H)\/(J.go i H/\∀x H',J.yld i H x H'->g x τ H' λτ2 H2=>tt τ2 H2 λb H3=>if b=true then tem τ2 ys H3 λτ3 ys' H4=>∃m',m'<m/\W (i+1) m' τ3 ys' H4
   else ∃m',m'<m/\W (i+1) m' τ2 ys H3)
def emA (te:TE)(D:Addr):TEm:=λτ ys H Q=>te τ H λv H4=>H4 D=some (.lst ys)/\ys.length<Yai/\Q τ (ys++[v]) (upd H4 D (.lst (ys++[v])))
def LcGG (J:It)(g:TG)(tt:TT)(tem:Addr->TEm)(D:Addr)(τ0:St)(Q:VK)(H1:Hp):Prop:=jhv J g tt (tem D) (λ_ _ H=>Q (.ref D) H) τ0 [] (upd H1 D (.lst []))
def PEm (Y:Cx)(em:Sem Unit)(tem:TEm):Prop:=∀(pins:List (Addr×Obj)) (s:Shared) (τ:St) (ys:List V) (H:Hp) (Q:St->List V->Hp->Prop),Inv Y pins τ H s->tem τ ys H Q->
 wpAny (model Y.prog Y.w) Y.A em (λ_ s'=>∃τ' ys' H',Inv Y pins τ' H' s'/\Q τ' ys' H') Y.xe s
def tLcG (pick:List (Option Nat))(wi:TI)(g:TG)(tt:TT)(tem:Addr->TEm):TE:=λσ H Q=>wi σ H λJ H1=>∀D,H1 D=none->LcGG J g tt tem D (pick.map λo=>o.bind λj=>(σ[j]?).join) Q H1
abbrev tLc (pick:List (Option Nat))(wi:TI)(g:TG)(tt:TT)(te:TE):TE:=tLcG pick wi g tt (emA te)
section
variable {X:Cx}{N:List Str}{pick:List (Option Nat)}{scope:Scope}{pins:List (Addr×Obj)}{σ:St}{s s3:Shared}{H H3:Hp}

theorem jf4 {cl cs:List (Str×Addr)}{fp:List Addr}{h₁:Heap}{tk:Nat}{mB:Str->Option Value}(S:CScope X N pick scope)(I3:Inv X pins σ H3 s3)(hf:∀b∈fp,FpOk X pins H3 b)(hlt:∀b∈fp,b<s3.heap.objs.size)
  (c1:∀x c,cl.lookup x=some c->X.env.cells.lookup x=some c) (c2:∀y∈scope.names,y.2=.free->∃c,cl.lookup y.1=some c) (B:BCells scope cl cs s3.heap.objs.size h₁)
  (hns:h₁.Ns s3.heap.objs.size mB) (hk:∀b o,s3.heap.get? b=some o->h₁.get? b=some o) :
  Inv (jao X N scope cs s3.heap.objs.size s3 H3 fp) [] (pick.map λo=>o.bind λj=>(σ[j]?).join) H3 { s3 with heap:=h₁,toks:=tk }:=by
 have fsub:∀b∈frs X.stack,b∈X.env.locals::X.fs:=I3.stkSub;have oc:∀x c,cs.lookup x=some c->X.env.cells.lookup x=some c\/s3.heap.objs.size<c:=λx c e=>by
  rcases B.lk x c e with⟨_,z,_⟩|⟨_,z⟩
  ·exact .inr z
  ·exact .inl (c1 x c z)
 have has:∀x,((x,YaK)∈scope.names\/(x,YaH)∈scope.names)->∃c,cs.lookup x=some c:=λx hx=>by
  by_cases hc:(x,YaH)∈scope.names
  ·obtain⟨c,e,_⟩:=B.own x (S.cells _ hc rfl);exact⟨c,e⟩
  ·rcases hx with hx|hx
   ·obtain⟨c,e⟩:=c2 _ hx rfl;exact⟨c,B.old x c hc e⟩
   ·exact absurd hx hc
 refine⟨⟨I3.ok.mod,S.kind,I3.ok.glob,I3.ok.blt,Yag _,λx y c e1 e2=>?_,λx hx=>has x (jbn hx),λx c z e=>?_,I3.ok.hd,I3.ok.frames,.inl rfl,λb hb=>⟨Yav (hlt b hb),λx c e=>?_⟩,
   I3.bs,Yan I3.ok.bsz I3.sz,λb o e hb=>?_,λb hb hm=>?_,I3.stack,I3.stkFree⟩,
  rfl,I3.bare,Un.kept hk,⟨_,hns,λi x v e1 e2 e3=>?_⟩,λx c e=>?_,I3.hok.fresh (Yag _),λx c e=>?_,λp hp=>absurd (show p∈([]:List (Addr×Obj))from hp) (by simp),I3.hok.kept hk,?_⟩
 ·by_cases hc:s3.heap.objs.size<c
  ·exact B.inj x y c e1 e2 hc
  ·exact I3.ok.inj x y c ((oc x c e1).resolve_right hc) ((oc y c e2).resolve_right hc)
 ·have z':scope.names.lookup x=some .cell:=eq_of_beq z;rcases B.lk x c e with⟨_,y,_⟩|⟨y,_⟩
  ·exact Yb2 y
  ·exact absurd (YaC z') y
 ·rcases oc x c e with z|z
  ·exact(hf b hb).2.2.2.2.1 x c z
  ·intro q;rw[q]at z;exact absurd (YdD z (hlt b hb)) (Ybd _)
 ·rcases(hf b hb).2.2.2.1 with z|z
  ·exact I3.ok.noex b o e z
  ·exact absurd (Yat (Yao e) (Yan I3.ok.bsz z)) (Ybd _)
 ·rcases YaL.mp (fsub b hm)with z|z
  ·exact(hf b hb).2.1 z
  ·exact(hf b hb).2.2.1 z
 ·-- a captured name
  have e2':∃j,pick[i]?=some (some j)/\σ[j]?=some (some v):=by
   rw[Yal]at e2;cases q:pick[i]? with
   |none=>rw[q]at e2;cases e2
   |some o=>
    rw[q]at e2;cases o with
    |none=>simp at e2
    |some j=>
     simp at e2;refine⟨j,rfl,?_⟩;cases q2:σ[j]? with
     |none=>rw[q2]at e2;cases e2
     |some w'=>rw[q2]at e2;simp at e2;rw[e2]
  obtain⟨j,ej,ev⟩:=e2';obtain⟨hN,hfr⟩:=S.caps i j x e1 ej;have hmem:(x,YaK)∈scope.names:=YaC hfr;have hnc:(x,YaH)∉scope.names:=λz=>by
   have:=S.cells _ z rfl;rw[hfr]at this;cases this
  obtain⟨_,hkind⟩:=S.fre _ hmem rfl;obtain⟨m,hn,hl⟩:=I3.loc;obtain⟨u,r,l⟩:=hl j x v hN ev (hkind.elim (λz=>.inr (.inl z)) λz=>.inr (.inr z));refine⟨u,r,.inr ⟨?_,?_⟩⟩
  ·exact jaM (env:=X.env) hfr
  ·obtain⟨c,hc⟩:=c2 _ hmem rfl;have hc':=c1 _ _ hc;rcases l with⟨z,_⟩|⟨_,c',e,o,ho,hd⟩
   ·rcases hkind with y|y
    ·rw[y]at z;cases z
    ·rw[y]at z;cases z
   ·have:c'=c:=by rw[hc']at e;exact(Yar e).symm
    subst this;exact⟨c',B.old x c' hnc hc,o,hk _ _ ho,hd⟩
 ·rcases B.lk x c e with⟨_,_,z⟩|⟨_,z⟩
  ·exact⟨none,z⟩
  ·obtain⟨v,o,ho,hd⟩:=I3.cell x c (c1 x c z);exact⟨v,o,hk _ _ ho,hd⟩
 ·rcases oc x c e with z|z
  ·exact I3.freeC x c z
  ·exact I3.hok.fresh (Yb2 z)
 ·rw[Yaa];exact S.len

theorem jii {cl:List (Str×Addr)}{fp:List Addr}{C:Addr}{τ:St}{H':Hp}{s':Shared}{pins':List (Addr×Obj)}(I3:Inv X pins σ H3 s3)(hf:∀b∈fp,FpOk X pins H3 b)(J:Inv (jao X N scope cl C s3 H3 fp) pins' τ H' s') :
  Inv X pins σ H' s':=I3.call' J.os J.base J.hok J.bare λb hb=>⟨(hf b hb).2.2.2.1,(hf b hb).2.1,(hf b hb).2.2.2.2.1,(hf b hb).2.2.2.2.2⟩

theorem jj7 {Y:Cx}{elt tg:Expr}{gens:List YbI}{pos ip:Pos}{ifs:List Expr}{dp:Nat}{acc:Value}{em:Sem Unit}{g:TG}{tt:TT}{tem:TEm}{J:It}{fp:List Addr}{it:Addr}{tn:Nat->Heap->Prop}{QQ:St->List V->Hp->Prop}{τ0:St}{ys0:List V}
  (yc:Y.calm=true) (yxe:Y.xe=λ_ _=>False)
  (hct:Yen (.ListComp elt gens scope pos) dp (.ref it) acc Y.env=jcW ip tg ifs (.ref it) Y.env em (.compLoop (.ListComp elt gens scope pos) dp (.ref it) acc Y.env))
  (yg:PG Y tg g) (yi:PIfs Y ifs tt) (ym:PEm Y em tem) (J0:Inv Y pins τ0 H s) (T:Turn Y.prog Y.w Y.K tg J fp it tn) (t0:tn 0 s.heap) (f0:∀b∈fp,FpOk Y pins H b) (hW:jhv J g tt tem QQ τ0 ys0 H) :
  codeAny (model Y.prog Y.w) Y.A (.compLoop (.ListComp elt gens scope pos) dp (.ref it) acc Y.env) (λr s'=>r=.ok .next/\∃τ' ys' H',Inv Y pins τ' H' s'/\QQ τ' ys' H') s:=by
 obtain⟨W,⟨m0,w0⟩,turn⟩:=hW;have stat:∀{H':Hp},(∀b∈fp,H' b=none)->∀b∈fp,FpOk Y pins H' b:=λhn b hb=>⟨hn b hb,(f0 b hb).2⟩;refine jeD (λn s'=>∃i τ ys H',Inv Y pins τ H' s'/\tn i s'.heap/\(∀b∈fp,H' b=none)/\W i n τ ys H') hct ?_ m0 ⟨0,_,ys0,_,J0,t0,λb hb=>(f0 b hb).1,w0⟩;rintro n s4 ⟨i,τ,ys,H4,J4,t4,fr4,w4⟩;rcases turn i n τ ys H4 w4 with⟨stop,q⟩|⟨go,step⟩
 ·refine Ybe (T.done Y rfl rfl rfl yc i pins s4 τ H4 (λ_ _=>False) J4 (stat fr4) t4 stop) (λr s5 ⟨hr,J5⟩=>?_) λ_ _ f=>f;subst hr;exact⟨rfl,τ,ys,H4,J5,q⟩
 ·refine Ybe (T.item Y rfl rfl rfl yc i pins s4 τ H4 (λ_ _=>False) J4 (stat fr4) t4 go) (λr s5 ⟨u,hr,h5⟩=>?_) λ_ _ f=>f;subst hr;refine Ybe h5 (λ_ s6 ⟨x,H6,J6,r6,y6,t6,fr6⟩=>?_) λ_ _ f=>f;have J6':=J6.pinned (stat fr6) (T.obj _ _ t6);have ag:=yg _ s6 τ H6 x u _ J6' r6 (step x H6 y6);rw[yxe]at ag;refine Ybe ag (λ_ s7 ⟨τ7,H7,J7,q7⟩=>?_) λ_ _ f=>f;have ai:=yi _ s7 τ7 H7 _ J7 q7;rw[yxe]at ai;refine Ybe ai (λok s8 ⟨H8,J8,q8⟩=>?_) λ_ _ f=>f;have again:∀{τ9:St} {H9:Hp} {s9:Shared} {zs:List V},Inv Y (pins++jek fp s6.heap) τ9 H9 s9->(∃m',m'<n/\W (i+1) m' τ9 zs H9)->∃m,m<n/\∃i τ ys H',Inv Y pins τ H' s9/\tn i s9.heap/\(∀b∈fp,H' b=none)/\W i m τ ys H':=λ{τ9 H9 s9 zs} J9 ⟨m',hm,w9⟩=>by
   refine⟨m',hm,i+1,τ9,zs,H9,J9.unpinned,T.keep _ _ _ t6 λb hb o e=>(J9.pin (b,o) (Yas _ (Yas _ (jbv hb e)))).1,λb hb=>?_,w9⟩;obtain⟨o,e,d⟩:=T.obj _ _ t6 b hb;exact(J9.pin (b,o) (Yas _ (Yas _ (jbv hb e)))).2.1
  cases ok with
  |false=>exact again J8 q8
  |true=>
   have am:=ym _ s8 τ7 ys H8 _ J8 q8;rw[yxe]at am;exact Ybe am (λ_ s9 ⟨τ9,zs,H9,J9,q9⟩=>again J9 q9) λ_ _ f=>f
theorem jiT {Y:Cx}{elt:Expr}{te:TE}{D:Addr}(yxe:Y.xe=λ_ _=>False)(he:PE Y elt te):PEm Y (do let _ <- call (.builtin "list.append") [.ref D,<- eval elt Y.env]) (emA te D):=by
 intro pins s τ ys H Q J q;have ae:=he _ s τ H _ J q;refine Yad (Ybe ae (λv s9 ⟨z,H9,J9,r9,hD9,hz9,q9⟩=>?_) λ_ _ f=>f);have aa:=jeq (X:=Y) _ s9 τ H9 (.ref D) [z] (.ref D) [v] (λx H'=>H'=upd H9 D (.lst (ys++[z]))) J9 rfl (.cons r9 .nil) ⟨_,ys,z,rfl,rfl,hD9,hz9,rfl⟩;refine Yad (Ybe aa (λ_ s10 ⟨_,H10,J10,_,e10⟩=>?_) λ_ _ f=>f);subst e10;exact Yap ⟨τ,_,_,J10,q9⟩
section
variable {tg iter elt:Expr}{ifs:List Expr}
theorem jfv {rest:List YbI}{pos:Pos}{g:TG}{tt:TT}{tem:Addr->TEm}{em:Addr->Env->Sem Unit}{J:It}{fp:List Addr}{it:Addr}{tn:Nat->Heap->Prop}{cl:List (Str×Addr)}{Q:VK}{E:Value->Shared->Prop}{RR:Value->Addr->Result->Shared->Prop}
  (hc:X.calm=true) (S:CScope X N pick scope) (c1:∀x c,cl.lookup x=some c->X.env.cells.lookup x=some c) (c2:∀y∈scope.names,y.2=.free->∃c,cl.lookup y.1=some c)
  (hg:∀cl C s₀ H₀ fp,PG (jao X N scope cl C s₀ H₀ fp) tg g) (hi:∀cl C s₀ H₀ fp,PIfs (jao X N scope cl C s₀ H₀ fp) ifs tt) (he:∀D cl C s₀ H₀ fp,PEm (jao X N scope cl C s₀ H₀ fp) (em D (jao X N scope cl C s₀ H₀ fp).env) (tem D))
  (hct:∀(it:Value) (D:Addr) (env:Env),Yen (.ListComp elt (⟨tg,iter,ifs,0⟩::rest) scope pos) 0 it (.ref D) env=jcW iter.pos tg ifs it env (em D env) (.compLoop (.ListComp elt (⟨tg,iter,ifs,0⟩::rest) scope pos) 0 it (.ref D) env))
  (I2:Inv X pins σ H s) (T:Turn X.prog X.w X.K tg J fp it tn) (st:tn 0 s.heap) (hf:∀b∈fp,FpOk X pins H b)
  (hW:∀D,H D=none->LcGG J g tt tem D (pick.map λo=>o.bind λj=>(σ[j]?).join) Q H)
  (hRR:∀D C H' s',Inv X pins σ H' s'->(∃m,s'.heap.Ns C m)->FpOk X pins H' C->Q (.ref D) H'->RR (.ref D) C (.ok .next) s') :
  wpAny (model X.prog X.w) X.A (newList []) (λacc s₃=>wpAny (model X.prog X.w) X.A (YeJ scope X.env.globals cl [] X.env.qual none .none (some X.env)) (λcenv s₄=>
   codeAny (model X.prog X.w) X.A (.compStart (.ListComp elt (⟨tg,iter,ifs,0⟩::rest) scope pos) 0 (.ref it) acc { cenv with scope:=relabel scope X.env }) (RR acc cenv.locals) s₄) E s₃) E s:=by
 have hD:H s.heap.objs.size=none:=I2.hok.fresh (Yag _);have hlt:∀b∈fp,b<s.heap.objs.size:=λb hb=>let ⟨o,e,_⟩:=T.obj _ _ st b hb;Yao e
 refine Ya3 (jbL ?_);have I3:Inv X pins σ (upd H s.heap.objs.size (.lst [])) { s with heap:=s.heap.push { cls:=.type "list",dict:=none,data:=.seq ([]:List Value).toArray } }:=
  I2.laid (t':=s.toks) (λb u e=>Yab _ e) (Yag _) ⟨Ybb _,[],0,.nil,Yaq _ rfl⟩
 generalize hs3:({ s with heap:=s.heap.push { cls:=.type "list",dict:=none,data:=.seq ([]:List Value).toArray } }:Shared)=s3 at I3 ⊢
 have hsz:s3.heap.objs.size=s.heap.objs.size+1:=by rw[<- hs3];exact Ybs ..
 have hf3:∀b∈fp,FpOk X pins (upd H s.heap.objs.size (.lst [])) b:=λb hb=>⟨by rw[jad (Yav (hlt b hb))];exact(hf b hb).1,(hf b hb).2⟩
 have hsz':(s3.heap.push { cls:=.type "dict",data:=.dict #[] }).objs.size=s3.heap.objs.size+1:=Ybs ..;have hk:∀b o,s3.heap.get? b=some o->(Yex (s3.heap.push { cls:=.type "dict",data:=.dict #[] }) scope.names).get? b=some o:=λb o e=>pushCells_keeps _ _ b o (Yab _ e);have hns₁:(Yex (s3.heap.push { cls:=.type "dict",data:=.dict #[] }) scope.names).Ns s3.heap.objs.size λ_=>none:=(Heap.Ns.new s3.heap (.type "dict")).keeps (pushCells_keeps _ _);have B:=jhr (cl:=cl) hsz' S.cells λx c e=>by
  obtain⟨v,z⟩:=I3.cell x c (c1 x c e);exact Yb2 z.lt
 generalize Yex (s3.heap.push { cls:=.type "dict",data:=.dict #[] }) scope.names=h₁ at hk hns₁ B ⊢;generalize Ybg (s3.heap.objs.size+1) scope.names cl=cs at B ⊢;have c1':∀x c,cs.lookup x=some c->X.env.cells.lookup x=some c\/s3.heap.objs.size<c:=λx c e=>by
  rcases B.lk x c e with⟨_,z,_⟩|⟨_,z⟩
  ·exact .inr z
  ·exact .inl (c1 x c z)
 have st1:tn 0 h₁:=T.keep _ _ _ st λb _ o e=>hk b o (by rw[<- hs3];exact Yab _ e)
 have IY:Inv (jao X N scope cs s3.heap.objs.size s3 (upd H s.heap.objs.size (.lst [])) fp) [] (pick.map λo=>o.bind λj=>(σ[j]?).join) (upd H s.heap.objs.size (.lst [])) { s3 with heap:=h₁ }:=
  jf4 (tk:=s3.toks) S I3 hf3 (λb hb=>Yat (hlt b hb) (by omega)) c1 c2 B hns₁ hk
 generalize hY:jao X N scope cs s3.heap.objs.size s3 (upd H s.heap.objs.size (.lst [])) fp=Y at IY;have yg:PG Y tg g:=hY ▸ hg _ _ _ _ _;have yi:PIfs Y ifs tt:=hY ▸ hi _ _ _ _ _;have ye:PEm Y (em s.heap.objs.size Y.env) (tem s.heap.objs.size):=hY ▸ he _ _ _ _ _ _;have yprog:Y.prog=X.prog:=by rw[<- hY];rfl
 have yw:Y.w=X.w:=by rw[<- hY];rfl
 have yK:Y.K=X.K:=by rw[<- hY];rfl
 have yA:Y.A=X.A:=by rw[<- hY];rfl
 have yc:Y.calm=true:=by rw[<- hY];exact hc
 have yenv:Y.env=compEnvC scope cs s3.heap.objs.size X.env:=by rw[<- hY];rfl
 have yex:∀b,b∈Y.ex↔b∈fp:=λb=>by rw[<- hY];rfl
 have yxe:Y.xe=λ_ _=>False:=by rw[<- hY];rfl
 have ypn:Y.pn=[]:=by rw[<- hY];rfl
 have yfs:∀b,b∈Y.fs->b∈X.env.locals::X.fs:=λb hb=>I3.stkSub b (by rw[<- hY]at hb;exact hb)
 have stat:∀{H':Hp},(∀b∈fp,H' b=none)->∀b∈fp,FpOk Y [] H' b:=λhn b hb=>by
  refine⟨hn b hb,?_,λhm=>?_,.inl ((yex b).mpr hb),λx c e=>?_,λp hp=>?_⟩
  ·rw[yenv];show b≠s3.heap.objs.size;exact Yav (Yat (hlt b hb) (by omega))
  ·rcases YaL.mp (yfs b hm)with z|z
   ·exact(hf b hb).2.1 z
   ·exact(hf b hb).2.2.1 z
  ·rw[yenv]at e;rcases c1' x c e with z|z
   ·exact(hf b hb).2.2.2.2.1 x c z
   ·intro q;rw[q]at z;exact absurd (YdD z (Yat (hlt b hb) (by omega))) (Ybd _)
  ·rw[ypn]at hp;simp at hp
 have fin:∀{τ:St} {H':Hp} {s':Shared},Inv Y [] τ H' s'->Q (.ref s.heap.objs.size) H'->RR (.ref s.heap.objs.size) s3.heap.objs.size (.ok .next) s':=λ{τ H' s'} J q=>by
  have fr:H' s3.heap.objs.size=none:=by have:=J.free;rw[yenv]at this;exact this
  obtain⟨m,hn,_⟩:=J.loc;rw[yenv]at hn;exact hRR _ _ H' s' (jii I3 hf3 (hY ▸ J)) ⟨m,hn⟩ (I3.fpOk (Yag _) fr) q
 have hn:∀b∈fp,upd H s.heap.objs.size (.lst []) b=none:=λb hb=>(hf3 b hb).1;have lp:=jj7 (pins:=[]) (s:={ s3 with heap:=h₁ }) (acc:=.ref s.heap.objs.size) (ifs:=ifs) (em:=em s.heap.objs.size Y.env) yc yxe (hct (.ref it) s.heap.objs.size Y.env) yg yi ye IY (by rw[yprog,yw,yK];exact T) st1 (stat hn) (hW _ hD)
 rw[yprog,yw,yA,yenv]at lp;have lp:=Yef lp (R':=RR (.ref s.heap.objs.size) s3.heap.objs.size) λr s' ⟨hr,τ',ys',H',I',q'⟩=>by subst hr;exact fin I' q'
 show codeAny (model X.prog X.w) X.A (.compStart (.ListComp elt (⟨tg,iter,ifs,0⟩::rest) scope pos) 0 (.ref it) (.ref s.heap.objs.size) (compEnvC scope cs s3.heap.objs.size X.env)) (RR (.ref s.heap.objs.size) s3.heap.objs.size) _;exact codeAny_compStart_list lp (T.self _ 0 _ _ _ st1 lp)

theorem jlN {pos:Pos}{wi:TI}{g:TG}{tt:TT}{rest:List YbI}{tem:Addr->TEm}{em:Addr->Env->Sem Unit}(hc:X.calm=true)(S:CScope X N pick scope)(hw:PI X tg iter wi)
  (hg:∀cl C s₀ H₀ fp,PG (jao X N scope cl C s₀ H₀ fp) tg g) (hi:∀cl C s₀ H₀ fp,PIfs (jao X N scope cl C s₀ H₀ fp) ifs tt) (he:∀D cl C s₀ H₀ fp,PEm (jao X N scope cl C s₀ H₀ fp) (em D (jao X N scope cl C s₀ H₀ fp).env) (tem D))
  (hct:∀(it:Value) (D:Addr) (env:Env),Yen (.ListComp elt (⟨tg,iter,ifs,0⟩::rest) scope pos) 0 it (.ref D) env=jcW iter.pos tg ifs it env (em D env) (.compLoop (.ListComp elt (⟨tg,iter,ifs,0⟩::rest) scope pos) 0 it (.ref D) env))
  (hs:∀x,Ya4 iter X.env x=pure x:=by intro _;rfl):PE X (.ListComp elt (⟨tg,iter,ifs,0⟩::rest) scope pos) (tLcG pick wi g tt tem):=by
 intro pins s σ H Q I h;obtain⟨cl,hclos,c1,c2⟩:=jdL (scope:=scope) (env:=X.env) λy hy hf=>I.ok.has _ (S.fre y hy hf).2;rw[eval_ListComp];refine YeV (use:=none) rfl hs hclos S.kind S.names (thn (hw pins s σ H _ I h) λv s1 h1=>thn h1 λitv s2 h2=>?_);obtain⟨it,fp,tn,J,H2,e,I2,T,st2,f2,hW⟩:=h2;subst e;refine jfv (RR:=λacc C=>compPost (model X.prog X.w) X.A X.xe none (EP X pins σ Q) acc C) hc S c1 c2 hg hi he hct I2 T st2 f2 hW λD C H' s' J' ⟨m,hn⟩ fC q=>?_;refine⟨m,hn,λh' hs'=>⟨.ref D,H',?_,rfl,q⟩⟩;exact J'.turned (t':=s'.toks) (it:=C) (λb o hb e=>hs'.extBut b o hb e) fC.1 fC.2.1 fC.2.2.2.1 fC.2.2.2.2.1 fC.2.2.2.2.2

theorem jly {pos py spos:Pos}{wi:TI}{g:TG}{tt:TT}{rest:List YbI}{tem:Addr->TEm}{em:Addr->Env->Sem Unit}{i:Nat}{y:Str}(hN:X.N.Nodup)(hi':X.N[i]?=some y)(hy:X.env.scope.names.lookup y=some .local)(hc:X.calm=true)(S:CScope X N pick scope)(hw:PI X tg iter wi)
  (hg:∀cl C s₀ H₀ fp,PG (jao X N scope cl C s₀ H₀ fp) tg g) (hi:∀cl C s₀ H₀ fp,PIfs (jao X N scope cl C s₀ H₀ fp) ifs tt) (he:∀D cl C s₀ H₀ fp,PEm (jao X N scope cl C s₀ H₀ fp) (em D (jao X N scope cl C s₀ H₀ fp).env) (tem D))
  (hct:∀(it:Value) (D:Addr) (env:Env),Yen (.ListComp elt (⟨tg,iter,ifs,0⟩::rest) scope pos) 0 it (.ref D) env=jcW iter.pos tg ifs it env (em D env) (.compLoop (.ListComp elt (⟨tg,iter,ifs,0⟩::rest) scope pos) 0 it (.ref D) env))
  (hsw:YcX (.ListComp elt (⟨tg,iter,ifs,0⟩::rest) scope pos) (some (.Name y py)) spos.line X.env=pure true) (hs:∀x,Ya4 iter X.env x=pure x:=by intro _;rfl) :
  PS X (.Assign [.Name y py] (.ListComp elt (⟨tg,iter,ifs,0⟩::rest) scope pos) spos) (tAsg (tLcG pick wi g tt tem) (jid i)):=by
 intro pins s σ H D0 I h;obtain⟨cl,hclos,c1,c2⟩:=jdL (scope:=scope) (env:=X.env) λy hy hf=>I.ok.has _ (S.fre y hy hf).2;rw[exec_Assign_Name_used _ _ _ _ hsw];refine Yad (Yc5 (Yad ?_));show wpAny _ _ (do let _ <- comprehension (.ListComp elt (⟨tg,iter,ifs,0⟩::rest) scope pos) scope X.env _ (newList []) false (eval iter X.env) (some (assign (.Name y py) X.env))) _ _ s
 refine Yad (thn (YeV (use:=some (assign (.Name y py) X.env)) (Q:=λ_ s'=>SP X pins D0 .next s') rfl hs hclos S.kind S.names
  (thn (hw pins s σ H _ I h) λv s1 h1=>thn h1 λitv s2 h2=>?_)) λ_ s' hq=>Yap (Yap hq))
 obtain⟨it,fp,tn,J,H2,e,I2,T,st2,f2,hW⟩:=h2;subst e;refine jfv (Q:=λx H1=>jid i x σ H1 D0.nx) (RR:=λacc C=>compPost (model X.prog X.w) X.A X.xe (some (assign (.Name y py) X.env)) (λ_ s'=>SP X pins D0 .next s') acc C) hc S c1 c2 hg hi he hct I2 T st2 f2 hW λD C H' s' J' ⟨m,hn⟩ fC q=>?_
 show wpAny _ _ (assign (.Name y py) X.env (.ref D)) _ _ _;refine wpAny_assign_Name (jeg (v:=.ref D) J' hN hi' (.inl hy) rfl (λs'' J'' ⟨a,sb,ha⟩=>?_) (.inr hy));have hne:C≠a:=by
  rcases ha with z|z
  ·rw[z];exact fC.2.1
  ·exact λe=>fC.2.2.2.2.1 y a z e.symm
 refine⟨m,hn.sameBut sb hne,λh' hs'=>?_⟩;refine⟨_,H',J''.turned (t':=s''.toks) (it:=C) (λb o hb e=>hs'.extBut b o hb e) fC.1 fC.2.1 fC.2.2.2.1 fC.2.2.2.2.1 fC.2.2.2.2.2,q⟩
theorem jok {pos:Pos}{wi:TI}{g:TG}{tt:TT}{te:TE}(hc:X.calm=true)(S:CScope X N pick scope)(hw:PI X tg iter wi)
  (hg:∀cl C s₀ H₀ fp,PG (jao X N scope cl C s₀ H₀ fp) tg g) (hi:∀cl C s₀ H₀ fp,PIfs (jao X N scope cl C s₀ H₀ fp) ifs tt) (he:∀cl C s₀ H₀ fp,PE (jao X N scope cl C s₀ H₀ fp) elt te)
  (hs:∀x,Ya4 iter X.env x=pure x:=by intro _;rfl):PE X (.ListComp elt [⟨tg,iter,ifs,0⟩] scope pos) (tLc pick wi g tt te):=
 jlN (em:=λD env=>do let _ <- call (.builtin "list.append") [.ref D,<- eval elt env]) (rest:=[]) hc S hw hg hi (λD cl C s₀ H₀ fp=>jiT rfl (he cl C s₀ H₀ fp)) (λ_ _ _=>rfl) hs
theorem jod {pos:Pos}{wi:TI}{g:TG}{tt:TT}{te:TE}{py spos:Pos}{i:Nat}{y:Str}(hN:X.N.Nodup)(hi':X.N[i]?=some y)(hy:X.env.scope.names.lookup y=some .local)(hc:X.calm=true)(S:CScope X N pick scope)(hw:PI X tg iter wi)
  (hg:∀cl C s₀ H₀ fp,PG (jao X N scope cl C s₀ H₀ fp) tg g) (hi:∀cl C s₀ H₀ fp,PIfs (jao X N scope cl C s₀ H₀ fp) ifs tt) (he:∀cl C s₀ H₀ fp,PE (jao X N scope cl C s₀ H₀ fp) elt te)
  (hsw:YcX (.ListComp elt [⟨tg,iter,ifs,0⟩] scope pos) (some (.Name y py)) spos.line X.env=pure true) (hs:∀x,Ya4 iter X.env x=pure x:=by intro _;rfl):PS X (.Assign [.Name y py] (.ListComp elt [⟨tg,iter,ifs,0⟩] scope pos) spos) (tAsg (tLc pick wi g tt te) (jid i)):=
 jly (em:=λD env=>do let _ <- call (.builtin "list.append") [.ref D,<- eval elt env]) (rest:=[]) hN hi' hy hc S hw hg hi (λD cl C s₀ H₀ fp=>jiT rfl (he cl C s₀ H₀ fp)) (λ_ _ _=>rfl) hsw hs
end
end

mutual
inductive DV (K:Yac)(H:Hp):V->PyData->Prop
 |non:DV K H .non .none
 |bl (b:Bool):DV K H (.bl b) (.bool b)
 |int (i:Int):DV K H (.int i) (.int i)
 |str (x:Str):DV K H (.str x) (.str x)
 |tup {a:Addr} {xs:List V} {ds:List PyData}:SqT K H a xs->DVs K H xs ds->DV K H (.ref a) (.tuple ds)
 |lst {a:Addr} {xs:List V} {ds:List PyData}:Rd H a (.lst xs)->DVs K H xs ds->DV K H (.ref a) (.list ds)
 |dic {a:Addr}:H a=some (.dK [])->DV K H (.ref a) (.dict [])
inductive DVs (K:Yac)(H:Hp):List V->List PyData->Prop
 |nil:DVs K H [] []
 |cons {x:V} {d:PyData} {xs:List V} {ds:List PyData}:DV K H x d->DVs K H xs ds->DVs K H (x::xs) (d::ds)
end
section
variable {K:Yac}{H H':Hp}
end
mutual
noncomputable def noL:PyData->Bool
 |.list _=>false
 |.tuple xs=>noLs xs
 |.dict _=>false
 |.none|.bool _|.int _|.str _=>true
noncomputable def noLs:List PyData->Bool
 |[]=>true
 |x::r=>noL x&&noLs r
end
section
variable {K:Yac}{H H':Hp}
def TK (H H':Hp):Prop:=∀b xs,H b=some (.tup xs)->H' b=some (.tup xs)
end

theorem Inv.noSys {X:Cx}{pins:List (Addr×Obj)}{σ:St}{H:Hp}{s:Shared}(I:Inv X pins σ H s){a:Addr}{o:Obj}(h:s.heap.get? a=some o)(c:o.cls=.type "list"):YaY≠a:=λe=>by
 obtain⟨o',l,c'⟩:=I.mod.sys;have:=I.kIn _ _ l;rw[e,h]at this;cases this;rw[c]at c';exact absurd c' (by decide)
mutual
theorem DV.reads2 {X:Cx}{pins:List (Addr×Obj)}{σ:St}{H:Hp}{s:Shared}(I:Inv X pins σ H s):∀{x:V} {d:PyData} {u:Value},DV X.K H x d->RelV x u->∃as,Reads s.heap u d as/\YaY∉as
 |_,_,_,.non,r=>by cases r;exact⟨_,.none,by simp⟩
 |_,_,_,.bl b,r=>by cases r;exact⟨_,.bool b,by simp⟩
 |_,_,_,.int i,r=>by obtain⟨t,rfl⟩:=r;exact⟨_,.int i t,by simp⟩
 |_,_,_,.str x,r=>by obtain⟨t,rfl⟩:=r;exact⟨_,.str x t,by simp⟩
 |_,_,_,.tup e h,r=>by
  cases r
  obtain⟨its,rv,⟨o,ho,hc,n,hd⟩,_⟩:=I.tuple e
  obtain⟨as,q,z⟩:=DVs.reads2 I h rv
  exact⟨_,.tuple ho hc hd q,z⟩
 |_,_,_,@DV.lst _ _ a _ _ e h,r=>by
  cases r
  obtain⟨its,rv,⟨o,n,ho,hc,_,hd⟩,_⟩:=I.list (.inl e)
  obtain⟨as,q,z⟩:=DVs.reads2 I h rv
  refine⟨_,.list ho hc hd q,λhm=>?_⟩
  rcases YaL.mp hm with hm|hm
  ·exact I.noSys ho hc hm
  ·exact z hm
 |_,_,_,@DV.dic _ _ a e,r=>by
  cases r
  obtain⟨_,hS,vs,kv,o,es,ep,ho,hx,hd,_,hp,_⟩:([]:List (Key×V)).length<=Yai/\(a==YaY)=false/\∃vs,KV [] vs/\s.heap.DictOf (jai X.prog X.w) a vs:=I.hok a _ e
  have e0:es.toList=[]:=by
   cases kv
   revert hp
   cases es.toList with
   |nil=>exact λ_=>rfl
   |cons x r=>exact λhp=>(nomatch hp)
  refine⟨_,.dict (kvs:=[]) (as:=[]) (bs:=[]) ho hx.1 hd (by rw[e0];exact .nil) (by rw[e0];exact .nil),λhm=>?_⟩
  have:YaY=a:=by simpa using hm
  rw[<- this]at hS
  exact absurd hS (by simp)
theorem DVs.reads2 {X:Cx}{pins:List (Addr×Obj)}{σ:St}{H:Hp}{s:Shared}(I:Inv X pins σ H s):∀{xs:List V} {ds:List PyData} {us:List Value},DVs X.K H xs ds->Vals xs us->∃as,ReadsAll s.heap us ds as/\YaY∉as
 |_,_,_,.nil,r=>by cases r;exact⟨_,.nil,by simp⟩
 |_,_,_,.cons a b,r=>by
  cases r with
  |cons r rr=>
   obtain⟨as,q,z⟩:=DV.reads2 I a r
   obtain⟨bs,q',z'⟩:=DVs.reads2 I b rr
   exact⟨_,.cons q q',by rw[List.mem_append,not_or];exact⟨z,z'⟩⟩
end
section
variable {X:Cx}{pins:List (Addr×Obj)}{σ:St}{H:Hp}{s:Shared}
theorem DV.reads (I:Inv X pins σ H s){x:V}{d:PyData}{u:Value}(h:DV X.K H x d)(r:RelV x u):∃as,Reads s.heap u d as:=let ⟨as,q,_⟩:=DV.reads2 I h r;⟨as,q⟩
theorem DVs.reads (I:Inv X pins σ H s){xs:List V}{ds:List PyData}{us:List Value}(h:DVs X.K H xs ds)(r:Vals xs us):∃as,ReadsAll s.heap us ds as:=let ⟨as,q,_⟩:=DVs.reads2 I h r;⟨as,q⟩

end
structure Fits (n k:Nat)(d:PyData):Prop where
 sh:d.showable=true
 ln:d.shown.length<=n
 dp:d.depth<=k
theorem Fits.mono {n n' k k':Nat}{d:PyData}(h:Fits n k d)(h1:n<=n')(h2:k<=k'):Fits n' k' d:=⟨h.sh,Yan h.ln h1,Yan h.dp h2⟩
theorem Fits.int {i:Int}(h:i.natAbs<2 ^ 1000):Fits 1921 0 (.int i):=by
 have hl:i.natAbs.log2<1920:=by
  by_cases z:i.natAbs=0
  ·rw[z];decide
  ·exact Yat ((Nat.log2_lt z).mpr h) (by decide)
 refine⟨by simp[YdB,hl],?_,Yag _⟩
 simp only[Yb9];exact int_text_len_1921 hl
theorem Fits.str {x:Str}{m:Nat}(h:x.length<=m)(hc:∀c∈x.cps.toList,c<16 ^ 8):Fits (10*m+2) 0 (.str x):=by
 refine⟨rfl,?_,Yag _⟩;simp only[Yb9];exact Yan (StrLaws.reprText_len x hc) (by omega)
theorem jhO {ts:List Str}{n:Nat}(h:∀t∈ts,t.length<=n):piled ts<=ts.length*(n+2):=by
 induction ts with
 |nil=>simp[piled]
 |cons t r ih=>
  have h1:=h t Yaw;have h2:=ih λq hq=>h q (Yaj _ hq);rw[piled_cons,YaB,Nat.add_mul];omega
theorem jcr:∀{ds:List PyData} {t:Str},t∈Yb0 ds->∃d∈ds,t=d.shown
 |[],_,h=>by simp[Yb0]at h
 |d::r,t,h=>by
  simp only[Yb0,YaL]at h;rcases h with h|h
  ·exact⟨d,Yaw,h⟩
  ·obtain⟨e,he,q⟩:=jcr h;exact⟨e,Yaj _ he,q⟩
theorem jbm:∀ds:List PyData,(Yb0 ds).length=ds.length
 |[]=>rfl
 |_::r=>by simp[Yb0,jbm r]
theorem jkh (ts:List Str):(Str.join ", " ts).length<=piled ts:=by
 rcases Classical.em (ts=[])with rfl|hz
 ·exact Ybb _
 ·exact Nat.le_of_add_right_le (YdE (join_length_add ts hz))
theorem jed {ts:List Str}{n:Nat}(h:∀t∈ts,t.length<=n):(tupleText ts).length<=ts.length*(n+2)+3:=by
 have hp:=Yan (jkh ts) (jhO h);have two:∀b:Bool,((((if b=true then ",)" else ")"):String):Str)).length<=2:=by decide
 have z:=two (ts.length==1);have one:(("(" : String):Str).length=1:=rfl
 simp only[tupleText,strLen_append]at z ⊢;omega
theorem jbC:∀{ds:List PyData},(∀d∈ds,d.showable=true)->YeP ds=true
 |[],_=>rfl
 |d::r,h=>by simp[YeP,h d Yaw,jbC λq hq=>h q (Yaj _ hq)]
theorem jda:∀{ds:List PyData} {k:Nat},(∀d∈ds,d.depth<=k)->Yb1 ds<=k
 |[],_,_=>Ybb _
 |d::r,k,h=>by
  simp only[Yb1];exact Nat.max_le.mpr ⟨h d Yaw,jda λq hq=>h q (Yaj _ hq)⟩
theorem Fits.tup {n k:Nat}{ds:List PyData}(h:∀d∈ds,Fits n k d):Fits (ds.length*(n+2)+3) (k+1) (.tuple ds):=by
 refine⟨?_,?_,?_⟩
 ·simp only[YdB];exact jbC λd hd=>(h d hd).sh
 ·simp only[Yb9];have:=jed (ts:=Yb0 ds) (n:=n) λt ht=>by obtain⟨d,hd,e⟩:=jcr ht;rw[e];exact(h d hd).ln
  rw[jbm]at this;exact this
 ·simp only[PyData.depth];exact Nat.succ_le_succ (jda λd hd=>(h d hd).dp)
theorem Fits.tupLe {n k m N:Nat}{ds:List PyData}(hl:ds.length<=m)(h:∀d∈ds,Fits n k d)(hN:m*(n+2)+3<=N):Fits N (k+1) (.tuple ds):=
 (Fits.tup h).mono (Yan (Nat.add_le_add_right (Nat.mul_le_mul_right _ hl) _) hN) (Yag _)
def jn8 (K:Yac):List V->Hp->VK->Prop:=λxs H Q=>∃x d,xs=[x]/\DV K H x d/\Fits 16000000 60 d/\Q (.str d.shown) H
theorem jf5 {X:Cx}{k:Nat}(hr:Room k X.A):jaX X (.builtin "repr") (jn8 X.K):=by
 intro pins s σ H xs us Q I r h;obtain⟨x,d,rfl,dv,ft,q⟩:=h;obtain⟨u,rfl,ru⟩:=jb9 r;have hu:=hr.un;have done:∀(h':Heap) (u':Tok) (tk:Nat),(∀b o,s.heap.get? b=some o->h'.get? b=some o)->EP X pins σ Q (.str d.shown u') { s with heap:=h',toks:=tk }:=λh' u' tk hk=>
  ⟨.str d.shown,H,I.kept (t':=tk) hk,⟨u',rfl⟩,q⟩
 have hz:d.shown.length<=Yai:=Yan ft.ln (by decide)
 cases dv with
 |non=>cases ru;exact P.repr_of_none (done _ _ _ λ_ _ e=>e)
 |bl b=>cases ru;exact P.repr_of_bool (by have:=done s.heap s.toks (s.toks+1) λ_ _ e=>e;simp only[Yb9]at this;exact this)
 |int i=>
  obtain⟨t,rfl⟩:=ru;refine P.repr_of_int (by simpa[YdB]using ft.sh) ?_
  have:=done s.heap s.toks (s.toks+1) λ_ _ e=>e;simp only[Yb9]at this;exact this
 |str x=>
  obtain⟨t,rfl⟩:=ru;simp only[Yb9]at hz;refine P.repr_of_str ?_ hz;have:=done s.heap s.toks (s.toks+1) λ_ _ e=>e;simp only[Yb9]at this;exact this
 |@tup a xs ds e hd=>
  obtain⟨as,rd,hsy⟩:=DV.reads2 I (DV.tup e hd) ru;cases ru;exact YeI rd ft.sh (λ_=>hsy) hr.gd (by have:=ft.dp;omega) (λ_ _ e=>e) (λh' u' tk hk=>done h' u' tk hk) hz
 |@lst a xs ds e hd=>
  obtain⟨as,rd,hsy⟩:=DV.reads2 I (DV.lst e hd) ru;cases ru;exact YeI rd ft.sh (λ_=>hsy) hr.gd (by have:=ft.dp;omega) (λ_ _ e=>e) (λh' u' tk hk=>done h' u' tk hk) hz
 |@dic a e=>
  obtain⟨as,rd,hsy⟩:=DV.reads2 I (DV.dic e) ru;cases ru;exact YeI rd ft.sh (λ_=>hsy) hr.gd (by have:=ft.dp;omega) (λ_ _ e=>e) (λh' u' tk hk=>done h' u' tk hk) hz
section
variable {X:Cx}{k:Nat}{x:Str}{ps:List Str}{sp:Sp}{e:Expr}{es:List Expr}{t:TA}{p pos:Pos}
end
def Sm (f:Addr)(H H':Hp):Prop:=∀b o,b≠f->H b=some o->H' b=some o
def LcW (n k:Nat)(caps:St)(Pv:Nat->List V->Hp->Prop):Nat->Nat->St->List V->Hp->Prop:=λi m τ ys H=>m=n-i/\i<=n/\(∃os:St,os.length=k/\τ=os++caps)/\Pv i ys H
def LcN (D:Addr)(n k:Nat)(caps:St)(Pv:Nat->List V->Hp->Prop)(i:Nat)(ys:List V)(τ:St)(v:V)(H:Hp):Prop:=
 H D=some (.lst ys)/\ys.length<Yai/\∃m',m'<n-i/\LcW n k caps Pv (i+1) m' τ (ys++[v]) (upd H D (.lst (ys++[v])))
def LcS (n k:Nat)(caps:St)(Pv:Nat->List V->Hp->Prop)(i:Nat)(ys:List V)(τ:St)(H:Hp):Prop:=∃m',m'<n-i/\LcW n k caps Pv (i+1) m' τ ys H
section
variable {g:TG}{tt:TT}{te:TE}{Q:VK}{τ0:St}{H:Hp}{D:Addr}
end
section
variable {X:Cx}
def jjo:V->List V->Hp->VK->Prop:=λx vs H Q=>∃l xs i y,x=.ref l/\vs=[.int i,y]/\H l=some (.lst xs)/\0<=i/\i<=xs.length/\xs.length<Yai/\Q .non (upd H l (.lst (xs.take i.toNat++y::xs.drop i.toNat)))
theorem Vals.ins {xs:List V}{us:List Value}{y:V}{u:Value}(r:Vals xs us)(ry:RelV y u)(k:Nat):Vals (xs.take k++y::xs.drop k) (us.take k++u::us.drop k):=(Vals.take k r).append (.cons ry (Vals.drop k r))
theorem jgN:MtM X "list.insert" jjo:=by
 intro pins s σ H x vs v us Q I rx rv h;obtain⟨l,xs,i,y,rfl,rfl,hH,h1,h2,h3,q⟩:=h;cases rx;obtain⟨u,u',rfl,ru,ru'⟩:=rv.two;obtain⟨t,rfl⟩:=ru;obtain⟨z,its,n,r,hl,e⟩:=I.lstM hH;have hz63:i<2 ^ 63:=by have:=jc5;omega
 refine Ybt F.slot_list_insert ⟨_,e,rfl⟩ F.entry_list_insert (F.args_list_insert_3 _ _ _)
  (AutoSeq1.list_insert_list_int_val_1 l its.toArray n i t u' (by simp[Builtin.List.listFitsIndex];omega) (by rw[Yah];omega)) ⟨e,?_⟩
 refine⟨.non,_,I.lset (its':=its.take i.toNat++u'::its.drop i.toNat) hH e ?_ (Vals.ins r ru' _) ?_,rfl,q⟩
 ·have hk:(if i<0 then (i+(its.toArray.size:Int)).toNat else min i.toNat its.toArray.size)=i.toNat:=by
   rw[if_neg (by omega),Yah]
   omega
  show(its.toArray.extract 0 (if i<0 then (i+(its.toArray.size:Int)).toNat else min i.toNat its.toArray.size)).push u'++its.toArray.extract (if i<0 then (i+(its.toArray.size:Int)).toNat else min i.toNat its.toArray.size)=_
  rw[hk];apply Array.ext';simp[YcS]
 ·rw[YaJ,YaB,Ybn,YdG];omega
end
section
variable {X:Cx}{es:List Expr}{te:TE}{t:TA}
end
section
variable {X:Cx}{N:List Str}{scope:Scope}{cl:List (Str×Addr)}{C:Addr}{s₀:Shared}{H₀:Hp}{fp:List Addr}
end
theorem jbM:∀{ns:List Int} {us:List Value},Vals (ns.map V.int) us->∃ys:List (Int×Tok),us=(ys.map λp=>YdP p.1 p.2)/\ys.map (·.1)=ns
 |[],us,r=>by cases r;exact⟨[],rfl,rfl⟩
 |n::ns,us,r=>by
  cases r with
  |cons h r=>
   obtain⟨t,rfl⟩:=h;obtain⟨ys,rfl,e⟩:=jbM r;exact⟨(n,t)::ys,rfl,by simp[e]⟩
section
variable {X:Cx}
theorem jij (hc:X.calm=true):jaX X (.builtin "sum") (λxs H Q=>∃(p:Addr) (ns:List Int),xs=[.ref p]/\SqL X.K H p (ns.map V.int)/\Q (.int ns.sum) H):=by
 intro pins s σ H xs us Q I r h;obtain⟨p,ns,rfl,hq,q⟩:=h;obtain⟨u,rfl,rx⟩:=jb9 r;cases rx;obtain⟨its,r',pl,hz⟩:=I.list hq;obtain⟨ys,rfl,e⟩:=jbM r';have hl:s.heap.IsList p (intItems ys.toArray):=by
  have:=pl.isList;simpa[intItems]using this
 refine sum_intListG (I.ok.hd hc) hl λh' tk t' k=>⟨.int ns.sum,H,I.kept k,⟨t',?_⟩,q⟩;rw[preSum_eq,YcS (by simp),<- e]
end
section
variable {X:Cx}{N:List Str}{scope:Scope}{cl:List (Str×Addr)}{C:Addr}{s₀:Shared}{H₀:Hp}{fp:List Addr}
end
theorem fm_rev (xs:List Value):∀n,n<=xs.length->(YaW n).filterMap (λk=>xs[xs.length-1-k]?)=(xs.drop (xs.length-n)).reverse
 |0,_=>by simp
 |n+1,h=>by
  rw[List.range_succ,List.filterMap_append,fm_rev xs n (by omega)]
  have hk:xs.length-1-n<xs.length:=by omega
  have:xs.drop (xs.length-(n+1))=xs[xs.length-1-n]::xs.drop (xs.length-n):=by
   rw[show xs.length-(n+1)=xs.length-1-n by omega,YaX hk,show xs.length-1-n+1=xs.length-n by omega]
  rw[this,YbQ];simp[Yae hk]
theorem jhD (xs:List Value):YdK xs.toArray none none (some (-1))=xs.reverse.toArray:=by
 have e:sliceRange ((xs.length:Int)-1) (-1) (-1)=(YaW xs.length).map λk=>xs.length-1-k:=by
  unfold sliceRange;have hc:(if (-1:Int)>0 then (if (xs.length:Int)-1 < -1 then (-1-((xs.length:Int)-1) + -1-1) / -1 else 0) else (if (xs.length:Int)-1 > -1 then ((xs.length:Int)-1 - -1 - -1-1)/(- -1) else 0)).toNat=xs.length:=by
   rw[if_neg (by omega),show(- -1:Int)=1 from rfl,YeT]
   split<;>omega
  simp only[hc];refine Ydf λk hk=>?_;have:=List.mem_range.mp hk;omega
 have b:Yb4 none none (some (-1)) xs.toArray.size=((xs.length:Int)-1,-1,-1):=by
  simp[Yb4]
 unfold YdK;rw[b];simp only;rw[e,Yfk];have:=fm_rev xs xs.length (Yag _);rw[YeR,Ydb]at this;rw[<- this];congr 1;refine congrArg (λf=>List.filterMap f (YaW xs.length)) (funext λk=>?_);simp
theorem jim (xs:List Value):YdK xs.toArray none none (some 1)=xs.toArray:=by
 have:=slicePick_all xs.toArray;unfold YdK at this ⊢;exact this
theorem Vals.rev {xs:List V}{us:List Value}(r:Vals xs us):Vals xs.reverse us.reverse:=by
 induction r with
 |nil=>exact .nil
 |cons h r ih=>rw[YbQ,YbQ];exact ih.append (.cons h .nil)
section
variable {X:Cx}{e st:Expr}{te tst:TE}{pos p2:Pos}
end
end L2
namespace HT
open PySem PySem.Spec PyProof.Rows
section
variable {prog:Program}{w:World}{A:Around}{E:Value->Shared->Prop}{s:Shared}
theorem getItem_tuple_all {t sl:Addr}{items:Array Value}{vl vu:Value}{lo hi:Option Int}{Q:Value->Shared->Prop}(ht:IsTup s.heap t items)(hs:s.heap.IsSliceOf sl vl vu .none)(pl:IsPart vl lo)(pu:IsPart vu hi)
  (hw:sIx items.size 0 lo=0/\sIx items.size items.size hi=items.size) (h:Q (.ref t) s):wpAny (model prog w) A (getItem (.ref t) (.ref sl)) Q E s:=by
 obtain⟨os,hos,hcs,hds⟩:=id hs;have hTs:s.TypeIs (.ref sl) "slice" := ⟨os,hos,hcs⟩;unfold getItem
 try with_reducible refine Ya8 ?_
 first|refine Yad (Yap ?_)|skip
 refine Yad (Yd4 ht.typeIs (by decide) ?_)
 refine Yad (YbG (name:=YbA "__getitem__") ht.typeIs YaZ
  (Yb3 YaZ ht.typeIs Ydu ?_ (YdO _ _)))
 show wpAny _ _ (Ycd (.ref t) >>= _) _ _ s;refine Yad (Ye7 ht ?_);refine Yad (Yee hTs ?_);rw[if_pos (by decide)]
 refine Yad (jbd hs pl pu ?_);have hyes:((((sIx items.size 0 lo:Nat):Int)==0&&(1:Int)==1&&(sIx items.size items.size hi-sIx items.size 0 lo)==items.size)=true):=by
  rw[hw.1,hw.2];simp
 show wpAny _ _ (if (((sIx items.size 0 lo:Nat):Int)==0&&(1:Int)==1&&(sIx items.size items.size hi-sIx items.size 0 lo)==items.size)=true then _ else _) _ _ s
 rw[if_pos hyes];refine Yad (m:=Ydj (.ref t)) ?_;unfold Ydj;refine Yad (Yee ht.typeIs (Yap ?_));rw[if_pos (by decide)]
 exact Yad (YeU (Yap ⟨_,rfl,Yap h⟩))
end
end HT
namespace L2
open PySem PySem.Spec PyProof.Rows
section
variable {X:Cx}
def rSlW (K:Yac):V->Option Int->Option Int->Hp->VK->Prop:=λx lo hi H Q=>∃a xs,x=.ref a/\SqT K H a xs/\
 (HT.sIx xs.length 0 lo=0/\HT.sIx xs.length xs.length hi=xs.length)/\Q (.ref a) H
theorem jjg:SlR X (rSlW X.K):=by
 intro pins s σ H x v vl vu lo hi sl Q I rx hs pl pu h;obtain⟨a,xs,rfl,hx,hw,q⟩:=h;cases rx;obtain⟨its,r,ht,hz⟩:=I.tuple hx;have hlen:its.toArray.size=xs.length:=by rw[Yah];exact r.length.symm
 refine⟨"tuple",_,YaZ.lookup,ht.typeIs,?_⟩;exact HT.getItem_tuple_all ht hs pl pu (by rw[hlen];exact hw) ⟨.ref a,H,I,rfl,q⟩
theorem jjh:SlR X (λx lo hi H Q=>rSlT X.K x lo hi H Q\/rSlW X.K x lo hi H Q):=SlR.or jlb jjg
end
end L2
namespace HT
open PySem PySem.Spec PyProof.Rows
section
variable {prog:Program}{w:World}{A:Around}{E:Value->Shared->Prop}{s:Shared}
theorem jcC {sl:Addr}{t:Tok}{n:Nat}{Q:Int×Int×Nat->Shared->Prop}(hs:s.heap.IsSliceOf sl .none .none (.int (-1) t))(h:Q ((n:Int)-1,-1,n) s):wpAny (model prog w) A (YbF (.ref sl) (pure (n:Int))) Q E s:=by
 obtain⟨os,hos,hcs,hds⟩:=id hs;unfold YbF Ydm;refine Yad (Yad (Ybi hos hds (x:=.none) rfl (Yad (Ybi hos hds (x:=.none) rfl (Yad (Ybi hos hds (x:=.int (-1) t) rfl (Yap ?_)))))));refine Yad (jaW (.int (-1) t) ?_);show wpAny _ _ (if ((-1:Int)==0)=true then _ else _) _ _ s
 rw[if_neg (by decide)]
 refine Yad (jaW .none (Yad (jaW .none (Yad (Yap ?_)))));have e1:Ybj none none (-1) (n:Int)=((n:Int)-1,-1):=rfl;have e2:YaT ((n:Int)-1) (-1) (-1)=n:=by
  unfold YaT;rw[if_neg (by omega),show(- -1:Int)=1 from rfl,YeT]
  split<;>omega
 show wpAny _ _ (match Ybj none none (-1) (n:Int)with|(lo,hi)=>pure (lo,(-1:Int),YaT lo hi (-1))) _ _ s
 rw[e1];show wpAny _ _ (pure ((n:Int)-1,(-1:Int),YaT ((n:Int)-1) (-1) (-1))) _ _ s;rw[e2];exact Yap h
theorem jhP (xs:List Value):((YaW xs.length).filterMap λ(k:Nat)=>xs.toArray[((xs.length:Int)-1+(k:Int)*(-1)).toNat]?).toArray=xs.reverse.toArray:=by
 have:=L2.fm_rev xs xs.length (Yag _);rw[YeR,Ydb]at this;rw[<- this];congr 1;refine congrArg (λf=>List.filterMap f (YaW xs.length)) (funext λk=>?_);rw[show((xs.length:Int)-1+(k:Int)*(-1)).toNat=xs.length-1-k by omega]
 simp
theorem getItem_tuple_rev {t sl:Addr}{its:List Value}{tk:Tok}{Q:Value->Shared->Prop}(ht:IsTup s.heap t its.toArray)(hs:s.heap.IsSliceOf sl .none .none (.int (-1) tk))
  (h:Q (.ref s.heap.objs.size) { s with heap:=s.heap.push { cls:=.type "tuple",data:=.seq its.reverse.toArray } }) (hsz:its.length<=Yai):wpAny (model prog w) A (getItem (.ref t) (.ref sl)) Q E s:=by
 have htake:sizeOk (.seq its.reverse.toArray):=by
  show its.reverse.toArray.size<=Yai;rw[Yah,Ydg];exact hsz
 obtain⟨os,hos,hcs,hds⟩:=id hs;have hTs:s.TypeIs (.ref sl) "slice" := ⟨os,hos,hcs⟩;unfold getItem
 try with_reducible refine Ya8 ?_
 first|refine Yad (Yap ?_)|skip
 refine Yad (Yd4 ht.typeIs (by decide) ?_)
 refine Yad (YbG (name:=YbA "__getitem__") ht.typeIs YaZ
  (Yb3 YaZ ht.typeIs Ydu ?_ (YdO _ _)))
 show wpAny _ _ (Ycd (.ref t) >>= _) _ _ s;refine Yad (Ye7 ht ?_);refine Yad (Yee hTs ?_);rw[if_pos (by decide)]
 refine Yad (jcC (n:=its.length) hs ?_);have hno:¬((((its.length:Int)-1)==0&&(-1:Int)==1&&its.length==its.toArray.size)=true):=by simp
 show wpAny _ _ (if (((its.length:Int)-1)==0&&(-1:Int)==1&&its.length==its.toArray.size)=true then _ else _) _ _ s
 rw[if_neg hno,jhP]
 first
  |exact Yad (m:=YaV _) (Ya3 (Yap ⟨_,rfl,Yap h⟩) htake)
  |exact Yad (m:=YaV _) (Ya3 (Yad (Yap (Yap ⟨_,rfl,Yap h⟩))) htake)
  |exact Yad (Yad (m:=YaV _) (Ya3 (Yap (Yap ⟨_,rfl,Yap h⟩)) htake))
  |exact Yad (Yad (m:=YaV _) (Ya3 (Yap ⟨_,rfl,Yap h⟩) htake))
end
end HT
namespace L2
open PySem PySem.Spec PyProof.Rows
section
variable {X:Cx}{e st:Expr}{te tst:TE}{pos p2:Pos}
end
section
variable {X:Cx}{N:List Str}{scope:Scope}{cl:List (Str×Addr)}{C:Addr}{s₀:Shared}{H₀:Hp}{fp:List Addr}
end
end L2

namespace L2
open PySem PySem.Spec PyProof.Rows
section
variable {X:Cx}{pos:Pos}
def joc (K:Yac):R2:=λx y H Q=>∃a b xs ys,x=.ref a/\y=.ref b/\SqT K H a xs/\SqT K H b ys/\xs.length+ys.length<=Yai/\
 (xs=[]->Q (.ref b) H)/\(xs≠[]->ys=[]->Q (.ref a) H)/\(xs≠[]->ys≠[]->∀p,H p=none->Q (.ref p) (upd H p (.tup (xs++ys))))
theorem jjR:OpR X (Yba .Add) (joc X.K):=by
 intro pins s σ H x y v u Q I rx ry h;obtain⟨a,b,xs,ys,rfl,rfl,ha,hb,hz,q0,q1,q2⟩:=h;by_cases hx:xs=[]
 ·cases rx;cases ry;obtain⟨its,r1,p1,_⟩:=I.tuple ha;obtain⟨its2,r2,p2,_⟩:=I.tuple hb;have hv:its=[]:=r1.nil_iff.mpr hx;subst hv;obtain⟨⟨cls,dd,data,sl⟩,ho,hc,n,hd⟩:=id p1;obtain⟨⟨cls2,dd2,data2,sl2⟩,ho2,hc2,n2,hd2⟩:=id p2;simp only at hc hd hc2 hd2;subst hc hd hc2 hd2;exact YfI ⟨_,ho,rfl⟩ ⟨_,ho2,rfl⟩ Yej Ye8 YcG Ycv (Ycp _ _)
   (tuple_addW0 a b _ its2.toArray n n2 dd dd2 sl sl2 rfl) ⟨ho,ho2,⟨.ref b,H,I,rfl,q0 hx⟩⟩
 ·exact jjQ pins s σ H _ _ _ _ Q I rx ry ⟨a,b,xs,ys,rfl,rfl,ha,hb,hx,hz,q1 hx,q2 hx⟩
theorem jfU {k:Nat}(hr:Room k X.A):OpR X (YaR .Eq) (λx y H Q=>∃a b xs,x=.ref a/\y=.ref b/\SqT X.K H a xs/\SqT X.K H b []/\Q (.bl xs.isEmpty) H):=by
 intro pins s σ H x y v u Q I rx ry h;obtain⟨a,b,xs,rfl,rfl,ha,hb,q⟩:=h;cases rx;cases ry;obtain⟨its,rv,pa,_⟩:=I.tuple ha;obtain⟨its2,rv2,pb,_⟩:=I.tuple hb;cases rv2;have hu:X.A.units<cLine:=hr.units0;have e:((YaW (min its.toArray.size ([]:List Value).toArray.size)).all (λ_=>true)&&its.toArray.size==([]:List Value).toArray.size)=xs.isEmpty:=by
  cases rv<;>simp
 refine EqBoolInt.of_rc (SeqAt.RcAt.tuples (e:=λ_=>true) (show s.heap.IsTuple a its.toArray from pa) (show s.heap.IsTuple b ([]:List Value).toArray from pb) hu λj _ h2=>?_) ?_
 ·simp at h2
 ·rw[e];exact⟨.bl xs.isEmpty,H,I,rfl,q⟩
end
section
variable {X:Cx}{N:List Str}{scope:Scope}{cl:List (Str×Addr)}{C:Addr}{s₀:Shared}{H₀:Hp}{fp:List Addr}
end
section
variable {X:Cx}
end
section
variable {X:Cx}{N:List Str}{scope:Scope}{cl:List (Str×Addr)}{C:Addr}{s₀:Shared}{H₀:Hp}{fp:List Addr}
end
section
variable {X:Cx}
def jls (K:Yac)(neg:Bool):R2:=λx y H Q=>∃d e,DV K H x d/\DV K H y e/\d.canLay0=true/\e.canLay0=true/\d.depth<=100/\Q (.bl (if neg then !PyData.eqv d e else YaG d e)) H
theorem jl2 {k:Nat}(hr:Room k X.A):OpR X (YaR .NotEq) (jls X.K true):=by
 intro pins s σ H x y v u Q I rx ry h;obtain⟨d,e,hd,he,c1,c2,hk,q⟩:=h;obtain⟨as,ra⟩:=hd.reads I rx;obtain⟨bs,rb⟩:=he.reads I ry;exact SeqAt.compareNe_reads ra rb c1 c2 (by have:=hr.un;omega) ⟨.bl _,H,I,rfl,q⟩
theorem jl7 {k:Nat}(hr:Room k X.A):OpR X (YaR .Eq) (jls X.K false):=by
 intro pins s σ H x y v u Q I rx ry h;obtain⟨d,e,hd,he,c1,c2,hk,q⟩:=h;obtain⟨as,ra⟩:=hd.reads I rx;obtain⟨bs,rb⟩:=he.reads I ry;exact SeqAt.compareEq_reads ra rb c1 c2 (by have:=hr.un;omega) ⟨.bl _,H,I,rfl,q⟩
end
section
variable {X:Cx}{N:List Str}{scope:Scope}{cl:List (Str×Addr)}{C:Addr}{s₀:Shared}{H₀:Hp}{fp:List Addr}
end
mutual
noncomputable def noB:PyData->Bool
 |.none=>true
 |.bool _=>false
 |.int _=>true
 |.str _=>true
 |.list ds=>noBs ds
 |.tuple ds=>noBs ds
 |.dict _=>false
noncomputable def noBs:List PyData->Bool
 |[]=>true
 |d::r=>noB d&&noBs r
end
mutual
theorem jiQ:∀{d e:PyData},noB d=true->noB e=true->YaG d e=true->d=e
 |.none,.none,_,_,_=>rfl
 |.int i,.int j,_,_,h=>by rw[YaG]at h;rw[eq_of_beq h]
 |.str i,.str j,_,_,h=>by rw[YaG]at h;rw[eq_of_beq h]
 |.list xs,.list ys,h1,h2,h=>by rw[YaG]at h;rw[noB]at h1 h2;rw[je9 h1 h2 h]
 |.tuple xs,.tuple ys,h1,h2,h=>by rw[YaG]at h;rw[noB]at h1 h2;rw[je9 h1 h2 h]
 |.bool _,_,h,_,_=>by rw[noB]at h;cases h
 |.dict _,_,h,_,_=>by rw[noB]at h;cases h
 |.none,.bool _,_,h,_|.int _,.bool _,_,h,_|.str _,.bool _,_,h,_|.list _,.bool _,_,h,_|.tuple _,.bool _,_,h,_=>by rw[noB]at h;cases h
 |.none,.dict _,_,h,_|.int _,.dict _,_,h,_|.str _,.dict _,_,h,_|.list _,.dict _,_,h,_|.tuple _,.dict _,_,h,_=>by rw[noB]at h;cases h
 |.none,.int _,_,_,h|.none,.str _,_,_,h|.none,.list _,_,_,h|.none,.tuple _,_,_,h=>by rw[YaG]at h;cases h
 |.int _,.none,_,_,h|.int _,.str _,_,_,h|.int _,.list _,_,_,h|.int _,.tuple _,_,_,h=>by rw[YaG]at h;cases h
 |.str _,.none,_,_,h|.str _,.int _,_,_,h|.str _,.list _,_,_,h|.str _,.tuple _,_,_,h=>by rw[YaG]at h;cases h
 |.list _,.none,_,_,h|.list _,.int _,_,_,h|.list _,.str _,_,_,h|.list _,.tuple _,_,_,h=>by rw[YaG]at h;cases h
 |.tuple _,.none,_,_,h|.tuple _,.int _,_,_,h|.tuple _,.str _,_,_,h|.tuple _,.list _,_,_,h=>by rw[YaG]at h;cases h
theorem je9:∀{ds es:List PyData},noBs ds=true->noBs es=true->Ydd ds es=true->ds=es
 |[],[],_,_,_=>rfl
 |d::r,e::q,h1,h2,h=>by
  rw[noBs,Yaz]at h1 h2
  rw[Ydd,Yaz]at h
  rw[jiQ h1.1 h2.1 h.1,je9 h1.2 h2.2 h.2]
 |[],_::_,_,_,h=>by rw[Ydd]at h;cases h
 |_::_,[],_,_,h=>by rw[Ydd]at h;cases h
end
section
variable {X:Cx}
end
section
variable {X:Cx}{N:List Str}{scope:Scope}{cl:List (Str×Addr)}{C:Addr}{s₀:Shared}{H₀:Hp}{fp:List Addr}
end
theorem jcD:fillsNumberSlot (.type "tuple") "mul" = pure false:=
 PySem.fillsNumberSlot_seq (id := "tuple.__mul__") (r:=some (.builtin "tuple.__rmul__")) Yed.lookup (by decide +kernel) F.slot_tuple_rmul.lookup (by decide +kernel)
theorem jei:seqRepeat? (.type "tuple")=pure (some (.builtin "tuple.__mul__")):=by
 unfold seqRepeat?;rw[Yfs (T := "tuple") (name := "__mul__") (id := "tuple.__mul__") Yed.lookup (by decide +kernel),Yfs (T := "tuple") (name := "__rmul__") (id := "tuple.__rmul__") F.slot_tuple_rmul.lookup (by decide +kernel)]
 rfl
theorem jdm (a:Int)(t:Tok)(l:Addr)(items:Array Value)(n:Nat)(dd:Option Addr)(sl:Array (Option Value)) :
  Meets (Builtin.«int.__rmul__» ⟨[.int a t,.ref l],[]⟩) (λ_ R s=>s.heap.get? l=some { cls:=.type "tuple",dict:=dd,data:=.seq items n,slots:=sl }/\R (.ok (.ret Value.notImplemented)) s):=
 .of_wp λprog w A R s h=>by obtain⟨hp,g,d,tk,os⟩:=s;obtain⟨hl,h⟩:=h;wp_walk;exact⟨_,rfl,h⟩
theorem jfO (l:Addr)(items:Array Value)(n:Nat)(dd:Option Addr)(sl:Array (Option Value))(x:Int)(t:Tok)(hx:2<=x)(hx2:x<2 ^ 62)(h0:items.isEmpty=false)(hsz:items.size*x.toNat<=Yai) :
  Meets (Builtin.«tuple.__mul__» ⟨[.ref l,.int x t],[]⟩)
   (λA R s=>s.heap.get? l=some { cls:=.type "tuple",dict:=dd,data:=.seq items n,slots:=sl }/\R (.ok (.ret (.ref s.heap.objs.size))) { s with heap:=s.heap.push { cls:=.type "tuple",data:=.seq ((Yaf x.toNat items).foldl (·++·) #[]) } }):=
 .of_wp λprog w A R s h=>by
  obtain⟨hp,g,d,tk,os⟩:=s;obtain⟨hl,h⟩:=h;have c1:(decide (x < -2 ^ 63)||decide (x ≥ 2 ^ 63))=false:=by simp;omega
  have c2:(items.isEmpty||x==1)=false:=by rw[h0];simp;omega
  have c3:(decide (x<=0)||items.isEmpty)=false:=by rw[h0];simp;omega
  have hz:(items.size:Int)*x=((items.size*x.toNat:Nat):Int):=by rw[Int.natCast_mul,Int.toNat_of_nonneg (by omega)]
  have h63:(Yai:Nat)<=(2 ^ 63-1)/8:=by decide
  wp_walk using wpAny_loadPart' hl
  simp only[c1,Ybq,if_false]
  wp_walk using wpAny_loadPart' hl
  simp only[c2,c3,Ybq,if_false];rw[if_neg (by rw[hz];omega)]
  have c4:Ydi ((items.size:Int)*x)=false:=by
   rw[hz];unfold Ydi;exact decide_eq_false (by omega)
  simp only[c4,Ybq,if_false];have hs:(Ydq (λx1 x2=>x1++x2) #[] (Yaf x.toNat items)).size<=Yai:=by
   rw[AutoListH.size_joined];simp only[Yah,Yc1,Ycs];rw[YdC];exact hsz
  revert hs h;generalize Ydq (λx1 x2=>x1++x2) #[] (Yaf x.toNat items)=G;intro h hs
  wp_walk
  exact⟨_,rfl,h⟩
theorem jfQ (l:Addr)(items:Array Value)(n:Nat)(dd:Option Addr)(sl:Array (Option Value))(t:Tok)(h0:items.isEmpty=false) :
  Meets (Builtin.«tuple.__mul__» ⟨[.ref l,.int 0 t],[]⟩)
   (λA R s=>s.heap.get? l=some { cls:=.type "tuple",dict:=dd,data:=.seq items n,slots:=sl }/\R (.ok (.ret (.ref s.heap.objs.size))) { s with heap:=s.heap.push { cls:=.type "tuple",data:=.seq #[] } }):=
 .of_wp λprog w A R s h=>by
  obtain⟨hp,g,d,tk,os⟩:=s;obtain⟨hl,h⟩:=h;have c2:(items.isEmpty||(0:Int)==1)=false:=by rw[h0];rfl
  wp_walk using wpAny_loadPart' hl
  exact⟨_,rfl,h⟩
theorem jfP (l:Addr)(items:Array Value)(n:Nat)(dd:Option Addr)(sl:Array (Option Value))(t:Tok) :
  Meets (Builtin.«tuple.__mul__» ⟨[.ref l,.int 1 t],[]⟩)
   (λA R s=>s.heap.get? l=some { cls:=.type "tuple",dict:=dd,data:=.seq items n,slots:=sl }/\R (.ok (.ret (.ref l))) s):=
 .of_wp λprog w A R s h=>by
  obtain⟨hp,g,d,tk,os⟩:=s;obtain⟨hl,h⟩:=h;have c1:(decide ((1:Int) < -2 ^ 63)||decide ((1:Int) ≥ 2 ^ 63))=false:=by decide
  have c2:(items.isEmpty||(1:Int)==1)=true:=by simp
  wp_walk using wpAny_loadPart' hl
  exact⟨_,rfl,h⟩
section
variable {X:Cx}
def jn9 (K:Yac):R2:=λx y H Q=>∃l k xs,x=.ref l/\y=.int k/\SqT K H l xs/\xs≠[]/\0<=k/\k<2 ^ 62/\xs.length*k.toNat<=Yai/\(k=1->Q (.ref l) H)/\(k≠1->∀p,H p=none->Q (.ref p) (upd H p (.tup (Yaf k.toNat xs).flatten)))
theorem jjN:OpR X (Yba .Mult) (jn9 X.K):=by
 intro pins s σ H x y v u Q I rx ry h;obtain⟨l,k,xs,rfl,rfl,hH,h0,h1,h2,hz,q1,q2⟩:=h;cases rx;obtain⟨t,rfl⟩:=ry;obtain⟨its,r,pl,_⟩:=I.tuple hH;have hl:=r.length;obtain⟨⟨cls,dd,data,sl⟩,e,hc,n,hd⟩:=id pl;simp only at hc hd;subst hc hd;have hne:its≠[]:=λz=>h0 (r.nil_iff.mp z);refine YeH (T := "tuple") (U := "int") (by decide) ⟨_,e,rfl⟩ (λs'=>Yd7 s' k t) jcD F.fills_int_mul Ydc jei F.slot_int_index.lookup
  (Ybt Ydc (Yd7 s k t) F.entry_int_rmul (F.args_int_rmul_2 _ _) (jdm k t l its.toArray n dd sl) ⟨e,rfl,⟨_,e,rfl⟩,?_⟩)
 by_cases hk:k=1
 ·subst hk;exact Ybt Yed ⟨_,e,rfl⟩ YdU (Ydz _ _) (jfP l its.toArray n dd sl t) ⟨e,⟨.ref l,H,I,rfl,q1 rfl⟩⟩
 ·by_cases hk0:k=0
  ·subst hk0;refine Ybt Yed ⟨_,e,rfl⟩ YdU (Ydz _ _) (jfQ l its.toArray n dd sl t (by simpa using hne)) ⟨e,?_⟩
   refine⟨.ref s.heap.objs.size,_,I.laid (t':=s.toks) (o:=.tup []) (λb ob q=>Yab _ q) (Yag _) ?_,rfl,q2 hk _ (I.hok.fresh (Yag _))⟩;exact⟨Ybb _,[],.nil,TupD.new _ _⟩
  refine Ybt Yed ⟨_,e,rfl⟩ YdU (Ydz _ _) (jfO l its.toArray n dd sl k t (by omega) h2 (by simpa using hne) (by rw[Yah,<- hl];exact hz)) ⟨e,?_⟩
  have f0:=jc8 its k.toNat [];rw[Ya7]at f0;rw[f0];refine⟨.ref s.heap.objs.size,_,I.laid (t':=s.toks) (o:=.tup (Yaf k.toNat xs).flatten) (λb ob q=>Yab _ q) (Yag _) ?_,rfl,q2 hk _ (I.hok.fresh (Yag _))⟩;exact⟨by rw[je0,YdC];exact hz,_,r.rep k.toNat,TupD.new _ _⟩
noncomputable def repS (x:Str)(k:Nat):Str:=⟨(Yaf k x.cps.toList).flatten.toArray⟩
def joa:R2:=λx y H Q=>∃z k,x=.str z/\y=.int k/\0<=k/\k<1000/\z.length<=1000/\Q (.str (repS z k.toNat)) H
theorem jfE (x:Array Nat):∀(k:Nat) (a:List Nat),((Yaf k x).foldl (·++·) a.toArray)=(a++(Yaf k x.toList).flatten).toArray
 |0,a=>by simp
 |k+1,a=>by
  rw[YaU,Yd2,show a.toArray++x=(a++x.toList).toArray by simp,jfE x k]
  simp[YaU]
theorem jjO:OpR X (Yba .Mult) joa:=by
 intro pins s σ H x y v u Q I rx ry h;obtain⟨z,k,rfl,rfl,h0,h1,hz,q⟩:=h;obtain⟨t,rfl⟩:=rx;obtain⟨t',rfl⟩:=ry;have hl:z.length*k.toNat<=1000000:=Yan (Nat.mul_le_mul hz (show k.toNat<=1000 by omega)) (by decide)
 refine P.mul_str (by simp;omega) (λh2 _=>?_) (λh2 _=>?_) ?_
 ·have:((2:Int) ^ 63-1)/k ≥ 1000:=by
   refine(Int.le_ediv_iff_mul_le (by omega)).mpr ?_
   omega
  omega
 ·exact decide_eq_false (by
   have:(1000000:Nat)<=Yai:=by decide
   omega)
 ·split
  ·have e:repS z k.toNat=YeL:=by rw[show k.toNat=0 by omega];rfl
   rw[e]at q;exact⟨by decide,.str _,H,I.tok _,⟨_,rfl⟩,q⟩
  ·split
   ·rename_i h2 h3;have e:repS z k.toNat=z:=by
     rw[Yci,beq_iff_eq,beq_iff_eq]at h3;unfold repS;rcases h3 with h3|h3
     ·subst h3;simp
     ·have:z.cps.toList=[]:=by
       have:z.cps.size=0:=h3;simpa using this
      obtain⟨c⟩:=z;simp only at this ⊢;have hc:c=#[]:=by simpa using this
      subst hc;simp
    rw[e]at q;exact⟨.str _,H,I,⟨_,rfl⟩,q⟩
   ·have e:(Yaf k.toNat z.cps).foldl (·++·) #[]=(Yaf k.toNat z.cps.toList).flatten.toArray:=by
     have:=jfE z.cps k.toNat [];simpa using this
    refine⟨?_,.str _,H,I.tok _,⟨_,rfl⟩,?_⟩
    ·rw[e];show(Yaf k.toNat z.cps.toList).flatten.toArray.size<=Yai;rw[Yah,je0,YdC];exact Yan hl (by decide)
    ·rw[e];exact q
theorem jex {prog:Program}{w:World}{A:Around}{E:Value->Shared->Prop}{s:Shared}{v:Value}{Q:Value->Shared->Prop}
  (h:wpAny (model prog w) A.in1 (collect v) (λvs s1=>wpAny (model prog w) A.in1 (newList vs) (λl s2=>wpAny (model prog w) A.in1 (call (.builtin "list.sort") [l]) (λ_ s3=>Q l s3) E s2) E s1) E s) :
  wpAny (model prog w) A (call (.builtin "sorted") [v]) Q E s:=by
 have one:∀Z:Unit->Shared->Prop,Z () s->wpAny (model prog w) A.in1 (checkCount "sorted" 1 1 [v].length) Z E s:=λZ z=>Yap z;refine Calls.call_function_entry kind_sorted plain_sorted entry_sorted (args_sorted1 v) (Yad (one _ (Yad (thn h λvs s1 h1=>Yad (thn h1 λl s2 h2=>?_)))));exact Yad (Ya8 (thn h2 λ_ s3 q=>Yap ⟨_,rfl,q⟩))
theorem jcj:∀{us:List Value} {ns:List Int},IntsAre us ns->Vals (ns.map V.int) us
 |_,_,.nil=>.nil
 |_,_,.cons n t r=>.cons ⟨t,rfl⟩ (jcj r)
theorem jgR:∀{kvs:List (Key×V)} {vs:List (Key×Value)},KV kvs vs->vs.map (·.1)=kvs.map (·.1)
 |_,_,.nil=>rfl
 |_,_,.cons a r=>by
  rw[YaF,YaF,jgR r,a.1]
theorem jgZ {P:Program}{w:World}:∀{ns:List Int} {acc:List Value} {vs:List (Key×Value)},vs.map (·.1)=ns.map (λz=>(.inl z:Key))->acc.length=ns.length->(∀(j:Nat) (v:Value),acc[j]?=some v->∃k x,vs[j]?=some (k,x)/\(jai P w).is k v=true)->IntsAre acc ns
 |[],[],_,_,_,_=>.nil
 |z::ns,v::acc,(k,x)::vs,e,hl,h=>by
  obtain⟨k',x',h1,h2⟩:=h 0 v rfl;have e1:(k,x)=(k',x'):=Yar h1;injection e1 with e1 e2
  subst e1;rw[YaF,YaF]at e;injection e with ek er
  have ek:k=.inl z:=ek;subst ek;obtain⟨t,rfl⟩:∃t,v=.int z t:=by
   have h2:je1 (.inl z) v=true:=h2;rcases jam h2 with⟨i,t,e,rfl⟩|⟨y,t,e,_⟩
   ·injection e with e;rw[e];exact⟨t,rfl⟩
   ·exact nomatch e
  exact .cons z t (jgZ er (by simpa using hl) λj v hj=>h (j+1) v hj)
 |z::ns,v::acc,[],e,_,_=>by cases e
 |z::ns,[],_,_,hl,_=>by cases hl
 |[],v::acc,_,_,hl,_=>by cases hl
end
end L2

namespace L2
open PySem PySem.Spec PyProof.Rows
open Sem (wp)
open AutoSeq1 (wpAny_loadPart')
section
variable {prog:Program}{w:World}{A:Around}{E:Value->Shared->Prop}{s:Shared}
theorem jcI {it t:Addr}{i:Nat}{items:Array Value}{Q:Value->Shared->Prop}(hh:A.handled=none)(hit:s.heap.IsTupleIter it t i)(ht:s.heap.IsTuple t items)
  (more:∀x h',items[i]?=some x->h'.IsTupleIter it t (i+1)->Ycr it s.heap h'->Q x { s with heap:=h' })
  (stop:items[i]?=none->∀h' e,Heap.ExtBut it s.heap h'->(∃o,h'.get? e=some o/\o.cls=.type "StopIteration")->E (.ref e) { s with heap:=h' }) :
  wpAny (model prog w) A (YfC (.ref it)) Q E s:=by
 have ty:=hit.typeIs;rcases hit with⟨⟨c,dc,dt,sl⟩,ho,e1,e2⟩;rcases ht with⟨⟨c',dc',dt',sl'⟩,hl,-,n,e4⟩;dsimp only at e1 e2 e4;subst e1 e2 e4;have up:∀f:Array Value->Array Value,Ycr it s.heap (s.heap.update it (YbE f)):=λf=>Ycr.update ..;have got:∀f:Array Value->Array Value,(s.heap.update it (YbE f)).get? it=some ⟨.type "tuple_iterator",dc,.fields (f #[.ref t,.int i 0]),sl⟩:=λf=>Yc3 _ ho rfl;refine Yad (YbG (name:=YbA "__next__") ty Yet (Yb3 Yet ty F.entry_tuple_iterator_next ?_ (F.args_tuple_iterator_next_1 _)))
 wp_walk using YdV ho,YdV hl
 rw[YcH];cases hx:items[i]? with
 |some x=>exact Yad (YcQ ho rfl (Nat.lt_succ_self 1) (Yap ⟨x,rfl,Yap (more x _ hx ⟨_,got _,rfl,rfl⟩ (up _))⟩))
 |none=>
  refine Yad (YeU (Yad (YcQ ho rfl (Nat.zero_lt_succ 1) ?_)));unfold YfA
  wp_walk
  exact wpAny_raiseNew_none hh (stop hx _ _ (((up _).extBut.push _).push _) ⟨_,Yaq _ rfl,rfl⟩)
theorem jey {prog:Program}{w:World}{A:Around}(hh:A.handled=none)(it t:Addr)(hne:t≠it)(items:Array Value) :
  Draws prog w A it [it,t] items.size (λi v=>items[i]?=some v) (λi h=>h.IsTupleIter it t i/\h.IsTuple t items):=by
 refine⟨λi h st=>?_,λi h h' st hk=>?_,λi s Q E hi st hQ=>?_,λs Q E st hE=>?_⟩
 ·rcases st.1 with⟨o,ho,-⟩;exact⟨o,ho⟩
 ·rcases st with⟨⟨o,ho,r⟩,⟨u,hu,q⟩⟩;exact⟨⟨o,hk it (by simp) o ho,r⟩,⟨u,hk t (by simp) u hu,q⟩⟩
 ·refine jcI hh st.1 st.2 (λx h' e hit sb=>hQ x h' s.toks e ⟨hit,st.2.extBut sb.extBut hne⟩ sb) λz=>?_;exact absurd (Array.getElem?_eq_none_iff.mp z) (by omega)
 ·refine jcI hh st.1 st.2 (λx h' e=>?_) λ_=>hE;exact absurd (Array.getElem?_eq_some_iff.mp e).1 (Ybd _)
theorem jhH {α:Type}{M:Model}{x:α}{Q:α->Shared->Prop}(h:∀y,Q y s):wpAny M A (pure x) Q E s:=Yap (h x)
theorem jbY (v:Value)(ob:Obj) :
  Meets (Builtin.«enumerate.__new__» ⟨[.type "enumerate",v],[]⟩) (λ_ R s=>(∀(prog:Program) (w:World) (A:Around) (Q E:Value->Shared->Prop),Q (.ref s.heap.objs.size) { s with heap:=s.heap.push ob }->wpAny (model prog w) A (pyIter v) Q E s)/\
   R (.ok (.ret (.ref (s.heap.push ob).objs.size))) { s with heap:=(s.heap.push ob).push ⟨.type "enumerate",none,.fields #[.none,.bool false,.ref s.heap.objs.size,rawInt 0,.none,.none],#[]⟩ }):=
 .of_wp λprog w A R s h=>by
  rcases s with⟨hp,g,d,tk,os⟩;rcases h with⟨hi,h⟩;have hsub:=sub_enumerate
  wp_walk
  refine wpAny_stack_any λst=>jhH λb=>?_;cases b<;>(wp_walk using hi prog w;exact⟨_,rfl,h⟩)
theorem jd9 {l:Addr}{items:Array Value}{Q:Value->Shared->Prop}(hL:s.heap.IsTuple l items)
  (h:∀h',IsEnum h' (s.heap.objs.size+1) s.heap.objs.size 0 .none->h'.IsTupleIter s.heap.objs.size l 0->(∀b o,s.heap.get? b=some o->h'.get? b=some o)->Q (.ref (s.heap.objs.size+1)) { s with heap:=h' }) :
  wpAny (model prog w) A (call (.type "enumerate") [.ref l]) Q E s:=by
 have at2:∀(p:Heap) (n:Nat) (o:Obj),p.objs.size=n->o.isFreed=false->(p.push o).get? n=some o:=λp n o e f=>by
  subst e;exact Yaq p f
 have sz:=λo=>Ybs s.heap o;refine YfJ F.called_enumerate (by decide) (Ye4 _) (Yfn _) (λobj=>Yfz obj _) Yfo (jbY (.ref l) _) ⟨λ_ _ _ _ _ q=>YcK hL q,?_⟩
 rw[sz];have he:=at2 _ _ ⟨.type "enumerate",none,.fields #[.none,.bool false,.ref s.heap.objs.size,rawInt 0,.none,.none],#[]⟩ (sz ⟨.type "tuple_iterator",none,.fields #[.ref l,.int 0 0],#[]⟩) rfl;exact⟨⟨_,he,rfl⟩,h _ he ⟨_,Yab _ (at2 _ _ _ rfl rfl),rfl,rfl⟩ λb o x=>Yab _ (Yab _ x)⟩
end
section
variable {X:Cx}{pins:List (Addr×Obj)}{σ:St}{H:Hp}{s:Shared}{h':Heap}
theorem jgf {t':Nat}{e it:Addr}(I:Inv X pins σ H s)(k:∀b o,b≠e->b≠it->s.heap.get? b=some o->h'.get? b=some o)(fe:FpOk X pins H e)(fi:FpOk X pins H it):Inv X pins σ H { s with heap:=h',toks:=t' }:=by
 obtain⟨e0,e1,_,e3,e4,e5⟩:=fe;obtain⟨i0,i1,_,i3,i4,i5⟩:=fi;have ne:∀b u,H b=some u->b≠e:=λb u q z=>by rw[z,e0]at q;cases q
 have ni:∀b u,H b=some u->b≠it:=λb u q z=>by rw[z,i0]at q;cases q
 have kk:∀b o,b∉[e,it]->s.heap.get? b=some o->h'.get? b=some o:=λb o hc q=>k b o (λz=>hc (by simp[z])) (λz=>hc (by simp[z])) q
 refine I.step (g':=s.gens) (d':=s.drawn) (ch:=[e,it]) (λb hb=>?_) (λb o _ _ hc q _=>kk b o hc q) (λb o _ _ hc q _=>⟨o.slots,kk b o hc q⟩) (λ_ _ _ _ n=>n)
  (λb o hc q=>⟨o,kk b o hc q⟩) (λ_ _ q=>q) (λ_ _ _ q=>q) (λb ps q=>⟨#[],by rw[q];simp⟩) (λm hm=>?_) (λb u q=>?_) I.bare
 ·simp only[YaL,Yay,or_false]at hb;rcases hb with rfl|rfl
  ·exact⟨e3,e1,e4,e5⟩
  ·exact⟨i3,i1,i4,i5⟩
 ·obtain⟨o,es,ep,ho,r⟩:=hm;exact⟨o,es,ep,k _ o (Ne.symm e1) (Ne.symm i1) ho,r⟩
 ·refine(I.hok b u q).stay (λc v hc y=>k c v ?_ ?_ y) (λ_ y=>y) λ_ _ y=>y
  ·rcases hc with z|z
   ·rw[z];exact ne b u q
   ·exact ne c _ z
  ·rcases hc with z|z
   ·rw[z];exact ni b u q
   ·exact ni c _ z
noncomputable def Ite (_K:Yac)(a:Addr):It:=
 ⟨λi H=>∃xs x,H a=some (.tup xs)/\xs[i]?=some x,λi H y H'=>∃xs x p,H a=some (.tup xs)/\xs[i]?=some x/\y=.ref p/\H p=none/\H'=upd H p (.tup [.int (i:Int),x]),λi H=>∃xs,H a=some (.tup xs)/\xs.length=i⟩
theorem jgh {P:Program}{w:World}{K:Yac}{elts:List Expr}{x1}{pos:Pos}(a e it:Addr)(hei:e≠it)(hae:a≠e)(hai:a≠it) :
  Turn P w K (.Tuple elts x1 pos) (Ite K a) [e,it] e (λi h=>(∃old,IsEnum h e it (i:Int) old)/\h.IsTupleIter it a i) where
 mem:=by simp
 obj:=λi h st b hb=>by
  obtain⟨⟨old,he⟩,o,ho,c,d⟩:=st;simp only[YaL,Yay,or_false]at hb;rcases hb with rfl|rfl
  ·exact⟨_,he,λv z=>nomatch z⟩
  ·exact⟨o,ho,λv z=>by rw[d]at z;cases z⟩
 keep:=λi h h' st k=>by
  obtain⟨⟨old,he⟩,o,ho,r⟩:=st;exact⟨⟨old,k e (by simp) _ he⟩,o,k it (by simp) _ ho,r⟩
 item:=by
  intro X hP hw hK hc i pins s σ H E I hf st hg;subst hP hw hK;obtain⟨xs,x,hq,hx⟩:=hg;obtain⟨its,rv,p,hz⟩:=I.tuple (SqT.of hq);obtain⟨u,hu,ru⟩:=rv.get hx;obtain⟨⟨old,he⟩,hit⟩:=st;have hlt:i<its.toArray.size:=by
   have:=(List.getElem?_eq_some_iff.mp hu).1;simpa using this
  refine Ye5 (jey (A:=X.A.in1) (I.ok.hd hc) it a hai its.toArray) he ⟨hit,p⟩ hlt hei (by simp;exact⟨hei,Ne.symm hae⟩) λx' h' tk hP ho hs' hT hsz hk=>?_
  refine⟨_,rfl,YeC ho λh2 he2 hs2=>?_⟩;have ex:x'=u:=by
   have:its.toArray[i]?=some u:=by simpa using hu
   exact Yar (hP.symm.trans this)
  subst ex;have hfr:H s.heap.objs.size=none:=I.hok.fresh (Yag _);have hen:e≠s.heap.objs.size:=Yav (Yao he);have hin:it≠s.heap.objs.size:=by obtain⟨o,ho',_⟩:=hit;exact Yav (Yao ho')
  have I1:Inv X pins σ (upd H s.heap.objs.size (.tup [.int (i:Int),x])) { s with heap:=s.heap.push { cls:=.type "tuple",data:=.seq #[.int i tk,x'] },toks:=tk+1 }:=by
   refine I.laid (λb o y=>Yab _ y) (Yag _) ⟨by show 2<=Yai;decide,[.int i tk,x'],.cons ⟨tk,rfl⟩ (.cons ru .nil),TupD.new _ _⟩
  have fpU:∀b,b≠s.heap.objs.size->FpOk X pins H b->FpOk X pins (upd H s.heap.objs.size (.tup [.int (i:Int),x])) b:=λb hb f=>⟨by rw[jad hb];exact f.1,f.2⟩
  have kk:∀b o,b≠e->b≠it->(s.heap.push { cls:=.type "tuple",data:=.seq #[.int i tk,x'] }).get? b=some o->h2.get? b=some o:=λb o be bi y=>by
   have step:h'.get? b=some o:=by
    by_cases hb:b=s.heap.objs.size
    ·subst hb;rw[hT];exact(Yaq s.heap (o:={ cls:=.type "tuple",data:=.seq #[.int i tk,x'] }) rfl).symm.trans y
    ·rw[YcF _ _ _ hb]at y;exact hk b o be bi y
   exact(hs2.2 b be).trans step
  have I2:Inv X pins σ (upd H s.heap.objs.size (.tup [.int (i:Int),x])) { s with heap:=h2,toks:=tk+1 }:=
   jgf (s:={ s with heap:=s.heap.push { cls:=.type "tuple",data:=.seq #[.int i tk,x'] },toks:=tk+1 }) (h':=h2) (t':=tk+1) (e:=e) (it:=it) I1 kk (fpU e hen (hf e (by simp))) (fpU it hin (hf it (by simp)))
  refine⟨.ref s.heap.objs.size,_,I2,rfl,⟨xs,x,_,hq,hx,rfl,hfr,rfl⟩,⟨⟨_,by simpa using he2⟩,?_⟩,λb hb=>?_⟩
  ·obtain⟨o,ho',r⟩:=hs'.1;exact⟨o,(hs2.2 it (Ne.symm hei)).trans ho',r⟩
  ·simp only[YaL,Yay,or_false]at hb;rcases hb with rfl|rfl
   ·rw[jad hen];exact(hf _ (by simp)).1
   ·rw[jad hin];exact(hf _ (by simp)).1
 done:=by
  intro X hP hw hK hc i pins s σ H E I hf st hg;subst hP hw hK;obtain⟨xs,hq,hx⟩:=hg;obtain⟨its,rv,p,hz⟩:=I.tuple (SqT.of hq);obtain⟨⟨old,he⟩,hit⟩:=st;have hl:its.toArray.size=i:=by rw[Yah,<- rv.length];exact hx
  refine Yfq (jey (A:=X.A.in1) (I.ok.hd hc) it a hai its.toArray) he ⟨by rw[hl];exact hit,p⟩ λh' eb=>⟨rfl,?_⟩
  obtain⟨f0,f1,f2,f3,f4,f5⟩:=hf it (by simp)
  exact I.turned (t':=s.toks) (λb o hb y=>eb b o hb y) f0 f1 f3 f4 f5
 self:=λA i s Q E st h=>by
  obtain⟨⟨old,he⟩,_⟩:=st;exact YcV he h
end
section
variable {X:Cx}
end
end L2

namespace L2
open PySem PySem.Spec PyProof.Rows
section
variable {X:Cx}
theorem jfd:jaX X (.builtin "isinstance") (λxs H Q=>∃(x:V) (c:String) (t:Value) (b:Bool),xs=[x,.ty c]/\TyOf X.K H x t/\YcY X.K t (.type c)=some b/\Q (.bl b) H):=by
 intro pins s σ H xs us Q I r h;obtain⟨x,c,t,b,rfl,ty,e,q⟩:=h;obtain⟨u,v,rfl,ru,rv⟩:=Vals.two r;cases rv;exact jgW I ru ty e λtk=>⟨.bl b,H,I.tok tk,rfl,q⟩
end
section
variable {prog:Program}{w:World}{A:Around}{R:Result->Shared->Prop}{I:Addr}{fp wr:List Addr}{n:Nat}{P:Nat->Value->Prop}{St:Nat->Heap->Prop}
end
section
variable {prog:Program}{w:World}{A:Around}{E:Value->Shared->Prop}{s:Shared}
end

noncomputable def jmX (ks:List (List Int)):Nat:=argBest (λi j=>HT.lexLt (ks.getD i []) (ks.getD j [])) (ks.length-1)
def KeyI (H:Hp)(v:V)(k:List Int):Prop:=∃n,v=.int n/\k=[n]
def KeyT (K:Yac)(H:Hp)(v:V)(k:List Int):Prop:=∃t,v=.ref t/\SqT K H t (k.map V.int)
section
variable {X:Cx}
theorem jfh {vs:List V}{us:List Value}(r:Vals vs us){i:Nat}{u:Value}(h:us[i]?=some u):∃v,vs[i]?=some v/\RelV v u:=by
 induction r generalizing i with
 |nil=>cases h
 |cons a r ih=>
  cases i with
  |zero=>exact⟨_,rfl,by cases h;exact a⟩
  |succ i=>exact ih h
theorem jfB {ns:List Int}{us:List Value}(r:Vals (ns.map V.int) us):IntsAre us ns:=by
 induction ns generalizing us with
 |nil=>cases r;exact .nil
 |cons n ns ih=>
  cases r with
  |cons a r=>
   obtain⟨t,rfl⟩:=a;exact .cons n t (ih r)
end
end L2

namespace L2
open PySem PySem.Spec PyProof.Rows PySem.W
section
variable {n:Nat}{lt:Nat->Nat->Bool}{cmp:Nat->Nat->(Bool->Shared->Prop)->Shared->Prop}{s:Shared}
structure Asks (n:Nat)(lt:Nat->Nat->Bool)(cmp:Nat->Nat->(Bool->Shared->Prop)->Shared->Prop)(s:Shared):Prop where
 ask:∀i j C,i<n->j<n->C (lt i j) s->cmp i j C s
 tr:∀i j k,i<n->j<n->k<n->lt i j=true->lt j k=true->lt i k=true
 tot:∀i j,i<n->j<n->i≠j->lt i j=true\/lt j i=true
 ir:∀i,i<n->lt i i=false
noncomputable def gD (p:Array Nat)(k:Nat):Nat:=p.getD k 0
structure Arr (n:Nat)(p:Array Nat):Prop where
 z:p.size=n
 b:∀i,i<n->gD p i<n
 inj:∀i j,i<n->j<n->gD p i=gD p j->i=j
 pm:p.toList.Perm (YaW n)
def Asc (lt:Nat->Nat->Bool)(p:Array Nat)(m:Nat):Prop:=∀i,i+1<m->lt (gD p i) (gD p (i+1))=true
theorem Asks.no (a:Asks n lt cmp s){p:Array Nat}(r:Arr n p){i j:Nat}(hi:i<n)(hj:j<n)(hne:i≠j)(h:lt (gD p i) (gD p j)=false):lt (gD p j) (gD p i)=true:=by
 rcases a.tot _ _ (r.b i hi) (r.b j hj) (λz=>hne (r.inj i j hi hj z))with z|z
 ·rw[h]at z;cases z
 ·exact z
theorem Asc.less (a:Asks n lt cmp s){p:Array Nat}(r:Arr n p){m:Nat}(hm:m<=n)(h:Asc lt p m):∀d i,i+d+1<m->lt (gD p i) (gD p (i+d+1))=true
 |0,i,hi=>h i hi
 |d+1,i,hi=>a.tr _ _ _ (r.b _ (by omega)) (r.b _ (by omega)) (r.b _ (by omega)) (Asc.less a r hm h d i (by omega)) (h (i+d+1) hi)
theorem jht (a:Asks n lt cmp s){p:Array Nat}(r:Arr n p){Q:Nat->Shared->Prop}{m:Nat}(hm:m<=n):∀(f k:Nat),1<=k->k+f=m->Asc lt p k->(∀k',k<=k'->k'<=m->Asc lt p k'->(k'<m->lt (gD p k') (gD p (k'-1))=true)->Q k' s)->(kas_asc p f k).kasWp cmp Q s
 |0,k,_,e,h,q=>q k (Yag _) (by omega) h λz=>by omega
 |f+1,k,h1,e,h,q=>by
  refine a.ask _ _ _ (r.b k (by omega)) (r.b (k-1) (by omega)) ?_
  show(if lt (gD p k) (gD p (k-1))=true then Yfl k else kas_asc p f (k+1)).kasWp cmp Q s
  by_cases c:lt (gD p k) (gD p (k-1))=true
  ·rw[if_pos c];exact q k (Yag _) (by omega) h λ_=>c
  ·rw[if_neg c];have c:lt (gD p (k-1)) (gD p k)=true:=a.no r (by omega) (by omega) (by omega) (by simpa using c)
   refine jht a r hm f (k+1) (by omega) (by omega) (λi hi=>?_) λk' h2 h3 h4 h5=>q k' (by omega) h3 h4 h5
   by_cases z:i+1=k
   ·have:i=k-1:=by omega
    rw[z,this];exact c
   ·exact h i (by omega)
theorem jhe (a:Asks n lt cmp s){p:Array Nat}(r:Arr n p){Q:Array Nat×Nat×Nat->Shared->Prop}{m:Nat}(hm:m<=n):∀(f k:Nat),1<=k->k+f=m->(∀i,i+1<k->lt (gD p (i+1)) (gD p i)=true)->(∀k',k<=k'->k'<=m->(∀i,i+1<k'->lt (gD p (i+1)) (gD p i)=true)->Q (p,k',0) s)->(kas_desc f p k 0).kasWp cmp Q s
 |0,k,_,e,h,q=>q k (Yag _) (by omega) h
 |f+1,k,h1,e,h,q=>by
  refine a.ask _ _ _ (r.b k (by omega)) (r.b (k-1) (by omega)) ?_
  show(if lt (gD p k) (gD p (k-1))=true then (if 0>0 then kas_desc f (kas_rev p (k-(0+1)) k) (k+1) 0 else kas_desc f p (k+1) 0)
   else KasT.ask (gD p (k-1)) (gD p k) λd=>if d=true then Yfl (p,k,0) else kas_desc f p (k+1) (0+1)).kasWp cmp Q s
  by_cases c:lt (gD p k) (gD p (k-1))=true
  ·rw[if_pos c,if_neg (by decide)]
   refine jhe a r hm f (k+1) (by omega) (by omega) (λi hi=>?_) λk' h2 h3 h4=>q k' (by omega) h3 h4
   by_cases z:i+1=k
   ·have:i=k-1:=by omega
    rw[z,this];exact c
   ·exact h i (by omega)
  ·rw[if_neg c];have c:lt (gD p (k-1)) (gD p k)=true:=a.no r (by omega) (by omega) (by omega) (by simpa using c)
   refine a.ask _ _ _ (r.b (k-1) (by omega)) (r.b k (by omega)) ?_
   dsimp only;rw[if_pos c];exact q k (Yag _) (by omega) h
theorem jg5 {p q:Array Nat}{i j:Nat}(h:p[i]?=q[j]?):gD p i=gD q j:=by
 unfold gD;rw[YbM,YbM,h]
theorem jeS {p:Array Nat}{m:Nat}(hm:m<=p.size)(k:Nat):gD (kas_rev p 0 m) k=if k<m then gD p (m-1-k) else gD p k:=by
 have:=getElem?_mirror_all (xs:=p) (i:=0) hm k;split
 ·rename_i h;refine jg5 ?_;show(mirror p 0 m ((m-0)/2))[k]?=_;rw[this,if_pos ⟨Ybb _,h⟩];congr 1;omega
 ·rename_i h;refine jg5 ?_;show(mirror p 0 m ((m-0)/2))[k]?=_;rw[this,if_neg (λz=>h z.2)]
theorem Arr.rev {p:Array Nat}(r:Arr n p){m:Nat}(hm:m<=n):Arr n (kas_rev p 0 m):=by
 have g:=λk=>jeS (p:=p) (m:=m) (by rw[r.z];exact hm) k
 refine⟨by rw[kas_rev_size,r.z],λi hi=>?_,λi j hi hj e=>?_,(Array.perm_iff_toList_perm.mp (mirror_perm p 0 m ((m-0)/2))).trans r.pm⟩
 ·rw[g];split
  ·exact r.b _ (by omega)
  ·exact r.b _ hi
 ·rw[g,g]at e;split at e<;>split at e
  ·have:=r.inj _ _ (by omega) (by omega) e;omega
  ·have:=r.inj _ _ (by omega) (by omega) e;omega
  ·have:=r.inj _ _ (by omega) (by omega) e;omega
  ·exact r.inj _ _ hi hj e
theorem jih (a:Asks n lt cmp s){p:Array Nat}(r:Arr n p){Q:Nat×Array Nat->Shared->Prop}(h2:2<=n)(q:∀k p',1<=k->k<=n->Arr n p'->Asc lt p' k->Q (k,p') s):(kas_count n p).kasWp cmp Q s:=by
 unfold kas_count;rw[Ych];refine jht a r (m:=n) (Yag _) (n-1) 1 (Yag _) (by omega) (λi hi=>by omega) λk h1 h3 h4 h5=>?_
 by_cases e:k=n
 ·rw[if_pos (by simpa using e)]
  exact q k p h1 h3 r h4
 ·rw[if_neg (by simpa using e)]
  by_cases hk:k>1
  ·rw[if_pos hk];refine a.ask _ _ _ (r.b 0 (by omega)) (r.b (k-1) (by omega)) ?_
   have c:lt (p.getD 0 0) (p.getD (k-1) 0)=true:=by
    have:=Asc.less a r h3 h4 (k-2) 0 (by omega)
    rw[show 0+(k-2)+1=k-1 by omega]at this
    exact this
   dsimp only;rw[if_pos c];exact q k p h1 h3 r h4
  ·rw[if_neg hk];have k1:k=1:=by omega
   subst k1;unfold kas_descPart;rw[Ych];refine jhe a r (m:=n) (Yag _) (n-(1+1)) (1+1) (by omega) (by omega) (λi hi=>?_) λk' h6 h7 h8=>?_
   ·have:i=0:=by omega
    subst this;exact h5 (by omega)
   ·rw[if_neg (by show ¬(0>0);omega)]
    show(kas_tail3 k' n p).kasWp cmp Q s;unfold kas_tail3;rw[Ych];have rr:=r.rev h7;refine jht a rr (m:=n) (Yag _) (n-k') k' (by omega) (by omega) (λi hi=>?_) λk2 h9 ha hb hc=>?_
    ·rw[jeS (by rw[r.z];exact h7),jeS (by rw[r.z];exact h7),if_pos (by omega),if_pos hi]
     have:=h8 (k'-1-(i+1)) (by omega)
     rw[show k'-1-(i+1)+1=k'-1-i by omega]at this
     exact this
    ·exact q k2 _ (by omega) ha rr hb
theorem jdV (a:Asks n lt cmp s){p:Array Nat}(r:Arr n p){Q:Nat->Shared->Prop}{k:Nat}(hk:k<n)(hs:Asc lt p k):∀(f l u:Nat),l<=u->u<=k->u-l<=f->(∀i,i<l->lt (gD p i) (gD p k)=true)->(∀i,u<=i->i<k->lt (gD p k) (gD p i)=true)->
  (∀l',l'<=k->(∀i,i<l'->lt (gD p i) (gD p k)=true)->(∀i,l'<=i->i<k->lt (gD p k) (gD p i)=true)->Q l' s)->(YfH p k f l u).kasWp cmp Q s
 |0,l,u,h1,h2,h3,h4,h5,q=>q l (by omega) h4 λi hi=>h5 i (by omega)
 |f+1,l,u,h1,h2,h3,h4,h5,q=>by
  show(if l ≥ u then Yfl l else KasT.ask (gD p k) (gD p ((l+u)/2)) λc=>if c=true then YfH p k f l ((l+u)/2) else YfH p k f ((l+u)/2+1) u).kasWp cmp Q s
  by_cases e:l ≥ u
  ·rw[if_pos e];exact q l (by omega) h4 λi hi=>h5 i (by omega)
  ·rw[if_neg e];obtain⟨m,hm⟩:∃m,m=(l+u)/2:=⟨_,rfl⟩;rw[<- hm];have m1:l<=m:=by omega
   have m2:m<u:=by omega
   refine a.ask _ _ _ (r.b k hk) (r.b m (by omega)) ?_
   dsimp only;by_cases c:lt (gD p k) (gD p m)=true
   ·rw[if_pos c];refine jdV a r hk hs f l m m1 (by omega) (by omega) h4 (λi hi1 hi2=>?_) q
    by_cases z:i=m
    ·rw[z];exact c
    ·have:=Asc.less a r (Yb2 hk) hs (i-m-1) m (by omega)
     rw[show m+(i-m-1)+1=i by omega]at this
     exact a.tr _ _ _ (r.b _ hk) (r.b _ (by omega)) (r.b _ (by omega)) c this
   ·rw[if_neg c];have c:lt (gD p m) (gD p k)=true:=a.no r hk (by omega) (by omega) (by simpa using c)
    refine jdV a r hk hs f (m+1) u (by omega) h2 (by omega) (λi hi=>?_) h5 q
    by_cases z:i=m
    ·rw[z];exact c
    ·have:=Asc.less a r (Yb2 hk) hs (m-i-1) i (by omega)
     rw[show i+(m-i-1)+1=m by omega]at this
     exact a.tr _ _ _ (r.b _ (by omega)) (r.b _ (by omega)) (r.b _ hk) this c
theorem jkK {p:Array Nat}{k l:Nat}(hk:k<p.size)(hl:l<=k)(i:Nat):gD (bubble p k (k-l)) i=if i=l then gD p k else if l<i/\i<=k then gD p (i-1) else gD p i:=by
 have:=getElem?_bubble (xs:=p) hk (k-l) (by omega) i
 rw[show k-(k-l)=l by omega]at this
 split
 ·rename_i h;refine jg5 ?_;rw[this,if_pos h]
 ·rename_i h;rw[if_neg h]at this;split
  ·rename_i h';refine jg5 ?_;rw[this,if_pos h']
  ·rename_i h';refine jg5 ?_;rw[this,if_neg h']
theorem jiY (a:Asks n lt cmp s){Q:Array Nat->Shared->Prop}(q:∀p,Arr n p->Asc lt p n->Q p s):∀(f:Nat) (p:Array Nat) (k:Nat),Arr n p->k+f=n->Asc lt p k->(kas_bin f p k).kasWp cmp Q s
 |0,p,k,r,e,h=>by
  have:k=n:=by omega
  subst this;exact q p r h
 |f+1,p,k,r,e,h=>by
  show((YfH p k k 0 k).bind λl=>kas_bin f (bubble p k (k-l)) (k+1)).kasWp cmp Q s;rw[Ych];refine jdV a r (by omega) h k 0 k (Ybb _) (Yag _) (by omega) (λi hi=>by omega) (λi h1 h2=>by omega) λl hl h1 h2=>?_
  have g:=λi=>jkK (p:=p) (k:=k) (l:=l) (by rw[r.z];omega) hl i
  refine jiY a q f _ (k+1) ⟨by rw[bubble_size,r.z],λi hi=>?_,λi j hi hj e'=>?_,(Array.perm_iff_toList_perm.mp (bubble_perm p k (k-l))).trans r.pm⟩ (by omega) λi hi=>?_
  ·rw[g];split
   ·exact r.b _ (by omega)
   ·split
    ·exact r.b _ (by omega)
    ·exact r.b _ hi
  ·have g2:∀i,gD (bubble p k (k-l)) i=gD p (if i=l then k else if l<i/\i<=k then i-1 else i):=λi=>by
    rw[g];split
    ·rfl
    ·split<;>rfl
   rw[g2,g2]at e';have bd:∀i,i<n->(if i=l then k else if l<i/\i<=k then i-1 else i)<n:=λi hi=>by
    split
    ·omega
    ·split<;>omega
   have e2:=r.inj _ _ (bd i hi) (bd j hj) e';by_cases x1:i=l
   ·rw[if_pos x1]at e2;by_cases y1:j=l
    ·omega
    ·rw[if_neg y1]at e2;by_cases y2:l<j/\j<=k
     ·rw[if_pos y2]at e2;omega
     ·rw[if_neg y2]at e2;omega
   ·rw[if_neg x1]at e2;by_cases y1:j=l
    ·rw[if_pos y1]at e2;by_cases x2:l<i/\i<=k
     ·rw[if_pos x2]at e2;omega
     ·rw[if_neg x2]at e2;omega
    ·rw[if_neg y1]at e2;by_cases x2:l<i/\i<=k
     ·rw[if_pos x2]at e2;by_cases y2:l<j/\j<=k
      ·rw[if_pos y2]at e2;omega
      ·rw[if_neg y2]at e2;omega
     ·rw[if_neg x2]at e2;by_cases y2:l<j/\j<=k
      ·rw[if_pos y2]at e2;omega
      ·rw[if_neg y2]at e2;omega
  ·rw[g,g];by_cases c1:i+1<l
   ·rw[if_neg (by omega),if_neg (by omega),if_neg (by omega),if_neg (by omega)]
    exact h i (by omega)
   ·by_cases c2:i+1=l
    ·rw[if_neg (by omega),if_neg (by omega),if_pos c2]
     exact h1 i (by omega)
    ·by_cases c3:i=l
     ·rw[if_pos c3,if_neg (by omega),if_pos (by omega)]
      rw[show i+1-1=l by omega]
      exact h2 l (Yag _) (by omega)
     ·rw[if_neg c3,if_pos (by omega),if_neg (by omega),if_pos (by omega)]
      have:=h (i-1) (by omega)
      rw[show i-1+1=i+1-1 by omega]at this
      exact this
theorem jjf (a:Asks n lt cmp s){Q:Array Nat->Shared->Prop}(h2:2<=n)(q:∀p,Arr n p->Asc lt p n->Q p s):(kas_sort n).kasWp cmp Q s:=by
 unfold kas_sort;rw[Ych];have r0:Arr n (YcZ (YaW n)):=by
  have g:∀i,i<n->gD (YcZ (YaW n)) i=i:=λi hi=>by unfold gD;simp[Array.getD,hi]
  exact⟨by simp,λi hi=>by rw[g i hi];exact hi,λi j hi hj e=>by rw[g i hi,g j hj]at e;exact e,by simp⟩
 refine jih a r0 h2 λk p' h1 h3 r h4=>?_;show(if k<n then kas_bin (n-max k 1) p' (max k 1) else Yfl p').kasWp cmp Q s
 by_cases c:k<n
 ·rw[if_pos c,Nat.max_eq_left h1];exact jiY a q (n-k) p' k r (by omega) h4
 ·rw[if_neg c];have:k=n:=by omega
  subst this;exact q p' r h4
end
end L2

namespace L2
open PySem PySem.Spec PyProof.Rows PySem.W
open PySem.AutoSeq1 (wpAny_loadPart')
open PySem.MeetsSeq PySem.MeetsSeq2 PySem.MeetsSeq3
theorem jfA {us:List Value}{ns:List Int}(r:IntsAre us ns){i:Nat}{u:Value}(h:us[i]?=some u):∃z t,ns[i]?=some z/\u=.int z t:=by
 induction r generalizing i with
 |nil=>cases h
 |cons z t r ih=>
  cases i with
  |zero=>cases h;exact⟨z,t,rfl,rfl⟩
  |succ i=>exact ih h
section
variable {ns ms:List Int}{i:Nat}
theorem jia {a c:Int}(h1:ns[i]?=some a)(h2:ms[i]?=some c):HT.lexLt (ns.drop i) (ms.drop i)=if a=c then HT.lexLt (ns.drop (i+1)) (ms.drop (i+1)) else decide (a<c):=by
 obtain⟨g1,e1⟩:=List.getElem?_eq_some_iff.mp h1;obtain⟨g2,e2⟩:=List.getElem?_eq_some_iff.mp h2;rw[YaX g1,YaX g2,HT.lexLt_cons,e1,e2]
theorem jj9 (h:i=ns.length\/i=ms.length)(h1:i<=ns.length)(h2:i<=ms.length):HT.lexLt (ns.drop i) (ms.drop i)=decide (ns.length<ms.length):=by
 by_cases e1:i=ns.length
 ·rw[YcT (l:=ns) (by omega)]
  by_cases e2:i=ms.length
  ·rw[YcT (by omega),HT.lexLt_nil_nil];exact(decide_eq_false (by omega)).symm
  ·rw[YaX (l:=ms) (by omega),HT.lexLt_nil_cons];exact(decide_eq_true (by omega)).symm
 ·rw[YaX (l:=ns) (by omega),YcT (l:=ms) (by omega),HT.lexLt_cons_nil];exact(decide_eq_false (by omega)).symm
end
theorem jj6 (l b : Addr)(xs ys : Array Value)(n m : Nat)(dd de : Option Addr)(sl sm : Array (Option Value))(ns ms : List Int)(hi : IntsAre xs.toList ns)(hj : IntsAre ys.toList ms)(k : Nat) :
    ∀ i : Nat, ns.length - i = k -> i <= ns.length -> i <= ms.length -> Meets (Builtin.«list.__eq__.loop» ⟨[.ref l, .ref b, rawInt i, rawInt 0], []⟩)
      (λ_ R s => s.heap.get? l = some { cls := .type "list", dict := dd, data := .seq xs n, slots := sl } /\ s.heap.get? b = some { cls := .type "list", dict := de, data := .seq ys m, slots := sm } /\ R (.ok (.ret (.bool (HT.lexLt (ns.drop i) (ms.drop i))))) s) := by
  have z1 : xs.size = ns.length := by rw [<- hi.length]; simp
  have z2 : ys.size = ms.length := by rw [<- hj.length]; simp
  have stop : ∀ i : Nat, i <= ns.length -> i <= ms.length -> (i = ns.length \/ i = ms.length) -> Meets (Builtin.«list.__eq__.loop» ⟨[.ref l, .ref b, rawInt i, rawInt 0], []⟩)
      (λ_ R s => s.heap.get? l = some { cls := .type "list", dict := dd, data := .seq xs n, slots := sl } /\ s.heap.get? b = some { cls := .type "list", dict := de, data := .seq ys m, slots := sm } /\ R (.ok (.ret (.bool (HT.lexLt (ns.drop i) (ms.drop i))))) s) := by
    intro i h1 h2 h3 prog w A R s h
    obtain ⟨hp, g, d, tk, os⟩ := s; obtain ⟨gl, gb, h⟩ := h
    rw [jj9 h3 h1 h2, <- z1, <- z2] at h
    wp_walk using wpAny_loadPart' gl, wpAny_loadPart' gb
    rcases h3 with e | e
    · have q1 : xs[((i : Nat) : Int).toNat]? = none := by simp; omega
      rw [q1]
      wp_walk using wpAny_loadPart' gl, wpAny_loadPart' gb
      exact h
    · have q2 : ys[((i : Nat) : Int).toNat]? = none := by simp; omega
      rw [q2]
      cases q1 : xs[((i : Nat) : Int).toNat]? with
      | none => wp_walk using wpAny_loadPart' gl, wpAny_loadPart' gb
                exact h
      | some v => wp_walk using wpAny_loadPart' gl, wpAny_loadPart' gb
                  exact h
  induction k with
  | zero => exact λi hk h1 h2 => stop i h1 h2 (.inl (by omega))
  | succ k ih =>
    intro i hk h1 h2
    by_cases e : i = ms.length
    · exact stop i h1 h2 (.inr e)
    · intro prog w A R s h
      obtain ⟨hp, g, d, tk, os⟩ := s; obtain ⟨gl, gb, h⟩ := h
      wp_walk using wpAny_loadPart' gl, wpAny_loadPart' gb
      have l1 : i < xs.size := by omega
      have l2 : i < ys.size := by omega
      have q1 : xs[((i : Nat) : Int).toNat]? = some xs[i] := by simp [l1]
      have q2 : ys[((i : Nat) : Int).toNat]? = some ys[i] := by simp [l2]
      have hc : ((i : Int) + 1) = ((i + 1 : Nat) : Int) := by push_cast; rfl
      obtain ⟨a, t, ea, va⟩ := jfA hi (i := i) (u := xs[i]) (by simp [l1])
      obtain ⟨c, u, ec, vc⟩ := jfA hj (i := i) (u := ys[i]) (by simp [l2])
      rw [jia ea ec] at h
      rw [q1, q2, va, vc]
      obtain ⟨e, he, hiff⟩ := HT.eqAt_int A.in1 ⟨hp, g, d, tk, os⟩ a t c u
      refine Yad (he prog w _ _ ?_)
      cases e with
      | true =>
        rw [if_pos (hiff.mp rfl)] at h
        wp_walk
        rw [hc]
        exact ⟨plainId_quiet plain_eq_loop _, codeAny_builtin entry_eq_loop (by rw [YeB plain_eq_loop _]; exact ih (i + 1) (by omega) (by omega) (by omega) prog w A R _ ⟨gl, gb, h⟩)⟩
      | false =>
        rw [if_neg (λq => absurd (hiff.mpr q) Yam)] at h
        wp_walk using wpAny_loadPart' gl, wpAny_loadPart' gb
        rw [q1, q2, va, vc]
        have hri := HT.rcLt_int A.in1 ⟨hp, g, d, tk, os⟩ a t c u prog w
        wp_walk using hri
        exact h
theorem jj8 (l b:Addr)(xs ys:Array Value)(n m:Nat)(dd de:Option Addr)(sl sm:Array (Option Value))(ns ms:List Int)(hi:IntsAre xs.toList ns)(hj:IntsAre ys.toList ms):Meets (Builtin.«list.__lt__» ⟨[.ref l,.ref b],[]⟩)
   (λ_ R s=>s.heap.get? l=some { cls:=.type "list",dict:=dd,data:=.seq xs n,slots:=sl }/\s.heap.get? b=some { cls:=.type "list",dict:=de,data:=.seq ys m,slots:=sm }/\R (.ok (.ret (.bool (HT.lexLt ns ms)))) s):=by
 intro prog w A R s h;obtain⟨hp,g,d,tk,os⟩:=s;obtain⟨gl,gb,h⟩:=h;have f3:=AutoSeq1.sub_list_list
 wp_walk using wpAny_loadPart' gl,wpAny_loadPart' gb
 exact⟨plainId_quiet plain_eq_loop _,codeAny_builtin entry_eq_loop (by rw[YeB plain_eq_loop _];exact jj6 l b xs ys n m dd de sl sm ns ms hi hj _ 0 rfl (Ybb _) (Ybb _) prog w A R _ ⟨gl,gb,h⟩)⟩
end L2

namespace L2
open PySem PySem.Spec PyProof.Rows PySem.W
noncomputable def jce:Nat:=64
section
variable {prog:Program}{w:World}{A:Around}{E:Value->Shared->Prop}{s:Shared}
theorem jfW {a b:Addr}{xs ys:Array Value}{ns ms:List Int}{Q:Bool->Shared->Prop}(hu:A.units<cLine)(ga:PlainL s.heap a xs)(gb:PlainL s.heap b ys)(hi:IntsAre xs.toList ns)(hj:IntsAre ys.toList ms)(h:Q (HT.lexLt ns ms) s) :
  wpAny (model prog w) A (oneLt' true (.ref a) (.ref b)) Q E s:=by
 obtain⟨⟨c1,d1,dt1,sl1⟩,n1,e1,p1,q1,r1⟩:=ga;obtain⟨⟨c2,d2,dt2,sl2⟩,n2,e2,p2,q2,r2⟩:=gb;simp only at p1 q1 r1 p2 q2 r2;subst p1 q1 r1 p2 q2 r2;rw[oneLt'_eq];simp only[if_true];refine Yad (wpAny_cRoomFor hu (Yad (wpAny_callSpecialIfBound?_slot ⟨_,e1,rfl⟩ Yep (Ybt Yep ⟨_,e1,rfl⟩ PySem.F.entry_list_lt (PySem.F.args_list_lt_2 _ _) (jj8 a b xs ys n1 n2 none none sl1 sl2 ns ms hi hj) ⟨e1,e2,?_⟩))));exact YbV h
theorem jnu {α β γ:Type}{M:Model}{c:Prop}[Decidable c]{m n:Sem α}{g:α->Sem β}{f:β->Sem γ}{Q:γ->Shared->Prop}(mid:β->Shared->Prop)(h1:c->wpAny M A m (λa s1=>wpAny M A (g a) mid E s1) E s)(h2:¬c->wpAny M A n (λa s1=>wpAny M A (g a) mid E s1) E s)(h3:∀b s2,mid b s2->wpAny M A (f b) Q E s2) :
  wpAny M A (if c then m >>= λa=>g a >>= f else n >>= λa=>g a >>= f) Q E s:=by
 have on:∀{m:Sem α},wpAny M A m (λa s1=>wpAny M A (g a) mid E s1) E s->wpAny M A (m >>= λa=>g a >>= f) Q E s:=λh=>Yad (thn h λa s1 h=>Yad (thn h h3));by_cases hc:c
 ·rw[if_pos hc];exact on (h1 hc)
 ·rw[if_neg hc];exact on (h2 hc)
theorem jeR {κ:SortKind}{a:Addr}{vs:List Value}{n:Nat}{P:Fin->Shared->Prop}(ho:s.heap.get? a=some (seqObj "list" vs.toArray n))(h64:vs.length<jce)(nd:vs.Nodup)(lt:Nat->Nat->Bool)
  (hk:∀h':Heap,(∀b o,b≠a->s.heap.get? b=some o->h'.get? b=some o)->2<=vs.length->∀R:SortKind->Shared->Prop,R κ { s with heap:=h' }->wpAny (model prog w) A (keyKind' vs.toArray) R E { s with heap:=h' })
  (as:∀h':Heap,(∀b o,b≠a->s.heap.get? b=some o->h'.get? b=some o)->Asks vs.length lt (kas_ask prog w A κ vs) { s with heap:=h' })
  (q:∀π:List Nat,π.Perm (YaW vs.length)->(∀i,i+1<vs.length->lt (π.getD i 0) (π.getD (i+1) 0)=true)->P (.done (.ret .none)) { s with heap:=sortedHeap s.heap a vs (YcZ (π.map λi=>vs.getD i YaP)) }) :
  wpAny (model prog w) A (Builtin.«list.sort» ⟨[.ref a],[]⟩) P E s:=by
 rw[list_sort_plain];have hz:vs.toArray.size=vs.length:=by simp
 have big:vs.length<=Yai:=by rw[Yce];unfold jce at h64;omega
 have at1:=get?_update_seq ho λ_=>(#[]:Array Value);generalize eh1:s.heap.update a (Ycg λ_=>(#[]:Array Value))=h1 at at1;obtain⟨e1,ho1⟩:∃e1,h1.get? a=some (seqObj "list" #[] e1):=⟨_,at1⟩;refine Yad (listItems_at ho rfl (Yad (listUpdate_at ho rfl ?_ (hz ▸ big) (Ybb _))));rw[eh1];refine Yad (seqEpoch_at ho1 rfl (Yad (wpAny_newTuple (Yad (wpAny_newList (Ya8 ?_) (Ybb _))) big)));obtain⟨h3,eh3⟩:∃h3,h3=(h1.push (seqObj "tuple" vs.toArray 0)).push (seqObj "list" #[] 0):=⟨_,rfl⟩;refine(?_:wpAny (model prog w) A _ P E { s with heap:=(h1.push (seqObj "tuple" vs.toArray 0)).push (seqObj "list" #[] 0) })
 have kp:∀b o,b≠a->s.heap.get? b=some o->h3.get? b=some o:=λb o hb e=>by
  rw[eh3];exact Yab _ (Yab _ (by rw[<- eh1,Ye3 _ _ _ _ hb];exact e))
 have ho6:h3.get? a=some (seqObj "list" #[] e1):=by rw[eh3];exact Yab _ (Yab _ ho1)
 have fin:∀out:Array Value,sortedHeap s.heap a vs out=h3.update a (Ycg λ_=>out):=λout=>by rw[eh3,<- eh1];rfl
 rw[<- eh3];dsimp only;refine jnu (λ(r:PUnit×SortSt) s'=>s'={ s with heap:=h3 }/\∃π:List Nat,π.Perm (YaW vs.length)/\(∀i,i+1<vs.length->lt (π.getD i 0) (π.getD (i+1) 0)=true)/\(arrOf r.2).map (·.2)=YcZ (π.map λi=>vs.getD i YaP)/\failedOf r.2=none) (λh2=>?_) (λh2=>?_) ?_
 rotate_right
 ·rintro⟨⟨⟩,st⟩ s' ⟨rfl,π,hp,hs,hout,hf⟩;refine Yad (seqEpoch_at ho6 rfl (Yad (listUpdate_at ho6 rfl ?_ (Ybb _) (by rw[hout,Yah,Yaa,hp.length_eq,Yca];exact Nat.le_succ_of_le big))))
  dsimp only;rw[hf,bne_self_eq_false];refine Yap ?_;rw[hout,<- fin];exact q π hp hs
 ·rw[if_pos h2];refine Yap (Yap ⟨rfl,YaW vs.length,.refl _,λi hi=>by rw[hz]at h2;omega,?_,rfl⟩)
  refine(?_:(vs.toArray.zip vs.toArray).map (·.2)=_);apply Array.toList_inj.mp;refine YdH (by simp) λi g1 g2=>?_
  have hi:i<vs.length:=by simpa using g1
  simp[Ya1,hi]
 ·rw[if_neg h2];rw[hz]at h2;refine hk h3 kp (Nat.not_lt.mp h2) _ ?_;refine Ybe (kat_run (s:={ s with heap:=h3 }) (κ:=κ) (Q:=λst' s'=>s'={ s with heap:=h3 }/\∃p:Array Nat,Arr vs.length p/\Asc lt p vs.length/\arrOf st'=p.map (kas_item (vs.toArray.zip vs.toArray))/\failedOf st'=none)
   (G:=λp s'=>s'={ s with heap:=h3 }/\Arr vs.length p/\Asc lt p vs.length) (ks:=vs) (vs:=vs) rfl (by omega) h64 (λp st' s' a1 a2 a3 a4=>⟨a4.1,p,a4.2.1,a4.2.2,a2,a3⟩) (jjf (as h3 kp) (by omega) λp r1 r2=>⟨rfl,r1,r2⟩)) ?_ λ_ _ e=>e
  rintro⟨⟨⟩,st⟩ s' ⟨rfl,p,r1,r2,ar,hf⟩;refine⟨rfl,p.toList,r1.pm,λi hi=>?_,kat_snds rfl ar,hf⟩;have:=r2 i hi;unfold gD at this;rw[YbM,YbM]at this;rw[YaM,YaM,YbK,YbK];exact this
end

theorem jj5:∀a:List Int,HT.lexLt a a=false
 |[]=>rfl
 |x::a=>by rw[HT.lexLt_cons,if_pos rfl];exact jj5 a
theorem jh8:∀a b c:List Int,HT.lexLt a b=true->HT.lexLt b c=true->HT.lexLt a c=true
 |[],[],_,h,_=>by cases h
 |[],_::_,[],_,h=>by rw[HT.lexLt_cons_nil]at h;cases h
 |[],_::_,_::_,_,_=>rfl
 |_::_,[],_,h,_=>by rw[HT.lexLt_cons_nil]at h;cases h
 |_::_,_::_,[],_,h=>by rw[HT.lexLt_cons_nil]at h;cases h
 |x::a,y::b,z::c,h1,h2=>by
  rw[HT.lexLt_cons]at h1 h2 ⊢;by_cases e1:x=y
  ·rw[if_pos e1]at h1;by_cases e2:y=z
   ·rw[if_pos e2]at h2;rw[if_pos (e1.trans e2)];exact jh8 a b c h1 h2
   ·rw[if_neg e2]at h2;rw[if_neg (λq=>e2 (e1.symm.trans q)),e1];exact h2
  ·rw[if_neg e1]at h1;by_cases e2:y=z
   ·rw[if_pos e2]at h2;rw[if_neg (λq=>e1 (q.trans e2.symm)),<- e2];exact h1
   ·rw[if_neg e2]at h2;have g1:=of_decide_eq_true h1;have g2:=of_decide_eq_true h2;rw[if_neg (by omega)];exact decide_eq_true (by omega)
theorem jiF:∀a b:List Int,a≠b->HT.lexLt a b=true\/HT.lexLt b a=true
 |[],[],h=>absurd rfl h
 |[],_::_,_=>.inl rfl
 |_::_,[],_=>.inr rfl
 |x::a,y::b,h=>by
  rw[HT.lexLt_cons,HT.lexLt_cons];by_cases e:x=y
  ·rw[if_pos e,if_pos e.symm];exact jiF a b λz=>h (by rw[e,z])
  ·rw[if_neg e,if_neg (Ne.symm e)];by_cases z:x<y
   ·exact .inl (decide_eq_true z)
   ·exact .inr (decide_eq_true (by omega))
def KeyL (K:Yac)(H:Hp)(v:V)(k:List Int):Prop:=∃t,v=.ref t/\SqL K H t (k.map V.int)
theorem jh9 {prog:Program}{w:World}{A:Around}{s:Shared}{Q:Bool->Shared->Prop}{k k':List Int}{ia ib:List Value}(ra:Vals (k.map V.int) ia)(rb:Vals (k'.map V.int) ib)(i:Nat)(h:Q (HT.lexLt k k') s):KatLex prog w A true (decide (ia.toArray.size<ib.toArray.size)) Q (ia.toArray.toList.zip ib.toArray.toList) i s:=by
 have go:∀(k:List Int) {k':List Int} {ia ib:List Value} (fin:Bool),Vals (k.map V.int) ia->Vals (k'.map V.int) ib->fin=decide (ia.length<ib.length)->∀(i:Nat),Q (HT.lexLt k k') s->KatLex prog w A true fin Q (ia.zip ib) i s:=λk=>by
  induction k with
  |nil=>
   intro k' ia ib fin ra rb hf i h;cases ra;subst hf;cases k' with
   |nil=>cases rb;exact kat_nil (by rw[HT.lexLt_nil_nil]at h;simpa using h)
   |cons y k'=>
    cases rb with
    |cons b rb=>
     refine kat_nil ?_;rw[show HT.lexLt [] (y::k')=true from rfl]at h;simpa using h
  |cons x k ih=>
   intro k' ia ib fin ra rb hf i h;cases ra with
   |cons a ra=>
    cases k' with
    |nil=>cases rb;subst hf;exact kat_nil (by rw[HT.lexLt_cons_nil]at h;simpa using h)
    |cons y k'=>
     cases rb with
     |cons b rb=>
      obtain⟨t,rfl⟩:=a;obtain⟨u,rfl⟩:=b;rw[HT.lexLt_cons]at h;refine kat_cons (wpAny_eqBool_int ?_);refine kat_go (λe=>kat_yes ?_) λe=>kat_no ?_
      ·have e:x=y:=by simpa using e
       rw[if_pos e]at h;exact ih fin ra rb (by rw[hf];simp) (i+1) h
      ·have e:¬x=y:=by simpa using e
       rw[if_neg e]at h;cases i with
       |zero=>exact oneLt_int h
       |succ i=>
        rw[show(true&&(i+1==0))=false by simp]
        exact kat_one _ _ (wpAny_lt_int h)
 exact go k _ ra rb (by simp) i h
section
variable {X:Cx}
def jn0 (X:Cx)(xs:List V)(H:Hp)(Q:VK):Prop:=∃(p:Addr) (vs:List V) (ks:List (List Int)),xs=[.ref p]/\SqL X.K H p vs/\vs.length=ks.length/\ks.Nodup/\vs.length<jce/\
 ((∀(i:Nat) v k,vs[i]?=some v->ks[i]?=some k->KeyI H v k)\/(∀(i:Nat) v k,vs[i]?=some v->ks[i]?=some k->KeyL X.K H v k)\/∀(i:Nat) v k,vs[i]?=some v->ks[i]?=some k->KeyT X.K H v k/\k≠[])/\
 ∀(l:Addr) (π:List Nat),H l=none->π.Perm (YaW vs.length)->(∀i,i+1<vs.length->HT.lexLt (ks.getD (π.getD i 0) []) (ks.getD (π.getD (i+1) 0) [])=true)->Q (.ref l) (upd H l (.lst (π.map λi=>vs.getD i .non)))
theorem jmb {α:Type}{l:List α}(h:l.Nodup){i j:Nat}(hi:i<l.length)(hj:j<l.length)(hne:i≠j):l[i]≠l[j]:=by
 have h:=List.pairwise_iff_getElem.mp h;rcases Nat.lt_or_gt_of_ne hne with z|z
 ·exact h i j hi hj z
 ·exact λe=>h j i hj hi z e.symm
theorem jeF (hc:X.calm=true)(hu:X.A.units+2<cLine):jaX X (.builtin "sorted") (jn0 X):=by
 intro pins s σ H xs us Q I r h;obtain⟨p,vs,ks,rfl,hq,hl,hnd,h64,hk,q⟩:=h;obtain⟨u,rfl,rx⟩:=jb9 r;cases rx;obtain⟨its,rv,pl,hz⟩:=I.list hq;have il:=rv.length;have hL:=pl.isList;have key:∀{i:Nat} {u:Value},its[i]?=some u->∃v k,vs[i]?=some v/\ks[i]?=some k/\RelV v u:=λ{i u} e=>by
  obtain⟨v,ev,r1⟩:=jfh rv e;have:i<ks.length:=by rw[<- hl];exact(List.getElem?_eq_some_iff.mp ev).1
  exact⟨v,ks[i],ev,Yae this,r1⟩
 have nd:its.Nodup:=by
  refine List.pairwise_iff_getElem.mpr λi j hi hj hij e=>?_;obtain⟨x,k,ex,ek,r1⟩:=key (Yae hi);obtain⟨y,k',ey,ek',r2⟩:=key (Yae hj);have kne:k≠k':=λz=>by
   obtain⟨h1,q1⟩:=List.getElem?_eq_some_iff.mp ek;obtain⟨h2,q2⟩:=List.getElem?_eq_some_iff.mp ek';exact jmb hnd h1 h2 (by omega) (by rw[q1,q2];exact z)
  rcases hk with hk|hk|hk
  ·obtain⟨z,rfl,e1⟩:=hk i x k ex ek;obtain⟨z',rfl,e2⟩:=hk j y k' ey ek';obtain⟨t1,g1⟩:=r1;obtain⟨t2,g2⟩:=r2;rw[g1,g2]at e;injection e with e3 _
   exact kne (by rw[e1,e2,e3])
  ·obtain⟨a,rfl,ha⟩:=hk i x k ex ek;obtain⟨b,rfl,hb⟩:=hk j y k' ey ek';have g1:its[i]=.ref a:=r1;have g2:its[j]=.ref b:=r2;rw[g1,g2]at e;injection e with e3
   subst e3;exact kne (Yfi (λ_ _ h=>by injection h) |>.mp (I.list_inj ha hb))
  ·obtain⟨⟨a,rfl,ha⟩,_⟩:=hk i x k ex ek;obtain⟨⟨b,rfl,hb⟩,_⟩:=hk j y k' ey ek';have g1:its[i]=.ref a:=r1;have g2:its[j]=.ref b:=r2;rw[g1,g2]at e;injection e with e3
   subst e3;exact kne (Yfi (λ_ _ h=>by injection h) |>.mp (I.tuple_inj ha hb))
 have big:its.length<=Yai:=by rw[Yce];unfold jce at h64;omega
 refine jex (collect_list hL (wpAny_newList ?_ big) big);obtain⟨h1,eh1⟩:∃h1,h1=(s.heap.push (seqObj "list" #[] 0)).update s.heap.objs.size (Ycg (·++its.toArray)):=⟨_,rfl⟩;rw[<- eh1];have k1:∀b o,s.heap.get? b=some o->h1.get? b=some o:=λb o e=>by
  rw[eh1,Ye3 _ _ _ _ (Yav (Yao e))];exact Yab _ e
 have hsz:s.heap.objs.size<=h1.objs.size:=by rw[eh1,Heap.size_update,size_push'];exact Yeb _
 have hoL:(h1.push { cls:=.type "list",data:=.seq its.toArray }).get? h1.objs.size=some (seqObj "list" its.toArray 0):=Yaq _ rfl;have up:∀(h':Heap),(∀b o,b≠h1.objs.size->(h1.push { cls:=.type "list",data:=.seq its.toArray }).get? b=some o->h'.get? b=some o)->∀b o,s.heap.get? b=some o->h'.get? b=some o:=λh' k b o e=>
  k b o (Yav (Yao (k1 b o e))) (Yab _ (k1 b o e))
 obtain⟨κ,hkind,hask⟩:∃κ:SortKind,(∀h':Heap,(∀b o,s.heap.get? b=some o->h'.get? b=some o)->2<=its.length->∀(R:SortKind->Shared->Prop) (E:Value->Shared->Prop),R κ { s with heap:=h' }->wpAny (model X.prog X.w) X.A.in1.in1 (keyKind' its.toArray) R E { s with heap:=h' })/\
   ∀(h':Heap),(∀b o,s.heap.get? b=some o->h'.get? b=some o)->∀(i j:Nat) (C:Bool->Shared->Prop),i<its.length->j<its.length->C (HT.lexLt (ks.getD i []) (ks.getD j [])) { s with heap:=h' }->kas_ask X.prog X.w X.A.in1.in1 κ its i j C { s with heap:=h' }:=by
  have pre:∀{i j:Nat} {C:Bool->Shared->Prop} {h':Heap},∀(hi:i<its.length) (hj:j<its.length),C (HT.lexLt (ks.getD i []) (ks.getD j [])) { s with heap:=h' }->∃x k y k',vs[i]?=some x/\ks[i]?=some k/\RelV x (its.getD i YaP)/\vs[j]?=some y/\ks[j]?=some k'/\RelV y (its.getD j YaP)/\C (HT.lexLt k k') { s with heap:=h' }:=λ{i j C h'} hi hj hC=>by
   have ei:its.getD i YaP=its[i]:=by simp[Ya1,hi]
   have ej:its.getD j YaP=its[j]:=by simp[Ya1,hj]
   obtain⟨x,k,ex,ek,rx⟩:=key (Yae hi);obtain⟨y,k',ey,ek',ry⟩:=key (Yae hj);have di:ks.getD i []=k:=by rw[YaM,ek];rfl
   have dj:ks.getD j []=k':=by rw[YaM,ek'];rfl
   rw[di,dj]at hC;exact⟨x,k,y,k',ex,ek,by rw[ei];exact rx,ey,ek',by rw[ej];exact ry,hC⟩
  rcases hk with hk|hk|hk
  ·refine⟨oneType',λh' up h2 R E hR=>kas_kind (M:=model X.prog X.w) (s:={ s with heap:=h' }) (T:=.type "int") (by omega) (λv hv=>?_) (by decide) (by decide) hR,λh' up i j C hi hj hC=>?_⟩
   ·obtain⟨i,hi,rfl⟩:=YaQ hv;obtain⟨x,k,ex,ek,r1⟩:=key (Yae hi);obtain⟨z,rfl,_⟩:=hk i x k ex ek;obtain⟨t,e⟩:=r1;rw[e];exact Looks.of_pure rfl
   ·obtain⟨x,k,y,k',ex,ek,rx,ey,ek',ry,hC⟩:=pre hi hj hC;unfold kas_ask;rw[keyLt'_oneType];obtain⟨z,rfl,e1⟩:=hk i x k ex ek;obtain⟨z',rfl,e2⟩:=hk j y k' ey ek';obtain⟨t1,g1⟩:=rx;obtain⟨t2,g2⟩:=ry;rw[g1,g2];rw[e1,e2]at hC;refine oneLt_int ?_;have e:HT.lexLt [z] [z']=decide (z<z'):=by
     rw[HT.lexLt_cons];split
     ·rename_i q;rw[q,HT.lexLt_nil_nil];simp
     ·rfl
    rw[e]at hC;exact hC
  ·refine⟨oneType',λh' up h2 R E hR=>kas_kind (M:=model X.prog X.w) (s:={ s with heap:=h' }) (T:=.type "list") (by omega) (λv hv=>?_) (by decide) (by decide) hR,λh' up i j C hi hj hC=>?_⟩
   ·obtain⟨i,hi,rfl⟩:=YaQ hv;obtain⟨x,k,ex,ek,r1⟩:=key (Yae hi);obtain⟨t,rfl,ht⟩:=hk i x k ex ek;obtain⟨js,rj,⟨o,m,eo,ec,_,_⟩,_⟩:=I.list ht;have r1:its[i]=.ref t:=r1;rw[r1];have:Looks (model X.prog X.w) h' (typeOf (.ref t)) o.cls:=(Looks.ld (up _ _ eo)).andThen .now;rw[ec]at this;exact this
   ·obtain⟨x,k,y,k',ex,ek,rx,ey,ek',ry,hC⟩:=pre hi hj hC;unfold kas_ask;rw[keyLt'_oneType];obtain⟨a,rfl,ha⟩:=hk i x k ex ek;obtain⟨b,rfl,hb⟩:=hk j y k' ey ek';obtain⟨ia,ra,pa,_⟩:=I.list ha;obtain⟨ib,rb,pb,_⟩:=I.list hb;have g1:its.getD i YaP=.ref a:=rx;have g2:its.getD j YaP=.ref b:=ry;rw[g1,g2];have upP:∀{t:Addr} {z:Array Value},PlainL s.heap t z->PlainL h' t z:=λ⟨o,n,e,q1,q2,q3⟩=>⟨o,n,up _ _ e,q1,q2,q3⟩;exact jfW (A:=X.A.in1.in1) (by rw[YcI,YcI];omega) (upP pa) (upP pb) (jfB (by simpa using ra)) (jfB (by simpa using rb)) hC
  ·refine⟨tuples' true,λh' up h2 R E hR=>?_,λh' up i j C hi hj hC=>?_⟩
   ·have go:∀l:List Value,(∀v∈l,v∈its)->∃fs,KatTups h' l fs/\fs.length=l.length/\∀f∈fs,Looks (model X.prog X.w) h' (typeOf f) (.type "int"):=λl=>by
     induction l with
     |nil=>intro _;exact⟨[],.nil,rfl,λ_ h=>(nomatch h)⟩
     |cons v l ih=>
      intro hv;obtain⟨fs,h1,h2,h3⟩:=ih λw hw=>hv w (Yaj _ hw);obtain⟨i,hi,rfl⟩:=YaQ (hv v Yaw);obtain⟨x,k,ex,ek,r1⟩:=key (Yae hi);obtain⟨⟨t,rfl,ht⟩,kn⟩:=hk i x k ex ek;obtain⟨js,rj,⟨o,eo,ec,m,ed⟩,_⟩:=I.tuple ht;have r1:its[i]=.ref t:=r1;rw[r1];cases k with
      |nil=>exact absurd rfl kn
      |cons z k=>
       cases rj with
       |@cons v' u' _ us' r0 rr=>
        obtain⟨tk,rfl⟩:=r0;exact⟨_::fs,.cons (up _ _ eo) ec ed rfl h1,by rw[YaB,YaB,h2],λf hf=>by
         rcases YaL.mp hf with rfl|hf
         ·exact Looks.of_pure rfl
         ·exact h3 f hf⟩
    obtain⟨fs,h1,h3,h4⟩:=go its λ_ h=>h;exact kat_kind (M:=model X.prog X.w) (s:={ s with heap:=h' }) h1 (by omega) h4 (by decide) hR
   ·obtain⟨x,k,y,k',ex,ek,rx,ey,ek',ry,hC⟩:=pre hi hj hC;unfold kas_ask;obtain⟨⟨a,rfl,ha⟩,_⟩:=hk i x k ex ek;obtain⟨⟨b,rfl,hb⟩,_⟩:=hk j y k' ey ek';obtain⟨ia,ra,⟨o1,q1,_,m1,d1⟩,_⟩:=I.tuple ha;obtain⟨ib,rb,⟨o2,q2,_,m2,d2⟩,_⟩:=I.tuple hb;have g1:its.getD i YaP=.ref a:=rx;have g2:its.getD j YaP=.ref b:=ry;rw[g1,g2];refine kat_lt (s:={ s with heap:=h' }) (up _ _ q1) d1 (up _ _ q2) d2 ?_
    exact jh9 ra rb 0 hC
 refine Yb3 slot_list_sort ⟨_,hoL,rfl⟩ entry_list_sort (jeR (κ:=κ) (s:={ s with heap:=h1.push { cls:=.type "list",data:=.seq its.toArray } }) hoL (by omega) nd (λi j=>HT.lexLt (ks.getD i []) (ks.getD j [])) (λh' kp h2 R hR=>hkind h' (up h' kp) h2 R _ hR) (λh' kp=>⟨λi j C hi hj hC=>hask h' (up h' kp) i j C hi hj hC,λi j k hi hj hk' h1 h2=>jh8 _ _ _ h1 h2,λi j hi hj hne=>jiF _ _ ?_,λi _=>jj5 _⟩) λπ hp hs=>⟨_,rfl,?_⟩) (args_list_sort _)
 ·have hi':i<ks.length:=by omega
  have hj':j<ks.length:=by omega
  have di:ks.getD i []=ks[i]:=by simp[Ya1,hi']
  have dj:ks.getD j []=ks[j]:=by simp[Ya1,hj']
  rw[di,dj];exact jmb hnd hi' hj' hne
 ·obtain⟨e,he⟩:=sortedHeap_at (out:=YcZ (π.map λi=>its.getD i YaP)) hoL;rw[<- il]at hp hs;have hfl:∀i∈π,i<vs.length:=λi hi=>List.mem_range.mp (hp.mem_iff.mp hi);refine⟨.ref h1.objs.size,_,I.laid (o:=.lst (π.map λi=>vs.getD i .non)) (λb ob y=>?_) hsz ?_,rfl,q _ π (I.hok.fresh hsz) hp hs⟩
  ·have hb:=k1 b ob y;have hlt:=Yao hb;rw[sortedHeap_old (Yav hlt) (by rw[size_push'];exact Ydy hlt)]
   exact Yab _ hb
  ·refine⟨by rw[Yaa,hp.length_eq,Yca,Yce];unfold jce at h64;omega,π.map λi=>its.getD i YaP,e,?_,?_⟩
   ·have:∀l:List Nat,(∀i∈l,i<vs.length)->Vals (l.map λi=>vs.getD i .non) (l.map λi=>its.getD i YaP):=λl=>by
     induction l with
     |nil=>intro _;exact .nil
     |cons i l ih=>
      intro hl';have hi:=hl' i (by simp)
      have hi2:i<its.length:=by omega
      obtain⟨v,ev,r1⟩:=jfh rv (Yae hi2);refine .cons ?_ (ih λj hj=>hl' j (Yaj _ hj));refine(?_:RelV (vs.getD i .non) (its.getD i YaP));rw[YaM,ev,YaM,Yae hi2];exact r1
    exact this π hfl
   ·rw[he]
theorem jf6 (hc:X.calm=true):jaX X (.type "list") (λxs H Q=>∃(a:Addr) (kvs:List (Key×V)) (ns:List Int),xs=[.ref a]/\H a=some (.dK kvs)/\kvs.map (·.1)=ns.map (λz=>(.inl z:Key))/\∀l,H l=none->Q (.ref l) (upd H l (.lst (ns.map V.int)))):=by
 intro pins s σ H xs us Q I r h;obtain⟨a,kvs,ns,rfl,ha,hk,q⟩:=h;obtain⟨u,rfl,rx⟩:=jb9 r;cases rx;obtain⟨hz,hS,vs,rv,m⟩:kvs.length<=Yai/\(a==YaY)=false/\∃vs,KV kvs vs/\s.heap.DictOf (jai X.prog X.w) a vs:=I.hok a _ ha;obtain⟨ep,hat⟩:=m.dictAt;have hkv:vs.map (·.1)=kvs.map (·.1):=jgR rv;have hvl:vs.length=ns.length:=by simpa using congrArg Ydh (hkv.trans hk)
 have hkl:kvs.length=ns.length:=by simpa using congrArg Ydh hk
 refine kdl_call (A:=X.A) (kdl_dict (knd:=jai X.prog X.w) (kvs:=vs) (ep:=ep) hS) (I.ok.hd hc) hat (by omega) λh' tk acc c' hk' hS' hacc=>?_
 have hl:acc.toList.length=ns.length:=by rw[Ybz,hacc.1,hvl]
 have hI:IntsAre acc.toList ns:=jgZ (hkv.trans hk) hl λj v e=>hacc.2 j v (by rw[<- YbK];exact e)
 refine⟨.ref s.heap.objs.size,_,I.laid (t':=tk) (o:=.lst (ns.map V.int)) (λb o e=>hk' b o e) (Yag _) ⟨by rw[Yaa];omega,acc.toList,c',jcj hI,by simpa using hS'⟩,rfl,q _ (I.hok.fresh (Yag _))⟩
theorem jbp:∀r:List Int,YeZ (r.map .int)=true/\Yb1 (r.map .int)=0/\noBs (r.map .int)=true
 |[]=>⟨rfl,rfl,rfl⟩
 |i::r=>by
  obtain⟨h1,h2,h3⟩:=jbp r;refine⟨?_,?_,?_⟩
  ·show((Yea i).canLay0&&YeZ (r.map .int))=true;rw[h1];rfl
  ·show max (Yea i).depth (Yb1 (r.map .int))=0;rw[h2];rfl
  ·show(noB (.int i)&&noBs (r.map .int))=true;rw[h3];rfl
theorem jfC:∀{l l':List Int},l.map Yea=l'.map Yea->l=l'
 |[],[],_=>rfl
 |[],_::_,h=>by cases h
 |_::_,[],h=>by cases h
 |a::l,b::l',h=>by
  have h:=YdS h;rw[Yea.inj h.1,jfC h.2]
theorem jd4 (k k':List Int):YaG (.list (k.map .int)) (.list (k'.map .int))=decide (k=k'):=by
 by_cases h:k=k'
 ·rw[h,PySem.SeqAt.eqv_refl (.list (k'.map .int)) (jbp k').1];simp
 ·cases e:YaG (.list (k.map .int)) (.list (k'.map .int))with
  |false=>simp[h]
  |true=>
   have e:=PyData.list.inj (jiQ (d:=.list (k.map .int)) (e:=.list (k'.map .int)) (jbp k).2.2 (jbp k').2.2 e);exact absurd (jfC e) h

def rInD (X:Cx)(neg:Bool):R2:=λx y H Q=>∃(p:Addr) (vs:List V) (d:PyData) (ds:List PyData),y=.ref p/\SqL X.K H p vs/\DV X.K H x d/\DVs X.K H vs ds/\d.canLay0=true/\d.depth<=100/\(∀e∈ds,e.canLay0=true)/\Q (.bl (if neg then !(ds.any λe=>YaG e d) else ds.any λe=>YaG e d)) H
open Classical in
noncomputable def eD (h:Heap)(d:PyData)(w:Value):Bool:=decide (∃e as,e.canLay0=true/\Reads h w e as/\YaG e d=true)
open Classical in
theorem jmK {h:Heap}{d e:PyData}{w:Value}{as:List Addr}(r:Reads h w e as)(c:e.canLay0=true):eD h d w=YaG e d:=by
 unfold eD;cases q:YaG e d with
 |true=>exact decide_eq_true ⟨e,as,c,r,q⟩
 |false=>
  refine decide_eq_false λ⟨e',as',c',r',q'⟩=>?_;rw[SeqAt.Reads.unique e' e w as' as c' r' r,q]at q';cases q'
theorem jg0 {h:Heap}{d:PyData}:∀{us:List Value} {ds:List PyData} {as:List Addr},ReadsAll h us ds as->(∀e∈ds,e.canLay0=true)->us.any (eD h d)=(ds.any λe=>YaG e d)/\∀w∈us,∃e as,e.canLay0=true/\Reads h w e as
 |_,_,_,.nil,_=>⟨rfl,λw hw=>by simp at hw⟩
 |_,_,_,.cons r rs,c=>by
  obtain⟨h1,h2⟩:=jg0 (d:=d) rs λe he=>c e (Yaj _ he);refine⟨by rw[Ybp,Ybp,h1,jmK r (c _ Yaw)],λw hw=>?_⟩
  rcases YaL.mp hw with rfl|hw
  ·exact⟨_,_,c _ Yaw,r⟩
  ·exact h2 w hw
theorem jiL {pins:List (Addr×Obj)}{σ:St}{H:Hp}{s:Shared}{A:Around}{x:V}{u:Value}{d:PyData}{vs:List V}{ds:List PyData}{its:List Value}(hu:A.units+100<cLine)(I:Inv X pins σ H s)(rx:RelV x u)(hd:DV X.K H x d)(c:d.canLay0=true)(hp:d.depth<=100)(r:Vals vs its)(hv:DVs X.K H vs ds)(cs:∀e∈ds,e.canLay0=true) :
  (∀w,w∈its->Yeg A s w u (eD s.heap d w))/\its.any (eD s.heap d)=ds.any λe=>YaG e d:=by
 obtain⟨as,ra⟩:=DVs.reads I hv r;obtain⟨bs,rb⟩:=DV.reads I hd rx;obtain⟨h1,h2⟩:=jg0 (d:=d) ra cs;refine⟨λw hw=>?_,h1⟩;obtain⟨e,as',ce,re⟩:=h2 w hw;rw[jmK re ce];exact SeqAt.eqAt_reads _ _ A s _ _ _ _ re rb ce c (YaO (Yfg (Yan (Nat.min_le_right _ _) hp) _) hu)
theorem jl6 {k:Nat}(hr:Room k X.A):OpR X (YaR .In) (rInD X false):=by
 intro pins s σ H x y v u Q I rx ry h;obtain⟨p,vs,d,ds,rfl,hq,hd,hv,c,hp,cs,q⟩:=h;cases ry;obtain⟨its,r,pl,hz⟩:=I.list hq;obtain⟨h1,h2⟩:=jiL (A:=X.A.in1) (by have:=hr.un;rw[YcI];omega) I rx hd c hp r hv cs
 refine YfK (eD s.heap d) pl.isList (λw hw=>h1 w (by simpa using hw)) ⟨.bl _,H,I,rfl,?_⟩
 rw[show its.toArray.any (eD s.heap d)=its.any (eD s.heap d) by simp,h2]
 exact q
theorem jgy {k:Nat}(hr:Room k X.A):OpR X (YaR .NotIn) (rInD X true):=by
 intro pins s σ H x y v u Q I rx ry h;obtain⟨p,vs,d,ds,rfl,hq,hd,hv,c,hp,cs,q⟩:=h;cases ry;obtain⟨its,r,pl,hz⟩:=I.list hq;obtain⟨h1,h2⟩:=jiL (A:=X.A.in1) (by have:=hr.un;rw[YcI];omega) I rx hd c hp r hv cs
 refine YeW (eD s.heap d) pl.isList (λw hw=>h1 w (by simpa using hw)) ⟨.bl _,H,I,rfl,?_⟩
 rw[show its.toArray.any (eD s.heap d)=its.any (eD s.heap d) by simp,h2]
 exact q
end
section
variable {X:Cx}
end
end L2

namespace L2
open PySem PySem.Spec PyProof.Rows
section
variable {prog:Program}{w:World}{A:Around}{R:Result->Shared->Prop}{I:Addr}{fp wr:List Addr}{n:Nat}{P:Nat->Value->Prop}{St:Nat->Heap->Prop}
end
section
variable {prog:Program}{w:World}{A:Around}{E:Value->Shared->Prop}{s:Shared}
end

section
variable {X:Cx}
end
end L2

namespace L2
open PySem PySem.Spec PyProof.Rows PySem.SeqAt PySem.MeetsSeq
theorem jby (l:Addr)(es:Array Ycf)(n:Nat)(dd:Option Addr)(sl:Array (Option Value))(b:Str)(u:Tok) :
  Meets (Builtin.«dict.__eq__» ⟨[.ref l,.str b u],[]⟩) (λ_ R s=>s.heap.get? l=some { cls:=.type "dict",dict:=dd,data:=.dict es n,slots:=sl }/\R (.ok (.ret .notImplemented)) s):=
 .of_wp λprog w A R s h=>by obtain⟨hp,g,d,tk,os⟩:=s;obtain⟨hl,h⟩:=h;have f1:=F.sub_str_dict;wp_walk using wpAny_loadPart' hl;exact⟨_,rfl,h⟩
theorem jbx (b:Str)(u:Tok)(l:Addr)(es:Array Ycf)(n:Nat)(dd:Option Addr)(sl:Array (Option Value)) :
  Meets (Builtin.«str.__eq__» ⟨[.str b u,.ref l],[]⟩) (λ_ R s=>s.heap.get? l=some { cls:=.type "dict",dict:=dd,data:=.dict es n,slots:=sl }/\R (.ok (.ret .notImplemented)) s):=
 .of_wp λprog w A R s h=>by obtain⟨hp,g,d,tk,os⟩:=s;obtain⟨hl,h⟩:=h;wp_walk using wpAny_loadPart' hl,wpAny_load hl;exact⟨_,rfl,h⟩
section
variable {X:Cx}
theorem jeU {A:Around}{s:Shared}{l:Addr}{o:Obj}{es:Array Ycf}{n:Nat}(b:Str)(u:Tok)(ho:s.heap.get? l=some o)(hc:o.cls=.type "dict")(hd:o.data=.dict es n)(hu:A.units<cLine):RcAt A s (.ref l) (.str b u) false:=λprog w E Q h=>by
 obtain⟨cls,dd,data,sl⟩:=o;simp only at hc hd;subst hc hd;exact rc_eq_decline_or (k:=false) ⟨_,ho,rfl⟩ (Yd6 s b u) (by decide) F.sub_str_dict F.slot_dict_eq F.slot_str_eq_refl
  (λ_ hq=>Ybt F.slot_dict_eq ⟨_,ho,rfl⟩ F.entry_dict_eq (F.args_dict_eq_2 _ _) (jby l es n dd sl b u) ⟨ho,hq⟩)
  (λ_ hq=>Ybt F.slot_str_eq_refl (Yd6 s b u) F.entry_str_eq (F.args_str_eq_2 _ _) (jbx b u l es n dd sl) ⟨ho,hq⟩)
  (λ_ hq=>wpAny_of_eq (rfl:isSame (.ref l) (.str b u)=pure false) hq) (.inr hu) h
def jhG:R2:=λx y H Q=>∃a z kvs,x=.ref a/\y=.str z/\H a=some (.dK kvs)/\Q (.bl false) H
theorem jdW {k:Nat}(hr:Room k X.A):OpR X (YaR .Eq) jhG:=by
 intro pins s σ H x y v u Q I rx ry h;obtain⟨a,z,kvs,rfl,rfl,ha,q⟩:=h;cases rx;obtain⟨t,rfl⟩:=ry;obtain⟨_,_,vs,_,o,es,ep,ho,hx,hd,_⟩:kvs.length<=Yai/\(a==YaY)=false/\∃vs,KV kvs vs/\s.heap.DictOf (jai X.prog X.w) a vs:=I.hok a _ ha;exact jeU z t ho hx.1 hd (by have:=hr.un;omega) X.prog X.w X.xe _ ⟨.bl false,H,I,rfl,q⟩
end
def rSlS:V->Option Int->Option Int->Hp->VK->Prop:=λx lo hi H Q=>∃z,x=.str z/\z.length<=Yai/\Q (.str (YeK z lo hi)) H
section
variable {X:Cx}
theorem jlc:SlR X rSlS:=by
 intro pins s σ H x v vl vu lo hi sl Q I rx hs pl pu h;obtain⟨z,rfl,hz,q⟩:=h;obtain⟨t,rfl⟩:=rx;refine⟨"str",_,F.slot_str_getitem.lookup,Yd6 _ _ _,?_⟩;obtain⟨o,ho,hc,hd⟩:=hs;have fin:∀t' k,EP X pins σ Q (.str (YeK z lo hi) t') { s with toks:=k }:=λt' k=>⟨.str _,H,I.tok _,⟨_,rfl⟩,q⟩
 cases pl with
 |none=>
  cases pu with
  |none=>exact Ycb (l:=none) (u:=none) (st:=none) ⟨o,ho,hc,hd⟩ rfl (Ydk ⟨Yan (YdA z _ _) hz,fin⟩)
  |int j uj=>exact Ycb (l:=none) (u:=some (j,uj)) (st:=none) ⟨o,ho,hc,hd⟩ rfl (Ydk ⟨Yan (YdA z _ _) hz,fin⟩)
 |int i ui=>
  cases pu with
  |none=>exact Ycb (l:=some (i,ui)) (u:=none) (st:=none) ⟨o,ho,hc,hd⟩ rfl (Ydk ⟨Yan (YdA z _ _) hz,fin⟩)
  |int j uj=>exact Ycb (l:=some (i,ui)) (u:=some (j,uj)) (st:=none) ⟨o,ho,hc,hd⟩ rfl (Ydk ⟨Yan (YdA z _ _) hz,fin⟩)
theorem jjS:OpR X (Yba .Add) (λx y H Q=>∃b j,x=.bl b/\y=.int j/\Q (.int ((if b=true then (1:Int) else 0)+j)) H):=by
 intro pins s σ H x y v u Q I rx ry h;obtain⟨b,j,rfl,rfl,q⟩:=h;cases rx;obtain⟨t,rfl⟩:=ry;exact PySem.IntBool.add_bool_int ⟨.int _,H,I.tok _,⟨_,rfl⟩,q⟩
theorem jjM:OpR X (Yba .Sub) (λx y H Q=>(∃b j,x=.bl b/\y=.int j/\Q (.int ((if b=true then (1:Int) else 0)-j)) H)\/∃i b,x=.int i/\y=.bl b/\Q (.int (i-if b=true then (1:Int) else 0)) H):=by
 intro pins s σ H x y v u Q I rx ry h;rcases h with⟨b,j,rfl,rfl,q⟩|⟨i,b,rfl,rfl,q⟩
 ·cases rx;obtain⟨t,rfl⟩:=ry;exact PySem.IntBool.sub_bool_int ⟨.int _,H,I.tok _,⟨_,rfl⟩,q⟩
 ·cases ry;obtain⟨t,rfl⟩:=rx;exact PySem.IntBool.sub_int_bool ⟨.int _,H,I.tok _,⟨_,rfl⟩,q⟩
def jjn (K:Yac):R2:=λx y H Q=>∃a z xs,x=.ref a/\y=.str z/\(SqT K H a xs\/SqL K H a xs)/\Q (.bl false) H
theorem jeo {k:Nat}(hr:Room k X.A):OpR X (YaR .Eq) (jjn X.K):=by
 intro pins s σ H x y v u Q I rx ry h;obtain⟨a,z,xs,rfl,rfl,ha,q⟩:=h;cases rx;obtain⟨t,rfl⟩:=ry;have hu:X.A.units<cLine:=hr.units0;rcases ha with ha|ha
 ·obtain⟨its,rv,pa,_⟩:=I.tuple ha;exact SeqAt.RcAt.tuple_str z t (show s.heap.IsTuple a its.toArray from pa) hu X.prog X.w X.xe _ ⟨.bl false,H,I,rfl,q⟩
 ·obtain⟨its,rv,pa,_⟩:=I.list ha;exact SeqAt.RcAt.list_str z t pa.isList hu X.prog X.w X.xe _ ⟨.bl false,H,I,rfl,q⟩
end
end L2

namespace L2
open PySem PySem.Spec PyProof.Rows
open AutoSeq1 (wpAny_loadPart')
section
variable {prog:Program}{w:World}{A:Around}{E:Value->Shared->Prop}{s:Shared}
end
section
variable {X:Cx}
end
end L2

namespace L2
open PySem PySem.Spec PyProof.Rows PySem.W
structure Lies (lo:Nat)(pn:List (Addr×Obj))(H:Hp)(h:Heap)(e:Addr)(cls:Value)(dx:Option Addr):Prop where
 ob:∃oe vs,h.get? e=some oe/\oe.cls=cls/\oe.dict=dx/\oe.data=.fields vs/\
  (vs[1]?=some .none\/∃T oT ts,vs[1]?=some (.ref T)/\T≠e/\h.get? T=some oT/\oT.data=.fields ts/\ts[3]?=some .none/\H T=none/\lo<=T/\∀p∈pn,p.1≠T)
 hn:H e=none
 le:lo<=e
 pn:∀p∈pn,p.1≠e
section
variable {M:Model}{A:Around}{E:Value->Shared->Prop}{s:Shared}
theorem jcU {h:Heap}{a:Addr}{o:Obj}{vs:Array Value}(i:Nat)(x:Value)(ho:h.get? a=some o)(hd:o.data=.fields vs) :
  (∃o',(h.update a (YbE (·.setIfInBounds i x))).get? a=some o'/\o'.cls=o.cls/\o'.dict=o.dict/\o'.data=.fields (vs.setIfInBounds i x))/\∀b,b≠a->(h.update a (YbE (·.setIfInBounds i x))).get? b=h.get? b:=by
 have z:=Obj.data_mapFields hd (·.setIfInBounds i x);refine⟨⟨_,Yc3 _ ho (YeQ z),Obj.cls_mapFields _ _,?_,z⟩,λb hb=>YcU _ _ (Ne.symm hb)⟩;unfold YbE;split<;>rfl
theorem jfG {base:Heap}{env:Env}{outer:List Env}{L e:Addr}{oe:Obj}{vs:Array Value}{head:Value}{had:Bool}{Q:Unit->Shared->Prop}
  (hfr:A.frames=some (env::outer)) (hl:s.heap.FunFrames base (env::outer)) (hf:env.frame=some L) (he:s.heap.get? e=some oe) (hd:oe.data=.fields vs) (hsz:1<vs.size)
  (h:∀(h':Heap) (T:Addr) (oe' oT:Obj) (vs' ts:Array Value),(∀b o,b∉frs (env::outer)->b≠e->s.heap.get? b=some o->h'.get? b=some o)->(∀b o,b∈frs (env::outer)->b≠e->s.heap.get? b=some o->∃sl,h'.get? b=some { o with slots:=sl })->
   s.heap.objs.size<=T->h'.get? e=some oe'->oe'.cls=oe.cls->oe'.dict=oe.dict->oe'.data=.fields vs'->vs'[1]?=some (.ref T)->h'.get? T=some oT->oT.data=.fields ts->ts[3]?=some .none->Q () { s with heap:=h' }) :
  wpAny M A (do let a <- frameOf env;let pl <- entryPlaceOf L had;let b <- EntryCells.newEntry head a .none (rawInt L) .none pl;setField (.ref e) 1 b) (λ_ s'=>wpAny M A (setFlight (.ref e) none) Q E s') E s:=by
 have out:e∉frs (env::outer):=λm=>by
  rcases hl.mem m with⟨-,o,ho,no⟩;exact no vs (by rw[<- hd,Yar (he.symm.trans ho)])
 refine Yad (wpAny_frameOf_fun hfr hl hf λh1 fs=>Yad (wpAny_entryPlaceOf λpl hpl=>Yad (Ya3 ?_ (hpl.sizeOk5 _ _ _ _ _))));have n3:3<([head,.ref L,.none,rawInt L,.none]++(if pl.isEmpty then Yaf 6 YaP else pl)).toArray.size:=by
  rw[Yah,YaJ];exact Nat.lt_add_right _ (Nat.lt_of_sub_pos (Nat.zero_lt_succ 1))
 generalize eot:(⟨.type "traceback",none,.fields ([head,.ref L,.none,rawInt L,.none]++(if pl.isEmpty then Yaf 6 YaP else pl)).toArray,#[]⟩:Obj)=ot
 have dt:ot.data=.fields ([head,.ref L,.none,rawInt L,.none]++(if pl.isEmpty then Yaf 6 YaP else pl)).toArray:=by rw[<- eot]
 have g1:h1.get? e=some oe:=by rw[fs.2.1 e out,he]
 have new:=Yaq h1 (YeQ dt);have ne:h1.objs.size≠e:=λz=>Ybd _ (z ▸ Yao g1);obtain⟨⟨o2,g2,c2,d2,v2⟩,r2⟩:=jcU 1 (.ref h1.objs.size) (Yab ot g1) hd;have g2':=(r2 _ ne).trans new;obtain⟨⟨o3,g3,c3,d3,v3⟩,r3⟩:=jcU 3 .none g2' dt;refine YcQ (Yab ot g1) hd hsz (Yad (Ybi g2 v2 (YbL hsz) ?_));rw[if_pos (by rfl)]
 refine YcQ g2' dt n3 ?_;have keep:∀b o,b≠e->h1.get? b=some o->_:=λb o hb g=>(r3 b (Yav (Yao g))).trans ((r2 b hb).trans (Yab ot g));refine h _ h1.objs.size o2 o3 _ _ (λb o hb hbe g=>keep b o hbe (by rw[fs.2.1 b hb,g])) (λb o _ hbe g=>?_) (YdE fs.1.symm) ((r3 e (Ne.symm ne)).trans g2) c2 d2 v2 (YbL hsz) g3 v3 (YbL n3)
 rcases fs.2.2 b o g with⟨sl,q⟩;exact⟨sl,keep b _ hbe q⟩
end
section
variable {X:Cx}{pins:List (Addr×Obj)}{σ:St}{H:Hp}{s:Shared}
theorem Inv.left {h':Heap}{ch:List Addr}(I:Inv X pins σ H s)(hH:∀b∈ch,H b=none)(hlo:∀b∈ch,X.s₀.heap.objs.size<=b)(hd:∀b∈ch,∃o vs,s.heap.get? b=some o/\o.data=.fields vs)(hp:∀b∈ch,∀p∈X.pn++pins,p.1≠b)
  (k:∀b o,b∉frs X.stack->b∉ch->s.heap.get? b=some o->h'.get? b=some o) (sl:∀b o,b∈frs X.stack->b∉ch->s.heap.get? b=some o->∃t,h'.get? b=some { o with slots:=t }):Inv X pins σ H { s with heap:=h' }:=by
 have u:Un (frs X.stack) ch H H s.heap h':=by
  refine⟨λb o e _ hb hc=>k b o hb hc e,λb o e _ hb hc=>sl b o hb hc e,λ_ _ _ n _=>n,λb o e hc=>?_,λ_ _ e=>e,λ_ _ _ e=>e,λb ps e=>⟨#[],by rw[e];simp⟩⟩
  by_cases hb:b∈frs X.stack
  ·obtain⟨t,q⟩:=sl b o hb hc e;exact⟨_,q⟩
  ·exact⟨o,k b o hb hc e⟩
 have tr:∀b u,H b=some u->b∉frs X.stack/\b∉ch:=λb u e=>⟨λz=>(by rw[I.stkFree b z]at e;cases e),λz=>(by rw[hH b z]at e;cases e)⟩
 have hok:HOk X.prog X.w H h':=λa o e=>(I.hok a o e).stay (λb v hb q=>by
  rcases hb with z|z
  ·subst z;exact k b v (tr b _ e).1 (tr b _ e).2 q
  ·exact k b v (tr b _ z).1 (tr b _ z).2 q) (λ_ q=>q) λ_ _ q=>q
 refine I.call (g':=s.gens) (d':=s.drawn) (t':=s.toks) u hok I.bare λb hb=>⟨.inr (hlo b hb),λz=>?_,λx c e z=>?_,hp b hb⟩
 ·obtain⟨o,vs,g,d⟩:=hd b hb;obtain⟨m,⟨o',_,_,ho,r⟩,_⟩:=I.loc;rw[z,ho]at g;cases g;have:=r.1;rw[this]at d;cases d
 ·obtain⟨o,vs,g,d⟩:=hd b hb;obtain⟨v,o',ho,hc⟩:=I.cell x c e;rw[z,g]at ho;cases ho;rw[d]at hc;cases hc
theorem jml {M:Model}{E:Value->Shared->Prop}{ea:Addr}{cls:Value}{dx:Option Addr}{Q:Unit->Shared->Prop}(I:Inv X [] σ H s)(hst:X.stack=X.env::X.outer)(hf:X.env.frame=some X.env.locals)
  (l:Lies X.s₀.heap.objs.size X.pn H s.heap ea cls dx) (q:∀h',Inv X [] σ H { s with heap:=h' }->Lies X.s₀.heap.objs.size X.pn H h' ea cls dx->Q () { s with heap:=h' }):wpAny M X.A (noteFrame (.ref ea) X.env) (λ_ s'=>wpAny M X.A (setFlight (.ref ea) none) Q E s') E s:=by
 obtain⟨oe,vs,he,hc,hdx,hd,ht⟩:=l.ob;have hfr:X.A.frames=some (X.env::X.outer):=by rw[<- hst];exact I.ok.frames
 have hl:s.heap.FunFrames X.base (X.env::X.outer):=by rw[<- hst];exact I.stack
 have pe:∀p∈X.pn++[],p.1≠ea:=λp hp=>l.pn p (by simpa using hp)
 unfold noteFrame;simp only[hf];rcases ht with h1|⟨T,oT,ts,h1,hTe,hT,hdT,h3,nT,lT,pT⟩
 ·refine Yad (Ybi he hd h1 ?_);rw[if_neg (by decide)]
  refine jfG hfr hl hf he hd (Array.getElem?_eq_some_iff.mp h1).1 λh' T' oe' oT' vs' ts' k sl zT g1 c1 c2 c3 c4 g2 c5 c6=>?_;rw[<- hst]at k sl;have J:Inv X [] σ H { s with heap:=h' }:=I.left (ch:=[ea]) (λb hb=>by rw[List.mem_singleton.mp hb];exact l.hn) (λb hb=>by rw[List.mem_singleton.mp hb];exact l.le) (λb hb=>by rw[List.mem_singleton.mp hb];exact⟨oe,vs,he,hd⟩) (λb hb=>by rw[List.mem_singleton.mp hb];exact pe)
   (λb o hb hc e=>k b o hb (λz=>hc (by simp[z])) e) λb o hb hc e=>sl b o hb (λz=>hc (by simp[z])) e
  refine q h' J ⟨⟨oe',vs',g1,c1.trans hc,c2.trans hdx,c3,.inr ⟨T',oT',ts',c4,?_,g2,c5,c6,I.hok.fresh zT,Yan I.sz zT,λp hp z=>?_⟩⟩,l.hn,l.le,l.pn⟩
  ·exact λz=>absurd (Yao he) (Nat.not_lt.mpr (z ▸ zT))
  ·exact absurd (Yao (I.pin p (by simpa using hp)).1) (Nat.not_lt.mpr (z ▸ zT))
 ·have old:(YaP==rawInt X.env.locals)=false:=rfl;refine Yad (Ybi he hd h1 ?_);rw[if_pos (by rfl)]
  refine Yad (Ybi hT hdT h3 ?_);rw[old,if_neg Yam];refine Yad (YcQ hT hdT (Array.getElem?_eq_some_iff.mp h3).1 ?_);have other:=(jcU 3 .none hT hdT).2;have I1:Inv X [] σ H { s with heap:=s.heap.update T (YbE (·.setIfInBounds 3 YaP)) }:=I.left (ch:=[T]) (λb hb=>by rw[List.mem_singleton.mp hb];exact nT) (λb hb=>by rw[List.mem_singleton.mp hb];exact lT) (λb hb=>by rw[List.mem_singleton.mp hb];exact⟨oT,ts,hT,hdT⟩) (λb hb p hp=>by rw[List.mem_singleton.mp hb];exact pT p (by simpa using hp))
   (λb o _ hc e=>(other b (by simpa using hc)).trans e) λb o _ hc e=>⟨o.slots,(other b (by simpa using hc)).trans e⟩
  have he1:=(other ea (Ne.symm hTe)).trans he;have hl1:(s.heap.update T (YbE (·.setIfInBounds 3 YaP))).FunFrames X.base (X.env::X.outer):=by rw[<- hst];exact I1.stack
  refine jfG (s:={ s with heap:=s.heap.update T (YbE (·.setIfInBounds 3 YaP)) }) hfr hl1 hf he1 hd (Array.getElem?_eq_some_iff.mp h1).1 λh' T' oe' oT' vs' ts' k sl zT g1 c1 c2 c3 c4 g2 c5 c6=>?_
  rw[<- hst]at k sl;have J:Inv X [] σ H { s with heap:=h' }:=Inv.left (s:={ s with heap:=s.heap.update T (YbE (·.setIfInBounds 3 YaP)) }) (ch:=[ea]) I1 (λb hb=>by rw[List.mem_singleton.mp hb];exact l.hn) (λb hb=>by rw[List.mem_singleton.mp hb];exact l.le) (λb hb=>by rw[List.mem_singleton.mp hb];exact⟨oe,vs,he1,hd⟩) (λb hb=>by rw[List.mem_singleton.mp hb];exact pe)
   (λb o hb hc e=>k b o hb (λz=>hc (by simp[z])) e) λb o hb hc e=>sl b o hb (λz=>hc (by simp[z])) e
  refine q h' J ⟨⟨oe',vs',g1,c1.trans hc,c2.trans hdx,c3,.inr ⟨T',oT',ts',c4,?_,g2,c5,c6,I1.hok.fresh zT,Yan I1.sz zT,λp hp z=>?_⟩⟩,l.hn,l.le,l.pn⟩
  ·exact λz=>absurd (Yao he1) (Nat.not_lt.mpr (z ▸ zT))
  ·exact absurd (Yao (I1.pin p (by simpa using hp)).1) (Nat.not_lt.mpr (z ▸ zT))
end
def CX1 (P:Program)(w:World):CXT:=λouter H s E e s'=>∃(ea:Addr) (H':Hp) (cls:Value) (dx:Option Addr),e=.ref ea/\s'.os=s.os/\AllBare s'.gens/\Un (frs outer) [] H H' s.heap s'.heap/\HOk P w H' s'.heap/\Lies s.heap.objs.size [] H' s'.heap ea cls dx/\E cls dx H'
section
variable {X:Cx}{pins:List (Addr×Obj)}{σ:St}{H:Hp}{s s':Shared}{e:Value}{E:XK}
theorem CX1.back (I:Inv X pins σ H s)(h:CX1 X.prog X.w X.stack H s E e s'):∃(ea:Addr) (H':Hp) (cls:Value) (dx:Option Addr),e=.ref ea/\Inv X pins σ H' s'/\Lies X.s₀.heap.objs.size X.pn H' s'.heap ea cls dx/\E cls dx H':=by
 obtain⟨ea,H',cls,dx,rfl,os,bare,un,hok,l,q⟩:=h;have pn:∀b,s.heap.objs.size<=b->∀p∈X.pn,p.1≠b:=λb hb p hp z=>absurd (Yao (I.pin p (Yau _ hp)).1) (Nat.not_lt.mpr (z ▸ hb));refine⟨ea,H',cls,dx,rfl,I.call' (ch:=[]) os un hok bare (λb z=>absurd z (by simp)),⟨?_,l.hn,Yan I.sz l.le,pn ea l.le⟩,q⟩
 obtain⟨oe,vs,he,hc,hdx,hd,ht⟩:=l.ob;refine⟨oe,vs,he,hc,hdx,hd,ht.imp id ?_⟩;rintro⟨T,oT,ts,h1,h2,h3,h4,h5,h6,h7,_⟩;exact⟨T,oT,ts,h1,h2,h3,h4,h5,h6,Yan I.sz h7,pn T h7⟩
end
end L2

namespace L2
open PySem PySem.Spec PyProof.Rows PySem.W
open Builtin Builtin.ObjectAttr
section
variable {M:Model}{A:Around}{E:Value->Shared->Prop}{h:Heap}{g:Array YdT}{d:Drawn}{t:Nat}{os:OsState}
variable {nm q:Str}{C N D:Addr}{bs bmB:List Value}{hdct:Bool}{sn:List Str}{sub:List Value}{ab:Bool}{col:Option Bool}{dd:Option Addr}{k0 k1 k2 k3 k5:Option Value}{B newId:String}{mN mD:Str->Option Value}{name:Str}
structure Two (h:Heap)(C N D:Addr)(mN mD:Str->Option Value)(bmB:List Value)(newId:String):Prop where
 cls:∃nm q bs sn sub ab col dd k0 k1 k2 k3 k5,h.get? C=some (excClassObj nm q C N bs (.ref D::bmB) true sn sub ab col dd k0 k1 k2 k3 k5 newId)
 ns:h.Ns N mN
 low:∃c0 dd cd sl,h.get? D=some { cls:=c0,dict:=dd,data:=.cls cd,slots:=sl }/\h.Ns cd.ns mD
end
section
variable {prog:Program}{w:World}{A:Around}{E:Value->Shared->Prop}{h:Heap}{g:Array YdT}{d:Drawn}{t:Nat}{os:OsState}
variable {C N D x:Addr}{bmB:List Value}{B newId sa owner:String}{mN mD mA:Str->Option Value}{name:Str}{v:Value}
structure Reads (B:String)(bmB:List Value):Prop where
 ga:Slot B "__getattribute__" "BaseException.__getattribute__"
 mro:mroOf (.type B)=pure bmB
 no:typeLookup (.type B) "__getattr__" = pure none
 has:bmB.contains (.type "BaseException")=true
end
section
variable {X:Cx}{pins:List (Addr×Obj)}{σ:St}{H:Hp}{s:Shared}
end
section
variable {X:Cx}{H:Hp}{s:Shared}{C N D fI:Addr}{bmB:List Value}{B newId sa owner:String}{mN mD:Str->Option Value}{qual self f a f2 a2:Str}{scope:Scope}{cdv:Value}{p1 p2 p3 pos q1 q2 q3 qos:Pos}{v v2:V}
end
section
variable {M:Model}{A:Around}{E:Value->Shared->Prop}{env:Env}{C N D:Addr}{bmB:List Value}{newId:String}{mN mD:Str->Option Value}
end
end L2

namespace L2
open PySem PySem.Spec PyProof.Rows PySem.W
section
variable {M:Model}{A:Around}{E:Value->Shared->Prop}{h:Heap}{g:Array YdT}{d:Drawn}{t:Nat}{os:OsState}
variable {nm q nm' q':Str}{C N D ND e:Addr}{bs bm bs' bm':List Value}{hdct hdct':Bool}{sn sn':List Str}{sub sub':List Value}{ab ab':Bool}{col col':Option Bool}{dd dd':Option Addr}{k0 k1 k2 k3 k5 l0 l1 l2 l3 l5:Option Value}{newId newId':String}{oe:Obj}
end
section
variable {X:Cx}{pins:List (Addr×Obj)}{σ:St}{H:Hp}{s:Shared}
end
def XL (M:Model)(A:Around)(env:Env)(R:Value->Shared->Prop):Value->Shared->Prop:=λe s'=>wpAny M A (noteFrame e env) (λ_ s''=>wpAny M A (setFlight e none) (λ_ s3=>R e s3) R s'') R s'
theorem jof {M:Model}{A:Around}{env:Env}{R:Value->Shared->Prop}:YdR M A env (XL M A env R):=YdR.looking
section
variable {P:Program}{w:World}{K:Yac}{mg:Str->Option Value}{base:Heap}
noncomputable abbrev cx1 (P:Program)(w:World)(K:Yac)(mg:Str->Option Value)(base:Heap)(N:List Str)(qual:Str)(scope:Scope)(f:Addr)(cd:Value)(A:Around)(outer:List Env)(s:Shared)(H:Hp)(E:XK):Cx:=
 (cxOf (CX1 P w) P w K mg base N qual scope f cd A outer s H E).wish (XL (model P w) (A.deeper (envOfC qual scope s.heap.objs.size f cd)) (envOfC qual scope s.heap.objs.size f cd) λe s'=>CX1 P w outer H s E e s')
theorem Fun.okX {x qual:Str}{st:Stmt}{f:Addr}{fd:Ybm}{N ps:List Str}{k:Nat}{sp:Sp}(F:Fun K x qual st f fd)(S:FnScope N ps (jag st))(len:∀vs H Q E,sp vs H Q E->vs.length=ps.length)
  (hbody:∀(cdv:Value) (A:Around) (outer:List Env) (s:Shared) (H:Hp) (vs:List V) (Q:VK) (E:XK),Room k (A.deeper (envOfC qual (jag st) s.heap.objs.size f cdv))->sp vs H Q E->
   ∃t,PSs (cx1 P w K mg base N qual (jag st) f cdv A outer s H E) (jaq st) t/\t { nx:=λ_ H'=>Q .non H',rt:=Q } (start N vs) H):FnOk P w K mg base (CX1 P w) (k+1) f fd ps sp:=by
 obtain⟨oc,od,kV,doc,pm,an,cdv,ct,osl,rfl,lk,hcd⟩:=F.ex;refine joH lk hcd S len λA outer s H vs Q E hr hsp=>?_;obtain⟨t,h,q⟩:=hbody cdv A outer s H vs Q E hr hsp;refine⟨t,λpins s1 σ H1 D I hw=>?_,q⟩;refine Ybe (h pins s1 σ H1 D (I.wish _) hw) (λ_ _ q=>q.unwish) λe s' z=>?_;show wpAny _ _ (leaving _ e) _ _ s';unfold leaving;exact Yad z
theorem CX1.out1 {N:List Str}{qual:Str}{scope:Scope}{f:Addr}{cd:Value}{A:Around}{outer:List Env}{s s':Shared}{H H':Hp}{E:XK}{pins:List (Addr×Obj)}{σ:St}{ea:Addr}{cls:Value}{dx:Option Addr}
  (I:Inv (cx1 P w K mg base N qual scope f cd A outer s H E) pins σ H' s') (l:Lies s.heap.objs.size [] H' s'.heap ea cls dx) (q:E cls dx H'):(cx1 P w K mg base N qual scope f cd A outer s H E).xe (.ref ea) s':=by
 have I0:Inv (cxOf (CX1 P w) P w K mg base N qual scope f cd A outer s H E) [] σ H' s':=I.unwish.pins_of λp hp=>absurd hp (by simp)
 refine jml (X:=cxOf (CX1 P w) P w K mg base N qual scope f cd A outer s H E) (E:=λe s'=>CX1 P w outer H s E e s') I0 rfl rfl l λh' J l'=>?_;exact⟨ea,H',cls,dx,rfl,J.os,J.bare,J.base,J.hok,l',q⟩
end
end L2

namespace L2
open PySem PySem.Spec PyProof.Rows PySem.W
open Builtin Builtin.ObjectAttr
noncomputable abbrev bmV:List Value:=[.type "ValueError",.type "Exception",.type "BaseException",.type "object"]
section
variable {prog:Program}{w:World}{A:Around}{E:Value->Shared->Prop}{h:Heap}{g:Array YdT}{d:Drawn}{t:Nat}{os:OsState}
variable {C N D x:Addr}{bmB:List Value}{B newId sa owner:String}{mN mD mA:Str->Option Value}{name:Str}{v:Value}
end
noncomputable def offN:List Str:=["__setattr__", "__getattribute__", "__getattr__", "__class__", "word", "at", "row"]
structure XBase (K:Frag)(mg:Str->Option Value)(D:Addr)(mD:Str->Option Value):Prop where
 m:mg "PlanError" = some (.ref D)
 kp:keepIn K (.ref D)=true
 lk:∃q ND bs hd sn sub ab col dd k0 k1 k2 k3 k5 nid,K.lookup D=some (excClassObj "PlanError" q D ND bs bmV hd sn sub ab col dd k0 k1 k2 k3 k5 nid)/\∀h,K.In h->h.Ns ND mD
 no:∀y∈offN,mD y=none
 ni:mD "__init__" = none
structure XCls (K:Frag)(mg:Str->Option Value)(x:Str)(fs:List Str)(C:Addr):Prop where
 m:mg x=some (.ref C)
 kp:keepIn K (.ref C)=true
 ex:∃(D N fI:Addr) (mN mD:Str->Option Value),XBase K mg D mD/\(∃q bs sn sub ab col dd k0 k1 k2 k3 k5,K.lookup C=some (excClassObj x q C N bs (.ref D::bmV) true sn sub ab col dd k0 k1 k2 k3 k5 "ValueError.__new__"))/\(∀h,K.In h->h.Ns N mN)/\(∀y∈offN,mN y=none)/\
  mN "__init__" = some (.ref fI)/\∃(st:Stmt) (qual:Str) (fd:Ybm),L2.Fun K "__init__" qual st fI fd/\(∃od osl,K.lookup fI=some ⟨.type "function",od,.func fd,osl⟩)/\FnScope ("self" :: fs) ("self" :: fs) (jag st)/\Binds K fd ("self" :: fs) []/\(∀y∈(("self" : Str)::fs),(jag st).names.lookup y=some .local)/\
  ((∃f p1 p2 p3 pos,fs=[f]/\jaq st=[.Assign [.Attribute (.Name "self" p1) f p2] (.Name f p3) pos])\/∃f f2 p1 p2 p3 pos q1 q2 q3 qos,fs=[f,f2]/\f≠f2/\jaq st=[.Assign [.Attribute (.Name "self" p1) f p2] (.Name f p3) pos,.Assign [.Attribute (.Name "self" q1) f2 q2] (.Name f2 q3) qos])
section
variable {K:Frag}{mg:Str->Option Value}{x:Str}{fs:List Str}{C:Addr}
end
noncomputable def fldN:List Str:=["word", "at", "row"]
section
variable {K:Frag}{mg:Str->Option Value}{x:Str}{fs:List Str}{C:Addr}
structure XPin (X:Cx)(ea C dx:Addr):Prop where
 ex:∃oe vs,(ea,oe)∈X.pn/\oe.cls=.ref C/\oe.dict=some dx/\oe.data=.fields vs
end
section
variable {X:Cx}{mg:Str->Option Value}{x:Str}{fs:List Str}{C ea dx:Addr}
inductive XMany (X:Cx)(mg:Str->Option Value):List Str->List Addr->Prop
 |nil:XMany X mg [] []
 |cons {x:Str} {fs:List Str} {C:Addr} {xs:List Str} {Cs:List Addr}:XCls X.K mg x fs C->x ≠ "PlanError" -> XMany X mg xs Cs->XMany X mg (x::xs) (C::Cs)
end
end L2

namespace L2
open PySem PySem.Spec PyProof.Rows
section
variable {prog:Program}{w:World}{A:Around}{E:Value->Shared->Prop}{s:Shared}{d it:Addr}{o:Obj}{es:Array Ycf}{ep i:Nat}
end
end L2

namespace L2
open PySem PySem.Spec PyProof.Rows
section
variable {X:Cx}
end
end L2

namespace L2
open PySem PySem.Spec PyProof.Rows PySem.W
structure CloScope (N P:List Str)(sc:Scope):Prop where
 kind:sc.kind=.function
 co:sc.isCoroutine=false
 gen:sc.isGenerator=false
 nd:N.Nodup
 pre:N.take P.length=P
 par:∀x∈P,sc.names.lookup x=some .local
 nocell:∀y∈sc.names,y.2≠.cell
 frees:∀x,(x,YaK)∈sc.names->sc.names.lookup x=some .free
section
variable {P:Program}{w:World}{K:Yac}{mg:Str->Option Value}{base:Heap}
end
def jpR (o:Obj)(q:Str):Prop:=∃vs t,o.data=.fields vs/\vs[1]?=some (.str q t)
noncomputable abbrev frzC (o:Obj):HO:=.frz o (.ext λ_=>True)
def jm7 (H:Hp)(P:Addr)(pos:Pos)(q:Str):Prop:=
 H P=some (.tbl #[])\/∃c oc,H P=some (.tbl #[rawInt pos.line,rawInt pos.col,.ref c])/\H c=some (frzC oc)/\jpR oc q
def BmAt (mg:Str->Option Value)(base:Heap):Prop:=∃bm ob,mg "__builtins__" = some (.ref bm)/\bm≠Ydn/\base.get? bm=some ob/\ob.cls=.type "module" /\ ob.dict=some Ydn/\ob.data=.plain
section
variable {X:Cx}{pins:List (Addr×Obj)}{σ:St}{H:Hp}{s:Shared}
end
def jin (tb:List Addr)(H:Hp):Prop:=∀b,if b∈tb then H b=some (.tbl #[]) else H b=none\/∃o xs,H b=some (.frz o (.lst xs))
theorem law_callT {P:Program}{w:World}{K:Yac}{mg mb:Str->Option Value}{CX:CXT}{k:Nat}{fa a:Addr}{fd:Ybm}{x:Str}{sp:Sp}{s₁:Shared}{vs:List Value}{ns:List Int}{tb:List Addr}
  (hKl:(K.all λp=>p.2.cls != .type "list")=true) (htb:∀b∈tb,s₁.heap.get? b=some (tabObj #[])/\isCodeTable s₁.heap b/\K.lookup b=none) (hbm:BmAt mg s₁.heap)
  (KX:K.In s₁.heap) (hsys:∃o,K.lookup YaY=some o/\o.cls=.type "dict") (hns:s₁.heap.Ns YaN mg) (hb:s₁.heap.Ns Ydn mb) (hbb:∀x:Str,x ≠ "__name__" -> mb x=YbT x) (hlim:s₁.heap.NoLimit) (hg:s₁.gens=#[])
  (ha:s₁.heap.get? a=some { cls:=.type "list",data:=.seq vs.toArray }) (hi:IntsAre vs ns) (hl:ns.length<=Yai) (hr:Room k callerA)
  (F:∀base:Heap,K.In base->base.Ns YaN mg->BmAt mg base->FnOk P w K mg base CX k fa fd [x] sp) (hbind:∀(s:Shared) (u:Value),BindsTo s fd ⟨[u],[]⟩ [(x,u)])
  (hsp:∀(H:Hp) (o:Obj),jin tb H->H a=some (.frz o (.lst (ns.map V.int)))->sp [.ref a] H (λv _=>v=.bl true) λ_ _ _=>False)
  (hCX:∀H e s',CX [] H s₁ (λ_ _ _=>False) e s'->False) :
  codeAny (model P w) callerA (.call (.ref fa) ⟨[.ref a],[]⟩) (λr s'=>r=.ok (.ret (.bool true))/\OldK s₁.heap s'.heap/\s'.os=s₁.os/\AllBare s'.gens) s₁:=by
 have ka:K.lookup a=none:=by
  cases hk:K.lookup a with
  |none=>rfl
  |some o=>
   have e:=KX a o hk;rw[ha]at e;cases e;have:=List.all_eq_true.mp hKl (a,_) (mem_of_lookupK hk);simp at this
 let oa:Obj:={ cls:=.type "list",data:=.seq vs.toArray }
 have hat:a∉tb:=λz=>by
  have e:=(htb a z).1;rw[ha]at e;cases e
 obtain⟨H,hH⟩:∃H:Hp,H=λb=>if b∈tb then some (.tbl #[]) else if b=a then some (.frz oa (.lst (ns.map V.int))) else none:=⟨_,rfl⟩
 have H1:∀{b},b∈tb->H b=some (.tbl #[]):=λhb=>by rw[hH];exact if_pos hb
 have H2:H a=some (.frz oa (.lst (ns.map V.int))):=by
  rw[hH];show(if a∈tb then _ else if a=a then _ else _)=_
  rw[if_neg hat,if_pos rfl]
 have H3:∀{b},b∉tb->b≠a->H b=none:=λ{b} h1 h2=>by
  rw[hH];show(if b∈tb then _ else if b=a then _ else _)=_
  rw[if_neg h1,if_neg h2]
 clear hH;have free:∀{b:Addr} {o:Obj},s₁.heap.get? b=some o->o.cls≠.none->(∀xs n,o.data≠.seq xs n)->H b=none:=λ{b o} e h1 h2=>by
  refine H3 (λz=>?_) λz=>?_
  ·have e2:=(htb b z).1;rw[e]at e2;cases e2;exact h1 rfl
  ·rw[z,ha]at e;cases e;exact h2 _ _ rfl
 have hok:HOk P w H s₁.heap:=λb u e=>by
  by_cases h1:b∈tb
  ·rw[H1 h1]at e;cases e;exact(htb b h1).1
  ·by_cases h2:b=a
   ·subst h2;rw[H2]at e;cases e;exact⟨ha,by rw[Yaa];exact hl,vs,_,jec hi,ha⟩
   ·rw[H3 h1 h2]at e;cases e
 have nsK:∀{b:Addr} {m:Str->Option Value},s₁.heap.Ns b m->(hidT s₁.heap H).Ns b m:=λ{b m} ⟨o,es,ep,e,d,r⟩=>by
  refine⟨o,es,ep,jd1 e (H3 (λz=>?_) λz=>?_),d,r⟩
  ·have e2:=(htb b z).1;rw[e]at e2;cases e2;cases d
  ·rw[z,ha]at e;cases e;cases d
 have hKb:K.In (hidT s₁.heap H):=λb o e=>jd1 (KX b o e) (H3 (λz=>by rw[(htb b z).2.2]at e;cases e) λz=>by rw[z,ka]at e;cases e)
 have hM:Mod K mg (hidT s₁.heap H):=⟨hKb,nsK hns,⟨mb,nsK hb,hbb⟩,let ⟨mc,h1,h2⟩:=hlim;⟨mc,nsK h1,h2⟩,hsys⟩
 have hBb:BmAt mg (hidT s₁.heap H):=by
  obtain⟨bm,ob,b1,b2,b3,b4,b5,b6⟩:=hbm;exact⟨bm,ob,b1,b2,jd1 b3 (free b3 (by rw[b4];nofun) (by rw[b6];nofun)),b4,b5,b6⟩
 have e0:Env0 P w K mg (hidT s₁.heap H) callerA [] s₁ H:=⟨rfl,hM,λb o e=>jj0 e,YdE (jg2 _ _),trivial,λb hb=>(nomatch hb),hok,.of_eq hg⟩;have only:jin tb H:=λb=>by
  by_cases h1:b∈tb
  ·rw[if_pos h1];exact H1 h1
  ·rw[if_neg h1];by_cases h2:b=a
   ·subst h2;exact .inr ⟨_,_,H2⟩
   ·exact .inl (H3 h1 h2)
 refine Yef ((F _ hKb (nsK hns) hBb).run callerA [] s₁ H ⟨[.ref a],[]⟩ [.ref a] [.ref a] _ _ hr e0 (hbind s₁ (.ref a)) (.cons rfl .nil) (hsp H oa only H2)) λr s' h=>?_
 match r,h with
 |.error e,h=>exact(hCX H e s' h).elim
 |.ok (.ret u),h=>
  obtain⟨v,H',os,bare,un,hok',r',q⟩:=h;have q':v=.bl true:=q;subst q';obtain rfl:u=Yfc true:=r';refine⟨rfl,⟨λb o e=>?_,λb o e=>un.there b o e (by simp)⟩,os,bare⟩
  by_cases h1:b∈tb
  ·obtain⟨e1,ht,_⟩:=htb b h1;rw[e]at e1;cases e1;obtain⟨more,e2⟩:=un.tbls b _ (H1 h1);exact .inr (.inl ⟨ht,rfl,#[],more,rfl,hok' b _ e2⟩)
  ·by_cases h2:b=a
   ·subst h2;obtain⟨e2,_⟩:=hok' b _ (un.frzs b _ _ H2);rw[ha]at e;cases e;exact .inl e2
   ·exact .inl (un.keep b o e (H3 h1 h2) (by intro z;exact(nomatch z)) (by simp))
theorem walk_ofT {l:Ydw}{n k:Nat}{q:Program}{loose:List Str}{XP:(Str->Option Value)->Heap->Prop}{YP:World->Heap->Prop}{d:DefRec}{K:Params->Yac}{CX:World->CXT}{sp:World->Sp}{x:Str}{tbs:List (Str×Addr×Addr)}
  (hKl:∀w:World,((K w.params).all λp=>p.2.cls != .type "list")=true) (htb:∀(w:World),∀t∈tbs,(∃dr,(recsOf q).find? (λe=>e.name==t.1)=some dr)/\tabIn (K w.params) t.1=some (t.2.1,t.2.2)/\(K w.params).lookup t.2.2=none)
  (hn:l.most=some n) (hn2:n<=Yai) (hdf:d.params.defaults=[]) (hr:Room k callerA)
  (hY:∀(w:World) (h:Heap),YP w h->(K w.params).In h) (hsy:∀w:World,∃o,(K w.params).lookup YaY=some o/\o.cls=.type "dict")
  (F:∀(w:World) (mg:Str->Option Value) (fa:Addr) (h:Heap),(K w.params).In h->h.Ns YaN mg->mg d.name=some (.ref fa)->
   ∃fd:Ybm,(∀(s:Shared) (u:Value),BindsTo s fd ⟨[u],[]⟩ [(x,u)])/\
    ∀base:Heap,(K w.params).In base->base.Ns YaN mg->BmAt mg base->FnOk l.prog w (K w.params) mg base (CX w) k fa fd [x] (sp w))
  (hsp:∀(w:World) (H:Hp) (o:Obj) (a:Addr) (ns:List Int),ns.length<=n->jin (tbs.map (·.2.2)) H->H a=some (.frz o (.lst (ns.map V.int)))->sp w [.ref a] H (λv _=>v=.bl true) λ_ _ _=>False)
  (hCX:∀(w:World) (H:Hp) (s:Shared) (e:Value) (s':Shared),CX w [] H s (λ_ _ _=>False) e s'->False) :
  YfL q loose XP YP l.row.toRowW d [] (λf vs=>Yfd f vs):=by
 refine Att.attach_call hn hdf λw s₀ s₁ mg mb fa o pm cd doc a vs ns G Y ho hd hcd hmg hobj hints hlen hg=>?_;have kx:=hY w _ Y;obtain⟨fd,hb,hF⟩:=F w mg fa _ kx G.T.g hmg;refine law_callT (tb:=tbs.map (·.2.2)) (hKl w) (λb hb=>?_) ?_ kx (hsy w) G.T.g G.T.b G.T.builtins G.T.nolimit hg hobj hints (Yan hlen hn2) hr hF hb (λH o hO hS=>hsp w H o a ns hlen hO hS) λH e s'=>hCX w H s₁ e s'
 ·obtain⟨t,ht,rfl⟩:=List.mem_map.mp hb;obtain⟨⟨dr,h1⟩,h2,h3⟩:=htb w t ht;obtain⟨c1,c2⟩:=tab_of G.T kx h1 h2;exact⟨c2,(c1.tab c2).isCodeTable,h3⟩
 ·obtain⟨bm,ob,b1,b2,b3,b4,b5,b6⟩:=G.T.bmain;exact⟨bm,ob,b1,b2,b3,b4,b5,b6⟩
end L2

namespace L2
open PySem PySem.Spec PyProof.Rows
open Sem (wp)
open AutoSeq1 (wpAny_loadPart')
section
variable {prog:Program}{w:World}{A:Around}{E:Value->Shared->Prop}{s:Shared}
theorem jea {l:Addr}{items:Array Value}{Q:Value->Shared->Prop}(hL:s.heap.IsList l items)
  (h:∀h',IsEnum h' (s.heap.objs.size+1) s.heap.objs.size 0 .none->h'.IsListIter s.heap.objs.size l 0->(∀b o,s.heap.get? b=some o->h'.get? b=some o)->Q (.ref (s.heap.objs.size+1)) { s with heap:=h' }) :
  wpAny (model prog w) A (call (.type "enumerate") [.ref l]) Q E s:=by
 have at2:∀(p:Heap) (n:Nat) (o:Obj),p.objs.size=n->o.isFreed=false->(p.push o).get? n=some o:=λp n o e f=>by
  subst e;exact Yaq p f
 have sz:=λo=>Ybs s.heap o;refine YfJ F.called_enumerate (by decide) (Ye4 _) (Yfn _) (λobj=>Yfz obj _) Yfo (jbY (.ref l) _) ⟨λ_ _ _ _ _ q=>Yd5 hL q,?_⟩
 rw[sz];have he:=at2 _ _ ⟨.type "enumerate",none,.fields #[.none,.bool false,.ref s.heap.objs.size,rawInt 0,.none,.none],#[]⟩ (sz ⟨.type "list_iterator",none,.fields #[.ref l,.int 0 0],#[]⟩) rfl;exact⟨⟨_,he,rfl⟩,h _ he ⟨_,Yab _ (at2 _ _ _ rfl rfl),rfl,rfl⟩ λb o x=>Yab _ (Yab _ x)⟩
end
section
variable {X:Cx}{pins:List (Addr×Obj)}{σ:St}{H:Hp}{s:Shared}{h':Heap}
noncomputable def Itf (K:Yac)(a:Addr):It:=
 ⟨λi H=>∃xs x,SqL K H a xs/\xs[i]?=some x,λi H y H'=>∃x p,(∀xs,SqL K H a xs->xs[i]?=some x)/\y=.ref p/\H p=none/\H'=upd H p (.tup [.int (i:Int),x]),λi H=>∃xs,SqL K H a xs/\xs.length=i⟩
theorem jfN {P:Program}{w:World}{K:Yac}{elts:List Expr}{x1}{pos:Pos}(a e it:Addr)(hei:e≠it)(hae:a≠e)(hai:a≠it) :
  Turn P w K (.Tuple elts x1 pos) (Itf K a) [e,it] e (λi h=>(∃old,IsEnum h e it (i:Int) old)/\h.IsListIter it a i) where
 mem:=by simp
 obj:=λi h st b hb=>by
  obtain⟨⟨old,he⟩,o,ho,c,d⟩:=st;simp only[YaL,Yay,or_false]at hb;rcases hb with rfl|rfl
  ·exact⟨_,he,λv z=>nomatch z⟩
  ·exact⟨o,ho,λv z=>by rw[d]at z;cases z⟩
 keep:=λi h h' st k=>by
  obtain⟨⟨old,he⟩,o,ho,r⟩:=st;exact⟨⟨old,k e (by simp) _ he⟩,o,k it (by simp) _ ho,r⟩
 item:=by
  intro X hP hw hK hc i pins s σ H E I hf st hg;subst hP hw hK;obtain⟨xs,x,hq,hx⟩:=hg;obtain⟨its,rv,p,hz⟩:=I.list hq;obtain⟨u,hu,ru⟩:=rv.get hx;obtain⟨⟨old,he⟩,hit⟩:=st;have hlt:i<its.toArray.size:=by
   have:=(List.getElem?_eq_some_iff.mp hu).1;simpa using this
  refine Ye5 (Yeq (A:=X.A.in1) (I.ok.hd hc) it a hai its.toArray) he ⟨hit,p.isList⟩ hlt hei (by simp;exact⟨hei,Ne.symm hae⟩) λx' h' tk hP ho hs' hT hsz hk=>?_
  refine⟨_,rfl,YeC ho λh2 he2 hs2=>?_⟩;have ex:x'=u:=by
   have:its.toArray[i]?=some u:=by simpa using hu
   exact Yar (hP.symm.trans this)
  subst ex;have hfr:H s.heap.objs.size=none:=I.hok.fresh (Yag _);have hen:e≠s.heap.objs.size:=Yav (Yao he);have hin:it≠s.heap.objs.size:=by obtain⟨o,ho',_⟩:=hit;exact Yav (Yao ho')
  have I1:Inv X pins σ (upd H s.heap.objs.size (.tup [.int (i:Int),x])) { s with heap:=s.heap.push { cls:=.type "tuple",data:=.seq #[.int i tk,x'] },toks:=tk+1 }:=by
   refine I.laid (λb o y=>Yab _ y) (Yag _) ⟨by show 2<=Yai;decide,[.int i tk,x'],.cons ⟨tk,rfl⟩ (.cons ru .nil),TupD.new _ _⟩
  have fpU:∀b,b≠s.heap.objs.size->FpOk X pins H b->FpOk X pins (upd H s.heap.objs.size (.tup [.int (i:Int),x])) b:=λb hb f=>⟨by rw[jad hb];exact f.1,f.2⟩
  have kk:∀b o,b≠e->b≠it->(s.heap.push { cls:=.type "tuple",data:=.seq #[.int i tk,x'] }).get? b=some o->h2.get? b=some o:=λb o be bi y=>by
   have step:h'.get? b=some o:=by
    by_cases hb:b=s.heap.objs.size
    ·subst hb;rw[hT];exact(Yaq s.heap (o:={ cls:=.type "tuple",data:=.seq #[.int i tk,x'] }) rfl).symm.trans y
    ·rw[YcF _ _ _ hb]at y;exact hk b o be bi y
   exact(hs2.2 b be).trans step
  have I2:Inv X pins σ (upd H s.heap.objs.size (.tup [.int (i:Int),x])) { s with heap:=h2,toks:=tk+1 }:=
   jgf (s:={ s with heap:=s.heap.push { cls:=.type "tuple",data:=.seq #[.int i tk,x'] },toks:=tk+1 }) (h':=h2) (t':=tk+1) (e:=e) (it:=it) I1 kk (fpU e hen (hf e (by simp))) (fpU it hin (hf it (by simp)))
  refine⟨.ref s.heap.objs.size,_,I2,rfl,⟨x,_,λys hy=>by rw[I.list_inj hy hq];exact hx,rfl,hfr,rfl⟩,⟨⟨_,by simpa using he2⟩,?_⟩,λb hb=>?_⟩
  ·obtain⟨o,ho',r⟩:=hs'.1;exact⟨o,(hs2.2 it (Ne.symm hei)).trans ho',r⟩
  ·simp only[YaL,Yay,or_false]at hb;rcases hb with rfl|rfl
   ·rw[jad hen];exact(hf _ (by simp)).1
   ·rw[jad hin];exact(hf _ (by simp)).1
 done:=by
  intro X hP hw hK hc i pins s σ H E I hf st hg;subst hP hw hK;obtain⟨xs,hq,hx⟩:=hg;obtain⟨its,rv,p,hz⟩:=I.list hq;obtain⟨⟨old,he⟩,hit⟩:=st;have hl:its.toArray.size=i:=by rw[Yah,<- rv.length];exact hx
  refine Yfq (Yeq (A:=X.A.in1) (I.ok.hd hc) it a hai its.toArray) he ⟨by rw[hl];exact hit,p.isList⟩ λh' eb=>⟨rfl,?_⟩
  obtain⟨f0,f1,f2,f3,f4,f5⟩:=hf it (by simp)
  exact I.turned (t':=s.toks) (λb o hb y=>eb b o hb y) f0 f1 f3 f4 f5
 self:=λA i s Q E st h=>by
  obtain⟨⟨old,he⟩,_⟩:=st;exact YcV he h
end
section
variable {X:Cx}
def jmC (K:Yac)(ta:TA):TI:=λσ H R=>ta σ H λvs H1=>∃a,vs=[.ref a]/\(((∃xs,H1 a=some (.tup xs))/\R (Ite K a) H1)\/((∃xs,SqL K H1 a xs)/\R (Itf K a) H1))
theorem jhR {l:Expr}{ta:TA}{p pos tpos:Pos}{elts:List Expr}{x1}(hg:Gl X "enumerate")(hm:X.mg "enumerate" = none)(ha:PA X [l] ta)(hs:YaA [l] X.env=[(false,eval l X.env)]:=by rfl) :
  PI X (.Tuple elts x1 tpos) (.Call (.Name "enumerate" p) [l] [] pos) (jmC X.K ta):=by
 intro pins s σ H R I h;refine Call_ (jdA I hg hm boot_enumerate (YbB (thn (ha pos pins s σ H _ I h) λus s1 ⟨vs,H1,I1,r1,q1⟩=>?_) hs rfl));obtain⟨a,e,q⟩:=q1;subst e;obtain⟨u,rfl,rx⟩:=jb9 r1;cases rx;have fp:∀b∈[s1.heap.objs.size+1,s1.heap.objs.size],FpOk X pins H1 b:=λb hb=>by
  simp only[YaL,Yay,or_false]at hb;rcases hb with rfl|rfl
  ·exact I1.fpOk (Yeb _) (I1.hok.fresh (Yeb _))
  ·exact I1.fpOk (Yag _) (I1.hok.fresh (Yag _))
 rcases q with⟨⟨xs,hq⟩,q⟩|⟨⟨xs,hq⟩,q⟩
 ·obtain⟨its,rv,t,hz⟩:=I1.tuple (SqT.of hq);have hlt:a<s1.heap.objs.size:=by obtain⟨o,ho,_⟩:=t;exact Yao ho
  exact jd9 (items:=its.toArray) t λh' he hit hk=>YcV he ⟨_,_,_,_,H1,rfl,I1.kept (t':=s1.toks) hk,jgh a _ _ (Nat.succ_ne_self _) (Yav (Ydy hlt)) (Yav hlt),⟨⟨_,he⟩,hit⟩,fp,q⟩
 ·obtain⟨its,rv,t,hz⟩:=I1.list hq;have hlt:a<s1.heap.objs.size:=by obtain⟨o,ho,_⟩:=t.isList;exact Yao ho
  exact jea (items:=its.toArray) t.isList λh' he hit hk=>YcV he ⟨_,_,_,_,H1,rfl,I1.kept (t':=s1.toks) hk,jfN a _ _ (Nat.succ_ne_self _) (Yav (Ydy hlt)) (Yav hlt),⟨⟨_,he⟩,hit⟩,fp,q⟩
end
end L2

namespace L2
open PySem PySem.Spec PyProof.Rows
section
variable {X:Cx}
theorem jgz:OpR X (YaR .LtE) (λx y H Q=>∃i j,x=.str i/\y=.str j/\Q (.bl (!decide (j.cps.toList<i.cps.toList))) H):=by
 intro pins s σ H x y v u Q I rx ry h;obtain⟨i,j,rfl,rfl,q⟩:=h;obtain⟨t,rfl⟩:=rx;obtain⟨t',rfl⟩:=ry;exact PySem.P.le_str (jak I q rfl)
theorem jd8:jaX X (.type "int") (λxs H Q=>∃z n,xs=[.str z]/\PySem.intText? z=some n/\z.length<=640/\Q (.int n) H):=by
 intro pins s σ H xs us Q I r h;obtain⟨z,n,rfl,h1,h2,q⟩:=h;obtain⟨u,rfl,rx⟩:=jb9 r;obtain⟨t,rfl⟩:=rx;exact PySem.W.KIN.call_text h1 h2 ⟨.int n,H,I.tok _,⟨_,rfl⟩,q⟩
noncomputable def Its (x:Str):It:=⟨λi _=>i<x.cps.size,λi H y H'=>H'=H/\∃c,x.cps[i]?=some c/\y=.str ⟨#[c]⟩,λi _=>x.cps.size<=i⟩
theorem jhx {P:Program}{w:World}{K:Yac}{tg:Expr}(x:Str)(t:Tok)(it:Addr):Turn P w K tg (Its x) [it] it (λi h=>h.IsStrIter it "str_ascii_iterator" x t i) where
 mem:=by simp
 obj:=λi h st b hb=>by
  obtain rfl:b=it:=by simpa using hb
  obtain⟨o,e,c,d⟩:=st;exact⟨o,e,λv z=>by rw[d]at z;cases z⟩
 keep:=λi h h' st k=>let ⟨o,e,r⟩:=st;⟨o,k it (by simp) o e,r⟩
 item:=by
  intro X hP hw hK hc i pins s σ H E I hf st hg;subst hP hw hK;obtain⟨f0,f1,f2,f3,f4,f5⟩:=hf it (by simp)
  have hg:i<x.cps.size:=hg;have hx:x.cps[i]?=some x.cps[i]:=by simp[hg]
  refine wpAny_pyNext_ascii_item st hx λh' st' sb=>?_;have I1:Inv X pins σ H { s with heap:=h',toks:=s.toks+1 }:=I.turned (t':=s.toks+1) (λb o hb e=>(sb.2 b hb).trans e) f0 f1 f3 f4 f5
  obtain⟨o,e,c,d⟩:=id st';exact⟨_,rfl,jg4 (s:={ s with heap:=h',toks:=s.toks+1 }) e c d (by decide) ⟨.str ⟨#[x.cps[i]]⟩,H,I1,⟨_,rfl⟩,⟨rfl,_,hx,rfl⟩,st',λb hb=>(hf b hb).1⟩⟩
 done:=by
  intro X hP hw hK hc i pins s σ H E I hf st hg;subst hP hw hK;obtain⟨f0,f1,f2,f3,f4,f5⟩:=hf it (by simp)
  have hg:x.cps.size<=i:=hg;exact wpAny_pyNext_ascii_end (I.ok.hd hc) st (by simpa using hg) λh' eb=>⟨rfl,I.turned (t':=s.toks) (λb o hb e=>eb b o hb e) f0 f1 f3 f4 f5⟩
 self:=λ_ _ _ _ _ st h=>wpAny_pyIter_striter_ascii st h
def iStr (tl:TE):TI:=λσ H R=>tl σ H λx H1=>∃z:Str,x=.str z/\z.cps.all (·< 128)=true/\R (Its z) H1
theorem jlC {tg l:Expr}{tl:TE}(hl:PE X l tl):PI X tg l (iStr tl):=by
 intro pins s σ H R I h;refine thn (hl pins s σ H _ I h) λv s1 ⟨x,H1,I1,r1,z,e,ha,q⟩=>?_;subst e;obtain⟨t,rfl⟩:=r1;refine wpAny_pyIter_ascii ha ?_;refine⟨s1.heap.objs.size,[s1.heap.objs.size],_,_,H1,rfl,I1.kept (t':=s1.toks) λb o e=>Yab _ e,jhx z t _,⟨_,Yaq _ rfl,rfl,rfl⟩,λb hb=>?_,q⟩;obtain rfl:b=s1.heap.objs.size:=by simpa using hb
 exact I1.fpOk (Yag _) (I1.hok.fresh (Yag _))
abbrev TF:=St->Hp->(List Str->Hp->Prop)->Prop
noncomputable def cats (out:Str)(ys:List Str):Str:=ys.foldl (·++·) out
def PJ (X:Cx)(vs:List Expr)(t:TF):Prop:=
 ∀(out:Str) (pins:List (Addr×Obj)) (s:Shared) (σ:St) (H:Hp) (Q:VK),out.length+10000*vs.length<=Yai->Inv X pins σ H s->t σ H (λys H1=>Q (.str (cats out ys)) H1)->wpAny (model X.prog X.w) X.A (joinParts out (evalEach vs X.env)) (EP X pins σ Q) X.xe s
theorem jfH {prog:Program}{w:World}{A:Around}{E:Value->Shared->Prop}{it a:Addr}{its:Array Value}(hne:a≠it):∀(m i:Nat) (s:Shared) (Q:List Value->Shared->Prop),s.heap.IsListIter it a i->s.heap.IsList a its->i+m<=its.size->
  (∀h',h'.IsListIter it a (i+m)->Ycr it s.heap h'->Q ((its.toList.drop i).take m) { s with heap:=h' })->wpAny (model prog w) A (draw (.ref it) m) Q E s
 |0,i,s,Q,hit,_,_,q=>Yap (by simpa using q s.heap hit (Ycr.refl ..))
 |m+1,i,s,Q,hit,hl,hle,q=>by
  have hi:i<its.size:=by omega
  show wpAny _ _ (pyNext (.ref it) >>= _) Q E s;refine Yad (Yfp hit hl (x:=its[i]) (by simp[hi]) λh1 hit1 sb1=>?_)
  refine Yad (Ya8 (jfH hne m (i+1) _ _ hit1 (hl.extBut sb1.extBut hne) (by omega) λh2 hit2 sb2=>Yap ?_))
  have e:its.toList.drop i=its[i]::its.toList.drop (i+1):=by simp[YaX,hi]
  have r:=q h2 (by rw[show i+(m+1)=i+1+m by omega];exact hit2) (sb1.trans sb2)
  rw[e,List.take_succ_cons]at r;exact r
def gLst (K:Yac)(n:Nat)(t:TGs):TG:=λv σ H Q=>∃a xs,v=.ref a/\SqL K H a xs/\xs.length=n/\t xs σ H Q
theorem jlG {es:List Expr}{k n:Nat}{pos:Pos}{t:TGs}(hc:X.calm=true)(h:PGs X es t)
  (hn:(Ya2 es X.env).length=n:=by rfl) (hst:(Ya2 es X.env).findIdx? (·.1)=none:=by rfl):PG X (.Tuple es k pos) (gLst X.K n t):=by
 intro pins s σ H v u Q I r hw;obtain⟨a,xs,rfl,hq,hl,hw⟩:=hw;cases r;obtain⟨its,rv,hp,hz⟩:=I.list hq;have hL:=hp.isList;have hlt:a≠s.heap.objs.size:=by obtain⟨o,ho,_⟩:=hL;exact Yav (Yao ho)
 have sz:its.toArray.size=n:=by rw[Yah,<- rv.length];exact hl
 rw[assign_Tuple];refine Yad (Yc5 ?_);unfold unpack;rw[hn,hst];refine Yad (Ya8 ?_);unfold unpackItems;refine Yad ?_;unfold notIterableAtAll;refine Yad (wpAny_specialOf hL.typeIs slot_list_iter.lookup ?_);refine Yap ?_;simp only[Ybq,if_false];refine Yad (Ya8 (Yd5 hL ?_));refine Yad (Ya8 (jfH hlt n 0 _ _ ⟨_,Yaq _ rfl,rfl,rfl⟩ (hL.push _) (by omega) λh1 hit1 sb1=>?_))
 have hall:List.take n (List.drop 0 its.toArray.toList)=its:=by
  rw[Ydb];exact YcS (by simp;rw[<- rv.length];omega)
 rw[hall];have hil:its.length=n:=by rw[<- rv.length];exact hl
 rw[if_neg (by omega)]
 have hL1:h1.IsList a its.toArray:=(hL.push _).extBut sb1.extBut hlt;refine Yad (Ya8 (YfD (I.ok.hd hc) hit1 hL1 (by simp;omega) λh2 eb=>?_))
 simp only[Option.isSome_none,Ybq,if_false];refine Yap ?_;have I1:Inv X pins σ H { s with heap:=h2 }:=I.kept (t':=s.toks) λb o e=>eb b o (Yav (Yao e)) (sb1.extBut b o (Yav (Yao e)) (Yab _ e))
 exact h pins _ σ H xs _ Q I1 rv hw
end
end L2

namespace L2
open PySem PySem.Spec PyProof.Rows Builtin Builtin.Str
section
variable {X:Cx}
end
end L2

namespace L2
open PySem PySem.Spec PyProof.Rows
section
variable {prog:Program}{w:World}{K:Type}[DecidableEq K]{knd:KeyKind prog w K}{A:Around}{E:Value->Shared->Prop}{s:Shared}
end
section
variable {X:Cx}
end
section
variable {P:Program}{w:World}{H:Hp}{h:Heap}{a:Addr}{o:Obj}{es:Array Ycf}{ep:Nat}{kvs:List (Key×V)}
theorem jfD (x:jay P w H h a (.frz o (.dK kvs)))(hd:o.data=.dict es ep):es.size=kvs.length/\∃vs,KV kvs vs/\h.DictAt (jai P w) a vs ep:=by
 obtain⟨ho,_,_,vs,r,o',es',ep',h1,h2,h3,h4,h5,h6⟩:=x;rw[ho]at h1;cases h1;rw[hd]at h3;cases h3;have e:=h5.length;rw[Ybz]at e;exact⟨e.trans r.length.symm,vs,r,o,es,ho,h2,hd,h4,h5,h6⟩
theorem KV.at {κ:Type}{kvs:List (κ×V)}{vs:List (κ×Value)}(r:KV kvs vs):∀{i:Nat} {p:κ×V},kvs[i]?=some p->∃v,vs[i]?=some (p.1,v)/\RelV p.2 v:=by
 induction r with
 |nil=>intro i p h;simp at h
 |@cons p q ps qs h t ih=>
  intro i p' e;cases i with
  |zero=>simp at e;subst e;exact⟨q.2,by rw[h.1];rfl,h.2⟩
  |succ j=>simp at e;simpa using ih e
noncomputable def Itv (a:Addr)(o:Obj):It:=
 ⟨λi H=>∃kvs,H a=some (.frz o (.dK kvs))/\i<kvs.length,λi H x H'=>H'=H/\∃kvs k,H a=some (.frz o (.dK kvs))/\kvs[i]?=some (k,x),λi H=>∃kvs,H a=some (.frz o (.dK kvs))/\kvs.length<=i⟩
noncomputable def Iti (a:Addr)(o:Obj):It:=
 ⟨λi H=>∃kvs,H a=some (.frz o (.dK kvs))/\i<kvs.length,λi H y H'=>∃kvs k x p,H a=some (.frz o (.dK kvs))/\kvs[i]?=some (k,x)/\y=.ref p/\H p=none/\H'=upd H p (.tup [kV k,x]),λi H=>∃kvs,H a=some (.frz o (.dK kvs))/\kvs.length<=i⟩
theorem ji8 {K:Yac}{tg:Expr}(a it:Addr)(o:Obj)(es:Array Ycf)(ep:Nat)(hd:o.data=.dict es ep) :
  Turn P w K tg (Itv a o) [it] it (λi h=>h.IsValIter it a i es.size ep) where
 mem:=by simp
 obj:=λi h st b hb=>by
  cases List.mem_singleton.mp hb;obtain⟨u,e,_,d⟩:=st;exact⟨u,e,λv z=>by rw[d]at z;cases z⟩
 keep:=λi h h' st k=>st.at λu e=>k it (by simp) u e
 item:=by
  intro X hP hw hK hc i pins s σ H E I hf st hg;subst hP hw hK;obtain⟨kvs,hq,hl⟩:=hg;obtain⟨hs,vs,r,da⟩:=jfD (I.hok a _ hq) hd;obtain⟨f0,f1,f2,f3,f4,f5⟩:=hf it (by simp)
  rw[hs.trans r.length]at st;have ek:kvs[i]?=some kvs[i]:=Yae hl;obtain⟨v,ev,rv⟩:=r.at ek;refine wpAny_pyNext_values_item st da ev λh' st' sb=>?_;obtain⟨u,eu,cu,du⟩:=id st';rw[<- r.length,<- hs]at st';exact⟨_,rfl,jg4 (s:={ s with heap:=h' }) eu cu du (by decide) ⟨_,H,I.turned (t':=s.toks) (λb o hb e=>(sb.2 b hb).trans e) f0 f1 f3 f4 f5,rv,⟨rfl,kvs,_,hq,ek⟩,st',λb hb=>(hf b hb).1⟩⟩
 done:=by
  intro X hP hw hK hc i pins s σ H E I hf st hg;subst hP hw hK;obtain⟨kvs,hq,hl⟩:=hg;obtain⟨hs,vs,r,da⟩:=jfD (I.hok a _ hq) hd;obtain⟨f0,f1,f2,f3,f4,f5⟩:=hf it (by simp)
  rw[hs.trans r.length]at st;exact wpAny_pyNext_values_end (I.ok.hd hc) st da (Ybo (by rw[<- r.length];exact hl)) λh' eb=>⟨rfl,I.turned (t':=s.toks) (λb o hb e=>eb b o hb e) f0 f1 f3 f4 f5⟩
 self:=λ_ _ _ _ _ st q=>wpAny_pyIter_valiter st q
theorem jkd {k:Key}{u:Value}(e:(jai P w).is k u=true):RelV (kV k) u:=by
 rcases jam e with⟨i,t,rfl,rfl⟩|⟨x,t,rfl,rfl⟩
 ·exact⟨t,rfl⟩
 ·exact⟨t,rfl⟩
theorem ji9 {K:Yac}{elts:List Expr}{x1}{pos:Pos}(a it:Addr)(o:Obj)(es:Array Ycf)(ep:Nat)(hd:o.data=.dict es ep) :
  Turn P w K (.Tuple elts x1 pos) (Iti a o) [it] it (λi h=>∃u v,IsItemIter h it a i es.size ep u v) where
 mem:=by simp
 obj:=λi h st b hb=>by
  cases List.mem_singleton.mp hb;obtain⟨u,v,e⟩:=st;exact⟨_,e,λv z=>nomatch z⟩
 keep:=λi h h' st k=>let ⟨u,v,e⟩:=st;⟨u,v,k it (by simp) _ e⟩
 item:=by
  intro X hP hw hK hc i pins s σ H E I hf st hg;subst hP hw hK;obtain⟨kvs,hq,hl⟩:=hg;obtain⟨hs,vs,r,da⟩:=jfD (I.hok a _ hq) hd;have fi:=hf it (by simp)
  obtain⟨u0,v0,st⟩:=st;rw[hs.trans r.length]at st;have ek:kvs[i]?=some kvs[i]:=Yae hl;obtain⟨v,ev,rv⟩:=r.at ek;refine wpAny_pyNext_items_item st da ev λkey h' hk out tp sz kp=>⟨_,rfl,wpAny_letOwnedTupleGo_items out λh2 st2 sb=>?_⟩;rw[<- r.length,<- hs]at st2;have hfr:H s.heap.objs.size=none:=I.hok.fresh (Yag _);have hin:it≠s.heap.objs.size:=Yav (Yao st);have I1:Inv X pins σ (upd H s.heap.objs.size (.tup [kV kvs[i].1,kvs[i].2])) { s with heap:=s.heap.push { cls:=.type "tuple",data:=.seq #[key,v] },toks:=s.toks }:=by
   refine I.laid (λb o y=>Yab _ y) (Yag _) ⟨by show 2<=Yai;decide,[key,v],.cons (jkd hk) (.cons rv .nil),TupD.new _ _⟩
  have kk:∀b o,b≠it->(s.heap.push { cls:=.type "tuple",data:=.seq #[key,v] }).get? b=some o->h2.get? b=some o:=λb o bi y=>by
   refine(sb.2 b bi).trans ?_;by_cases hb:b=s.heap.objs.size
   ·subst hb;rw[Yaq _ rfl]at y;exact tp.trans y
   ·rw[YcF _ _ _ hb]at y;exact kp b o bi y
  obtain⟨f0,f1,f2,f3,f4,f5⟩:=fi;have f0':upd H s.heap.objs.size (.tup [kV kvs[i].1,kvs[i].2]) it=none:=by rw[jad hin];exact f0
  refine⟨.ref s.heap.objs.size,_,I1.turned (h':=h2) (t':=s.toks) kk f0' f1 f3 f4 f5,rfl,⟨kvs,_,_,_,hq,ek,rfl,hfr,rfl⟩,⟨_,_,st2⟩,λb hb=>?_⟩;cases List.mem_singleton.mp hb;exact f0'
 done:=by
  intro X hP hw hK hc i pins s σ H E I hf st hg;subst hP hw hK;obtain⟨kvs,hq,hl⟩:=hg;obtain⟨hs,vs,r,da⟩:=jfD (I.hok a _ hq) hd;obtain⟨f0,f1,f2,f3,f4,f5⟩:=hf it (by simp)
  obtain⟨u0,v0,st⟩:=st;rw[hs.trans r.length]at st;exact wpAny_pyNext_items_end (I.ok.hd hc) st da (Ybo (by rw[<- r.length];exact hl)) λh' eb=>⟨rfl,I.turned (t':=s.toks) (λb o hb e=>eb b o hb e) f0 f1 f3 f4 f5⟩
 self:=λA i s Q E st q=>by
  obtain⟨u,v,st⟩:=st;exact PySem.W.kcp_self st q
end
section
variable {X:Cx}{tg d:Expr}{tl:TE}{apos cpos:Pos}
def Held (H:Hp)(a:Addr)(kvs:List (Key×V))(R:Obj->Hp->Prop):Prop:=Rd H a (.dK kvs)/\∀o,(∀u,H a=some (.frz u (.dK kvs))->u=o)->R o (upd H a (.frz o (.dK kvs)))
theorem jg3 {pins:List (Addr×Obj)}{s:Shared}{σ:St}{H:Hp}{a:Addr}{kvs:List (Key×V)}{R:Obj->Hp->Prop}(I:Inv X pins σ H s)(q:Held H a kvs R) :
  ∃o es ep vs,o.data=.dict es ep/\es.size=vs.length/\(a==YaY)=false/\s.heap.DictAt (jai X.prog X.w) a vs ep/\R o (upd H a (.frz o (.dK kvs)))/\Inv X pins σ (upd H a (.frz o (.dK kvs))) s:=by
 obtain⟨z,y,vs,r,o,es,ep,h1,h2,h3,h4,h5,h6⟩:=jez I.hok q.1;have e:=h5.length;rw[Ybz]at e;have at0:s.heap.DictAt (jai X.prog X.w) a vs ep:=⟨o,es,h1,h2,h3,h4,h5,h6⟩;rcases q.1 with g|⟨u,g⟩
 ·refine⟨o,es,ep,vs,h3,e,y,at0,q.2 o (λu z=>by rw[g]at z;cases z),?_⟩
  exact I.write (h':=s.heap) (t':=s.toks) (x:=a) (e:=a) (by rw[g];trivial) (.inl rfl) (λb u _ e=>e) ⟨o,h1⟩ ⟨h1,z,y,vs,r,o,es,ep,h1,h2,h3,h4,h5,h6⟩
 ·have hu:=(show jay X.prog X.w H s.heap a (.frz u (.dK kvs))from I.hok a _ g).1;rw[h1]at hu;cases hu;have same:upd H a (.frz o (.dK kvs))=H:=by
   funext b;unfold upd;split
   ·rename_i z;rw[z,g]
   ·rfl
  refine⟨o,es,ep,vs,h3,e,y,at0,q.2 o (λu z=>by rw[g]at z;cases z;rfl),?_⟩
  rw[same];exact I
def iDV (tl:TE):TI:=λσ H R=>tl σ H λx H1=>∃a kvs,x=.ref a/\Held H1 a kvs λo H'=>R (Itv a o) H'
def iDI (tl:TE):TI:=λσ H R=>tl σ H λx H1=>∃a kvs,x=.ref a/\Held H1 a kvs λo H'=>R (Iti a o) H'
theorem jog (hd:PE X d tl)(hbase:Ybu d "values" X.env (eval d X.env)=eval d X.env:=by rfl)(hline:(apos.endLine==cpos.line)=true:=by rfl):PI X tg (.Call (.Attribute d "values" apos) [] [] cpos) (iDV tl):=by
 intro pins s σ H R I h;refine Ye6 hbase hline (thn (hd pins s σ H _ I h) λv s1 ⟨x,H1,I1,r1,a,kvs,ex,q⟩=>?_);subst ex;cases r1;obtain⟨t1,t2,_⟩:=jiJ I1 (.inl ⟨kvs,q.1⟩);obtain⟨o,es,ep,vs,hd,hs,y,at0,q,I2⟩:=jg3 I1 q;refine⟨"dict", "dict.values",Yd9,YdW,PySem.F.type_dict_values,t1,t2,Yb6 rfl (Yda ?_)⟩;refine call_meetsIn YdW t1 PySem.F.entry_dict_values (PySem.F.args_dict_values_1 _) (meets_dict_values (jai X.prog X.w) a y) ⟨⟨vs,at0.dictOf⟩,?_⟩;have I3:Inv X pins σ (upd H1 a (.frz o (.dK kvs))) { s1 with heap:=s1.heap.push { cls:=.type "dict_values",data:=.fields #[.ref a] } }:=I2.kept (t':=s1.toks) λb o e=>Yab _ e
 refine wpAny_pyIter_values (s:={ s1 with heap:=s1.heap.push { cls:=.type "dict_values",data:=.fields #[.ref a] } }) ⟨_,Yaq _ rfl,rfl,rfl⟩ (at0.at' λo e=>Yab _ e) ?_
 rw[<- hs];refine⟨_,[_],_,_,_,rfl,I3.kept (t':=s1.toks) λb o e=>Yab _ e,ji8 a _ o es ep hd,⟨_,Yaq _ rfl,rfl,rfl⟩,λb hb=>?_,q⟩;cases List.mem_singleton.mp hb;exact I3.fpOk (Yag _) (I3.hok.fresh (Yag _))
theorem joh {elts:List Expr}{x1}{tpos:Pos}(hd:PE X d tl)(hbase:Ybu d "items" X.env (eval d X.env)=eval d X.env:=by rfl)(hline:(apos.endLine==cpos.line)=true:=by rfl):PI X (.Tuple elts x1 tpos) (.Call (.Attribute d "items" apos) [] [] cpos) (iDI tl):=by
 intro pins s σ H R I h;refine Ye6 hbase hline (thn (hd pins s σ H _ I h) λv s1 ⟨x,H1,I1,r1,a,kvs,ex,q⟩=>?_);subst ex;cases r1;obtain⟨t1,t2,_⟩:=jiJ I1 (.inl ⟨kvs,q.1⟩);obtain⟨o,es,ep,vs,hd,hs,y,at0,q,I2⟩:=jg3 I1 q;refine⟨"dict", "dict.items",Yd9,Yd8,PySem.F.type_dict_items,t1,t2,Yb6 rfl (Yda ?_)⟩;refine call_meetsIn Yd8 t1 PySem.F.entry_dict_items (PySem.F.args_dict_items_1 _) (meets_dict_items (jai X.prog X.w) a y) ⟨⟨vs,at0.dictOf⟩,?_⟩;have I3:Inv X pins σ (upd H1 a (.frz o (.dK kvs))) { s1 with heap:=s1.heap.push { cls:=.type "dict_items",data:=.fields #[.ref a] } }:=I2.kept (t':=s1.toks) λb o e=>Yab _ e
 refine wpAny_pyIter_items (s:={ s1 with heap:=s1.heap.push { cls:=.type "dict_items",data:=.fields #[.ref a] } }) ⟨_,Yaq _ rfl,rfl,rfl⟩ (at0.at' λo e=>Yab _ e) ?_
 rw[<- hs];refine⟨_,[_],_,_,_,rfl,I3.kept (t':=s1.toks) λb o e=>Yab _ e,ji9 a _ o es ep hd,⟨_,_,Yaq _ rfl⟩,λb hb=>?_,q⟩;cases List.mem_singleton.mp hb;exact I3.fpOk (Yag _) (I3.hok.fresh (Yag _))
end
end L2

namespace L2
open PySem PySem.Spec PyProof.Rows
open Sem (wp)
structure Zs (h:Heap)(n a1 a2 k:Nat)(f0:Value):Prop where
 z:IsZip h (n+4) (n+2) (n+3) f0
 i:IsPair h (n+2) (.ref n) (.ref (n+1))
 o:∃p q,IsPair h (n+3) p q
 i1:h.IsTupleIter n a1 k
 i2:h.IsTupleIter (n+1) a2 k
def Zk (n:Nat)(h h':Heap):Prop:=∀(c:Nat) o,c≠n->c≠n+1->c≠n+3->c≠n+4->h.get? c=some o->h'.get? c=some o
section
variable {prog:Program}{w:World}{A:Around}{E:Value->Shared->Prop}{s:Shared}
theorem jf8 {n a1 a2 k:Nat}{xs ys:Array Value}{Q:Option Value->Shared->Prop}(hh:A.handled=none)(st:Zs s.heap n a1 a2 k .none)(l1:a1<n)(l2:a2<n)(t1:s.heap.IsTuple a1 xs)(t2:s.heap.IsTuple a2 ys)
  (more:∀x y h',xs[k]?=some x->ys[k]?=some y->Zs h' n a1 a2 (k+1) (rawInt s.heap.objs.size)->IsPair h' s.heap.objs.size x y->Zk n s.heap h'->Q (some (.ref s.heap.objs.size)) { s with heap:=h' })
  (stop:(xs[k]?=none\/ys[k]?=none)->∀h',Zk n s.heap h'->Q none { s with heap:=h' }):wpAny (model prog w) A (pyNext (.ref (n+4))) Q E s:=by
 obtain⟨gz,gi,⟨p,q,go⟩,i1,i2⟩:=st;have T:s.TypeIs (.ref (n+4)) "zip" := ⟨_,gz,rfl⟩;unfold pyNext;refine Yad (wpAny_attempt (YbG (name:=YbA "__next__") T F.slot_zip_next (Yb3 F.slot_zip_next T F.entry_zip_next ?_ (F.args_zip_next_1 _))));show wpAny _ _ (field (.ref (n+4)) 2 >>= _) _ _ _;refine Yad (Ybi gz rfl (x:=.bool false) rfl ?_);show wpAny _ _ (field (.ref (n+4)) 3 >>= _) _ _ _;refine Yad (Ybi gz rfl (x:=.ref (n+2)) rfl (Yad (Ydp gi rfl ?_)));show wpAny _ _ (Ycm (.ref (n+4)) >>= _) _ _ _;refine Yad (m:=Ycm _) (Yad (Ybi gz rfl (x:=.none) rfl (Yap ?_)));simp only[if_true];refine Yad (YeU (Yad (Ybi gz rfl (x:=.ref (n+3)) rfl (Yad (YcJ gz (by simp) λg1 z1 s1=>Yad ?_)))))
 simp only[List.zipIdx_cons,List.zipIdx_nil,Yd1,List.forIn_nil];have fin:∀(g:Heap) (e:Addr) (E':Value->Shared->Prop),IsZip g (n+4) (n+2) (n+3) .ellipsis->Zk n s.heap g->(∃o,g.get? e=some o/\o.cls=.type "StopIteration")->(xs[k]?=none\/ys[k]?=none)->
   wpAny (model prog w) A.in1 (setField (.ref (n+4)) 0 .none) (λ_ s2=>wpAny (model prog w) A (do let r <- isInstance (.ref e) (.type "StopIteration");if r=true then pure none else throw (.ref e)) Q E s2) E' { s with heap:=g }:=λg e E' hz kp ⟨o,ho,hc⟩ hn=>
  YcJ hz (by simp) λg' _ sb=>Yad (wpAny_isInstance (T := "StopIteration") (b:=true) ⟨o,sb.extBut _ _ (λz=>by
   subst z;have hz:g.get? (n+4)=_:=hz;rw[hz]at ho;cases ho;simp at hc) ho,hc⟩ isSubtype_stop (Yap (stop hn g' λc u c1 c2 c3 c4 e=>sb.extBut c u c4 (kp c u c1 c2 c3 c4 e))))
 refine Yad (Yad (wpAny_onRaise (Yad (jcI hh (i1.extBut s1.extBut (show n≠n+4 by omega)) (t1.extBut s1.extBut (show a1≠n+4 by omega)) (λx g2 ex j1 s2=>?_) λnx g2 e s2 he=>?_))))
 ·have z2:IsZip g2 (n+4) (n+2) (n+3) .ellipsis:=s2.extBut _ _ (show n+4≠n by omega) z1
  have o2:IsPair g2 (n+3) p q:=s2.extBut _ _ (show n+3≠n by omega) (s1.extBut _ _ (show n+3≠n+4 by omega) go)
  refine Yap (Yad (Ydp o2 rfl (Yad (wpAny_updateSeq_pair o2 λg3 o3 s3=>Yad (wpAny_letGo (Yap ?_))))));have o3:IsPair g3 (n+3) x q:=o3;have z3:IsZip g3 (n+4) (n+2) (n+3) .ellipsis:=s3.extBut _ _ (show n+4≠n+3 by omega) z2
  have k3:Zk n s.heap g3:=λc u c1 c2 c3 c4 e=>s3.extBut c u c3 (s2.extBut c u c1 (s1.extBut c u c4 e));have i23:g3.IsTupleIter (n+1) a2 k:=((i2.extBut s1.extBut (show n+1≠n+4 by omega)).extBut s2.extBut (show n+1≠n by omega)).extBut s3.extBut (show n+1≠n+3 by omega)
  have t23:g3.IsTuple a2 ys:=((t2.extBut s1.extBut (show a2≠n+4 by omega)).extBut s2.extBut (show a2≠n by omega)).extBut s3.extBut (show a2≠n+3 by omega)
  refine Yad (Yad (wpAny_onRaise (Yad (jcI hh i23 t23 (λy g4 ey j2 s4=>?_) λny g4 e s4 he=>?_))))
  ·have z4:IsZip g4 (n+4) (n+2) (n+3) .ellipsis:=s4.extBut _ _ (show n+4≠n+1 by omega) z3
   have o4:IsPair g4 (n+3) x q:=s4.extBut _ _ (show n+3≠n+1 by omega) o3
   refine Yap (Yad (Ydp o4 rfl (Yad (wpAny_updateSeq_pair o4 λg5 o5 s5=>Yad (wpAny_letGo (Yap (Yap ?_)))))));have o5:IsPair g5 (n+3) x y:=o5;have z5:IsZip g5 (n+4) (n+2) (n+3) .ellipsis:=s5.extBut _ _ (show n+4≠n+3 by omega) z4
   have sz:g5.objs.size=s.heap.objs.size:=by rw[s5.1,s4.1,s3.1,s2.1,s1.1]
   have k5:Zk n s.heap g5:=λc u c1 c2 c3 c4 e=>s5.extBut c u c3 (s4.extBut c u c2 (k3 c u c1 c2 c3 c4 e));refine Yad (Ydp o5 rfl (Yad (wpAny_newTuple (Yad (m:=YfB _ _) (Yad (YcJ (Yab _ z5) (by simp) λg7 z7 s7=>YcJ z7 (by simp) λg8 z8 s8=>?_))))))
   have up:∀c u,c≠n+4->g5.get? c=some u->g8.get? c=some u:=λc u c4 e=>s8.extBut c u c4 (s7.extBut c u c4 (Yab _ e));have hp:IsPair g8 g5.objs.size x y:=s8.extBut _ _ (YeS (Yao z5)) (s7.extBut _ _ (YeS (Yao z5)) (Yaq _ rfl));have jt:∀{c:Nat} {t j:Nat},c≠n+4->g5.IsTupleIter c t j->g8.IsTupleIter c t j:=λc4 ⟨u,e,r⟩=>⟨u,up _ u c4 e,r⟩;have z8:IsZip g8 (n+4) (n+2) (n+3) (rawInt g5.objs.size):=z8;rw[sz]at hp z8;refine Yap ⟨_,rfl,Yap ?_⟩;show Q (some (.ref g5.objs.size)) _;rw[sz];refine more x y g8 ex ey ⟨z8,up _ _ (show n+2≠n+4 by omega) (k5 (n+2) _ (by omega) (by omega) (by omega) (by omega) gi),⟨x,y,up _ _ (show n+3≠n+4 by omega) o5⟩,jt (by omega) ?_,jt (by omega) (j2.extBut s5.extBut (show n+1≠n+3 by omega))⟩ hp λc u c1 c2 c3 c4 e=>up c u c4 (k5 c u c1 c2 c3 c4 e)
   exact((j1.extBut s3.extBut (show n≠n+3 by omega)).extBut s4.extBut (show n≠n+1 by omega)).extBut s5.extBut (show n≠n+3 by omega)
  ·exact fin g4 e _ (s4 _ _ (show n+4≠n+1 by omega) z3) (λc u c1 c2 c3 c4 e=>s4 c u c2 (k3 c u c1 c2 c3 c4 e)) he (.inr ny)
 ·exact fin g2 e _ (s2 _ _ (show n+4≠n by omega) z1) (λc u c1 c2 c3 c4 e=>s2 c u c1 (s1.extBut c u c4 e)) he (.inl nx)
theorem jdY (l1 l2:Addr)(xs ys:Array Value) :
  Meets (Builtin.«zip.__new__» ⟨[.type "zip",.ref l1,.ref l2],[]⟩) (λ_ R s=>s.heap.IsTuple l1 xs/\s.heap.IsTuple l2 ys/\∀g1 g2 g3 g4 g5,g1=s.heap.push ⟨.type "tuple_iterator",none,.fields #[.ref l1,.int 0 0],#[]⟩->g2=g1.push ⟨.type "tuple_iterator",none,.fields #[.ref l2,.int 0 0],#[]⟩->
   g3=g2.push { cls:=.type "tuple",data:=.seq #[.ref s.heap.objs.size,.ref g1.objs.size] }->g4=g3.push { cls:=.type "tuple",data:=.seq #[.none,.none] }->g5=g4.push ⟨.type "zip",none,.fields #[.none,.bool false,.bool false,.ref g2.objs.size,.ref g3.objs.size],#[]⟩->R (.ok (.ret (.ref g4.objs.size))) { s with heap:=g5 }):=
 .of_wp λprog w A R s h=>by
  rcases s with⟨hp,g,d,tk,os⟩;rcases h with⟨k1,k2,h⟩;have hsub:=sub_zip;have k2':Heap.IsTuple (Shared.heap ⟨hp.push ⟨.type "tuple_iterator",none,.fields #[.ref l1,.int 0 0],#[]⟩,g,d,tk,os⟩) l2 ys:=by
   rcases k2 with⟨u,hu,q⟩;exact⟨u,Yab _ hu,q⟩
  wp_walk using YcK k1,YcK k2'
  exact⟨_,rfl,h _ _ _ _ _ rfl rfl rfl rfl rfl⟩
theorem jeE {l1 l2:Nat}{xs ys:Array Value}{Q:Value->Shared->Prop}(k1:s.heap.IsTuple l1 xs)(k2:s.heap.IsTuple l2 ys)
  (h:∀h',Zs h' s.heap.objs.size l1 l2 0 .none->(∀b o,s.heap.get? b=some o->h'.get? b=some o)->Q (.ref (s.heap.objs.size+4)) { s with heap:=h' }) :
  wpAny (model prog w) A (call (.type "zip") [.ref l1,.ref l2]) Q E s:=by
 refine YfJ F.called_zip (by decide) (F.typeCall_zip_2 _ _) (F.newCall_zip_2 _ _) (λobj=>F.args_object_init_3 obj _ _) F.entry_zip_new (jdY l1 l2 xs ys) ⟨k1,k2,?_⟩
 intro g1 g2 g3 g4 g5 e1 e2 e3 e4 e5;have at2:∀(p:Heap) (n:Nat) (o:Obj),p.objs.size=n->o.isFreed=false->(p.push o).get? n=some o:=λp n o e f=>by
  subst e;exact Yaq p f
 have n1:g1.objs.size=s.heap.objs.size+1:=by rw[e1];exact Ybs _ _
 have n2:g2.objs.size=s.heap.objs.size+2:=by rw[e2,Ybs,n1]
 have n3:g3.objs.size=s.heap.objs.size+3:=by rw[e3,Ybs,n2]
 have n4:g4.objs.size=s.heap.objs.size+4:=by rw[e4,Ybs,n3]
 have p5:∀b o,g4.get? b=some o->g5.get? b=some o:=λb o x=>by rw[e5];exact Yab _ x
 have p4:∀b o,g3.get? b=some o->g5.get? b=some o:=λb o x=>p5 b o (by rw[e4];exact Yab _ x)
 have p3:∀b o,g2.get? b=some o->g5.get? b=some o:=λb o x=>p4 b o (by rw[e3];exact Yab _ x)
 have p2:∀b o,g1.get? b=some o->g5.get? b=some o:=λb o x=>p3 b o (by rw[e2];exact Yab _ x)
 have w5:=at2 g4 _ ⟨.type "zip",none,.fields #[.none,.bool false,.bool false,.ref g2.objs.size,.ref g3.objs.size],#[]⟩ n4 rfl;rw[<- e5,n2,n3]at w5;have w3:=at2 g2 _ { cls:=.type "tuple",data:=.seq #[.ref s.heap.objs.size,.ref g1.objs.size] } n2 rfl;rw[<- e3,n1]at w3;have w4:=at2 g3 _ { cls:=.type "tuple",data:=.seq #[.none,.none] } n3 rfl;rw[<- e4]at w4;have w2:=at2 g1 _ ⟨.type "tuple_iterator",none,.fields #[.ref l2,.int 0 0],#[]⟩ n1 rfl;rw[<- e2]at w2;have w1:=at2 s.heap _ ⟨.type "tuple_iterator",none,.fields #[.ref l1,.int 0 0],#[]⟩ rfl rfl;rw[<- e1]at w1;rw[n4];exact⟨⟨_,w5,rfl⟩,h g5 ⟨w5,p4 _ _ w3,⟨_,_,p5 _ _ w4⟩,⟨_,p2 _ _ w1,rfl,rfl⟩,⟨_,p3 _ _ w2,rfl,rfl⟩⟩ λb o x=>p2 b o (by rw[e1];exact Yab _ x)⟩
end
section
variable {X:Cx}{pins:List (Addr×Obj)}{σ:St}{H:Hp}{s:Shared}{h':Heap}
theorem jge {t':Nat}{ch:List Addr}(I:Inv X pins σ H s)(k:∀b o,b∉ch->s.heap.get? b=some o->h'.get? b=some o)(f:∀b∈ch,FpOk X pins H b):Inv X pins σ H { s with heap:=h',toks:=t' }:=by
 have nf:∀b u,H b=some u->b∉ch:=λb u q z=>by rw[(f b z).1]at q;cases q
 refine I.step (g':=s.gens) (d':=s.drawn) (ch:=ch) (λb hb=>let ⟨_,f1,_,f3,f4,f5⟩:=f b hb;⟨f3,f1,f4,f5⟩) (λb o _ _ hc q _=>k b o hc q) (λb o _ _ hc q _=>⟨o.slots,k b o hc q⟩) (λ_ _ _ _ n=>n)
  (λb o hc q=>⟨o,k b o hc q⟩) (λ_ _ q=>q) (λ_ _ _ q=>q) (λb ps q=>⟨#[],by rw[q];simp⟩) (λm hm=>?_) (λb u q=>?_) I.bare
 ·obtain⟨o,es,ep,ho,r⟩:=hm;exact⟨o,es,ep,k _ o (λz=>(f _ z).2.1 rfl) ho,r⟩
 ·refine(I.hok b u q).stay (λc v hc y=>k c v ?_ y) (λ_ y=>y) λ_ _ y=>y;rcases hc with z|z
  ·rw[z];exact nf b u q
  ·exact nf c _ z
noncomputable def Itz (a b:Addr):It:=
 ⟨λi H=>∃xs ys x y,H a=some (.tup xs)/\H b=some (.tup ys)/\xs[i]?=some x/\ys[i]?=some y,λi H z H'=>∃xs ys x y p,H a=some (.tup xs)/\H b=some (.tup ys)/\xs[i]?=some x/\ys[i]?=some y/\z=.ref p/\H p=none/\H'=upd H p (.tup [x,y]),
  λi H=>∃xs ys,H a=some (.tup xs)/\H b=some (.tup ys)/\(xs[i]?=none\/ys[i]?=none)⟩
theorem jhw {P:Program}{w:World}{K:Yac}{elts:List Expr}{x1}{pos:Pos}{n a b:Nat}(ha:a<n)(hb:b<n) :
  Turn P w K (.Tuple elts x1 pos) (Itz a b) [n+4,n,n+1,n+2,n+3] (n+4) (λi h=>Zs h n a b i .none) where
 mem:=by simp
 obj:=λi h st c hc=>by
  obtain⟨z,gi,⟨p,q,go⟩,⟨u1,e1,_,d1⟩,⟨u2,e2,_,d2⟩⟩:=st;simp only[YaL,Yay,or_false]at hc;rcases hc with rfl|rfl|rfl|rfl|rfl
  ·exact⟨_,z,λv z=>nomatch z⟩
  ·exact⟨u1,e1,λv z=>by rw[d1]at z;cases z⟩
  ·exact⟨u2,e2,λv z=>by rw[d2]at z;cases z⟩
  ·exact⟨_,gi,λv z=>nomatch z⟩
  ·exact⟨_,go,λv z=>nomatch z⟩
 keep:=λi h h' st k=>by
  obtain⟨z,gi,⟨p,q,go⟩,⟨u1,e1,r1⟩,⟨u2,e2,r2⟩⟩:=st;exact⟨k _ (by simp) _ z,k _ (by simp) _ gi,⟨p,q,k _ (by simp) _ go⟩,⟨u1,k _ (by simp) _ e1,r1⟩,⟨u2,k _ (by simp) _ e2,r2⟩⟩
 item:=by
  intro X hP hw hK hc i pins s σ H E I hf st hg;subst hP hw hK;obtain⟨xs,ys,x,y,ga,gb,hx,hy⟩:=hg;obtain⟨is,rv,pa,_⟩:=I.tuple (SqT.of ga);obtain⟨js,rw',pb,_⟩:=I.tuple (SqT.of gb);obtain⟨u,hu,ru⟩:=rv.get hx;obtain⟨v,hv,rv'⟩:=rw'.get hy;refine jf8 (A:=X.A) (I.ok.hd hc) st ha hb pa pb (λx' y' h' ex ey st' tp kp=>?_) λhn=>?_
  ·have ex:x'=u:=by
    have:is.toArray[i]?=some u:=by simpa using hu
    exact Yar (ex.symm.trans this)
   have ey:y'=v:=by
    have:js.toArray[i]?=some v:=by simpa using hv
    exact Yar (ey.symm.trans this)
   subst ex ey;obtain⟨z,gi,go,i1,i2⟩:=st';refine⟨_,rfl,wpAny_letOwnedTupleGo_zip z λh2 z2 sb=>?_⟩;have hfr:H s.heap.objs.size=none:=I.hok.fresh (Yag _);have old:∀c∈[n+4,n,n+1,n+2,n+3],c≠s.heap.objs.size:=λc hc=>by
    obtain⟨z,gi,⟨p,q,go⟩,⟨u1,e1,_⟩,⟨u2,e2,_⟩⟩:=st;simp only[YaL,Yay,or_false]at hc;rcases hc with rfl|rfl|rfl|rfl|rfl
    ·exact Yav (Yao z)
    ·exact Yav (Yao e1)
    ·exact Yav (Yao e2)
    ·exact Yav (Yao gi)
    ·exact Yav (Yao go)
   have I1:Inv X pins σ (upd H s.heap.objs.size (.tup [x,y])) { s with heap:=s.heap.push { cls:=.type "tuple",data:=.seq #[x',y'] },toks:=s.toks }:=by
    refine I.laid (λb o y=>Yab _ y) (Yag _) ⟨by show 2<=Yai;decide,[x',y'],.cons ru (.cons rv' .nil),TupD.new _ _⟩
   have fp:∀c∈[n+4,n,n+1,n+2,n+3],FpOk X pins (upd H s.heap.objs.size (.tup [x,y])) c:=λc hc=>⟨by rw[jad (old c hc)];exact(hf c hc).1,(hf c hc).2⟩
   have kk:∀c o,c∉[n+4,n,n+1,n+2,n+3]->(s.heap.push { cls:=.type "tuple",data:=.seq #[x',y'] }).get? c=some o->h2.get? c=some o:=λc o hc e=>by
    simp only[YaL,Yay,or_false,not_or]at hc;refine(sb.2 c hc.1).trans ?_;by_cases hs:c=s.heap.objs.size
    ·subst hs;rw[Yaq _ rfl]at e;exact tp.trans e
    ·rw[YcF _ _ _ hs]at e;exact kp c o hc.2.1 hc.2.2.1 hc.2.2.2.2 hc.1 e
   have mv:∀{c t j:Nat},c≠n+4->h'.IsTupleIter c t j->h2.IsTupleIter c t j:=λc4 ⟨u,e,r⟩=>⟨u,(sb.2 _ c4).trans e,r⟩;obtain⟨p,q,go⟩:=go;exact⟨.ref s.heap.objs.size,_,jge (s:={ s with heap:=s.heap.push { cls:=.type "tuple",data:=.seq #[x',y'] },toks:=s.toks }) (t':=s.toks) I1 kk fp,rfl,⟨xs,ys,x,y,_,ga,gb,hx,hy,rfl,hfr,rfl⟩,
    ⟨z2,(sb.2 (n+2) (show n+2≠n+4 by omega)).trans gi,⟨p,q,(sb.2 (n+3) (show n+3≠n+4 by omega)).trans go⟩,mv (show n≠n+4 by omega) i1,mv (show n+1≠n+4 by omega) i2⟩,λc hc=>(fp c hc).1⟩
  ·refine absurd hn ?_;rw[YeF,YeF,hu,hv];simp
 done:=by
  intro X hP hw hK hc i pins s σ H E I hf st hg;subst hP hw hK;obtain⟨xs,ys,ga,gb,hn⟩:=hg;obtain⟨is,rv,pa,_⟩:=I.tuple (SqT.of ga);obtain⟨js,rw',pb,_⟩:=I.tuple (SqT.of gb);have l1:=rv.length;have l2:=rw'.length;refine jf8 (A:=X.A) (I.ok.hd hc) st ha hb pa pb (λx' y' h' ex ey _ _ _=>?_) λ_ h' kp=>⟨rfl,jge (t':=s.toks) (ch:=[n+4,n,n+1,n+2,n+3]) I (λc o hc e=>?_) hf⟩
  ·have e1:=(Array.getElem?_eq_some_iff.mp ex).1;have e2:=(Array.getElem?_eq_some_iff.mp ey).1;simp only[Yah]at e1 e2;rcases hn with z|z
   ·have:=List.getElem?_eq_none_iff.mp z;omega
   ·have:=List.getElem?_eq_none_iff.mp z;omega
  ·simp only[YaL,Yay,or_false,not_or]at hc;exact kp c o hc.2.1 hc.2.2.1 hc.2.2.2.2 hc.1 e
 self:=λA i s Q E st q=>wpAny_pyIter_zip st.z q
def iZip (ta:TA):TI:=λσ H R=>ta σ H λvs H1=>∃a b xs ys,vs=[.ref a,.ref b]/\H1 a=some (.tup xs)/\H1 b=some (.tup ys)/\R (Itz a b) H1
theorem jlB {l m:Expr}{ta:TA}{p pos tpos:Pos}{elts:List Expr}{x1}(hg:Gl X "zip")(hm:X.mg "zip" = none)(ha:PA X [l,m] ta)(hs:YaA [l,m] X.env=(false,eval l X.env)::YaA [m] X.env:=by rfl)(hp:(backTo pos (YaA [m] X.env)).any (·.1)=false:=by rfl) :
  PI X (.Tuple elts x1 tpos) (.Call (.Name "zip" p) [l,m] [] pos) (iZip ta):=by
 intro pins s σ H R I h;refine Call_ (jdA I hg hm boot_zip (YbB (thn (ha pos pins s σ H _ I h) λus s1 ⟨vs,H1,I1,r1,q1⟩=>?_) hs hp));obtain⟨a,b,xs,ys,e,ga,gb,q⟩:=q1;subst e;obtain⟨u,us,rfl,rx,r2⟩:∃u us',us=u::us'/\RelV (.ref a) u/\Vals [.ref b] us':=by cases r1 with|cons h t=>exact⟨_,_,rfl,h,t⟩
 obtain⟨v,rfl,ry⟩:=jb9 r2;cases rx;cases ry;obtain⟨is,rv,t1,_⟩:=I1.tuple (SqT.of ga);obtain⟨js,rw',t2,_⟩:=I1.tuple (SqT.of gb);have la:a<s1.heap.objs.size:=by obtain⟨o,ho,_⟩:=t1;exact Yao ho
 have lb:b<s1.heap.objs.size:=by obtain⟨o,ho,_⟩:=t2;exact Yao ho
 refine jeE t1 t2 λh' st hk=>wpAny_pyIter_zip st.z ⟨_,_,_,_,H1,rfl,I1.kept (t':=s1.toks) hk,jhw la lb,st,λc hc=>?_,q⟩;have:s1.heap.objs.size<=c:=by
  simp only[YaL,Yay,or_false]at hc;rcases hc with rfl|rfl|rfl|rfl|rfl
  ·exact Nat.le_add_right _ _
  ·exact Yag _
  all_goals exact Nat.le_add_right _ _
 exact I1.fpOk this (I1.hok.fresh this)
end
end L2

namespace Z
open PySem L2
inductive U where
 |non|bl (b:Bool)|int (i:Int)|str (x:Str)|tup (xs:List U)|loc (a:Addr)|fn (n:Nat)|ty (n:String)
 |exc (c:Nat) (fs:List U)|own (n:Nat)|clo (n:Nat) (cs:List U)
inductive MO where
 |lst (xs:List U)|fro (xs:List U)|dK (kvs:List (Key×U))|dT (kvs:List (List Key×U))|frd (o:Obj) (kvs:List (List Key×U))|frk (o:Obj) (kvs:List (Key×U))
abbrev Gp:=Addr->Option MO
noncomputable def gup (G:Gp)(a:Addr)(o:MO):Gp:=λb=>if b=a then some o else G b
structure New (G:Gp)(p:Addr)(o:MO)(G':Gp):Prop where
 no:G p=none
 eq:G'=gup G p o
structure Put (G:Gp)(a:Addr)(o:MO)(G':Gp):Prop where
 eq:G'=gup G a o
structure XV where
 c:Nat
 fs:List U
abbrev Sg:=List (Option U)
abbrev K1:=U->Gp->Prop
abbrev KX:=XV->Gp->Prop
def newO (G:Gp)(o:MO)(Q:K1):Prop:=∀p G',New G p o G'->Q (.loc p) G'
def putO (G:Gp)(a:Addr)(o:MO)(Q:Gp->Prop):Prop:=∀G',Put G a o G'->Q G'
theorem newO.at {G:Gp}{o:MO}{Q:K1}(h:newO G o Q):∀p,G p=none->Q (.loc p) (gup G p o):=λp hp=>h p _ ⟨hp,rfl⟩
theorem putO.at {G:Gp}{a:Addr}{o:MO}{Q:Gp->Prop}(h:putO G a o Q):Q (gup G a o):=h _ ⟨rfl⟩
structure En where
 nx:Sg->Gp->Prop
 rt:K1
 ex:XV->Sg->Gp->Prop
noncomputable def lsG (G:Gp)(a:Addr):Option (List U):=match G a with
 |some (.lst xs)=>some xs
 |some (.fro xs)=>some xs
 |_=>none
noncomputable def kU:U->Option Key
 |.int i=>some (.inl i)
 |.str x=>some (.inr x)
 |_=>none
noncomputable def kUs:List U->Option (List Key)
 |[]=>some []
 |u::r=>match kU u,kUs r with
  |some k,some ks=>some (k::ks)
  |_,_=>none
noncomputable def Ku:Key->U
 |.inl i=>.int i
 |.inr x=>.str x
section
variable {κ α:Type}[DecidableEq κ]
noncomputable def dGet (kvs:List (κ×α))(k:κ):Option α:=(kvs.find? λkv=>decide (kv.1=k)).map (·.2)
noncomputable def dPut (kvs:List (κ×α))(k:κ)(v:α):List (κ×α):=
 if (kvs.any λkv=>decide (kv.1=k))=true then kvs.map (λkv=>if kv.1=k then (kv.1,v) else kv) else kvs++[(k,v)]
noncomputable def jdh (more:List (κ×α)):List (κ×α):=more.foldl (λacc kv=>dPut acc kv.1 kv.2) []
end
noncomputable def cut {α:Type}(xs:List α)(lo hi:Option Int):List α:=(xs.drop (HT.sIx xs.length 0 lo)).take (HT.sIx xs.length xs.length hi-HT.sIx xs.length 0 lo)
mutual
inductive DU (G:Gp):U->PyData->Prop
 |non:DU G .non .none
 |bl (b:Bool):DU G (.bl b) (.bool b)
 |int (i:Int):DU G (.int i) (.int i)
 |str (x:Str):DU G (.str x) (.str x)
 |tup {us:List U} {ds:List PyData}:DUs G us ds->DU G (.tup us) (.tuple ds)
 |lst {a:Addr} {us:List U} {ds:List PyData}:lsG G a=some us->DUs G us ds->DU G (.loc a) (.list ds)
 |dic {a:Addr}:G a=some (.dK [])->DU G (.loc a) (.dict [])
inductive DUs (G:Gp):List U->List PyData->Prop
 |nil:DUs G [] []
 |cons {u:U} {d:PyData} {us:List U} {ds:List PyData}:DU G u d->DUs G us ds->DUs G (u::us) (d::ds)
end
def addU:U->U->Gp->K1->Prop
 |.int i,.int j,G,Q=>Q (.int (i+j)) G
 |.str x,.str y,G,Q=>x.length+y.length<=Yai/\Q (.str (x++y)) G
 |.tup xs,.tup ys,G,Q=>xs.length+ys.length<=Yai/\Q (.tup (xs++ys)) G
 |.loc a,.loc b,G,Q=>∃xs ys,G a=some (.lst xs)/\G b=some (.lst ys)/\xs.length+ys.length<=Yai/\newO G (.lst (xs++ys)) Q
 |.bl b,.int j,G,Q=>Q (.int ((if b=true then (1:Int) else 0)+j)) G
 |_,_,_,_=>False
def subU:U->U->Gp->K1->Prop
 |.int i,.int j,G,Q=>Q (.int (i-j)) G
 |.bl b,.int j,G,Q=>Q (.int ((if b=true then (1:Int) else 0)-j)) G
 |.int i,.bl b,G,Q=>Q (.int (i-if b=true then (1:Int) else 0)) G
 |_,_,_,_=>False
def mulU:U->U->Gp->K1->Prop
 |.int i,.int j,G,Q=>CMul i j/\Q (.int (i*j)) G
 |.loc a,.int k,G,Q=>∃xs,G a=some (.lst xs)/\-(2 ^ 63)<=k/\k<2 ^ 63/\xs.length*k.toNat<=Yai/\newO G (.lst (Yaf k.toNat xs).flatten) Q
 |.tup xs,.int k,G,Q=>xs≠[]/\0<=k/\k<2 ^ 62/\xs.length*k.toNat<=Yai/\Q (.tup (Yaf k.toNat xs).flatten) G
 |.str z,.int k,G,Q=>0<=k/\k<1000/\z.length<=1000/\Q (.str (repS z k.toNat)) G
 |_,_,_,_=>False
def jkD:U->U->Gp->K1->Prop
 |.int i,.int j,G,Q=>0<j/\j<1073741824/\Q (.int (i/j)) G
 |_,_,_,_=>False
def modU:U->U->Gp->K1->Prop
 |.int i,.int j,G,Q=>0<j/\Q (.int (i%j)) G
 |_,_,_,_=>False
def powU:U->U->Gp->K1->Prop
 |.int i,.int j,G,Q=>CPow i j/\Q (.int (i ^ j.toNat)) G
 |_,_,_,_=>False
def binU:YbP->U->U->Gp->K1->Prop
 |.Add=>addU
 |.Sub=>subU
 |.Mult=>mulU
 |.FloorDiv=>jkD
 |.Mod=>modU
 |.Pow=>powU
 |_=>λ_ _ _ _=>False
def jg1:YbP->U->U->Gp->K1->Prop
 |.Add,.int i,.int j,G,Q=>Q (.int (i+j)) G
 |.Add,.str x,.str y,G,Q=>x.length+y.length<=Yai/\Q (.str (x++y)) G
 |.Sub,.int i,.int j,G,Q=>Q (.int (i-j)) G
 |.Mult,.int i,.int j,G,Q=>CMul i j/\Q (.int (i*j)) G
 |_,_,_,_,_=>False
def negU:U->Gp->K1->Prop
 |.int i,G,Q=>Q (.int (-i)) G
 |_,_,_=>False
def Small (d:PyData):Prop:=d.canLay0=true/\d.depth<=100
noncomputable def eqU:U->U->Gp->(Bool->Prop)->Prop
 |.non,.non,_,k=>k true
 |.non,.bl _,_,k=>k false
 |.non,.int _,_,k=>k false
 |.non,.str _,_,k=>k false
 |.bl _,.non,_,k=>k false
 |.bl a,.bl b,_,k=>k (decide (a=b))
 |.bl _,.str _,_,k=>k false
 |.int _,.non,_,k=>k false
 |.int i,.int j,_,k=>k (decide (i=j))
 |.int _,.str _,_,k=>k false
 |.str _,.non,_,k=>k false
 |.str _,.bl _,_,k=>k false
 |.str _,.int _,_,k=>k false
 |.str x,.str y,_,k=>k (decide (x=y))
 |x,y,G,k=>∃d e,DU G x d/\DU G y e/\Small d/\Small e/\k (YaG d e)
def eqQ:U->U->Gp->(Bool->Prop)->Prop
 |.loc a,.str y,G,k=>(∃kvs,G a=some (.dK kvs)/\k false)\/(∃xs,G a=some (.lst xs)/\k false)\/eqU (.loc a) (.str y) G k
 |.tup xs,.tup [],_,k=>k xs.isEmpty
 |.tup _,.str _,_,k=>k false
 |x,y,G,k=>eqU x y G k
def isU:U->U->(Bool->Prop)->Prop
 |.non,.non,k=>k true
 |.bl a,.bl b,k=>k (decide (a=b))
 |.non,.bl _,k|.non,.int _,k|.non,.str _,k|.non,.tup _,k|.non,.loc _,k=>k false
 |.bl _,.non,k|.int _,.non,k|.str _,.non,k|.tup _,.non,k|.loc _,.non,k=>k false
 |.int _,.bl _,k|.str _,.bl _,k|.tup _,.bl _,k|.loc _,.bl _,k=>k false
 |_,_,_=>False
noncomputable def flat:U->Bool
 |.non|.bl _|.int _|.str _=>true
 |_=>false
noncomputable def eqF:U->U->Bool
 |.non,.non=>true
 |.bl a,.bl b=>a==b
 |.bl a,.int b=>(if a then 1 else 0)==b
 |.int a,.bl b=>a==(if b then 1 else 0)
 |.int a,.int b=>a==b
 |.str a,.str b=>a==b
 |_,_=>false
def inU:U->U->Gp->(Bool->Prop)->Prop
 |.str x,.str y,_,k=>k (!(YbU y x 0 y.length 1).isEmpty)
 |x,.tup ys,_,k=>flat x=true/\ys.all flat=true/\k (ys.any λy=>eqF y x)
 |x,.loc a,G,k=>match G a with
  |some (.lst ys)=>(flat x=true/\ys.all flat=true/\k (ys.any λy=>eqF y x))\/
    ∃d ds,DU G x d/\DUs G ys ds/\Small d/\(∀e∈ds,Small e)/\k (ds.any λe=>YaG e d)
  |some (.fro ys)=>flat x=true/\ys.all flat=true/\k (ys.any λy=>eqF y x)
  |some (.dK kvs)=>match kU x with
   |some y=>k (dGet kvs y).isSome
   |none=>False
  |some (.dT kvs)=>match x with
   |.tup xs=>match kUs xs with
    |some y=>k (dGet kvs y).isSome
    |none=>False
   |_=>False
  |some (.frk _ kvs)=>match kU x with
   |some y=>k (dGet kvs y).isSome
   |none=>False
  |_=>False
 |_,_,_,_=>False
def ordU:CmpOp->U->U->(Bool->Prop)->Prop
 |.Lt,.int i,.int j,k=>k (decide (i<j))
 |.LtE,.int i,.int j,k=>k (decide (i<=j))
 |.LtE,.str x,.str y,k=>k (!decide (y.cps.toList<x.cps.toList))
 |.Gt,.int i,.int j,k=>k (decide (j<i))
 |_,_,_,_=>False
def cmpU:CmpOp->U->U->Gp->(Bool->Prop)->Prop
 |.Eq,x,y,G,k=>eqQ x y G k
 |.NotEq,x,y,G,k=>eqU x y G λb=>k (!b)
 |.Is,x,y,_,k=>isU x y k
 |.IsNot,_,_,_,_=>False
 |.In,x,y,G,k=>inU x y G k
 |.NotIn,x,y,G,k=>inU x y G λb=>k (!b)
 |o,x,y,_,k=>ordU o x y k
def truU:U->Gp->(Bool->Prop)->Prop
 |.non,_,k=>k false
 |.bl b,_,k=>k b
 |.int i,_,k=>k (i != 0)
 |.str x,_,k=>x.length<=Yai/\k ((x.length:Int) != 0)
 |.tup xs,_,k=>k (!xs.isEmpty)
 |.loc a,G,k=>match G a with
  |some (.lst xs)=>k (!xs.isEmpty)
  |some (.fro xs)=>k (!xs.isEmpty)
  |some (.dK kvs)=>k (!kvs.isEmpty)
  |_=>False
 |_,_,_=>False
def ixU:U->U->Gp->K1->Prop
 |.tup xs,.int i,G,Q=>match atI xs i with
  |some u=>Q u G
  |none=>False
 |.str x,.int i,G,Q=>x.length<=Yai/\match atI x.cps.toList i with
  |some c=>Q (.str ⟨#[c]⟩) G
  |none=>False
 |.loc a,y,G,Q=>match G a with
  |some (.lst xs)=>(match y with|.int i=>(match atI xs i with|some u=>Q u G|none=>False)|_=>False)
  |some (.fro xs)=>(match y with|.int i=>(match atI xs i with|some u=>Q u G|none=>False)|_=>False)
  |some (.dK kvs)=>(match kU y with|some k=>(match dGet kvs k with|some u=>Q u G|none=>False)|none=>False)
  |some (.dT kvs)=>(match y with|.tup ys=>(match kUs ys with|some k=>(match dGet kvs k with|some u=>Q u G|none=>False)|none=>False)|_=>False)
  |some (.frk _ kvs)=>(match kU y with|some k=>(match dGet kvs k with|some u=>Q u G|none=>False)|none=>False)
  |_=>False
 |_,_,_,_=>False
def slU:U->Option Int->Option Int->Gp->K1->Prop
 |.tup xs,lo,hi,G,Q=>Q (.tup (cut xs lo hi)) G
 |.str x,lo,hi,G,Q=>x.length<=Yai/\Q (.str (YeK x lo hi)) G
 |.loc a,lo,hi,G,Q=>match lsG G a with
  |some xs=>newO G (.lst (cut xs lo hi)) Q
  |none=>False
 |_,_,_,_,_=>False
def revU:U->U->Gp->K1->Prop
 |.tup xs,.int i,G,Q=>i=-1/\Q (.tup xs.reverse) G
 |.loc a,.int i,G,Q=>match lsG G a with
  |some xs=>(i=1\/i=-1)/\newO G (.lst (if i=1 then xs else xs.reverse)) Q
  |none=>False
 |_,_,_,_=>False
def joy:U->U->Gp->K1->Prop
 |.loc a,.int i,G,Q=>(match G a with
  |some (.lst xs)=>0<=i/\(match xs[i.toNat]? with|some u=>Q u G|none=>False)
  |_=>False)
 |_,_,_,_=>False
def setU:U->U->U->Gp->(Gp->Prop)->Prop
 |.loc a,y,v,G,Q=>match G a with
  |some (.lst xs)=>(match y with|.int i=>(match ixN xs.length i with|some j=>putO G a (.lst (xs.set j v)) Q|none=>False)|_=>False)
  |some (.dK kvs)=>(match kU y with|some k=>kvs.length<Yai/\putO G a (.dK (dPut kvs k v)) Q|none=>False)
  |some (.dT kvs)=>(match y with|.tup ys=>(match kUs ys with|some k=>kvs.length<Yai/\putO G a (.dT (dPut kvs k v)) Q|none=>False)|_=>False)
  |_=>False
 |_,_,_,_,_=>False
inductive Blt|len|repr|min|max|sum|all|any|sorted|int|str|isi
 deriving DecidableEq
inductive Mth|append|extend|insert|pop|reverse|index|join|get|split|setd
 deriving DecidableEq
noncomputable def jev:List U->Option (List Int)
 |[]=>some []
 |.int i::r=>(match jev r with|some l=>some (i::l)|none=>none)
 |_=>none
noncomputable def jnX:List U->Option (List Str)
 |[]=>some []
 |.str x::r=>(match jnX r with|some l=>some (x::l)|none=>none)
 |_=>none
noncomputable def tyN:U->Gp->Option String
 |.non,_=>some "NoneType"
 |.bl _,_=>some "bool"
 |.int _,_=>some "int"
 |.str _,_=>some "str"
 |.tup _,_=>some "tuple"
 |.loc a,G=>match G a with
  |some (.lst _)=>some "list"
  |some (.dK _)=>some "dict"
  |some (.dT _)=>some "dict"
  |_=>none
 |_,_=>none
noncomputable def isiU (x:U)(G:Gp)(t:String):Option Bool:=match tyN x G with
 |some n=>if t∈["bool", "int", "str", "list", "tuple", "dict"] then some (n==t||(n == "bool" && t == "int")) else none
 |none=>none
def lenU:List U->Gp->K1->Prop
 |[.tup xs],G,Q=>Q (.int xs.length) G
 |[.str x],G,Q=>x.length<=Yai/\Q (.int x.length) G
 |[.loc a],G,Q=>(match G a with
  |some (.lst xs)=>Q (.int xs.length) G
  |some (.fro xs)=>Q (.int xs.length) G
  |some (.dK kvs)=>Q (.int kvs.length) G
  |_=>False)
 |_,_,_=>False
def jeT:List U->Gp->K1->Prop
 |[u],G,Q=>∃d,DU G u d/\Fits 16000000 60 d/\Q (.str d.shown) G
 |_,_,_=>False
def minU:List U->Gp->K1->Prop
 |[.int i,.int j],G,Q=>Q (.int (if j<i then j else i)) G
 |_,_,_=>False
def jmg (xs:List U)(G:Gp)(Q:K1):Prop:=match jev xs with
 |some ns=>ns≠[]/\∀z∈ns,(∀y∈ns,y<=z)->Q (.int z) G
 |none=>False
def maxU:List U->Gp->K1->Prop
 |[.int i,.int j],G,Q=>Q (.int (if j>i then j else i)) G
 |[.loc a],G,Q=>(match G a with
  |some (.lst xs)=>jmg xs G Q
  |_=>False)
 |[.tup xs],G,Q=>jmg xs G Q
 |_,_,_=>False
def sumU:List U->Gp->K1->Prop
 |[.loc a],G,Q=>(match G a with
  |some (.lst xs)=>(match jev xs with|some ns=>Q (.int ns.sum) G|none=>False)
  |_=>False)
 |_,_,_=>False
def intU:List U->Gp->K1->Prop
 |[.int i],G,Q=>Q (.int i) G
 |[.bl b],G,Q=>Q (.int (if b then 1 else 0)) G
 |[.str z],G,Q=>∃n,PySem.intText? z=some n/\z.length<=640/\Q (.int n) G
 |_,_,_=>False
def je4:List U->Gp->K1->Prop
 |[x,.ty t],G,Q=>(match isiU x G t with|some b=>Q (.bl b) G|none=>False)
 |_,_,_=>False
def jbl:List U->Gp->K1->Prop
 |[.loc a],G,Q=>(match G a with
  |some (.lst us)=>∃ks:List (List Int),ks.Nodup/\us.length<jce/\us.length=ks.length/\((∃ns:List Int,us=ns.map .int/\ks=ns.map λn=>[n])\/(∃as:List Addr,us=as.map .loc/\∀(i:Nat) a k,as[i]?=some a->ks[i]?=some k->G a=some (.lst (k.map .int)))\/us=ks.map (λk=>.tup (k.map .int))/\∀k∈ks,k≠[])/\
    ∀π:List Nat,π.Perm (YaW us.length)->(∀i,i+1<us.length->HT.lexLt (ks.getD (π.getD i 0) []) (ks.getD (π.getD (i+1) 0) [])=true)->newO G (.lst (π.map λi=>us.getD i .non)) Q
  |_=>False)
 |_,_,_=>False
def mkDU:U->Gp->K1->Prop
 |.loc a,G,Q=>(match G a with
  |some (.dK kvs)=>∃ns:List Int,kvs.map (·.1)=ns.map (λz=>(Sum.inl z:Key))/\newO G (.lst (ns.map .int)) Q
  |_=>False)
 |_,_,_=>False
def jnY:U->Gp->K1->Prop
 |.tup us,G,Q=>∃ns:List Int,us=ns.map .int/\ns.length<64/\∀ms:List Int,ms.Pairwise (·< ·)->(∀z,z∈ms↔z∈ns)->newO G (.lst (ms.map .int)) Q
 |_,_,_=>False
def jov:U->Gp->K1->Prop
 |.loc a,G,Q=>(match G a with
  |some (.lst us)=>∃ks:List (List Int),(us=ks.map (λk=>U.tup (k.map .int))\/∃ns:List Int,us=ns.map .int/\ks=ns.map λn=>[n])/\(us=[]->Q .non G)/\∀u,us[jmX ks]?=some u->Q u G
  |_=>False)
 |_,_,_=>False
def jow:U->Gp->K1->Prop
 |.loc a,G,Q=>(match G a with
  |some (.lst us)=>∃ns:List Int,us=ns.map .int/\(ns=[]->Q (.int 0) G)/\∀z∈ns,(∀y∈ns,y<=z)->Q (.int z) G
  |_=>False)
 |_,_,_=>False
def bltU:Blt->List U->Gp->K1->Prop
 |.len=>lenU
 |.repr=>jeT
 |.min=>minU
 |.max=>λ_ _ _=>False
 |.sum=>sumU
 |.all=>λ_ _ _=>False
 |.any=>λ_ _ _=>False
 |.sorted=>jbl
 |.int=>intU
 |.str=>λ_ _ _=>False
 |.isi=>je4
def jff:U->List U->Gp->K1->Prop
 |.loc a,[v],G,Q=>(match G a with
  |some (.lst xs)=>xs.length<Yai/\putO G a (.lst (xs++[v])) (Q .non)
  |_=>False)
 |_,_,_,_=>False
def je8:U->List U->Gp->K1->Prop
 |.loc a,[.loc b],G,Q=>(match G a,G b with
  |some (.lst xs),some (.lst ys)=>xs.length+ys.length<=Yai/\putO G a (.lst (xs++ys)) (Q .non)
  |_,_=>False)
 |_,_,_,_=>False
def je6:U->List U->Gp->K1->Prop
 |.loc a,[.int i,v],G,Q=>(match G a with
  |some (.lst xs)=>0<=i/\i<=xs.length/\xs.length<Yai/\putO G a (.lst (xs.take i.toNat++v::xs.drop i.toNat)) (Q .non)
  |_=>False)
 |_,_,_,_=>False
def popU:U->List U->Gp->K1->Prop
 |.loc a,[],G,Q=>(match G a with
  |some (.lst xs)=>(match xs[xs.length-1]? with|some v=>putO G a (.lst xs.dropLast) (Q v)|none=>False)
  |_=>False)
 |.loc a,[.int i],G,Q=>(match G a with
  |some (.lst xs)=>-(2 ^ 63)<=i/\i<2 ^ 63/\(match YfF i xs.length with
   |some k=>(match xs[k]? with|some v=>putO G a (.lst (xs.eraseIdx k)) (Q v)|none=>False)
   |none=>False)
  |_=>False)
 |_,_,_,_=>False
def jaO:Mth->U->List U->Gp->K1->Prop
 |.append=>jff
 |.extend=>je8
 |.insert=>je6
 |.pop=>popU
 |.reverse=>λ_ _ _ _=>False
 |.index=>λ_ _ _ _=>False
 |.join=>λ_ _ _ _=>False
 |.get=>λ_ _ _ _=>False
 |.split=>λ_ _ _ _=>False
 |.setd=>λ_ _ _ _=>False
noncomputable def mtU:Mth->U->Gp->Option (String×String)
 |.append,x,G=>(match x with|.loc a=>(match G a with|some (.lst _)=>some ("list", "list.append")|_=>none)|_=>none)
 |.extend,x,G=>(match x with|.loc a=>(match G a with|some (.lst _)=>some ("list", "list.extend")|_=>none)|_=>none)
 |.insert,x,G=>(match x with|.loc a=>(match G a with|some (.lst _)=>some ("list", "list.insert")|_=>none)|_=>none)
 |.pop,x,G=>(match x with|.loc a=>(match G a with|some (.lst _)=>some ("list", "list.pop")|_=>none)|_=>none)
 |.reverse,_,_=>none
 |.index,_,_=>none
 |.join,_,_=>none
 |.get,_,_=>none
 |.split,_,_=>none
 |.setd,_,_=>none
noncomputable def clsA:List (Str×List Str):=[("PlanError",[]),("NoPaper",["word", "at"]),("TooMany",["word"]),("NoRing",["word"]),("NoText",["row", "word"]),("NoRow",["row"])]
noncomputable def clsN (c:Nat):Str:=(clsA.getD c ("",[])).1
noncomputable def clsF (c:Nat):List Str:=(clsA.getD c ("",[])).2
inductive HL where
 |is1 (c:Nat)|isi (cs:List Nat)|isiV|v (i:Nat)
inductive HA where
 |str (x:Str)|att (f:Str)
inductive HV where
 |cond (k:Bool) (a:Bool×HL) (as:List (Bool×HL))|one (a:HA)|bl (b:Bool)|tup (as:List HA)|lst (as:List HA)
inductive HS where
 |asg (i:Nat) (e:HV)|ifa (k:Bool) (a:Bool×HL) (as:List (Bool×HL)) (i:Nat) (e:HV)
section
variable (x:XV)
noncomputable def litH (ς:Sg):HL->Option Bool
 |.is1 c=>some (decide (x.c=c))
 |.isi cs=>some (cs.contains x.c)
 |.isiV=>some true
 |.v i=>match ς[i]? with
  |some (some (.bl b))=>some b
  |_=>none
noncomputable def lit1 (ς:Sg)(p:Bool×HL):Option Bool:=match litH x ς p.2 with
 |some b=>some (if p.1=true then !b else b)
 |none=>none
noncomputable def jkI (ς:Sg)(k:Bool):Bool×HL->List (Bool×HL)->Option Bool
 |a,[]=>lit1 x ς a
 |a,b::r=>match lit1 x ς a with
  |some t=>if t=k then jkI ς k b r else some t
  |none=>none
noncomputable def atH:HA->Option U
 |.str y=>some (.str y)
 |.att f=>((clsF x.c).zip x.fs).lookup f
noncomputable def atsH:List HA->Option (List U)
 |[]=>some []
 |a::r=>match atH x a,atsH r with
  |some u,some us=>some (u::us)
  |_,_=>none
def hvH (ς:Sg):HV->Gp->K1->Prop
 |.cond k a as,G,Q=>match jkI x ς k a as with
  |some b=>Q (.bl b) G
  |none=>False
 |.one a,G,Q=>match atH x a with
  |some u=>Q u G
  |none=>False
 |.bl b,G,Q=>Q (.bl b) G
 |.tup as,G,Q=>match atsH x as with
  |some us=>Q (.tup us) G
  |none=>False
 |.lst as,G,Q=>match atsH x as with
  |some us=>newO G (.lst us) Q
  |none=>False
def hsH:List HS->Sg->Gp->(Sg->Gp->Prop)->Prop
 |[],ς,G,k=>k ς G
 |.asg i e::r,ς,G,k=>hvH x ς e G λu G1=>hsH r (ς.set i (some u)) G1 k
 |.ifa q a as i e::r,ς,G,k=>match jkI x ς q a as with
  |some true=>hvH x ς e G λu G1=>hsH r (ς.set i (some u)) G1 k
  |some false=>hsH r ς G k
  |none=>False
end
mutual
inductive E where
 |v (i:Nat)|non|bl (b:Bool)|int (i:Int)|str (x:Str)|g (n:Nat)
 |bin (o:YbP) (a b:E)|neg (a:E)|not (a:E)|bop (k:Bool) (a:E) (es:Es)
 |cmp (o:CmpOp) (a b:E)|cmp2 (o p:CmpOp) (a b c:E)|ife (c a b:E)
 |tup (es:Es)|lst (es:Es)|dic (es:Es)|dicT
 |ix (a b:E)|sl (a:E) (lo hi:Eo)|rev (a st:E)
 |call (n:Nat) (es:Es)|app (i:Nat) (es:Es)|blt (b:Blt) (es:Es)|meth (m:Mth) (o:E) (es:Es)
 |ty (n:String)
 |lc (pick:List (Option Nat)) (t:Tg) (it:It) (ifs:Es) (e:E)|lc2 (pick:List (Option Nat)) (t:Tg) (it:It) (ifs:Es) (t2:Tg) (it2:It) (ifs2:Es) (e:E)|mkL (e:E)|mkT (e:E)|rngL (a:E)|rngT (a:E)|rngL2 (a b:E)|minD (e:E)|maxD (e:E)|mkD (e:E)|sset (e:E)|fst (es:Es)|lrp (e:E) (i:Nat) (y a b:Str) (es:Es)
inductive Eo where
 |no|so (e:E)
inductive Es where
 |nil|cons (e:E) (es:Es)
inductive Tg where
 |n (i:Nat)|t (ts:Tgs)
inductive Tgs where
 |nil|cons (t:Tg) (ts:Tgs)
inductive It where
 |e (e:E)|r1 (e:E)|r2 (a b:E)|enum (e:E)|dk (e:E)|s (e:E)|dv (e:E)|di (e:E)|zp (a b:E)
end
mutual
inductive S where
 |pass|expr (e:E)|asg (t:Tg) (e:E)|asgC (i:Nat) (e:E)|unp (ts:Tgs) (e:E)|setS (o i e:E)|par (is:List Nat) (es:Es)|aug (i:Nat) (o:YbP) (e:E)|augS (o i:E) (p:YbP) (e:E)
 |ite (c:E) (a b:Ss)|fr (t:Tg) (it:It) (b:Ss)|wh (c:E) (b:Ss)|ret (e:E)|retN
 |never|raise (c:Nat) (es:Es)|tr (b:Ss) (c:Nat) (n:Nat) (h:List HS)
inductive Ss where
 |nil|cons (s:S) (ss:Ss)
end
mutual
noncomputable def tgU:Tg->U->Sg->(Sg->Prop)->Prop
 |.n i,u,ς,k=>k (ς.set i (some u))
 |.t ts,u,ς,k=>match u with
  |.tup us=>tgsU ts us ς k
  |_=>False
noncomputable def tgsU:Tgs->List U->Sg->(Sg->Prop)->Prop
 |.nil,us,ς,k=>us=[]/\k ς
 |.cons t ts,us,ς,k=>match us with
  |[]=>False
  |u::r=>tgU t u ς λς'=>tgsU ts r ς' k
end
abbrev Cl:=Nat->List U->Gp->K1->KX->Prop
def slot (ς:Sg)(i:Nat)(k:U->Prop):Prop:=match ς[i]? with
 |some (some u)=>k u
 |_=>False
noncomputable def jbH (pick:List (Option Nat))(ς:Sg):Sg:=pick.map λo=>o.bind λj=>(ς[j]?).join
def jdn (ok:Gp->Prop)(b:U->Gp->(Option U->Gp->Prop)->Prop):List U->List U->Gp->(List U->Gp->Prop)->Prop
 |[],acc,G,k=>ok G/\k acc G
 |x::xs,acc,G,k=>ok G/\b x G λo G'=>jdn ok b xs (match o with|some u=>acc++[u]|none=>acc) G' k
def jkJ (ok:Gp->Prop)(b:U->List U->Gp->(List U->Gp->Prop)->Prop):List U->List U->Gp->(List U->Gp->Prop)->Prop
 |[],acc,G,k=>ok G/\k acc G
 |x::xs,acc,G,k=>ok G/\b x acc G λacc' G'=>jkJ ok b xs acc' G' k
def forL (ok:Gp->Prop)(b:U->Sg->Gp->(Sg->Gp->Prop)->Prop):List U->Sg->Gp->(Sg->Gp->Prop)->Prop
 |[],ς,G,k=>ok G/\k ς G
 |x::xs,ς,G,k=>ok G/\b x ς G λς' G'=>forL ok b xs ς' G' k
noncomputable def rngU (i:Int)(n:Nat):List U:=(YaW n).map λk:Nat=>.int (i+k)
noncomputable def jd5:Nat->List U->List U
 |_,[]=>[]
 |n,u::r=>.tup [.int n,u]::jd5 (n+1) r
def itU:U->Gp->(List U->(Gp->Prop)->Prop)->Prop
 |.tup xs,_,k=>k xs λ_=>True
 |.loc a,G,k=>match lsG G a with
  |some xs=>k xs λG'=>lsG G' a=some xs
  |none=>False
 |_,_,_=>False
def enI:U->Gp->(List U->(Gp->Prop)->Prop)->Prop
 |.tup xs,_,k=>k (jd5 0 xs) λ_=>True
 |.loc a,G,k=>match lsG G a with
  |some xs=>k (jd5 0 xs) λG'=>lsG G' a=some xs
  |none=>False
 |_,_,_=>False
def jkO:U->Gp->(List U->(Gp->Prop)->Gp->Prop)->Prop
 |.loc a,G,Q=>match G a with
  |some (.dT kvs)=>∀o G',Put G a (.frd o kvs) G'->Q (kvs.map λp=>.tup (p.1.map Ku)) (λG'=>G' a=some (.frd o kvs)) G'
  |_=>False
 |_,_,_=>False
def jcE (f:List (Key×U)->List U):U->Gp->(List U->(Gp->Prop)->Gp->Prop)->Prop
 |.loc a,G,Q=>match G a with
  |some (.dK kvs)=>∀o G',Put G a (.frk o kvs) G'->Q (f kvs) (λG'=>G' a=some (.frk o kvs)) G'
  |some (.frk o kvs)=>Q (f kvs) (λG'=>G' a=some (.frk o kvs)) G
  |_=>False
 |_,_,_=>False
noncomputable def jdO (kvs:List (Key×U)):List U:=kvs.map (·.2)
noncomputable def jcx (kvs:List (Key×U)):List U:=kvs.map λp=>.tup [Ku p.1,p.2]
def zipU:U->U->(List U->Prop)->Prop
 |.tup xs,.tup ys,k=>k ((xs.zip ys).map λp=>.tup [p.1,p.2])
 |_,_,_=>False
def sgU:U->(List U->Prop)->Prop
 |.str z,k=>z.cps.all (·< 128)=true/\k (z.cps.toList.map λc=>.str ⟨#[c]⟩)
 |_,_=>False
def fpU:U->(Str->Prop)->Prop
 |.str z,k=>z.length<=10000/\k z
 |.int i,k=>i.natAbs.log2<1920/\k (toString i:String)
 |_,_=>False
def repU (y b:Str):U->(Str->Str->Prop)->Prop
 |.str z,k=>y.length+z.length<=Yai/\z.length+b.length<=Yai/\∀w:Str,w.length<=z.length+b.length->(∀c∈w.cps.toList,c∈z.cps.toList\/c∈b.cps.toList)->k (y++z) w
 |_,_=>False
def unpU (ts:Tgs):U->Gp->Sg->(Sg->Prop)->Prop
 |.loc a,G,ς,k=>match lsG G a with
  |some us=>tgsU ts us ς k
  |none=>False
 |_,_,_,_=>False
def glU (gs:List U)(n:Nat)(k:U->Prop):Prop:=match gs[n]? with
 |some u=>k u
 |none=>False
abbrev UE:=Sg->Gp->K1->KX->Prop
abbrev UT:=Sg->Gp->(Bool->Gp->Prop)->KX->Prop
abbrev UA:=Sg->Gp->(List U->Gp->Prop)->KX->Prop
def truT (t:UE):UT:=λς G Q X=>t ς G (λx G1=>truU x G1 λb=>Q b G1) X
noncomputable abbrev tp (t:UE):UE×UT:=(t,truT t)
noncomputable def comb:Bool->UE×UT->UE×UT->UE×UT
 |true,p,q=>(λς G Q X=>p.1 ς G (λx G1=>truU x G1 λc=>if c=true then q.1 ς G1 Q X else Q x G1) X,λς G Q X=>p.2 ς G (λc G1=>if c=true then q.2 ς G1 Q X else Q false G1) X)
 |false,p,q=>(λς G Q X=>p.1 ς G (λx G1=>truU x G1 λc=>if c=true then Q x G1 else q.1 ς G1 Q X) X,λς G Q X=>p.2 ς G (λc G1=>if c=true then Q true G1 else q.2 ς G1 Q X) X)
section
variable (gs:List U)(Δ:Cl)
mutual
noncomputable def den:E->UE×UT
 |.v i=>tp λς G Q _=>slot ς i λu=>Q u G
 |.non=>tp λ_ G Q _=>Q .non G
 |.bl b=>tp λ_ G Q _=>Q (.bl b) G
 |.int i=>tp λ_ G Q _=>Q (.int i) G
 |.str x=>tp λ_ G Q _=>Q (.str x) G
 |.g n=>tp λ_ G Q _=>glU gs n λu=>Q u G
 |.bin o a b=>tp λς G Q X=>(den a).1 ς G (λx G1=>(den b).1 ς G1 (λy G2=>binU o x y G2 Q) X) X
 |.neg a=>tp λς G Q X=>(den a).1 ς G (λx G1=>negU x G1 Q) X
 |.not a=>(λς G Q X=>(den a).1 ς G (λx G1=>truU x G1 λb=>Q (.bl (!b)) G1) X,
   λς G Q X=>(den a).2 ς G (λb G1=>Q (!b) G1) X)
 |.bop k a es=>denB k (den a) es
 |.cmp o a b=>tp λς G Q X=>(den a).1 ς G (λx G1=>(den b).1 ς G1 (λy G2=>cmpU o x y G2 λc=>Q (.bl c) G2) X) X
 |.cmp2 o p a b c=>tp λς G Q X=>(den a).1 ς G (λx G1=>(den b).1 ς G1 (λy G2=>cmpU o x y G2 λt=>if t=true then (den c).1 ς G2 (λz G3=>cmpU p y z G3 λt'=>Q (.bl t') G3) X else Q (.bl false) G2) X) X
 |.ife c a b=>(λς G Q X=>(den c).2 ς G (λt G1=>if t=true then (den a).1 ς G1 Q X else (den b).1 ς G1 Q X) X,
   λς G Q X=>(den c).2 ς G (λt G1=>if t=true then (den a).2 ς G1 Q X else (den b).2 ς G1 Q X) X)
 |.tup es=>tp λς G Q X=>jaE es ς G (λus G1=>us.length<=Yai/\Q (.tup us) G1) X
 |.lst es=>tp λς G Q X=>jaE es ς G (λus G1=>us.length<=Yai/\newO G1 (.lst us) Q) X
 |.dic es=>tp λς G Q X=>denD es ς G (λkvs G1=>kvs.length<=15/\newO G1 (.dK (jdh kvs)) Q) X
 |.dicT=>tp λ_ G Q _=>newO G (.dT []) Q
 |.ix a b=>tp λς G Q X=>(den a).1 ς G (λx G1=>(den b).1 ς G1 (λy G2=>ixU x y G2 Q) X) X
 |.sl a lo hi=>tp λς G Q X=>(den a).1 ς G (λx G1=>denO lo ς G1 (λl G2=>denO hi ς G2 (λh G3=>slU x l h G3 Q) X) X) X
 |.rev a b=>tp λς G Q X=>(den a).1 ς G (λx G1=>(den b).1 ς G1 (λy G2=>revU x y G2 Q) X) X
 |.call n es=>tp λς G Q X=>jaE es ς G (λus G1=>Δ n us G1 Q X) X
 |.app _ _=>tp λ_ _ _ _=>False
 |.blt b es=>tp λς G Q X=>jaE es ς G (λus G1=>bltU b us G1 Q) X
 |.meth m o es=>tp λς G Q X=>(den o).1 ς G (λx G1=>match mtU m x G1 with
   |some _=>jaE es ς G1 (λus G2=>jaO m x us G2 Q) X
   |none=>False) X
 |.ty n=>tp λ_ G Q _=>Q (.ty n) G
 |.lc pick t it ifs e=>tp λς G Q X=>denI it ς G (λxs ok G1=>xs.length<=Yai/\jdn ok (λx G2 k=>tgU t x (jbH pick ς) λτ=>denC ifs τ G2 (λb G3=>if b=true then (den e).1 τ G3 (λu G4=>k (some u) G4) (λ_ _=>False) else k none G3)) xs [] G1
   λus G5=>newO G5 (.lst us) Q) X
 |.lc2 pick t it ifs t2 it2 ifs2 e=>tp λς G Q X=>denI it ς G (λxs ok G1=>jkJ ok (λx acc G2 k=>tgU t x (jbH pick ς) λτ=>denC ifs τ G2 (λb G3=>if b=true then denI it2 τ G3 (λys ok2 G4=>acc.length+ys.length<=Yai/\jdn ok2 (λy G5 k5=>tgU t2 y τ λτ'=>denC ifs2 τ' G5 (λb2 G6=>if b2=true then (den e).1 τ' G6 (λu G7=>k5 (some u) G7) (λ_ _=>False) else k5 none G6)) ys acc G4 k) (λ_ _=>False) else k acc G3)) xs [] G1
   λus G5=>newO G5 (.lst us) Q) X
 |.sset e=>tp λς G Q X=>(den e).1 ς G (λx G1=>jnY x G1 Q) X
 |.fst es=>tp λς G Q X=>denF es ς G (λzs G1=>Q (.str (L2.cats YeL zs)) G1) X
 |.lrp e i y _ b es=>tp λς G Q X=>(den e).1 ς G (λx G1=>slot ς i λu=>repU y b u λz w=>jaE es ς G1 (λus G2=>(x::.str z::.str w::us).length<=Yai/\newO G2 (.lst (x::.str z::.str w::us)) Q) X) X
 |.mkD e=>tp λς G Q X=>(den e).1 ς G (λx G1=>mkDU x G1 Q) X
 |.maxD e=>tp λς G Q X=>(den e).1 ς G (λx G1=>jow x G1 Q) X
 |.minD e=>tp λς G Q X=>(den e).1 ς G (λx G1=>jov x G1 Q) X
 |.mkL e=>tp λς G Q X=>(den e).1 ς G (λx G1=>itU x G1 λxs _=>newO G1 (.lst xs) Q) X
 |.mkT e=>tp λς G Q X=>(den e).1 ς G (λx G1=>itU x G1 λxs _=>Q (.tup xs) G1) X
 |.rngL e=>tp λς G Q X=>(den e).1 ς G (λx G1=>match x with
   |.int j=>0<=j/\j<=1000000/\newO G1 (.lst (rngU 0 j.toNat)) Q
   |_=>False) X
 |.rngT e=>tp λς G Q X=>(den e).1 ς G (λx G1=>match x with
   |.int j=>0<=j/\j<=1000000/\Q (.tup (rngU 0 j.toNat)) G1
   |_=>False) X
 |.rngL2 a b=>tp λς G Q X=>(den a).1 ς G (λx G1=>(den b).1 ς G1 (λy G2=>match x,y with
   |.int i,.int j=>0<=i/\i<=j/\j<=1000000000/\j-i<=1000000/\newO G2 (.lst (rngU i (j-i).toNat)) Q
   |_,_=>False) X) X
noncomputable def denB (k:Bool)(p:UE×UT):Es->UE×UT
 |.nil=>p
 |.cons e es=>comb k p (denB k (den e) es)
noncomputable def denC:Es->Sg->Gp->(Bool->Gp->Prop)->Prop
 |.nil,_,G,Q=>Q true G
 |.cons e es,ς,G,Q=>(den e).2 ς G (λb G1=>if b=true then denC es ς G1 Q else Q false G1) (λ_ _=>False)
noncomputable def denO:Eo->Sg->Gp->(Option Int->Gp->Prop)->KX->Prop
 |.no,_,G,Q,_=>Q none G
 |.so e,ς,G,Q,X=>(den e).1 ς G (λx G1=>match x with|.int i=>Q (some i) G1|_=>False) X
noncomputable def jaE:Es->Sg->Gp->(List U->Gp->Prop)->KX->Prop
 |.nil,_,G,Q,_=>Q [] G
 |.cons e es,ς,G,Q,X=>(den e).1 ς G (λx G1=>jaE es ς G1 (λxs G2=>Q (x::xs) G2) X) X
noncomputable def denF:Es->Sg->Gp->(List Str->Gp->Prop)->KX->Prop
 |.nil,_,G,Q,_=>Q [] G
 |.cons e es,ς,G,Q,X=>(den e).1 ς G (λx G1=>fpU x λz=>denF es ς G1 (λzs G2=>Q (z::zs) G2) X) X
noncomputable def denD:Es->Sg->Gp->(List (Key×U)->Gp->Prop)->KX->Prop
 |.nil,_,G,Q,_=>Q [] G
 |.cons e (.cons f es),ς,G,Q,X=>(den e).1 ς G (λx G1=>(den f).1 ς G1 (λy G2=>match kU x with
   |some k=>denD es ς G2 (λkvs G3=>Q ((k,y)::kvs) G3) X
   |none=>False) X) X
 |.cons _ .nil,_,_,_,_=>False
noncomputable def denI:It->Sg->Gp->(List U->(Gp->Prop)->Gp->Prop)->KX->Prop
 |.e e,ς,G,Q,X=>(den e).1 ς G (λx G1=>itU x G1 λxs ok=>Q xs ok G1) X
 |.r1 e,ς,G,Q,X=>(den e).1 ς G (λx G1=>match x with
   |.int j=>-(2 ^ 62)<=j/\j<2 ^ 62/\Q (rngU 0 j.toNat) (λ_=>True) G1
   |_=>False) X
 |.r2 a b,ς,G,Q,X=>(den a).1 ς G (λx G1=>(den b).1 ς G1 (λy G2=>match x,y with
   |.int i,.int j=>-(2 ^ 62)<=i/\i<2 ^ 62/\-(2 ^ 62)<=j/\j<2 ^ 62/\Q (rngU i (j-i).toNat) (λ_=>True) G2
   |_,_=>False) X) X
 |.enum e,ς,G,Q,X=>(den e).1 ς G (λx G1=>enI x G1 λxs ok=>Q xs ok G1) X
 |.dk e,ς,G,Q,X=>(den e).1 ς G (λx G1=>jkO x G1 Q) X
 |.s e,ς,G,Q,X=>(den e).1 ς G (λx G1=>sgU x λxs=>Q xs (λ_=>True) G1) X
 |.dv e,ς,G,Q,X=>(den e).1 ς G (λx G1=>jcE jdO x G1 Q) X
 |.di e,ς,G,Q,X=>(den e).1 ς G (λx G1=>jcE jcx x G1 Q) X
 |.zp a b,ς,G,Q,X=>(den a).1 ς G (λx G1=>(den b).1 ς G1 (λy G2=>zipU x y λxs=>Q xs (λ_=>True) G2) X) X
end
def denE (e:E):UE:=(den gs Δ e).1
def denT (e:E):UT:=(den gs Δ e).2
mutual
noncomputable def denS:S->En->Sg->Gp->Prop
 |.pass,D,ς,G=>D.nx ς G
 |.expr e,D,ς,G=>denE gs Δ e ς G (λ_ G1=>D.nx ς G1) λx G1=>D.ex x ς G1
 |.asg t e,D,ς,G=>denE gs Δ e ς G (λu G1=>tgU t u ς λς'=>D.nx ς' G1) λx G1=>D.ex x ς G1
 |.asgC i e,D,ς,G=>denE gs Δ e ς G (λu G1=>D.nx (ς.set i (some u)) G1) λx G1=>D.ex x ς G1
 |.unp ts e,D,ς,G=>denE gs Δ e ς G (λu G1=>unpU ts u G1 ς λς'=>D.nx ς' G1) λx G1=>D.ex x ς G1
 |.setS o i e,D,ς,G=>denE gs Δ e ς G (λv G1=>denE gs Δ o ς G1 (λx G2=>denE gs Δ i ς G2 (λy G3=>setU x y v G3 λG4=>D.nx ς G4) λx G1=>D.ex x ς G1) λx G1=>D.ex x ς G1) λx G1=>D.ex x ς G1
 |.par is es,D,ς,G=>jaE gs Δ es ς G (λus G1=>us.length=is.length/\D.nx ((is.zip us).foldl (λs p=>s.set p.1 (some p.2)) ς) G1) λx G1=>D.ex x ς G1
 |.aug i o e,D,ς,G=>slot ς i λx=>denE gs Δ e ς G (λy G1=>jg1 o x y G1 λz G2=>D.nx (ς.set i (some z)) G2) λx G1=>D.ex x ς G1
 |.augS o i p e,D,ς,G=>denE gs Δ o ς G (λx G1=>denE gs Δ i ς G1 (λy G2=>joy x y G2 λa G3=>denE gs Δ e ς G3 (λb G4=>jg1 p a b G4 λz G5=>setU x y z G5 λG6=>D.nx ς G6) λx G1=>D.ex x ς G1) λx G1=>D.ex x ς G1) λx G1=>D.ex x ς G1
 |.ite c a b,D,ς,G=>denT gs Δ c ς G (λt G1=>if t=true then jaB a D ς G1 else jaB b D ς G1) λx G1=>D.ex x ς G1
 |.fr t it b,D,ς,G=>denI gs Δ it ς G (λxs ok G1=>forL ok (λx ς1 G2 k=>tgU t x ς1 λς2=>jaB b { D with nx:=k } ς2 G2) xs ς G1 D.nx) λx G1=>D.ex x ς G1
 |.wh c b,D,ς,G=>∃W:Nat->Sg->Gp->Prop,(∃m,W m ς G)/\∀m ς1 G1,W m ς1 G1->
   denT gs Δ c ς1 G1 (λt G2=>if t=true then jaB b { D with nx:=λς' G'=>∃m',m'<m/\W m' ς' G' } ς1 G2 else D.nx ς1 G2) λx G1=>D.ex x ς1 G1
 |.ret e,D,ς,G=>denE gs Δ e ς G D.rt λx G1=>D.ex x ς G1
 |.retN,D,_,G=>D.rt .non G
 |.never,_,_,_=>False
 |.raise c es,D,ς,G=>jaE gs Δ es ς G (λus G1=>us.length=(clsF c).length/\D.ex ⟨c,us⟩ ς G1) λx G1=>D.ex x ς G1
 |.tr b c n h,D,ς,G=>jaB b { D with ex:=λx ς1 G1=>(c=0\/x.c=c)/\hsH x h (ς1.set n none) G1 λς2 G2=>D.nx (ς2.set n none) G2 } ς G
noncomputable def jaB:Ss->En->Sg->Gp->Prop
 |.nil,D,ς,G=>D.nx ς G
 |.cons s ss,D,ς,G=>denS s { D with nx:=λς' G'=>jaB ss D ς' G' } ς G
end
end
structure Fun where
 name:Str
 ps:List Str
 N:List Str
 body:Ss
structure Nst where
 P:Addr
 ff:Nat
 vi:Nat
 fi:Nat
 caps:List Nat
 wi:Nat
 fni:Nat
 least:Int
 wn:Str
 fn:Str
 at':Str
structure Tab where
 funs:List Fun
 gs:List U
 gn:List Str:=[]
 cs:List Nat:=[]
 vf:List Fun:=[]
 ns:List (Nat×Nst):=[]
noncomputable def jaj (n:Nat)(us:List U):Sg:=us.map some++Yaf (n-us.length) none
def jab (T:Tab):Nat->Cl
 |0,_,_,_,_,_=>False
 |k+1,n,us,G,Q,X=>match (T.funs++T.vf)[n]? with
  |some d=>us.length=d.ps.length/\jaB T.gs (jab T k) d.body ⟨λ_ G'=>Q .non G',Q,λx _ G'=>X x G'⟩ (jaj d.N.length us) G
  |none=>False
mutual
noncomputable def RU (K:Yac)(H:Hp):U->V->Prop
 |.non,v=>v=.non
 |.bl b,v=>v=.bl b
 |.int i,v=>v=.int i
 |.str x,v=>v=.str x
 |.tup xs,v=>∃a vs,v=.ref a/\H a=some (.tup vs)/\RUs K H xs vs
 |.loc a,v=>v=.ref a
 |.fn _,_=>False
 |.ty n,v=>v=.ty n
 |.exc _ _,_=>False
 |.own _,_=>False
 |.clo _ _,_=>False
noncomputable def RUs (K:Yac)(H:Hp):List U->List V->Prop
 |[],vs=>vs=[]
 |u::us,vs=>∃v vr,vs=v::vr/\RU K H u v/\RUs K H us vr
end
def RKs {κ:Type}(K:Yac)(H:Hp):List (κ×U)->List (κ×V)->Prop
 |[],l=>l=[]
 |(k,u)::r,l=>∃v l',l=(k,v)::l'/\RU K H u v/\RKs K H r l'
def MOk (K:Yac)(H:Hp)(a:Addr):MO->Prop
 |.lst us=>∃vs,H a=some (.lst vs)/\RUs K H us vs
 |.fro us=>∃o vs,H a=some (.frz o (.lst vs))/\RUs K H us vs
 |.dK kvs=>∃l,H a=some (.dK l)/\RKs K H kvs l
 |.dT kvs=>∃l,H a=some (.dT l)/\RKs K H kvs l
 |.frd o kvs=>∃l,H a=some (.frz o (.dT l))/\RKs K H kvs l
 |.frk o kvs=>∃l,H a=some (.frz o (.dK l))/\RKs K H kvs l
noncomputable def tabs:List (Addr×Pos×Str):=[]
def jeN (H:Hp):Prop:=∀t∈tabs,jm7 H t.1 t.2.1 t.2.2
structure HR (K:Yac)(H:Hp)(G:Gp):Prop where
 mo:∀a o,G a=some o->MOk K H a o
 tab:jeN H
instance {K:Yac} {H:Hp} {G:Gp}:CoeFun (HR K H G) λ_=>∀a o,G a=some o->MOk K H a o:=⟨HR.mo⟩
noncomputable def noTb:HO->Bool
 |.tbl _=>false
 |_=>true
structure Fr (H:Hp)(G:Gp)(H':Hp)(G':Gp):Prop where
 go:∀a o,H a=some o->G a=none->(nt:noTb o=true:=by rfl)->H' a=some o/\G' a=none
instance {H H':Hp} {G G':Gp}:CoeFun (Fr H G H' G') λ_=>∀a o,H a=some o->G a=none->(nt:noTb o=true:=by rfl)->H' a=some o/\G' a=none:=⟨@Fr.go H G H' G'⟩
def SR (K:Yac)(H:Hp)(ς:Sg)(σ:St):Prop:=ς.length=σ.length/\∀(i:Nat) (u:U),ς[i]?=some (some u)->∃v,σ[i]?=some (some v)/\RU K H u v
section
variable {K:Yac}{H H' H1 H2:Hp}{G G' G1 G2:Gp}
theorem Fr.refl (H:Hp)(G:Gp):Fr H G H G:=⟨λ_ _ h g _=>⟨h,g⟩⟩
theorem Fr.trans (a:Fr H G H1 G1)(b:Fr H1 G1 H2 G2):Fr H G H2 G2:=⟨λc o h g nt=>let ⟨h1,g1⟩:=a c o h g nt;b c o h1 g1 nt⟩
structure TS (H H':Hp):Prop where
 tup:∀a xs,H a=some (.tup xs)->H' a=some (.tup xs)
 cod:∀a o,H a=some (frzC o)->H' a=some (frzC o)
instance:CoeFun (TS H H') λ_=>∀a xs,H a=some (.tup xs)->H' a=some (.tup xs):=⟨TS.tup⟩
theorem TS.trans (a:TS H H1)(b:TS H1 H2):TS H H2:=⟨λc xs h=>b.tup c xs (a.tup c xs h),λc o h=>b.cod c o (a.cod c o h)⟩
mutual
theorem RU.ts (t:TS H H'):∀{u:U} {v:V},RU K H u v->RU K H' u v
 |.non,_,h=>h
 |.bl _,_,h=>h
 |.int _,_,h=>h
 |.str _,_,h=>h
 |.tup xs,_,h=>by
  obtain⟨a,vs,e,q,r⟩:=h
  exact⟨a,vs,e,t _ _ q,RUs.ts t r⟩
 |.loc _,_,h=>h
 |.fn _,_,h=>h
 |.ty _,_,h=>h
 |.exc _ _,_,h=>h
 |.own _,_,h=>h
 |.clo _ _,_,h=>h
theorem RUs.ts (t:TS H H'):∀{us:List U} {vs:List V},RUs K H us vs->RUs K H' us vs
 |[],_,h=>h
 |_::_,_,h=>by
  obtain⟨v,vr,e,r,rs⟩:=h
  exact⟨v,vr,e,RU.ts t r,RUs.ts t rs⟩
end
theorem RKs.ts {κ:Type}(t:TS H H'):∀{kvs:List (κ×U)} {l:List (κ×V)},RKs K H kvs l->RKs K H' kvs l
 |[],_,h=>h
 |(_,_)::_,_,h=>by
  obtain⟨v,l',e,r,rs⟩:=h;exact⟨v,l',e,r.ts t,RKs.ts t rs⟩
theorem SR.ts {ς:Sg}{σ:St}(t:TS H H')(h:SR K H ς σ):SR K H' ς σ:=⟨h.1,λi u e=>let ⟨v,e1,r⟩:=h.2 i u e;⟨v,e1,r.ts t⟩⟩
theorem HR.tupNone (h:HR K H G){a:Addr}{xs:List V}(e:H a=some (.tup xs)):G a=none:=by
 cases q:G a with
 |none=>rfl
 |some o=>
  have m:=h a o q;cases o with
  |lst us=>obtain⟨_,e2,_⟩:=m;rw[e]at e2;cases e2
  |fro us=>obtain⟨_,_,e2,_⟩:=m;rw[e]at e2;cases e2
  |dK us=>obtain⟨_,e2,_⟩:=m;rw[e]at e2;cases e2
  |dT us=>obtain⟨_,e2,_⟩:=m;rw[e]at e2;cases e2
  |frd _ us=>obtain⟨_,e2,_⟩:=m;rw[e]at e2;cases e2
  |frk _ us=>obtain⟨_,e2,_⟩:=m;rw[e]at e2;cases e2
theorem HR.codNone (h:HR K H G){a:Addr}{ob:Obj}(e:H a=some (frzC ob)):G a=none:=by
 cases q:G a with
 |none=>rfl
 |some o=>
  have m:=h a o q;cases o with
  |lst us=>obtain⟨_,e2,_⟩:=m;rw[e]at e2;cases e2
  |fro us=>obtain⟨_,_,e2,_⟩:=m;rw[e]at e2;cases e2
  |dK us=>obtain⟨_,e2,_⟩:=m;rw[e]at e2;cases e2
  |dT us=>obtain⟨_,e2,_⟩:=m;rw[e]at e2;cases e2
  |frd _ us=>obtain⟨_,e2,_⟩:=m;rw[e]at e2;cases e2
  |frk _ us=>obtain⟨_,e2,_⟩:=m;rw[e]at e2;cases e2
theorem HR.tblNone (h:HR K H G){a:Addr}{ps:Array Value}(e:H a=some (.tbl ps)):G a=none:=by
 cases q:G a with
 |none=>rfl
 |some o=>
  have m:=h a o q;cases o with
  |lst us=>obtain⟨_,e2,_⟩:=m;rw[e]at e2;cases e2
  |fro us=>obtain⟨_,_,e2,_⟩:=m;rw[e]at e2;cases e2
  |dK us=>obtain⟨_,e2,_⟩:=m;rw[e]at e2;cases e2
  |dT us=>obtain⟨_,e2,_⟩:=m;rw[e]at e2;cases e2
  |frd _ us=>obtain⟨_,e2,_⟩:=m;rw[e]at e2;cases e2
  |frk _ us=>obtain⟨_,e2,_⟩:=m;rw[e]at e2;cases e2
theorem Fr.ts (f:Fr H G H' G')(h:HR K H G):TS H H':=⟨λa xs e=>(f a _ e (h.tupNone e)).1,λa o e=>(f a _ e (h.codNone e)).1⟩
theorem jeN.upd (h:jeN H){p:Addr}{o:HO}(h1:∀ps,H p≠some (.tbl ps))(h2:∀ob,H p≠some (frzC ob)):jeN (L2.upd H p o):=λt ht=>by
 rcases h t ht with e|⟨c,oc,e1,e2,q⟩
 ·exact .inl (by rw[jad (λz=>h1 _ (z ▸ e))];exact e)
 ·exact .inr ⟨c,oc,by rw[jad (λz=>h1 _ (z ▸ e1))];exact e1,by rw[jad (λz=>h2 _ (z ▸ e2))];exact e2,q⟩
theorem jeN.new (h:jeN H){p:Addr}{o:HO}(e:H p=none):jeN (L2.upd H p o):=h.upd (λps z=>by rw[e]at z;cases z) λob z=>by rw[e]at z;cases z
theorem HR.tabW (h:HR K H G){p:Addr}{o:HO}{mo:MO}(g:G p=some mo):jeN (L2.upd H p o):=h.tab.upd (λps z=>by rw[h.tblNone z]at g;cases g) λob z=>by rw[h.codNone z]at g;cases g
theorem MOk.there {a:Addr}{o:MO}(m:MOk K H a o):∃ho,H a=some ho:=by
 cases o with
 |lst _=>obtain⟨_,e,_⟩:=m;exact⟨_,e⟩
 |fro _=>obtain⟨_,_,e,_⟩:=m;exact⟨_,e⟩
 |dK _=>obtain⟨_,e,_⟩:=m;exact⟨_,e⟩
 |dT _=>obtain⟨_,e,_⟩:=m;exact⟨_,e⟩
 |frd _ _=>obtain⟨_,e,_⟩:=m;exact⟨_,e⟩
 |frk _ _=>obtain⟨_,e,_⟩:=m;exact⟨_,e⟩
theorem MOk.keep {a:Addr}{o:MO}(m:MOk K H a o)(e:H' a=H a)(t:TS H H'):MOk K H' a o:=by
 cases o with
 |lst _=>obtain⟨vs,q,r⟩:=m;exact⟨vs,e.trans q,r.ts t⟩
 |fro _=>obtain⟨ob,vs,q,r⟩:=m;exact⟨ob,vs,e.trans q,r.ts t⟩
 |dK _=>obtain⟨l,q,r⟩:=m;exact⟨l,e.trans q,r.ts t⟩
 |dT _=>obtain⟨l,q,r⟩:=m;exact⟨l,e.trans q,r.ts t⟩
 |frd _ _=>obtain⟨l,q,r⟩:=m;exact⟨l,e.trans q,r.ts t⟩
 |frk _ _=>obtain⟨l,q,r⟩:=m;exact⟨l,e.trans q,r.ts t⟩
theorem HR.nope (h:HR K H G){a:Addr}(e:H a=none):G a=none:=by
 cases q:G a with
 |none=>rfl
 |some o=>
  obtain⟨_,e2⟩:=(h a o q).there;rw[e]at e2;cases e2
theorem jac {a:Addr}{o:MO}:gup G a o a=some o:=by unfold gup;rw[if_pos rfl]
theorem jbf {a b:Addr}{o:MO}(h:b≠a):gup G a o b=G b:=by unfold gup;rw[if_neg h]
theorem TS.new {p:Addr}{o:HO}(e:H p=none):TS H (upd H p o):=⟨λa xs h=>by rw[jad (jah h e)];exact h,λa ob h=>by rw[jad (jah h e)];exact h⟩
theorem HR.newT (h:HR K H G){p:Addr}{xs:List V}(e:H p=none):HR K (upd H p (.tup xs)) G:=⟨λa o q=>by
 have m:=h a o q;obtain⟨ho,e2⟩:=m.there;exact m.keep (jad (jah e2 e)) (TS.new e),h.tab.new e⟩
theorem Fr.new {p:Addr}{o:HO}(e:H p=none):Fr H G (upd H p o) G:=⟨λa ob h g _=>⟨by rw[jad (jah h e)];exact h,g⟩⟩
theorem HR.newO (h:HR K H G){p:Addr}{o:HO}{mo:MO}(e:H p=none)(m:MOk K (upd H p o) p mo):HR K (upd H p o) (gup G p mo):=⟨λa ob q=>by
 by_cases z:a=p
 ·subst z;rw[jac]at q;cases q;exact m
 ·rw[jbf z]at q;exact(h a ob q).keep (jad z) (TS.new e),h.tab.new e⟩
theorem Fr.newO {p:Addr}{o:HO}{mo:MO}(e:H p=none):Fr H G (upd H p o) (gup G p mo):=⟨λa ob h g _=>by
 have z:a≠p:=jah h e;exact⟨by rw[jad z];exact h,by rw[jbf z];exact g⟩⟩
theorem TS.write (h:HR K H G){p:Addr}{o:HO}{mo:MO}(g:G p=some mo):TS H (upd H p o):=⟨λa xs e=>by
 have z:a≠p:=λz=>by subst z;rw[h.tupNone e]at g;cases g
 rw[jad z];exact e,λa ob e=>by
 have z:a≠p:=λz=>by subst z;rw[h.codNone e]at g;cases g
 rw[jad z];exact e⟩
theorem HR.write (h:HR K H G){p:Addr}{o:HO}{mo mo':MO}(g:G p=some mo)(m:MOk K (upd H p o) p mo'):HR K (upd H p o) (gup G p mo'):=⟨λa ob q=>by
 by_cases z:a=p
 ·subst z;rw[jac]at q;cases q;exact m
 ·rw[jbf z]at q;exact(h a ob q).keep (jad z) (TS.write h g),h.tabW g⟩
theorem Fr.write {p:Addr}{o:HO}{mo mo':MO}(g:G p=some mo):Fr H G (upd H p o) (gup G p mo'):=⟨λa ob h n _=>by
 have z:a≠p:=λz=>by subst z;rw[n]at g;cases g
 exact⟨by rw[jad z];exact h,by rw[jbf z];exact n⟩⟩
theorem RUs.length:∀{us:List U} {vs:List V},RUs K H us vs->us.length=vs.length
 |[],_,h=>by cases h;rfl
 |_::_,_,h=>by
  obtain⟨v,vr,rfl,_,rs⟩:=h;simp[rs.length]
theorem RUs.append:∀{us ws:List U} {vs xs:List V},RUs K H us vs->RUs K H ws xs->RUs K H (us++ws) (vs++xs)
 |[],_,_,_,h,h'=>by cases h;exact h'
 |_::_,_,_,_,h,h'=>by
  obtain⟨v,vr,rfl,r,rs⟩:=h;exact⟨v,vr++_,rfl,r,rs.append h'⟩
theorem RUs.get:∀{us:List U} {vs:List V} {i:Nat} {u:U},RUs K H us vs->us[i]?=some u->∃v,vs[i]?=some v/\RU K H u v
 |[],_,_,_,_,e=>by simp at e
 |_::_,_,0,_,h,e=>by
  obtain⟨v,vr,rfl,r,_⟩:=h;simp at e;subst e;exact⟨v,rfl,r⟩
 |_::_,_,i+1,_,h,e=>by
  obtain⟨v,vr,rfl,_,rs⟩:=h;obtain⟨w,h1,h2⟩:=rs.get (i:=i) (by simpa using e)
  exact⟨w,by simpa using h1,h2⟩
theorem RUs.take:∀{us:List U} {vs:List V} (n:Nat),RUs K H us vs->RUs K H (us.take n) (vs.take n)
 |_,_,0,_=>rfl
 |[],_,_+1,h=>by cases h;rfl
 |_::_,_,n+1,h=>by
  obtain⟨v,vr,rfl,r,rs⟩:=h;exact⟨v,vr.take n,rfl,r,rs.take n⟩
theorem RUs.drop:∀{us:List U} {vs:List V} (n:Nat),RUs K H us vs->RUs K H (us.drop n) (vs.drop n)
 |_,_,0,h=>h
 |[],_,_+1,h=>by cases h;rfl
 |_::_,_,n+1,h=>by
  obtain⟨v,vr,rfl,_,rs⟩:=h;exact rs.drop n
theorem RUs.set {u:U}{v:V}(r:RU K H u v):∀{us:List U} {vs:List V} (i:Nat),RUs K H us vs->RUs K H (us.set i u) (vs.set i v)
 |[],_,_,h=>by cases h;rfl
 |_::_,_,0,h=>by
  obtain⟨w,vr,rfl,_,rs⟩:=h;exact⟨v,vr,rfl,r,rs⟩
 |_::_,_,i+1,h=>by
  obtain⟨w,vr,rfl,q,rs⟩:=h;exact⟨w,vr.set i v,rfl,q,rs.set r i⟩
theorem RUs.reverse:∀{us:List U} {vs:List V},RUs K H us vs->RUs K H us.reverse vs.reverse
 |[],_,h=>by cases h;rfl
 |_::_,_,h=>by
  obtain⟨v,vr,rfl,r,rs⟩:=h;rw[YbQ,YbQ];exact rs.reverse.append ⟨v,[],rfl,r,rfl⟩
theorem RUs.rep {us:List U}{vs:List V}(h:RUs K H us vs):∀k:Nat,RUs K H (Yaf k us).flatten (Yaf k vs).flatten
 |0=>rfl
 |k+1=>by
  rw[YaU,YaU,Ybw,Ybw];exact h.append (h.rep k)
theorem RUs.erase:∀{us:List U} {vs:List V} (i:Nat),RUs K H us vs->RUs K H (us.eraseIdx i) (vs.eraseIdx i)
 |[],_,_,h=>by cases h;rfl
 |_::_,_,0,h=>by
  obtain⟨v,vr,rfl,_,rs⟩:=h;exact rs
 |_::_,_,i+1,h=>by
  obtain⟨v,vr,rfl,r,rs⟩:=h;exact⟨v,_,rfl,r,rs.erase i⟩
section
variable {us:List U}{vs:List V}
theorem RUs.dropLast (h:RUs K H us vs):RUs K H us.dropLast vs.dropLast:=by
 rw[YeG,YeG,h.length];exact h.take _
theorem RUs.atI {i:Int}{u:U}(h:RUs K H us vs)(e:atI us i=some u):∃v,L2.atI vs i=some v/\RU K H u v:=by
 unfold L2.atI at e ⊢;rw[h.length]at e;cases q:ixN vs.length i with
 |none=>rw[q]at e;cases e
 |some j=>
  rw[q]at e;exact h.get e
theorem RUs.cut (h:RUs K H us vs)(lo hi:Option Int):RUs K H (Z.cut us lo hi) (cutV vs lo hi):=by
 unfold Z.cut cutV;rw[h.length];exact(h.drop _).take _
theorem RUs.isEmpty (h:RUs K H us vs):us.isEmpty=vs.isEmpty:=by
 cases us with
 |nil=>cases h;rfl
 |cons u us=>obtain⟨v,vr,rfl,_⟩:=h;rfl
end
theorem RUs.ints:∀{us:List U} {vs:List V} {ns:List Int},RUs K H us vs->jev us=some ns->vs=ns.map V.int
 |[],_,_,h,e=>by cases h;cases e;rfl
 |u::us,_,ns,h,e=>by
  obtain⟨v,vr,rfl,r,rs⟩:=h;cases u with
  |int i=>
   cases r;rw[jev]at e;cases q:jev us with
   |none=>rw[q]at e;cases e
   |some l=>rw[q]at e;cases e;rw[rs.ints q];rfl
  |_=>cases e
theorem HR.lst (h:HR K H G){a:Addr}{us:List U}(e:G a=some (.lst us)):∃vs,H a=some (.lst vs)/\RUs K H us vs:=h a _ e
theorem HR.ls (h:HR K H G){a:Addr}{us:List U}(e:lsG G a=some us):∃vs,SqL K H a vs/\RUs K H us vs:=by
 unfold lsG at e;split at e
 ·rename_i xs q;cases e;obtain⟨vs,q2,r⟩:=h a _ q;exact⟨vs,.inl (.inl q2),r⟩
 ·rename_i xs q;cases e;obtain⟨o,vs,q2,r⟩:=h a _ q;exact⟨vs,.inl (.inr ⟨o,q2⟩),r⟩
 ·cases e
theorem HR.rd (h:HR K H G){a:Addr}{us:List U}(e:lsG G a=some us):∃vs,Rd H a (.lst vs)/\RUs K H us vs:=by
 unfold lsG at e;split at e
 ·rename_i xs q;cases e;obtain⟨vs,q2,r⟩:=h a _ q;exact⟨vs,.inl q2,r⟩
 ·rename_i xs q;cases e;obtain⟨o,vs,q2,r⟩:=h a _ q;exact⟨vs,.inr ⟨o,q2⟩,r⟩
 ·cases e
end
mutual
theorem DU.dv {K:Yac}{H:Hp}{G:Gp}(h:HR K H G):∀{u:U} {d:PyData} {v:V},DU G u d->RU K H u v->DV K H v d
 |_,_,_,.non,r=>by cases r;exact .non
 |_,_,_,.bl b,r=>by cases r;exact .bl b
 |_,_,_,.int i,r=>by cases r;exact .int i
 |_,_,_,.str x,r=>by cases r;exact .str x
 |_,_,_,.tup q,r=>by
  obtain⟨a,vs,rfl,s,rs⟩:=r
  exact .tup (.of s) (DUs.dv h q rs)
 |_,_,_,.lst e q,r=>by
  cases r
  obtain⟨vs,s,rs⟩:=h.rd e
  exact .lst s (DUs.dv h q rs)
 |_,_,_,.dic e,r=>by
  cases r
  obtain⟨l,q,rs⟩:=h _ _ e
  cases rs
  exact .dic q
theorem DUs.dv {K:Yac}{H:Hp}{G:Gp}(h:HR K H G):∀{us:List U} {ds:List PyData} {vs:List V},DUs G us ds->RUs K H us vs->DVs K H vs ds
 |_,_,_,.nil,r=>by cases r;exact .nil
 |_,_,_,.cons a b,r=>by
  obtain⟨v,vr,rfl,r1,rs⟩:=r
  exact .cons (DU.dv h a r1) (DUs.dv h b rs)
end
end Z

namespace L2
open PySem
section
variable {X:Cx}
theorem PE.imp {e:Expr}{t t':TE}(h:PE X e t)(i:∀σ H Q,t' σ H Q->t σ H Q):PE X e t':=λpins s σ H Q I q=>h pins s σ H Q I (i σ H Q q)
theorem PT.imp {e:Expr}{t t':TT}(h:PT X e t)(i:∀σ H Q,t' σ H Q->t σ H Q):PT X e t':=λpins s σ H Q I q=>h pins s σ H Q I (i σ H Q q)
theorem PW.imp {e:Expr}{t t':TT}(h:PW X e t)(i:∀σ H Q,t' σ H Q->t σ H Q):PW X e t':=λw pins s σ H Q I q=>h w pins s σ H Q I (i σ H Q q)
theorem PA.imp {e:List Expr}{t t':TA}(h:PA X e t)(i:∀σ H Q,t' σ H Q->t σ H Q):PA X e t':=λpos pins s σ H Q I q=>h pos pins s σ H Q I (i σ H Q q)
theorem PO.imp {e:Option Expr}{t t':TO}(h:PO X e t)(i:∀σ H Q,t' σ H Q->t σ H Q):PO X e t':=λpins s σ H Q I q=>h pins s σ H Q I (i σ H Q q)
theorem PS.imp {e:Stmt}{t t':L2.TS}(h:PS X e t)(i:∀D σ H,t' D σ H->t D σ H):PS X e t':=λpins s σ H D I q=>h pins s σ H D I (i D σ H q)
theorem PSs.imp {e:List Stmt}{t t':L2.TS}(h:PSs X e t)(i:∀D σ H,t' D σ H->t D σ H):PSs X e t':=λpins s σ H D I q=>h pins s σ H D I (i D σ H q)
end
end L2
namespace Z
open PySem L2
noncomputable def gK (K:Yac):Str->Option Value:=λx=>(Yb7 K YaN x).join
def XD (K:Yac)(H:Hp)(C dx:Addr)(x:XV):Prop:=1<=x.c/\x.c<6/\XCls K (gK K) (clsN x.c) (clsF x.c) C/\∃l,H dx=some (.xd l)/\l.map (·.1)=clsF x.c/\RUs K H x.fs (l.map (·.2))
def XAt (X:Cx)(H:Hp)(s:Shared)(e:Value)(x:XV):Prop:=∃ea C dx,e=.ref ea/\Lies X.s₀.heap.objs.size X.pn H s.heap ea (.ref C) (some dx)/\XD X.K H C dx x
section
variable (X:Cx)
def LX (σ:St)(H:Hp)(G:Gp)(E:KX):Prop:=∀(pins:List (Addr×Obj)) (e:Value) (s':Shared) (x:XV) (G':Gp) (H':Hp),Inv X pins σ H' s'->XAt X H' s' e x->HR X.K H' G'->Fr H G H' G'->E x G'->X.xe e s'
def LV (H:Hp)(G:Gp)(Q:K1)(Q0:VK):Prop:=∀w v G' H',RU X.K H' w v->HR X.K H' G'->Fr H G H' G'->Q w G'->Q0 v H'
def lE (t:UE):TE:=λσ H Q0=>∃ς G Q E,SR X.K H ς σ/\HR X.K H G/\t ς G Q E/\LV X H G Q Q0/\LX X σ H G E
def lT (t:UT):TT:=λσ H Q0=>∃ς G Q E,SR X.K H ς σ/\HR X.K H G/\t ς G Q E/\(∀b G' H',HR X.K H' G'->Fr H G H' G'->Q b G'->Q0 b H')/\LX X σ H G E
def lA (t:UA):TA:=λσ H Q0=>∃ς G Q E,SR X.K H ς σ/\HR X.K H G/\t ς G Q E/\(∀ws vs G' H',RUs X.K H' ws vs->HR X.K H' G'->Fr H G H' G'->Q ws G'->Q0 vs H')/\LX X σ H G E
def lO (t:Sg->Gp->(Option Int->Gp->Prop)->KX->Prop):TO:=λσ H Q0=>∃ς G Q E,SR X.K H ς σ/\HR X.K H G/\t ς G Q E/\(∀o G' H',HR X.K H' G'->Fr H G H' G'->Q o G'->Q0 o H')/\LX X σ H G E
end
section
variable {X:Cx}{σ:St}{H H1 H2:Hp}{G G1 G2:Gp}
theorem LX.fr {E:KX}(h:LX X σ H G E)(f:Fr H G H1 G1):LX X σ H1 G1 E:=λpins e s' x G' H' I a hr f' q=>h pins e s' x G' H' I a hr (f.trans f') q
section
variable {Q:K1}{Q0:VK}
theorem LV.fr (h:LV X H G Q Q0)(f:Fr H G H1 G1):LV X H1 G1 Q Q0:=λw v G' H' r hr f' q=>h w v G' H' r hr (f.trans f') q
theorem LV.here (h:LV X H G Q Q0){w:U}{v:V}(r:RU X.K H w v)(hr:HR X.K H G)(q:Q w G):Q0 v H:=h w v G H r hr (Fr.refl _ _) q
theorem LV.bl (h:LV X H G Q Q0){b:Bool}(hr:HR X.K H G)(q:Q (.bl b) G):Q0 (.bl b) H:=h.here (w:=.bl b) rfl hr q
theorem LV.int (h:LV X H G Q Q0){b:Int}(hr:HR X.K H G)(q:Q (.int b) G):Q0 (.int b) H:=h.here (w:=.int b) rfl hr q
theorem LV.str (h:LV X H G Q Q0){b:Str}(hr:HR X.K H G)(q:Q (.str b) G):Q0 (.str b) H:=h.here (w:=.str b) rfl hr q
theorem LV.tup (h:LV X H G Q Q0){p:Addr}{us:List U}{vs:List V}(e:H p=none)(r:RUs X.K H us vs)(hr:HR X.K H G)(q:Q (.tup us) G):Q0 (.ref p) (upd H p (.tup vs)):=
 h (.tup us) (.ref p) G _ ⟨p,vs,rfl,jan,r.ts (TS.new e)⟩ (hr.newT e) (Fr.new e) q
theorem LV.lst (h:LV X H G Q Q0){p:Addr}{us:List U}{vs:List V}(e:H p=none)(r:RUs X.K H us vs)(hr:HR X.K H G)(q:newO G (.lst us) Q):Q0 (.ref p) (upd H p (.lst vs)):=
 h (.loc p) (.ref p) _ _ rfl (hr.newO (mo:=.lst us) e ⟨vs,jan,r.ts (TS.new e)⟩) (Fr.newO e) (q.at p (hr.nope e))
theorem LV.wl (h:LV X H G Q Q0){p:Addr}{us:List U}{vs:List V}{mo:MO}(g:G p=some mo)(r:RUs X.K H us vs)(hr:HR X.K H G){w:U}{v:V}(rw':RU X.K H w v)(q:putO G p (.lst us) (Q w)):Q0 v (upd H p (.lst vs)):=
 h w v _ _ (rw'.ts (TS.write hr g)) (hr.write (mo':=.lst us) g ⟨vs,jan,r.ts (TS.write hr g)⟩) (Fr.write g) q.at
end
end
section
variable {X:Cx}{σ:St}{H:Hp}{Q0:VK}{ta tb:UE}
theorem lE.two {R:V->V->Hp->Prop}{k:U->U->Gp->K1->Prop}(h:lE X (λς G Q E=>ta ς G (λx G1=>tb ς G1 (λy G2=>k x y G2 Q) E) E) σ H Q0)
  (f:∀x y v v' G H' Q,RU X.K H' x v->RU X.K H' y v'->HR X.K H' G->k x y G Q->LV X H' G Q Q0->R v v' H'):lE X ta σ H λv H1=>lE X tb σ H1 λv' H2=>R v v' H2:=by
 obtain⟨ς,G,Q,E,hς,hG,h,lv,lx⟩:=h;refine⟨ς,G,_,E,hς,hG,h,λx v G1 H1 rx hG1 f1 h1=>?_,lx⟩;refine⟨ς,G1,_,E,hς.ts (f1.ts hG),hG1,h1,λy v' G2 H2 ry hG2 f2 h2=>?_,lx.fr f1⟩;exact f x y v v' G2 H2 Q (rx.ts (f2.ts hG1)) ry hG2 h2 (lv.fr (f1.trans f2))
theorem lE.one {R:V->Hp->Prop}{k:U->Gp->K1->Prop}(h:lE X (λς G Q E=>ta ς G (λx G1=>k x G1 Q) E) σ H Q0)
  (f:∀x v G H' Q,RU X.K H' x v->HR X.K H' G->k x G Q->LV X H' G Q Q0->R v H'):lE X ta σ H R:=by
 obtain⟨ς,G,Q,E,hς,hG,h,lv,lx⟩:=h;exact⟨ς,G,_,E,hς,hG,h,λx v G1 H1 rx hG1 f1 h1=>f x v G1 H1 Q rx hG1 h1 (lv.fr f1),lx⟩
theorem lE.many {ta:UA}{R:List V->Hp->Prop}{k:List U->Gp->K1->Prop}(h:lE X (λς G Q E=>ta ς G (λx G1=>k x G1 Q) E) σ H Q0)
  (f:∀x v G H' Q,RUs X.K H' x v->HR X.K H' G->k x G Q->LV X H' G Q Q0->R v H'):lA X ta σ H R:=by
 obtain⟨ς,G,Q,E,hς,hG,h,lv,lx⟩:=h;exact⟨ς,G,_,E,hς,hG,h,λx v G1 H1 rx hG1 f1 h1=>f x v G1 H1 Q rx hG1 h1 (lv.fr f1),lx⟩
end
section
variable {X:Cx}{pos:Pos}
theorem jnx {i:Nat}{x:Str}(hN:X.N[i]?=some x)(hv:Vis X.env.scope x)(hd:(x==("__debug__" : Str))=false)(hcd:(x==("__classdict__" : Str))=false):PE X (.Name x pos) (lE X λς G Q _=>slot ς i λu=>Q u G):=by
 refine(jlH hN hv hd hcd).imp λσ H Q0 h=>?_;obtain⟨ς,G,Q,E,hς,hG,h,lv,_⟩:=h;unfold slot at h;split at h
 ·rename_i u e;obtain⟨v,e1,r⟩:=hς.2 i u e;exact⟨v,e1,lv.here r hG h⟩
 ·exact h.elim
theorem jcR {e:Expr}{u:U}{v:V}(h:PE X e (tC v))(r:∀H,RU X.K H u v):PE X e (lE X λ_ G Q _=>Q u G):=
 h.imp λ_ _ _ ⟨_,_,_,_,_,hG,q,lv,_⟩=>lv.here (r _) hG q
end
def OpU (X:Cx)(f:Value->Value->Sem Value)(b:U->U->Gp->K1->Prop):Prop:=
 ∃r:R2,OpR X f r/\∀x y v v' G H Q Q0,RU X.K H x v->RU X.K H y v'->HR X.K H G->b x y G Q->LV X H G Q Q0->r v v' H Q0
section
variable {X:Cx}{pos:Pos}{a b c:Expr}{ta tb tc:UE}
theorem jnO {o:YbP}{k:U->U->Gp->K1->Prop}(ho:OpU X (Yba o) k)(ha:PE X a (lE X ta))(hb:PE X b (lE X tb)) :
  PE X (.BinOp a o b pos) (lE X λς G Q E=>ta ς G (λx G1=>tb ς G1 (λy G2=>k x y G2 Q) E) E):=by
 obtain⟨r,h1,h2⟩:=ho;exact(joj h1 ha hb).imp λσ H Q0 h=>lE.two h λx y v v' G H' Q rx ry hG q lv=>h2 x y v v' G H' Q Q0 rx ry hG q lv
theorem jlY:OpU X (Yba .Add) addU:=by
 refine⟨_,jma.or (jfV.or ((jjR (X:=X)).or (jl9.or jjS))),?_⟩;intro x y v v' G H Q Q0 rx ry hG h lv;cases x<;>try exact h.elim
 ·cases y<;>try exact h.elim
  cases rx;cases ry;exact .inr (.inr (.inr (.inr ⟨_,_,rfl,rfl,lv.int hG h⟩)))
 ·cases y<;>try exact h.elim
  cases rx;cases ry;exact .inl ⟨_,_,rfl,rfl,lv.int hG h⟩
 ·cases y<;>try exact h.elim
  cases rx;cases ry;exact .inr (.inl ⟨_,_,rfl,rfl,h.1,lv.str hG h.2⟩)
 ·cases y<;>try exact h.elim
  rename_i xs ys;obtain⟨a,vs,rfl,s1,r1⟩:=rx;obtain⟨b,ws,rfl,s2,r2⟩:=ry;obtain⟨hl,q⟩:=h;refine .inr (.inr (.inl ⟨a,b,vs,ws,rfl,rfl,.of s1,.of s2,by rw[<- r1.length,<- r2.length];exact hl,λz=>?_,λ_ z=>?_,λ_ _ p hp=>?_⟩))
  ·have:xs=[]:=by have:=r1.length;rw[z]at this;simpa using this
   subst this;exact lv.here (w:=.tup ys) ⟨b,ws,rfl,s2,r2⟩ hG q
  ·have:ys=[]:=by have:=r2.length;rw[z]at this;simpa using this
   subst this;rw[Yc2]at q;exact lv.here (w:=.tup xs) ⟨a,vs,rfl,s1,r1⟩ hG q
  ·exact lv.tup hp (r1.append r2) hG q
 ·cases y<;>try exact h.elim
  cases rx;cases ry;obtain⟨xs,ys,g1,g2,hl,q⟩:=h;obtain⟨vs,e1,r1⟩:=hG.lst g1;obtain⟨ws,e2,r2⟩:=hG.lst g2;exact .inr (.inr (.inr (.inl ⟨_,_,vs,ws,rfl,rfl,e1,e2,by rw[<- r1.length,<- r2.length];exact hl,λp hp=>lv.lst hp (r1.append r2) hG q⟩)))
theorem jlT:OpU X (Yba .Sub) subU:=by
 refine⟨_,jlZ.or (jjM (X:=X)),?_⟩;intro x y v v' G H Q Q0 rx ry hG h lv;unfold subU at h;split at h
 ·cases rx;cases ry;exact .inl ⟨_,_,rfl,rfl,lv.int hG h⟩
 ·cases rx;cases ry;exact .inr (.inl ⟨_,_,rfl,rfl,lv.int hG h⟩)
 ·cases rx;cases ry;exact .inr (.inr ⟨_,_,rfl,rfl,lv.int hG h⟩)
 ·exact h.elim
theorem jlV:OpU X (Yba .Mult) mulU:=by
 refine⟨_,jl3.or (jl0.or ((jjN (X:=X)).or jjO)),?_⟩;intro x y v v' G H Q Q0 rx ry hG h lv;unfold mulU at h;split at h
 ·cases rx;cases ry;exact .inl ⟨_,_,rfl,rfl,h.1,lv.int hG h.2⟩
 ·cases rx;cases ry;obtain⟨xs,g1,h1,h2,hl,q⟩:=h;obtain⟨vs,e1,r1⟩:=hG.lst g1;exact .inr (.inl ⟨_,_,vs,rfl,rfl,e1,h1,h2,by rw[<- r1.length];exact hl,λp hp=>lv.lst hp (r1.rep _) hG q⟩)
 ·rename_i xs k;obtain⟨a,vs,rfl,s1,r1⟩:=rx;cases ry;obtain⟨h0,h1,h2,hl,q⟩:=h;refine .inr (.inr (.inl ⟨a,k,vs,rfl,rfl,.of s1,?_,h1,h2,by rw[<- r1.length];exact hl,λz=>?_,λ_ p hp=>lv.tup hp (r1.rep _) hG q⟩))
  ·intro z;subst z;exact h0 (by have:=r1.length;simpa using this)
  ·subst z;have e:(Yaf (Int.toNat 1) xs).flatten=xs:=by simp
   rw[e]at q;exact lv.here (w:=.tup xs) ⟨a,vs,rfl,s1,r1⟩ hG q
 ·cases rx;cases ry;exact .inr (.inr (.inr ⟨_,_,rfl,rfl,h.1,h.2.1,h.2.2.1,lv.str hG h.2.2.2⟩))
 ·exact h.elim
theorem jjL:OpU X (Yba .FloorDiv) jkD:=by
 refine⟨_,jjP,?_⟩;intro x y v v' G H Q Q0 rx ry hG h lv;unfold jkD at h;split at h
 ·cases rx;cases ry;exact⟨_,_,rfl,rfl,⟨h.1,h.2.1⟩,lv.int hG h.2.2⟩
 ·exact h.elim
theorem jlW:OpU X (Yba .Mod) modU:=by
 refine⟨_,jl4,?_⟩;intro x y v v' G H Q Q0 rx ry hG h lv;unfold modU at h;split at h
 ·cases rx;cases ry;exact⟨_,_,rfl,rfl,h.1,lv.int hG h.2⟩
 ·exact h.elim
theorem jlU:OpU X (Yba .Pow) powU:=by
 refine⟨_,jl1,?_⟩;intro x y v v' G H Q Q0 rx ry hG h lv;unfold powU at h;split at h
 ·cases rx;cases ry;exact⟨_,_,rfl,rfl,h.1,lv.int hG h.2⟩
 ·exact h.elim
theorem jlX (o:YbP):OpU X (Yba o) (binU o):=by
 cases o with
 |Add=>exact jlY
 |Sub=>exact jlT
 |Mult=>exact jlV
 |FloorDiv=>exact jjL
 |Mod=>exact jlW
 |Pow=>exact jlU
 |_=>exact⟨λ_ _ _ _=>False,λ_ _ _ _ _ _ _ _ _ _ _ _ h=>h.elim,λ_ _ _ _ _ _ _ _ _ _ _ h _=>h⟩
theorem jnF (ha:PE X a (lE X ta)):PE X (.UnaryOp .USub a pos) (lE X λς G Q E=>ta ς G (λx G1=>negU x G1 Q) E):=by
 refine(joi jkP ha).imp λσ H Q0 h=>lE.one h λx v G H' Q rx hG q lv=>?_;unfold negU at q;split at q
 ·cases rx;exact⟨_,rfl,lv.int hG q⟩
 ·exact q.elim
end
def CmU (X:Cx)(o:CmpOp):Prop:=
 ∃r:R2,OpR X (YaR o) r/\∀x y v v' G H (k:Bool->Prop) (Q0:VK),RU X.K H x v->RU X.K H y v'->HR X.K H G->cmpU o x y G k->(∀c,k c->Q0 (.bl c) H)->r v v' H Q0
section
variable {X:Cx}
def rIs (neg:Bool):R2:=λx y H Q=>((x=.non\/∃b,x=.bl b)\/(y=.non\/∃b,y=.bl b))/\Q (.bl (if neg then !decide (x=y) else decide (x=y))) H
theorem jhN {x y:V}{v u:Value}(rx:RelV x v)(ry:RelV y u)(h:(x=.non\/∃b,x=.bl b)\/(y=.non\/∃b,y=.bl b)):plainIs v u=true/\(v==u)=decide (x=y):=by
 rcases h with(rfl|⟨b,rfl⟩)|(rfl|⟨b,rfl⟩)
 ·cases rx;cases y with
  |non=>cases ry;exact⟨rfl,by simp⟩
  |bl c=>cases ry;exact⟨rfl,by simp⟩
  |int _=>obtain⟨t,rfl⟩:=ry;exact⟨rfl,by simp⟩
  |str _=>obtain⟨t,rfl⟩:=ry;exact⟨rfl,by simp⟩
  |byt _=>obtain⟨t,rfl⟩:=ry;exact⟨rfl,by simp⟩
  |flt _=>obtain⟨t,rfl⟩:=ry;exact⟨rfl,by simp⟩
  |ref _=>cases ry;exact⟨rfl,by simp⟩
  |ty _=>cases ry;exact⟨rfl,by simp⟩
 ·cases rx;cases y with
  |non=>cases ry;exact⟨rfl,by simp⟩
  |bl c=>cases ry;exact⟨rfl,by cases b<;>cases c<;>rfl⟩
  |int _=>obtain⟨t,rfl⟩:=ry;exact⟨rfl,by simp⟩
  |str _=>obtain⟨t,rfl⟩:=ry;exact⟨rfl,by simp⟩
  |byt _=>obtain⟨t,rfl⟩:=ry;exact⟨rfl,by simp⟩
  |flt _=>obtain⟨t,rfl⟩:=ry;exact⟨rfl,by simp⟩
  |ref _=>cases ry;exact⟨rfl,by simp⟩
  |ty _=>cases ry;exact⟨rfl,by simp⟩
 ·cases ry;cases x with
  |non=>cases rx;exact⟨rfl,by simp⟩
  |bl c=>cases rx;exact⟨rfl,by simp⟩
  |int _=>obtain⟨t,rfl⟩:=rx;exact⟨rfl,by simp⟩
  |str _=>obtain⟨t,rfl⟩:=rx;exact⟨rfl,by simp⟩
  |byt _=>obtain⟨t,rfl⟩:=rx;exact⟨rfl,by simp⟩
  |flt _=>obtain⟨t,rfl⟩:=rx;exact⟨rfl,by simp⟩
  |ref _=>cases rx;exact⟨rfl,by simp⟩
  |ty _=>cases rx;exact⟨rfl,by simp⟩
 ·cases ry;cases x with
  |non=>cases rx;exact⟨rfl,by simp⟩
  |bl c=>cases rx;exact⟨rfl,by cases b<;>cases c<;>rfl⟩
  |int _=>obtain⟨t,rfl⟩:=rx;exact⟨rfl,by simp⟩
  |str _=>obtain⟨t,rfl⟩:=rx;exact⟨rfl,by simp⟩
  |byt _=>obtain⟨t,rfl⟩:=rx;exact⟨rfl,by simp⟩
  |flt _=>obtain⟨t,rfl⟩:=rx;exact⟨rfl,by simp⟩
  |ref _=>cases rx;exact⟨rfl,by simp⟩
  |ty _=>cases rx;exact⟨rfl,by simp⟩
theorem jl5:OpR X (YaR .Is) (rIs false):=by
 intro pins s σ H x y v u Q I rx ry h;obtain⟨c,q⟩:=h;obtain⟨h1,h2⟩:=jhN rx ry c;refine wpAny_is_plain h1 ⟨.bl _,H,I,?_,q⟩;rw[h2];rfl
theorem jmA {K:Yac}{H:Hp}{x y:U}{v v':V}{k:Bool->Prop}(rx:RU K H x v)(ry:RU K H y v')(h:isU x y k):((v=.non\/∃b,v=.bl b)\/(v'=.non\/∃b,v'=.bl b))/\k (decide (v=v')):=by
 have e:∀{a b:V},a≠b->k false->k (decide (a=b)):=λn q=>by rw[decide_eq_false n];exact q
 cases x<;>try exact h.elim
 ·cases y
  case non=>have h':k true:=h;cases rx;cases ry;exact⟨.inl (.inl rfl),by simpa using h'⟩
  all_goals first
   |exact h.elim
   |(cases rx;obtain⟨a,vs,rfl,_⟩:=ry;exact⟨.inl (.inl rfl),e (λz=>nomatch z) h⟩)
   |(cases rx;cases ry;exact⟨.inl (.inl rfl),e (λz=>nomatch z) h⟩)
 ·cases y<;>first
   |exact h.elim
   |(cases rx;cases ry;exact⟨.inr (.inl rfl),e (λz=>nomatch z) h⟩)
   |(cases rx;cases ry;rename_i b c;exact⟨.inl (.inr ⟨_,rfl⟩),by rw[decide_eq_decide.mpr (⟨λz=>V.bl.inj z,λz=>z ▸ rfl⟩:V.bl b=.bl c↔b=c)];exact h⟩)
 ·cases y<;>first
   |exact h.elim
   |(cases rx;cases ry;exact⟨.inr (.inl rfl),e (λz=>nomatch z) h⟩)
   |(cases rx;cases ry;exact⟨.inr (.inr ⟨_,rfl⟩),e (λz=>nomatch z) h⟩)
 ·cases y<;>first
   |exact h.elim
   |(cases rx;cases ry;exact⟨.inr (.inl rfl),e (λz=>nomatch z) h⟩)
   |(cases rx;cases ry;exact⟨.inr (.inr ⟨_,rfl⟩),e (λz=>nomatch z) h⟩)
 ·cases y<;>first
   |exact h.elim
   |(cases ry;obtain⟨a,vs,rfl,_⟩:=rx;exact⟨.inr (.inl rfl),e (λz=>nomatch z) h⟩)
   |(cases ry;obtain⟨a,vs,rfl,_⟩:=rx;exact⟨.inr (.inr ⟨_,rfl⟩),e (λz=>nomatch z) h⟩)
 ·cases y<;>first
   |exact h.elim
   |(cases rx;cases ry;exact⟨.inr (.inl rfl),e (λz=>nomatch z) h⟩)
   |(cases rx;cases ry;exact⟨.inr (.inr ⟨_,rfl⟩),e (λz=>nomatch z) h⟩)
theorem jiR {H:Hp}{G:Gp}{x y:U}{v v':V}{k:Bool->Prop}(rx:RU X.K H x v)(ry:RU X.K H y v')(hG:HR X.K H G)(h:eqU x y G k) :
  (scal v v'=true/\k (decide (v=v')))\/∃d e,DV X.K H v d/\DV X.K H v' e/\d.canLay0=true/\e.canLay0=true/\d.depth<=100/\k (YaG d e):=by
 have g:(∃d e,DU G x d/\DU G y e/\Small d/\Small e/\k (YaG d e))->(scal v v'=true/\k (decide (v=v')))\/∃d e,DV X.K H v d/\DV X.K H v' e/\d.canLay0=true/\e.canLay0=true/\d.depth<=100/\k (YaG d e):=
  λ⟨d,e,h1,h2,⟨s1,s2⟩,⟨s3,_⟩,q⟩=>.inr ⟨d,e,h1.dv hG rx,h2.dv hG ry,s1,s3,s2,q⟩
 have e:∀{p:Prop} [Decidable p],¬p->k false->k (decide p):=λn q=>by rw[decide_eq_false n];exact q
 cases x<;>try exact g h
 all_goals
  cases y<;>first
   |exact g h
   |(cases rx;cases ry;exact .inl ⟨rfl,e (λz=>V.noConfusion z) h⟩)
   |(cases rx;cases ry;exact .inl ⟨rfl,by simp only[V.bl.injEq,V.int.injEq,V.str.injEq];exact h⟩)
theorem jgp {K:Yac}{H:Hp}{us:List U}{vs:List V}(r:RUs K H us vs):vs.isEmpty=us.isEmpty:=by
 have:=r.length;cases us<;>cases vs<;>first|rfl|cases this
theorem jkE {H:Hp}{G:Gp}{x y:U}{v v':V}{k:Bool->Prop}(rx:RU X.K H x v)(ry:RU X.K H y v')(hG:HR X.K H G)(h:eqQ x y G k):eqU x y G k\/(∃a z kvs,v=.ref a/\v'=.str z/\H a=some (.dK kvs)/\k false)\/(∃a b xs,v=.ref a/\v'=.ref b/\SqT X.K H a xs/\SqT X.K H b []/\k xs.isEmpty)\/∃a z xs,v=.ref a/\v'=.str z/\(SqT X.K H a xs\/SqL X.K H a xs)/\k false:=by
 unfold eqQ at h;split at h
 ·rcases h with⟨kvs,g,q⟩|⟨xs,g,q⟩|h
  ·cases rx;cases ry;obtain⟨l,e,rs⟩:=hG _ _ g;exact .inr (.inl ⟨_,_,l,rfl,rfl,e,q⟩)
  ·cases rx;cases ry;obtain⟨vs,e,rs⟩:=hG.lst g;exact .inr (.inr (.inr ⟨_,_,vs,rfl,rfl,.inr (.of e),q⟩))
  ·exact .inl h
 ·obtain⟨a,vs,rfl,s1,r1⟩:=rx;obtain⟨b,ws,rfl,s2,r2⟩:=ry;cases r2;refine .inr (.inr (.inl ⟨a,b,vs,rfl,rfl,.of s1,.of s2,?_⟩));rw[jgp r1];exact h
 ·obtain⟨a,vs,rfl,s1,r1⟩:=rx;cases ry;exact .inr (.inr (.inr ⟨a,_,vs,rfl,rfl,.inl (.of s1),h⟩))
 ·exact .inl h
section
variable {K:Yac}{H:Hp}
theorem je2 {x:U}{v:V}{k:Key}(r:RU K H x v)(e:kU x=some k):v=kV k:=by
 cases x with
 |int i=>cases r;cases e;rfl
 |str i=>cases r;cases e;rfl
 |_=>cases e
theorem jfw:∀{xs:List U} {vs:List V} {ks:List Key},RUs K H xs vs->kUs xs=some ks->vs=ks.map kV
 |[],_,_,r,e=>by cases r;cases e;rfl
 |x::xs,_,ks,r,e=>by
  obtain⟨v,vr,rfl,r1,rs⟩:=r;rw[kUs]at e;cases h1:kU x with
  |none=>rw[h1]at e;cases e
  |some k=>
   cases h2:kUs xs with
   |none=>rw[h1,h2]at e;cases e
   |some l=>
    rw[h1,h2]at e;cases e;rw[je2 r1 h1,jfw rs h2];rfl
theorem jd3 {x:U}{v:V}(r:RU K H x v)(e:flat x=true):jcF v=true:=by
 cases x<;>first|(cases r;rfl)|exact absurd (show false=true from e) (by decide)
theorem jcM:∀{xs:List U} {vs:List V},RUs K H xs vs->xs.all flat=true->vs.all jcF=true
 |[],_,r,_=>by cases r;rfl
 |x::xs,_,r,e=>by
  obtain⟨v,vr,rfl,r1,rs⟩:=r;rw[YcP,Yaz]at e;rw[YcP,jd3 r1 e.1,jcM rs e.2];rfl
theorem jmF {x y:U}{v v':V}(r:RU K H x v)(r':RU K H y v')(e:flat x=true)(e':flat y=true):eqV v v'=eqF x y:=by
 cases x<;>first|(exact absurd (show false=true from e) (by decide))|(cases y<;>first|(exact absurd (show false=true from e') (by decide))|(cases r;cases r';rfl))
theorem jfK {x:U}{v:V}(r:RU K H x v)(e:flat x=true):∀{xs:List U} {vs:List V},RUs K H xs vs->xs.all flat=true->inV v vs=xs.any λy=>eqF y x
 |[],_,rs,_=>by cases rs;rfl
 |y::xs,_,rs,e'=>by
  obtain⟨v',vr,rfl,r1,rs⟩:=rs;rw[YcP,Yaz]at e';have ih:=jfK r e rs e'.2;unfold inV at ih ⊢;rw[Ybp,Ybp,jmF r1 r e'.1 e,ih]
end
theorem jcP {κ:Type}[DecidableEq κ]{K:Yac}{H:Hp}(k:κ):∀{kvs:List (κ×U)} {l:List (κ×V)},RKs K H kvs l->match dGet kvs k with|some u=>∃v,valV l k=some v/\RU K H u v|none=>valV l k=none
 |[],_,r=>by cases r;exact rfl
 |(k',u)::kvs,_,r=>by
  obtain⟨v,l',rfl,r1,rs⟩:=r;by_cases e:k'=k
  ·subst e;have:dGet ((k',u)::kvs) k'=some u:=by simp[dGet,Ybx]
   rw[this];exact⟨v,jcG rfl,r1⟩
  ·have:dGet ((k',u)::kvs) k=dGet kvs k:=by simp[dGet,Ybx,e]
   rw[this,jcH (p:=(k',v)) e];exact jcP k rs
theorem jc6 {κ:Type}[DecidableEq κ]{K:Yac}{H:Hp}(k:κ){kvs:List (κ×U)}{l:List (κ×V)}(r:RKs K H kvs l):(valV l k).isSome=(dGet kvs k).isSome:=by
 have:=jcP k r;cases e:dGet kvs k with
 |none=>rw[e]at this;rw[show valV l k=none from this];rfl
 |some u=>rw[e]at this;obtain⟨v,h,_⟩:=this;rw[h];rfl
def rDIn (neg:Bool):R2:=λx y H Q=>∃a o,y=.ref a/\DGet H a x o/\Q (.bl (if neg then !o.isSome else o.isSome)) H
theorem jl8 (hu:X.A.units+1<cLine):OpR X (YaR .In) (rDIn false):=by
 intro pins s σ H x y v u Q I rx ry h;obtain⟨a,o,rfl,g,q⟩:=h;cases ry;exact d_in hu I g rx λs' I'=>⟨.bl o.isSome,H,I',rfl,q⟩
theorem jgC (hu:X.A.units+1<cLine):OpR X (YaR .NotIn) (rDIn true):=by
 intro pins s σ H x y v u Q I rx ry h;obtain⟨a,o,rfl,g,q⟩:=h;cases ry;exact jkG hu I g rx λs' I'=>⟨.bl (!o.isSome),H,I',rfl,q⟩
theorem jd0 {K:Yac}{H:Hp}:∀{ns:List Int} {vs:List V},RUs K H (ns.map .int) vs->vs=ns.map V.int
 |[],_,h=>h
 |n::ns,_,h=>by
  obtain⟨v,vr,rfl,h1,h2⟩:=h;rw[jd0 h2];have h1:v=.int n:=h1;rw[h1];rfl
theorem jiK {H:Hp}{G:Gp}{x y:U}{v v':V}{k:Bool->Prop}(rx:RU X.K H x v)(ry:RU X.K H y v')(hG:HR X.K H G)(h:inU x y G k) :
  (∃i j,v=.str i/\v'=.str j/\k (!(YbU j i 0 j.length 1).isEmpty))\/(∃p xs,v'=.ref p/\(SqL X.K H p xs\/SqT X.K H p xs)/\jcF v=true/\xs.all jcF=true/\k (inV v xs))\/
   (∃a o,v'=.ref a/\DGet H a v o/\k o.isSome)\/∃(p:Addr) (vs:List V) (d:PyData) (ds:List PyData),v'=.ref p/\SqL X.K H p vs/\DV X.K H v d/\DVs X.K H vs ds/\d.canLay0=true/\d.depth<=100/\(∀e∈ds,e.canLay0=true)/\k (ds.any λe=>YaG e d):=by
 unfold inU at h;split at h
 ·cases rx;cases ry;exact .inl ⟨_,_,rfl,rfl,h⟩
 ·obtain⟨a,vs,rfl,e,rs⟩:=ry;obtain⟨f1,f2,q⟩:=h;exact .inr (.inl ⟨a,vs,rfl,.inr (.of e),jd3 rx f1,jcM rs f2,by rw[jfK rx f1 rs f2];exact q⟩)
 ·cases ry;rename_i a;split at h
  ·rename_i ys g;obtain⟨vs,e,rs⟩:=hG.lst g;rcases h with⟨f1,f2,q⟩|⟨d,ds,hd,hds,sd,sds,q⟩
   ·exact .inr (.inl ⟨a,vs,rfl,.inl (.of e),jd3 rx f1,jcM rs f2,by rw[jfK rx f1 rs f2];exact q⟩)
   ·exact .inr (.inr (.inr ⟨a,vs,d,ds,rfl,.inl (.of e),hd.dv hG rx,hds.dv hG rs,sd.1,sd.2,λe he=>(sds e he).1,q⟩))
  ·rename_i ys g;obtain⟨ob,vs,e,rs⟩:=hG a _ g;obtain⟨f1,f2,q⟩:=h;exact .inr (.inl ⟨a,vs,rfl,.inl (.inl (.inr ⟨ob,e⟩)),jd3 rx f1,jcM rs f2,by rw[jfK rx f1 rs f2];exact q⟩)
  ·rename_i kvs g;obtain⟨l,e,rs⟩:=hG a _ g;split at h
   ·rename_i y ek;have:=je2 rx ek;subst this;exact .inr (.inr (.inl ⟨a,_,rfl,DGet.k e,by rw[jc6 y rs];exact h⟩))
   ·exact h.elim
  ·rename_i kvs g;obtain⟨l,e,rs⟩:=hG a _ g;split at h
   ·rename_i xs;obtain⟨b,vs,rfl,eb,rb⟩:=rx;split at h
    ·rename_i y ek;have:=jfw rb ek;subst this;exact .inr (.inr (.inl ⟨a,_,rfl,DGet.t e eb,by rw[jc6 y rs];exact h⟩))
    ·exact h.elim
   ·exact h.elim
  ·rename_i o kvs g;obtain⟨l,e,rs⟩:=hG a _ g;split at h
   ·rename_i y ek;have:=je2 rx ek;subst this;exact .inr (.inr (.inl ⟨a,_,rfl,.inl ⟨l,y,.inr ⟨o,e⟩,rfl,rfl⟩,by rw[jc6 y rs];exact h⟩))
   ·exact h.elim
  ·exact h.elim
 ·exact h.elim
theorem jeW {o:CmpOp}{x y:U}{k:Bool->Prop}(h:ordU o x y k):(∃i j,x=.int i/\y=.int j)\/(o=.LtE/\∃i j,x=.str i/\y=.str j):=by
 unfold ordU at h;split at h<;>first|exact .inl ⟨_,_,rfl,rfl⟩|exact .inr ⟨rfl,_,_,rfl,rfl⟩|exact h.elim
theorem jdK {k:Nat}(hr:Room k X.A)(o:CmpOp):CmU X o:=by
 have hu:X.A.units+1<cLine:=by have:=hr.un;omega
 cases o with
 |Eq=>
  refine⟨_,jor.or ((jl7 hr).or ((jdW hr).or ((jfU hr).or (jeo hr)))),λx y v v' G H k Q0 rx ry hG h q=>?_⟩;rcases jkE rx ry hG h with h|⟨a,z,kvs,h1,h2,h3,h4⟩|⟨a,b,xs,h1,h2,h3,h4,h5⟩|⟨a,z,xs,h1,h2,h3,h4⟩
  ·rcases jiR rx ry hG h with⟨h1,h2⟩|⟨d,e,h1,h2,h3,h4,h5,h6⟩
   ·exact .inl ⟨h1,q _ h2⟩
   ·exact .inr (.inl ⟨d,e,h1,h2,h3,h4,h5,q _ h6⟩)
  ·exact .inr (.inr (.inl ⟨a,z,kvs,h1,h2,h3,q _ h4⟩))
  ·exact .inr (.inr (.inr (.inl ⟨a,b,xs,h1,h2,h3,h4,q _ h5⟩)))
  ·exact .inr (.inr (.inr (.inr ⟨a,z,xs,h1,h2,h3,q _ h4⟩)))
 |NotEq=>
  refine⟨_,jon.or (jl2 hr),λx y v v' G H k Q0 rx ry hG h q=>?_⟩;rcases jiR rx ry hG h with⟨h1,h2⟩|⟨d,e,h1,h2,h3,h4,h5,h6⟩
  ·exact .inl ⟨h1,q _ h2⟩
  ·exact .inr ⟨d,e,h1,h2,h3,h4,h5,q _ h6⟩
 |Is=>
  refine⟨_,jl5,λx y v v' G H k Q0 rx ry hG h q=>?_⟩;obtain⟨h1,h2⟩:=jmA rx ry h;exact⟨h1,q _ h2⟩
 |IsNot=>exact⟨λ_ _ _ _=>False,λ_ _ _ _ _ _ _ _ _ _ _ _ h=>h.elim,λ_ _ _ _ _ _ _ _ _ _ _ h _=>h.elim⟩
 |In=>
  refine⟨_,jgA.or ((jgB (X:=X)).or ((jl8 hu).or (jl6 hr))),λx y v v' G H k Q0 rx ry hG h q=>?_⟩;rcases jiK rx ry hG h with⟨i,j,h1,h2,h3⟩|⟨p,xs,h1,h2,h3,h4,h5⟩|⟨a,o,h1,h2,h3⟩|⟨p,vs,d,ds,h1,h2,h3,h4,h5,h6,h7,h8⟩
  ·exact .inl ⟨i,j,h1,h2,q _ h3⟩
  ·exact .inr (.inl ⟨p,xs,h1,h2,h3,h4,q _ h5⟩)
  ·exact .inr (.inr (.inl ⟨a,o,h1,h2,q _ h3⟩))
  ·exact .inr (.inr (.inr ⟨p,vs,d,ds,h1,h2,h3,h4,h5,h6,h7,q _ h8⟩))
 |NotIn=>
  refine⟨_,jem.or ((jen (X:=X)).or ((jgC hu).or (jgy hr))),λx y v v' G H k Q0 rx ry hG h q=>?_⟩;rcases jiK rx ry hG h with⟨i,j,h1,h2,h3⟩|⟨p,xs,h1,h2,h3,h4,h5⟩|⟨a,o,h1,h2,h3⟩|⟨p,vs,d,ds,h1,h2,h3,h4,h5,h6,h7,h8⟩
  ·exact .inl ⟨i,j,h1,h2,q _ h3⟩
  ·exact .inr (.inl ⟨p,xs,h1,h2,h3,h4,q _ h5⟩)
  ·exact .inr (.inr (.inl ⟨a,o,h1,h2,q _ h3⟩))
  ·exact .inr (.inr (.inr ⟨p,vs,d,ds,h1,h2,h3,h4,h5,h6,h7,q _ h8⟩))
 |Lt=>
  refine⟨_,joo,λx y v v' G H k Q0 rx ry hG h q=>?_⟩;obtain⟨i,j,rfl,rfl⟩|⟨z,_⟩:=jeW h
  rotate_left
  ·cases z
  cases rx;cases ry;exact⟨_,_,rfl,rfl,q _ h⟩
 |LtE=>
  refine⟨_,jop.or jgz,λx y v v' G H k Q0 rx ry hG h q=>?_⟩;obtain⟨i,j,rfl,rfl⟩|⟨_,i,j,rfl,rfl⟩:=jeW h
  ·cases rx;cases ry;exact .inl ⟨_,_,rfl,rfl,q _ h⟩
  ·cases rx;cases ry;exact .inr ⟨_,_,rfl,rfl,q _ h⟩
 |Gt=>
  refine⟨_,joq,λx y v v' G H k Q0 rx ry hG h q=>?_⟩;obtain⟨i,j,rfl,rfl⟩|⟨z,_⟩:=jeW h
  rotate_left
  ·cases z
  cases rx;cases ry;exact⟨_,_,rfl,rfl,q _ h⟩
 |GtE=>exact⟨λ_ _ _ _=>False,λ_ _ _ _ _ _ _ _ _ _ _ _ h=>h.elim,λ_ _ _ _ _ _ _ _ _ _ _ h _=>h.elim⟩
variable {pos:Pos}{a b c:Expr}{ta tb tc:UE}{tA tB:UT}
theorem jnM {o:CmpOp}(ho:CmU X o)(ha:PE X a (lE X ta))(hb:PE X b (lE X tb))(hm:YdM o b=false) :
  PE X (.Compare a [o] [b] pos) (lE X λς G Q E=>ta ς G (λx G1=>tb ς G1 (λy G2=>cmpU o x y G2 λc=>Q (.bl c) G2) E) E):=by
 obtain⟨r,h1,h2⟩:=ho;exact(jjH h1 ha hb hm).imp λσ H Q0 h=>lE.two h λx y v v' G H' Q rx ry hG q lv=>h2 x y v v' G H' _ Q0 rx ry hG q λc q=>lv.bl hG q
theorem jkY {o o':CmpOp}(ho:CmU X o)(ho':CmU X o')(ha:PE X a (lE X ta))(hb:PE X b (lE X tb))(hc:PE X c (lE X tc))(hm:YfG [o,o'] [b,c]=false) :
  PE X (.Compare a [o,o'] [b,c] pos) (lE X λς G Q E=>ta ς G (λx G1=>tb ς G1 (λy G2=>cmpU o x y G2 λt=>if t=true then tc ς G2 (λz G3=>cmpU o' y z G3 λt'=>Q (.bl t') G3) E else Q (.bl false) G2) E) E):=by
 obtain⟨r,h1,h2⟩:=ho;obtain⟨r',h1',h2'⟩:=ho';refine(jhW h1 h1' ha hb hc hm).imp λσ H Q0 h=>?_;obtain⟨ς,G,Q,E,hς,hG,h,lv,lx⟩:=h;refine⟨ς,G,_,E,hς,hG,h,λx v G1 H1 rx hG1 f1 h1=>?_,lx⟩;refine⟨ς,G1,_,E,hς.ts (f1.ts hG),hG1,h1,λy v' G2 H2 ry hG2 f2 h3=>?_,lx.fr f1⟩;refine h2 x y v v' G2 H2 _ _ (rx.ts (f2.ts hG1)) ry hG2 h3 λt q=>⟨t,rfl,?_⟩;cases t with
 |false=>
  rw[if_neg Yam]at q ⊢;exact(lv.fr (f1.trans f2)).bl hG2 q
 |true=>
  rw[if_pos rfl]at q ⊢;refine⟨ς,G2,_,E,(hς.ts (f1.ts hG)).ts (f2.ts hG1),hG2,q,λz v3 G3 H3 rz hG3 f3 h4=>?_,lx.fr (f1.trans f2)⟩;exact h2' y z v' v3 G3 H3 _ Q0 (ry.ts (f3.ts hG2)) rz hG3 h4 λc q=>(lv.fr ((f1.trans f2).trans f3)).bl hG3 q
theorem jdQ {H:Hp}{G:Gp}{x:U}{v:V}{k:Bool->Prop}(rx:RU X.K H x v)(hG:HR X.K H G)(h:truU x G k):∃b,TruV X.K v H b/\k b:=by
 unfold truU at h;split at h
 ·cases rx;exact⟨_,rfl,h⟩
 ·cases rx;exact⟨_,rfl,h⟩
 ·cases rx;exact⟨_,rfl,h⟩
 ·cases rx;exact⟨_,⟨h.1,rfl⟩,h.2⟩
 ·obtain⟨a,vs,rfl,e,rs⟩:=rx;exact⟨_,.inr (.inl ⟨vs,.of e,rfl⟩),by rw[<- rs.isEmpty];exact h⟩
 ·cases rx;split at h
  ·rename_i g;obtain⟨vs,e,rs⟩:=hG.lst g;exact⟨_,.inl ⟨vs,.of e,rfl⟩,by rw[<- rs.isEmpty];exact h⟩
  ·rename_i g;obtain⟨ob,vs,e,rs⟩:=hG _ _ g;exact⟨_,.inl ⟨vs,.inl (.inr ⟨ob,e⟩),rfl⟩,by rw[<- rs.isEmpty];exact h⟩
  ·rename_i kvs g;obtain⟨l,e,rs⟩:=hG _ _ g;refine⟨_,.inr (.inr ⟨l,e,rfl⟩),?_⟩;cases kvs with
   |nil=>cases rs;exact h
   |cons p r=>obtain⟨v,l',rfl,_⟩:=rs;exact h
  ·exact h.elim
 ·exact h.elim
theorem jnB (ha:PE X a (lE X ta))(he:∀whole,isTrue a X.env whole=(do let v <- whole;standAt a.pos;holding [v] (truthy v))):PT X a (lT X λς G Q E=>ta ς G (λx G1=>truU x G1 λb=>Q b G1) E):=by
 refine(jhI ha he).imp λσ H Q0 h=>?_;obtain⟨ς,G,Q,E,hς,hG,h,lv,lx⟩:=h;refine⟨ς,G,_,E,hς,hG,h,λx v G1 H1 rx hG1 f1 h1=>?_,lx⟩;obtain⟨b,h2,h3⟩:=jdQ rx hG1 h1;exact⟨b,h2,lv b G1 H1 hG1 f1 h3⟩
theorem jkX {o:CmpOp}(ho:CmU X o)(ha:PE X a (lE X ta))(hb:PE X b (lE X tb))(hm:YdM o b=false) :
  PT X (.Compare a [o] [b] pos) (lT X λς G Q E=>ta ς G (λx G1=>tb ς G1 (λy G2=>cmpU o x y G2 λc=>truU (.bl c) G2 λc=>Q c G2) E) E):=by
 obtain⟨r,h1,h2⟩:=ho;refine(jjs h1 ha hb hm).imp λσ H Q0 h=>?_;obtain⟨ς,G,Q,E,hς,hG,h,lv,lx⟩:=h;refine⟨ς,G,_,E,hς,hG,h,λx v G1 H1 rx hG1 f1 h1=>?_,lx⟩;refine⟨ς,G1,_,E,hς.ts (f1.ts hG),hG1,h1,λy v' G2 H2 ry hG2 f2 h3=>?_,lx.fr f1⟩;exact h2 x y v v' G2 H2 _ _ (rx.ts (f2.ts hG1)) ry hG2 h3 λt q=>⟨t,rfl,lv t G2 H2 hG2 (f1.trans f2) q⟩
theorem ji5 {o o':CmpOp}(ho:CmU X o)(ho':CmU X o')(ha:PE X a (lE X ta))(hb:PE X b (lE X tb))(hc:PE X c (lE X tc))(hm:YfG [o,o'] [b,c]=false) :
  PT X (.Compare a [o,o'] [b,c] pos) (lT X λς G Q E=>ta ς G (λx G1=>tb ς G1 (λy G2=>cmpU o x y G2 λt=>if t=true then tc ς G2 (λz G3=>cmpU o' y z G3 λt'=>truU (.bl t') G3 λc=>Q c G3) E else truU (.bl false) G2 λc=>Q c G2) E) E):=by
 obtain⟨r,h1,h2⟩:=ho;obtain⟨r',h1',h2'⟩:=ho';refine(jhJ h1 h1' ha hb hc hm).imp λσ H Q0 h=>?_;obtain⟨ς,G,Q,E,hς,hG,h,lv,lx⟩:=h;refine⟨ς,G,_,E,hς,hG,h,λx v G1 H1 rx hG1 f1 h1=>?_,lx⟩;refine⟨ς,G1,_,E,hς.ts (f1.ts hG),hG1,h1,λy v' G2 H2 ry hG2 f2 h3=>?_,lx.fr f1⟩;refine h2 x y v v' G2 H2 _ _ (rx.ts (f2.ts hG1)) ry hG2 h3 λt q=>⟨t,rfl,?_⟩;cases t with
 |false=>
  rw[if_neg Yam]at q ⊢;exact⟨false,rfl,lv false G2 H2 hG2 (f1.trans f2) q⟩
 |true=>
  rw[if_pos rfl]at q ⊢;refine⟨ς,G2,_,E,(hς.ts (f1.ts hG)).ts (f2.ts hG1),hG2,q,λz v3 G3 H3 rz hG3 f3 h4=>?_,lx.fr (f1.trans f2)⟩;exact h2' y z v' v3 G3 H3 _ _ (ry.ts (f3.ts hG2)) rz hG3 h4 λc q=>⟨c,rfl,lv c G3 H3 hG3 ((f1.trans f2).trans f3) q⟩
section
variable {rest:List Expr}
theorem jjJ {sa sb:TE}(ha:PE X a sa)(hb:PE X (.BoolOp .And (b::rest) pos) sb):PE X (.BoolOp .And (a::b::rest) pos) (λσ H Q=>sa σ H λx H1=>∃k,TruV X.K x H1 k/\if k=true then sb σ H1 Q else Q x H1):=by
 intro pins s σ H Q I h;refine PyProof.Rows.BoolOp_and (thn (ha pins s σ H _ I h) λv s1 ⟨x,H1,I1,r1,k,hk,q1⟩=>?_);refine thn (jfk pins s1 σ H1 x v (λc H2=>c=k/\H2=H1) I1 r1 ⟨k,hk,rfl,rfl⟩) λc s2 ⟨H2,I2,e1,e2⟩=>?_;subst e1 e2;cases c with
 |true=>exact hb pins s2 σ H2 Q I2 q1
 |false=>exact⟨x,H2,I2,r1,q1⟩
theorem jlK {sa sb:TE}(ha:PE X a sa)(hb:PE X (.BoolOp .Or (b::rest) pos) sb):PE X (.BoolOp .Or (a::b::rest) pos) (λσ H Q=>sa σ H λx H1=>∃k,TruV X.K x H1 k/\if k=true then Q x H1 else sb σ H1 Q):=by
 intro pins s σ H Q I h;refine PyProof.Rows.BoolOp_or (thn (ha pins s σ H _ I h) λv s1 ⟨x,H1,I1,r1,k,hk,q1⟩=>?_);refine thn (jfk pins s1 σ H1 x v (λc H2=>c=k/\H2=H1) I1 r1 ⟨k,hk,rfl,rfl⟩) λc s2 ⟨H2,I2,e1,e2⟩=>?_;subst e1 e2;cases c with
 |true=>exact⟨x,H2,I2,r1,q1⟩
 |false=>exact hb pins s2 σ H2 Q I2 q1
theorem jnP (ha:PE X a (lE X ta))(hb:PE X (.BoolOp .And (b::rest) pos) (lE X tb)):PE X (.BoolOp .And (a::b::rest) pos) (lE X λς G Q E=>ta ς G (λx G1=>truU x G1 λc=>if c=true then tb ς G1 Q E else Q x G1) E):=by
 refine(jjJ ha hb).imp λσ H Q0 h=>?_;obtain⟨ς,G,Q,E,hς,hG,h,lv,lx⟩:=h;refine⟨ς,G,_,E,hς,hG,h,λx v G1 H1 rx hG1 f1 h1=>?_,lx⟩;obtain⟨k,h2,h3⟩:=jdQ rx hG1 h1;refine⟨k,h2,?_⟩;cases k with
 |true=>rw[if_pos rfl]at h3 ⊢;exact⟨ς,G1,Q,E,hς.ts (f1.ts hG),hG1,h3,lv.fr f1,lx.fr f1⟩
 |false=>rw[if_neg Yam]at h3 ⊢;exact(lv.fr f1).here rx hG1 h3
theorem u_or (ha:PE X a (lE X ta))(hb:PE X (.BoolOp .Or (b::rest) pos) (lE X tb)):PE X (.BoolOp .Or (a::b::rest) pos) (lE X λς G Q E=>ta ς G (λx G1=>truU x G1 λc=>if c=true then Q x G1 else tb ς G1 Q E) E):=by
 refine(jlK ha hb).imp λσ H Q0 h=>?_;obtain⟨ς,G,Q,E,hς,hG,h,lv,lx⟩:=h;refine⟨ς,G,_,E,hς,hG,h,λx v G1 H1 rx hG1 f1 h1=>?_,lx⟩;obtain⟨k,h2,h3⟩:=jdQ rx hG1 h1;refine⟨k,h2,?_⟩;cases k with
 |true=>rw[if_pos rfl]at h3 ⊢;exact(lv.fr f1).here rx hG1 h3
 |false=>rw[if_neg Yam]at h3 ⊢;exact⟨ς,G1,Q,E,hς.ts (f1.ts hG),hG1,h3,lv.fr f1,lx.fr f1⟩
end
theorem jnE (ha:PE X a (lE X ta)):PE X (.UnaryOp .Not a pos) (lE X λς G Q E=>ta ς G (λx G1=>truU x G1 λb=>Q (.bl (!b)) G1) E):=by
 intro pins s σ H Q0 I h;obtain⟨ς,G,Q,E,hς,hG,h,lv,lx⟩:=h;refine PyProof.Rows.UnaryOp_ (thn (ha pins s σ H (λv H1=>∃k,TruV X.K v H1 k/\Q0 (.bl (!k)) H1) I ⟨ς,G,_,E,hς,hG,h,λx v G1 H1 rx hG1 f1 h1=>?_,lx⟩) λv s1 ⟨x,H1,I1,r1,k,hk,q1⟩=>?_)
 ·obtain⟨k,h2,h3⟩:=jdQ rx hG1 h1;exact⟨k,h2,(lv.fr f1).bl hG1 h3⟩
 ·refine PyProof.Rows.not_of (thn (jfk pins s1 σ H1 x v (λc H2=>c=k/\H2=H1) I1 r1 ⟨k,hk,rfl,rfl⟩) λc s2 ⟨H2,I2,e1,e2⟩=>?_);subst e1 e2;exact⟨.bl (!c),H2,I2,rfl,q1⟩
theorem jkU (hc:PT X c (lT X tA)){tC:UT}(ha:PT X a (lT X tB))(hb:PT X b (lT X tC)):PT X (.IfExp c a b pos) (lT X λς G Q E=>tA ς G (λt G1=>if t=true then tB ς G1 Q E else tC ς G1 Q E) E):=by
 intro pins s σ H Q0 I h;obtain⟨ς,G,Q,E,hς,hG,h,lv,lx⟩:=h;show wpAny _ _ (do if <- isTrue c X.env (eval c X.env) then isTrue a X.env (eval a X.env) else isTrue b X.env (eval b X.env)) _ _ s
 refine Yad (thn (hc pins s σ H (λt H1=>∃G1,HR X.K H1 G1/\Fr H G H1 G1/\if t=true then tB ς G1 Q E else tC ς G1 Q E) I ⟨ς,G,_,E,hς,hG,h,λt G1 H1 hG1 f1 h1=>⟨G1,hG1,f1,h1⟩,lx⟩) λt s1 ⟨H1,I1,G1,hG1,f1,h1⟩=>?_)
 cases t with
 |true=>exact ha pins s1 σ H1 Q0 I1 ⟨ς,G1,Q,E,hς.ts (f1.ts hG),hG1,h1,λb G2 H2 hG2 f2 h2=>lv b G2 H2 hG2 (f1.trans f2) h2,lx.fr f1⟩
 |false=>exact hb pins s1 σ H1 Q0 I1 ⟨ς,G1,Q,E,hς.ts (f1.ts hG),hG1,h1,λb G2 H2 hG2 f2 h2=>lv b G2 H2 hG2 (f1.trans f2) h2,lx.fr f1⟩
theorem jkS (ha:PT X a (lT X tA)):PT X (.UnaryOp .Not a pos) (lT X λς G Q E=>tA ς G (λb G1=>Q (!b) G1) E):=by
 refine(jlt ha).imp λσ H Q0 h=>?_;obtain⟨ς,G,Q,E,hς,hG,h,lv,lx⟩:=h;exact⟨ς,G,_,E,hς,hG,h,λb G1 H1 hG1 f1 h1=>lv (!b) G1 H1 hG1 f1 h1,lx⟩
theorem jk0 {rest:List Expr}(ha:PT X a (lT X tA))(hb:PW X (.BoolOp .And (b::rest) pos) (lT X tB)):PW X (.BoolOp .And (a::b::rest) pos) (lT X λς G Q E=>tA ς G (λc G1=>if c=true then tB ς G1 Q E else Q false G1) E):=by
 refine(pw_and ha hb).imp λσ H Q0 h=>?_;obtain⟨ς,G,Q,E,hς,hG,h,lv,lx⟩:=h;refine⟨ς,G,_,E,hς,hG,h,λc G1 H1 hG1 f1 h1=>?_,lx⟩;cases c with
 |false=>rw[if_neg Yam]at h1 ⊢;exact lv false G1 H1 hG1 f1 h1
 |true=>rw[if_pos rfl]at h1 ⊢;exact⟨ς,G1,Q,E,hς.ts (f1.ts hG),hG1,h1,λb G2 H2 hG2 f2 h2=>lv b G2 H2 hG2 (f1.trans f2) h2,lx.fr f1⟩
theorem jnD {rest:List Expr}(ha:PT X a (lT X tA))(hb:PW X (.BoolOp .Or (b::rest) pos) (lT X tB)):PW X (.BoolOp .Or (a::b::rest) pos) (lT X λς G Q E=>tA ς G (λc G1=>if c=true then Q true G1 else tB ς G1 Q E) E):=by
 refine(pw_or ha hb).imp λσ H Q0 h=>?_;obtain⟨ς,G,Q,E,hς,hG,h,lv,lx⟩:=h;refine⟨ς,G,_,E,hς,hG,h,λc G1 H1 hG1 f1 h1=>?_,lx⟩;cases c with
 |true=>rw[if_pos rfl]at h1 ⊢;exact lv true G1 H1 hG1 f1 h1
 |false=>rw[if_neg Yam]at h1 ⊢;exact⟨ς,G1,Q,E,hς.ts (f1.ts hG),hG1,h1,λb G2 H2 hG2 f2 h2=>lv b G2 H2 hG2 (f1.trans f2) h2,lx.fr f1⟩
theorem jnK (hc:PT X c (lT X tA))(ha:PE X a (lE X ta))(hb:PE X b (lE X tb)):PE X (.IfExp c a b pos) (lE X λς G Q E=>tA ς G (λt G1=>if t=true then ta ς G1 Q E else tb ς G1 Q E) E):=by
 refine(jhU hc ha hb).imp λσ H Q0 h=>?_;obtain⟨ς,G,Q,E,hς,hG,h,lv,lx⟩:=h;refine⟨ς,G,_,E,hς,hG,h,λc G1 H1 hG1 f1 h1=>?_,lx⟩;cases c with
 |true=>rw[if_pos rfl]at h1 ⊢;exact⟨ς,G1,Q,E,hς.ts (f1.ts hG),hG1,h1,lv.fr f1,lx.fr f1⟩
 |false=>rw[if_neg Yam]at h1 ⊢;exact⟨ς,G1,Q,E,hς.ts (f1.ts hG),hG1,h1,lv.fr f1,lx.fr f1⟩
end
end Z

namespace L2
open PySem PySem.Spec PyProof.Rows
section
variable {X:Cx}{e st:Expr}{te tst:TE}{pos p2:Pos}
def jnQ (K:Yac)(te tst:TE):TE:=λσ H Q=>te σ H λx H1=>tst σ H1 λy H2=>(∃a xs,x=.ref a/\SqL K H2 a xs/\
 ((y=.int 1/\∀p,H2 p=none->Q (.ref p) (upd H2 p (.lst xs)))\/(y=.int (-1)/\∀p,H2 p=none->Q (.ref p) (upd H2 p (.lst xs.reverse)))))\/
 ∃a xs,x=.ref a/\SqT K H2 a xs/\y=.int (-1)/\∀p,H2 p=none->Q (.ref p) (upd H2 p (.tup xs.reverse))
theorem jjF (he:PE X e te)(hs:PE X st tst):PE X (.Subscript e (.Slice none none (some st) p2) pos) (jnQ X.K te tst):=by
 intro pins s σ H Q I h;refine Subscript_ (thn (he pins s σ H _ I h) λv s1 ⟨x,H1,I1,r1,q1⟩=>?_);refine wpAny_Slice ?_;rw[Yfa,evalPart_some];refine Yap (Yap ?_);refine thn (hs pins s1 σ H1 _ I1 q1) λu s3 ⟨y,H3,I3,r3,q3⟩=>?_;have I4:Inv X pins σ H3 { s3 with heap:=s3.heap.push { cls:=.type "slice",data:=.fields #[.none,.none,u] } }:=I3.kept (t':=s3.toks) λb ob q=>Yab _ q
 rcases q3 with⟨a,xs,rfl,hx,q3⟩|⟨a,xs,rfl,hx,rfl,q⟩
 ·cases r1;obtain⟨its,r,ht,hz⟩:=I4.list hx;have hlen:=r.length;show wpAny (model X.prog X.w) X.A (YdJ e (.Slice none none (some st) p2) (.ref a) (.ref s3.heap.objs.size)) (EP X pins σ Q) X.xe { s3 with heap:=s3.heap.push { cls:=.type "slice",data:=.fields #[.none,.none,u] } }
  refine tail_any (ops:=[.ref a,.ref s3.heap.objs.size]) ht.isList.typeIs slot_list_getitem.lookup ?_ (by with_unfolding_all rfl)
  rcases q3 with⟨rfl,q⟩|⟨rfl,q⟩
  ·obtain⟨t,rfl⟩:=r3;refine YcW ht.isList (Heap.IsSliceOf.new ..) .none .none (.int 1 t) (by decide) ?_ (by rw[Yah]<;>omega)
   rw[jim];refine⟨.ref _,_,I4.laid (t':=s3.toks) (o:=.lst xs) (λb ob q=>Yab _ q) (Yag _) ?_,rfl,q _ (I4.hok.fresh (Yag _))⟩;exact⟨hz,_,0,r,Yaq _ rfl⟩
  ·obtain⟨t,rfl⟩:=r3;refine YcW ht.isList (Heap.IsSliceOf.new ..) .none .none (.int (-1) t) (by decide) ?_ (by rw[Yah]<;>omega)
   rw[jhD];refine⟨.ref _,_,I4.laid (t':=s3.toks) (o:=.lst xs.reverse) (λb ob q=>Yab _ q) (Yag _) ?_,rfl,q _ (I4.hok.fresh (Yag _))⟩;exact⟨by rw[Ydg];exact hz,_,0,r.rev,Yaq _ rfl⟩
 ·cases r1;obtain⟨t,rfl⟩:=r3;obtain⟨its,r,ht,hz⟩:=I4.tuple hx;have hlen:=r.length;show wpAny (model X.prog X.w) X.A (YdJ e (.Slice none none (some st) p2) (.ref a) (.ref s3.heap.objs.size)) (EP X pins σ Q) X.xe { s3 with heap:=s3.heap.push { cls:=.type "slice",data:=.fields #[.none,.none,.int (-1) t] } }
  refine tail_any (ops:=[.ref a,.ref s3.heap.objs.size]) ht.typeIs YaZ.lookup ?_ (by with_unfolding_all rfl)
  refine HT.getItem_tuple_rev ht (Heap.IsSliceOf.new ..) ?_ (by rw[<- hlen];exact hz)
  refine⟨.ref _,_,I4.laid (t':=s3.toks) (o:=.tup xs.reverse) (λb ob q=>Yab _ q) (Yag _) ?_,rfl,q _ (I4.hok.fresh (Yag _))⟩;exact⟨by rw[Ydg];exact hz,_,r.rev,TupD.new _ _⟩
end
end L2
namespace Z
open PySem L2
section
variable {X:Cx}{pos:Pos}{a b e:Expr}{es:List Expr}{ta tb te:UE}{ts:UA}
theorem jeO:PA X [] (lA X λ_ G Q _=>Q [] G):=by
 refine jlP.imp λσ H Q0 h=>?_;obtain⟨ς,G,Q,E,hς,hG,h,lv,lx⟩:=h;exact lv [] [] G H rfl hG (Fr.refl _ _) h
theorem jck (ha:PE X e (lE X te))(hr:PA X es (lA X ts))(hs:YaA (e::es) X.env=(false,eval e X.env)::YaA es X.env):PA X (e::es) (lA X λς G Q E=>te ς G (λx G1=>ts ς G1 (λxs G2=>Q (x::xs) G2) E) E):=by
 refine(jjK ha hr hs).imp λσ H Q0 h=>?_;obtain⟨ς,G,Q,E,hς,hG,h,lv,lx⟩:=h;refine⟨ς,G,_,E,hς,hG,h,λx v G1 H1 rx hG1 f1 h1=>?_,lx⟩;refine⟨ς,G1,_,E,hς.ts (f1.ts hG),hG1,h1,λxs vs G2 H2 rxs hG2 f2 h2=>?_,lx.fr f1⟩;exact lv (x::xs) (v::vs) G2 H2 ⟨v,vs,rfl,rx.ts (f2.ts hG1),rxs⟩ hG2 (f1.trans f2) h2
theorem jny {k}(h:PA X es (lA X ts)):PE X (.Tuple es k pos) (lE X λς G Q E=>ts ς G (λus G1=>us.length<=Yai/\Q (.tup us) G1) E):=
 (jlI h).imp λσ H Q0 h=>lE.many h λus vs G H' Q r hG q lv=>⟨by rw[<- r.length];exact q.1,λp hp=>lv.tup hp r hG q.2⟩
theorem jnJ (h:PA X es (lA X ts)):PE X (.List es pos) (lE X λς G Q E=>ts ς G (λus G1=>us.length<=Yai/\newO G1 (.lst us) Q) E):=
 (jlM h).imp λσ H Q0 h=>lE.many h λus vs G H' Q r hG q lv=>⟨by rw[<- r.length];exact q.1,λp hp=>lv.lst hp r hG q.2⟩
def rDix:R2:=λx y H Q=>∃a v,x=.ref a/\DGet H a y (some v)/\Q v H
theorem jkk (hu:X.A.units+1<cLine):IxR X rDix:=by
 intro value slice pins s σ H x y v u Q I rx ry h hs;obtain⟨a,w,rfl,g,q⟩:=h;cases rx;exact PyProof.Rows.tail_any (jfa I g) PySem.F.slot_dict_getitem.lookup (jhj hu I g ry λw' s3 I3 rw'=>⟨w,H,I3,rw',q⟩) hs
theorem jiI {H:Hp}{G:Gp}{y:U}{v':V}{Q:K1}{Q0:VK}{a:Addr}{xs:List U}{vs:List V}(h:match y with|.int i=>(match atI xs i with|some u=>Q u G|none=>False)|_=>False)
  (ry:RU X.K H y v') (hG:HR X.K H G) (lv:LV X H G Q Q0) (sq:SqL X.K H a vs) (rs:RUs X.K H xs vs):rIx X.K (.ref a) v' H Q0:=by
 cases y with
 |int i=>
  cases ry;dsimp only at h;split at h
  ·rename_i u e;obtain⟨w,e2,r⟩:=rs.atI e;exact .inl ⟨_,vs,_,w,rfl,rfl,sq,e2,lv.here r hG h⟩
  ·exact h.elim
 |_=>exact h.elim
theorem jmw {H:Hp}{G:Gp}{x y:U}{v v':V}{Q:K1}{Q0:VK}(rx:RU X.K H x v)(ry:RU X.K H y v')(hG:HR X.K H G)(h:ixU x y G Q)(lv:LV X H G Q Q0):rIx X.K v v' H Q0\/rDix v v' H Q0:=by
 unfold ixU at h;split at h
 ·obtain⟨a,vs,rfl,e,rs⟩:=rx;cases ry;split at h
  ·rename_i u e1;obtain⟨w,e2,r⟩:=rs.atI e1;exact .inl (.inr (.inl ⟨a,vs,_,w,rfl,rfl,.of e,e2,lv.here r hG h⟩))
  ·exact h.elim
 ·cases rx;cases ry;obtain⟨h1,h⟩:=h;split at h
  ·rename_i c e1;exact .inl (.inr (.inr ⟨_,_,c,rfl,rfl,h1,e1,lv.str hG h⟩))
  ·exact h.elim
 ·cases rx;split at h
  ·rename_i g;obtain⟨vs,e,rs⟩:=hG.lst g;exact .inl (jiI h ry hG lv (.of e) rs)
  ·rename_i g;obtain⟨ob,vs,e,rs⟩:=hG _ _ g;exact .inl (jiI h ry hG lv (.inl (.inr ⟨ob,e⟩)) rs)
  ·rename_i kvs g;obtain⟨l,e,rs⟩:=hG _ _ g;split at h
   ·rename_i k ek;have:=je2 ry ek;subst this;split at h
    ·rename_i u eu;have:=jcP k rs;rw[eu]at this;obtain⟨w,e2,r⟩:=this;exact .inr ⟨_,w,rfl,by rw[<- e2];exact DGet.k e,lv.here r hG h⟩
    ·exact h.elim
   ·exact h.elim
  ·rename_i kvs g;obtain⟨l,e,rs⟩:=hG _ _ g;split at h
   ·rename_i ys;obtain⟨b,bs,rfl,eb,rb⟩:=ry;split at h
    ·rename_i k ek;have:=jfw rb ek;subst this;split at h
     ·rename_i u eu;have:=jcP k rs;rw[eu]at this;obtain⟨w,e2,r⟩:=this;exact .inr ⟨_,w,rfl,by rw[<- e2];exact DGet.t e eb,lv.here r hG h⟩
     ·exact h.elim
    ·exact h.elim
   ·exact h.elim
  ·rename_i o kvs g;obtain⟨l,e,rs⟩:=hG _ _ g;split at h
   ·rename_i k ek;have:=je2 ry ek;subst this;split at h
    ·rename_i u eu;have:=jcP k rs;rw[eu]at this;obtain⟨w,e2,r⟩:=this;exact .inr ⟨_,w,rfl,by rw[<- e2];exact .inl ⟨l,k,.inr ⟨o,e⟩,rfl,rfl⟩,lv.here r hG h⟩
    ·exact h.elim
   ·exact h.elim
  ·exact h.elim
 ·exact h.elim
theorem u_ix (hu:X.A.units+1<cLine)(ha:PE X a (lE X ta))(hb:PE X b (lE X tb))(hs:jfg b):PE X (.Subscript a b pos) (lE X λς G Q E=>ta ς G (λx G1=>tb ς G1 (λy G2=>ixU x y G2 Q) E) E):=
 (jol ((jmv (X:=X)).or (jkk hu)) ha hb hs).imp λσ H Q0 h=>lE.two h λx y v v' G H' Q rx ry hG q lv=>jmw rx ry hG q lv
theorem u_no:PO X none (lO X λ_ G Q _=>Q none G):=jjy.imp λσ H Q0 h=>by
 obtain⟨ς,G,Q,E,hς,hG,h,lv,lx⟩:=h;exact lv none G H hG (Fr.refl _ _) h
theorem u_so (ha:PE X e (lE X te)):PO X (some e) (lO X λς G Q E=>te ς G (λx G1=>match x with|.int i=>Q (some i) G1|_=>False) E):=(jjx ha).imp λσ H Q0 h=>by
 obtain⟨ς,G,Q,E,hς,hG,h,lv,lx⟩:=h;refine⟨ς,G,_,E,hς,hG,h,λx v G1 H1 rx hG1 f1 h1=>?_,lx⟩;dsimp only at h1;split at h1
 ·cases rx;exact⟨_,rfl,lv _ G1 H1 hG1 f1 h1⟩
 ·exact h1.elim
theorem u_sl {lo hi:Option Expr}{p2:Pos}{tl th:Sg->Gp->(Option Int->Gp->Prop)->KX->Prop}(ha:PE X e (lE X te))(hl:PO X lo (lO X tl))(hh:PO X hi (lO X th)) :
  PE X (.Subscript e (.Slice lo hi none p2) pos) (lE X λς G Q E=>te ς G (λx G1=>tl ς G1 (λl G2=>th ς G2 (λh G3=>slU x l h G3 Q) E) E) E):=by
 refine(jhT (SlR.or (jjh (X:=X)) (SlR.or jji jlc)) ha hl hh).imp λσ H Q0 h=>?_;obtain⟨ς,G,Q,E,hς,hG,h,lv,lx⟩:=h;refine⟨ς,G,_,E,hς,hG,h,λx v G1 H1 rx hG1 f1 h1=>?_,lx⟩;refine⟨ς,G1,_,E,hς.ts (f1.ts hG),hG1,h1,λl G2 H2 hG2 f2 h2=>?_,lx.fr f1⟩;refine⟨ς,G2,_,E,(hς.ts (f1.ts hG)).ts (f2.ts hG1),hG2,h2,λu G3 H3 hG3 f3 h3=>?_,lx.fr (f1.trans f2)⟩;have lv3:=lv.fr ((f1.trans f2).trans f3);have rx3:=rx.ts ((f2.ts hG1).trans (f3.ts hG2));unfold slU at h3;split at h3
 ·obtain⟨a,vs,rfl,ea,rs⟩:=rx3;by_cases z:HT.sIx vs.length 0 l=0/\HT.sIx vs.length vs.length u=vs.length
  ·refine .inl (.inr ⟨a,vs,rfl,.of ea,z,?_⟩);refine lv3.here (w:=.tup _) ⟨a,vs,rfl,ea,?_⟩ hG3 h3;have e2:cutV vs l u=vs:=by unfold cutV;rw[z.1,z.2];simp
   have:=rs.cut l u;rw[e2]at this;exact this
  ·exact .inl (.inl ⟨a,vs,rfl,.of ea,z,λp hp=>lv3.tup hp (rs.cut l u) hG3 h3⟩)
 ·cases rx3;exact .inr (.inr ⟨_,rfl,h3.1,lv3.str hG3 h3.2⟩)
 ·cases rx3;split at h3
  ·rename_i us eu;obtain⟨vs,sq,rs⟩:=hG3.ls eu;exact .inr (.inl ⟨_,vs,rfl,sq,λp hp=>lv3.lst hp (rs.cut l u) hG3 h3⟩)
  ·exact h3.elim
 ·exact h3.elim
theorem jnC {st:Expr}{p2:Pos}(ha:PE X a (lE X ta))(hb:PE X st (lE X tb)):PE X (.Subscript a (.Slice none none (some st) p2) pos) (lE X λς G Q E=>ta ς G (λx G1=>tb ς G1 (λy G2=>revU x y G2 Q) E) E):=by
 refine(jjF ha hb).imp λσ H Q0 h=>lE.two h λx y v v' G H' Q rx ry hG q lv=>?_;unfold revU at q;split at q
 ·obtain⟨a,vs,rfl,ea,rs⟩:=rx;cases ry;obtain⟨rfl,q⟩:=q;exact .inr ⟨a,vs,rfl,.of ea,rfl,λp hp=>lv.tup hp rs.reverse hG q⟩
 ·cases rx;cases ry;split at q
  ·rename_i us eu;obtain⟨vs,sq,rs⟩:=hG.ls eu;obtain⟨hi,q⟩:=q;rcases hi with rfl|rfl
   ·exact .inl ⟨_,vs,rfl,sq,.inl ⟨rfl,λp hp=>lv.lst hp rs hG q⟩⟩
   ·exact .inl ⟨_,vs,rfl,sq,.inr ⟨rfl,λp hp=>lv.lst hp rs.reverse hG q⟩⟩
  ·exact q.elim
 ·exact q.elim
end
end Z

namespace L2
open PySem PySem.Spec PyProof.Rows
section
variable {X:Cx}
end
end L2
namespace Z
open PySem L2
noncomputable def bltN:Blt->Str
 |.len => "len" |.repr => "repr" |.min => "min" |.max => "max" |.sum => "sum" |.all => "all" |.any => "any" |.sorted => "sorted" |.int => "int" |.str => "str" |.isi => "isinstance"
noncomputable def bltV:Blt->Value
 |.len=>.builtin "len" |.repr=>.builtin "repr" |.min=>.builtin "min" |.max=>.builtin "max" |.sum=>.builtin "sum" |.all=>.builtin "all" |.any=>.builtin "any" |.sorted=>.builtin "sorted" |.int=>.type "int" |.str=>.type "str" |.isi=>.builtin "isinstance"
section
variable {X:Cx}
theorem RUs.one {K:Yac}{H:Hp}{u:U}{vs:List V}(r:RUs K H [u] vs):∃v,vs=[v]/\RU K H u v:=by
 obtain⟨v,vr,rfl,r1,rs⟩:=r;cases rs;exact⟨v,rfl,r1⟩
theorem RUs.two {K:Yac}{H:Hp}{u w:U}{vs:List V}(r:RUs K H [u,w] vs):∃v v',vs=[v,v']/\RU K H u v/\RU K H w v':=by
 obtain⟨v,vr,rfl,r1,rs⟩:=r;obtain⟨v',rfl,r2⟩:=rs.one;exact⟨v,v',rfl,r1,r2⟩
theorem jkc (K:Yac):∀t∈["NoneType", "bool", "int", "str", "list", "tuple", "dict"],∀c∈["bool", "int", "str", "list", "tuple", "dict"],YcY K (.type t) (.type c)=some (t==c||(t == "bool" && c == "int")):=by
 simp only[List.forall_mem_cons,Yay,false_implies,implies_true,and_true];refine⟨?_,?_,?_,?_,?_,?_,?_⟩<;>refine⟨?_,?_,?_,?_,?_,?_⟩<;>rfl
theorem ji7 {x:U}{G:Gp}{n:String}(h:tyN x G=some n):n∈["NoneType", "bool", "int", "str", "list", "tuple", "dict"]:=by
 unfold tyN at h;split at h<;>first|(cases h;decide)|(split at h<;>first|(cases h;decide)|cases h)|cases h
theorem jkl {H:Hp}{G:Gp}{x:U}{v:V}{t:String}{b:Bool}(r:RU X.K H x v)(hG:HR X.K H G)(h:isiU x G t=some b):∃tv,TyOf X.K H v tv/\YcY X.K tv (.type t)=some b:=by
 unfold isiU at h;split at h
 ·rename_i n en;split at h
  ·rename_i ht;cases h;refine⟨.type n,?_,jkc X.K n (ji7 en) t ht⟩;unfold tyN at en;split at en
   ·cases en;cases r;exact .non
   ·cases en;cases r;exact .bl _
   ·cases en;cases r;exact .int _
   ·cases en;cases r;exact .str _
   ·cases en;obtain⟨a,ws,rfl,e,_⟩:=r;exact .tup e
   ·cases r;split at en
    ·rename_i g;cases en;obtain⟨ws,e,_⟩:=hG.lst g;exact .lst e
    ·rename_i g;cases en;obtain⟨ws,e,_⟩:=hG _ _ g;exact .dK e
    ·rename_i g;cases en;obtain⟨ws,e,_⟩:=hG _ _ g;exact .dT e
    ·cases en
   ·cases en
  ·cases h
 ·cases h
def BlU (X:Cx)(b:Blt):Prop:=∃r,jaX X (bltV b) r/\∀us vs G H Q Q0,RUs X.K H us vs->HR X.K H G->bltU b us G Q->LV X H G Q Q0->r vs H Q0
theorem jmR {k:Nat}(hr:Room k X.A)(hc:X.calm=true)(b:Blt):BlU X b:=by
 cases b with
 |len=>
  refine⟨_,jaX.or (jik (X:=X)) jho,λus vs G H Q Q0 r hG h lv=>?_⟩
  change lenU us G Q at h
  unfold lenU at h;split at h<;>first|exact h.elim|skip
  ·obtain⟨v,rfl,r1⟩:=r.one;obtain⟨a,ws,rfl,e,rs⟩:=r1;exact .inl ⟨_,_,rfl,.inr ⟨ws,.of e,rfl⟩,by rw[<- rs.length];exact lv.int hG h⟩
  ·obtain⟨v,rfl,r1⟩:=r.one;cases r1;exact .inl ⟨_,_,rfl,⟨h.1,rfl⟩,lv.int hG h.2⟩
  ·obtain⟨v,rfl,r1⟩:=r.one;cases r1;split at h
   ·rename_i g;obtain⟨ws,e,rs⟩:=hG.lst g;exact .inl ⟨_,_,rfl,.inl ⟨ws,.of e,rfl⟩,by rw[<- rs.length];exact lv.int hG h⟩
   ·rename_i g;obtain⟨ob,ws,e,rs⟩:=hG _ _ g;exact .inl ⟨_,_,rfl,.inl ⟨ws,.inl (.inr ⟨ob,e⟩),rfl⟩,by rw[<- rs.length];exact lv.int hG h⟩
   ·rename_i kvs g;obtain⟨l,e,rs⟩:=hG _ _ g;refine .inr ⟨_,l,rfl,e,?_⟩;have:∀{kvs:List (Key×U)} {l:List (Key×V)},RKs X.K H kvs l->kvs.length=l.length:=by
     intro kvs
     induction kvs with
     |nil=>intro l r;cases r;rfl
     |cons p q ih=>intro l r;obtain⟨v,l',rfl,_,rs⟩:=r;simp[ih rs]
    rw[<- this rs];exact lv.int hG h
   ·exact h.elim
 |repr=>
  refine⟨_,jf5 hr,λus vs G H Q Q0 r hG h lv=>?_⟩
  change jeT us G Q at h
  unfold jeT at h;split at h<;>first|exact h.elim|skip
  obtain⟨v,rfl,r1⟩:=r.one;obtain⟨d,h1,h2,h3⟩:=h;exact⟨v,d,rfl,h1.dv hG r1,h2,lv.str hG h3⟩
 |min=>
  refine⟨_,jhn hc,λus vs G H Q Q0 r hG h lv=>?_⟩
  change minU us G Q at h
  unfold minU at h;split at h<;>first|exact h.elim|skip
  obtain⟨v,v',rfl,r1,r2⟩:=r.two;cases r1;cases r2;exact⟨_,_,rfl,lv.int hG h⟩
 |max=>exact⟨λ_ _ _=>False,λ_ _ _ _ _ _ _ _ _ h=>h.elim,λ_ _ _ _ _ _ _ _ h _=>h.elim⟩
 |sum=>
  refine⟨_,jij hc,λus vs G H Q Q0 r hG h lv=>?_⟩
  change sumU us G Q at h
  unfold sumU at h;split at h<;>first|exact h.elim|skip
  obtain⟨v,rfl,r1⟩:=r.one;cases r1;split at h
  ·rename_i g;obtain⟨ws,e,rs⟩:=hG.lst g;split at h
   ·rename_i ns en;have:=rs.ints en;subst this;exact⟨_,ns,rfl,.of e,lv.int hG h⟩
   ·exact h.elim
  ·exact h.elim
 |any=>exact⟨λ_ _ _=>False,λ_ _ _ _ _ _ _ _ _ h=>h.elim,λ_ _ _ _ _ _ _ _ h _=>h.elim⟩
 |all=>exact⟨λ_ _ _=>False,λ_ _ _ _ _ _ _ _ _ h=>h.elim,λ_ _ _ _ _ _ _ _ h _=>h.elim⟩
 |sorted=>
  refine⟨_,jeF hc (by have:=hr.un;omega),λus vs G H Q Q0 r hG h lv=>?_⟩
  change jbl us G Q at h
  unfold jbl at h;split at h<;>first|exact h.elim|skip
  obtain⟨v,rfl,r1⟩:=r.one;cases r1;split at h<;>first|exact h.elim|skip
  rename_i us g;obtain⟨ws,e,rs⟩:=hG.lst g;obtain⟨ks,hnd,h64,hl,hk,q⟩:=h;refine⟨_,ws,ks,rfl,.inl (.of e),by rw[<- rs.length];exact hl,hnd,by rw[<- rs.length];exact h64,?_,λl π hn hp hs=>?_⟩
  ·rcases hk with⟨ns,rfl,rfl⟩|⟨as,rfl,hk⟩|⟨rfl,hk⟩
   ·refine .inl λi v k e1 e2=>?_;rw[Yal]at e2;cases en:ns[i]? with
    |none=>rw[en]at e2;cases e2
    |some n=>
     rw[en]at e2;cases e2;obtain⟨v',e3,r3⟩:=rs.get (i:=i) (u:=.int n) (by rw[Yal,en];rfl)
     rw[e1]at e3;cases e3;exact⟨n,r3,rfl⟩
   ·refine .inr (.inl λi v k e1 e2=>?_);have hi:i<as.length:=by
     have:=(List.getElem?_eq_some_iff.mp e1).1;rw[<- rs.length,Yaa]at this;exact this
    obtain⟨v',e3,r3⟩:=rs.get (i:=i) (u:=.loc as[i]) (by rw[Yal,Yae hi];rfl)
    rw[e1]at e3;cases e3;obtain⟨ws2,e4,r4⟩:=hG.lst (hk i _ k (Yae hi) e2);rw[jd0 r4]at e4;exact⟨as[i],r3,.inl (.of e4)⟩
   ·refine .inr (.inr λi v k e1 e2=>⟨?_,hk k (Yak e2)⟩);obtain⟨v',e3,r3⟩:=rs.get (i:=i) (u:=.tup (k.map .int)) (by rw[Yal,e2];rfl)
    rw[e1]at e3;cases e3;obtain⟨t,ws2,rfl,et,rt⟩:=r3;rw[jd0 rt]at et;exact⟨t,rfl,.of et⟩
  ·rw[<- rs.length]at hp hs;refine lv.lst hn ?_ hG (q π hp hs);have:∀l:List Nat,(∀i∈l,i<us.length)->RUs X.K H (l.map λi=>us.getD i .non) (l.map λi=>ws.getD i .non):=λl=>by
    induction l with
    |nil=>intro _;rfl
    |cons i l ih=>
     intro hl';have hi:=hl' i (by simp)
     obtain⟨v',e3,r3⟩:=rs.get (Yae hi);refine⟨_,_,rfl,?_,ih λj hj=>hl' j (Yaj _ hj)⟩;refine(?_:RU X.K H (us.getD i .non) (ws.getD i .non));rw[YaM,Yae hi,YaM,e3];exact r3
   exact this π λi hi=>List.mem_range.mp (hp.mem_iff.mp hi)
 |int=>
  refine⟨_,jhp.or jd8,λus vs G H Q Q0 r hG h lv=>?_⟩
  change intU us G Q at h
  unfold intU at h;split at h<;>first|exact h.elim|skip
  ·obtain⟨v,rfl,r1⟩:=r.one;cases r1;exact .inl (.inl ⟨_,rfl,lv.int hG h⟩)
  ·obtain⟨v,rfl,r1⟩:=r.one;cases r1;exact .inl (.inr ⟨_,rfl,lv.int hG h⟩)
  ·obtain⟨v,rfl,r1⟩:=r.one;cases r1;obtain⟨n,h1,h2,h⟩:=h;exact .inr ⟨_,n,rfl,h1,h2,lv.int hG h⟩
 |str=>exact⟨λ_ _ _=>False,λ_ _ _ _ _ _ _ _ _ h=>h.elim,λ_ _ _ _ _ _ _ _ h _=>h.elim⟩
 |isi=>
  refine⟨_,jfd,λus vs G H Q Q0 r hG h lv=>?_⟩
  change je4 us G Q at h
  unfold je4 at h;split at h<;>first|exact h.elim|skip
  rename_i t;obtain⟨v,v',rfl,r1,r2⟩:=r.two;cases r2;split at h
  ·rename_i b eb;obtain⟨tv,h1,h2⟩:=jkl r1 hG eb;exact⟨v,t,tv,b,rfl,h1,h2,lv.bl hG h⟩
  ·exact h.elim
theorem jil (b:Blt):YbT (bltN b)=some (bltV b):=by
 cases b with
 |len=>exact PySem.boot_len
 |repr=>exact(by with_unfolding_all rfl)
 |min=>exact PyProof.Rows.boot_min
 |max=>exact PyProof.Rows.boot_max
 |sum=>exact PyProof.Rows.boot_sum
 |any=>exact PyProof.Rows.boot_any
 |all=>exact PyProof.Rows.boot_all
 |sorted=>exact PyProof.Rows.boot_sorted
 |int=>exact PyProof.Rows.boot_int
 |str=>exact PyProof.Rows.boot_str
 |isi=>exact PyProof.Rows.boot_isinstance
theorem jmV (b:Blt):bltN b ≠ "__name__" /\ (bltN b==("__debug__" : Str))=false:=by cases b<;>decide
theorem jnN {b:Blt}{e:Expr}{es:List Expr}{ts:UA}{p pos:Pos}(hb:BlU X b)(hg:Gl X (bltN b))(hm:X.mg (bltN b)=none)(ha:PA X (e::es) (lA X ts))
  (he:YaA (e::es) X.env=(false,eval e X.env)::YaA es X.env) (hpl:(backTo pos (YaA es X.env)).any (·.1)=false) :
  PE X (.Call (.Name (bltN b) p) (e::es) [] pos) (lE X λς G Q E=>ts ς G (λus G1=>bltU b us G1 Q) E):=by
 obtain⟨r,h1,h2⟩:=hb;have fin:∀σ H Q0,lE X (λς G Q E=>ts ς G (λus G1=>bltU b us G1 Q) E) σ H Q0->tCB r (lA X ts) σ H Q0:=λσ H Q0 h=>lE.many h λus vs G H' Q rs hG q lv=>h2 us vs G H' Q Q0 rs hG q lv;have hv:=jil b;obtain⟨n1,n2⟩:=jmV b;cases b
 all_goals first
  |exact(jhX h1 hg hm hv ha n1 n2 he hpl).imp fin
  |exact(jbT h1 hg hm hv ha n1 n2 he hpl).imp fin
end
noncomputable def mthN:Mth->Str
 |.append => "append" |.extend => "extend" |.insert => "insert" |.pop => "pop" |.reverse => "reverse" |.index => "index" |.join => "join" |.get => "get" |.split => "split" |.setd => "setdefault"
section
variable {X:Cx}
theorem RUs.mk {K:Yac}{H:Hp}{u:U}{v:V}{us:List U}{vs:List V}(r:RU K H u v)(rs:RUs K H us vs):RUs K H (u::us) (v::vs):=⟨v,vs,rfl,r,rs⟩
structure MtK (X:Cx)(m:Mth)(T id:String):Prop where
 pa:PlainAttrs T
 sl:Slot T (mthN m) id
 ty:typeOf (.builtin id)=pure (.type "method_descriptor")
def MtU (X:Cx)(m:Mth):Prop:=∀x G1 T id,mtU m x G1=some (T,id)->MtK X m T id/\(∀v H1,RU X.K H1 x v->HR X.K H1 G1->tyV X.K T v H1)/\
 ∃r,MtR X id r/\∀us v vs G H Q Q0,RU X.K H x v->RUs X.K H us vs->HR X.K H G->jaO m x us G Q->LV X H G Q Q0->r v vs H Q0
theorem jfj {a:Addr}{G:Gp}{us:List U}(g:G a=some (.lst us)):∀v H1,RU X.K H1 (.loc a) v->HR X.K H1 G->tyV X.K "list" v H1:=λv H1 r hG=>by
 cases r;obtain⟨vs,e,_⟩:=hG.lst g;exact .inl ⟨rfl,vs,.of e⟩
theorem jgM:MtU X .append:=by
 intro x G1 T id h;dsimp only[mtU]at h;split at h<;>first|contradiction|skip
 split at h
 ·rename_i g;cases h;refine⟨⟨YbZ,PySem.F.slot_list_append,PySem.F.type_list_append⟩,jfj g,_,jeq,λus v vs G H Q Q0 rx rs hG h lv=>?_⟩;cases rx;dsimp only[jaO]at h;unfold jff at h;split at h<;>first|exact h.elim|skip
  rename_i e2;cases e2;split at h
  ·rename_i g2;obtain⟨ws,e,r⟩:=hG.lst g2;obtain⟨y,rfl,ry⟩:=rs.one;refine⟨_,ws,y,rfl,rfl,e,by rw[<- r.length];exact h.1,?_⟩
   exact lv.wl g2 (r.append (RUs.mk (us:=[]) (vs:=[]) ry rfl)) hG (w:=.non) rfl h.2
  ·exact h.elim
 ·cases h
theorem jgL:MtU X .extend:=by
 intro x G1 T id h;dsimp only[mtU]at h;split at h<;>first|contradiction|skip
 split at h
 ·rename_i g;cases h;refine⟨⟨YbZ,PySem.F.slot_list_extend,PySem.F.type_list_extend⟩,jfj g,_,jgO,λus v vs G H Q Q0 rx rs hG h lv=>?_⟩;cases rx;dsimp only[jaO]at h;unfold je8 at h;split at h<;>first|exact h.elim|skip
  rename_i e2;cases e2;split at h
  ·rename_i g2 g3;obtain⟨ws,e,r⟩:=hG.lst g2;obtain⟨zs,e',r'⟩:=hG.lst g3;obtain⟨y,rfl,ry⟩:=rs.one;cases ry;refine⟨_,_,ws,zs,rfl,rfl,e,e',by rw[<- r.length,<- r'.length];exact h.1,?_⟩
   exact lv.wl g2 (r.append r') hG (w:=.non) rfl h.2
  ·exact h.elim
 ·cases h
theorem jgK:MtU X .insert:=by
 intro x G1 T id h;dsimp only[mtU]at h;split at h<;>first|contradiction|skip
 split at h
 ·rename_i g;cases h;refine⟨⟨YbZ,PySem.F.slot_list_insert,PySem.F.type_list_insert⟩,jfj g,_,jgN,λus v vs G H Q Q0 rx rs hG h lv=>?_⟩;cases rx;dsimp only[jaO]at h;unfold je6 at h;split at h<;>first|exact h.elim|skip
  rename_i e2;cases e2;split at h
  ·rename_i g2;obtain⟨ws,e,r⟩:=hG.lst g2;obtain⟨y,z,rfl,ry,rz⟩:=rs.two;cases ry;obtain⟨h1,h2,h3,h4⟩:=h;refine⟨_,ws,_,z,rfl,rfl,e,h1,by rw[<- r.length];exact h2,by rw[<- r.length];exact h3,?_⟩
   exact lv.wl g2 ((r.take _).append (RUs.mk rz (r.drop _))) hG (w:=.non) rfl h4
  ·exact h.elim
 ·cases h
theorem jmc:MtU X .pop:=by
 intro x G1 T id h;dsimp only[mtU]at h;split at h<;>first|contradiction|skip
 split at h
 ·rename_i g;cases h;refine⟨⟨YbZ,PySem.F.slot_list_pop,PySem.F.type_list_pop⟩,jfj g,_,MtR.or (mt_pop (X:=X)) jh7,λus v vs G H Q Q0 rx rs hG h lv=>?_⟩;cases rx;dsimp only[jaO]at h;unfold popU at h;split at h<;>first|exact h.elim|skip
  ·rename_i e2;cases e2;split at h
   ·rename_i g2;obtain⟨ws,e,r⟩:=hG.lst g2;cases rs;split at h
    ·rename_i u eu;obtain⟨y,ey,ry⟩:=r.get eu;rw[r.length]at ey;exact .inl ⟨_,ws,y,rfl,rfl,e,ey,lv.wl g2 r.dropLast hG ry h⟩
    ·exact h.elim
   ·exact h.elim
  ·rename_i e2;cases e2;split at h
   ·rename_i g2;obtain⟨ws,e,r⟩:=hG.lst g2;obtain⟨y,rfl,ry⟩:=rs.one;cases ry;obtain⟨h1,h2,h⟩:=h;split at h
    ·rename_i k ek;split at h
     ·rename_i u eu;obtain⟨y,ey,ry⟩:=r.get eu;exact .inr ⟨_,ws,_,k,y,rfl,rfl,e,h1,h2,by rw[<- r.length];exact ek,ey,lv.wl g2 (r.erase k) hG ry h⟩
     ·exact h.elim
    ·exact h.elim
   ·exact h.elim
 ·cases h
theorem RKs.put {κ:Type}[DecidableEq κ]{K:Yac}{H:Hp}{k:κ}{u:U}{v:V}(r:RU K H u v):∀{kvs:List (κ×U)} {l:List (κ×V)},RKs K H kvs l->RKs K H (dPut kvs k u) (putK l k v):=by
 intro kvs l h;have any:∀{kvs:List (κ×U)} {l:List (κ×V)},RKs K H kvs l->(kvs.any λkv=>decide (kv.1=k))=l.any λkv=>decide (kv.1=k):=by
  intro kvs
  induction kvs with
  |nil=>intro l h;cases h;rfl
  |cons p q ih=>intro l h;obtain⟨w,l',rfl,_,rs⟩:=h;simp only[Ybp];rw[ih rs]
 have repl:∀{kvs:List (κ×U)} {l:List (κ×V)},RKs K H kvs l->RKs K H (kvs.map λkv=>if kv.1=k then (kv.1,u) else kv) (l.map λkv=>if kv.1=k then (kv.1,v) else kv):=by
  intro kvs
  induction kvs with
  |nil=>intro l h;cases h;rfl
  |cons p q ih=>
   intro l h;obtain⟨k',u'⟩:=p;obtain⟨w,l',rfl,rw',rs⟩:=h;simp only[YaF];by_cases e:k'=k
   ·rw[if_pos e,if_pos e];exact⟨v,_,rfl,r,ih rs⟩
   ·rw[if_neg e,if_neg e];exact⟨w,_,rfl,rw',ih rs⟩
 have snoc:∀{kvs:List (κ×U)} {l:List (κ×V)},RKs K H kvs l->RKs K H (kvs++[(k,u)]) (l++[(k,v)]):=by
  intro kvs
  induction kvs with
  |nil=>intro l h;cases h;exact⟨v,[],rfl,r,rfl⟩
  |cons p q ih=>intro l h;obtain⟨k',u'⟩:=p;obtain⟨w,l',rfl,rw',rs⟩:=h;exact⟨w,_,rfl,rw',ih rs⟩
 unfold dPut putK;rw[any h];split
 ·exact repl h
 ·exact snoc h
theorem RKs.length {κ:Type}{K:Yac}{H:Hp}:∀{kvs:List (κ×U)} {l:List (κ×V)},RKs K H kvs l->kvs.length=l.length
 |[],_,h=>by cases h;rfl
 |(_,_)::_,_,h=>by obtain⟨v,l',rfl,_,rs⟩:=h;simp[rs.length]
theorem jiE (m:Mth):MtU X m:=by
 cases m with
 |append=>exact jgM
 |extend=>exact jgL
 |insert=>exact jgK
 |pop=>exact jmc
 |reverse=>intro x G1 T id h;cases h
 |index=>intro x G1 T id h;cases h
 |join=>intro x G1 T id h;cases h
 |split=>intro x G1 T id h;cases h
 |setd=>intro x G1 T id h;cases h
 |get=>intro x G1 T id h;unfold mtU at h;split at h<;>contradiction
variable {m:Mth}{o e:Expr}{es:List Expr}{to:UE}{ts:UA}{apos cpos:Pos}
theorem jkT (hm:MtU X m)(ho:PE X o (lE X to))(ha:PA X (e::es) (lA X ts))(hbase:Ybu o (mthN m) X.env (eval o X.env)=eval o X.env)
  (hfew:((backTo cpos (YaA (e::es) X.env)).all (λx=>!x.1)&&(backToKw cpos (Yey [] X.env)).all (λx=>x.1.isSome)
   && decide ((e::es).length+([]:List Keyword).length+(if ([]:List Keyword).isEmpty then 0 else 1)<30))=true)
  (hline:(apos.endLine==cpos.line)=true) (hs:YaA (e::es) X.env=(false,eval e X.env)::YaA es X.env) (hplain:(backTo cpos (YaA es X.env)).any (·.1)=false) :
  PE X (.Call (.Attribute o (mthN m) apos) (e::es) [] cpos) (lE X λς G Q E=>to ς G (λx G1=>match mtU m x G1 with|some _=>ts ς G1 (λus G2=>jaO m x us G2 Q) E|none=>False) E):=by
 intro pins s σ H Q0 I h;obtain⟨ς,G,Q,E,hς,hG,h,lv,lx⟩:=h;refine PySem.wpAny_Call_method_late hbase hfew hline rfl (thn (ho pins s σ H (λv H1=>∃x G1 T id,RU X.K H1 x v/\HR X.K H1 G1/\Fr H G H1 G1/\mtU m x G1=some (T,id)/\ts ς G1 (λus G2=>jaO m x us G2 Q) E) I
  ⟨ς,G,_,E,hς,hG,h,λx v G1 H1 rx hG1 f1 h1=>?_,lx⟩) λv s1 ⟨xv,H1,I1,r1,x,G1,T,id,rx,hG1,f1,em,h1⟩=>?_)
 ·dsimp only at h1;split at h1
  ·rename_i p ep;exact⟨x,G1,p.1,p.2,rx,hG1,f1,ep,h1⟩
  ·exact h1.elim
 ·obtain⟨k,hty,r,hr1,hr2⟩:=hm x G1 T id em;obtain⟨t1,t2⟩:=jit I1 r1 (hty xv H1 rx hG1);refine⟨T,id,k.pa,k.sl,k.ty,t1,t2,?_⟩;have hA:=ha cpos pins s1 σ H1 (λvs H2=>∃us G2,RUs X.K H2 us vs/\HR X.K H2 G2/\Fr H1 G1 H2 G2/\jaO m x us G2 Q) I1 ⟨ς,G1,_,E,hς.ts (f1.ts hG),hG1,h1,λus vs G2 H2 rs hG2 f2 h2=>⟨us,G2,rs,hG2,f2,h2⟩,lx.fr f1⟩;rw[hs]at hA ⊢;refine Yb6 (by show(false||(backTo cpos (YaA es X.env)).any (·.1))=false;rw[hplain]<;>rfl) (Calls.evalArgs_plain ?_)
  exact thn hA λus s2 ⟨vs,H2,I2,r2,ws,G2,rs,hG2,f2,h2⟩=>hr1 pins s2 σ H2 xv vs v us Q0 I2 r1 r2 (hr2 ws xv vs G2 H2 Q Q0 (rx.ts (f2.ts hG1)) rs hG2 h2 (lv.fr (f1.trans f2)))
theorem ji4 (hm:MtU X m)(ho:PE X o (lE X to))(hbase:Ybu o (mthN m) X.env (eval o X.env)=eval o X.env)(hline:(apos.endLine==cpos.line)=true) :
  PE X (.Call (.Attribute o (mthN m) apos) [] [] cpos) (lE X λς G Q E=>to ς G (λx G1=>match mtU m x G1 with|some _=>jaO m x [] G1 Q|none=>False) E):=by
 intro pins s σ H Q0 I h;obtain⟨ς,G,Q,E,hς,hG,h,lv,lx⟩:=h;refine PySem.wpAny_Call_method0_late hbase hline (thn (ho pins s σ H (λv H1=>∃x G1 T id,RU X.K H1 x v/\HR X.K H1 G1/\Fr H G H1 G1/\mtU m x G1=some (T,id)/\jaO m x [] G1 Q) I
  ⟨ς,G,_,E,hς,hG,h,λx v G1 H1 rx hG1 f1 h1=>?_,lx⟩) λv s1 ⟨xv,H1,I1,r1,x,G1,T,id,rx,hG1,f1,em,h1⟩=>?_)
 ·dsimp only at h1;split at h1
  ·rename_i p ep;exact⟨x,G1,p.1,p.2,rx,hG1,f1,ep,h1⟩
  ·exact h1.elim
 ·obtain⟨k,hty,r,hr1,hr2⟩:=hm x G1 T id em;obtain⟨t1,t2⟩:=jit I1 r1 (hty xv H1 rx hG1);exact⟨T,id,k.pa,k.sl,k.ty,t1,t2,Yb6 rfl (Yda (hr1 pins s1 σ H1 xv [] v [] Q0 I1 r1 .nil (hr2 [] xv [] G1 H1 Q Q0 rx rfl hG1 h1 (lv.fr f1))))⟩
end
end Z

namespace L2
open PySem PySem.Spec PyProof.Rows
section
variable {X:Cx}{tg:Expr}
def iSeq (K:Yac)(tl:TE):TI:=λσ H R=>tl σ H λx H1=>∃a,x=.ref a/\(((∃xs,SqL K H1 a xs)/\R (Itl K a) H1)\/((∃xs,SqT K H1 a xs)/\R (Itt K a) H1))
theorem jlD {l:Expr}{tl:TE}(hl:PE X l tl):PI X tg l (iSeq X.K tl):=by
 intro pins s σ H R I h;refine thn (hl pins s σ H _ I h) λv s1 ⟨x,H1,I1,r1,q1⟩=>?_;obtain⟨a,e,⟨⟨xs,hq⟩,q⟩|⟨⟨xs,hq⟩,q⟩⟩:=q1
 ·subst e;cases r1;obtain⟨its,rv,p,hz⟩:=I1.list hq;refine Yd5 p.isList ?_;refine⟨s1.heap.objs.size,[s1.heap.objs.size],_,_,H1,rfl,I1.kept (t':=s1.toks) λb o e=>Yab _ e,jgg a _,⟨_,Yaq _ rfl,rfl,rfl⟩,λb hb=>?_,q⟩;have e:b=s1.heap.objs.size:=by simpa using hb
  subst e;exact I1.fpOk (Yag _) (I1.hok.fresh (Yag _))
 ·subst e;cases r1;obtain⟨its,rv,p,hz⟩:=I1.tuple hq;refine YcK (show s1.heap.IsTuple a its.toArray from p) ?_;refine⟨s1.heap.objs.size,[s1.heap.objs.size],_,_,H1,rfl,I1.kept (t':=s1.toks) λb o e=>Yab _ e,jfL a _,⟨_,Yaq _ rfl,rfl,rfl⟩,λb hb=>?_,q⟩;have e:b=s1.heap.objs.size:=by simpa using hb
  subst e;exact I1.fpOk (Yag _) (I1.hok.fresh (Yag _))
theorem PI.imp {iter:Expr}{t t':TI}(h:PI X tg iter t)(i:∀σ H R,t' σ H R->t σ H R):PI X tg iter t':=λpins s σ H R I q=>h pins s σ H R I (i σ H R q)
theorem PG.imp {target:Expr}{t t':TG}(h:PG X target t)(i:∀v σ H Q,t' v σ H Q->t v σ H Q):PG X target t':=λpins s σ H v u Q I r q=>h pins s σ H v u Q I r (i v σ H Q q)
theorem PGs.imp {ts:List Expr}{t t':TGs}(h:PGs X ts t)(i:∀v σ H Q,t' v σ H Q->t v σ H Q):PGs X ts t':=λpins s σ H v u Q I r q=>h pins s σ H v u Q I r (i v σ H Q q)
theorem PIfs.imp {ifs:List Expr}{t t':TT}(h:PIfs X ifs t)(i:∀σ H Q,t' σ H Q->t σ H Q):PIfs X ifs t':=λpins s σ H Q I q=>h pins s σ H Q I (i σ H Q q)
end
end L2
namespace Z
open PySem L2
abbrev UI:=Sg->Gp->(List U->(Gp->Prop)->Gp->Prop)->KX->Prop
def jeM (K:Yac)(J:L2.It)(H:Hp)(G:Gp)(xs:List U)(ok:Gp->Prop):Prop:=∀i H' G',TS H H'->HR K H' G'->ok G'->
 (∀u,xs[i]?=some u->J.go i H'/\∀v H'',J.yld i H' v H''->RU K H'' u v/\HR K H'' G'/\Fr H' G' H'' G')/\(i=xs.length->J.stop i H')
theorem jeM.mono {K:Yac}{J:L2.It}{H H2:Hp}{G G2:Gp}{xs:List U}{ok:Gp->Prop}(h:jeM K J H G xs ok)(t:TS H H2):jeM K J H2 G2 xs ok:=λi H' G' t'=>h i H' G' (t.trans t')
section
variable (X:Cx)
def lI (t:UI):TI:=λσ H R=>∃ς G Q E,SR X.K H ς σ/\HR X.K H G/\t ς G Q E/\(∀xs ok G' H' J,HR X.K H' G'->Fr H G H' G'->jeM X.K J H' G' xs ok->Q xs ok G'->R J H')/\LX X σ H G E
def lG (K:Yac)(t:U->Sg->(Sg->Prop)->Prop):TG:=λv σ H Q0=>∃u ς k,RU K H u v/\SR K H ς σ/\t u ς k/\∀ς' σ',SR K H ς' σ'->k ς'->Q0 σ' H
def lGs (K:Yac)(t:List U->Sg->(Sg->Prop)->Prop):TGs:=λvs σ H Q0=>∃us ς k,RUs K H us vs/\SR K H ς σ/\t us ς k/\∀ς' σ',SR K H ς' σ'->k ς'->Q0 σ' H
end
section
variable {X:Cx}{tg:Expr}{pos:Pos}{te ta tb:UE}
theorem u_ie {l:Expr}(hl:PE X l (lE X te)):PI X tg l (lI X λς G Q E=>te ς G (λx G1=>itU x G1 λxs ok=>Q xs ok G1) E):=by
 refine(jlD hl).imp λσ H R h=>?_;obtain⟨ς,G,Q,E,hς,hG,h,lv,lx⟩:=h;refine⟨ς,G,_,E,hς,hG,h,λx v G1 H1 rx hG1 f1 h1=>?_,lx⟩;dsimp only at h1;unfold itU at h1;split at h1
 ·obtain⟨a,vs,rfl,ea,rs⟩:=rx;refine⟨a,rfl,.inr ⟨⟨vs,.of ea⟩,lv _ _ _ H1 _ hG1 f1 (λi H' G' f hr _=>?_) h1⟩⟩;have e':H' a=some (.tup vs):=f a _ ea;refine⟨λu eu=>?_,λe=>⟨vs,.of e',by rw[e,rs.length];exact Yag _⟩⟩
  obtain⟨w,ew,rw'⟩:=rs.get eu;refine⟨⟨vs,w,.of e',ew⟩,λv H'' y=>?_⟩;obtain⟨rfl,y⟩:=y;have:=y vs (.of e');rw[ew]at this;cases this;exact⟨rw'.ts f,hr,Fr.refl _ _⟩
 ·cases rx;rename_i a;split at h1
  ·rename_i us eu;obtain⟨vs,sq,rs⟩:=hG1.ls eu;refine⟨_,rfl,.inl ⟨⟨vs,sq⟩,lv _ _ _ H1 _ hG1 f1 (λi H' G' f hr ok=>?_) h1⟩⟩;obtain⟨vs',sq',rs'⟩:=hr.ls ok;refine⟨λu eu=>?_,λe=>⟨vs',sq',by rw[e,rs'.length];exact Yag _⟩⟩
   obtain⟨w,ew,rw'⟩:=rs'.get eu;refine⟨⟨vs',w,sq',ew⟩,λv H'' y=>?_⟩;obtain⟨rfl,y⟩:=y;have:=y vs' sq';rw[ew]at this;cases this;exact⟨rw',hr,Fr.refl _ _⟩
  ·exact h1.elim
 ·exact h1.elim
theorem jhC {K:Yac}{H:Hp}{G:Gp}(lo:Int)(n:Nat):jeM K (Itr lo n) H G (rngU lo n) λ_=>True:=by
 intro i H' G' f hr _;have hl:(rngU lo n).length=n:=by simp[rngU]
 refine⟨λu eu=>?_,λe=>by rw[hl]at e;exact YdE e.symm⟩
 have hi:i<n:=by have:=(List.getElem?_eq_some_iff.mp eu).1;omega
 refine⟨hi,λv H'' y=>?_⟩;obtain⟨rfl,rfl⟩:=y;have:(rngU lo n)[i]?=some (.int (lo+i)):=by simp[rngU,Yal,Ye0 hi]
 rw[this]at eu;cases eu;exact⟨rfl,hr,Fr.refl _ _⟩
theorem u_r1 {a:Expr}{p:Pos}(hg:Gl X "range")(hm:X.mg "range" = none)(ha:PE X a (lE X ta))(hs:YaA [a] X.env=[(false,eval a X.env)]):PI X tg (.Call (.Name "range" p) [a] [] pos) (lI X λς G Q E=>ta ς G (λx G1=>match x with
   |.int j=>-(2 ^ 62)<=j/\j<2 ^ 62/\Q (rngU 0 j.toNat) (λ_=>True) G1
   |_=>False) E):=by
 refine(jgx hg hm (jck ha jeO hs) hs).imp λσ H R h=>?_;obtain⟨ς,G,Q,E,hς,hG,h,lv,lx⟩:=h;refine⟨ς,G,λus G1=>match us with|[x]=>(match x with|.int j=>-(2 ^ 62)<=j/\j<2 ^ 62/\Q (rngU 0 j.toNat) (λ_=>True) G1|_=>False)|_=>False,E,hς,hG,h,λus vs G1 H1 rs hG1 f1 h1=>?_,lx⟩
 dsimp only at h1;split at h1
 ·obtain⟨v,rfl,r⟩:=rs.one;split at h1
  ·cases r;exact⟨_,rfl,h1.1,h1.2.1,lv _ _ G1 H1 _ hG1 f1 (jhC 0 _) h1.2.2⟩
  ·exact h1.elim
 ·exact h1.elim
theorem jcO:∀{n i:Nat} {xs:List U} {u:U},(jd5 n xs)[i]?=some u->∃x,xs[i]?=some x/\u=.tup [.int ((n+i:Nat):Int),x]
 |_,_,[],_,h=>by simp[jd5]at h
 |n,0,x::xs,_,h=>by
  simp[jd5]at h;exact⟨x,rfl,h.symm⟩
 |n,i+1,_::xs,_,h=>by
  obtain⟨x,e1,e2⟩:=jcO (n:=n+1) (i:=i) (xs:=xs) (by simpa[jd5]using h)
  exact⟨x,by simpa using e1,by rw[e2];congr 3;omega⟩
theorem jcN:∀(n:Nat) (xs:List U),(jd5 n xs).length=xs.length
 |_,[]=>rfl
 |n,_::xs=>by simp[jd5,jcN (n+1) xs]
theorem jkV {l:Expr}{p tpos:Pos}{elts:List Expr}{x1}(hg:Gl X "enumerate")(hm:X.mg "enumerate" = none)(ha:PE X l (lE X ta))(hs:YaA [l] X.env=[(false,eval l X.env)]) :
  PI X (.Tuple elts x1 tpos) (.Call (.Name "enumerate" p) [l] [] pos) (lI X λς G Q E=>ta ς G (λx G1=>enI x G1 λxs ok=>Q xs ok G1) E):=by
 refine(jhR hg hm (jck ha jeO hs) hs).imp λσ H R h=>?_;obtain⟨ς,G,Q,E,hς,hG,h,lv,lx⟩:=h;refine⟨ς,G,λus G1=>match us with|[x]=>enI x G1 λxs ok=>Q xs ok G1|_=>False,E,hς,hG,h,λus vs G1 H1 rs hG1 f1 h1=>?_,lx⟩
 dsimp only at h1;split at h1
 ·obtain⟨v,rfl,r⟩:=rs.one;unfold enI at h1;split at h1
  ·obtain⟨a,ws,rfl,ea,rr⟩:=r;refine⟨a,rfl,.inl ⟨⟨ws,ea⟩,lv _ _ _ H1 _ hG1 f1 (λi H' G' f hr _=>?_) h1⟩⟩;have e':H' a=some (.tup ws):=f a _ ea;refine⟨λu eu=>?_,λe=>⟨ws,e',by rw[e,jcN,rr.length]⟩⟩
   obtain⟨x,ex,rfl⟩:=jcO eu;obtain⟨w,ew,rw'⟩:=rr.get ex;refine⟨⟨ws,w,e',ew⟩,λv H'' y=>?_⟩;obtain⟨ys,z,q,hq,hz,rfl,hn,rfl⟩:=y;rw[e']at hq;cases hq;rw[ew]at hz;cases hz;refine⟨⟨q,_,rfl,jan,⟨_,_,rfl,by rw[Ycs];rfl,⟨_,_,rfl,(rw'.ts f).ts (TS.new hn),rfl⟩⟩⟩,hr.newT hn,Fr.new hn⟩
  ·cases r;split at h1
   ·rename_i us eu;obtain⟨vs,sq,rs⟩:=hG1.ls eu;refine⟨_,rfl,.inr ⟨⟨vs,sq⟩,lv _ _ _ H1 _ hG1 f1 (λi H' G' f hr ok=>?_) h1⟩⟩;obtain⟨vs',sq',rr⟩:=hr.ls ok;refine⟨λu eu=>?_,λe=>⟨vs',sq',by rw[e,jcN,rr.length]⟩⟩
    obtain⟨x,ex,rfl⟩:=jcO eu;obtain⟨w,ew,rw'⟩:=rr.get ex;refine⟨⟨vs',w,sq',ew⟩,λv H'' y=>?_⟩;obtain⟨z,q,hz,rfl,hn,rfl⟩:=y;have hz:=hz vs' sq';rw[ew]at hz;cases hz;refine⟨⟨q,_,rfl,jan,⟨_,_,rfl,by rw[Ycs];rfl,⟨_,_,rfl,rw'.ts (TS.new hn),rfl⟩⟩⟩,hr.newT hn,Fr.new hn⟩
   ·exact h1.elim
  ·exact h1.elim
 ·exact h1.elim
theorem u_is {l:Expr}(hl:PE X l (lE X te)):PI X tg l (lI X λς G Q E=>te ς G (λx G1=>sgU x λxs=>Q xs (λ_=>True) G1) E):=by
 refine(jlC hl).imp λσ H R h=>?_;obtain⟨ς,G,Q,E,hς,hG,h,lv,lx⟩:=h;refine⟨ς,G,_,E,hς,hG,h,λx v G1 H1 rx hG1 f1 h1=>?_,lx⟩;cases x with
 |str z=>
  cases rx;obtain⟨ha,h1⟩:=h1;refine⟨z,rfl,ha,lv _ _ _ H1 _ hG1 f1 (λi H' G' f hr _=>⟨λu eu=>?_,λe=>?_⟩) h1⟩
  ·rw[Yal]at eu;cases ec:z.cps.toList[i]? with
   |none=>rw[ec]at eu;cases eu
   |some c=>
    rw[ec]at eu;cases eu;have ec':z.cps[i]?=some c:=by simpa using ec
    refine⟨(Array.getElem?_eq_some_iff.mp ec').1,λv H'' y=>?_⟩;obtain⟨rfl,d,ed,rfl⟩:=y;rw[ec']at ed;cases ed;exact⟨rfl,hr,Fr.refl _ _⟩
  ·rw[e];simp[Its]
 |_=>exact h1.elim
section
variable {κ:Type}{K:Yac}{H:Hp}
theorem RKs.len:∀{kvs:List (κ×U)} {l:List (κ×V)},RKs K H kvs l->kvs.length=l.length
 |[],_,h=>by cases h;rfl
 |(_,_)::_,_,h=>by
  obtain⟨v,l',rfl,_,rs⟩:=h;simp[RKs.len rs]
theorem RKs.val:∀{kvs:List (κ×U)} {l:List (κ×V)} {i:Nat} {p:κ×V},RKs K H kvs l->l[i]?=some p->∃u,kvs[i]?=some (p.1,u)/\RU K H u p.2
 |[],_,_,_,h,e=>by cases h;simp at e
 |(_,_)::_,_,0,_,h,e=>by
  obtain⟨v,l',rfl,r,_⟩:=h;simp at e;subst e;exact⟨_,rfl,r⟩
 |(_,_)::_,_,i+1,_,h,e=>by
  obtain⟨v,l',rfl,_,rs⟩:=h;simp at e;simpa using RKs.val rs e
end
theorem jis {f:List (Key×U)->List U}{J:Addr->Obj->L2.It}{l:Expr}{ti:TI}(hl:PI X tg l ti)(hti:ti=λσ H R=>lE X te σ H λx H1=>∃a kvs,x=.ref a/\Held H1 a kvs λo H'=>R (J a o) H')
  (hw:∀{a o kvs} {H':Hp} {G':Gp},HR X.K H' G'->G' a=some (.frk o kvs)->jeM X.K (J a o) H' G' (f kvs) λG'=>G' a=some (.frk o kvs)):PI X tg l (lI X λς G Q E=>te ς G (λx G1=>jcE f x G1 Q) E):=by
 subst hti;refine hl.imp λσ H R h=>?_;obtain⟨ς,G,Q,E,hς,hG,h,lv,lx⟩:=h;refine⟨ς,G,_,E,hς,hG,h,λx v G1 H1 rx hG1 f1 h1=>?_,lx⟩;dsimp only at h1;unfold jcE at h1;split at h1
 ·cases rx;rename_i a;split at h1
  ·rename_i kvs g;obtain⟨l,e,rk⟩:=hG1 _ _ g;refine⟨a,l,rfl,.inl e,λo _=>?_⟩;have hG2:HR X.K (upd H1 a (.frz o (.dK l))) (gup G1 a (.frk o kvs)):=hG1.write g ⟨l,jan,rk.ts (TS.write hG1 g)⟩;exact lv _ _ _ _ _ hG2 (f1.trans (Fr.write g)) (hw hG2 jac) (h1 o _ ⟨rfl⟩)
  ·rename_i o kvs g;obtain⟨l,e,rk⟩:=hG1 _ _ g;refine⟨a,l,rfl,.inr ⟨o,e⟩,λo' ho=>?_⟩;cases ho o e;have same:upd H1 a (.frz o (.dK l))=H1:=by
    funext b;unfold upd;split
    ·rename_i z;rw[z,e]
    ·rfl
   rw[same];exact lv _ _ _ _ _ hG1 f1 (hw hG1 g) h1
  ·exact h1.elim
 ·exact h1.elim
theorem u_dv {d:Expr}{apos:Pos}(hd:PE X d (lE X te))(hb:Ybu d "values" X.env (eval d X.env)=eval d X.env)(hl:(apos.endLine==pos.line)=true):PI X tg (.Call (.Attribute d "values" apos) [] [] pos) (lI X λς G Q E=>te ς G (λx G1=>jcE jdO x G1 Q) E):=by
 refine jis (J:=Itv) (jog hd hb hl) rfl λ{a o kvs H' G'} _ _=>λi H2 G2 f hr ok=>?_;obtain⟨l',e',rk'⟩:=hr _ _ ok;refine⟨λu eu=>?_,λz=>⟨l',e',by rw[z,jdO,Yaa,rk'.len];exact Yag _⟩⟩
 have hi:i<l'.length:=by
  have:=(List.getElem?_eq_some_iff.mp eu).1;rw[jdO,Yaa,rk'.len]at this;exact this
 refine⟨⟨l',e',hi⟩,λv H'' y=>?_⟩;obtain⟨rfl,l2,k,e2,ek⟩:=y;rw[e']at e2;cases e2;obtain⟨u2,eu2,ru⟩:=rk'.val ek;rw[jdO,Yal,eu2]at eu;cases eu;exact⟨ru,hr,Fr.refl _ _⟩
theorem u_di {d:Expr}{apos tpos:Pos}{elts:List Expr}{x1}(hd:PE X d (lE X te))(hb:Ybu d "items" X.env (eval d X.env)=eval d X.env)(hl:(apos.endLine==pos.line)=true):PI X (.Tuple elts x1 tpos) (.Call (.Attribute d "items" apos) [] [] pos) (lI X λς G Q E=>te ς G (λx G1=>jcE jcx x G1 Q) E):=by
 refine jis (J:=Iti) (joh hd hb hl) rfl λ{a o kvs H' G'} _ _=>λi H2 G2 f hr ok=>?_;obtain⟨l',e',rk'⟩:=hr _ _ ok;refine⟨λu eu=>?_,λz=>⟨l',e',by rw[z,jcx,Yaa,rk'.len];exact Yag _⟩⟩
 have hi:i<l'.length:=by
  have:=(List.getElem?_eq_some_iff.mp eu).1;rw[jcx,Yaa,rk'.len]at this;exact this
 refine⟨⟨l',e',hi⟩,λv H'' y=>?_⟩;obtain⟨l2,k,x,p,e2,ek,rfl,hn,rfl⟩:=y;rw[e']at e2;cases e2;obtain⟨u2,eu2,ru⟩:=rk'.val ek;rw[jcx,Yal,eu2]at eu;cases eu;exact⟨⟨p,_,rfl,jan,⟨_,_,rfl,by cases k<;>rfl,⟨_,_,rfl,ru.ts (TS.new hn),rfl⟩⟩⟩,hr.newT hn,Fr.new hn⟩
theorem u_zp {a b:Expr}{p tpos:Pos}{elts:List Expr}{x1}(hg:Gl X "zip")(hm:X.mg "zip" = none)(ha:PE X a (lE X ta))(hb:PE X b (lE X tb))(hs:YaA [a,b] X.env=(false,eval a X.env)::YaA [b] X.env)(hs2:YaA [b] X.env=[(false,eval b X.env)]) :
  PI X (.Tuple elts x1 tpos) (.Call (.Name "zip" p) [a,b] [] pos) (lI X λς G Q E=>ta ς G (λx G1=>tb ς G1 (λy G2=>zipU x y λxs=>Q xs (λ_=>True) G2) E) E):=by
 refine(jlB hg hm (jck ha (jck hb jeO hs2) hs) hs (by rw[hs2];rfl)).imp λσ H R h=>?_
 obtain⟨ς,G,Q,E,hς,hG,h,lv,lx⟩:=h;refine⟨ς,G,λus G1=>match us with|[x,y]=>zipU x y λxs=>Q xs (λ_=>True) G1|_=>False,E,hς,hG,h,λus vs G1 H1 rs hG1 f1 h1=>?_,lx⟩
 dsimp only at h1;split at h1
 ·obtain⟨v,v',rfl,r,r'⟩:=rs.two;unfold zipU at h1;split at h1
  ·obtain⟨a1,vs,rfl,e1,rr⟩:=r;obtain⟨a2,ws,rfl,e2,rr'⟩:=r';refine⟨a1,a2,vs,ws,rfl,e1,e2,lv _ _ _ H1 _ hG1 f1 (λi H' G' f hr _=>?_) h1⟩;have g1:H' a1=some (.tup vs):=f a1 _ e1;have g2:H' a2=some (.tup ws):=f a2 _ e2;refine⟨λu eu=>?_,λz=>⟨vs,ws,g1,g2,?_⟩⟩
   ·rw[Yal]at eu;rename_i xs ys _;cases ez:(xs.zip ys)[i]? with
    |none=>rw[ez]at eu;cases eu
    |some q=>
     rw[ez]at eu;cases eu;obtain⟨ex,ey⟩:=List.getElem?_zip_eq_some.mp ez;obtain⟨w1,ew1,rw1⟩:=rr.get ex;obtain⟨w2,ew2,rw2⟩:=rr'.get ey;refine⟨⟨vs,ws,w1,w2,g1,g2,ew1,ew2⟩,λv H'' y=>?_⟩;obtain⟨l1,l2,z1,z2,q',hq1,hq2,hz1,hz2,rfl,hn,rfl⟩:=y;rw[g1]at hq1;cases hq1;rw[g2]at hq2;cases hq2;rw[ew1]at hz1;cases hz1;rw[ew2]at hz2;cases hz2;exact⟨⟨q',_,rfl,jan,⟨_,_,rfl,(rw1.ts f).ts (TS.new hn),⟨_,_,rfl,(rw2.ts f).ts (TS.new hn),rfl⟩⟩⟩,hr.newT hn,Fr.new hn⟩
   ·rename_i xs ys _;rw[Yaa,List.length_zip]at z;have l1:=rr.length;have l2:=rr'.length;by_cases hc:vs.length<=i
    ·exact .inl (Ybo hc)
    ·exact .inr (Ybo (by omega))
  ·exact h1.elim
 ·exact h1.elim
theorem SR.set {K:Yac}{H:Hp}{ς:Sg}{σ:St}{u:U}{v:V}(h:SR K H ς σ)(r:RU K H u v)(i:Nat):SR K H (ς.set i (some u)) (σ.set i (some v)):=by
 refine⟨by simp[h.1],λj w e=>?_⟩
 by_cases hj:j=i
 ·subst hj;by_cases hl:j<ς.length
  ·rw[Yb8 hl]at e;cases e;exact⟨v,Yb8 (by rw[<- h.1];exact hl),r⟩
  ·rw[Ybo (by simp;omega)]at e
   cases e
 ·rw[Ybv (Ne.symm hj)]at e ⊢;exact h.2 j w e
theorem u_tn {i:Nat}{x:Str}(hN:X.N.Nodup)(hi:X.N[i]?=some x)(hx:Loc X.env.scope x)(hf:X.fn x=true\/X.env.scope.names.lookup x=some .local):PG X (.Name x pos) (lG X.K (tgU (.n i))):=by
 refine(jjE hN hi hx hf).imp λv σ H Q h=>?_;obtain⟨u,ς,k,r,hς,h,q⟩:=h;exact q _ _ (hς.set r i) h
theorem u_tt {es:List Expr}{k n:Nat}{ts:Tgs}(hc:X.calm=true)(h:PGs X es (lGs X.K (tgsU ts)))(hn:(Ya2 es X.env).length=n)(hst:(Ya2 es X.env).findIdx? (·.1)=none)(hl:∀us ς k,tgsU ts us ς k->us.length=n) :
  PG X (.Tuple es k pos) (lG X.K (tgU (.t ts))):=by
 refine(jlE hc h hn hst).imp λv σ H Q h=>?_;obtain⟨u,ς,k,r,hς,h,q⟩:=h;cases u with
 |tup us=>
  obtain⟨a,vs,rfl,e,rs⟩:=r;have h':tgsU ts us ς k:=h;exact⟨a,vs,rfl,.of e,by rw[<- rs.length];exact hl _ _ _ h',us,ς,k,rs,hς,h',q⟩
 |_=>exact h.elim
theorem jnz:PGs X [] (lGs X.K (tgsU .nil)):=by
 refine jjD.imp λvs σ H Q h=>?_;obtain⟨us,ς,k,r,hς,h,q⟩:=h;obtain⟨rfl,h⟩:=h;cases r;exact⟨rfl,q _ _ hς h⟩
theorem jnA {e:Expr}{es:List Expr}{t:Tg}{ts:Tgs}(h1:PG X e (lG X.K (tgU t)))(h2:PGs X es (lGs X.K (tgsU ts)))(hs:(Ya2 (e::es) X.env).map (·.2)=assign e X.env::(Ya2 es X.env).map (·.2)) :
  PGs X (e::es) (lGs X.K (tgsU (.cons t ts))):=by
 refine(jhS h1 h2 hs).imp λvs σ H Q h=>?_;obtain⟨us,ς,k,r,hς,h,q⟩:=h;cases us with
 |nil=>exact h.elim
 |cons u us=>
  obtain⟨v,vr,rfl,r1,rs⟩:=r;exact⟨v,vr,rfl,u,ς,_,r1,hς,h,λς' σ' hs' h'=>⟨us,ς',k,rs,hs',h',q⟩⟩
end
theorem jfy {K:Yac}{H:Hp}:∀ns:List Int,RUs K H (ns.map .int) (ns.map V.int)
 |[]=>rfl
 |_::r=>⟨_,_,rfl,rfl,jfy r⟩
theorem jgr {κ:Type}{K:Yac}{H:Hp}:∀{kvs:List (κ×U)} {l:List (κ×V)},RKs K H kvs l->kvs.map (·.1)=l.map (·.1)
 |[],_,h=>by cases h;rfl
 |(k,u)::r,_,h=>by
  obtain⟨v,l',rfl,_,rs⟩:=h;rw[YaF,YaF,jgr rs]
def lE0 (K:Yac)(t:UE):TE:=λτ H Q0=>∃ς G Q,SR K H ς τ/\HR K H G/\t ς G Q (λ_ _=>False)/\∀w v G' H',RU K H' w v->HR K H' G'->Fr H G H' G'->Q w G'->Q0 v H'
def lT0 (K:Yac)(t:Sg->Gp->(Bool->Gp->Prop)->Prop):TT:=λτ H Q0=>∃ς G Q,SR K H ς τ/\HR K H G/\t ς G Q/\∀b G' H',HR K H' G'->Fr H G H' G'->Q b G'->Q0 b H'
theorem LX.no {X:Cx}{σ:St}{H:Hp}{G:Gp}:LX X σ H G λ_ _=>False:=λ_ _ _ _ _ _ _ _ _ _ h=>h.elim
theorem lE0.of {X:Cx}{e:Expr}{t:UE}(h:PE X e (lE X t)):PE X e (lE0 X.K t):=h.imp λσ H Q0 ⟨ς,G,Q,h1,h2,h3,h4⟩=>⟨ς,G,Q,_,h1,h2,h3,h4,LX.no⟩
theorem lT0.of {X:Cx}{e:Expr}{t:UT}(h:PT X e (lT X t)):PT X e (lT0 X.K λς G Q=>t ς G Q λ_ _=>False):=h.imp λσ H Q0 ⟨ς,G,Q,h1,h2,h3,h4⟩=>⟨ς,G,Q,_,h1,h2,h3,h4,LX.no⟩
mutual
noncomputable def tgS:Tg->List Nat
 |.n i=>[i]
 |.t ts=>tgsS ts
noncomputable def tgsS:Tgs->List Nat
 |.nil=>[]
 |.cons t ts=>tgS t++tgsS ts
end
def Ext (ς0 ς:Sg):Prop:=ς0.length=ς.length/\∀(j:Nat) (w:U),ς0[j]?=some (some w)->ς[j]?=some (some w)
mutual
theorem jiu {ς0:Sg}:∀{t:Tg} {u:U} {ς:Sg} {k:Sg->Prop},(∀i∈tgS t,∀w,ς0[i]?≠some (some w))->Ext ς0 ς->tgU t u ς k->tgU t u ς λς'=>k ς'/\Ext ς0 ς'
 |.n i,u,ς,k,hf,he,h=>by
  refine⟨h,by simp[he.1],λj w e=>?_⟩
  have hj:j≠i:=λz=>hf i (by simp[tgS]) w (z ▸ e)
  rw[Ybv (Ne.symm hj)]
  exact he.2 j w e
 |.t ts,u,ς,k,hf,he,h=>by
  cases u with
  |tup us=>exact jgi (ts:=ts) (us:=us) (λi hi=>hf i hi) he h
  |_=>exact h
theorem jgi {ς0:Sg}:∀{ts:Tgs} {us:List U} {ς:Sg} {k:Sg->Prop},(∀i∈tgsS ts,∀w,ς0[i]?≠some (some w))->Ext ς0 ς->tgsU ts us ς k->tgsU ts us ς λς'=>k ς'/\Ext ς0 ς'
 |.nil,us,ς,k,_,he,h=>⟨h.1,h.2,he⟩
 |.cons t ts,us,ς,k,hf,he,h=>by
  cases us with
  |nil=>exact h
  |cons u r=>
   have:=jiu (t:=t) (u:=u) (λi hi=>hf i (by simp[tgsS,hi])) he h
   refine jcT this λς' ⟨h1,h2⟩=>jgi (λi hi=>hf i (by simp[tgsS,hi])) h2 h1
theorem jcT:∀{t:Tg} {u:U} {ς:Sg} {k k':Sg->Prop},tgU t u ς k->(∀ς,k ς->k' ς)->tgU t u ς k'
 |.n _,_,_,_,_,h,i=>i _ h
 |.t ts,u,ς,_,_,h,i=>by
  cases u with
  |tup us=>exact jfl (ts:=ts) (us:=us) h i
  |_=>exact h
theorem jfl:∀{ts:Tgs} {us:List U} {ς:Sg} {k k':Sg->Prop},tgsU ts us ς k->(∀ς,k ς->k' ς)->tgsU ts us ς k'
 |.nil,_,_,_,_,h,i=>⟨h.1,i _ h.2⟩
 |.cons t ts,us,ς,_,_,h,i=>by
  cases us with
  |nil=>exact h
  |cons u r=>exact jcT (t:=t) h λς' h'=>jfl h' i
end
theorem SR.ext {K:Yac}{H:Hp}{ς0 ς:Sg}{σ:St}(h:SR K H ς σ)(e:Ext ς0 ς):SR K H ς0 σ:=⟨e.1.trans h.1,λi u q=>h.2 i u (e.2 i u q)⟩
theorem SR.pick {K:Yac}{H:Hp}{ς:Sg}{σ:St}(h:SR K H ς σ)(pick:List (Option Nat)):SR K H (jbH pick ς) (pick.map λo=>o.bind λj=>(σ[j]?).join):=by
 refine⟨by simp[jbH],λi u e=>?_⟩
 unfold jbH at e;rw[Yal]at e ⊢;cases q:pick[i]? with
 |none=>rw[q]at e;cases e
 |some o=>
  rw[q]at e;cases o with
  |none=>simp at e
  |some j=>
   simp only[Yfu,Option.bind_some,Option.some.injEq]at e ⊢;have e':ς[j]?=some (some u):=by
    cases z:ς[j]? with
    |none=>rw[z]at e;cases e
    |some w=>rw[z]at e;simp at e;rw[e]
   obtain⟨v,ev,r⟩:=h.2 j u e';exact⟨v,by rw[ev];rfl,r⟩
section
variable {K:Yac}{H:Hp}{G:Gp}
theorem HR.newH (h:HR K H G){p:Addr}{o:HO}(e:H p=none):HR K (upd H p o) G:=⟨λa ob q=>by
 have m:=h a ob q;obtain⟨ho,e2⟩:=m.there;exact m.keep (jad (jah e2 e)) (TS.new e),h.tab.new e⟩
theorem TS.hid {p:Addr}{ys:List V}{o:HO}(e:H p=some (.lst ys)):TS H (upd H p o):=⟨λa xs h=>by
 have:a≠p:=λz=>by subst z;rw[e]at h;cases h
 rw[jad this];exact h,λa ob h=>by
 have:a≠p:=λz=>by subst z;rw[e]at h;cases h
 rw[jad this];exact h⟩
theorem HR.hid (h:HR K H G){p:Addr}{ys:List V}{o:HO}(e:H p=some (.lst ys))(g:G p=none):HR K (upd H p o) G:=⟨λa ob q=>by
 have:a≠p:=λz=>by subst z;rw[g]at q;cases q
 exact(h a ob q).keep (jad this) (TS.hid e),h.tab.upd (λps z=>by rw[e]at z;cases z) λob z=>by rw[e]at z;cases z⟩
theorem HR.know (h:HR K H G){p:Addr}{ys:List V}{us:List U}(e:H p=some (.lst ys))(r:RUs K H us ys):HR K H (gup G p (.lst us)):=⟨λa ob q=>by
 by_cases z:a=p
 ·subst z;rw[jac]at q;cases q;exact⟨ys,e,r⟩
 ·rw[jbf z]at q;exact h a ob q,h.tab⟩
end
section
variable {X:Cx}{pick:List (Option Nat)}{ti:UI}{t:Tg}{tc:Sg->Gp->(Bool->Gp->Prop)->Prop}{te:UE}{σ:St}{H:Hp}{Q0:VK}
abbrev lcD (pick:List (Option Nat))(ti:UI)(t:Tg)(tc:Sg->Gp->(Bool->Gp->Prop)->Prop)(te:UE):UE:=λς G Q E=>ti ς G (λxs ok G1=>xs.length<=Yai/\jdn ok (λx G2 k=>tgU t x (jbH pick ς) λτ=>tc τ G2 (λb G3=>if b=true then te τ G3 (λu G4=>k (some u) G4) (λ_ _=>False) else k none G3)) xs [] G1
   λus G5=>newO G5 (.lst us) Q) E
structure FrX (D:Addr)(H:Hp)(G:Gp)(H':Hp)(G':Gp):Prop where
 go:∀a o,a≠D->H a=some o->G a=none->(nt:noTb o=true:=by rfl)->H' a=some o/\G' a=none
instance {D:Addr} {H H':Hp} {G G':Gp}:CoeFun (FrX D H G H' G') λ_=>∀a o,a≠D->H a=some o->G a=none->(nt:noTb o=true:=by rfl)->H' a=some o/\G' a=none:=⟨@FrX.go D H G H' G'⟩
theorem jmj {xs:List U}{ok:Gp->Prop}{G1:Gp}{H1:Hp}{J:L2.It}{τu:Sg}{τ0:St}{D:Addr}{acc0:List U}{ys0:List V}{kk:List U->Gp->Prop}{QQ:St->List V->Hp->Prop}
  (free:∀i∈tgS t,∀w,τu[i]?≠some (some w)) (wk:jeM X.K J H1 G1 xs ok) (hG1:HR X.K H1 G1) (eD1:H1 D=some (.lst ys0)) (gD1:G1 D=none) (ra1:RUs X.K H1 acc0 ys0) (sr1:SR X.K H1 τu τ0) (hl:acc0.length+xs.length<=Yai)
  (h1:jdn ok (λx G2 k=>tgU t x τu λτ=>tc τ G2 (λb G3=>if b=true then te τ G3 (λu G4=>k (some u) G4) (λ_ _=>False) else k none G3)) xs acc0 G1 kk)
  (fin:∀τ' acc' ys' G' H',SR X.K H' τu τ'->HR X.K H' G'->FrX D H1 G1 H' G'->H' D=some (.lst ys')->G' D=none->RUs X.K H' acc' ys'->kk acc' G'->QQ τ' ys' H') :
  jhv J (lG X.K (tgU t)) (lT0 X.K tc) (emA (lE0 X.K te) D) QQ τ0 ys0 H1:=by
 refine⟨λi m τ ys H'=>m=xs.length-i/\i<=xs.length/\∃acc G',SR X.K H' τu τ/\HR X.K H' G'/\FrX D H1 G1 H' G'/\H' D=some (.lst ys)/\G' D=none/\RUs X.K H' acc ys/\acc.length<=acc0.length+i/\
  jdn ok (λx G2 k=>tgU t x τu λτ=>tc τ G2 (λb G3=>if b=true then te τ G3 (λu G4=>k (some u) G4) (λ_ _=>False) else k none G3)) (xs.drop i) acc G' kk,⟨xs.length,by simp,Ybb _,acc0,G1,sr1,hG1,⟨λ_ _ _ a b _=>⟨a,b⟩⟩,eD1,gD1,ra1,by omega,by simpa using h1⟩,?_⟩
 rintro i m τ ys H' ⟨rfl,hi,acc,G',sr,hr,f,eD,gD',ra,hal,hc⟩;have ts:TS H1 H':=⟨λa zs e=>(f a _ (λz=>by rw[z,eD1]at e;cases e) e (hG1.tupNone e)).1,λa zs e=>(f a _ (λz=>by rw[z,eD1]at e;cases e) e (hG1.codNone e)).1⟩
 by_cases hlt:i<xs.length
 ·rw[YaX hlt]at hc;obtain⟨hok,hb⟩:=hc;obtain⟨w1,_⟩:=wk i H' G' ts hr hok;obtain⟨go,yl⟩:=w1 xs[i] (by simp[hlt])
  refine .inr ⟨go,λv H'' y=>?_⟩;obtain⟨rx,hr2,f2⟩:=yl v H'' y;have sr2:=sr.ts (f2.ts hr);refine⟨xs[i],τu,_,rx,sr2,jiu free ⟨rfl,λ_ _ e=>e⟩ hb,λτv σ' hs' ⟨hk,he⟩=>?_⟩;refine⟨τv,G',_,hs',hr2,hk,λb G3 H3 hr3 f3 h3=>?_⟩;have f13:FrX D H1 G1 H3 G3:=⟨λa o n h g nt=>let ⟨a1,a2⟩:=f a o n h g nt;let ⟨b1,b2⟩:=f2 a o a1 a2 nt;f3 a o b1 b2 nt⟩
  have hs3:SR X.K H3 τu σ':=(hs'.ext he).ts (f3.ts hr2);obtain⟨eD2,gD2⟩:=f2 D _ eD gD';obtain⟨eD3,gD3⟩:=f3 D _ eD2 gD2;have ra3:=(ra.ts (f2.ts hr)).ts (f3.ts hr2);cases b with
  |false=>
   rw[if_neg Yam]at h3;dsimp only;rw[if_neg Yam];exact⟨xs.length-(i+1),by omega,rfl,hlt,acc,G3,hs3,hr3,f13,eD3,gD3,ra3,by omega,h3⟩
  |true=>
   rw[if_pos rfl]at h3;dsimp only;rw[if_pos rfl];refine⟨τv,G3,_,hs'.ts (f3.ts hr2),hr3,h3,λu v G4 H4 ru hr4 f4 h4=>?_⟩;obtain⟨eD4,gD4⟩:=f4 D _ eD3 gD3;have ra4:=ra3.ts (f4.ts hr3);have tsn:=TS.hid (o:=.lst (ys++[v])) eD4;refine⟨eD4,by rw[<- ra.length];omega,xs.length-(i+1),by omega,rfl,hlt,acc++[u],G4,(hs3.ts (f4.ts hr3)).ts tsn,hr4.hid eD4 gD4,?_,jan,gD4,(ra4.append (RUs.mk (us:=[]) (vs:=[]) ru rfl)).ts tsn,by simp;omega,h4⟩
   refine⟨λa o n ha ga nt=>?_⟩;obtain⟨x1,x2⟩:=f13 a o n ha ga nt;obtain⟨y1,y2⟩:=f4 a o x1 x2 nt;exact⟨by rw[jad n];exact y1,y2⟩
 ·have e:i=xs.length:=by omega
  subst e;rw[YfN]at hc;obtain⟨hok,q⟩:=hc;obtain⟨_,w2⟩:=wk xs.length H' G' ts hr hok;exact .inl ⟨w2 rfl,fin τ acc ys G' H' sr hr f eD gD' ra q⟩
theorem jgw {is:List Nat}(hp:is.all (λi=>(pick[i]?).join.isNone)=true)(ς:Sg):∀i∈is,∀w,(jbH pick ς)[i]?≠some (some w):=λi hi w e=>by
 have:=List.all_eq_true.mp hp i hi;unfold jbH at e;rw[Yal]at e;cases q:pick[i]? with
 |none=>rw[q]at e;cases e
 |some o=>
  rw[q]at e this;cases o with
  |none=>simp at e
  |some j=>simp at this
theorem jiG (hp:(tgS t).all (λi=>(pick[i]?).join.isNone)=true)(h:lE X (lcD pick ti t tc te) σ H Q0):tLc pick (lI X ti) (lG X.K (tgU t)) (lT0 X.K tc) (lE0 X.K te) σ H Q0:=by
 obtain⟨ς,G,Q,E,hς,hG,h,lv,lx⟩:=h;refine⟨ς,G,_,E,hς,hG,h,λxs ok G1 H1 J hG1 f1 wk h1=>?_,lx⟩;obtain⟨hl,h1⟩:=h1;intro D hD;refine jmj (acc0:=[]) (jgw hp ς) (wk.mono (TS.new hD)) (hG1.newH hD) jan (hG1.nope hD) rfl (((hς.ts (f1.ts hG)).ts (TS.new hD)).pick pick) (by simpa using hl) h1 λτ' acc' ys' G' H' sr hr f eD gD' ra q=>?_
 refine lv (.loc D) (.ref D) _ H' rfl (hr.know eD ra) ?_ (q.at D gD');refine⟨λa o ha ga nt=>?_⟩;obtain⟨x1,x2⟩:=f1 a o ha ga nt;obtain⟨y1,y2⟩:=f a o (jah x1 hD) (by rw[jad (jah x1 hD)];exact x1) x2 nt
 exact⟨y1,by rw[jbf (jah x1 hD)];exact y2⟩
def lI0 (K:Yac)(t:UI):TI:=λσ H R=>∃ς G Q,SR K H ς σ/\HR K H G/\t ς G Q (λ_ _=>False)/\∀xs ok G' H' J,HR K H' G'->Fr H G H' G'->jeM K J H' G' xs ok->Q xs ok G'->R J H'
mutual
theorem jjb {is:List Nat}:∀{t:Tg} {u:U} {ς:Sg} {k:Sg->Prop},(∀i∈is,i∉tgS t)->(∀i∈is,∀w,ς[i]?≠some (some w))->tgU t u ς k->tgU t u ς λς'=>k ς'/\∀i∈is,∀w,ς'[i]?≠some (some w)
 |.n j,u,ς,k,hf,he,h=>by
  refine⟨h,λi hi w e=>?_⟩
  have hj:i≠j:=λz=>hf i hi (by simp[tgS,z])
  rw[Ybv (Ne.symm hj)]at e
  exact he i hi w e
 |.t ts,u,ς,k,hf,he,h=>by
  cases u with
  |tup us=>exact jfm (ts:=ts) (us:=us) (λi hi=>hf i hi) he h
  |_=>exact h
theorem jfm {is:List Nat}:∀{ts:Tgs} {us:List U} {ς:Sg} {k:Sg->Prop},(∀i∈is,i∉tgsS ts)->(∀i∈is,∀w,ς[i]?≠some (some w))->tgsU ts us ς k->tgsU ts us ς λς'=>k ς'/\∀i∈is,∀w,ς'[i]?≠some (some w)
 |.nil,us,ς,k,_,he,h=>⟨h.1,h.2,he⟩
 |.cons t ts,us,ς,k,hf,he,h=>by
  cases us with
  |nil=>exact h
  |cons u r=>
   have:=jjb (t:=t) (u:=u) (λi hi z=>hf i hi (by simp[tgsS,z])) he h
   refine jcT this λς' ⟨h1,h2⟩=>jfm (λi hi z=>hf i hi (by simp[tgsS,z])) h2 h1
end
variable {tg iter elt:Expr}{ifs:List Expr}{pos:Pos}{N:List Str}{scope:Scope}
theorem u_lc (hc:X.calm=true)(S:CScope X N pick scope)(hw:PI X tg iter (lI X ti))(hp:(tgS t).all (λi=>(pick[i]?).join.isNone)=true)
  (hg:∀cl C s₀ H₀ fp,PG (jao X N scope cl C s₀ H₀ fp) tg (lG X.K (tgU t))) (hi:∀cl C s₀ H₀ fp,PIfs (jao X N scope cl C s₀ H₀ fp) ifs (lT0 X.K tc)) (he:∀cl C s₀ H₀ fp,PE (jao X N scope cl C s₀ H₀ fp) elt (lE0 X.K te))
  (hs:∀x,Ya4 iter X.env x=pure x):PE X (.ListComp elt [⟨tg,iter,ifs,0⟩] scope pos) (lE X (lcD pick ti t tc te)):=
 (jok hc S hw hg hi he hs).imp λ_ _ _ h=>jiG hp h
end
section
variable {X:Cx}{e:Expr}{te ta tb:UE}{p pos:Pos}
theorem jnI (hc:X.calm=true)(hg:Gl X "list")(hm:X.mg "list" = none)(ha:PE X e (lE X te))(he:YaA [e] X.env=[(false,eval e X.env)]) :
  PE X (.Call (.Name "list" p) [e] [] pos) (lE X λς G Q E=>te ς G (λx G1=>mkDU x G1 Q) E):=by
 refine(jbT (jf6 hc) hg hm Ydx (jck ha jeO he) (by decide) (by decide) he rfl).imp λσ H Q0 h=>?_
 obtain⟨ς,G,Q,E,hς,hG,h,lv,lx⟩:=h;refine⟨ς,G,λus G1=>match us with|[x]=>mkDU x G1 Q|_=>False,E,hς,hG,h,λus vs G1 H1 rs hG1 f1 h1=>?_,lx⟩
 dsimp only at h1;split at h1
 ·obtain⟨v,rfl,r⟩:=rs.one;unfold mkDU at h1;split at h1
  ·cases r;split at h1
   ·rename_i kvs g;obtain⟨ns,hk,q⟩:=h1;obtain⟨l,e,rk⟩:=hG1 _ _ g;refine⟨_,l,ns,rfl,e,?_,λp hp=>(lv.fr f1).lst hp (jfy _) hG1 q⟩;rw[<- jgr rk];exact hk
   ·exact h1.elim
  ·exact h1.elim
 ·exact h1.elim
theorem jnH (hg:Gl X "list")(hm:X.mg "list" = none)(ha:PE X e (lE X te))(he:YaA [e] X.env=[(false,eval e X.env)]) :
  PE X (.Call (.Name "list" p) [e] [] pos) (lE X λς G Q E=>te ς G (λx G1=>itU x G1 λxs _=>newO G1 (.lst xs) Q) E):=by
 refine(jbT (jeG (X:=X)) hg hm Ydx (jck ha jeO he) (by decide) (by decide) he rfl).imp λσ H Q0 h=>?_
 obtain⟨ς,G,Q,E,hς,hG,h,lv,lx⟩:=h;refine⟨ς,G,λus G1=>match us with|[x]=>(itU x G1 λxs _=>newO G1 (.lst xs) Q)|_=>False,E,hς,hG,h,λus vs G1 H1 rs hG1 f1 h1=>?_,lx⟩
 dsimp only at h1;split at h1
 ·obtain⟨v,rfl,r⟩:=rs.one;unfold itU at h1;split at h1
  ·obtain⟨a,ws,rfl,ea,rr⟩:=r;exact⟨a,ws,rfl,.inr (.of ea),λl hl=>(lv.fr f1).lst hl rr hG1 h1⟩
  ·cases r;split at h1
   ·rename_i us eu;obtain⟨ws,sq,rr⟩:=hG1.ls eu;exact⟨_,ws,rfl,.inl sq,λl hl=>(lv.fr f1).lst hl rr hG1 h1⟩
   ·exact h1.elim
  ·exact h1.elim
 ·exact h1.elim
theorem jnG (hg:Gl X "tuple")(hm:X.mg "tuple" = none)(ha:PE X e (lE X te))(he:YaA [e] X.env=[(false,eval e X.env)]) :
  PE X (.Call (.Name "tuple" p) [e] [] pos) (lE X λς G Q E=>te ς G (λx G1=>itU x G1 λxs _=>Q (.tup xs) G1) E):=by
 refine(jbT (jd7 (X:=X)) hg hm PyProof.Rows.boot_tuple (jck ha jeO he) (by decide) (by decide) he rfl).imp λσ H Q0 h=>?_
 obtain⟨ς,G,Q,E,hς,hG,h,lv,lx⟩:=h;refine⟨ς,G,λus G1=>match us with|[x]=>(itU x G1 λxs _=>Q (.tup xs) G1)|_=>False,E,hς,hG,h,λus vs G1 H1 rs hG1 f1 h1=>?_,lx⟩
 dsimp only at h1;split at h1
 ·obtain⟨v,rfl,r⟩:=rs.one;unfold itU at h1;split at h1
  ·obtain⟨a,ws,rfl,ea,rr⟩:=r;exact⟨a,ws,rfl,.inr ⟨.of ea,(lv.fr f1).here (w:=.tup _) ⟨a,ws,rfl,ea,rr⟩ hG1 h1⟩⟩
  ·cases r;split at h1
   ·rename_i us eu;obtain⟨ws,sq,rr⟩:=hG1.ls eu;exact⟨_,ws,rfl,.inl ⟨sq,λl hl=>(lv.fr f1).tup hl rr hG1 h1⟩⟩
   ·exact h1.elim
  ·exact h1.elim
 ·exact h1.elim
theorem u_ty {x:Str}{n:String}(hg:Gl X x)(hm:X.mg x=none)(hv:YbT x=some (.type n))(hn:x ≠ "__name__")(hd:(x==("__debug__" : Str))=false):PE X (.Name x pos) (lE X λ_ G Q _=>Q (.ty n) G):=
 jcR (u:=.ty n) (jjI (v:=.ty n) hg hm hv rfl hn hd) λ_=>rfl
theorem jkW:PE X (.Dict [] [] pos) (lE X λ_ G Q _=>newO G (.dK []) Q):=by
 refine jhV.imp λσ H Q0 h p hp=>?_;obtain⟨ς,G,Q,E,hς,hG,h,lv,lx⟩:=h;exact lv (.loc p) (.ref p) _ _ rfl (hG.newO (mo:=.dK []) hp ⟨[],jan,rfl⟩) (Fr.newO hp) (h.at p (hG.nope hp))
theorem RKs.merge {K:Yac}{H:Hp}:∀{more:List (Key×U)} {m:List (Key×V)},RKs K H more m->∀{kvs:List (Key×U)} {l:List (Key×V)},RKs K H kvs l->RKs K H (more.foldl (λacc kv=>dPut acc kv.1 kv.2) kvs) (jc4 l m)
 |[],_,h,_,_,h'=>by cases h;exact h'
 |(k,u)::more,_,h,_,_,h'=>by
  obtain⟨v,l',rfl,r,rs⟩:=h;exact RKs.merge rs (h'.put r)
def lD (X:Cx)(t:Sg->Gp->(List (Key×U)->Gp->Prop)->KX->Prop)(trs:List (TE×TE)):Prop:=
 ∀σ H ς G Q E (Q0:List (V×V)->Hp->Prop),SR X.K H ς σ->HR X.K H G->t ς G Q E->LX X σ H G E->
  (∀kvs (l:List (Key×V)) G' H',RKs X.K H' kvs l->HR X.K H' G'->Fr H G H' G'->Q kvs G'->Q0 (l.map λkv=>(kV kv.1,kv.2)) H')->jfn trs σ H Q0
theorem jnL {keys:List (Option Expr)}{values:List Expr}{trs:List (TE×TE)}{t:Sg->Gp->(List (Key×U)->Gp->Prop)->KX->Prop}(hp:PPs X pos keys values trs)(hd:lD X t trs)(hall:keys.all (·.isSome)=true)(hl:keys.length=values.length)(h0:keys≠[])
  (h15:keys.length<=15):PE X (.Dict keys values pos) (lE X λς G Q E=>t ς G (λkvs G1=>kvs.length<=15/\newO G1 (.dK (jdh kvs)) Q) E):=by
 refine(jjG hp hall hl h0 h15).imp λσ H Q0 h p hp=>?_;obtain⟨ς,G,Q,E,hς,hG,h,lv,lx⟩:=h;have gp:=hG.nope hp;refine hd σ _ ς G _ E _ (hς.ts (TS.new hp)) (hG.newH hp) h (lx.fr (Fr.new hp)) λkvs l G' H' r hG' f q=>?_;obtain⟨e,g⟩:=f p _ jan gp;refine⟨e,l,rfl,by rw[<- r.length];exact q.1,?_⟩
 have ts:TS H' (upd H' p (.dK (jc4 [] l))):=⟨λa xs h=>by
  have:a≠p:=λz=>by subst z;rw[e]at h;cases h
  rw[jad this];exact h,λa xs h=>by
  have:a≠p:=λz=>by subst z;rw[e]at h;cases h
  rw[jad this];exact h⟩
 refine lv (.loc p) (.ref p) (gup G' p (.dK (jdh kvs))) _ rfl ⟨λa ob z=>?_,hG'.tab.upd (λps z=>by rw[e]at z;cases z) λob z=>by rw[e]at z;cases z⟩ ⟨λa o ha ga nt=>?_⟩ (q.2.at p g)
 ·by_cases ea:a=p
  ·subst ea;rw[jac]at z;cases z;exact⟨_,jan,(RKs.merge r (kvs:=[]) (l:=[]) rfl).ts ts⟩
  ·rw[jbf ea]at z;exact(hG' a ob z).keep (jad ea) ts
 ·have ea:a≠p:=jah ha hp;obtain⟨x1,x2⟩:=f a o (by rw[jad ea];exact ha) ga nt
  exact⟨by rw[jad ea];exact x1,by rw[jbf ea];exact x2⟩
theorem jmm:lD X (λ_ G Q _=>Q [] G) []:=λσ H ς G Q E Q0 hς hG h lx q=>q [] [] G H rfl hG (Fr.refl _ _) h
theorem jka {tk tv:UE}{t:Sg->Gp->(List (Key×U)->Gp->Prop)->KX->Prop}{trs:List (TE×TE)}(hr:lD X t trs):lD X (λς G Q E=>tk ς G (λx G1=>tv ς G1 (λy G2=>match kU x with
   |some k=>t ς G2 (λkvs G3=>Q ((k,y)::kvs) G3) E
   |none=>False) E) E) ((lE X tk,lE X tv)::trs):=by
 intro σ H ς G Q E Q0 hς hG h lx q;refine⟨ς,G,_,E,hς,hG,h,λx v G1 H1 rx hG1 f1 h1=>?_,lx⟩;refine⟨ς,G1,_,E,hς.ts (f1.ts hG),hG1,h1,λy v' G2 H2 ry hG2 f2 h2=>?_,lx.fr f1⟩;dsimp only at h2;split at h2
 ·rename_i k ek;have:=je2 rx ek;subst this;refine hr σ H2 ς G2 _ E _ ((hς.ts (f1.ts hG)).ts (f2.ts hG1)) hG2 h2 (lx.fr (f1.trans f2)) λkvs l G3 H3 r hG3 f3 h3=>?_;exact q ((k,y)::kvs) ((k,v')::l) G3 H3 ⟨v',l,rfl,ry.ts (f3.ts hG2),r⟩ hG3 ((f1.trans f2).trans f3) h3
 ·exact h2.elim
end
end Z

namespace L2
open PySem
end L2
namespace Z
open PySem L2
structure LD (X:Cx)(H:Hp)(G:Gp)(De:En)(D:Ends):Prop where
 nx:∀ς' σ' G' H',SR X.K H' ς' σ'->HR X.K H' G'->Fr H G H' G'->De.nx ς' G'->D.nx σ' H'
 rt:∀w v G' H',RU X.K H' w v->HR X.K H' G'->Fr H G H' G'->De.rt w G'->D.rt v H'
 ex:∀(pins:List (Addr×Obj)) (e:Value) (s':Shared) (x:XV) ς' σ' G' H',Inv X pins σ' H' s'->SR X.K H' ς' σ'->XAt X H' s' e x->HR X.K H' G'->Fr H G H' G'->De.ex x ς' G'->X.xe e s'
abbrev US:=En->Sg->Gp->Prop
def lS (X:Cx)(t:US):L2.TS:=λD σ H=>∃De ς G,SR X.K H ς σ/\HR X.K H G/\t De ς G/\LD X H G De D
section
variable {X:Cx}{H H1:Hp}{G G1:Gp}{De:En}{D:Ends}{ς:Sg}{σ:St}
theorem LD.fr (h:LD X H G De D)(f:Fr H G H1 G1):LD X H1 G1 De D:=
 ⟨λς' σ' G' H' a b c=>h.nx ς' σ' G' H' a b (f.trans c),λw v G' H' a b c=>h.rt w v G' H' a b (f.trans c),λpins e s' x ς' σ' G' H' i a b c d=>h.ex pins e s' x ς' σ' G' H' i a b c (f.trans d)⟩
theorem LD.lx (h:LD X H G De D)(hς:SR X.K H ς σ)(hG:HR X.K H G):LX X σ H G λx G1=>De.ex x ς G1:=λpins e s' x G' H' I a hr f q=>h.ex pins e s' x ς σ G' H' I (hς.ts (f.ts hG)) a hr f q
theorem LD.here (h:LD X H G De D)(hς:SR X.K H ς σ)(hG:HR X.K H G)(q:De.nx ς G):D.nx σ H:=h.nx ς σ G H hς hG (Fr.refl _ _) q
theorem LD.with {k:Sg->Gp->Prop}{D':Ends}(h:LD X H G De D)(hn:∀ς' σ' G' H',SR X.K H' ς' σ'->HR X.K H' G'->Fr H G H' G'->k ς' G'->D'.nx σ' H')(hr:D'.rt=D.rt):LD X H G { De with nx:=k } D':=
 ⟨hn,λw v G' H' a b c d=>by rw[hr];exact h.rt w v G' H' a b c d,h.ex⟩
end
section
variable {X:Cx}{st:Stmt}{rest:List Stmt}{pos:Pos}{e:Expr}{te:UE}{t u:US}
theorem s_nil:PSs X [] (lS X λD ς G=>D.nx ς G):=jjt.imp λD σ H ⟨De,ς,G,hς,hG,h,ld⟩=>ld.here hς hG h
theorem s_cons (h1:PS X st (lS X t))(h2:PSs X rest (lS X u)):PSs X (st::rest) (lS X λD ς G=>t { D with nx:=λς' G'=>u D ς' G' } ς G):=by
 refine(jhK h1 h2).imp λD σ H ⟨De,ς,G,hς,hG,h,ld⟩=>?_;exact⟨_,ς,G,hς,hG,h,ld.with (λς' σ' G' H' a b c d=>⟨De,ς',G',a,b,d,ld.fr c⟩) rfl⟩
theorem s_expr (he:PE X e (lE X te))(hs:YcX e none pos.line X.env=pure false):PS X (.Expr e pos) (lS X λD ς G=>te ς G (λ_ G1=>D.nx ς G1) λx G1=>D.ex x ς G1):=
 (jju he hs).imp λD σ H ⟨De,ς,G,hς,hG,h,ld⟩=>⟨ς,G,_,_,hς,hG,h,λw v G' H' _ hr f q=>ld.nx ς σ G' H' (hς.ts (f.ts hG)) hr f q,ld.lx hς hG⟩
theorem s_ret (he:PE X e (lE X te)):PS X (.Return (some e) pos) (lS X λD ς G=>te ς G D.rt λx G1=>D.ex x ς G1):=
 (jlv he).imp λD σ H ⟨De,ς,G,hς,hG,h,ld⟩=>⟨ς,G,_,_,hς,hG,h,λw v G' H' r hr f q=>ld.rt w v G' H' r hr f q,ld.lx hς hG⟩
theorem s_if {c:Expr}{a b:List Stmt}{tc:UT}(hc:PT X c (lT X tc))(ha:PSs X a (lS X t))(hb:PSs X b (lS X u)):PS X (.If c a b pos) (lS X λD ς G=>tc ς G (λx G1=>if x=true then t D ς G1 else u D ς G1) λx G1=>D.ex x ς G1):=by
 refine(joe hc ha hb).imp λD σ H ⟨De,ς,G,hς,hG,h,ld⟩=>⟨ς,G,_,_,hς,hG,h,λb G' H' hr f q=>?_,ld.lx hς hG⟩;cases b with
 |true=>rw[if_pos rfl]at q ⊢;exact⟨De,ς,G',hς.ts (f.ts hG),hr,q,ld.fr f⟩
 |false=>rw[if_neg Yam]at q ⊢;exact⟨De,ς,G',hς.ts (f.ts hG),hr,q,ld.fr f⟩
theorem jkL {g:Tg}{D:Ends}{σ:St}{H:Hp}(h:lS X (λD ς G=>te ς G (λu G1=>tgU g u ς λς'=>D.nx ς' G1) λx G1=>D.ex x ς G1) D σ H) :
  lE X te σ H λx H1=>lG X.K (tgU g) x σ H1 D.nx:=by
 obtain⟨De,ς,G,hς,hG,h,ld⟩:=h;exact⟨ς,G,_,_,hς,hG,h,λw v G' H' r hr f q=>⟨w,ς,_,r,hς.ts (f.ts hG),q,λς' σ' hs hk=>ld.nx ς' σ' G' H' hs hr f hk⟩,ld.lx hς hG⟩
theorem s_unp {ts:Tgs}{es:List Expr}{k n:Nat}{p:Pos}(hc:X.calm=true)(he:PE X e (lE X te))(hg:PGs X es (lGs X.K (tgsU ts)))(hn:(Ya2 es X.env).length=n)(hst:(Ya2 es X.env).findIdx? (·.1)=none)(hl:∀us ς k,tgsU ts us ς k->us.length=n)
  (hs:Ybl [.Tuple es k p] e pos.line X.env=pure false) (hw:Ya9 [.Tuple es k p] e X.env=pure none) (h1:(Ya2 [.Tuple es k p] X.env).map (·.2)=[assign (.Tuple es k p) X.env]) :
  PS X (.Assign [.Tuple es k p] e pos) (lS X λD ς G=>te ς G (λu G1=>unpU ts u G1 ς λς'=>D.nx ς' G1) λx G1=>D.ex x ς G1):=by
 refine(jgt he (jlG hc hg hn hst) hs hw h1).imp λD σ H h=>?_;obtain⟨De,ς,G,hς,hG,h,ld⟩:=h;refine⟨ς,G,_,_,hς,hG,h,λw v G' H' r hr f q=>?_,ld.lx hς hG⟩;cases w with
 |loc a=>
  cases r;unfold unpU at q;dsimp only at q;split at q
  ·rename_i us eu;obtain⟨vs,sq,rs⟩:=hr.ls eu;exact⟨a,vs,rfl,sq,by rw[<- rs.length];exact hl _ _ _ q,us,ς,_,rs,hς.ts (f.ts hG),q,λς' σ' hs hk=>ld.nx ς' σ' G' H' hs hr f hk⟩
  ·exact q.elim
 |_=>exact q.elim
theorem s_asg {tg:Expr}{g:Tg}(he:PE X e (lE X te))(hg:PG X tg (lG X.K (tgU g)))(hs:Ybl [tg] e pos.line X.env=pure false)(hw:Ya9 [tg] e X.env=pure none)
  (h1:(Ya2 [tg] X.env).map (·.2)=[assign tg X.env]):PS X (.Assign [tg] e pos) (lS X λD ς G=>te ς G (λu G1=>tgU g u ς λς'=>D.nx ς' G1) λx G1=>D.ex x ς G1):=
 (jgt he hg hs hw h1).imp λ_ _ _ h=>jkL h
theorem s_lc {i:Nat}{y:Str}{py spos:Pos}{tg iter elt:Expr}{ifs:List Expr}{pick:List (Option Nat)}{N:List Str}{scope:Scope}{ti:UI}{g:Tg}{tc:Sg->Gp->(Bool->Gp->Prop)->Prop}
  (hN:X.N.Nodup) (hi':X.N[i]?=some y) (hy:X.env.scope.names.lookup y=some .local) (hc:X.calm=true) (S:CScope X N pick scope) (hw:PI X tg iter (lI X ti)) (hp:(tgS g).all (λi=>(pick[i]?).join.isNone)=true)
  (hg:∀cl C s₀ H₀ fp,PG (jao X N scope cl C s₀ H₀ fp) tg (lG X.K (tgU g))) (hi:∀cl C s₀ H₀ fp,PIfs (jao X N scope cl C s₀ H₀ fp) ifs (lT0 X.K tc)) (he:∀cl C s₀ H₀ fp,PE (jao X N scope cl C s₀ H₀ fp) elt (lE0 X.K te))
  (hsw:YcX (.ListComp elt [⟨tg,iter,ifs,0⟩] scope pos) (some (.Name y py)) spos.line X.env=pure true) (hs:∀x,Ya4 iter X.env x=pure x) :
  PS X (.Assign [.Name y py] (.ListComp elt [⟨tg,iter,ifs,0⟩] scope pos) spos) (lS X λD ς G=>lcD pick ti g tc te ς G (λu G1=>tgU (.n i) u ς λς'=>D.nx ς' G1) λx G1=>D.ex x ς G1):=by
 refine(jod hN hi' hy hc S hw hg hi he hsw hs).imp λD σ H h=>?_;obtain⟨De,ς,G,hς,hG,h,ld⟩:=h;exact jiG hp ⟨ς,G,_,_,hς,hG,h,λw v G' H' r hr f q=>ld.nx _ _ G' H' ((hς.ts (f.ts hG)).set r i) hr f q,ld.lx hς hG⟩
def jlq:TSet:=λo i v H Q=>∃a H',o=.ref a/\DPut H a i v H'/\Q H'
theorem jhA (hu:X.A.units+1<cLine):PSet X jlq:=by
 intro pins s σ H o i v ov iv u Q I ro ri rv h;obtain⟨a,H',rfl,g,q⟩:=h;cases ro;exact jhi hu I g ri rv λs' I'=>⟨H',I',q⟩
theorem _root_.L2.PSet.or {t t':TSet}(h:PSet X t)(h':PSet X t'):PSet X λo i v H Q=>t o i v H Q\/t' o i v H Q:=by
 intro pins s σ H o i v ov iv u Q I ro ri rv q;rcases q with q|q
 ·exact h pins s σ H o i v ov iv u Q I ro ri rv q
 ·exact h' pins s σ H o i v ov iv u Q I ro ri rv q
theorem jjj {H:Hp}{G:Gp}{x y w:U}{v v' v'':V}{k:Gp->Prop}{Q0:Hp->Prop}(rx:RU X.K H x v)(ry:RU X.K H y v')(rw':RU X.K H w v'')(hG:HR X.K H G)(h:setU x y w G k)
  (q:∀G' H',HR X.K H' G'->Fr H G H' G'->k G'->Q0 H'):jlp v v' v'' H Q0\/jlq v v' v'' H Q0:=by
 cases x with
 |loc a=>
  cases rx;unfold setU at h;dsimp only at h;split at h
  ·rename_i xs g;obtain⟨vs,e,rs⟩:=hG.lst g;cases y with
   |int i=>
    cases ry;dsimp only at h;split at h
    ·rename_i j ej;refine .inl ⟨a,vs,i,j,rfl,rfl,e,by rw[<- rs.length];exact ej,?_⟩
     exact q _ _ (hG.write (mo':=.lst (xs.set j w)) g ⟨_,jan,(rs.set rw' j).ts (TS.write hG g)⟩) (Fr.write g) h.at
    ·exact h.elim
   |_=>exact h.elim
  ·rename_i kvs g;obtain⟨l,e,rs⟩:=hG a _ g;split at h
   ·rename_i k' ek;have:=je2 ry ek;subst this;refine .inr ⟨a,_,rfl,DPut.k e (by rw[<- rs.length];exact h.1),?_⟩
    exact q _ _ (hG.write (mo':=.dK (dPut kvs k' w)) g ⟨_,jan,(rs.put rw').ts (TS.write hG g)⟩) (Fr.write g) h.2.at
   ·exact h.elim
  ·rename_i kvs g;obtain⟨l,e,rs⟩:=hG a _ g;cases y with
   |tup ys=>
    obtain⟨b,ws,rfl,eb,rb⟩:=ry;dsimp only at h;split at h
    ·rename_i k' ek;have:=jfw rb ek;subst this;refine .inr ⟨a,_,rfl,DPut.t e eb (by rw[<- rs.length];exact h.1),?_⟩
     exact q _ _ (hG.write (mo':=.dT (dPut kvs k' w)) g ⟨_,jan,(rs.put rw').ts (TS.write hG g)⟩) (Fr.write g) h.2.at
    ·exact h.elim
   |_=>exact h.elim
  ·exact h.elim
 |_=>exact h.elim
theorem s_set {o i:Expr}{to ti:UE}{tpos:Pos}(hu:X.A.units+1<cLine)(he:PE X e (lE X te))(ho:PE X o (lE X to))(hi:PE X i (lE X ti))(hs:Ybl [.Subscript o i tpos] e pos.line X.env=pure false)(hw:Ya9 [.Subscript o i tpos] e X.env=pure none)
  (h1:(Ya2 [.Subscript o i tpos] X.env).map (·.2)=[assign (.Subscript o i tpos) X.env]) (ha:∀v,assign (.Subscript o i tpos) X.env v=(do
   let ov <- holding [v] (eval o X.env)
   let iv <- holding [v,ov] (eval i X.env)
   standAt tpos
   holding [v,ov,iv] (setItem ov iv v)
   release [v,ov,iv] [])):PS X (.Assign [.Subscript o i tpos] e pos) (lS X λD ς G=>te ς G (λv G1=>to ς G1 (λx G2=>ti ς G2 (λy G3=>setU x y v G3 λG4=>D.nx ς G4) λx G1=>D.ex x ς G1) λx G1=>D.ex x ς G1) λx G1=>D.ex x ς G1):=by
 refine(jgt he (jlF ho hi (PSet.or jhz (jhA hu)) ha) hs hw h1).imp λD σ H ⟨De,ς,G,hς,hG,h,ld⟩=>?_;refine⟨ς,G,_,_,hς,hG,h,λw v G1 H1 rw' hG1 f1 h1=>?_,ld.lx hς hG⟩;have hς1:=hς.ts (f1.ts hG);refine⟨ς,G1,_,_,hς1,hG1,h1,λx vx G2 H2 rx hG2 f2 h2=>?_,(ld.fr f1).lx hς1 hG1⟩;have hς2:=hς1.ts (f2.ts hG1);refine⟨ς,G2,_,_,hς2,hG2,h2,λy vy G3 H3 ry hG3 f3 h3=>?_,(ld.fr (f1.trans f2)).lx hς2 hG2⟩;have hς3:=hς2.ts (f3.ts hG2);exact jjj (rx.ts (f3.ts hG2)) ry ((rw'.ts (f2.ts hG1)).ts (f3.ts hG2)) hG3 h3 λG' H' hr f q=>ld.nx ς σ G' H' (hς3.ts (f.ts hG3)) hr (((f1.trans f2).trans f3).trans f) q
def IpU (X:Cx)(o:YbP):Prop:=∃r:TIp,PIp X o r/\∀x y v v' G H Q Q0,RU X.K H x v->RU X.K H y v'->HR X.K H G->jg1 o x y G Q->LV X H G Q Q0->r v v' H Q0
theorem jmB (o:YbP):IpU X o:=by
 cases o with
 |Add=>
  refine⟨_,(OpR.or (jko (X:=X)) je5),λx y v v' G H Q Q0 rx ry hG h lv=>?_⟩;cases x<;>try exact h.elim
  ·cases y<;>try exact h.elim
   cases rx;cases ry;exact .inl ⟨_,_,rfl,rfl,lv.int hG h⟩
  ·cases y<;>try exact h.elim
   cases rx;cases ry;exact .inr ⟨_,_,rfl,rfl,h.1,lv.str hG h.2⟩
 |Sub=>
  refine⟨_,jkm (X:=X),λx y v v' G H Q Q0 rx ry hG h lv=>?_⟩;cases x<;>try exact h.elim
  cases y<;>try exact h.elim
  cases rx;cases ry;exact⟨_,_,rfl,rfl,lv.int hG h⟩
 |Mult=>
  refine⟨_,jkn (X:=X),λx y v v' G H Q Q0 rx ry hG h lv=>?_⟩;cases x<;>try exact h.elim
  cases y<;>try exact h.elim
  cases rx;cases ry;exact⟨_,_,rfl,rfl,h.1,lv.int hG h.2⟩
 |_=>exact⟨λ_ _ _ _=>False,λ_ _ _ _ _ _ _ _ _ _ _ _ h=>h.elim,λ_ _ _ _ _ _ _ _ _ _ _ h _=>h.elim⟩
theorem s_aug {i:Nat}{x:Str}{o:YbP}{pos':Pos}(hN:X.N.Nodup)(hi:X.N[i]?=some x)(hx:Loc X.env.scope x)(hf:X.fn x=true\/X.env.scope.names.lookup x=some .local)(he:PE X e (lE X te)) :
  PS X (.AugAssign (.Name x pos') o e pos) (lS X λD ς G=>slot ς i λx=>te ς G (λy G1=>jg1 o x y G1 λz G2=>D.nx (ς.set i (some z)) G2) λx G1=>D.ex x ς G1):=by
 obtain⟨r,h1,h2⟩:=jmB (X:=X) o;refine(jlA hN hi hx he h1 hf).imp λD σ H ⟨De,ς,G,hς,hG,h,ld⟩=>?_;dsimp only at h;unfold slot at h;split at h
 ·rename_i u eu;obtain⟨v,ev,ru⟩:=hς.2 i u eu;refine⟨v,ev,ς,G,_,_,hς,hG,h,λy vy G1 H1 ry hG1 f1 h1=>?_,ld.lx hς hG⟩;exact h2 u y v vy G1 H1 _ _ (ru.ts (f1.ts hG)) ry hG1 h1 λw vw G2 H2 rw' hr2 f2 q=>ld.nx _ _ G2 H2 (((hς.ts (f1.ts hG)).ts (f2.ts hG1)).set rw' i) hr2 (f1.trans f2) q
 ·exact h.elim
theorem _root_.L2.PGet.or {t t':V->V->Hp->VK->Prop}(h:PGet X t)(h':PGet X t'):PGet X λo i H Q=>t o i H Q\/t' o i H Q:=by
 intro pins s σ H o i ov iv Q I ro ri q;rcases q with q|q
 ·exact h pins s σ H o i ov iv Q I ro ri q
 ·exact h' pins s σ H o i ov iv Q I ro ri q
theorem s_par2 {i j:Nat}{x y:Str}{a b:Expr}{ts:UA}{px py pt:Pos}{kt k2 pt2}(hc:X.calm=true)(hN:X.N.Nodup)(hi:X.N[i]?=some x)(hj:X.N[j]?=some y)(hij:i≠j)
  (hx:X.env.scope.names.lookup x=some .local) (hy:X.env.scope.names.lookup y=some .local) (ha:PA X [a,b] (lA X ts))
  (hw:Ya9 [.Tuple [.Name x px,.Name y py] kt pt] (.Tuple [a,b] k2 pt2) X.env=pure (some [x,y])) (hs:Ybl [.Tuple [.Name x px,.Name y py] kt pt] (.Tuple [a,b] k2 pt2) pos.line X.env=pure false) :
  PS X (.Assign [.Tuple [.Name x px,.Name y py] kt pt] (.Tuple [a,b] k2 pt2) pos) (lS X λD ς G=>ts ς G (λus G1=>us.length=[i,j].length/\D.nx (([i,j].zip us).foldl (λs p=>s.set p.1 (some p.2)) ς) G1) λx G1=>D.ex x ς G1):=by
 refine(jlw hc hN hi hj hij hx hy ha hw hs).imp λD σ H ⟨De,ς,G,hς,hG,h,ld⟩=>?_;refine⟨ς,G,_,_,hς,hG,h,λus vs G1 H1 rs hG1 f1 h1=>?_,ld.lx hς hG⟩;obtain⟨h1,h2⟩:=h1
 match us,h1,h2,rs with
 |[u,w],_,h2,rs=>
  obtain⟨v,v',rfl,r1,r2⟩:=rs.two;exact⟨v,v',rfl,ld.nx _ _ G1 H1 (((hς.ts (f1.ts hG)).set r1 i).set r2 j) hG1 f1 h2⟩
theorem s_for {tg iter:Expr}{body:List Stmt}{ti:UI}{g:Tg}{tb:US}(hp:YdR (model X.prog X.w) X.A X.env X.xe)(hc:X.calm=true)(hi:PI X tg iter (lI X ti))(hg:PG X tg (lG X.K (tgU g)))(hb:PSs X body (lS X tb))
  (hs:∀x,Ya4 iter X.env x=pure x):PS X (.For tg iter body [] pos) (lS X λD ς G=>ti ς G (λxs ok G1=>forL ok (λx ς1 G2 k=>tgU g x ς1 λς2=>tb { D with nx:=k } ς2 G2) xs ς G1 D.nx) λx G1=>D.ex x ς G1):=by
 refine(jlz hp hc hi hg hb hs).imp λD σ H ⟨De,ς,G,hς,hG,h,ld⟩=>?_;refine⟨ς,G,_,_,hς,hG,h,λxs ok G1 H1 J hG1 f1 wk h1=>?_,ld.lx hς hG⟩;refine⟨λi m σ' H'=>m=xs.length-i/\i<=xs.length/\∃ς' G',SR X.K H' ς' σ'/\HR X.K H' G'/\Fr H1 G1 H' G'/\forL ok (λx ς1 G2 k=>tgU g x ς1 λς2=>tb { De with nx:=k } ς2 G2) (xs.drop i) ς' G' De.nx,⟨xs.length,by simp,Ybb _,ς,G1,hς.ts (f1.ts hG),hG1,Fr.refl _ _,by simpa using h1⟩,?_⟩
 rintro i m σ' H' ⟨rfl,hi',ς',G',sr,hr,f,hc'⟩;by_cases hlt:i<xs.length
 ·rw[YaX hlt]at hc';obtain⟨hok,hb'⟩:=hc';obtain⟨w1,_⟩:=wk i H' G' (f.ts hG1) hr hok;obtain⟨go,yl⟩:=w1 xs[i] (by simp[hlt])
  refine .inr ⟨go,λσ2 H2=>∃ς2 G2,SR X.K H2 ς2 σ2/\HR X.K H2 G2/\Fr H1 G1 H2 G2/\forL ok (λx ς1 G2 k=>tgU g x ς1 λς2=>tb { De with nx:=k } ς2 G2) (xs.drop (i+1)) ς2 G2 De.nx,λσ2 H2 q=>⟨xs.length-(i+1),by omega,rfl,hlt,q⟩,λv H'' y=>?_⟩
  obtain⟨rx,hr2,f2⟩:=yl v H'' y;refine⟨xs[i],ς',_,rx,sr.ts (f2.ts hr),hb',λς2 σ2 hs2 hk=>?_⟩;have f3:=(f1.trans f).trans f2;refine⟨_,ς2,G',hs2,hr2,hk,(ld.fr f3).with (λς3 σ3 G3 H3 a b c d=>⟨ς3,G3,a,b,(f.trans f2).trans c,d⟩) rfl⟩
 ·have e:i=xs.length:=by omega
  subst e;rw[YfN]at hc';obtain⟨hok,q⟩:=hc';exact .inl ⟨(wk xs.length H' G' (f.ts hG1) hr hok).2 rfl,ld.nx ς' σ' G' H' sr hr (f1.trans f) q⟩
theorem s_wh {c:Expr}{body:List Stmt}{tc:UT}{tb:US}(hp:YdR (model X.prog X.w) X.A X.env X.xe)(hc:PT X c (lT X tc))(hb:PSs X body (lS X tb)) :
  PS X (.While c body [] pos) (lS X λD ς G=>∃W:Nat->Sg->Gp->Prop,(∃m,W m ς G)/\∀m ς1 G1,W m ς1 G1->
   tc ς1 G1 (λt G2=>if t=true then tb { D with nx:=λς' G'=>∃m',m'<m/\W m' ς' G' } ς1 G2 else D.nx ς1 G2) λx G1=>D.ex x ς1 G1):=by
 refine(jhL hp hc hb).imp λD σ H ⟨De,ς,G,hς,hG,h,ld⟩=>?_;obtain⟨W,⟨m0,w0⟩,turn⟩:=h;refine⟨λm σ' H'=>∃ς' G',SR X.K H' ς' σ'/\HR X.K H' G'/\Fr H G H' G'/\W m ς' G',⟨m0,ς,G,hς,hG,Fr.refl _ _,w0⟩,?_⟩;rintro m σ' H' ⟨ς',G',sr,hr,f,w⟩;refine⟨ς',G',_,_,sr,hr,turn m ς' G' w,λb G2 H2 hr2 f2 q=>?_,(ld.fr f).lx sr hr⟩;cases b with
 |true=>
  rw[if_pos rfl]at q ⊢;refine⟨λσ3 H3=>∃ς3 G3,SR X.K H3 ς3 σ3/\HR X.K H3 G3/\Fr H G H3 G3/\∃m',m'<m/\W m' ς3 G3,λσ3 H3 ⟨ς3,G3,a,b,c,m',hm,w'⟩=>⟨m',hm,ς3,G3,a,b,c,w'⟩,?_⟩;exact⟨_,ς',G2,sr.ts (f2.ts hr),hr2,q,(ld.fr (f.trans f2)).with (λς3 σ3 G3 H3 a b c d=>⟨ς3,G3,a,b,(f.trans f2).trans c,d⟩) rfl⟩
 |false=>
  rw[if_neg Yam]at q ⊢;exact ld.nx ς' σ' G2 H2 (sr.ts (f2.ts hr)) hr2 (f.trans f2) q
end
structure Ctx where
 N:List Str
 sc:List (Str×YbC)
noncomputable def kd (c:Ctx)(x:Str)(k:YbC):Bool:=c.sc.lookup x==some k
noncomputable def glo (c:Ctx)(x:Str):Bool:=kd c x .globalImplicit && !(x==("__debug__" : Str))
noncomputable def nm1:Expr->List Str
 |.Name x _=>[x]
 |_=>[]
noncomputable def nm2:Expr->List Str
 |.Tuple es _ _=>es.flatMap nm1
 |e=>nm1 e
noncomputable def jeQ:Expr->List Str
 |.Tuple es _ _=>es.flatMap nm2
 |e=>nm1 e
noncomputable def jgd:List String:=["bool", "int", "str", "list", "tuple", "dict"]
noncomputable def cOkS (c:Ctx)(N:List Str)(pick:List (Option Nat))(scope:Scope):Bool:=
 decide (scope.kind=.function)&&scope.names.all (λy=>y.2 != .cell||scope.names.lookup y.1==some .cell)&&scope.names.all (λy=>y.2 != .local||scope.names.lookup y.1==some .local)
  && scope.names.all (λy=>y.2 != .free||(scope.names.lookup y.1==some .free&&(kd c y.1 .cell||kd c y.1 .free)))
  && pick.length==N.length&&(N.zip pick).all (λp=>match p.2 with|none=>true|some j=>c.N[j]?==some p.1&&scope.names.lookup p.1==some .free)&&decide N.Nodup
noncomputable def jfu:Expr->Bool
 |.Call (.Name _ _) [] [] _=>false
 |_=>true
noncomputable def e0:Expr:=.Name "" ⟨0,0,0,0⟩
noncomputable def hd:List Expr->Expr
 |[]=>e0
 |e::_=>e
noncomputable def c0:Expr->Expr
 |.BinOp l _ _ _=>l
 |.UnaryOp _ x _=>x
 |.IfExp t _ _ _=>t
 |.Compare l _ _ _=>l
 |.Subscript v _ _=>v
 |.Attribute v _ _=>v
 |.Call f _ _ _=>f
 |.ListComp e _ _ _=>e
 |.FormattedValue v _ _ _=>v
 |_=>e0
noncomputable def c1:Expr->Expr
 |.BinOp _ _ r _=>r
 |.IfExp _ b _ _=>b
 |.Subscript _ s _=>s
 |_=>e0
noncomputable def c2:Expr->Expr
 |.IfExp _ _ b _=>b
 |_=>e0
noncomputable def cl:Expr->List Expr
 |.BoolOp _ vs _=>vs
 |.Compare _ _ vs _=>vs
 |.Call _ vs _ _=>vs
 |.List vs _=>vs
 |.Tuple vs _ _=>vs
 |.Dict _ vs _=>vs
 |.JoinedStr vs _=>vs
 |_=>[]
noncomputable def kw0:Expr->Keyword
 |.Call _ _ (k::_) _=>k
 |_=>⟨none,e0,⟨0,0,0,0⟩⟩
noncomputable def kk:Expr->Nat
 |.Constant _ k _=>k
 |.Tuple _ k _=>k
 |_=>0
noncomputable def oe:Option Expr->Expr
 |some e=>e
 |none=>e0
noncomputable def dk:Expr->List Expr
 |.Dict ks _ _=>ks.map oe
 |_=>[]
noncomputable def gen1:Expr->YbI
 |.ListComp _ (g::_) _ _=>g
 |_=>⟨e0,e0,[],0⟩
noncomputable def gen2:Expr->YbI
 |.ListComp _ (_::g::_) _ _=>g
 |_=>⟨e0,e0,[],0⟩
noncomputable def scp:Expr->Scope
 |.ListComp _ _ s _=>s
 |_=>⟨.module,[],false,false,[]⟩
noncomputable def s0:Expr->Expr
 |.Slice (some e) _ _ _=>e
 |_=>e0
noncomputable def s1:Expr->Expr
 |.Slice _ (some e) _ _=>e
 |_=>e0
noncomputable def s2:Expr->Expr
 |.Slice _ _ (some e) _=>e
 |_=>e0
noncomputable def nmA (c:Ctx)(i:Nat):Str:=c.N.getD i ""
noncomputable def boU:Bool->PySem.BoolOp
 |true=>.And
 |false=>.Or
noncomputable def lh1 (h:Expr):Expr:=hd (cl h).tail
noncomputable def lh2 (h:Expr):Expr:=hd (cl h).tail.tail
noncomputable def jb1:Es->Nat
 |.nil=>0
 |.cons _ es=>jb1 es+1
noncomputable def jee:Tgs->Nat
 |.nil=>0
 |.cons _ ts=>jee ts+1
noncomputable def isT:Tg->Bool
 |.t _=>true
 |.n _=>false
noncomputable def isLc:E->Bool
 |.lc ..=>true
 |.lc2 ..=>true
 |_=>false
noncomputable def cc (c:Ctx)(pick:List (Option Nat))(h:Expr):Ctx:=⟨jeQ (gen1 h).target++(pick.filterMap id).filterMap (λj=>c.N[j]?),(scp h).names⟩
noncomputable def cc2 (c:Ctx)(pick:List (Option Nat))(h:Expr):Ctx:=⟨jeQ (gen1 h).target++jeQ (gen2 h).target++(pick.filterMap id).filterMap (λj=>c.N[j]?),(scp h).names⟩
mutual
noncomputable def unTg (c:Ctx):Tg->Expr->Expr
 |.n i,h=>.Name (nmA c i) h.pos
 |.t ts,h=>.Tuple (jdP c ts (cl h)) (kk h) h.pos
noncomputable def jdP (c:Ctx):Tgs->List Expr->List Expr
 |.nil,_=>[]
 |.cons t ts,hs=>unTg c t (hd hs)::jdP c ts hs.tail
end
noncomputable def okN (c:Ctx)(i:Nat):Bool:=decide (i<c.N.length)&&(kd c (nmA c i) .local||kd c (nmA c i) .cell)
mutual
noncomputable def okTg (c:Ctx):Tg->Bool
 |.n i=>okN c i
 |.t ts=>jh6 c ts
noncomputable def jh6 (c:Ctx):Tgs->Bool
 |.nil=>true
 |.cons t ts=>okTg c t&&jh6 c ts
end
section
variable (T:Tab)
noncomputable def fnN (n:Nat):Str:=match T.funs[n]? with
 |some d=>d.name
 |none => ""
mutual
noncomputable def unE (c:Ctx):E->Expr->Expr
 |.v i,h=>.Name (nmA c i) h.pos
 |.non,h=>.Constant .none (kk h) h.pos
 |.bl b,h=>.Constant (.bool b) (kk h) h.pos
 |.int i,h=>.Constant (.int i) (kk h) h.pos
 |.str x,h=>.Constant (.str x) (kk h) h.pos
 |.g n,h=>.Name (T.gn.getD n "") h.pos
 |.ty n,h=>.Name (YbA n) h.pos
 |.bin o a b,h=>.BinOp (unE c a (c0 h)) o (unE c b (c1 h)) h.pos
 |.neg a,h=>.UnaryOp .USub (unE c a (c0 h)) h.pos
 |.not a,h=>.UnaryOp .Not (unE c a (c0 h)) h.pos
 |.bop k a es,h=>.BoolOp (boU k) (unE c a (hd (cl h))::unEs c es (cl h).tail) h.pos
 |.cmp o a b,h=>.Compare (unE c a (c0 h)) [o] [unE c b (hd (cl h))] h.pos
 |.cmp2 o p a b d,h=>.Compare (unE c a (c0 h)) [o,p] [unE c b (hd (cl h)),unE c d (hd (cl h).tail)] h.pos
 |.ife t a b,h=>.IfExp (unE c t (c0 h)) (unE c a (c1 h)) (unE c b (c2 h)) h.pos
 |.tup es,h=>.Tuple (unEs c es (cl h)) (kk h) h.pos
 |.lst es,h=>.List (unEs c es (cl h)) h.pos
 |.dic es,h=>.Dict (unK c es (dk h)) (unV c es (cl h)) h.pos
 |.dicT,h=>.Dict [] [] h.pos
 |.ix a b,h=>.Subscript (unE c a (c0 h)) (unE c b (c1 h)) h.pos
 |.sl a lo hi,h=>.Subscript (unE c a (c0 h)) (.Slice (unO c lo (s0 (c1 h))) (unO c hi (s1 (c1 h))) none (c1 h).pos) h.pos
 |.rev a b,h=>.Subscript (unE c a (c0 h)) (.Slice none none (some (unE c b (s2 (c1 h)))) (c1 h).pos) h.pos
 |.call n es,h=>.Call (.Name (fnN T n) (c0 h).pos) (unEs c es (cl h)) [] h.pos
 |.app i es,h=>.Call (.Name (nmA c i) (c0 h).pos) (unEs c es (cl h)) [] h.pos
 |.blt b es,h=>.Call (.Name (bltN b) (c0 h).pos) (unEs c es (cl h)) [] h.pos
 |.meth m o es,h=>.Call (.Attribute (unE c o (c0 (c0 h))) (mthN m) (c0 h).pos) (unEs c es (cl h)) [] h.pos
 |.lc pick t it ifs d,h=>.ListComp (unE (cc c pick h) d (c0 h)) [⟨unTg (cc c pick h) t (gen1 h).target,unI c it (gen1 h).iter,unEs (cc c pick h) ifs (gen1 h).ifs,0⟩] (scp h) h.pos
 |.lc2 pick t it ifs t2 it2 ifs2 d,h=>.ListComp (unE (cc2 c pick h) d (c0 h)) [⟨unTg (cc2 c pick h) t (gen1 h).target,unI c it (gen1 h).iter,unEs (cc2 c pick h) ifs (gen1 h).ifs,0⟩,⟨unTg (cc2 c pick h) t2 (gen2 h).target,unI (cc2 c pick h) it2 (gen2 h).iter,unEs (cc2 c pick h) ifs2 (gen2 h).ifs,0⟩] (scp h) h.pos
 |.fst es,h=>.JoinedStr (unF c es (cl h)) h.pos
 |.lrp d i y a b es,h=>.List (unE c d (hd (cl h))::.BinOp (.Constant (.str y) (kk (c0 (lh1 h))) (c0 (lh1 h)).pos) .Add (.Name (nmA c i) (c1 (lh1 h)).pos) (lh1 h).pos::
   .Call (.Attribute (.Name (nmA c i) (c0 (c0 (lh2 h))).pos) "replace" (c0 (lh2 h)).pos) [.Constant (.str a) (kk (hd (cl (lh2 h)))) (hd (cl (lh2 h))).pos,.Constant (.str b) (kk (lh1 (lh2 h))) (lh1 (lh2 h)).pos,.Constant (.int 1) (kk (lh2 (lh2 h))) (lh2 (lh2 h)).pos] [] (lh2 h).pos::unEs c es (cl h).tail.tail.tail) h.pos
 |.sset d,h=>.Call (.Name "sorted" (c0 h).pos) [.Call (.Name "set" (c0 (hd (cl h))).pos) [unE c d (hd (cl (hd (cl h))))] [] (hd (cl h)).pos] [] h.pos
 |.mkD d,h=>.Call (.Name "list" (c0 h).pos) [unE c d (hd (cl h))] [] h.pos
 |.maxD d,h=>.Call (.Name "max" (c0 h).pos) [unE c d (hd (cl h))] [⟨some "default",.Constant (.int 0) (kk (kw0 h).value) (kw0 h).value.pos,(kw0 h).pos⟩] h.pos
 |.minD d,h=>.Call (.Name "min" (c0 h).pos) [unE c d (hd (cl h))] [⟨some "default",.Constant .none (kk (kw0 h).value) (kw0 h).value.pos,(kw0 h).pos⟩] h.pos
 |.mkL d,h=>.Call (.Name "list" (c0 h).pos) [unE c d (hd (cl h))] [] h.pos
 |.mkT d,h=>.Call (.Name "tuple" (c0 h).pos) [unE c d (hd (cl h))] [] h.pos
 |.rngL d,h=>.Call (.Name "list" (c0 h).pos) [.Call (.Name "range" (c0 (hd (cl h))).pos) [unE c d (hd (cl (hd (cl h))))] [] (hd (cl h)).pos] [] h.pos
 |.rngT d,h=>.Call (.Name "tuple" (c0 h).pos) [.Call (.Name "range" (c0 (hd (cl h))).pos) [unE c d (hd (cl (hd (cl h))))] [] (hd (cl h)).pos] [] h.pos
 |.rngL2 _ _,_=>e0
noncomputable def unO (c:Ctx):Eo->Expr->Option Expr
 |.no,_=>none
 |.so d,h=>some (unE c d h)
noncomputable def unEs (c:Ctx):Es->List Expr->List Expr
 |.nil,_=>[]
 |.cons d es,hs=>unE c d (hd hs)::unEs c es hs.tail
noncomputable def unK (c:Ctx):Es->List Expr->List (Option Expr)
 |.cons d (.cons _ es),hs=>some (unE c d (hd hs))::unK c es hs.tail
 |_,_=>[]
noncomputable def unV (c:Ctx):Es->List Expr->List Expr
 |.cons _ (.cons d es),hs=>unE c d (hd hs)::unV c es hs.tail
 |_,_=>[]
noncomputable def unF (c:Ctx):Es->List Expr->List Expr
 |.nil,_=>[]
 |.cons d es,hs=>(match d with
  |.str x=>.Constant (.str x) (kk (hd hs)) (hd hs).pos
  |d=>.FormattedValue (unE c d (c0 (hd hs))) (-1) none (hd hs).pos)::unF c es hs.tail
noncomputable def unI (c:Ctx):It->Expr->Expr
 |.e d,h=>unE c d h
 |.r1 d,h=>.Call (.Name "range" (c0 h).pos) [unE c d (hd (cl h))] [] h.pos
 |.r2 a b,h=>.Call (.Name "range" (c0 h).pos) [unE c a (hd (cl h)),unE c b (hd (cl h).tail)] [] h.pos
 |.enum d,h=>.Call (.Name "enumerate" (c0 h).pos) [unE c d (hd (cl h))] [] h.pos
 |.dk d,h=>unE c d h
 |.s d,h=>unE c d h
 |.dv d,h=>.Call (.Attribute (unE c d (c0 (c0 h))) "values" (c0 h).pos) [] [] h.pos
 |.di d,h=>.Call (.Attribute (unE c d (c0 (c0 h))) "items" (c0 h).pos) [] [] h.pos
 |.zp a b,h=>.Call (.Name "zip" (c0 h).pos) [unE c a (hd (cl h)),unE c b (hd (cl h).tail)] [] h.pos
end
mutual
noncomputable def okE (c:Ctx):E->Expr->Bool
 |.v i,_=>decide (i<c.N.length)&&(kd c (nmA c i) .local||kd c (nmA c i) .cell||kd c (nmA c i) .free) && !(nmA c i==("__debug__" : Str)) && !(nmA c i==("__classdict__" : Str))
 |.non,_=>true
 |.bl _,_=>true
 |.int _,_=>true
 |.str _,_=>true
 |.g _,_=>false
 |.ty n,_=>jgd.contains n&&glo c (YbA n)
 |.bin _ a b,h=>okE c a (c0 h)&&okE c b (c1 h)
 |.neg a,h=>okE c a (c0 h)
 |.not a,h=>okE c a (c0 h)
 |.bop _ a es,h=>okE c a (hd (cl h))&&okEs c es (cl h).tail
 |.cmp o a b,h=>okE c a (c0 h)&&okE c b (hd (cl h)) && !behindInMarks o (unE T c b (hd (cl h)))
 |.cmp2 o p a b d,h=>okE c a (c0 h)&&okE c b (hd (cl h))&&okE c d (hd (cl h).tail) && !lastMarks [o,p] [unE T c b (hd (cl h)),unE T c d (hd (cl h).tail)]
 |.ife t a b,h=>okE c t (c0 h)&&okE c a (c1 h)&&okE c b (c2 h)
 |.tup es,h=>okEs c es (cl h)
 |.lst es,h=>okEs c es (cl h)
 |.dic es,h=>okD c es (dk h) (cl h)&&decide (jb1 es<=30)
 |.dicT,_=>false
 |.ix a b,h=>okE c a (c0 h)&&okE c b (c1 h)
 |.sl a lo hi,h=>okE c a (c0 h)&&okO c lo (s0 (c1 h))&&okO c hi (s1 (c1 h))
 |.rev a b,h=>okE c a (c0 h)&&okE c b (s2 (c1 h))
 |.call n es,h=>decide (n<T.funs.length)&&glo c (fnN T n)&&okEs c es (cl h)
 |.app i es,h=>decide (i<c.N.length)&&(kd c (nmA c i) .local||kd c (nmA c i) .cell||kd c (nmA c i) .free) && !(nmA c i==("__debug__" : Str)) && !(nmA c i==("__classdict__" : Str))&&okEs c es (cl h)
 |.blt b es,h=>decide (0<jb1 es)&&glo c (bltN b)&&okEs c es (cl h)
 |.meth _ o es,h=>okE c o (c0 (c0 h))&&okEs c es (cl h)&&((c0 h).pos.endLine==h.pos.line)&&decide (jb1 es<30)&&jfu (unE T c o (c0 (c0 h)))
 |.lc pick t it ifs d,h=>cOkS c (cc c pick h).N pick (scp h)&&(tgS t).all (λi=>(pick[i]?).join.isNone)&&okTg (cc c pick h) t&&okI c t it (gen1 h).iter&&okEs (cc c pick h) ifs (gen1 h).ifs&&decide (jb1 ifs<=1)&&okE (cc c pick h) d (c0 h)
 |.lc2 _ _ _ _ _ _ _ _,_=>false
 |.fst _,_=>false
 |.lrp _ _ _ _ _ _,_=>false
 |.sset _,_=>false
 |.mkD d,h=>glo c "list" && okE c d (hd (cl h))
 |.maxD _,_=>false
 |.minD _,_=>false
 |.mkL d,h=>glo c "list" && okE c d (hd (cl h))
 |.mkT d,h=>glo c "tuple" && okE c d (hd (cl h))
 |.rngL _,_=>false
 |.rngT _,_=>false
 |.rngL2 _ _,_=>false
noncomputable def okO (c:Ctx):Eo->Expr->Bool
 |.no,_=>true
 |.so d,h=>okE c d h
noncomputable def okEs (c:Ctx):Es->List Expr->Bool
 |.nil,_=>true
 |.cons d es,hs=>okE c d (hd hs)&&okEs c es hs.tail
noncomputable def okD (c:Ctx):Es->List Expr->List Expr->Bool
 |.nil,_,_=>true
 |.cons d (.cons f es),hs,gs=>okE c d (hd hs)&&okE c f (hd gs)&&okD c es hs.tail gs.tail
 |.cons _ .nil,_,_=>false
noncomputable def okF (c:Ctx):Es->List Expr->Bool
 |.nil,_=>true
 |.cons d es,hs=>(match d with
  |.str x=>decide (x.length<=10000)
  |d=>okE c d (c0 (hd hs)))&&okF c es hs.tail
noncomputable def okI (c:Ctx)(t:Tg):It->Expr->Bool
 |.e d,h=>okE c d h
 |.r1 d,h=>glo c "range" && okE c d (hd (cl h))
 |.r2 _ _,_=>false
 |.enum d,h=>isT t&&glo c "enumerate" && okE c d (hd (cl h))
 |.dk _,_=>false
 |.s d,h=>okE c d h
 |.dv d,h=>okE c d (c0 (c0 h))&&((c0 h).pos.endLine==h.pos.line)&&jfu (unE T c d (c0 (c0 h)))
 |.di d,h=>isT t&&okE c d (c0 (c0 h))&&((c0 h).pos.endLine==h.pos.line)&&jfu (unE T c d (c0 (c0 h)))
 |.zp a b,h=>isT t&&glo c "zip" && okE c a (hd (cl h))&&okE c b (hd (cl h).tail)
end
noncomputable def jiw (ts:List Expr):Nat:=(ts.head?.map (·.pos.line)).getD 0
noncomputable def jal (c:Ctx)(ts:List Expr):List Str:=ts.filterMap fun
  |.Name id pos=>if c.sc.lookup id==some .local&&pos.line==jiw ts then some id else none
  |_=>none
noncomputable def jfx:Expr->Bool
 |.Starred ..=>true
 |_=>false
noncomputable def swapped (c:Ctx)(ts vs:List Expr):Bool:=
 (ts.length==2||ts.length==3)&&vs.length==ts.length && !(vs.any jfx)&&(jal c ts).length==ts.length&&(jal c ts).eraseDups.length==(jal c ts).length && !(vs.all (Ye9 8)) && !(vs.all (constantsAlone 8))
noncomputable def jcf (c:Ctx)(ts vs:List Expr):Bool:=
 !(ts.length==2||ts.length==3)||vs.length != ts.length||(!(vs.any jfx)&&((jal c ts).length != ts.length||(jal c ts).eraseDups.length != (jal c ts).length||vs.all (Ye9 8)))
noncomputable def lcSw (c:Ctx)(y:Str)(py p:Pos)(s:Scope):Bool:=c.sc.lookup y==some .local&&py.line==p.line && !(s.names.any λ(n,k)=>n==y&&(k == .local||k == .cell))
noncomputable def q0:Stmt->Expr
 |.Expr e _=>e
 |.Assign _ e _=>e
 |.Return (some e) _=>e
 |.AugAssign _ _ e _=>e
 |.If e _ _ _=>e
 |.While e _ _ _=>e
 |.For _ e _ _ _=>e
 |_=>e0
noncomputable def q1:Stmt->Expr
 |.Assign (t::_) _ _=>t
 |.AugAssign t _ _ _=>t
 |.For t _ _ _ _=>t
 |_=>e0
noncomputable def qr:Stmt->Expr
 |.Raise (some e) _ _=>e
 |_=>e0
noncomputable def hTy:Stmt->Expr
 |.Try _ (.ExceptHandler (some t) _ _ _::_) _ _ _=>t
 |_=>e0
noncomputable def hBd:Stmt->List Stmt
 |.Try _ (.ExceptHandler _ _ b _::_) _ _ _=>b
 |_=>[]
noncomputable def hPs:Stmt->Pos
 |.Try _ (.ExceptHandler _ _ _ p::_) _ _ _=>p
 |_=>⟨0,0,0,0⟩
noncomputable def qa:Stmt->List Stmt
 |.Try a _ _ _ _=>a
 |.If _ a _ _=>a
 |.While _ a _ _=>a
 |.For _ _ a _ _=>a
 |_=>[]
noncomputable def qb:Stmt->List Stmt
 |.If _ _ b _=>b
 |_=>[]
noncomputable def qh:List Stmt->Stmt
 |[]=>.Pass ⟨0,0,0,0⟩
 |s::_=>s
noncomputable def unNs (c:Ctx):List Nat->List Expr->List Expr
 |[],_=>[]
 |i::is,hs=>.Name (nmA c i) (hd hs).pos::unNs c is hs.tail
noncomputable def unCs:List Nat->List Expr->List Expr
 |[],_=>[]
 |k::ks,hs=>.Name (clsN k) (hd hs).pos::unCs ks hs.tail
section
variable (c:Ctx)(n:Nat)
noncomputable def unHL:HL->Expr->Expr
 |.v i,h=>.Name (nmA c i) h.pos
 |.isiV,h=>.Call (.Name "isinstance" (c0 h).pos) [.Name (nmA c n) (hd (cl h)).pos,.Name "ValueError" (hd (cl h).tail).pos] [] h.pos
 |.is1 k,h=>.Call (.Name "isinstance" (c0 h).pos) [.Name (nmA c n) (hd (cl h)).pos,.Name (clsN k) (hd (cl h).tail).pos] [] h.pos
 |.isi ks,h=>.Call (.Name "isinstance" (c0 h).pos) [.Name (nmA c n) (hd (cl h)).pos,.Tuple (unCs ks (cl (hd (cl h).tail))) (kk (hd (cl h).tail)) (hd (cl h).tail).pos] [] h.pos
noncomputable def ji2:Bool×HL->Expr->Expr
 |(true,l),h=>.UnaryOp .Not (unHL c n l (c0 h)) h.pos
 |(false,l),h=>unHL c n l h
noncomputable def jiq:List (Bool×HL)->List Expr->List Expr
 |[],_=>[]
 |a::r,hs=>ji2 c n a (hd hs)::jiq r hs.tail
noncomputable def jir (k:Bool)(a:Bool×HL):List (Bool×HL)->Expr->Expr
 |[],h=>ji2 c n a h
 |b::r,h=>.BoolOp (boU k) (ji2 c n a (hd (cl h))::jiq c n (b::r) (cl h).tail) h.pos
noncomputable def unHA:HA->Expr->Expr
 |.str x,h=>.Constant (.str x) (kk h) h.pos
 |.att f,h=>.Attribute (.Name (nmA c n) (c0 h).pos) f h.pos
noncomputable def ji3:List HA->List Expr->List Expr
 |[],_=>[]
 |a::r,hs=>unHA c n a (hd hs)::ji3 r hs.tail
noncomputable def unHV:HV->Expr->Expr
 |.cond k a as,h=>jir c n k a as h
 |.one a,h=>unHA c n a h
 |.bl b,h=>.Constant (.bool b) (kk h) h.pos
 |.tup as,h=>.Tuple (ji3 c n as (cl h)) (kk h) h.pos
 |.lst as,h=>.List (ji3 c n as (cl h)) h.pos
noncomputable def jkR (i:Nat)(e:HV)(h:Stmt):Stmt:=.Assign [.Name (nmA c i) (q1 h).pos] (unHV c n e (q0 h)) h.pos
noncomputable def unHS:HS->Stmt->Stmt
 |.asg i e,h=>jkR c n i e h
 |.ifa k a as i e,h=>.If (jir c n k a as (q0 h)) [jkR c n i e (qh (qa h))] [] h.pos
noncomputable def jkQ:List HS->List Stmt->List Stmt
 |[],_=>[]
 |s::r,hs=>unHS c n s (qh hs)::jkQ r hs.tail
end
section
variable (cs:List Nat)(c:Ctx)
noncomputable def okC (k:Nat):Bool:=decide (1<=k)&&decide (k<6)&&cs.contains k&&glo c (clsN k)
noncomputable def okHL:HL->Bool
 |.v i=>decide (i<c.N.length)&&(kd c (nmA c i) .local||kd c (nmA c i) .cell||kd c (nmA c i) .free) && !(nmA c i==("__debug__" : Str)) && !(nmA c i==("__classdict__" : Str))
 |.isiV=>glo c "isinstance" && glo c "ValueError"
 |.is1 k=>glo c "isinstance" && okC cs c k
 |.isi ks=>glo c "isinstance" && ks.all (okC cs c)&&decide (ks.length<=8)
noncomputable def jiC (as:List (Bool×HL)):Bool:=as.all λp=>okHL cs c p.2
noncomputable def okHA:HA->Bool
 |.str _=>true
 |.att f=>fldN.contains f
noncomputable def okHV:HV->Bool
 |.cond _ a as=>okHL cs c a.2&&jiC cs c as
 |.one a=>okHA a
 |.bl _=>true
 |.tup as=>as.all okHA&&decide (as.length<=8)
 |.lst as=>as.all okHA&&decide (as.length<=8)
noncomputable def okHS (n:Nat):HS->Bool
 |.asg i e=>okN c i&&decide (i≠n)&&okHV cs c e
 |.ifa _ a as i e=>okHL cs c a.2&&jiC cs c as&&okN c i&&decide (i≠n)&&okHV cs c e
end
mutual
noncomputable def unS (c:Ctx):S->Stmt->Stmt
 |.pass,h=>.Pass h.pos
 |.expr d,h=>.Expr (unE T c d (q0 h)) h.pos
 |.asg t d,h=>.Assign [unTg c t (q1 h)] (unE T c d (q0 h)) h.pos
 |.unp ts d,h=>.Assign [.Tuple (jdP c ts (cl (q1 h))) (kk (q1 h)) (q1 h).pos] (unE T c d (q0 h)) h.pos
 |.asgC i d,h=>.Assign [.Name (nmA c i) (q1 h).pos] (unE T c d (q0 h)) h.pos
 |.setS o i d,h=>.Assign [.Subscript (unE T c o (c0 (q1 h))) (unE T c i (c1 (q1 h))) (q1 h).pos] (unE T c d (q0 h)) h.pos
 |.par is es,h=>.Assign [.Tuple (unNs c is (cl (q1 h))) (kk (q1 h)) (q1 h).pos] (.Tuple (unEs T c es (cl (q0 h))) (kk (q0 h)) (q0 h).pos) h.pos
 |.aug i o d,h=>.AugAssign (.Name (nmA c i) (q1 h).pos) o (unE T c d (q0 h)) h.pos
 |.augS a i o d,h=>.AugAssign (.Subscript (unE T c a (c0 (q1 h))) (unE T c i (c1 (q1 h))) (q1 h).pos) o (unE T c d (q0 h)) h.pos
 |.ite t a b,h=>.If (unE T c t (q0 h)) (unSs c a (qa h)) (unSs c b (qb h)) h.pos
 |.fr t it b,h=>.For (unTg c t (q1 h)) (unI T c it (q0 h)) (unSs c b (qa h)) [] h.pos
 |.wh t b,h=>.While (unE T c t (q0 h)) (unSs c b (qa h)) [] h.pos
 |.ret d,h=>.Return (some (unE T c d (q0 h))) h.pos
 |.retN,h=>.Return none h.pos
 |.never,h=>h
 |.raise k es,h=>.Raise (some (.Call (.Name (clsN k) (c0 (qr h)).pos) (unEs T c es (cl (qr h))) [] (qr h).pos)) none h.pos
 |.tr b k n hs,h=>.Try (unSs c b (qa h)) [.ExceptHandler (some (.Name (clsN k) (hTy h).pos)) (some (nmA c n)) (jkQ c n hs (hBd h)) (hPs h)] [] [] h.pos
noncomputable def unSs (c:Ctx):Ss->List Stmt->List Stmt
 |.nil,_=>[]
 |.cons s r,hs=>unS c s (qh hs)::unSs c r hs.tail
end
noncomputable def okA (c:Ctx):Tg->E->Stmt->Bool
 |.n i,.lc ..,_=>!(kd c (nmA c i) .local)
 |.n i,.lc2 ..,_=>!(kd c (nmA c i) .local)
 |.t _,.lc ..,_=>false
 |.t _,.lc2 ..,_=>false
 |.t ts,.tup es,h=>jcf c (jdP c ts (cl (q1 h))) (unEs T c es (cl (q0 h)))
 |_,_,_=>true
noncomputable def okNs (c:Ctx):List Nat->Bool
 |[]=>true
 |i::is=>decide (i<c.N.length)&&kd c (nmA c i) .local && !(is.contains i)&&okNs c is
mutual
noncomputable def okS (c:Ctx):S->Stmt->Bool
 |.pass,_=>false
 |.expr d,h=>okE T c d (q0 h) && !isLc d
 |.asg t d,h=>okE T c d (q0 h)&&okTg c t&&okA T c t d h
 |.unp ts d,h=>okE T c d (q0 h)&&jh6 c ts&&okA T c (.t ts) d h
 |.asgC i d,h=>isLc d&&okE T c d (q0 h)&&decide (i<c.N.length)&&lcSw c (nmA c i) (q1 h).pos (q0 h).pos (scp (q0 h))
 |.setS o i d,h=>okE T c d (q0 h)&&okE T c o (c0 (q1 h))&&okE T c i (c1 (q1 h))
 |.par is es,h=>okEs T c es (cl (q0 h))&&okNs c is&&swapped c (unNs c is (cl (q1 h))) (unEs T c es (cl (q0 h)))&&decide (is.length=2)
 |.aug i _ d,h=>okN c i&&okE T c d (q0 h)
 |.augS _ _ _ _,_=>false
 |.ite t a b,h=>okE T c t (q0 h)&&okSs c a (qa h)&&okSs c b (qb h)
 |.fr t it b,h=>okTg c t&&okI T c t it (q0 h)&&okSs c b (qa h)
 |.wh t b,h=>okE T c t (q0 h)&&okSs c b (qa h)
 |.ret d,h=>okE T c d (q0 h)
 |.retN,_=>false
 |.never,_=>true
 |.raise _ _,_=>false
 |.tr _ _ _ _,_=>false
noncomputable def okSs (c:Ctx):Ss->List Stmt->Bool
 |.nil,_=>true
 |.cons s r,hs=>okS c s (qh hs)&&okSs c r hs.tail
end
end
def lSp (K:Yac)(t:List U->Gp->K1->KX->Prop):Sp:=λvs H Q0 E0=>∃us G Q E,RUs K H us vs/\HR K H G/\t us G Q E/\(∀w v G' H',RU K H' w v->HR K H' G'->Fr H G H' G'->Q w G'->Q0 v H')/\
 ∀x G' H' C dx,XD K H' C dx x->HR K H' G'->Fr H G H' G'->E x G'->E0 (.ref C) (some dx) H'
def FnU (P:Program)(w:World)(K:Yac)(mg:Str->Option Value)(base:Heap)(k:Nat)(d:Fun)(t:List U->Gp->K1->KX->Prop):Prop:=
 ∃(f:Addr) (fd:Ybm),FnOk P w K mg base (CX1 P w) (k+2) f fd d.ps (lSp K t)/\mg d.name=some (.ref f)/\YbR K (.ref f)=true/\Binds K fd d.ps []
noncomputable def jb8:List Str:=["len", "repr", "min", "max", "sum", "all", "any", "sorted", "int", "str", "isinstance", "range", "enumerate", "list", "tuple", "bool", "dict", "ValueError", "set", "zip"]
structure Cok (T:Tab)(k:Nat)(X:Cx)(c:Ctx):Prop where
 hN:X.N=c.N
 nd:c.N.Nodup
 loc:∀x,kd c x .local=true->X.env.scope.names.lookup x=some .local
 cel:∀x,kd c x .cell=true->X.env.scope.names.lookup x=some .cell/\X.fn x=true
 fre:∀x,kd c x .free=true->X.env.scope.names.lookup x=some .cell\/X.env.scope.names.lookup x=some .free
 glb:∀x,kd c x .globalImplicit=true->Gl X x
 room:Room k X.A
 calm:X.calm=true
 po:YdR (model X.prog X.w) X.A X.env X.xe
 blt:∀x∈jb8,X.mg x=none
 fns:∀(n:Nat) (d:Fun),T.funs[n]?=some d->FnU X.prog X.w X.K X.mg X.base k d (jab T k n)
 gls:∀(n:Nat) (x:Str) (u:U),T.gn[n]?=some x->T.gs[n]?=some u->∃v w,X.mg x=some w/\RelV v w/\∀H,RU X.K H u v
 room2:Room (k+2) X.A
 cls:∀n∈T.cs,1<=n->∃C,XCls X.K (gK X.K) (clsN n) (clsF n) C
 mgK:∀x v,gK X.K x=some v->X.mg x=some v
structure Cos (T:Tab)(k:Nat)(X:Cx)(c:Ctx):Prop extends Cok T k X c where
 sc:X.env.scope.names=c.sc
 kind:X.env.scope.kind=.function
 stk:X.stack=X.env::X.outer/\X.env.frame=some X.env.locals
section
variable {T:Tab}{k:Nat}{X:Cx}{c:Ctx}
theorem Cok.hu (h:Cok T k X c):X.A.units+1<cLine:=joC h.room
theorem Cok.vis (h:Cok T k X c){x:Str}(v:(kd c x .local||kd c x .cell||kd c x .free)=true):Vis X.env.scope x:=by
 simp only[Yci]at v;rcases v with(v|v)|v
 ·exact .inl (h.loc x v)
 ·exact .inr (.inl (h.cel x v).1)
 ·rcases h.fre x v with z|z
  ·exact .inr (.inl z)
  ·exact .inr (.inr z)
theorem Cok.store (h:Cok T k X c){x:Str}(v:(kd c x .local||kd c x .cell)=true):Loc X.env.scope x/\(X.fn x=true\/X.env.scope.names.lookup x=some .local):=by
 simp only[Yci]at v;rcases v with v|v
 ·exact⟨.inl (h.loc x v),.inr (h.loc x v)⟩
 ·exact⟨.inr (h.cel x v).1,.inl (h.cel x v).2⟩
theorem Cok.gl (h:Cok T k X c){x:Str}(v:glo c x=true):Gl X x/\(x==("__debug__" : Str))=false:=by
 unfold glo at v;rw[Yaz]at v;exact⟨h.glb x v.1,by simpa using v.2⟩
end
noncomputable def jew:Expr->Bool
 |.BoolOp ..|.BinOp ..|.UnaryOp ..|.IfExp ..|.Dict ..|.ListComp ..|.Compare ..|.Call ..|.Constant ..|.Subscript ..|.Name ..|.List ..|.Tuple ..|.JoinedStr ..=>true
 |_=>false
section
variable {T:Tab}{c:Ctx}
theorem jar (ir:E)(h:Expr):jew (unE T c ir h)=true:=by cases ir<;>rfl
theorem jas {e:Expr}(h:jew e=true)(es:List Expr)(env:Env):YaA (e::es) env=(false,eval e env)::YaA es env:=by
 cases e<;>first|rfl|cases h
theorem jkt {e:Expr}(h:jew e=true):jfg e:=by
 intro o i;cases e<;>first|rfl|cases h
theorem jbr {e:Expr}(h:jew e=true)(env:Env):∀x,Ya4 e env x=pure x:=by
 intro x;cases e<;>first|rfl|cases h
theorem ji0 (it:It)(h:Expr)(env:Env):∀x,Ya4 (unI T c it h) env x=pure x:=by
 cases it with
 |e d=>exact jbr (jar d _) env
 |dk d=>exact jbr (jar d _) env
 |s d=>exact jbr (jar d _) env
 |_=>exact λ_=>rfl
theorem jic {o i:Expr}(h:jew i=true)(env:Env)(tpos:Pos):∀v,assign (.Subscript o i tpos) env v=(holding [v] (eval o env) >>= λa=>holding [v,a] (eval i env) >>= λb=>standAt tpos >>= λ_=>holding [v,a,b] (setItem a b v) >>= λ_=>release [v,a,b] []):=by
 intro v;cases i<;>first|rfl|cases h
theorem ji1 {ir:E}(q:isLc ir=false)(h:Expr)(env:Env)(l:Nat):YcX (unE T c ir h) none l env=pure false:=by
 cases ir<;>first|rfl|cases q
theorem jiZ {ir:E}(q:isLc ir=false)(h tg:Expr)(env:Env)(l:Nat):Ybl [tg] (unE T c ir h) l env=pure false:=by
 cases ir<;>first|rfl|cases q
theorem jip (ir:E)(h x y:Expr)(p:Pos)(env:Env)(l:Nat):Ybl [.Subscript x y p] (unE T c ir h) l env=pure false/\Ya9 [.Subscript x y p] (unE T c ir h) env=pure none:=by
 cases ir<;>exact⟨rfl,rfl⟩
theorem jnw (ir:E)(h:Expr)(x:Str)(p:Pos)(env:Env):Ya9 [.Name x p] (unE T c ir h) env=pure none:=by
 cases ir<;>rfl
theorem jgc (t:Tg)(h:Expr)(env:Env):(Ya2 [unTg c t h] env).map (·.2)=[assign (unTg c t h) env]:=by
 cases t<;>rfl
theorem jeb {o:Expr}(h:jfu o=true)(m:Str)(env:Env)(w:Sem Value):Ybu o m env w=w:=by
 unfold Ybu;split
 ·cases h
 ·rfl
theorem jcQ:∀(es:Es) (hs:List Expr) (env:Env) (pos:Pos),(backTo pos (YaA (unEs T c es hs) env)).any (·.1)=false/\(backTo pos (YaA (unEs T c es hs) env)).all (λx=>!x.1)=true
 |.nil,_,_,_=>⟨rfl,rfl⟩
 |.cons d es,hs,env,pos=>by
  obtain⟨h1,h2⟩:=jcQ es hs.tail env pos;show(backTo pos (YaA (unE T c d (hd hs)::unEs T c es hs.tail) env)).any (·.1)=false/\(backTo pos (YaA (unE T c d (hd hs)::unEs T c es hs.tail) env)).all (λx=>!x.1)=true;rw[jas (jar d _)];exact⟨by show(false||(backTo pos (YaA (unEs T c es hs.tail) env)).any (·.1))=false;rw[h1];rfl,by show(!false&&(backTo pos (YaA (unEs T c es hs.tail) env)).all (λx=>!x.1))=true;rw[h2];rfl⟩
theorem jgb:∀(es:Es) (hs:List Expr),(unEs T c es hs).length=jb1 es
 |.nil,_=>rfl
 |.cons _ es,hs=>congrArg (·+ 1) (jgb es hs.tail)
theorem ba {a b:Bool}(h:(a&&b)=true):a=true/\b=true:=by simpa using h
theorem bn {a:Bool}(h:(!a)=true):a=false:=by simpa using h
theorem jos {i:Nat}(h:decide (i<c.N.length)=true):c.N[i]?=some (nmA c i):=by
 unfold nmA;rw[YaM,Yae (of_decide_eq_true h)];rfl
end
theorem jeP:∀{ts:Tgs} {us:List U} {ς:Sg} {k:Sg->Prop},tgsU ts us ς k->us.length=jee ts
 |.nil,us,ς,k,h=>by rw[h.1];rfl
 |.cons t ts,us,ς,k,h=>by
  cases us with
  |nil=>exact h.elim
  |cons u r=>
   have:∃ς',tgsU ts r ς' k:=tg_some h;obtain⟨ς',h'⟩:=this;show r.length+1=jee ts+1;rw[jeP h']
where
 tg_some {t:Tg} {u:U} {ς:Sg} {P:Sg->Prop} (h:tgU t u ς P):∃ς',P ς':=by
  have:=jcT (k':=λ_=>∃ς',P ς') h λς' h'=>⟨ς',h'⟩;exact tg_const this
 tg_const:∀{t:Tg} {u:U} {ς:Sg} {P:Prop},tgU t u ς (λ_=>P)->P
  |.n _,_,_,_,h=>h
  |.t ts,u,ς,P,h=>by
   cases u with
   |tup us=>exact tgs_const (ts:=ts) (us:=us) h
   |_=>exact h.elim
 tgs_const:∀{ts:Tgs} {us:List U} {ς:Sg} {P:Prop},tgsU ts us ς (λ_=>P)->P
  |.nil,_,_,_,h=>h.2
  |.cons t ts,us,ς,P,h=>by
   cases us with
   |nil=>exact h.elim
   |cons u r=>exact tg_const (jcT (t:=t) h λς' h'=>tgs_const h')
section
variable {T:Tab}{k:Nat}{X:Cx}{c:Ctx}
theorem jcS:∀(ts:Tgs) (hs:List Expr) (env:Env),(Ya2 (jdP c ts hs) env).length=jee ts/\(Ya2 (jdP c ts hs) env).findIdx? (·.1)=none
 |.nil,_,_=>⟨rfl,rfl⟩
 |.cons t ts,hs,env=>by
  obtain⟨h1,h2⟩:=jcS ts hs.tail env;have e:Ya2 (jdP c (.cons t ts) hs) env=(false,assign (unTg c t (hd hs)) env)::Ya2 (jdP c ts hs.tail) env:=by cases t<;>rfl
  rw[e];exact⟨by simp[h1,jee],by simp[List.findIdx?_cons,h2]⟩
theorem Cok.nm {i:Nat}(C:Cok T k X c)(h:decide (i<c.N.length)=true):X.N[i]?=some (nmA c i):=by rw[C.hN];exact jos h
mutual
theorem sTg (C:Cok T k X c):∀(t:Tg) (h:Expr),okTg c t=true->PG X (unTg c t h) (lG X.K (tgU t))
 |.n _,_,q=>let s:=C.store (ba q).2;u_tn (by rw[C.hN];exact C.nd) (C.nm (ba q).1) s.1 s.2
 |.t ts,h,q=>u_tt C.calm (sTgs C ts (cl h) q) (jcS ts _ X.env).1 (jcS ts _ X.env).2 λus ς k q=>jeP q
theorem sTgs (C:Cok T k X c):∀(ts:Tgs) (hs:List Expr),jh6 c ts=true->PGs X (jdP c ts hs) (lGs X.K (tgsU ts))
 |.nil,_,_=>jnz
 |.cons t ts,hs,q=>jnA (sTg C t (hd hs) (ba q).1) (sTgs C ts hs.tail (ba q).2) (by cases t<;>rfl)
end
def EB (X:Cx)(σ:St):XK:=λcls dx H'=>∀(pins:List (Addr×Obj)) (ea:Addr) (s':Shared),Inv X pins σ H' s'->Lies X.s₀.heap.objs.size X.pn H' s'.heap ea cls dx->X.xe (.ref ea) s'
theorem jgq {j:Nat}{f:Addr}{fd:Ybm}{ps:List Str}{sp:Sp}{pins:List (Addr×Obj)}{σ:St}{H:Hp}{s:Shared}{Q:VK}{us:List Value}{vs:List V}(F:FnOk X.prog X.w X.K X.mg X.base (CX1 X.prog X.w) j f fd ps sp)(hr:Room j X.A)(hb:Binds X.K fd ps [])
  (I:Inv X pins σ H s) (r:Vals vs us) (h:sp vs H Q (EB X σ)):wpAny (model X.prog X.w) X.A (call (.ref f) us) (EP X pins σ Q) X.xe s:=by
 have hl:(us++[]).length=ps.length:=by rw[Yc2,<- r.length];exact F.len _ _ _ _ h
 have hbs:=hb s us I.kIn hl;rw[Yc2]at hbs;refine wpAny_call (Yef (F.run X.A X.stack s H ⟨us,[]⟩ us vs Q (EB X σ) hr I.env0 hbs r h) λr s' hq=>?_);cases r with
 |error e=>
  obtain⟨ea,H',cls,dx,rfl,I',l,q⟩:=CX1.back I hq;exact q pins ea s' I' l
 |ok fl=>
  cases fl with
  |ret u=>exact I.after hq
  |next=>exact Yc4 hq
  |brk=>exact Yc4 hq
  |cont=>exact Yc4 hq
theorem jgm {n:Nat}{σ:St}{H:Hp}{G:Gp}{us:List U}{vs:List V}{Q:K1}{E:KX}{Q0:VK}(r:RUs X.K H us vs)(hG:HR X.K H G)(h:jab T k n us G Q E)(lv:LV X H G Q Q0)(lx:LX X σ H G E):lSp X.K (jab T k n) vs H Q0 (EB X σ):=
 ⟨us,G,Q,E,r,hG,h,lv,λx G' H' C dx xd hr f q pins ea s' I' l=>lx pins (.ref ea) s' x G' H' I' ⟨ea,C,dx,rfl,l,xd⟩ hr f q⟩
theorem jkZ {n:Nat}{d:Fun}{x:Str}{e:Expr}{es:List Expr}{ts:UA}{p pos:Pos}(C:Cok T k X c)(hd:T.funs[n]?=some d)(hx:d.name=x)(hg:glo c x=true)(ha:PA X (e::es) (lA X ts))
  (he:YaA (e::es) X.env=(false,eval e X.env)::YaA es X.env) (hpl:(backTo pos (YaA es X.env)).any (·.1)=false) :
  PE X (.Call (.Name x p) (e::es) [] pos) (lE X λς G Q E=>ts ς G (λus G1=>jab T k n us G1 Q E) E):=by
 obtain⟨f,fd,F,hm,hk,hb⟩:=C.fns n d hd;obtain⟨g1,g2⟩:=C.gl hg;rw[hx]at hm;intro pins s σ H Q0 I ⟨ς,G,Q,E,hς,hG,h,lv,lx⟩;refine YcL (jgQ I g1 hm ?_ g2);have h':lA X ts σ H λvs H1=>lSp X.K (jab T k n) vs H1 Q0 (EB X σ):=⟨ς,G,_,E,hς,hG,h,λus vs G1 H1 rs hG1 f1 h1=>jgm rs hG1 h1 (lv.fr f1) (lx.fr f1),lx⟩;refine PySem.W.callWith_K (h₀:=X.base) I.ok.mod.kin hk (thn (ha pos pins s σ H _ I h') λus s1 ⟨vs,H1,I1,r,q⟩=>⟨I1.kIn,?_⟩) he hpl;exact jgq F C.room2 hb I1 r q
theorem ji6 {n:Nat}{d:Fun}{x:Str}{p pos:Pos}(C:Cok T k X c)(hd:T.funs[n]?=some d)(hx:d.name=x)(hg:glo c x=true) :
  PE X (.Call (.Name x p) [] [] pos) (lE X λ_ G Q E=>jab T k n [] G Q E):=by
 obtain⟨f,fd,F,hm,hk,hb⟩:=C.fns n d hd;obtain⟨g1,g2⟩:=C.gl hg;rw[hx]at hm;intro pins s σ H Q0 I ⟨ς,G,Q,E,hς,hG,h,lv,lx⟩;refine YcL (jgQ I g1 hm ?_ g2);exact PySem.W.callWith_K0 I.kIn hk (jgq (us:=[]) (vs:=[]) F C.room2 hb I .nil (jgm (show RUs X.K H [] []from rfl) hG h lv lx))
theorem Cok.comp {pick:List (Option Nat)}{scope:Scope}{N:List Str}(C:Cok T k X c)(h:cOkS c N pick scope=true):CScope X N pick scope/\∀cl A s₀ H₀ fp,Cok T k (jao X N scope cl A s₀ H₀ fp) ⟨N,scope.names⟩:=by
 unfold cOkS at h;simp only[Yaz,decide_eq_true_eq]at h;obtain⟨⟨⟨⟨⟨⟨h1,h2⟩,h3⟩,h4⟩,h5⟩,h6⟩,h7⟩:=h;have cells:∀y∈scope.names,y.2=.cell->scope.names.lookup y.1=some .cell:=λy hy hc=>by
  have:=List.all_eq_true.mp h2 y hy;rw[hc]at this;simpa using this
 refine⟨⟨h1,cells,λy hy hl=>?_,λy hy hf=>?_,by simpa using h5,λi j x e1 e2=>?_⟩,λcl A s₀ H₀ fp=>?_⟩
 ·have:=List.all_eq_true.mp h3 y hy;rw[hl]at this;simpa using this
 ·have:=List.all_eq_true.mp h4 y hy;rw[hf]at this;simp only[bne_self_eq_false,Yeu,Yaz,Yci,beq_iff_eq]at this;refine⟨this.1,?_⟩;rcases this.2 with z|z
  ·exact .inl (C.cel _ z).1
  ·exact C.fre _ z
 ·have hz:(N.zip pick)[i]?=some (x,some j):=by rw[List.getElem?_zip_eq_some];exact⟨e1,e2⟩
  have:=List.all_eq_true.mp h6 _ (Yak hz);rw[C.hN];simpa using this
 ·refine⟨rfl,h7,λx z=>?_,λx z=>?_,λx z=>?_,λx z=>?_,C.room,C.calm,YdR.never,C.blt,C.fns,C.gls,C.room2,C.cls,C.mgK⟩
  ·exact jav (by decide) (eq_of_beq z)
  ·exact⟨jav (by decide) (eq_of_beq z),z⟩
  ·exact jaM (eq_of_beq z)
  ·exact glc (eq_of_beq z)
end
end Z

namespace Z
open PySem L2
section
variable {K:Yac}{H H':Hp}{G G':Gp}
end
section
variable {T:Tab}{k:Nat}{X:Cx}{c:Ctx}
end
structure HC (T:Tab)(X:Cx)(c:Ctx)(n:Nat)(ea C dx:Addr)(x:XV):Prop where
 hN:X.N=c.N
 nd:c.N.Nodup
 loc:∀y,kd c y .local=true->X.env.scope.names.lookup y=some .local
 cel:∀y,kd c y .cell=true->X.env.scope.names.lookup y=some .cell/\X.fn y=true
 fre:∀y,kd c y .free=true->X.env.scope.names.lookup y=some .cell\/X.env.scope.names.lookup y=some .free
 glb:∀y,kd c y .globalImplicit=true->Gl X y
 blt:∀y∈jb8,X.mg y=none
 cls:∀n∈T.cs,1<=n->∃C,XCls X.K (gK X.K) (clsN n) (clsF n) C
 me:XCls X.K (gK X.K) (clsN x.c) (clsF x.c) C
 lo:1<=x.c
 hi:x.c<6
 pin:XPin X ea C dx
 mgK:∀y v,gK X.K y=some v->X.mg y=some v
 en:n<c.N.length/\kd c (nmA c n) .local=true/\(nmA c n==("__debug__" : Str))=false/\(nmA c n==("__classdict__" : Str))=false
structure HSt (X:Cx)(n:Nat)(ea C dx:Addr)(x:XV)(σ:St)(H:Hp)(ς:Sg)(G:Gp):Prop where
 sr:SR X.K H ς σ
 hr:HR X.K H G
 en:σ[n]?=some (some (.ref ea))
 xd:XD X.K H C dx x
def hB (X:Cx)(n:Nat)(ea C dx:Addr)(x:XV)(f:Sg->Option Bool):TE:=λσ H Q=>∃ς G b,HSt X n ea C dx x σ H ς G/\f ς=some b/\∀H',HR X.K H' G->Fr H G H' G->Q (.bl b) H'
def hT (X:Cx)(n:Nat)(ea C dx:Addr)(x:XV)(f:Sg->Option Bool):TT:=λσ H Q=>∃ς G b,HSt X n ea C dx x σ H ς G/\f ς=some b/\∀H',HR X.K H' G->Fr H G H' G->Q b H'
section
variable {T:Tab}{X:Cx}{c:Ctx}{n:Nat}{ea C dx:Addr}{x:XV}
def hV (X:Cx)(n:Nat)(ea C dx:Addr)(x:XV)(f:Sg->Gp->K1->Prop):TE:=λσ H Q0=>∃ς G Q,HSt X n ea C dx x σ H ς G/\f ς G Q/\LV X H G Q Q0
def hS (X:Cx)(n:Nat)(ea C dx:Addr)(x:XV)(hs:List HS):L2.TS:=λD σ H=>∃ς G k,HSt X n ea C dx x σ H ς G/\hsH x hs ς G k/\∀ς' σ' G' H',HSt X n ea C dx x σ' H' ς' G'->Fr H G H' G'->k ς' G'->D.nx σ' H'
end
section
variable {T:Tab}{k:Nat}{X:Cx}{c:Ctx}
end
section
variable {T:Tab}{k:Nat}
theorem jj4 (b:Blt):bltN b∈jb8:=by cases b<;>decide
theorem jk1:∀n∈jgd,YbT (YbA n)=some (.type n)/\YbA n∈jb8/\YbA n ≠ "__name__" := by decide +kernel
abbrev SE (T:Tab)(k:Nat)(X:Cx)(c:Ctx)(ir:E)(h:Expr):Prop:=PE X (unE T c ir h) (lE X (den T.gs (jab T k) ir).1)/\PT X (unE T c ir h) (lT X (den T.gs (jab T k) ir).2)
section
variable {X:Cx}{c:Ctx}
theorem tru {e:Expr}{t:UE}(h:PE X e (lE X t))(hp:∀whole,isTrue e X.env whole=(do let v <- whole;standAt e.pos;holding [v] (truthy v))):PE X e (lE X t)/\PT X e (lT X (truT t)):=⟨h,jnB h hp⟩
section
variable {a b:Expr}{rest:List Expr}{pos:Pos}{p q:UE×UT}
theorem jlk (ha:PE X a (lE X p.1)/\PT X a (lT X p.2))(hb:PE X (.BoolOp .And (b::rest) pos) (lE X q.1)/\PW X (.BoolOp .And (b::rest) pos) (lT X q.2)) :
  PE X (.BoolOp .And (a::b::rest) pos) (lE X (comb true p q).1)/\PW X (.BoolOp .And (a::b::rest) pos) (lT X (comb true p q).2):=⟨jnP ha.1 hb.1,jk0 ha.2 hb.2⟩
theorem jn2 (ha:PE X a (lE X p.1)/\PT X a (lT X p.2))(hb:PE X (.BoolOp .Or (b::rest) pos) (lE X q.1)/\PW X (.BoolOp .Or (b::rest) pos) (lT X q.2)) :
  PE X (.BoolOp .Or (a::b::rest) pos) (lE X (comb false p q).1)/\PW X (.BoolOp .Or (a::b::rest) pos) (lT X (comb false p q).2):=⟨u_or ha.1 hb.1,jnD ha.2 hb.2⟩
end
theorem se_v {i:Nat}{h:Expr}(C:Cok T k X c)(q:okE T c (.v i) h=true):SE T k X c (.v i) h:=tru (jnx (C.nm (ba (ba (ba q).1).1).1) (C.vis (ba (ba (ba q).1).1).2) (bn (ba (ba q).1).2) (bn (ba q).2)) λ_=>rfl
theorem jn1 {n:String}{h:Expr}(C:Cok T k X c)(q:okE T c (.ty n) h=true):SE T k X c (.ty n) h:=by
 obtain⟨g1,g2⟩:=C.gl (ba q).2;obtain⟨t1,t2,t3⟩:=jk1 n (by simpa using (ba q).1)
 exact tru (u_ty g1 (C.blt _ t2) t1 t3 g2) λ_=>rfl
theorem jlf {es:Es}{h:Expr}{trs:List (TE×TE)}(h1:PPs X h.pos (unK T c es (dk h)) (unV T c es (cl h)) trs)(h2:lD X (denD T.gs (jab T k) es) trs)(h3:(unK T c es (dk h)).all (·.isSome)=true)(h4:(unK T c es (dk h)).length=(unV T c es (cl h)).length)
  (h5:(unK T c es (dk h)).length<=15):SE T k X c (.dic es) h:=by
 refine tru ?_ λ_=>rfl
 match es,h1,h2,h3,h4,h5 with
 |.nil,_,_,_,_,_=>exact PE.imp jkW λσ H Q0 ⟨ς,G,Q,E,hς,hG,h,lv,lx⟩=>⟨ς,G,Q,E,hς,hG,(show([]:List (Key×U)).length<=15/\newO G (.dK (jdh [])) Q from h).2,lv,lx⟩
 |.cons _ .nil,_,_,_,_,_=>exact λpins s σ H Q0 I ⟨ς,G,Q,E,hς,hG,h,lv,lx⟩=>(show False from h).elim
 |.cons d (.cons f es),h1,h2,h3,h4,h5=>exact jnL h1 h2 h3 h4 (λz=>nomatch z) h5
theorem jjm {n:Nat}{es:Es}{h:Expr}(C:Cok T k X c)(q:okE T c (.call n es) h=true)(ha:PA X (unEs T c es (cl h)) (lA X (jaE T.gs (jab T k) es))):SE T k X c (.call n es) h:=by
 refine tru ?_ λ_=>rfl;have hn:=of_decide_eq_true (ba (ba q).1).1;have hd':T.funs[n]?=some T.funs[n]:=by simp[hn]
 have hx:T.funs[n].name=fnN T n:=by unfold fnN;rw[hd']
 match es,ha with
 |.nil,_=>exact ji6 C hd' hx (ba (ba q).1).2
 |.cons d es,ha=>exact jkZ C hd' hx (ba (ba q).1).2 ha (jas (jar d _) _ _) (jcQ es _ _ _).1
theorem jlg {b:Blt}{es:Es}{h:Expr}(C:Cok T k X c)(q:okE T c (.blt b es) h=true)(ha:PA X (unEs T c es (cl h)) (lA X (jaE T.gs (jab T k) es))):SE T k X c (.blt b es) h:=by
 refine tru ?_ λ_=>rfl;obtain⟨g1,g2⟩:=C.gl (ba (ba q).1).2
 match es,ha,q with
 |.nil,_,q=>exact absurd (of_decide_eq_true (ba (ba q).1).1) (Ybd 0)
 |.cons d es,ha,_=>exact jnN (jmR C.room C.calm b) g1 (C.blt _ (jj4 b)) ha (jas (jar d _) _ _) (jcQ es _ _ _).1
theorem jjl {m:Mth}{o:E}{es:Es}{h:Expr}(q:okE T c (.meth m o es) h=true)(ho:PE X (unE T c o (c0 (c0 h))) (lE X (den T.gs (jab T k) o).1))(ha:PA X (unEs T c es (cl h)) (lA X (jaE T.gs (jab T k) es))):SE T k X c (.meth m o es) h:=by
 refine tru ?_ λ_=>rfl;have h6:=(ba q).2;have h5:=of_decide_eq_true (ba (ba q).1).2;have h4:=(ba (ba (ba q).1).1).2
 match es,ha,h5 with
 |.nil,_,_=>exact ji4 (jiE m) ho (jeb h6 _ _ _) h4
 |.cons d es,ha,h5=>
  refine jkT (jiE m) ho ha (jeb h6 _ _ _) ?_ h4 (jas (jar d _) _ _) (jcQ es _ _ _).1;have e:=(jcQ (T:=T) (c:=c) (.cons d es) (cl h) X.env h.pos).2;show((backTo h.pos (YaA (unEs T c (.cons d es) (cl h)) X.env)).all (λx=>!x.1)&&_&&decide ((unEs T c (.cons d es) (cl h)).length+0+0<30))=true;rw[e,jgb];exact decide_eq_true h5
theorem s_zp {a b:E}{h:Expr}{elts:List Expr}{x1}{tpos:Pos}(C:Cok T k X c)(g:glo c "zip" = true)(ha:SE T k X c a (hd (cl h)))(hb:SE T k X c b (hd (cl h).tail)):PI X (.Tuple elts x1 tpos) (unI T c (.zp a b) h) (lI X (denI T.gs (jab T k) (.zp a b))):=
 u_zp (C.gl g).1 (C.blt _ (by decide)) ha.1 hb.1 (jas (jar a _) _ _) (jas (jar b _) _ _)
theorem jlh {d:E}{e:Expr}(h:PT X e (lT X (den T.gs (jab T k) d).2)):PIfs X [e] (lT0 X.K (denC T.gs (jab T k) (.cons d .nil))):=by
 refine PIfs.imp (jjB (lT0.of h)) λσ H Q0 ⟨ς,G,Q,h1,h2,h3,h4⟩=>⟨ς,G,λb G'=>Q b G',h1,h2,?_,h4⟩;have h3':(den T.gs (jab T k) d).2 ς G (λb G1=>if b=true then Q true G1 else Q false G1) (λ_ _=>False):=h3
 have e:(λ(b:Bool) (G1:Gp)=>if b=true then Q true G1 else Q false G1)=λb G'=>Q b G':=by
  funext b G1;cases b<;>simp
 rw[e]at h3';exact h3'
theorem jlj:PIfs X [] (lT0 X.K (denC T.gs (jab T k) .nil)):=PIfs.imp jjC λσ H Q0 ⟨ς,G,Q,h1,h2,h3,h4⟩=>h4 true G H h2 (Fr.refl _ _) h3
theorem jms:∀(es:Es) (hs:List Expr),2*(unK T c es hs).length<=jb1 es
 |.nil,_=>Yag _
 |.cons _ .nil,_=>Ybb _
 |.cons _ (.cons _ es),hs=>by
  have:=jms es hs.tail;show 2*((unK T c es hs.tail).length+1)<=jb1 es+1+1;omega
theorem k_le {es:Es}{hs:List Expr}(h:jb1 es<=30):(unK T c es hs).length<=15:=by
 have:=jms (T:=T) (c:=c) es hs;omega
end
mutual
theorem sE:∀(ir:E) {X:Cx} {c:Ctx} {h:Expr},Cok T k X c->okE T c ir h=true->SE T k X c ir h
 |.v _,_,_,_,C,q=>se_v C q
 |.non,_,_,_,_,_=>tru (jcR (u:=.non) jlL λ_=>rfl) λ_=>rfl
 |.bl b,_,_,_,_,_=>tru (jcR (u:=.bl b) jom λ_=>rfl) λ_=>rfl
 |.int i,_,_,_,_,_=>tru (jcR (u:=.int i) jlO λ_=>rfl) λ_=>rfl
 |.str x,_,_,_,_,_=>tru (jcR (u:=.str x) jlJ λ_=>rfl) λ_=>rfl
 |.g _,_,_,_,_,q=>nomatch q
 |.ty _,_,_,_,C,q=>jn1 C q
 |.bin o a b,_,_,_,C,q=>tru (jnO (jlX o) (sE a C (ba q).1).1 (sE b C (ba q).2).1) λ_=>rfl
 |.neg a,_,_,_,C,q=>tru (jnF (sE a C q).1) λ_=>rfl
 |.not a,_,_,_,C,q=>⟨jnE (sE a C q).1,jkS (sE a C q).2⟩
 |.bop k a es,_,_,h,C,q=>let r:=sB es k C (sE a C (ba q).1) (ba q).2 h.pos;⟨r.1,r.2.pt⟩
 |.cmp o a b,_,_,_,C,q=>⟨jnM (jdK C.room o) (sE a C (ba (ba q).1).1).1 (sE b C (ba (ba q).1).2).1 (bn (ba q).2),jkX (jdK C.room o) (sE a C (ba (ba q).1).1).1 (sE b C (ba (ba q).1).2).1 (bn (ba q).2)⟩
 |.cmp2 o p a b d,_,_,_,C,q=>⟨jkY (jdK C.room o) (jdK C.room p) (sE a C (ba (ba (ba q).1).1).1).1 (sE b C (ba (ba (ba q).1).1).2).1 (sE d C (ba (ba q).1).2).1 (bn (ba q).2),
   PT.imp (ji5 (jdK C.room o) (jdK C.room p) (sE a C (ba (ba (ba q).1).1).1).1 (sE b C (ba (ba (ba q).1).1).2).1 (sE d C (ba (ba q).1).2).1 (bn (ba q).2)) λ_ _ _ ⟨ς,G,Q,E,hς,hG,h,lv,lx⟩=>⟨ς,G,Q,E,hς,hG,h,lv,lx⟩⟩
 |.ife t a b,_,_,_,C,q=>⟨jnK (sE t C (ba (ba q).1).1).2 (sE a C (ba (ba q).1).2).1 (sE b C (ba q).2).1,jkU (sE t C (ba (ba q).1).1).2 (sE a C (ba (ba q).1).2).2 (sE b C (ba q).2).2⟩
 |.tup es,_,_,_,C,q=>tru (jny (sEs es C q)) λ_=>rfl
 |.lst es,_,_,_,C,q=>tru (jnJ (sEs es C q)) λ_=>rfl
 |.dic es,_,_,h,C,q=>let ⟨_,h1,h2,h3,h4⟩:=sD es C h.pos (ba q).1;jlf h1 h2 h3 h4 (k_le (of_decide_eq_true (ba q).2))
 |.dicT,_,_,_,_,q=>nomatch q
 |.ix a b,_,_,_,C,q=>tru (u_ix C.hu (sE a C (ba q).1).1 (sE b C (ba q).2).1 (jkt (jar b _))) λ_=>rfl
 |.sl a lo hi,_,_,_,C,q=>tru (u_sl (sE a C (ba (ba q).1).1).1 (sO lo C (ba (ba q).1).2) (sO hi C (ba q).2)) λ_=>rfl
 |.rev a b,_,_,_,C,q=>tru (jnC (sE a C (ba q).1).1 (sE b C (ba q).2).1) λ_=>rfl
 |.call _ es,_,_,_,C,q=>jjm C q (sEs es C (ba q).2)
 |.app _ _,_,_,_,_,_=>⟨λ_ _ _ _ _ _ ⟨_,_,_,_,_,_,h,_⟩=>(show False from h).elim,λ_ _ _ _ _ _ ⟨_,_,_,_,_,_,h,_⟩=>(show False from h).elim⟩
 |.blt _ es,_,_,_,C,q=>jlg C q (sEs es C (ba q).2)
 |.meth _ o es,_,_,_,C,q=>jjl q (sE o C (ba (ba (ba (ba q).1).1).1).1).1 (sEs es C (ba (ba (ba (ba q).1).1).1).2)
 |.lc _ t it ifs d,_,_,_,C,q=>let S:=C.comp (ba (ba (ba (ba (ba (ba q).1).1).1).1).1).1
   tru (u_lc C.calm S.1 (sI it t _ _ C (ba (ba (ba (ba q).1).1).1).2).1 (ba (ba (ba (ba (ba (ba q).1).1).1).1).1).2 (λcl A s₀ H₀ fp=>sTg (S.2 cl A s₀ H₀ fp) t _ (ba (ba (ba (ba (ba q).1).1).1).1).2)
    (λcl A s₀ H₀ fp=>sC ifs (S.2 cl A s₀ H₀ fp) (of_decide_eq_true (ba (ba q).1).2) (ba (ba (ba q).1).1).2) (λcl A s₀ H₀ fp=>lE0.of (sE d (S.2 cl A s₀ H₀ fp) (ba q).2).1) (sI it t ⟨[],[]⟩ e0 C (ba (ba (ba (ba q).1).1).1).2).2) λ_=>rfl
 |.lc2 _ _ _ _ _ _ _ _,_,_,_,_,q=>nomatch q
 |.fst _,_,_,_,_,q=>nomatch q
 |.lrp _ _ _ _ _ _,_,_,_,_,q=>nomatch q
 |.sset _,_,_,_,_,q=>nomatch q
 |.mkD d,_,_,_,C,q=>tru (jnI C.calm (C.gl (ba q).1).1 (C.blt _ (by decide)) (sE d C (ba q).2).1 (jas (jar d _) _ _)) λ_=>rfl
 |.maxD _,_,_,_,_,q=>nomatch q
 |.minD _,_,_,_,_,q=>nomatch q
 |.mkL d,_,_,_,C,q=>tru (jnH (C.gl (ba q).1).1 (C.blt _ (by decide)) (sE d C (ba q).2).1 (jas (jar d _) _ _)) λ_=>rfl
 |.mkT d,_,_,_,C,q=>tru (jnG (C.gl (ba q).1).1 (C.blt _ (by decide)) (sE d C (ba q).2).1 (jas (jar d _) _ _)) λ_=>rfl
 |.rngL _,_,_,_,_,q=>nomatch q
 |.rngT _,_,_,_,_,q=>nomatch q
 |.rngL2 _ _,_,_,_,_,q=>nomatch q
theorem sO:∀(ir:Eo) {X:Cx} {c:Ctx} {h:Expr},Cok T k X c->okO T c ir h=true->PO X (unO T c ir h) (lO X (denO T.gs (jab T k) ir))
 |.no,_,_,_,_,_=>u_no
 |.so d,_,_,_,C,q=>u_so (sE d C q).1
theorem sEs:∀(ir:Es) {X:Cx} {c:Ctx} {hs:List Expr},Cok T k X c->okEs T c ir hs=true->PA X (unEs T c ir hs) (lA X (jaE T.gs (jab T k) ir))
 |.nil,_,_,_,_,_=>jeO
 |.cons d ir,_,_,_,C,q=>jck (sE d C (ba q).1).1 (sEs ir C (ba q).2) (jas (jar d _) _ _)
theorem sB:∀(ir:Es) (b:Bool) {X:Cx} {c:Ctx} {hs:List Expr} {a:Expr} {p:UE×UT},Cok T k X c->PE X a (lE X p.1)/\PT X a (lT X p.2)->okEs T c ir hs=true->∀pos:Pos,
  PE X (.BoolOp (boU b) (a::unEs T c ir hs) pos) (lE X (denB T.gs (jab T k) b p ir).1)/\PW X (.BoolOp (boU b) (a::unEs T c ir hs) pos) (lT X (denB T.gs (jab T k) b p ir).2)
 |.nil,true,_,_,_,_,_,_,ha,_,_=>⟨jix ha.1,pw_and1 ha.2⟩
 |.nil,false,_,_,_,_,_,_,ha,_,_=>⟨jix ha.1,pw_or1 ha.2⟩
 |.cons d ir,true,_,_,_,_,_,C,ha,q,pos=>jlk ha (sB ir true C (sE d C (ba q).1) (ba q).2 pos)
 |.cons d ir,false,_,_,_,_,_,C,ha,q,pos=>jn2 ha (sB ir false C (sE d C (ba q).1) (ba q).2 pos)
theorem sC:∀(ir:Es) {X:Cx} {c:Ctx} {hs:List Expr},Cok T k X c->jb1 ir<=1->okEs T c ir hs=true->PIfs X (unEs T c ir hs) (lT0 X.K (denC T.gs (jab T k) ir))
 |.nil,_,_,_,_,_,_=>jlj
 |.cons d .nil,_,_,_,C,_,q=>jlh (sE d C (ba q).1).2
 |.cons _ (.cons _ es),_,_,_,_,l,_=>absurd l (by show ¬(jb1 es+1+1<=1);omega)
theorem sD:∀(ir:Es) {X:Cx} {c:Ctx} {hs gs:List Expr},Cok T k X c->(p:Pos)->okD T c ir hs gs=true->∃trs,PPs X p (unK T c ir hs) (unV T c ir gs) trs/\lD X (denD T.gs (jab T k) ir) trs/\(unK T c ir hs).all (·.isSome)=true/\(unK T c ir hs).length=(unV T c ir gs).length
 |.nil,_,_,_,_,_,_,_=>⟨[],jjw,jmm,rfl,rfl⟩
 |.cons d (.cons f ir),_,_,_,_,C,p,q=>let ⟨_,h1,h2,h3,h4⟩:=sD ir C p (ba q).2;⟨_,jhM (sE d C (ba (ba q).1).1).1 (sE f C (ba (ba q).1).2).1 h1,jka h2,h3,congrArg (·+ 1) h4⟩
 |.cons _ .nil,_,_,_,_,_,_,q=>nomatch q
theorem sI:∀(ir:It) (t:Tg) (ct:Ctx) (ht:Expr) {X:Cx} {c:Ctx} {h:Expr},Cok T k X c->okI T c t ir h=true->PI X (unTg ct t ht) (unI T c ir h) (lI X (denI T.gs (jab T k) ir))/\∀x,Ya4 (unI T c ir h) X.env x=pure x
 |.e d,_,_,_,_,_,_,C,q=>⟨u_ie (sE d C q).1,jbr (jar d _) _⟩
 |.r1 d,_,_,_,_,_,_,C,q=>⟨u_r1 (C.gl (ba q).1).1 (C.blt _ (by decide)) (sE d C (ba q).2).1 (jas (jar d _) _ _),λ_=>rfl⟩
 |.r2 _ _,_,_,_,_,_,_,_,q=>nomatch q
 |.enum d,.t _,_,_,_,_,_,C,q=>⟨jkV (C.gl (ba (ba q).1).2).1 (C.blt _ (by decide)) (sE d C (ba q).2).1 (jas (jar d _) _ _),λ_=>rfl⟩
 |.enum _,.n _,_,_,_,_,_,_,q=>nomatch q
 |.dk _,_,_,_,_,_,_,_,q=>nomatch q
 |.s d,_,_,_,_,_,_,C,q=>⟨u_is (sE d C q).1,jbr (jar d _) _⟩
 |.dv d,_,_,_,_,_,_,C,q=>⟨u_dv (sE d C (ba (ba q).1).1).1 (jeb (ba q).2 _ _ _) (ba (ba q).1).2,λ_=>rfl⟩
 |.di d,.t _,_,_,_,_,_,C,q=>⟨u_di (sE d C (ba (ba (ba q).1).1).2).1 (jeb (ba q).2 _ _ _) (ba (ba q).1).2,λ_=>rfl⟩
 |.di _,.n _,_,_,_,_,_,_,q=>nomatch q
 |.zp a b,.t _,_,_,_,_,_,C,q=>⟨s_zp C (ba (ba (ba q).1).1).2 (sE a C (ba (ba q).1).2) (sE b C (ba q).2),λ_=>rfl⟩
 |.zp _ _,.n _,_,_,_,_,_,_,q=>nomatch q
end
end
section
variable {c:Ctx}{env:Env}
noncomputable def swF (sb:Bool)(names:List Str)(bk:ScopeKind)(ts vs:List Expr):Sem (Option (List Str)):=
 if (!(ts.length==2||ts.length==3)||vs.length != ts.length||bk != .function)=true then pure none
 else if sb=true then pure none
 else if (names.length != ts.length||names.eraseDups.length != names.length)=true then pure none
 else if vs.all (Ye9 8)=true then pure none
 else if vs.all (constantsAlone 8)=true then do unsupported "assign.tuple-of-constant-expressions:order-of-the-stores";pure (some names)
 else pure (some names)
noncomputable def jdR (env:Env)(ts:List Expr):List Str:=ts.filterMap fun
  |.Name id pos=>if env.kindOf id==some .local&&pos.line==jiw ts then some id else none
  |_=>none
theorem jk6 {ts vs:List Expr}{a b:Nat}{p q:Pos}:Ya9 [.Tuple ts a p] (.Tuple vs b q) env=swF (vs.any jfx) (jdR env ts) env.blockKind ts vs:=by
 have e1:jfx=fun|.Starred ..=>true|_=>false:=by funext e;cases e<;>rfl
 with_unfolding_all rfl
theorem jfp (hk:∀x,env.kindOf x=c.sc.lookup x)(ts:List Expr):jdR env ts=jal c ts:=by
 unfold jal jdR;congr 1;funext e;cases e<;>first|rfl|(dsimp only;rw[hk])
theorem jef (hk:∀x,env.kindOf x=c.sc.lookup x)(hb:env.blockKind=.function){ts vs:List Expr}{a b:Nat}{p q:Pos}(h:jcf c ts vs=true):Ya9 [.Tuple ts a p] (.Tuple vs b q) env=pure none:=by
 rw[jk6,jfp hk,hb];unfold swF;unfold jcf at h;by_cases h1:(!(ts.length==2||ts.length==3)||vs.length != ts.length)=true
 ·rw[if_pos (by rw[h1];rfl)]
 ·have h1':(!(ts.length==2||ts.length==3)||vs.length != ts.length)=false:=by simpa using h1
  rw[h1']at h;rw[if_neg (by rw[h1'];decide)]
  simp only[Yeu,Yaz,Ydt]at h;obtain⟨h2,h3⟩:=h;rw[if_neg (by rw[h2];decide)]
  by_cases h4:((jal c ts).length != ts.length||(jal c ts).eraseDups.length != (jal c ts).length)=true
  ·rw[if_pos h4]
  ·rw[if_neg h4];have h4':((jal c ts).length != ts.length||(jal c ts).eraseDups.length != (jal c ts).length)=false:=by simpa using h4
   rw[h4']at h3;rw[if_pos (by simpa using h3)]
theorem jgk (hk:∀x,env.kindOf x=c.sc.lookup x)(hb:env.blockKind=.function){ts vs:List Expr}{a b:Nat}{p q:Pos}(h:swapped c ts vs=true):Ya9 [.Tuple ts a p] (.Tuple vs b q) env=pure (some (jal c ts)):=by
 rw[jk6,jfp hk,hb];unfold swF;unfold swapped at h;simp only[Yaz,Ydt]at h;obtain⟨⟨⟨⟨⟨⟨h1,h2⟩,h3⟩,h4⟩,h5⟩,h6⟩,h7⟩:=h;have e1:(!(ts.length==2||ts.length==3)||vs.length != ts.length||(Yeo != Yeo))=false:=by
  have:(vs.length != ts.length)=false:=by simpa using h2
  rw[h1,this];rfl
 rw[if_neg (by rw[e1];decide),if_neg (by rw[h3];decide)]
 have e2:((jal c ts).length != ts.length||(jal c ts).eraseDups.length != (jal c ts).length)=false:=by
  have z1:((jal c ts).length != ts.length)=false:=by simpa using h4
  have z2:((jal c ts).eraseDups.length != (jal c ts).length)=false:=by simpa using h5
  rw[z1,z2];rfl
 rw[if_neg (by rw[e2];decide),if_neg (by rw[h6];decide),if_neg (by rw[h7];decide)]
theorem jhy (hk:∀x,env.kindOf x=c.sc.lookup x)(hb:env.blockKind=.function){elt:Expr}{gs:List YbI}{s:Scope}{p py:Pos}{y:Str}{l:Nat}(h:lcSw c y py p s=true) :
  YcX (.ListComp elt gs s p) (some (.Name y py)) l env=pure true:=by
 unfold lcSw at h;simp only[Yaz]at h;unfold YcX;dsimp only;show(pure (env.blockKind == .function&&env.kindOf y==some .local&&py.line==p.line && !(s.names.any λ(n,k)=>n==y&&(k == .local||k == .cell))):Sem Bool)=pure true;rw[hb,hk,h.1.1,h.1.2,h.2];rfl
theorem jfo (hk:∀x,env.kindOf x=c.sc.lookup x){elt:Expr}{gs:List YbI}{s:Scope}{p py:Pos}{y:Str}{l:Nat}(h:(c.sc.lookup y==some .local)=false) :
  Ybl [.Name y py] (.ListComp elt gs s p) l env=pure false:=by
 show(pure (env.blockKind == .function&&env.kindOf y==some .local&&py.line==p.line && !(s.names.any λ(n,k)=>n==y&&(k == .local||k == .cell))):Sem Bool)=pure false;rw[hk,h];simp
end
section
variable {T:Tab}{k:Nat}
theorem Cos.kindOf {X:Cx}{c:Ctx}(C:Cos T k X c):∀x,X.env.kindOf x=c.sc.lookup x:=λx=>by
 unfold Env.kindOf;rw[C.sc]
theorem Cos.block {X:Cx}{c:Ctx}(C:Cos T k X c):X.env.blockKind=.function:=by
 unfold Env.blockKind;rw[C.kind];rfl
theorem jiD {c:Ctx}:∀(is:List Nat) (hs:List Expr),(unNs c is hs).length=is.length
 |[],_=>rfl
 |_::is,hs=>congrArg (·+ 1) (jiD is hs.tail)
theorem sw2 {c:Ctx}{x y:Str}{p q:Pos}(h:(jal c [.Name x p,.Name y q]).length=2):jal c [.Name x p,.Name y q]=[x,y]:=by
 unfold jal at h ⊢;simp only[YbX,List.filterMap_nil]at h ⊢;split at h<;>split at h<;>simp_all
section
variable {X:Cx}{c:Ctx}
theorem jk9 {t:Tg}{d:E}{h:Stmt}(C:Cos T k X c)(q:okS T c (.asg t d) h=true)(hs:PE X (unE T c d (q0 h)) (lE X (den T.gs (jab T k) d).1)):PS X (unS T c (.asg t d) h) (lS X (denS T.gs (jab T k) (.asg t d))):=by
 have hg:=sTg C.toCok t (q1 h) (ba (ba q).1).2;have q3:=(ba q).2;have fin:Ybl [unTg c t (q1 h)] (unE T c d (q0 h)) h.pos.line X.env=pure false/\Ya9 [unTg c t (q1 h)] (unE T c d (q0 h)) X.env=pure none:=by
  cases t with
  |n i=>
   refine⟨?_,jnw d _ _ _ _⟩;by_cases hl:isLc d=true
   ·cases d with
    |lc=>exact jfo C.kindOf (bn q3)
    |lc2=>exact jfo C.kindOf (bn q3)
    |_=>cases hl
   ·exact jiZ (by simpa using hl) _ _ _ _
  |t ts=>
   cases d with
   |lc=>cases q3
   |lc2=>cases q3
   |tup es=>exact⟨rfl,jef C.kindOf C.block q3⟩
   |_=>exact⟨rfl,rfl⟩
 exact s_asg hs hg fin.1 fin.2 (jgc t _ _)
theorem jk7 {ts:Tgs}{d:E}{h:Stmt}(C:Cos T k X c)(q:okS T c (.unp ts d) h=true)(hs:PE X (unE T c d (q0 h)) (lE X (den T.gs (jab T k) d).1)):PS X (unS T c (.unp ts d) h) (lS X (denS T.gs (jab T k) (.unp ts d))):=by
 have hg:=sTgs C.toCok ts (cl (q1 h)) (ba (ba q).1).2;have q3:=(ba q).2;have fin:Ybl [unTg c (.t ts) (q1 h)] (unE T c d (q0 h)) h.pos.line X.env=pure false/\Ya9 [unTg c (.t ts) (q1 h)] (unE T c d (q0 h)) X.env=pure none:=by
  cases d with
  |lc=>cases q3
  |lc2=>cases q3
  |tup es=>exact⟨rfl,jef C.kindOf C.block q3⟩
  |_=>exact⟨rfl,rfl⟩
 exact s_unp C.calm hs hg (jcS ts _ X.env).1 (jcS ts _ X.env).2 (λus ς k q=>jeP q) fin.1 fin.2 (jgc (.t ts) (q1 h) _)
theorem jk8 {is:List Nat}{es:Es}{h:Stmt}(C:Cos T k X c)(q:okS T c (.par is es) h=true)(ha:PA X (unEs T c es (cl (q0 h))) (lA X (jaE T.gs (jab T k) es))):PS X (unS T c (.par is es) h) (lS X (denS T.gs (jab T k) (.par is es))):=by
 have h3:=(ba (ba q).1).2;have h2:=(ba (ba (ba q).1).1).2;have hsw:=jgk (a:=kk (q1 h)) (b:=kk (q0 h)) (p:=(q1 h).pos) (q:=(q0 h).pos) C.kindOf C.block h3;unfold swapped at h3;simp only[Yaz,Yci,beq_iff_eq]at h3;obtain⟨⟨⟨⟨⟨⟨_,l2⟩,_⟩,l4⟩,_⟩,_⟩,_⟩:=h3;rw[jgb,jiD]at l2;have l1:is.length=2:=of_decide_eq_true (ba q).2;have nd:X.N.Nodup:=by rw[C.hN];exact C.nd
 match is,es,l1,l2,l4,hsw,h2,ha with
 |[i,j],.cons a (.cons b .nil),_,_,l4,hsw,h2,ha=>
  have u1:=ba h2;have u2:=ba u1.2;refine s_par2 C.calm nd (C.nm (ba (ba u1.1).1).1) (C.nm (ba (ba u2.1).1).1) (by intro z;subst z;have:=(ba u1.1).2;simp at this) (C.loc _ (ba (ba u1.1).1).2) (C.loc _ (ba (ba u2.1).1).2) ha ?_ rfl
  rw[<- sw2 l4];exact hsw
 |[],_,l1,_,_,_,_,_=>exact absurd l1 (by simp)
 |[_],_,l1,_,_,_,_,_=>exact absurd l1 (by simp)
 |_::_::_::_,_,l1,_,_,_,_,_=>exact absurd l1 (by simp)
 |[_,_],.nil,_,l2,_,_,_,_=>exact absurd l2 (by simp[jb1])
 |[_,_],.cons _ .nil,_,l2,_,_,_,_=>exact absurd l2 (by simp[jb1])
 |[_,_],.cons _ (.cons _ (.cons _ _)),_,l2,_,_,_,_=>exact absurd l2 (by simp[jb1])
theorem jje {i:Nat}{d:E}{h:Stmt}(C:Cos T k X c)(q:okS T c (.asgC i d) h=true):PS X (unS T c (.asgC i d) h) (lS X (denS T.gs (jab T k) (.asgC i d))):=by
 have qd:=(ba (ba (ba q).1).1);have hl:=(ba q).2;have hi:=C.nm (ba (ba q).1).2;have hy:=eq_of_beq (ba (ba hl).1).1;cases d with
 |lc pick t it ifs d=>
  have q1':=qd.2;have S:=C.toCok.comp (ba (ba (ba (ba (ba (ba q1').1).1).1).1).1).1;exact s_lc (by rw[C.hN];exact C.nd) hi (by rw[C.sc];exact hy) C.calm S.1 (sI it t _ _ C.toCok (ba (ba (ba (ba q1').1).1).1).2).1 (ba (ba (ba (ba (ba (ba q1').1).1).1).1).1).2
   (λcl A s₀ H₀ fp=>sTg (S.2 cl A s₀ H₀ fp) t _ (ba (ba (ba (ba (ba q1').1).1).1).1).2) (λcl A s₀ H₀ fp=>sC ifs (S.2 cl A s₀ H₀ fp) (of_decide_eq_true (ba (ba q1').1).2) (ba (ba (ba q1').1).1).2)
   (λcl A s₀ H₀ fp=>lE0.of (sE d (S.2 cl A s₀ H₀ fp) (ba q1').2).1) (jhy C.kindOf C.block hl) (ji0 it _ _)
 |lc2 pick t it ifs t2 it2 ifs2 d=>exact Bool.noConfusion (show false=true from qd.2)
 |_=>cases qd.1
end
mutual
theorem sS:∀(ir:S) {X:Cx} {c:Ctx} {h:Stmt},Cos T k X c->okS T c ir h=true->PS X (unS T c ir h) (lS X (denS T.gs (jab T k) ir))
 |.pass,_,_,_,_,q=>nomatch q
 |.expr d,_,_,_,C,q=>s_expr (sE d C.toCok (ba q).1).1 (ji1 (bn (ba q).2) _ _ _)
 |.asg _ d,_,_,_,C,q=>jk9 C q (sE d C.toCok (ba (ba q).1).1).1
 |.asgC _ _,_,_,_,C,q=>jje C q
 |.unp _ d,_,_,_,C,q=>jk7 C q (sE d C.toCok (ba (ba q).1).1).1
 |.setS o i d,_,_,_,C,q=>s_set C.toCok.hu (sE d C.toCok (ba (ba q).1).1).1 (sE o C.toCok (ba (ba q).1).2).1 (sE i C.toCok (ba q).2).1 (jip d _ _ _ _ _ _).1 (jip d _ _ _ _ _ 0).2 rfl (jic (jar i _) _ _)
 |.par _ es,_,_,_,C,q=>jk8 C q (sEs es C.toCok (ba (ba (ba q).1).1).1)
 |.aug _ _ d,_,_,_,C,q=>let s:=C.toCok.store (ba (ba q).1).2;s_aug (by rw[C.hN];exact C.nd) (C.nm (ba (ba q).1).1) s.1 s.2 (sE d C.toCok (ba q).2).1
 |.augS _ _ _ _,_,_,_,_,q=>nomatch q
 |.ite t a b,_,_,_,C,q=>s_if (sE t C.toCok (ba (ba q).1).1).2 (sSs a C (ba (ba q).1).2) (sSs b C (ba q).2)
 |.fr t it b,_,_,_,C,q=>s_for C.po C.calm (sI it t _ _ C.toCok (ba (ba q).1).2).1 (sTg C.toCok t _ (ba (ba q).1).1) (sSs b C (ba q).2) (sI it t ⟨[],[]⟩ e0 C.toCok (ba (ba q).1).2).2
 |.wh t b,_,_,_,C,q=>s_wh C.po (sE t C.toCok (ba q).1).2 (sSs b C (ba q).2)
 |.ret d,_,_,_,C,q=>s_ret (sE d C.toCok q).1
 |.retN,_,_,_,_,q=>nomatch q
 |.never,_,_,_,_,_=>λ_ _ _ _ _ _ ⟨_,_,_,_,_,q,_⟩=>(show False from q).elim
 |.raise _ _,_,_,_,_,q=>nomatch q
 |.tr _ _ _ _,_,_,_,_,q=>nomatch q
theorem sSs:∀(ir:Ss) {X:Cx} {c:Ctx} {hs:List Stmt},Cos T k X c->okSs T c ir hs=true->PSs X (unSs T c ir hs) (lS X (jaB T.gs (jab T k) ir))
 |.nil,_,_,_,_,_=>s_nil
 |.cons s r,_,_,_,C,q=>s_cons (t:=denS T.gs (jab T k) s) (u:=jaB T.gs (jab T k) r) (sS s C (ba q).1) (sSs r C (ba q).2)
end
end
theorem jiP {T:Tab}{n:Nat}{d:Fun}(h:T.funs[n]?=some d):(T.funs++T.vf)[n]?=some d:=by
 rw[Ybc (List.getElem?_eq_some_iff.mp h).1];exact h
theorem jhm {T:Tab}{k n:Nat}{d:Fun}(hd:(T.funs++T.vf)[n]?=some d){us:List U}{G:Gp}{Q:K1}{E:KX}(h:jab T (k+1) n us G Q E) :
  us.length=d.ps.length/\jaB T.gs (jab T k) d.body ⟨λ_ G'=>Q .non G',Q,λx _ G'=>E x G'⟩ (jaj d.N.length us) G:=by
 have h':(match (T.funs++T.vf)[n]? with|some d=>us.length=d.ps.length/\jaB T.gs (jab T k) d.body ⟨λ_ G'=>Q .non G',Q,λx _ G'=>E x G'⟩ (jaj d.N.length us) G|none=>False):=h
 rw[hd]at h';exact h'
theorem jlu {X:Cx}{a b:List Stmt}{t:L2.TS}(e:a=b)(h:PSs X a t):PSs X b t:=e ▸ h
theorem jgl {K:Yac}{H:Hp}{N:List Str}{us:List U}{vs:List V}(r:RUs K H us vs):SR K H (jaj N.length us) (L2.start N vs):=by
 unfold jaj L2.start;refine⟨by simp[r.length],λi u e=>?_⟩
 by_cases hi:i<us.length
 ·rw[Ybc (by simpa using hi),Yal]at e
  cases q:us[i]? with
  |none=>rw[q]at e;cases e
  |some w=>
   rw[q]at e;have:w=u:=by simpa using e
   subst this;obtain⟨v,ev,rv⟩:=r.get q;have hv:i<vs.length:=by rw[<- r.length];exact hi
   exact⟨v,by rw[Ybc (by simpa using hv),Yal,ev];rfl,rv⟩
 ·rw[Ycl (by simpa using hi),YcO]at e
  split at e<;>cases e
structure PF (T:Tab)(P:Program)(w:World)(K:Yac)(mg:Str->Option Value)(base:Heap)(k:Nat):Prop where
 blt:∀x∈jb8,mg x=none
 fns:∀(n:Nat) (d:Fun),T.funs[n]?=some d->FnU P w K mg base k d (jab T k n)
 gls:∀(n:Nat) (x:Str) (u:U),T.gn[n]?=some x->T.gs[n]?=some u->∃v w,mg x=some w/\RelV v w/\∀H,RU K H u v
 cls:∀n∈T.cs,1<=n->∃C,XCls K (gK K) (clsN n) (clsF n) C
 mgK:∀x v,gK K x=some v->mg x=some v
noncomputable def scB (N ps:List Str)(sc:Scope):Bool:=
 decide (sc.kind=.function) && !sc.isCoroutine && !sc.isGenerator&&decide N.Nodup&&(N.take ps.length==ps)&&ps.all (λx=>sc.names.lookup x==some .local||sc.names.lookup x==some .cell)&&sc.names.all (λy=>y.2 != .free)
theorem jli {N ps:List Str}{sc:Scope}(h:scB N ps sc=true):FnScope N ps sc:=by
 unfold scB at h;simp only[Yaz,decide_eq_true_eq,Ydt]at h;obtain⟨⟨⟨⟨⟨⟨h1,h2⟩,h3⟩,h4⟩,h5⟩,h6⟩,h7⟩:=h;refine⟨h1,h2,h3,h4,eq_of_beq h5,λx hx=>?_,λy hy=>?_⟩
 ·have:=List.all_eq_true.mp h6 x hx;simpa using this
 ·simpa using List.all_eq_true.mp h7 y hy
noncomputable def jdU (T:Tab):Nat->List Fun->List Stmt->Bool
 |_,[],[]=>true
 |i,d::ds,st::sts=>scB d.N d.ps (jag st)&&((T.ns.lookup i).isSome||okSs T ⟨d.N,(jag st).names⟩ d.body (jaq st))&&jdU T (i+1) ds sts
 |_,_,_=>false
def jej (T:Tab)(all:List Stmt):Nat->List Fun->List Stmt->Prop
 |_,[],_=>True
 |i,d::ds,st::sts=>(match T.ns.lookup i with
  |none=>unSs T ⟨d.N,(jag st).names⟩ d.body (jaq st)=jaq st
  |some _=>False)/\jej T all (i+1) ds sts
 |_,_::_,[]=>False
theorem jcV {T:Tab}{all:List Stmt}:∀{i:Nat} {ds:List Fun} {sts:List Stmt},jdU T i ds sts=true->jej T all i ds sts->∀{n:Nat} {d:Fun},ds[n]?=some d->∃st,sts[n]?=some st/\scB d.N d.ps (jag st)=true/\(match T.ns.lookup (i+n)with
  |none=>okSs T ⟨d.N,(jag st).names⟩ d.body (jaq st)=true/\unSs T ⟨d.N,(jag st).names⟩ d.body (jaq st)=jaq st
  |some _=>False)
 |_,[],_,_,_,_,_,e=>by simp at e
 |_,_::_,[],h,_,_,_,_=>by unfold jdU at h;cases h
 |i,d::ds,st::sts,h,g,n,d',e=>by
  unfold jdU at h;unfold jej at g;simp only[Yaz]at h;cases n with
  |zero=>
   simp at e;subst e;refine⟨st,rfl,h.1.1,?_⟩;have g1:=g.1;have h1:=h.1.2;rw[Nat.add_zero];cases q:T.ns.lookup i with
   |none=>rw[q]at g1 h1;exact⟨by simpa using h1,g1⟩
   |some z=>rw[q]at g1;exact g1
  |succ n=>
   obtain⟨st',e',q⟩:=jcV h.2 g.2 (n:=n) (by simpa using e)
   rw[show i+1+n=i+(n+1) by omega]at q
   exact⟨st',by simpa using e',q⟩
noncomputable def jfc (K:Yac)(v:Value)(P:Addr):Bool:=match v with
 |.ref c=>(match K.lookup c with
  |some ⟨.type t,_,.fields vs,_⟩=>t == "code" && (match (vs[11]?:Option Value)with|some (.ref Q)=>Q==P|_=>false)&&(match vs.getD 18 .none with|.str _ _=>true|_=>false)&&(match vs.getD 7 .none with|.int _ _=>true|_=>false)
   && (match vs.getD 9 .none with|.bool _=>true|_=>false)&&(match vs.getD 10 .none with|.int _ _=>true|_=>false)&&c != P
  |_=>false)
 |_=>false
section
variable {T:Tab}{P:Program}{w:World}{K:Yac}{mg:Str->Option Value}{base:Heap}
theorem jf9 {j n:Nat}{f:Addr}{fd:Ybm}{ps:List Str}{t:List U->Gp->K1->KX->Prop}(hz:∀us G Q E,¬t us G Q E):FnOk P w K mg base (CX1 P w) j f fd ps (lSp K t):=
 ⟨λvs H Q E ⟨_,_,_,_,_,_,h,_⟩=>(hz _ _ _ _ h).elim,λA outer s H args us vs Q E _ _ _ _ ⟨_,_,_,_,_,_,h,_⟩=>(hz _ _ _ _ h).elim⟩
theorem jfr {k n:Nat}{d:Fun}{st:Stmt}{f:Addr}{fd:Ybm}(F:L2.Fun K d.name d.name st f fd)(h1:scB d.N d.ps (jag st)=true)(h2:okSs T ⟨d.N,(jag st).names⟩ d.body (jaq st)=true)(h3:unSs T ⟨d.N,(jag st).names⟩ d.body (jaq st)=jaq st)
  (pf:PF T P w K mg base k) (hd:T.funs[n]?=some d):FnOk P w K mg base (CX1 P w) (k+3) f fd d.ps (lSp K (jab T (k+1) n)):=by
 have S:=jli h1;refine F.okX S (λvs H Q E ⟨us,G,Q',E',r,hG,h,lv,lx⟩=>by rw[<- r.length];exact(jhm (jiP hd) h).1) λcdv A outer s H vs Q E hr hsp=>?_
 obtain⟨us,G,Q',E',r,hG,h,lv,lx⟩:=hsp;obtain⟨hl,h⟩:=jhm (jiP hd) h;refine⟨_,jlu h3 (sSs d.body (k:=k) (c:=⟨d.N,(jag st).names⟩) (hs:=jaq st) ⟨⟨rfl,S.nd,λx z=>eq_of_beq z,λx z=>⟨eq_of_beq z,rfl⟩,λx z=>.inr (eq_of_beq z),λx z=>eq_of_beq z,hr.mono (by omega),rfl,jof,pf.blt,pf.fns,pf.gls,hr,pf.cls,pf.mgK⟩,rfl,S.kind,rfl,rfl⟩ h2),?_⟩
 exact⟨_,_,G,jgl r,hG,h,⟨λς' σ' G' H' a b c q=>lv .non .non G' H' rfl b c q,λw v G' H' a b c q=>lv w v G' H' a b c q,λpins e s' x ς' σ' G' H' I sr xat hr' f q=>by obtain⟨ea,C0,dx,rfl,l,xd⟩:=xat;exact CX1.out1 I l (lx x G' H' C0 dx xd hr' f q)⟩⟩
abbrev Dyn (T:Tab)(K:Yac)(mg:Str->Option Value)(sts:List Stmt):Prop:=∀(n:Nat) (d:Fun) (st:Stmt),T.funs[n]?=some d->sts[n]?=some st->∃(f:Addr) (fd:Ybm),L2.Fun K d.name d.name st f fd/\mg d.name=some (.ref f)/\Binds K fd d.ps []/\∀z,T.ns.lookup n=some z->jfc K fd.code z.P=true
theorem jjv {sts:List Stmt}(hst:jdU T 0 T.funs sts=true)(heq:jej T sts 0 T.funs sts)(dyn:Dyn T K mg sts)(hU:∀t∈tabs,∀t'∈tabs,t.1=t'.1->t=t')(hKb:K.In base)(hB:BmAt mg base)
  (hb:∀x∈jb8,mg x=none) (hg:∀(n:Nat) (x:Str) (u:U),T.gn[n]?=some x->T.gs[n]?=some u->∃v w,mg x=some w/\RelV v w/\∀H,RU K H u v) (hc:∀n∈T.cs,1<=n->∃C,XCls K (gK K) (clsN n) (clsF n) C) (hm:∀x v,gK K x=some v->mg x=some v) :
  ∀(k:Nat),PF T P w K mg base k:=by
 intro k
 induction k using Nat.strongRecOn with
 |ind k ih=>
  refine⟨hb,λn d hd=>?_,hg,hc,hm⟩;obtain⟨st,e,h1,h2⟩:=jcV hst heq hd;obtain⟨f,fd,F,m,b,hz⟩:=dyn n d st hd e;refine⟨f,fd,?_,m,F.kp,b⟩;rw[Ycs]at h2;cases q:T.ns.lookup n with
  |none=>
   rw[q]at h2;obtain _|k:=k
   ·exact jf9 (n:=n) λ_ _ _ _ h=>h
   ·exact jfr F h1 h2.1 h2.2 (ih k (by omega)) hd
  |some z=>rw[q]at h2;exact h2.elim
noncomputable def G0 (a:Addr)(ns:List Int):Gp:=λb=>if b=a then some (.fro (ns.map .int)) else none
theorem jgY {H:Hp}:∀ns:List Int,RUs K H (ns.map .int) (ns.map V.int)
 |[]=>rfl
 |_::r=>⟨_,_,rfl,rfl,jgY r⟩
theorem law_sp {k n:Nat}{H:Hp}{o:Obj}{a:Addr}{ns:List Int}{tb:List Addr}(hT:∀t∈tabs,t.1∈tb)(hO:jin tb H)(fr:H a=some (.frz o (.lst (ns.map V.int))))(h:jab T k n [.loc a] (G0 a ns) (λu _=>u=.bl true) λ_ _=>False) :
  lSp K (jab T k n) [.ref a] H (λv _=>v=.bl true) λ_ _ _=>False:=by
 refine⟨[.loc a],G0 a ns,_,_,⟨_,_,rfl,rfl,rfl⟩,⟨λb mo e=>?_,λt ht=>.inl ?_⟩,h,λw v G' H' r _ _ q=>?_,λ_ _ _ _ _ _ _ _ z=>z.elim⟩
 ·unfold G0 at e;split at e
  ·rename_i z;subst z;cases e;exact⟨o,_,fr,jgY ns⟩
  ·cases e
 ·have:=hO t.1;rw[if_pos (hT t ht)]at this;exact this
 ·subst q;exact r
theorem jfR {sts:List Stmt}{k n:Nat}{d:Fun}{st:Stmt}{f:Addr}{fd:Ybm}(F:L2.Fun K d.name d.name st f fd)(hst:jdU T 0 T.funs sts=true)(heq:jej T sts 0 T.funs sts)(dyn:Dyn T K mg sts)(hU:∀t∈tabs,∀t'∈tabs,t.1=t'.1->t=t')(hKb:K.In base)(hB:BmAt mg base)
  (hb:∀x∈jb8,mg x=none) (hg:∀(n:Nat) (x:Str) (u:U),T.gn[n]?=some x->T.gs[n]?=some u->∃v w,mg x=some w/\RelV v w/\∀H,RU K H u v) (hc:∀n∈T.cs,1<=n->∃C,XCls K (gK K) (clsN n) (clsF n) C) (hm:∀x v,gK K x=some v->mg x=some v) (hd:T.funs[n]?=some d) (hs:sts[n]?=some st) (hn:T.ns.lookup n=none) :
  FnOk P w K mg base (CX1 P w) (k+2) f fd d.ps (lSp K (jab T k n)):=by
 cases k with
 |zero=>exact jf9 (n:=n) λ_ _ _ _ h=>h
 |succ k=>
  obtain⟨st',e,h1,h2⟩:=jcV hst heq hd;rw[hs]at e;cases e;rw[Ycs,hn]at h2;exact jfr F h1 h2.1 h2.2 (jjv hst heq dyn hU hKb hB hb hg hc hm k) hd
end
section
variable {K:Yac}
theorem joD {x:Str}{v:Value}(h:gK K x=some v):Yb7 K YaN x=some (some v):=by
 unfold gK at h;cases q:Yb7 K YaN x with
 |none=>rw[q]at h;cases h
 |some o=>rw[q]at h;rw[show o=some v from h]
theorem jmf {h:Heap}{mg:Str->Option Value}(X:K.In h)(G:h.Ns YaN mg):∀x v,gK K x=some v->mg x=some v:=λ_ _ e=>Ycu X G (joD e)
end
theorem ja2 {G:Gp}{a:Addr}{o u:MO}:gup (gup G a o) a u=gup G a u:=by funext b;unfold gup;split<;>rfl
def Sm (f:Addr)(G G':Gp):Prop:=∀b o,b≠f->G b=some o->G' b=some o
def Sa (G G':Gp):Prop:=∀b o,G b=some o->G' b=some o
theorem Sm.refl {f:Addr}{G:Gp}:Sm f G G:=λ_ _ _ h=>h
theorem Sa.refl {G:Gp}:Sa G G:=λ_ _ h=>h
theorem Sm.trans {f:Addr}{G G1 G2:Gp}(a:Sm f G G1)(b:Sm f G1 G2):Sm f G G2:=λc o n h=>b c o n (a c o n h)
theorem Sa.trans {G G1 G2:Gp}(a:Sa G G1)(b:Sa G1 G2):Sa G G2:=λc o h=>b c o (a c o h)
theorem Sa.sm {f:Addr}{G G':Gp}(a:Sa G G'):Sm f G G':=λc o _ h=>a c o h
theorem Sa.new {G:Gp}{p:Addr}{o:MO}(h:G p=none):Sa G (gup G p o):=λc u e=>by
 rw[jbf (λz=>by rw[z,h]at e;cases e)];exact e
theorem Sm.put {G:Gp}{f:Addr}{o:MO}:Sm f G (gup G f o):=λc u n e=>by rw[jbf n];exact e
theorem ja1 {G:Gp}{a p:Addr}{o:MO}(h:G a=some o)(hp:G p=none):p≠a:=λz=>by rw[z,h]at hp;cases hp
section
variable {G G':Gp}{p:Addr}{o:MO}
theorem New.at (n:New G p o G'):G' p=some o:=by rw[n.eq];exact jac
theorem New.sa (n:New G p o G'):Sa G G':=by rw[n.eq];exact Sa.new n.no
theorem Put.at (n:Put G p o G'):G' p=some o:=by rw[n.eq];exact jac
theorem Put.sm (n:Put G p o G'):Sm p G G':=by rw[n.eq];exact Sm.put
end
mutual
noncomputable def pd:U->PyData
 |.non=>.none
 |.bl b=>.bool b
 |.int i=>.int i
 |.str x=>.str x
 |.tup us=>.tuple (pds us)
 |.loc _=>.none
 |.fn _=>.none
 |.ty _=>.none
 |.exc _ _=>.none
 |.own _=>.none
 |.clo _ _=>.none
noncomputable def pds:List U->List PyData
 |[]=>[]
 |u::us=>pd u::pds us
end
mutual
noncomputable def bare:U->Bool
 |.non=>true
 |.bl _=>true
 |.int _=>true
 |.str _=>true
 |.tup us=>bares us
 |.loc _=>false
 |.fn _=>false
 |.ty _=>false
 |.exc _ _=>false
 |.own _=>false
 |.clo _ _=>false
noncomputable def bares:List U->Bool
 |[]=>true
 |u::us=>bare u&&bares us
end
mutual
theorem jmN {G:Gp}:∀{u:U},bare u=true->DU G u (pd u)
 |.non,_=>.non
 |.bl b,_=>.bl b
 |.int i,_=>.int i
 |.str x,_=>.str x
 |.tup _,h=>.tup (jiU h)
 |.loc _,h=>nomatch h
 |.fn _,h=>nomatch h
 |.ty _,h=>nomatch h
 |.exc _ _,h=>nomatch h
 |.own _,h=>nomatch h
 |.clo _ _,h=>nomatch h
theorem jiU {G:Gp}:∀{us:List U},bares us=true->DUs G us (pds us)
 |[],_=>.nil
 |_::_,h=>.cons (jmN (ba h).1) (jiU (ba h).2)
end
theorem jfJ:∀{us:List U},(∀u∈us,bare u=true)->bares us=true
 |[],_=>rfl
 |u::us,h=>by
  show(bare u&&bares us)=true;rw[h u Yaw,jfJ λv hv=>h v (Yaj _ hv)];rfl
theorem jiy:∀us:List U,pds us=us.map pd
 |[]=>rfl
 |u::us=>by
  show pd u::pds us=_;rw[jiy us];rfl
theorem jlm {G:Gp}{u:U}{Q:K1}(h:bare u=true)(f:Fits 16000000 60 (pd u))(q:Q (.str (pd u).shown) G):jeT [u] G Q:=⟨pd u,jmN h,f,q⟩
structure Sml (n:Nat)(u:U):Prop where
 b:bare u=true
 l:(pd u).canLay0=true
 d:(pd u).depth<=n
structure Ft (n k:Nat)(u:U):Prop where
 b:bare u=true
 f:Fits n k (pd u)
theorem Ft.mono {n n' k k':Nat}{u:U}(h:Ft n k u)(h1:n<=n')(h2:k<=k'):Ft n' k' u:=⟨h.b,h.f.mono h1 h2⟩
theorem Ft.int {i:Int}(h:i.natAbs<2 ^ 1000):Ft 1921 0 (.int i):=⟨rfl,Fits.int h⟩
theorem Ft.str {x:Str}{m:Nat}(h:x.length<=m)(hc:∀c∈x.cps.toList,c<128):Ft (10*m+2) 0 (.str x):=⟨rfl,Fits.str h λc hc'=>YdD (hc c hc') (by decide)⟩
theorem Ft.tup {n k m N:Nat}{us:List U}(hl:us.length<=m)(h:∀u∈us,Ft n k u)(hN:m*(n+2)+3<=N):Ft N (k+1) (.tup us):=by
 refine⟨jfJ λu hu=>(h u hu).b,?_⟩;show Fits N (k+1) (.tuple (pds us));rw[jiy];refine Fits.tupLe (m:=m) (n:=n) (by rw[Yaa];exact hl) (λd hd=>?_) hN
 obtain⟨u,hu,rfl⟩:=List.mem_map.mp hd;exact(h u hu).f
theorem jgs {G:Gp}{n k:Nat}{u:U}{Q:K1}(h:Ft n k u)(h1:n<=16000000)(h2:k<=60)(q:Q (.str (pd u).shown) G):jeT [u] G Q:=jlm h.b (h.f.mono h1 h2) q
section
variable {ok:Gp->Prop}
theorem jat {b:U->Sg->Gp->(Sg->Gp->Prop)->Prop}{k:Sg->Gp->Prop}:∀{xs:List U} (I:Nat->Sg->Gp->Prop) (_:∀ς G,I xs.length ς G->ok G/\k ς G)
  (_:∀i x ς G (K:Sg->Gp->Prop),xs[i]?=some x->I i ς G->(∀ς' G',I (i+1) ς' G'->K ς' G')->ok G/\b x ς G K) {ς:Sg} {G:Gp} (_:I 0 ς G),forL ok b xs ς G k
 |[],_,h0,_,_,_,h=>h0 _ _ h
 |x::_,I,h0,h1,_,_,h=>h1 0 x _ _ _ rfl h λ_ _ h'=>jat (λi=>I (i+1)) h0 (λi y ς G K e hi hk=>h1 (i+1) y ς G K e hi hk) h'
theorem jau {b:U->Gp->(Option U->Gp->Prop)->Prop}{k:List U->Gp->Prop}:∀{xs:List U} (I:Nat->List U->Gp->Prop) (_:∀acc G,I xs.length acc G->ok G/\k acc G)
  (_:∀i x acc G (K:Option U->Gp->Prop),xs[i]?=some x->I i acc G->(∀u G',I (i+1) (acc++[u]) G'->K (some u) G')->(∀G',I (i+1) acc G'->K none G')->ok G/\b x G K) {acc:List U} {G:Gp} (_:I 0 acc G),jdn ok b xs acc G k
 |[],_,h0,_,_,_,h=>h0 _ _ h
 |x::_,I,h0,h1,_,_,h=>h1 0 x _ _ _ rfl h (λ_ _ h'=>jau (λi=>I (i+1)) h0 (λi y a G K e hi hk hn=>h1 (i+1) y a G K e hi hk hn) h') (λ_ h'=>jau (λi=>I (i+1)) h0 (λi y a G K e hi hk hn=>h1 (i+1) y a G K e hi hk hn) h')
theorem jaw {b:U->Gp->(Option U->Gp->Prop)->Prop}{k:List U->Gp->Prop}{G:Gp}(f:U->U)(hok:ok G):∀{xs:List U} (_:∀x∈xs,∀K:Option U->Gp->Prop,K (some (f x)) G->b x G K) {acc:List U} (_:k (acc++xs.map f) G),jdn ok b xs acc G k
 |[],_,acc,q=>⟨hok,by simpa using q⟩
 |x::xs,hb,acc,q=>⟨hok,hb x Yaw _ (jaw f hok (λy hy=>hb y (Yaj _ hy)) (by simpa using q))⟩
end
theorem jaA (i:Int)(n:Nat):(rngU i n).length=n:=by unfold rngU;simp
theorem jbG {n i:Nat}{x:U}(h:(rngU 0 n)[i]?=some x):i<n/\x=.int i:=by
 unfold rngU at h;rw[Yal]at h;by_cases hi:i<n
 ·rw[Ye0 hi]at h;exact⟨hi,by simpa using h.symm⟩
 ·rw[Ybo (by simpa using hi)]at h
  cases h
theorem jbu {α β:Type}(f:α->β)(l:List α)(i:Int):atI (l.map f) i=(atI l i).map f:=by
 unfold atI;rw[Yaa];cases ixN l.length i with
 |none=>rfl
 |some j=>simp
theorem jci {α:Type}(a:α)(l:List α):atI (a::l) 0=some a:=jdj (xs:=a::l) (j:=0) rfl
theorem jaN {α:Type}(a b:α)(l:List α):atI (a::b::l) 1=some b:=jdj (xs:=a::b::l) (j:=1) rfl
theorem jeL {α:Type}{l:List α}{r:Int}(h0:0<=r)(h1:r<l.length):∃x,x∈l/\atI l r=some x:=by
 obtain⟨j,rfl⟩:=YaD h0;have hj:j<l.length:=by omega
 exact⟨l[j],YbW hj,jdj (Yae hj)⟩
noncomputable def fdU (c:Addr)(a l t:Int):List (Key×U):=[(.inr "cells",.loc c),(.inr "at",.int a),(.inr "left",.int l),(.inr "turn",.int t)]
structure Fd (G:Gp)(f c:Addr):Prop where
 ex:∃(ns:List Int) (a l t:Int),G f=some (.dK (fdU c a l t))/\G c=some (.lst (ns.map .int))/\ns≠[]
section
theorem k_ca:¬((Sum.inr ("cells" : Str):Key)=Sum.inr ("at" : Str)):=by decide +kernel
theorem k_cl:¬((Sum.inr ("cells" : Str):Key)=Sum.inr ("left" : Str)):=by decide +kernel
theorem k_ct:¬((Sum.inr ("cells" : Str):Key)=Sum.inr ("turn" : Str)):=by decide +kernel
theorem k_al:¬((Sum.inr ("at" : Str):Key)=Sum.inr ("left" : Str)):=by decide +kernel
theorem k_at:¬((Sum.inr ("at" : Str):Key)=Sum.inr ("turn" : Str)):=by decide +kernel
theorem k_lt:¬((Sum.inr ("left" : Str):Key)=Sum.inr ("turn" : Str)):=by decide +kernel
variable {c:Addr}{a l t:Int}
theorem jku:dGet (fdU c a l t) (.inr "cells")=some (.loc c):=by simp[dGet,fdU]
theorem g_at:dGet (fdU c a l t) (.inr "at")=some (.int a):=by simp[dGet,fdU,k_ca,-YbY]
theorem jmE:dGet (fdU c a l t) (.inr "left")=some (.int l):=by simp[dGet,fdU,k_cl,k_al,-YbY]
theorem jiM:dGet (fdU c a l t) (.inr "turn")=some (.int t):=by simp[dGet,fdU,k_ct,k_at,k_lt,-YbY]
theorem jiA (x:Int):dPut (fdU c a l t) (.inr "turn") (.int x)=fdU c a l x:=by simp[dPut,fdU,k_ct,k_at,k_lt,-YbY]
theorem p_at (x:Int):dPut (fdU c a l t) (.inr "at") (.int x)=fdU c x l t:=by simp[dPut,fdU,k_ca,Ne.symm k_al,Ne.symm k_at,-YbY]
theorem jlQ (x:Int):dPut (fdU c a l t) (.inr "left") (.int x)=fdU c a x t:=by simp[dPut,fdU,k_cl,k_al,Ne.symm k_lt,-YbY]
theorem jmh {p:Addr}:jdh [((Sum.inr ("cells" : Str):Key),U.loc p),(.inr "at",.int 0),(.inr "left",.int 0),(.inr "turn",.int 0)]=fdU p 0 0 0:=by
 simp[jdh,dPut,fdU,k_ca,k_cl,k_ct,k_al,k_at,k_lt,-YbY]
theorem jfF:(fdU c a l t).length<Yai:=by show 4<Yai;decide
section
variable {G G':Gp}
theorem Fd.put {f c:Addr}{ns:List Int}{kvs:List (Key×U)}{a l t:Int}(p:Put G f (.dK (fdU c a l t)) G')(h:G f=some (.dK kvs))(hc:G c=some (.lst (ns.map .int)))(hn:ns≠[]):Fd G' f c:=
 ⟨ns,a,l,t,p.at,p.sm _ _ (λz=>by rw[z,h]at hc;cases hc) hc,hn⟩
theorem Fd.sa {f c:Addr}(h:Fd G f c)(s:Sa G G'):Fd G' f c:=let ⟨ns,a,l,t,h1,h2,h3⟩:=h.ex;⟨ns,a,l,t,s _ _ h1,s _ _ h2,h3⟩
theorem Fd.new {f c p:Addr}{o:MO}(h:Fd G f c)(n:New G p o G'):Fd G' f c:=h.sa n.sa
theorem Fd.away {f c p:Addr}{o:MO}(h:Fd G f c)(n:New G p o G'):p≠f/\p≠c:=by
 obtain⟨ns,a,l,t,h1,h2,_⟩:=h.ex;exact⟨ja1 h1 n.no,ja1 h2 n.no⟩
theorem Fd.off {f c p:Addr}{o:MO}(h:Fd G f c)(hp:p≠f/\p≠c)(w:Put G p o G'):Fd G' f c:=let ⟨ns,a,l,t,h1,h2,h3⟩:=h.ex;⟨ns,a,l,t,w.sm _ _ (Ne.symm hp.1) h1,w.sm _ _ (Ne.symm hp.2) h2,h3⟩
end
theorem Sm.wr {f p:Addr}{G G1 G2 G3:Gp}{o:MO}(s1:Sm f G G1)(n:G1 p=none)(s2:Sm f G G2)(w:Put G2 p o G3):Sm f G G3:=λb u hb e=>w.sm b u (λz=>by
 have:=s1 _ _ hb e;rw[z,n]at this;cases this) (s2 b u hb e)
theorem Sm.nw {f p:Addr}{G G1 G2:Gp}{o:MO}(s:Sm f G G1)(n:New G1 p o G2):Sm f G G2:=s.trans n.sa.sm
end
section
variable {gs:List U}{Δ:Cl}
theorem D_v {ς:Sg}{G:Gp}{Q:K1}{X:KX}(i:Nat):(den gs Δ (.v i)).1 ς G Q X=(slot ς i λu=>Q u G):=rfl
theorem T_v {ς:Sg}{G:Gp}{R:Bool->Gp->Prop}{X:KX}(i:Nat):(den gs Δ (.v i)).2 ς G R X=(den gs Δ (.v i)).1 ς G (λx G1=>truU x G1 λb=>R b G1) X:=rfl
theorem jpB {ς:Sg}{G:Gp}{Q:K1}{X:KX}: (den gs Δ (.non)).1 ς G Q X=(Q .non G):=rfl
theorem D_bl {ς:Sg}{G:Gp}{Q:K1}{X:KX}(b:Bool):(den gs Δ (.bl b)).1 ς G Q X=(Q (.bl b) G):=rfl
theorem jpJ {ς:Sg}{G:Gp}{Q:K1}{X:KX}(i:Int):(den gs Δ (.int i)).1 ς G Q X=(Q (.int i) G):=rfl
theorem jpy {ς:Sg}{G:Gp}{Q:K1}{X:KX}(x:Str):(den gs Δ (.str x)).1 ς G Q X=(Q (.str x) G):=rfl
theorem D_ty {ς:Sg}{G:Gp}{Q:K1}{X:KX}(n:String):(den gs Δ (.ty n)).1 ς G Q X=(Q (.ty n) G):=rfl
theorem T_ty {ς:Sg}{G:Gp}{R:Bool->Gp->Prop}{X:KX}(n:String):(den gs Δ (.ty n)).2 ς G R X=(den gs Δ (.ty n)).1 ς G (λx G1=>truU x G1 λb=>R b G1) X:=rfl
theorem jpP {ς:Sg}{G:Gp}{Q:K1}{X:KX}(o:YbP)(a b:E):(den gs Δ (.bin o a b)).1 ς G Q X=((den gs Δ a).1 ς G (λx G1=>(den gs Δ b).1 ς G1 (λy G2=>binU o x y G2 Q) X) X):=rfl
theorem jpe {ς:Sg}{G:Gp}{R:Bool->Gp->Prop}{X:KX}(o:YbP)(a b:E):(den gs Δ (.bin o a b)).2 ς G R X=(den gs Δ (.bin o a b)).1 ς G (λx G1=>truU x G1 λb=>R b G1) X:=rfl
theorem jpC {ς:Sg}{G:Gp}{Q:K1}{X:KX}(a:E):(den gs Δ (.neg a)).1 ς G Q X=((den gs Δ a).1 ς G (λx G1=>negU x G1 Q) X):=rfl
theorem jpN {ς:Sg}{G:Gp}{Q:K1}{X:KX}(o:CmpOp)(a b:E):(den gs Δ (.cmp o a b)).1 ς G Q X=((den gs Δ a).1 ς G (λx G1=>(den gs Δ b).1 ς G1 (λy G2=>cmpU o x y G2 λc=>Q (.bl c) G2) X) X):=rfl
theorem jpc {ς:Sg}{G:Gp}{R:Bool->Gp->Prop}{X:KX}(o:CmpOp)(a b:E):(den gs Δ (.cmp o a b)).2 ς G R X=(den gs Δ (.cmp o a b)).1 ς G (λx G1=>truU x G1 λb=>R b G1) X:=rfl
theorem jno {ς:Sg}{G:Gp}{Q:K1}{X:KX}(o p:CmpOp)(a b c:E):(den gs Δ (.cmp2 o p a b c)).1 ς G Q X=((den gs Δ a).1 ς G (λx G1=>(den gs Δ b).1 ς G1 (λy G2=>cmpU o x y G2 λt=>if t=true then (den gs Δ c).1 ς G2 (λz G3=>cmpU p y z G3 λt'=>Q (.bl t') G3) X else Q (.bl false) G2) X) X):=rfl
theorem jm8 {ς:Sg}{G:Gp}{R:Bool->Gp->Prop}{X:KX}(o p:CmpOp)(a b c:E):(den gs Δ (.cmp2 o p a b c)).2 ς G R X=(den gs Δ (.cmp2 o p a b c)).1 ς G (λx G1=>truU x G1 λb=>R b G1) X:=rfl
theorem jpx {ς:Sg}{G:Gp}{Q:K1}{X:KX}(es:Es):(den gs Δ (.tup es)).1 ς G Q X=(jaE gs Δ es ς G (λus G1=>us.length<=Yai/\Q (.tup us) G1) X):=rfl
theorem jpG {ς:Sg}{G:Gp}{Q:K1}{X:KX}(es:Es):(den gs Δ (.lst es)).1 ς G Q X=(jaE gs Δ es ς G (λus G1=>us.length<=Yai/\newO G1 (.lst us) Q) X):=rfl
theorem jpM {ς:Sg}{G:Gp}{Q:K1}{X:KX}(es:Es):(den gs Δ (.dic es)).1 ς G Q X=(denD gs Δ es ς G (λkvs G1=>kvs.length<=15/\newO G1 (.dK (jdh kvs)) Q) X):=rfl
theorem D_ix {ς:Sg}{G:Gp}{Q:K1}{X:KX}(a b:E):(den gs Δ (.ix a b)).1 ς G Q X=((den gs Δ a).1 ς G (λx G1=>(den gs Δ b).1 ς G1 (λy G2=>ixU x y G2 Q) X) X):=rfl
theorem T_ix {ς:Sg}{G:Gp}{R:Bool->Gp->Prop}{X:KX}(a b:E):(den gs Δ (.ix a b)).2 ς G R X=(den gs Δ (.ix a b)).1 ς G (λx G1=>truU x G1 λb=>R b G1) X:=rfl
theorem D_sl {ς:Sg}{G:Gp}{Q:K1}{X:KX}(a:E)(lo hi:Eo):(den gs Δ (.sl a lo hi)).1 ς G Q X=((den gs Δ a).1 ς G (λx G1=>denO gs Δ lo ς G1 (λl G2=>denO gs Δ hi ς G2 (λh G3=>slU x l h G3 Q) X) X) X):=rfl
theorem jpz {ς:Sg}{G:Gp}{Q:K1}{X:KX}(a b:E):(den gs Δ (.rev a b)).1 ς G Q X=((den gs Δ a).1 ς G (λx G1=>(den gs Δ b).1 ς G1 (λy G2=>revU x y G2 Q) X) X):=rfl
theorem jnp {ς:Sg}{G:Gp}{Q:K1}{X:KX}(n:Nat)(es:Es):(den gs Δ (.call n es)).1 ς G Q X=(jaE gs Δ es ς G (λus G1=>Δ n us G1 Q X) X):=rfl
theorem jm9 {ς:Sg}{G:Gp}{R:Bool->Gp->Prop}{X:KX}(n:Nat)(es:Es):(den gs Δ (.call n es)).2 ς G R X=(den gs Δ (.call n es)).1 ς G (λx G1=>truU x G1 λb=>R b G1) X:=rfl
theorem jpO {ς:Sg}{G:Gp}{Q:K1}{X:KX}(b:Blt)(es:Es):(den gs Δ (.blt b es)).1 ς G Q X=(jaE gs Δ es ς G (λus G1=>bltU b us G1 Q) X):=rfl
theorem jpd {ς:Sg}{G:Gp}{R:Bool->Gp->Prop}{X:KX}(b:Blt)(es:Es):(den gs Δ (.blt b es)).2 ς G R X=(den gs Δ (.blt b es)).1 ς G (λx G1=>truU x G1 λb=>R b G1) X:=rfl
theorem jnn {ς:Sg}{G:Gp}{Q:K1}{X:KX}(m:Mth)(o:E)(es:Es):(den gs Δ (.meth m o es)).1 ς G Q X=((den gs Δ o).1 ς G (λx G1=>match mtU m x G1 with|some _=>jaE gs Δ es ς G1 (λus G2=>jaO m x us G2 Q) X|none=>False) X):=rfl
theorem D_lc {ς:Sg}{G:Gp}{Q:K1}{X:KX}(pick:List (Option Nat))(t:Tg)(it:It)(ifs:Es)(e:E):(den gs Δ (.lc pick t it ifs e)).1 ς G Q X=(denI gs Δ it ς G (λxs ok G1=>xs.length<=Yai/\jdn ok (λx G2 k=>tgU t x (jbH pick ς) λτ=>denC gs Δ ifs τ G2 (λb G3=>if b=true then (den gs Δ e).1 τ G3 (λu G4=>k (some u) G4) (λ_ _=>False) else k none G3)) xs [] G1 λus G5=>newO G5 (.lst us) Q) X):=rfl
theorem jpI {ς:Sg}{G:Gp}{Q:K1}{X:KX}(pick:List (Option Nat))(t:Tg)(it:It)(ifs:Es)(t2:Tg)(it2:It)(ifs2:Es)(e:E):(den gs Δ (.lc2 pick t it ifs t2 it2 ifs2 e)).1 ς G Q X=(denI gs Δ it ς G (λxs ok G1=>jkJ ok (λx acc G2 k=>tgU t x (jbH pick ς) λτ=>denC gs Δ ifs τ G2 (λb G3=>if b=true then denI gs Δ it2 τ G3 (λys ok2 G4=>acc.length+ys.length<=Yai/\jdn ok2 (λy G5 k5=>tgU t2 y τ λτ'=>denC gs Δ ifs2 τ' G5 (λb2 G6=>if b2=true then (den gs Δ e).1 τ' G6 (λu G7=>k5 (some u) G7) (λ_ _=>False) else k5 none G6)) ys acc G4 k) (λ_ _=>False) else k acc G3)) xs [] G1 λus G5=>newO G5 (.lst us) Q) X):=rfl
theorem jo9 {ς:Sg}{G:Gp}{R:Bool->Gp->Prop}{X:KX}(pick:List (Option Nat))(t:Tg)(it:It)(ifs:Es)(t2:Tg)(it2:It)(ifs2:Es)(e:E):(den gs Δ (.lc2 pick t it ifs t2 it2 ifs2 e)).2 ς G R X=(den gs Δ (.lc2 pick t it ifs t2 it2 ifs2 e)).1 ς G (λx G1=>truU x G1 λb=>R b G1) X:=rfl
theorem jpL {ς:Sg}{G:Gp}{Q:K1}{X:KX}(es:Es):(den gs Δ (.fst es)).1 ς G Q X=(denF gs Δ es ς G (λzs G1=>Q (.str (L2.cats YeL zs)) G1) X):=rfl
theorem jpb {ς:Sg}{G:Gp}{R:Bool->Gp->Prop}{X:KX}(es:Es):(den gs Δ (.fst es)).2 ς G R X=(den gs Δ (.fst es)).1 ς G (λx G1=>truU x G1 λb=>R b G1) X:=rfl
theorem jpH {ς:Sg}{G:Gp}{Q:K1}{X:KX}(e:E)(i:Nat)(y a b:Str)(es:Es):(den gs Δ (.lrp e i y a b es)).1 ς G Q X=((den gs Δ e).1 ς G (λx G1=>slot ς i λu=>repU y b u λz w=>jaE gs Δ es ς G1 (λus G2=>(x::.str z::.str w::us).length<=Yai/\newO G2 (.lst (x::.str z::.str w::us)) Q) X) X):=rfl
theorem jo8 {ς:Sg}{G:Gp}{R:Bool->Gp->Prop}{X:KX}(e:E)(i:Nat)(y a b:Str)(es:Es):(den gs Δ (.lrp e i y a b es)).2 ς G R X=(den gs Δ (.lrp e i y a b es)).1 ς G (λx G1=>truU x G1 λb=>R b G1) X:=rfl
theorem jpF {ς:Sg}{G:Gp}{Q:K1}{X:KX}(e:E):(den gs Δ (.mkD e)).1 ς G Q X=((den gs Δ e).1 ς G (λx G1=>mkDU x G1 Q) X):=rfl
theorem jo7 {ς:Sg}{G:Gp}{R:Bool->Gp->Prop}{X:KX}(e:E):(den gs Δ (.mkD e)).2 ς G R X=(den gs Δ (.mkD e)).1 ς G (λx G1=>truU x G1 λb=>R b G1) X:=rfl
theorem jpE {ς:Sg}{G:Gp}{Q:K1}{X:KX}(e:E):(den gs Δ (.mkL e)).1 ς G Q X=((den gs Δ e).1 ς G (λx G1=>itU x G1 λxs _=>newO G1 (.lst xs) Q) X):=rfl
theorem jpD {ς:Sg}{G:Gp}{Q:K1}{X:KX}(e:E):(den gs Δ (.mkT e)).1 ς G Q X=((den gs Δ e).1 ς G (λx G1=>itU x G1 λxs _=>Q (.tup xs) G1) X):=rfl
theorem jpA {ς:Sg}{G:Gp}{Q:K1}{X:KX}(a:E):(den gs Δ (.not a)).1 ς G Q X=((den gs Δ a).1 ς G (λx G1=>truU x G1 λb=>Q (.bl (!b)) G1) X):=rfl
theorem jo6 {ς:Sg}{G:Gp}{R:Bool->Gp->Prop}{X:KX}(a:E):(den gs Δ (.not a)).2 ς G R X=((den gs Δ a).2 ς G (λb G1=>R (!b) G1) X):=rfl
theorem jpK {ς:Sg}{G:Gp}{Q:K1}{X:KX}(c a b:E):(den gs Δ (.ife c a b)).1 ς G Q X=((den gs Δ c).2 ς G (λt G1=>if t=true then (den gs Δ a).1 ς G1 Q X else (den gs Δ b).1 ς G1 Q X) X):=rfl
theorem jpa {ς:Sg}{G:Gp}{R:Bool->Gp->Prop}{X:KX}(c a b:E):(den gs Δ (.ife c a b)).2 ς G R X=((den gs Δ c).2 ς G (λt G1=>if t=true then (den gs Δ a).2 ς G1 R X else (den gs Δ b).2 ς G1 R X) X):=rfl
theorem jnq {k:Bool}{a:E}:den gs Δ (.bop k a .nil)=den gs Δ a:=rfl
theorem jpQ {ς:Sg}{G:Gp}{Q:K1}{X:KX}{a b:E}{es:Es}:(den gs Δ (.bop true a (.cons b es))).1 ς G Q X=(den gs Δ a).1 ς G (λx G1=>truU x G1 λc=>if c=true then (den gs Δ (.bop true b es)).1 ς G1 Q X else Q x G1) X:=rfl
theorem D_or {ς:Sg}{G:Gp}{Q:K1}{X:KX}{a b:E}{es:Es}:(den gs Δ (.bop false a (.cons b es))).1 ς G Q X=(den gs Δ a).1 ς G (λx G1=>truU x G1 λc=>if c=true then Q x G1 else (den gs Δ (.bop false b es)).1 ς G1 Q X) X:=rfl
theorem jpf {ς:Sg}{G:Gp}{R:Bool->Gp->Prop}{X:KX}{a b:E}{es:Es}:(den gs Δ (.bop true a (.cons b es))).2 ς G R X=(den gs Δ a).2 ς G (λc G1=>if c=true then (den gs Δ (.bop true b es)).2 ς G1 R X else R false G1) X:=rfl
theorem T_or {ς:Sg}{G:Gp}{R:Bool->Gp->Prop}{X:KX}{a b:E}{es:Es}:(den gs Δ (.bop false a (.cons b es))).2 ς G R X=(den gs Δ a).2 ς G (λc G1=>if c=true then R true G1 else (den gs Δ (.bop false b es)).2 ς G1 R X) X:=rfl
theorem O_no {ς:Sg}{G:Gp}{X:KX}{Q:Option Int->Gp->Prop}:denO gs Δ .no ς G Q X=Q none G:=rfl
theorem O_so {ς:Sg}{G:Gp}{X:KX}{Q:Option Int->Gp->Prop}{e:E}:denO gs Δ (.so e) ς G Q X=(den gs Δ e).1 ς G (λx G1=>match x with|.int i=>Q (some i) G1|_=>False) X:=rfl
theorem jpU {ς:Sg}{G:Gp}{X:KX}{Q:List U->Gp->Prop}:jaE gs Δ .nil ς G Q X=Q [] G:=rfl
theorem jnt {ς:Sg}{G:Gp}{X:KX}{Q:List U->Gp->Prop}{e:E}{es:Es}:jaE gs Δ (.cons e es) ς G Q X=(den gs Δ e).1 ς G (λx G1=>jaE gs Δ es ς G1 (λxs G2=>Q (x::xs) G2) X) X:=rfl
theorem jpS {ς:Sg}{G:Gp}{Q:Bool->Gp->Prop}:denC gs Δ .nil ς G Q=Q true G:=rfl
theorem jnr {ς:Sg}{G:Gp}{Q:Bool->Gp->Prop}{e:E}{es:Es}:denC gs Δ (.cons e es) ς G Q=(den gs Δ e).2 ς G (λb G1=>if b=true then denC gs Δ es ς G1 Q else Q false G1) (λ_ _=>False):=rfl
theorem jpm {ς:Sg}{G:Gp}{X:KX}{Q:List (Key×U)->Gp->Prop}:denD gs Δ .nil ς G Q X=Q [] G:=rfl
theorem jnd {ς:Sg}{G:Gp}{X:KX}{Q:List (Key×U)->Gp->Prop}{e f:E}{es:Es}:denD gs Δ (.cons e (.cons f es)) ς G Q X=(den gs Δ e).1 ς G (λx G1=>(den gs Δ f).1 ς G1 (λy G2=>match kU x with|some k=>denD gs Δ es ς G2 (λkvs G3=>Q ((k,y)::kvs) G3) X|none=>False) X) X:=rfl
theorem I_e {ς:Sg}{G:Gp}{X:KX}{Q:List U->(Gp->Prop)->Gp->Prop}{e:E}:denI gs Δ (.e e) ς G Q X=(den gs Δ e).1 ς G (λx G1=>itU x G1 λxs ok=>Q xs ok G1) X:=rfl
theorem I_r1 {ς:Sg}{G:Gp}{X:KX}{Q:List U->(Gp->Prop)->Gp->Prop}{e:E}:denI gs Δ (.r1 e) ς G Q X=(den gs Δ e).1 ς G (λx G1=>match x with|.int j=>-(2 ^ 62)<=j/\j<2 ^ 62/\Q (rngU 0 j.toNat) (λ_=>True) G1|_=>False) X:=rfl
theorem jne {ς:Sg}{G:Gp}{X:KX}{Q:List U->(Gp->Prop)->Gp->Prop}{e:E}:denI gs Δ (.enum e) ς G Q X=(den gs Δ e).1 ς G (λx G1=>enI x G1 λxs ok=>Q xs ok G1) X:=rfl
theorem I_s {ς:Sg}{G:Gp}{X:KX}{Q:List U->(Gp->Prop)->Gp->Prop}{e:E}:denI gs Δ (.s e) ς G Q X=(den gs Δ e).1 ς G (λx G1=>sgU x λxs=>Q xs (λ_=>True) G1) X:=rfl
theorem jps {ς:Sg}{G:Gp}{X:KX}{Q:List Str->Gp->Prop}:denF gs Δ .nil ς G Q X=Q [] G:=rfl
theorem jnm {ς:Sg}{G:Gp}{X:KX}{Q:List Str->Gp->Prop}{e:E}{es:Es}:denF gs Δ (.cons e es) ς G Q X=(den gs Δ e).1 ς G (λx G1=>fpU x λz=>denF gs Δ es ς G1 (λzs G2=>Q (z::zs) G2) X) X:=rfl
theorem I_dv {ς:Sg}{G:Gp}{X:KX}{Q:List U->(Gp->Prop)->Gp->Prop}{e:E}:denI gs Δ (.dv e) ς G Q X=(den gs Δ e).1 ς G (λx G1=>jcE jdO x G1 Q) X:=rfl
theorem I_di {ς:Sg}{G:Gp}{X:KX}{Q:List U->(Gp->Prop)->Gp->Prop}{e:E}:denI gs Δ (.di e) ς G Q X=(den gs Δ e).1 ς G (λx G1=>jcE jcx x G1 Q) X:=rfl
theorem I_zp {ς:Sg}{G:Gp}{X:KX}{Q:List U->(Gp->Prop)->Gp->Prop}{a b:E}:denI gs Δ (.zp a b) ς G Q X=(den gs Δ a).1 ς G (λx G1=>(den gs Δ b).1 ς G1 (λy G2=>zipU x y λxs=>Q xs (λ_=>True) G2) X) X:=rfl
theorem I_dk {ς:Sg}{G:Gp}{X:KX}{Q:List U->(Gp->Prop)->Gp->Prop}{e:E}:denI gs Δ (.dk e) ς G Q X=(den gs Δ e).1 ς G (λx G1=>jkO x G1 Q) X:=rfl
theorem jpg {D:En}{ς:Sg}{G:Gp}{ts:Tgs}{e:E}:denS gs Δ (.unp ts e) D ς G=(den gs Δ e).1 ς G (λu G1=>unpU ts u G1 ς λς'=>D.nx ς' G1) λx G1=>D.ex x ς G1:=rfl
theorem jnb {D:En}{ς:Sg}{G:Gp}{e:E}:denS gs Δ (.expr e) D ς G=(den gs Δ e).1 ς G (λ_ G1=>D.nx ς G1) λx G1=>D.ex x ς G1:=rfl
theorem jpl {D:En}{ς:Sg}{G:Gp}{t:Tg}{e:E}:denS gs Δ (.asg t e) D ς G=(den gs Δ e).1 ς G (λu G1=>tgU t u ς λς'=>D.nx ς' G1) λx G1=>D.ex x ς G1:=rfl
theorem jnc {D:En}{ς:Sg}{G:Gp}{i:Nat}{e:E}:denS gs Δ (.asgC i e) D ς G=(den gs Δ e).1 ς G (λu G1=>D.nx (ς.set i (some u)) G1) λx G1=>D.ex x ς G1:=rfl
theorem jna {D:En}{ς:Sg}{G:Gp}{o i e:E}:denS gs Δ (.setS o i e) D ς G=(den gs Δ e).1 ς G (λv G1=>(den gs Δ o).1 ς G1 (λx G2=>(den gs Δ i).1 ς G2 (λy G3=>setU x y v G3 λG4=>D.nx ς G4) (λx G1=>D.ex x ς G1)) (λx G1=>D.ex x ς G1)) (λx G1=>D.ex x ς G1):=rfl
theorem jpi {D:En}{ς:Sg}{G:Gp}{is:List Nat}{es:Es}:denS gs Δ (.par is es) D ς G=jaE gs Δ es ς G (λus G1=>us.length=is.length/\D.nx ((is.zip us).foldl (λs p=>s.set p.1 (some p.2)) ς) G1) λx G1=>D.ex x ς G1:=rfl
theorem jpk {D:En}{ς:Sg}{G:Gp}{i:Nat}{o:YbP}{e:E}:denS gs Δ (.aug i o e) D ς G=slot ς i λx=>(den gs Δ e).1 ς G (λy G1=>jg1 o x y G1 λz G2=>D.nx (ς.set i (some z)) G2) λx G1=>D.ex x ς G1:=rfl
theorem jpj {D:En}{ς:Sg}{G:Gp}{c:E}{a b:Ss}:denS gs Δ (.ite c a b) D ς G=(den gs Δ c).2 ς G (λt G1=>if t=true then jaB gs Δ a D ς G1 else jaB gs Δ b D ς G1) λx G1=>D.ex x ς G1:=rfl
theorem S_fr {D:En}{ς:Sg}{G:Gp}{t:Tg}{it:It}{b:Ss}:denS gs Δ (.fr t it b) D ς G=denI gs Δ it ς G (λxs ok G1=>forL ok (λx ς1 G2 k=>tgU t x ς1 λς2=>jaB gs Δ b { D with nx:=k } ς2 G2) xs ς G1 D.nx) λx G1=>D.ex x ς G1:=rfl
theorem jph {D:En}{ς:Sg}{G:Gp}{e:E}:denS gs Δ (.ret e) D ς G=(den gs Δ e).1 ς G D.rt λx G1=>D.ex x ς G1:=rfl
theorem jkN {D:En}{ς:Sg}{G:Gp}{c:Nat}{es:Es}:denS gs Δ (.raise c es) D ς G=jaE gs Δ es ς G (λus G1=>us.length=(clsF c).length/\D.ex ⟨c,us⟩ ς G1) λx G1=>D.ex x ς G1:=rfl
theorem S_tr {D:En}{ς:Sg}{G:Gp}{b:Ss}{c n:Nat}{h:List HS}:denS gs Δ (.tr b c n h) D ς G=jaB gs Δ b { D with ex:=λx ς1 G1=>(c=0\/x.c=c)/\hsH x h (ς1.set n none) G1 λς2 G2=>D.nx (ς2.set n none) G2 } ς G:=rfl
theorem jpT {D:En}{ς:Sg}{G:Gp}:jaB gs Δ .nil D ς G=D.nx ς G:=rfl
theorem jns {D:En}{ς:Sg}{G:Gp}{s:S}{r:Ss}:jaB gs Δ (.cons s r) D ς G=denS gs Δ s { D with nx:=λς' G'=>jaB gs Δ r D ς' G' } ς G:=rfl
theorem S_wh {D:En}{ς:Sg}{G:Gp}{c:E}{b:Ss}:denS gs Δ (.wh c b) D ς G=∃W:Nat->Sg->Gp->Prop,(∃m,W m ς G)/\∀m ς1 G1,W m ς1 G1->(den gs Δ c).2 ς1 G1 (λt G2=>if t=true then jaB gs Δ b { D with nx:=λς' G'=>∃m',m'<m/\W m' ς' G' } ς1 G2 else D.nx ς1 G2) λx G1=>D.ex x ς1 G1:=rfl
end
section
variable {G:Gp}
theorem jm6 {Q:K1}{i j:Int}:binU .Add (.int i) (.int j) G Q=Q (.int (i+j)) G:=rfl
theorem jo5 {Q:K1}{xs ys:List U}:binU .Add (.tup xs) (.tup ys) G Q=(xs.length+ys.length<=Yai/\Q (.tup (xs++ys)) G):=rfl
theorem jm4 {Q:K1}{a b:Addr}:binU .Add (.loc a) (.loc b) G Q=∃xs ys,G a=some (.lst xs)/\G b=some (.lst ys)/\xs.length+ys.length<=Yai/\newO G (.lst (xs++ys)) Q:=rfl
theorem jo0 {Q:K1}{i j:Int}:binU .Sub (.int i) (.int j) G Q=Q (.int (i-j)) G:=rfl
theorem jo3 {Q:K1}{i j:Int}:binU .Mult (.int i) (.int j) G Q=(CMul i j/\Q (.int (i*j)) G):=rfl
theorem jm2 {Q:K1}{a:Addr}{k:Int}:binU .Mult (.loc a) (.int k) G Q=∃xs,G a=some (.lst xs)/\-(2 ^ 63)<=k/\k<2 ^ 63/\xs.length*k.toNat<=Yai/\newO G (.lst (Yaf k.toNat xs).flatten) Q:=rfl
theorem jm1 {Q:K1}{xs:List U}{k:Int}:binU .Mult (.tup xs) (.int k) G Q=(xs≠[]/\0<=k/\k<2 ^ 62/\xs.length*k.toNat<=Yai/\Q (.tup (Yaf k.toNat xs).flatten) G):=rfl
theorem jm3 {Q:K1}{i j:Int}:binU .FloorDiv (.int i) (.int j) G Q=(0<j/\j<1073741824/\Q (.int (i/j)) G):=rfl
theorem jo4 {Q:K1}{i j:Int}:binU .Mod (.int i) (.int j) G Q=(0<j/\Q (.int (i%j)) G):=rfl
theorem jo1 {Q:K1}{i j:Int}:binU .Pow (.int i) (.int j) G Q=(CPow i j/\Q (.int (i ^ j.toNat)) G):=rfl
theorem jo2 {Q:K1}{i:Int}:negU (.int i) G Q=Q (.int (-i)) G:=rfl
theorem joZ {k:Bool->Prop}{i j:Int}:cmpU .Eq (.int i) (.int j) G k=k (decide (i=j)):=rfl
theorem joV {k:Bool->Prop}{i j:Int}:cmpU .NotEq (.int i) (.int j) G k=k (!decide (i=j)):=rfl
theorem joX {k:Bool->Prop}{i j:Str}:cmpU .Eq (.str i) (.str j) G k=k (decide (i=j)):=rfl
theorem joT {k:Bool->Prop}{i j:Str}:cmpU .NotEq (.str i) (.str j) G k=k (!decide (i=j)):=rfl
theorem W_lt {k:Bool->Prop}{i j:Int}:cmpU .Lt (.int i) (.int j) G k=k (decide (i<j)):=rfl
theorem W_le {k:Bool->Prop}{i j:Int}:cmpU .LtE (.int i) (.int j) G k=k (decide (i<=j)):=rfl
theorem W_gt {k:Bool->Prop}{i j:Int}:cmpU .Gt (.int i) (.int j) G k=k (decide (j<i)):=rfl
theorem joS {k:Bool->Prop}{xs ys:List U}:cmpU .NotEq (.tup xs) (.tup ys) G k=eqU (.tup xs) (.tup ys) G λb=>k (!b):=rfl
theorem joW {k:Bool->Prop}{xs ys:List U}{y:U}:cmpU .Eq (.tup xs) (.tup (y::ys)) G k=eqU (.tup xs) (.tup (y::ys)) G k:=rfl
theorem jmY {k:Bool->Prop}{xs:List U}:cmpU .Eq (.tup xs) (.tup []) G k=k xs.isEmpty:=rfl
theorem joU {k:Bool->Prop}{a b:Addr}:cmpU .NotEq (.loc a) (.loc b) G k=eqU (.loc a) (.loc b) G λb=>k (!b):=rfl
theorem joY {k:Bool->Prop}{a b:Addr}:cmpU .Eq (.loc a) (.loc b) G k=eqU (.loc a) (.loc b) G k:=rfl
theorem W_in {k:Bool->Prop}{x y:U}:cmpU .In x y G k=inU x y G k:=rfl
theorem joR {k:Bool->Prop}{x y:U}:cmpU .NotIn x y G k=inU x y G λb=>k (!b):=rfl
theorem W_is {k:Bool->Prop}{x y:U}:cmpU .Is x y G k=isU x y k:=rfl
theorem Y_bl {k:Bool->Prop}{b:Bool}:truU (.bl b) G k=k b:=rfl
theorem joN {k:Bool->Prop}:truU .non G k=k false:=rfl
theorem joO {k:Bool->Prop}{i:Int}:truU (.int i) G k=k (i != 0):=rfl
theorem joM {k:Bool->Prop}{xs:List U}:truU (.tup xs) G k=k (!xs.isEmpty):=rfl
theorem jpp {k:List U->(Gp->Prop)->Prop}{xs:List U}:itU (.tup xs) G k=k xs λ_=>True:=rfl
theorem joP {Q:K1}{lo hi:Option Int}{xs:List U}:slU (.tup xs) lo hi G Q=Q (.tup (cut xs lo hi)) G:=rfl
end
section
variable {us:List U}{G:Gp}{Q:K1}
theorem jpu:bltU .len us G Q=lenU us G Q:=rfl
theorem jng:bltU .repr us G Q=jeT us G Q:=rfl
theorem jpt:bltU .min us G Q=minU us G Q:=rfl
theorem jpr:bltU .sum us G Q=sumU us G Q:=rfl
theorem jio:bltU .sorted us G Q=jbl us G Q:=rfl
theorem jpw:bltU .int us G Q=intU us G Q:=rfl
theorem jpv:bltU .isi us G Q=je4 us G Q:=rfl
end
section
variable {G:Gp}{Q:K1}
theorem joQ {lo hi:Option Int}{x:Str}:slU (.str x) lo hi G Q=(x.length<=Yai/\Q (.str (YeK x lo hi)) G):=rfl
theorem jm5 {b:Bool}{j:Int}:binU .Add (.bl b) (.int j) G Q=Q (.int ((if b=true then (1:Int) else 0)+j)) G:=rfl
theorem jm0 {b:Bool}{j:Int}:binU .Sub (.bl b) (.int j) G Q=Q (.int ((if b=true then (1:Int) else 0)-j)) G:=rfl
theorem jmZ {b:Bool}{i:Int}:binU .Sub (.int i) (.bl b) G Q=Q (.int (i-if b=true then (1:Int) else 0)) G:=rfl
theorem jnj {xs:List U}:lenU [.tup xs] G Q=Q (.int xs.length) G:=rfl
theorem jnh {i j:Int}:minU [.int i,.int j] G Q=Q (.int (if j<i then j else i)) G:=rfl
theorem jni {i j:Int}:maxU [.int i,.int j] G Q=Q (.int (if j>i then j else i)) G:=rfl
theorem jnl {b:Bool}:intU [.bl b] G Q=Q (.int (if b then 1 else 0)) G:=rfl
theorem jnk {i:Int}:intU [.int i] G Q=Q (.int i) G:=rfl
end
theorem G_n {i:Nat}{u:U}{ς:Sg}{k:Sg->Prop}:tgU (.n i) u ς k=k (ς.set i (some u)):=rfl
theorem G_t {ts:Tgs}{us:List U}{ς:Sg}{k:Sg->Prop}:tgU (.t ts) (.tup us) ς k=tgsU ts us ς k:=rfl
theorem jpq {us:List U}{ς:Sg}{k:Sg->Prop}:tgsU .nil us ς k=(us=[]/\k ς):=rfl
theorem jnf {t:Tg}{ts:Tgs}{u:U}{r:List U}{ς:Sg}{k:Sg->Prop}:tgsU (.cons t ts) (u::r) ς k=tgU t u ς λς'=>tgsU ts r ς' k:=rfl
theorem sl_0 {u:U}{ς:Sg}{k:U->Prop}:slot (some u::ς) 0 k=k u:=rfl
theorem sl_s {o:Option U}{ς:Sg}{i:Nat}{k:U->Prop}:slot (o::ς) (i+1) k=slot ς i k:=rfl
theorem jaU {G:Gp}{a:Addr}{o:MO}{Q:Gp->Prop}:putO G a o Q=Q (gup G a o):=propext ⟨λh=>h.at,λh G1 p=>by rw[p.eq];exact h⟩
theorem ix_t {xs:List U}{i:Int}{u:U}{G:Gp}{Q:K1}(h:atI xs i=some u):ixU (.tup xs) (.int i) G Q=Q u G:=by unfold ixU;dsimp only;rw[h]
theorem ix_l {a:Addr}{xs:List U}{i:Int}{u:U}{G:Gp}{Q:K1}(g:G a=some (.lst xs))(h:atI xs i=some u):ixU (.loc a) (.int i) G Q=Q u G:=by unfold ixU;dsimp only;rw[g];dsimp only;rw[h]
theorem ix_d {a:Addr}{kvs:List (Key×U)}{x:Str}{u:U}{G:Gp}{Q:K1}(g:G a=some (.dK kvs))(h:dGet kvs (.inr x)=some u):ixU (.loc a) (.str x) G Q=Q u G:=by unfold ixU;dsimp only;rw[g];show(match dGet kvs (.inr x)with|some u=>Q u G|none=>False)=_;rw[h]
theorem jki {a:Addr}{xs:List U}{r:Int}{G:Gp}{Q:K1}(g:G a=some (.lst xs))(h0:0<=r)(h1:r<xs.length)(q:∀u∈xs,Q u G):ixU (.loc a) (.int r) G Q:=by
 obtain⟨u,hu,e⟩:=jeL h0 h1;rw[ix_l g e];exact q u hu
theorem jb2 (zs:List Int){a:Addr}{r:Int}{G:Gp}{Q:K1}(g:G a=some (.lst (zs.map .int)))(h0:0<=r)(h1:r<zs.length)(q:∀z∈zs,Q (.int z) G):ixU (.loc a) (.int r) G Q:=
 jki g h0 (by rw[Yaa];exact h1) λu hu=>by
  obtain⟨z,hz,rfl⟩:=List.mem_map.mp hu;exact q z hz
theorem jfz:∀zs:List Int,jev (zs.map .int)=some zs
 |[]=>rfl
 |x::r=>by show(match jev (r.map .int)with|some l=>some (x::l)|none=>none)=_;rw[jfz r]
section
variable {a:Addr}
theorem in_l {ys:List U}{x:U}{G:Gp}{k:Bool->Prop}(g:G a=some (.lst ys))(h1:flat x=true)(h2:ys.all flat=true)(q:k (ys.any λy=>eqF y x)):inU x (.loc a) G k:=by
 cases x<;>first|(cases h1;done)|(unfold inU;dsimp only;rw[g];exact .inl ⟨h1,h2,q⟩)
theorem jdZ {xs:List U}{G:Gp}{Q:K1}(g:G a=some (.lst xs)):lenU [.loc a] G Q=Q (.int xs.length) G:=by unfold lenU;dsimp only;rw[g]
theorem jox {xs:List U}{G:Gp}{Q:K1}(g:G a=some (.fro xs)):lenU [.loc a] G Q=Q (.int xs.length) G:=by unfold lenU;dsimp only;rw[g]
theorem it_l {xs:List U}{G:Gp}{k:List U->(Gp->Prop)->Prop}(g:G a=some (.lst xs)):itU (.loc a) G k=k xs λG'=>lsG G' a=some xs:=by unfold itU;dsimp only;have e:lsG G a=some xs:=(by unfold lsG;rw[g]);rw[e]
theorem jdk {xs:List U}{v:U}{G:Gp}{Q:K1}(g:G a=some (.lst xs)):jaO .append (.loc a) [v] G Q=(xs.length<Yai/\putO G a (.lst (xs++[v])) (Q .non)):=by unfold jaO jff;dsimp only;rw[g]
theorem jbe {xs:List U}{G:Gp}(g:G a=some (.lst xs)):mtU .append (.loc a) G=some ("list", "list.append"):=by unfold mtU;dsimp only;rw[g]
theorem jjk {xs:List U}{i:Int}{j:Nat}{v:U}{G:Gp}{Q:Gp->Prop}(g:G a=some (.lst xs))(h:ixN xs.length i=some j):setU (.loc a) (.int i) v G Q=putO G a (.lst (xs.set j v)) Q:=by unfold setU;dsimp only;rw[g];dsimp only;rw[h]
theorem jhB {kvs:List (Key×U)}{x:Str}{v:U}{G:Gp}{Q:Gp->Prop}(g:G a=some (.dK kvs)):setU (.loc a) (.str x) v G Q=(kvs.length<Yai/\putO G a (.dK (dPut kvs (.inr x) v)) Q):=by unfold setU;dsimp only;rw[g];rfl
end
theorem je3 {n j:Nat}(h:j<n):ixN n (j:Int)=some j:=by unfold ixN;rw[if_pos (Int.natCast_nonneg j),if_pos (by exact_mod_cast h)];simp
noncomputable def jig:Nat->Ss->Ss
 |0,s=>s
 |_+1,.nil=>.nil
 |n+1,.cons _ r=>jig n r
theorem dr_0 {s:Ss}:jig 0 s=s:=rfl
theorem dr_s {n:Nat}{s:S}{r:Ss}:jig (n+1) (.cons s r)=jig n r:=rfl
theorem pk_nil {ς:Sg}:jbH [] ς=[]:=rfl
theorem jjA {ς:Sg}{r:List (Option Nat)}:jbH (none::r) ς=none::jbH r ς:=rfl
theorem jjz {ς:Sg}{j:Nat}{r:List (Option Nat)}:jbH (some j::r) ς=(ς[j]?).join::jbH r ς:=rfl
theorem jpn {x:Str}:kU (.str x)=some (.inr x):=rfl
theorem jpo {i:Int}:kU (.int i)=some (.inl i):=rfl
theorem sl_f {a:Addr}{xs:List U}{lo hi:Option Int}{G:Gp}{Q:K1}(g:G a=some (.fro xs)):slU (.loc a) lo hi G Q=newO G (.lst (cut xs lo hi)) Q:=by unfold slU;dsimp only;have e:lsG G a=some xs:=(by unfold lsG;rw[g]);rw[e]
theorem jkH {α β:Type}(f:α->β)(xs:List α)(lo hi:Option Int):cut (xs.map f) lo hi=(cut xs lo hi).map f:=by unfold cut;rw[Yaa,<- List.map_drop,<- List.map_take]
theorem jhk {α:Type}(xs:List α)(n:Nat):cut xs none (some (n:Int))=xs.take n:=by
 unfold cut;rw[HT.sIx_none,HT.sIx_nat,Ydb,Nat.sub_zero,List.take_eq_take_iff];omega
section
variable {G:Gp}{f c:Addr}{a l t:Int}{Q:K1}
theorem jie:ixU (.loc f) (.str "cells") (gup G f (.dK (fdU c a l t))) Q=Q (.loc c) (gup G f (.dK (fdU c a l t))):=ix_d jac jku
theorem joF:ixU (.loc f) (.str "at") (gup G f (.dK (fdU c a l t))) Q=Q (.int a) (gup G f (.dK (fdU c a l t))):=ix_d jac g_at
theorem jkw:ixU (.loc f) (.str "left") (gup G f (.dK (fdU c a l t))) Q=Q (.int l) (gup G f (.dK (fdU c a l t))):=ix_d jac jmE
theorem jkv:ixU (.loc f) (.str "turn") (gup G f (.dK (fdU c a l t))) Q=Q (.int t) (gup G f (.dK (fdU c a l t))):=ix_d jac jiM
end
section
variable {G:Gp}{f c:Addr}{a l t x:Int}{Q:Gp->Prop}
theorem joG:setU (.loc f) (.str "at") (.int x) (gup G f (.dK (fdU c a l t))) Q=Q (gup G f (.dK (fdU c x l t))):=by rw[jhB jac,p_at,jaU,ja2];exact propext ⟨λh=>h.2,λh=>⟨jfF,h⟩⟩
theorem jkB:setU (.loc f) (.str "left") (.int x) (gup G f (.dK (fdU c a l t))) Q=Q (gup G f (.dK (fdU c a x t))):=by rw[jhB jac,jlQ,jaU,ja2];exact propext ⟨λh=>h.2,λh=>⟨jfF,h⟩⟩
theorem jkA:setU (.loc f) (.str "turn") (.int x) (gup G f (.dK (fdU c a l t))) Q=Q (gup G f (.dK (fdU c a l x))):=by rw[jhB jac,jiA,jaU,ja2];exact propext ⟨λh=>h.2,λh=>⟨jfF,h⟩⟩
end
end Z

namespace Y
open PySem L2
noncomputable def nO:Obj:=⟨.none,none,.fields ⟨[]⟩,⟨[]⟩⟩
noncomputable def tO (v:List Value):Obj:=⟨.type "tuple",none,.seq ⟨v⟩ 0,⟨[]⟩⟩
noncomputable def sO (c:Value)(v:List Value):Obj:=⟨c,none,.fields ⟨v⟩,⟨[]⟩⟩
noncomputable def rO (v:List (Option Value)):Obj:=⟨.type "frame",none,.plain,⟨v⟩⟩
noncomputable def gO (x q:Str)(s:Stmt):Obj:=⟨.none,none,.func { name:=x,qualname:=q,params:=ja4 s,body:=.stmts (jaq s),scope:=jag s,globals:=0,closure:=[],defaults:=.none,kwdefaults:=.none },⟨[]⟩⟩
noncomputable def fO (x q:Str)(s:Stmt)(m:Value)(c:Nat):Obj:=⟨.type "function",none,.func (YbH x q (ja4 s) (jaq s) (jag s) .none .none .none m none (.ref c) .none),⟨[]⟩⟩
noncomputable def kO (fi x q:Str)(t:Nat)(l a f:Int)(r:Nat)(b:Bool)(u v w:Value)(z:Nat):Obj:=⟨.type "code",none,.fields ⟨[.str x t,.str q (t+1),.str fi (t+2),.int l 0,.int a 0,.int 0 0,.int 0 0,.int f 0,.ref r,.bool b,.int 181 0,.ref (r+1),.none,u,v,w,.int z 0,.int l 0,.str fi (z+1)]⟩,⟨[]⟩⟩
noncomputable def dE (P:Params)(x:Str)(t:Nat)(v:Value):Ycf:=⟨PyData.keyHash P x,.str x t,v⟩
noncomputable def dO (e:List Ycf)(n:Nat):Obj:=⟨.type "dict",none,.dict ⟨e⟩ n,⟨[]⟩⟩
noncomputable def tE:Obj:=tO []
noncomputable abbrev bE:Yco:=.nil
noncomputable abbrev bN (o:Obj)(l r:Yco):Yco:=.node o l r
noncomputable abbrev bL (o:Obj):Yco:=.node o .nil .nil
end Y
namespace Z
open PySem L2
noncomputable def argB (ps:List Str)(a:YfQ):Bool:=a.posonlyargs.isEmpty&&(a.args.map (·.arg)==ps)&&a.vararg.isNone&&a.kwonlyargs.isEmpty&&a.kwarg.isNone
theorem jmk:∀{ps:List Str} {us:List Value},us.length=ps.length->ps.Nodup->(ps.filterMap λn=>((ps.zip us).lookup n).map (n,·))=ps.zip us/\∀n∈ps,((ps.zip us).lookup n).isSome=true:=by
 have key:∀{l:List Str} {vs:List Value} {L:List (Str×Value)},vs.length=l.length->l.Nodup->(∀(i:Nat) n v,l[i]?=some n->vs[i]?=some v->L.lookup n=some v)->(l.filterMap λn=>(L.lookup n).map (n,·))=l.zip vs/\∀n∈l,(L.lookup n).isSome=true:=by
  intro l
  induction l with
  |nil=>intro vs L _ _ _;exact⟨rfl,λn h=>absurd h Yay⟩
  |cons x l ih=>
   intro vs L hl nd hL;obtain _|⟨v,vs⟩:=vs
   ·cases hl
   ·have h0:=hL 0 x v rfl rfl;obtain⟨e1,e2⟩:=ih (L:=L) (vs:=vs) (by simpa using hl) (List.nodup_cons.mp nd).2 λi n v a b=>hL (i+1) n v a b
    refine⟨?_,λn hn=>?_⟩
    ·rw[YbX,h0,Yfh,<- e1];rfl
    ·rcases YaL.mp hn with rfl|hn
     ·rw[h0];rfl
     ·exact e2 n hn
 intro ps us hl nd;refine key hl nd λi n v a b=>?_;have hz:(ps.zip us)[i]?=some (n,v):=List.getElem?_zip_eq_some.mpr ⟨a,b⟩;have:∀(l:List (Str×Value)),(l.map (·.1)).Nodup->(n,v)∈l->l.lookup n=some v:=by
  intro l
  induction l with
  |nil=>intro _ h;exact absurd h Yay
  |cons p l ih=>
   intro nd h;obtain⟨m,u⟩:=p;rw[Ya5];by_cases e:n=m
   ·subst e;rw[beq_self_eq_true];rcases YaL.mp h with h|h
    ·cases h;rfl
    ·exact absurd (List.mem_map.mpr ⟨_,h,rfl⟩) (List.nodup_cons.mp nd).1
   ·rw[beq_eq_false_iff_ne.mpr e];rcases YaL.mp h with h|h
    ·cases h;exact absurd rfl e
    ·exact ih (List.nodup_cons.mp nd).2 h
 exact this _ (by rw[List.map_fst_zip (by omega)];exact nd) (Yak hz)
theorem jhq {ps:List Str}{a:YfQ}(h:argB ps a=true)(nd:ps.Nodup){x q:Str}{b:List Stmt}{sc:Scope}{kV doc pm:Value}{an:Option Addr}{cdv ct:Value}{us:List Value}(hl:us.length=ps.length) :
  bindArgs (YbH x q a b sc .none kV doc pm an cdv ct) ⟨us,[]⟩=pure (ps.zip us):=by
 obtain⟨po,as,va,ko,kd,ka,df⟩:=a;unfold argB at h;simp only[Yaz,List.isEmpty_iff,Option.isNone_iff_eq_none,beq_iff_eq]at h;obtain⟨⟨⟨⟨rfl,rfl⟩,rfl⟩,rfl⟩,rfl⟩:=h;obtain⟨e1,e2⟩:=jmk hl nd;have e3:(List.filter (λn=>(Yd0 n ((as.map (·.arg)).zip us)).isNone) (as.map (·.arg)))=[]:=List.filter_eq_nil_iff.mpr λn hn=>by
  have:=e2 n hn;cases q:Yd0 n ((as.map (·.arg)).zip us)with
  |none=>rw[q]at this;cases this
  |some _=>simp
 have e0:seqItems? YaP=pure none:=rfl;unfold bindArgs;dsimp only;rw[e0];generalize as.map (·.arg)=ns at *;have e4:ns.take (ns.length-0)=ns:=by rw[Nat.sub_zero,YaI]
 simp[hl,e1,e3,e4]

abbrev FL:=List (Addr×Addr×Value)
noncomputable def refB (v:Option (Option Value))(f:Addr):Bool:=match v with
 |some (some (.ref a))=>a==f
 |_=>false
theorem jln {v:Option (Option Value)}{f:Addr}(h:refB v f=true):v=some (some (.ref f)):=by
 unfold refB at h;split at h
 ·rw[eq_of_beq h]
 ·cases h
noncomputable def dynB (T:Tab)(K:Yac):Nat->FL->List Fun->List Stmt->Bool
 |_,[],[],[]=>true
 |i,x::fs,d::ds,s::ss=>refB (Yb7 K YaN d.name) x.1&&Yck K (.ref x.2.1) d.name&&(match T.ns.lookup i with|none=>true|some z=>jfc K (.ref x.2.1) z.P)&&argB d.ps (ja4 s)&&dynB T K (i+1) fs ds ss
 |_,_,_,_=>false
noncomputable def lkR:FL->List Fun->List Stmt->List (Option Obj)
 |x::fs,d::ds,s::ss=>some (Y.fO d.name d.name s x.2.2 x.2.1)::lkR fs ds ss
 |_,_,_=>[]
theorem jhb {T:Tab}{K:Yac}:∀{i:Nat} {fs:FL} {ds:List Fun} {ss:List Stmt},dynB T K i fs ds ss=true->fs.map (λx=>K.lookup x.1)=lkR fs ds ss->∀{n:Nat} {d:Fun} {s:Stmt},ds[n]?=some d->ss[n]?=some s->
  ∃x:Addr×Addr×Value,Yb7 K YaN d.name=some (some (.ref x.1))/\K.lookup x.1=some (Y.fO d.name d.name s x.2.2 x.2.1)/\Yck K (.ref x.2.1) d.name=true/\(∀z,T.ns.lookup (i+n)=some z->jfc K (.ref x.2.1) z.P=true)/\argB d.ps (ja4 s)=true
 |_,_,[],_,_,_,_,_,_,e,_=>by simp at e
 |_,_,_::_,[],_,_,_,_,_,_,e=>by simp at e
 |_,[],_::_,_::_,h,_,_,_,_,_,_=>by unfold dynB at h;cases h
 |i,x::fs,d::ds,s::ss,h,g,n,d',s',e1,e2=>by
  unfold dynB at h;simp only[Yaz]at h;obtain⟨⟨⟨⟨h1,h2⟩,h3⟩,h4⟩,h5⟩:=h;unfold lkR at g;rw[YaF]at g;injection g with g1 g2
  cases n with
  |zero=>
   cases(Yar e1:d=d');cases(Yar e2:s=s');exact⟨x,jln h1,g1,h2,λz hz=>by rw[Nat.add_zero]at hz;rw[hz]at h3;exact h3,h4⟩
  |succ n=>
   obtain⟨y,q1,q2,q3,q4,q5⟩:=jhb h5 g2 (n:=n) e1 e2;exact⟨y,q1,q2,q3,λz hz=>q4 z (by rw[show i+1+n=i+(n+1) by omega];exact hz),q5⟩
theorem jlx {N ps:List Str}{sc:Scope}(h:scB N ps sc=true):ps.Nodup:=by
 have S:=jli h;rw[<- S.pre];exact S.nd.sublist (Yfv _ _)
theorem jgU {K:Yac}{f:Addr}{c:Value}{d:Option Addr}{fd:Ybm}{sl:Array (Option Value)}(h:K.lookup f=some ⟨c,d,.func fd,sl⟩):YbR K (.ref f)=true:=by
 unfold YbR;dsimp only;rw[h]
section
variable {T:Tab}{K:Yac}{h:Heap}{mg:Str->Option Value}
theorem jmL {fs:FL}{sts:List Stmt}(X:K.In h)(G:h.Ns YaN mg)(hst:jdU T 0 T.funs sts=true)(heq:jej T sts 0 T.funs sts)(hB:dynB T K 0 fs T.funs sts=true)(hL:fs.map (λx=>K.lookup x.1)=lkR fs T.funs sts):Dyn T K mg sts:=by
 intro n d st h1 h2;obtain⟨x,q1,q2,q3,q4,q5⟩:=jhb hB hL h1 h2;have F:=jiN (st:=st) q2 q3 (jgU q2);obtain⟨st',e,hs,_⟩:=jcV hst heq h1;cases h2.symm.trans e;exact⟨_,_,F,Ycu X G q1,F.binds λ_ _ _ _ _ _ us hl=>jhq q5 (jlx hs) hl,λz hz=>q4 z (by rw[Ycs];exact hz)⟩
noncomputable def bltB (K:Yac):Bool:=jb8.all λx=>match Yb7 K YaN x with
 |some none=>true
 |_=>false
theorem jmW (X:K.In h)(G:h.Ns YaN mg)(hb:bltB K=true):∀x∈jb8,mg x=none:=λx hx=>by
 have:=List.all_eq_true.mp hb x hx;refine PySem.W.mg_none_of X G ?_;split at this
 ·assumption
 ·cases this
noncomputable def gsB (K:Yac):List Str->List U->Bool
 |[],[]=>true
 |x::xs,u::us=>(match u,Yb7 K YaN x with
  |.int i,some (some (.int j _))=>i==j
  |.str i,some (some (.str j _))=>i==j
  |_,_=>false)&&gsB K xs us
 |_,_=>false
theorem jmD (X:K.In h)(G:h.Ns YaN mg):∀{xs:List Str} {us:List U},gsB K xs us=true->∀(n:Nat) (x:Str) (u:U),xs[n]?=some x->us[n]?=some u->∃v w,mg x=some w/\RelV v w/\∀H,RU K H u v
 |[],_,_,_,_,_,e,_=>by simp at e
 |_::_,[],_,_,_,_,_,e=>by simp at e
 |x::xs,u::us,hb,n,x',u',e1,e2=>by
  unfold gsB at hb;rw[Yaz]at hb;cases n with
  |zero=>
   cases(Yar e1:x=x');cases(Yar e2:u=u');have h1:=hb.1;split at h1
   ·rename_i i j t q;cases eq_of_beq h1;exact⟨.int i,_,Ycu X G q,⟨_,rfl⟩,λ_=>rfl⟩
   ·rename_i i j t q;cases eq_of_beq h1;exact⟨.str i,_,Ycu X G q,⟨_,rfl⟩,λ_=>rfl⟩
   ·cases h1
  |succ n=>exact jmD X G hb.2 n x' u' e1 e2
def CsA (K:Yac):List Nat->Prop
 |[]=>True
 |n::r=>(∃C,XCls K (gK K) (clsN n) (clsF n) C)/\CsA K r
theorem jmQ:∀{l:List Nat},CsA K l->∀n∈l,1<=n->∃C,XCls K (gK K) (clsN n) (clsF n) C
 |[],_,_,hn,_=>absurd hn Yay
 |m::r,hc,n,hn,h1=>by
  unfold CsA at hc;rcases YaL.mp hn with rfl|hn
  ·exact hc.1
  ·exact jmQ hc.2 n hn h1
theorem all2 {l:Ydw}{w:World}{fa:Addr}{fs:FL}{sts:List Stmt}{k n:Nat}{d:Fun}{st:Stmt}(X:K.In h)(G:h.Ns YaN mg)(hfa:mg "law" = some (.ref fa))(hst:jdU T 0 T.funs sts=true)(heq:jej T sts 0 T.funs sts)
  (hU:∀t∈tabs,∀t'∈tabs,t.1=t'.1->t=t') (hB:dynB T K 0 fs T.funs sts=true) (hL:fs.map (λx=>K.lookup x.1)=lkR fs T.funs sts) (hb:bltB K=true) (hg:gsB K T.gn T.gs=true) (hc:CsA K T.cs)
  (hd:T.funs[n]?=some d) (hs:sts[n]?=some st) (hn:T.ns.lookup n=none) (hdn:d.name = "law") (hps:d.ps=[("_law_script" : Str)]) :
  ∃fd:Ybm,(∀(s:Shared) (v:Value),BindsTo s fd ⟨[v],[]⟩ [("_law_script",v)])/\∀base:Heap,K.In base->base.Ns YaN mg->BmAt mg base->FnOk l.prog w K mg base (CX1 l.prog w) (k+2) fa fd ["_law_script"] (lSp K (jab T k n)):=by
 have dyn:=jmL X G hst heq hB hL;obtain⟨x,q1,q2,q3,q4,q5⟩:=jhb hB hL hd hs;obtain⟨st',e,hsc,_⟩:=jcV hst heq hd;cases hs.symm.trans e;have F:=jiN (st:=st) q2 q3 (jgU q2);rw[hdn]at q1;cases hfa.symm.trans (Ycu X G q1);refine⟨YbH d.name d.name (ja4 st) (jaq st) (jag st) .none .none .none x.2.2 none (.ref x.2.1) .none,λs v=>.of_eq ((jhq (us:=[v]) q5 (jlx hsc) (by rw[hps];rfl)).trans (by rw[hps];rfl)),λbase hKb _ hBm=>?_⟩
 rw[<- hps];exact jfR F hst heq dyn hU hKb hBm (jmW X G hb) (jmD X G hg) (jmQ hc) (jmf X G) hd hs hn
end
section
variable {K:Yac}
end
section
local macro_rules
 |`(#[])=>`(.nil)
 |`(#[$x])=>`(.cons $x .nil)
 |`(#[$x,$xs,*])=>`(.cons $x #[$xs,*])
noncomputable abbrev jc3:Nat:=0
noncomputable abbrev jcu:Nat:=1
noncomputable abbrev jep:Nat:=2
noncomputable abbrev jcZ:Nat:=3
noncomputable abbrev jcv:Nat:=4
noncomputable abbrev jaJ:Nat:=5
noncomputable abbrev jaV:Nat:=6
noncomputable abbrev jbD:Nat:=7
noncomputable abbrev jbo:Nat:=8
noncomputable abbrev jbW:Nat:=9
noncomputable abbrev jdu:Nat:=10
noncomputable abbrev jcg:Nat:=11
noncomputable abbrev jdx:Nat:=12
noncomputable abbrev jaa:Nat:=13
noncomputable abbrev jbJ:Nat:=14
noncomputable abbrev jaR:Nat:=15
noncomputable abbrev jdv:Nat:=16
noncomputable abbrev jbV:Nat:=17
noncomputable abbrev jdw:Nat:=18
noncomputable abbrev jc2:Nat:=19
noncomputable abbrev jc1:Nat:=20
noncomputable abbrev jaL:Nat:=21
noncomputable abbrev jbI:Nat:=22
noncomputable abbrev jdy:Nat:=23
noncomputable abbrev jbU:Nat:=24
noncomputable abbrev jaP:Nat:=25
noncomputable abbrev jaQ:Nat:=26
noncomputable abbrev jct:Nat:=27
noncomputable abbrev jc0:Nat:=28
noncomputable abbrev jj2:Nat:=29
noncomputable def jeC:Fun:=⟨"ends_of",["plan", "entry"],["plan", "entry", "s", "way", "word", "one", "other", "low", "high"],#[.ite (.cmp .Eq (.blt .len #[.v 1]) (.int 3)) #[.ret (.tup #[.ix (.v 1) (.int 1),.ix (.v 1) (.int 2)])] .nil,.asg (.t #[.n 2,.n 3]) (.v 1),.asg (.t #[.n 4,.n 5,.n 6,.n 7,.n 8]) (.ix (.ix (.v 0) (.int 1)) (.v 2)),.ret (.ife (.cmp .Eq (.v 3) (.int 1)) (.tup #[.v 5,.v 6]) (.tup #[.v 6,.v 5]))]⟩
noncomputable def jcA:Fun:=⟨"entry_sums",["beats", "windows", "entry"],["beats", "windows", "entry", "apart", "s", "way", "least", "most"],#[.ite (.cmp .Eq (.blt .len #[.v 2]) (.int 3)) #[.asg (.n 3) (.bin .Sub (.ix (.v 0) (.ix (.v 2) (.int 2))) (.ix (.v 0) (.ix (.v 2) (.int 1)))),.ret (.tup #[.v 3,.v 3])] .nil,.asg (.t #[.n 4,.n 5]) (.v 2),.asg (.t #[.n 6,.n 7]) (.ix (.v 1) (.v 4)),.ret (.ife (.cmp .Eq (.v 5) (.int 1)) (.tup #[.v 6,.v 7]) (.tup #[.neg (.v 7),.neg (.v 6)]))]⟩
noncomputable def jeA:Fun:=⟨"sums_of",["plan", "period", "beats", "windows", "ring"],["plan", "period", "beats", "windows", "ring", "sums"],#[.asgC 5 (.lc [none,some 2,some 3] (.n 0) (.e (.v 4)) .nil (.call jcu #[.v 1,.v 2,.v 0])),(.ret (.tup #[.blt .sum #[.lc [none,none] (.t #[.n 0,.n 1]) (.e (.v 5)) .nil (.v 0)],.blt .sum #[.lc [none,none] (.t #[.n 0,.n 1]) (.e (.v 5)) .nil (.v 1)]]))]⟩
noncomputable def jdb:Fun:=⟨"ring_bars",["plan", "period", "beats", "windows", "ring"],["plan", "period", "beats", "windows", "ring", "least", "most"],#[.asg (.t #[.n 5,.n 6]) (.call jep #[.v 0,.v 1,.v 2,.v 3,.v 4]),.ret (.cmp .Lt (.bin .Mult (.bin .FloorDiv (.v 6) (.v 1)) (.v 1)) (.v 5))]⟩
noncomputable def jcB:Fun:=⟨"entries_to",["plan", "work"],["plan", "work", "found", "s", "word", "one", "other", "low", "high"],#[.asg (.n 2) (.lst .nil),(.fr (.t #[.n 3,.t #[.n 4,.n 5,.n 6,.n 7,.n 8]]) (.enum (.ix (.v 0) (.int 1))) #[.ite (.cmp .Eq (.v 6) (.v 1)) #[.expr (.meth .append (.v 2) #[.tup #[.v 3,.int 1,.v 5]])] .nil,.ite (.cmp .Eq (.v 5) (.v 1)) #[.expr (.meth .append (.v 2) #[.tup #[.v 3,.neg (.int 1),.v 6]])] .nil]),.ret (.v 2)]⟩
noncomputable def jbk:Ss:=#[(.wh (.cmp .Lt (.v 4) (.blt .len #[.v 3])) #[(.fr (.t #[.n 5,.n 6,.n 7]) (.e (.call jcv #[.v 0,.ix (.v 3) (.v 4)])) #[(.ite (.cmp .NotIn (.v 7) (.v 3)) #[.setS (.v 2) (.v 7) (.tup #[.v 5,.v 6]),.expr (.meth .append (.v 3) #[.v 7])] .nil)]),.aug 4 .Add (.int 1)]),.ret (.v 2)]
noncomputable def jb6:Fun:=⟨"forest_from",["plan", "roots"],["plan", "roots", "forest", "reached", "at", "s", "way", "start"],(.cons (.asg (.n 2) (.dic .nil)) (.cons (.asg (.n 3) (.mkL (.v 1))) (.cons (.asg (.n 4) (.int 0)) jbk)))⟩
noncomputable def ja5:Ss:=#[(.wh (.cmp .In (.v 2) (.v 1)) #[.expr (.meth .append (.v 3) #[.ix (.v 1) (.v 2)]),.asg (.n 2) (.ix (.call jc3 #[.v 0,.ix (.v 1) (.v 2)]) (.int 1))]),.ret (.tup #[.v 3,.v 2])]
noncomputable def jbE:Fun:=⟨"path_to_root",["plan", "forest", "work"],["plan", "forest", "work", "path"],(.cons (.asg (.n 3) (.lst .nil)) ja5)⟩
noncomputable def jba:Ss:=#[.ret (.mkT (.bin .Add (.bin .Add (.bin .Add (.lst #[.tup #[.v 2,.int 1]]) (.v 8)) (.v 12)) (.lc [none,none] (.t #[.n 0,.n 1]) (.e (.rev (.v 10) (.neg (.int 1)))) .nil (.tup #[.v 0,.neg (.v 1)]))))]
noncomputable def jaD:Ss:=(.cons (.asg (.n 12) (.ife (.cmp .Eq (.v 9) (.v 11)) (.lst .nil) (.lst #[.tup #[.str "home",.v 9,.v 11]]))) jba)
noncomputable def jbb:Ss:=(.cons (.wh (.bop true (.v 8) #[.v 10,.cmp .Eq (.ix (.v 8) (.neg (.int 1))) (.ix (.v 10) (.neg (.int 1)))]) #[.expr (.meth .pop (.v 8) .nil),.expr (.meth .pop (.v 10) .nil)]) jaD)
noncomputable def jbc:Ss:=(.cons (.asg (.t #[.n 8,.n 9]) (.call jaV #[.v 0,.v 1,.v 5])) (.cons (.asg (.t #[.n 10,.n 11]) (.call jaV #[.v 0,.v 1,.v 4])) jbb))
noncomputable def jbF:Fun:=⟨"closing_ring",["plan", "forest", "s"],["plan", "forest", "s", "word", "one", "other", "low", "high", "there", "there_root", "back", "back_root", "homes"],(.cons (.asg (.t #[.n 3,.n 4,.n 5,.n 6,.n 7]) (.ix (.ix (.v 0) (.int 1)) (.v 2))) jbc)⟩
noncomputable def jbs:Fun:=⟨"closing_rings",["plan", "part", "forest"],["plan", "part", "forest", "used", "spans"],#[.asg (.n 3) (.lc [none,none] (.t #[.n 0,.n 1]) (.dv (.v 2)) .nil (.v 0)),.asgC 4 (.lc [none,some 0,some 1,some 3] (.n 0) (.r1 (.blt .len #[.ix (.v 0) (.int 1)])) #[.bop true (.cmp .In (.ix (.ix (.ix (.v 1) (.int 1)) (.v 0)) (.int 1)) (.v 2)) #[.cmp .NotIn (.v 0) (.v 3)]] (.v 0)),.ret (.lc [none,some 0,some 2] (.n 0) (.e (.v 4)) .nil (.call jbD #[.v 1,.v 2,.v 0]))]⟩
noncomputable def jb7:Fun:=⟨"beats_along",["plan", "period", "beats", "forest", "lengths"],["plan", "period", "beats", "forest", "lengths", "found", "work", "s", "way", "nearer"],#[.asg (.n 5) (.mkL (.v 2)),(.fr (.t #[.n 6,.t #[.n 7,.n 8]]) (.di (.v 3)) #[.asg (.n 9) (.ix (.call jc3 #[.v 0,.tup #[.v 7,.v 8]]) (.int 1)),.setS (.v 5) (.v 6) (.bin .Mod (.bin .Sub (.ix (.v 5) (.v 9)) (.bin .Mult (.v 8) (.ix (.v 4) (.v 7)))) (.v 1))]),.ret (.mkT (.v 5))]⟩
noncomputable def jcl:Ss:=#[(.fr (.n 3) (.r1 (.blt .len #[.ix (.v 0) (.int 0)])) #[(.ite (.cmp .NotIn (.v 3) (.v 2)) #[.asg (.n 4) (.blt .sorted #[.bin .Add (.lst #[.v 3]) (.mkD (.call jaJ #[.v 0,.lst #[.v 3]]))]),.expr (.meth .extend (.v 2) #[.v 4]),.expr (.meth .append (.v 1) #[.mkT (.v 4)])] .nil)]),.ret (.mkT (.v 1))]
noncomputable def jdD:Fun:=⟨"parts_of",["plan"],["plan", "parts", "placed", "work", "part"],(.cons (.asg (.n 1) (.lst .nil)) (.cons (.asg (.n 2) (.lst .nil)) jcl))⟩
noncomputable def jcp:Ss:=#[.ret (.tup #[.str "beats",.v 4])]
noncomputable def jcq:Ss:=(.cons (.fr (.n 5) (.e (.call jdu #[.v 0])) #[.asg (.n 6) (.call jaJ #[.v 0,.sl (.v 5) .no (.so (.int 1))]),.fr (.n 7) (.e (.call jbo #[.v 0,.v 5,.v 6])) #[.ite (.call jcZ #[.v 0,.v 1,.v 4,.v 3,.v 7]) #[.ret (.tup #[.str "ring",.v 7])] .nil],.asg (.n 4) (.call jbW #[.v 0,.v 1,.v 4,.v 6,.v 2])]) jcp)
noncomputable def jdJ:Fun:=⟨"beats_by",["plan", "period", "lengths"],["plan", "period", "lengths", "windows", "beats", "part", "forest", "ring"],(.cons (.asgC 3 (.lc [none] (.n 0) (.e (.v 2)) .nil (.tup #[.v 0,.v 0]))) (.cons (.asg (.n 4) (.bin .Mult (.tup #[.int 0]) (.blt .len #[.ix (.v 0) (.int 0)]))) jcq))⟩
noncomputable def jdG:Fun:=⟨"_law_feed",["_law_script"],["_law_script"],#[(.ret (.dic #[.str "cells",.bin .Add (.mkL (.sl (.v 0) .no (.so (.int 63)))) (.bin .Mult (.lst #[.int 0]) (.blt .int #[.cmp .Eq (.blt .len #[.v 0]) (.int 0)])),.str "at",.int 0,.str "left",.int 0,.str "turn",.int 0]))]⟩
noncomputable def jdI:Fun:=⟨"_law_draw",["_law_feed_here", "_law_many"],["_law_feed_here", "_law_many", "_law_cell", "_law_mixed", "_law_found"],#[.setS (.v 0) (.str "turn") (.bin .Add (.ix (.v 0) (.str "turn")) (.int 1)),(.ite (.cmp .Eq (.ix (.v 0) (.str "left")) (.int 0)) #[.asg (.n 2) (.ix (.ix (.v 0) (.str "cells")) (.bin .Mod (.ix (.v 0) (.str "at")) (.blt .len #[.ix (.v 0) (.str "cells")]))),.setS (.v 0) (.str "at") (.bin .Add (.ix (.v 0) (.str "at")) (.int 1)),.ite (.cmp .Lt (.v 2) (.bin .Pow (.int 10) (.int 18))) #[.asg (.n 3) (.bin .Mod (.bin .Mult (.bin .Add (.bin .Mod (.v 2) (.int 2147483629)) (.bin .Mult (.int 1019) (.ix (.v 0) (.str "turn")))) (.int 48271)) (.int 2147483647)),.asg (.n 3) (.bin .Mod (.bin .Mult (.bin .Add (.bin .FloorDiv (.v 3) (.int 13)) (.bin .Mult (.int 43) (.ix (.v 0) (.str "turn")))) (.int 69621)) (.int 2147483587)),.ret (.bin .Mod (.bin .FloorDiv (.v 3) (.int 11)) (.v 1))] .nil,.setS (.v 0) (.str "left") (.v 2)] .nil),.asg (.n 4) (.bin .Mod (.ix (.v 0) (.str "left")) (.v 1)),.setS (.v 0) (.str "left") (.bin .FloorDiv (.ix (.v 0) (.str "left")) (.v 1)),.ret (.v 4)]⟩
noncomputable def jdf:Fun:=⟨"_law_names",["_law_feed_here", "_law_many"],["_law_feed_here", "_law_many", "_law_some", "_law_first", "_law_step"],#[.asg (.n 2) (.lst #[.str "a",.str "ab",.str "abc",.str "b",.str "ba",.str "works",.str "span",.str "apart",.str "at",.str "none",.str "hold",.str "zzzzzzzz",.str "z",.str "o",.str "find"]),.asg (.n 2) (.bin .Add (.v 2) (.lst #[.str "late",.str "n"])),.asg (.n 3) (.call jaa #[.v 0,.int 17]),.asg (.n 4) (.bin .Add (.int 1) (.call jaa #[.v 0,.int 16])),.ret (.mkT (.lc [none,some 2,some 3,some 4] (.n 0) (.r1 (.v 1)) .nil (.ix (.v 1) (.bin .Mod (.bin .Add (.v 2) (.bin .Mult (.v 3) (.v 0))) (.int 17)))))]⟩
noncomputable def jcy:Fun:=⟨"_law_number",["_law_feed_here", "_law_cycle"],["_law_feed_here", "_law_cycle"],#[(.ret (.ix (.lst #[.int 0,.call jaa #[.v 0,.v 1],.call jaa #[.v 0,.v 1],.call jaa #[.v 0,.bin .Add (.bin .Mult (.int 3) (.v 1)) (.int 1)]]) (.call jaa #[.v 0,.int 4])))]⟩
noncomputable def jdE:Fun:=⟨"_law_span",["_law_feed_here", "_law_works", "_law_cycle"],["_law_feed_here", "_law_works", "_law_cycle", "_law_one", "_law_other", "_law_low", "_law_wide"],#[(.par [3,4] #[.call jaa #[.v 0,.v 1],.call jaa #[.v 0,.v 1]]),.asg (.n 5) (.call jaR #[.v 0,.v 2]),.ite (.cmp .Eq (.call jaa #[.v 0,.int 3]) (.int 0)) #[.ret (.tup #[.str "apart",.v 3,.v 4,.v 5,.call jaR #[.v 0,.v 2]])] .nil,(.asg (.n 6) (.ix (.lst #[.int 0,.int 0,.int 1,.call jaa #[.v 0,.v 2],.bin .Sub (.v 2) (.int 1),.bin .Add (.v 2) (.call jaa #[.v 0,.int 5])]) (.call jaa #[.v 0,.int 6]))),.ret (.tup #[.str "span",.v 3,.v 4,.v 5,.bin .Add (.v 5) (.v 6)])]⟩
noncomputable def jb5:Fun:=⟨"_law_fitting",["_law_feed_here", "_law_beats_here", "_law_cycle"],["_law_feed_here", "_law_beats_here", "_law_cycle", "_law_one", "_law_other", "_law_gap", "_law_low", "_law_length"],#[(.par [3,4] #[.call jaa #[.v 0,.blt .len #[.v 1]],.call jaa #[.v 0,.blt .len #[.v 1]]]),.asg (.n 5) (.bin .Mod (.bin .Sub (.ix (.v 1) (.v 4)) (.ix (.v 1) (.v 3))) (.v 2)),(.ite (.cmp .Eq (.call jaa #[.v 0,.int 3]) (.int 0)) #[(.ret (.tup #[.str "apart",.v 3,.v 4,.call jaa #[.v 0,.bin .Add (.v 5) (.int 1)],.call jaa #[.v 0,.bin .Add (.bin .Sub (.v 2) (.v 5)) (.int 1)]]))] .nil),.asg (.n 6) (.call jaR #[.v 0,.v 2]),.asg (.n 7) (.bin .Add (.v 6) (.bin .Mod (.bin .Sub (.v 5) (.v 6)) (.v 2))),.ret (.tup #[.str "span",.v 3,.v 4,.v 6,.bin .Add (.v 7) (.ix (.lst #[.int 0,.int 0,.int 1,.call jaa #[.v 0,.v 2]]) (.call jaa #[.v 0,.int 4]))])]⟩
noncomputable def jbg:Ss:=#[(.ite (.bop true (.cmp2 .Lt .Lt (.int 0) (.blt .len #[.v 5]) (.int 24)) #[.cmp .Eq (.call jaa #[.v 0,.int 6]) (.int 0)]) #[(.expr (.meth .insert (.v 5) #[.call jaa #[.v 0,.bin .Add (.blt .len #[.v 5]) (.int 1)],.ix (.v 5) (.int 0)]))] .nil),(.ret (.tup #[.call jbJ #[.v 0,.v 1],.mkT (.v 5)]))]
noncomputable def jdF:Fun:=⟨"_law_plan",["_law_feed_here", "_law_works", "_law_most", "_law_cycle"],["_law_feed_here", "_law_works", "_law_most", "_law_cycle", "_law_beats_here", "_law_spans", "_law_k"],(.cons (.asgC 4 (.lc [none,some 0,some 3] (.n 0) (.r1 (.v 1)) .nil (.call jaa #[.v 1,.v 2]))) (.cons (.asg (.n 5) (.lst .nil)) (.cons (.fr (.n 6) (.r1 (.call jaa #[.v 0,.bin .Add (.v 2) (.int 1)])) #[.ite (.cmp .Gt (.call jaa #[.v 0,.int 5]) (.int 0)) #[.expr (.meth .append (.v 5) #[.call jbV #[.v 0,.v 4,.v 3]])] #[.expr (.meth .append (.v 5) #[.call jdv #[.v 0,.v 1,.v 3]])]]) jbg)))⟩
noncomputable def jdg:Fun:=⟨"_law_beats",["_law_feed_here", "_law_works", "_law_cycle"],["_law_feed_here", "_law_works", "_law_cycle"],#[.ret (.mkT (.lc [none,some 0,some 2] (.n 0) (.r1 (.v 1)) .nil (.call jaa #[.v 1,.v 2])))]⟩
noncomputable def jeB:Fun:=⟨"_law_end",["_law_cycle", "_law_span_here"],["_law_cycle", "_law_span_here", "_law_top"],#[.asg (.n 2) (.ife (.cmp .Eq (.ix (.v 1) (.int 0)) (.str "span")) (.ix (.v 1) (.int 4)) (.bin .Sub (.v 0) (.ix (.v 1) (.int 4)))),.ret (.blt .min #[.v 2,.bin .Sub (.bin .Add (.ix (.v 1) (.int 3)) (.v 0)) (.int 1)])]⟩
noncomputable def jdc:Fun:=⟨"_law_whole",["_law_thing", "_law_first", "_law_last"],["_law_thing", "_law_first", "_law_last"],#[(.ret (.bop true (.blt .isi #[.v 0,.ty "int"]) #[.not (.blt .isi #[.v 0,.ty "bool"]),.cmp2 .LtE .LtE (.v 1) (.v 0) (.v 2)]))]⟩
noncomputable def jbP:Ss:=#[.ret (.blt .sorted #[.v 1])]
noncomputable def ja6:Ss:=#[.expr (.meth .append (.v 1) #[.blt .sorted #[.v 8]])]
noncomputable def ja7:Ss:=(.cons (.fr (.n 9) (.e (.v 7)) #[.asg (.n 8) (.bin .Add (.v 8) (.v 9))]) ja6)
noncomputable def ja8:Ss:=(.cons (.asg (.n 8) (.lst .nil)) ja7)
noncomputable def ja9:Ss:=(.cons (.asgC 1 (.lc [none,some 7] (.n 0) (.e (.v 1)) #[.cmp .NotIn (.v 0) (.v 1)] (.v 0))) ja8)
noncomputable def jaC:Ss:=(.cons (.asg (.n 7) (.lc [none,some 3,some 4] (.n 0) (.e (.v 1)) #[.bop false (.cmp .In (.v 1) (.v 0)) #[.cmp .In (.v 2) (.v 0)]] (.v 0))) ja9)
noncomputable def jbQ:Ss:=(.cons (.fr (.t #[.n 2,.n 3,.n 4,.n 5,.n 6]) (.e (.ix (.v 0) (.int 1))) jaC) jbP)
noncomputable def jde:Fun:=⟨"_law_parts",["_law_plan_here"],["_law_plan_here", "_law_found", "_law_word", "_law_one", "_law_other", "_law_low", "_law_high", "_law_mine", "_law_whole_here", "_law_part"],(.cons (.asgC 1 (.lc [none] (.n 0) (.r1 (.blt .len #[.ix (.v 0) (.int 0)])) .nil (.lst #[.v 0]))) jbQ)⟩
noncomputable def jcm:Ss:=#[.asg (.n 3) (.ix (.ix (.v 0) (.int 1)) (.ix (.v 2) (.int 0))),.ret (.ife (.cmp .Eq (.ix (.v 2) (.int 1)) (.int 1)) (.tup #[.ix (.v 3) (.int 1),.ix (.v 3) (.int 2)]) (.tup #[.ix (.v 3) (.int 2),.ix (.v 3) (.int 1)]))]
noncomputable def jcn:Ss:=(.cons (.ite (.bop false (.not (.call jaL #[.ix (.v 2) (.int 0),.int 0,.bin .Sub (.blt .len #[.ix (.v 0) (.int 1)]) (.int 1)])) #[.not (.call jaL #[.ix (.v 2) (.int 1),.neg (.int 1),.int 1]),.cmp .Eq (.ix (.v 2) (.int 1)) (.int 0)]) #[.ret .non] .nil) jcm)
noncomputable def jco:Ss:=(.cons (.ite (.cmp .Eq (.blt .len #[.v 2]) (.int 3)) #[.ite (.bop false (.not (.blt .isi #[.ix (.v 2) (.int 0),.ty "str"])) #[.cmp .NotEq (.ix (.v 2) (.int 0)) (.str "home")]) #[.ret .non] .nil,.ite (.cmp .In (.bl false) (.lc [none,some 1] (.n 0) (.e (.sl (.v 2) (.so (.int 1)) .no)) .nil (.bop true (.call jaL #[.v 0,.int 0,.int 7]) #[.cmp .In (.v 0) (.v 1)]))) #[.ret .non] .nil,.ret (.sl (.v 2) (.so (.int 1)) .no)] .nil) jcn)
noncomputable def jdH:Fun:=⟨"_law_ends",["_law_plan_here", "_law_stays", "_law_entry"],["_law_plan_here", "_law_stays", "_law_entry", "_law_span_here"],(.cons (.ite (.bop false (.not (.blt .isi #[.v 2,.ty "tuple"])) #[.cmp .NotIn (.blt .len #[.v 2]) (.tup #[.int 2,.int 3])]) #[.ret .non] .nil) jco)⟩
noncomputable def jbh:Ss:=#[.ret (.cmp .Eq (.lc [none,some 3] (.n 0) (.r1 (.blt .len #[.v 3])) #[.cmp .NotEq (.ix (.ix (.v 1) (.bin .Sub (.v 0) (.int 1))) (.int 1)) (.ix (.ix (.v 1) (.v 0)) (.int 0))] (.v 0)) (.lst .nil))]
noncomputable def jbi:Ss:=(.cons (.ite (.cmp .In .non (.v 3)) #[.ret (.bl false)] .nil) jbh)
noncomputable def jbj:Ss:=(.cons (.asg (.n 3) (.lc [none,some 0,some 1] (.n 0) (.e (.v 2)) .nil (.call jdy #[.v 1,.v 2,.v 0]))) jbi)
noncomputable def jb4:Fun:=⟨"_law_is_ring",["_law_plan_here", "_law_stays", "_law_thing"],["_law_plan_here", "_law_stays", "_law_thing", "_law_spots"],(.cons (.ite (.bop false (.not (.blt .isi #[.v 2,.ty "tuple"])) #[.not (.cmp2 .LtE .LtE (.int 1) (.blt .len #[.v 2]) (.int 60))]) #[.ret (.bl false)] .nil) jbj)⟩
noncomputable def jaS:Fun:=⟨"_law_without_void",["_law_plan_here", "_law_cycle"],["_law_plan_here", "_law_cycle"],#[.ret (.tup #[.ix (.v 0) (.int 0),.mkT (.lc [none,some 1] (.n 0) (.e (.ix (.v 0) (.int 1))) #[.cmp .LtE (.ix (.v 0) (.int 3)) (.call jc1 #[.v 1,.v 0])] (.v 0))])]⟩
noncomputable def jaF:Ss:=#[.ret (.mkT (.v 4))]
noncomputable def jaG:Ss:=(.cons (.fr (.n 11) (.r1 (.blt .len #[.v 4])) #[.par [8,12] #[.ix (.ix (.ix (.v 1) (.int 1)) (.v 11)) (.int 3),.call jc1 #[.v 2,.ix (.ix (.v 1) (.int 1)) (.v 11)]],.ite (.bop false (.cmp .Gt (.ix (.v 4) (.v 11)) (.v 12)) #[.cmp .Eq (.v 10) (.int 2),.bop true (.cmp .Eq (.v 10) (.int 1)) #[.cmp .Eq (.call jaa #[.v 0,.blt .len #[.v 4]]) (.int 0)]]) #[.setS (.v 4) (.v 11) (.bin .Add (.v 8) (.call jaa #[.v 0,.bin .Add (.bin .Sub (.v 12) (.v 8)) (.int 1)]))] .nil]) jaF)
noncomputable def jaH:Ss:=(.cons (.asg (.n 10) (.call jaa #[.v 0,.int 3])) jaG)
noncomputable def jaI:Ss:=(.cons (.fr (.t #[.n 5,.n 6,.n 7,.n 8,.n 9]) (.e (.ix (.v 1) (.int 1))) #[.expr (.meth .append (.v 4) #[.bin .Add (.v 8) (.bin .Mod (.bin .Sub (.bin .Sub (.ix (.v 3) (.v 7)) (.ix (.v 3) (.v 6))) (.v 8)) (.v 2))])]) jaH)
noncomputable def jaT:Fun:=⟨"_law_some_lengths",["_law_feed_here", "_law_plan_here", "_law_cycle", "_law_beats_here"],["_law_feed_here", "_law_plan_here", "_law_cycle", "_law_beats_here", "_law_found", "_law_word", "_law_one", "_law_other", "_law_low", "_law_high", "_law_way", "_law_s", "_law_end_here"],(.cons (.asg (.n 4) (.lst .nil)) jaI)⟩
noncomputable def jbz:Ss:=#[.ret (.cmp .Eq (.lc [none,some 3] (.n 0) (.e (.call jbI #[.v 0])) #[.cmp .NotEq (.ix (.v 1) (.ix (.v 0) (.int 0))) (.int 0)] (.v 0)) (.lst .nil))]
noncomputable def jbA:Ss:=(.cons (.fr (.t #[.n 4,.n 5]) (.zp (.v 2) (.ix (.v 0) (.int 1))) #[.ite (.cmp .NotEq (.bin .Mod (.bin .Sub (.bin .Add (.ix (.v 3) (.ix (.v 5) (.int 1))) (.v 4)) (.ix (.v 3) (.ix (.v 5) (.int 2)))) (.v 1)) (.int 0)) #[.ret (.bl false)] .nil]) jbz)
noncomputable def jbB:Ss:=(.cons (.ite (.cmp .In (.bl false) (.lc [none,some 1] (.n 0) (.e (.v 3)) .nil (.call jaL #[.v 0,.int 0,.bin .Sub (.v 1) (.int 1)]))) #[.ret (.bl false)] .nil) jbA)
noncomputable def jcz:Fun:=⟨"_law_are_of",["_law_plan_here", "_law_cycle", "_law_lengths", "_law_beats_here"],["_law_plan_here", "_law_cycle", "_law_lengths", "_law_beats_here", "_law_length", "_law_span_here"],(.cons (.ite (.bop false (.not (.blt .isi #[.v 3,.ty "tuple"])) #[.cmp .NotEq (.blt .len #[.v 3]) (.blt .len #[.ix (.v 0) (.int 0)])]) #[.ret (.bl false)] .nil) jbB)⟩
noncomputable def jbN:Ss:=#[.ret (.ife (.cmp .NotEq (.bin .Mod (.blt .sum #[.lc [none,none,some 2] (.t #[.n 0,.n 1]) (.e (.ix (.v 3) (.int 1))) .nil (.bin .Mult (.v 1) (.ix (.v 2) (.v 0)))]) (.v 1)) (.int 0)) (.str "ring") .non)]
noncomputable def jbO:Ss:=(.cons (.ite (.not (.call jbU #[.v 0,.tup .nil,.ix (.v 3) (.int 1)])) #[.ret .non] .nil) jbN)
noncomputable def jaY:Ss:=(.cons (.ite (.cmp .Eq (.ix (.v 3) (.int 0)) (.str "beats")) #[.ret (.ife (.call jct #[.v 0,.v 1,.v 2,.ix (.v 3) (.int 1)]) (.str "beats") .non)] .nil) jbO)
noncomputable def jaZ:Ss:=(.cons (.ite (.bop false (.not (.blt .isi #[.v 3,.ty "tuple"])) #[.cmp .NotEq (.blt .len #[.v 3]) (.int 2),.cmp .NotIn (.ix (.v 3) (.int 0)) (.tup #[.str "beats",.str "ring"])]) #[.ret .non] .nil) jaY)
noncomputable def jdd:Fun:=⟨"_law_right",["_law_plan_here", "_law_cycle", "_law_lengths"],["_law_plan_here", "_law_cycle", "_law_lengths", "_law_found"],(.cons (.asg (.n 3) (.call jcg #[.v 0,.v 1,.v 2])) jaZ)⟩
noncomputable def ja0:Ss:=#[(.ite (.cmp .Eq (.v 10) (.mkL (.v 7))) #[.ite (.cmp .NotEq (.v 9) (.str "beats")) #[.ret (.bl false)] .nil,.asg (.n 16) (.mkL (.v 6)),.fr (.n 17) (.e (.call jbI #[.v 5])) #[.fr (.n 18) (.e (.v 17)) #[.setS (.v 16) (.v 18) (.bin .Mod (.bin .Sub (.ix (.v 6) (.v 18)) (.ix (.v 6) (.ix (.v 17) (.int 0)))) (.v 3))]],.ite (.cmp .NotEq (.blt .repr #[.ix (.call jcg #[.v 5,.v 3,.v 7]) (.int 1)]) (.blt .repr #[.mkT (.v 16)])) #[.ret (.bl false)] .nil] .nil)]
noncomputable def jdp:Ss:=(.cons (.fr (.t #[.n 11,.n 12,.n 13,.n 14,.n 15]) (.e (.ix (.v 5) (.int 1))) #[.expr (.meth .append (.v 10) #[.bin .Add (.v 14) (.bin .Mod (.bin .Sub (.bin .Sub (.ix (.v 6) (.v 13)) (.ix (.v 6) (.v 12))) (.v 14)) (.v 3))])]) ja0)
noncomputable def jca:Ss:=(.cons (.asg (.n 10) (.lst .nil)) jdp)
noncomputable def jcb:Ss:=(.cons (.ite (.bop false (.cmp .Is (.v 9) .non) #[.cmp .NotEq (.blt .repr #[.tup #[.v 5,.v 7]]) (.v 8)]) #[.ret (.bl false)] .nil) jca)
noncomputable def jdq:Ss:=(.cons (.asg (.n 9) (.call jc0 #[.v 5,.v 3,.v 7])) jcb)
noncomputable def jcc:Ss:=(.cons (.asg (.n 8) (.blt .repr #[.tup #[.v 5,.v 7]])) jdq)
noncomputable def jdr:Ss:=(.cons (.asg (.n 7) (.call jaQ #[.v 1,.v 5,.v 3,.v 6])) jcc)
noncomputable def jds:Ss:=(.cons (.asg (.n 6) (.call jc2 #[.v 1,.v 4,.v 3])) jdr)
noncomputable def jcd:Ss:=(.cons (.asg (.n 3) (.ix (.lst #[.int 1,.int 2,.int 3,.int 5,.int 7,.int 12,.int 60,.int 600,.bin .Add (.int 1) (.call jaa #[.v 1,.int 60]),.int 4]) (.call jaa #[.v 1,.int 10]))) (.cons (.asg (.n 4) (.bin .Add (.int 1) (.call jaa #[.v 1,.int 8]))) (.cons (.asg (.n 5) (.call jaP #[(.call jdw #[.v 1,.v 4,.ix (.lst #[.int 3,.int 10,.int 24]) (.call jaa #[.v 1,.int 3]),.v 3]),.v 3])) jds)))
noncomputable def jgj:Ss:=#[.fr (.n 2) (.r1 (.int 4)) jcd,.ret (.bl true)]
noncomputable def jmP:Fun:=⟨"law",["_law_script"],["_law_script", "_law_feed_here", "_law_k", "_law_cycle", "_law_works", "_law_plan_here", "_law_beats_here", "_law_lengths", "_law_kept", "_law_word", "_law_own", "_law_word_here", "_law_one", "_law_other", "_law_low", "_law_high", "_law_due", "_law_part", "_law_work"],(.cons (.asg (.n 1) (.call jdx #[.v 0])) jgj)⟩
noncomputable def T:Tab:=⟨[jeC,jcA,jeA,jdb,jcB,jb6,jbE,jbF,jbs,jb7,jdD,jdJ,jdG,jdI,jdf,jcy,jdE,jb5,jdF,jdg,jeB,jdc,jde,jdH,jb4,jaS,jaT,jcz,jdd,jmP],[],[],[],[],[]⟩
def top (i:Nat):Stmt:=PySem.Challenge.pw_beatplans_k11_whole_beats_by_lengths.main.body.getD i (.Pass ⟨0,0,0,0⟩)
noncomputable abbrev s_ends_of:Stmt:=top 1
noncomputable abbrev s_entry_sums:Stmt:=top 2
noncomputable abbrev s_sums_of:Stmt:=top 3
noncomputable abbrev s_ring_bars:Stmt:=top 4
noncomputable abbrev s_entries_to:Stmt:=top 6
noncomputable abbrev s_forest_from:Stmt:=top 7
noncomputable abbrev s_path_to_root:Stmt:=top 8
noncomputable abbrev s_closing_ring:Stmt:=top 9
noncomputable abbrev s_closing_rings:Stmt:=top 10
noncomputable abbrev s_beats_along:Stmt:=top 11
noncomputable abbrev s_parts_of:Stmt:=top 13
noncomputable abbrev s_beats_by:Stmt:=top 14
noncomputable abbrev s_law_feed:Stmt:=top 16
noncomputable abbrev s_law_draw:Stmt:=top 17
noncomputable abbrev s_law_names:Stmt:=top 18
noncomputable abbrev s_law_number:Stmt:=top 19
noncomputable abbrev s_law_span:Stmt:=top 20
noncomputable abbrev s_law_fitting:Stmt:=top 21
noncomputable abbrev s_law_plan:Stmt:=top 22
noncomputable abbrev s_law_beats:Stmt:=top 23
noncomputable abbrev s_law_end:Stmt:=top 24
noncomputable abbrev s_law_whole:Stmt:=top 25
noncomputable abbrev s_law_parts:Stmt:=top 26
noncomputable abbrev s_law_ends:Stmt:=top 27
noncomputable abbrev s_law_is_ring:Stmt:=top 28
noncomputable abbrev s_law_without_void:Stmt:=top 29
noncomputable abbrev s_law_some_lengths:Stmt:=top 30
noncomputable abbrev s_law_are_of:Stmt:=top 31
noncomputable abbrev s_law_right:Stmt:=top 32
noncomputable abbrev s_law:Stmt:=top 33
end
local macro_rules
 |`(tactic| simp! only[$xs,*])=>`(tactic| try simp only[D_v,T_v,jpB,D_bl,jpJ,jpy,D_ty,T_ty,jpP,jpe,jpC,jpN,jpc,jno,jm8,jpx,jpG,jpM,D_ix,T_ix,D_sl,jpz,jnp,jm9,jpO,jpd,jnn,D_lc,jpI,jo9,jpL,jpb,jpH,jo8,jpF,jo7,jpE,jpD,jpA,jo6,jpK,jpa,jnq,jpQ,D_or,jpf,T_or,O_no,O_so,jpU,jnt,jpS,jnr,jpm,jnd,I_e,I_r1,jne,I_s,jps,jnm,I_dv,I_di,I_zp,I_dk,jpg,jnb,jpl,jnc,jna,jpi,jpk,jpj,S_fr,jph,jkN,S_tr,jpT,jns,jm6,jo5,jm4,jo0,jo3,jm2,jm1,jm3,jo4,jo1,jo2,joZ,joV,joX,joT,W_lt,W_le,W_gt,joS,joW,jmY,joU,joY,W_in,joR,W_is,Y_bl,joN,joO,joM,jpp,joP,jpu,jng,jpt,jpr,jio,jpw,jpv,joQ,jm5,jm0,jmZ,jnj,jnh,jni,jnl,jnk,G_n,G_t,jpq,jnf,sl_0,sl_s,dr_0,dr_s,pk_nil,jjA,jjz,jpn,jpo,jie,joF,jkw,jkv,joG,jkB,jkA,YaF,Yc0,YfO,Ya7,YaB,Yc1,List.set_cons_zero,List.set_cons_succ,Yfh,List.zip_nil_right,List.zip_nil_left,Yd2,List.foldl_nil,List.getElem?_cons_zero,List.getElem?_cons_succ,Option.join_some,ite_true,ite_false,Ybq,YcH,$xs,*])
section
variable {k:Nat}{G:Gp}{Q:K1}{X:KX}
theorem jae {f c:Addr}{m:Int}(hf:Fd G f c)(h0:0<m)(h1:m<1073741824)(q:∀(r:Int) (G':Gp),0<=r->r<m->Fd G' f c->Sm f G G'->Q (.int r) G'):jab T (k+1) jaa [.loc f,.int m] G Q X:=by
 obtain⟨ns,a,l,t,g1,g2,hn⟩:=hf.ex;have fin:∀(z a' l' t':Int),Q (.int (z%m)) (gup G f (.dK (fdU c a' l' t'))):=λz a' l' t'=>q _ _ (Yby z (by omega)) (Ybr z h0) (Fd.put ⟨rfl⟩ g1 g2 hn) Sm.put
 have hlen:0<ns.length:=List.length_pos_iff.mpr hn;have gc:∀kvs,gup G f (.dK kvs) c=some (.lst (ns.map .int)):=λkvs=>by rw[jbf (λz=>by rw[z,g1]at g2;cases g2)];exact g2
 obtain⟨z,hz,ez⟩:=jeL (l:=ns) (r:=a%ns.length) (Yby _ (by omega)) (Ybr _ (by omega))
 refine⟨rfl,?_⟩;simp! only[jdI,jaj,Yaf,ix_d g1 jiM,jhB g1,jaU,jiA,jfF,true_and,jdZ (gc _),Yaa,ix_l (gc _) ((jbu U.int ns _).trans (congrArg _ ez))];have cut:∀(l' a' t':Int),(0<m/\0<m/\m<1073741824/\Q (.int (l'%m)) (gup G f (.dK (fdU c a' (l'/m) t')))):=λl' a' t'=>⟨h0,h0,by omega,fin _ _ _ _⟩
 by_cases hl:l=0
 ·rw[if_pos (by simpa using hl)]
  refine⟨by omega,by constructor<;>decide,?_⟩
  by_cases hc:z<10 ^ Int.toNat 18
  ·rw[if_pos (by simpa using hc)]
   exact⟨by decide,.inl (by decide),.inr (by decide),by decide,by decide,by decide,.inl (by decide),.inr (by decide),by decide,by decide,by decide,h0,fin _ _ _ _⟩
  ·rw[if_neg (by simpa using hc)]
   exact cut _ _ _
 ·rw[if_neg (by simpa using hl)]
  exact cut _ _ _
theorem jjY {a:Addr}{ns:List Int}(ha:G a=some (.fro (ns.map .int)))(hl:ns.length<=63)(q:∀(f c:Addr) (G':Gp),Fd G' f c->Q (.loc f) G'):jab T (k+1) jdx [.loc a] G Q X:=by
 have hcl:(cut ns none (some 63)).length<=63:=by rw[show(63:Int)=((63:Nat):Int)from rfl,jhk];simp;omega
 refine⟨rfl,?_⟩;simp! only[jdG,jaj,Yaf,sl_f ha,jkH];intro p1 G1 n1;rw[it_l n1.at];intro p2 G2 n2;refine⟨by decide,λp3 G3 n3=>?_⟩
 simp! only[jox (n3.sa _ _ (n2.sa _ _ (n1.sa _ _ ha)))];obtain⟨zs,ez,lz,hz⟩:∃zs:List Int,(Yaf (Int.toNat (if decide (((ns.map U.int).length:Int)=0)=true then 1 else 0)) [U.int 0]).flatten=zs.map U.int/\zs.length<=1/\(ns=[]->zs≠[]):=by
  by_cases h:ns=[]
  ·subst h;exact⟨[0],rfl,by decide,λ_=>by simp⟩
  ·refine⟨[],?_,by decide,λz=>absurd z h⟩
   rw[if_neg (by simpa using h)]
   rfl
 refine⟨_,n3.at,by split<;>decide,by split<;>decide,by split<;>decide,λp4 G4 n4=>?_⟩
 rw[ez]at n4;refine⟨_,_,n4.sa _ _ (n3.sa _ _ n2.at),n4.at,?_,λp5 G5 n5=>⟨by decide,λp6 G6 n6=>?_⟩⟩
 ·rw[Yaa,Yaa];exact Yan (Nat.add_le_add hcl lz) (by decide:63+1<=Yai)
 rw[jmh]at n6;rw[<- Yax]at n5;refine q _ p5 _ ⟨_,0,0,0,n6.at,n6.sa _ _ n5.at,λz=>?_⟩;obtain⟨z1,z2⟩:=List.append_eq_nil_iff.mp z;refine hz ?_ z2;rw[show(63:Int)=((63:Nat):Int)from rfl,jhk]at z1;cases ns with
 |nil=>rfl
 |cons _ _=>cases z1
end

structure Nm (x:Str):Prop where
 l8:x.length<=8
 ch:∀c∈x.cps.toList,c<128
structure Spn where
 w:Str
 o:Nat
 t:Nat
 lo:Int
 hi:Int
noncomputable def Spn.u (s:Spn):U:=.tup [.str s.w,.int s.o,.int s.t,.int s.lo,.int s.hi]
structure Spn.Ok (W:Nat)(s:Spn):Prop where
 w:s.w = "apart" \/ s.w = "span"
 o:s.o<W
 t:s.t<W
 lo:0<=s.lo/\s.lo<=9999
 hi:0<=s.hi/\s.hi<=9999
noncomputable def jap (l:List Int):U:=.tup (l.map .int)
theorem jga {x:Str}(h:x = "apart" \/ x = "span"):x.length<=8/\∀c∈x.cps.toList,c<128:=by
 rcases h with rfl|rfl
 ·exact⟨by decide +kernel,by decide +kernel⟩
 ·exact⟨by decide +kernel,by decide +kernel⟩
theorem jiO {i:Int}(h:-100000<=i/\i<=100000):Ft 1921 0 (.int i):=Ft.int (YaO (show i.natAbs<=100000 by omega) (by decide))
theorem Spn.Ok.ft {W:Nat}{s:Spn}(h:s.Ok W)(hW:W<=8):Ft 10000 1 s.u:=by
 have:=h.o;have:=h.t;have:=h.lo;have:=h.hi;refine Ft.tup (n:=1921) (m:=5) (Yag _) (λu hu=>?_) (by decide)
 simp only[YaL,Yay,or_false]at hu;rcases hu with rfl|rfl|rfl|rfl|rfl
 ·exact(Ft.str (m:=8) (jga h.w).1 (jga h.w).2).mono (by decide) (Yag _)
 all_goals exact jiO (by omega)

noncomputable def menu:List Str:=["a", "ab", "abc", "b", "ba", "works", "span", "apart", "at", "none", "hold", "zzzzzzzz", "z", "o", "find", "late", "n"]
theorem jj3:∀x∈menu,Nm x:=by
 have h:∀x∈menu,x.length<=8/\∀c∈x.cps.toList,c<128:=by decide +kernel
 exact λx hx=>⟨(h x hx).1,(h x hx).2⟩
noncomputable def jaf (xs:List Str)(ss:List Spn):U:=.tup [.tup (xs.map .str),.tup (ss.map Spn.u)]
theorem joz {a:Addr}{xs:List U}{i:Int}{v:U}{G:Gp}{Q:K1}(g:G a=some (.lst xs)):jaO .insert (.loc a) [.int i,v] G Q=(0<=i/\i<=xs.length/\xs.length<Yai/\putO G a (.lst (xs.take i.toNat++v::xs.drop i.toNat)) (Q .non)):=by unfold jaO je6;dsimp only;rw[g]
theorem jmd {a:Addr}{xs:List U}{G:Gp}(g:G a=some (.lst xs)):mtU .insert (.loc a) G=some ("list", "list.insert"):=by unfold mtU;dsimp only;rw[g]
section
variable {k:Nat}{G:Gp}{Q:K1}{X:KX}
theorem jhZ {f c:Addr}{m:Nat}(hf:Fd G f c)(h1:m<=8)(q:∀(xs:List Str) (G':Gp),xs.length=m->(∀x∈xs,Nm x)->Fd G' f c->Sm f G G'->Q (.tup (xs.map .str)) G'):jab T (k+2) jbJ [.loc f,.int m] G Q X:=by
 refine⟨rfl,?_⟩;simp! only[jdf,jaj,Yaf];refine⟨by decide,λp G1 n1=>⟨by decide,λp2 G2 n2=>⟨_,_,n2.sa _ _ n1.at,n2.at,by decide,λp3 G3 n3=>?_⟩⟩⟩
 have f3:=((hf.new n1).new n2).new n3;have s3:Sm f G G3:=n1.sa.sm.trans (n2.sa.sm.trans n3.sa.sm);have hp:=((hf.new n1).new n2).away n3;have g3:G3 p3=some (.lst (menu.map .str)):=n3.at
 refine jae f3 (by decide) (by decide) λfirst G4 a4 b4 f4 s4=>jae f4 (by decide) (by decide) λr5 G5 a5 b5 f5 s5=>?_
 have g5:=s5 _ _ hp.1 (s4 _ _ hp.1 g3);simp! only[];refine⟨by omega,by omega,by rw[jaA];exact Yan (show((m:Int)).toNat<=8 by omega) (by decide),?_⟩
 refine jau (λi acc G'=>G'=G5/\∃xs:List Str,acc=xs.map .str/\xs.length=i/\∀x∈xs,Nm x) ?_ ?_ ⟨rfl,[],rfl,rfl,λ_ h=>nomatch h⟩
 ·rintro acc G' ⟨rfl,xs,rfl,hl,hx⟩;rw[jaA]at hl;refine⟨trivial,λp6 G6 n6=>?_⟩;simp! only[it_l n6.at];exact q xs G6 (by omega) hx (f5.new n6) ((s3.trans (s4.trans s5)).nw n6)
 ·rintro i x acc G' K hx ⟨rfl,xs,rfl,hl,hn⟩ hk _;obtain⟨hi,rfl⟩:=jbG hx;simp! only[];obtain⟨y,hy,ey⟩:=jeL (l:=menu) (r:=(first+(1+r5)*(i:Int))%17) (Yby _ (by decide)) (Ybr _ (by decide))
  refine⟨trivial,.inr (by constructor<;>omega),by decide,?_⟩
  rw[ix_l g5 ((jbu U.str menu _).trans (congrArg _ ey))];exact hk _ _ ⟨rfl,xs++[y],by simp,by simp[hl],λz hz=>by
   rcases List.mem_append.mp hz with z'|z'
   ·exact hn z z'
   ·rw[List.mem_singleton.mp z'];exact jj3 y hy⟩
theorem jcX {f c:Addr}{P:Int}(hf:Fd G f c)(h1:1<=P)(h2:P<=600)(q:∀(z:Int) (G':Gp),0<=z->z<=1801->Fd G' f c->Sm f G G'->Q (.int z) G'):jab T (k+2) jaR [.loc f,.int P] G Q X:=by
 refine⟨rfl,?_⟩;simp! only[jcy,jaj,Yaf];refine jae hf (by omega) (by omega) λr1 G1 a1 b1 f1 s1=>jae f1 (by omega) (by omega) λr2 G2 a2 b2 f2 s2=>⟨.inl (by decide),jae f2 (by omega) (by omega) λr3 G3 a3 b3 f3 s3=>⟨by decide,λp G4 n4=>jae (f3.new n4) (by decide) (by decide) λr5 G5 a5 b5 f5 s5=>?_⟩⟩
 refine jb2 [0,r1,r2,r3] (s5 _ _ (f3.away n4).1 n4.at) a5 b5 λz hz=>?_;have:0<=z/\z<=1801:=by simp only[YaL,Yay,or_false]at hz;omega
 exact q z _ this.1 this.2 f5 (((s1.trans (s2.trans s3)).nw n4).trans s5)
theorem jjV {f c:Addr}{P:Int}{W:Nat}(hf:Fd G f c)(h1:1<=P)(h2:P<=600)(w0:0<W)(w8:W<=8)(q:∀(s:Spn) (G':Gp),s.Ok W->Fd G' f c->Sm f G G'->Q s.u G'):jab T (k+3) jdv [.loc f,.int W,.int P] G Q X:=by
 refine⟨rfl,?_⟩;simp! only[jdE,jaj,Yaf];refine jae hf (by omega) (by omega) λo' Ga aa ba fa sa=>jae fa (by omega) (by omega) λt' Gb ab bb fb sb=>?_
 obtain⟨o,rfl⟩:=YaD aa;obtain⟨t,rfl⟩:=YaD ab;refine⟨trivial,?_⟩;refine jcX fb h1 h2 λlo G1 a1 b1 f1 s1=>?_;refine jae f1 (by decide) (by decide) λr G2 a2 b2 f2 s2=>?_
 have S2:=sa.trans (sb.trans (s1.trans s2));simp! only[];by_cases hr:r=0
 ·rw[if_pos (by simpa using hr)]
  refine jcX f2 h1 h2 λhi G3 a3 b3 f3 s3=>⟨by decide,?_⟩
  exact q ⟨"apart",o,t,lo,hi⟩ _ ⟨.inl rfl,by dsimp only;omega,by dsimp only;omega,by dsimp only;omega,by dsimp only;omega⟩ f3 (S2.trans s3)
 ·rw[if_neg (by simpa using hr)]
  refine jae f2 (by omega) (by omega) λr3 G3 a3 b3 f3 s3=>jae f3 (by decide) (by decide) λr4 G4 a4 b4 f4 s4=>⟨by decide,λp G5 n5=>jae (f4.new n5) (by decide) (by decide) λr6 G6 a6 b6 f6 s6=>?_⟩
  refine jb2 [0,0,1,r3,P-1,P+r4] (s6 _ _ (f4.away n5).1 n5.at) a6 b6 λz hz=>?_;have hz':0<=z/\z<=700:=by simp only[YaL,Yay,or_false]at hz;omega
  simp! only[];exact⟨by decide,q ⟨"span",o,t,lo,lo+z⟩ _ ⟨.inr rfl,by dsimp only;omega,by dsimp only;omega,by dsimp only;omega,by dsimp only;omega⟩ f6 ((S2.trans (s3.trans s4)).nw n5 |>.trans s6)⟩
theorem jfX {f c pb:Addr}{P:Int}{W:Nat}{bs:List Int}(hf:Fd G f c)(h1:1<=P)(h2:P<=600)(gb:G pb=some (.lst (bs.map .int)))(hb:pb≠f)(bl:bs.length=W)(w0:0<W)(w8:W<=8)(q:∀(s:Spn) (G':Gp),s.Ok W->(s.w = "span" -> s.lo<=s.hi)->Fd G' f c->Sm f G G'->Q s.u G'):jab T (k+3) jbV [.loc f,.loc pb,.int P] G Q X:=by
 refine⟨rfl,?_⟩;simp! only[jb5,jaj,Yaf,jdZ gb,Yaa,bl];refine jae hf (by omega) (by omega) λo' Ga aa ba fa sa=>?_
 have ga:=sa _ _ hb gb;simp! only[jdZ ga,Yaa,bl];refine jae fa (by omega) (by omega) λt' Gb ab bb fb sb=>?_
 have gb2:=sb _ _ hb ga;obtain⟨o,rfl⟩:=YaD aa;obtain⟨t,rfl⟩:=YaD ab;obtain⟨x,hx,ex⟩:=jeL (l:=bs) (r:=(t:Int)) ab (by omega)
 obtain⟨y,hy,ey⟩:=jeL (l:=bs) (r:=(o:Int)) aa (by omega)
 simp! only[ix_l gb2 ((jbu U.int bs _).trans (congrArg _ ex)),ix_l gb2 ((jbu U.int bs _).trans (congrArg _ ey))];refine⟨trivial,by omega,jae fb (by decide) (by decide) λr G2 a2 b2 f2 s2=>?_⟩
 have S2:=sa.trans (sb.trans s2);obtain⟨gap,hg⟩:∃gap,gap=(x-y)%P:=⟨_,rfl⟩;have g0:0<=gap:=by rw[hg];exact Yby _ (by omega)
 have g1:gap<P:=by rw[hg];exact Ybr _ (by omega)
 rw[<- hg];simp! only[];by_cases hr:r=0
 ·rw[if_pos (by simpa using hr)]
  refine jae f2 (by omega) (by omega) λlo G3 a3 b3 f3 s3=>jae f3 (by omega) (by omega) λhi G4 a4 b4 f4 s4=>⟨by decide,?_⟩
  exact q ⟨"apart",o,t,lo,hi⟩ _ ⟨.inl rfl,by dsimp only;omega,by dsimp only;omega,by dsimp only;omega,by dsimp only;omega⟩ (λz=>absurd (show("apart" : Str) = "span" from z) (by decide +kernel)) f4 (S2.trans (s3.trans s4))
 ·rw[if_neg (by simpa using hr)]
  refine jcX f2 h1 h2 λlo G3 a3 b3 f3 s3=>⟨by omega,jae f3 (by omega) (by omega) λr4 G4 a4 b4 f4 s4=>⟨by decide,λp G5 n5=>jae (f4.new n5) (by decide) (by decide) λr6 G6 a6 b6 f6 s6=>?_⟩⟩
  refine jb2 [0,0,1,r4] (s6 _ _ (f4.away n5).1 n5.at) a6 b6 λz hz=>?_;have hz':0<=z/\z<=700:=by simp only[YaL,Yay,or_false]at hz;omega
  have e0:0<=(gap-lo)%P:=Yby _ (by omega)
  have e1:(gap-lo)%P<P:=Ybr _ (by omega)
  simp! only[];exact⟨by decide,q ⟨"span",o,t,lo,lo+(gap-lo)%P+z⟩ _ ⟨.inr rfl,by dsimp only;omega,by dsimp only;omega,by dsimp only;omega,by dsimp only;omega⟩ (λ_=>by dsimp only;omega) f6 ((S2.trans (s3.trans s4)).nw n5 |>.trans s6)⟩
end

section
variable {k:Nat}{G:Gp}{Q:K1}{X:KX}
theorem jgv {f c p5:Addr}{P m:Int}{W:Nat}{ss:List Spn}{pb:Addr}{o6:Option U}{G0 G3:Gp}(s0:Sm f G G0)(n0:G0 p5=none)(hf:Fd G3 f c)(h5:p5≠f/\p5≠c)(g5:G3 p5=some (.lst (ss.map Spn.u)))(sl:ss.length<=24)(so:∀s∈ss,s.Ok W)(w8:W<=8)(s3:Sm f G G3)
  (q:∀(xs:List Str) (ss:List Spn) (G':Gp),xs.length=W->(∀x∈xs,Nm x)->ss.length<=24->(∀s∈ss,s.Ok W)->Fd G' f c->Sm f G G'->Q (jaf xs ss) G') :
  jaB T.gs (jab T (k+3)) jbg ⟨λ_ G'=>Q .non G',Q,λx _ G'=>X x G'⟩ [some (.loc f),some (.int W),some (.int m),some (.int P),some (.loc pb),some (.loc p5),o6] G3:=by
 have fin:∀(ss:List Spn) (G4:Gp),G4 p5=some (.lst (ss.map Spn.u))->ss.length<=24->(∀s∈ss,s.Ok W)->Fd G4 f c->Sm f G G4->jab T (k+3) jbJ [.loc f,.int W] G4 (λx G1=>itU (.loc p5) G1 λxs _=>0+1+1<=Yai/\Q (.tup [x,.tup xs]) G1) X:=λss G4 g4 l4 o4 f4 s4=>by
  refine jhZ f4 w8 λxs G5 lx nx f5 s5=>?_;rw[it_l (s5 _ _ h5.1 g4)];exact⟨by decide,q xs ss _ lx nx l4 o4 f5 (s4.trans s5)⟩
 simp! only[jbg,jdZ g5,Yaa];by_cases z1:(0:Int)<ss.length
 ·rw[if_pos (by simpa using z1)]
  by_cases z2:(ss.length:Int)<24
  ·rw[if_pos (by simpa using z2)]
   refine jae hf (by decide) (by decide) λr G4 a4 b4 f4 s4=>?_
   have g4:=s4 _ _ h5.1 g5;simp! only[];by_cases hr:r=0
   ·rw[if_pos (by simpa using hr)]
    simp! only[jmd g4,jdZ g4,Yaa];refine jae f4 (by omega) (by omega) λr5 G5 a5 b5 f5 s5=>?_
    have g5':=s5 _ _ h5.1 g4;obtain⟨x,hx⟩:∃x,ss[0]?=some x:=⟨ss[0]'(by omega),Yae _⟩
    have ox:=so x (Yak hx);rw[ix_l g5' (show atI (ss.map Spn.u) 0=some x.u from(jbu Spn.u ss _).trans (congrArg _ (jdj (j:=0) hx))),joz g5'];obtain⟨j,rfl⟩:=YaD a5;refine⟨by omega,by rw[Yaa];omega,by rw[Yaa];exact YaO sl (by decide),λG6 p6=>?_⟩
    have e:(ss.map Spn.u).take (j:Int).toNat++x.u::(ss.map Spn.u).drop (j:Int).toNat=(ss.take j++x::ss.drop j).map Spn.u:=by
     rw[YcH,Yax,List.map_take,YaF,List.map_drop]
    rw[e]at p6;refine fin (ss.take j++x::ss.drop j) G6 p6.at ?_ (λs hs=>?_) (f5.off h5 p6) (Sm.wr s0 n0 (s3.trans (s4.trans s5)) p6)
    ·simp;omega
    ·rcases List.mem_append.mp hs with z|z
     ·exact so s (Ybh z)
     ·rcases YaL.mp z with rfl|z
      ·exact ox
      ·exact so s (List.mem_of_mem_drop z)
   ·rw[if_neg (by simpa using hr)]
    exact fin ss G4 g4 sl so f4 (s3.trans s4)
  ·rw[if_neg (by simpa using z2)]
   exact fin ss G3 g5 sl so hf s3
 ·rw[if_neg (by simpa using z1)]
  exact fin ss G3 g5 sl so hf s3
theorem jjW {f c:Addr}{P m:Int}{W:Nat}(hf:Fd G f c)(h1:1<=P)(h2:P<=600)(w0:0<W)(w8:W<=8)(m0:0<=m)(m1:m<=24)
  (q:∀(xs:List Str) (ss:List Spn) (G':Gp),xs.length=W->(∀x∈xs,Nm x)->ss.length<=24->(∀s∈ss,s.Ok W)->Fd G' f c->Sm f G G'->Q (jaf xs ss) G'):jab T (k+4) jdw [.loc f,.int W,.int m,.int P] G Q X:=by
 refine⟨rfl,?_⟩;simp! only[jdF,jaj,Yaf];refine⟨by omega,by omega,by rw[jaA];exact Yan w8 (by decide),?_⟩
 refine jau (λi acc G'=>Fd G' f c/\Sm f G G'/\∃bs:List Int,acc=bs.map .int/\bs.length=i) ?_ ?_ ⟨hf,Sm.refl,[],rfl,rfl⟩
 ·rintro acc G1 ⟨f1,s1,bs,rfl,hl⟩;rw[jaA]at hl;refine⟨trivial,λpb G2 n2=>?_⟩;simp! only[];refine⟨by decide,λp5 G3 n3=>?_⟩
  have f2:=f1.new n2;have hb:=f1.away n2;have h5:=f2.away n3;have s2:=s1.nw n2;refine jae (f2.new n3) (by omega) (by omega) λm' G4 a4 b4 f4 s4=>?_
  have hb5:p5≠pb:=ja1 n2.at n3.no;refine⟨by omega,by omega,?_⟩
  refine jat (λi ς G'=>∃(ss:List Spn) (o6:Option U),ς=[some (.loc f),some (.int W),some (.int m),some (.int P),some (.loc pb),some (.loc p5),o6]/\Fd G' f c/\Sm f G G'/\G' pb=some (.lst (bs.map .int))/\G' p5=some (.lst (ss.map Spn.u))/\ss.length=i/\∀s∈ss,s.Ok W) ?_ ?_
   ⟨[],_,rfl,f4,(s2.nw n3).trans s4,s4 _ _ hb.1 (n3.sa _ _ n2.at),s4 _ _ h5.1 n3.at,rfl,λ_ h=>nomatch h⟩
  ·rintro ς G5 ⟨ss,o6,rfl,f5,s5,gb,g5,l5,o5⟩;rw[jaA]at l5;exact⟨trivial,jgv s2 n3.no f5 h5 g5 (by omega) o5 w8 s5 q⟩
  ·rintro i x ς G5 K hx ⟨ss,o6,rfl,f5,s5,gb,g5,l5,o5⟩ hk;obtain⟨hi,rfl⟩:=jbG hx;refine⟨trivial,?_⟩;simp! only[];have add:∀(s:Spn) (G6:Gp),s.Ok W->Fd G6 f c->Sm f G5 G6->jaO .append (.loc p5) [s.u] G6 λ_ G1=>K [some (.loc f),some (.int W),some (.int m),some (.int P),some (.loc pb),some (.loc p5),some (.int i)] G1:=λs G6 os f6 s6=>by
    have g6:=s6 _ _ h5.1 g5;rw[jdk g6];refine⟨by rw[Yaa];exact Yat (show ss.length<25 by omega) (by decide),λG7 p7=>?_⟩
    refine hk _ _ ⟨ss++[s],_,rfl,f6.off h5 p7,Sm.wr s2 n3.no (s5.trans s6) p7,p7.sm _ _ (Ne.symm hb5) (s6 _ _ hb.1 gb),by rw[Yax];exact p7.at,by simp[l5],λz hz=>?_⟩
    rcases List.mem_append.mp hz with z'|z'
    ·exact o5 z z'
    ·rw[List.mem_singleton.mp z'];exact os
   refine jae f5 (by decide) (by decide) λr G6 a6 b6 f6 s6=>?_
   have g6:=s6 _ _ h5.1 g5;simp! only[];by_cases hr:0<r
   ·rw[if_pos (by simpa using hr)]
    simp! only[jbe g6];exact jfX f6 h1 h2 (s6 _ _ hb.1 gb) hb.1 hl w0 w8 λs G7 os _ f7 s7=>add s G7 os f7 (s6.trans s7)
   ·rw[if_neg (by simpa using hr)]
    simp! only[jbe g6];exact jjV f6 h1 h2 w0 w8 λs G7 os f7 s7=>add s G7 os f7 (s6.trans s7)
 ·rintro i x acc G1 K hx ⟨f1,s1,bs,rfl,hl⟩ hk _;exact⟨trivial,jae f1 (by omega) (by omega) λr G2 a2 b2 f2 s2=>hk _ _ ⟨f2,s1.trans s2,bs++[r],by simp,by simp[hl]⟩⟩
end

inductive Con (es:List (Int×Int)):Int->Int->Prop
 |refl (x:Int):Con es x x
 |step {x a b:Int}:Con es x a->((a,b)∈es\/(b,a)∈es)->Con es x b
section
variable {es:List (Int×Int)}
theorem Con.trans {x y z:Int}(h:Con es x y)(g:Con es y z):Con es x z:=by
 induction g with
 |refl=>exact h
 |step _ e ih=>exact .step ih e
theorem Con.one {a b:Int}(e:(a,b)∈es\/(b,a)∈es):Con es a b:=.step (.refl a) e
theorem Con.symm {x y:Int}(h:Con es x y):Con es y x:=by
 induction h with
 |refl=>exact .refl _
 |step _ e ih=>exact(Con.one (Or.symm e)).trans ih
end
theorem Con.mono {es es':List (Int×Int)}(h:∀a b,(a,b)∈es->(a,b)∈es'\/(b,a)∈es'){x y:Int}(g:Con es x y):Con es' x y:=by
 induction g with
 |refl=>exact .refl _
 |step _ e ih=>
  rcases e with e|e
  ·exact .step ih (h _ _ e)
  ·exact .step ih (Or.symm (h _ _ e))
theorem Con.closed {es:List (Int×Int)}{S:Int->Prop}(hc:∀a b,S a->((a,b)∈es\/(b,a)∈es)->S b){x y:Int}(h:Con es x y)(hx:S x):S y:=by
 induction h with
 |refl=>exact hx
 |step _ e ih=>exact hc _ _ ih e
abbrev Sl:List Int->List Int->Prop:=λa b=>HT.lexLt a b=true
theorem pw_ext {α:Type}{r:α->α->Prop}(as:∀a b,r a b->r b a->False):∀{l l':List α},l.Pairwise r->l'.Pairwise r->(∀x,x∈l↔x∈l')->l=l'
 |[],[],_,_,_=>rfl
 |[],b::l',_,_,h=>absurd ((h b).mpr (by simp)) (by simp)
 |a::l,[],_,_,h=>absurd ((h a).mp (by simp)) (by simp)
 |a::l,b::l',h1,h2,h=>by
  obtain⟨p1,p2⟩:=List.pairwise_cons.mp h1;obtain⟨q1,q2⟩:=List.pairwise_cons.mp h2;have e:a=b:=by
   rcases YaL.mp ((h a).mp (by simp))with z|z
   ·exact z
   ·rcases YaL.mp ((h b).mpr (by simp))with y|y
    ·exact y.symm
    ·exact(as _ _ (p1 b y) (q1 a z)).elim
  subst e;rw[pw_ext as p2 q2 λx=>?_];constructor
  ·intro hx;rcases YaL.mp ((h x).mp (Yaj _ hx))with z|z
   ·subst z;exact(as _ _ (p1 x hx) (p1 x hx)).elim
   ·exact z
  ·intro hx;rcases YaL.mp ((h x).mpr (Yaj _ hx))with z|z
   ·subst z;exact(as _ _ (q1 x hx) (q1 x hx)).elim
   ·exact z
theorem jmi (a b:Int)(h:a<b)(g:b<a):False:=by omega
theorem jld (a b:List Int)(h:Sl a b)(g:Sl b a):False:=by
 have:=jh8 a b a h g;rw[jj5]at this;cases this
structure IsP (W:Nat)(es:List (Int×Int))(ps:List (List Int)):Prop where
 ne:∀p∈ps,p≠[]
 as:∀p∈ps,p.Pairwise (·< ·)
 bd:∀p∈ps,∀x∈p,0<=x/\x<W
 al:∀x:Int,0<=x->x<W->∃p∈ps,x∈p
 un:∀p∈ps,∀q∈ps,∀x,x∈p->x∈q->p=q
 nd:ps.Nodup
 ed:∀a b,(a,b)∈es->∃p∈ps,a∈p/\b∈p
 co:∀p∈ps,∀x∈p,∀y∈p,Con es x y
theorem IsP.part {W:Nat}{es:List (Int×Int)}{ps:List (List Int)}(h:IsP W es ps){p:List Int}(hp:p∈ps){x y:Int}(hx:x∈p)(g:Con es x y):y∈p:=by
 refine g.closed (S:=λz=>z∈p) (λa b ha e=>?_) hx;rcases e with e|e
 ·obtain⟨q,hq,h1,h2⟩:=h.ed a b e;rw[h.un p hp q hq a ha h1];exact h2
 ·obtain⟨q,hq,h1,h2⟩:=h.ed b a e;rw[h.un p hp q hq a ha h2];exact h1
theorem IsP.uniq {W:Nat}{es es':List (Int×Int)}{ps qs:List (List Int)}(h:IsP W es ps)(g:IsP W es' qs)(h1:∀{x y},Con es x y->Con es' x y)(h2:∀{x y},Con es' x y->Con es x y)(s1:ps.Pairwise Sl)(s2:qs.Pairwise Sl):ps=qs:=by
 have half:∀{es es':List (Int×Int)} {ps qs:List (List Int)},IsP W es ps->IsP W es' qs->(∀{x y},Con es x y->Con es' x y)->(∀{x y},Con es' x y->Con es x y)->∀p,p∈ps->p∈qs:=λ{es es' ps qs} h g h1 h2 p hp=>by
  obtain⟨x,r,rfl⟩:∃x r,p=x::r:=by
   cases p with
   |nil=>exact absurd rfl (h.ne _ hp)
   |cons x r=>exact⟨x,r,rfl⟩
  have bx:=h.bd _ hp x (by simp)
  obtain⟨q,hq,hx⟩:=g.al x bx.1 bx.2;have e:x::r=q:=pw_ext jmi (h.as _ hp) (g.as _ hq) λy=>⟨λhy=>g.part hq hx (h1 (h.co _ hp x (by simp) y hy)),λhy=>h.part hp (by simp) (h2 (g.co _ hq x hx y hy))⟩
  rw[e];exact hq
 exact pw_ext jld s1 s2 λp=>⟨half h g h1 h2 p,half g h h2 h1 p⟩
theorem jhu {α:Type}{r:α->α->Prop}(tr:∀a b c,r a b->r b c->r a c):∀{l:List α},(∀i (h:i+1<l.length),r l[i] l[i+1])->l.Pairwise r
 |[],_=>.nil
 |[a],_=>YcN _ _
 |a::b::l,h=>by
  have ih:=jhu tr (l:=b::l) λi hi=>h (i+1) (by simpa using hi)
  refine List.pairwise_cons.mpr ⟨λx hx=>?_,ih⟩;have h0:=h 0 (by simp)
  rcases YaL.mp hx with rfl|hx
  ·exact h0
  ·exact tr _ _ _ h0 ((List.pairwise_cons.mp ih).1 x hx)
theorem jel {α:Type}(l:List α)(d:α){π:List Nat}(h:π.Perm (YaW l.length)):(π.map λi=>l.getD i d).Perm l:=by
 have:=h.map λi=>l.getD i d;have e:(YaW l.length).map (λi=>l.getD i d)=l:=by
  refine YdH (by simp) λi h1 h2=>?_
  simp[Ya1,h2]
 rw[e]at this;exact this
section
variable {G:Gp}{Q:K1}{a:Addr}
theorem jla {ns:List Int}(g:G a=some (.lst (ns.map .int)))(nd:ns.Nodup)(h64:ns.length<64)(q:∀zs:List Int,zs.Perm ns->zs.Pairwise (·< ·)->newO G (.lst (zs.map .int)) Q):jbl [.loc a] G Q:=by
 unfold jbl;dsimp only;rw[g];refine⟨ns.map λn=>[n],?_,by rw[Yaa];exact Yat h64 (by decide),by rw[Yaa,Yaa],.inl ⟨ns,rfl,rfl⟩,λπ hp hs=>?_⟩
 ·exact List.pairwise_map.mpr (nd.imp λh z=>h (YdS z).1)
 ·rw[Yaa]at hp hs;have hfl:∀i∈π,i<ns.length:=λi hi=>List.mem_range.mp (hp.mem_iff.mp hi);have pl:π.length=ns.length:=by rw[hp.length_eq,Yca]
  have e:(π.map λi=>(ns.map U.int).getD i .non)=(π.map λi=>ns.getD i 0).map .int:=by
   rw[Ya0];refine Ydf λi hi=>?_;simp[Ya1,hfl i hi]
  rw[e];refine q _ (jel ns 0 hp) (jhu (r:=λa b:Int=>a<b) (λ_ _ _ h g=>Int.lt_trans h g) λi hi=>?_);have hi:i+1<ns.length:=by simpa[pl]using hi
  have h1:i<π.length:=by omega
  have h2:i+1<π.length:=by omega
  have b1:=hfl _ (YbW h1);have b2:=hfl _ (YbW h2);have:=hs i hi;rw[show π.getD i 0=π[i] by simp[Ya1,h1],show π.getD (i+1) 0=π[i+1] by simp[Ya1,h2]]at this
  have k1:(ns.map λn=>[n]).getD π[i] []=[ns[π[i]]]:=by simp[Ya1,b1]
  have k2:(ns.map λn=>[n]).getD π[i+1] []=[ns[π[i+1]]]:=by simp[Ya1,b2]
  rw[k1,k2]at this;have l1:HT.lexLt [ns[π[i]]] [ns[π[i+1]]]=decide (ns[π[i]]<ns[π[i+1]]):=by
   rw[HT.lexLt_cons];split
   ·rename_i z;rw[z,HT.lexLt_nil_nil];simp
   ·rfl
  rw[l1]at this;simpa[Ya1,b1,b2]using of_decide_eq_true this
structure Ls (G:Gp)(p:Addr)(as:List Addr)(ks:List (List Int)):Prop where
 gp:G p=some (.lst (as.map .loc))
 l:as.length=ks.length
 ga:∀(i:Nat) a k,as[i]?=some a->ks[i]?=some k->G a=some (.lst (k.map .int))
end

theorem atM {α:Type}{f:α->U}{l:List α}{n:Nat}{a:α}(h:l[n]?=some a):atI (l.map f) (n:Int)=some (f a):=(jbu f l _).trans (congrArg _ (jdj h))
noncomputable def edg (ss:List Spn):List (Int×Int):=ss.map λs=>((s.o:Int),(s.t:Int))
theorem jd2 {G:Gp}{a:Addr}{o:MO}(g:G a=some o):G=gup G a o:=by
 funext b;unfold gup;split
 ·rename_i z;rw[z];exact g
 ·rfl
theorem jax:∀(W:Nat) (l:List Int),l.Nodup->(∀x∈l,0<=x/\x<W)->l.length<=W
 |0,l,_,h=>by
  cases l with
  |nil=>exact Yag _
  |cons a l=>have:=h a (by simp);omega
 |W+1,l,nd,h=>by
  have ih:=jax W (l.erase (W:Int)) (nd.erase _) λx hx=>by
   obtain⟨h1,h2⟩:=nd.mem_erase_iff.mp hx;have:=h x h2;omega
  by_cases hm:(W:Int)∈l
  ·rw[List.length_erase_of_mem hm]at ih;omega
  ·rw[List.erase_of_not_mem hm]at ih;omega
abbrev Ent:=Nat×Int
noncomputable def eu (e:Ent):U:=.tup [.int e.1,.int e.2]
noncomputable def eS (ss:List Spn)(e:Ent):Int:=match ss[e.1]? with|some s=>if e.2=1 then s.o else s.t|none=>0
noncomputable def eD (ss:List Spn)(e:Ent):Int:=match ss[e.1]? with|some s=>if e.2=1 then s.t else s.o|none=>0
def EOk (ss:List Spn)(e:Ent):Prop:=e.1<ss.length/\(e.2=1\/e.2=-1)
noncomputable def trU (ss:List Spn)(e:Ent):U:=.tup [.int e.1,.int e.2,.int (eS ss e)]
section
variable {ss:List Spn}{s:Spn}{i:Nat}
theorem eS_1 (h:ss[i]?=some s):eS ss (i,1)=s.o:=by unfold eS;dsimp only;rw[h];rfl
theorem eS_m (h:ss[i]?=some s):eS ss (i,-1)=s.t:=by unfold eS;dsimp only;rw[h];rfl
theorem eD_1 (h:ss[i]?=some s):eD ss (i,1)=s.t:=by unfold eD;dsimp only;rw[h];rfl
theorem eD_m (h:ss[i]?=some s):eD ss (i,-1)=s.o:=by unfold eD;dsimp only;rw[h];rfl
theorem EOk.get {e:Ent}(h:EOk ss e):∃s,ss[e.1]?=some s/\((e=(e.1,1)/\eS ss e=s.o/\eD ss e=s.t)\/(e=(e.1,-1)/\eS ss e=s.t/\eD ss e=s.o)):=by
 obtain⟨j,w⟩:=e;refine⟨ss[j]'h.1,Yae h.1,?_⟩;rcases h.2 with z|z
 ·have z:w=1:=z;subst z;exact .inl ⟨rfl,eS_1 (Yae h.1),eD_1 (Yae h.1)⟩
 ·have z:w=-1:=z;subst z;exact .inr ⟨rfl,eS_m (Yae h.1),eD_m (Yae h.1)⟩
theorem EOk.adj {e:Ent}(h:EOk ss e):(eS ss e,eD ss e)∈edg ss\/(eD ss e,eS ss e)∈edg ss:=by
 obtain⟨s,hs,z⟩:=h.get;have hm:((s.o:Int),(s.t:Int))∈edg ss:=List.mem_map.mpr ⟨s,Yak hs,rfl⟩;rcases z with⟨_,h1,h2⟩|⟨_,h1,h2⟩
 ·rw[h1,h2];exact .inl hm
 ·rw[h1,h2];exact .inr hm
end
section
variable {k:Nat}{G:Gp}{Q:K1}{X:KX}{xs:List Str}{ss:List Spn}{W:Nat}
theorem jfY {w:Nat}(sl:ss.length<=24)(q:∀(p:Addr) (tr:List Ent) (G':Gp),Sa G G'->G p=none->G' p=some (.lst (tr.map (trU ss)))->tr.length<=48->(∀e∈tr,EOk ss e/\eD ss e=w)->
  (∀j s,ss[j]?=some s->(s.t=w->(j,1)∈tr)/\(s.o=w->(j,-1)∈tr))->Q (.loc p) G'):jab T (k+1) jcv [jaf xs ss,.int w] G Q X:=by
 refine⟨rfl,?_⟩;simp! only[jcB,jaj,Yaf];refine⟨by decide,λp G1 n1=>?_⟩
 simp! only[jaf,ix_t (jaN _ _ _)];refine jat (λi ς G'=>∃(tr:List Ent) (o3 o4 o5 o6 o7 o8:Option U),ς=[some (jaf xs ss),some (.int w),some (.loc p),o3,o4,o5,o6,o7,o8]/\G'=gup G1 p (.lst (tr.map (trU ss)))/\tr.length<=2*i/\(∀e∈tr,EOk ss e/\eD ss e=w)/\∀j s,j<i->ss[j]?=some s->(s.t=w->(j,1)∈tr)/\(s.o=w->(j,-1)∈tr)) ?_ ?_ ⟨[],_,_,_,_,_,_,rfl,jd2 n1.at,Yag _,λ_ h=>(nomatch h),λj s h=>by omega⟩
 ·rintro ς G2 ⟨tr,o3,o4,o5,o6,o7,o8,rfl,rfl,hl,he,hz⟩;rw[jcN,Yaa]at hl hz;refine⟨trivial,?_⟩;simp! only[];refine q p tr _ (λb o hb=>?_) n1.no jac (by omega) he λj s e=>hz j s (List.getElem?_eq_some_iff.mp e).1 e
  rw[jbf (λz=>by rw[z,n1.no]at hb;cases hb)]
  exact n1.sa _ _ hb
 ·rintro i x ς G2 K hx ⟨tr,o3,o4,o5,o6,o7,o8,rfl,rfl,hl,he,hz⟩ hk;obtain⟨u,hu,rfl⟩:=jcO hx;rw[Yal]at hu;cases es:ss[i]? with
  |none=>rw[es]at hu;cases hu
  |some s=>
   rw[es]at hu;have hu:=(Yar hu).symm;subst hu;have il:i<ss.length:=(List.getElem?_eq_some_iff.mp es).1;refine⟨trivial,?_⟩;simp! only[Spn.u,jbe jac,jdk jac,jaU,ja2];refine⟨trivial,trivial,?_⟩;have second:∀tr':List Ent,tr'.length<=2*i+1->(∀e∈tr',EOk ss e/\eD ss e=w)->(∀e∈tr,e∈tr')->(s.t=w->(i,1)∈tr')->(if decide ((s.o:Int)=(w:Int))=true then
     0+1+1+1<=Yai/\(match mtU .append (.loc p) (gup G1 p (.lst (tr'.map (trU ss))))with
      |some _=>jaO .append (.loc p) [U.tup [.int ((0+i:Nat):Int),.int (-1),.int s.t]] (gup G1 p (.lst (tr'.map (trU ss)))) λ_ G'=>K [some (jaf xs ss),some (.int w),some (.loc p),some (.int ((0+i:Nat):Int)),some (.str s.w),some (.int s.o),some (.int s.t),some (.int s.lo),some (.int s.hi)] G'
      |none=>False)
     else K [some (jaf xs ss),some (.int w),some (.loc p),some (.int ((0+i:Nat):Int)),some (.str s.w),some (.int s.o),some (.int s.t),some (.int s.lo),some (.int s.hi)] (gup G1 p (.lst (tr'.map (trU ss))))):=λtr' hl' he' hs' ht'=>by
    by_cases c:s.o=w
    ·rw[if_pos (by simp;omega),jbe jac,jdk jac,jaU,ja2]
     refine⟨by decide,by rw[Yaa];exact YaO (show tr'.length<=48 by omega) (by decide),hk _ _ ⟨tr'++[(i,-1)],_,_,_,_,_,_,rfl,by rw[Yax];simp[trU,eS_m es],by simp;omega,λe h=>?_,λj s' hj ej=>?_⟩⟩
     ·rcases List.mem_append.mp h with h|h
      ·exact he' e h
      ·rw[List.mem_singleton.mp h,eD_m es];exact⟨⟨il,.inr rfl⟩,by omega⟩
     ·by_cases e:j=i
      ·subst e;rw[es]at ej;cases ej;exact⟨λh=>Yau _ (ht' h),λ_=>Yas _ (List.mem_singleton.mpr rfl)⟩
      ·have:=hz j s' (by omega) ej
       exact⟨λh=>Yau _ (hs' _ (this.1 h)),λh=>Yau _ (hs' _ (this.2 h))⟩
    ·rw[if_neg (by simp;omega)]
     refine hk _ _ ⟨tr',_,_,_,_,_,_,rfl,rfl,by omega,he',λj s' hj ej=>?_⟩
     by_cases e:j=i
     ·subst e;rw[es]at ej;cases ej;exact⟨ht',λh=>absurd h c⟩
     ·have:=hz j s' (by omega) ej
      exact⟨λh=>hs' _ (this.1 h),λh=>hs' _ (this.2 h)⟩
   by_cases c:s.t=w
   ·rw[if_pos (by simp;omega)]
    refine⟨by decide,by rw[Yaa];exact YaO (show tr.length<=48 by omega) (by decide),?_⟩
    have:=second (tr++[(i,1)]) (by simp;omega) (λe h=>by
     rcases List.mem_append.mp h with h|h
     ·exact he e h
     ·rw[List.mem_singleton.mp h,eD_1 es];exact⟨⟨il,.inl rfl⟩,by omega⟩) (λe h=>Yau _ h) λ_=>Yas _ (List.mem_singleton.mpr rfl)
    rw[jbe jac,jdk jac,jaU,ja2,Yax]at this;simp only[YaF,Yc0,trU,eS_1 es]at this ⊢;simpa using this
   ·rw[if_neg (by simp;omega)]
    have:=second tr (by omega) he (λ_ h=>h) λh=>absurd h c
    rw[jbe jac,jdk jac,jaU,ja2]at this;exact this
end

theorem jle {a:Addr}{kvs:List (Key×U)}{z:Int}{v:U}{G:Gp}{Q:Gp->Prop}(g:G a=some (.dK kvs)):setU (.loc a) (.int z) v G Q=(kvs.length<Yai/\putO G a (.dK (dPut kvs (.inl z) v)) Q):=by unfold setU;dsimp only;rw[g];rfl
theorem jdC (z:Int)(l:List Int):((l.map U.int).any λy=>eqF y (.int z))=decide (z∈l):=by
 rw[Ybk,YfP,decide_eq_true_eq];constructor
 ·rintro⟨y,hy,e⟩;obtain⟨x,hx,rfl⟩:=List.mem_map.mp hy;have:x=z:=by simpa[eqF]using e
  rw[<- this];exact hx
 ·intro h;exact⟨.int z,List.mem_map.mpr ⟨z,h,rfl⟩,by simp[eqF]⟩
theorem jbw (l:List Int):(l.map U.int).all flat=true:=by simp[flat]
structure Rch (W:Nat)(es:List (Int×Int))(w:Nat)(rs:List Int):Prop where
 nd:((w:Int)::rs).Nodup
 bd:∀x∈(w:Int)::rs,0<=x/\x<W
 co:∀x∈(w:Int)::rs,Con es w x
noncomputable def fkv (fs:List (Int×Ent)):List (Key×U):=fs.map λf=>(Sum.inl f.1,eu f.2)
noncomputable def fky (fs:List (Int×Ent)):List Int:=fs.map (·.1)
structure Fst (W:Nat)(ss:List Spn)(w:Nat)(fs:List (Int×Ent)):Prop where
 nd:((w:Int)::fky fs).Nodup
 bd:∀x∈(w:Int)::fky fs,0<=x/\x<W
 en:∀j f,fs[j]?=some f->EOk ss f.2/\eS ss f.2=f.1/\eD ss f.2∈(w:Int)::fky (fs.take j)
section
variable {W:Nat}{ss:List Spn}{w:Nat}{fs:List (Int×Ent)}
theorem jb3 {j:Nat}{x:Int}(h:x∈fky (fs.take j)):∃i f,i<j/\fs[i]?=some f/\f.1=x:=by
 obtain⟨f,hf,rfl⟩:=List.mem_map.mp h;obtain⟨i,hi,e⟩:=YaQ hf;rw[Ybn]at hi;refine⟨i,f,by omega,?_,rfl⟩
 rw[<- e,Yfw];exact Yae (by omega)
theorem jc9 {j:Nat}{f:Int×Ent}(h:fs[j]?=some f):f.1∈fky fs:=List.mem_map.mpr ⟨f,Yak h,rfl⟩
theorem jg8 {j:Nat}{x:Int}(h:x∈(w:Int)::fky (fs.take j)):x∈(w:Int)::fky fs:=by
 rcases YaL.mp h with z|z
 ·rw[z];simp
 ·obtain⟨i,f,_,e,rfl⟩:=jb3 z;exact Yaj _ (jc9 e)
theorem Fst.con (h:Fst W ss w fs):∀(n j:Nat) (f:Int×Ent),j<n->fs[j]?=some f->Con (edg ss) w f.1
 |0,_,_,hj,_=>by omega
 |n+1,j,f,hj,e=>by
  obtain⟨e1,e2,e3⟩:=h.en j f e;have:Con (edg ss) w (eD ss f.2):=by
   rcases YaL.mp e3 with z|z
   ·rw[z];exact .refl _
   ·obtain⟨i,g,hi,ei,eg⟩:=jb3 z;rw[<- eg];exact h.con n i g (by omega) ei
  rw[<- e2];exact .step this (Or.symm e1.adj)
theorem Fst.rch (h:Fst W ss w fs):Rch W (edg ss) w (fky fs):=⟨h.nd,h.bd,λx hx=>by
 rcases YaL.mp hx with z|z
 ·rw[z];exact .refl _
 ·obtain⟨f,hf,rfl⟩:=List.mem_map.mp z;obtain⟨j,hj,e⟩:=YaQ hf;exact h.con (j+1) j f (by omega) (by rw[Yae hj,e])⟩
theorem Fst.add (h:Fst W ss w fs){e:Ent}(he:EOk ss e)(hd:eD ss e∈(w:Int)::fky fs)(hs:0<=eS ss e/\eS ss e<W)(hn:eS ss e∉(w:Int)::fky fs):Fst W ss w (fs++[(eS ss e,e)]):=by
 have ek:(w:Int)::fky (fs++[(eS ss e,e)])=((w:Int)::fky fs)++[eS ss e]:=by simp[fky]
 refine⟨?_,λx hx=>?_,λj f ej=>?_⟩
 ·rw[ek];refine List.nodup_append.mpr ⟨h.nd,by simp,λa ha b hb=>?_⟩
  rw[List.mem_singleton.mp hb];exact λz=>hn (z ▸ ha)
 ·rw[ek]at hx;rcases List.mem_append.mp hx with z|z
  ·exact h.bd x z
  ·rw[List.mem_singleton.mp z];exact hs
 ·by_cases hj:j<fs.length
  ·rw[Ybc hj]at ej;rw[YdF (by omega)]
   exact h.en j f ej
  ·have hl:=(List.getElem?_eq_some_iff.mp ej).1;rw[YaJ,YeE]at hl;have:j=fs.length:=by omega
   subst this;rw[Ycl (Yag _),YeR]at ej;cases ej;refine⟨he,rfl,?_⟩;rw[YdF (Yag _),YaI];exact hd
theorem jkz (hw:w<W):Fst W ss w []:=⟨by simp[fky],λx hx=>by rw[show((w:Int)::fky [])=[(w:Int)]from rfl]at hx;rw[List.mem_singleton.mp hx];omega,λj f e=>by simp at e⟩
theorem jjr {kvs:List (Key×U)}{z:Int}{v:U}(hn:∀kv∈kvs,kv.1≠Sum.inl z):dPut kvs (.inl z) v=kvs++[(.inl z,v)]:=by
 unfold dPut;rw[if_neg λh'=>?_];obtain⟨kv,hkv,e⟩:=YfP.mp h';exact hn kv hkv (of_decide_eq_true e)
end
section
variable {k:Nat}{G:Gp}{Q:K1}{X:KX}{xs:List Str}{ss:List Spn}{W:Nat}
theorem jmI {W:Nat}(so:∀s∈ss,s.Ok W):∀a b,(a,b)∈edg ss->(0<=a/\a<W)/\0<=b/\b<W:=λa b h=>by
 obtain⟨s,hs,e⟩:=List.mem_map.mp h;have o:=so s hs;have o1:=o.o;have o2:=o.t;obtain⟨e1,e2⟩:=Ycw e;omega
def Clo (ss:List Spn)(w:Nat)(rs:List Int):Prop:=∀x y,x∈(w:Int)::rs->((x,y)∈edg ss\/(y,x)∈edg ss)->y∈(w:Int)::rs
theorem jdt {w:Nat}{r:U}(so:∀s∈ss,s.Ok W)(sl:ss.length<=24)(hw:w<W)(w8:W<=8)(hr:∀G1,Sa G G1->∀k:List U->Prop,k [.int w]->itU r G1 λxs _=>k xs)
  (q:∀(pf:Addr) (fs:List (Int×Ent)) (G':Gp),Sa G G'->G pf=none->G' pf=some (.dK (fkv fs))->Fst W ss w fs->Clo ss w (fky fs)->Q (.loc pf) G') :
  jab T (k+2) jaJ [jaf xs ss,r] G Q X:=by
 refine⟨rfl,?_⟩;simp! only[jb6,jaj,Yaf];refine⟨by decide,λpf G1 n1=>?_⟩
 simp! only[];refine hr G1 n1.sa _ ?_;intro pr G2 n2;simp! only[jbk];have hfr:pf≠pr:=Ne.symm (ja1 n1.at n2.no);have frame:∀{Ga Gb:Gp} {p:Addr} {o:MO},(p=pf\/p=pr)->Sa G Ga->Put Ga p o Gb->Sa G Gb:=λ{Ga Gb p o} hp s w b u e=>w.sm _ _ (λz=>by
  rcases hp with rfl|rfl
  ·rw[z,n1.no]at e;cases e
  ·rw[z]at e;have:=n1.sa _ _ e;rw[n2.no]at this;cases this) (s b u e)
 rw[S_wh];refine⟨λn ς G'=>∃(fs:List (Int×Ent)) (i:Nat) (o5 o6 o7:Option U),ς=[some (jaf xs ss),some r,some (.loc pf),some (.loc pr),some (.int i),o5,o6,o7]/\n=W-i/\Sa G G'/\G' pf=some (.dK (fkv fs))/\G' pr=some (.lst (((w:Int)::fky fs).map .int))/\Fst W ss w fs/\i<=fs.length+1/\
   ∀j x y,j<i->((w:Int)::fky fs)[j]?=some x->((x,y)∈edg ss\/(y,x)∈edg ss)->y∈(w:Int)::fky fs,⟨_,[],0,_,_,_,rfl,rfl,n1.sa.trans n2.sa,n2.sa _ _ n1.at,n2.at,jkz hw,by simp,λj x y h=>by omega⟩,?_⟩
 rintro n ς G3 ⟨fs,i,o5,o6,o7,rfl,rfl,s3,gf,gr,rc,il,cl⟩;have rl:=jax W _ rc.nd rc.bd;simp only[fky,YaB,Yaa]at rl;have kl:(fky fs).length=fs.length:=Yaa _;simp! only[jdZ gr,Yaa,YaB,kl];by_cases c:(i:Int)<((fs.length+1:Nat):Int)
 ·rw[if_pos (by simpa using c)]
  have hi:i<((w:Int)::fky fs).length:=by rw[YaB,kl];omega
  obtain⟨x,hx⟩:∃x,((w:Int)::fky fs)[i]?=some x:=⟨_,Yae hi⟩;have bx:=rc.bd x (Yak hx);obtain⟨xn,rfl⟩:=YaD bx.1;rw[ix_l gr (show atI (((w:Int)::fky fs).map U.int) (i:Int)=some (.int (xn:Int))from atM hx)];refine jfY sl λpe tr G4 s4 ne g4 tl te tm=>?_;rw[it_l g4];have hpe1:pe≠pf:=λz=>by rw[z,gf]at ne;cases ne
  have hpe2:pe≠pr:=λz=>by rw[z,gr]at ne;cases ne
  refine jat (λj ς G'=>∃(fs':List (Int×Ent)) (o5 o6 o7:Option U),ς=[some (jaf xs ss),some r,some (.loc pf),some (.loc pr),some (.int i),o5,o6,o7]/\Sa G G'/\G' pe=some (.lst (tr.map (trU ss)))/\G' pf=some (.dK (fkv fs'))/\G' pr=some (.lst (((w:Int)::fky fs').map .int))/\Fst W ss w fs'/\(∃ext,fs'=fs++ext)/\∀e∈tr.take j,eS ss e∈(w:Int)::fky fs')
   ?_ ?_ ⟨fs,_,_,_,rfl,s3.trans s4,g4,s4 _ _ gf,s4 _ _ gr,rc,⟨[],by simp⟩,λe he=>by simp at he⟩
  ·rintro ς G5 ⟨fs',o5,o6,o7,rfl,s5,ge,gf',gr',rc',⟨ext,hext⟩,hm⟩;rw[Yaa,YaI]at hm;refine⟨by unfold lsG;rw[ge],?_⟩
   simp! only[];have ll:fs'.length=fs.length+ext.length:=by rw[hext,YaJ]
   refine⟨W-(i+1),by omega,fs',i+1,_,_,_,rfl,rfl,s5,gf',gr',rc',by omega,λj x' y hj hx' e=>?_⟩
   have pre:((w:Int)::fky fs')[j]?=((w:Int)::fky fs)[j]?:=by
    rw[hext,show((w:Int)::fky (fs++ext))=((w:Int)::fky fs)++fky ext by simp[fky],Ybc (by rw[YaB,kl];omega)]
   rw[pre]at hx';have up:∀z,z∈(w:Int)::fky fs->z∈(w:Int)::fky fs':=λz hz=>by
    rw[hext,show((w:Int)::fky (fs++ext))=((w:Int)::fky fs)++fky ext by simp[fky]]
    exact Yau _ hz
   by_cases ej:j=i
   ·subst ej;rw[hx]at hx';cases hx';rcases e with e|e
    ·obtain⟨s,hs,es⟩:=List.mem_map.mp e;obtain⟨e1,e2⟩:=Ycw es;obtain⟨jj,hjj,ejj⟩:=YaQ hs;have hg:ss[jj]?=some s:=by rw[Yae hjj,ejj]
     have:=hm _ ((tm jj s hg).2 (by omega))
     rw[eS_m hg,e2]at this;exact this
    ·obtain⟨s,hs,es⟩:=List.mem_map.mp e;obtain⟨e1,e2⟩:=Ycw es;obtain⟨jj,hjj,ejj⟩:=YaQ hs;have hg:ss[jj]?=some s:=by rw[Yae hjj,ejj]
     have:=hm _ ((tm jj s hg).1 (by omega))
     rw[eS_1 hg,e1]at this;exact this
   ·exact up _ (cl j x' y (by omega) hx' e)
  ·rintro j u ς G5 K hu ⟨fs',o5,o6,o7,rfl,s5,ge,gf',gr',rc',⟨ext,hext⟩,hm⟩ hk2;rw[Yal]at hu;cases et:tr[j]? with
   |none=>rw[et]at hu;cases hu
   |some e=>
    rw[et]at hu;have hu:=(Yar hu).symm;subst hu;refine⟨by unfold lsG;rw[ge],?_⟩
    obtain⟨oe,ed⟩:=te e (Yak et);have rl':=jax W _ rc'.nd rc'.bd;simp only[fky,YaB,Yaa]at rl';have hx':(xn:Int)∈(w:Int)::fky fs':=by
     rw[hext,show((w:Int)::fky (fs++ext))=((w:Int)::fky fs)++fky ext by simp[fky]]
     exact Yau _ (Yak hx)
    simp! only[trU];refine⟨trivial,in_l gr' rfl (jbw _) ?_⟩;rw[jdC];by_cases cz:eS ss e∈(w:Int)::fky fs'
    ·rw[if_neg (by rw[decide_eq_true cz];decide)]
     refine hk2 _ _ ⟨fs',_,_,_,rfl,s5,ge,gf',gr',rc',⟨ext,hext⟩,λe' he'=>?_⟩;rw[YaS,et]at he';rcases List.mem_append.mp he' with z|z
     ·exact hm e' z
     ·rw[List.mem_singleton.mp z];exact cz
    ·rw[if_pos (by rw[decide_eq_false cz];decide),jle gf']
     have fl:(fkv fs').length=fs'.length:=Yaa _;refine⟨by decide,by rw[fl];exact YaO (show fs'.length<=8 by omega) (by decide),λG6 p6=>?_⟩
     have gr6:=p6.sm _ _ (Ne.symm hfr) gr';simp! only[jbe gr6,jdk gr6];refine⟨YaO (show _<=9 by simp[fky];omega) (by decide),λG7 p7=>?_⟩
     have bz:0<=eS ss e/\eS ss e<(W:Int):=by
      rcases oe.adj with z|z
      ·exact(jmI so _ _ z).1
      ·exact(jmI so _ _ z).2
     have pn:dPut (fkv fs') (.inl (eS ss e)) (.tup [.int e.1,.int e.2])=fkv (fs'++[(eS ss e,e)]):=by
      rw[jjr λkv hkv z=>?_]
      ·simp[fkv,eu]
      ·obtain⟨f,hf,rfl⟩:=List.mem_map.mp hkv;have z:=Sum.inl.inj z;exact cz (Yaj _ (List.mem_map.mpr ⟨f,hf,z⟩))
     rw[pn]at p6;refine hk2 _ _ ⟨fs'++[(eS ss e,e)],_,_,_,rfl,frame (.inr rfl) (frame (.inl rfl) s5 p6) p7,p7.sm _ _ hpe2 (p6.sm _ _ hpe1 ge),p7.sm _ _ hfr p6.at,?_,rc'.add oe (by rw[ed];exact hx') bz cz,⟨ext++[(eS ss e,e)],by rw[hext,Yds]⟩,λe' he'=>?_⟩
     ·have:=p7.at
      rw[this];simp[fky]
     ·rw[YaS,et]at he';rw[show((w:Int)::fky (fs'++[(eS ss e,e)]))=((w:Int)::fky fs')++[eS ss e] by simp[fky]]
      rcases List.mem_append.mp he' with z|z
      ·exact Yau _ (hm e' z)
      ·rw[List.mem_singleton.mp z];exact Yas _ (List.mem_singleton.mpr rfl)
 ·rw[if_neg (by simpa using c)]
  refine q pf fs G3 s3 n1.no gf rc λx y hx e=>?_;obtain⟨j,hj,ej⟩:=YaQ hx;refine cl j x y ?_ (by rw[Yae hj,ej]) e
  rw[YaB,kl]at hj;omega
theorem jgE {w:Nat}{pr0:Addr}(so:∀s∈ss,s.Ok W)(sl:ss.length<=24)(hw:w<W)(w8:W<=8)(g0:G pr0=some (.lst [.int w]))
  (q:∀(pf:Addr) (kvs:List (Key×U)) (rs:List Int) (G':Gp),Sa G G'->G' pf=some (.dK kvs)->kvs.map (·.1)=rs.map (λx=>(Sum.inl x:Key))->Rch W (edg ss) w rs->(∀x y,x∈(w:Int)::rs->((x,y)∈edg ss\/(y,x)∈edg ss)->y∈(w:Int)::rs)->Q (.loc pf) G') :
  jab T (k+2) jaJ [jaf xs ss,.loc pr0] G Q X:=
 jdt so sl hw w8 (λG1 s1 k h=>by rw[it_l (s1 _ _ g0)];exact h) λpf fs G' s' _ g' f' c'=>q pf (fkv fs) (fky fs) G' s' g' (by simp[fkv,fky]) f'.rch c'
end

theorem jme {a:Addr}{xs:List U}{G:Gp}(g:G a=some (.lst xs)):mtU .extend (.loc a) G=some ("list", "list.extend"):=by unfold mtU;dsimp only;rw[g]
theorem joI {a b:Addr}{xs ys:List U}{G:Gp}{Q:K1}(g:G a=some (.lst xs))(g':G b=some (.lst ys)):jaO .extend (.loc a) [.loc b] G Q=(xs.length+ys.length<=Yai/\putO G a (.lst (xs++ys)) (Q .non)):=by unfold jaO je8;dsimp only;rw[g,g']
theorem jou {a:Addr}{kvs:List (Key×U)}{ns:List Int}{G:Gp}{Q:K1}(g:G a=some (.dK kvs))(h:kvs.map (·.1)=ns.map (λz=>(Sum.inl z:Key)))(q:newO G (.lst (ns.map .int)) Q):mkDU (.loc a) G Q:=by unfold mkDU;dsimp only;rw[g];exact⟨ns,h,q⟩
noncomputable def jiz (ps:List (List Int)):U:=.tup (ps.map jap)
structure Pp (W:Nat)(es:List (Int×Int))(i:Nat)(ps:List (List Int))(pl:List Int):Prop where
 hd:∀p∈ps,∃h r,p=h::r/\h<(i:Int)
 as:∀p∈ps,p.Pairwise (·< ·)
 bd:∀p∈ps,∀x∈p,0<=x/\x<W
 co:∀p∈ps,∀x∈p,∀y∈p,Con es x y
 cl:∀p∈ps,∀x∈p,∀y,Con es x y->y∈p
 so:ps.Pairwise Sl
 me:∀x,x∈pl↔∃p∈ps,x∈p
 up:∀x:Int,0<=x->x<i->x∈pl
 l1:ps.length<=i
 l2:pl.length<=8*i
section
variable {W:Nat}{es:List (Int×Int)}
theorem Pp.nil:Pp W es 0 [] []:=⟨λ_ h=>(nomatch h),λ_ h=>(nomatch h),λ_ h=>(nomatch h),λ_ h=>(nomatch h),λ_ h=>(nomatch h),.nil,λx=>by simp,λx h1 h2=>by omega,Yag _,Yag _⟩
section
variable {i:Nat}{ps:List (List Int)}{pl:List Int}
theorem Pp.skip (h:Pp W es i ps pl)(hi:(i:Int)∈pl):Pp W es (i+1) ps pl:=by
 refine⟨λp hp=>?_,h.as,h.bd,h.co,h.cl,h.so,h.me,λx h1 h2=>?_,by have:=h.l1;omega,by have:=h.l2;omega⟩
 ·obtain⟨a,r,e,l⟩:=h.hd p hp;exact⟨a,r,e,by omega⟩
 ·by_cases e:x=i
  ·rw[e];exact hi
  ·exact h.up x h1 (by omega)
theorem Pp.add (h:Pp W es i ps pl)(hi:(i:Int)∉pl)(w8:W<=8){rs zs:List Int}(rc:Rch W es i rs)(cl:∀x y,x∈(i:Int)::rs->((x,y)∈es\/(y,x)∈es)->y∈(i:Int)::rs)
  (hp:zs.Perm ((i:Int)::rs)) (hs:zs.Pairwise (·< ·)):Pp W es (i+1) (ps++[zs]) (pl++zs):=by
 have mz:∀y,y∈zs↔y∈(i:Int)::rs:=λy=>hp.mem_iff;have zc:∀x∈zs,∀y,Con es x y->y∈zs:=λx hx y g=>(mz y).mpr (g.closed (S:=λz=>z∈(i:Int)::rs) (λa b ha e=>cl a b ha e) ((mz x).mp hx));have iz:(i:Int)∈zs:=(mz _).mpr (by simp)
 have low:∀y∈zs,(i:Int)<=y:=λy hy=>by
  by_cases c:(i:Int)<=y
  ·exact c
  ·have by0:=rc.bd y ((mz y).mp hy);obtain⟨p,hp',hyp⟩:=(h.me y).mp (h.up y by0.1 (by omega))
   exact absurd ((h.me _).mpr ⟨p,hp',h.cl p hp' y hyp i (rc.co y ((mz y).mp hy)).symm⟩) hi
 obtain⟨r,ez⟩:∃r,zs=(i:Int)::r:=by
  cases zs with
  |nil=>cases iz
  |cons a r=>
   refine⟨r,?_⟩;rcases YaL.mp iz with z|z
   ·rw[z]
   ·have:=(List.pairwise_cons.mp hs).1 _ z;have:=low a (by simp)
    omega
 have lz:zs.length<=8:=by
  rw[hp.length_eq];exact Yan (jax W _ rc.nd rc.bd) w8
 have one:∀{P:List Int->Prop},(∀p∈ps,P p)->P zs->∀p∈ps++[zs],P p:=λ{P} h1 h2 p hp=>by
  rcases List.mem_append.mp hp with z|z
  ·exact h1 p z
  ·rw[List.mem_singleton.mp z];exact h2
 refine⟨one (λp hp=>?_) ⟨_,r,ez,by omega⟩,one h.as hs,one h.bd λx hx=>rc.bd x ((mz x).mp hx),one h.co λx hx y hy=>(rc.co x ((mz x).mp hx)).symm.trans (rc.co y ((mz y).mp hy)),one h.cl zc,?_,λx=>?_,λx h1 h2=>?_,by have:=h.l1;simp;omega,by have:=h.l2;simp;omega⟩
 ·obtain⟨a,r,e,l⟩:=h.hd p hp;exact⟨a,r,e,by omega⟩
 ·refine List.pairwise_append.mpr ⟨h.so,YcN _ _,λp hp z hz=>?_⟩;rw[List.mem_singleton.mp hz,ez];obtain⟨a,r',e,l⟩:=h.hd p hp;rw[e];show HT.lexLt _ _=true;rw[HT.lexLt_cons,if_neg (by omega)]
  exact decide_eq_true l
 ·rw[List.mem_append,h.me x];constructor
  ·rintro(⟨p,hp,hx⟩|hx)
   ·exact⟨p,Yau _ hp,hx⟩
   ·exact⟨zs,Yas _ (List.mem_singleton.mpr rfl),hx⟩
  ·rintro⟨p,hp,hx⟩;rcases List.mem_append.mp hp with z|z
   ·exact .inl ⟨p,z,hx⟩
   ·rw[List.mem_singleton.mp z]at hx;exact .inr hx
 ·by_cases e:x=i
  ·rw[e];exact Yas _ iz
  ·exact Yau _ (h.up x h1 (by omega))
end
theorem Pp.isP {ps:List (List Int)}{pl:List Int}(h:Pp W es W ps pl)(ebd:∀a b,(a,b)∈es->0<=a/\a<W):IsP W es ps:=by
 refine⟨λp hp=>?_,h.as,h.bd,λx h1 h2=>(h.me x).mp (h.up x h1 h2),λp hp q hq x h1 h2=>?_,?_,λa b e=>?_,h.co⟩
 ·obtain⟨a,r,e,_⟩:=h.hd p hp;rw[e];simp
 ·exact pw_ext jmi (h.as p hp) (h.as q hq) λy=>⟨λhy=>h.cl q hq x h2 y (h.co p hp x h1 y hy),λhy=>h.cl p hp x h1 y (h.co q hq x h2 y hy)⟩
 ·exact h.so.imp λ{a b} g e=>by rw[e]at g;exact jld _ _ g g
 ·have b0:=ebd a b e;obtain⟨p,hp,ha⟩:=(h.me a).mp (h.up a b0.1 b0.2);exact⟨p,hp,ha,h.cl p hp a ha b (Con.one (.inl e))⟩
end
section
variable {k:Nat}{G:Gp}{Q:K1}{X:KX}{xs:List Str}{ss:List Spn}
theorem jmJ {W:Nat}(so:∀s∈ss,s.Ok W):∀a b,(a,b)∈edg ss->(0<=a/\a<W)/\0<=b/\b<W:=λa b h=>by
 obtain⟨s,hs,e⟩:=List.mem_map.mp h;have o:=so s hs;have o1:=o.o;have o2:=o.t;obtain⟨e1,e2⟩:=Ycw e;omega
theorem jeX (so:∀s∈ss,s.Ok xs.length)(sl:ss.length<=24)(w8:xs.length<=8)(q:∀(ps:List (List Int)) (G':Gp),IsP xs.length (edg ss) ps->ps.Pairwise Sl->ps.length<=8->Sa G G'->Q (jiz ps) G'):jab T (k+3) jdu [jaf xs ss] G Q X:=by
 refine⟨rfl,?_⟩;simp! only[jdD,jaj,Yaf];refine⟨by decide,λpp G1 n1=>?_⟩
 simp! only[];refine⟨by decide,λpl G2 n2=>?_⟩
 have hne:pl≠pp:=ja1 n1.at n2.no;have frame:∀{Ga Gb:Gp} {p:Addr} {o:MO},(p=pp\/p=pl)->Sa G Ga->Put Ga p o Gb->Sa G Gb:=λ{Ga Gb p o} hp s w b u e=>w.sm _ _ (λz=>by
  rcases hp with rfl|rfl
  ·rw[z,n1.no]at e;cases e
  ·rw[z]at e;have:=n1.sa _ _ e;rw[n2.no]at this;cases this) (s b u e)
 simp! only[jcl,jaf,ix_t (jci _ _),Yaa];refine⟨by omega,by omega,?_⟩
 refine jat (λi ς G'=>∃(ps:List (List Int)) (ls:List Int) (o3 o4:Option U),ς=[some (jaf xs ss),some (.loc pp),some (.loc pl),o3,o4]/\Sa G G'/\G' pp=some (.lst (ps.map jap))/\G' pl=some (.lst (ls.map .int))/\Pp xs.length (edg ss) i ps ls) ?_ ?_ ⟨[],[],_,_,rfl,n1.sa.trans n2.sa,n2.sa _ _ n1.at,n2.at,Pp.nil⟩
 ·rintro ς G3 ⟨ps,ls,o3,o4,rfl,s3,gp,gl,h⟩;rw[jaA]at h;refine⟨trivial,?_⟩;simp! only[it_l gp];exact q ps _ (h.isP λa b e=>(jmJ so a b e).1) h.so (by have:=h.l1;omega) s3
 ·rintro i x ς G3 K hx ⟨ps,ls,o3,o4,rfl,s3,gp,gl,h⟩ hk;obtain⟨hi,rfl⟩:=jbG hx;refine⟨trivial,?_⟩;simp! only[];refine in_l gl rfl (jbw _) ?_;rw[jdC];by_cases c:(i:Int)∈ls
  ·rw[if_neg (by rw[decide_eq_true c];decide)]
   exact hk _ _ ⟨ps,ls,_,_,rfl,s3,gp,gl,h.skip c⟩
  ·rw[if_pos (by rw[decide_eq_false c];decide)]
   refine⟨by decide,λp4 G4 n4=>⟨by decide,λp5 G5 n5=>?_⟩⟩
   refine jgE so sl hi w8 n5.at λpf kvs rs G6 s6 gf hkv rc cl=>?_;refine jou gf hkv λp7 G7 n7=>?_;have g4:=n7.sa _ _ (s6 _ _ (n5.sa _ _ n4.at));have rl:=jax _ _ rc.nd rc.bd;simp only[YaB]at rl;refine⟨_,_,g4,n7.at,Yan (show _<=9 by simp;omega) (by decide),λp8 G8 n8=>?_⟩
   have e8:[U.int (i:Int)]++rs.map .int=((i:Int)::rs).map .int:=rfl;rw[e8]at n8;simp! only[];refine jla n8.at rc.nd (by simp;omega) λzs hp hs p9 G9 n9=>?_
   have s8:Sa G3 G8:=(((n4.sa.trans n5.sa).trans s6).trans n7.sa).trans n8.sa;have s9:Sa G3 G9:=s8.trans n9.sa;have q1:p9≠pl:=ja1 (s8 _ _ gl) n9.no;have q2:p9≠pp:=ja1 (s8 _ _ gp) n9.no;have gp9:=s9 _ _ gp;have gl9:=s9 _ _ gl;have h':=h.add c w8 rc cl hp hs;have lz:zs.length<=8:=by rw[hp.length_eq];simp;omega
   have l2:=h.l2;have l1:=h.l1;simp! only[jme gl9,joI gl9 n9.at];refine⟨Yan (show _<=100 by simp;omega) (by decide),λGa pa=>?_⟩
   have gpa:=pa.sm _ _ (Ne.symm hne) gp9;have g9a:=pa.sm _ _ q1 n9.at
   simp! only[jbe gpa,it_l g9a,jdk gpa];refine⟨by rw[Yaa];exact YaO (show ps.length<=8 by omega) (by decide),λGb pb=>?_⟩
   refine hk _ _ ⟨ps++[zs],ls++zs,_,_,rfl,frame (.inl rfl) (frame (.inr rfl) (s3.trans s9) pa) pb,?_,?_,h'⟩
   ·rw[Yax];exact pb.at
   ·rw[Yax];exact pb.sm _ _ hne pa.at
end

noncomputable def hit (o t:Int)(k:List Int):Bool:=decide (o∈k)||decide (t∈k)
theorem jbq {o t:Int}{k:List Int}:hit o t k=true↔o∈k\/t∈k:=by unfold hit;simp
section
variable {W:Nat}{es:List (Int×Int)}{ks:List (List Int)}
theorem IsP.perm {ks':List (List Int)}(h:IsP W es ks)(p:ks'.Perm ks):IsP W es ks':=by
 have m:∀k,k∈ks'↔k∈ks:=λk=>p.mem_iff;refine⟨λk hk=>h.ne k ((m k).mp hk),λk hk=>h.as k ((m k).mp hk),λk hk=>h.bd k ((m k).mp hk),λx h1 h2=>?_,λk hk q hq=>h.un k ((m k).mp hk) q ((m q).mp hq),p.nodup_iff.mpr h.nd,λa b e=>?_,λk hk=>h.co k ((m k).mp hk)⟩
 ·obtain⟨k,hk,hx⟩:=h.al x h1 h2;exact⟨k,(m k).mpr hk,hx⟩
 ·obtain⟨k,hk,hx⟩:=h.ed a b e;exact⟨k,(m k).mpr hk,hx⟩
theorem IsP.zero:IsP W [] ((YaW W).map λ(i:Nat)=>[(i:Int)]):=by
 have m:∀k,k∈(YaW W).map (λ(i:Nat)=>[(i:Int)])↔∃i:Nat,i<W/\k=[(i:Int)]:=λk=>by
  rw[List.mem_map];constructor
  ·rintro⟨i,hi,rfl⟩;exact⟨i,List.mem_range.mp hi,rfl⟩
  ·rintro⟨i,hi,rfl⟩;exact⟨i,List.mem_range.mpr hi,rfl⟩
 refine⟨λk hk=>?_,λk hk=>?_,λk hk x hx=>?_,λx h1 h2=>?_,λk hk q hq x h1 h2=>?_,?_,λ_ _ h=>(nomatch h),λk hk x hx y hy=>?_⟩
 ·obtain⟨i,_,rfl⟩:=(m k).mp hk;simp
 ·obtain⟨i,_,rfl⟩:=(m k).mp hk;exact YcN _ _
 ·obtain⟨i,hi,rfl⟩:=(m k).mp hk;rw[List.mem_singleton.mp hx];omega
 ·obtain⟨n,rfl⟩:=YaD h1;exact⟨[(n:Int)],(m _).mpr ⟨n,by omega,rfl⟩,by simp⟩
 ·obtain⟨i,_,rfl⟩:=(m k).mp hk;obtain⟨j,_,rfl⟩:=(m q).mp hq;rw[<- List.mem_singleton.mp h1,<- List.mem_singleton.mp h2]
 ·refine List.pairwise_map.mpr (List.nodup_range.imp λ{a b} h e=>h ?_);have:=(YdS e).1;omega
 ·obtain⟨i,_,rfl⟩:=(m k).mp hk;rw[List.mem_singleton.mp hx,List.mem_singleton.mp hy];exact .refl _
theorem IsP.flat (h:IsP W es ks){o t:Int}:(ks.filter (hit o t)).flatten.Nodup/\∀x∈(ks.filter (hit o t)).flatten,0<=x/\x<W:=by
 refine⟨List.pairwise_flatten.mpr ⟨λl hl=>(h.as l (List.mem_filter.mp hl).1).imp λ{a b} g e=>by omega,?_⟩,λx hx=>?_⟩
 ·refine(h.nd.sublist Ye2).imp_of_mem λ{a b} ha hb hne x hx y hy e=>hne ?_;exact h.un a (List.mem_filter.mp ha).1 b (List.mem_filter.mp hb).1 x hx (e ▸ hy)
 ·obtain⟨l,hl,hx⟩:=List.mem_flatten.mp hx;exact h.bd l (List.mem_filter.mp hl).1 x hx
theorem IsP.step (h:IsP W es ks){o t:Int}(ho:0<=o/\o<W)(ht:0<=t/\t<W){zs:List Int}(hp:zs.Perm (ks.filter (hit o t)).flatten)(hs:zs.Pairwise (·< ·)):IsP W (es++[(o,t)]) (ks.filter (λk=>!hit o t k)++[zs]):=by
 have mz:∀x,x∈zs↔∃k∈ks,hit o t k=true/\x∈k:=λx=>by
  rw[hp.mem_iff,List.mem_flatten];constructor
  ·rintro⟨l,hl,hx⟩;exact⟨l,(List.mem_filter.mp hl).1,(List.mem_filter.mp hl).2,hx⟩
  ·rintro⟨l,h1,h2,hx⟩;exact⟨l,List.mem_filter.mpr ⟨h1,h2⟩,hx⟩
 have mf:∀k,k∈ks.filter (λk=>!hit o t k)↔k∈ks/\¬hit o t k=true:=λk=>by rw[List.mem_filter];simp
 obtain⟨ko,hko,oko⟩:=h.al o ho.1 ho.2;obtain⟨kt,hkt,tkt⟩:=h.al t ht.1 ht.2;have oz:o∈zs:=(mz o).mpr ⟨ko,hko,jbq.mpr (.inl oko),oko⟩;have tz:t∈zs:=(mz t).mpr ⟨kt,hkt,jbq.mpr (.inr tkt),tkt⟩;have up:∀{x y},Con es x y->Con (es++[(o,t)]) x y:=λg=>g.mono λa b e=>.inl (Yau _ e);have ot:Con (es++[(o,t)]) o t:=Con.one (.inl (Yas _ (List.mem_singleton.mpr rfl)));have zo:∀x∈zs,Con (es++[(o,t)]) o x:=λx hx=>by
  obtain⟨k,hk,hh,hxk⟩:=(mz x).mp hx;rcases jbq.mp hh with z|z
  ·exact up (h.co k hk o z x hxk)
  ·exact ot.trans (up (h.co k hk t z x hxk))
 have one:∀{P:List Int->Prop},(∀k∈ks,¬hit o t k=true->P k)->P zs->∀p∈ks.filter (λk=>!hit o t k)++[zs],P p:=λ{P} h1 h2 p hp=>by
  rcases List.mem_append.mp hp with z|z
  ·exact h1 p ((mf p).mp z).1 ((mf p).mp z).2
  ·rw[List.mem_singleton.mp z];exact h2
 have put:∀{k:List Int},k∈ks->∀{P:List Int->Prop},P k->(hit o t k=true->P zs)->∃p∈ks.filter (λk=>!hit o t k)++[zs],P p:=λ{k} hk {P} h1 h2=>by
  by_cases c:hit o t k=true
  ·exact⟨zs,Yas _ (List.mem_singleton.mpr rfl),h2 c⟩
  ·exact⟨k,Yau _ ((mf k).mpr ⟨hk,c⟩),h1⟩
 refine⟨one (λk hk _=>h.ne k hk) (λz=>by rw[z]at oz;cases oz),one (λk hk _=>h.as k hk) hs,one (λk hk _=>h.bd k hk) λx hx=>?_,λx h1 h2=>?_,?_,?_,λa b e=>?_,one (λk hk _ x hx y hy=>up (h.co k hk x hx y hy)) λx hx y hy=>(zo x hx).symm.trans (zo y hy)⟩
 ·obtain⟨k,hk,_,hxk⟩:=(mz x).mp hx;exact h.bd k hk x hxk
 ·obtain⟨k,hk,hx⟩:=h.al x h1 h2;exact put hk (P:=λp=>x∈p) hx λc=>(mz x).mpr ⟨k,hk,c,hx⟩
 ·have no:∀k∈ks,¬hit o t k=true->∀x,x∈k->x∈zs->False:=λk hk c x hx hz=>by
   obtain⟨k',hk',c',hx'⟩:=(mz x).mp hz;rw[h.un k hk k' hk' x hx hx']at c;exact c c'
  refine one (λk hk c=>one (λq hq _ x h1 h2=>h.un k hk q hq x h1 h2) λx h1 h2=>(no k hk c x h1 h2).elim) (one (λq hq c x h1 h2=>(no q hq c x h2 h1).elim) λ_ _ _=>rfl)
 ·refine List.nodup_append.mpr ⟨h.nd.sublist Ye2,by simp,λa ha b hb e=>?_⟩
  rw[List.mem_singleton.mp hb]at e;rw[e]at ha;exact((mf zs).mp ha).2 (jbq.mpr (.inl oz))
 ·rcases List.mem_append.mp e with e|e
  ·obtain⟨k,hk,ha,hb⟩:=h.ed a b e;exact put hk (P:=λp=>a∈p/\b∈p) ⟨ha,hb⟩ λc=>⟨(mz a).mpr ⟨k,hk,c,ha⟩,(mz b).mpr ⟨k,hk,c,hb⟩⟩
  ·have e:=List.mem_singleton.mp e;obtain⟨rfl,rfl⟩:=Ycw e;exact⟨zs,Yas _ (List.mem_singleton.mpr rfl),oz,tz⟩
theorem IsP.fewer (h:IsP W es ks){o t:Int}(ho:0<=o/\o<W):(ks.filter (λk=>!hit o t k)).length<ks.length:=by
 obtain⟨ko,hko,oko⟩:=h.al o ho.1 ho.2;have:=jbq (t:=t) |>.mpr (.inl oko);exact List.length_filter_lt_length_iff_exists.mpr ⟨ko,hko,by simp[this]⟩
end
structure Lq (G:Gp)(p:Addr)(el:List (Addr×List Int)):Prop where
 gp:G p=some (.lst (el.map λe=>.loc e.1))
 ga:∀e∈el,G e.1=some (.lst (e.2.map .int))
theorem Lq.sa {G G':Gp}{p:Addr}{el:List (Addr×List Int)}(h:Lq G p el)(s:Sa G G'):Lq G' p el:=⟨s _ _ h.gp,λe he=>s _ _ (h.ga e he)⟩
theorem Lq.ls {G:Gp}{p:Addr}{el:List (Addr×List Int)}(h:Lq G p el):Ls G p (el.map (·.1)) (el.map (·.2)):=by
 refine⟨by rw[h.gp,Ya0];rfl,by simp,λi a k e1 e2=>?_⟩
 rw[Yal]at e1 e2;cases e:el[i]? with
 |none=>rw[e]at e1;cases e1
 |some x=>
  rw[e]at e1 e2;cases e1;cases e2;exact h.ga x (Yak e)
theorem jch {G:Gp}:∀l:List Int,DUs G (l.map .int) (l.map .int)
 |[]=>.nil
 |_::r=>.cons (.int _) (jch r)
theorem jbR (l:List Int):Small (.list (l.map .int)):=⟨(jbp l).1,by show Yb1 (l.map .int)+1<=100;rw[(jbp l).2.1];decide⟩
theorem jkq {G:Gp}{b p:Addr}{kx:List Int}{el:List (Addr×List Int)}{k:Bool->Prop}(gb:G b=some (.lst (kx.map .int)))(h:Lq G p el)(q:k (decide (kx∈el.map (·.2)))):inU (.loc b) (.loc p) G k:=by
 unfold inU;dsimp only;rw[h.gp];refine .inr ⟨.list (kx.map .int),el.map λe=>.list (e.2.map .int),.lst (by unfold lsG;rw[gb]) (jch _),?_,jbR kx,λe he=>?_,?_⟩
 ·have ga:=h.ga;clear h q
  induction el with
  |nil=>exact .nil
  |cons e el ih=>exact .cons (.lst (by unfold lsG;rw[ga e Yaw]) (jch _)) (ih λe he=>ga e (Yaj _ he))
 ·obtain⟨z,_,rfl⟩:=List.mem_map.mp he;exact jbR z.2
 ·have:(el.map λe=>PyData.list (e.2.map .int)).any (λe=>YaG e (.list (kx.map .int)))=decide (kx∈el.map (·.2)):=by
   rw[Ybk,YfP,decide_eq_true_eq];constructor
   ·rintro⟨d,hd,e⟩;obtain⟨z,hz,rfl⟩:=List.mem_map.mp hd;rw[jd4]at e;exact List.mem_map.mpr ⟨z,hz,of_decide_eq_true e⟩
   ·intro hm;obtain⟨z,hz,e⟩:=List.mem_map.mp hm;exact⟨_,List.mem_map.mpr ⟨z,hz,rfl⟩,by rw[jd4];exact decide_eq_true e⟩
  rw[this];exact q
theorem jcK {G G':Gp}{p:Addr}(s:Sa G G')(h:G' p=none):G p=none:=by
 cases e:G p with
 |none=>rfl
 |some o=>rw[s _ _ e]at h;cases h
section
variable {k:Nat}{G:Gp}{Q:K1}{X:KX}{xs:List Str}{ss:List Spn}
theorem jfT {W:Nat}{s:Spn}{K:Sg->Gp->Prop}{u0 u2 u5 u6 o7 o8 o9:Option U}{p:Addr}{el:List (Addr×List Int)}{es:List (Int×Int)}{G3:Gp}(os:s.Ok W)(w8:W<=8)(hq:Lq G3 p el)(hP:IsP W es (el.map (·.2)))(ll:el.length<=8)(s3:Sa G G3)(fr:∀e∈el,G e.1=none)
  (kk:∀(p':Addr) (el':List (Addr×List Int)) (G':Gp) (o7 o8 o9:Option U),Lq G' p' el'->IsP W (es++[((s.o:Int),(s.t:Int))]) (el'.map (·.2))->el'.length<=8->Sa G G'->(∀e∈el',G e.1=none)->K [u0,some (.loc p'),u2,some (.int s.o),some (.int s.t),u5,u6,o7,o8,o9] G') :
  jaB T.gs (jab T k) jaC ⟨K,Q,λx _ G'=>X x G'⟩ [u0,some (.loc p),u2,some (.int s.o),some (.int s.t),u5,u6,o7,o8,o9] G3:=by
 have bo:0<=(s.o:Int)/\(s.o:Int)<W:=by have:=os.o;omega
 have bt:0<=(s.t:Int)/\(s.t:Int)<W:=by have:=os.t;omega
 simp! only[jaC,it_l hq.gp];refine⟨by rw[Yaa];exact Yan ll (by decide),?_⟩
 refine jau (λi acc G'=>G'=G3/\acc=((el.take i).filter λe=>hit s.o s.t e.2).map λe=>U.loc e.1) ?_ ?_ ⟨rfl,rfl⟩
 ·rintro acc G4 ⟨rfl,rfl⟩;rw[Yaa,YaI];refine⟨by unfold lsG;rw[hq.gp],λpm G5 n5=>?_⟩
  have hm:Lq G5 pm (el.filter λe=>hit s.o s.t e.2):=⟨n5.at,λe he=>n5.sa _ _ (hq.ga e (List.mem_filter.mp he).1)⟩;have hq5:=hq.sa n5.sa;have em:(el.filter λe=>hit s.o s.t e.2).map (·.2)=(el.map (·.2)).filter (hit s.o s.t):=by rw[List.filter_map];rfl
  simp! only[ja9,it_l hq5.gp];refine⟨by rw[Yaa];exact Yan ll (by decide),?_⟩
  refine jau (λi acc G'=>G'=G5/\acc=((el.take i).filter λe=>!hit s.o s.t e.2).map λe=>U.loc e.1) ?_ ?_ ⟨rfl,rfl⟩
  ·rintro acc G6 ⟨rfl,rfl⟩;rw[Yaa,YaI];refine⟨by unfold lsG;rw[hq5.gp],λpn G7 n7=>?_⟩
   have hn:Lq G7 pn (el.filter λe=>!hit s.o s.t e.2):=⟨n7.at,λe he=>n7.sa _ _ (hq5.ga e (List.mem_filter.mp he).1)⟩;have hm7:=hm.sa n7.sa;have en:(el.filter λe=>!hit s.o s.t e.2).map (·.2)=(el.map (·.2)).filter (λk=>!hit s.o s.t k):=by rw[List.filter_map];rfl
   simp! only[ja8];refine⟨by decide,λp8 G8 n8=>?_⟩
   have hm8:=hm7.sa n8.sa;have hn8:=hn.sa n8.sa;have s8:Sa G G8:=((s3.trans n5.sa).trans n7.sa).trans n8.sa;have fl:=hP.flat (o:=s.o) (t:=s.t);simp! only[ja7,it_l hm8.gp];refine jat (λi ς G'=>∃(pw:Addr) (o9:Option U),ς=[u0,some (.loc pn),u2,some (.int s.o),some (.int s.t),u5,u6,some (.loc pm),some (.loc pw),o9]/\Sa G8 G'/\G' pw=some (.lst ((((el.filter λe=>hit s.o s.t e.2).take i).map (·.2)).flatten.map .int))) ?_ ?_ ⟨p8,_,rfl,Sa.refl,n8.at⟩
   ·rintro ς G9 ⟨pw,o9,rfl,s9,gw⟩;rw[Yaa,YaI,em]at gw;refine⟨by unfold lsG;rw[s9 _ _ hm8.gp],?_⟩
    have hn9:=hn8.sa s9;simp! only[ja6,jbe hn9.gp];have lf:=jax W _ fl.1 fl.2;refine jla gw fl.1 (by omega) λzs hp hs pz Ga na=>?_
    have hna:=hn9.sa na.sa;rw[jdk hna.gp];have fw:=hP.fewer (t:=s.t) bo;rw[<- en,Yaa,Yaa]at fw;refine⟨by rw[Yaa];exact YaO (show _<=8 by omega) (by decide),λGb pb=>?_⟩
    have fresh:G pn=none:=jcK (s3.trans n5.sa) n7.no;have npn:∀e∈el,e.1≠pn:=λe he=>Ne.symm (ja1 (hq5.ga e he) n7.no);refine kk pn ((el.filter λe=>!hit s.o s.t e.2)++[(pz,zs)]) Gb _ _ _ ⟨by rw[Yax];exact pb.at,λe he=>?_⟩ ?_ (by rw[YaJ];simp;omega) (λb o e=>pb.sm _ _ (λz=>by rw[z,fresh]at e;cases e) (na.sa _ _ (s9 _ _ (s8 _ _ e)))) ?_
    ·rcases List.mem_append.mp he with z|z
     ·exact pb.sm _ _ (npn e (List.mem_filter.mp z).1) (hna.ga e z)
     ·rw[List.mem_singleton.mp z];exact pb.sm _ _ (ja1 hn9.gp na.no) na.at
    ·rw[Yax,en];exact hP.step bo bt hp hs
    ·intro e he;rcases List.mem_append.mp he with z|z
     ·exact fr e (List.mem_filter.mp z).1
     ·rw[List.mem_singleton.mp z];exact jcK (s8.trans s9) na.no
   ·rintro i x ς G9 K9 hx ⟨pw,o9,rfl,s9,gw⟩ hk;rw[Yal]at hx;cases ee:(el.filter λe=>hit s.o s.t e.2)[i]? with
    |none=>rw[ee]at hx;cases hx
    |some e=>
     rw[ee]at hx;have hx:=(Yar hx).symm;subst hx;refine⟨by unfold lsG;rw[s9 _ _ hm8.gp],?_⟩
     have ge:=s9 _ _ (hm8.ga e (Yak ee));simp! only[];have e1:(((el.filter λe=>hit s.o s.t e.2).take (i+1)).map (·.2)).flatten=(((el.filter λe=>hit s.o s.t e.2).take i).map (·.2)).flatten++e.2:=by
      rw[YaS,ee,Yax,Ye1];simp
     have lf:=jax W _ fl.1 fl.2;have l1:((((el.filter λe=>hit s.o s.t e.2).take i).map (·.2)).flatten++e.2).length<=8:=by
      rw[<- e1];refine Yan ?_ (Yan lf w8);rw[<- em]
      conv=>rhs;rw[<- List.take_append_drop (i+1) (el.filter λe=>hit s.o s.t e.2)]
      rw[Yax,Ye1,YaJ];omega
     rw[YaJ]at l1;refine⟨_,_,gw,ge,by rw[Yaa,Yaa];exact Yan l1 (by decide),λpz Ga na=>hk _ _ ⟨pz,_,rfl,s9.trans na.sa,?_⟩⟩
     rw[e1,Yax];exact na.at
  ·rintro i x acc G6 K6 hx ⟨rfl,rfl⟩ hk hn;rw[Yal]at hx;cases ee:el[i]? with
   |none=>rw[ee]at hx;cases hx
   |some e=>
    rw[ee]at hx;have hx:=(Yar hx).symm;subst hx;have he:=Yak ee;refine⟨by unfold lsG;rw[hq5.gp],?_⟩
    simp! only[];refine jkq (hq5.ga e he) hm ?_;have e0:decide (e.2∈(el.filter λe=>hit s.o s.t e.2).map (·.2))=hit s.o s.t e.2:=by
     rw[em,Ybk,decide_eq_true_eq,List.mem_filter];exact⟨λz=>z.2,λz=>⟨List.mem_map.mpr ⟨e,he,rfl⟩,z⟩⟩
    rw[e0];have et:el.take (i+1)=el.take i++[e]:=by rw[YaS,ee];rfl
    cases c:hit s.o s.t e.2 with
    |true=>
     rw[if_neg (by decide)]
     exact hn _ ⟨rfl,by rw[et,Ycq,Yes (by simp[c])];simp⟩
    |false=>
     rw[if_pos (by decide)]
     exact hk _ _ ⟨rfl,by rw[et,Ycq,Yer (by simp[c]),Yax];rfl⟩
 ·rintro i x acc G4 K4 hx ⟨rfl,rfl⟩ hk hn;rw[Yal]at hx;cases ee:el[i]? with
  |none=>rw[ee]at hx;cases hx
  |some e=>
   rw[ee]at hx;have hx:=(Yar hx).symm;subst hx;have ge:=hq.ga e (Yak ee);refine⟨by unfold lsG;rw[hq.gp],?_⟩
   simp! only[];have et:el.take (i+1)=el.take i++[e]:=by rw[YaS,ee];rfl
   have yes:hit s.o s.t e.2=true->K4 (some (.loc e.1)) G4:=λc=>hk _ _ ⟨rfl,by rw[et,Ycq,Yer (by simpa using c),Yax];rfl⟩
   have no:¬hit s.o s.t e.2=true->K4 none G4:=λc=>hn _ ⟨rfl,by rw[et,Ycq,Yes (by simpa using c)];simp⟩
   refine in_l ge rfl (jbw _) ?_;rw[jdC];by_cases c1:(s.o:Int)∈e.2
   ·rw[if_pos (decide_eq_true c1)];exact yes (jbq.mpr (.inl c1))
   ·rw[if_neg (by rw[decide_eq_false c1];decide)]
    refine in_l ge rfl (jbw _) ?_;rw[jdC];by_cases c2:(s.t:Int)∈e.2
    ·rw[if_pos (decide_eq_true c2)];exact yes (jbq.mpr (.inr c2))
    ·rw[if_neg (by rw[decide_eq_false c2];decide)]
     exact no λz=>(jbq.mp z).elim c1 c2
end

theorem jnZ {G:Gp}{a:Addr}{Q:K1}{as:List Addr}{ks:List (List Int)}(h:Ls G a as ks)(nd:ks.Nodup)(h64:ks.length<64)(q:∀(p:Addr) (as':List Addr) (ks':List (List Int)) (G':Gp),ks'.Perm ks->ks'.Pairwise Sl->Sa G G'->Ls G' p as' ks'->(∀b∈as',b∈as)->Q (.loc p) G'):jbl [.loc a] G Q:=by
 unfold jbl;dsimp only;rw[h.gp];refine⟨ks,nd,by rw[Yaa,h.l];exact Yat h64 (by decide),by rw[Yaa,h.l],.inr (.inl ⟨as,rfl,h.ga⟩),λπ hp hs=>?_⟩
 rw[Yaa,h.l]at hp hs;have hfl:∀i∈π,i<ks.length:=λi hi=>List.mem_range.mp (hp.mem_iff.mp hi);have pl:π.length=ks.length:=by rw[hp.length_eq,Yca]
 have e:(π.map λi=>(as.map U.loc).getD i .non)=(π.map λi=>as.getD i a).map .loc:=by
  rw[Ya0];refine Ydf λi hi=>?_;have:=hfl i hi;rw[<- h.l]at this;simp[Ya1,this]
 rw[e];intro p G' n;refine q p _ (π.map λi=>ks.getD i []) G' (jel ks [] hp) (jhu jh8 λi hi=>?_) n.sa ⟨n.at,by simp,λi a' k e1 e2=>n.sa _ _ ?_⟩ λb hb=>?_
 ·have hi:i+1<ks.length:=by simpa[pl]using hi
  have h1:i<π.length:=by omega
  have h2:i+1<π.length:=by omega
  have:=hs i hi;rw[show π.getD i 0=π[i] by simp[Ya1,h1],show π.getD (i+1) 0=π[i+1] by simp[Ya1,h2]]at this
  simpa using this
 ·rw[Yal]at e1 e2;cases ep:π[i]? with
  |none=>rw[ep]at e1;cases e1
  |some j=>
   rw[ep]at e1 e2;have hj:=hfl j (Yak ep);have hj':j<as.length:=by rw[h.l];exact hj
   have e1:=Yar e1;have e2:=Yar e2;refine h.ga j a' k ?_ ?_
   ·rw[Yae hj',<- e1];simp[Ya1,hj']
   ·rw[Yae hj,<- e2];simp[Ya1,hj]
 ·obtain⟨i,hi,rfl⟩:=List.mem_map.mp hb;have:=hfl i hi;rw[<- h.l]at this;rw[show as.getD i a=as[i] by simp[Ya1,this]]
  exact YbW this
section
variable {k:Nat}{G:Gp}{Q:K1}{X:KX}{xs:List Str}{ss:List Spn}
theorem jcs (so:∀s∈ss,s.Ok xs.length)(w8:xs.length<=8)(q:∀(p:Addr) (as:List Addr) (ks:List (List Int)) (G':Gp),Sa G G'->Ls G' p as ks->IsP xs.length (edg ss) ks->ks.Pairwise Sl->ks.length<=8->(∀a∈as,G a=none)->Q (.loc p) G'):jab T (k+1) jbI [jaf xs ss] G Q X:=by
 refine⟨rfl,?_⟩;simp! only[jde,jaj,Yaf,jaf,ix_t (jci _ _),Yaa];refine⟨by omega,by omega,by rw[jaA];exact Yan w8 (by decide),?_⟩
 refine jau (λi acc G'=>∃el:List (Addr×List Int),acc=el.map (λe=>.loc e.1)/\Sa G G'/\(∀e∈el,G' e.1=some (.lst (e.2.map .int)))/\el.map (·.2)=((YaW i).map λ(i:Nat)=>[(i:Int)])/\∀e∈el,G e.1=none) ?_ ?_ ⟨[],rfl,Sa.refl,λ_ h=>(nomatch h),rfl,λ_ h=>(nomatch h)⟩
 ·rintro acc G1 ⟨el,rfl,s1,ga,ek,fr⟩;rw[jaA]at ek;refine⟨trivial,λp G2 n2=>?_⟩;have hq:Lq G2 p el:=⟨n2.at,λe he=>n2.sa _ _ (ga e he)⟩;have ll:el.length<=8:=by
   have:=congrArg Ydh ek;rw[Yaa,Yaa,Yca]at this;omega
  simp! only[jbQ,ix_t (jaN _ _ _)];refine jat (λi ς G'=>∃(p:Addr) (el:List (Addr×List Int)) (o2 o3 o4 o5 o6 o7 o8 o9:Option U),ς=[some (jaf xs ss),some (.loc p),o2,o3,o4,o5,o6,o7,o8,o9]/\Lq G' p el/\IsP xs.length (edg (ss.take i)) (el.map (·.2))/\el.length<=8/\Sa G G'/\∀e∈el,G e.1=none) ?_ ?_ ⟨p,el,_,_,_,_,_,_,_,_,rfl,hq,by rw[ek];exact IsP.zero,ll,s1.trans n2.sa,fr⟩
  ·rintro ς G3 ⟨p,el,o2,o3,o4,o5,o6,o7,o8,o9,rfl,hq,hP,ll,s3,fr⟩;rw[Yaa,YaI]at hP;refine⟨trivial,?_⟩;simp! only[jbP];refine jnZ hq.ls hP.nd (by rw[Yaa];omega) λp' as' ks' G4 hp hs s4 h4 hm=>?_
   exact q p' as' ks' G4 (s3.trans s4) h4 (hP.perm hp) hs (by rw[hp.length_eq,Yaa];exact ll) λa ha=>by
    obtain⟨e,he,rfl⟩:=List.mem_map.mp (hm a ha);exact fr e he
  ·rintro i x ς G3 K hx ⟨p,el,o2,o3,o4,o5,o6,o7,o8,o9,rfl,hq,hP,ll,s3,fr⟩ hk;rw[Yal]at hx;cases es:ss[i]? with
   |none=>rw[es]at hx;cases hx
   |some s=>
    rw[es]at hx;have hx:=(Yar hx).symm;subst hx;refine⟨trivial,?_⟩;simp! only[Spn.u];refine⟨trivial,jfT (so s (Yak es)) w8 hq hP ll s3 fr λp' el' G' o7 o8 o9 h1 h2 h3 h4 h5=>hk _ _ ⟨p',el',_,_,_,_,_,_,_,_,rfl,h1,?_,h3,h4,h5⟩⟩;have:edg (ss.take (i+1))=edg (ss.take i)++[((s.o:Int),(s.t:Int))]:=by unfold edg;rw[YaS,es,Yax];rfl
    rw[this];exact h2
 ·rintro i x acc G1 K hx ⟨el,rfl,s1,ga,ek,fr⟩ hk _;obtain⟨hi,rfl⟩:=jbG hx;refine⟨trivial,?_⟩;simp! only[];refine⟨by decide,λp G2 n2=>hk _ _ ⟨el++[(p,[(i:Int)])],by rw[Yax];rfl,s1.trans n2.sa,λe he=>?_,by rw[Yax,ek,List.range_succ,Yax];rfl,λe he=>?_⟩⟩
  rcases List.mem_append.mp he with z|z
  ·exact n2.sa _ _ (ga e z)
  ·rw[List.mem_singleton.mp z];exact n2.at
  rcases List.mem_append.mp he with z|z
  ·exact fr e z
  ·rw[List.mem_singleton.mp z];exact jcK s1 n2.no
end
theorem jkx {xs:List Str}{ss:List Spn}(x8:xs.length<=8)(nm:∀x∈xs,Nm x)(sl:ss.length<=24)(so:∀s∈ss,s.Ok xs.length):Ft 600000 3 (jaf xs ss):=by
 refine(Ft.tup (n:=260000) (k:=2) (m:=2) (Yag _) (λu hu=>?_) (by decide)).mono (Yag _) (Yag _)
 simp only[YaL,Yay,or_false]at hu;rcases hu with rfl|rfl
 ·refine(Ft.tup (n:=82) (k:=0) (m:=8) (by rw[Yaa];exact x8) (λv hv=>?_) (by decide:_<=1000)).mono (by decide) (by decide)
  obtain⟨x,hx,rfl⟩:=List.mem_map.mp hv;exact Ft.str (nm x hx).l8 (nm x hx).ch
 ·refine Ft.tup (n:=10000) (k:=1) (m:=25) (by rw[Yaa];omega) (λv hv=>?_) (by decide)
  obtain⟨s,hs,rfl⟩:=List.mem_map.mp hv;exact(so s hs).ft x8
theorem jgJ {x:Str}{G:Gp}{k:Bool->Prop}(h:k false):cmpU .NotEq (.str x) (.str x) G k:=by
 show k (!decide (x=x));rw[decide_eq_true rfl];exact h

def Wk (ss:List Spn):List Ent->Int->Int->Prop
 |[],a,b=>a=b
 |e::r,a,b=>EOk ss e/\eS ss e=a/\Wk ss r (eD ss e) b
noncomputable def ja3 (e:Ent):Ent:=(e.1,-e.2)
section
variable {ss:List Spn}
theorem Wk.app:∀{r r':List Ent} {a m b:Int},Wk ss r a m->Wk ss r' m b->Wk ss (r++r') a b
 |[],_,_,_,_,h,g=>by rw[show _=_ from h];exact g
 |_::r,_,_,_,_,⟨h1,h2,h3⟩,g=>⟨h1,h2,Wk.app h3 g⟩
theorem Wk.last:∀{r:List Ent} {e:Ent} {a b:Int},Wk ss (r++[e]) a b->Wk ss r a (eS ss e)/\EOk ss e/\eD ss e=b
 |[],e,a,b,⟨h1,h2,h3⟩=>⟨h2.symm,h1,h3⟩
 |_::r,e,a,b,⟨h1,h2,h3⟩=>let ⟨g1,g2⟩:=Wk.last h3;⟨⟨h1,h2,g1⟩,g2⟩
theorem EOk.flip {e:Ent}(h:EOk ss e):EOk ss (ja3 e)/\eS ss (ja3 e)=eD ss e/\eD ss (ja3 e)=eS ss e:=by
 obtain⟨s,hs,z⟩:=h.get;rcases z with⟨z,h1,h2⟩|⟨z,h1,h2⟩
 ·rw[h1,h2,z];exact⟨⟨h.1,.inr rfl⟩,eS_m hs,eD_m hs⟩
 ·rw[h1,h2,z];exact⟨⟨h.1,.inl rfl⟩,eS_1 hs,eD_1 hs⟩
theorem Wk.rev:∀{r:List Ent} {a b:Int},Wk ss r a b->Wk ss (r.reverse.map ja3) b a
 |[],_,_,h=>Eq.symm h
 |e::r,a,b,⟨h1,h2,h3⟩=>by
  rw[YbQ,Yax];refine(Wk.rev h3).app ?_;obtain⟨f1,f2,f3⟩:=h1.flip;exact⟨f1,f2,f3.trans h2⟩
theorem Wk.all:∀{r:List Ent} {a b:Int},Wk ss r a b->∀e∈r,EOk ss e
 |_::_,_,_,⟨h1,_,h3⟩,e,he=>by
  rcases YaL.mp he with z|z
  ·rw[z];exact h1
  ·exact h3.all e z
section
variable {a:Addr}{o:Obj}{kvs:List (Key×U)}{z:Int}
theorem joA {G:Gp}{k:Bool->Prop}(g:G a=some (.frk o kvs))(q:k (dGet kvs (.inl z)).isSome):inU (.int z) (.loc a) G k:=by unfold inU;dsimp only;rw[g];exact q
theorem jmx {u:U}{G:Gp}{Q:K1}(g:G a=some (.frk o kvs))(h:dGet kvs (.inl z)=some u):ixU (.loc a) (.int z) G Q=Q u G:=by unfold ixU;dsimp only;rw[g];dsimp only[kU];rw[h]
end
section
variable {f:List (Key×U)->List U}{a:Addr}
theorem jks {kvs:List (Key×U)}{G:Gp}{Q:List U->(Gp->Prop)->Gp->Prop}(g:G a=some (.dK kvs)):jcE f (.loc a) G Q=∀o G',Put G a (.frk o kvs) G'->Q (f kvs) (λG'=>G' a=some (.frk o kvs)) G':=by unfold jcE;dsimp only;rw[g]
theorem jkr {o:Obj}{kvs:List (Key×U)}{G:Gp}{Q:List U->(Gp->Prop)->Gp->Prop}(g:G a=some (.frk o kvs)):jcE f (.loc a) G Q=Q (f kvs) (λG'=>G' a=some (.frk o kvs)) G:=by unfold jcE;dsimp only;rw[g]
end
theorem jhd:∀{fs:List (Int×Ent)} {z:Int},z∉fky fs->dGet (fkv fs) (.inl z)=none
 |[],_,_=>rfl
 |f::fs,z,h=>by
  have h1:¬f.1=z:=λe=>h (by rw[<- e];simp[fky])
  have h2:z∉fky fs:=λe=>h (Yaj _ e);have:=jhd h2;unfold dGet fkv at this ⊢;rw[YaF,YeA (by simpa using h1)]
  exact this
theorem jhc:∀{fs:List (Int×Ent)} {j:Nat} {f:Int×Ent},(fky fs).Nodup->fs[j]?=some f->dGet (fkv fs) (.inl f.1)=some (eu f.2)
 |[],_,_,_,h=>by simp at h
 |g::fs,0,f,_,h=>by
  simp at h;subst h;unfold dGet fkv;rw[YaF,List.find?_cons_of_pos (by simp)];rfl
 |g::fs,j+1,f,nd,h=>by
  simp at h;have nd:=List.nodup_cons.mp (show(g.1::fky fs).Nodup from nd);have h1:¬g.1=f.1:=λe=>nd.1 (by rw[e];exact jc9 h)
  have:=jhc nd.2 h;unfold dGet fkv at this ⊢;rw[YaF,YeA (by simpa using h1)]
  exact this
theorem jkC {fs:List (Int×Ent)}{w:Nat}(nd:((w:Int)::fky fs).Nodup){n:Nat}{z:Int}(h:z∈(w:Int)::fky (fs.take n)) :
  (z=w/\dGet (fkv fs) (.inl z)=none)\/∃j f,j<n/\fs[j]?=some f/\f.1=z/\dGet (fkv fs) (.inl z)=some (eu f.2):=by
 have nd:=List.nodup_cons.mp nd;rcases YaL.mp h with z'|z'
 ·exact .inl ⟨z',by rw[z'];exact jhd nd.1⟩
 ·obtain⟨i,f,hi,e,rfl⟩:=jb3 z';exact .inr ⟨i,f,hi,e,rfl,jhc nd.2 e⟩
end
section
variable {k:Nat}{G:Gp}{Q:K1}{X:KX}{xs:List Str}{ss:List Spn}{W:Nat}
theorem jgF {e:Ent}(h:EOk ss e)(q:Q (.tup [.int (eS ss e),.int (eD ss e)]) G):jab T (k+1) jc3 [jaf xs ss,eu e] G Q X:=by
 obtain⟨s,hs,z⟩:=h.get;refine⟨rfl,?_⟩;simp! only[jeC,jaj,Yaf,eu,jaf,ix_t (jaN _ _ _),ix_t (atM hs),Spn.u];refine⟨trivial,trivial,?_⟩;rcases z with⟨z,h1,h2⟩|⟨z,h1,h2⟩
 ·rw[show e.2=1 by rw[z],if_pos (by decide)]
  rw[h1,h2]at q;exact⟨by decide,q⟩
 ·rw[show e.2=-1 by rw[z],if_neg (by decide)]
  rw[h1,h2]at q;exact⟨by decide,q⟩
theorem jgD {w:Nat}{fs:List (Int×Ent)}{pf:Addr}{o:Obj}{z:Int}(hF:Fst W ss w fs)(w8:W<=8)(gf:G pf=some (.frk o (fkv fs)))(hz:z∈(w:Int)::fky fs)
  (q:∀(p:Addr) (es:List Ent) (G':Gp),Sa G G'->G p=none->G' p=some (.lst (es.map eu))->Wk ss es z w->es.length<=fs.length->(∀e∈es,∃f∈fs,f.2=e)->Q (.tup [.loc p,.int w]) G') :
  jab T (k+2) jaV [jaf xs ss,.loc pf,.int z] G Q X:=by
 have rl:=jax W _ hF.nd hF.bd;simp only[fky,YaB,Yaa]at rl;refine⟨rfl,?_⟩;simp! only[jbE,jaj,Yaf];refine⟨by decide,λp G1 n1=>?_⟩
 simp! only[ja5];rw[S_wh];refine⟨λn ς G'=>∃(es:List Ent) (y:Int),ς=[some (jaf xs ss),some (.loc pf),some (.int y),some (.loc p)]/\Sa G G'/\G' p=some (.lst (es.map eu))/\Wk ss es z y/\y∈(w:Int)::fky (fs.take n)/\n<=fs.length/\es.length+n<=fs.length/\∀e∈es,∃f∈fs,f.2=e,
  ⟨fs.length,[],z,rfl,n1.sa,n1.at,rfl,by rw[YaI];exact hz,Yag _,by simp,λ_ h=>(nomatch h)⟩,?_⟩
 rintro n ς G2 ⟨es,y,rfl,s2,gp,wk,hy,hn,hl,hm⟩;have gf2:=s2 _ _ gf;simp! only[];refine joA gf2 ?_;rcases jkC hF.nd hy with⟨rfl,e⟩|⟨j,f,hj,ef,rfl,e⟩
 ·rw[e,if_neg (by decide)]
  simp! only[];exact⟨by decide,q p es G2 s2 n1.no gp wk (by omega) hm⟩
 ·obtain⟨h1,h2,h3⟩:=hF.en j f ef;rw[e,if_pos (by rfl)]
  simp! only[jbe gp,jmx gf2 e,jdk gp];refine⟨by rw[Yaa];exact YaO (show es.length<=8 by omega) (by decide),λG3 p3=>?_⟩
  have hpf:pf≠p:=λz=>by rw[z,n1.no]at gf;cases gf
  have gf3:=p3.sm _ _ hpf gf2;simp! only[jmx gf3 e];refine jgF h1 ?_;rw[ix_t (jaN _ _ _)];refine⟨j,hj,es++[f.2],eD ss f.2,rfl,λb u hb=>p3.sm _ _ (λz=>by rw[z,n1.no]at hb;cases hb) (s2 _ _ hb),by rw[Yax];exact p3.at,wk.app ⟨h1,h2,rfl⟩,h3,by omega,by simp;omega,λe he=>?_⟩
  rcases List.mem_append.mp he with z|z
  ·exact hm e z
  ·rw[List.mem_singleton.mp z];exact⟨f,Yak ef,rfl⟩
end

theorem mt_pop {p:Addr}{us:List U}{G:Gp}(g:G p=some (.lst us)):mtU .pop (.loc p) G=some ("list", "list.pop"):=by unfold mtU;dsimp only;rw[g]
theorem jfq {p:Addr}{es:List Ent}{e:Ent}{G:Gp}{Q:K1}(g:G p=some (.lst ((es++[e]).map eu)))(q:∀G',Put G p (.lst (es.map eu)) G'->Q (eu e) G'):jaO .pop (.loc p) [] G Q:=by
 dsimp only[jaO];unfold popU;dsimp only;rw[g];dsimp only;have e1:((es++[e]).map eu)[((es++[e]).map eu).length-1]?=some (eu e):=by simp
 have e2:((es++[e]).map eu).dropLast=es.map eu:=by simp
 rw[e1,e2];exact λG' h=>q G' h
theorem jhs {es:List Ent}{e:Ent}:atI ((es++[e]).map eu) (-1)=some (eu e):=by
 refine(jbu eu _ _).trans ?_;unfold atI;rw[show ixN (es++[e]).length (-1)=some es.length by unfold ixN;simp;omega]
 simp
theorem joJ {e e':Ent}{G:Gp}{k:Bool->Prop}(q:k (decide (e=e'))):cmpU .Eq (eu e) (eu e') G k:=by
 refine(?_:eqU (eu e) (eu e') G k);have d:∀x:Ent,DU G (eu x) (.tuple ([(x.1:Int),x.2].map .int)):=λx=>.tup (jch [(x.1:Int),x.2]);have sm:∀l:List Int,Small (.tuple (l.map .int)):=λl=>⟨(jbp l).1,by show Yb1 (l.map .int)+1<=100;rw[(jbp l).2.1];decide⟩
 refine⟨_,_,d e,d e',sm _,sm _,?_⟩;have:YaG (.list ([(e.1:Int),e.2].map .int)) (.list ([(e'.1:Int),e'.2].map .int))=decide (e=e'):=by
  rw[jd4,Ybk,decide_eq_true_eq,decide_eq_true_eq];constructor
  ·intro h;injection h with h1 h2
   injection h2 with h2 _
   exact Yc6 (by omega) h2
  ·intro h;rw[h]
 rw[show YaG (.tuple ([(e.1:Int),e.2].map .int)) (.tuple ([(e'.1:Int),e'.2].map .int))=decide (e=e')from this];exact q
section
variable {a:Addr}{us:List U}{G:Gp}
theorem jk2 {kk:Bool->Prop}(g:G a=some (.lst us)):truU (.loc a) G kk=kk (!us.isEmpty):=by unfold truU;dsimp only;rw[g]
theorem jn3 {Q:K1}(g:G a=some (.lst us)):revU (.loc a) (.int (-1)) G Q=newO G (.lst us.reverse) Q:=by
 unfold revU lsG;dsimp only;rw[g];simp
end
def Tf (fs:List (Int×Ent))(e:Ent):Prop:=∃f∈fs,f.2=e\/f.2=ja3 e
structure CR (ss:List Spn)(fs:List (Int×Ent))(i:Nat)(s:Spn)(ring:List Ent):Prop where
 at':ss[i]?=some s
 wk:Wk ss ring s.o s.o
 l:ring.length<=1+2*fs.length
 tl:∃r,ring=(i,1)::r/\∀e∈r,Tf fs e
theorem snoc {α:Type}:∀l:List α,l=[]\/∃r e,l=r++[e]
 |[]=>.inl rfl
 |a::l=>.inr (by
  rcases snoc l with z|⟨r,e,z⟩
  ·exact⟨[],a,by rw[z];rfl⟩
  ·exact⟨a::r,e,by rw[z];rfl⟩)
section
variable {k:Nat}{G:Gp}{Q:K1}{X:KX}{xs:List Str}{ss:List Spn}{W:Nat}
theorem jh3 {w i:Nat}{s:Spn}{fs:List (Int×Ent)}{pf:Addr}{o:Obj}(hF:Fst W ss w fs)(w8:W<=8)(gf:G pf=some (.frk o (fkv fs)))(hs:ss[i]?=some s)(h1:(s.o:Int)∈(w:Int)::fky fs)(h2:(s.t:Int)∈(w:Int)::fky fs)
  (q:∀(ring:List Ent) (G':Gp),Sa G G'->CR ss fs i s ring->Q (.tup (ring.map eu)) G'):jab T (k+3) jbD [jaf xs ss,.loc pf,.int i] G Q X:=by
 have rl:=jax W _ hF.nd hF.bd;simp only[fky,YaB,Yaa]at rl;have il:=(List.getElem?_eq_some_iff.mp hs).1;refine⟨rfl,?_⟩;simp! only[jbF,jaj,Yaf,jaf,ix_t (jaN _ _ _),ix_t (atM hs),Spn.u];refine⟨trivial,?_⟩;simp! only[jbc];refine jgD (xs:=xs) hF w8 gf h2 λpt ts G1 s1 nt g1 wt lt mt=>?_;simp! only[];refine⟨trivial,?_⟩;refine jgD (xs:=xs) hF w8 (s1 _ _ gf) h1 λpb bs G2 s2 nb g2 wb lb mb=>?_;simp! only[jbb];refine⟨trivial,?_⟩;rw[S_wh];have hne:pt≠pb:=λz=>by rw[z]at g1;rw[nb]at g1;cases g1
 refine⟨λn ς G'=>∃(ts bs:List Ent) (m:Int),ς=[some (jaf xs ss),some (.loc pf),some (.int i),some (.str s.w),some (.int s.o),some (.int s.t),some (.int s.lo),some (.int s.hi),some (.loc pt),some (.int w),some (.loc pb),some (.int w),none]/\n=ts.length/\Sa G G'/\G' pt=some (.lst (ts.map eu))/\G' pb=some (.lst (bs.map eu))/\Wk ss ts s.t m/\Wk ss bs s.o m/\ts.length<=fs.length/\bs.length<=fs.length/\(∀e∈ts,∃f∈fs,f.2=e)/\∀e∈bs,∃f∈fs,f.2=e,
  ⟨_,ts,bs,w,rfl,rfl,s1.trans s2,s2 _ _ g1,g2,wt,wb,lt,lb,mt,mb⟩,?_⟩
 have nb0:G pb=none:=jcK s1 nb;clear s1 g1 wt lt mt s2 g2 wb lb mb nb;rintro n ς G3 ⟨ts,bs,m,rfl,rfl,s3,gt,gb,wt,wb,lt,lb,mt,mb⟩;have done:jaB T.gs (jab T (k+2)) jaD ⟨λ_ G'=>Q .non G',Q,λx _ G'=>X x G'⟩ [some (jaf xs ss),some (.loc pf),some (.int i),some (.str s.w),some (.int s.o),some (.int s.t),some (.int s.lo),some (.int s.hi),some (.loc pt),some (.int w),some (.loc pb),some (.int w),none] G3:=by
  simp! only[jaD];rw[if_pos (by simp)]
  refine⟨by decide,λph G4 n4=>?_⟩
  simp! only[jba];refine⟨by decide,by decide,λp5 G5 n5=>?_⟩
  refine⟨_,_,n5.at,n5.sa _ _ (n4.sa _ _ gt),Yan (show _<=20 by simp;omega) (by decide),λp6 G6 n6=>?_⟩
  refine⟨_,_,n6.at,n6.sa _ _ (n5.sa _ _ n4.at),Yan (show _<=20 by simp;omega) (by decide),λp7 G7 n7=>?_⟩
  have gb7:=n7.sa _ _ (n6.sa _ _ (n5.sa _ _ (n4.sa _ _ gb)));dsimp only;rw[jn3 gb7];intro p8 G8 n8;rw[it_l n8.at];refine⟨Yan (show _<=20 by simp;omega) (by decide),?_⟩
  rw[<- YfM];refine jaw (λu=>match u with|.tup [.int a,.int b]=>.tup [.int a,.int (-b)]|u=>u) (by unfold lsG;rw[n8.at,YfM]) (λu hu K hK=>?_) ?_
  ·obtain⟨e,he,rfl⟩:=List.mem_map.mp hu;simp! only[eu];exact⟨trivial,by decide,hK⟩
  ·intro p9 G9 n9;have e9:[]++(bs.reverse.map eu).map (λu=>match u with|.tup [.int a,.int b]=>.tup [.int a,.int (-b)]|u=>u)=(bs.reverse.map ja3).map eu:=by
    rw[Ya7,Ya0,Ya0];rfl
   rw[e9]at n9;refine⟨_,_,n9.sa _ _ (n8.sa _ _ n7.at),n9.at,Yan (show _<=30 by simp;omega) (by decide),λpa Ga na=>?_⟩
   dsimp only;rw[it_l na.at];have e10:[U.tup [.int i,.int 1]]++ts.map eu++[]++(bs.reverse.map ja3).map eu=(((i,1)::(ts++bs.reverse.map ja3)):List Ent).map eu:=by simp[eu]
   rw[e10];have ok1:EOk ss (i,1):=⟨il,.inl rfl⟩;refine q _ Ga (s3.trans ((((((n4.sa.trans n5.sa).trans n6.sa).trans n7.sa).trans n8.sa).trans n9.sa).trans na.sa)) ⟨hs,⟨ok1,eS_1 hs,?_⟩,by simp;omega,_,rfl,λe he=>?_⟩
   ·rw[eD_1 hs];exact wt.app wb.rev
   ·rcases List.mem_append.mp he with z|z
    ·obtain⟨f,hf,rfl⟩:=mt e z;exact⟨f,hf,.inl rfl⟩
    ·obtain⟨e',he',rfl⟩:=List.mem_map.mp z;obtain⟨f,hf,rfl⟩:=mb e' (List.mem_reverse.mp he');exact⟨f,hf,.inr (by simp[ja3])⟩
 simp! only[];rw[jk2 gt];rcases snoc ts with rfl|⟨ts',et,rfl⟩
 ·rw[if_neg (by simp)];exact done
 rw[if_pos (by simp),jk2 gb]
 rcases snoc bs with rfl|⟨bs',eb,rfl⟩
 ·rw[if_neg (by simp)];exact done
 rw[if_pos (by simp),ix_l gt jhs,ix_l gb jhs]
 refine joJ ?_;by_cases c:et=eb
 ·subst c;rw[if_pos (by simp),mt_pop gt]
  refine jfq gt λG4 p4=>?_;have gb4:=p4.sm _ _ (Ne.symm hne) gb;rw[mt_pop gb4];refine jfq gb4 λG5 p5=>?_;obtain⟨w1,w2,w3⟩:=wt.last;obtain⟨v1,v2,v3⟩:=wb.last;refine⟨ts'.length,by simp,ts',bs',eS ss et,trivial,rfl,λb u hb=>p5.sm _ _ (λz=>by rw[z,nb0]at hb;cases hb) (p4.sm _ _ (λz=>by rw[z,nt]at hb;cases hb) (s3 _ _ hb)),p5.sm _ _ hne p4.at,p5.at,w1,v1,by simp at lt;omega,by simp at lb;omega,λe he=>mt e (Yau _ he),λe he=>mb e (Yau _ he)⟩
 ·rw[if_neg (by simpa using c)];exact done
end

noncomputable def jdT (r:List Ent):U:=.tup (r.map eu)
section
variable {k:Nat}{G:Gp}{Q:K1}{X:KX}{xs:List Str}{ss:List Spn}{W:Nat}
theorem jgG {w:Nat}{fs:List (Int×Ent)}{pf:Addr}{ps:List Int}(hF:Fst W ss w fs)(w8:W<=8)(sl:ss.length<=24)(gf:G pf=some (.dK (fkv fs)))(hc:Clo ss w (fky fs))(hp:∀x∈ps,x∈(w:Int)::fky fs)
  (q:∀(p:Addr) (rs:List (List Ent)) (o:Obj) (G':Gp),Sm pf G G'->G p=none->G' p=some (.lst (rs.map jdT))->G' pf=some (.frk o (fkv fs))->(∀r∈rs,∃i s,CR ss fs i s r)->(∀i s,ss[i]?=some s->(s.o:Int)∈ps->(∃f∈fs,f.2.1=i)\/∃r∈rs,CR ss fs i s r)->rs.length<=24->Q (.loc p) G') :
  jab T (k+4) jbo [jaf xs ss,jap ps,.loc pf] G Q X:=by
 have rl:=jax W _ hF.nd hF.bd;simp only[fky,YaB,Yaa]at rl;refine⟨rfl,?_⟩;simp! only[jbs,jaj,Yaf,jks gf];intro o G1 p1;have ev:jdO (fkv fs)=fs.map λf=>eu f.2:=by unfold jdO fkv;rw[Ya0];rfl
 refine⟨by rw[ev,Yaa];exact Yan (show fs.length<=8 by omega) (by decide),?_⟩
 refine jaw (λu=>match u with|.tup (a::_)=>a|u=>u) p1.at (λu hu K hK=>?_) ?_
 ·rw[ev]at hu;obtain⟨f,hf,rfl⟩:=List.mem_map.mp hu;simp! only[eu];exact⟨trivial,hK⟩
 intro pu G2 n2;have eu2:[]++(jdO (fkv fs)).map (λu=>match u with|.tup (a::_)=>a|u=>u)=(fs.map λf=>((f.2.1:Nat):Int)).map U.int:=by
  rw[ev,Ya7,Ya0,Ya0];rfl
 rw[eu2]at n2;simp! only[jaf,ix_t (jaN _ _ _),Yaa];refine⟨by omega,by omega,by rw[jaA];exact Yan (show((ss.length:Int)).toNat<=24 by omega) (by decide),?_⟩
 refine jau (λn acc G'=>G'=G2/\∃is:List Nat,acc=is.map (λ(i:Nat)=>U.int (i:Int))/\is.length<=n/\(∀i∈is,∃s,ss[i]?=some s/\(s.o:Int)∈ps)/\∀i s,i<n->ss[i]?=some s->(s.o:Int)∈ps->(∃f∈fs,f.2.1=i)\/i∈is) ?_ ?_ ⟨rfl,[],rfl,Yag _,λ_ h=>(nomatch h),λi s h=>by omega⟩
 ·rintro acc G' ⟨rfl,is,rfl,il,h1,h2⟩;rw[jaA]at il h2;refine⟨trivial,λp3 G3 n3=>?_⟩;simp! only[it_l n3.at];refine⟨by rw[Yaa];exact Yan (show is.length<=24 by omega) (by decide),?_⟩
  have gf3:G3 pf=some (.frk o (fkv fs)):=n3.sa _ _ (n2.sa _ _ p1.at);refine jau (λn acc G'=>Sa G3 G'/\∃rs:List (List Ent),acc=rs.map jdT/\rs.length<=n/\(∀r∈rs,∃i s,CR ss fs i s r)/\∀i∈is.take n,∃s,∃r∈rs,CR ss fs i s r) ?_ ?_ ⟨Sa.refl,[],rfl,Yag _,λ_ h=>(nomatch h),λi h=>by simp at h⟩
  ·rintro acc G4 ⟨s4,rs,rfl,rl4,c1,c2⟩;rw[Yaa]at rl4 c2;rw[YaI]at c2;refine⟨by unfold lsG;rw[s4 _ _ n3.at],λp5 G5 n5=>?_⟩
   have sm:Sm pf G G4:=λb u hb e=>s4 _ _ (n3.sa _ _ (n2.sa _ _ (p1.sm _ _ hb e)));refine q p5 rs o G5 (λb u hb e=>n5.sa _ _ (sm b u hb e)) ?_ n5.at (n5.sa _ _ (s4 _ _ gf3)) c1 (λi s es ho=>?_) (by omega)
   ·cases e:G p5 with
    |none=>rfl
    |some u=>
     by_cases z:p5=pf
     ·have:=s4 _ _ gf3;rw[<- z,n5.no]at this;cases this
     ·have:=sm _ _ z e;rw[n5.no]at this;cases this
   ·rcases h2 i s (by have:=(List.getElem?_eq_some_iff.mp es).1;omega) es ho with z|z
    ·exact .inl z
    ·obtain⟨s',r,hr,h⟩:=c2 i z;have:=h.at';rw[es]at this;cases this;exact .inr ⟨r,hr,h⟩
  ·rintro n x acc G4 K hx ⟨s4,rs,rfl,rl4,c1,c2⟩ hk _;rw[Yal]at hx;cases ei:is[n]? with
   |none=>rw[ei]at hx;cases hx
   |some i=>
    rw[ei]at hx;cases hx;obtain⟨s,es,ho⟩:=h1 i (Yak ei);have hin:=hp _ ho;have ht:=hc _ _ hin (.inl (List.mem_map.mpr ⟨s,Yak es,rfl⟩));refine⟨by unfold lsG;rw[s4 _ _ n3.at],?_⟩
    simp! only[];refine jh3 (xs:=xs) hF w8 (s4 _ _ gf3) es hin ht λr G5 s5 h5=>hk _ _ ⟨s4.trans s5,rs++[r],by rw[Yax];rfl,by simp;omega,λr' hr'=>?_,λi' hi'=>?_⟩
    ·rcases List.mem_append.mp hr' with z|z
     ·exact c1 r' z
     ·rw[List.mem_singleton.mp z];exact⟨i,s,h5⟩
    ·rw[YaS,ei]at hi';rcases List.mem_append.mp hi' with z|z
     ·obtain⟨s',r',hr',h⟩:=c2 i' z;exact⟨s',r',Yau _ hr',h⟩
     ·rw[List.mem_singleton.mp z];exact⟨s,r,Yas _ (List.mem_singleton.mpr rfl),h5⟩
 ·rintro n x acc G' K hx ⟨rfl,is,rfl,il,h1,h2⟩ hk hn;obtain⟨hi,rfl⟩:=jbG hx;obtain⟨s,es⟩:∃s,ss[n]?=some s:=⟨ss[n]'(by omega),Yae _⟩
  refine⟨trivial,?_⟩;simp! only[ix_t (jaN _ _ _),ix_t (atM es),Spn.u];refine⟨rfl,jbw _,?_⟩;rw[jdC];dsimp only;by_cases c:(s.o:Int)∈ps
  ·rw[if_pos (by rw[decide_eq_true c])]
   refine in_l n2.at rfl (jbw _) ?_;rw[jdC];by_cases d:((n:Nat):Int)∈fs.map λf=>((f.2.1:Nat):Int)
   ·rw[if_neg (by rw[decide_eq_true d];decide)]
    refine hn _ ⟨rfl,is,rfl,by omega,h1,λi s' hi' es' ho=>?_⟩
    by_cases e:i=n
    ·obtain⟨f,hf,ef⟩:=List.mem_map.mp d;exact .inl ⟨f,hf,by omega⟩
    ·exact h2 i s' (by omega) es' ho
   ·rw[if_pos (by rw[decide_eq_false d];decide)]
    refine hk _ _ ⟨rfl,is++[n],by simp,by simp;omega,λi hi'=>?_,λi s' hi' es' ho=>?_⟩
    ·rcases List.mem_append.mp hi' with z|z
     ·exact h1 i z
     ·rw[List.mem_singleton.mp z];exact⟨s,es,c⟩
    ·by_cases e:i=n
     ·exact .inr (Yas _ (List.mem_singleton.mpr e))
     ·rcases h2 i s' (by omega) es' ho with z|z
      ·exact .inl z
      ·exact .inr (Yau _ z)
  ·rw[if_neg (by rw[decide_eq_false c];decide)]
   refine hn _ ⟨rfl,is,rfl,by omega,h1,λi s' hi' es' ho=>?_⟩
   by_cases e:i=n
   ·subst e;rw[es]at es';cases es';exact absurd ho c
   ·exact h2 i s' (by omega) es' ho
end

noncomputable def eL (L:List Int)(e:Ent):Int:=e.2*L.getD e.1 0
noncomputable def sumL (L:List Int)(r:List Ent):Int:=(r.map (eL L)).sum
theorem eL_1 {L:List Int}{e:Ent}(h:e.2=1):eL L e=L.getD e.1 0:=by unfold eL;rw[h];omega
theorem eL_m {L:List Int}{e:Ent}(h:e.2=-1):eL L e=-L.getD e.1 0:=by unfold eL;rw[h];omega
theorem jkF (L:List Int)(e:Ent):eL L (ja3 e)=-eL L e:=by unfold eL ja3;simp[Int.neg_mul]
theorem je7 {L:List Int}{i:Nat}{x:Int}(h:L[i]?=some x):L.getD i 0=x:=by simp[Ya1,h]
structure LOk (ss:List Spn)(L:List Int):Prop where
 l:L.length=ss.length
 b:∀x∈L,0<=x/\x<=20000
theorem LOk.at {ss:List Spn}{L:List Int}(h:LOk ss L){e:Ent}(he:EOk ss e):L[e.1]?=some (L.getD e.1 0)/\0<=L.getD e.1 0/\L.getD e.1 0<=20000:=by
 have hl:e.1<L.length:=by rw[h.l];exact he.1
 have e1:L[e.1]?=some L[e.1]:=Yae hl;rw[je7 e1];exact⟨e1,h.b _ (YbW hl)⟩
noncomputable def winU (L:List Int):List U:=L.map λl=>.tup [.int l,.int l]
theorem jjd {a:Addr}{l:List Int}{G:Gp}{Q:K1}(g:G a=some (.lst (l.map .int))):sumU [.loc a] G Q=Q (.int l.sum) G:=by
 unfold sumU;dsimp only;rw[g];dsimp only;rw[jfz]
section
variable {k:Nat}{G:Gp}{Q:K1}{X:KX}{xs:List Str}{ss:List Spn}{W:Nat}{L:List Int}{P:Int}{bu:U}{pw:Addr}
theorem jh2 {e:Ent}(hL:LOk ss L)(he:EOk ss e)(gw:G pw=some (.lst (winU L)))(q:Q (.tup [.int (eL L e),.int (eL L e)]) G):jab T (k+1) jcu [bu,.loc pw,eu e] G Q X:=by
 obtain⟨e1,_,_⟩:=hL.at he;refine⟨rfl,?_⟩;simp! only[jcA,jaj,Yaf,eu,ix_l gw (atM e1)];refine⟨trivial,trivial,?_⟩;rcases he.2 with z|z
 ·rw[z,if_pos (by decide)]
  rw[eL_1 z]at q;exact⟨by decide,q⟩
 ·rw[z,if_neg (by decide)]
  rw[eL_m z]at q;exact⟨by decide,q⟩
theorem jjU {r:List Ent}(hL:LOk ss L)(hr:∀e∈r,EOk ss e)(rl:r.length<=30)(gw:G pw=some (.lst (winU L)))(q:∀G',Sa G G'->Q (.tup [.int (sumL L r),.int (sumL L r)]) G'):jab T (k+2) jep [jaf xs ss,.int P,bu,.loc pw,jdT r] G Q X:=by
 refine⟨rfl,?_⟩;simp! only[jeA,jaj,Yaf,jdT];refine⟨by rw[Yaa];exact Yan rl (by decide),?_⟩
 refine jaw (λu=>match u with|.tup [.int a,.int b]=>.tup [.int (eL L (a.toNat,b)),.int (eL L (a.toNat,b))]|u=>u) trivial (λu hu K hK=>?_) ?_
 ·obtain⟨e,he,rfl⟩:=List.mem_map.mp hu;simp! only[];exact jh2 hL (hr e he) gw hK
 intro p1 G1 n1;have e1:[]++(r.map eu).map (λu=>match u with|.tup [.int a,.int b]=>U.tup [.int (eL L (a.toNat,b)),.int (eL L (a.toNat,b))]|u=>u)=r.map λe=>U.tup [.int (eL L e),.int (eL L e)]:=by
  rw[Ya7,Ya0];rfl
 rw[e1]at n1;simp! only[it_l n1.at];have two:∀(j:Nat),j<2->([]++(r.map λe=>U.tup [.int (eL L e),.int (eL L e)]).map (λu=>match u with|.tup (a::_)=>a|u=>u))=(r.map (eL L)).map .int:=λj _=>by
  rw[Ya7,Ya0,Ya0];rfl
 refine⟨by rw[Yaa];exact Yan rl (by decide),?_⟩
 refine jaw (λu=>match u with|.tup (a::_)=>a|u=>u) (by unfold lsG;rw[n1.at]) (λu hu K hK=>?_) ?_
 ·obtain⟨e,he,rfl⟩:=List.mem_map.mp hu;simp! only[];exact⟨trivial,hK⟩
 intro p2 G2 n2;rw[two 0 (by decide)]at n2
 rw[jjd n2.at,it_l (n2.sa _ _ n1.at)];refine⟨by rw[Yaa];exact Yan rl (by decide),?_⟩
 refine jaw (λu=>match u with|.tup (a::_)=>a|u=>u) (by unfold lsG;rw[n2.sa _ _ n1.at]) (λu hu K hK=>?_) ?_
 ·obtain⟨e,he,rfl⟩:=List.mem_map.mp hu;simp! only[];exact⟨trivial,hK⟩
 intro p3 G3 n3;rw[two 1 (by decide)]at n3
 rw[jjd n3.at];exact⟨by decide,q G3 ((n1.sa.trans n2.sa).trans n3.sa)⟩
theorem jjZ {r:List Ent}(hL:LOk ss L)(hr:∀e∈r,EOk ss e)(rl:r.length<=30)(p1:1<=P)(p2:P<=600)(gw:G pw=some (.lst (winU L)))(q:∀G',Sa G G'->Q (.bl (decide (sumL L r%P≠0))) G'):jab T (k+3) jcZ [jaf xs ss,.int P,bu,.loc pw,jdT r] G Q X:=by
 refine⟨rfl,?_⟩;simp! only[jdb,jaj,Yaf];refine jjU hL hr rl gw λG1 s1=>?_;simp! only[];refine⟨trivial,by omega,by omega,.inr (by constructor<;>omega),?_⟩
 have:decide (sumL L r/P*P<sumL L r)=decide (sumL L r%P≠0):=by
  have h1:=Yc7 (sumL L r) P;have h2:=Yby (sumL L r) (show P≠0 by omega)
  rw[Int.mul_comm]at h1;rw[Ybk,decide_eq_true_eq,decide_eq_true_eq];constructor
  ·intro h z;omega
  ·intro h;omega
 rw[this];exact q G1 s1
end

noncomputable def bt (bs:List Int)(x:Int):Int:=bs.getD x.toNat 0
section
variable {bs:List Int}
theorem jdo {x:Int}(h0:0<=x)(h1:x<bs.length):atI (bs.map U.int) x=some (.int (bt bs x)):=by
 obtain⟨j,rfl⟩:=YaD h0;have hj:j<bs.length:=by omega
 have:bs[j]?=some (bt bs (j:Int)):=by unfold bt;simp[Ya1,hj]
 exact atM this
theorem jiX {x y v:Int}(h0:0<=x)(h1:x<bs.length)(hy:0<=y):bt (bs.set x.toNat v) y=if y=x then v else bt bs y:=by
 unfold bt;by_cases e:y=x
 ·subst e;rw[if_pos rfl];simp[Ya1,show y.toNat<bs.length by omega]
 ·rw[if_neg e];simp only[Ya1];rw[Ybv (by omega)]
theorem jmT {x:Int}(h0:0<=x)(h1:x<bs.length):bt bs x∈bs:=by
 unfold bt;have:x.toNat<bs.length:=by omega
 simp[Ya1,this]
end
def Kp (ss:List Spn)(L:List Int)(P:Int)(bs:List Int)(e:Ent):Prop:=P ∣ bt bs (eS ss e)+eL L e-bt bs (eD ss e)
section
variable {k:Nat}{G:Gp}{Q:K1}{X:KX}{xs:List Str}{ss:List Spn}{W:Nat}{L:List Int}{P:Int}
theorem jh5 {w:Nat}{fs:List (Int×Ent)}{pf:Addr}{o:Obj}{bs:List Int}(hF:Fst W ss w fs)(w8:W<=8)(hL:LOk ss L)(p1:1<=P)(p2:P<=600)(bl:bs.length=W)(bb:∀b∈bs,0<=b/\b<P)(gf:G pf=some (.frk o (fkv fs)))
  (q:∀(bs':List Int) (G':Gp),Sa G G'->bs'.length=W->(∀b∈bs',0<=b/\b<P)->(∀x,0<=x->x∉fky fs->bt bs' x=bt bs x)->(∀f∈fs,Kp ss L P bs' f.2)->Q (jap bs') G') :
  jab T (k+2) jbW [jaf xs ss,.int P,jap bs,.loc pf,jap L] G Q X:=by
 have rl:=jax W _ hF.nd hF.bd;simp only[fky,YaB,Yaa]at rl;refine⟨rfl,?_⟩;simp! only[jb7,jaj,Yaf,jap];intro p1' G1 n1;simp! only[jkr (n1.sa _ _ gf)];have ei:jcx (fkv fs)=fs.map λf=>U.tup [.int f.1,eu f.2]:=by unfold jcx fkv;rw[Ya0];rfl
 rw[ei];have hpf:pf≠p1':=λz=>by rw[z,n1.no]at gf;cases gf
 refine jat (λj ς G'=>∃(bs':List Int) (o6 o7 o8 o9:Option U),ς=[some (jaf xs ss),some (.int P),some (.tup (bs.map .int)),some (.loc pf),some (.tup (L.map .int)),some (.loc p1'),o6,o7,o8,o9]/\Sa G G'/\G' p1'=some (.lst (bs'.map .int))/\bs'.length=W/\(∀b∈bs',0<=b/\b<P)/\(∀x,0<=x->x∉fky (fs.take j)->bt bs' x=bt bs x)/\∀i f,i<j->fs[i]?=some f->Kp ss L P bs' f.2) ?_ ?_
  ⟨bs,_,_,_,_,rfl,n1.sa,n1.at,bl,bb,λ_ _ _=>rfl,λi f h=>by omega⟩
 ·rintro ς G2 ⟨bs',o6,o7,o8,o9,rfl,s2,g2,l2,b2,k2,h2⟩;rw[Yaa]at k2 h2;rw[YaI]at k2;refine⟨s2 _ _ gf,?_⟩;simp! only[it_l g2];exact q bs' G2 s2 l2 b2 k2 λf hf=>by
   obtain⟨i,hi,e⟩:=YaQ hf;exact h2 i f hi (by rw[Yae hi,e])
 ·rintro j u ς G2 K hu ⟨bs',o6,o7,o8,o9,rfl,s2,g2,l2,b2,k2,h2⟩ hk;rw[Yal]at hu;cases ef:fs[j]? with
  |none=>rw[ef]at hu;cases hu
  |some f=>
   rw[ef]at hu;cases hu;obtain⟨h1,hS,hD⟩:=hF.en j f ef;obtain⟨e1,L0,L1⟩:=hL.at h1;have bx:=hF.bd f.1 (Yaj _ (jc9 ef));have bD:=hF.bd _ (jg8 hD);have nd:=List.nodup_cons.mp hF.nd;have new:∀y,y∈(w:Int)::fky (fs.take j)->y≠f.1:=λy hy z=>by
    rcases YaL.mp hy with z'|z'
    ·exact nd.1 (by rw[<- z',z];exact jc9 ef)
    ·obtain⟨i,f',hi,ei',e'⟩:=jb3 z';have a1:(fky fs)[i]?=some f.1:=by unfold fky;rw[Yal,ei',Yfu,e',z]
     have a2:(fky fs)[j]?=some f.1:=by unfold fky;rw[Yal,ef];rfl
     have:=(Yfx (List.getElem?_eq_some_iff.mp a1).1 nd.2).mp (a1.trans a2.symm);omega
   refine⟨s2 _ _ gf,?_⟩;simp! only[eu];refine⟨trivial,trivial,by decide,?_⟩
   refine jgF (e:=f.2) h1 ?_;rw[ix_t (jaN _ _ _)];simp! only[ix_l g2 (jdo bD.1 (show eD ss f.2<(bs'.length:Int) by omega)),ix_t (atM e1)]
   refine⟨.inl (by rcases h1.2 with z|z<;>rw[z]<;>constructor<;>omega),by omega,?_⟩
   obtain⟨xn,hxn⟩:=YaD bx.1;rw[hxn,jjk g2 (je3 (by rw[Yaa];omega))]
   intro G3 p3;obtain⟨v,hv⟩:∃v,v=(bt bs' (eD ss f.2)-f.2.2*L.getD f.2.1 0)%P:=⟨_,rfl⟩;have v0:0<=v:=by rw[hv];exact Yby _ (by omega)
   have v1:v<P:=by rw[hv];exact Ybr _ (by omega)
   rw[<- hv,<- YeD]at p3;have hset:∀y,0<=y->bt (bs'.set xn v) y=if y=f.1 then v else bt bs' y:=λy hy=>by
    have:=jiX (bs:=bs') (v:=v) (y:=y) bx.1 (by omega) hy
    rw[show f.1.toNat=xn by omega]at this
    exact this
   refine hk _ _ ⟨bs'.set xn v,_,_,_,_,rfl,λb u' hb=>p3.sm _ _ (λz=>by rw[z,n1.no]at hb;cases hb) (s2 _ _ hb),p3.at,by simp[l2],λb hb=>?_,λy hy hn=>?_,λi f' hi ei'=>?_⟩
   ·rcases Yei hb with z|z
    ·exact b2 b z
    ·rw[z];exact⟨v0,v1⟩
   ·rw[YaS,ef]at hn;have h1':y∉fky (fs.take j):=λz=>hn (by simp[fky]at z ⊢;exact .inl z)
    have h2':y≠f.1:=λz=>hn (by simp[fky,z])
    rw[hset y hy,if_neg h2',k2 y hy h1']
   ·by_cases e:i=j
    ·subst e;rw[ef]at ei';cases ei';unfold Kp;rw[hS,hset _ bx.1,if_pos rfl,hset _ bD.1,if_neg (new _ hD)];refine⟨-((bt bs' (eD ss f.2)-f.2.2*L.getD f.2.1 0)/P),?_⟩;have:=Yc7 (bt bs' (eD ss f.2)-f.2.2*L.getD f.2.1 0) P;rw[<- hv]at this;unfold eL;rw[Int.mul_neg];omega
    ·have hi':i<j:=by omega
     obtain⟨o1,oS,oD⟩:=hF.en i f' ei';have bS':=hF.bd f'.1 (Yaj _ (jc9 ei'));have bD':=hF.bd _ (jg8 oD);have old:∀y,y∈(w:Int)::fky (fs.take i)->y∈(w:Int)::fky (fs.take j):=λy hy=>by
      rcases YaL.mp hy with z|z
      ·rw[z];simp
      ·obtain⟨i2,f2,hi2,e2,e3⟩:=jb3 z;refine Yaj _ (List.mem_map.mpr ⟨f2,?_,e3⟩);exact Yak (i:=i2) (by rw[Yfj,if_pos (by omega)];exact e2)
     have mS:f'.1∈(w:Int)::fky (fs.take j):=by
      refine Yaj _ (List.mem_map.mpr ⟨f',?_,rfl⟩);exact Yak (i:=i) (by rw[Yfj,if_pos hi'];exact ei')
     have:=h2 i f' hi' ei';unfold Kp at this ⊢;rw[oS]at this ⊢;rw[hset _ bS'.1,if_neg (new _ mS),hset _ bD'.1,if_neg (new _ (old _ oD))];exact this
end

section
variable {ss:List Spn}{L:List Int}{P:Int}{bs:List Int}
theorem tel:∀{r:List Ent} {a b:Int},(∀e∈r,Kp ss L P bs e)->Wk ss r a b->P ∣ bt bs a+sumL L r-bt bs b
 |[],a,b,_,h=>by
  rw[show a=b from h];exact⟨0,by simp[sumL]⟩
 |e::r,a,b,hk,⟨_,h2,h3⟩=>by
  have h1:=hk e Yaw;have ih:=tel (λe' he=>hk e' (Yaj _ he)) h3;have:=Int.dvd_add h1 ih;rw[h2]at this;have es:sumL L (e::r)=eL L e+sumL L r:=by simp[sumL]
  rw[es];have e2:bt bs a+eL L e-bt bs (eD ss e)+(bt bs (eD ss e)+sumL L r-bt bs b)=bt bs a+(eL L e+sumL L r)-bt bs b:=by omega
  rw[e2]at this;exact this
theorem Kp.flip {e:Ent}(h:Kp ss L P bs e)(he:EOk ss e):Kp ss L P bs (ja3 e):=by
 obtain⟨_,f2,f3⟩:=he.flip;unfold Kp at h ⊢;rw[f2,f3,jkF];have:=Int.dvd_neg.mpr h;rw[show -(bt bs (eS ss e)+eL L e-bt bs (eD ss e))=bt bs (eD ss e) + -eL L e-bt bs (eS ss e) by omega]at this
 exact this
theorem jg7 (e:Ent):ja3 (ja3 e)=e:=by unfold ja3;simp
theorem Tf.kp {fs:List (Int×Ent)}{e:Ent}(h:Tf fs e)(he:EOk ss e)(hk:∀f∈fs,Kp ss L P bs f.2):Kp ss L P bs e:=by
 obtain⟨f,hf,z|z⟩:=h
 ·rw[<- z];exact hk f hf
 ·have:=hk f hf;rw[z]at this;have:=this.flip he.flip.1;rw[jg7]at this;exact this
theorem CR.kp {fs:List (Int×Ent)}{i:Nat}{s:Spn}{ring:List Ent}(h:CR ss fs i s ring)(hk:∀f∈fs,Kp ss L P bs f.2)(hz:sumL L ring%P=0):Kp ss L P bs (i,1):=by
 obtain⟨r,rfl,ht⟩:=h.tl;obtain⟨w1,w2,w3⟩:=h.wk;have t:=tel (λe he=>(ht e he).kp (w3.all e he) hk) w3;have es:sumL L ((i,1)::r)=eL L (i,1)+sumL L r:=by simp[sumL]
 rw[es]at hz;have d:=Int.dvd_of_emod_eq_zero hz;unfold Kp;rw[eS_1 h.at',eD_1 h.at'];rw[eD_1 h.at']at t;have:=Yfm d t;rw[show eL L (i,1)+sumL L r-(bt bs s.t+sumL L r-bt bs s.o)=bt bs s.o+eL L (i,1)-bt bs s.t by omega]at this
 exact this
theorem jkb {bs':List Int}{i:Nat}{s:Spn}(h:Kp ss L P bs (i,1))(hs:ss[i]?=some s)(h1:bt bs' s.o=bt bs s.o)(h2:bt bs' s.t=bt bs s.t):Kp ss L P bs' (i,1):=by
 unfold Kp at h ⊢;rw[eS_1 hs,eD_1 hs]at h ⊢;rw[h1,h2];exact h
theorem jdM {r:List Ent}{a:Int}(hk:∀i,i<ss.length->Kp ss L P bs (i,1))(hw:Wk ss r a a):P ∣ sumL L r:=by
 have all:∀e∈r,Kp ss L P bs e:=λe he=>?_
 ·have:=tel all hw;rw[show bt bs a+sumL L r-bt bs a=sumL L r by omega]at this
  exact this
 ·have ok:=hw.all e he;have k1:=hk e.1 ok.1;rcases ok.2 with z|z
  ·rw[show e=(e.1,1)from Yc6 rfl z];exact k1
  ·have:=k1.flip (e:=(e.1,1)) ⟨ok.1,.inl rfl⟩;rw[show ja3 (e.1,1)=e from Yc6 rfl (by simp[ja3,z])]at this
   exact this
end
theorem jhE (n:Nat):(Yaf n [U.int 0]).flatten=(Yaf n (0:Int)).map .int:=by
 induction n with
 |zero=>rfl
 |succ n ih=>rw[YaU,Ybw,ih,YaU];rfl
theorem jmS (n:Nat)(x:Int):bt (Yaf n 0) x=0:=by
 unfold bt;simp only[Ya1,YcO];split<;>rfl
theorem jcL {p:List Int}(h:p≠[]):p.headD 0∈p:=by
 cases p with
 |nil=>exact absurd rfl h
 |cons a r=>simp
theorem IsP.apart {W:Nat}{es:List (Int×Int)}{ps:List (List Int)}(h:IsP W es ps){n:Nat}{p p':List Int}(hp:ps[n]?=some p)(hp':p'∈ps.take n){x:Int}(h1:x∈p)(h2:x∈p'):False:=by
 have e:=h.un p (Yak hp) p' (Ybh hp') x h1 h2;subst e;obtain⟨i,hi,ei⟩:=YaQ hp';rw[Ybn]at hi;rw[Yfw]at ei;have a1:ps[i]?=some p:=by rw[Yae (by omega),ei]
 have:=(Yfx (by omega) h.nd).mp (a1.trans hp.symm)
 omega
section
variable {k:Nat}{G:Gp}{Q:K1}{X:KX}{xs:List Str}{ss:List Spn}{L:List Int}{P:Int}
structure Pt (W:Nat)(ss:List Spn)(L:List Int)(P:Int)(ps:List (List Int))(n:Nat)(bs:List Int):Prop where
 l:bs.length=W
 b:∀b∈bs,0<=b/\b<P
 z:∀x,0<=x->(∀p∈ps.take n,x∉p)->bt bs x=0
 h:∀p∈ps.take n,bt bs (p.headD 0)=0
 k:∀i s,ss[i]?=some s->(∃p∈ps.take n,(s.o:Int)∈p)->Kp ss L P bs (i,1)
theorem Pt.step {W n w:Nat}{fs:List (Int×Ent)}{p:List Int}{ps:List (List Int)}{bs bs':List Int}(h:Pt W ss L P ps n bs)(hP:IsP W (edg ss) ps)(hp:ps[n]?=some p)(hw:p.headD 0=w)(he:∀x,x∈p↔x∈(w:Int)::fky fs)(hF:Fst W ss w fs)
  (l':bs'.length=W) (b':∀b∈bs',0<=b/\b<P) (s':∀x,0<=x->x∉fky fs->bt bs' x=bt bs x) (k':∀f∈fs,Kp ss L P bs' f.2) (r':∀i s,ss[i]?=some s->(s.o:Int)∈p->(∃f∈fs,f.2.1=i)\/∃r,CR ss fs i s r/\sumL L r%P=0):Pt W ss L P ps (n+1) bs':=by
 have pm:=Yak hp;have tk:∀p',p'∈ps.take (n+1)->p'∈ps.take n\/p'=p:=λp' hp'=>by
  rw[YaS,hp]at hp';rcases List.mem_append.mp hp' with z|z
  ·exact .inl z
  ·exact .inr (List.mem_singleton.mp z)
 have tn:∀p',p'∈ps.take n->p'∈ps.take (n+1):=λp' hp'=>by rw[YaS];exact Yau _ hp'
 have tp:p∈ps.take (n+1):=by rw[YaS,hp];exact Yas _ (List.mem_singleton.mpr rfl)
 have off:∀x,x∉p->x∉fky fs:=λx hx z=>hx ((he x).mpr (Yaj _ z));have nd:=List.nodup_cons.mp hF.nd;have hwp:(w:Int)∈p:=(he w).mpr (by simp)
 refine⟨l',b',λx hx hn=>?_,λp' hp'=>?_,λi s es ⟨p',hp',ho⟩=>?_⟩
 ·rw[s' x hx (off x (hn p tp))];exact h.z x hx λp' hp'=>hn p' (tn p' hp')
 ·rcases tk p' hp' with z|z
  ·have hm:=jcL (hP.ne p' (Ybh z));have bd:=hP.bd p' (Ybh z) _ hm;rw[s' _ bd.1 (off _ λz'=>hP.apart hp z z' hm)];exact h.h p' z
  ·rw[z,hw,s' _ (by omega) nd.1]
   exact h.z _ (by omega) λp' hp' z'=>hP.apart hp hp' hwp z'
 ·rcases tk p' hp' with z|z
  ·have hpm:=Ybh z;have ht:(s.t:Int)∈p':=hP.part hpm ho (.one (.inl (List.mem_map.mpr ⟨s,Yak es,rfl⟩)));exact jkb (h.k i s es ⟨p',z,ho⟩) es (s' _ (by omega) (off _ λz'=>hP.apart hp z z' ho)) (s' _ (by omega) (off _ λz'=>hP.apart hp z z' ht))
  ·subst z;rcases r' i s es ho with⟨f,hf,ef⟩|⟨r,hr,hz⟩
   ·obtain⟨j,hj,ej⟩:=YaQ hf;have okf:=(hF.en j f (by rw[Yae hj,ej])).1
    have kf:=k' f hf;rcases okf.2 with z|z
    ·rw[show f.2=(i,1)from Yc6 ef z]at kf;exact kf
    ·have:=kf.flip okf;rw[show ja3 f.2=(i,1)from Yc6 ef (by simp[ja3,z])]at this
     exact this
   ·exact hr.kp k' hz
theorem jcY (so:∀s∈ss,s.Ok xs.length)(sl:ss.length<=24)(w8:xs.length<=8)(hL:LOk ss L)(p1:1<=P)(p2:P<=600)
  (q1:∀(r:List Ent) (a:Int) (G':Gp),Sa G G'->r≠[]->r.length<=30->Wk ss r a a->sumL L r%P≠0->Q (.tup [.str "ring",jdT r]) G')
  (q2:∀(bs:List Int) (ps:List (List Int)) (G':Gp),Sa G G'->bs.length=xs.length->(∀b∈bs,0<=b/\b<P)->(∀i,i<ss.length->Kp ss L P bs (i,1))->IsP xs.length (edg ss) ps->ps.Pairwise Sl->(∀p∈ps,bt bs (p.headD 0)=0)->Q (.tup [.str "beats",jap bs]) G') :
  jab T (k+5) jcg [jaf xs ss,.int P,jap L] G Q X:=by
 refine⟨rfl,?_⟩;simp! only[jdJ,jaj,Yaf,jap];refine⟨by rw[Yaa,hL.l];exact Yan sl (by decide),?_⟩
 refine jaw (λu=>.tup [u,u]) trivial (λu hu K hK=>?_) ?_
 ·obtain⟨e,he,rfl⟩:=List.mem_map.mp hu;simp! only[];exact⟨by decide,hK⟩
 intro pw G1 n1;have ew:[]++(L.map U.int).map (λu=>U.tup [u,u])=winU L:=by rw[Ya7,Ya0];rfl
 rw[ew]at n1;simp! only[jaf,ix_t (jci _ _),Yaa];refine⟨by decide,by simp,by omega,by omega,Yan (show _<=8 by simp;omega) (by decide),?_⟩
 rw[jhE];simp! only[jcq];refine jeX (xs:=xs) so sl w8 λps G2 hP hS hl s2=>?_;simp! only[jiz];have s02:=n1.sa.trans s2;refine jat (λn ς G'=>∃(bs:List Int) (o5 o6 o7:Option U),ς=[some (jaf xs ss),some (.int P),some (.tup (L.map .int)),some (.loc pw),some (jap bs),o5,o6,o7]/\Sa G1 G'/\Pt xs.length ss L P ps n bs) ?_ ?_
  ⟨Yaf xs.length 0,_,_,_,rfl,s2,by simp,λb hb=>by rw[List.eq_of_mem_replicate hb];omega,λx _ _=>jmS _ _,λp hp=>by simp at hp,λi s _ ⟨p,hp,_⟩=>by simp at hp⟩
 ·rintro ς G3 ⟨bs,o5,o6,o7,rfl,s3,pt⟩;rw[Yaa]at pt;refine⟨trivial,?_⟩;simp! only[jcp];have tl:=YaI (l:=ps);refine⟨by decide,q2 bs ps G3 (n1.sa.trans s3) pt.l pt.b (λi hi=>?_) hP hS (λp hp=>pt.h p (by rw[tl];exact hp))⟩
  have es:ss[i]?=some ss[i]:=Yae hi;obtain⟨p,hp,hpo,_⟩:=hP.ed _ _ (List.mem_map.mpr ⟨ss[i],YbW hi,rfl⟩);exact pt.k i _ es ⟨p,by rw[tl];exact hp,hpo⟩
 ·rintro n u ς G3 K hu ⟨bs,o5,o6,o7,rfl,s3,pt⟩ hk;rw[Yal]at hu;cases ep:ps[n]? with
  |none=>rw[ep]at hu;cases hu
  |some p=>
   rw[ep]at hu;cases hu;have pm:=Yak ep;obtain⟨x0,rest,rfl⟩:∃x r,p=x::r:=by
    cases p with
    |nil=>exact absurd rfl (hP.ne _ pm)
    |cons x r=>exact⟨x,r,rfl⟩
   have b0:=hP.bd _ pm x0 (by simp)
   obtain⟨w,rfl⟩:=YaD b0.1;refine⟨trivial,?_⟩;simp! only[jap];have ec:cut (U.int w::rest.map U.int) none (some 1)=[.int w]:=jhk (U.int w::rest.map U.int) 1;rw[ec];refine jdt (k:=k+2) (r:=.tup [.int w]) (xs:=xs) so sl (show w<xs.length by omega) w8 (λ_ _ _ h=>h) λpf fs G4 s4 nf gf hF hC=>?_
   have mem:∀x,x∈(w:Int)::rest↔x∈(w:Int)::fky fs:=λx=>
    ⟨λhx=>(hP.co _ pm w (by simp) x hx).closed (S:=λz=>z∈(w:Int)::fky fs) (λa b ha e=>hC a b ha e) (by simp),λhx=>hP.part pm (by simp) (hF.rch.co x hx)⟩
   refine jgG (k:=k) (xs:=xs) (ps:=(w:Int)::rest) hF w8 sl gf hC (λx hx=>(mem x).mp hx) λpr rs o G5 s5 nr gr gf5 c1 c2 rl=>?_;rw[it_l gr];have pwf:pw≠pf:=λz=>by rw[z]at n1;have:=s3 _ _ n1.at;rw[nf]at this;cases this
   have s15:Sa G3 G5:=λb u hb=>s5 _ _ (λz=>by rw[z,nf]at hb;cases hb) (s4 _ _ hb)
   refine jat (λj ς G'=>∃(o7:Option U),ς=[some (jaf xs ss),some (.int P),some (.tup (L.map .int)),some (.loc pw),some (jap bs),some (jap ((w:Int)::rest)),some (.loc pf),o7]/\Sa G5 G'/\∀r∈rs.take j,sumL L r%P=0) ?_ ?_ ⟨_,rfl,Sa.refl,λr hr=>by simp at hr⟩
   ·rintro ς G6 ⟨o7,rfl,s6,hz⟩;rw[Yaa,YaI]at hz;refine⟨by unfold lsG;rw[s6 _ _ gr],?_⟩
    simp! only[];refine jh5 (xs:=xs) hF w8 hL p1 p2 pt.l pt.b (s6 _ _ gf5) λbs' G7 s7 l7 b7 e7 k7=>?_;simp! only[];refine hk _ _ ⟨bs',_,_,_,rfl,s3.trans (s15.trans (s6.trans s7)),pt.step hP ep rfl mem hF l7 b7 e7 k7 λi s es ho=>?_⟩;rcases c2 i s es ho with z|⟨r,hr,h⟩
    ·exact .inl z
    ·exact .inr ⟨r,h,hz r hr⟩
   ·rintro j u ς G6 K2 hu ⟨o7,rfl,s6,hz⟩ hk2;rw[Yal]at hu;cases er:rs[j]? with
    |none=>rw[er]at hu;cases hu
    |some r=>
     rw[er]at hu;cases hu;obtain⟨i,s,hr⟩:=c1 r (Yak er);have rl0:=jax _ _ hF.nd hF.bd;simp only[fky,YaB,Yaa]at rl0;have rl1:=hr.l;refine⟨by unfold lsG;rw[s6 _ _ gr],?_⟩
     simp! only[];refine jjZ (xs:=xs) hL hr.wk.all (by omega) p1 p2 (s6 _ _ (s15 _ _ (s3 _ _ n1.at))) λG7 s7=>?_
     simp! only[];by_cases c:sumL L r%P=0
     ·rw[if_neg (by simpa using c)]
      refine hk2 _ _ ⟨_,rfl,s6.trans s7,λr' hr'=>?_⟩;rw[YaS,er]at hr';rcases List.mem_append.mp hr' with z|z
      ·exact hz r' z
      ·rw[List.mem_singleton.mp z];exact c
     ·rw[if_pos (by simpa using c)]
      obtain⟨t,ht,_⟩:=hr.tl;exact⟨by decide,q1 r s.o G7 (n1.sa.trans (s3.trans (s15.trans (s6.trans s7)))) (by rw[ht];simp) (by omega) hr.wk c⟩
end

theorem jmy {z:Int}{G:Gp}{Q:K1}:je4 [.int z,.ty "int"] G Q=Q (.bl true) G:=rfl
theorem jmz {z:Int}{G:Gp}{Q:K1}:je4 [.int z,.ty "bool"] G Q=Q (.bl false) G:=rfl
theorem jeu {us:List U}{G:Gp}{Q:K1}:je4 [.tup us,.ty "tuple"] G Q=Q (.bl true) G:=rfl
noncomputable def endZ (P:Int)(s:Spn):Int:=if s.lo+P-1<(if s.w = "span" then s.hi else P-s.hi) then s.lo+P-1 else if s.w = "span" then s.hi else P-s.hi
theorem jmH {P:Int}{s:Spn}{W:Nat}(h:s.Ok W)(p2:P<=600):endZ P s<=9999:=by
 have:=h.hi;unfold endZ;split<;>split<;>omega
section
variable {k:Nat}{G:Gp}{Q:K1}{X:KX}{xs:List Str}{ss:List Spn}{L:List Int}{P:Int}{W:Nat}
theorem jiB {s:Spn}(h:s.Ok W)(q:Q (.int (endZ P s)) G):jab T (k+1) jc1 [.int P,s.u] G Q X:=by
 refine⟨rfl,?_⟩;simp! only[jeB,jaj,Yaf,Spn.u,ix_t (jci _ _),ix_t (jaN _ _ _)];unfold endZ at q;rcases h.w with z|z
 ·rw[z,if_neg (by decide +kernel)]
  rw[z,if_neg (show ¬(("apart" : Str) = "span") by decide +kernel)]at q
  exact q
 ·rw[z,if_pos (by decide +kernel)]
  rw[z,if_pos rfl]at q;exact q
theorem jdX {z a b:Int}(q:Q (.bl (decide (a<=z)&&decide (z<=b))) G):jab T (k+1) jaL [.int z,.int a,.int b] G Q X:=by
 refine⟨rfl,?_⟩;simp! only[jdc,jaj,Yaf,jmy,jmz];by_cases c:a<=z
 ·rw[decide_eq_true c]at q ⊢;exact q
 ·rw[decide_eq_false c]at q ⊢;exact q
theorem jh1 {e:Ent}(h:EOk ss e)(q:Q (.tup [.int (eS ss e),.int (eD ss e)]) G):jab T (k+2) jdy [jaf xs ss,.tup [],eu e] G Q X:=by
 obtain⟨s,hs,z⟩:=h.get;have il:=h.1;refine⟨rfl,?_⟩;simp! only[jdH,jaj,Yaf,eu,jeu];refine⟨by decide,rfl,by decide,?_⟩
 simp! only[jco,jcn,jaf,ix_t (jci _ _),ix_t (jaN _ _ _),Yaa];refine jdX ?_;rw[decide_eq_true (show(0:Int)<=(e.1:Int) by omega),decide_eq_true (show(e.1:Int)<=(ss.length:Int)-1 by omega)]
 simp! only[];refine jdX ?_;rw[decide_eq_true (show(-1:Int)<=e.2 by have:=h.2;omega),decide_eq_true (show e.2<=(1:Int) by have:=h.2;omega)]
 simp! only[jcm,ix_t (jci _ _),ix_t (jaN _ _ _),ix_t (atM hs)];rw[if_neg (by decide),if_neg (by have:=h.2;simp;omega)]
 simp! only[Spn.u,ix_t (jaN _ _ _)];rcases z with⟨z,h1,h2⟩|⟨z,h1,h2⟩
 ·rw[show e.2=1 by rw[z],if_pos (by decide)]
  rw[h1,h2]at q;exact⟨by decide,q⟩
 ·rw[show e.2=-1 by rw[z],if_neg (by decide)]
  rw[h1,h2]at q;exact⟨by decide,q⟩
theorem Wk.next:∀{r:List Ent} {a b:Int},Wk ss r a b->∀{i:Nat} {e e':Ent},r[i]?=some e->r[i+1]?=some e'->eD ss e=eS ss e'
 |[],_,_,_,i,e,_,h,_=>by simp at h
 |[x],_,_,_,0,e,e',_,h=>by simp at h
 |x::y::r,_,_,⟨_,_,_,h3,_⟩,0,e,e',he,he'=>by
  simp at he he';rw[<- he,<- he',h3]
 |x::r,_,_,⟨_,_,h⟩,i+1,e,e',he,he'=>Wk.next h (i:=i) (by simpa using he) (by simpa using he')
theorem Wk.first {r:List Ent}{a b:Int}(h:Wk ss r a b){e:Ent}(he:r[0]?=some e):eS ss e=a:=by
 cases r with
 |nil=>simp at he
 |cons x r=>simp at he;rw[<- he];exact h.2.1
theorem jj1 {p:Addr}{r:List Ent}{kk:Bool->Prop}(g:G p=some (.lst (r.map λe=>U.tup [.int (eS ss e),.int (eD ss e)])))(q:kk false):inU .non (.loc p) G kk:=by
 unfold inU;dsimp only;rw[g];have du:∀r:List Ent,DUs G (r.map λe=>U.tup [.int (eS ss e),.int (eD ss e)]) (r.map λe=>PyData.tuple [.int (eS ss e),.int (eD ss e)]):=λr=>by
  induction r with
  |nil=>exact .nil
  |cons e r ih=>exact .cons (.tup (.cons (.int _) (.cons (.int _) .nil))) ih
 refine .inr ⟨.none,_,.non,du r,⟨rfl,by decide⟩,λe he=>?_,?_⟩
 ·obtain⟨v,_,rfl⟩:=List.mem_map.mp he;exact⟨rfl,by show max 0 (max 0 0)+1<=100;decide⟩
 ·have:(r.map λe=>PyData.tuple [.int (eS ss e),.int (eD ss e)]).any (λe=>YaG e .none)=false:=by
   rw[List.any_map,Yfy];intro e _ h;cases h
  rw[this];exact q
theorem jg9 {p p':Addr}{kk:Bool->Prop}(g:G p=some (.lst []))(g':G p'=some (.lst []))(q:kk true):cmpU .Eq (.loc p) (.loc p') G kk:=by
 refine(?_:eqU (.loc p) (.loc p') G kk);exact⟨.list [],.list [],.lst (by unfold lsG;rw[g]) .nil,.lst (by unfold lsG;rw[g']) .nil,⟨rfl,by decide⟩,⟨rfl,by decide⟩,q⟩
theorem jh0 {r:List Ent}{a:Int}(hw:Wk ss r a a)(hn:r≠[])(rl:r.length<=30)(q:∀G',Sa G G'->Q (.bl true) G'):jab T (k+3) jbU [jaf xs ss,.tup [],jdT r] G Q X:=by
 have r1:1<=r.length:=by cases r with|nil=>exact absurd rfl hn|cons _ _=>simp
 refine⟨rfl,?_⟩;simp! only[jb4,jaj,Yaf,jdT,jeu,Yaa];rw[decide_eq_true (show(1:Int)<=(r.length:Int) by omega),decide_eq_true (show(r.length:Int)<=60 by omega)]
 simp! only[jbj];refine⟨by rw[Yaa];exact Yan rl (by decide),?_⟩
 refine jaw (λu=>match u with|.tup [.int x,.int y]=>.tup [.int (eS ss (x.toNat,y)),.int (eD ss (x.toNat,y))]|u=>u) trivial (λu hu K hK=>?_) ?_
 ·obtain⟨e,he,rfl⟩:=List.mem_map.mp hu;simp! only[];exact jh1 (hw.all e he) hK
 intro p1 G1 n1;have e1:[]++(r.map eu).map (λu=>match u with|.tup [.int x,.int y]=>U.tup [.int (eS ss (x.toNat,y)),.int (eD ss (x.toNat,y))]|u=>u)=r.map λe=>U.tup [.int (eS ss e),.int (eD ss e)]:=by
  rw[Ya7,Ya0];rfl
 rw[e1]at n1;simp! only[jbi];refine jj1 n1.at ?_;rw[if_neg (by decide)]
 simp! only[jbh,jdZ n1.at,Yaa];refine⟨by omega,by omega,by rw[jaA];exact Yan (show((r.length:Int)).toNat<=30 by omega) (by decide),?_⟩
 refine jau (λ_ acc G'=>acc=[]/\G'=G1) ?_ ?_ ⟨rfl,rfl⟩
 ·rintro acc G' ⟨rfl,rfl⟩;refine⟨trivial,λp2 G2 n2=>⟨by decide,λp3 G3 n3=>?_⟩⟩
  exact jg9 (n3.sa _ _ n2.at) n3.at (q G3 ((n1.sa.trans n2.sa).trans n3.sa))
 ·rintro i x acc G' K hx ⟨rfl,rfl⟩ _ hkn;obtain⟨hi,rfl⟩:=jbG hx;have hi:i<r.length:=by omega
  obtain⟨e,he⟩:∃e,r[i]?=some e:=⟨_,Yae hi⟩;obtain⟨e0,h0,hd⟩:∃e0,atI (r.map λe=>U.tup [.int (eS ss e),.int (eD ss e)]) ((i:Int)-1)=some (U.tup [.int (eS ss e0),.int (eD ss e0)])/\eD ss e0=eS ss e:=by
   cases i with
   |zero=>
    rcases snoc r with z|⟨r',e0,z⟩
    ·exact absurd z hn
    ·refine⟨e0,?_,?_⟩
     ·refine(jbu _ r _).trans ?_;rw[z];unfold atI;rw[show ixN (r'++[e0]).length (((0:Nat):Int)-1)=some r'.length by unfold ixN;simp;omega]
      simp
     ·rw[z]at hw;rw[hw.last.2.2];exact(hw.first (by rw[<- z];exact he)).symm
   |succ j=>
    have hj:j<r.length:=by omega
    refine⟨r[j],?_,hw.next (Yae hj) he⟩
    rw[show((j+1:Nat):Int)-1=(j:Int) by omega]
    exact atM (f:=λe=>U.tup [.int (eS ss e),.int (eD ss e)]) (Yae hj)
  refine⟨trivial,?_⟩;simp! only[ix_l n1.at h0,ix_t (jaN _ _ _),ix_l n1.at (atM (f:=λe=>U.tup [.int (eS ss e),.int (eD ss e)]) he),ix_t (jci _ _),hd];exact hkn _ ⟨rfl,rfl⟩
end

noncomputable def own (P:Int)(b:List Int)(s:Spn):Int:=s.lo+(bt b s.t-bt b s.o-s.lo)%P
section
variable {k:Nat}{G:Gp}{Q:K1}{X:KX}{xs:List Str}{ss:List Spn}{L:List Int}{P:Int}{W:Nat}{f c:Addr}
theorem jjT (so:∀s∈ss,s.Ok W)(sl:ss.length<=24)(q:∀(ss':List Spn) (G':Gp),Sa G G'->ss'.length<=ss.length->(∀s∈ss',s∈ss/\s.lo<=endZ P s)->Q (jaf xs ss') G'):jab T (k+2) jaP [jaf xs ss,.int P] G Q X:=by
 refine⟨rfl,?_⟩;simp! only[jaS,jaj,Yaf,jaf,ix_t (jci _ _),ix_t (jaN _ _ _)];refine⟨by rw[Yaa];exact Yan sl (by decide),?_⟩
 refine jau (λi acc G'=>G'=G/\∃ss':List Spn,acc=ss'.map Spn.u/\ss'.length<=i/\∀s∈ss',s∈ss/\s.lo<=endZ P s) ?_ ?_ ⟨rfl,[],rfl,Yag _,λ_ h=>(nomatch h)⟩
 ·rintro acc G' ⟨rfl,ss',rfl,l',h'⟩;rw[Yaa]at l';refine⟨trivial,λp G1 n1=>?_⟩;dsimp only;rw[it_l n1.at];exact⟨by decide,q ss' G1 n1.sa l' h'⟩
 ·rintro i x acc G' K hx ⟨rfl,ss',rfl,l',h'⟩ hk hn;rw[Yal]at hx;cases es:ss[i]? with
  |none=>rw[es]at hx;cases hx
  |some s=>
   rw[es]at hx;cases hx;have sm:=Yak es;refine⟨trivial,?_⟩;simp! only[];show ixU (.tup [.str s.w,.int s.o,.int s.t,.int s.lo,.int s.hi]) _ _ _;rw[ix_t (show atI [U.str s.w,.int s.o,.int s.t,.int s.lo,.int s.hi] 3=some (.int s.lo)from rfl)];refine jiB (so s sm) ?_;simp! only[];by_cases d:s.lo<=endZ P s
   ·rw[if_pos (by simpa using d)]
    refine hk _ _ ⟨rfl,ss'++[s],by simp,by simp;omega,λs' hs'=>?_⟩
    rcases List.mem_append.mp hs' with z|z
    ·exact h' s' z
    ·rw[List.mem_singleton.mp z];exact⟨sm,d⟩
   ·rw[if_neg (by simpa using d)]
    exact hn _ ⟨rfl,ss',rfl,by omega,h'⟩
theorem jh4 {m:Nat}(hf:Fd G f c)(m8:m<=8)(p1:1<=P)(p2:P<=600)(q:∀(bs:List Int) (G':Gp),bs.length=m->(∀b∈bs,0<=b/\b<P)->Fd G' f c->Sm f G G'->Q (jap bs) G'):jab T (k+2) jc2 [.loc f,.int m,.int P] G Q X:=by
 refine⟨rfl,?_⟩;simp! only[jdg,jaj,Yaf];refine⟨by omega,by omega,by rw[jaA];exact Yan (show((m:Int)).toNat<=8 by omega) (by decide),?_⟩
 refine jau (λi acc G'=>Fd G' f c/\Sm f G G'/\∃bs:List Int,acc=bs.map .int/\bs.length=i/\∀b∈bs,0<=b/\b<P) ?_ ?_ ⟨hf,Sm.refl,[],rfl,rfl,λ_ h=>(nomatch h)⟩
 ·rintro acc G1 ⟨f1,s1,bs,rfl,hl,hb⟩;rw[jaA]at hl;refine⟨trivial,λp G2 n2=>?_⟩;dsimp only;rw[it_l n2.at];exact q bs G2 (by omega) hb (f1.new n2) (s1.nw n2)
 ·rintro i x acc G1 K hx ⟨f1,s1,bs,rfl,hl,hb⟩ hk _;exact⟨trivial,jae f1 (by omega) (by omega) λr G2 a2 b2 f2 s2=>hk _ _ ⟨f2,s1.trans s2,bs++[r],by simp,by simp[hl],λb hb'=>by
   rcases List.mem_append.mp hb' with z|z
   ·exact hb b z
   ·rw[List.mem_singleton.mp z];omega⟩⟩
theorem jlS {b:List Int}{s:Spn}(h:s.Ok W)(p1:1<=P)(p2:P<=600):0<=own P b s/\own P b s<=20000:=by
 have:=h.lo;have h1:=Yby (bt b s.t-bt b s.o-s.lo) (show P≠0 by omega)
 have h2:=Ybr (bt b s.t-bt b s.o-s.lo) (show 0<P by omega)
 unfold own;omega
theorem jjX {b:List Int}(hf:Fd G f c)(so:∀s∈ss,s.Ok W)(sl:ss.length<=24)(sv:∀s∈ss,s.lo<=endZ P s)(p1:1<=P)(p2:P<=600)(bl:b.length=W)(w8:W<=8)(q:∀(L:List Int) (G':Gp),LOk ss L->Fd G' f c->Sm f G G'->Q (jap L) G') :
  jab T (k+2) jaQ [.loc f,jaf xs ss,.int P,jap b] G Q X:=by
 refine⟨rfl,?_⟩;simp! only[jaT,jaj,Yaf,jap];refine⟨by decide,λp G1 n1=>?_⟩
 have hp:=hf.away n1;simp! only[jaI,jaf,ix_t (jaN _ _ _)];refine jat (λi ς G'=>∃(o5 o6 o7 o8 o9:Option U),ς=[some (.loc f),some (jaf xs ss),some (.int P),some (.tup (b.map .int)),some (.loc p),o5,o6,o7,o8,o9,none,none,none]/\G'=gup G1 p (.lst (((ss.take i).map (own P b)).map .int))) ?_ ?_ ⟨_,_,_,_,_,rfl,jd2 n1.at⟩
 ·rintro ς G2 ⟨o5,o6,o7,o8,o9,rfl,rfl⟩;rw[Yaa,YaI];refine⟨trivial,?_⟩;simp! only[jaH];have g2:gup G1 p (.lst ((ss.map (own P b)).map .int)) p=some (.lst ((ss.map (own P b)).map .int)):=jac;have f2:Fd (gup G1 p (.lst ((ss.map (own P b)).map .int))) f c:=(hf.new n1).off hp ⟨rfl⟩;have s2:Sm f G (gup G1 p (.lst ((ss.map (own P b)).map .int))):=Sm.wr Sm.refl n1.no n1.sa.sm ⟨rfl⟩;generalize gup G1 p (.lst ((ss.map (own P b)).map .int))=G2 at g2 f2 s2;refine jae f2 (by decide) (by decide) λway G3 a3 b3 f3 s3=>?_
  have g3:=s3 _ _ hp.1 g2;simp! only[jaG,jdZ g3,Yaa];refine⟨by omega,by omega,?_⟩
  refine jat (λi ς G'=>∃(L:List Int) (o5 o6 o7 o8 o9 o11 o12:Option U),ς=[some (.loc f),some (jaf xs ss),some (.int P),some (.tup (b.map .int)),some (.loc p),o5,o6,o7,o8,o9,some (.int way),o11,o12]/\Fd G' f c/\Sm f G G'/\G' p=some (.lst (L.map .int))/\LOk ss L) ?_ ?_
   ⟨ss.map (own P b),_,_,_,_,_,_,_,rfl,f3,s2.trans s3,g3,by simp,λx hx=>by obtain⟨s,hs,rfl⟩:=List.mem_map.mp hx;exact jlS (so s hs) p1 p2⟩
  ·rintro ς G4 ⟨L,o5,o6,o7,o8,o9,o11,o12,rfl,f4,s4,g4,hL⟩;refine⟨trivial,?_⟩;simp! only[jaF,it_l g4];exact q L G4 hL f4 s4
  ·rintro i x ς G4 K hx ⟨L,o5,o6,o7,o8,o9,o11,o12,rfl,f4,s4,g4,hL⟩ hk;obtain⟨hi,rfl⟩:=jbG hx;have hi:i<ss.length:=by omega
   obtain⟨s,es⟩:∃s,ss[i]?=some s:=⟨_,Yae hi⟩;have sm:=Yak es;have os:=so s sm;have ole:=jmH os p2;have oll:=os.lo;have osv:=sv s sm;obtain⟨y,eL'⟩:∃y,L[i]?=some y:=⟨L[i]'(by rw[hL.l];exact hi),Yae _⟩
   refine⟨trivial,?_⟩;simp! only[jaf,ix_t (jaN _ _ _),ix_t (atM es)];show ixU (.tup [.str s.w,.int s.o,.int s.t,.int s.lo,.int s.hi]) _ _ _;rw[ix_t (show atI [U.str s.w,.int s.o,.int s.t,.int s.lo,.int s.hi] 3=some (.int s.lo)from rfl)];refine jiB os ?_;simp! only[ix_l g4 (atM eL'),jdZ g4,Yaa];have put:∀G5,Fd G5 f c->Sm f G4 G5->jab T (k+1) jaa [.loc f,.int (endZ P s-s.lo+1)] G5 (λy G6=>binU .Add (.int s.lo) y G6 λv G7=>setU (.loc p) (.int i) v G7 λG8=>K [some (.loc f),some (jaf xs ss),some (.int P),some (.tup (b.map .int)),some (.loc p),o5,o6,o7,some (.int s.lo),o9,some (.int way),some (.int i),some (.int (endZ P s))] G8) λx G1=>X x G1:=λG5 f5 s5=>by
    refine jae f5 (by omega) (by omega) λr G6 a6 b6 f6 s6=>?_
    have g6:=s6 _ _ hp.1 (s5 _ _ hp.1 g4);rw[jm6,jjk g6 (je3 (by rw[Yaa,hL.l];exact hi))]
    intro G7 p7;rw[<- YeD]at p7;refine hk _ _ ⟨L.set i (s.lo+r),_,_,_,_,_,_,_,rfl,f6.off hp p7,Sm.wr Sm.refl n1.no (s4.trans (s5.trans s6)) p7,p7.at,by simp[hL.l],λx hx=>?_⟩
    rcases Yei hx with z|z
    ·exact hL.b x z
    ·rw[z];omega
   have skip:∀G5,Fd G5 f c->Sm f G4 G5->K [some (.loc f),some (jaf xs ss),some (.int P),some (.tup (b.map .int)),some (.loc p),o5,o6,o7,some (.int s.lo),o9,some (.int way),some (.int i),some (.int (endZ P s))] G5:=λG5 f5 s5=>hk _ _ ⟨L,_,_,_,_,_,_,_,rfl,f5,s4.trans s5,s5 _ _ hp.1 g4,hL⟩;refine⟨trivial,?_⟩;split
   ·exact put G4 f4 Sm.refl
   split
   ·exact put G4 f4 Sm.refl
   split
   ·have ll:=hL.l;refine jae f4 (by omega) (by omega) λr G5 a5 b5 f5 s5=>?_
    simp! only[];split
    ·exact put G5 f5 s5
    ·exact skip G5 f5 s5
   ·exact skip G4 f4 Sm.refl
 ·rintro i x ς G2 K hx ⟨o5,o6,o7,o8,o9,rfl,rfl⟩ hk;rw[Yal]at hx;cases es:ss[i]? with
  |none=>rw[es]at hx;cases hx
  |some s=>
   rw[es]at hx;cases hx;have os:=so s (Yak es);have o1:=os.o;have o2:=os.t;refine⟨trivial,?_⟩;simp! only[Spn.u,jbe jac,ix_t (jdo (bs:=b) (x:=(s.t:Int)) (by omega) (by omega)),ix_t (jdo (bs:=b) (x:=(s.o:Int)) (by omega) (by omega)),jdk jac,jaU,ja2]
   refine⟨trivial,by omega,by rw[Yaa,Yaa,Ybn];exact YaO (show min i ss.length<=24 by omega) (by decide),hk _ _ ⟨_,_,_,_,_,rfl,?_⟩⟩
   rw[YaS,es,Yax,Yax];rfl
end

section
variable {k:Nat}{G:Gp}{Q:K1}{X:KX}{xs:List Str}{ss:List Spn}{L:List Int}{P:Int}{W:Nat}
theorem jif {p:Addr}{n:Nat}{kk:Bool->Prop}(g:G p=some (.lst (Yaf n (.bl true))))(q:kk false):inU (.bl false) (.loc p) G kk:=by
 refine in_l g rfl (by simp[List.all_replicate,flat]) ?_
 have:((Yaf n (U.bl true)).any λy=>eqF y (.bl false))=false:=by simp[List.any_replicate,eqF]
 rw[this];exact q
theorem jgH {bs:List Int}{ps:List (List Int)}(so:∀s∈ss,s.Ok xs.length)(sl:ss.length<=24)(w8:xs.length<=8)(hL:LOk ss L)(p1:1<=P)(p2:P<=600)(bl:bs.length=xs.length)(bb:∀b∈bs,0<=b/\b<P)(hk:∀i,i<ss.length->Kp ss L P bs (i,1))(hP:IsP xs.length (edg ss) ps)(hS:ps.Pairwise Sl)(hh:∀p∈ps,bt bs (p.headD 0)=0)
  (q:∀G',Sa G G'->Q (.bl true) G'):jab T (k+2) jct [jaf xs ss,.int P,jap L,jap bs] G Q X:=by
 refine⟨rfl,?_⟩;simp! only[jcz,jaj,Yaf,jap,jeu,jaf,ix_t (jci _ _),Yaa];rw[if_neg (by simp),if_neg (by simp[bl])]
 simp! only[jbB];refine⟨by rw[Yaa,bl];exact Yan w8 (by decide),?_⟩
 refine jaw (λ_=>.bl true) trivial (λu hu K hK=>?_) ?_
 ·obtain⟨b,hb,rfl⟩:=List.mem_map.mp hu;simp! only[];refine jdX ?_;have:=bb b hb;rw[decide_eq_true this.1,decide_eq_true (show b<=P-1 by omega)]
  exact hK
 intro p1' G1 n1;have e1:[]++(bs.map U.int).map (λ_=>U.bl true)=Yaf bs.length (.bl true):=by rw[Ya7,Ya0];exact List.map_const' ..
 rw[e1]at n1;refine jif n1.at ?_;rw[if_neg (by decide)]
 simp! only[jbA,ix_t (jaN _ _ _)];show forL _ _ _ _ _ _;refine jat (λi ς G'=>∃(o4 o5:Option U),ς=[some (jaf xs ss),some (.int P),some (.tup (L.map .int)),some (.tup (bs.map .int)),o4,o5]/\G'=G1) ?_ ?_ ⟨_,_,rfl,rfl⟩
 ·rintro ς G' ⟨o4,o5,rfl,rfl⟩;refine⟨trivial,?_⟩;simp! only[jbz];refine jcs (xs:=xs) so w8 λp2 as ks G2 s2 hls hK hKS kl _=>?_;have eks:ks=ps:=hK.uniq hP (λh=>h) (λh=>h) hKS hS;subst eks;have gp:=hls.gp;rw[it_l gp];refine⟨by rw[Yaa,hls.l];exact Yan kl (by decide),?_⟩
  refine jau (λ_ acc G'=>acc=[]/\G'=G2) ?_ ?_ ⟨rfl,rfl⟩
  ·rintro acc G' ⟨rfl,rfl⟩;refine⟨by unfold lsG;rw[gp],λp3 G3 n3=>⟨by decide,λp4 G4 n4=>?_⟩⟩
   exact jg9 (n4.sa _ _ n3.at) n4.at (q G4 ((n1.sa.trans s2).trans (n3.sa.trans n4.sa)))
  ·rintro i x acc G' K hx ⟨rfl,rfl⟩ _ hkn;rw[Yal]at hx;cases ea:as[i]? with
   |none=>rw[ea]at hx;cases hx
   |some a=>
    rw[ea]at hx;cases hx;have il:i<ks.length:=by rw[<- hls.l];exact(List.getElem?_eq_some_iff.mp ea).1
    obtain⟨p,ep⟩:∃p,ks[i]?=some p:=⟨_,Yae il⟩;have pm:=Yak ep;have ga:=hls.ga i a p ea ep;have hm:=jcL (hP.ne p pm);have bd:=hP.bd p pm _ hm;obtain⟨x0,r,rfl⟩:∃x r,p=x::r:=by
     cases p with
     |nil=>exact absurd rfl (hP.ne _ pm)
     |cons x r=>exact⟨x,r,rfl⟩
    have h0:=hh _ pm;refine⟨by unfold lsG;rw[gp],?_⟩
    simp! only[];rw[ix_l ga (show atI ((x0::r).map U.int) 0=some (.int x0)from atM (n:=0) rfl),ix_t (jdo (bs:=bs) (x:=x0) bd.1 (by rw[bl];exact bd.2)),show bt bs x0=0 from h0]
    simp! only[];exact hkn _ ⟨rfl,rfl⟩
 ·rintro i u ς G' K hu ⟨o4,o5,rfl,rfl⟩ hk';rw[Yal]at hu;cases ez:((L.map U.int).zip (ss.map Spn.u))[i]? with
  |none=>rw[ez]at hu;cases hu
  |some z=>
   rw[ez]at hu;cases hu;obtain⟨e1,e2⟩:=List.getElem?_zip_eq_some.mp ez;rw[Yal]at e1 e2;cases es:ss[i]? with
   |none=>rw[es]at e2;cases e2
   |some s=>
    cases el:L[i]? with
    |none=>rw[el]at e1;cases e1
    |some l=>
     rw[es]at e2;rw[el]at e1;obtain⟨z1,z2⟩:=z;have y1:U.int l=z1:=Yar e1;have y2:s.u=z2:=Yar e2;clear e1 e2;subst y1;subst y2;have os:=so s (Yak es);have o1:=os.o;have o2:=os.t;have kp:=hk i (List.getElem?_eq_some_iff.mp es).1;unfold Kp at kp;rw[eS_1 es,eD_1 es,eL_1 rfl,je7 el]at kp;refine⟨trivial,?_⟩;simp! only[];refine⟨trivial,?_⟩;show ixU (.tup [.str s.w,.int s.o,.int s.t,.int s.lo,.int s.hi]) _ _ _;rw[ix_t (jaN _ _ _),ix_t (jdo (bs:=bs) (x:=(s.o:Int)) (by omega) (by omega))]
     simp! only[];show ixU (.tup [.str s.w,.int s.o,.int s.t,.int s.lo,.int s.hi]) _ _ _;rw[ix_t (show atI [U.str s.w,.int s.o,.int s.t,.int s.lo,.int s.hi] 2=some (.int s.t)from rfl),ix_t (jdo (bs:=bs) (x:=(s.t:Int)) (by omega) (by omega))]
     simp! only[];refine⟨by omega,?_⟩
     rw[if_neg (by simp;exact Yb5 kp)]
     exact hk' _ _ ⟨_,_,rfl,rfl⟩
end

section
variable {k:Nat}{G:Gp}{Q:K1}{X:KX}{xs:List Str}{ss:List Spn}{L:List Int}{P:Int}{W:Nat}
theorem jhY (so:∀s∈ss,s.Ok xs.length)(sl:ss.length<=24)(w8:xs.length<=8)(hL:LOk ss L)(p1:1<=P)(p2:P<=600)
  (q1:∀(r:List Ent) (a:Int) (G':Gp),Sa G G'->Wk ss r a a->sumL L r%P≠0->Q (.str "ring") G') (q2:∀G',Sa G G'->Q (.str "beats") G'):jab T (k+6) jc0 [jaf xs ss,.int P,jap L] G Q X:=by
 refine⟨rfl,?_⟩;simp! only[jdd,jaj,Yaf];refine jcY (k:=k) so sl w8 hL p1 p2 (λr a G1 s1 hn rl hw hs=>?_) λbs ps G1 s1 bl bb hk hP hS hh=>?_
 ·simp! only[jaZ,jeu,ix_t (jci _ _)];rw[if_neg (by decide),if_neg (by decide)]
  refine⟨by decide,rfl,by decide,?_⟩
  dsimp only;rw[if_neg (by decide +kernel)]
  simp! only[jaY,ix_t (jci _ _)];rw[if_neg (by decide +kernel)]
  simp! only[jbO,ix_t (jaN _ _ _)];refine⟨by decide,jh0 (k:=k+2) hw hn rl λG2 s2=>?_⟩
  simp! only[jbN,ix_t (jaN _ _ _),jdT];refine⟨by rw[Yaa];exact Yan rl (by decide),?_⟩
  refine jaw (λu=>match u with|.tup [.int x,.int y]=>.int (eL L (x.toNat,y))|u=>u) trivial (λu hu K hK=>?_) ?_
  ·obtain⟨e,he,rfl⟩:=List.mem_map.mp hu;have ok:=hw.all e he;obtain⟨e1,_,_⟩:=hL.at ok;simp! only[eu,jap,ix_t (atM e1)];refine⟨trivial,.inl (by rcases ok.2 with z|z<;>rw[z]<;>constructor<;>omega),?_⟩
   exact hK
  intro p3 G3 n3;have e3:[]++(r.map eu).map (λu=>match u with|.tup [.int x,.int y]=>U.int (eL L (x.toNat,y))|u=>u)=(r.map (eL L)).map .int:=by
   rw[Ya7,Ya0,Ya0];rfl
  rw[e3]at n3;rw[jjd n3.at];simp! only[];refine⟨by omega,?_⟩
  rw[if_pos (by simpa[sumL]using hs)]
  exact q1 r a G3 (s1.trans (s2.trans n3.sa)) hw hs
 ·simp! only[jaZ,jeu,ix_t (jci _ _)];rw[if_neg (by decide),if_neg (by decide)]
  refine⟨by decide,rfl,by decide,?_⟩
  dsimp only;rw[if_neg (by decide +kernel)]
  simp! only[jaY,ix_t (jci _ _)];rw[if_pos (by decide +kernel)]
  simp! only[];rw[ix_t (jaN _ _ _)];refine jgH (k:=k+3) so sl w8 hL p1 p2 bl bb hk hP hS hh λG2 s2=>?_;exact q2 G2 (s1.trans s2)
end

section
variable {ss:List Spn}{L:List Int}{P:Int}{bs b0:List Int}{W:Nat}{ps:List (List Int)}
theorem jgo (h1:∀i,i<ss.length->Kp ss L P bs (i,1))(h2:∀i,i<ss.length->Kp ss L P b0 (i,1)){x y:Int}(h:Con (edg ss) x y):P ∣ (bt bs y-bt b0 y)-(bt bs x-bt b0 x):=by
 have one:∀a b,(a,b)∈edg ss->P ∣ (bt bs b-bt b0 b)-(bt bs a-bt b0 a):=λa b e=>by
  obtain⟨s,hs,e⟩:=List.mem_map.mp e;obtain⟨rfl,rfl⟩:=Ycw e;obtain⟨i,hi,ei⟩:=YaQ hs;have es:ss[i]?=some s:=by rw[Yae hi,ei]
  have k1:=h1 i hi;have k2:=h2 i hi;unfold Kp at k1 k2;rw[eS_1 es,eD_1 es]at k1 k2;have:=Yfm k2 k1;rw[show bt b0 s.o+eL L (i,1)-bt b0 s.t-(bt bs s.o+eL L (i,1)-bt bs s.t)=bt bs s.t-bt b0 s.t-(bt bs s.o-bt b0 s.o) by omega]at this
  exact this
 induction h with
 |refl=>exact⟨0,by omega⟩
 |@step a b _ e ih=>
  rcases e with e|e
  ·have:=Int.dvd_add ih (one _ _ e);rw[show bt bs a-bt b0 a-(bt bs x-bt b0 x)+(bt bs b-bt b0 b-(bt bs a-bt b0 a))=bt bs b-bt b0 b-(bt bs x-bt b0 x) by omega]at this
   exact this
  ·have:=Yfm ih (one _ _ e);rw[show bt bs a-bt b0 a-(bt bs x-bt b0 x)-(bt bs a-bt b0 a-(bt bs b-bt b0 b))=bt bs b-bt b0 b-(bt bs x-bt b0 x) by omega]at this
   exact this
def Due (P:Int)(b0:List Int)(ps:List (List Int))(x v:Int):Prop:=∃p∈ps,x∈p/\v=(bt b0 x-bt b0 (p.headD 0))%P
theorem jmM (h1:∀i,i<ss.length->Kp ss L P bs (i,1))(h2:∀i,i<ss.length->Kp ss L P b0 (i,1))(hP:IsP W (edg ss) ps)(hh:∀p∈ps,bt bs (p.headD 0)=0)(bl:bs.length=W)(bb:∀b∈bs,0<=b/\b<P){x v:Int}(hd:Due P b0 ps x v):bt bs x=v:=by
 obtain⟨p,hp,hx,rfl⟩:=hd;have bd:=hP.bd p hp x hx;have d:=jgo h1 h2 (hP.co p hp _ (jcL (hP.ne p hp)) x hx);rw[hh p hp]at d;have r:=bb _ (jmT bd.1 (show x<(bs.length:Int) by omega))
 have e:=Yb5 d;rw[show bt bs x-bt b0 x-(0-bt b0 (p.headD 0))=bt bs x-(bt b0 x-bt b0 (p.headD 0)) by omega]at e
 have:=Int.emod_eq_emod_iff_emod_sub_eq_zero.mpr e;rw[Int.emod_eq_of_lt r.1 r.2]at this;exact this
theorem jmU {a b:List Int}(h1:a.length=W)(h2:b.length=W)(h:∀x:Int,0<=x->x<W->bt a x=bt b x):a=b:=by
 refine YdH (by omega) λi i1 i2=>?_
 have:=h i (by omega) (by omega)
 unfold bt at this;simpa[Ya1,i1,i2]using this
theorem jlR (so:∀s∈ss,s.Ok W)(e:L=ss.map (own P b0)):∀i,i<ss.length->Kp ss L P b0 (i,1):=λi hi=>by
 have es:ss[i]?=some ss[i]:=Yae hi;unfold Kp;rw[eS_1 es,eD_1 es,eL_1 rfl,je7 (show L[i]?=some (own P b0 ss[i]) by rw[e,Yal,es];rfl)]
 unfold own;refine⟨-((bt b0 ss[i].t-bt b0 ss[i].o-ss[i].lo)/P),?_⟩;have:=Yc7 (bt b0 ss[i].t-bt b0 ss[i].o-ss[i].lo) P;rw[Int.mul_neg];omega
end
theorem jha {p p':Addr}{l l':List Int}{G:Gp}{kk:Bool->Prop}(g:G p=some (.lst (l.map .int)))(g':G p'=some (.lst (l'.map .int)))(q:kk (decide (l=l'))):cmpU .Eq (.loc p) (.loc p') G kk:=by
 refine(?_:eqU (.loc p) (.loc p') G kk);refine⟨_,_,.lst (by unfold lsG;rw[g]) (jch l),.lst (by unfold lsG;rw[g']) (jch l'),jbR l,jbR l',?_⟩
 rw[jd4];exact q
theorem jg6 {l:List Int}(hl:l.length<=24)(h:∀x∈l,0<=x/\x<=20000):Ft 60000 1 (jap l):=by
 refine Ft.tup (n:=1921) (m:=24) (by rw[Yaa];exact hl) (λv hv=>?_) (by decide)
 obtain⟨z,hz,rfl⟩:=List.mem_map.mp hv;have:=h z hz;exact jiO (by omega)
theorem jky {xs:List Str}{ss:List Spn}{L:List Int}(x8:xs.length<=8)(nm:∀x∈xs,Nm x)(sl:ss.length<=24)(so:∀s∈ss,s.Ok xs.length)(hL:LOk ss L):Ft 1300000 4 (.tup [jaf xs ss,jap L]):=by
 refine Ft.tup (n:=600000) (k:=3) (m:=2) (Yag _) (λu hu=>?_) (by decide)
 simp only[YaL,Yay,or_false]at hu;rcases hu with rfl|rfl
 ·exact jkx x8 nm sl so
 ·exact(jg6 (by rw[hL.l];exact sl) hL.b).mono (by decide) (by decide)

def Rest (a f:Addr)(ς:Sg):Prop:=∃o2 o3 o4 o5 o6 o7 o8 o9 o10 o11 o12 o13 o14 o15 o16 o17 o18:Option U,ς=[some (.loc a),some (.loc f),o2,o3,o4,o5,o6,o7,o8,o9,o10,o11,o12,o13,o14,o15,o16,o17,o18]
section
variable {G:Gp}{k:Nat}{Q:K1}{X:KX}{K:Sg->Gp->Prop}{a f c:Addr}{xs:List Str}{ss:List Spn}{L b:List Int}{P:Int}
theorem jkg {o2 o4 u8 u9 u10 o11 o12 o13 o14 o15 o16 o17 o18:Option U}(so:∀s∈ss,s.Ok xs.length)(sl:ss.length<=24)(w8:xs.length<=8)(w1:1<=xs.length)(hL:LOk ss L)(p1:1<=P)(p2:P<=600)(bl:b.length=xs.length)(hk:∀i,i<ss.length->Kp ss L P b (i,1))(hf:Fd G f c)(kk:∀ς G',Rest a f ς->Fd G' f c->K ς G')(p10:Addr)(hv:u10=some (.loc p10))(e9:u9=some (.str "beats"))(g10:G p10=some (.lst (L.map .int))) :
  jaB T.gs (jab T (k+5)) ja0 ⟨K,Q,λx _ G'=>X x G'⟩ [some (.loc a),some (.loc f),o2,some (.int P),o4,some (jaf xs ss),some (jap b),some (jap L),u8,u9,u10,o11,o12,o13,o14,o15,o16,o17,o18] G:=by
 subst hv e9;simp! only[ja0,jap];intro p1' G1 n1;refine jha (n1.sa _ _ g10) n1.at ?_;rw[if_pos (by simp)]
 simp! only[];rw[if_neg (by simp)]
 simp! only[];intro pd G2 n2;have hpd:=(hf.new n1).away n2;have s02:=n1.sa.trans n2.sa;simp! only[];refine jcs (xs:=xs) so w8 λpp as ks G3 s3 hls hP hS kl fr=>?_;have gd:=s3 _ _ n2.at
 have hpp:pp≠pd:=λz=>by
  have:=hls.gp;rw[z,gd]at this;have:=congrArg Ydh (MO.lst.inj (Yar this));have e0:as=[]\/as≠[]:=by cases as<;>simp
  rcases e0 with e0|e0
  ·have:b.length=0:=by simpa[e0]using this
   omega
  ·cases as with
   |nil=>exact e0 rfl
   |cons x r=>
    cases b with
    |nil=>simp at bl;omega
    |cons y t=>
     have:=hls.gp;rw[z,gd]at this;have:=MO.lst.inj (Yar this);simp at this
 have hpa:∀x∈as,x≠pd:=λx hx z=>by
  have:=fr x hx;rw[z,n2.at]at this;cases this
 have f3:Fd G3 f c:=(hf.sa s02).sa s3;rw[it_l hls.gp];refine jat (λn ς G'=>∃(d:List Int) (o17 o18:Option U),ς=[some (.loc a),some (.loc f),o2,some (.int P),o4,some (jaf xs ss),some (jap b),some (jap L),u8,some (.str "beats"),some (.loc p10),o11,o12,o13,o14,o15,some (.loc pd),o17,o18]/\Sm pd G3 G'/\Fd G' f c/\G' pd=some (.lst (d.map .int))/\d.length=xs.length/\∀p∈ks.take n,∀x∈p,Due P b ks x (bt d x)) ?_ ?_ ⟨b,_,_,rfl,Sm.refl,f3,gd,bl,λp hp=>by simp at hp⟩
 ·rintro ς G4 ⟨d,o17,o18,rfl,s4,f4,g4,dl,hd⟩;rw[Yaa,hls.l,YaI]at hd;refine⟨by unfold lsG;rw[s4 _ _ hpp hls.gp],?_⟩
  simp! only[];refine jcY (k:=k) so sl w8 hL p1 p2 (λr z G5 s5 hn rl hw hs=>?_) λbs ps G5 s5 bsl bsb hk2 hP2 hS2 hh=>?_
  ·exact absurd (Yb5 (jdM hk hw)) hs
  ·have eps:ks=ps:=hP.uniq hP2 (λh=>h) (λh=>h) hS hS2;subst eps;have ed:bs=d:=jmU bsl dl λx h0 h1=>by
    obtain⟨p,hp,hx⟩:=hP.al x h0 h1;exact jmM hk2 hk hP hh bsl bsb (hd p hp x hx)
   subst ed;rw[ix_t (jaN _ _ _)];have fb:Ft 60000 1 (jap bs):=jg6 (by omega) λx hx=>by have:=bsb x hx;omega
   refine jgs fb (by decide) (by decide) ?_
   simp! only[it_l (s5 _ _ g4)];refine jgs fb (by decide) (by decide) (jgJ ?_)
   rw[if_neg (by decide)]
   exact kk _ _ ⟨_,_,_,_,_,_,_,_,_,_,_,_,_,_,_,_,_,rfl⟩ (f4.sa s5)
 ·rintro n x ς G4 K4 hx ⟨d,o17,o18,rfl,s4,f4,g4,dl,hd⟩ hk4;rw[Yal]at hx;cases ea:as[n]? with
  |none=>rw[ea]at hx;cases hx
  |some q=>
   rw[ea]at hx;cases hx;have il:n<ks.length:=by rw[<- hls.l];exact(List.getElem?_eq_some_iff.mp ea).1
   obtain⟨p,ep⟩:∃p,ks[n]?=some p:=⟨_,Yae il⟩;have pm:=Yak ep;have hq:=hpa q (Yak ea);have gq:=hls.ga n q p ea ep;have hm:=jcL (hP.ne p pm);have bh:=hP.bd p pm _ hm;have gq4:=s4 _ _ hq gq;refine⟨by unfold lsG;rw[s4 _ _ hpp hls.gp],?_⟩
   simp! only[it_l gq4];refine jat (λj ς G'=>∃(d:List Int) (o18:Option U),ς=[some (.loc a),some (.loc f),o2,some (.int P),o4,some (jaf xs ss),some (jap b),some (jap L),u8,some (.str "beats"),some (.loc p10),o11,o12,o13,o14,o15,some (.loc pd),some (.loc q),o18]/\Sm pd G3 G'/\Fd G' f c/\G' pd=some (.lst (d.map .int))/\d.length=xs.length/\(∀p∈ks.take n,∀x∈p,Due P b ks x (bt d x))/\∀x∈p.take j,Due P b ks x (bt d x)) ?_ ?_ ⟨d,_,rfl,s4,f4,g4,dl,hd,λx hx=>by simp at hx⟩
   ·rintro ς G5 ⟨d,o18,rfl,s5,f5,g5,dl,hd,hj⟩;rw[Yaa,YaI]at hj;refine⟨by unfold lsG;rw[s5 _ _ hq gq],hk4 _ _ ⟨d,_,_,rfl,s5,f5,g5,dl,λp' hp'=>?_⟩⟩
    rw[YaS,ep]at hp';rcases List.mem_append.mp hp' with z|z
    ·exact hd p' z
    ·rw[List.mem_singleton.mp z];exact hj
   ·rintro j x ς G5 K5 hx ⟨d,o18,rfl,s5,f5,g5,dl,hd,hj⟩ hk5;rw[Yal]at hx;cases ex:p[j]? with
    |none=>rw[ex]at hx;cases hx
    |some y=>
     rw[ex]at hx;cases hx;have ym:=Yak ex;have by':=hP.bd p pm y ym
     have gq5:=s5 _ _ hq gq;obtain⟨h0,t0,rfl⟩:∃x r,p=x::r:=by
      cases p with
      |nil=>exact absurd rfl (hP.ne _ pm)
      |cons x r=>exact⟨x,r,rfl⟩
     refine⟨by unfold lsG;rw[gq5],?_⟩
     simp! only[jap];rw[ix_t (jdo (bs:=b) (x:=y) by'.1 (by rw[bl];exact by'.2)),ix_l gq5 (show atI ((h0::t0).map U.int) 0=some (.int h0)from atM (n:=0) rfl),ix_t (jdo (bs:=b) (x:=h0) bh.1 (by rw[bl];exact bh.2))]
     simp! only[];refine⟨by omega,?_⟩
     obtain⟨yn,hyn⟩:=YaD by'.1
     rw[hyn,jjk g5 (je3 (by rw[Yaa];omega))]
     intro G6 p6;obtain⟨v,hv⟩:∃v,v=(bt b (yn:Int)-bt b h0)%P:=⟨_,rfl⟩;rw[<- hv,<- YeD]at p6;have hset:∀z:Int,0<=z->bt (d.set yn v) z=if z=y then v else bt d z:=λz hz=>by
      have:=jiX (bs:=d) (v:=v) (y:=z) by'.1 (by omega) hz
      rw[show y.toNat=yn by omega]at this
      exact this
     have dy:Due P b ks y v:=⟨_,pm,ym,by rw[hv,hyn];rfl⟩
     have stay:∀z:Int,0<=z->Due P b ks z (bt d z)\/z=y->Due P b ks z (bt (d.set yn v) z):=λz hz h=>by
      rw[hset z hz];by_cases e:z=y
      ·rw[if_pos e,e];exact dy
      ·rw[if_neg e];exact h.resolve_right e
     refine hk5 _ _ ⟨d.set yn v,_,rfl,λb' u hb e=>p6.sm _ _ hb (s5 _ _ hb e),f5.off hpd p6,p6.at,by simp[dl],λp' hp' z hz=>stay z (hP.bd p' (Ybh hp') z hz).1 (.inl (hd p' hp' z hz)),λz hz=>?_⟩
     have z0:=hP.bd _ pm z (Ybh hz);rw[YaS,ex]at hz;rcases List.mem_append.mp hz with h|h
     ·exact stay z z0.1 (.inl (hj z h))
     ·exact stay z z0.1 (.inr (List.mem_singleton.mp h))
end

section
variable {G:Gp}{k:Nat}{Q:K1}{X:KX}{K:Sg->Gp->Prop}{a f c:Addr}{xs:List Str}{ss:List Spn}{L b:List Int}{P:Int}
theorem jke {w:Str}{o2 o4 u8 o10 o11 o12 o13 o14 o15 o16 o17 o18:Option U}(so:∀s∈ss,s.Ok xs.length)(sl:ss.length<=24)(w8:xs.length<=8)(w1:1<=xs.length)(hL:LOk ss L)(p1:1<=P)(p2:P<=600)(bl:b.length=xs.length)(hw:w = "beats" \/ ∃r z,Wk ss r z z/\sumL L r%P≠0)(hf:Fd G f c)(kk:∀ς G',Rest a f ς->Fd G' f c->K ς G') :
  jaB T.gs (jab T (k+5)) jca ⟨K,Q,λx _ G'=>X x G'⟩ [some (.loc a),some (.loc f),o2,some (.int P),o4,some (jaf xs ss),some (jap b),some (jap L),u8,some (.str w),o10,o11,o12,o13,o14,o15,o16,o17,o18] G:=by
 simp! only[jca];refine⟨by decide,λp G1 n1=>?_⟩
 have hp:=hf.away n1;simp! only[jdp,jaf,ix_t (jaN _ _ _)];refine jat (λi ς G'=>∃(o11 o12 o13 o14 o15:Option U),ς=[some (.loc a),some (.loc f),o2,some (.int P),o4,some (jaf xs ss),some (jap b),some (jap L),u8,some (.str w),some (.loc p),o11,o12,o13,o14,o15,o16,o17,o18]/\G'=gup G1 p (.lst (((ss.take i).map (own P b)).map .int))) ?_ ?_ ⟨_,_,_,_,_,rfl,jd2 n1.at⟩
 ·rintro ς G2 ⟨o11,o12,o13,o14,o15,rfl,rfl⟩;rw[Yaa,YaI];refine⟨trivial,?_⟩;have g2:gup G1 p (.lst ((ss.map (own P b)).map .int)) p=some (.lst ((ss.map (own P b)).map .int)):=jac;have f2:Fd (gup G1 p (.lst ((ss.map (own P b)).map .int))) f c:=(hf.new n1).off hp ⟨rfl⟩;generalize gup G1 p (.lst ((ss.map (own P b)).map .int))=G2 at g2 f2;by_cases e:L=ss.map (own P b)
  ·have kp:=jlR so e;rcases hw with rfl|⟨r,z,h1,h2⟩
   ·rw[<- e]at g2;exact jkg so sl w8 w1 hL p1 p2 bl kp f2 kk p rfl rfl g2
   ·exact absurd (Yb5 (jdM kp h1)) h2
  ·simp! only[ja0,jap];intro p3 G3 n3;refine jha (n3.sa _ _ g2) n3.at ?_;rw[if_neg (by simpa using λz=>e z.symm)]
   exact kk _ _ ⟨_,_,_,_,_,_,_,_,_,_,_,_,_,_,_,_,_,rfl⟩ (f2.new n3)
 ·rintro i x ς G2 K2 hx ⟨o11,o12,o13,o14,o15,rfl,rfl⟩ hk;rw[Yal]at hx;cases es:ss[i]? with
  |none=>rw[es]at hx;cases hx
  |some s=>
   rw[es]at hx;cases hx;have os:=so s (Yak es);have o1:=os.o;have o2:=os.t;refine⟨trivial,?_⟩;simp! only[Spn.u,jbe jac,jap,ix_t (jdo (bs:=b) (x:=(s.t:Int)) (by omega) (by omega)),ix_t (jdo (bs:=b) (x:=(s.o:Int)) (by omega) (by omega)),jdk jac,jaU,ja2]
   refine⟨trivial,by omega,by rw[Yaa,Yaa,Ybn];exact YaO (show min i ss.length<=24 by omega) (by decide),hk _ _ ⟨_,_,_,_,_,rfl,?_⟩⟩
   rw[YaS,es,Yax,Yax];rfl
theorem jkf {o2 o4 o8 o9 o10 o11 o12 o13 o14 o15 o16 o17 o18:Option U}(nm:∀x∈xs,Nm x)(so:∀s∈ss,s.Ok xs.length)(sl:ss.length<=24)(w8:xs.length<=8)(w1:1<=xs.length)(hL:LOk ss L)(p1:1<=P)(p2:P<=600)(bl:b.length=xs.length)(hf:Fd G f c)(kk:∀ς G',Rest a f ς->Fd G' f c->K ς G') :
  jaB T.gs (jab T (k+6)) jcc ⟨K,Q,λx _ G'=>X x G'⟩ [some (.loc a),some (.loc f),o2,some (.int P),o4,some (jaf xs ss),some (jap b),some (jap L),o8,o9,o10,o11,o12,o13,o14,o15,o16,o17,o18] G:=by
 have ft:=jky (L:=L) w8 nm sl so hL;obtain⟨z0,hz⟩:∃z,∀(G:Gp) (Q:K1),Q (.str z) G->jeT [.tup [jaf xs ss,jap L]] G Q:=⟨_,λG Q q=>jgs ft (by decide) (by decide) q⟩
 simp! only[jcc];refine⟨by decide,hz _ _ ?_⟩
 simp! only[jdq];have go:∀(w:Str) (G':Gp),Sa G G'->(w = "beats" \/ ∃r z,Wk ss r z z/\sumL L r%P≠0)->jaB T.gs (jab T (k+6)) jcb ⟨K,Q,λx _ G'=>X x G'⟩ [some (.loc a),some (.loc f),o2,some (.int P),o4,some (jaf xs ss),some (jap b),some (jap L),some (.str z0),some (.str w),o10,o11,o12,o13,o14,o15,o16,o17,o18] G':=λw G' s' hw=>by
  simp! only[jcb];have isn:∀kk:Bool->Prop,kk false->isU (.str w) .non kk:=λ_ h=>h;refine isn _ ?_;rw[if_neg (by decide)]
  refine⟨by decide,hz _ _ (jgJ ?_)⟩
  rw[if_neg (by decide)]
  exact jke (k:=k+1) so sl w8 w1 hL p1 p2 bl hw (hf.sa s') kk
 refine jhY (k:=k) so sl w8 hL p1 p2 (λr z G1 s1 h1 h2=>?_) λG1 s1=>?_
 ·exact go _ _ s1 (.inr ⟨r,z,h1,h2⟩)
 ·exact go _ _ s1 (.inl rfl)
theorem jib {o2 o3 o4 o5 o6 o7 o8 o9 o10 o11 o12 o13 o14 o15 o16 o17 o18:Option U}(hf:Fd G f c)(kk:∀ς G',Rest a f ς->Fd G' f c->K ς G') :
  jaB T.gs (jab T (k+6)) jcd ⟨K,Q,λx _ G'=>X x G'⟩ [some (.loc a),some (.loc f),o2,o3,o4,o5,o6,o7,o8,o9,o10,o11,o12,o13,o14,o15,o16,o17,o18] G:=by
 simp! only[jcd];refine jae hf (by decide) (by decide) λr1 G1 a1 b1 f1 s1=>⟨by decide,λp2' G2 n2=>jae (f1.new n2) (by decide) (by decide) λr3 G3 a3 b3 f3 s3=>?_⟩
 refine jb2 [1,2,3,5,7,12,60,600,1+r1,4] (s3 _ _ (f1.away n2).1 n2.at) a3 b3 λP hP=>?_;have hP:1<=P/\P<=600:=by simp only[YaL,Yay,or_false]at hP;omega
 simp! only[];refine jae f3 (by decide) (by decide) λr4 G4 a4 b4 f4 s4=>?_
 simp! only[];obtain⟨W,hW⟩:∃W:Nat,1+r4=(W:Int):=⟨(1+r4).toNat,by omega⟩
 rw[hW];refine⟨by decide,λp5 G5 n5=>jae (f4.new n5) (by decide) (by decide) λr6 G6 a6 b6 f6 s6=>?_⟩
 refine jb2 [3,10,24] (s6 _ _ (f4.away n5).1 n5.at) a6 b6 λm hm=>?_;have hm:0<=m/\m<=24:=by simp only[YaL,Yay,or_false]at hm;omega
 refine jjW (k:=k+2) f6 hP.1 hP.2 (by omega) (by omega) hm.1 hm.2 λxs ss0 G7 xl nm sl0 so0 f7 s7=>?_
 refine jjT (k:=k+4) so0 sl0 λss G8 s8 sl so=>?_;simp! only[jds];refine jh4 (k:=k+4) (f7.sa s8) (by omega) hP.1 hP.2 λb G9 bl bb f9 s9=>?_
 simp! only[jdr];refine jjX (k:=k+4) (W:=W) f9 (λs hs=>so0 s (so s hs).1) (by omega) (λs hs=>(so s hs).2) hP.1 hP.2 bl (by omega) λL Ga hL fa sa=>?_
 simp! only[];exact jkf nm (λs hs=>by rw[xl];exact so0 s (so s hs).1) (by omega) (by omega) (by omega) hL hP.1 hP.2 (by omega) fa kk
end
theorem law_ir (a:Addr)(ns:List Int)(hl:ns.length<=63):jab T 300 jj2 [.loc a] (G0 a ns) (λu _=>u=.bl true) λ_ _=>False:=by
 refine⟨rfl,?_⟩;simp! only[jmP,jaj,Yaf,jgj];refine jjY (k:=298) (show G0 a ns a=some (.fro (ns.map .int))from if_pos rfl) hl λf c G1 f1=>?_;refine⟨by decide,by decide,?_⟩
 refine jat (λ_ ς G'=>Rest a f ς/\Fd G' f c) ?_ ?_ ⟨⟨_,_,_,_,_,_,_,_,_,_,_,_,_,_,_,_,_,rfl⟩,f1⟩
 ·rintro ς G2 ⟨_,_⟩;exact⟨trivial,trivial⟩
 ·rintro i x ς G2 K hx ⟨⟨o2,o3,o4,o5,o6,o7,o8,o9,o10,o11,o12,o13,o14,o15,o16,o17,o18,rfl⟩,f2⟩ hk;exact⟨trivial,jib (k:=293) f2 λς G' h1 h2=>hk _ _ ⟨h1,h2⟩⟩

noncomputable def sts:List Stmt:=[s_ends_of,s_entry_sums,s_sums_of,s_ring_bars,s_entries_to,s_forest_from,s_path_to_root,s_closing_ring,s_closing_rings,s_beats_along,s_parts_of,s_beats_by,s_law_feed,s_law_draw,s_law_names,s_law_number,s_law_span,s_law_fitting,s_law_plan,s_law_beats,s_law_end,s_law_whole,s_law_parts,s_law_ends,s_law_is_ring,s_law_without_void,s_law_some_lengths,s_law_are_of,s_law_right,s_law]
theorem prog_rep:jdU T 0 T.funs sts=true:=by decide +kernel
theorem prog_eq:jej T sts 0 T.funs sts:=⟨rfl,rfl,rfl,rfl,rfl,rfl,rfl,rfl,rfl,rfl,rfl,rfl,rfl,rfl,rfl,rfl,rfl,rfl,rfl,rfl,rfl,rfl,rfl,rfl,rfl,rfl,rfl,rfl,rfl,rfl,trivial⟩
theorem tabsU:∀t∈tabs,∀t'∈tabs,t.1=t'.1->t=t':=λt h=>(nomatch (show t∈[]from h))
noncomputable def tbs:List (Str×Addr×Addr):=[]
theorem walk {l:Ydw}{q:Program}{loose:List Str}{XP:(Str->Option Value)->Heap->Prop}{YP:World->Heap->Prop}{d:DefRec}{K:Params->Yac}(hn:l.most=some 63)(hdf:d.params.defaults=[])
  (hY:∀(w:World) (h:Heap),YP w h->(K w.params).In h) (hK:∀w:World,((K w.params).all λp=>p.2.cls != .type "list")=true) (hsy:∀w:World,∃o,(K w.params).lookup YaY=some o/\o.cls=.type "dict")
  (hT:∀(w:World),∀t∈tbs,(∃dr,(PyProof.Rows.recsOf q).find? (λe=>e.name==t.1)=some dr)/\PySem.W.tabIn (K w.params) t.1=some (t.2.1,t.2.2)/\(K w.params).lookup t.2.2=none)
  (F:∀(w:World) (mg:Str->Option Value) (fa:Addr) (h:Heap),(K w.params).In h->h.Ns YaN mg->mg d.name=some (.ref fa)->
   ∃fd:Ybm,(∀(s:Shared) (u:Value),BindsTo s fd ⟨[u],[]⟩ [("_law_script",u)])/\∀base:Heap,(K w.params).In base->base.Ns YaN mg->BmAt mg base->FnOk l.prog w (K w.params) mg base (CX1 l.prog w) 302 fa fd ["_law_script"] (lSp (K w.params) (jab T 300 jj2))) :
  YfL q loose XP YP l.row.toRowW d [] (λf vs=>Yfd f vs):=
 L2.walk_ofT (n:=63) (k:=302) (x := "_law_script") (CX:=λw=>CX1 l.prog w) (sp:=λw=>lSp (K w.params) (jab T 300 jj2)) hK hT hn (by decide) hdf ⟨rfl,by decide,by decide,rfl⟩ hY hsy F (λw _ _ a ns hl hO hS=>law_sp (by decide) hO hS (law_ir a ns hl)) λ_ _ _ _ _ ⟨_,_,_,_,_,_,_,_,_,_,z⟩=>z
end Z
namespace Y
open PySem L2
set_option maxHeartbeats 0
noncomputable def q0:Str := "/claim/cut.py"
noncomputable def q1:Str := "<module>"
noncomputable def q2:Str := "__main__"
noncomputable def q3:Str := "_law_right"
noncomputable def q4:Str := "law_beatplans_k11_whole_beats_by_lengths"
noncomputable def q5:Str := "_law_parts"
noncomputable def q6:Str := "_law_feed"
noncomputable def q7:Str := "sums_of"
noncomputable def q8:Str := "_law_cycle"
noncomputable def q9:Str := "_law_span_here"
noncomputable def q10:Str := "_law_top"
noncomputable def q11:Str := "entries_to"
noncomputable def q12:Str := "beatplans.forests"
noncomputable def q13:Str := "_law_plan"
noncomputable def q14:Str := "closing_rings"
noncomputable def q15:Str := "_law_is_ring"
noncomputable def q16:Str := "_law_draw"
noncomputable def q17:Str := "ring_bars"
noncomputable def q18:Str := "_law_feed_here"
noncomputable def q19:Str := "_law_works"
noncomputable def q20:Str := "_law_one"
noncomputable def q21:Str := "_law_other"
noncomputable def q22:Str := "_law_low"
noncomputable def q23:Str := "_law_wide"
noncomputable def q24:Str := "_law_ends"
noncomputable def q25:Str := "_law_end"
noncomputable def q26:Str := "parts_of"
noncomputable def q27:Str := "_law_some_lengths"
noncomputable def q28:Str := "_law_number"
noncomputable def q29:Str := "ends_of"
noncomputable def q30:Str := "_law_beats"
noncomputable def q31:Str := "_law_names"
noncomputable def q32:Str := "plan"
noncomputable def q33:Str := "work"
noncomputable def q34:Str := "found"
noncomputable def q35:Str := "s"
noncomputable def q36:Str := "word"
noncomputable def q37:Str := "one"
noncomputable def q38:Str := "other"
noncomputable def q39:Str := "low"
noncomputable def q40:Str := "high"
noncomputable def q41:Str := "_law_span"
noncomputable def q42:Str := "path_to_root"
noncomputable def q43:Str := "entry_sums"
noncomputable def q44:Str := "__name__"
noncomputable def q45:Str := "__doc__"
noncomputable def q46:Str := "__package__"
noncomputable def q47:Str := "__loader__"
noncomputable def q48:Str := "__spec__"
noncomputable def q49:Str := "__annotations__"
noncomputable def q50:Str := "__builtins__"
noncomputable def q51:Str := "__file__"
noncomputable def q52:Str := "__cached__"
noncomputable def q53:Str := "forest_from"
noncomputable def q54:Str := "closing_ring"
noncomputable def q55:Str := "beats_along"
noncomputable def q56:Str := "beats_by"
noncomputable def q57:Str := "_law_fitting"
noncomputable def q58:Str := "_law_whole"
noncomputable def q59:Str := "_law_without_void"
noncomputable def q60:Str := "_law_are_of"
noncomputable def q61:Str := "law"
noncomputable def q62:Str := "beatplans.rings"
noncomputable def q63:Str := "parts"
noncomputable def q64:Str := "placed"
noncomputable def q65:Str := "part"
noncomputable def q66:Str := "_law_plan_here"
noncomputable def q67:Str := "_law_beats_here"
noncomputable def q68:Str := "_law_found"
noncomputable def q69:Str := "_law_word"
noncomputable def q70:Str := "_law_high"
noncomputable def q71:Str := "_law_way"
noncomputable def q72:Str := "_law_s"
noncomputable def q73:Str := "_law_end_here"
noncomputable def q74:Str := "entry"
noncomputable def q75:Str := "way"
noncomputable def q76:Str := "forest"
noncomputable def q77:Str := "path"
noncomputable def q78:Str := "beatplans.joining"
noncomputable def q79:Str := "_law_script"
noncomputable def q80:Str := "beats"
noncomputable def q81:Str := "windows"
noncomputable def q82:Str := "apart"
noncomputable def q83:Str := "least"
noncomputable def q84:Str := "most"
noncomputable def q85:Str := "_law_many"
noncomputable def q86:Str := "_law_cell"
noncomputable def q87:Str := "_law_mixed"
noncomputable def q88:Str := "period"
noncomputable def q89:Str := "ring"
noncomputable def q90:Str := "_law_k"
noncomputable def q91:Str := "_law_lengths"
noncomputable def q92:Str := "_law_kept"
noncomputable def q93:Str := "_law_own"
noncomputable def q94:Str := "_law_word_here"
noncomputable def q95:Str := "_law_due"
noncomputable def q96:Str := "_law_part"
noncomputable def q97:Str := "_law_work"
noncomputable def q98:Str := "roots"
noncomputable def q99:Str := "reached"
noncomputable def q100:Str := "at"
noncomputable def q101:Str := "start"
noncomputable def q102:Str := "lengths"
noncomputable def q103:Str := "nearer"
noncomputable def q104:Str := "_law_thing"
noncomputable def q105:Str := "_law_first"
noncomputable def q106:Str := "_law_last"
noncomputable def q107:Str := "_law_gap"
noncomputable def q108:Str := "_law_length"
noncomputable def h0:List Value:=[]
noncomputable def o0:Obj:=sO .none h0
noncomputable def o1:Obj:=kO q0 q1 q1 182 1 0 0 11 false .none .none .none 185
noncomputable def o2:Obj:=rO [(some (.ref 13)),(some (.ref 3)),(some (.ref 3)),none,(some (.str q2 164)),none,(some (.ref 0))]
noncomputable def o3:Obj:=fO q3 q3 (Z.top 32) (.str q4 325) 190
noncomputable def o4:Obj:=fO q5 q5 (Z.top 26) (.str q4 325) 158
noncomputable def o5:Obj:=gO q6 q6 (Z.top 16)
noncomputable def o6:Obj:=gO q7 q7 (Z.top 3)
noncomputable def o7:Obj:=tO [(.str q8 401),(.str q9 402),(.str q10 403)]
noncomputable def o8:Obj:=fO q11 q11 (Z.top 6) (.str q12 237) 46
noncomputable def o9:Obj:=fO q13 q13 (Z.top 22) (.str q4 325) 134
noncomputable def o10:Obj:=fO q14 q14 (Z.top 10) (.str q12 237) 70
noncomputable def o11:Obj:=gO q15 q15 (Z.top 28)
noncomputable def o12:Obj:=kO q0 q16 q16 334 89 2 3 98 true (.ref 100) (.ref 101) (.ref 102) 342
noncomputable def o13:Obj:=kO q0 q17 q17 224 18 5 3 34 true (.ref 36) (.ref 37) (.ref 38) 234
noncomputable def o14:Obj:=tO [(.str q18 362),(.str q19 363),(.str q8 364),(.str q20 365),(.str q21 366),(.str q22 367),(.str q23 368)]
noncomputable def o15:Obj:=kO q0 q24 q24 422 153 3 3 160 true .none .none (.ref 162) 425
noncomputable def o16:Obj:=fO q25 q25 (Z.top 24) (.str q4 325) 146
noncomputable def o17:Obj:=gO q26 q26 (Z.top 13)
noncomputable def o18:Obj:=gO q27 q27 (Z.top 30)
noncomputable def o19:Obj:=kO q0 q28 q28 351 108 2 3 110 true (.ref 112) (.ref 113) (.ref 114) 356
noncomputable def o20:Obj:=gO q29 q29 (Z.top 1)
noncomputable def o21:Obj:=kO q0 q30 q30 392 136 3 3 136 true .none .none (.ref 138) 395
noncomputable def o22:Obj:=gO q31 q31 (Z.top 18)
noncomputable def o23:Obj:=tO [(.str q32 242),(.str q33 243),(.str q34 244),(.str q35 245),(.str q36 246),(.str q37 247),(.str q38 248),(.str q39 249),(.str q40 250)]
noncomputable def o24:Obj:=fO q41 q41 (Z.top 20) (.str q4 325) 122
noncomputable def o25:Obj:=gO q42 q42 (Z.top 8)
noncomputable def o26:Obj:=kO q0 q43 q43 204 8 3 3 22 true (.ref 24) (.ref 25) (.ref 26) 215
noncomputable def g28 (P:Params):List Ycf:=dE P q45 166 .none::dE P q46 167 .none::dE P q47 168 (.builtin "__main__.__loader__#opaque")::dE P q48 169 .none::dE P q49 170 (.ref 6)::dE P q50 171 (.ref 4)::dE P q51 173 (.str q0 172)::dE P q52 174 .none::dE P q29 203 (.ref 21)::dE P q43 217 (.ref 28)::dE P q7 223 (.ref 33)::dE P q17 236 (.ref 40)::dE P q11 253 (.ref 47)::dE P q53 267 (.ref 54)::dE P q42 277 (.ref 61)::dE P q54 283 (.ref 66)::dE P q14 289 (.ref 71)::dE P q55 305 (.ref 78)::dE P q26 318 (.ref 85)::dE P q56 324 (.ref 90)::dE P q6 333 (.ref 97)::dE P q16 344 (.ref 104)::dE P q31 350 (.ref 109)::dE P q28 358 (.ref 116)::dE P q41 371 (.ref 123)::dE P q57 385 (.ref 130)::dE P q13 391 (.ref 135)::dE P q30 397 (.ref 140)::dE P q25 406 (.ref 147)::dE P q58 415 (.ref 154)::dE P q5 421 (.ref 159)::dE P q24 427 (.ref 164)::dE P q15 433 (.ref 169)::dE P q59 439 (.ref 174)::dE P q27 458 (.ref 181)::dE P q60 464 (.ref 186)::dE P q3 470 (.ref 191)::dE P q61 495 (.ref 198)::[]
noncomputable def o27 (P:Params):Obj:=dO (dE P q44 165 (.str q4 325)::g28 P) 39
noncomputable def o28:Obj:=kO q0 q57 q57 372 117 3 3 124 true (.ref 126) (.ref 127) (.ref 128) 383
noncomputable def o29:Obj:=kO q0 q54 q54 278 47 3 3 62 true .none .none (.ref 64) 281
noncomputable def o30:Obj:=fO q6 q6 (Z.top 16) (.str q4 325) 96
noncomputable def o31:Obj:=fO q7 q7 (Z.top 3) (.str q62 187) 32
noncomputable def o32:Obj:=gO q25 q25 (Z.top 24)
noncomputable def o33:Obj:=tO [(.str q32 311),(.str q63 312),(.str q64 313),(.str q33 314),(.str q65 315)]
noncomputable def o34:Obj:=tO [(.str q18 443),(.str q66 444),(.str q8 445),(.str q67 446),(.str q68 447),(.str q69 448),(.str q20 449),(.str q21 450),(.str q22 451),(.str q70 452),(.str q71 453),(.str q72 454),(.str q73 455)]
noncomputable def o35:Obj:=tO [(.str q32 192),(.str q74 193),(.str q35 194),(.str q75 195),(.str q36 196),(.str q37 197),(.str q38 198),(.str q39 199),(.str q40 200)]
noncomputable def o36:Obj:=fO q15 q15 (Z.top 28) (.str q4 325) 168
noncomputable def o37:Obj:=kO q0 q58 q58 407 141 3 3 148 true (.ref 150) (.ref 151) (.ref 152) 413
noncomputable def o38:Obj:=kO q0 q56 q56 319 76 3 3 86 true .none .none (.ref 88) 322
noncomputable def o39:Obj:=kO q0 q60 q60 459 185 4 3 182 true .none .none (.ref 184) 462
noncomputable def o40:Obj:=gO q41 q41 (Z.top 20)
noncomputable def o41:Obj:=tO [(.str q32 271),(.str q76 272),(.str q33 273),(.str q77 274)]
noncomputable def o42:Obj:=gO q13 q13 (Z.top 22)
noncomputable def o43:Obj:=kO q0 q61 q61 471 203 1 3 192 true (.ref 194) (.ref 195) (.ref 196) 493
noncomputable def o44:Obj:=gO q14 q14 (Z.top 10)
noncomputable def o45:Obj:=fO q26 q26 (Z.top 13) (.str q78 306) 84
noncomputable def o46:Obj:=fO q27 q27 (Z.top 30) (.str q4 325) 180
noncomputable def o47:Obj:=kO q0 q53 q53 254 30 2 3 48 true (.ref 50) (.ref 51) (.ref 52) 265
noncomputable def o48:Obj:=fO q29 q29 (Z.top 1) (.str q62 187) 20
noncomputable def o49:Obj:=kO q0 q55 q55 290 60 5 3 72 true (.ref 74) (.ref 75) (.ref 76) 303
noncomputable def o50:Obj:=kO q0 q59 q59 434 173 2 3 170 true .none .none (.ref 172) 437
noncomputable def o51:Obj:=fO q31 q31 (Z.top 18) (.str q4 325) 108
noncomputable def o52:Obj:=gO q11 q11 (Z.top 6)
noncomputable def o53:Obj:=gO q5 q5 (Z.top 26)
noncomputable def o54:Obj:=tO [(.str q79 330)]
noncomputable def o55:Obj:=gO q3 q3 (Z.top 32)
noncomputable def o56:Obj:=fO q42 q42 (Z.top 8) (.str q12 237) 60
noncomputable def o57:Obj:=gO q57 q57 (Z.top 21)
noncomputable def o58:Obj:=gO q54 q54 (Z.top 9)
noncomputable def o59:Obj:=kO q0 q6 q6 327 87 1 3 91 true (.ref 93) (.ref 94) (.ref 95) 331
noncomputable def o60:Obj:=kO q0 q7 q7 218 15 5 3 29 true .none .none (.ref 31) 221
noncomputable def o61:Obj:=tO [(.str q18 354),(.str q8 355)]
noncomputable def o62:Obj:=kO q0 q15 q15 428 166 3 3 165 true .none .none (.ref 167) 431
noncomputable def o63:Obj:=fO q16 q16 (Z.top 17) (.str q4 325) 103
noncomputable def o64:Obj:=fO q17 q17 (Z.top 4) (.str q62 187) 39
noncomputable def o65:Obj:=gO q58 q58 (Z.top 25)
noncomputable def o66:Obj:=gO q56 q56 (Z.top 14)
noncomputable def o67:Obj:=gO q60 q60 (Z.top 31)
noncomputable def o68:Obj:=tO [(.str q80 207),(.str q81 208),(.str q74 209),(.str q82 210),(.str q35 211),(.str q75 212),(.str q83 213),(.str q84 214)]
noncomputable def o69:Obj:=gO q61 q61 (Z.top 33)
noncomputable def o70:Obj:=fO q24 q24 (Z.top 27) (.str q4 325) 163
noncomputable def o71:Obj:=tO [(.str q18 337),(.str q85 338),(.str q86 339),(.str q87 340),(.str q68 341)]
noncomputable def o72:Obj:=tO [(.str q32 227),(.str q88 228),(.str q80 229),(.str q81 230),(.str q89 231),(.str q83 232),(.str q84 233)]
noncomputable def o73:Obj:=kO q0 q26 q26 308 67 1 3 79 true (.ref 81) (.ref 82) (.ref 83) 316
noncomputable def o74:Obj:=kO q0 q27 q27 440 175 4 3 175 true (.ref 177) (.ref 178) (.ref 179) 456
noncomputable def o75:Obj:=fO q28 q28 (Z.top 19) (.str q4 325) 115
noncomputable def o76:Obj:=gO q53 q53 (Z.top 7)
noncomputable def o77:Obj:=kO q0 q29 q29 189 2 2 3 15 true (.ref 17) (.ref 18) (.ref 19) 201
noncomputable def o78:Obj:=fO q30 q30 (Z.top 23) (.str q4 325) 139
noncomputable def o79:Obj:=gO q55 q55 (Z.top 11)
noncomputable def o80:Obj:=gO q59 q59 (Z.top 29)
noncomputable def o81:Obj:=kO q0 q31 q31 345 102 2 3 105 true .none .none (.ref 107) 348
noncomputable def o82:Obj:=kO q0 q42 q42 268 41 3 3 55 true (.ref 57) (.ref 58) (.ref 59) 275
noncomputable def o83:Obj:=fO q43 q43 (Z.top 2) (.str q62 187) 27
noncomputable def h86:List Value:=h0++[(.int 2 0),(.int 0 0),(.ref 20),(.int 8 0),(.int 0 0),(.ref 27),(.int 15 0),(.int 0 0),(.ref 32),(.int 18 0),(.int 0 0),(.ref 39),(.int 22 0),(.int 0 0),(.ref 46),(.int 30 0),(.int 0 0),(.ref 53),(.int 41 0),(.int 0 0),(.ref 60),(.int 47 0),(.int 0 0),(.ref 65),(.int 56 0),(.int 0 0),(.ref 70),(.int 60 0),(.int 0 0),(.ref 77),(.int 67 0),(.int 0 0),(.ref 84),(.int 76 0),(.int 0 0),(.ref 89),(.int 87 0),(.int 0 0),(.ref 96),(.int 89 0),(.int 0 0),(.ref 103),(.int 102 0),(.int 0 0),(.ref 108),(.int 108 0),(.int 0 0),(.ref 115),(.int 110 0),(.int 0 0),(.ref 122),(.int 117 0),(.int 0 0),(.ref 129),(.int 125 0),(.int 0 0),(.ref 134),(.int 136 0),(.int 0 0),(.ref 139),(.int 138 0),(.int 0 0),(.ref 146),(.int 141 0),(.int 0 0),(.ref 153),(.int 143 0),(.int 0 0),(.ref 158),(.int 153 0),(.int 0 0),(.ref 163),(.int 166 0),(.int 0 0),(.ref 168),(.int 173 0),(.int 0 0),(.ref 173),(.int 175 0),(.int 0 0),(.ref 180),(.int 185 0),(.int 0 0),(.ref 185),(.int 194 0),(.int 0 0),(.ref 190),(.int 203 0),(.int 0 0),(.ref 197)]
noncomputable def o84:Obj:=sO .none h86
noncomputable def o85:Obj:=fO q57 q57 (Z.top 21) (.str q4 325) 129
noncomputable def o86:Obj:=tO [(.str q79 474),(.str q18 475),(.str q90 476),(.str q8 477),(.str q19 478),(.str q66 479),(.str q67 480),(.str q91 481),(.str q92 482),(.str q69 483),(.str q93 484),(.str q94 485),(.str q20 486),(.str q21 487),(.str q22 488),(.str q70 489),(.str q95 490),(.str q96 491),(.str q97 492)]
noncomputable def o87:Obj:=fO q54 q54 (Z.top 9) (.str q12 237) 65
noncomputable def o88:Obj:=gO q24 q24 (Z.top 27)
noncomputable def o89:Obj:=kO q0 q25 q25 398 138 2 3 141 true (.ref 143) (.ref 144) (.ref 145) 404
noncomputable def o90:Obj:=gO q28 q28 (Z.top 19)
noncomputable def o91:Obj:=tO [(.str q32 257),(.str q98 258),(.str q76 259),(.str q99 260),(.str q100 261),(.str q35 262),(.str q75 263),(.str q101 264)]
noncomputable def o92:Obj:=gO q30 q30 (Z.top 23)
noncomputable def o93:Obj:=tO [(.str q32 293),(.str q88 294),(.str q80 295),(.str q76 296),(.str q102 297),(.str q34 298),(.str q33 299),(.str q35 300),(.str q75 301),(.str q103 302)]
noncomputable def o94:Obj:=fO q58 q58 (Z.top 25) (.str q4 325) 153
noncomputable def o95:Obj:=fO q56 q56 (Z.top 14) (.str q78 306) 89
noncomputable def o96:Obj:=fO q60 q60 (Z.top 31) (.str q4 325) 185
noncomputable def o97:Obj:=kO q0 q41 q41 359 110 3 3 117 true (.ref 119) (.ref 120) (.ref 121) 369
noncomputable def o98:Obj:=gO q43 q43 (Z.top 2)
noncomputable def o99:Obj:=kO q0 q13 q13 386 125 4 3 131 true .none .none (.ref 133) 389
noncomputable def o100:Obj:=fO q61 q61 (Z.top 33) (.str q4 325) 197
noncomputable def o101:Obj:=kO q0 q14 q14 284 56 3 3 67 true .none .none (.ref 69) 287
noncomputable def o102:Obj:=gO q16 q16 (Z.top 17)
noncomputable def o103:Obj:=gO q17 q17 (Z.top 4)
noncomputable def o104:Obj:=tO [(.str q104 410),(.str q105 411),(.str q106 412)]
noncomputable def o105:Obj:=fO q53 q53 (Z.top 7) (.str q12 237) 53
noncomputable def o106:Obj:=fO q55 q55 (Z.top 11) (.str q12 237) 77
noncomputable def o107:Obj:=fO q59 q59 (Z.top 29) (.str q4 325) 173
noncomputable def o108:Obj:=kO q0 q11 q11 239 22 2 3 41 true (.ref 43) (.ref 44) (.ref 45) 251
noncomputable def o109:Obj:=kO q0 q5 q5 416 143 1 3 155 true .none .none (.ref 157) 419
noncomputable def o110:Obj:=kO q0 q3 q3 465 194 3 3 187 true .none .none (.ref 189) 468
noncomputable def o111:Obj:=tO [(.str q18 375),(.str q67 376),(.str q8 377),(.str q20 378),(.str q21 379),(.str q107 380),(.str q22 381),(.str q108 382)]
noncomputable def Ha (P:Params):Heap:=⟨⟨YcE P::Ycc P::YcD P::YeY P::YcC P::YcB P::YcA P::Ycz P::Ycy P::Ycx P::Ycn P::tE::o0::o1::o2::[]⟩,{}⟩
noncomputable def t0 (P:Params):Yco:=(bN (YcE P) (bN (Ycc P) (bN (YeY P) (bL (Ycz P)) (bL tE)) (bN (YcB P) (bL (Ycx P)) (bL o1))) (bN (YcD P) (bN (YcC P) (bL (Ycy P)) (bL o0)) (bN (YcA P) (bL (Ycn P)) (bL o2))))
noncomputable def t1 (P:Params):Yco:=(bN (YcE P) (bN (Ycc P) (bN (o27 P) (bN (Ycz P) (bN tE (bN o6 (bN nO (bL tE) (bL o3)) (bN o5 (bL o4) bE)) (bN o8 (bN tE (bL o7) bE) (bN nO (bL tE) bE))) (bN nO (bN o13 (bN o10 (bL o9) bE) (bN o12 (bL o11) bE)) (bN tE (bN nO (bL tE) bE) (bN o14 (bL nO) bE)))) (bN tE (bN o20 (bN nO (bN tE (bL tE) (bL tE)) (bN nO (bL o15) bE)) (bN tE (bN o17 (bL o16) bE) (bN o19 (bL o18) bE))) (bN o26 (bN o23 (bN tE (bL o21) bE) (bN o22 (bL nO) bE)) (bN o25 (bN tE (bL tE) bE) (bN o24 (bL tE) bE))))) (bN (YcB P) (bN (Ycx P) (bN o35 (bN o31 (bN o29 (bL o28) (bL nO)) (bN o30 (bL nO) bE)) (bN nO (bN o33 (bL o32) bE) (bN tE (bL o34) bE))) (bN tE (bN tE (bN nO (bL nO) bE) (bN tE (bL o36) bE)) (bN o41 (bN o38 (bL o37) bE) (bN o40 (bL o39) bE)))) (bN o1 (bN o48 (bN tE (bN o44 (bL o42) (bL o43)) (bN tE (bL tE) bE)) (bN o47 (bN o45 (bL nO) bE) (bN tE (bL o46) bE))) (bN tE (bN o52 (bN o49 (bL tE) bE) (bN o51 (bL o50) bE)) (bN o56 (bN o54 (bL o53) bE) (bN nO (bL o55) bE)))))) (bN (YcD P) (bN (YcC P) (bN (Ycy P) (bN nO (bN o60 (bN o58 (bL o57) (bL tE)) (bN o59 (bL tE) bE)) (bN tE (bN nO (bL tE) bE) (bN o61 (bL nO) bE))) (bN o68 (bN o64 (bN tE (bL tE) bE) (bN o63 (bL o62) bE)) (bN nO (bN o66 (bL o65) bE) (bN tE (bL o67) bE)))) (bN o84 (bN o77 (bN o72 (bN nO (bL nO) (bL o69)) (bN o71 (bL o70) bE)) (bN o76 (bN o73 (bL tE) bE) (bN o75 (bL o74) bE))) (bN o83 (bN tE (bN o79 (bL o78) bE) (bN o81 (bL o80) bE)) (bN o82 (bN nO (bL nO) bE) (bN tE (bL nO) bE))))) (bN (YcA P) (bN (Ycn P) (bN tE (bN tE (bN o87 (bL o85) (bL o86)) (bN tE (bL o88) bE)) (bN o91 (bN tE (bL o89) bE) (bN o90 (bL tE) bE))) (bN o98 (bN nO (bN o93 (bL o92) bE) (bN nO (bL tE) bE)) (bN tE (bN o95 (bL o94) bE) (bN o97 (bL o96) bE)))) (bN o2 (bN tE (bN o103 (bN o101 (bL o99) (bL o100)) (bN o102 (bL nO) bE)) (bN o105 (bN tE (bL o104) bE) (bN nO (bL tE) bE))) (bN nO (bN o108 (bN o106 (bL nO) bE) (bN tE (bL o107) bE)) (bN tE (bN tE (bL o109) bE) (bN o111 (bL o110) bE)))))))
noncomputable def Hz (P:Params):Heap:=⟨⟨YcE P::Ycc P::YcD P::o27 P::YcC P::YcB P::YcA P::Ycz P::Ycy P::Ycx P::Ycn P::tE::o84::o1::o2::tE::nO::o35::tE::o20::o77::o48::tE::nO::o68::tE::o98::o26::o83::tE::nO::o6::o60::o31::tE::nO::o72::tE::o103::o13::o64::tE::nO::o23::tE::o52::o108::o8::tE::nO::o91::tE::o76::o47::o105::tE::nO::o41::tE::o25::o82::o56::tE::nO::o58::o29::o87::tE::nO::o44::o101::o10::tE::nO::o93::tE::o79::o49::o106::tE::nO::o33::tE::o17::o73::o45::tE::nO::o66::o38::o95::tE::nO::o54::tE::o5::o59::o30::tE::nO::o71::tE::o102::o12::o63::tE::nO::o22::o81::o51::tE::nO::o61::tE::o90::o19::o75::tE::nO::o14::tE::o40::o97::o24::tE::nO::o111::tE::o57::o28::o85::tE::nO::o42::o99::o9::tE::nO::o92::o21::o78::tE::nO::o7::tE::o32::o89::o16::tE::nO::o104::tE::o65::o37::o94::tE::nO::o53::o109::o4::tE::nO::o88::o15::o70::tE::nO::o11::o62::o36::tE::nO::o80::o50::o107::tE::nO::o34::tE::o18::o74::o46::tE::nO::o67::o39::o96::tE::nO::o55::o110::o3::tE::nO::o86::tE::o69::o43::o100::[]⟩,{}⟩
noncomputable def st1:List Stmt:=[Z.top 0,Z.top 1,Z.top 2,Z.top 3,Z.top 4,Z.top 5,Z.top 6,Z.top 7,Z.top 8,Z.top 9,Z.top 10,Z.top 11,Z.top 12,Z.top 13,Z.top 14,Z.top 15,Z.top 16,Z.top 17,Z.top 18,Z.top 19,Z.top 20,Z.top 21,Z.top 22,Z.top 23,Z.top 24,Z.top 25,Z.top 26,Z.top 27,Z.top 28,Z.top 29,Z.top 30,Z.top 31,Z.top 32,Z.top 33]
noncomputable def bd:List Stmt:=st1++[]
noncomputable abbrev pw:Program:=PySem.Challenge.pw_beatplans_k11_whole_beats_by_lengths
noncomputable def qw:Program:={ pw with main:={ pw.main with body:=[Z.top 1,Z.top 2,Z.top 3,Z.top 4,Z.top 6,Z.top 7,Z.top 8,Z.top 9,Z.top 10,Z.top 11,Z.top 13,Z.top 14,Z.top 16,Z.top 17,Z.top 18,Z.top 19,Z.top 20,Z.top 21,Z.top 22,Z.top 23,Z.top 24,Z.top 25,Z.top 26,Z.top 27,Z.top 28,Z.top 29,Z.top 30,Z.top 31,Z.top 32,Z.top 33] } }
noncomputable def en:Env:={ scope:=pw.main.scope,locals:=mainNs,globals:=mainNs,cells:=[],code:=.ref 13,frame:=some 14 }
noncomputable def cE:Code:=.body bd en
noncomputable abbrev pz:Pos:=⟨0,0,0,0⟩
noncomputable abbrev fz:List Frame:=[PySem.W.topFrame pz]
noncomputable abbrev s0 (w:World)(os:OsState):Shared:=⟨YbJ w.params,⟨[]⟩,PySem.W.boot_drawn,PySem.W.boot_toks,os⟩
noncomputable abbrev sz (w:World)(os:OsState):Shared:=⟨Hz w.params,⟨[]⟩,{},496,os⟩
noncomputable def sT (t:Params->Yco)(n k:Nat)(w:World)(os:OsState):PySem.W.SharedT:=⟨t w.params,n,{},⟨[]⟩,{},k,os⟩
section
variable (w:World)(os:OsState)
theorem jn5:PySem.W.topGo YdI pw w 11 (some (.ref 6)) 12 (s0 w os) (Yfe pw)=some (⟨Ha w.params,⟨[]⟩,{},187,os⟩,⟨denote YdI cE,cE,pz,fz⟩):=by
 rw[PySem.W.Fast.te15667345088766844465,Ybf,PySem.W.Fast.te11892475500146522536];kernel_rfl
theorem jn7:PySem.W.segRun YdI pw w 11 (some (.ref 6)) 1 1 ⟨Ha w.params,⟨[]⟩,{},187,os⟩ (PySem.W.blockOf bd en cE pz fz)=some (.next,(sT t0 15 187 w os).abs,cE,pz):=by
 rw[PySem.W.Fast.te14374325043358763698,Ybf];kernel_rfl
theorem r1:PySem.W.segRunT YdI pw w 11 (some (.ref 6)) 1 972 (sT t0 15 187 w os) (PySem.W.piecesOf st1 en cE pz fz)=some (.next,sT t1 199 496 w os,cE,⟨203,0,227,15⟩):=by
 rw[PySem.W.Fast.te10110043849684766642,Ybf];kernel_rfl
theorem jn6:Yft YdI pw w 11 (some (.ref 6)) 2 (sT t1 199 496 w os).abs ⟨PySem.W.doneF .next,cE,⟨203,0,227,15⟩,fz⟩=some (sz w os):=by
 rw[PySem.W.Fast.te14082659384304107361,Ybf];kernel_rfl
theorem jn4:Yft YdI pw w 11 (some (.ref 6)) (12+(1+(972+(2)))) (s0 w os) (Yfe pw)=some (sz w os):=
 PySem.W.go_top (jn5 w os) (PySem.W.piece_block (jn7 w os) (PySem.W.piece_app (PySem.W.segRun_of (r1 w os)) (jn6 w os)))
end
noncomputable def KK:Params->Yac:=λP=>((1:Addr),Ycc P)::((3:Addr),o27 P)::((20:Addr),o77)::((21:Addr),o48)::((27:Addr),o26)::((28:Addr),o83)::((32:Addr),o60)::((33:Addr),o31)::((39:Addr),o13)::((40:Addr),o64)::((46:Addr),o108)::((47:Addr),o8)::((53:Addr),o47)::((54:Addr),o105)::((60:Addr),o82)::((61:Addr),o56)::((65:Addr),o29)::((66:Addr),o87)::((70:Addr),o101)::((71:Addr),o10)::((77:Addr),o49)::((78:Addr),o106)::((84:Addr),o73)::((85:Addr),o45)::((89:Addr),o38)::((90:Addr),o95)::((96:Addr),o59)::((97:Addr),o30)::((103:Addr),o12)::((104:Addr),o63)::((108:Addr),o81)::((109:Addr),o51)::((115:Addr),o19)::((116:Addr),o75)::((122:Addr),o97)::((123:Addr),o24)::((129:Addr),o28)::((130:Addr),o85)::((134:Addr),o99)::((135:Addr),o9)::((139:Addr),o21)::((140:Addr),o78)::((146:Addr),o89)::((147:Addr),o16)::((153:Addr),o37)::((154:Addr),o94)::((158:Addr),o109)::((159:Addr),o4)::((163:Addr),o15)::((164:Addr),o70)::((168:Addr),o62)::((169:Addr),o36)::((173:Addr),o50)::((174:Addr),o107)::((180:Addr),o74)::((181:Addr),o46)::((185:Addr),o39)::((186:Addr),o96)::((190:Addr),o110)::((191:Addr),o3)::((197:Addr),o43)::((198:Addr),o100)::[]
noncomputable def KA:List Addr:=1::3::20::21::27::28::32::33::39::40::46::47::53::54::60::61::65::66::70::71::77::78::84::85::89::90::96::97::103::104::108::109::115::116::122::123::129::130::134::135::139::140::146::147::153::154::158::159::163::164::168::169::173::174::180::181::185::186::190::191::197::198::[]
noncomputable def fl:Z.FL:=(21,20,(.str q62 187))::(28,27,(.str q62 187))::(33,32,(.str q62 187))::(40,39,(.str q62 187))::(47,46,(.str q12 237))::(54,53,(.str q12 237))::(61,60,(.str q12 237))::(66,65,(.str q12 237))::(71,70,(.str q12 237))::(78,77,(.str q12 237))::(85,84,(.str q78 306))::(90,89,(.str q78 306))::(97,96,(.str q4 325))::(104,103,(.str q4 325))::(109,108,(.str q4 325))::(116,115,(.str q4 325))::(123,122,(.str q4 325))::(130,129,(.str q4 325))::(135,134,(.str q4 325))::(140,139,(.str q4 325))::(147,146,(.str q4 325))::(154,153,(.str q4 325))::(159,158,(.str q4 325))::(164,163,(.str q4 325))::(169,168,(.str q4 325))::(174,173,(.str q4 325))::(181,180,(.str q4 325))::(186,185,(.str q4 325))::(191,190,(.str q4 325))::(198,197,(.str q4 325))::[]
theorem k_dyn (P:Params):Z.dynB Z.T (KK P) 0 fl Z.T.funs Z.sts=true:=by kernel_rfl
theorem k_lk (P:Params):fl.map (λx=>(KK P).lookup x.1)=Z.lkR fl Z.T.funs Z.sts:=by kernel_rfl
theorem k_blt (P:Params):Z.bltB (KK P)=true:=by kernel_rfl
theorem k_gs (P:Params):Z.gsB (KK P) Z.T.gn Z.T.gs=true:=by kernel_rfl
theorem k_cs (P:Params):Z.CsA (KK P) Z.T.cs:=trivial
noncomputable abbrev rr:PySem.W.OpenRow:=PySem.Challenge.rw_beatplans_k11_whole_beats_by_lengths.row
noncomputable def Xt:Shared->Bool:=λs=>PySem.W.xlAt qw [] s&&PySem.W.recOk (PySem.W.RowW.records rr.toRowW) s
noncomputable abbrev hk:PySem.W.Hook:=PySem.W.kHook KK KA (λ_=>by kernel_rfl)
theorem jmr (w:World):((YbJ w.params).isNs YaN&&(⟨[]⟩:Array YdT).size==0,(YbJ w.params).objs.size,(YbJ w.params).nsMap YaN "__annotations__")=(true,11,some (YbD 6)):=by
 rw[PySem.W.Fast.te8920871248978507458];kernel_rfl
theorem k_l1 (w:World)(os:OsState):(PySem.W.staticsOk (importedModules pw.main.body) (YbJ w.params) (Hz w.params)&&PySem.W.namesBound pw (Hz w.params)&&PySem.W.gensDone (sz w os)&&PySem.W.laidKept (YbJ w.params) (Hz w.params))=true:=by
 rw[YcR];kernel_rfl
theorem k_l2 (w:World)(os:OsState):PySem.W.openSeen qw [] (importedModules pw.main.body) Xt true (sz w os)=PySem.W.openGood qw []:=by
 rw[PySem.W.Fast.te4187177175401517315,YcR];kernel_rfl
theorem k_l3 (w:World)(os:OsState):Yc9 hk (sz w os)=Yc8 hk w:=by kernel_rfl
theorem k_hl:PySem.W.LeftO pw qw [] Xt (Yc9 hk) (Yc8 hk) 2068:=PySem.W.LeftO.of_pieces (PySem.W.boot_open (by kernel_rfl) (by decide) λ_=>by kernel_rfl) jmr jn4 (by decide) λw=>funext λos=>Yc6 (k_l1 w os) (Yc6 (k_l2 w os) (k_l3 w os))
end Y
set_option maxRecDepth 100000 in
set_option maxHeartbeats 0 in
theorem Z.wellS:PySem.Challenge.rw_beatplans_k11_whole_beats_by_lengths.wellSaid=true:=by decide +kernel
open PySem PySem.W PyProof.Rows
set_option maxRecDepth 100000 in
set_option maxHeartbeats 0 in
theorem PySem.Challenge.cw_beatplans_k11_whole_beats_by_lengths_holds : PySem.Challenge.rw_beatplans_k11_whole_beats_by_lengths.Holds := by
 refine PySem.W.holds_law Z.wellS λsaid=>?_
 refine PySem.W.holds_open (q:=Y.qw) (loose:=[]) (Xt:=Y.Xt) (XP:=PySem.W.XL Y.qw []) (Yf:=Yc9 Y.hk) (Ya:=Yc8 Y.hk) (YP:=PySem.W.Hook.says Y.hk) (N:=2068) Y.k_hl (PySem.W.Hook.of Y.hk) (PySem.W.Hook.keeps Y.hk) (λs e=>PySem.W.xl_of s (Bool.and_eq_true_iff.mp e).1) PySem.W.XL.keeps (by rfl) (by rfl) (by rfl) (λs e=>PySem.W.recFacts_of (Bool.and_eq_true_iff.mp e).2) (by rfl) said (by decide +kernel) ⟨rfl,rfl,rfl,rfl,rfl,by decide +kernel⟩ ?hw ?hc
 case hw=>w_witness2
 refine Z.walk (l:=PySem.Challenge.rw_beatplans_k11_whole_beats_by_lengths) rfl rfl (λw h Y=>PySem.W.kIn_of Y) ?K ?S ?B ?F
 case K=>intro w;rfl
 case S=>intro w;exact⟨_,rfl,rfl⟩
 case B=>exact λw t ht=>(nomatch (show t∈[]from ht))
 case F=>exact λw mg fa h X G hm=>Z.all2 X G hm Z.prog_rep Z.prog_eq Z.tabsU (Y.k_dyn _) (Y.k_lk _) (Y.k_blt _) (Y.k_gs _) (Y.k_cs _) rfl rfl rfl rfl rfl
