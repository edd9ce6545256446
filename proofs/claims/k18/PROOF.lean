import PyProof.Rows.All
import Wide.All
import OpenK.AllK
import Wide.FinOn
import Lean
import PyProof.EqAt
import PyProof.EqKinds
import PyProof.TupleCall
import PySem.Challenge.RW_beatplans_k18_times_or_none
set_option compiler.extract_closed false
set_option Elab.async false
set_option linter.all false
set_option maxRecDepth 100000
set_option maxHeartbeats 8000000
open List renaming all_cons → YcT, all_eq_true → YcX, any_cons → Ybe, any_eq_false → YfP, any_eq_true → Yf6, append_assoc → YdF, append_nil → YcA, cons_append → Yf5, dropLast_eq_take → YeY, drop_eq_getElem_cons → Ya0, drop_length → Yf4, drop_of_length_le → YbH, drop_zero → Ydk, eraseIdxIfInBounds_toArray → YdE, ext_getElem → Yf3, filterMap_cons → Yce, filterMap_map → YfB, filter_append → Yck, filter_cons_of_neg → YeL, filter_cons_of_pos → YeK, filter_sublist → Yfk, find?_cons → Ybz, find?_cons_of_neg → YeV, flatten_append → Yfj, flatten_cons → YbX, foldl → YdD, foldl_cons → Yeg, getD → YaS, getD_eq_getElem?_getD → YaH, getElem?_append_left → YaN, getElem?_append_right → Ybv, getElem?_eq_getElem → Yab, getElem?_eq_none → Ycv, getElem?_inj → YfO, getElem?_map → Yal, getElem?_range → Yfi, getElem?_replicate → YeJ, getElem?_set_ne → Ya5, getElem?_set_self → Ybk, getElem?_take → YdB, getElem_mem → Ybo, getElem_of_mem → YaC, getElem_take → YfN, length → Yef, length_append → YaD, length_cons → YaA, length_drop → YcW, length_erase_of_mem → YeD, length_map → Yaa, length_nil → Yc8, length_pos_of_mem → YeU, length_range → YbW, length_reverse → Ydo, length_set → Ybr, length_singleton → Yc7, length_take → Ybn, lookup → Yee, lookup_cons → Ya9, map_append → Yap, map_congr_left → Ydn, map_cons → YaG, map_drop → YdA, map_inj_right → YfA, map_map → YaW, map_nil → Yc6, map_reverse → Yf2, map_take → Ycy, mem_append_left → Yax, mem_append_right → Yav, mem_cons → YaM, mem_cons_of_mem → Yai, mem_cons_self → Yat, mem_filter → Yed, mem_of_getElem? → Yam, mem_of_mem_take → Yb7, mem_or_eq_of_mem_set → Yex, nil_append → Ya8, not_mem_nil → Yaw, of_mem_zip → Yec, pairwise_singleton → YcS, range → YaK, range_succ → Yeb, replicate → Yad, replicate_succ → Yba, reverse_cons → YbV, set_eq_take_append_cons_drop → Ydz, size_toArray → Yaj, take_append_of_le_length → YdR, take_length → Yaz, take_of_length_le → YbG, take_sublist → YfM, take_succ → YaL, toArray → Yc5, zip_cons_cons → Yfz
open PySem.W renaming BT → Ycm, Frag → Yac, OpenLaw → YdL, WalkO → Yf1, boot_heap → YbL, boot_o_0 → Yb6, boot_o_1 → YbA, boot_o_10 → YbK, boot_o_2 → Yb5, boot_o_3 → Yfh, boot_o_4 → Yb4, boot_o_5 → Yb3, boot_o_6 → Yb2, boot_o_7 → Yb1, boot_o_8 → Yb0, boot_o_9 → YbZ, cellsFrom_some → Yew, codeIn → YcF, findIn → YcE, fnOf → YbI, instObj → YdK, kas_place → YfY, keepIn → YbY, kia_one → Ybd, kitOne → Yc4, kitx_dict → Ye9, kitx_list → Ye8, lookIn → Yd1, methodObj → Ydv, mg_of → YcL, nsIn → Yco, piece_app → Ydu, piecesOf → YdC, plainGet → Yfg, segRunT → YdJ, segRun_of → Ydt, specialIn → Ye7, topRun → YfK, topStub → Yfw
open PySem.Heap renaming SameBut → YcH, get?_push_ne → YdG, get?_push_of_some → Yae, get?_push_size → Yas, get?_update_ne → Yfl, get?_update_other → YcY, get?_update_self → Yc9, lt_size → Yaq, size_push → Yct
open Nat renaming add_le_add_left → Yfy, add_sub_cancel_left → YeT, le_of_eq → Ydf, le_of_lt → Yci, le_refl → Yaf, le_succ → Yeo, le_trans → Yah, lt_irrefl → Ybf, lt_of_le_of_lt → YaF, lt_of_lt_of_le → Yau, lt_succ_of_lt → YcP, lt_trans → Yde, mul_comm → YdQ, mul_le_mul → YeC, ne_of_lt → Yay, pow_le_pow_right → Ycx, sub_self → Yfc, succ_le_succ → Yd3, zero_add → YcJ, zero_le → Ybb
open PySem renaming Arguments → Yf7, Comprehension → YbJ, DictEntry → Ycj, FuncData → Ybu, GenState → Yd5, NameKind → YbC, Operator → YbU, PassesOwn → Yd2, Spec → YaO, assignEach → Ya4, assignInOrder → Yft, attributeBase → Yby, behindInMarks → YdY, binaryOp → Ybj, bootBuiltins → Yca, builtinsNs → Ydx, call → Yfv, call_meets → Ybx, cellsFrom → Ybp, codeAny_mono → Yeu, compTurn → YeE, compareOp → YaV, concat_meets → YfZ, evalArgs_none → Ydj, evalPart_none → Yfs, foldedForSure → Yfr, foldedSetIterable → Ya7, inplaceOp → YdX, keywordEach → YeR, lastMarks → YfX, letOwnedTupleGo → YcK, mainGlobals → YaT, mem_of_lookup → YaJ, newFunctionEnv → Ye3, noFill_tuple_add → Yey, post_val_or_str → Ydr, pushCells → YeQ, repr_of_reads' → Ye2, seqIndex? → YfW, seqIndex_neg → YfV, seqSlot_of → YfJ, seq_tuple_add → Yfq, sizeLine → Yak, sizeLine_eq → Ycw, sliceBounds → Ycl, slicePick → YdW, starEach → YaP, swappedStores → Ybi, swapsWith → Yc3, swapsWithSole → Ybt, sysModules → Ya1, treeTable → Yc2, tupleKind → YeP, tupleKind_room_in1 → YcR, typeIs_int → Yek, typeIs_str → Yej, wpAny_Call_Name_kw → YcQ, wpAny_Call_method0_late → Yfo, wpAny_binaryOp_repeat_ref → Ye1, wpAny_bind → Yag, wpAny_callSpecial?_slot → Ycs, wpAny_call_entry → YcD, wpAny_comprehension_free → Yfe, wpAny_execs_nil → YeO, wpAny_field → Yb9, wpAny_getItem_list_slice → Yc1, wpAny_getItem_str_slice → Ycr, wpAny_holding → Ybh, wpAny_letOwnedTupleGo_enum → YeX, wpAny_mono → Ybm, wpAny_newObj_type → Ya6, wpAny_passesOwn → Yb8, wpAny_pure → Yar, wpAny_pyIter_enum → Yc0, wpAny_pyIter_list → YcZ, wpAny_pyIter_tuple → YdU, wpAny_pyNext_enum_endD → YfG, wpAny_pyNext_enum_itemD → Yfn, wpAny_pyNext_list_end → YfU, wpAny_pyNext_list_item → YfF, wpAny_sequenceKey → Yei, wpAny_setField → YcU, wpAny_standAt → Ydb, wpAny_truthy_bool → Ycd, wpAny_typeOf → Yet
open Bool renaming and_eq_true → YaE, eq_iff_iff → Ybs, false_eq_true → Ybw, false_ne_true → Yan, false_or → YeN, not_eq_true' → YdH, or_eq_true → YcC, true_or → Ye0
open Option.some renaming inj → Yao
open Int renaming ediv_one → Yfd, emod_add_mul_ediv → Ydg, emod_lt_of_pos → Ya2, emod_nonneg → Ybg, eq_ofNat_of_zero_le → YaB, le_refl → Yeq, mul_comm → YdT, mul_le_mul_of_nonneg_right → YdS, sub_eq_add_neg → YfQ, toNat_natCast → Ybc
open PySem.PyData renaming canLayAll0 → YcI, depthAll → Ybl, eqv → YaI, eqvAll → YbQ, int → Yen, showable → YdP, showableAll → Yfa, shown → Ycq, shownAll → Ych, tuple → YeI
open PySem.NameKind renaming cell → YaQ, free → YaR
open PySem.Value renaming bool → Yfu, int → Yds, none → YaU, ref → YbD, str → YeS
open PySem.W.Fast renaming te10110043849684766642 → YbP, te14364793385576792824 → YaX, te5923862056798008813 → YcV
open PySem.Builtin.Slice renaming sliceAdjust → Ybq, sliceApplied → YbF, sliceFields → Ydw, slicePlaces → YaY
open PySem.Builtin.Tuple renaming tupleExact → YaZ, tupleIsExact → Ydq, tupleItemsOf → Ycu, tupleTooMany → Ydp
open PyProof.Rows renaming args_tuple_getitem → Yd0, assignInOrder_cons → YdZ, boot_list → YdM, callWith_type1 → Ycp, entry_tuple_getitem → YdI, slot_tuple_getitem → Ya3, subscriptTail → YdV, subscriptTail_builtinR → YfH, tupleItemsOf_ → Yfp
open Array renaming getD_eq_getD_getElem? → YbO, getElem?_setIfInBounds_self_of_lt → YbN, getElem?_toList → YbM, length_toList → YbB
open PySem.Obj renaming isFreed_of_fields → Yfb, mapFields → YbE, mapSeq → Ycz
open PySem.Str renaming empty → Ye5, ofString → YbR
open PySem.Builtin.List renaming listTooLong → YbS
open True renaming intro → YbT
open PySem.Builtin.Str renaming occurrences → Ycb
open PySem.Around renaming in1_units → Ycc, under_plainId → YeW
open Sum.inr renaming injEq → Ycf
open PySem.F renaming args_object_init_2 → YfR, args_tuple_add_2 → YcG, args_tuple_mul_2 → YdN, entry_enumerate_new → YfE, entry_tuple_add → YcM, entry_tuple_mul → Yd6, newCall_enumerate_1 → YfD, plainAttrs_dict → Yem, plainAttrs_list → Ycg, slot_dict_items → Yel, slot_dict_values → Yd8, slot_int_rmul → Ydl, slot_list_lt → YeG, slot_tuple_add → YcO, slot_tuple_iterator_next → YeM, slot_tuple_mul → Yer, typeCall_enumerate_1 → Yfm
open PySem.Calls renaming Name_function_global → Yeh, callWith_builtin → Ycn
open PySem.W.KasT renaming kasWp_bind → YcB, ret → YfC
open PySem.SeqAt renaming EqAt → Yev, eqv_refl → YcN, in_listAt → Yf0, in_tupleAt → YfI, notIn_listAt → Yff, notIn_tupleAt → Ye6
open False renaming elim → Yda
open Prod.mk renaming inj → Ydc
open Prod renaming ext → Ydd
open PySem.W.Hook renaming obs → Ydi, val → Ydh
open PySem.Paired renaming length → Ydm
open Option renaming getD_none → Yfx, isSome_map → Ydy, map_some → YfL, none_or → Yea, some_or → Yd9
open PySem.Txt renaming slice → Ye4, slice_le → YdO
open List.cons renaming inj → Yd4
open PySem.AutoSeq1 renaming wpAny_loadPart' → Yd7
open List.Pairwise renaming nil → Yep
open Classical renaming choose → YeZ, choose_spec → Yes
open PySem.SeqAt.EqAt renaming int_int → YeB, int_str → YeA, str_int → Yez
open PySem.ScopeKind renaming function → YeF
open PySem.Draws renaming list → YeH
open PySem.Builtin.SmallTypes renaming nextOf → YfT, stopIteration → YfS
namespace L2
open PySem PySem.Spec PyProof.Rows

abbrev Key:=Sum Int Str
noncomputable def jfX:Key->Value->Bool
 |.inl k,v=>Value.isInt k v
 |.inr x,v=>Value.isStrOf x v
noncomputable def keyH (w:World):Key->Int
 |.inl k=>hashInt k
 |.inr x=>hashStr w x
def jao:∀{k:Key} {v:Value},jfX k v=true->(∃i t,k=Sum.inl i/\v=Yds i t)\/(∃x t,k=Sum.inr x/\v=YeS x t)
 |.inl i,v,h=>by
  obtain⟨t,e⟩:=Value.isInt_shape (k:=i) (v:=v) h;exact .inl ⟨i,t,rfl,e⟩
 |.inr x,v,h=>by
  obtain⟨t,e⟩:=Value.isStrOf_shape (x:=x) (v:=v) h;exact .inr ⟨x,t,rfl,e⟩
def jil (i:Int)(t:Tok):jfX (.inl i) (.int i t)=true:=by simp[jfX,Value.isInt]
def jik (x:Str)(t:Tok):jfX (.inr x) (.str x t)=true:=by simp[jfX,Value.isStrOf]
def joj (a b:Int):decide ((Sum.inl a:Key)=Sum.inl b)=(a==b):=by
 by_cases e:a=b
 ·subst e;simp
 ·have h:¬(Sum.inl a:Key)=Sum.inl b:=λq=>e (Sum.inl.inj q);rw[decide_eq_false h];exact(beq_eq_false_iff_ne.mpr e).symm
def jog (a b:Str):decide ((Sum.inr a:Key)=Sum.inr b)=decide (a=b):=by
 by_cases e:a=b
 ·subst e;simp
 ·have h:¬(Sum.inr a:Key)=Sum.inr b:=λq=>e (Sum.inr.inj q);rw[decide_eq_false h,decide_eq_false e]
def joi (a:Int)(b:Str):decide ((Sum.inl a:Key)=Sum.inr b)=false:=decide_eq_false (λq=>nomatch q)
def joh (a:Str)(b:Int):decide ((Sum.inr a:Key)=Sum.inl b)=false:=decide_eq_false (λq=>nomatch q)

noncomputable def jaj (prog:Program)(w:World):PySem.KeyKind prog w Key where
 is:=jfX
 hash:=keyH w
 inj:=λv a b ha hb=>by
  rcases jao ha with⟨i,t,rfl,rfl⟩|⟨x,t,rfl,rfl⟩
  ·rcases jao hb with⟨j,u,rfl,e⟩|⟨y,u,rfl,e⟩
   ·injection e with e1 _;rw[e1]
   ·exact nomatch e
  ·rcases jao hb with⟨j,u,rfl,e⟩|⟨y,u,rfl,e⟩
   ·exact nomatch e
   ·injection e with e1 _;rw[e1]
 byValue:=λk v h=>by
  rcases jao h with⟨i,t,rfl,rfl⟩|⟨x,t,rfl,rfl⟩<;>rfl
 pyHash:=λhv h=>by
  rcases jao hv with⟨i,t,rfl,rfl⟩|⟨x,t,rfl,rfl⟩
  ·exact wpAny_pyHash_int h
  ·exact wpAny_pyHash_str h
 eqBool:=λhu hv h=>by
  rcases jao hu with⟨i,t,rfl,rfl⟩|⟨x,t,rfl,rfl⟩
  ·rcases jao hv with⟨j,u,rfl,rfl⟩|⟨y,u,rfl,rfl⟩
   ·rw[joj]at h;exact wpAny_eqBool_int h
   ·rw[joi]at h;exact YeA i t y u _ _ _ _ h
  ·rcases jao hv with⟨j,u,rfl,rfl⟩|⟨y,u,rfl,rfl⟩
   ·rw[joh]at h;exact Yez x t j u _ _ _ _ h
   ·rw[jog]at h;exact wpAny_eqBool_str h
 «strs»:=λk x t v h=>by
  rcases jao h with⟨i,u,rfl,e⟩|⟨y,u,rfl,e⟩
  ·exact nomatch e
  ·injection e with e1 _
   subst e1
   cases v<;>rfl

def jfU (prog:Program)(w:World)(i:Int)(t:Tok):(jaj prog w).is (.inl i) (.int i t)=true:=jil i t
def jfT (prog:Program)(w:World)(x:Str)(t:Tok):(jaj prog w).is (.inr x) (.str x t)=true:=jik x t

inductive V where
 |non|bl (b:Bool)|int (i:Int)|str (x:Str)|byt (b:Array UInt8)|flt (b:UInt64)|ref (a:Addr)|ty (n:String)
 deriving DecidableEq

def RelV:V->Value->Prop
 |.non,u=>u=YaU
 |.bl b,u=>u=Yfu b
 |.int i,u=>∃t,u=Yds i t
 |.str x,u=>∃t,u=YeS x t
 |.byt b,u=>∃t,u=Value.bytes b t
 |.flt b,u=>∃t,u=Value.float b t
 |.ref a,u=>u=YbD a
 |.ty n,u=>u=Value.type n

abbrev Vals:List V->List Value->Prop:=Paired RelV
def Vals.length {xs:List V}{us:List Value}(r:Vals xs us):xs.length=us.length:=Ydm r
def Vals.get:∀{xs:List V} {us:List Value} {i:Nat} {x:V},Vals xs us->xs[i]?=some x->∃u,us[i]?=some u/\RelV x u
 |_,_,_,_,.nil,e=>by simp at e
 |_,_,0,_,.cons r _,e=>by simp at e;subst e;exact⟨_,rfl,r⟩
 |_,_,i+1,x,.cons _ t,e=>by
  obtain⟨u,h1,h2⟩:=Vals.get (i:=i) (x:=x) t (by simpa using e)
  exact⟨u,by simpa using h1,h2⟩
def Vals.set {x:V}{u:Value}(r:RelV x u):∀{xs:List V} {us:List Value} (i:Nat),Vals xs us->Vals (xs.set i x) (us.set i u)
 |_,_,_,.nil=>.nil
 |_,_,0,.cons _ t=>.cons r t
 |_,_,i+1,.cons q t=>.cons q (Vals.set r i t)
def Vals.append:∀{xs ys:List V} {us ws:List Value},Vals xs us->Vals ys ws->Vals (xs++ys) (us++ws)
 |_,_,_,_,.nil,s=>s
 |_,_,_,_,.cons r t,s=>.cons r (Vals.append t s)
def Vals.take:∀{xs:List V} {us:List Value} (n:Nat),Vals xs us->Vals (xs.take n) (us.take n)
 |_,_,0,_=>.nil
 |_,_,_+1,.nil=>.nil
 |_,_,n+1,.cons r t=>.cons r (Vals.take n t)
def Vals.drop:∀{xs:List V} {us:List Value} (n:Nat),Vals xs us->Vals (xs.drop n) (us.drop n)
 |_,_,0,r=>r
 |_,_,_+1,.nil=>.nil
 |_,_,n+1,.cons _ t=>Vals.drop n t
def RelO:Option V->Option Value->Prop
 |some v,some u=>RelV v u
 |none,none=>True
 |_,_=>False
def KV {κ:Type}:List (κ×V)->List (κ×Value)->Prop:=Paired λ(p:κ×V) (q:κ×Value)=>p.1=q.1/\RelV p.2 q.2

noncomputable def kV:Key->V
 |.inl i=>.int i
 |.inr x=>.str x

inductive HO where
 |lst (xs:List V)
 |tup (xs:List V)
 |dK (kvs:List (Key×V))|dT (kvs:List (List Key×V))
 |set (S:Int->Bool) (n:Nat)
 |ins (C dx:Addr) (fs:List (Str×V))
 |own (x:Addr)
 |xd (fs:List (Str×V))
 |met (f x:Addr)
 |rng (lo hi:Int)
 |frz (o:Obj) (u:HO)
 |tbl (ps:Array Value)
 |ext (φ:Heap->Prop)

abbrev Hp:=Addr->Option HO
noncomputable def upd (H:Hp)(a:Addr)(o:HO):Hp:=λb=>if b=a then some o else H b
def jas {H:Hp}{a:Addr}{o:HO}:upd H a o a=some o:=by unfold upd;rw[if_pos rfl]
section
variable {H:Hp}{a b:Addr}
def jaf {o:HO}(h:b≠a):upd H a o b=H b:=by unfold upd;rw[if_neg h]
def jqq {o u:HO}(h:H a=some o)(h':H b=some u)(d:o≠u):a≠b:=by
 intro e;subst e;rw[h]at h';exact d (Yao h')
def jai {o:HO}(h:H a=some o)(h':H b=none):a≠b:=by
 intro e;subst e;rw[h]at h';cases h'

end
def TupD (h:Heap)(a:Addr)(items:Array Value):Prop:=∃o,h.get? a=some o/\o.cls=.type "tuple" /\ ∃n,o.data=.seq items n/\o.dict=none
def TupD.tup {h:Heap}{a:Addr}{items:Array Value}(x:TupD h a items):IsTup h a items:=let ⟨o,e,c,n,d,_⟩:=x;⟨o,e,c,n,d⟩
def TupD.new (h:Heap)(items:Array Value):TupD (h.push { cls:=.type "tuple",data:=.seq items }) h.objs.size items:=⟨_,Yas _ rfl,rfl,_,rfl,rfl⟩
section
variable (P:Program)(w:World)
def jaH (H:Hp)(h:Heap)(a:Addr):HO->Prop
 |.lst xs=>xs.length<=Yak/\∃(its:List Value) (n:Nat),Vals xs its/\h.get? a=some { cls:=.type "list",data:=.seq its.toArray n }
 |.tup xs=>xs.length<=Yak/\∃its:List Value,Vals xs its/\TupD h a its.toArray
 |.dK kvs=>kvs.length<=Yak/\(a==Ya1)=false/\∃vs,KV kvs vs/\h.DictOf (jaj P w) a vs
 |.dT kvs=>kvs.length<=Yak/\(a==Ya1)=false/\∃xs:List (List Key×Addr×Value),
   Paired (λ(p:List Key×V) (q:List Key×Addr×Value)=>p.1=q.1/\H q.2.1=some (.tup (p.1.map kV))/\RelV p.2 q.2.2) kvs xs/\
   ∃o es ep,h.get? a=some o/\o.ExactDict/\o.data=.dict es ep/\es.toList=xs.map (entryOfKey (YeP (jaj P w)))/\(xs.map (·.1)).Nodup
 |.set S n=>h.SetOf (intKind P w) a S n
 |.ins C dx fs=>H dx=some (.own a)/\fs.length<=1000/\dx≠a/\h.get? a=some (YdK C dx)/\
   ∃mA,h.Ns1 dx mA/\(∀f,RelO (fs.lookup f) (mA f))/\PySem.Within mA (fs.map (·.1))
 |.own _=>∃o,h.get? a=some o
 |.xd fs=>∃mA,h.Ns1 a mA/\∀f,RelO (fs.lookup f) (mA f)
 |.rng lo hi=>∃t u v,h.get? a=some { cls:=.type "range",data:=.fields #[.int lo t,.int hi u,.int 1 v] }
 |.frz o u=>h.get? a=some o/\jaH H h a u
 |.tbl ps=>h.get? a=some { cls:=.none,data:=.fields ps }
 |.met f x=>h.get? a=some (Ydv (.ref f) (.ref x))
 |.ext φ=>φ h/\(∃o,h.get? a=some o)/\∀h1 h2:Heap,φ h1->(∀o,h1.get? a=some o->h2.get? a=some o)->φ h2
def HOk (H:Hp)(h:Heap):Prop:=∀a o,H a=some o->jaH P w H h a o
end

section
variable {P:Program}{w:World}{H H':Hp}{h h':Heap}{a:Addr}{o:HO}
def jaH.lt (x:jaH P w H h a o):a<h.objs.size:=by
 cases o with
 |lst xs=>obtain⟨_,_,_,_,e⟩:=x;exact Yaq e
 |tup xs=>obtain⟨_,_,_,p⟩:=x;exact p.tup.lt
 |dK kvs=>obtain⟨_,_,_,_,o,_,_,e,_⟩:=x;exact Yaq e
 |dT kvs=>obtain⟨_,_,_,_,o,_,_,e,_⟩:=x;exact Yaq e
 |set S n=>obtain⟨o,_,_,_,e,_⟩:=x;exact Yaq e
 |ins C dx fs=>obtain⟨_,_,_,e,_⟩:=x;exact Yaq e
 |own y=>obtain⟨_,e⟩:=x;exact Yaq e
 |xd fs=>obtain⟨_,⟨_,_,_,e,_⟩,_⟩:=x;exact Yaq e
 |rng lo hi=>obtain⟨_,_,_,e⟩:=x;exact Yaq e
 |frz ob u=>obtain⟨e,_⟩:=x;exact Yaq e
 |tbl ps=>exact Yaq (show h.get? a=some _ from x)
 |met f y=>exact Yaq (show h.get? a=some _ from x)
 |ext φ=>obtain⟨_,⟨_,e⟩,_⟩:=x;exact Yaq e
def Paired.mapP {α β:Type}{F G:α->β->Prop}:∀{l₁:List α} {l₂:List β},Paired F l₁ l₂->(∀a b,F a b->G a b)->Paired G l₁ l₂
 |_,_,.nil,_=>.nil
 |_,_,.cons r t,f=>.cons (f _ _ r) (Paired.mapP t f)
def jaH.stay (x:jaH P w H h a o)(k:∀b u,(b=a\/H b=some (.own a))->h.get? b=some u->h'.get? b=some u)
  (ho:∀b,H b=some (.own a)->H' b=some (.own a)) (ht:∀b xs,H b=some (.tup xs)->H' b=some (.tup xs)):jaH P w H' h' a o:=by
 induction o with
 |lst xs=>obtain⟨z,its,n,r,e⟩:=x;exact⟨z,its,n,r,k _ _ (.inl rfl) e⟩
 |tup xs=>obtain⟨z,its,r,ob,e,c⟩:=x;exact⟨z,its,r,ob,k _ _ (.inl rfl) e,c⟩
 |dK kvs=>obtain⟨z,y,vs,r,ob,es,ep,e,c⟩:=x;exact⟨z,y,vs,r,ob,es,ep,k _ _ (.inl rfl) e,c⟩
 |dT kvs=>
  obtain⟨z,y,xs,r,ob,es,ep,e,c⟩:=x;exact⟨z,y,xs,Paired.mapP r λp q z=>⟨z.1,ht _ _ z.2.1,z.2.2⟩,ob,es,ep,k _ _ (.inl rfl) e,c⟩
 |set S n=>obtain⟨ob,es,ep,t,e,c⟩:=x;exact⟨ob,es,ep,t,k _ _ (.inl rfl) e,c⟩
 |ins C dx fs=>
  obtain⟨d,z,ne,e,mA,⟨od,es,ep,e2,c⟩,r⟩:=x;exact⟨ho _ d,z,ne,k _ _ (.inl rfl) e,mA,⟨od,es,ep,k _ _ (.inr d) e2,c⟩,r⟩
 |own y=>obtain⟨ob,e⟩:=x;exact⟨ob,k _ _ (.inl rfl) e⟩
 |xd fs=>obtain⟨mA,⟨od,es,ep,e,c⟩,r⟩:=x;exact⟨mA,⟨od,es,ep,k _ _ (.inl rfl) e,c⟩,r⟩
 |rng lo hi=>obtain⟨t,u,v,e⟩:=x;exact⟨t,u,v,k _ _ (.inl rfl) e⟩
 |frz ob u ih=>obtain⟨e,q⟩:=x;exact⟨k _ _ (.inl rfl) e,ih q⟩
 |tbl ps=>
  have e:h.get? a=some { cls:=.none,data:=.fields ps }:=x;show h'.get? a=some { cls:=.none,data:=.fields ps };exact k a _ (.inl rfl) e
 |met f y=>
  have e:h.get? a=some (Ydv (.ref f) (.ref y)):=x;show h'.get? a=some (Ydv (.ref f) (.ref y));exact k a _ (.inl rfl) e
 |ext φ=>obtain⟨p,⟨o,e⟩,st⟩:=x;exact⟨st _ _ p λo q=>k _ _ (.inl rfl) q,⟨o,k _ _ (.inl rfl) e⟩,st⟩
def HOk.lt (x:HOk P w H h)(e:H a=some o):a<h.objs.size:=(x a o e).lt
def HOk.fresh (x:HOk P w H h)(e:h.objs.size<=a):H a=none:=by
 cases q:H a with
 |none=>rfl
 |some u=>exact absurd (Yau (x.lt q) e) (Ybf _)
def HOk.kept (x:HOk P w H h)(k:∀b u,h.get? b=some u->h'.get? b=some u):HOk P w H h':=λa o e=>
 (x a o e).stay (λb u _ q=>k b u q) (λ_ q=>q) λ_ _ q=>q
def HOk.laid (x:HOk P w H h)(k:∀b u,h.get? b=some u->h'.get? b=some u)(hp:h.objs.size<=a)(new:jaH P w (upd H a o) h' a o):HOk P w (upd H a o) h':=λb u e=>by
 have hn:=x.fresh hp;by_cases hb:b=a
 ·subst hb;rw[jas]at e;cases e;exact new
 ·rw[jaf hb]at e;exact(x b u e).stay (λc v _ q=>k c v q) (λc q=>by rw[jaf (jai q hn)];exact q) λc xs q=>by rw[jaf (jai q hn)];exact q
end

def Rd (H:Hp)(a:Addr)(u:HO):Prop:=H a=some u\/∃o,H a=some (.frz o u)
def Rd.of {H:Hp}{a:Addr}{u:HO}(h:H a=some u):Rd H a u:=.inl h
def Rd.ok {P:Program}{w:World}{H:Hp}{h:Heap}{a:Addr}{u:HO}(r:Rd H a u)(x:HOk P w H h):jaH P w H h a u:=by
 rcases r with r|⟨o,r⟩
 ·exact x a u r
 ·obtain⟨_,q⟩:=x a _ r;exact q
def Mut:Option HO->Prop
 |some (.lst _)=>True
 |some (.dK _)=>True
 |some (.dT _)=>True
 |some (.set _ _)=>True
 |some (.ins _ _ _)=>True
 |some (.ext _)=>True
 |_=>False
section
variable {P:Program}{w:World}{H:Hp}{h h':Heap}{x e:Addr}{o':HO}
def HOk.write (ok:HOk P w H h)(mu:Mut (H x))(he:e=x\/H e=some (.own x))(k:∀b u,b≠e->h.get? b=some u->h'.get? b=some u)(heo:∃u,h'.get? e=some u)
  (new:jaH P w (upd H x o') h' x o'):HOk P w (upd H x o') h':=λb u q=>by
 have nown:∀c y,H c=some (.own y)->c≠x:=λc y r z=>by subst z;rw[r]at mu;exact mu
 have ntup:∀c xs,H c=some (.tup xs)->c≠x:=λc xs r z=>by subst z;rw[r]at mu;exact mu
 by_cases hb:b=x
 ·subst hb;rw[jas]at q;cases q;exact new
 ·rw[jaf hb]at q;by_cases hbe:b=e
  ·have q':H b=some (.own x):=by
    rcases he with z|z
    ·exact absurd (hbe.trans z) hb
    ·rw[hbe];exact z
   rw[q]at q';cases q';obtain⟨v,hv⟩:=heo;exact⟨v,by rw[hbe];exact hv⟩
  ·refine(ok b u q).stay (λc v hc r=>k c v ?_ r) (λc r=>by rw[jaf (nown c b r)];exact r) λc xs r=>by rw[jaf (ntup c xs r)];exact r
   rcases hc with rfl|hc
   ·exact hbe
   ·rintro rfl;rcases he with z|z
    ·exact nown c b hc z
    ·rw[hc]at z;cases z;exact hb rfl
end

structure Un (fs ex:List Addr)(H H':Hp)(h h':Heap):Prop where
 keep:∀b o,h.get? b=some o->H b=none->b∉fs->b∉ex->h'.get? b=some o
 slot:∀b o,h.get? b=some o->H b=none->b∈fs->b∉ex->∃sl,h'.get? b=some { o with slots:=sl }
 free:∀b o,h.get? b=some o->H b=none->b∉ex->H' b=none
 there:∀b o,h.get? b=some o->b∉ex->∃o',h'.get? b=some o'
 tups:∀b xs,H b=some (.tup xs)->H' b=some (.tup xs)
 frzs:∀b o u,H b=some (.frz o u)->H' b=some (.frz o u)
 tbls:∀b ps,H b=some (.tbl ps)->∃more,H' b=some (.tbl (ps++more))
section
variable {fs fs' ex ex':List Addr}{H H1 H2:Hp}{h h1 h2 h':Heap}{a x e:Addr}{o:HO}
def Un.any (u:Un fs ex H H1 h h1){b:Addr}{ob:Obj}(q:h.get? b=some ob)(n:H b=none)(hx:b∉ex):∃sl,h1.get? b=some { ob with slots:=sl }:=by
 by_cases hb:b∈fs
 ·exact u.slot b ob q n hb hx
 ·exact⟨ob.slots,u.keep b ob q n hb hx⟩
def Un.kept (k:∀b u,h.get? b=some u->h'.get? b=some u):Un fs ex H H h h':=
 ⟨λb ob q _ _ _=>k b ob q,λb ob q _ _ _=>⟨ob.slots,k b ob q⟩,λ_ _ _ n _=>n,λb ob q _=>⟨ob,k b ob q⟩,λ_ _ q=>q,λ_ _ _ q=>q,λ_ ps q=>⟨#[],by rw[q];simp⟩⟩
def Un.refl:Un fs ex H H h h:=Un.kept λ_ _ q=>q
def Un.laid (k:∀b u,h.get? b=some u->h'.get? b=some u)(hp:h.objs.size<=a)(hn:H a=none):Un fs ex H (upd H a o) h h' where
 keep:=λb u q _ _ _=>k b u q
 slot:=λb u q _ _ _=>⟨u.slots,k b u q⟩
 free:=λb u q n _=>by rw[jaf (Yay (Yau (Yaq q) hp))];exact n
 there:=λb u q _=>⟨u,k b u q⟩
 tups:=λb xs q=>by rw[jaf (jai q hn)];exact q
 frzs:=λb u xs q=>by rw[jaf (jai q hn)];exact q
 tbls:=λb ps q=>⟨#[],by rw[jaf (jai q hn),q];simp⟩
def Un.write (mu:Mut (H x))(he:e=x\/H e=some (.own x))(k:∀b u,b≠e->h.get? b=some u->h'.get? b=some u)(heo:∃u,h'.get? e=some u):Un fs ex H (upd H x o) h h':=by
 have hx:∀b,H b=none->b≠x:=λb n z=>by subst z;rw[n]at mu;exact mu
 have hb:∀b,H b=none->b≠e:=λb n z=>by
  subst z;rcases he with r|r
  ·exact hx b n r
  ·rw[n]at r;cases r
 have hm:∀b u,H b=some u->¬Mut (some u)->b≠x:=λb u q nm z=>by subst z;rw[q]at mu;exact nm mu
 refine⟨λb u q n _ _=>k b u (hb b n) q,λb u q n _ _=>⟨u.slots,k b u (hb b n) q⟩,λb u q n _=>by rw[jaf (hx b n)];exact n,λb u q _=>?_,
  λb xs q=>by rw[jaf (hm b _ q λz=>z)];exact q,λb u xs q=>by rw[jaf (hm b _ q λz=>z)];exact q,λb ps q=>⟨#[],by rw[jaf (hm b _ q λz=>z),q];simp⟩⟩
 by_cases hbe:b=e
 ·subst hbe;exact heo
 ·exact⟨u,k b u hbe q⟩
end

noncomputable def trk (h:Heap)(H:Hp):List Addr:=(YaK h.objs.size).filter λa=>(H a).isSome
noncomputable def hidT (h:Heap)(H:Hp):Heap:=PySem.W.hideAll h (trk h H)
def jiw (h:Heap)(H:Hp):(hidT h H).objs.size=h.objs.size:=PySem.W.hideAll_size _ _
section
variable {h:Heap}{H:Hp}{b:Addr}{o:Obj}
def jeJ (e:h.get? b=some o)(n:H b=none):(hidT h H).get? b=some o:=
 PySem.W.hideAll_get _ e λhm=>by
  have q:(H b).isSome=true:=(Yed.mp hm).2;rw[n]at q;simp at q
def jlT (e:(hidT h H).get? b=some o):h.get? b=some o/\H b=none:=by
 have e':h.get? b=some o:=PySem.W.of_hideAll (trk h H) e;refine⟨e',?_⟩;cases q:H b with
 |none=>rfl
 |some x=>
  have hm:b∈trk h H:=Yed.mpr ⟨List.mem_range.mpr (Yaq e'),by simp[q]⟩
  have z:(hidT h H).get? b=none:=PySem.W.hideAll_none (trk h H) hm;rw[z]at e;cases e

end
noncomputable def jmD (g h:Heap)(L:Addr):List (Addr×Obj):=(YaK h.objs.size).filterMap λa=>if a=L\/(g.get? a).isSome=true then none else (h.get? a).map λo=>(a,o)
noncomputable def rest (g h:Heap)(L d:Addr):List (Addr×Obj):=(jmD g h L).filter λp=>decide (p.1≠d)

structure Mod (K:Yac)(mg:Str->Option Value)(base:Heap):Prop where
 kin:K.In base
 glob:base.Ns YaT mg
 blt:∃mb,base.Ns Ydx mb/\∀x:Str,x ≠ "__name__" -> mb x=Yca x
 nolimit:base.NoLimit
 sys:∃o,K.lookup Ya1=some o/\o.cls=.type "dict"

structure Cx where
 prog:Program
 w:World
 K:Yac
 mg:Str->Option Value
 base:Heap
 A:Around
 N:List Str
 s₀:Shared
 H₀:Hp
 env:Env
 outer:List Env
 stack:List Env
 ex:List Addr
 fn:Str->Bool
 calm:Bool
 pn:List (Addr×Obj)
 xe:Value->Shared->Prop
noncomputable def frs (l:List Env):List Addr:=l.filterMap (·.frame)
noncomputable abbrev Cx.fs (X:Cx):List Addr:=frs X.outer

def Vis (sc:Scope)(x:Str):Prop:=sc.names.lookup x=some .local\/sc.names.lookup x=some .cell\/sc.names.lookup x=some .free
def Loc (sc:Scope)(x:Str):Prop:=sc.names.lookup x=some .local\/sc.names.lookup x=some .cell
def Look (env:Env)(h:Heap)(m:Str->Option Value)(x:Str)(u:Value):Prop:=
 (env.kindOf x=some .local/\m x=some u)\/((env.kindOf x=some .cell\/env.kindOf x=some .free)/\∃c,env.cells.lookup x=some c/\h.IsCell c (some u))

structure Cx.Ok (X:Cx):Prop where
 mod:Mod X.K X.mg X.base
 kind:X.env.scope.kind=.function
 glob:X.env.globals=YaT
 blt:X.env.builtins=Ydx
 above:X.s₀.heap.objs.size<=X.env.locals
 inj:∀x y c,X.env.cells.lookup x=some c->X.env.cells.lookup y=some c->x=y
 has:∀x,(X.env.kindOf x=some .cell\/X.env.kindOf x=some .free)->∃c,X.env.cells.lookup x=some c
 cab:∀x c,X.fn x=true->X.env.cells.lookup x=some c->X.s₀.heap.objs.size<=c
 hd:X.calm=true->X.A.handled=none
 frames:X.A.frames=some X.stack
 stk:X.stack=X.outer\/(X.stack=X.env::X.outer/\X.env.frame=some X.env.locals)
 exf:∀b∈X.ex,b≠X.env.locals/\∀x c,X.env.cells.lookup x=some c->c≠b
 bs:∀b o,X.base.get? b=some o->X.s₀.heap.get? b=some o/\X.H₀ b=none
 bsz:X.base.objs.size<=X.s₀.heap.objs.size
 noex:∀b o,X.base.get? b=some o->b∉X.ex
 exfs:∀b∈X.ex,b∉X.fs
 funs:X.s₀.heap.FunFrames X.base X.outer
 frf:∀b∈X.fs,X.H₀ b=none

structure Inv (X:Cx)(pins:List (Addr×Obj))(σ:List (Option V))(H:Hp)(s:Shared):Prop where
 ok:X.Ok
 os:s.os=X.s₀.os
 bare:AllBare s.gens
 base:Un X.fs X.ex X.H₀ H X.s₀.heap s.heap
 loc:∃m,s.heap.Ns X.env.locals m/\∀(i:Nat) (x:Str) (v:V),X.N[i]?=some x->σ[i]?=some (some v)->Vis X.env.scope x->∃u,RelV v u/\Look X.env s.heap m x u
 cell:∀x c,X.env.cells.lookup x=some c->∃v,s.heap.IsCell c v
 free:H X.env.locals=none
 freeC:∀x c,X.env.cells.lookup x=some c->H c=none
 pin:∀p∈X.pn++pins,s.heap.get? p.1=some p.2/\H p.1=none/\p.1≠X.env.locals/\p.1∉X.fs/\∀v,p.2.data≠.cell v
 hok:HOk X.prog X.w H s.heap
 len:σ.length=X.N.length

section
variable {X:Cx}{pins:List (Addr×Obj)}{σ:List (Option V)}{H H':Hp}{s:Shared}{h':Heap}

def Cx.Ok.nofr (ok:X.Ok){b:Addr}{o:Obj}(e:X.base.get? b=some o):b∉X.fs:=λhb=>by
 have:=(ok.funs.mem hb).1;rw[e]at this;cases this
def Inv.bs (I:Inv X pins σ H s):∀b o,X.base.get? b=some o->s.heap.get? b=some o/\H b=none:=λb o e=>
 ⟨I.base.keep b o (I.ok.bs b o e).1 (I.ok.bs b o e).2 (I.ok.nofr e) (I.ok.noex b o e),I.base.free b o (I.ok.bs b o e).1 (I.ok.bs b o e).2 (I.ok.noex b o e)⟩
def Inv.bk (I:Inv X pins σ H s):∀b o,X.base.get? b=some o->s.heap.get? b=some o:=λb o e=>(I.bs b o e).1
def Inv.mod (I:Inv X pins σ H s):Mod X.K X.mg X.base:=I.ok.mod
def Inv.kIn (I:Inv X pins σ H s):X.K.In s.heap:=I.ok.mod.kin.keeps I.bk
def Inv.lt (I:Inv X pins σ H s):X.env.locals<s.heap.objs.size:=let ⟨_,hn,_⟩:=I.loc;hn.lt
def Inv.sz (I:Inv X pins σ H s):X.s₀.heap.objs.size<=s.heap.objs.size:=Yah I.ok.above (Yci I.lt)
def Inv.nofs (I:Inv X pins σ H s){a:Addr}(h:s.heap.objs.size<=a):a∉X.fs:=λhb=>by
 obtain⟨_,o,ho,_⟩:=I.ok.funs.mem hb;exact absurd (Yau (Yaq ho) (Yah I.sz h)) (Ybf _)
def Inv.cne (I:Inv X pins σ H s):∀x c,X.env.cells.lookup x=some c->c≠X.env.locals:=λx c e z=>by
 obtain⟨v,o,ho,hd⟩:=I.cell x c e;obtain⟨m,⟨o',es,ep,ho',hd',_⟩,_⟩:=I.loc;rw[z,ho']at ho;cases ho;rw[hd']at hd;cases hd
def Inv.funs (I:Inv X pins σ H s):s.heap.FunFrames X.base X.outer:=by
 have all:∀(l:List Env),(∀b∈frs l,b∈X.fs)->X.s₀.heap.FunFrames X.base l->s.heap.FunFrames X.base l:=by
  intro l
  induction l with
  |nil=>intro _ _;trivial
  |cons env r ih=>
   intro hs hl;obtain⟨hk,⟨L,o,hf,hn,ho,hd⟩,hr⟩:=hl;have hL:L∈X.fs:=hs L (by unfold frs;rw[Yce,hf];exact Yat)
   obtain⟨sl,e⟩:=I.base.slot L o ho (I.ok.frf L hL) hL λz=>I.ok.exfs L z hL;exact⟨hk,⟨L,_,hf,hn,e,hd⟩,ih (λb hb=>hs b (by unfold frs;rw[Yce,hf];exact Yai _ hb)) hr⟩
 exact all X.outer (λ_ hb=>hb) I.ok.funs

def Inv.stack (I:Inv X pins σ H s):s.heap.FunFrames X.base X.stack:=by
 rcases I.ok.stk with e|⟨e,hf⟩
 ·rw[e];exact I.funs
 ·rw[e];obtain⟨m,hn,_⟩:=I.loc;refine .cons (by rw[I.ok.kind];decide) hf hn ?_ I.funs
  exact Heap.get?_none_of_le (Yah I.ok.bsz I.ok.above)
def Inv.stkSub (I:Inv X pins σ H s):∀b∈frs X.stack,b∈X.env.locals::X.fs:=λb hb=>by
 rcases I.ok.stk with e|⟨e,hf⟩
 ·rw[e]at hb;exact Yai _ hb
 ·rw[e]at hb;unfold frs at hb;rw[Yce,hf]at hb;exact hb
def Inv.stkFree (I:Inv X pins σ H s):∀b∈frs X.stack,H b=none:=λb hb=>by
 rcases YaM.mp (I.stkSub b hb)with e|hb
 ·rw[e];exact I.free
 ·obtain⟨_,o,ho,_⟩:=I.ok.funs.mem hb;exact I.base.free b o ho (I.ok.frf b hb) λz=>I.ok.exfs b z hb

def Inv.step {g':Array Yd5}{t':Nat}{d':Drawn}{ch:List Addr}(I:Inv X pins σ H s)
  (hch:∀b∈ch,(b∈X.ex\/X.s₀.heap.objs.size<=b)/\b≠X.env.locals/\(∀x c,X.env.cells.lookup x=some c->c≠b)/\∀p∈X.pn++pins,p.1≠b)
  (keep:∀b o,b≠X.env.locals->b∉X.fs->b∉ch->s.heap.get? b=some o->H b=none->h'.get? b=some o)
  (slot:∀b o,b≠X.env.locals->b∈X.fs->b∉ch->s.heap.get? b=some o->H b=none->∃sl,h'.get? b=some { o with slots:=sl }) (free:∀b o,b∉ch->s.heap.get? b=some o->H b=none->H' b=none)
  (there:∀b o,b∉ch->s.heap.get? b=some o->∃o',h'.get? b=some o')
  (tups:∀b xs,H b=some (.tup xs)->H' b=some (.tup xs)) (frzs:∀b o u,H b=some (.frz o u)->H' b=some (.frz o u)) (tbls:∀b ps,H b=some (.tbl ps)->∃more,H' b=some (.tbl (ps++more)))
  (ns:∀m,s.heap.Ns X.env.locals m->h'.Ns X.env.locals m) (hok:HOk X.prog X.w H' h') (hg:AllBare g') :
  Inv X pins σ H' { s with heap:=h',gens:=g',drawn:=d',toks:=t' }:=by
 have neL:∀b o,X.s₀.heap.get? b=some o->b≠X.env.locals:=λb o e=>Yay (Yau (Yaq e) I.ok.above);have neC:∀b o,X.s₀.heap.get? b=some o->b∉X.ex->b∉ch:=λb o e hx hb=>by
  rcases(hch b hb).1 with z|z
  ·exact hx z
  ·exact absurd (Yau (Yaq e) z) (Ybf _)
 have cellK:∀x c,X.env.cells.lookup x=some c->∀v,s.heap.IsCell c v->h'.IsCell c v:=λx c e v ⟨o,ho,hd⟩=>by
  have nch:c∉ch:=λz=>(hch c z).2.2.1 x c e rfl;by_cases hc:c∈X.fs
  ·obtain⟨sl,q⟩:=slot c o (I.cne x c e) hc nch ho (I.freeC x c e);exact⟨_,q,hd⟩
  ·exact⟨o,keep c o (I.cne x c e) hc nch ho (I.freeC x c e),hd⟩
 refine⟨I.ok,I.os,hg,⟨λb o e n hb hx=>?_,λb o e n hb hx=>?_,λb o e n hx=>?_,λb o e hx=>?_,λb xs e=>tups b xs (I.base.tups b xs e),λb o xs e=>frzs b o xs (I.base.frzs b o xs e),λb ps e=>?_⟩,?_,λx c e=>?_,?_,λx c e=>?_,λp hp=>?_,hok,I.len⟩
 ·exact keep b o (neL b o e) hb (neC b o e hx) (I.base.keep b o e n hb hx) (I.base.free b o e n hx)
 ·obtain⟨sl,e1⟩:=I.base.slot b o e n hb hx;obtain⟨sl',e2⟩:=slot b _ (neL b o e) hb (neC b o e hx) e1 (I.base.free b o e n hx);exact⟨sl',e2⟩
 ·obtain⟨o',e1⟩:=I.base.there b o e hx;exact free b o' (neC b o e hx) e1 (I.base.free b o e n hx)
 ·obtain⟨o',e1⟩:=I.base.there b o e hx;exact there b o' (neC b o e hx) e1
 ·obtain⟨m1,e1⟩:=I.base.tbls b ps e;obtain⟨m2,e2⟩:=tbls b _ e1;exact⟨m1++m2,by rw[e2,Array.append_assoc]⟩
 ·obtain⟨m,hn,hl⟩:=I.loc;refine⟨m,ns m hn,λi x v e1 e2 e3=>?_⟩;obtain⟨u,r,l⟩:=hl i x v e1 e2 e3;refine⟨u,r,?_⟩;rcases l with l|⟨k,c,e,z⟩
  ·exact .inl l
  ·exact .inr ⟨k,c,e,cellK x c e _ z⟩
 ·obtain⟨v,z⟩:=I.cell x c e;exact⟨v,cellK x c e v z⟩
 ·obtain⟨m,⟨o,_,_,ho,_⟩,_⟩:=I.loc;exact free _ o (λz=>(hch _ z).2.1 rfl) ho I.free
 ·obtain⟨v,o,ho,hd⟩:=I.cell x c e;exact free c o (λz=>(hch c z).2.2.1 x c e rfl) ho (I.freeC x c e)
 ·obtain⟨e,n,ne,nf,d⟩:=I.pin p hp;have nch:p.1∉ch:=λz=>(hch p.1 z).2.2.2 p hp rfl;exact⟨keep p.1 p.2 ne nf nch e n,free p.1 p.2 nch e n,ne,nf,d⟩
def Inv.un {t':Nat}(I:Inv X pins σ H s)(u:Un X.fs [] H H' s.heap h')(hok:HOk X.prog X.w H' h'):Inv X pins σ H' { s with heap:=h',toks:=t' }:=by
 obtain⟨m,⟨o,es,ep,ho,r⟩,_⟩:=id I.loc;obtain⟨sl,hL⟩:=u.any ho I.free (by simp)
 exact I.step (g':=s.gens) (d':=s.drawn) (ch:=[]) (λ_ z=>nomatch z) (λb o _ hb _ e n=>u.keep b o e n hb (by simp)) (λb o _ hb _ e n=>u.slot b o e n hb (by simp)) (λb o _ e n=>u.free b o e n (by simp)) (λb o _ e=>u.there b o e (by simp)) u.tups u.frzs u.tbls (λm' hm=>by
  obtain⟨o',es',ep',ho',r'⟩:=hm;rw[ho]at ho';cases ho';exact⟨_,es',ep',hL,r'⟩) hok I.bare
def Inv.call {g':Array Yd5}{t':Nat}{d':Drawn}{ch:List Addr}(I:Inv X pins σ H s)(u:Un (frs X.stack) ch H H' s.heap h')(hok:HOk X.prog X.w H' h')(hg:AllBare g')
  (hch:∀b∈ch,(b∈X.ex\/X.s₀.heap.objs.size<=b)/\b≠X.env.locals/\(∀x c,X.env.cells.lookup x=some c->c≠b)/\∀p∈X.pn++pins,p.1≠b) :
  Inv X pins σ H' { s with heap:=h',gens:=g',drawn:=d',toks:=t' }:=by
 obtain⟨m,⟨o,es,ep,ho,r⟩,_⟩:=id I.loc;obtain⟨sl,hL⟩:=u.any ho I.free λz=>(hch _ z).2.1 rfl;exact I.step (ch:=ch) hch (λb o hL hb hc e n=>u.keep b o e n (λz=>(YaM.mp (I.stkSub b z)).elim hL hb) hc) (λb o _ _ hc e n=>u.any e n hc) (λb o hc e n=>u.free b o e n hc) (λb o hc e=>u.there b o e hc) u.tups u.frzs u.tbls (λm' hm=>by
  obtain⟨o',es',ep',ho',r'⟩:=hm;rw[ho]at ho';cases ho';exact⟨_,es',ep',hL,r'⟩) hok hg
def Inv.turned {t':Nat}{it:Addr}(I:Inv X pins σ H s)(k:∀b o,b≠it->s.heap.get? b=some o->h'.get? b=some o)(hn:H it=none)(hL:it≠X.env.locals)
  (h1:it∈X.ex\/X.s₀.heap.objs.size<=it) (h2:∀x c,X.env.cells.lookup x=some c->c≠it) (h3:∀p∈X.pn++pins,p.1≠it):Inv X pins σ H { s with heap:=h',toks:=t' }:=by
 have nit:∀b u,H b=some u->b≠it:=λb u e z=>by rw[z,hn]at e;cases e
 refine I.step (g':=s.gens) (d':=s.drawn) (ch:=[it]) (λb hb=>?_) (λb o _ _ hc e _=>k b o (λz=>hc (by simp[z])) e) (λb o _ _ hc e _=>⟨o.slots,k b o (λz=>hc (by simp[z])) e⟩) (λ_ _ _ _ n=>n)
  (λb o hc e=>⟨o,k b o (λz=>hc (by simp[z])) e⟩) (λ_ _ e=>e) (λ_ _ _ e=>e) (λb ps e=>⟨#[],by rw[e];simp⟩) (λm hm=>?_) (λb u e=>?_) I.bare
 ·have e:b=it:=by simpa using hb
  subst e;exact⟨h1,hL,h2,h3⟩
 ·obtain⟨o,es,ep,ho,r⟩:=hm;exact⟨o,es,ep,k _ o (Ne.symm hL) ho,r⟩
 ·refine(I.hok b u e).stay (λc v hc q=>k c v ?_ q) (λ_ q=>q) λ_ _ q=>q;rcases hc with z|z
  ·rw[z];exact nit b u e
  ·exact nit c _ z
def Inv.tok (I:Inv X pins σ H s)(t:Nat):Inv X pins σ H { s with toks:=t }:=I.un (h':=s.heap) (t':=t) Un.refl I.hok
def Inv.kept {t':Nat}(I:Inv X pins σ H s)(k:∀b u,s.heap.get? b=some u->h'.get? b=some u):Inv X pins σ H { s with heap:=h',toks:=t' }:=I.un (Un.kept k) (I.hok.kept k)
def Inv.laid {a:Addr}{o:HO}{t':Nat}(I:Inv X pins σ H s)(k:∀b u,s.heap.get? b=some u->h'.get? b=some u)(hp:s.heap.objs.size<=a)(new:jaH X.prog X.w (upd H a o) h' a o) :
  Inv X pins σ (upd H a o) { s with heap:=h',toks:=t' }:=I.un (Un.laid k hp (I.hok.fresh hp)) (I.hok.laid k hp new)
def Inv.write {x e:Addr}{o:HO}{t':Nat}(I:Inv X pins σ H s)(mu:Mut (H x))(he:e=x\/H e=some (.own x))(k:∀b u,b≠e->s.heap.get? b=some u->h'.get? b=some u)(heo:∃u,h'.get? e=some u)
  (new:jaH X.prog X.w (upd H x o) h' x o):Inv X pins σ (upd H x o) { s with heap:=h',toks:=t' }:=I.un (Un.write mu he k heo) (I.hok.write mu he k heo new)
def Inv.pins_of {pins':List (Addr×Obj)}(I:Inv X pins σ H s)(h:∀p∈pins',s.heap.get? p.1=some p.2/\H p.1=none/\p.1≠X.env.locals/\p.1∉X.fs/\∀v,p.2.data≠.cell v):Inv X pins' σ H s:=
 ⟨I.ok,I.os,I.bare,I.base,I.loc,I.cell,I.free,I.freeC,λp hp=>(List.mem_append.mp hp).elim (λz=>I.pin p (Yax _ z)) (h p),I.hok,I.len⟩

def jgA {N:List Str}(hN:N.Nodup){i j:Nat}{x:Str}(a:N[i]?=some x)(b:N[j]?=some x):i=j:=by
 obtain⟨h1,e1⟩:=List.getElem?_eq_some_iff.mp a;obtain⟨h2,e2⟩:=List.getElem?_eq_some_iff.mp b;exact(List.getElem_inj hN).mp (e1.trans e2.symm)

section
variable {M:Model}{A:Around}{E:Value->Shared->Prop}{i:Nat}{x:Str}{v:V}{u:Value}{Q:Unit->Shared->Prop}
def jeX (I:Inv X pins σ H s)(hN:X.N.Nodup)(hi:X.N[i]?=some x)(hx:Loc X.env.scope x)(r:RelV v u)
  (h:∀s',Inv X pins (σ.set i (some v)) H s'->(∃a,YcH a s.heap s'.heap/\(a=X.env.locals\/X.env.cells.lookup x=some a))->Q () s') (hf:X.fn x=true\/X.env.scope.names.lookup x=some .local:=by first|exact .inl rfl|exact .inr rfl|assumption):wpAny M A (storeName X.env x u) Q E s:=by
 obtain⟨m,hn,hl⟩:=id I.loc;have hcls:(X.env.scope.kind == .class||(X.env.scope.kind == .module&&X.env.locals != X.env.globals))=false:=by rw[I.ok.kind];rfl
 have hiσ:i<σ.length:=by rw[I.len];exact(List.getElem?_eq_some_iff.mp hi).1
 have cne:=I.cne;have tracked:∀{a:Addr} {h':Heap},(∃o,s.heap.get? a=some o/\H a=none)->YcH a s.heap h'->HOk X.prog X.w H h':=λ{a h'} ha hs b ob e=>by
  obtain⟨_,_,hfree⟩:=ha;refine(I.hok b ob e).stay (λc w' hc q=>(hs.2 c ?_).trans q) (λ_ q=>q) λ_ _ q=>q;rintro rfl;rcases hc with rfl|hc
  ·rw[hfree]at e;cases e
  ·rw[hfree]at hc;cases hc
 rcases hx with hk|hk
 ·refine wpAny_storeName_local hk hn (λh' hn' hs=>?_) hcls;obtain⟨oL,_,_,hoL,_⟩:=id hn;refine h _ ⟨I.ok,I.os,I.bare,⟨λb o e n hb hx=>?_,λb o e n hb hx=>?_,I.base.free,λb o e hx=>?_,I.base.tups,I.base.frzs,I.base.tbls⟩,⟨_,hn',λj y v' e1 e2 e3=>?_⟩,λy c e=>?_,I.free,I.freeC,λp hp=>?_,tracked ⟨oL,hoL,I.free⟩ hs,by simpa using I.len⟩ ⟨_,hs,.inl rfl⟩
  ·exact(hs.2 b (Yay (Yau (Yaq e) I.ok.above))).trans (I.base.keep b o e n hb hx)
  ·obtain⟨sl,e1⟩:=I.base.slot b o e n hb hx;exact⟨sl,(hs.2 b (Yay (Yau (Yaq e) I.ok.above))).trans e1⟩
  ·obtain⟨o',e1⟩:=I.base.there b o e hx;exact⟨o',(hs.2 b (Yay (Yau (Yaq e) I.ok.above))).trans e1⟩
  ·by_cases hj:j=i
   ·subst hj;rw[hi]at e1;cases e1;rw[Ybk hiσ]at e2;cases e2;exact⟨u,r,.inl ⟨hk,by simp⟩⟩
   ·rw[Ya5 (Ne.symm hj)]at e2;obtain⟨u',r',q⟩:=hl j y v' e1 e2 e3;refine⟨u',r',?_⟩;rcases q with⟨k,e⟩|⟨k,c,e,z⟩
    ·refine .inl ⟨k,?_⟩;have:y≠x:=λe=>hj (jgA hN e1 (e ▸ hi));simp[this,e]
    ·exact .inr ⟨k,c,e,z.sameBut hs (cne y c e)⟩
  ·obtain⟨w',z⟩:=I.cell y c e;exact⟨w',z.sameBut hs (cne y c e)⟩
  ·obtain⟨e,n,ne,nf,d⟩:=I.pin p hp;exact⟨(hs.2 p.1 ne).trans e,n,ne,nf,d⟩
 ·have hfn:X.fn x=true:=by
   rcases hf with z|z
   ·exact z
   ·rw[z]at hk;cases hk
  obtain⟨c,hc⟩:=I.ok.has x (.inl hk);obtain⟨w',z⟩:=I.cell x c hc;refine wpAny_storeName_cell I.ok.kind hk hc z (λh' hc' hs=>?_);obtain⟨oc,hoc,hocd⟩:=id z;refine h { s with heap:=h' } ⟨I.ok,I.os,I.bare,⟨λb o e n hb hx=>?_,λb o e n hb hx=>?_,I.base.free,λb o e hx=>?_,I.base.tups,I.base.frzs,I.base.tbls⟩,⟨m,hn.sameBut hs (Ne.symm (cne x c hc)),λj y v' e1 e2 e3=>?_⟩,λy c' e=>?_,I.free,I.freeC,λp hp=>?_,tracked ⟨oc,hoc,I.freeC x c hc⟩ hs,by simpa using I.len⟩ ⟨c,hs,.inr hc⟩
  ·exact(hs.2 b (Yay (Yau (Yaq e) (I.ok.cab x c hfn hc)))).trans (I.base.keep b o e n hb hx)
  ·obtain⟨sl,e1⟩:=I.base.slot b o e n hb hx;exact⟨sl,(hs.2 b (Yay (Yau (Yaq e) (I.ok.cab x c hfn hc)))).trans e1⟩
  ·obtain⟨o',e1⟩:=I.base.there b o e hx;exact⟨o',(hs.2 b (Yay (Yau (Yaq e) (I.ok.cab x c hfn hc)))).trans e1⟩
  ·by_cases hj:j=i
   ·subst hj;rw[hi]at e1;cases e1;rw[Ybk hiσ]at e2;cases e2;exact⟨u,r,.inr ⟨.inl hk,c,hc,hc'⟩⟩
   ·rw[Ya5 (Ne.symm hj)]at e2;obtain⟨u',r',q⟩:=hl j y v' e1 e2 e3;refine⟨u',r',?_⟩;rcases q with q|⟨k,c',e,z'⟩
    ·exact .inl q
    ·refine .inr ⟨k,c',e,z'.sameBut hs ?_⟩;rintro rfl;exact hj (jgA hN e1 (I.ok.inj _ _ _ e hc ▸ hi))
  ·by_cases hcc:c'=c
   ·subst hcc;exact⟨_,hc'⟩
   ·obtain⟨w2,z2⟩:=I.cell y c' e;exact⟨w2,z2.sameBut hs hcc⟩
  ·obtain⟨e,n,ne,nf,d⟩:=I.pin p hp;refine⟨(hs.2 p.1 ?_).trans e,n,ne,nf,d⟩;intro q;rw[q,hoc]at e;have q':oc=p.2:=Yao e;exact d w' (by rw[<- q'];exact hocd)
def jdl (I:Inv X pins σ H s)(hN:X.N.Nodup)(hi:X.N[i]?=some x)(hx:Loc X.env.scope x)(r:RelV v u)
  (h:∀s',Inv X pins (σ.set i (some v)) H s'->Q () s') (hf:X.fn x=true\/X.env.scope.names.lookup x=some .local:=by first|exact .inl rfl|exact .inr rfl|assumption):wpAny M A (storeName X.env x u) Q E s:=
 jeX I hN hi hx r (λs' I' _=>h s' I') hf
end
def Inv.call' {s':Shared}{ch:List Addr}(I:Inv X pins σ H s)(ho:s'.os=s.os)(u:Un (frs X.stack) ch H H' s.heap s'.heap)(hok:HOk X.prog X.w H' s'.heap)(hg:AllBare s'.gens)
  (hch:∀b∈ch,(b∈X.ex\/X.s₀.heap.objs.size<=b)/\b≠X.env.locals/\(∀x c,X.env.cells.lookup x=some c->c≠b)/\∀p∈X.pn++pins,p.1≠b):Inv X pins σ H' s':=by
 obtain⟨h',g',d',t',o'⟩:=s';have e:o'=s.os:=ho;subst e;exact I.call (g':=g') (t':=t') (d':=d') u hok hg hch
end

abbrev XK:=Value->Option Addr->Hp->Prop
abbrev St:=List (Option V)
abbrev VK:=V->Hp->Prop
abbrev TE:=St->Hp->VK->Prop
abbrev TT:=St->Hp->(Bool->Hp->Prop)->Prop
abbrev TA:=St->Hp->(List V->Hp->Prop)->Prop
structure Ends where
 nx:St->Hp->Prop
 rt:VK
 bk:St->Hp->Prop:=λ_ _=>False
 ct:St->Hp->Prop:=λ_ _=>False
abbrev TS:=Ends->St->Hp->Prop

def EP (X:Cx)(pins:List (Addr×Obj))(σ:St)(Q:VK)(u:Value)(s':Shared):Prop:=∃v H',Inv X pins σ H' s'/\RelV v u/\Q v H'
def TP (X:Cx)(pins:List (Addr×Obj))(σ:St)(Q:Bool->Hp->Prop)(b:Bool)(s':Shared):Prop:=∃H',Inv X pins σ H' s'/\Q b H'
def AP (X:Cx)(pins:List (Addr×Obj))(σ:St)(Q:List V->Hp->Prop)(us:List Value)(s':Shared):Prop:=∃vs H',Inv X pins σ H' s'/\Vals vs us/\Q vs H'
def SP (X:Cx)(pins:List (Addr×Obj))(D:Ends)(f:Flow)(s':Shared):Prop:=
 match f with
 |.next=>∃σ' H',Inv X pins σ' H' s'/\D.nx σ' H'
 |.brk=>∃σ' H',Inv X pins σ' H' s'/\D.bk σ' H'
 |.cont=>∃σ' H',Inv X pins σ' H' s'/\D.ct σ' H'
 |.ret u=>∃v σ' H',Inv X pins σ' H' s'/\RelV v u/\D.rt v H'

def PE (X:Cx)(e:Expr)(t:TE):Prop:=
 ∀(pins:List (Addr×Obj)) (s:Shared) (σ:St) (H:Hp) (Q:VK),Inv X pins σ H s->t σ H Q->wpAny (model X.prog X.w) X.A (eval e X.env) (EP X pins σ Q) X.xe s
def PT (X:Cx)(e:Expr)(t:TT):Prop:=
 ∀(pins:List (Addr×Obj)) (s:Shared) (σ:St) (H:Hp) (Q:Bool->Hp->Prop),Inv X pins σ H s->t σ H Q->wpAny (model X.prog X.w) X.A (isTrue e X.env (eval e X.env)) (TP X pins σ Q) X.xe s
def PW (X:Cx)(e:Expr)(t:TT):Prop:=
 ∀(whole:Sem Value) (pins:List (Addr×Obj)) (s:Shared) (σ:St) (H:Hp) (Q:Bool->Hp->Prop),Inv X pins σ H s->t σ H Q->wpAny (model X.prog X.w) X.A (isTrue e X.env whole) (TP X pins σ Q) X.xe s
def PW.pt {X:Cx}{e:Expr}{t:TT}(h:PW X e t):PT X e t:=h _
def PA (X:Cx)(es:List Expr)(t:TA):Prop:=
 ∀(pos:Pos) (pins:List (Addr×Obj)) (s:Shared) (σ:St) (H:Hp) (Q:List V->Hp->Prop),Inv X pins σ H s->t σ H Q->wpAny (model X.prog X.w) X.A (spliced (backTo pos (YaP es X.env))) (AP X pins σ Q) X.xe s
def PS (X:Cx)(st:Stmt)(t:TS):Prop:=
 ∀(pins:List (Addr×Obj)) (s:Shared) (σ:St) (H:Hp) (D:Ends),Inv X pins σ H s->t D σ H->wpAny (model X.prog X.w) X.A (exec st X.env) (SP X pins D) X.xe s
def PSs (X:Cx)(st:List Stmt)(t:TS):Prop:=
 ∀(pins:List (Addr×Obj)) (s:Shared) (σ:St) (H:Hp) (D:Ends),Inv X pins σ H s->t D σ H->wpAny (model X.prog X.w) X.A (execs st X.env) (SP X pins D) X.xe s
def thn {α:Type}{t:Sem α}{Q Q':α->Shared->Prop}{M:Model}{A:Around}{E:Value->Shared->Prop}{s:Shared}(h:wpAny M A t Q E s)(hQ:∀a s,Q a s->Q' a s):wpAny M A t Q' E s:=Ybm h hQ λ_ _ x=>x
section
variable {X:Cx}

def tVar (i:Nat):TE:=λσ H Q=>∃v,σ[i]?=some (some v)/\Q v H
def tC (v:V):TE:=λ_ H Q=>Q v H
def jnA {i:Nat}{x:Str}{pos:Pos}(hN:X.N[i]?=some x)(hv:Vis X.env.scope x)(hd:(x==("__debug__" : Str))=false:=by decide)(hcd:(x==("__classdict__" : Str))=false:=by decide):PE X (.Name x pos) (tVar i):=by
 intro pins s σ H Q I h;obtain⟨v,e,h⟩:=h;obtain⟨m,hn,hl⟩:=I.loc;obtain⟨u,r,l⟩:=hl i x v hN e hv;have fin:EP X pins σ Q u s:=⟨v,H,I,r,h⟩;rcases l with⟨hk,hm⟩|⟨hk,c,hc,hcell⟩
 ·exact wpAny_Name (wpAny_loadName_local I.ok.kind hk hn hm fin) hd
 ·rcases hk with hk|hk
  ·exact wpAny_Name (wpAny_loadName_cell I.ok.kind hk hc hcell fin) hd
  ·exact wpAny_Name (wpAny_loadName_free I.ok.kind hk hc hcell fin hcd) hd
def jnH {i j pos}:PE X (.Constant (.int i) j pos) (tC (.int i)):=λ_ _ _ H _ I h=>wpAny_Constant_int ⟨.int i,H,I.tok _,⟨_,rfl⟩,h⟩
def jqi {b j pos}:PE X (.Constant (.bool b) j pos) (tC (.bl b)):=λ_ _ _ H _ I h=>Constant_bool ⟨.bl b,H,I,rfl,h⟩
def jnE {j pos}:PE X (.Constant .none j pos) (tC .non):=λ_ _ _ H _ I h=>Constant_none ⟨.non,H,I,rfl,h⟩
def jnC {x j pos}:PE X (.Constant (.str x) j pos) (tC (.str x)):=λ_ _ _ H _ I h=>Calls.Constant_str ⟨.str x,H,I.tok _,⟨_,rfl⟩,h⟩

def Gl (X:Cx)(x:Str):Prop:=X.env.kindOf x=some .globalImplicit
section
variable {E:Value->Shared->Prop}{pins:List (Addr×Obj)}{s:Shared}{σ:St}{H:Hp}{x:Str}{u:Value}{pos:Pos}{Q:Value->Shared->Prop}
def jfW (I:Inv X pins σ H s)(hg:Gl X x)(hm:X.mg x=some u)(h:Q u s)
  (hd:(x==("__debug__" : Str))=false:=by decide):wpAny (model X.prog X.w) X.A (eval (.Name x pos) X.env) Q E s:=
 Yeh I.ok.kind hg (Calls.loadGlobal_global (by rw[I.ok.glob];exact I.mod.glob.keeps I.bk) hm h) hd
def jfj (I:Inv X pins σ H s)(hg:Gl X x)(hm:X.mg x=none)(hv:Yca x=some u)(h:Q u s)
  (hn:x ≠ "__name__" := by decide) (hd:(x==("__debug__" : Str))=false:=by decide):wpAny (model X.prog X.w) X.A (eval (.Name x pos) X.env) Q E s:=by
 obtain⟨mb,h1,h2⟩:=I.mod.blt;exact Yeh I.ok.kind hg (Calls.loadGlobal_builtin (by rw[I.ok.glob];exact I.mod.glob.keeps I.bk) hm (by rw[I.ok.blt];exact h1.keeps I.bk) ((h2 x hn).trans hv) h) hd
end
section
variable {x:Str}{v:V}{u:Value}{pos:Pos}
def jlv (hg:Gl X x)(hm:X.mg x=some u)(r:RelV v u)(hd:(x==("__debug__" : Str))=false:=by decide):PE X (.Name x pos) (tC v):=
 λ_ _ _ H _ I h=>jfW I hg hm ⟨v,H,I,r,h⟩ hd
def jly (hg:Gl X x)(hm:X.mg x=none)(hv:Yca x=some u)(r:RelV v u)(hn:x ≠ "__name__" := by decide)(hd:(x==("__debug__" : Str))=false:=by decide):PE X (.Name x pos) (tC v):=
 λ_ _ _ H _ I h=>jfj I hg hm hv ⟨v,H,I,r,h⟩ hn hd

end
variable {a b:Expr}{ta tb:TE}{pos:Pos}
def tB (t:TE):TT:=λσ H Q=>t σ H λx H1=>∃c,x=.bl c/\Q c H1
variable {tA tB':TT}{rest:List Expr}
def tAnd (t u:TT):TT:=λσ H Q=>t σ H λc H1=>if c=true then u σ H1 Q else Q false H1
def tOr (t u:TT):TT:=λσ H Q=>t σ H λc H1=>if c=true then Q true H1 else u σ H1 Q
def tNot (t:TT):TT:=λσ H Q=>t σ H λc H1=>Q (!c) H1
def pw_and1 (ha:PT X a tA):PW X (.BoolOp .And [a] pos) tA:=by
 intro wh pins s σ H Q I h;refine isTrue_and (thn (ha pins s σ H Q I h) λc s1 e=>?_);cases c with
 |true=>exact isTrue_and_nil e
 |false=>exact e
def pw_or1 (ha:PT X a tA):PW X (.BoolOp .Or [a] pos) tA:=by
 intro wh pins s σ H Q I h;refine isTrue_or (thn (ha pins s σ H Q I h) λc s1 e=>?_);cases c with
 |false=>exact isTrue_or_nil e
 |true=>exact e
def pw_and (ha:PT X a tA)(hb:PW X (.BoolOp .And (b::rest) pos) tB'):PW X (.BoolOp .And (a::b::rest) pos) (tAnd tA tB'):=by
 intro wh pins s σ H Q I h;refine isTrue_and (thn (ha pins s σ H _ I h) λc s1 ⟨H1,I1,q1⟩=>?_);cases c with
 |true=>exact hb wh pins s1 σ H1 Q I1 q1
 |false=>exact⟨H1,I1,q1⟩
def pw_or (ha:PT X a tA)(hb:PW X (.BoolOp .Or (b::rest) pos) tB'):PW X (.BoolOp .Or (a::b::rest) pos) (tOr tA tB'):=by
 intro wh pins s σ H Q I h;refine isTrue_or (thn (ha pins s σ H _ I h) λc s1 ⟨H1,I1,q1⟩=>?_);cases c with
 |true=>exact⟨H1,I1,q1⟩
 |false=>exact hb wh pins s1 σ H1 Q I1 q1
def jnn (ha:PT X a tA):PT X (.UnaryOp .Not a pos) (tNot tA):=by
 intro pins s σ H Q I h;exact isTrue_not (ha pins s σ H (λc H1=>Q (!c) H1) I h)
def jr1 (ta tb:TE):TE:=λσ H Q=>ta σ H λx H1=>∃c,x=.bl c/\if c=true then tb σ H1 Q else Q (.bl false) H1
def tOrV (ta tb:TE):TE:=λσ H Q=>ta σ H λx H1=>∃c,x=.bl c/\if c=true then Q (.bl true) H1 else tb σ H1 Q
def jr0 (ta:TE):TE:=λσ H Q=>ta σ H λx H1=>∃c,x=.bl c/\Q (.bl (!c)) H1
def jkm {op}{t:TE}(h:PE X a t):PE X (.BoolOp op [a] pos) t:=λpins s σ H Q I hw=>BoolOp_one (h pins s σ H Q I hw)
def tIf (t:TT)(ta tb:TE):TE:=λσ H Q=>t σ H λc H1=>if c=true then ta σ H1 Q else tb σ H1 Q
def jju {c:Expr}(hc:PT X c tA)(ha:PE X a ta)(hb:PE X b tb):PE X (.IfExp c a b pos) (tIf tA ta tb):=by
 intro pins s σ H Q I h;refine wpAny_IfExp (thn (hc pins s σ H _ I h) λd s1 ⟨H1,I1,q1⟩=>?_);cases d with
 |true=>exact ha pins s1 σ H1 Q I1 q1
 |false=>exact hb pins s1 σ H1 Q I1 q1
end

def SqL (K:Yac)(H:Hp)(a:Addr)(xs:List V):Prop:=
 Rd H a (.lst xs)\/
  ∃(o:Obj) (its:Array Value) (n:Nat),K.lookup a=some o/\o.cls=.type "list" /\ o.dict=none/\o.data=.seq its n/\its.size<=Yak/\Vals xs its.toList
def SqT (K:Yac)(H:Hp)(a:Addr)(xs:List V):Prop:=
 Rd H a (.tup xs)\/
  ∃(o:Obj) (its:Array Value) (n:Nat),K.lookup a=some o/\o.cls=.type "tuple" /\ o.data=.seq its n/\its.size<=Yak/\Vals xs its.toList
noncomputable def absV:Value->Option V
 |.none=>some .non
 |.bool b=>some (.bl b)
 |.int i _=>some (.int i)
 |.str x _=>some (.str x)
 |.bytes b _=>some (.byt b)
 |.float b _=>some (.flt b)
 |.ref a=>some (.ref a)
 |.type n=>some (.ty n)
 |_=>none
def RelV.abs {x:V}{u:Value}(r:RelV x u):absV u=some x:=by
 cases x with
 |non=>cases r;rfl
 |bl _=>cases r;rfl
 |int _=>obtain⟨t,rfl⟩:=r;rfl
 |str _=>obtain⟨t,rfl⟩:=r;rfl
 |byt _=>obtain⟨t,rfl⟩:=r;rfl
 |flt _=>obtain⟨t,rfl⟩:=r;rfl
 |ref _=>cases r;rfl
 |ty _=>cases r;rfl
def RelV.inj {x y:V}{u:Value}(r:RelV x u)(q:RelV y u):x=y:=Yao (r.abs.symm.trans q.abs)
def Vals.inj:∀{xs ys:List V} {us:List Value},Vals xs us->Vals ys us->xs=ys
 |_,_,_,.nil,.nil=>rfl
 |_,_,_,.cons r t,.cons r' t'=>by rw[r.inj r',Vals.inj t t']
section
variable {X:Cx}{pins:List (Addr×Obj)}{σ:St}{H:Hp}{s:Shared}{a:Addr}{xs ys:List V}
def SqL.of {K:Yac}(h:H a=some (.lst xs)):SqL K H a xs:=.inl (.inl h)
def SqT.of {K:Yac}(h:H a=some (.tup xs)):SqT K H a xs:=.inl (.inl h)
def Inv.list (I:Inv X pins σ H s)(h:SqL X.K H a xs):∃its:List Value,Vals xs its/\PlainL s.heap a its.toArray/\xs.length<=Yak:=by
 rcases h with h|⟨o,its,n,hk,hc,hd,hs,hz,r⟩
 ·obtain⟨z,its,n,r,e⟩:=h.ok I.hok;exact⟨its,r,⟨_,n,e,rfl,rfl,rfl⟩,z⟩
 ·refine⟨its.toList,r,⟨o,n,I.kIn a o hk,hc,hd,by simpa using hs⟩,?_⟩
  have e:=r.length;simp only[YbB]at e;omega
def Inv.tuple (I:Inv X pins σ H s)(h:SqT X.K H a xs):∃its:List Value,Vals xs its/\IsTup s.heap a its.toArray/\xs.length<=Yak:=by
 rcases h with h|⟨o,its,n,hk,hc,hs,hz,r⟩
 ·obtain⟨z,its,r,p⟩:=h.ok I.hok;exact⟨its,r,p.tup,z⟩
 ·refine⟨its.toList,r,⟨o,I.kIn a o hk,hc,n,by simpa using hs⟩,?_⟩
  have e:=r.length;simp only[YbB]at e;omega
def Inv.list_inj (I:Inv X pins σ H s)(h:SqL X.K H a xs)(h':SqL X.K H a ys):xs=ys:=by
 obtain⟨its,r,⟨o,n,e,_,_,d⟩,_⟩:=I.list h;obtain⟨its',r',⟨o',n',e',_,_,d'⟩,_⟩:=I.list h';rw[e]at e';cases e';rw[d]at d';injection d' with d1 _
 have:its=its':=by simpa using congrArg Array.toList d1
 subst this;exact r.inj r'
def Inv.tuple_inj (I:Inv X pins σ H s)(h:SqT X.K H a xs)(h':SqT X.K H a ys):xs=ys:=by
 obtain⟨its,r,⟨o,e,_,n,d⟩,_⟩:=I.tuple h;obtain⟨its',r',⟨o',e',_,n',d'⟩,_⟩:=I.tuple h';rw[e]at e';cases e';rw[d]at d';injection d' with d1 _
 have:its=its':=by simpa using congrArg Array.toList d1
 subst this;exact r.inj r'
end

noncomputable abbrev Cx.wish (X:Cx)(E:Value->Shared->Prop):Cx:={ X with xe:=E }
noncomputable abbrev Cx.nox (X:Cx):Cx:=X.wish λ_ _=>False
def Cx.Ok.wish {X:Cx}(ok:X.Ok)(E:Value->Shared->Prop):(X.wish E).Ok:=
 ⟨ok.mod,ok.kind,ok.glob,ok.blt,ok.above,ok.inj,ok.has,ok.cab,ok.hd,ok.frames,ok.stk,ok.exf,ok.bs,ok.bsz,ok.noex,ok.exfs,ok.funs,ok.frf⟩
def Cx.Ok.unwish {X:Cx}{E:Value->Shared->Prop}(ok:(X.wish E).Ok):X.Ok:=
 ⟨ok.mod,ok.kind,ok.glob,ok.blt,ok.above,ok.inj,ok.has,ok.cab,ok.hd,ok.frames,ok.stk,ok.exf,ok.bs,ok.bsz,ok.noex,ok.exfs,ok.funs,ok.frf⟩
section
variable {X:Cx}{pins:List (Addr×Obj)}{σ:St}{H:Hp}{s:Shared}{E:Value->Shared->Prop}
def Inv.wish (I:Inv X pins σ H s)(E:Value->Shared->Prop):Inv (X.wish E) pins σ H s:=⟨I.ok.wish E,I.os,I.bare,I.base,I.loc,I.cell,I.free,I.freeC,I.pin,I.hok,I.len⟩
def Inv.unwish (I:Inv (X.wish E) pins σ H s):Inv X pins σ H s:=⟨I.ok.unwish,I.os,I.bare,I.base,I.loc,I.cell,I.free,I.freeC,I.pin,I.hok,I.len⟩
def SP.unwish {D:Ends}{f:Flow}{s':Shared}(h:SP (X.wish E) pins D f s'):SP X pins D f s':=by
 cases f with
 |next=>obtain⟨σ',H',I,q⟩:=h;exact⟨σ',H',I.unwish,q⟩
 |brk=>obtain⟨σ',H',I,q⟩:=h;exact⟨σ',H',I.unwish,q⟩
 |cont=>obtain⟨σ',H',I,q⟩:=h;exact⟨σ',H',I.unwish,q⟩
 |ret u=>obtain⟨v,σ',H',I,r,q⟩:=h;exact⟨v,σ',H',I.unwish,r,q⟩
end

section
variable {X:Cx}{st:Stmt}{rest:List Stmt}{t u:TS}{e:Expr}{te:TE}{pos:Pos}
def jpN:TS:=λD σ H=>D.nx σ H
def tSeq (t u:TS):TS:=λD σ H=>t { D with nx:=u D } σ H
def jli:PSs X [] jpN:=λ_ _ σ H _ I h=>YeO ⟨σ,H,I,h⟩
def jjl (h1:PS X st t)(h2:PSs X rest u):PSs X (st::rest) (tSeq t u):=by
 intro pins s σ H D I h;refine wpAny_execs_cons (thn (h1 pins s σ H { D with nx:=u D } I h) λf s1 q=>?_)
 cases f with
 |next=>
  obtain⟨σ',H',I',q⟩:=q;exact h2 pins s1 σ' H' D I' q
 |ret v=>exact q
 |brk=>exact q
 |cont=>exact q
def Inv.quiet {pins:List (Addr×Obj)}{σ:St}{H:Hp}{s:Shared}(I:Inv X pins σ H s):interactive X.env=false:=by simp[interactive,I.ok.kind]
def jpO (te:TE):TS:=λD σ H=>te σ H λ_ H1=>D.nx σ H1
def jlj (he:PE X e te)(hs:Yc3 e none pos.line X.env=pure false:=by rfl):PS X (.Expr e pos) (jpO te):=by
 intro pins s σ H D I h;exact wpAny_Expr_any (thn (he pins s σ H _ I h) λv s1 ⟨x,H1,I1,r1,q1⟩=>⟨σ,H1,I1,q1⟩) I.quiet hs
def tRet (te:TE):TS:=λD σ H=>te σ H D.rt
def jnp (he:PE X e te):PS X (.Return (some e) pos) (tRet te):=by
 intro pins s σ H D I h;exact wpAny_Return_some (thn (he pins s σ H _ I h) λv s1 ⟨x,H1,I1,r1,q1⟩=>⟨x,σ,H1,I1,r1,q1⟩)
def tIfS (c:TT)(t u:TS):TS:=λD σ H=>c σ H λb H1=>if b=true then t D σ H1 else u D σ H1
def jqa {c:Expr}{a b:List Stmt}{tc:TT}(hc:PT X c tc)(ha:PSs X a t)(hb:PSs X b u):PS X (.If c a b pos) (tIfS tc t u):=by
 intro pins s σ H D I h;refine wpAny_If (thn (hc pins s σ H _ I h) λd s1 ⟨H1,I1,q1⟩=>?_);cases d with
 |true=>exact ha pins s1 σ H1 D I1 q1
 |false=>exact hb pins s1 σ H1 D I1 q1
end

abbrev TG:=V->St->Hp->(St->Hp->Prop)->Prop
abbrev TGs:=List V->St->Hp->(St->Hp->Prop)->Prop
def PG (X:Cx)(target:Expr)(t:TG):Prop:=
 ∀(pins:List (Addr×Obj)) (s:Shared) (σ:St) (H:Hp) (v:V) (u:Value) (Q:St->Hp->Prop),Inv X pins σ H s->RelV v u->t v σ H Q->
  wpAny (model X.prog X.w) X.A (assign target X.env u) (λ_ s'=>∃σ' H',Inv X pins σ' H' s'/\Q σ' H') X.xe s
def PGs (X:Cx)(ts:List Expr)(t:TGs):Prop:=
 ∀(pins:List (Addr×Obj)) (s:Shared) (σ:St) (H:Hp) (vs:List V) (us:List Value) (Q:St->Hp->Prop),Inv X pins σ H s->Vals vs us->t vs σ H Q->
  wpAny (model X.prog X.w) X.A (Yft ((Ya4 ts X.env).map (·.2)) us) (λ_ s'=>∃σ' H',Inv X pins σ' H' s'/\Q σ' H') X.xe s
abbrev TSet:=V->V->V->Hp->(Hp->Prop)->Prop
def PSet (X:Cx)(t:TSet):Prop:=
 ∀(pins:List (Addr×Obj)) (s:Shared) (σ:St) (H:Hp) (o i v:V) (ov iv u:Value) (Q:Hp->Prop),Inv X pins σ H s->RelV o ov->RelV i iv->RelV v u->t o i v H Q->
  wpAny (model X.prog X.w) X.A (setItem ov iv u) (λ_ s'=>∃H',Inv X pins σ H' s'/\Q H') X.xe s
abbrev TIp:=V->V->Hp->VK->Prop
def PIp (X:Cx)(op:YbU)(t:TIp):Prop:=
 ∀(pins:List (Addr×Obj)) (s:Shared) (σ:St) (H:Hp) (x y:V) (v u:Value) (Q:VK),Inv X pins σ H s->RelV x v->RelV y u->t x y H Q->
  wpAny (model X.prog X.w) X.A (YdX op v u) (EP X pins σ Q) X.xe s
section
variable {X:Cx}{pos:Pos}
def jjY (i:Nat):TG:=λv σ H Q=>Q (σ.set i (some v)) H
def jlt {i:Nat}{x:Str}(hN:X.N.Nodup)(hi:X.N[i]?=some x)(hx:Loc X.env.scope x)(hf:X.fn x=true\/X.env.scope.names.lookup x=some .local:=by first|exact .inl rfl|exact .inr rfl|assumption):PG X (.Name x pos) (jjY i):=by
 intro pins s σ H v u Q I r h;exact wpAny_assign_Name (jdl I hN hi hx r (λs' I'=>⟨_,H,I',h⟩) hf)
def gNil:TGs:=λvs σ H Q=>vs=[]/\Q σ H
def jqE (t:TG)(u:TGs):TGs:=λvs σ H Q=>∃v r,vs=v::r/\t v σ H λσ' H'=>u r σ' H' Q
def jls:PGs X [] gNil:=by
 intro pins s σ H vs us Q I r h;obtain⟨e,h⟩:=h;subst e;cases r;exact assignInOrder_nil ⟨σ,H,I,h⟩
def jjs {e:Expr}{es:List Expr}{t:TG}{u:TGs}(h1:PG X e t)(h2:PGs X es u)
  (hs:(Ya4 (e::es) X.env).map (·.2)=assign e X.env::(Ya4 es X.env).map (·.2):=by rfl):PGs X (e::es) (jqE t u):=by
 intro pins s σ H vs us Q I r h;obtain⟨v,vr,e1,h⟩:=h;subst e1;cases r with
 |cons r rr=>
  rw[hs];refine YdZ (thn (h1 pins s σ H _ _ _ I r h) λ_ s1 ⟨σ1,H1,I1,q1⟩=>?_);exact h2 pins s1 σ1 H1 _ _ Q I1 rr q1
def gTup (K:Yac)(n:Nat)(t:TGs):TG:=λv σ H Q=>∃a xs,v=.ref a/\SqT K H a xs/\xs.length=n/\t xs σ H Q
def jnx {es:List Expr}{k:Nat}{t:TGs}{n:Nat}(hc:X.calm=true)(h:PGs X es t)
  (hn:(Ya4 es X.env).length=n:=by rfl) (hst:(Ya4 es X.env).findIdx? (·.1)=none:=by rfl):PG X (.Tuple es k pos) (gTup X.K n t):=by
 intro pins s σ H v u Q I r hw;obtain⟨a,xs,e1,hq,hl,hw⟩:=hw;subst e1;cases r;obtain⟨its,rv,ht,hz⟩:=I.tuple hq;refine assign_Tuple_tuple (I.ok.hd hc) ht (by simp[hn,<- hl,rv.length]) hst λh' hx=>?_
 have I1:Inv X pins σ H { s with heap:=h' }:=I.kept (t':=s.toks) λb o e=>hx b o (Yay (Yaq e)) e
 exact h pins _ σ H xs _ Q I1 (by simpa using rv) hw
def gSub (to ti:TE)(t:TSet):TG:=λv σ H Q=>to σ H λo H1=>ti σ H1 λi H2=>t o i v H2 λH3=>Q σ H3
def jny {o i:Expr}{to ti:TE}{t:TSet}(ho:PE X o to)(hi:PE X i ti)(hs:PSet X t)
  (ha:∀v,assign (.Subscript o i pos) X.env v=(do
   let ov <- holding [v] (eval o X.env)
   let iv <- holding [v,ov] (eval i X.env)
   standAt pos
   holding [v,ov,iv] (setItem ov iv v)
   release [v,ov,iv] []):=by intro _;rfl):PG X (.Subscript o i pos) (gSub to ti t):=by
 intro pins s σ H v u Q I r h;rw[ha];refine Yag (Ybh (thn (ho pins s σ H _ I h) λov s1 ⟨x,H1,I1,r1,q1⟩=>?_));refine Yag (Ybh (thn (hi pins s1 σ H1 _ I1 q1) λiv s2 ⟨y,H2,I2,r2,q2⟩=>?_));refine Yag (Ydb (Yag (Ybh (thn (hs pins s2 σ H2 x y v ov iv u _ I2 r1 r2 r q2) λ_ s3 ⟨H3,I3,q3⟩=>?_))));exact wpAny_release ⟨σ,H3,I3,q3⟩
def tAsg (te:TE)(g:TG):TS:=λD σ H=>te σ H λx H1=>g x σ H1 D.nx
def jhQ {tg e:Expr}{te:TE}{g:TG}(he:PE X e te)(hg:PG X tg g)(hs:Ybt [tg] e pos.line X.env=pure false:=by rfl)(hw:Ybi [tg] e X.env=pure none:=by rfl)
  (h1:(Ya4 [tg] X.env).map (·.2)=[assign tg X.env]:=by rfl):PS X (.Assign [tg] e pos) (tAsg te g):=by
 intro pins s σ H D I h;refine wpAny_Assign_stores (thn (he pins s σ H _ I h) λv s1 ⟨x,H1,I1,r1,q1⟩=>?_) hs hw;rw[h1];exact thn (hg pins s1 σ H1 x v _ I1 r1 q1) λ_ s2 q=>q
def tPar (i j:Nat)(ta:TA):TS:=λD σ H=>ta σ H λvs H1=>∃v w,vs=[v,w]/\D.nx ((σ.set i (some v)).set j (some w)) H1
def jnq {i j:Nat}{x y:Str}{a b:Expr}{ta:TA}{px py pt:Pos}{kt k2 pt2}(hc:X.calm=true)(hN:X.N.Nodup)(hi:X.N[i]?=some x)(hj:X.N[j]?=some y)(hij:i≠j)
  (hx:X.env.scope.names.lookup x=some .local) (hy:X.env.scope.names.lookup y=some .local) (ha:PA X [a,b] ta)
  (hw:Ybi [.Tuple [.Name x px,.Name y py] kt pt] (.Tuple [a,b] k2 pt2) X.env=pure (some [x,y]))
  (hs:Ybt [.Tuple [.Name x px,.Name y py] kt pt] (.Tuple [a,b] k2 pt2) pos.line X.env=pure false:=by rfl) :
  PS X (.Assign [.Tuple [.Name x px,.Name y py] kt pt] (.Tuple [a,b] k2 pt2) pos) (tPar i j ta):=by
 intro pins s σ H D I h;rw[exec_Assign_arm];refine Yag (Ydb ?_);rw[hs];refine Yag (Yar ?_);rw[if_neg (by decide)]
 refine Yag (Tuple_ (thn (ha _ pins s σ H _ I h) λus s1 ⟨vs,H1,I1,r1,q1⟩=>?_));obtain⟨v,w,e1,q1⟩:=q1;subst e1;obtain⟨u1,u2,rfl,rv,rw'⟩:∃u1 u2,us=[u1,u2]/\RelV v u1/\RelV w u2:=by
  cases r1 with
  |cons p q=>
   cases q with
   |cons p' q'=>
    cases q';exact⟨_,_,rfl,p,p'⟩
 refine Ya6 ?_ (by show 2<=Yak;decide)
 have I2:Inv X pins σ H1 { s1 with heap:=s1.heap.push { cls:=.type "tuple",data:=.seq [u1,u2].toArray } }:=I1.kept (t':=s1.toks) λb o e=>Yae _ e
 rw[hw];refine Yag (Yar ?_);show wpAny (model X.prog X.w) X.A (do rule "assign.swapped-stores";let items <- unpackItems (.ref s1.heap.objs.size) 2 none;Yft [λv=>bindName X.env y v,λv=>bindName X.env x v] items.reverse;pure Flow.next) _ _ _
 refine Yag (wpAny_rule (Yag (unpackItems_tuple (items:=#[u1,u2]) (I.ok.hd hc) (IsTup.new s1.heap _) λh' hx'=>?_)));have I3:=I2.kept (h':=h') (t':=s1.toks) λb o e=>hx' b o (Yay (Yaq e)) e;show wpAny _ _ (Yft [λv=>bindName X.env y v,λv=>bindName X.env x v] [u2,u1] >>= λ_=>pure Flow.next) _ _ _
 refine Yag (YdZ (wpAny_bindName (jdl I3 hN hj (.inl hy) rw' (λs2 I4=>?_) (.inr hy))));refine YdZ (wpAny_bindName (jdl I4 hN hi (.inl hx) rv (λs3 I5=>assignInOrder_nil (Yar ?_)) (.inr hx)));rw[List.set_comm _ _ (Ne.symm hij)]at I5;exact⟨_,H1,I5,q1⟩
def tAug (i:Nat)(te:TE)(ti:TIp):TS:=λD σ H=>∃x,σ[i]?=some (some x)/\te σ H λy H1=>ti x y H1 λz H2=>D.nx (σ.set i (some z)) H2
def jnu {i:Nat}{x:Str}{e:Expr}{te:TE}{op:YbU}{ti:TIp}{pos':Pos}(hN:X.N.Nodup)(hi:X.N[i]?=some x)(hx:Loc X.env.scope x)(he:PE X e te)(ho:PIp X op ti)(hf:X.fn x=true\/X.env.scope.names.lookup x=some .local:=by first|exact .inl rfl|exact .inr rfl|assumption) :
  PS X (.AugAssign (.Name x pos') op e pos) (tAug i te ti):=by
 intro pins s σ H D I h;obtain⟨v,e1,h⟩:=h;obtain⟨m,hn,hl⟩:=I.loc;have vis:Vis X.env.scope x:=by rcases hx with k|k;exact .inl k;exact .inr (.inl k)
 obtain⟨u,r,l⟩:=hl i x v hi e1 vis;refine wpAny_AugAssign_Name ?_;have go:wpAny (model X.prog X.w) X.A (eval e X.env) (λw s₂=>wpAny (model X.prog X.w) X.A (YdX op u w) (λr s₃=>wpAny (model X.prog X.w) X.A (storeName X.env x r) (λ_=>SP X pins D .next) X.xe s₃) X.xe s₂) X.xe s:=by
  refine thn (he pins s σ H _ I h) λw s1 ⟨y,H1,I1,r1,q1⟩=>?_;refine thn (ho pins s1 σ H1 v y u w _ I1 r r1 q1) λz s2 ⟨zv,H2,I2,r2,q2⟩=>?_;exact jdl I2 hN hi hx r2 (λs3 I3=>⟨_,H2,I3,q2⟩) hf
 rcases l with⟨hk,hm⟩|⟨hk,c,hc,hcell⟩
 ·exact wpAny_loadName_local I.ok.kind hk hn hm go
 ·rcases hk with hk|hk
  ·exact wpAny_loadName_cell I.ok.kind hk hc hcell go
  ·rcases hx with k|k
   ·have:X.env.scope.names.lookup x=some .free:=hk;rw[k]at this;cases this
   ·have:X.env.scope.names.lookup x=some .free:=hk;rw[k]at this;cases this
def PGet (X:Cx)(t:V->V->Hp->VK->Prop):Prop:=
 ∀(pins:List (Addr×Obj)) (s:Shared) (σ:St) (H:Hp) (o i:V) (ov iv:Value) (Q:VK),Inv X pins σ H s->RelV o ov->RelV i iv->t o i H Q->
  wpAny (model X.prog X.w) X.A (getItem ov iv) (EP X pins σ Q) X.xe s
def jmV (c:TT)(tb:TS):TS:=λD σ H=>∃W:Nat->St->Hp->Prop,(∃m,W m σ H)/\∀m σ H,W m σ H->
 c σ H λb H1=>if b=true then ∃N:St->Hp->Prop,(∀σ' H',N σ' H'->∃m',m'<m/\W m' σ' H')/\tb { D with nx:=N,ct:=N,bk:=D.nx } σ H1 else D.nx σ H1
def jjm {c:Expr}{body:List Stmt}{tc:TT}{tb:TS}(hp:Yd2 (model X.prog X.w) X.A X.env X.xe)(hc:PT X c tc)(hb:PSs X body tb):PS X (.While c body [] pos) (jmV tc tb):=by
 intro pins s σ H D I h;obtain⟨W,⟨m0,w0⟩,turn⟩:=h;refine wpAny_While (codeAny_whileLoop (λn s'=>∃σ' H',Inv X pins σ' H' s'/\W n σ' H') ?_ m0 ⟨σ,H,I,w0⟩);rintro n s1 ⟨σ1,H1,I1,w1⟩;refine Yb8 hp (thn (hc pins s1 σ1 H1 _ I1 (turn n σ1 H1 w1)) λb s2 ⟨H2,I2,q2⟩=>?_);cases b with
 |true=>
  obtain⟨N,hN,q2⟩:=q2;rw[if_pos rfl];refine Yb8 hp (thn (hb pins s2 σ1 H2 _ I2 q2) λf s3 q3=>?_);cases f with
  |next=>
   obtain⟨σ3,H3,I3,n3⟩:=q3;obtain⟨m',hm,w3⟩:=hN σ3 H3 n3;exact⟨m',hm,σ3,H3,I3,w3⟩
  |cont=>
   obtain⟨σ3,H3,I3,n3⟩:=q3;obtain⟨m',hm,w3⟩:=hN σ3 H3 n3;exact⟨m',hm,σ3,H3,I3,w3⟩
  |brk=>exact q3
  |ret v=>exact q3
 |false=>
  rw[if_neg Yan];exact YeO ⟨σ1,H2,I2,q2⟩
end

structure It where
 go:Nat->Hp->Prop
 yld:Nat->Hp->V->Hp->Prop
 stop:Nat->Hp->Prop
def FpOk (X:Cx)(pins:List (Addr×Obj))(H:Hp)(b:Addr):Prop:=
 H b=none/\b≠X.env.locals/\b∉X.fs/\(b∈X.ex\/X.s₀.heap.objs.size<=b)/\(∀x c,X.env.cells.lookup x=some c->c≠b)/\∀p∈X.pn++pins,p.1≠b
def Inv.fpOk {X:Cx}{pins:List (Addr×Obj)}{σ:St}{H H':Hp}{s:Shared}{b:Addr}(I:Inv X pins σ H s)(hb:s.heap.objs.size<=b)(hn:H' b=none):FpOk X pins H' b:=by
 refine⟨hn,Nat.ne_of_gt (Yau I.lt hb),I.nofs hb,.inr (Yah I.sz hb),λx c e z=>?_,λp hp z=>?_⟩
 ·obtain⟨v,q⟩:=I.cell x c e;exact absurd (Yau q.lt (by rw[z];exact hb)) (Ybf _)
 ·exact absurd (Yau (Yaq (I.pin p hp).1) (by rw[z];exact hb)) (Ybf _)
structure Turn (P:Program)(w:World)(K:Yac)(tg:Expr)(J:It)(fp:List Addr)(it:Addr)(tn:Nat->Heap->Prop):Prop where
 mem:it∈fp
 obj:∀i h,tn i h->∀b∈fp,∃o,h.get? b=some o/\∀v,o.data≠.cell v
 keep:∀i h h',tn i h->(∀b∈fp,∀o,h.get? b=some o->h'.get? b=some o)->tn i h'
 item:∀(X:Cx),X.prog=P->X.w=w->X.K=K->X.calm=true->∀(i:Nat) (pins:List (Addr×Obj)) (s:Shared) (σ:St) (H:Hp) (E:Value->Shared->Prop),Inv X pins σ H s->(∀b∈fp,FpOk X pins H b)->tn i s.heap->J.go i H->
  wpAny (model P w) X.A (pyNext (.ref it)) (λr s1=>∃u,r=some u/\
   wpAny (model P w) X.A (YcK tg (.ref it) u) (λ_ s2=>∃x H',Inv X pins σ H' s2/\RelV x u/\J.yld i H x H'/\tn (i+1) s2.heap/\∀b∈fp,H' b=none) E s1) E s
 done:∀(X:Cx),X.prog=P->X.w=w->X.K=K->X.calm=true->∀(i:Nat) (pins:List (Addr×Obj)) (s:Shared) (σ:St) (H:Hp) (E:Value->Shared->Prop),Inv X pins σ H s->(∀b∈fp,FpOk X pins H b)->tn i s.heap->J.stop i H->
  wpAny (model P w) X.A (pyNext (.ref it)) (λr s1=>r=none/\Inv X pins σ H s1) E s
 self:∀(A:Around) (i:Nat) (s:Shared) (Q:Value->Shared->Prop) (E:Value->Shared->Prop),tn i s.heap->Q (.ref it) s->wpAny (model P w) A (pyIter (.ref it)) Q E s
abbrev TI:=St->Hp->(It->Hp->Prop)->Prop
def PIE (X:Cx)(pins:List (Addr×Obj))(σ:St)(tg:Expr)(R:It->Hp->Prop)(itv:Value)(s2:Shared):Prop:=
 ∃(it:Addr) (fp:List Addr) (tn:Nat->Heap->Prop) (J:It) (H':Hp),itv=.ref it/\Inv X pins σ H' s2/\Turn X.prog X.w X.K tg J fp it tn/\tn 0 s2.heap/\(∀b∈fp,FpOk X pins H' b)/\R J H'
def PI (X:Cx)(tg iter:Expr)(wi:TI):Prop:=
 ∀(pins:List (Addr×Obj)) (s:Shared) (σ:St) (H:Hp) (R:It->Hp->Prop),Inv X pins σ H s->wi σ H R->
  wpAny (model X.prog X.w) X.A (eval iter X.env) (λv s1=>wpAny (model X.prog X.w) X.A (pyIter v) (PIE X pins σ tg R) X.xe s1) X.xe s

def jiz {M : Model}{A : Around}{E : Value -> Shared -> Prop}{s : Shared}{tg : Expr}{it : Addr}{u : Value}{o : Obj}{n : String}{vs : Array Value}{Q : Unit -> Shared -> Prop}(ho : s.heap.get? it = some o)(hc : o.cls = .type n)(hd : o.data = .fields vs)
    (hn : ["enumerate", "zip", "dict_itemiterator", "dict_reverseitemiterator", "odict_iterator", "itertools.zip_longest", "itertools.pairwise"].contains n = false) (hQ : Q () s) : wpAny M A (YcK tg (.ref it) u) Q E s := by
  unfold YcK
  cases tg <;> first
    | exact Yar hQ
    | (cases u <;> first
        | exact Yar hQ
        | (refine Yag (wpAny_load ho ?_)
           rw [hc, hd]
           show wpAny M A (if (["enumerate", "zip", "dict_itemiterator", "dict_reverseitemiterator", "odict_iterator", "itertools.zip_longest", "itertools.pairwise"].contains n && vs[0]? == some (rawInt _)) = true then _ else _) Q E s
           rw [if_neg (by intro h; rw [hn, Bool.false_and] at h; cases h)]
           exact Yar hQ))

noncomputable def Itl (K:Yac)(a:Addr):It:=
 ⟨λi H=>∃xs x,SqL K H a xs/\xs[i]?=some x,λi H x H'=>H'=H/\∀xs,SqL K H a xs->xs[i]?=some x,λi H=>∃xs,SqL K H a xs/\xs.length<=i⟩
noncomputable def Itt (K:Yac)(a:Addr):It:=
 ⟨λi H=>∃xs x,SqT K H a xs/\xs[i]?=some x,λi H x H'=>H'=H/\∀xs,SqT K H a xs->xs[i]?=some x,λi H=>∃xs,SqT K H a xs/\xs.length<=i⟩
noncomputable def Itr (lo:Int)(n:Nat):It:=⟨λi _=>i<n,λi H x H'=>H'=H/\x=.int (lo+i),λi _=>n<=i⟩
section
variable {P:Program}{w:World}{K:Yac}{tg:Expr}
def jhD (a it:Addr):Turn P w K tg (Itl K a) [it] it (λi h=>h.IsListIter it a i) where
 mem:=by simp
 obj:=λi h st b hb=>by
  have e:b=it:=by simpa using hb
  subst e;obtain⟨o,e,c,d⟩:=st;exact⟨o,e,λv z=>by rw[d]at z;cases z⟩
 keep:=λi h h' st k=>st.at λo e=>k it (by simp) o e
 item:=by
  intro X hP hw hK hc i pins s σ H E I hf st hg;subst hP hw hK;obtain⟨xs,x,hq,hx⟩:=hg;obtain⟨its,rv,p,hz⟩:=I.list hq;obtain⟨u,hu,ru⟩:=rv.get hx;obtain⟨f0,f1,f2,f3,f4,f5⟩:=hf it (by simp)
  refine YfF st p.isList (x:=u) (by simpa using hu) λh' st' sb=>?_
  have I1:Inv X pins σ H { s with heap:=h' }:=I.turned (t':=s.toks) (λb o hb e=>(sb.2 b hb).trans e) f0 f1 f3 f4 f5
  obtain⟨o,e,c,d⟩:=id st';exact⟨u,rfl,jiz (s:={ s with heap:=h' }) e c d (by decide) ⟨x,H,I1,ru,⟨rfl,λys hy=>by rw[I.list_inj hy hq];exact hx⟩,st',λb hb=>(hf b hb).1⟩⟩
 done:=by
  intro X hP hw hK hc i pins s σ H E I hf st hg;subst hP hw hK;obtain⟨xs,hq,hx⟩:=hg;obtain⟨its,rv,p,hz⟩:=I.list hq;obtain⟨f0,f1,f2,f3,f4,f5⟩:=hf it (by simp)
  have hl:=rv.length;exact YfU (I.ok.hd hc) st p.isList (by simp;omega) λh' eb=>⟨rfl,I.turned (t':=s.toks) (λb o hb e=>eb b o hb e) f0 f1 f3 f4 f5⟩
 self:=λ_ _ _ _ _ st h=>wpAny_pyIter_listiter st h
def jg6 (a it:Addr):Turn P w K tg (Itt K a) [it] it (λi h=>h.IsTupleIter it a i) where
 mem:=by simp
 obj:=λi h st b hb=>by
  have e:b=it:=by simpa using hb
  subst e;obtain⟨o,e,c,d⟩:=st;exact⟨o,e,λv z=>by rw[d]at z;cases z⟩
 keep:=λi h h' st k=>st.at λo e=>k it (by simp) o e
 item:=by
  intro X hP hw hK hc i pins s σ H E I hf st hg;subst hP hw hK;obtain⟨xs,x,hq,hx⟩:=hg;obtain⟨its,rv,p,hz⟩:=I.tuple hq;obtain⟨u,hu,ru⟩:=rv.get hx;obtain⟨f0,f1,f2,f3,f4,f5⟩:=hf it (by simp)
  refine wpAny_pyNext_tuple_item st (show s.heap.IsTuple a its.toArray from p) (x:=u) (by simpa using hu) λh' st' sb=>?_
  have I1:Inv X pins σ H { s with heap:=h' }:=I.turned (t':=s.toks) (λb o hb e=>(sb.2 b hb).trans e) f0 f1 f3 f4 f5
  obtain⟨o,e,c,d⟩:=id st';exact⟨u,rfl,jiz (s:={ s with heap:=h' }) e c d (by decide) ⟨x,H,I1,ru,⟨rfl,λys hy=>by rw[I.tuple_inj hy hq];exact hx⟩,st',λb hb=>(hf b hb).1⟩⟩
 done:=by
  intro X hP hw hK hc i pins s σ H E I hf st hg;subst hP hw hK;obtain⟨xs,hq,hx⟩:=hg;obtain⟨its,rv,p,hz⟩:=I.tuple hq;obtain⟨f0,f1,f2,f3,f4,f5⟩:=hf it (by simp)
  have hl:=rv.length;exact wpAny_pyNext_tuple_end (I.ok.hd hc) st (show s.heap.IsTuple a its.toArray from p) (by simp;omega) λh' eb=>⟨rfl,I.turned (t':=s.toks) (λb o hb e=>eb b o hb e) f0 f1 f3 f4 f5⟩
 self:=λ_ _ _ _ _ st h=>wpAny_pyIter_tupleiter st h
def jg7 (it:Addr)(lo:Int)(n:Nat):Turn P w K tg (Itr lo n) [it] it (λi h=>IsRangeIter h it (lo+(i:Nat)*1) ((n:Int)-(i:Nat)) 1) where
 mem:=by simp
 obj:=λi h st b hb=>by
  have e:b=it:=by simpa using hb
  subst e;exact⟨_,st,λv z=>by
   have z':Data.fields _=Data.cell v:=z;cases z'⟩
 keep:=λi h h' st k=>k it (by simp) _ st
 item:=by
  intro X hP hw hK hc i pins s σ H E I hf st hg;subst hP hw hK;obtain⟨f0,f1,f2,f3,f4,f5⟩:=hf it (by simp)
  have W:=Walks.range (prog:=X.prog) (w:=X.w) (I.ok.hd hc) it lo 1 n;refine W.item i s _ _ hg st λv h' tk hv st' kk=>?_;obtain⟨t,rfl⟩:=hv;have I1:Inv X pins σ H { s with heap:=h',toks:=tk }:=I.turned (λb o hb e=>kk b o (by simpa using hb) e) f0 f1 f3 f4 f5
  refine⟨_,rfl,jiz (s:={ s with heap:=h',toks:=tk }) (n := "range_iterator") st' rfl rfl (by decide) ⟨.int (lo+i),H,I1,⟨t,?_⟩,⟨rfl,rfl⟩,st',λb hb=>(hf b hb).1⟩⟩
  rw[Int.mul_one]
 done:=by
  intro X hP hw hK hc i pins s σ H E I hf st hg;subst hP hw hK;obtain⟨f0,f1,f2,f3,f4,f5⟩:=hf it (by simp)
  exact wpAny_pyNext_range_end (I.ok.hd hc) st (by have:n<=i:=hg;omega) λh' eb=>⟨rfl,I.turned (t':=s.toks) (λb o hb e=>eb b o hb e) f0 f1 f3 f4 f5⟩
 self:=λ_ _ _ _ _ st h=>wpAny_pyIter_rangeiter st h
end
section
variable {X:Cx}{tg:Expr}
def jjg {pins:List (Addr×Obj)}{σ:St}{H:Hp}{s:Shared}{R:It->Hp->Prop}{E:Value->Shared->Prop}{lo hi:Int}{t u v:Tok}{tk:Nat}(I:Inv X pins σ H s)(h1:-(2 ^ 62)<=lo)(h2:lo<2 ^ 62)(h3:-(2 ^ 62)<=hi)(h4:hi<2 ^ 62)
  (q:R (Itr lo (hi-lo).toNat) H):wpAny (model X.prog X.w) X.A (pyIter (.ref s.heap.objs.size)) (PIE X pins σ tg R) E { s with heap:=s.heap.push { cls:=.type "range",data:=.fields #[.int lo t,.int hi u,.int 1 v] },toks:=tk }:=by
 refine wpAny_pyIter_range (IsRange.new ..) (small_one h1 h2 h3 h4) ?_;have I1:Inv X pins σ H { s with heap:=s.heap.push { cls:=.type "range",data:=.fields #[.int lo t,.int hi u,.int 1 v] },toks:=tk }:=I.kept λb o e=>Yae _ e
 refine⟨(s.heap.push { cls:=.type "range",data:=.fields #[.int lo t,.int hi u,.int 1 v] }).objs.size,[(s.heap.push { cls:=.type "range",data:=.fields #[.int lo t,.int hi u,.int 1 v] }).objs.size],_,_,H,rfl,
  I1.kept (t':=tk) λb o e=>Yae _ e,jg7 _ lo (hi-lo).toNat,?_,λb hb=>?_,q⟩
 ·have e1:lo+((0:Nat):Int)*1=lo:=by simp
  have e2:(((hi-lo).toNat:Nat):Int)-((0:Nat):Int)=Builtin.Range.rangeSize lo hi 1:=by rw[rangeSize_one];split<;>omega
  show IsRangeIter _ _ (lo+((0:Nat):Int)*1) ((((hi-lo).toNat:Nat):Int)-((0:Nat):Int)) 1;rw[e1,e2];exact Yas _ rfl
 ·have e:b=(s.heap.push { cls:=.type "range",data:=.fields #[.int lo t,.int hi u,.int 1 v] }).objs.size:=by simpa using hb
  subst e;exact I1.fpOk (Yaf _) (I1.hok.fresh (Yaf _))
def jqA (ta:TA):TI:=λσ H R=>ta σ H λvs H1=>∃j:Int,vs=[.int j]/\-(2 ^ 62)<=j/\j<2 ^ 62/\R (Itr 0 j.toNat) H1
def jhU {a:Expr}{ta:TA}{p pos:Pos}(hg:Gl X "range")(hm:X.mg "range" = none)(ha:PA X [a] ta)(hs:YaP [a] X.env=[(false,eval a X.env)]:=by rfl):PI X tg (.Call (.Name "range" p) [a] [] pos) (jqA ta):=by
 intro pins s σ H R I h;refine Call_ (jfj I hg hm boot_range (Ycp (thn (ha pos pins s σ H _ I h) λus s1 ⟨vs,H1,I1,r1,q1⟩=>?_) hs rfl));obtain⟨j,e,q1,q2,q⟩:=q1;subst e;cases r1 with
 |cons r rr=>
  cases rr;obtain⟨t,rfl⟩:=r;exact call_range_1 (jjg I1 (by omega) (by omega) q1 q2 (by simpa using q))
def tFor (wi:TI)(g:TG)(tb:TS):TS:=λD σ H=>wi σ H λJ H1=>∃W:Nat->Nat->St->Hp->Prop,(∃m,W 0 m σ H1)/\∀i m σ H,W i m σ H->
 (J.stop i H/\D.nx σ H)\/(J.go i H/\∃N:St->Hp->Prop,(∀σ' H',N σ' H'->∃m',m'<m/\W (i+1) m' σ' H')/\∀x H',J.yld i H x H'->g x σ H' λσ2 H2=>tb { D with nx:=N,ct:=N,bk:=D.nx } σ2 H2)
noncomputable def je4 (fp:List Addr)(h:Heap):List (Addr×Obj):=fp.filterMap λb=>(h.get? b).map λo=>(b,o)
def jbU {fp:List Addr}{h:Heap}{b:Addr}{o:Obj}(hb:b∈fp)(e:h.get? b=some o):(b,o)∈je4 fp h:=List.mem_filterMap.mpr ⟨b,hb,by rw[e];rfl⟩
def jh9 {fp:List Addr}{h:Heap}{p:Addr×Obj}(hp:p∈je4 fp h):p.1∈fp/\h.get? p.1=some p.2:=by
 obtain⟨b,hb,e⟩:=List.mem_filterMap.mp hp;cases q:h.get? b with
 |none=>rw[q]at e;cases e
 |some o=>
  rw[q]at e;have e':(b,o)=p:=Yao e;subst e';exact⟨hb,q⟩
def Inv.pinned {pins:List (Addr×Obj)}{σ:St}{H:Hp}{s:Shared}{fp:List Addr}(I:Inv X pins σ H s)(hf:∀b∈fp,FpOk X pins H b)(ho:∀b∈fp,∃o,s.heap.get? b=some o/\∀v,o.data≠.cell v):Inv X (pins++je4 fp s.heap) σ H s:=
 I.pins_of λp hp=>(List.mem_append.mp hp).elim (λz=>I.pin p (Yav _ z)) λz=>by
  obtain⟨hb,e⟩:=jh9 z;obtain⟨f0,f1,f2,_⟩:=hf p.1 hb;obtain⟨o,e',d⟩:=ho p.1 hb;rw[e]at e';cases e';exact⟨e,f0,f1,f2,d⟩
def Inv.unpinned {pins pl:List (Addr×Obj)}{σ:St}{H:Hp}{s:Shared}(I:Inv X (pins++pl) σ H s):Inv X pins σ H s:=I.pins_of λp hp=>I.pin p (Yav _ (Yax _ hp))
def jnt {iter:Expr}{body:List Stmt}{wi:TI}{g:TG}{tb:TS}{pos:Pos}(hp:Yd2 (model X.prog X.w) X.A X.env X.xe)(hc:X.calm=true)(hi:PI X tg iter wi)(hg:PG X tg g)(hb:PSs X body tb)
  (hs:∀x,Ya7 iter X.env x=pure x:=by intro _;rfl):PS X (.For tg iter body [] pos) (tFor wi g tb):=by
 intro pins s σ H D I h;refine wpAny_For (thn (hi pins s σ H _ I h) λv s1 h1=>thn h1 λitv s2 h2=>?_) hs;obtain⟨it,fp,tn,J,H2,e,I2,T,st2,f2,W,⟨m0,w0⟩,turn⟩:=h2;subst e;have stat:∀{H':Hp},(∀b∈fp,H' b=none)->∀b∈fp,FpOk X pins H' b:=λhn b hb=>⟨hn b hb,(f2 b hb).2⟩;refine codeAny_forLoop_any (λn s'=>∃i σ' H',Inv X pins σ' H' s'/\tn i s'.heap/\(∀b∈fp,H' b=none)/\W i n σ' H') ?_ m0 ⟨0,σ,H2,I2,st2,λb hb=>(f2 b hb).1,w0⟩;rintro n s3 ⟨i,σ3,H3,I3,st3,fr3,w3⟩;rcases turn i n σ3 H3 w3 with⟨stop,qn⟩|⟨go,N,hN,step⟩
 ·refine Yb8 hp (thn (T.done X rfl rfl rfl hc i pins s3 σ3 H3 X.xe I3 (stat fr3) st3 stop) λr s4 ⟨hr,I4⟩=>?_);subst hr;exact YeO ⟨σ3,H3,I4,qn⟩
 ·refine Yb8 hp (thn (T.item X rfl rfl rfl hc i pins s3 σ3 H3 X.xe I3 (stat fr3) st3 go) λr s4 ⟨u,hr,h4⟩=>?_);subst hr;refine Yb8 hp (thn h4 λ_ s5 ⟨x,H5,I5,r5,y5,st5,fr5⟩=>?_);have I5':=I5.pinned (stat fr5) (T.obj _ _ st5);refine Yb8 hp (thn (hg _ s5 σ3 H5 x u _ I5' r5 (step x H5 y5)) λ_ s6 ⟨σ6,H6,I6,q6⟩=>?_);refine Yb8 hp (thn (hb _ s6 σ6 H6 _ I6 q6) λf s7 q7=>?_);have again:∀{σ7:St} {H7:Hp},Inv X (pins++je4 fp s5.heap) σ7 H7 s7->N σ7 H7->∃m,m<n/\∃i σ' H',Inv X pins σ' H' s7/\tn i s7.heap/\(∀b∈fp,H' b=none)/\W i m σ' H':=λ{σ7 H7} I7 n7=>by
   obtain⟨m',hm,w7⟩:=hN σ7 H7 n7;refine⟨m',hm,i+1,σ7,H7,I7.unpinned,T.keep _ _ _ st5 λb hb o e=>(I7.pin (b,o) (Yav _ (Yav _ (jbU hb e)))).1,λb hb=>?_,w7⟩;obtain⟨o,e,d⟩:=T.obj _ _ st5 b hb;exact(I7.pin (b,o) (Yav _ (Yav _ (jbU hb e)))).2.1
  cases f with
  |next=>obtain⟨σ7,H7,I7,n7⟩:=q7;exact again I7 n7
  |cont=>obtain⟨σ7,H7,I7,n7⟩:=q7;exact again I7 n7
  |brk=>obtain⟨σ7,H7,I7,q7⟩:=q7;exact⟨σ7,H7,I7.unpinned,q7⟩
  |ret v=>obtain⟨x7,σ7,H7,I7,r7,q7⟩:=q7;exact⟨x7,σ7,H7,I7.unpinned,r7,q7⟩
end


abbrev R2:=V->V->Hp->VK->Prop
def OpR (X:Cx)(f:Value->Value->Sem Value)(r:R2):Prop:=
 ∀(pins:List (Addr×Obj)) (s:Shared) (σ:St) (H:Hp) (x y:V) (v u:Value) (Q:VK),Inv X pins σ H s->RelV x v->RelV y u->r x y H Q->
  wpAny (model X.prog X.w) X.A (f v u) (EP X pins σ Q) X.xe s
def UnR (X:Cx)(f:Value->Sem Value)(r:V->Hp->VK->Prop):Prop:=
 ∀(pins:List (Addr×Obj)) (s:Shared) (σ:St) (H:Hp) (x:V) (v:Value) (Q:VK),Inv X pins σ H s->RelV x v->r x H Q->
  wpAny (model X.prog X.w) X.A (f v) (EP X pins σ Q) X.xe s
def ja7 (X:Cx)(f:Value)(r:List V->Hp->VK->Prop):Prop:=
 ∀(pins:List (Addr×Obj)) (s:Shared) (σ:St) (H:Hp) (xs:List V) (us:List Value) (Q:VK),Inv X pins σ H s->Vals xs us->r xs H Q->
  wpAny (model X.prog X.w) X.A (call f us) (EP X pins σ Q) X.xe s
def TruR (X:Cx)(r:V->Hp->(Bool->Hp->Prop)->Prop):Prop:=
 ∀(pins:List (Addr×Obj)) (s:Shared) (σ:St) (H:Hp) (x:V) (v:Value) (Q:Bool->Hp->Prop),Inv X pins σ H s->RelV x v->r x H Q->
  wpAny (model X.prog X.w) X.A (truthy v) (TP X pins σ Q) X.xe s

def tOp (r:R2)(ta tb:TE):TE:=λσ H Q=>ta σ H λx H1=>tb σ H1 λy H2=>r x y H2 Q
def tUn (r:V->Hp->VK->Prop)(ta:TE):TE:=λσ H Q=>ta σ H λx H1=>r x H1 Q
def rI (C:Int->Int->Prop)(g:Int->Int->V):R2:=λx y H Q=>∃i j,x=.int i/\y=.int j/\C i j/\Q (g i j) H
def rI0 (g:Int->Int->V):R2:=λx y H Q=>∃i j,x=.int i/\y=.int j/\Q (g i j) H
def rU (g:Int->V):V->Hp->VK->Prop:=λx H Q=>∃i,x=.int i/\Q (g i) H

section
variable {X:Cx}{a b c:Expr}{ta tb tc:TE}{pos:Pos}

def binT (ha:PE X a ta)(hb:PE X b tb){pins:List (Addr×Obj)}{s:Shared}{σ:St}{H:Hp}{R:V->V->Hp->Prop}(I:Inv X pins σ H s)
  (h:ta σ H λx H1=>tb σ H1 λy H2=>R x y H2) {Q:Value->Shared->Prop} {f:Value->Value->Sem Value}
  (hf:∀v u s2 x y H2,Inv X pins σ H2 s2->RelV x v->RelV y u->R x y H2->wpAny (model X.prog X.w) X.A (f v u) Q X.xe s2) :
  wpAny (model X.prog X.w) X.A (eval a X.env) (λv s₁=>wpAny (model X.prog X.w) X.A (eval b X.env) (λu s₂=>wpAny (model X.prog X.w) X.A (f v u) Q X.xe s₂) X.xe s₁) X.xe s:=by
 refine thn (ha pins s σ H _ I h) λv s1 ⟨x,H1,I1,r1,q1⟩=>?_;refine thn (hb pins s1 σ H1 _ I1 q1) λu s2 ⟨y,H2,I2,r2,q2⟩=>?_;exact hf v u s2 x y H2 I2 r1 r2 q2

def jqf {op:YbU}{r:R2}(ho:OpR X (Ybj op) r)(ha:PE X a ta)(hb:PE X b tb):PE X (.BinOp a op b pos) (tOp r ta tb):=by
 intro pins s σ H Q I h;exact wpAny_BinOp (binT ha hb I h λv u s2 x y H2 I2 rx ry q=>ho pins s2 σ H2 x y v u Q I2 rx ry q)
def jqe {op:UnaryOp}{r:V->Hp->VK->Prop}(ho:UnR X (unaryOp op) r)(ha:PE X a ta):PE X (.UnaryOp op a pos) (tUn r ta):=by
 intro pins s σ H Q I h;exact UnaryOp_ (thn (ha pins s σ H _ I h) λv s1 ⟨x,H1,I1,r1,q1⟩=>ho pins s1 σ H1 x v Q I1 r1 q1)
section
variable {f:Value->Value->Sem Value}
def opI {C:Int->Int->Prop}{g:Int->Int->Int}
  (rule:∀(i j:Int) (t u:Tok) (s:Shared) (Q:Value->Shared->Prop) (E:Value->Shared->Prop),C i j->Q (.int (g i j) s.toks) { s with toks:=s.toks+1 }->wpAny (model X.prog X.w) X.A (f (.int i t) (.int j u)) Q E s) :
  OpR X f (rI C λi j=>.int (g i j)):=by
 intro pins s σ H x y v u Q I rx ry h;obtain⟨i,j,rfl,rfl,hc,q⟩:=h;obtain⟨t,rfl⟩:=rx;obtain⟨t',rfl⟩:=ry;exact rule i j t t' s _ _ hc ⟨.int (g i j),H,I.tok _,⟨_,rfl⟩,q⟩
def opI0 {g:Int->Int->Int}
  (rule:∀(i j:Int) (t u:Tok) (s:Shared) (Q:Value->Shared->Prop) (E:Value->Shared->Prop),Q (.int (g i j) s.toks) { s with toks:=s.toks+1 }->wpAny (model X.prog X.w) X.A (f (.int i t) (.int j u)) Q E s) :
  OpR X f (rI0 λi j=>.int (g i j)):=by
 intro pins s σ H x y v u Q I rx ry h;obtain⟨i,j,rfl,rfl,q⟩:=h;obtain⟨t,rfl⟩:=rx;obtain⟨t',rfl⟩:=ry;exact rule i j t t' s _ _ ⟨.int (g i j),H,I.tok _,⟨_,rfl⟩,q⟩
def opB0 {g:Int->Int->Bool}
  (rule:∀(i j:Int) (t u:Tok) (s:Shared) (Q:Value->Shared->Prop) (E:Value->Shared->Prop),Q (.bool (g i j)) s->wpAny (model X.prog X.w) X.A (f (.int i t) (.int j u)) Q E s) :
  OpR X f (rI0 λi j=>.bl (g i j)):=by
 intro pins s σ H x y v u Q I rx ry h;obtain⟨i,j,rfl,rfl,q⟩:=h;obtain⟨t,rfl⟩:=rx;obtain⟨t',rfl⟩:=ry;exact rule i j t t' s _ _ ⟨.bl (g i j),H,I,rfl,q⟩

end
def CDiv (i j:Int):Prop:=0<j/\j<1073741824
def CPow (i j:Int):Prop:=0<=j/\j<=1000000/\i.natAbs<2 ^ 64
def CMul (i j:Int):Prop:=(-(2 ^ 64)<i/\i<2 ^ 64)\/(-(2 ^ 64)<j/\j<2 ^ 64)
def CMul.ok {i j:Int}(h:CMul i j):IntMulOk i j:=by
 rcases h with⟨h1,h2⟩|⟨h1,h2⟩
 ·exact .of_left (intBits_le_64 h1 h2)
 ·exact .of_right (intBits_le_64 h1 h2)
def jn1:OpR X (Ybj .Add) (rI0 λi j=>.int (i+j)):=opI0 λ_ _ _ _ _ _ _ q=>add_int q
def jnQ:OpR X (Ybj .Sub) (rI0 λi j=>.int (i-j)):=opI0 λ_ _ _ _ _ _ _ q=>sub_int q
def jnU:OpR X (Ybj .Mult) (rI CMul λi j=>.int (i*j)):=opI λ_ _ _ _ _ _ _ hc q=>mul_int q hc.ok
def jlF:OpR X (Ybj .FloorDiv) (rI CDiv λi j=>.int (i/j)):=opI λi j _ _ _ _ _ hc q=>by
 have h1:(0:Int)<j:=hc.1;have h2:j<1073741824:=hc.2;exact floordiv_int (by omega) (by rw[Int.fdiv_eq_ediv_of_nonneg i (by omega)];exact q) (.inl (PyProof.noPylong_small (by omega)))
def jnV:OpR X (Ybj .Mod) (rI (λ_ j=>0<j) λi j=>.int (i%j)):=opI λi j _ _ _ _ _ hc q=>by
 have h1:(0:Int)<j:=hc;exact mod_int' (by omega) (by rw[Int.fmod_eq_emod_of_nonneg i (by omega)];exact q)
def jnS:OpR X (Ybj .Pow) (rI CPow λi j=>.int (i ^ j.toNat)):=opI λ_ _ _ _ _ _ _ hc q=>pow_int_small hc.1 hc.2.1 hc.2.2 q
def jmg:OpR X (YdX .Add) (rI0 λi j=>.int (i+j)):=opI0 λ_ _ _ _ _ _ _ q=>iadd_int q
def jme:OpR X (YdX .Sub) (rI0 λi j=>.int (i-j)):=opI0 λ_ _ _ _ _ _ _ q=>isub_int q
def jmf:OpR X (YdX .Mult) (rI CMul λi j=>.int (i*j)):=opI λ_ _ _ _ _ _ _ hc q=>imul_int q hc.ok
def unI {f:Value->Sem Value}{g:Int->Int}
  (rule:∀(i:Int) (t:Tok) (s:Shared) (Q:Value->Shared->Prop) (E:Value->Shared->Prop),Q (.int (g i) s.toks) { s with toks:=s.toks+1 }->wpAny (model X.prog X.w) X.A (f (.int i t)) Q E s) :
  UnR X f (rU λi=>.int (g i)):=by
 intro pins s σ H x v Q I rx h;obtain⟨i,rfl,q⟩:=h;obtain⟨t,rfl⟩:=rx;exact rule i t s _ _ ⟨.int (g i),H,I.tok _,⟨_,rfl⟩,q⟩
def jmI:UnR X (unaryOp .USub) (rU λi=>.int (-i)):=unI λ_ _ _ _ _ q=>neg_int q
end

noncomputable def scal:V->V->Bool
 |.non,.non=>true|.non,.int _=>true|.int _,.non=>true|.non,.bl _=>true|.bl _,.non=>true|.non,.str _=>true|.str _,.non=>true
 |.int _,.int _=>true|.bl _,.bl _=>true|.str _,.str _=>true|.byt _,.byt _=>true
 |.int _,.str _=>true|.str _,.int _=>true|.bl _,.str _=>true|.str _,.bl _=>true
 |_,_=>false
def rEq:R2:=λx y H Q=>scal x y=true/\Q (.bl (decide (x=y))) H
def rNe:R2:=λx y H Q=>scal x y=true/\Q (.bl (!decide (x=y))) H

def jiL {i j:Int}:decide (V.int i=V.int j)=(i==j):=by
 rw[Ybs];simp
def jkM {i j:Bool}:decide (V.bl i=V.bl j)=(i==j):=by
 rw[Ybs];simp
def jiK {i j:Str}:decide (V.str i=V.str j)=(i==j):=by
 rw[Ybs];simp
def jiM {i j:Array UInt8}:decide (V.byt i=V.byt j)=(i.toList==j.toList):=by
 rw[Ybs];cases i;cases j;simp

section
variable {X:Cx}{a b c:Expr}{ta tb tc:TE}{pos:Pos}
def jam {pins:List (Addr×Obj)}{σ:St}{H:Hp}{s:Shared}{Q:VK}{k k':Bool}(I:Inv X pins σ H s)(q:Q (.bl k) H)(e:k=k'):EP X pins σ Q (.bool k') s:=by
 subst e;exact⟨.bl k,H,I,rfl,q⟩
def jqn:OpR X (YaV .Eq) rEq:=by
 intro pins s σ H x y v u Q I rx ry h;obtain⟨hs,q⟩:=h;cases x with
 |non=>
  cases rx;cases y with
  |non=>cases ry;exact PySem.EqNone.eq_none_none (jam I q (by simp))
  |bl j=>cases ry;exact PySem.EqNone.eq_none_bool (jam I q (by simp))
  |int j=>obtain⟨t',rfl⟩:=ry;exact PySem.EqNone.eq_none_int (jam I q (by simp))
  |str j=>obtain⟨t',rfl⟩:=ry;exact PySem.EqNone.eq_none_str (jam I q (by simp))
  |_=>exact absurd (show false=true from hs) Yan
 |bl i=>
  cases rx;cases y with
  |non=>cases ry;exact PySem.EqNone.eq_bool_none (jam I q (by simp))
  |bl j=>cases ry;exact eq_bool (jam I q jkM)
  |str j=>obtain⟨t',rfl⟩:=ry;exact PySem.EqMixed.eq_bool_str (jam I q (by simp))
  |_=>exact absurd (show false=true from hs) Yan
 |int i=>
  obtain⟨t,rfl⟩:=rx;cases y with
  |non=>cases ry;exact PySem.EqNone.eq_int_none (jam I q (by simp))
  |int j=>obtain⟨t',rfl⟩:=ry;exact eq_int (jam I q jiL)
  |str j=>obtain⟨t',rfl⟩:=ry;exact PySem.EqMixed.eq_int_str (jam I q (by simp))
  |_=>exact absurd (show false=true from hs) Yan
 |str i=>
  obtain⟨t,rfl⟩:=rx;cases y with
  |non=>cases ry;exact PySem.EqNone.eq_str_none (jam I q (by simp))
  |bl j=>cases ry;exact PySem.EqMixed.eq_str_bool (jam I q (by simp))
  |int j=>obtain⟨t',rfl⟩:=ry;exact PySem.EqMixed.eq_str_int (jam I q (by simp))
  |str j=>obtain⟨t',rfl⟩:=ry;exact eq_str (jam I q jiK)
  |_=>exact absurd (show false=true from hs) Yan
 |byt i=>
  obtain⟨t,rfl⟩:=rx;cases y with
  |byt j=>obtain⟨t',rfl⟩:=ry;exact PySem.W.eq_bytes (jam I q jiM)
  |_=>exact absurd (show false=true from hs) Yan
 |_=>cases y<;>exact absurd (show false=true from hs) Yan
def jqj:OpR X (YaV .NotEq) rNe:=by
 intro pins s σ H x y v u Q I rx ry h;obtain⟨hs,q⟩:=h;cases x with
 |non=>
  cases rx;cases y with
  |non=>cases ry;exact PySem.EqNone.ne_none_none (jam I q (by simp))
  |bl j=>cases ry;exact PySem.EqNone.ne_none_bool (jam I q (by simp))
  |int j=>obtain⟨t',rfl⟩:=ry;exact PySem.EqNone.ne_none_int (jam I q (by simp))
  |str j=>obtain⟨t',rfl⟩:=ry;exact PySem.EqNone.ne_none_str (jam I q (by simp))
  |_=>exact absurd (show false=true from hs) Yan
 |bl i=>
  cases rx;cases y with
  |non=>cases ry;exact PySem.EqNone.ne_bool_none (jam I q (by simp))
  |bl j=>cases ry;exact ne_bool (jam I q (congrArg not jkM))
  |str j=>obtain⟨t',rfl⟩:=ry;exact PySem.EqMixed.ne_bool_str (jam I q (by simp))
  |_=>exact absurd (show false=true from hs) Yan
 |int i=>
  obtain⟨t,rfl⟩:=rx;cases y with
  |non=>cases ry;exact PySem.EqNone.ne_int_none (jam I q (by simp))
  |int j=>obtain⟨t',rfl⟩:=ry;exact ne_int (jam I q (congrArg not jiL))
  |str j=>obtain⟨t',rfl⟩:=ry;exact PySem.EqMixed.ne_int_str (jam I q (by simp))
  |_=>exact absurd (show false=true from hs) Yan
 |str i=>
  obtain⟨t,rfl⟩:=rx;cases y with
  |non=>cases ry;exact PySem.EqNone.ne_str_none (jam I q (by simp))
  |bl j=>cases ry;exact PySem.EqMixed.ne_str_bool (jam I q (by simp))
  |int j=>obtain⟨t',rfl⟩:=ry;exact PySem.EqMixed.ne_str_int (jam I q (by simp))
  |str j=>obtain⟨t',rfl⟩:=ry;exact ne_str (jam I q (congrArg not jiK))
  |_=>exact absurd (show false=true from hs) Yan
 |byt i=>
  obtain⟨t,rfl⟩:=rx;cases y with
  |byt j=>obtain⟨t',rfl⟩:=ry;exact PySem.W.ne_bytes (jam I q (congrArg not jiM))
  |_=>exact absurd (show false=true from hs) Yan
 |_=>cases y<;>exact absurd (show false=true from hs) Yan

def jqk:OpR X (YaV .Lt) (rI0 λi j=>.bl (decide (i<j))):=opB0 λ_ _ _ _ _ _ _ q=>lt_int q
def jql:OpR X (YaV .LtE) (rI0 λi j=>.bl (decide (i<=j))):=opB0 λ_ _ _ _ _ _ _ q=>le_int q
def jqm:OpR X (YaV .Gt) (rI0 λi j=>.bl (decide (j<i))):=opB0 λ_ _ _ _ _ _ _ q=>gt_int q
def jhZ:OpR X (YaV .In) (λx y H Q=>∃i j,x=.str i/\y=.str j/\Q (.bl (!(Ycb j i 0 j.length 1).isEmpty)) H):=by
 intro pins s σ H x y v u Q I rx ry h;obtain⟨i,j,rfl,rfl,q⟩:=h;obtain⟨t,rfl⟩:=rx;obtain⟨t',rfl⟩:=ry;exact in_str (jam I q rfl)

def je6:OpR X (YaV .NotIn) (λx y H Q=>∃i j,x=.str i/\y=.str j/\Q (.bl (!(!(Ycb j i 0 j.length 1).isEmpty))) H):=by
 intro pins s σ H x y v u Q I rx ry h;obtain⟨i,j,rfl,rfl,q⟩:=h;obtain⟨t,rfl⟩:=rx;obtain⟨t',rfl⟩:=ry;exact notIn_str (jam I q rfl)
def OpR.or {f:Value->Value->Sem Value}{r r':R2}(h:OpR X f r)(h':OpR X f r'):OpR X f (λx y H Q=>r x y H Q\/r' x y H Q):=by
 intro pins s σ H x y v u Q I rx ry q;rcases q with q|q
 ·exact h pins s σ H x y v u Q I rx ry q
 ·exact h' pins s σ H x y v u Q I rx ry q

def jlx {op:CmpOp}{r:R2}(ho:OpR X (YaV op) r)(ha:PE X a ta)(hb:PE X b tb)(hm:YdY op b=false):PE X (.Compare a [op] [b] pos) (tOp r ta tb):=by
 intro pins s σ H Q I h;exact wpAny_Compare1 (binT ha hb I h λv u s2 x y H2 I2 rx ry q=>ho pins s2 σ H2 x y v u Q I2 rx ry q) hm
def jmW (t:TE):TT:=λσ H Q=>t σ H λx H'=>∃k,x=.bl k/\Q k H'
def jlh {op:CmpOp}{r:R2}(ho:OpR X (YaV op) r)(ha:PE X a ta)(hb:PE X b tb)(hm:YdY op b=false):PT X (.Compare a [op] [b] pos) (jmW (tOp r ta tb)):=by
 intro pins s σ H Q I h;refine wpAny_isTrue_Compare1 (thn (ha pins s σ H _ I h) λv s1 ⟨x,H1,I1,r1,q1⟩=>thn (hb pins s1 σ H1 _ I1 q1) λu s2 ⟨y,H2,I2,r2,q2⟩=>
  thn (ho pins s2 σ H2 x y v u _ I2 r1 r2 q2) λc s3 ⟨z,H3,I3,r3,k,e,q3⟩=>?_) hm
 subst e;cases r3;exact Ycd ⟨H3,I3,q3⟩
def jkj (r r':R2)(ta tb tc:TE):TE:=λσ H Q=>ta σ H λx H1=>tb σ H1 λy H2=>r x y H2 λz H3=>∃k,z=.bl k/\
 (if k=true then tc σ H3 λw' H4=>r' y w' H4 Q else Q (.bl false) H3)
section
variable {op op':CmpOp}{r r':R2}
def jjw (ho:OpR X (YaV op) r)(ho':OpR X (YaV op') r')(ha:PE X a ta)(hb:PE X b tb)(hc:PE X c tc)
  (hm:YfX [op,op'] [b,c]=false:=by with_unfolding_all rfl):PE X (.Compare a [op,op'] [b,c] pos) (jkj r r' ta tb tc):=by
 intro pins s σ H Q I h;refine Compare_chain (thn (ha pins s σ H _ I h) λv s1 ⟨x,H1,I1,r1,q1⟩=>chain_link (thn (hb pins s1 σ H1 _ I1 q1) λu s2 ⟨y,H2,I2,r2,q2⟩=>
  thn (ho pins s2 σ H2 x y v u _ I2 r1 r2 q2) λd s3 ⟨z,H3,I3,r3,k,e,q3⟩=>?_)) hm
 subst e;cases r3;refine Ycd ?_;cases k with
 |false=>exact ite_ff ⟨.bl false,H3,I3,rfl,q3⟩
 |true=>exact ite_tt (chain_last (thn (hc pins s3 σ H3 _ I3 q3) λw' s4 ⟨z',H4,I4,r4,q4⟩=>ho' pins s4 σ H4 y z' u w' Q I4 r2 r4 q4))
def jjk (ho:OpR X (YaV op) r)(ho':OpR X (YaV op') r')(ha:PE X a ta)(hb:PE X b tb)(hc:PE X c tc)
  (hm:YfX [op,op'] [b,c]=false:=by with_unfolding_all rfl):PT X (.Compare a [op,op'] [b,c] pos) (jmW (jkj r r' ta tb tc)):=by
 intro pins s σ H Q I h;refine isTrue_chain (thn (ha pins s σ H _ I h) λv s1 ⟨x,H1,I1,r1,q1⟩=>test_link (thn (hb pins s1 σ H1 _ I1 q1) λu s2 ⟨y,H2,I2,r2,q2⟩=>
  thn (ho pins s2 σ H2 x y v u _ I2 r1 r2 q2) λd s3 ⟨z,H3,I3,r3,k,e,q3⟩=>?_)) hm
 subst e;cases r3;refine Ycd ?_;cases k with
 |false=>
  obtain⟨k',e',q'⟩:=q3;cases e';exact ite_ff ⟨H3,I3,q'⟩
 |true=>
  refine ite_tt (test_last (thn (hc pins s3 σ H3 _ I3 q3) λw' s4 ⟨z',H4,I4,r4,q4⟩=>thn (ho' pins s4 σ H4 y z' u w' _ I4 r2 r4 q4) λd' s5 ⟨z2,H5,I5,r5,k2,e2,q5⟩=>?_));subst e2;cases r5;exact Ycd ⟨H5,I5,q5⟩

end
def TruV (K:Yac)(x:V)(H:Hp)(k:Bool):Prop:=
 match x with
 |.non=>k=false
 |.bl b=>k=b
 |.int i=>k=(i != 0)
 |.str y=>y.length<=Yak/\k=((y.length:Int) != 0)
 |.byt y=>y.size<=Yak/\k=((y.size:Int) != 0)
 |.ref p=>(∃xs,SqL K H p xs/\k = !xs.isEmpty)\/(∃xs,SqT K H p xs/\k = !xs.isEmpty)\/∃kvs,H p=some (.dK kvs)/\k = !kvs.isEmpty
 |_=>False
def jhn {κ:Type}{kvs:List (κ×V)}{vs:List (κ×Value)}(r:KV kvs vs):(!vs.isEmpty) = !kvs.isEmpty:=by
 cases r<;>rfl
def jeo {xs:List V}{its:List Value}(r:Vals xs its):(!its.toArray.isEmpty) = !xs.isEmpty:=by
 cases r<;>simp
def jdL:(Yak:Nat)<2 ^ 63:=by rw[Ycw];decide
def jgf:TruR X (λx H Q=>∃k,TruV X.K x H k/\Q k H):=by
 intro pins s σ H x v Q I rx h;obtain⟨k,e,q⟩:=h;have hl:=jdL;have hs:Yak=16777216:=Ycw;cases x with
 |non=>
  cases rx;have e':k=false:=e;subst e';exact truthy_none ⟨H,I,q⟩
 |bl b=>
  cases rx;have e':k=b:=e;subst e';exact Ycd ⟨H,I,q⟩
 |int i=>
  obtain⟨t,rfl⟩:=rx;have e':k=(i != 0):=e;subst e';exact PySem.P.truthy_int ⟨H,I,q⟩
 |str y=>
  obtain⟨t,rfl⟩:=rx;obtain⟨hy,e'⟩:y.length<=Yak/\k=((y.length:Int) != 0):=e;subst e';exact PySem.P.truthy_str (by omega) ⟨H,I.tok _,q⟩
 |byt y=>
  obtain⟨t,rfl⟩:=rx;obtain⟨hy,e'⟩:y.size<=Yak/\k=((y.size:Int) != 0):=e;subst e';exact PySem.W.truthy_bytes (by omega) ⟨H,I.tok _,q⟩
 |ref p=>
  cases rx;have e':(∃xs,SqL X.K H p xs/\k = !xs.isEmpty)\/(∃xs,SqT X.K H p xs/\k = !xs.isEmpty)\/∃kvs,H p=some (.dK kvs)/\k = !kvs.isEmpty:=e;rcases e' with⟨xs,hx,e'⟩|⟨xs,hx,e'⟩|⟨kvs,hx,e'⟩
  ·subst e';obtain⟨its,r,pl,hz⟩:=I.list hx;have hlen:=r.length;exact wpAny_truthy_list pl.isList (by simp only[Yaj];omega) ⟨H,I.tok _,by rw[jeo r];exact q⟩
  ·subst e';obtain⟨its,r,pl,hz⟩:=I.tuple hx;have hlen:=r.length;exact truthy_tuple pl (by simp only[Yaj];omega) ⟨H,I.tok _,by rw[jeo r];exact q⟩
  ·subst e';obtain⟨hz,hS,vs,r,m⟩:kvs.length<=Yak/\(p==Ya1)=false/\∃vs,KV kvs vs/\s.heap.DictOf (jaj X.prog X.w) p vs:=I.hok p _ hx;have hlen:kvs.length=vs.length:=Ydm r;exact wpAny_truthy_dict hS m (by omega) ⟨H,I.tok _,by rw[jhn r];exact q⟩
 |_=>exact(show False from e).elim
def jjj (ha:PE X a ta)(he:∀whole,isTrue a X.env whole=(do let v <- whole;standAt a.pos;holding [v] (truthy v))) :
  PT X a (λσ H Q=>ta σ H λx H'=>∃k,TruV X.K x H' k/\Q k H'):=by
 intro pins s σ H Q I h;exact isTrue_plain (thn (ha pins s σ H _ I h) λv s1 ⟨x,H1,I1,r1,q1⟩=>jgf pins s1 σ H1 x v Q I1 r1 q1) (he _)

def jhg:OpR X (Ybj .Add) (λx y H Q=>∃i j,x=.str i/\y=.str j/\i.length+j.length<=Yak/\Q (.str (i++j)) H):=by
 intro pins s σ H x y v u Q I rx ry h;obtain⟨i,j,rfl,rfl,hz,q⟩:=h;obtain⟨t,rfl⟩:=rx;obtain⟨t',rfl⟩:=ry;exact add_str (λt' tk=>⟨.str (i++j),H,I.tok _,⟨_,rfl⟩,q⟩) hz
def jfZ:OpR X (YdX .Add) (λx y H Q=>∃i j,x=.str i/\y=.str j/\i.length+j.length<=Yak/\Q (.str (i++j)) H):=by
 intro pins s σ H x y v u Q I rx ry h;obtain⟨i,j,rfl,rfl,hz,q⟩:=h;obtain⟨t,rfl⟩:=rx;obtain⟨t',rfl⟩:=ry;exact iadd_str (λt' tk=>⟨.str (i++j),H,I.tok _,⟨_,rfl⟩,q⟩) hz
def jcK {x:V}{us:List Value}(r:Vals [x] us):∃u,us=[u]/\RelV x u:=by
 cases r with
 |cons r1 r2=>cases r2;exact⟨_,rfl,r1⟩
def jmH {x y:V}{us:List Value}(r:Vals [x,y] us):∃u w',us=[u,w']/\RelV x u/\RelV y w':=by
 cases r with
 |cons r1 r2=>
  cases r2 with
  |cons r3 r4=>cases r4;exact⟨_,_,rfl,r1,r3⟩
def jiS (hc:X.calm=true):ja7 X (.builtin "max") (λxs H Q=>∃i j,xs=[.int i,.int j]/\Q (.int (if j>i then j else i)) H):=by
 intro pins s σ H xs us Q I r h;obtain⟨i,j,rfl,q⟩:=h;obtain⟨u,w',rfl,⟨t,rfl⟩,⟨t',rfl⟩⟩:=jmH r;refine max_two_ints (I.ok.hd hc) λh' tk k=>⟨_,H,I.kept k,?_,q⟩;by_cases hj:j>i
 ·rw[if_pos hj,if_pos hj];exact⟨_,rfl⟩
 ·rw[if_neg hj,if_neg hj];exact⟨_,rfl⟩
def jiR (hc:X.calm=true):ja7 X (.builtin "min") (λxs H Q=>∃i j,xs=[.int i,.int j]/\Q (.int (if j<i then j else i)) H):=by
 intro pins s σ H xs us Q I r h;obtain⟨i,j,rfl,q⟩:=h;obtain⟨u,w',rfl,⟨t,rfl⟩,⟨t',rfl⟩⟩:=jmH r;refine min_two_ints (I.ok.hd hc) λh' tk k=>⟨_,H,I.kept k,?_,q⟩;by_cases hj:j<i
 ·rw[if_pos hj,if_pos hj];exact⟨_,rfl⟩
 ·rw[if_neg hj,if_neg hj];exact⟨_,rfl⟩
def jiV:ja7 X (.type "int") (λxs H Q=>(∃i,xs=[.int i]/\Q (.int i) H)\/∃k,xs=[.bl k]/\Q (.int (if k then 1 else 0)) H):=by
 intro pins s σ H xs us Q I r h;rcases h with⟨i,rfl,q⟩|⟨k,rfl,q⟩
 ·obtain⟨u,rfl,t,rfl⟩:=jcK r;exact call_int_int ⟨.int i,H,I,⟨_,rfl⟩,q⟩
 ·obtain⟨u,rfl,r1⟩:=jcK r;cases r1;exact call_int_bool ⟨.int (if k then 1 else 0),H,I.tok _,⟨_,rfl⟩,q⟩
def LenV (K:Yac)(x:V)(H:Hp)(n:Nat):Prop:=
 match x with
 |.str y=>y.length<=Yak/\n=y.length
 |.byt y=>y.size<=Yak/\n=y.size
 |.ref p=>(∃xs,SqL K H p xs/\n=xs.length)\/∃xs,SqT K H p xs/\n=xs.length
 |_=>False
def jj5:ja7 X (.builtin "len") (λxs H Q=>∃x n,xs=[x]/\LenV X.K x H n/\Q (.int n) H):=by
 intro pins s σ H xs us Q I r h;obtain⟨x,n,rfl,e,q⟩:=h;obtain⟨u,rfl,rx⟩:=jcK r;have hl:=jdL;have hs:Yak=16777216:=Ycw;cases x with
 |str y=>
  obtain⟨t,rfl⟩:=rx;obtain⟨hy,e'⟩:y.length<=Yak/\n=y.length:=e;subst e';exact len_str (by omega) ⟨.int _,H,I.tok _,⟨_,rfl⟩,q⟩
 |byt y=>
  obtain⟨t,rfl⟩:=rx;obtain⟨hy,e'⟩:y.size<=Yak/\n=y.size:=e;subst e';exact PySem.W.len_bytes (by omega) ⟨.int _,H,I.tok _,⟨_,rfl⟩,q⟩
 |ref p=>
  cases rx;have e':(∃xs,SqL X.K H p xs/\n=xs.length)\/∃xs,SqT X.K H p xs/\n=xs.length:=e;rcases e' with⟨xs,hx,e'⟩|⟨xs,hx,e'⟩
  ·subst e';obtain⟨its,r',pl,hz⟩:=I.list hx;have hlen:=r'.length;exact Calls.call_len_list pl.isList (by simp only[Yaj];omega) ⟨.int xs.length,H,I.tok _,⟨_,by simp only[Yaj];rw[hlen]⟩,q⟩
  ·subst e';obtain⟨its,r',pl,hz⟩:=I.tuple hx;have hlen:=r'.length;exact len_tuple pl (by simp only[Yaj];omega) ⟨.int xs.length,H,I.tok _,⟨_,by simp only[Yaj];rw[hlen]⟩,q⟩
 |_=>exact(show False from e).elim
end

structure ObjM (h:Heap)(x dx C:Addr)(mA:Str->Option Value):Prop where
 obj:h.get? x=some (YdK C dx)
 ns:h.Ns1 dx mA
 ne:dx≠x

def jii {h:Heap}{dx:Addr}{mA:Str->Option Value}(n:h.Ns1 dx mA):∃od,h.get? dx=some od/\∀name,Yd1 name od=some (mA name):=by
 obtain⟨o,es,ep,ho,hd,hk,_,hm⟩:=n;refine⟨o,ho,λname=>?_⟩;have e:=hm name;unfold nsFind findBy at e;rw[<- Array.find?_toList]at e;unfold Yd1;rw[hd];dsimp only;split
 ·rename_i y q;rw[q]at e;exact congrArg some e
 ·rename_i q;rw[q]at e;have a:es.toList.any (·.refKey)=false:=by
   rw[YfP];intro y hy;obtain⟨z,t,hkey⟩:=hk y (Array.mem_toList_iff.mp hy);simp[Ycj.refKey,hkey]
  have a':¬es.toList.any (·.refKey)=true:=by rw[a];exact Yan
  rw[if_neg a'];exact congrArg some e

def ObjM.look {h:Heap}{x dx C:Addr}{mA:Str->Option Value}(I:ObjM h x dx C mA):∃od,PySem.W.InstAt h x (YdK C dx) C (some od)/\∀name,Yd1 name od=some (mA name):=
 let ⟨od,ho,hl⟩:=jii I.ns
 ⟨od,⟨I.obj,rfl,rfl,ho⟩,hl⟩

section
variable {prog:Program}{w:World}{A:Around}{E:Value->Shared->Prop}{s:Shared}{K:Yac}{x dx C f:Addr}{mA:Str->Option Value}{name:Str}{v:Value}

end

def RelO.some_of {v:V}{o:Option Value}(r:RelO (some v) o):∃u,o=some u/\RelV v u:=by
 cases o with
 |none=>exact(show False from r).elim
 |some u=>exact⟨u,rfl,r⟩
section
variable {P:Program}{w:World}{H H':Hp}{h h':Heap}{a C dx:Addr}{fs fs':List (Str×V)}
def jmh (hok:HOk P w H h)(e:H a=some (.ins C dx fs)):∃mA,ObjM h a dx C mA/\(∀f,RelO (fs.lookup f) (mA f))/\PySem.Within mA (fs.map (·.1))/\fs.length<=1000/\H dx=some (.own a):=by
 obtain⟨d,z,ne,ob,mA,n,r,q⟩:=(show jaH P w H h a (.ins C dx fs)from hok a _ e);exact⟨mA,⟨ob,n,ne⟩,r,q,z,d⟩
end

structure Cls (K:Yac)(C:Addr):Prop where
 pg:Yfg K C Ye5=true
 hd:PySem.W.hasDictIn K C=true
 po:PySem.W.plainOver K C=true
 sa:YcE K (.ref C) "__setattr__" = some (some (.builtin "object.__setattr__"))
def Cls.get {K:Yac}{C:Addr}(c:Cls K C)(f:Str):Yfg K C f=true:=c.pg
structure Con (K:Yac)(C:Addr)(f:Str)(v:V)(u:Value):Prop where
 at_:YcE K (.ref C) f=some (some u)
 rel:RelV v u
 get:Ye7 K u "__get__" = some none
 cp:PySem.W.copiedNames.contains f=false
structure Meth (K:Yac)(C:Addr)(m:Str)(f:Addr):Prop where
 at_:YcE K (.ref C) m=some (some (.ref f))
 fn:PySem.W.isFn K (.ref f)=true
 kp:YbY K (.ref f)=true

section
variable {X:Cx}{pins:List (Addr×Obj)}{σ:St}{H:Hp}{s:Shared}{a C dx:Addr}{fs:List (Str×V)}{f:Str}{v:V}{A:Around}{E:Value->Shared->Prop}

end

section
variable {X:Cx}{o e value:Expr}{f:Str}{pos pos' tpos:Pos}{ta tv:TE}
end

section
variable {X:Cx}{pins:List (Addr×Obj)}{σ:St}{H:Hp}{s:Shared}{A:Around}{E:Value->Shared->Prop}{Q:Value->Shared->Prop}{c:Value}{b:Bool}
inductive TyOf (K:Yac)(H:Hp):V->Value->Prop where
 |non:TyOf K H .non (.type "NoneType")
 |bl (x:Bool):TyOf K H (.bl x) (.type "bool")
 |int (i:Int):TyOf K H (.int i) (.type "int")
 |str (x:Str):TyOf K H (.str x) (.type "str")
 |flt (x:UInt64):TyOf K H (.flt x) (.type "float")
 |lst {a:Addr} {xs:List V} (e:H a=some (.lst xs)):TyOf K H (.ref a) (.type "list")
 |frz {a:Addr} {o:Obj} {xs:List V} (e:H a=some (.frz o (.lst xs))):TyOf K H (.ref a) (.type "list")
 |tup {a:Addr} {xs:List V} (e:H a=some (.tup xs)):TyOf K H (.ref a) (.type "tuple")
 |dK {a:Addr} {kvs:List (Key×V)} (e:H a=some (.dK kvs)):TyOf K H (.ref a) (.type "dict")
 |dT {a:Addr} {kvs:List (List Key×V)} (e:H a=some (.dT kvs)):TyOf K H (.ref a) (.type "dict")
 |ins {a C dx:Addr} {fs:List (Str×V)} (e:H a=some (.ins C dx fs)) (cl:Cls K C) (ha:YcE K (.ref C) "__class__" = some (some (.builtin "object.__class__")))
   (hn:Ye7 K (.builtin "object.__class__") "__get__" = some (some (.builtin "getset_descriptor.__get__"))) (htk:PySem.W.takesIn K (.builtin "object.__class__")=some true)
   (hm:PySem.W.mroIn K C (.type "object")=some true):TyOf K H (.ref a) (.ref C)
def jip {x:V}{u t:Value}(I:Inv X pins σ H s)(rx:RelV x u)(ty:TyOf X.K H x t)(e:Yc4 X.K t c=some b)(h:∀tk,Q (.bool b) { s with toks:=tk }) :
  wpAny (model X.prog X.w) A (call (.builtin "isinstance") [u,c]) Q E s:=by
 cases ty with
 |non=>cases(show u=YaU from rx);exact Ybd PySem.W.kitx_none I.kIn YbT e (λz=>nomatch z) h
 |bl y=>cases(show u=Yfu y from rx);exact Ybd PySem.W.kitx_bool I.kIn YbT e (λz=>nomatch z) h
 |int i=>obtain⟨t,q⟩:=(show ∃t,u=Yds i t from rx);cases q;exact Ybd PySem.W.kitx_int I.kIn YbT e (λz=>nomatch z) h
 |str y=>obtain⟨t,q⟩:=(show ∃t,u=YeS y t from rx);cases q;exact Ybd PySem.W.kitx_str I.kIn YbT e (λz=>nomatch z) h
 |flt y=>obtain⟨t,q⟩:=(show ∃t,u=Value.float y t from rx);cases q;exact Ybd PySem.W.kitx_float I.kIn YbT e (λz=>nomatch z) h
 |@lst a xs ea=>
  cases(show u=YbD a from rx);obtain⟨_,_,n,_,h1⟩:=(show jaH X.prog X.w H s.heap a (.lst xs)from I.hok a _ ea);exact Ybd Ye8 I.kIn ⟨_,h1,rfl⟩ e (λz=>nomatch z) h
 |@frz a ob xs ea=>
  cases(show u=YbD a from rx);obtain⟨_,_,_,n,_,h1⟩:=(show jaH X.prog X.w H s.heap a (.frz ob (.lst xs))from I.hok a _ ea);exact Ybd Ye8 I.kIn ⟨_,h1,rfl⟩ e (λz=>nomatch z) h
 |@tup a xs ea=>
  cases(show u=YbD a from rx);obtain⟨_,_,_,p⟩:=(show jaH X.prog X.w H s.heap a (.tup xs)from I.hok a _ ea);obtain⟨o,h1,h2,_⟩:=p;exact Ybd PySem.W.kitx_tuple I.kIn ⟨o,h1,h2⟩ e (λz=>nomatch z) h
 |@dK a kvs ea=>
  cases(show u=YbD a from rx);obtain⟨_,_,vs,_,p⟩:=(show jaH X.prog X.w H s.heap a (.dK kvs)from I.hok a _ ea);obtain⟨o,es,ep,h1,h2,_⟩:=p;exact Ybd Ye9 I.kIn ⟨o,h1,h2.1⟩ e (λz=>nomatch z) h
 |@dT a kvs ea=>
  cases(show u=YbD a from rx);obtain⟨_,_,xs,_,o,es,ep,h1,h2,_⟩:=(show jaH X.prog X.w H s.heap a (.dT kvs)from I.hok a _ ea);exact Ybd Ye9 I.kIn ⟨o,h1,h2.1⟩ e (λz=>nomatch z) h
 |@ins a C dx fs ea cl ha hn htk hm=>
  cases(show u=YbD a from rx);obtain⟨mA,O,_⟩:=jmh I.hok ea;obtain⟨od,J,_⟩:=O.look;exact Ybd (PySem.W.kitx_own (cl.get _) cl.hd ha hn htk hm) I.kIn J e (λz=>nomatch z) h
end

structure Room (k:Nat)(A:Around):Prop where
 hd:A.handled=none
 dp:A.depth+k+20<recursionLimit
 un:A.units+8*k+200<cLine
 gd:A.guards=some []
def Room.mono {j k:Nat}{A:Around}(r:Room k A)(h:j<=k):Room j A:=⟨r.hd,by have:=r.dp;omega,by have:=r.un;omega,r.gd⟩
section
variable {k:Nat}{A:Around}
def Room.deeper (r:Room (k+1) A)(env:Env):Room k (A.deeper env):=
 ⟨r.hd,by have:=r.dp;show A.depth+1+k+20<_;omega,by have:=r.un;show A.units+3+8*k+200<_;omega,r.gd⟩
def Room.depth (r:Room k A):A.depth<recursionLimit:=by have:=r.dp;omega
def Room.units (r:Room k A):A.units+64<cLine:=by have:=r.un;omega
def Room.units0 (r:Room k A):A.units<cLine:=by have:=r.un;omega

end
def tNil:TA:=λ_ H Q=>Q [] H
def jpQ (ta:TE)(tr:TA):TA:=λσ H Q=>ta σ H λx H1=>tr σ H1 λxs H2=>Q (x::xs) H2
section
variable {X:Cx}{e:Expr}{es:List Expr}{te:TE}{t:TA}{pos:Pos}
def jnI:PA X [] tNil:=λ_ _ _ _ H Q I h=>Calls.spliced_nil ⟨[],H,I,.nil,h⟩
def jlA (ha:PE X e te)(hr:PA X es t)(hs:YaP (e::es) X.env=(false,eval e X.env)::YaP es X.env:=by rfl):PA X (e::es) (jpQ te t):=by
 intro pos pins s σ H Q I h;rw[hs];show wpAny _ _ (spliced ((false,eval e X.env)::backTo pos (YaP es X.env))) _ _ s;refine Calls.spliced_cons (thn (ha pins s σ H _ I h) λu s1 ⟨x,H1,I1,r1,q1⟩=>?_);exact thn (hr pos pins s1 σ H1 _ I1 q1) λus s2 ⟨xs,H2,I2,r2,q2⟩=>⟨x::xs,H2,I2,.cons r1 r2,q2⟩

def tTup (t:TA):TE:=λσ H Q=>t σ H λxs H1=>xs.length<=Yak/\∀p,H1 p=none->Q (.ref p) (upd H1 p (.tup xs))
def tLst (t:TA):TE:=λσ H Q=>t σ H λxs H1=>xs.length<=Yak/\∀p,H1 p=none->Q (.ref p) (upd H1 p (.lst xs))
def jnB {x1}(h:PA X es t):PE X (.Tuple es x1 pos) (tTup t):=by
 intro pins s σ H Q I hq;refine wpAny_Tuple_spliced (thn (h pos pins s σ H _ I hq) λus s1 ⟨xs,H1,I1,r,z,q⟩=>⟨by rw[<- r.length];exact z,?_⟩)
 have hf:H1 s1.heap.objs.size=none:=I1.hok.fresh (Yaf _);refine⟨.ref s1.heap.objs.size,upd H1 s1.heap.objs.size (.tup xs),I1.laid (t':=s1.toks) (λb u e=>Yae _ e) (Yaf _) ?_,rfl,q _ hf⟩;exact⟨z,us,r,⟨_,Yas _ rfl,rfl,_,rfl,rfl⟩⟩
def jnF (h:PA X es t):PE X (.List es pos) (tLst t):=by
 intro pins s σ H Q I hq;refine wpAny_List_spliced (thn (h pos pins s σ H _ I hq) λus s1 ⟨xs,H1,I1,r,z,q⟩=>⟨by rw[<- r.length];exact z,?_⟩)
 have hf:H1 s1.heap.objs.size=none:=I1.hok.fresh (Yaf _);refine⟨.ref s1.heap.objs.size,upd H1 s1.heap.objs.size (.lst xs),I1.laid (t':=s1.toks) (λb u e=>Yae _ e) (Yaf _) ?_,rfl,q _ hf⟩;exact⟨z,us,0,r,Yas _ rfl⟩
end

abbrev Sp:=List V->Hp->VK->XK->Prop
abbrev CXT:=List Env->Hp->Shared->XK->Value->Shared->Prop

structure Env0 (P:Program)(w:World)(K:Yac)(mg:Str->Option Value)(base:Heap)(A:Around)(outer:List Env)(s:Shared)(H:Hp):Prop where
 frames:A.frames=some outer
 mod:Mod K mg base
 bs:∀b o,base.get? b=some o->s.heap.get? b=some o/\H b=none
 bsz:base.objs.size<=s.heap.objs.size
 funs:s.heap.FunFrames base outer
 frf:∀b∈frs outer,H b=none
 hok:HOk P w H s.heap
 bare:AllBare s.gens
def CE (outer:List Env)(P:Program)(w:World)(H:Hp)(s:Shared)(Q:VK)(u:Value)(s':Shared):Prop:=
 ∃v H',s'.os=s.os/\AllBare s'.gens/\Un (frs outer) [] H H' s.heap s'.heap/\HOk P w H' s'.heap/\RelV v u/\Q v H'
def CR (CX:CXT)(outer:List Env)(P:Program)(w:World)(H:Hp)(s:Shared)(Q:VK)(E:XK)(r:Result)(s':Shared):Prop:=
 match r with
 |.ok (.ret u)=>CE outer P w H s Q u s'
 |.ok _=>False
 |.error e=>CX outer H s E e s'
structure FnOk (P:Program)(w:World)(K:Yac)(mg:Str->Option Value)(base:Heap)(CX:CXT)(k:Nat)(f:Addr)(fd:Ybu)(ps:List Str)(sp:Sp):Prop where
 len:∀vs H Q E,sp vs H Q E->vs.length=ps.length
 run:∀(A:Around) (outer:List Env) (s:Shared) (H:Hp) (args:Args) (us:List Value) (vs:List V) (Q:VK) (E:XK),Room k A->Env0 P w K mg base A outer s H->BindsTo s fd args (ps.zip us)->Vals vs us->sp vs H Q E->
  codeAny (model P w) A (.call (.ref f) args) (CR CX outer P w H s Q E) s
section
variable {X:Cx}{pins:List (Addr×Obj)}{σ:St}{H:Hp}{s s':Shared}
def Inv.env0 (I:Inv X pins σ H s):Env0 X.prog X.w X.K X.mg X.base X.A X.stack s H:=
 ⟨I.ok.frames,I.ok.mod,I.bs,Yah I.ok.bsz I.sz,I.stack,I.stkFree,I.hok,I.bare⟩
def Inv.after {Q:VK}{u:Value}(I:Inv X pins σ H s)(h:CE X.stack X.prog X.w H s Q u s'):EP X pins σ Q u s':=by
 obtain⟨v,H',os,bare,un,hok,r,q⟩:=h;obtain⟨hh,g,d,t,os'⟩:=s';obtain rfl:os'=s.os:=os;exact⟨v,H',I.call (h':=hh) (g':=g) (d':=d) (t':=t) (ch:=[]) un hok bare (λb z=>absurd z (by simp)),r,q⟩
end

def Binds (K:Yac)(fd:Ybu)(ps:List Str)(ds:List Value):Prop:=
 ∀(s:Shared) (us:List Value),K.In s.heap->(us++ds).length=ps.length->BindsTo s fd ⟨us,[]⟩ (ps.zip (us++ds))
def Binds.all {K:Yac}{fd:Ybu}{ps:List Str}(h:∀us:List Value,us.length=ps.length->bindArgs fd ⟨us,[]⟩=pure (ps.zip us)):Binds K fd ps []:=λs us _ hl=>by
 rw[YcA]at hl ⊢;exact .of_eq (h us hl)

section
variable {X:Cx}{CX:CXT}{k:Nat}{f C:Addr}{fd:Ybu}{ps:List Str}{sp:Sp}{dvs:List V}{ds:List Value}{E:XK}{x m:Str}{p pos apos:Pos}{e o:Expr}{es:List Expr}{ta:TE}{t:TA}

structure Mk (K:Yac)(C f:Addr):Prop where
 makes:PySem.W.makesIn K C=true
 init:YcE K (.ref C) "__init__" = some (some (.ref f))
 fn:PySem.W.isFn K (.ref f)=true
 kp:YbY K (.ref C)=true

end

def PK (X:Cx)(kws:List Keyword)(t:TA):Prop:=
 ∀(pos:Pos) (pins:List (Addr×Obj)) (s:Shared) (σ:St) (H:Hp) (Q:List V->Hp->Prop),Inv X pins σ H s->t σ H Q->wpAny (model X.prog X.w) X.A (evalAll ((backToKw pos (YeR kws X.env)).map (·.2))) (AP X pins σ Q) X.xe s
section
variable {X:Cx}{CX:CXT}{k:Nat}{f C:Addr}{fd:Ybu}{ps ks:List Str}{sp:Sp}{E:XK}{x m:Str}{p pos apos kpos:Pos}{e o:Expr}{es:List Expr}{kws:List Keyword}{te ta:TE}{t tk:TA}{nm:Option Str}
def pk_nil:PK X [] tNil:=λ_ _ _ _ H Q I h=>wpAny_evalAll_nil ⟨[],H,I,.nil,h⟩
structure KBinds (K:Yac)(fd:Ybu)(ps ks:List Str)(g:List Value->List Value->List Value)(gV:List V->List V->List V):Prop where
 to:∀(s:Shared) (us ws:List Value),K.In s.heap->(g us ws).length=ps.length->BindsTo s fd ⟨us,ks.zip ws⟩ (ps.zip (g us ws))
 rel:∀{vs:List V} {us:List Value} {zs:List V} {ws:List Value},Vals vs us->Vals zs ws->Vals (gV vs zs) (g us ws)
variable {g:List Value->List Value->List Value}{gV:List V->List V->List V}
end

structure FnScope (N P:List Str)(sc:Scope):Prop where
 kind:sc.kind=.function
 co:sc.isCoroutine=false
 gen:sc.isGenerator=false
 nd:N.Nodup
 pre:N.take P.length=P
 par:∀x∈P,sc.names.lookup x=some .local\/sc.names.lookup x=some .cell
 nofree:∀y∈sc.names,y.2≠.free

section
variable {kindOf:Str->Option YbC}{x:Str}
def jfD:∀{binds:List (Str×Value)} {m:Str->Option Value},(∀v,(x,v)∉binds)->bindL kindOf binds m x=m x
 |[],_,_=>rfl
 |(n,v)::r,m,h=>by
  unfold bindL;rw[jfD λw hw=>h w (Yai _ hw)];split
  ·have:x≠n:=by rintro rfl;exact h v Yat
   simp[this]
  ·rfl
def jfF:∀{binds:List (Str×Value)} {m:Str->Option Value},(∀v,(x,v)∉binds)->bindC kindOf binds m x=m x
 |[],_,_=>rfl
 |(n,v)::r,m,h=>by
  unfold bindC;rw[jfF λw hw=>h w (Yai _ hw)];split
  ·rfl
  ·have:x≠n:=by rintro rfl;exact h v Yat
   simp[this]
def jfE {v:Value}:∀{P:List Str} {vs:List Value} {i:Nat} {m:Str->Option Value},P.Nodup->P[i]?=some x->vs[i]?=some v->kindOf x=some .local->
  bindL kindOf (P.zip vs) m x=some v
 |[],_,_,_,_,h,_,_=>by simp at h
 |_::_,[],_,_,_,_,h,_=>by simp at h
 |p::P,w::vs,0,m,nd,h1,h2,hk=>by
  simp at h1 h2;subst h1;subst h2;show bindL kindOf ((p,w)::P.zip vs) m p=_;unfold bindL;rw[jfD λv hv=>(List.nodup_cons.mp nd).1 (Yec hv).1,if_pos hk];simp
 |p::P,w::vs,i+1,m,nd,h1,h2,hk=>by
  show bindL kindOf ((p,w)::P.zip vs) m x=_;unfold bindL;exact jfE (i:=i) (List.nodup_cons.mp nd).2 (by simpa using h1) (by simpa using h2) hk
def jfG {v:Value}:∀{P:List Str} {vs:List Value} {i:Nat} {m:Str->Option Value},P.Nodup->P[i]?=some x->vs[i]?=some v->kindOf x≠some .local->
  bindC kindOf (P.zip vs) m x=some v
 |[],_,_,_,_,h,_,_=>by simp at h
 |_::_,[],_,_,_,_,h,_=>by simp at h
 |p::P,w::vs,0,m,nd,h1,h2,hk=>by
  simp at h1 h2;subst h1;subst h2;show bindC kindOf ((p,w)::P.zip vs) m p=_;unfold bindC;rw[jfF λv hv=>(List.nodup_cons.mp nd).1 (Yec hv).1,if_neg hk];simp
 |p::P,w::vs,i+1,m,nd,h1,h2,hk=>by
  show bindC kindOf ((p,w)::P.zip vs) m x=_;unfold bindC;exact jfG (i:=i) (List.nodup_cons.mp nd).2 (by simpa using h1) (by simpa using h2) hk

end
noncomputable def start (N:List Str)(vs:List V):St:=vs.map some++Yad (N.length-vs.length) none

noncomputable def cxOf (CX:CXT)(P:Program)(w:World)(K:Yac)(mg:Str->Option Value)(base:Heap)(N:List Str)(qual:Str)(scope:Scope)(f:Addr)(cd:Value)(A:Around)(outer:List Env)(s:Shared)(H:Hp)(E:XK):Cx where
 prog:=P
 w:=w
 K:=K
 mg:=mg
 base:=base
 A:=A.deeper (envOfC qual scope s.heap.objs.size f cd)
 N:=N
 s₀:=s
 H₀:=H
 env:=envOfC qual scope s.heap.objs.size f cd
 outer:=outer
 stack:=envOfC qual scope s.heap.objs.size f cd::outer
 ex:=[]
 calm:=true
 fn:=λ_=>true
 pn:=[]
 xe:=λe s'=>wpAny (model P w) (A.deeper (envOfC qual scope s.heap.objs.size f cd)) (leaving (envOfC qual scope s.heap.objs.size f cd) e) (λ_ s''=>CX outer H s E e s'') (λe' s''=>CX outer H s E e' s'') s'

def jeN {sc:Scope}{n:Nat}{x:Str}(h:sc.names.lookup x=some .cell):∃c,(Ybp n sc.names []).lookup x=some c:=by
 have q:=Yew sc.names n [] (.inl h);exact Option.isSome_iff_exists.mp q

section
variable {CX:CXT}{P:Program}{w:World}{K:Yac}{mg:Str->Option Value}{base:Heap}
def jiq {N ps:List Str}{qual:Str}{scope:Scope}{f:Addr}{cd:Value}{A:Around}{outer:List Env}{s s1:Shared}{H:Hp}{E:XK}{us:List Value}{vs:List V}
  (S:FnScope N ps scope) (hd:A.handled=none) (e0:Env0 P w K mg base A outer s H) (hl:vs.length=ps.length) (r:Vals vs us)
  (x:InCallC s s.heap.objs.size (bindL (envOfC qual scope s.heap.objs.size f cd).kindOf (ps.zip us) λ_=>none) (Ybp (s.heap.objs.size+1) scope.names []) (bindC (envOfC qual scope s.heap.objs.size f cd).kindOf (ps.zip us) λ_=>none) s1) :
  Inv (cxOf CX P w K mg base N qual scope f cd A outer s H E) [] (start N vs) H s1:=by
 have hpl:ps.length<=N.length:=by have:=congrArg Yef S.pre;rw[Ybn]at this;omega
 obtain⟨h1,tk,rfl,hk⟩:=x.done;have noA:∀b:Addr,b∉(cxOf CX P w K mg base N qual scope f cd A outer s H E).ex:=λb z=>absurd (show b∈([]:List Addr)from z) (by simp)
 refine⟨⟨e0.mod,S.kind,rfl,rfl,Yaf _,λy z c h1 h2=>?_,λy hy=>?_,λy c _ h=>?_,λ_=>hd,Around.frames_deeper e0.frames,.inr ⟨rfl,rfl⟩,λb z=>absurd z (noA b),e0.bs,e0.bsz,λb _ _=>noA b,λb z=>absurd z (noA b),e0.funs,e0.frf⟩,
  rfl,e0.bare,Un.kept hk,⟨_,x.toInCall.ns,λi y v h1 h2 h3=>?_⟩,λy c h=>⟨_,x.cell y c h⟩,e0.hok.fresh (Yaf _),λy c h=>?_,λp hp=>absurd (show p∈([]:List (Addr×Obj))from hp) (by simp),e0.hok.kept hk,?_⟩
 ·exact name_of_addr x.apart (YaJ h1) (YaJ h2)
 ·have hy:scope.names.lookup y=some .cell\/scope.names.lookup y=some .free:=hy;rcases hy with hy|hy
  ·exact jeN hy
  ·exact absurd rfl (S.nofree _ (YaJ hy))
 ·exact Yci (x.above y c (YaJ h))
 ·have hi:i<vs.length:=by
   unfold start at h2;by_cases hi:i<vs.length
   ·exact hi
   ·rw[Ybv (by simpa using hi)]at h2
    rw[YeJ]at h2;split at h2<;>cases h2
  have ha:vs[i]?=some v:=by
   unfold start at h2;rw[YaN (by simpa using hi),Yal]at h2
   cases e:vs[i]? with
   |none=>rw[e]at h2;cases h2
   |some a=>rw[e]at h2;cases h2;rfl
  obtain⟨u,hu,rv⟩:=r.get ha;have hp:ps[i]?=some y:=by
   rw[<- S.pre,List.getElem?_take_of_lt (by omega)];exact h1
  have ndP:ps.Nodup:=by rw[<- S.pre];exact S.nd.sublist (YfM _ _)
  refine⟨u,rv,?_⟩;rcases S.par y (Yam hp)with k|k
  ·exact .inl ⟨k,jfE ndP hp hu k⟩
  ·obtain⟨c,e⟩:=jeN (n:=s.heap.objs.size+1) k;refine .inr ⟨.inl k,c,e,?_⟩;have q:=x.cell y c e;rw[jfG ndP hp hu (by show scope.names.lookup y≠_;rw[k];decide)]at q
   exact q
 ·exact e0.hok.fresh (Yci (x.above y c (YaJ h)))
 ·unfold start;show _=N.length;rw[YaD,Yaa,List.length_replicate];omega

def jqH {k:Nat}{f:Addr}{name qual:Str}{params:Yf7}{body:List Stmt}{scope:Scope}{dV kV doc pm cdv ct oc:Value}{an od:Option Addr}
  {osl:Array (Option Value)} {N ps:List Str} {sp:Sp} (lk:K.lookup f=some ⟨oc,od,.func (YbI name qual params body scope dV kV doc pm an cdv ct),osl⟩) (hcd:YcF K cdv qual=true) (S:FnScope N ps scope)
  (len:∀vs H Q E,sp vs H Q E->vs.length=ps.length)
  (hbody:∀(A:Around) (outer:List Env) (s:Shared) (H:Hp) (vs:List V) (Q:VK) (E:XK),Room k (A.deeper (envOfC qual scope s.heap.objs.size f cdv))->sp vs H Q E->
   ∃t,PSs (cxOf CX P w K mg base N qual scope f cdv A outer s H E) body t/\t { nx:=λ_ H'=>Q .non H',rt:=Q } (start N vs) H) :
  FnOk P w K mg base CX (k+1) f (YbI name qual params body scope dV kV doc pm an cdv ct) ps sp:=by
 refine⟨len,λA outer s H args us vs Q E hr e0 hb r hsp=>?_⟩;have hl:=len _ _ _ _ hsp;have KX:K.In s.heap:=e0.mod.kin.keeps λb o e=>(e0.bs b o e).1;have lim:s.heap.NoLimit:=e0.mod.nolimit.keeps λb o e=>(e0.bs b o e).1;have hkind:∀y∈ps.zip us,scope.names.lookup y.1=some .local\/(scope.names.lookup y.1=some .cell/\((Ybp (s.heap.objs.size+1) scope.names []).lookup y.1).isSome=true):=λ⟨n,v⟩ hy=>by
  rcases S.par n (Yec hy).1 with q|q
  ·exact .inl q
  ·exact .inr ⟨q,Yew _ _ _ (.inl q)⟩
 refine codeAny_call_function hr.depth (KX _ _ lk) rfl S.co S.gen rfl (PySem.W.codeRec_of KX hcd) (hb _ _ _ _ ?_);refine wpAny_newFunctionEnv_cells S.kind hkind λenv he s1 x=>?_;subst he;refine⟨lim.keeps x.toInCall.keep,codeAny_func ?_⟩;obtain⟨t,ht,hq⟩:=hbody A outer s H vs Q E (hr.deeper _) hsp;have I:Inv (cxOf CX P w K mg base N qual scope f cdv A outer s H E) [] (start N vs) H s1:=jiq S hr.hd e0 hl r x;refine Ybm (ht [] s1 (start N vs) H _ I hq) (λfl s' hs=>?_) λe s' hs=>hs;have fin:∀{σ':St} {H':Hp} {v:V} {u:Value},Inv (cxOf CX P w K mg base N qual scope f cdv A outer s H E) [] σ' H' s'->RelV v u->Q v H'->CE outer P w H s Q u s':=
  λ{σ' H' v u} J rv q=>⟨v,H',J.os,J.bare,J.base,J.hok,rv,q⟩
 cases fl with
 |ret u=>
  obtain⟨v,σ',H',J,rv,q⟩:=hs;exact fin J rv q
 |next=>
  obtain⟨σ',H',J,q⟩:=hs;exact fin (v:=V.non) (u:=YaU) J rfl q
 |brk=>
  obtain⟨_,_,_,q⟩:=hs;exact Yda q
 |cont=>
  obtain⟨_,_,_,q⟩:=hs;exact Yda q
end
section
variable {X:Cx}{x:Str}{p pos:Pos}{e:Expr}{es:List Expr}{t:TA}{id T:String}{r:List V->Hp->VK->Prop}

def tCB (r:List V->Hp->VK->Prop)(t:TA):TE:=λσ H Q=>t σ H λvs H1=>r vs H1 Q
def jjx (hc:ja7 X (.builtin id) r)(hg:Gl X x)(hm:X.mg x=none)(hv:Yca x=some (.builtin id))(ha:PA X (e::es) t)(hn:x ≠ "__name__" := by decide)(hdb:(x==("__debug__" : Str))=false:=by decide)
  (he:YaP (e::es) X.env=(false,eval e X.env)::YaP es X.env:=by rfl) (hpl:(backTo pos (YaP es X.env)).any (·.1)=false:=by rfl):PE X (.Call (.Name x p) (e::es) [] pos) (tCB r t):=by
 intro pins s σ H Q I h;refine YcQ (jfj I hg hm hv ?_ hn hdb);exact PyProof.Rows.callWith_builtin1 (thn (ha pos pins s σ H _ I h) λus s1 ⟨vs,H1,I1,r1,q1⟩=>hc pins s1 σ H1 vs us Q I1 r1 q1) he hpl
def jcn (hc:ja7 X (.type T) r)(hg:Gl X x)(hm:X.mg x=none)(hv:Yca x=some (.type T))(ha:PA X (e::es) t)(hn:x ≠ "__name__" := by decide)(hdb:(x==("__debug__" : Str))=false:=by decide)
  (he:YaP (e::es) X.env=(false,eval e X.env)::YaP es X.env:=by rfl) (hpl:(backTo pos (YaP es X.env)).any (·.1)=false:=by rfl):PE X (.Call (.Name x p) (e::es) [] pos) (tCB r t):=by
 intro pins s σ H Q I h;refine YcQ (jfj I hg hm hv ?_ hn hdb);exact Ycp (thn (ha pos pins s σ H _ I h) λus s1 ⟨vs,H1,I1,r1,q1⟩=>hc pins s1 σ H1 vs us Q I1 r1 q1) he hpl
end
end L2

namespace HT
open PySem PyProof.Rows

noncomputable def lexLt:List Int->List Int->Bool
 |[],[]=>false
 |[],_::_=>true
 |_::_,[]=>false
 |x::xs,y::ys=>if x=y then lexLt xs ys else decide (x<y)
def lexLt_cons (x y:Int)(xs ys:List Int):lexLt (x::xs) (y::ys)=if x=y then lexLt xs ys else decide (x<y):=rfl
def lexLt_nil_nil:lexLt [] []=false:=rfl
def lexLt_nil_cons (y:Int)(ys:List Int):lexLt [] (y::ys)=true:=rfl
def lexLt_cons_nil (x:Int)(xs:List Int):lexLt (x::xs) []=false:=rfl

def eqAt_int (A:Around)(s:Shared)(a:Int)(t:Tok)(c:Int)(u:Tok):∃e,Yev A s (.int a t) (.int c u) e/\(e=true↔a=c):=
 ⟨(a==c),YeB a t c u,by simp⟩
def rcLt_int (A:Around)(s:Shared)(a:Int)(t:Tok)(c:Int)(u:Tok)(prog:Program)(w:World)(E:Value->Shared->Prop)(Q:Value->Shared->Prop)(h:Q (.bool (decide (a<c))) s) :
  wpAny (model prog w) A (richCompare .Lt (.int a t) (.int c u)) Q E s:=
 (PyProof.Rows.lt_int h:wpAny (model prog w) A (YaV .Lt (.int a t) (.int c u)) Q E s)

section
open PySem.SeqAt
open PySem.AutoSeq1 (wpAny_loadPart')
open PySem.MeetsSeq PySem.MeetsSeq2 PySem.MeetsSeq3

end

section
variable {prog:Program}{w:World}{A:Around}{E:Value->Shared->Prop}{s:Shared}

def cat_tup {t b:Addr}{vs ws:List Value}{Q:Value->Shared->Prop}(ht:IsTup s.heap t vs.toArray)(hb:IsTup s.heap b ws.toArray)(hv:vs≠[])
  (h1:ws=[]->Q (.ref t) s) (h2:ws≠[]->Q (.ref s.heap.objs.size) { s with heap:=s.heap.push { cls:=.type "tuple",data:=.seq (vs++ws).toArray } })
  (hsz:vs.length+ws.length<=Yak):wpAny (model prog w) A (Ybj .Add (.ref t) (.ref b)) Q E s:=by
 obtain⟨⟨cls,dd,data,sl⟩,ho,hc,n,hd⟩:=id ht;obtain⟨⟨cls2,dd2,data2,sl2⟩,ho2,hc2,n2,hd2⟩:=id hb;simp only at hc hd hc2 hd2;subst hc hd hc2 hd2;have e:vs.toArray++ws.toArray=(vs++ws).toArray:=by simp
 by_cases hw:ws=[]
 ·exact YfZ ⟨_,ho,rfl⟩ ⟨_,ho2,rfl⟩ Yey Yfq YcO YcM (YcG _ _)
   (tuple_addW1 t b vs.toArray ws.toArray n n2 dd dd2 sl sl2 (by simpa using hv) (by simp[hw])) ⟨ho,ho2,h1 hw⟩
 ·refine YfZ ⟨_,ho,rfl⟩ ⟨_,ho2,rfl⟩ Yey Yfq YcO YcM (YcG _ _)
   (tuple_addW2 t b vs.toArray ws.toArray n n2 dd dd2 sl sl2 (by simpa using hv) (by simpa using hw) (by rw[Yaj,Yaj];exact hsz)) ⟨ho,ho2,?_⟩
  rw[e];exact h2 hw

noncomputable def sIx (n d:Nat):Option Int->Nat
 |none=>d
 |some v=>if v<0 then (v+(n:Int)).toNat else min v.toNat n
def sIx_none (n d:Nat):sIx n d none=d:=rfl
def sIx_nat (n d k:Nat):sIx n d (some (k:Int))=min k n:=by
 show(if (k:Int)<0 then ((k:Int)+(n:Int)).toNat else min (k:Int).toNat n)=min k n
 rw[if_neg (by omega),Ybc]
def jne (n d:Nat)(hd:d<=n)(o:Option Int):sIx n d o<=n:=by
 cases o with
 |none=>exact hd
 |some v=>
  show(if v<0 then (v+(n:Int)).toNat else min v.toNat n)<=n
  by_cases hv:v<0
  ·rw[if_pos hv];omega
  ·rw[if_neg hv];exact Nat.min_le_right _ _
def jiP (v:Int)(n d:Nat):(if v<0 then max (v+(n:Int)) 0 else min v (n:Int))=((sIx n d (some v):Nat):Int):=by
 show(if v<0 then max (v+(n:Int)) 0 else min v (n:Int))=(((if v<0 then (v+(n:Int)).toNat else min v.toNat n):Nat):Int)
 by_cases hv:v<0
 ·simp only[if_pos hv];omega
 ·simp only[if_neg hv];omega
def jhw (lo hi:Option Int)(n:Nat):Ybq lo hi 1 (n:Int)=(((sIx n 0 lo:Nat):Int),((sIx n n hi:Nat):Int)):=by
 have h1:¬((1:Int)<0):=by omega
 unfold Ybq;simp only[h1,if_false];refine Ydd ?_ ?_
 ·cases lo with
  |none=>rfl
  |some v=>exact jiP v n 0
 ·cases hi with
  |none=>rfl
  |some v=>exact jiP v n n
def jhd (i j:Nat):YaY (i:Int) (j:Int) 1=j-i:=by
 unfold YaY;have h1:(1:Int)>0:=by omega
 simp only[h1,if_true,Yfd];split<;>omega
def jba {v:Value}{o:Option Int}{Q:Option Int->Shared->Prop}(p:IsPart v o)(h:Q o s):wpAny (model prog w) A (Builtin.Slice.slicePartIndex v) Q E s:=by
 cases p with
 |none=>exact slicePart_none h
 |int i t=>exact slicePart_int h
def jbw {sl:Addr}{vl vu:Value}{lo hi:Option Int}{n:Nat}{Q:Int×Int×Nat->Shared->Prop}(hs:s.heap.IsSliceOf sl vl vu .none)(pl:IsPart vl lo)(pu:IsPart vu hi)
  (h:Q (((sIx n 0 lo:Nat):Int),1,sIx n n hi-sIx n 0 lo) s):wpAny (model prog w) A (YbF (.ref sl) (pure (n:Int))) Q E s:=by
 obtain⟨os,hos,hcs,hds⟩:=id hs;unfold YbF Ydw;refine Yag (Yag (Yb9 hos hds (x:=vl) rfl (Yag (Yb9 hos hds (x:=vu) rfl (Yag (Yb9 hos hds (x:=.none) rfl (Yar ?_)))))));refine Yag (slicePart_none ?_);show wpAny _ _ (if ((1:Int)==0)=true then _ else _) _ _ s
 rw[if_neg (by decide)]
 refine Yag (jba pl (Yag (jba pu (Yag (Yar ?_)))));show wpAny _ _ (match Ybq lo hi 1 (n:Int)with|(lo,hi)=>pure (lo,(1:Int),YaY lo hi 1)) _ _ s
 rw[jhw lo hi n];show wpAny _ _ (pure (((sIx n 0 lo:Nat):Int),(1:Int),YaY ((sIx n 0 lo:Nat):Int) ((sIx n n hi:Nat):Int) 1)) _ _ s;rw[jhd];exact Yar h
def jjq (xs:Array Value)(i k:Nat):((YaK k).filterMap λ(m:Nat)=>xs[((i:Int)+(m:Int)*1).toNat]?).toArray=((xs.toList.drop i).take k).toArray:=by
 have e:(λ(m:Nat)=>xs[((i:Int)+(m:Int)*1).toNat]?)=λm=>xs[i+m]?:=by
  funext m;have:((i:Int)+(m:Int)*1).toNat=i+m:=by omega
  rw[this]
 rw[e];have:=pick_run xs i k;rw[YfB]at this;have e2:((λx=>xs[x]?) ∘ λx=>i+x)=λm=>xs[i+m]?:=rfl;rw[e2]at this;rw[this]

def getItem_tuple_cut {t sl:Addr}{items:Array Value}{vl vu:Value}{lo hi:Option Int}{Q:Value->Shared->Prop}(ht:IsTup s.heap t items)(hs:s.heap.IsSliceOf sl vl vu .none)(pl:IsPart vl lo)(pu:IsPart vu hi)
  (hw:¬(sIx items.size 0 lo=0/\sIx items.size items.size hi=items.size))
  (h:Q (.ref s.heap.objs.size) { s with heap:=s.heap.push { cls:=.type "tuple",data:=.seq ((items.toList.drop (sIx items.size 0 lo)).take (sIx items.size items.size hi-sIx items.size 0 lo)).toArray } })
  (hsz:items.size<=Yak):wpAny (model prog w) A (getItem (.ref t) (.ref sl)) Q E s:=by
 have htake:sizeOk (.seq ((items.toList.drop (sIx items.size 0 lo)).take (sIx items.size items.size hi-sIx items.size 0 lo)).toArray):=by
  show((items.toList.drop (sIx items.size 0 lo)).take (sIx items.size items.size hi-sIx items.size 0 lo)).toArray.size<=Yak;rw[Yaj,Ybn,YcW,YbB];omega
 have hj:sIx items.size items.size hi<=items.size:=jne _ _ (Yaf _) hi;obtain⟨os,hos,hcs,hds⟩:=id hs;have hTs:s.TypeIs (.ref sl) "slice" := ⟨os,hos,hcs⟩;unfold getItem
 try with_reducible refine Ybh ?_
 first|refine Yag (Yar ?_)|skip
 refine Yag (Yei ht.typeIs (by decide) ?_)
 refine Yag (Ycs (name:=YbR "__getitem__") ht.typeIs Ya3
  (YcD Ya3 ht.typeIs YdI ?_ (Yd0 _ _)))
 show wpAny _ _ (Ycu (.ref t) >>= _) _ _ s;refine Yag (Yfp ht ?_);refine Yag (Yet hTs ?_);rw[if_pos (by decide)]
 refine Yag (jbw hs pl pu ?_);have hno:¬((((sIx items.size 0 lo:Nat):Int)==0&&(1:Int)==1&&(sIx items.size items.size hi-sIx items.size 0 lo)==items.size)=true):=by
  intro q;rw[YaE,YaE]at q;have q1:((sIx items.size 0 lo:Nat):Int)=0:=eq_of_beq q.1.1;have q2:sIx items.size items.size hi-sIx items.size 0 lo=items.size:=eq_of_beq q.2;exact hw ⟨by omega,by omega⟩
 show wpAny _ _ (if (((sIx items.size 0 lo:Nat):Int)==0&&(1:Int)==1&&(sIx items.size items.size hi-sIx items.size 0 lo)==items.size)=true then _ else _) _ _ s
 rw[if_neg hno,jjq]
 first
  |exact Yag (m:=YaZ _) (Ya6 (Yar ⟨_,rfl,Yar h⟩) htake)
  |exact Yag (m:=YaZ _) (Ya6 (Yag (Yar (Yar ⟨_,rfl,Yar h⟩))) htake)
  |exact Yag (Yag (m:=YaZ _) (Ya6 (Yar (Yar ⟨_,rfl,Yar h⟩)) htake))
  |exact Yag (Yag (m:=YaZ _) (Ya6 (Yar ⟨_,rfl,Yar h⟩) htake))
end
end HT

namespace L2
open PySem PySem.Spec PyProof.Rows

abbrev TO:=St->Hp->(Option Int->Hp->Prop)->Prop
def PO (X:Cx)(e:Option Expr)(t:TO):Prop:=
 ∀(pins:List (Addr×Obj)) (s:Shared) (σ:St) (H:Hp) (Q:Option Int->Hp->Prop),Inv X pins σ H s->t σ H Q->
  wpAny (model X.prog X.w) X.A (evalPart e X.env) (λu s'=>∃o H',Inv X pins σ H' s'/\IsPart u o/\Q o H') X.xe s
def jk3:TO:=λ_ H Q=>Q none H
def jpL (t:TE):TO:=λσ H Q=>t σ H λx H1=>∃i,x=.int i/\Q (some i) H1

section
variable {X:Cx}{e:Expr}{te:TE}{lo hi:Option Expr}{tl th:TO}{pos p2:Pos}

def jln:PO X none jk3:=by
 intro pins s σ H Q I h;rw[Yfs];exact Yar ⟨none,H,I,.none,h⟩
def jlm (h:PE X e te):PO X (some e) (jpL te):=by
 intro pins s σ H Q I hw;rw[evalPart_some];refine thn (h pins s σ H _ I hw) λu s1 ⟨x,H1,I1,r1,q1⟩=>?_;obtain⟨i,rfl,q⟩:=q1;obtain⟨t,rfl⟩:=r1;exact⟨some i,H1,I1,.int i t,q⟩

def SlR (X:Cx)(r:V->Option Int->Option Int->Hp->VK->Prop):Prop:=
 ∀(pins:List (Addr×Obj)) (s:Shared) (σ:St) (H:Hp) (x:V) (v vl vu:Value) (lo hi:Option Int) (sl:Addr) (Q:VK),Inv X pins σ H s->RelV x v->s.heap.IsSliceOf sl vl vu .none->IsPart vl lo->IsPart vu hi->r x lo hi H Q->
  ∃T id,typeLookup (.type T) "__getitem__" = pure (some (.builtin id))/\s.TypeIs v T/\wpAny (model X.prog X.w) X.A (getItem v (.ref sl)) (EP X pins σ Q) X.xe s
def SlR.or {r r':V->Option Int->Option Int->Hp->VK->Prop}(h:SlR X r)(h':SlR X r'):SlR X (λx lo hi H Q=>r x lo hi H Q\/r' x lo hi H Q):=by
 intro pins s σ H x v vl vu lo hi sl Q I rx hs pl pu q;rcases q with q|q
 ·exact h pins s σ H x v vl vu lo hi sl Q I rx hs pl pu q
 ·exact h' pins s σ H x v vl vu lo hi sl Q I rx hs pl pu q
def tSl (r:V->Option Int->Option Int->Hp->VK->Prop)(te:TE)(tl th:TO):TE:=λσ H Q=>te σ H λx H1=>tl σ H1 λl H2=>th σ H2 λu H3=>r x l u H3 Q
def jjt {r:V->Option Int->Option Int->Hp->VK->Prop}(hr:SlR X r)(he:PE X e te)(hl:PO X lo tl)(hu:PO X hi th):PE X (.Subscript e (.Slice lo hi none p2) pos) (tSl r te tl th):=by
 intro pins s σ H Q I h;refine Subscript_ (thn (he pins s σ H _ I h) λv s1 ⟨x,H1,I1,r1,q1⟩=>?_);refine wpAny_Slice (thn (hl pins s1 σ H1 _ I1 q1) λvl s2 ⟨l,H2,I2,pl,q2⟩=>thn (hu pins s2 σ H2 _ I2 q2) λvu s3 ⟨u,H3,I3,pu,q3⟩=>?_);rw[Yfs];refine Yar ?_;have I4:Inv X pins σ H3 { s3 with heap:=s3.heap.push { cls:=.type "slice",data:=.fields #[vl,vu,.none] } }:=I3.kept (t':=s3.toks) λb ob q=>Yae _ q
 obtain⟨T,id,hT,ht,hg⟩:=hr pins { s3 with heap:=s3.heap.push { cls:=.type "slice",data:=.fields #[vl,vu,.none] } } σ H3 x v vl vu l u s3.heap.objs.size Q I4 r1 (Heap.IsSliceOf.new ..) pl pu q3;show wpAny (model X.prog X.w) X.A (YdV e (.Slice lo hi none p2) v (.ref s3.heap.objs.size)) (EP X pins σ Q) X.xe { s3 with heap:=s3.heap.push { cls:=.type "slice",data:=.fields #[vl,vu,.none] } }
 exact tail_any (ops:=[.ref s3.heap.objs.size,v]) ht hT hg (by with_unfolding_all rfl)

noncomputable def cutV (xs:List V)(lo hi:Option Int):List V:=(xs.drop (HT.sIx xs.length 0 lo)).take (HT.sIx xs.length xs.length hi-HT.sIx xs.length 0 lo)
def jd7 (xs:List V)(lo hi:Option Int):(cutV xs lo hi).length<=xs.length:=by
 unfold cutV;rw[Ybn,YcW];omega
def rSlT (K:Yac):V->Option Int->Option Int->Hp->VK->Prop:=λx lo hi H Q=>∃a xs,x=.ref a/\SqT K H a xs/\
 ¬(HT.sIx xs.length 0 lo=0/\HT.sIx xs.length xs.length hi=xs.length)/\∀p,H p=none->Q (.ref p) (upd H p (.tup (cutV xs lo hi)))
def jm5:SlR X (rSlT X.K):=by
 intro pins s σ H x v vl vu lo hi sl Q I rx hs pl pu h;obtain⟨a,xs,rfl,hx,hw,q⟩:=h;cases rx;obtain⟨its,r,ht,hz⟩:=I.tuple hx;have hlen:its.toArray.size=xs.length:=by rw[Yaj];exact r.length.symm
 refine⟨"tuple",_,Ya3.lookup,ht.typeIs,?_⟩;refine HT.getItem_tuple_cut ht hs pl pu (by rw[hlen];exact hw) ?_ (by rw[hlen];exact hz)
 rw[hlen];refine⟨.ref s.heap.objs.size,_,I.laid (t':=s.toks) (o:=.tup (cutV xs lo hi)) (λb ob q=>Yae _ q) (Yaf _) ?_,rfl,q _ (I.hok.fresh (Yaf _))⟩;exact⟨Yah (jd7 xs lo hi) hz,_,(r.drop (HT.sIx xs.length 0 lo)).take (HT.sIx xs.length xs.length hi-HT.sIx xs.length 0 lo),TupD.new _ _⟩

def jp7 (K:Yac):R2:=λx y H Q=>∃a b xs ys,x=.ref a/\y=.ref b/\SqT K H a xs/\SqT K H b ys/\xs≠[]/\xs.length+ys.length<=Yak/\
 (ys=[]->Q (.ref a) H)/\(ys≠[]->∀p,H p=none->Q (.ref p) (upd H p (.tup (xs++ys))))
def Vals.nil_iff {xs:List V}{us:List Value}(r:Vals xs us):us=[]↔xs=[]:=by
 cases r with
 |nil=>simp
 |cons _ _=>simp
def jlG:OpR X (Ybj .Add) (jp7 X.K):=by
 intro pins s σ H x y v u Q I rx ry h;obtain⟨a,b,xs,ys,rfl,rfl,ha,hb,hx,hz,q1,q2⟩:=h;cases rx;cases ry;obtain⟨its,r1,p1,_⟩:=I.tuple ha;obtain⟨its2,r2,p2,_⟩:=I.tuple hb;refine HT.cat_tup p1 p2 (λz=>hx (r1.nil_iff.mp z)) (λz=>⟨.ref a,H,I,rfl,q1 (r2.nil_iff.mp z)⟩) (λz=>?_) (by rw[<- r1.length,<- r2.length];exact hz)
 refine⟨.ref s.heap.objs.size,_,I.laid (t':=s.toks) (o:=.tup (xs++ys)) (λb ob q=>Yae _ q) (Yaf _) ?_,rfl,q2 (λw=>z (r2.nil_iff.mpr w)) _ (I.hok.fresh (Yaf _))⟩;exact⟨by rw[YaD];exact hz,_,r1.append r2,TupD.new _ _⟩
end

noncomputable def ixN (n:Nat)(i:Int):Option Nat:=if 0<=i then (if i<n then some i.toNat else none) else if -(n:Int)<=i then some (i+n).toNat else none
noncomputable def atI {α:Type}(xs:List α)(i:Int):Option α:=(ixN xs.length i).bind λj=>xs[j]?
def jio {n:Nat}{i:Int}{j:Nat}(h:ixN n i=some j):YfW i n=some j/\j<n/\-(n:Int)<=i/\i<n:=by
 unfold ixN at h;by_cases h0:0<=i
 ·rw[if_pos h0]at h;by_cases h1:i<n
  ·rw[if_pos h1]at h;have e:i.toNat=j:=Yao h;exact⟨by rw[seqIndex_of h0 h1,e],by omega,by omega,h1⟩
  ·rw[if_neg h1]at h;cases h
 ·rw[if_neg h0]at h;by_cases h1:-(n:Int)<=i
  ·rw[if_pos h1]at h;have e:(i+n).toNat=j:=Yao h;exact⟨by rw[YfV (by omega) h1,e],by omega,h1,by omega⟩
  ·rw[if_neg h1]at h;cases h
def jf9 {α:Type}{xs:List α}{i:Int}{v:α}(h:atI xs i=some v):∃j,YfW i xs.length=some j/\xs[j]?=some v/\j<xs.length/\-(xs.length:Int)<=i/\i<xs.length:=by
 unfold atI at h;cases e:ixN xs.length i with
 |none=>rw[e]at h;cases h
 |some j=>
  rw[e]at h;obtain⟨h1,h2,h3,h4⟩:=jio e;exact⟨j,h1,h,h2,h3,h4⟩
def jat {α:Type}{xs:List α}{j:Nat}{v:α}(h:xs[j]?=some v):atI xs (j:Int)=some v:=by
 have hj:j<xs.length:=(List.getElem?_eq_some_iff.mp h).1;have e:ixN xs.length (j:Int)=some j:=by
  unfold ixN;rw[if_pos (by omega),if_pos (by omega)];simp
 unfold atI;rw[e];exact h
def jgb (b:Expr):Prop:=∀o i,subscripted b false o i=operate [o,i] (getItem o i)
def IxR (X:Cx)(r:R2):Prop:=
 ∀(value slice:Expr) (pins:List (Addr×Obj)) (s:Shared) (σ:St) (H:Hp) (x y:V) (v u:Value) (Q:VK),Inv X pins σ H s->RelV x v->RelV y u->r x y H Q->
  subscripted slice false v u=operate [v,u] (getItem v u)->wpAny (model X.prog X.w) X.A (YdV value slice v u) (EP X pins σ Q) X.xe s
def MtR (X:Cx)(id:String)(r:V->List V->Hp->VK->Prop):Prop:=
 ∀(pins:List (Addr×Obj)) (s:Shared) (σ:St) (H:Hp) (x:V) (xs:List V) (v:Value) (us:List Value) (Q:VK),Inv X pins σ H s->RelV x v->Vals xs us->r x xs H Q->
  wpAny (model X.prog X.w) X.A (call (.builtin id) (v::us)) (EP X pins σ Q) X.xe s
section
variable {X:Cx}{a b:Expr}{ta tb:TE}{pos:Pos}
def IxR.or {r r':R2}(h:IxR X r)(h':IxR X r'):IxR X (λx y H Q=>r x y H Q\/r' x y H Q):=by
 intro value slice pins s σ H x y v u Q I rx ry q hs;rcases q with q|q
 ·exact h value slice pins s σ H x y v u Q I rx ry q hs
 ·exact h' value slice pins s σ H x y v u Q I rx ry q hs
def MtR.or {id:String}{r r':V->List V->Hp->VK->Prop}(h:MtR X id r)(h':MtR X id r'):MtR X id (λx xs H Q=>r x xs H Q\/r' x xs H Q):=by
 intro pins s σ H x xs v us Q I rx rs q;rcases q with q|q
 ·exact h pins s σ H x xs v us Q I rx rs q
 ·exact h' pins s σ H x xs v us Q I rx rs q
def jqh {r:R2}(hr:IxR X r)(ha:PE X a ta)(hb:PE X b tb)(hs:jgb b):PE X (.Subscript a b pos) (tOp r ta tb):=by
 intro pins s σ H Q I h;exact Subscript_ (binT ha hb I h λv u s2 x y H2 I2 rx ry q=>hr a b pins s2 σ H2 x y v u Q I2 rx ry q (hs _ _))

def rIxL (K:Yac):R2:=λx y H Q=>∃p xs i v,x=.ref p/\y=.int i/\SqL K H p xs/\atI xs i=some v/\Q v H
def rIxT (K:Yac):R2:=λx y H Q=>∃p xs i v,x=.ref p/\y=.int i/\SqT K H p xs/\atI xs i=some v/\Q v H
def rIxS:R2:=λx y H Q=>∃z i c,x=.str z/\y=.int i/\z.length<=Yak/\atI z.cps.toList i=some c/\Q (.str ⟨#[c]⟩) H
def jma:IxR X (rIxL X.K):=by
 intro value slice pins s σ H x y v u Q I rx ry h hs;obtain⟨p,xs,i,z,rfl,rfl,hq,he,q⟩:=h;cases rx;obtain⟨t,rfl⟩:=ry;obtain⟨its,r,pl,hz⟩:=I.list hq;obtain⟨j,h1,h2,h3,h4,h5⟩:=jf9 he;obtain⟨w,ew,rw'⟩:=r.get h2;have hl:=r.length;have hn:=jdL;have fin:EP X pins σ Q w s:=⟨z,H,I,rw',q⟩;by_cases h0:0<=i
 ·have hj:i.toNat=j:=by
   rw[seqIndex_of h0 h5]at h1;exact Yao h1
  exact item_listR pl.isList h0 (by omega) (by rw[hj];simpa using ew) fin hs
 ·have hj:(i+(its.toArray.size:Int)).toNat=j:=by
   rw[YfV (by omega) h4]at h1
   rw[Yaj,<- hl];exact Yao h1
  exact YfH (x:=w) pl.isList.typeIs slot_list_getitem.lookup
   (wpAny_getItem_list_neg (Q:=λr s'=>r=w/\EP X pins σ Q r s') pl.isList (by omega) (by rw[Yaj]<;>omega) (by omega) (by rw[hj];simpa using ew) ⟨rfl,fin⟩) hs
def jom:IxR X (rIxT X.K):=by
 intro value slice pins s σ H x y v u Q I rx ry h hs;obtain⟨p,xs,i,z,rfl,rfl,hq,he,q⟩:=h;cases rx;obtain⟨t,rfl⟩:=ry;obtain⟨its,r,pl,hz⟩:=I.tuple hq;obtain⟨j,h1,h2,h3,h4,h5⟩:=jf9 he;obtain⟨w,ew,rw'⟩:=r.get h2;have hl:=r.length;have hn:=jdL;have fin:EP X pins σ Q w s:=⟨z,H,I,rw',q⟩;exact YfH (x:=w) pl.typeIs slot_tuple_getitem.lookup
  (getItem_tuple (j:=j) (Q:=λr s'=>r=w/\EP X pins σ Q r s') pl (by omega) (by omega) (by rw[Yaj,<- hl];exact h1) (by simpa using ew) ⟨rfl,fin⟩) hs
def jon:IxR X rIxS:=by
 intro value slice pins s σ H x y v u Q I rx ry h hs;obtain⟨z,i,c,rfl,rfl,hz,he,q⟩:=h;obtain⟨t,rfl⟩:=rx;obtain⟨t',rfl⟩:=ry;obtain⟨j,h1,h2,h3,h4,h5⟩:=jf9 he;have hl:z.cps.toList.length=z.length:=by simp[Str.length]
 rw[hl]at h1 h4 h5;have hn:=jdL;exact tail_any (Yej s z t) slot_str_getitem.lookup (getItem_str (c:=c) (by
  have e1:decide (i < -(2 ^ 63:Int))=false:=decide_eq_false (by omega)
  have e2:decide (i ≥ 2 ^ 63)=false:=decide_eq_false (by omega)
  rw[e1,e2,Bool.or_false]) (by rw[h1];simpa using h2) ⟨.str ⟨#[c]⟩,H,I.tok _,⟨_,rfl⟩,q⟩) hs
def rIx (K:Yac):R2:=λx y H Q=>rIxL K x y H Q\/rIxT K x y H Q\/rIxS x y H Q
def joo:IxR X (rIx X.K):=jma.or (jom.or jon)

def jhl (its:List Value)(n j:Nat)(u:Value):Ycz (·.setIfInBounds j u) { cls:=.type "list",data:=.seq its.toArray n }={ cls:=.type "list",data:=.seq (its.set j u).toArray n }:=by
 simp[Ycz]
section
variable {pins:List (Addr×Obj)}{σ:St}{H:Hp}{s:Shared}{p:Addr}
def Inv.lst {xs:List V}(I:Inv X pins σ H s)(h:H p=some (.lst xs)) :
  ∃(its:List Value) (n:Nat),Vals xs its/\s.heap.get? p=some { cls:=.type "list",data:=.seq its.toArray n }/\xs.length<=Yak:=by
 obtain⟨z,its,n,r,e⟩:=I.hok p _ h;exact⟨its,n,r,e,z⟩
def Inv.lstUpd {xs ys:List V}{its its':List Value}{n n':Nat}{f:Obj->Obj}(I:Inv X pins σ H s)(h:H p=some (.lst xs))
  (ho:s.heap.get? p=some { cls:=.type "list",data:=.seq its.toArray n }) (hf:f { cls:=.type "list",data:=.seq its.toArray n }={ cls:=.type "list",data:=.seq its'.toArray n' }) (r:Vals ys its') (hz:ys.length<=Yak) (t:Nat) :
  Inv X pins σ (upd H p (.lst ys)) { s with heap:=s.heap.update p f,toks:=t }:=by
 have e:(s.heap.update p f).get? p=some { cls:=.type "list",data:=.seq its'.toArray n' }:=by
  rw[Yc9 f ho (by rw[hf]<;>rfl),hf]
 refine I.write (x:=p) (e:=p) (by rw[h];trivial) (.inl rfl) (λb u hb q=>(YcY _ _ (Ne.symm hb)).trans q) ⟨_,e⟩ ?_
 exact⟨hz,its',n',r,e⟩
end
def jnj:V->V->V->Hp->(Hp->Prop)->Prop:=λo i v H Q=>∃p xs k j,o=.ref p/\i=.int k/\H p=some (.lst xs)/\ixN xs.length k=some j/\Q (upd H p (.lst (xs.set j v)))
def ji7:PSet X jnj:=by
 intro pins s σ H o i v ov iv u Q I ro ri rv h;obtain⟨p,xs,k,j,rfl,rfl,hp,hj,q⟩:=h;cases ro;obtain⟨t,rfl⟩:=ri;obtain⟨its,n,r,ho,hz⟩:=I.lst hp;obtain⟨h1,h2,h3,h4⟩:=jio hj;have hl:=r.length;have hn:=jdL;have I':Inv X pins σ (upd H p (.lst (xs.set j v))) { s with heap:=s.heap.update p (Ycz (·.setIfInBounds j u)) }:=
  I.lstUpd hp ho (jhl its n j u) (r.set rv j) (by rw[Ybr];exact hz) s.toks
 by_cases h0:0<=k
 ·have hk:k.toNat=j:=by
   rw[seqIndex_of h0 h4]at h1;exact Yao h1
  exact PySem.W.ki_setAt ho h0 (by omega) (by rw[Yaj,<- hl];exact h4) (by rw[hk];exact⟨_,I',q⟩)
 ·have hk:(k+(its.toArray.size:Int)).toNat=j:=by
   rw[YfV (by omega) h3]at h1
   rw[Yaj,<- hl];exact Yao h1
  exact PySem.W.ki_setBack ho (by omega) (by rw[Yaj,<- hl];exact h3) (by omega) (by rw[hk];exact⟨_,I',q⟩)

def jeZ (lo hi:Option Int)(n:Nat):(Ycl lo hi none n).1=((HT.sIx n 0 lo:Nat):Int)/\(Ycl lo hi none n).2.1=((HT.sIx n n hi:Nat):Int)/\(Ycl lo hi none n).2.2=1:=by
 refine⟨?_,?_,rfl⟩
 ·cases lo with
  |none=>simp[Ycl,HT.sIx]
  |some i=>
   simp only[Ycl,HT.sIx,Yfx,show(1:Int)>0 by decide,if_true]
   by_cases h:i<0
   ·simp only[h,if_true]<;>omega
   ·simp only[h,if_false]<;>omega
 ·cases hi with
  |none=>simp[Ycl,HT.sIx]
  |some i=>
   simp only[Ycl,HT.sIx,Yfx,show(1:Int)>0 by decide,if_true]
   by_cases h:i<0
   ·simp only[h,if_true]<;>omega
   ·simp only[h,if_false]<;>omega
def jeE (its:List Value)(lo hi:Option Int):YdW its.toArray lo hi none=((its.drop (HT.sIx its.length 0 lo)).take (HT.sIx its.length its.length hi-HT.sIx its.length 0 lo)).toArray:=by
 obtain⟨h1,h2,h3⟩:=jeZ lo hi its.toArray.size;unfold YdW;rw[h1,h2,h3];simp only[sliceRange_one,pick_run,Yaj]<;>rfl
def rSlL (K:Yac):V->Option Int->Option Int->Hp->VK->Prop:=λx lo hi H Q=>∃a xs,x=.ref a/\SqL K H a xs/\∀p,H p=none->Q (.ref p) (upd H p (.lst (cutV xs lo hi)))
def jk8:SlR X (rSlL X.K):=by
 intro pins s σ H x v vl vu lo hi sl Q I rx hs pl pu h;obtain⟨a,xs,rfl,hx,q⟩:=h;cases rx;obtain⟨its,r,ht,hz⟩:=I.list hx;have hlen:=r.length;refine⟨"list",_,slot_list_getitem.lookup,ht.isList.typeIs,?_⟩;refine Yc1 ht.isList hs pl pu .none (by simp) ?_ (by rw[Yaj]<;>omega)
 rw[jeE,<- hlen];refine⟨.ref s.heap.objs.size,_,I.laid (t':=s.toks) (o:=.lst (cutV xs lo hi)) (λb ob q=>Yae _ q) (Yaf _) ?_,rfl,q _ (I.hok.fresh (Yaf _))⟩;exact⟨Yah (jd7 xs lo hi) hz,_,0,(r.drop (HT.sIx xs.length 0 lo)).take (HT.sIx xs.length xs.length hi-HT.sIx xs.length 0 lo),Yas _ rfl⟩

noncomputable def jdh:V->Bool
 |.non=>true
 |.bl _=>true
 |.int _=>true
 |.str _=>true
 |_=>false
noncomputable def eqV:V->V->Bool
 |.non,.non=>true
 |.bl a,.bl b=>a==b
 |.bl a,.int b=>(if a then 1 else 0)==b
 |.int a,.bl b=>a==(if b then 1 else 0)
 |.int a,.int b=>a==b
 |.str a,.str b=>a==b
 |_,_=>false
def joD {A:Around}{s:Shared}{y x:V}{u v:Value}(ry:RelV y u)(rx:RelV x v)(fy:jdh y=true)(fx:jdh x=true):Yev A s u v (eqV y x):=by
 cases y with
 |non=>
  cases ry;cases x with
  |non=>cases rx;exact Yev.same _
  |bl b=>cases rx;exact Yev.none_bool b
  |int b=>obtain⟨t,rfl⟩:=rx;exact Yev.none_int b t
  |str b=>obtain⟨t,rfl⟩:=rx;exact Yev.none_str b t
  |_=>exact absurd (show false=true from fx) Yan
 |bl a=>
  cases ry;cases x with
  |non=>cases rx;exact Yev.bool_none a
  |bl b=>cases rx;exact Yev.bool_bool a b
  |int b=>obtain⟨t,rfl⟩:=rx;exact Yev.bool_int a b t
  |str b=>obtain⟨t,rfl⟩:=rx;exact Yev.bool_str a b t
  |_=>exact absurd (show false=true from fx) Yan
 |int a=>
  obtain⟨t',rfl⟩:=ry;cases x with
  |non=>cases rx;exact Yev.int_none a t'
  |bl b=>cases rx;exact Yev.int_bool a t' b
  |int b=>obtain⟨t,rfl⟩:=rx;exact YeB a t' b t
  |str b=>obtain⟨t,rfl⟩:=rx;exact YeA a t' b t
  |_=>exact absurd (show false=true from fx) Yan
 |str a=>
  obtain⟨t',rfl⟩:=ry;cases x with
  |non=>cases rx;exact Yev.str_none a t'
  |bl b=>cases rx;exact Yev.str_bool a t' b
  |int b=>obtain⟨t,rfl⟩:=rx;exact Yez a t' b t
  |str b=>obtain⟨t,rfl⟩:=rx;exact Yev.str_str a t' b t
  |_=>exact absurd (show false=true from fx) Yan
 |_=>exact absurd (show false=true from fy) Yan
noncomputable def eqU (x:V)(u:Value):Bool:=match u with
 |.none=>eqV .non x
 |.bool b=>eqV (.bl b) x
 |.int i _=>eqV (.int i) x
 |.str z _=>eqV (.str z) x
 |_=>false
def jkJ {x y:V}{u:Value}(r:RelV y u)(f:jdh y=true):eqU x u=eqV y x:=by
 cases y with
 |non=>cases r;rfl
 |bl b=>cases r;rfl
 |int i=>obtain⟨t,rfl⟩:=r;rfl
 |str z=>obtain⟨t,rfl⟩:=r;rfl
 |_=>exact absurd (show false=true from f) Yan
def jd8 {x:V}:∀{xs:List V} {us:List Value},Vals xs us->xs.all jdh=true->us.any (eqU x)=xs.any λy=>eqV y x
 |_,_,.nil,_=>rfl
 |y::xs,u::us,.cons r t,f=>by
  rw[YcT,YaE]at f;rw[Ybe,Ybe,jkJ r f.1,jd8 t f.2]
def jcu {A:Around}{s:Shared}{x:V}{v:Value}(rx:RelV x v)(fx:jdh x=true):∀{xs:List V} {us:List Value},Vals xs us->xs.all jdh=true->∀u∈us,Yev A s u v (eqU x u)
 |_,_,.nil,_=>λu hu=>by cases hu
 |y::xs,u::us,.cons r t,f=>λu' hu=>by
  rw[YcT,YaE]at f;rcases YaM.mp hu with rfl|hu
  ·rw[jkJ r f.1];exact joD r rx f.1 fx
  ·exact jcu rx fx t f.2 u' hu
noncomputable def inV (x:V)(xs:List V):Bool:=xs.any λy=>eqV y x
def rIn (K:Yac)(neg:Bool):R2:=λx y H Q=>∃p xs,y=.ref p/\(SqL K H p xs\/SqT K H p xs)/\jdh x=true/\xs.all jdh=true/\Q (.bl (if neg then !inV x xs else inV x xs)) H
def jh0:OpR X (YaV .In) (rIn X.K false):=by
 intro pins s σ H x y v u Q I rx ry h;obtain⟨p,xs,rfl,hq,fx,fs,q⟩:=h;cases ry;rcases hq with hq|hq
 ·obtain⟨its,r,pl,hz⟩:=I.list hq;refine Yf0 (eqU x) pl.isList (λw hw=>jcu rx fx r fs w (by simpa using hw)) ⟨.bl _,H,I,rfl,?_⟩
  rw[show its.toArray.any (eqU x)=its.any (eqU x) by simp,jd8 r fs]
  exact q
 ·obtain⟨its,r,pl,hz⟩:=I.tuple hq;refine YfI (eqU x) pl (λw hw=>jcu rx fx r fs w (by simpa using hw)) ⟨.bl _,H,I,rfl,?_⟩
  rw[show its.toArray.any (eqU x)=its.any (eqU x) by simp,jd8 r fs]
  exact q
def je7:OpR X (YaV .NotIn) (rIn X.K true):=by
 intro pins s σ H x y v u Q I rx ry h;obtain⟨p,xs,rfl,hq,fx,fs,q⟩:=h;cases ry;rcases hq with hq|hq
 ·obtain⟨its,r,pl,hz⟩:=I.list hq;refine Yff (eqU x) pl.isList (λw hw=>jcu rx fx r fs w (by simpa using hw)) ⟨.bl _,H,I,rfl,?_⟩
  rw[show its.toArray.any (eqU x)=its.any (eqU x) by simp,jd8 r fs]
  exact q
 ·obtain⟨its,r,pl,hz⟩:=I.tuple hq;refine Ye6 (eqU x) pl (λw hw=>jcu rx fx r fs w (by simpa using hw)) ⟨.bl _,H,I,rfl,?_⟩
  rw[show its.toArray.any (eqU x)=its.any (eqU x) by simp,jd8 r fs]
  exact q
def ja7.or {f:Value}{r r':List V->Hp->VK->Prop}(h:ja7 X f r)(h':ja7 X f r'):ja7 X f (λxs H Q=>r xs H Q\/r' xs H Q):=by
 intro pins s σ H xs us Q I rs q;rcases q with q|q
 ·exact h pins s σ H xs us Q I rs q
 ·exact h' pins s σ H xs us Q I rs q
def jfC:ja7 X (.type "list") (λxs H Q=>∃p ys,xs=[.ref p]/\(SqL X.K H p ys\/SqT X.K H p ys)/\∀l,H l=none->Q (.ref l) (upd H l (.lst ys))):=by
 intro pins s σ H xs us Q I r h;obtain⟨p,ys,rfl,hq,q⟩:=h;obtain⟨u,rfl,rx⟩:=jcK r;cases rx;have fin:∀(its:List Value),Vals ys its->ys.length<=Yak->∀(h':Heap) (c':Nat),(∀b o',s.heap.get? b=some o'->h'.get? b=some o')->
   h'.get? s.heap.objs.size=some { cls:=.type "list",dict:=none,data:=.seq its.toArray c',slots:=#[] }->EP X pins σ Q (.ref s.heap.objs.size) { s with heap:=h' }:=λits r' hz h' c' kp e=>
  ⟨.ref s.heap.objs.size,_,I.laid (t':=s.toks) kp (Yaf _) (show jaH X.prog X.w _ h' _ (.lst ys)from⟨hz,its,c',r',e⟩),rfl,q _ (I.hok.fresh (Yaf _))⟩
 rcases hq with hq|hq
 ·obtain⟨its,r',pl,hz⟩:=I.list hq;have hlen:=r'.length;obtain⟨o,ho,hc,n,hd⟩:=pl.isList;exact call_list_seq p (.inl rfl) ho hc hd (λh' c' kp e=>fin its r' hz h' c' kp e) (by simp only[Yaj]<;>omega)
 ·obtain⟨its,r',pl,hz⟩:=I.tuple hq;have hlen:=r'.length;obtain⟨o,ho,hc,n,hd⟩:=pl;exact call_list_seq p (.inr rfl) ho hc hd (λh' c' kp e=>fin its r' hz h' c' kp e) (by simp only[Yaj]<;>omega)
def jeO:ja7 X (.type "tuple") (λxs H Q=>∃p ys,xs=[.ref p]/\((SqL X.K H p ys/\∀l,H l=none->Q (.ref l) (upd H l (.tup ys)))\/(SqT X.K H p ys/\Q (.ref p) H))):=by
 intro pins s σ H xs us Q I r h;obtain⟨p,ys,rfl,h⟩:=h;obtain⟨u,rfl,rx⟩:=jcK r;cases rx;rcases h with⟨hq,q⟩|⟨hq,q⟩
 ·obtain⟨its,r',pl,hz⟩:=I.list hq;have hlen:=r'.length;refine call_tuple_list pl.isList (λh' kp=>?_) (by simp only[Yaj]<;>omega)
  have I1:Inv X pins σ H { s with heap:=h' }:=I.kept (t':=s.toks) kp
  have I2:Inv X pins σ (upd H h'.objs.size (.tup ys)) { s with heap:=h'.push { cls:=.type "tuple",data:=.seq its.toArray } }:=
   I1.laid (t':=s.toks) (λb o e=>Yae _ e) (Yaf _) (show jaH X.prog X.w _ _ _ (.tup ys)from⟨hz,its,r',TupD.new _ _⟩)
  exact⟨.ref h'.objs.size,_,I2,rfl,q _ (I1.hok.fresh (Yaf _))⟩
 ·obtain⟨its,r',pl,hz⟩:=I.tuple hq;exact call_tuple_same pl ⟨.ref p,H,I,rfl,q⟩

def tyV (K:Yac)(T:String)(x:V)(H:Hp):Prop:=match x with
 |.str _=>T = "str"
 |.int _=>T = "int"
 |.ref p=>(T = "list" /\ ∃xs,SqL K H p xs)\/(T = "tuple" /\ ∃o,K.lookup p=some o/\o.cls=.type "tuple" /\ o.dict=none)\/
   (T = "dict" /\ ((∃kvs,H p=some (.dK kvs))\/∃kvs,H p=some (.dT kvs)))\/(T = "set" /\ ∃S n,H p=some (.set S n))\/(T = "tuple" /\ ∃xs,H p=some (.tup xs))
 |_=>False
def jkh {pins:List (Addr×Obj)}{σ:St}{H:Hp}{s:Shared}{T:String}{x:V}{v:Value}(I:Inv X pins σ H s)(r:RelV x v)(ty:tyV X.K T x H) :
  s.TypeIs v T/\∀a,v=.ref a->∃ob,s.heap.get? a=some ob/\ob.dict=none:=by
 cases x with
 |str z=>
  obtain⟨t,rfl⟩:=r;cases(show T = "str" from ty);exact⟨Yej s z t,λ_ e=>nomatch e⟩
 |int i=>
  obtain⟨t,rfl⟩:=r;cases(show T = "int" from ty);exact⟨Yek s i t,λ_ e=>nomatch e⟩
 |ref p=>
  cases r;rcases ty with⟨rfl,xs,hq⟩|⟨rfl,o,hk,hc,hd⟩|⟨rfl,hk⟩|⟨rfl,S,n,hk⟩|⟨rfl,xs,hk⟩
  ·obtain⟨its,_,pl,_⟩:=I.list hq;refine⟨pl.isList.typeIs,λa e=>?_⟩;cases e;obtain⟨o,n,e,c,hd,_⟩:=pl;exact⟨o,e,hd⟩
  ·refine⟨⟨o,I.kIn p o hk,hc⟩,λa e=>?_⟩;cases e;exact⟨o,I.kIn _ o hk,hd⟩
  ·have z:∃o,s.heap.get? p=some o/\o.ExactDict:=by
    rcases hk with⟨kvs,hk⟩|⟨kvs,hk⟩
    ·obtain⟨_,_,_,_,o,_,_,e,ex,_⟩:=I.hok p _ hk;exact⟨o,e,ex⟩
    ·obtain⟨_,_,_,_,o,_,_,e,ex,_⟩:=I.hok p _ hk;exact⟨o,e,ex⟩
   obtain⟨o,e,ex⟩:=z;refine⟨⟨o,e,ex.1⟩,λa e2=>?_⟩;cases e2;exact⟨o,e,ex.2.1⟩
  ·obtain⟨o,_,_,_,e,ex,_⟩:=I.hok p _ hk;refine⟨⟨o,e,ex.1⟩,λa e2=>?_⟩;cases e2;exact⟨o,e,ex.2.1⟩
  ·obtain⟨_,its,r,o,e,c,n,d,hd⟩:=(show jaH X.prog X.w H s.heap p (.tup xs)from I.hok p _ hk);refine⟨⟨o,e,c⟩,λa e2=>?_⟩;cases e2;exact⟨o,e,hd⟩
 |_=>exact Yda ty
variable {o e:Expr}{es:List Expr}{to:TE}{t:TA}{name:Str}{apos cpos:Pos}{T id:String}{r:V->List V->Hp->VK->Prop}
end

def MtM (X:Cx)(id:String)(r:V->List V->Hp->VK->Prop):Prop:=
 ∀(pins:List (Addr×Obj)) (s:Shared) (σ:St) (H:Hp) (x:V) (xs:List V) (v:Value) (us:List Value) (Q:VK),Inv X pins σ H s->RelV x v->Vals xs us->r x xs H Q->
  wpAny (model X.prog X.w) X.A (call (.builtin id) (v::us)) (EP X pins σ Q) X.xe s

def Vals.one:∀{x:V} {us:List Value},Vals [x] us->∃u,us=[u]/\RelV x u
 |_,_,.cons r .nil=>⟨_,rfl,r⟩
def Vals.two:∀{x y:V} {us:List Value},Vals [x,y] us->∃u v,us=[u,v]/\RelV x u/\RelV y v
 |_,_,_,.cons r (.cons q .nil)=>⟨_,_,rfl,r,q⟩
def Vals.zero:∀{us:List Value},Vals [] us->us=[]
 |_,.nil=>rfl
def Vals.dropLast {xs:List V}{us:List Value}(h:Vals xs us):Vals xs.dropLast us.dropLast:=by
 induction h with
 |nil=>exact .nil
 |cons r t ih=>
  cases t with
  |nil=>exact .nil
  |cons q t'=>exact .cons r ih
def Vals.eraseIdx:∀{xs:List V} {us:List Value} (i:Nat),Vals xs us->Vals (xs.eraseIdx i) (us.eraseIdx i)
 |_,_,_,.nil=>.nil
 |_,_,0,.cons _ t=>t
 |_,_,i+1,.cons r t=>.cons r (Vals.eraseIdx i t)
def Vals.rep {xs:List V}{us:List Value}(h:Vals xs us):∀k:Nat,Vals (Yad k xs).flatten (Yad k us).flatten
 |0=>.nil
 |k+1=>by
  rw[Yba,Yba,YbX,YbX];exact Vals.append h (Vals.rep h k)
def jho {α:Type}(l:List α):l.eraseIdx (l.length-1)=l.dropLast:=by
 induction l with
 |nil=>rfl
 |cons a r ih=>
  cases r with
  |nil=>rfl
  |cons b r=>
   have e:(a::b::r).length-1=((b::r).length-1)+1:=by
    have h1:(a::b::r).length=r.length+2:=rfl;have h2:(b::r).length=r.length+1:=rfl;omega
   rw[e,List.eraseIdx_cons_succ,ih]
   all_goals rfl
def jfi {α:Type}:∀(l:List α) (i:Nat),(l.eraseIdx i).length<=l.length
 |[],_=>Yaf _
 |_::_,0=>Yeo _
 |_::r,i+1=>Yd3 (jfi r i)
def jdQ (its:List Value):∀(k:Nat) (acc:List Value),
  YdD (λx1 x2=>x1++x2) acc.toArray (Yad k its.toArray)=(acc++(Yad k its).flatten).toArray
 |0,acc=>by simp
 |k+1,acc=>by
  have e:acc.toArray++its.toArray=(acc++its).toArray:=by simp
  have e2:(acc++its)++(Yad k its).flatten=acc++(Yad (k+1) its).flatten:=by
   rw[Yba,YbX,YdF]
  rw[<- e2,<- jdQ its k (acc++its),<- e,Yba,Yeg]

section
variable {X:Cx}{pins:List (Addr×Obj)}{σ:St}{H:Hp}{s:Shared}{l b:Addr}{xs ys zs:List V}

def Inv.lset {its its':List Value}{n:Nat}{f:Array Value->Array Value}{t':Nat}(I:Inv X pins σ H s)(hH:H l=some (.lst xs))
  (e:s.heap.get? l=some { cls:=.type "list",data:=.seq its.toArray n }) (hf:f its.toArray=its'.toArray) (hv:Vals ys its') (hz:ys.length<=Yak) :
  Inv X pins σ (upd H l (.lst ys)) { s with heap:=s.heap.update l (Ycz f),toks:=t' }:=by
 have q:=PySem.IsL.update e f;rw[hf]at q;refine I.write (x:=l) (e:=l) (by rw[hH];exact trivial) (.inl rfl) (λb' u hb hu=>(YcY s.heap (Ycz f) (Ne.symm hb)).trans hu) ⟨_,q⟩ ?_
 exact⟨hz,its',_,hv,q⟩
def Inv.lnew {its:List Value}{t':Nat}(I:Inv X pins σ H s)(hv:Vals ys its)(hz:ys.length<=Yak) :
  Inv X pins σ (upd H s.heap.objs.size (.lst ys)) { s with heap:=s.heap.push { cls:=.type "list",data:=.seq its.toArray },toks:=t' }:=
 I.laid (λ_ _ q=>Yae _ q) (Yaf _) ⟨hz,its,0,hv,Yas _ rfl⟩
def Inv.fresh (I:Inv X pins σ H s):H s.heap.objs.size=none:=I.hok.fresh (Yaf _)
def Inv.lstM (I:Inv X pins σ H s)(hH:H l=some (.lst xs)):xs.length<=Yak/\∃(its:List Value) (n:Nat),Vals xs its/\xs.length=its.length/\s.heap.get? l=some { cls:=.type "list",data:=.seq its.toArray n }:=by
 obtain⟨z,its,n,r,e⟩:=I.hok l _ hH;exact⟨z,its,n,r,r.length,e⟩

def jgz {n:Nat}(h:n<=Yak):YbS n=false:=by
 unfold YbS;exact decide_eq_false (by omega)
end

section
variable {X:Cx}

def jlf:V->List V->Hp->VK->Prop:=λx vs H Q=>∃l xs y,x=.ref l/\vs=[y]/\H l=some (.lst xs)/\xs.length<Yak/\Q .non (upd H l (.lst (xs++[y])))
def jff:MtM X "list.append" jlf:=by
 intro pins s σ H x vs v us Q I rx rv h;obtain⟨l,xs,y,rfl,rfl,hH,hz,q⟩:=h;cases rx;obtain⟨u,rfl,ru⟩:=rv.one;obtain⟨z,its,n,r,hl,e⟩:=I.lstM hH;refine Ybx F.slot_list_append ⟨_,e,rfl⟩ F.entry_list_append (F.args_list_append_2 _ _) (PySem.list_append l its.toArray n u (by rw[Yaj];omega)) ⟨e,?_⟩
 refine⟨.non,_,I.lset (its':=its++[u]) hH e (by simp) (r.append (.cons ru .nil)) ?_,rfl,q⟩
 rw[YaD,Yc7];omega

def jle:V->List V->Hp->VK->Prop:=λx vs H Q=>∃l b xs zs,x=.ref l/\vs=[.ref b]/\H l=some (.lst xs)/\H b=some (.lst zs)/\xs.length+zs.length<=Yak/\Q .non (upd H l (.lst (xs++zs)))
def jih:MtM X "list.extend" jle:=by
 intro pins s σ H x vs v us Q I rx rv h;obtain⟨l,b,xs,zs,rfl,rfl,hH,hB,hz,q⟩:=h;cases rx;obtain⟨u,rfl,ru⟩:=rv.one;cases ru;obtain⟨z,its,n,r,hl,e⟩:=I.lstM hH;obtain⟨z2,its2,n2,r2,hl2,e2⟩:=I.lstM hB;have hsz:its.toArray.size+its2.toArray.size<=Yak:=by rw[Yaj,Yaj];omega
 have hlong:¬(!its.toArray.isEmpty&&YbS (its.toArray.size+its2.toArray.size))=true:=by
  rw[jgz hsz,Bool.and_false];exact Yan
 refine Ybx F.slot_list_extend ⟨_,e,rfl⟩ F.entry_list_extend (F.args_list_extend_2 _ _)
  (AutoSeq1.list_extend_list_list_0 l its.toArray n b its2.toArray n2 hlong (by rw[Yaj];omega) (by omega)) ⟨e,e2,?_⟩
 refine⟨.non,_,I.lset (its':=its++its2) hH e (by simp) (r.append r2) ?_,rfl,q⟩
 rw[YaD];omega

def rPop:V->List V->Hp->VK->Prop:=λx vs H Q=>∃l xs y,x=.ref l/\vs=[]/\H l=some (.lst xs)/\xs[xs.length-1]?=some y/\Q y (upd H l (.lst xs.dropLast))
def mt_pop:MtM X "list.pop" rPop:=by
 intro pins s σ H x vs v us Q I rx rv h;obtain⟨l,xs,y,rfl,rfl,hH,hy,q⟩:=h;cases rx;have hus:=rv.zero;subst hus;obtain⟨z,its,n,r,hl,e⟩:=I.lstM hH;obtain⟨u,hu,ru⟩:=r.get hy;have hy':its.toArray[its.toArray.size-1]?=some u:=by
  show its.toArray[its.length-1]?=some u;rw[<- YbM,<- hl];exact hu
 refine Ybx F.slot_list_pop ⟨_,e,rfl⟩ F.entry_list_pop (F.args_list_pop_1 _) (MeetsSeq.list_pop_last l its.toArray n u hy' (by rw[Yaj];omega)) ⟨e,?_⟩
 refine⟨y,_,I.lset (its':=its.dropLast) hH e ?_ r.dropLast ?_,ru,q⟩
 ·show its.toArray.eraseIdxIfInBounds (its.toArray.size-1)=its.dropLast.toArray;rw[Yaj,YdE,jho]
 ·rw[List.length_dropLast];omega

def jnl:V->List V->Hp->VK->Prop:=λx vs H Q=>∃l xs i k y,x=.ref l/\vs=[.int i]/\H l=some (.lst xs)/\-(2 ^ 63)<=i/\i<2 ^ 63/\YfW i xs.length=some k/\xs[k]?=some y/\Q y (upd H l (.lst (xs.eraseIdx k)))
def jjP:MtM X "list.pop" jnl:=by
 intro pins s σ H x vs v us Q I rx rv h;obtain⟨l,xs,i,k,y,rfl,rfl,hH,h1,h2,hk,hy,q⟩:=h;cases rx;obtain⟨u,rfl,ru⟩:=rv.one;obtain⟨t,rfl⟩:=ru;obtain⟨z,its,n,r,hl,e⟩:=I.lstM hH;obtain⟨w,hw,rw'⟩:=r.get hy;refine Ybx F.slot_list_pop ⟨_,e,rfl⟩ F.entry_list_pop (F.args_list_pop_2 _ _)
  (MeetsSeq.list_pop_at l its.toArray n i t k w (fitsIndex_both h1 h2) (by rw[Yaj,<- hl];exact hk) (by rw[<- YbM];exact hw) (by rw[Yaj];omega)) ⟨e,?_⟩
 refine⟨y,_,I.lset (its':=its.eraseIdx k) hH e ?_ (r.eraseIdx k) ?_,rw',q⟩
 ·show its.toArray.eraseIdxIfInBounds k=(its.eraseIdx k).toArray;rw[YdE]
 ·have:=jfi xs k;omega

def rCat:R2:=λx y H Q=>∃l b xs zs,x=.ref l/\y=.ref b/\H l=some (.lst xs)/\H b=some (.lst zs)/\xs.length+zs.length<=Yak/\∀p,H p=none->Q (.ref p) (upd H p (.lst (xs++zs)))
def jn0:OpR X (Ybj .Add) rCat:=by
 intro pins s σ H x y v u Q I rx ry h;obtain⟨l,b,xs,zs,rfl,rfl,hH,hB,hz,q⟩:=h;cases rx;cases ry;obtain⟨z,its,n,r,hl,e⟩:=I.lstM hH;obtain⟨z2,its2,n2,r2,hl2,e2⟩:=I.lstM hB;refine PySem.P.add_list e e2 ?_ (by rw[Yaj,Yaj];omega)
 have ea:its.toArray++its2.toArray=(its++its2).toArray:=by simp
 rw[ea];exact⟨.ref _,_,I.lnew (t':=s.toks) (r.append r2) (by rw[YaD];omega),rfl,q _ I.fresh⟩
def rRep:R2:=λx y H Q=>∃l k xs,x=.ref l/\y=.int k/\H l=some (.lst xs)/\-(2 ^ 63)<=k/\k<2 ^ 63/\xs.length*k.toNat<=Yak/\
 ∀p,H p=none->Q (.ref p) (upd H p (.lst (Yad k.toNat xs).flatten))
def jfV {α:Type}(xs:List α)(k:Nat):(Yad k xs).flatten.length=k*xs.length:=by
 induction k with
 |zero=>simp
 |succ k ih=>rw[Yba,YbX,YaD,ih,Nat.succ_mul,Nat.add_comm]
def jnR:OpR X (Ybj .Mult) rRep:=by
 intro pins s σ H x y v u Q I rx ry h;obtain⟨l,k,xs,rfl,rfl,hH,h1,h2,hz,q⟩:=h;cases rx;obtain⟨t,rfl⟩:=ry;obtain⟨z,its,n,r,hl,e⟩:=I.lstM hH;have hlen:its.toArray.size*k.toNat<=Yak:=by rw[Yaj,<- hl];exact hz
 have hcap:¬its.toArray.size*k.toNat>(2 ^ 63-1)/8:=by
  have:(Yak:Nat)<=(2 ^ 63-1)/8:=by decide
  omega
 have hfit:¬(!Builtin.List.listFitsIndex k)=true:=by
  rw[fitsIndex_both h1 h2];exact Yan
 have hlong:¬YbS (its.toArray.size*k.toNat)=true:=by
  rw[jgz hlen];exact Yan
 have hnew:YdD (λx1 x2=>x1++x2) #[] (Yad (if its.toArray.isEmpty=true then 0 else k.toNat) its.toArray)=(Yad k.toNat its).flatten.toArray:=by
  have f0:∀m:Nat,YdD (λx1 x2=>x1++x2) #[] (Yad m its.toArray)=(Yad m its).flatten.toArray:=λm=>by
   have:=jdQ its m [];rw[Ya8]at this;exact this
  rw[f0];cases its with
  |nil=>simp
  |cons a r'=>rw[if_neg (by simp)]
 refine Ye1 (T := "list") (U := "int") (by decide) ⟨_,e,rfl⟩ (λs'=>Yek s' k t) noFill_list_mul F.fills_int_mul Ydl repeat_list F.slot_int_index.lookup
  (Ybx Ydl (Yek s k t) F.entry_int_rmul (F.args_int_rmul_2 _ _) (int___rmul___int_list k t l its.toArray n)
   ⟨e,rfl,⟨_,e,rfl⟩,Ybx F.slot_list_mul ⟨_,e,rfl⟩ F.entry_list_mul (F.args_list_mul_2 _ _) (AutoListH.list___mul___list_int_3 l its.toArray n k t hfit hcap hlong) ⟨e,?_⟩⟩)
 rw[hnew];exact⟨.ref _,_,I.lnew (t':=s.toks) (r.rep k.toNat) (by rw[jfV,YdQ];exact hz),rfl,q _ I.fresh⟩

end

section
variable {prog:Program}{w:World}{A:Around}{E:Value->Shared->Prop}{s:Shared}
end

section
variable {X:Cx}
end

section
variable {κ:Type}[DecidableEq κ]
noncomputable def valV (kvs:List (κ×V))(k:κ):Option V:=(kvs.find? λkv=>decide (kv.1=k)).map (·.2)
noncomputable def putK (kvs:List (κ×V))(k:κ)(v:V):List (κ×V):=
 if (kvs.any λkv=>decide (kv.1=k))=true then kvs.map (λkv=>if kv.1=k then (kv.1,v) else kv) else kvs++[(k,v)]
noncomputable def jr2 (kvs:List (κ×V))(k:κ):List (κ×V):=kvs.filter λkv=>decide (kv.1≠k)

section
variable {p:κ×V}{r:List (κ×V)}{k:κ}
def jdj (e:p.1=k):valV (p::r) k=some p.2:=by simp[valV,Ybz,e]
def jdk (e:¬p.1=k):valV (p::r) k=valV r k:=by simp[valV,Ybz,e]
end
def jgc (k:κ):∀kvs:List (κ×V),(kvs.any λkv=>decide (kv.1=k))=(valV kvs k).isSome
 |[]=>rfl
 |p::r=>by
  rw[Ybe];by_cases e:p.1=k
  ·simp only[jdj e,decide_eq_true e,Ye0,Option.isSome_some]
  ·rw[jdk e,decide_eq_false e,YeN];exact jgc k r
def jb7 (kvs:List (κ×V))(k:κ)(v:V):(putK kvs k v).length<=kvs.length+1:=by
 unfold putK;split
 ·rw[Yaa];omega
 ·rw[YaD,YaA,Yc8];omega
def RelO.isSome_eq {o:Option V}{u:Option Value}(r:RelO o u):o.isSome=u.isSome:=by
 cases o with
 |none=>cases u with
  |none=>rfl
  |some _=>exact(show False from r).elim
 |some _=>cases u with
  |none=>exact(show False from r).elim
  |some _=>rfl
section
variable {kvs:List (κ×V)}{vs:List (κ×Value)}
def KV.val (r:KV kvs vs)(k:κ):RelO (valV kvs k) (valueAt vs k):=by
 unfold KV at r
 induction r with
 |nil=>exact YbT
 |@cons p q ps qs h t ih=>
  obtain⟨h1,h2⟩:=h;by_cases e:p.1=k
  ·have e':q.1=k:=h1.symm.trans e;have b:valueAt (q::qs) k=some q.2:=by simp[valueAt,Ybz,e']
   rw[jdj e,b];exact h2
  ·have e':¬q.1=k:=λz=>e (h1.trans z);have b:valueAt (q::qs) k=valueAt qs k:=by simp[valueAt,Ybz,e']
   rw[jdk e,b];exact ih
def KV.any (r:KV kvs vs)(k:κ):(kvs.any λkv=>decide (kv.1=k))=vs.any λkv=>decide (kv.1=k):=by
 unfold KV at r
 induction r with
 |nil=>rfl
 |cons h t ih=>rw[Ybe,Ybe,ih,h.1]
def KV.repl (r:KV kvs vs)(k:κ){y:V}{u:Value}(ry:RelV y u) :
  KV (kvs.map λkv=>if kv.1=k then (kv.1,y) else kv) (vs.map λkv=>if kv.1=k then (kv.1,u) else kv):=by
 unfold KV at r ⊢
 induction r with
 |nil=>exact .nil
 |@cons p q ps qs h t ih=>
  rw[YaG,YaG];refine .cons ?_ ih;obtain⟨h1,h2⟩:=h;by_cases e:p.1=k
  ·rw[if_pos e,if_pos (h1.symm.trans e)];exact⟨h1,ry⟩
  ·rw[if_neg e,if_neg (λz=>e (h1.trans z))];exact⟨h1,h2⟩
def KV.put (r:KV kvs vs)(k:κ){y:V}{u:Value}(ry:RelV y u):KV (putK kvs k y) (stored vs k u):=by
 unfold putK stored;rw[r.any k];by_cases e:(vs.any λkv=>decide (kv.1=k))=true
 ·rw[if_pos e,if_pos e];exact r.repl k ry
 ·rw[if_neg e,if_neg e];exact Paired.snoc r ⟨rfl,ry⟩
def KV.length (r:KV kvs vs):kvs.length=vs.length:=Ydm r
end
end

def jhm {P:Program}{w:World}{k:Key}{u:Value}(r:RelV (kV k) u):(jaj P w).is k u=true:=by
 cases k with
 |inl i=>obtain⟨t,e⟩:=(show ∃t,u=Yds i t from r);subst e;exact jfU P w i t
 |inr x=>obtain⟨t,e⟩:=(show ∃t,u=YeS x t from r);subst e;exact jfT P w x t
def jfm {P:Program}{w:World}:∀{ks:List Key} {us:List Value},Vals (ks.map kV) us->ItemsAre (jaj P w) ks us
 |[],_,r=>by rw[Yc6]at r;cases r;exact .nil
 |k::ks,_,r=>by
  rw[YaG]at r;cases r with
  |cons h t=>exact .cons (jhm h) (jfm t)

abbrev KT (H:Hp):List (List Key×V)->List (List Key×Addr×Value)->Prop:=Paired λp q=>p.1=q.1/\H q.2.1=some (.tup (p.1.map kV))/\RelV p.2 q.2.2
section
variable {H:Hp}{kvs:List (List Key×V)}{xs:List (List Key×Addr×Value)}
def KT.val (r:KT H kvs xs)(k:List Key):RelO (valV kvs k) ((atKey xs k).map (·.2)):=by
 induction r with
 |nil=>exact YbT
 |@cons p q ps qs h t ih=>
  obtain⟨h1,_,h2⟩:=h;by_cases e:p.1=k
  ·have e':q.1=k:=h1.symm.trans e;have b:atKey (q::qs) k=some q.2:=by simp[atKey,Ybz,e']
   rw[jdj e,b];exact h2
  ·have e':¬q.1=k:=λz=>e (h1.trans z);have b:atKey (q::qs) k=atKey qs k:=by simp[atKey,Ybz,e']
   rw[jdk e,b];exact ih
def KT.repl (r:KT H kvs xs)(k:List Key){y:V}{u:Value}(ry:RelV y u) :
  KT H (kvs.map λkv=>if kv.1=k then (kv.1,y) else kv) (xs.map (putAt k u)):=by
 induction r with
 |nil=>exact .nil
 |@cons p q ps qs h t ih=>
  rw[YaG,YaG];refine .cons ?_ ih;obtain⟨h1,h2,h3⟩:=h;unfold putAt;by_cases e:p.1=k
  ·rw[if_pos e,if_pos (h1.symm.trans e)];exact⟨h1,h2,ry⟩
  ·rw[if_neg e,if_neg (λz=>e (h1.trans z))];exact⟨h1,h2,h3⟩
def KT.put (r:KT H kvs xs)(k:List Key){b:Addr}{y:V}{u:Value}(hb:H b=some (.tup (k.map kV)))(ry:RelV y u) :
  KT H (putK kvs k y) (storedH xs k b u):=by
 have e:(kvs.any λkv=>decide (kv.1=k))=(atKey xs k).isSome:=by
  rw[jgc,(r.val k).isSome_eq,Ydy]
 unfold putK storedH;rw[e];by_cases q:(atKey xs k).isSome=true
 ·rw[if_pos q,if_pos q];exact r.repl k ry
 ·rw[if_neg q,if_neg q];exact Paired.snoc r ⟨rfl,hb,ry⟩
end
def KT.keeps {H H':Hp}{kvs:List (List Key×V)}{xs:List (List Key×Addr×Value)}(r:KT H kvs xs)(ht:∀b ys,H b=some (.tup ys)->H' b=some (.tup ys)):KT H' kvs xs:=
 Paired.mapP r λ_ _ z=>⟨z.1,ht _ _ z.2.1,z.2.2⟩

section
variable {P:Program}{w:World}{H:Hp}{h:Heap}{a:Addr}
def jni {u:HO}(ok:HOk P w H h)(e:Rd H a u):jaH P w H h a u:=e.ok ok
def jft {kvs:List (Key×V)}(ok:HOk P w H h)(e:Rd H a (.dK kvs)):kvs.length<=Yak/\(a==Ya1)=false/\∃vs,KV kvs vs/\h.DictOf (jaj P w) a vs:=
 show jaH P w H h a (.dK kvs)from jni ok e
def joL {kvs:List (Key×V)}(ok:HOk P w H h)(e:H a=some (.dK kvs)):kvs.length<=Yak/\(a==Ya1)=false/\∃vs,KV kvs vs/\h.DictOf (jaj P w) a vs:=jft ok (.inl e)
def jfl {ks:List Key}(ok:HOk P w H h)(e:H a=some (.tup (ks.map kV))):(YeP (jaj P w)).is h ks a:=by
 obtain⟨_,its,r,o,h1,h2,n,h3,_⟩:=(show jaH P w H h a (.tup (ks.map kV))from ok a _ e);exact⟨o,its.toArray,n,h1,h2,h3,by simpa using jfm r⟩
section
variable {kvs:List (List Key×V)}
def jhq (ok:HOk P w H h)(e:Rd H a (.dT kvs)):kvs.length<=Yak/\(a==Ya1)=false/\
  ∃xs,KT H kvs xs/\h.DictOfH (YeP (jaj P w)) a xs:=by
 obtain⟨z,y,xs,r,o,es,ep,h1,h2,h3,h4,h5⟩:=(show jaH P w H h a (.dT kvs)from jni ok e);refine⟨z,y,xs,r,o,es,ep,h1,h2,h3,h4,λx hx=>?_,h5⟩;have all:∀{l:List (List Key×V)} {m:List (List Key×Addr×Value)},KT H l m->∀x∈m,(YeP (jaj P w)).is h x.1 x.2.1:=by
  intro l m q
  induction q with
  |nil=>intro x hx;exact nomatch hx
  |@cons p q ps qs hq t ih=>
   intro x hx;rcases YaM.mp hx with e|hx
   ·subst e;exact jfl ok (by rw[<- hq.1];exact hq.2.1)
   ·exact ih x hx
 exact all r x hx
def jqJ (ok:HOk P w H h)(e:H a=some (.dT kvs)):kvs.length<=Yak/\(a==Ya1)=false/\
  ∃xs,KT H kvs xs/\h.DictOfH (YeP (jaj P w)) a xs:=jhq ok (.inl e)
end
end

def DGet (H:Hp)(a:Addr)(y:V)(r:Option V):Prop:=
 (∃kvs k,Rd H a (.dK kvs)/\y=kV k/\r=valV kvs k)\/∃kvs k b,Rd H a (.dT kvs)/\y=.ref b/\H b=some (.tup (k.map kV))/\r=valV kvs k
def DPut (H:Hp)(a:Addr)(y v:V)(H':Hp):Prop:=
 (∃kvs k,H a=some (.dK kvs)/\y=kV k/\kvs.length<Yak/\H'=upd H a (.dK (putK kvs k v)))\/
 ∃kvs k b,H a=some (.dT kvs)/\y=.ref b/\H b=some (.tup (k.map kV))/\kvs.length<Yak/\H'=upd H a (.dT (putK kvs k v))
def DGet.k {H:Hp}{a:Addr}{kvs:List (Key×V)}{k:Key}(e:H a=some (.dK kvs)):DGet H a (kV k) (valV kvs k):=.inl ⟨kvs,k,.inl e,rfl,rfl⟩
def DGet.t {H:Hp}{a b:Addr}{kvs:List (List Key×V)}{k:List Key}(e:H a=some (.dT kvs))(eb:H b=some (.tup (k.map kV))):DGet H a (.ref b) (valV kvs k):=.inr ⟨kvs,k,b,.inl e,rfl,eb,rfl⟩
def DPut.k {H:Hp}{a:Addr}{kvs:List (Key×V)}{k:Key}{v:V}(e:H a=some (.dK kvs))(hl:kvs.length<Yak):DPut H a (kV k) v (upd H a (.dK (putK kvs k v))):=.inl ⟨kvs,k,e,rfl,hl,rfl⟩
def DPut.t {H:Hp}{a b:Addr}{kvs:List (List Key×V)}{k:List Key}{v:V}(e:H a=some (.dT kvs))(eb:H b=some (.tup (k.map kV)))(hl:kvs.length<Yak) :
  DPut H a (.ref b) v (upd H a (.dT (putK kvs k v))):=.inr ⟨kvs,k,b,e,rfl,eb,hl,rfl⟩

section
variable {X:Cx}{pins:List (Addr×Obj)}{σ:St}{H:Hp}{s:Shared}{a:Addr}{y v:V}{u r:Value}{o:Option V}{A:Around}{E:Value->Shared->Prop}

def Inv.big (I:Inv X pins σ H s):Ya1<s.heap.objs.size:=by
 have h:YaT<s.heap.objs.size:=(I.mod.glob.keeps I.bk).lt;exact Yde (by decide) h

section
variable {Q:Value->Shared->Prop}
def jiO (hu:A.units+1<cLine)(I:Inv X pins σ H s)(g:DGet H a y (some v))(ry:RelV y u)(h:∀w' s',Inv X pins σ H s'->RelV v w'->Q w' s') :
  wpAny (model X.prog X.w) A (getItem (.ref a) u) Q E s:=by
 rcases g with⟨kvs,k,e,ey,l⟩|⟨kvs,k,b,e,ey,eb,l⟩
 ·subst ey;obtain⟨z,hd,vs,rel,dd⟩:=jft I.hok e;obtain⟨w',hw,rw'⟩:=RelO.some_of (v:=v) (o:=valueAt vs k) (by rw[l];exact rel.val k)
  exact wpAny_getItem_of (jhm ry) dd.mapOf hw (h w' _ (I.tok _) rw')
 ·subst ey;cases(show u=YbD b from ry);obtain⟨z,hd,xs,rel,dd⟩:=jhq I.hok e;obtain⟨w',hw,rw'⟩:=RelO.some_of (v:=v) (o:=(atKey xs k).map (·.2)) (by rw[l];exact rel.val k)
  obtain⟨p,hp,hp2⟩:=Option.map_eq_some_iff.mp hw;refine wpAny_getItem_heap (YcR hu) (jfl I.hok eb) dd hp ?_;rw[hp2];exact h w' _ (I.tok _) rw'
def d_in (hu:A.units+1<cLine)(I:Inv X pins σ H s)(g:DGet H a y o)(ry:RelV y u)(h:∀s',Inv X pins σ H s'->Q (.bool o.isSome) s') :
  wpAny (model X.prog X.w) A (YaV .In u (.ref a)) Q E s:=by
 rcases g with⟨kvs,k,e,ey,l⟩|⟨kvs,k,b,e,ey,eb,l⟩
 ·subst ey;obtain⟨z,hd,vs,rel,dd⟩:=jft I.hok e;refine wpAny_in_of (jhm ry) hd dd.mapOf ?_;rw[<- (rel.val k).isSome_eq,<- l];exact h _ (I.tok _)
 ·subst ey;cases(show u=YbD b from ry);obtain⟨z,hd,xs,rel,dd⟩:=jhq I.hok e;refine wpAny_in_heap (YcR hu) (jfl I.hok eb) hd dd ?_;have q:=(rel.val k).isSome_eq;rw[Ydy]at q;rw[<- q,<- l];exact h _ (I.tok _)
def jmx (hu:A.units+1<cLine)(I:Inv X pins σ H s)(g:DGet H a y o)(ry:RelV y u)(h:∀s',Inv X pins σ H s'->Q (.bool (!o.isSome)) s') :
  wpAny (model X.prog X.w) A (YaV .NotIn u (.ref a)) Q E s:=by
 rcases g with⟨kvs,k,e,ey,l⟩|⟨kvs,k,b,e,ey,eb,l⟩
 ·subst ey;obtain⟨z,hd,vs,rel,dd⟩:=jft I.hok e;refine wpAny_notIn_of (jhm ry) hd dd.mapOf ?_;rw[<- (rel.val k).isSome_eq,<- l];exact h _ (I.tok _)
 ·subst ey;cases(show u=YbD b from ry);obtain⟨z,hd,xs,rel,dd⟩:=jhq I.hok e;refine wpAny_notIn_heap (YcR hu) (jfl I.hok eb) hd dd ?_;have q:=(rel.val k).isSome_eq;rw[Ydy]at q;rw[<- q,<- l];exact h _ (I.tok _)
end
def jf6 {h':Heap}{t':Nat}{ob:HO}(I:Inv X pins σ H s)(mu:Mut (H a))(hs:YcH a s.heap h')(he:∃q,h'.get? a=some q)(new:jaH X.prog X.w (upd H a ob) h' a ob) :
  Inv X pins σ (upd H a ob) { s with heap:=h',toks:=t' }:=
 I.write (x:=a) (e:=a) mu (.inl rfl) (λb q hb z=>(hs.2 b hb).trans z) he new
def jkL {P:Program}{w:World}{H':Hp}{h':Heap}{kvs:List (Key×V)}{vs:List (Key×Value)}(z:kvs.length<=Yak)(hd:(a==Ya1)=false)(rel:KV kvs vs)(dd:h'.DictOf (jaj P w) a vs) :
  jaH P w H' h' a (.dK kvs):=⟨z,hd,vs,rel,dd⟩
def jiN {H':Hp}{Q:Unit->Shared->Prop}(hu:A.units+1<cLine)(I:Inv X pins σ H s)(g:DPut H a y v H')(ry:RelV y u)(rv:RelV v r)(h:∀s',Inv X pins σ H' s'->Q () s') :
  wpAny (model X.prog X.w) A (setItem (.ref a) u r) Q E s:=by
 rcases g with⟨kvs,k,e,ey,l,eH⟩|⟨kvs,k,b,e,ey,eb,l,eH⟩
 ·subst ey eH;obtain⟨z,hd,vs,rel,dd⟩:=joL I.hok e;have hz:vs.length<=Yak:=by rw[<- rel.length];exact z
  have hl:(putK kvs k v).length<=Yak:=by have:=jb7 kvs k v;omega
  refine wpAny_setItem_pairs (hsz:=hz) (jhm ry) dd λh' dd' hs=>h _ ?_;have he:∃q,h'.get? a=some q:=let ⟨q,_,_,hq,_⟩:=dd';⟨q,hq⟩
  exact jf6 I (by rw[e];exact YbT) hs he (jkL hl hd (rel.put k rv) dd')
 ·subst ey eH;cases(show u=YbD b from ry);obtain⟨z,hd,xs,rel,dd⟩:=jqJ I.hok e;have hz:xs.length<=Yak:=by rw[<- Ydm rel];exact z
  have hl:(putK kvs k v).length<=Yak:=by have:=jb7 kvs k v;omega
  refine wpAny_setItem_heap (hsz:=hz) (YcR hu) (jfl I.hok eb) dd λh' dd' hs=>h _ ?_;obtain⟨q,es,ep,hq,h2,h3,h4,_,h5⟩:=dd';refine jf6 I (by rw[e];exact YbT) hs ⟨q,hq⟩ ⟨hl,hd,_,(rel.put k eb rv).keeps λc ys ec=>?_,q,es,ep,hq,h2,h3,h4,h5⟩
  rw[jaf (jqq ec e (λz=>nomatch z))];exact ec
end

section
variable {X:Cx}{pins:List (Addr×Obj)}{σ:St}{H:Hp}{s:Shared}{a:Addr}{kvs:List (Key×V)}{k:Key}{u:Value}{A:Around}{E:Value->Shared->Prop}
def jqK {Q:Value->Shared->Prop}(I:Inv X pins σ H s)(e:Rd H a (.dK kvs))(h:∀t s',Inv X pins σ H s'->Q (.int kvs.length t) s'):wpAny (model X.prog X.w) A (call (.builtin "len") [.ref a]) Q E s:=by
 obtain⟨z,hd,vs,rel,dd⟩:=jft I.hok e;refine call_len_dict hd dd (by rw[<- rel.length];rw[Ycw]at z;omega) ?_
 rw[<- rel.length];exact h _ _ (I.tok _)
end

def jf5 {X:Cx}{pins:List (Addr×Obj)}{σ:St}{H:Hp}{s:Shared}{a:Addr}{y:V}{o:Option V}(I:Inv X pins σ H s)(g:DGet H a y o):s.TypeIs (.ref a) "dict" := by
 rcases g with⟨kvs,k,e,_,_⟩|⟨kvs,k,b,e,_,_,_⟩
 ·obtain⟨_,_,vs,_,dd⟩:=jft I.hok e;exact dd.typeIs
 ·obtain⟨_,_,xs,_,dd⟩:=jhq I.hok e;exact dd.typeIs
section
variable {X:Cx}{o i e value:Expr}{pos pos' tpos:Pos}{td ty tv:TE}
end

def jgX {P:Program}{w:World}{H:Hp}(h:Heap)(hb:Ya1<h.objs.size):jaH P w H (h.push { cls:=.type "dict",data:=.dict #[] }) h.objs.size (.dK []):=
 ⟨Ybb _,beq_eq_false_iff_ne.mpr (Ne.symm (Yay hb)),[],.nil,Heap.DictOf.new h⟩
def jmX:TE:=λ_ H Q=>∀p,H p=none->Q (.ref p) (upd H p (.dK []))
section
variable {X:Cx}{pos:Pos}
def jjv:PE X (.Dict [] [] pos) jmX:=λpins s σ H Q I h=>
 wpAny_Dict_empty ⟨.ref s.heap.objs.size,_,I.laid (a:=s.heap.objs.size) (o:=.dK []) (t':=s.toks) (λ_ _ q=>Yae _ q) (Yaf _) (jgX s.heap I.big),rfl,h _ (I.hok.fresh (Yaf _))⟩
end

def jgn:List (TE×TE)->St->Hp->(List (V×V)->Hp->Prop)->Prop
 |[],_,H,Q=>Q [] H
 |(tk,tv)::r,σ,H,Q=>tk σ H λx H1=>tv σ H1 λy H2=>jgn r σ H2 λps H3=>Q ((x,y)::ps) H3
abbrev VV:List (V×V)->List (Value×Value)->Prop:=Paired λp q=>RelV p.1 q.1/\RelV p.2 q.2
def PPs (X:Cx)(pos:Pos)(keys:List (Option Expr))(values:List Expr)(trs:List (TE×TE)):Prop:=
 ∀(pins:List (Addr×Obj)) (s:Shared) (σ:St) (H:Hp) (Q:List (V×V)->Hp->Prop),Inv X pins σ H s->jgn trs σ H Q->
  wpAny (model X.prog X.w) X.A (evalPairs (pairTrees keys values X.env pos)) (λvs s'=>∃ps H',Inv X pins σ H' s'/\VV ps vs/\Q ps H') X.xe s
def jll {X:Cx}{pos:Pos}:PPs X pos [] [] []:=λpins s σ H Q I h=>pairTrees_nil_walk ⟨[],H,I,.nil,h⟩
def jjn {X:Cx}{pos:Pos}{k v:Expr}{ks:List (Option Expr)}{vs:List Expr}{tk tv:TE}{trs:List (TE×TE)}(hk:PE X k tk)(hv:PE X v tv)(hr:PPs X pos ks vs trs) :
  PPs X pos (some k::ks) (v::vs) ((tk,tv)::trs):=λpins s σ H Q I h=>
 pairTrees_cons_walk (thn (hk pins s σ H _ I h) λu s1 ⟨x,H1,I1,rx,q1⟩=>thn (hv pins s1 σ H1 _ I1 q1) λw2 s2 ⟨y,H2,I2,ry,q2⟩=>
  thn (hr pins s2 σ H2 _ I2 q2) λws s3 ⟨ps,H3,I3,rel,q3⟩=>⟨(x,y)::ps,H3,I3,.cons ⟨rx,ry⟩ rel,q3⟩)

noncomputable def jdK (kvs more:List (Key×V)):List (Key×V):=more.foldl (λacc kv=>putK acc kv.1 kv.2) kvs
def KV.merge:∀{more:List (Key×V)} {rs:List (Key×Value)} {kvs:List (Key×V)} {vs:List (Key×Value)},KV more rs->KV kvs vs->KV (jdK kvs more) (merged vs rs):=by
 intro more rs kvs vs r;unfold KV at r
 induction r generalizing kvs vs with
 |nil=>intro q;exact q
 |@cons p q ps qs h t ih=>
  intro r0;have e:KV (putK kvs p.1 p.2) (stored vs q.1 q.2):=by
   have:=r0.put p.1 h.2;rw[<- h.1];exact this
  exact ih e
def jcx:∀(more kvs:List (Key×V)),(jdK kvs more).length<=kvs.length+more.length
 |[],kvs=>by show kvs.length<=kvs.length+0;omega
 |p::r,kvs=>by
  have h1:=jcx r (putK kvs p.1 p.2);have h2:=jb7 kvs p.1 p.2;show(jdK (putK kvs p.1 p.2) r).length<=_;rw[YaA];omega
def jez {P:Program}{w:World}:∀{kvs:List (Key×V)} {ws:List (Value×Value)},VV (kvs.map λkv=>(kV kv.1,kv.2)) ws->∃rs,Carries (jaj P w) ws rs/\KV kvs rs
 |[],_,r=>by rw[Yc6]at r;cases r;exact⟨[],YbT,.nil⟩
 |p::kvs,_,r=>by
  rw[YaG]at r;cases r with
  |@cons a b as bs h t=>
   obtain⟨rs,c,q⟩:=jez (P:=P) (w:=w) t;obtain⟨b1,b2⟩:=b;exact⟨(p.1,b2)::rs,⟨jhm h.1,rfl,c⟩,.cons ⟨rfl,h.2⟩ q⟩
def jpP (trs:List (TE×TE)):TE:=λσ H Q=>∀p,H p=none->jgn trs σ (upd H p (.dK [])) λps H2=>H2 p=some (.dK [])/\∃kvs:List (Key×V),ps=kvs.map (λkv=>(kV kv.1,kv.2))/\kvs.length<=15/\Q (.ref p) (upd H2 p (.dK (jdK [] kvs)))
def jlw {X:Cx}{pos:Pos}{keys:List (Option Expr)}{values:List Expr}{trs:List (TE×TE)}(h:PPs X pos keys values trs)(hall:keys.all (·.isSome)=true)(hl:keys.length=values.length)(h0:keys≠[])
  (h15:keys.length<=15):PE X (.Dict keys values pos) (jpP trs):=by
 intro pins s σ H Q I q;have hn:=I.hok.fresh (Yaf s.heap.objs.size);have I1:=I.laid (a:=s.heap.objs.size) (o:=.dK []) (h':=s.heap.push { cls:=.type "dict",data:=.dict #[] }) (t':=s.toks) (λ_ _ q=>Yae _ q) (Yaf _) (jgX s.heap I.big);refine wpAny_Dict_walk (knd:=jaj X.prog X.w) hall hl h0 h15 (thn (h pins _ σ _ _ I1 (q _ hn)) λws s2 ⟨ps,H2,I2,rel,e,kvs,ep,lk,q2⟩=>?_);subst ep;obtain⟨rs,c,rk⟩:=jez (P:=X.prog) (w:=X.w) rel;obtain⟨z,hd,vs0,r0,dd⟩:=joL I2.hok e;cases r0;refine⟨rs,c,dd,λh' dd' hs=>⟨.ref s.heap.objs.size,_,?_,rfl,q2⟩⟩;have hz:(jdK [] kvs).length<=Yak:=by
  have h1:=jcx kvs [];rw[Yc8]at h1;rw[Ycw];omega
 have he:∃q,h'.get? s.heap.objs.size=some q:=let ⟨q,_,_,hq,_⟩:=dd';⟨q,hq⟩
 exact jf6 I2 (by rw[e];exact YbT) hs he (jkL hz hd (rk.merge .nil) dd')

structure M1 (X:Cx)(o:Expr)(m:Str)(apos:Pos)(e:Expr)(cpos:Pos):Prop where
 base:Yby o m X.env (eval o X.env)=eval o X.env
 few:((backTo cpos (YaP [e] X.env)).all (λx=>!x.1)&&(backToKw cpos (YeR [] X.env)).all (λx=>x.1.isSome)
  && decide (([e]:List Expr).length+([]:List Keyword).length+(if ([]:List Keyword).isEmpty then 0 else 1)<30))=true
 line:(apos.endLine==cpos.line)=true
 trees:backTo cpos (YaP [e] X.env)=[(false,eval e X.env)]
structure M2 (X:Cx)(o:Expr)(m:Str)(apos:Pos)(e f:Expr)(cpos:Pos):Prop where
 base:Yby o m X.env (eval o X.env)=eval o X.env
 few:((backTo cpos (YaP [e,f] X.env)).all (λx=>!x.1)&&(backToKw cpos (YeR [] X.env)).all (λx=>x.1.isSome)
  && decide (([e,f]:List Expr).length+([]:List Keyword).length+(if ([]:List Keyword).isEmpty then 0 else 1)<30))=true
 line:(apos.endLine==cpos.line)=true
 trees:backTo cpos (YaP [e,f] X.env)=[(false,eval e X.env),(false,eval f X.env)]

def IsD (H:Hp)(a:Addr):Prop:=(∃kvs,Rd H a (.dK kvs))\/∃kvs,Rd H a (.dT kvs)
def jkB {X:Cx}{pins:List (Addr×Obj)}{σ:St}{H:Hp}{s:Shared}{a:Addr}(I:Inv X pins σ H s)(d:IsD H a) :
  s.TypeIs (.ref a) "dict" /\ (∀b,YbD a=.ref b->∃ob,s.heap.get? b=some ob/\ob.dict=none)/\(a==Ya1)=false:=by
 rcases d with⟨kvs,e⟩|⟨kvs,e⟩
 ·obtain⟨_,hd,vs,_,dd⟩:=jft I.hok e;refine⟨dd.typeIs,λb q=>?_,hd⟩;cases q;obtain⟨ob,_,_,h1,h2,_⟩:=dd;exact⟨ob,h1,h2.2.1⟩
 ·obtain⟨_,hd,xs,_,dd⟩:=jhq I.hok e;refine⟨dd.typeIs,λb q=>?_,hd⟩;cases q;obtain⟨ob,_,_,h1,h2,_⟩:=dd;exact⟨ob,h1,h2.2.1⟩

section
variable {X:Cx}{pins:List (Addr×Obj)}{σ:St}{H:Hp}{s:Shared}{a:Addr}{y d:V}{u r:Value}{o:Option V}{A:Around}{E:Value->Shared->Prop}
end

section
variable {X:Cx}{o e f:Expr}{apos cpos:Pos}{td ty tx:TE}
end

section
variable {X:Cx}{pins:List (Addr×Obj)}{σ:St}{H:Hp}{s:Shared}{a:Addr}{kvs:List (Key×V)}{A:Around}{E:Value->Shared->Prop}
end

section
variable {X:Cx}{pins:List (Addr×Obj)}{σ:St}{H:Hp}{s:Shared}{a:Addr}{y:V}{u:Value}{A:Around}{E:Value->Shared->Prop}
end
end L2

namespace Att
open PySem PySem.W PySem.Calls PyProof.Rows

def jdO {P:Params}{h:Heap}:∀(ns:List Int) (vs:List Value),WellAll P h vs (ns.map WData.int)->IntsAre vs ns:=by
 intro ns
 induction ns with
 |nil=>
  intro vs w;rw[Yc6]at w;cases w;exact .nil
 |cons n ns ih=>
  intro vs w;rw[YaG]at w;cases w with
  |cons a b=>
   cases a;exact .cons _ _ (ih _ b)

def jhM {l:OpenLaw}{n:Nat}(hn:l.most=some n){P:Params}{h:Heap}{args:List WData}{vals:List Value}
  (hpre:l.row.toRowW.claim.pre args=true) (hwl:WellAll P h vals args) :
  ∃a vs ns,vals=[YbD a]/\args=[WData.list (ns.map WData.int)]/\h.get? a=some { cls:=.type "list",data:=.seq vs.toArray }/\IntsAre vs ns/\ns.length<=n:=by
 have hsh:WShape.hasAll [] args [.list .int]=true:=(pre_splitW hpre).1;have hc:l.pre.holds [] { args:=args }=true:=(pre_splitW hpre).2;obtain⟨d,r,rfl,h1,h2⟩:=hasAllW_cons hsh;obtain rfl:=hasAllW_nil h2;obtain⟨xs,rfl,h3⟩:=hasW_list h1;obtain⟨ns,rfl⟩:=items_int h3;have hlen:ns.length<=n:=by
  unfold OpenLaw.pre at hc;have h4:(WTm.not (.lt (.lit (.int (n:Int))) (.len (.arg 0)))).holds [] { args:=[.list (ns.map .int)] }=true:=by
   have h4:=(holds_andW hc).1;rw[hn]at h4;exact h4
  have h5:=condW_of h4 (w_not (w_lt w_lit (w_len_list (w_arg rfl))));rw[Yaa]at h5;refine Nat.le_of_not_lt λq=>?_;have q':(n:Int)<((ns.length:Nat):Int):=by omega
  first
   |(rw[decide_eq_true q']at h5;exact absurd h5 (by decide))
   |(simp at h5;omega)
 cases hwl with
 |cons w1 w2=>
  cases w2;cases w1 with
  |list ho hall=>exact⟨_,_,ns,rfl,rfl,ho,jdO ns _ hall,hlen⟩

def jhR (l:OpenLaw)(args:List WData):l.row.toRowW.claim.post args (.bool true) args=true:=
 postW_of (r:=l.row.toRowW) (X:=(true==true))
  (show WShape.has [] (.bool true) .bool=true by first|rfl|decide|simp[WShape.has,WShape.arms,WShape.armsAll])
  (show(WTm.eq .res (.lit (.bool true))).value [] { args:=args,res:=some (.bool true),after:=args }=some (.bool (true==true))from w_eq_bool (w_res rfl) w_lit) rfl

def attach_call {l:OpenLaw}{n:Nat}{q:Program}{loose:List Str}{XP:(Str->Option Value)->Heap->Prop}{YP:World->Heap->Prop}{d:DefRec}
  (hn:l.most=some n) (hdf:d.params.defaults=[])
  (call:∀(w:World) (s₀ s₁:Shared) (mg mb:Str->Option Value) (fa:Addr) (o:Obj) (pm cd doc:Value) (a:Addr) (vs:List Value) (ns:List Int),
   Ground q loose [] XP w s₀ mg mb s₁.heap->YP w s₁.heap->
   s₁.heap.get? fa=some o->o.data=.func (docDef d.name d.params d.body d.scope pm cd doc)->s₁.heap.CodeRec cd d.name->mg d.name=some (.ref fa)->
   s₁.heap.get? a=some { cls:=.type "list",data:=.seq vs.toArray }->IntsAre vs ns->ns.length<=n->s₁.gens=#[]->
   codeAny (model l.prog w) callerA (.call (.ref fa) ⟨[.ref a],[]⟩) (λr s'=>r=.ok (.ret (.bool true))/\OldK s₁.heap s'.heap/\s'.os=s₁.os/\AllBare s'.gens) s₁) :
  WalkO q loose XP YP l.row.toRowW d [] (λf vs=>Yfv f vs):=by
 intro w s₀ s₁ mg mb G Y fa o pm cd doc dV kV ho hd hcd hD hmg hg args vals as hpre hlay hrd hwl hlo;obtain rfl:dV=.none:=Dflts.none hD hdf;obtain rfl:kV=.none:=Dflts.noKw hD;obtain⟨a,vs,ns,rfl,rfl,hobj,hints,hlen⟩:=jhM hn hpre hwl;refine enter_call (Yeu (call w s₀ s₁ mg mb fa o pm cd doc a vs ns G Y ho (fd_plain hd) hcd hmg hobj hints hlen hg) λr s' hq=>?_);obtain⟨rfl,h2,h3,h4⟩:=hq;exact⟨.inl ⟨.bool true,.bool true,[],rfl,λ_=>rfl,.bool true,jhR l _,λ_=>⟨Yep,λ_ hm=>(nomatch hm)⟩⟩,h2,h3,h4⟩

section
variable {prog:Program}{w:World}{A:Around}{E:Value->Shared->Prop}{s:Shared}{K:Frag}

end
end Att

namespace L2
open PySem PySem.Spec PyProof.Rows

def jeT:∀{vs:List Value} {ns:List Int},IntsAre vs ns->Vals (ns.map V.int) vs
 |_,_,.nil=>.nil
 |_,_,.cons n t h=>.cons ⟨t,rfl⟩ (jeT h)



noncomputable def jiu (s:Stmt)(j:Nat):Stmt:=match s with
 |.ClassDef _ _ _ body _ _ _ _ _ _ _=>body.getD j (.Pass ⟨0,0,0,0⟩)
 |_=>.Pass ⟨0,0,0,0⟩
def jbk (s:Stmt):Yf7:=match s with
 |.FunctionDef _ a _ _ _ _ _ _ _ _=>a
 |_=>{ posonlyargs:=[],args:=[],vararg:=none,kwonlyargs:=[],kw_defaults:=[],kwarg:=none,defaults:=[] }
def jau (s:Stmt):List Stmt:=match s with
 |.FunctionDef _ _ b _ _ _ _ _ _ _=>b
 |_=>[]
def jah (s:Stmt):Scope:=match s with
 |.FunctionDef _ _ _ _ _ _ sc _ _ _=>sc
 |_=>{ kind:=.function,names:=[],isGenerator:=false,isCoroutine:=false }

abbrev CX0:CXT:=λ_ _ _ _ _ _=>False
abbrev E0:XK:=λ_ _ _=>False
structure Fun (K:Yac)(x qual:Str)(st:Stmt)(f:Addr)(fd:Ybu):Prop where
 ex:∃(oc:Value) (od:Option Addr) (kV doc pm:Value) (an:Option Addr) (cdv ct:Value) (osl:Array (Option Value)),
  fd=YbI x qual (jbk st) (jau st) (jah st) .none kV doc pm an cdv ct/\K.lookup f=some ⟨oc,od,.func fd,osl⟩/\YcF K cdv qual=true
 kp:YbY K (.ref f)=true
section
variable {P:Program}{w:World}{K:Yac}{mg:Str->Option Value}{base:Heap}
section
variable {x qual:Str}{st:Stmt}{f:Addr}
def Fun.binds {fd:Ybu}{ps:List Str}(F:Fun K x qual st f fd)
  (h:∀(kV doc pm:Value) (an:Option Addr) (cdv ct:Value) (us:List Value),us.length=ps.length->bindArgs (YbI x qual (jbk st) (jau st) (jah st) .none kV doc pm an cdv ct) ⟨us,[]⟩=pure (ps.zip us)):Binds K fd ps []:=by
 obtain⟨oc,od,kV,doc,pm,an,cdv,ct,osl,rfl,lk,hcd⟩:=F.ex;exact .all (h kV doc pm an cdv ct)
def jkE {oc:Value}{od an:Option Addr}{osl:Array (Option Value)}{kV doc pm cdv ct:Value}(l:K.lookup f=some ⟨oc,od,.func (YbI x qual (jbk st) (jau st) (jah st) .none kV doc pm an cdv ct),osl⟩)
  (c:YcF K cdv qual=true) (k:YbY K (.ref f)=true):Fun K x qual st f (YbI x qual (jbk st) (jau st) (jah st) .none kV doc pm an cdv ct):=⟨⟨oc,od,kV,doc,pm,an,cdv,ct,osl,rfl,l,c⟩,k⟩
end
end
def jqB {A:Around}{k:Nat}(hr:Room k A):A.units+1<cLine:=YaF (Yfy (by decide:1<=64) _) hr.units
section
variable {X:Cx}
end

def Same (H H':Hp):Prop:=∀b o,H b=some o->H' b=some o
section
variable {X:Cx}
def jiU:ja7 X (.builtin "len") (λxs H Q=>∃a kvs,xs=[V.ref a]/\H a=some (.dK kvs)/\Q (.int kvs.length) H):=by
 intro pins s σ H xs us Q I r h;obtain⟨a,kvs,rfl,ha,q⟩:=h;obtain⟨u,rfl,ru⟩:=jcK r;cases ru;exact jqK I (.inl ha) λt s' I'=>⟨.int kvs.length,H,I',⟨t,rfl⟩,q⟩
end
section
variable {κ:Type}[DecidableEq κ]
end
end L2

namespace L2
open PySem PySem.Spec PyProof.Rows

section
variable {prog:Program}{w:World}{A:Around}{R:Result->Shared->Prop}{s:Shared}
noncomputable def jfQ (env:Env)(ifs:List Expr):Sem Bool:=forIn ifs true λc r=>ite (r=true) (isTrue c env (eval c env) >>= λb=>pure (.yield b)) (pure (.yield r))
noncomputable def jdz (ip:Pos)(tg:Expr)(ifs:List Expr)(it:Value)(env:Env)(em:Sem Unit)(next:Code):Sem Fin:=
 standAt ip >>= λ_=>pyNext it >>= λr=>match r with
  |none=>pure (.done .next)
  |some v=>YcK tg it v >>= λ_=>assign tg env v >>= λ_=>jfQ env ifs >>= λok=>ite (ok=true) (em >>= λ_=>again next) (again next)
def jk1 (M:Model)(A:Around)(tg:Expr)(ifs:List Expr)(it:Value)(env:Env)(em:Sem Unit)(fin:Shared->Prop)(less:Shared->Prop):Option Value->Shared->Prop
 |none,s=>fin s
 |some v,s=>wpAny M A (YcK tg it v) (λ_ s=>wpAny M A (assign tg env v) (λ_ s=>wpAny M A (jfQ env ifs) (λok s=>if ok=true then wpAny M A em (λ_ s=>less s) (λ_ _=>False) s else less s) (λ_ _=>False) s) (λ_ _=>False) s) (λ_ _=>False) s
def jfA {elt:Expr}{gens:List YbJ}{scope:Scope}{pos:Pos}{dp:Nat}{target:Expr}{ip:Pos}{ifs:List Expr}{it acc:Value}{env:Env}{em:Sem Unit}(I:Nat->Shared->Prop)
  (hct:YeE (.ListComp elt gens scope pos) dp it acc env=jdz ip target ifs it env em (.compLoop (.ListComp elt gens scope pos) dp it acc env))
  (turn:∀k t,I k t->wpAny (model prog w) A (pyNext it) (jk1 (model prog w) A target ifs it env em (R (.ok .next)) λt=>∃m,m<k/\I m t) (λ_ _=>False) t)
  (n:Nat) (h:I n s):codeAny (model prog w) A (.compLoop (.ListComp elt gens scope pos) dp it acc env) R s:=by
 have no:∀{Z:Value->Shared->Prop} (e:Value) (t:Shared),False->Z e t:=λ_ _ f=>f.elim;refine codeAny_loop rfl I (λk t hk=>wpAny_noted (m:=YeE (.ListComp elt gens scope pos) dp it acc env) (hct ▸ ?_)) n h;refine Yag (Ydb (Yag (Ybm (turn k t hk) (λr t1 p=>?_) no)))
 match r,p with
 |none,p=>exact Yar p
 |some v,p=>
  refine Yag (Ybm p (λ_ t2 p=>Yag (Ybm p (λ_ t3 p=>Yag (Ybm p (λok t4 p=>?_) no)) no)) no)
  match ok,p with
  |false,p=>exact Yar ⟨rfl,p⟩
  |true,p=>exact Yag (Ybm p (λ_ t5 p=>Yar ⟨rfl,p⟩) no)
end

def jbS (env:Env):∀(names:List (Str×YbC)) (acc:List (Str×Addr)),(∀y∈names,y.2=.free->∃c,env.cells.lookup y.1=some c)->
  ∃cl:List (Str×Addr),(forIn names acc (λ(y:Str×YbC) (cs:List (Str×Addr))=>(if (y.2==YaR)=true then (do let c <- cellOf env y.1;pure (ForInStep.yield ((y.1,c)::cs))) else pure (ForInStep.yield cs):Sem (ForInStep (List (Str×Addr))))):Sem (List (Str×Addr)))=pure cl/\
   (∀x c,(x,c)∈cl->(x,c)∈acc\/(env.cells.lookup x=some c/\(x,YaR)∈names))/\(∀p∈acc,p∈cl)/\(∀y∈names,y.2=.free->∃c,(y.1,c)∈cl)
 |[],acc,_=>⟨acc,rfl,λ_ _ h=>.inl h,λ_ h=>h,λ_ h=>nomatch h⟩
 |(n,k)::r,acc,h=>by
  by_cases hk:k=.free
  ·subst hk;obtain⟨c,hc⟩:=h (n,.free) Yat rfl;obtain⟨cl,e,h1,h2,h3⟩:=jbS env r ((n,c)::acc) λy hy=>h y (Yai _ hy);refine⟨cl,?_,λx d hd=>?_,λp hp=>h2 p (Yai _ hp),λy hy hf=>?_⟩
   ·rw[List.forIn_cons];have:(cellOf env n:Sem Addr)=pure c:=by unfold cellOf;rw[hc]
    simp only[beq_self_eq_true,if_true,this,pure_bind];exact e
   ·rcases h1 x d hd with z|⟨z,z'⟩
    ·rcases YaM.mp z with z|z
     ·cases z;exact .inr ⟨hc,Yat⟩
     ·exact .inl z
    ·exact .inr ⟨z,Yai _ z'⟩
   ·rcases YaM.mp hy with z|z
    ·subst z;exact⟨c,h2 _ Yat⟩
    ·exact h3 y z hf
  ·obtain⟨cl,e,h1,h2,h3⟩:=jbS env r acc λy hy=>h y (Yai _ hy);have hb:(k==YaR)=false:=by simpa using hk
   refine⟨cl,?_,λx d hd=>?_,h2,λy hy hf=>?_⟩
   ·rw[List.forIn_cons];simp only[hb,Ybw,if_false,pure_bind];exact e
   ·rcases h1 x d hd with z|⟨z,z'⟩
    ·exact .inl z
    ·exact .inr ⟨z,Yai _ z'⟩
   ·rcases YaM.mp hy with z|z
    ·subst z;exact absurd hf hk
    ·exact h3 y z hf
def jcw {β:Type}:∀{l:List (Str×β)} {x:Str} {c:β},(x,c)∈l->∃d,l.lookup x=some d/\(x,d)∈l
 |(n,k)::r,x,c,h=>by
  cases hx:x==n with
  |true=>
   refine⟨k,by simp only[Ya9,hx],?_⟩
   rw[eq_of_beq hx];exact Yat
  |false=>
   rcases YaM.mp h with z|z
   ·cases z;simp at hx
   ·obtain⟨d,e,m⟩:=jcw z;exact⟨d,by simp only[Ya9,hx];exact e,Yai _ m⟩
def jey {scope:Scope}{env:Env}(h:∀y∈scope.names,y.2=.free->∃c,env.cells.lookup y.1=some c) :
  ∃cl:List (Str×Addr),closureFor scope env=pure cl/\(∀x c,cl.lookup x=some c->env.cells.lookup x=some c)/\(∀y∈scope.names,y.2=.free->∃c,cl.lookup y.1=some c):=by
 obtain⟨cl,e,h1,_,h3⟩:=jbS env scope.names [] h;refine⟨cl,?_,λx c hx=>?_,λy hy hf=>?_⟩
 ·unfold closureFor;rw[<- e];simp only[bind_pure]
 ·rcases h1 x c (YaJ hx)with z|⟨z,_⟩
  ·exact nomatch z
  ·exact z
 ·obtain⟨c,hc⟩:=h3 y hy hf;obtain⟨d,e,_⟩:=jcw hc;exact⟨d,e⟩

noncomputable def jap (X:Cx)(N:List Str)(scope:Scope)(cl:List (Str×Addr))(C:Addr)(s₀:Shared)(H₀:Hp)(fp:List Addr):Cx where
 prog:=X.prog
 w:=X.w
 K:=X.K
 mg:=X.mg
 base:=X.base
 A:=X.A
 N:=N
 s₀:=s₀
 H₀:=H₀
 env:=compEnvC scope cl C X.env
 outer:=X.stack
 stack:=X.stack
 ex:=fp
 fn:=λx=>scope.names.lookup x==some .cell
 calm:=X.calm
 pn:=[]
 xe:=λ_ _=>False

noncomputable def cOk (oN:List Str)(on:List (Str×YbC))(N:List Str)(pick:List (Option Nat))(scope:Scope):Bool:=
 decide (scope.kind=.function)&&scope.names.all (λy=>y.2 != .cell||scope.names.lookup y.1==some .cell)&&scope.names.all (λy=>y.2 != .local||scope.names.lookup y.1==some .local)
  && scope.names.all (λy=>y.2 != .free||(scope.names.lookup y.1==some .free&&(on.lookup y.1==some .cell||on.lookup y.1==some .free)))
  && pick.length==N.length&&(N.zip pick).all (λp=>match p.2 with|none=>true|some j=>oN[j]?==some p.1&&scope.names.lookup p.1==some .free)

structure CScope (X:Cx)(N:List Str)(pick:List (Option Nat))(scope:Scope):Prop where
 kind:scope.kind=.function
 cells:∀y∈scope.names,y.2=.cell->scope.names.lookup y.1=some .cell
 names:∀y∈scope.names,y.2=.local->scope.names.lookup y.1=some .local
 fre:∀y∈scope.names,y.2=.free->scope.names.lookup y.1=some .free/\(X.env.kindOf y.1=some .cell\/X.env.kindOf y.1=some .free)
 len:pick.length=N.length
 caps:∀(i j:Nat) (x:Str),N[i]?=some x->pick[i]?=some (some j)->X.N[j]?=some x/\scope.names.lookup x=some .free
def jc6 (f:Str->YbC->YbC):∀(names:List (Str×YbC)) (x:Str),(names.map λy=>(y.1,f y.1 y.2)).lookup x=(names.lookup x).map (f x)
 |[],_=>rfl
 |(n,k)::r,x=>by
  rw[YaG,Ya9,Ya9,jc6 f r x];by_cases e:x=n
  ·subst e;rw[beq_self_eq_true];rfl
  ·rw[beq_false_of_ne e]
noncomputable def jkx (env:Env)(n:Str)(k:YbC):YbC:=if (k==YaR&&env.scope.kind == .function&&env.kindOf n==some .cell) then .cell else k
def jcm (env:Env)(names:List (Str×YbC))(x:Str) :
  (names.map λ(n,k)=>if (k==YaR&&env.scope.kind == .function&&env.kindOf n==some .cell) then (n,YaQ) else (n,k)).lookup x=(names.lookup x).map (jkx env x):=by
 rw[<- jc6 (jkx env)];congr 2;funext y;show ite _ _ _=(y.1,ite _ _ _);split<;>rfl
def ja6 {env:Env}{names:List (Str×YbC)}{x:Str}(h:names.lookup x=some .free) :
  (names.map λ(n,k)=>if (k==YaR&&env.scope.kind == .function&&env.kindOf n==some .cell) then (n,YaQ) else (n,k)).lookup x=some .cell\/
  (names.map λ(n,k)=>if (k==YaR&&env.scope.kind == .function&&env.kindOf n==some .cell) then (n,YaQ) else (n,k)).lookup x=some .free:=by
 rw[jcm,h];show some (ite _ _ _)=_\/some (ite _ _ _)=_;split
 ·exact .inl rfl
 ·exact .inr rfl
def jaB {env:Env}{q:YbC}(hq:q≠.free){names:List (Str×YbC)}{x:Str}(h:names.lookup x=some q) :
  (names.map λ(n,k)=>if (k==YaR&&env.scope.kind == .function&&env.kindOf n==some .cell) then (n,YaQ) else (n,k)).lookup x=some q:=by
 rw[jcm,h];show some (ite _ _ _)=_;rw[beq_false_of_ne hq];rfl
def jbG {env:Env}:∀{names:List (Str×YbC)} {x:Str},
  ((names.map λ(n,k)=>if (k==YaR&&env.scope.kind == .function&&env.kindOf n==some .cell) then (n,YaQ) else (n,k)).lookup x=some .cell\/
  (names.map λ(n,k)=>if (k==YaR&&env.scope.kind == .function&&env.kindOf n==some .cell) then (n,YaQ) else (n,k)).lookup x=some .free)->(x,YaR)∈names\/(x,YaQ)∈names
 |[],_,h=>by simp at h
 |(n,k)::r,x,h=>by
  have ih:_->_:=@jbG env r x;have h':Yee x ((if (k==YaR&&env.scope.kind == .function&&env.kindOf n==some .cell)=true then (n,YaQ) else (n,k))::r.map λ(n,k)=>if (k==YaR&&env.scope.kind == .function&&env.kindOf n==some .cell) then (n,YaQ) else (n,k))=some .cell\/Yee x ((if (k==YaR&&env.scope.kind == .function&&env.kindOf n==some .cell)=true then (n,YaQ) else (n,k))::r.map λ(n,k)=>if (k==YaR&&env.scope.kind == .function&&env.kindOf n==some .cell) then (n,YaQ) else (n,k))=some .free:=h
  by_cases hk:k=.free
  ·cases hx:x==n with
   |true=>rw[eq_of_beq hx,hk];exact .inl Yat
   |false=>
    refine(ih ?_).imp (Yai _) (Yai _);by_cases hcc:(k==YaR&&env.scope.kind == .function&&env.kindOf n==some .cell)=true
    ·rw[if_pos hcc]at h';simpa only[Ya9,hx]using h'
    ·rw[if_neg hcc]at h';simpa only[Ya9,hx]using h'
  ·have hb:(k==YaR)=false:=by simpa using hk
   rw[if_neg (by simp[hb])]at h'
   cases hx:x==n with
   |true=>
    simp only[Ya9,hx]at h';rcases h' with z|z
    ·rw[eq_of_beq hx,Yao z];exact .inr Yat
    ·exact absurd (Yao z) hk
   |false=>exact(ih (by simpa only[Ya9,hx]using h')).imp (Yai _) (Yai _)

def jaJ:∀(names:List (Str×YbC)) (n:Nat) (acc:List (Str×Addr)),Ybp n names acc=Ybp n names []++acc
 |[],_,_=>rfl
 |(x,k)::r,n,acc=>by
  unfold Ybp;split
  ·rw[jaJ r (n+1) ((x,n)::acc),jaJ r (n+1) [(x,n)],YdF];rfl
  ·exact jaJ r n acc
def ja5:∀(names:List (Str×YbC)) (n:Nat) {x:Str} {c:Addr},(x,c)∈Ybp n names []->(x,YaQ)∈names
 |[],_,_,_,h=>nomatch h
 |(y,k)::r,n,x,c,h=>by
  unfold Ybp at h;split at h
  ·rename_i hk;rw[jaJ]at h;rcases List.mem_append.mp h with h|h
   ·exact Yai _ (ja5 r _ h)
   ·have e:(x,c)=(y,n):=by simpa using h
    cases e;rw[eq_of_beq hk];exact Yat
  ·exact Yai _ (ja5 r _ h)
def jen {β:Type}:∀(l m:List (Str×β)) (x:Str),(l++m).lookup x=(l.lookup x).or (m.lookup x)
 |[],_,_=>by simp
 |(n,k)::r,m,x=>by
  rw[Yf5,Ya9,Ya9];cases hx:x==n with
  |true=>simp
  |false=>exact jen r m x
structure BCells (scope:Scope)(cl cs:List (Str×Addr))(lo:Nat)(h:Heap):Prop where
 lk:∀x c,cs.lookup x=some c->((x,YaQ)∈scope.names/\lo<c/\h.IsCell c none)\/((x,YaQ)∉scope.names/\cl.lookup x=some c)
 own:∀x,scope.names.lookup x=some .cell->∃c,cs.lookup x=some c/\lo<c
 old:∀x c,(x,YaQ)∉scope.names->cl.lookup x=some c->cs.lookup x=some c
 inj:∀x y c,cs.lookup x=some c->cs.lookup y=some c->lo<c->x=y
def jiY {scope:Scope}{cl:List (Str×Addr)}{h:Heap}{lo:Nat}(hl:h.objs.size=lo+1)(S:∀y∈scope.names,y.2=.cell->scope.names.lookup y.1=some .cell)(hcl:∀x c,cl.lookup x=some c->c<=lo):BCells scope cl (Ybp (lo+1) scope.names cl) lo (YeQ h scope.names):=by
 have ok:=cellsFrom_ok scope.names h (lo+1) [] ⟨λ_ _ hm=>(nomatch hm),Yep⟩ (by omega)
 rw[hl]at ok;have look:∀x,(Ybp (lo+1) scope.names cl).lookup x=((Ybp (lo+1) scope.names []).lookup x).or (cl.lookup x):=λx=>by rw[jaJ,jen]
 have own:∀x,(x,YaQ)∈scope.names->∃c,(Ybp (lo+1) scope.names []).lookup x=some c:=λx hx=>jeN (S _ hx rfl);refine⟨λx c e=>?_,λx hx=>?_,λx c hx hc=>?_,λx y c e1 e2 hc=>?_⟩
 ·rw[look]at e;by_cases hx:(x,YaQ)∈scope.names
  ·obtain⟨c',e'⟩:=own x hx;rw[e',Yd9]at e;have e:c'=c:=Yao e;subst e;obtain⟨z1,z2⟩:=ok.empty x c' (YaJ e');exact .inl ⟨hx,z2,z1⟩
  ·cases q:(Ybp (lo+1) scope.names []).lookup x with
   |some c'=>exact absurd (ja5 _ _ (YaJ q)) hx
   |none=>rw[q,Yea]at e;exact .inr ⟨hx,e⟩
 ·obtain⟨c,e⟩:=own x (YaJ hx);exact⟨c,by rw[look,e,Yd9],(ok.empty x c (YaJ e)).2⟩
 ·rw[look];cases q:(Ybp (lo+1) scope.names []).lookup x with
  |some c'=>exact absurd (ja5 _ _ (YaJ q)) hx
  |none=>rw[Yea];exact hc
 ·rw[look]at e1 e2;have new:∀x,((Ybp (lo+1) scope.names []).lookup x).or (cl.lookup x)=some c->(Ybp (lo+1) scope.names []).lookup x=some c:=λx e=>by
   cases q:(Ybp (lo+1) scope.names []).lookup x with
   |some c'=>rw[q,Yd9]at e;exact e
   |none=>
    rw[q,Yea]at e;exact absurd (Yau hc (hcl x c e)) (Ybf _)
  exact name_of_addr ok.apart (YaJ (new x e1)) (YaJ (new y e2))
def jb9 {M:Model}{A:Around}{E:Value->Shared->Prop}{s:Shared}{scope:Scope}{globals:Addr}{cl:List (Str×Addr)}{qual:Str}{env:Env}{Q:Env->Shared->Prop}
  (hQ:Q (newEnv scope s.heap.objs.size globals (Ybp (s.heap.objs.size+1) scope.names cl) qual none .none (some env) Ydx) { s with heap:=YeQ (s.heap.push { cls:=.type "dict",data:=.dict #[] }) scope.names }) :
  wpAny M A (Ye3 scope globals cl [] qual none .none (some env)) Q E s:=by
 have sz:(s.heap.push { cls:=.type "dict",data:=.dict #[] }).objs.size=s.heap.objs.size+1:=Yct ..;unfold Ye3;rw[if_pos (by rfl)]
 refine Yag (wpAny_alloc (Yag (wpAny_layCells _ (λx k c=>by by_cases e:(k==YaQ)=true<;>simp[e]) _ _ _ _ ?_)))
 rw[show Heap.objs (Shared.heap _)=(s.heap.push { cls:=.type "dict",data:=.dict #[] }).objs from rfl,sz];exact Yag (Yar (Yar hQ))

section
variable {X:Cx}{N:List Str}{scope:Scope}{cl:List (Str×Addr)}{C:Addr}{s₀:Shared}{H₀:Hp}{fp:List Addr}
def glc {x:Str}(h:scope.names.lookup x=some .globalImplicit):Gl (jap X N scope cl C s₀ H₀ fp) x:=jaB (by decide) h
end

def PIfs (X:Cx)(ifs:List Expr)(t:TT):Prop:=
 ∀(pins:List (Addr×Obj)) (s:Shared) (σ:St) (H:Hp) (Q:Bool->Hp->Prop),Inv X pins σ H s->t σ H Q->
  wpAny (model X.prog X.w) X.A (jfQ X.env ifs) (TP X pins σ Q) X.xe s
def jpM:TT:=λ_ H Q=>Q true H
def jlr {X:Cx}:PIfs X [] jpM:=λ_ _ _ H _ I h=>wpAny_tests_nil ⟨H,I,h⟩
def jlq {X:Cx}{c:Expr}{t:TT}(h:PT X c t):PIfs X [c] t:=λpins s σ H Q I q=>wpAny_tests_one (h pins s σ H Q I q)

abbrev TEm:=St->List V->Hp->(St->List V->Hp->Prop)->Prop
def ji3 (J:It)(g:TG)(tt:TT)(tem:TEm)(QQ:St->List V->Hp->Prop)(τ0:St)(ys0:List V)(H1:Hp):Prop:=∃W:Nat->Nat->St->List V->Hp->Prop,
 (∃m,W 0 m τ0 ys0 H1)/\∀i m τ ys H,W i m τ ys H->
  (J.stop i H/\QQ τ ys H)\/(J.go i H/\∀x H',J.yld i H x H'->g x τ H' λτ2 H2=>tt τ2 H2 λb H3=>if b=true then tem τ2 ys H3 λτ3 ys' H4=>∃m',m'<m/\W (i+1) m' τ3 ys' H4
   else ∃m',m'<m/\W (i+1) m' τ2 ys H3)
def emA (te:TE)(D:Addr):TEm:=λτ ys H Q=>te τ H λv H4=>H4 D=some (.lst ys)/\ys.length<Yak/\Q τ (ys++[v]) (upd H4 D (.lst (ys++[v])))
def LcGG (J:It)(g:TG)(tt:TT)(tem:Addr->TEm)(D:Addr)(τ0:St)(Q:VK)(H1:Hp):Prop:=ji3 J g tt (tem D) (λ_ _ H=>Q (.ref D) H) τ0 [] (upd H1 D (.lst []))
def PEm (Y:Cx)(em:Sem Unit)(tem:TEm):Prop:=∀(pins:List (Addr×Obj)) (s:Shared) (τ:St) (ys:List V) (H:Hp) (Q:St->List V->Hp->Prop),Inv Y pins τ H s->tem τ ys H Q->
 wpAny (model Y.prog Y.w) Y.A em (λ_ s'=>∃τ' ys' H',Inv Y pins τ' H' s'/\Q τ' ys' H') Y.xe s
def tLcG (pick:List (Option Nat))(wi:TI)(g:TG)(tt:TT)(tem:Addr->TEm):TE:=λσ H Q=>wi σ H λJ H1=>∀D,H1 D=none->LcGG J g tt tem D (pick.map λo=>o.bind λj=>(σ[j]?).join) Q H1
abbrev tLc (pick:List (Option Nat))(wi:TI)(g:TG)(tt:TT)(te:TE):TE:=tLcG pick wi g tt (emA te)
section
variable {X:Cx}{N:List Str}{pick:List (Option Nat)}{scope:Scope}{pins:List (Addr×Obj)}{σ:St}{s s3:Shared}{H H3:Hp}

def jhr {cl cs:List (Str×Addr)}{fp:List Addr}{h₁:Heap}{tk:Nat}{mB:Str->Option Value}(S:CScope X N pick scope)(I3:Inv X pins σ H3 s3)(hf:∀b∈fp,FpOk X pins H3 b)(hlt:∀b∈fp,b<s3.heap.objs.size)
  (c1:∀x c,cl.lookup x=some c->X.env.cells.lookup x=some c) (c2:∀y∈scope.names,y.2=.free->∃c,cl.lookup y.1=some c) (B:BCells scope cl cs s3.heap.objs.size h₁)
  (hns:h₁.Ns s3.heap.objs.size mB) (hk:∀b o,s3.heap.get? b=some o->h₁.get? b=some o) :
  Inv (jap X N scope cs s3.heap.objs.size s3 H3 fp) [] (pick.map λo=>o.bind λj=>(σ[j]?).join) H3 { s3 with heap:=h₁,toks:=tk }:=by
 have fsub:∀b∈frs X.stack,b∈X.env.locals::X.fs:=I3.stkSub;have oc:∀x c,cs.lookup x=some c->X.env.cells.lookup x=some c\/s3.heap.objs.size<c:=λx c e=>by
  rcases B.lk x c e with⟨_,z,_⟩|⟨_,z⟩
  ·exact .inr z
  ·exact .inl (c1 x c z)
 have has:∀x,((x,YaR)∈scope.names\/(x,YaQ)∈scope.names)->∃c,cs.lookup x=some c:=λx hx=>by
  by_cases hc:(x,YaQ)∈scope.names
  ·obtain⟨c,e,_⟩:=B.own x (S.cells _ hc rfl);exact⟨c,e⟩
  ·rcases hx with hx|hx
   ·obtain⟨c,e⟩:=c2 _ hx rfl;exact⟨c,B.old x c hc e⟩
   ·exact absurd hx hc
 refine⟨⟨I3.ok.mod,S.kind,I3.ok.glob,I3.ok.blt,Yaf _,λx y c e1 e2=>?_,λx hx=>has x (jbG hx),λx c z e=>?_,I3.ok.hd,I3.ok.frames,.inl rfl,λb hb=>⟨Yay (hlt b hb),λx c e=>?_⟩,
   I3.bs,Yah I3.ok.bsz I3.sz,λb o e hb=>?_,λb hb hm=>?_,I3.stack,I3.stkFree⟩,
  rfl,I3.bare,Un.kept hk,⟨_,hns,λi x v e1 e2 e3=>?_⟩,λx c e=>?_,I3.hok.fresh (Yaf _),λx c e=>?_,λp hp=>absurd (show p∈([]:List (Addr×Obj))from hp) (by simp),I3.hok.kept hk,?_⟩
 ·by_cases hc:s3.heap.objs.size<c
  ·exact B.inj x y c e1 e2 hc
  ·exact I3.ok.inj x y c ((oc x c e1).resolve_right hc) ((oc y c e2).resolve_right hc)
 ·have z':scope.names.lookup x=some .cell:=eq_of_beq z;rcases B.lk x c e with⟨_,y,_⟩|⟨y,_⟩
  ·exact Yci y
  ·exact absurd (YaJ z') y
 ·rcases oc x c e with z|z
  ·exact(hf b hb).2.2.2.2.1 x c z
  ·intro q;rw[q]at z;exact absurd (Yde z (hlt b hb)) (Ybf _)
 ·rcases(hf b hb).2.2.2.1 with z|z
  ·exact I3.ok.noex b o e z
  ·exact absurd (Yau (Yaq e) (Yah I3.ok.bsz z)) (Ybf _)
 ·rcases YaM.mp (fsub b hm)with z|z
  ·exact(hf b hb).2.1 z
  ·exact(hf b hb).2.2.1 z
 ·-- a captured name
  have e2':∃j,pick[i]?=some (some j)/\σ[j]?=some (some v):=by
   rw[Yal]at e2;cases q:pick[i]? with
   |none=>rw[q]at e2;cases e2
   |some o=>
    rw[q]at e2;cases o with
    |none=>simp at e2
    |some j=>
     simp at e2;refine⟨j,rfl,?_⟩;cases q2:σ[j]? with
     |none=>rw[q2]at e2;cases e2
     |some w'=>rw[q2]at e2;simp at e2;rw[e2]
  obtain⟨j,ej,ev⟩:=e2';obtain⟨hN,hfr⟩:=S.caps i j x e1 ej;have hmem:(x,YaR)∈scope.names:=YaJ hfr;have hnc:(x,YaQ)∉scope.names:=λz=>by
   have:=S.cells _ z rfl;rw[hfr]at this;cases this
  obtain⟨_,hkind⟩:=S.fre _ hmem rfl;obtain⟨m,hn,hl⟩:=I3.loc;obtain⟨u,r,l⟩:=hl j x v hN ev (hkind.elim (λz=>.inr (.inl z)) λz=>.inr (.inr z));refine⟨u,r,.inr ⟨?_,?_⟩⟩
  ·exact ja6 (env:=X.env) hfr
  ·obtain⟨c,hc⟩:=c2 _ hmem rfl;have hc':=c1 _ _ hc;rcases l with⟨z,_⟩|⟨_,c',e,o,ho,hd⟩
   ·rcases hkind with y|y
    ·rw[y]at z;cases z
    ·rw[y]at z;cases z
   ·have:c'=c:=by rw[hc']at e;exact(Yao e).symm
    subst this;exact⟨c',B.old x c' hnc hc,o,hk _ _ ho,hd⟩
 ·rcases B.lk x c e with⟨_,_,z⟩|⟨_,z⟩
  ·exact⟨none,z⟩
  ·obtain⟨v,o,ho,hd⟩:=I3.cell x c (c1 x c z);exact⟨v,o,hk _ _ ho,hd⟩
 ·rcases oc x c e with z|z
  ·exact I3.freeC x c z
  ·exact I3.hok.fresh (Yci z)
 ·rw[Yaa];exact S.len

def jj3 {cl:List (Str×Addr)}{fp:List Addr}{C:Addr}{τ:St}{H':Hp}{s':Shared}{pins':List (Addr×Obj)}(I3:Inv X pins σ H3 s3)(hf:∀b∈fp,FpOk X pins H3 b)(J:Inv (jap X N scope cl C s3 H3 fp) pins' τ H' s') :
  Inv X pins σ H' s':=I3.call' J.os J.base J.hok J.bare λb hb=>⟨(hf b hb).2.2.2.1,(hf b hb).2.1,(hf b hb).2.2.2.2.1,(hf b hb).2.2.2.2.2⟩

def jl1 {Y:Cx}{elt tg:Expr}{gens:List YbJ}{pos ip:Pos}{ifs:List Expr}{dp:Nat}{acc:Value}{em:Sem Unit}{g:TG}{tt:TT}{tem:TEm}{J:It}{fp:List Addr}{it:Addr}{tn:Nat->Heap->Prop}{QQ:St->List V->Hp->Prop}{τ0:St}{ys0:List V}
  (yc:Y.calm=true) (yxe:Y.xe=λ_ _=>False)
  (hct:YeE (.ListComp elt gens scope pos) dp (.ref it) acc Y.env=jdz ip tg ifs (.ref it) Y.env em (.compLoop (.ListComp elt gens scope pos) dp (.ref it) acc Y.env))
  (yg:PG Y tg g) (yi:PIfs Y ifs tt) (ym:PEm Y em tem) (J0:Inv Y pins τ0 H s) (T:Turn Y.prog Y.w Y.K tg J fp it tn) (t0:tn 0 s.heap) (f0:∀b∈fp,FpOk Y pins H b) (hW:ji3 J g tt tem QQ τ0 ys0 H) :
  codeAny (model Y.prog Y.w) Y.A (.compLoop (.ListComp elt gens scope pos) dp (.ref it) acc Y.env) (λr s'=>r=.ok .next/\∃τ' ys' H',Inv Y pins τ' H' s'/\QQ τ' ys' H') s:=by
 obtain⟨W,⟨m0,w0⟩,turn⟩:=hW;have stat:∀{H':Hp},(∀b∈fp,H' b=none)->∀b∈fp,FpOk Y pins H' b:=λhn b hb=>⟨hn b hb,(f0 b hb).2⟩;refine jfA (λn s'=>∃i τ ys H',Inv Y pins τ H' s'/\tn i s'.heap/\(∀b∈fp,H' b=none)/\W i n τ ys H') hct ?_ m0 ⟨0,_,ys0,_,J0,t0,λb hb=>(f0 b hb).1,w0⟩;rintro n s4 ⟨i,τ,ys,H4,J4,t4,fr4,w4⟩;rcases turn i n τ ys H4 w4 with⟨stop,q⟩|⟨go,step⟩
 ·refine Ybm (T.done Y rfl rfl rfl yc i pins s4 τ H4 (λ_ _=>False) J4 (stat fr4) t4 stop) (λr s5 ⟨hr,J5⟩=>?_) λ_ _ f=>f;subst hr;exact⟨rfl,τ,ys,H4,J5,q⟩
 ·refine Ybm (T.item Y rfl rfl rfl yc i pins s4 τ H4 (λ_ _=>False) J4 (stat fr4) t4 go) (λr s5 ⟨u,hr,h5⟩=>?_) λ_ _ f=>f;subst hr;refine Ybm h5 (λ_ s6 ⟨x,H6,J6,r6,y6,t6,fr6⟩=>?_) λ_ _ f=>f;have J6':=J6.pinned (stat fr6) (T.obj _ _ t6);have ag:=yg _ s6 τ H6 x u _ J6' r6 (step x H6 y6);rw[yxe]at ag;refine Ybm ag (λ_ s7 ⟨τ7,H7,J7,q7⟩=>?_) λ_ _ f=>f;have ai:=yi _ s7 τ7 H7 _ J7 q7;rw[yxe]at ai;refine Ybm ai (λok s8 ⟨H8,J8,q8⟩=>?_) λ_ _ f=>f;have again:∀{τ9:St} {H9:Hp} {s9:Shared} {zs:List V},Inv Y (pins++je4 fp s6.heap) τ9 H9 s9->(∃m',m'<n/\W (i+1) m' τ9 zs H9)->∃m,m<n/\∃i τ ys H',Inv Y pins τ H' s9/\tn i s9.heap/\(∀b∈fp,H' b=none)/\W i m τ ys H':=λ{τ9 H9 s9 zs} J9 ⟨m',hm,w9⟩=>by
   refine⟨m',hm,i+1,τ9,zs,H9,J9.unpinned,T.keep _ _ _ t6 λb hb o e=>(J9.pin (b,o) (Yav _ (Yav _ (jbU hb e)))).1,λb hb=>?_,w9⟩;obtain⟨o,e,d⟩:=T.obj _ _ t6 b hb;exact(J9.pin (b,o) (Yav _ (Yav _ (jbU hb e)))).2.1
  cases ok with
  |false=>exact again J8 q8
  |true=>
   have am:=ym _ s8 τ7 ys H8 _ J8 q8;rw[yxe]at am;exact Ybm am (λ_ s9 ⟨τ9,zs,H9,J9,q9⟩=>again J9 q9) λ_ _ f=>f
def jkK {Y:Cx}{elt:Expr}{te:TE}{D:Addr}(yxe:Y.xe=λ_ _=>False)(he:PE Y elt te):PEm Y (do let _ <- call (.builtin "list.append") [.ref D,<- eval elt Y.env]) (emA te D):=by
 intro pins s τ ys H Q J q;have ae:=he _ s τ H _ J q;refine Yag (Ybm ae (λv s9 ⟨z,H9,J9,r9,hD9,hz9,q9⟩=>?_) λ_ _ f=>f);have aa:=jff (X:=Y) _ s9 τ H9 (.ref D) [z] (.ref D) [v] (λx H'=>H'=upd H9 D (.lst (ys++[z]))) J9 rfl (.cons r9 .nil) ⟨_,ys,z,rfl,rfl,hD9,hz9,rfl⟩;refine Yag (Ybm aa (λ_ s10 ⟨_,H10,J10,_,e10⟩=>?_) λ_ _ f=>f);subst e10;exact Yar ⟨τ,_,_,J10,q9⟩
section
variable {tg iter elt:Expr}{ifs:List Expr}
def jgF {rest:List YbJ}{pos:Pos}{g:TG}{tt:TT}{tem:Addr->TEm}{em:Addr->Env->Sem Unit}{J:It}{fp:List Addr}{it:Addr}{tn:Nat->Heap->Prop}{cl:List (Str×Addr)}{Q:VK}{E:Value->Shared->Prop}{RR:Value->Addr->Result->Shared->Prop}
  (hc:X.calm=true) (S:CScope X N pick scope) (c1:∀x c,cl.lookup x=some c->X.env.cells.lookup x=some c) (c2:∀y∈scope.names,y.2=.free->∃c,cl.lookup y.1=some c)
  (hg:∀cl C s₀ H₀ fp,PG (jap X N scope cl C s₀ H₀ fp) tg g) (hi:∀cl C s₀ H₀ fp,PIfs (jap X N scope cl C s₀ H₀ fp) ifs tt) (he:∀D cl C s₀ H₀ fp,PEm (jap X N scope cl C s₀ H₀ fp) (em D (jap X N scope cl C s₀ H₀ fp).env) (tem D))
  (hct:∀(it:Value) (D:Addr) (env:Env),YeE (.ListComp elt (⟨tg,iter,ifs,0⟩::rest) scope pos) 0 it (.ref D) env=jdz iter.pos tg ifs it env (em D env) (.compLoop (.ListComp elt (⟨tg,iter,ifs,0⟩::rest) scope pos) 0 it (.ref D) env))
  (I2:Inv X pins σ H s) (T:Turn X.prog X.w X.K tg J fp it tn) (st:tn 0 s.heap) (hf:∀b∈fp,FpOk X pins H b)
  (hW:∀D,H D=none->LcGG J g tt tem D (pick.map λo=>o.bind λj=>(σ[j]?).join) Q H)
  (hRR:∀D C H' s',Inv X pins σ H' s'->(∃m,s'.heap.Ns C m)->FpOk X pins H' C->Q (.ref D) H'->RR (.ref D) C (.ok .next) s') :
  wpAny (model X.prog X.w) X.A (newList []) (λacc s₃=>wpAny (model X.prog X.w) X.A (Ye3 scope X.env.globals cl [] X.env.qual none .none (some X.env)) (λcenv s₄=>
   codeAny (model X.prog X.w) X.A (.compStart (.ListComp elt (⟨tg,iter,ifs,0⟩::rest) scope pos) 0 (.ref it) acc { cenv with scope:=relabel scope X.env }) (RR acc cenv.locals) s₄) E s₃) E s:=by
 have hD:H s.heap.objs.size=none:=I2.hok.fresh (Yaf _);have hlt:∀b∈fp,b<s.heap.objs.size:=λb hb=>let ⟨o,e,_⟩:=T.obj _ _ st b hb;Yaq e
 refine Ya6 (jb9 ?_);have I3:Inv X pins σ (upd H s.heap.objs.size (.lst [])) { s with heap:=s.heap.push { cls:=.type "list",dict:=none,data:=.seq ([]:List Value).toArray } }:=
  I2.laid (t':=s.toks) (λb u e=>Yae _ e) (Yaf _) ⟨Ybb _,[],0,.nil,Yas _ rfl⟩
 generalize hs3:({ s with heap:=s.heap.push { cls:=.type "list",dict:=none,data:=.seq ([]:List Value).toArray } }:Shared)=s3 at I3 ⊢
 have hsz:s3.heap.objs.size=s.heap.objs.size+1:=by rw[<- hs3];exact Yct ..
 have hf3:∀b∈fp,FpOk X pins (upd H s.heap.objs.size (.lst [])) b:=λb hb=>⟨by rw[jaf (Yay (hlt b hb))];exact(hf b hb).1,(hf b hb).2⟩
 have hsz':(s3.heap.push { cls:=.type "dict",data:=.dict #[] }).objs.size=s3.heap.objs.size+1:=Yct ..;have hk:∀b o,s3.heap.get? b=some o->(YeQ (s3.heap.push { cls:=.type "dict",data:=.dict #[] }) scope.names).get? b=some o:=λb o e=>pushCells_keeps _ _ b o (Yae _ e);have hns₁:(YeQ (s3.heap.push { cls:=.type "dict",data:=.dict #[] }) scope.names).Ns s3.heap.objs.size λ_=>none:=(Heap.Ns.new s3.heap (.type "dict")).keeps (pushCells_keeps _ _);have B:=jiY (cl:=cl) hsz' S.cells λx c e=>by
  obtain⟨v,z⟩:=I3.cell x c (c1 x c e);exact Yci z.lt
 generalize YeQ (s3.heap.push { cls:=.type "dict",data:=.dict #[] }) scope.names=h₁ at hk hns₁ B ⊢;generalize Ybp (s3.heap.objs.size+1) scope.names cl=cs at B ⊢;have c1':∀x c,cs.lookup x=some c->X.env.cells.lookup x=some c\/s3.heap.objs.size<c:=λx c e=>by
  rcases B.lk x c e with⟨_,z,_⟩|⟨_,z⟩
  ·exact .inr z
  ·exact .inl (c1 x c z)
 have st1:tn 0 h₁:=T.keep _ _ _ st λb _ o e=>hk b o (by rw[<- hs3];exact Yae _ e)
 have IY:Inv (jap X N scope cs s3.heap.objs.size s3 (upd H s.heap.objs.size (.lst [])) fp) [] (pick.map λo=>o.bind λj=>(σ[j]?).join) (upd H s.heap.objs.size (.lst [])) { s3 with heap:=h₁ }:=
  jhr (tk:=s3.toks) S I3 hf3 (λb hb=>Yau (hlt b hb) (by omega)) c1 c2 B hns₁ hk
 generalize hY:jap X N scope cs s3.heap.objs.size s3 (upd H s.heap.objs.size (.lst [])) fp=Y at IY;have yg:PG Y tg g:=hY ▸ hg _ _ _ _ _;have yi:PIfs Y ifs tt:=hY ▸ hi _ _ _ _ _;have ye:PEm Y (em s.heap.objs.size Y.env) (tem s.heap.objs.size):=hY ▸ he _ _ _ _ _ _;have yprog:Y.prog=X.prog:=by rw[<- hY];rfl
 have yw:Y.w=X.w:=by rw[<- hY];rfl
 have yK:Y.K=X.K:=by rw[<- hY];rfl
 have yA:Y.A=X.A:=by rw[<- hY];rfl
 have yc:Y.calm=true:=by rw[<- hY];exact hc
 have yenv:Y.env=compEnvC scope cs s3.heap.objs.size X.env:=by rw[<- hY];rfl
 have yex:∀b,b∈Y.ex↔b∈fp:=λb=>by rw[<- hY];rfl
 have yxe:Y.xe=λ_ _=>False:=by rw[<- hY];rfl
 have ypn:Y.pn=[]:=by rw[<- hY];rfl
 have yfs:∀b,b∈Y.fs->b∈X.env.locals::X.fs:=λb hb=>I3.stkSub b (by rw[<- hY]at hb;exact hb)
 have stat:∀{H':Hp},(∀b∈fp,H' b=none)->∀b∈fp,FpOk Y [] H' b:=λhn b hb=>by
  refine⟨hn b hb,?_,λhm=>?_,.inl ((yex b).mpr hb),λx c e=>?_,λp hp=>?_⟩
  ·rw[yenv];show b≠s3.heap.objs.size;exact Yay (Yau (hlt b hb) (by omega))
  ·rcases YaM.mp (yfs b hm)with z|z
   ·exact(hf b hb).2.1 z
   ·exact(hf b hb).2.2.1 z
  ·rw[yenv]at e;rcases c1' x c e with z|z
   ·exact(hf b hb).2.2.2.2.1 x c z
   ·intro q;rw[q]at z;exact absurd (Yde z (Yau (hlt b hb) (by omega))) (Ybf _)
  ·rw[ypn]at hp;simp at hp
 have fin:∀{τ:St} {H':Hp} {s':Shared},Inv Y [] τ H' s'->Q (.ref s.heap.objs.size) H'->RR (.ref s.heap.objs.size) s3.heap.objs.size (.ok .next) s':=λ{τ H' s'} J q=>by
  have fr:H' s3.heap.objs.size=none:=by have:=J.free;rw[yenv]at this;exact this
  obtain⟨m,hn,_⟩:=J.loc;rw[yenv]at hn;exact hRR _ _ H' s' (jj3 I3 hf3 (hY ▸ J)) ⟨m,hn⟩ (I3.fpOk (Yaf _) fr) q
 have hn:∀b∈fp,upd H s.heap.objs.size (.lst []) b=none:=λb hb=>(hf3 b hb).1;have lp:=jl1 (pins:=[]) (s:={ s3 with heap:=h₁ }) (acc:=.ref s.heap.objs.size) (ifs:=ifs) (em:=em s.heap.objs.size Y.env) yc yxe (hct (.ref it) s.heap.objs.size Y.env) yg yi ye IY (by rw[yprog,yw,yK];exact T) st1 (stat hn) (hW _ hD)
 rw[yprog,yw,yA,yenv]at lp;have lp:=Yeu lp (R':=RR (.ref s.heap.objs.size) s3.heap.objs.size) λr s' ⟨hr,τ',ys',H',I',q'⟩=>by subst hr;exact fin I' q'
 show codeAny (model X.prog X.w) X.A (.compStart (.ListComp elt (⟨tg,iter,ifs,0⟩::rest) scope pos) 0 (.ref it) (.ref s.heap.objs.size) (compEnvC scope cs s3.heap.objs.size X.env)) (RR (.ref s.heap.objs.size) s3.heap.objs.size) _;exact codeAny_compStart_list lp (T.self _ 0 _ _ _ st1 lp)

def jnG {pos:Pos}{wi:TI}{g:TG}{tt:TT}{rest:List YbJ}{tem:Addr->TEm}{em:Addr->Env->Sem Unit}(hc:X.calm=true)(S:CScope X N pick scope)(hw:PI X tg iter wi)
  (hg:∀cl C s₀ H₀ fp,PG (jap X N scope cl C s₀ H₀ fp) tg g) (hi:∀cl C s₀ H₀ fp,PIfs (jap X N scope cl C s₀ H₀ fp) ifs tt) (he:∀D cl C s₀ H₀ fp,PEm (jap X N scope cl C s₀ H₀ fp) (em D (jap X N scope cl C s₀ H₀ fp).env) (tem D))
  (hct:∀(it:Value) (D:Addr) (env:Env),YeE (.ListComp elt (⟨tg,iter,ifs,0⟩::rest) scope pos) 0 it (.ref D) env=jdz iter.pos tg ifs it env (em D env) (.compLoop (.ListComp elt (⟨tg,iter,ifs,0⟩::rest) scope pos) 0 it (.ref D) env))
  (hs:∀x,Ya7 iter X.env x=pure x:=by intro _;rfl):PE X (.ListComp elt (⟨tg,iter,ifs,0⟩::rest) scope pos) (tLcG pick wi g tt tem):=by
 intro pins s σ H Q I h;obtain⟨cl,hclos,c1,c2⟩:=jey (scope:=scope) (env:=X.env) λy hy hf=>I.ok.has _ (S.fre y hy hf).2;rw[eval_ListComp];refine Yfe (use:=none) rfl hs hclos S.kind S.names (thn (hw pins s σ H _ I h) λv s1 h1=>thn h1 λitv s2 h2=>?_);obtain⟨it,fp,tn,J,H2,e,I2,T,st2,f2,hW⟩:=h2;subst e;refine jgF (RR:=λacc C=>compPost (model X.prog X.w) X.A X.xe none (EP X pins σ Q) acc C) hc S c1 c2 hg hi he hct I2 T st2 f2 hW λD C H' s' J' ⟨m,hn⟩ fC q=>?_;refine⟨m,hn,λh' hs'=>⟨.ref D,H',?_,rfl,q⟩⟩;exact J'.turned (t':=s'.toks) (it:=C) (λb o hb e=>hs'.extBut b o hb e) fC.1 fC.2.1 fC.2.2.2.1 fC.2.2.2.2.1 fC.2.2.2.2.2

def jns {pos py spos:Pos}{wi:TI}{g:TG}{tt:TT}{rest:List YbJ}{tem:Addr->TEm}{em:Addr->Env->Sem Unit}{i:Nat}{y:Str}(hN:X.N.Nodup)(hi':X.N[i]?=some y)(hy:X.env.scope.names.lookup y=some .local)(hc:X.calm=true)(S:CScope X N pick scope)(hw:PI X tg iter wi)
  (hg:∀cl C s₀ H₀ fp,PG (jap X N scope cl C s₀ H₀ fp) tg g) (hi:∀cl C s₀ H₀ fp,PIfs (jap X N scope cl C s₀ H₀ fp) ifs tt) (he:∀D cl C s₀ H₀ fp,PEm (jap X N scope cl C s₀ H₀ fp) (em D (jap X N scope cl C s₀ H₀ fp).env) (tem D))
  (hct:∀(it:Value) (D:Addr) (env:Env),YeE (.ListComp elt (⟨tg,iter,ifs,0⟩::rest) scope pos) 0 it (.ref D) env=jdz iter.pos tg ifs it env (em D env) (.compLoop (.ListComp elt (⟨tg,iter,ifs,0⟩::rest) scope pos) 0 it (.ref D) env))
  (hsw:Yc3 (.ListComp elt (⟨tg,iter,ifs,0⟩::rest) scope pos) (some (.Name y py)) spos.line X.env=pure true) (hs:∀x,Ya7 iter X.env x=pure x:=by intro _;rfl) :
  PS X (.Assign [.Name y py] (.ListComp elt (⟨tg,iter,ifs,0⟩::rest) scope pos) spos) (tAsg (tLcG pick wi g tt tem) (jjY i)):=by
 intro pins s σ H D0 I h;obtain⟨cl,hclos,c1,c2⟩:=jey (scope:=scope) (env:=X.env) λy hy hf=>I.ok.has _ (S.fre y hy hf).2;rw[exec_Assign_Name_used _ _ _ _ hsw];refine Yag (Ydb (Yag ?_));show wpAny _ _ (do let _ <- comprehension (.ListComp elt (⟨tg,iter,ifs,0⟩::rest) scope pos) scope X.env _ (newList []) false (eval iter X.env) (some (assign (.Name y py) X.env))) _ _ s
 refine Yag (thn (Yfe (use:=some (assign (.Name y py) X.env)) (Q:=λ_ s'=>SP X pins D0 .next s') rfl hs hclos S.kind S.names
  (thn (hw pins s σ H _ I h) λv s1 h1=>thn h1 λitv s2 h2=>?_)) λ_ s' hq=>Yar (Yar hq))
 obtain⟨it,fp,tn,J,H2,e,I2,T,st2,f2,hW⟩:=h2;subst e;refine jgF (Q:=λx H1=>jjY i x σ H1 D0.nx) (RR:=λacc C=>compPost (model X.prog X.w) X.A X.xe (some (assign (.Name y py) X.env)) (λ_ s'=>SP X pins D0 .next s') acc C) hc S c1 c2 hg hi he hct I2 T st2 f2 hW λD C H' s' J' ⟨m,hn⟩ fC q=>?_
 show wpAny _ _ (assign (.Name y py) X.env (.ref D)) _ _ _;refine wpAny_assign_Name (jeX (v:=.ref D) J' hN hi' (.inl hy) rfl (λs'' J'' ⟨a,sb,ha⟩=>?_) (.inr hy));have hne:C≠a:=by
  rcases ha with z|z
  ·rw[z];exact fC.2.1
  ·exact λe=>fC.2.2.2.2.1 y a z e.symm
 refine⟨m,hn.sameBut sb hne,λh' hs'=>?_⟩;refine⟨_,H',J''.turned (t':=s''.toks) (it:=C) (λb o hb e=>hs'.extBut b o hb e) fC.1 fC.2.1 fC.2.2.2.1 fC.2.2.2.2.1 fC.2.2.2.2.2,q⟩
def jqg {pos:Pos}{wi:TI}{g:TG}{tt:TT}{te:TE}(hc:X.calm=true)(S:CScope X N pick scope)(hw:PI X tg iter wi)
  (hg:∀cl C s₀ H₀ fp,PG (jap X N scope cl C s₀ H₀ fp) tg g) (hi:∀cl C s₀ H₀ fp,PIfs (jap X N scope cl C s₀ H₀ fp) ifs tt) (he:∀cl C s₀ H₀ fp,PE (jap X N scope cl C s₀ H₀ fp) elt te)
  (hs:∀x,Ya7 iter X.env x=pure x:=by intro _;rfl):PE X (.ListComp elt [⟨tg,iter,ifs,0⟩] scope pos) (tLc pick wi g tt te):=
 jnG (em:=λD env=>do let _ <- call (.builtin "list.append") [.ref D,<- eval elt env]) (rest:=[]) hc S hw hg hi (λD cl C s₀ H₀ fp=>jkK rfl (he cl C s₀ H₀ fp)) (λ_ _ _=>rfl) hs
def jp9 {pos:Pos}{wi:TI}{g:TG}{tt:TT}{te:TE}{py spos:Pos}{i:Nat}{y:Str}(hN:X.N.Nodup)(hi':X.N[i]?=some y)(hy:X.env.scope.names.lookup y=some .local)(hc:X.calm=true)(S:CScope X N pick scope)(hw:PI X tg iter wi)
  (hg:∀cl C s₀ H₀ fp,PG (jap X N scope cl C s₀ H₀ fp) tg g) (hi:∀cl C s₀ H₀ fp,PIfs (jap X N scope cl C s₀ H₀ fp) ifs tt) (he:∀cl C s₀ H₀ fp,PE (jap X N scope cl C s₀ H₀ fp) elt te)
  (hsw:Yc3 (.ListComp elt [⟨tg,iter,ifs,0⟩] scope pos) (some (.Name y py)) spos.line X.env=pure true) (hs:∀x,Ya7 iter X.env x=pure x:=by intro _;rfl):PS X (.Assign [.Name y py] (.ListComp elt [⟨tg,iter,ifs,0⟩] scope pos) spos) (tAsg (tLc pick wi g tt te) (jjY i)):=
 jns (em:=λD env=>do let _ <- call (.builtin "list.append") [.ref D,<- eval elt env]) (rest:=[]) hN hi' hy hc S hw hg hi (λD cl C s₀ H₀ fp=>jkK rfl (he cl C s₀ H₀ fp)) (λ_ _ _=>rfl) hsw hs
end
end

mutual
inductive DV (K:Yac)(H:Hp):V->PyData->Prop
 |non:DV K H .non .none
 |bl (b:Bool):DV K H (.bl b) (.bool b)
 |int (i:Int):DV K H (.int i) (.int i)
 |str (x:Str):DV K H (.str x) (.str x)
 |tup {a:Addr} {xs:List V} {ds:List PyData}:SqT K H a xs->DVs K H xs ds->DV K H (.ref a) (.tuple ds)
 |lst {a:Addr} {xs:List V} {ds:List PyData}:Rd H a (.lst xs)->DVs K H xs ds->DV K H (.ref a) (.list ds)
 |dic {a:Addr}:H a=some (.dK [])->DV K H (.ref a) (.dict [])
inductive DVs (K:Yac)(H:Hp):List V->List PyData->Prop
 |nil:DVs K H [] []
 |cons {x:V} {d:PyData} {xs:List V} {ds:List PyData}:DV K H x d->DVs K H xs ds->DVs K H (x::xs) (d::ds)
end
section
variable {K:Yac}{H H':Hp}
end
mutual
noncomputable def noL:PyData->Bool
 |.list _=>false
 |.tuple xs=>noLs xs
 |.dict _=>false
 |.none|.bool _|.int _|.str _=>true
noncomputable def noLs:List PyData->Bool
 |[]=>true
 |x::r=>noL x&&noLs r
end
section
variable {K:Yac}{H H':Hp}
def TK (H H':Hp):Prop:=∀b xs,H b=some (.tup xs)->H' b=some (.tup xs)
end

def Inv.noSys {X:Cx}{pins:List (Addr×Obj)}{σ:St}{H:Hp}{s:Shared}(I:Inv X pins σ H s){a:Addr}{o:Obj}(h:s.heap.get? a=some o)(c:o.cls=.type "list"):Ya1≠a:=λe=>by
 obtain⟨o',l,c'⟩:=I.mod.sys;have:=I.kIn _ _ l;rw[e,h]at this;cases this;rw[c]at c';exact absurd c' (by decide)
mutual
def DV.reads2 {X:Cx}{pins:List (Addr×Obj)}{σ:St}{H:Hp}{s:Shared}(I:Inv X pins σ H s):∀{x:V} {d:PyData} {u:Value},DV X.K H x d->RelV x u->∃as,Reads s.heap u d as/\Ya1∉as
 |_,_,_,.non,r=>by cases r;exact⟨_,.none,by simp⟩
 |_,_,_,.bl b,r=>by cases r;exact⟨_,.bool b,by simp⟩
 |_,_,_,.int i,r=>by obtain⟨t,rfl⟩:=r;exact⟨_,.int i t,by simp⟩
 |_,_,_,.str x,r=>by obtain⟨t,rfl⟩:=r;exact⟨_,.str x t,by simp⟩
 |_,_,_,.tup e h,r=>by
  cases r
  obtain⟨its,rv,⟨o,ho,hc,n,hd⟩,_⟩:=I.tuple e
  obtain⟨as,q,z⟩:=DVs.reads2 I h rv
  exact⟨_,.tuple ho hc hd q,z⟩
 |_,_,_,@DV.lst _ _ a _ _ e h,r=>by
  cases r
  obtain⟨its,rv,⟨o,n,ho,hc,_,hd⟩,_⟩:=I.list (.inl e)
  obtain⟨as,q,z⟩:=DVs.reads2 I h rv
  refine⟨_,.list ho hc hd q,λhm=>?_⟩
  rcases YaM.mp hm with hm|hm
  ·exact I.noSys ho hc hm
  ·exact z hm
 |_,_,_,@DV.dic _ _ a e,r=>by
  cases r
  obtain⟨_,hS,vs,kv,o,es,ep,ho,hx,hd,_,hp,_⟩:([]:List (Key×V)).length<=Yak/\(a==Ya1)=false/\∃vs,KV [] vs/\s.heap.DictOf (jaj X.prog X.w) a vs:=I.hok a _ e
  have e0:es.toList=[]:=by
   cases kv
   revert hp
   cases es.toList with
   |nil=>exact λ_=>rfl
   |cons x r=>exact λhp=>(nomatch hp)
  refine⟨_,.dict (kvs:=[]) (as:=[]) (bs:=[]) ho hx.1 hd (by rw[e0];exact .nil) (by rw[e0];exact .nil),λhm=>?_⟩
  have:Ya1=a:=by simpa using hm
  rw[<- this]at hS
  exact absurd hS (by simp)
def DVs.reads2 {X:Cx}{pins:List (Addr×Obj)}{σ:St}{H:Hp}{s:Shared}(I:Inv X pins σ H s):∀{xs:List V} {ds:List PyData} {us:List Value},DVs X.K H xs ds->Vals xs us->∃as,ReadsAll s.heap us ds as/\Ya1∉as
 |_,_,_,.nil,r=>by cases r;exact⟨_,.nil,by simp⟩
 |_,_,_,.cons a b,r=>by
  cases r with
  |cons r rr=>
   obtain⟨as,q,z⟩:=DV.reads2 I a r
   obtain⟨bs,q',z'⟩:=DVs.reads2 I b rr
   exact⟨_,.cons q q',by rw[List.mem_append,not_or];exact⟨z,z'⟩⟩
end
section
variable {X:Cx}{pins:List (Addr×Obj)}{σ:St}{H:Hp}{s:Shared}
def DV.reads (I:Inv X pins σ H s){x:V}{d:PyData}{u:Value}(h:DV X.K H x d)(r:RelV x u):∃as,Reads s.heap u d as:=let ⟨as,q,_⟩:=DV.reads2 I h r;⟨as,q⟩
def DVs.reads (I:Inv X pins σ H s){xs:List V}{ds:List PyData}{us:List Value}(h:DVs X.K H xs ds)(r:Vals xs us):∃as,ReadsAll s.heap us ds as:=let ⟨as,q,_⟩:=DVs.reads2 I h r;⟨as,q⟩

end
structure Fits (n k:Nat)(d:PyData):Prop where
 sh:d.showable=true
 ln:d.shown.length<=n
 dp:d.depth<=k
def Fits.mono {n n' k k':Nat}{d:PyData}(h:Fits n k d)(h1:n<=n')(h2:k<=k'):Fits n' k' d:=⟨h.sh,Yah h.ln h1,Yah h.dp h2⟩
def Fits.int {i:Int}(h:i.natAbs<2 ^ 1000):Fits 1921 0 (.int i):=by
 have hl:i.natAbs.log2<1920:=by
  by_cases z:i.natAbs=0
  ·rw[z];decide
  ·exact Yau ((Nat.log2_lt z).mpr h) (by decide)
 refine⟨by simp[YdP,hl],?_,Yaf _⟩
 simp only[Ycq];exact int_text_len_1921 hl
def Fits.str {x:Str}{m:Nat}(h:x.length<=m)(hc:∀c∈x.cps.toList,c<16 ^ 8):Fits (10*m+2) 0 (.str x):=by
 refine⟨rfl,?_,Yaf _⟩;simp only[Ycq];exact Yah (StrLaws.reprText_len x hc) (by omega)
def jjo {ts:List Str}{n:Nat}(h:∀t∈ts,t.length<=n):piled ts<=ts.length*(n+2):=by
 induction ts with
 |nil=>simp[piled]
 |cons t r ih=>
  have h1:=h t Yat;have h2:=ih λq hq=>h q (Yai _ hq);rw[piled_cons,YaA,Nat.add_mul];omega
def jc0:∀{ds:List PyData} {t:Str},t∈Ych ds->∃d∈ds,t=d.shown
 |[],_,h=>by simp[Ych]at h
 |d::r,t,h=>by
  simp only[Ych,YaM]at h;rcases h with h|h
  ·exact⟨d,Yat,h⟩
  ·obtain⟨e,he,q⟩:=jc0 h;exact⟨e,Yai _ he,q⟩
def jbF:∀ds:List PyData,(Ych ds).length=ds.length
 |[]=>rfl
 |_::r=>by simp[Ych,jbF r]
def jl8 (ts:List Str):(Str.join ", " ts).length<=piled ts:=by
 rcases Classical.em (ts=[])with rfl|hz
 ·exact Ybb _
 ·exact Nat.le_of_add_right_le (Ydf (join_length_add ts hz))
def jeU {ts:List Str}{n:Nat}(h:∀t∈ts,t.length<=n):(tupleText ts).length<=ts.length*(n+2)+3:=by
 have hp:=Yah (jl8 ts) (jjo h);have two:∀b:Bool,((((if b=true then ",)" else ")"):String):Str)).length<=2:=by decide
 have z:=two (ts.length==1);have one:(("(" : String):Str).length=1:=rfl
 simp only[tupleText,strLen_append]at z ⊢;omega
def jbZ:∀{ds:List PyData},(∀d∈ds,d.showable=true)->Yfa ds=true
 |[],_=>rfl
 |d::r,h=>by simp[Yfa,h d Yat,jbZ λq hq=>h q (Yai _ hq)]
def jdS:∀{ds:List PyData} {k:Nat},(∀d∈ds,d.depth<=k)->Ybl ds<=k
 |[],_,_=>Ybb _
 |d::r,k,h=>by
  simp only[Ybl];exact Nat.max_le.mpr ⟨h d Yat,jdS λq hq=>h q (Yai _ hq)⟩
def Fits.tup {n k:Nat}{ds:List PyData}(h:∀d∈ds,Fits n k d):Fits (ds.length*(n+2)+3) (k+1) (.tuple ds):=by
 refine⟨?_,?_,?_⟩
 ·simp only[YdP];exact jbZ λd hd=>(h d hd).sh
 ·simp only[Ycq];have:=jeU (ts:=Ych ds) (n:=n) λt ht=>by obtain⟨d,hd,e⟩:=jc0 ht;rw[e];exact(h d hd).ln
  rw[jbF]at this;exact this
 ·simp only[PyData.depth];exact Yd3 (jdS λd hd=>(h d hd).dp)
def Fits.tupLe {n k m N:Nat}{ds:List PyData}(hl:ds.length<=m)(h:∀d∈ds,Fits n k d)(hN:m*(n+2)+3<=N):Fits N (k+1) (.tuple ds):=
 (Fits.tup h).mono (Yah (Nat.add_le_add_right (Nat.mul_le_mul_right _ hl) _) hN) (Yaf _)
def jp4 (K:Yac):List V->Hp->VK->Prop:=λxs H Q=>∃x d,xs=[x]/\DV K H x d/\Fits 16000000 60 d/\Q (.str d.shown) H
def jht {X:Cx}{k:Nat}(hr:Room k X.A):ja7 X (.builtin "repr") (jp4 X.K):=by
 intro pins s σ H xs us Q I r h;obtain⟨x,d,rfl,dv,ft,q⟩:=h;obtain⟨u,rfl,ru⟩:=jcK r;have hu:=hr.un;have done:∀(h':Heap) (u':Tok) (tk:Nat),(∀b o,s.heap.get? b=some o->h'.get? b=some o)->EP X pins σ Q (.str d.shown u') { s with heap:=h',toks:=tk }:=λh' u' tk hk=>
  ⟨.str d.shown,H,I.kept (t':=tk) hk,⟨u',rfl⟩,q⟩
 have hz:d.shown.length<=Yak:=Yah ft.ln (by decide)
 cases dv with
 |non=>cases ru;exact P.repr_of_none (done _ _ _ λ_ _ e=>e)
 |bl b=>cases ru;exact P.repr_of_bool (by have:=done s.heap s.toks (s.toks+1) λ_ _ e=>e;simp only[Ycq]at this;exact this)
 |int i=>
  obtain⟨t,rfl⟩:=ru;refine P.repr_of_int (by simpa[YdP]using ft.sh) ?_
  have:=done s.heap s.toks (s.toks+1) λ_ _ e=>e;simp only[Ycq]at this;exact this
 |str x=>
  obtain⟨t,rfl⟩:=ru;simp only[Ycq]at hz;refine P.repr_of_str ?_ hz;have:=done s.heap s.toks (s.toks+1) λ_ _ e=>e;simp only[Ycq]at this;exact this
 |@tup a xs ds e hd=>
  obtain⟨as,rd,hsy⟩:=DV.reads2 I (DV.tup e hd) ru;cases ru;exact Ye2 rd ft.sh (λ_=>hsy) hr.gd (by have:=ft.dp;omega) (λ_ _ e=>e) (λh' u' tk hk=>done h' u' tk hk) hz
 |@lst a xs ds e hd=>
  obtain⟨as,rd,hsy⟩:=DV.reads2 I (DV.lst e hd) ru;cases ru;exact Ye2 rd ft.sh (λ_=>hsy) hr.gd (by have:=ft.dp;omega) (λ_ _ e=>e) (λh' u' tk hk=>done h' u' tk hk) hz
 |@dic a e=>
  obtain⟨as,rd,hsy⟩:=DV.reads2 I (DV.dic e) ru;cases ru;exact Ye2 rd ft.sh (λ_=>hsy) hr.gd (by have:=ft.dp;omega) (λ_ _ e=>e) (λh' u' tk hk=>done h' u' tk hk) hz
section
variable {X:Cx}{k:Nat}{x:Str}{ps:List Str}{sp:Sp}{e:Expr}{es:List Expr}{t:TA}{p pos:Pos}
end
def Sm (f:Addr)(H H':Hp):Prop:=∀b o,b≠f->H b=some o->H' b=some o
def LcW (n k:Nat)(caps:St)(Pv:Nat->List V->Hp->Prop):Nat->Nat->St->List V->Hp->Prop:=λi m τ ys H=>m=n-i/\i<=n/\(∃os:St,os.length=k/\τ=os++caps)/\Pv i ys H
def LcN (D:Addr)(n k:Nat)(caps:St)(Pv:Nat->List V->Hp->Prop)(i:Nat)(ys:List V)(τ:St)(v:V)(H:Hp):Prop:=
 H D=some (.lst ys)/\ys.length<Yak/\∃m',m'<n-i/\LcW n k caps Pv (i+1) m' τ (ys++[v]) (upd H D (.lst (ys++[v])))
def LcS (n k:Nat)(caps:St)(Pv:Nat->List V->Hp->Prop)(i:Nat)(ys:List V)(τ:St)(H:Hp):Prop:=∃m',m'<n-i/\LcW n k caps Pv (i+1) m' τ ys H
section
variable {g:TG}{tt:TT}{te:TE}{Q:VK}{τ0:St}{H:Hp}{D:Addr}
end
section
variable {X:Cx}
def jld:V->List V->Hp->VK->Prop:=λx vs H Q=>∃l xs i y,x=.ref l/\vs=[.int i,y]/\H l=some (.lst xs)/\0<=i/\i<=xs.length/\xs.length<Yak/\Q .non (upd H l (.lst (xs.take i.toNat++y::xs.drop i.toNat)))
def Vals.ins {xs:List V}{us:List Value}{y:V}{u:Value}(r:Vals xs us)(ry:RelV y u)(k:Nat):Vals (xs.take k++y::xs.drop k) (us.take k++u::us.drop k):=(Vals.take k r).append (.cons ry (Vals.drop k r))
def jig:MtM X "list.insert" jld:=by
 intro pins s σ H x vs v us Q I rx rv h;obtain⟨l,xs,i,y,rfl,rfl,hH,h1,h2,h3,q⟩:=h;cases rx;obtain⟨u,u',rfl,ru,ru'⟩:=rv.two;obtain⟨t,rfl⟩:=ru;obtain⟨z,its,n,r,hl,e⟩:=I.lstM hH;have hz63:i<2 ^ 63:=by have:=jdL;omega
 refine Ybx F.slot_list_insert ⟨_,e,rfl⟩ F.entry_list_insert (F.args_list_insert_3 _ _ _)
  (AutoSeq1.list_insert_list_int_val_1 l its.toArray n i t u' (by simp[Builtin.List.listFitsIndex];omega) (by rw[Yaj];omega)) ⟨e,?_⟩
 refine⟨.non,_,I.lset (its':=its.take i.toNat++u'::its.drop i.toNat) hH e ?_ (Vals.ins r ru' _) ?_,rfl,q⟩
 ·have hk:(if i<0 then (i+(its.toArray.size:Int)).toNat else min i.toNat its.toArray.size)=i.toNat:=by
   rw[if_neg (by omega),Yaj]
   omega
  show(its.toArray.extract 0 (if i<0 then (i+(its.toArray.size:Int)).toNat else min i.toNat its.toArray.size)).push u'++its.toArray.extract (if i<0 then (i+(its.toArray.size:Int)).toNat else min i.toNat its.toArray.size)=_
  rw[hk];apply Array.ext';simp[YbG]
 ·rw[YaD,YaA,Ybn,YcW];omega
end
section
variable {X:Cx}{es:List Expr}{te:TE}{t:TA}
end
section
variable {X:Cx}{N:List Str}{scope:Scope}{cl:List (Str×Addr)}{C:Addr}{s₀:Shared}{H₀:Hp}{fp:List Addr}
end
def jca:∀{ns:List Int} {us:List Value},Vals (ns.map V.int) us->∃ys:List (Int×Tok),us=(ys.map λp=>Yds p.1 p.2)/\ys.map (·.1)=ns
 |[],us,r=>by cases r;exact⟨[],rfl,rfl⟩
 |n::ns,us,r=>by
  cases r with
  |cons h r=>
   obtain⟨t,rfl⟩:=h;obtain⟨ys,rfl,e⟩:=jca r;exact⟨(n,t)::ys,rfl,by simp[e]⟩
section
variable {X:Cx}
def jj4 (hc:X.calm=true):ja7 X (.builtin "sum") (λxs H Q=>∃(p:Addr) (ns:List Int),xs=[.ref p]/\SqL X.K H p (ns.map V.int)/\Q (.int ns.sum) H):=by
 intro pins s σ H xs us Q I r h;obtain⟨p,ns,rfl,hq,q⟩:=h;obtain⟨u,rfl,rx⟩:=jcK r;cases rx;obtain⟨its,r',pl,hz⟩:=I.list hq;obtain⟨ys,rfl,e⟩:=jca r';have hl:s.heap.IsList p (intItems ys.toArray):=by
  have:=pl.isList;simpa[intItems]using this
 refine sum_intListG (I.ok.hd hc) hl λh' tk t' k=>⟨.int ns.sum,H,I.kept k,⟨t',?_⟩,q⟩;rw[preSum_eq,YbG (by simp),<- e]
end
section
variable {X:Cx}{N:List Str}{scope:Scope}{cl:List (Str×Addr)}{C:Addr}{s₀:Shared}{H₀:Hp}{fp:List Addr}
end
def fm_rev (xs:List Value):∀n,n<=xs.length->(YaK n).filterMap (λk=>xs[xs.length-1-k]?)=(xs.drop (xs.length-n)).reverse
 |0,_=>by simp
 |n+1,h=>by
  rw[Yeb,List.filterMap_append,fm_rev xs n (by omega)]
  have hk:xs.length-1-n<xs.length:=by omega
  have:xs.drop (xs.length-(n+1))=xs[xs.length-1-n]::xs.drop (xs.length-n):=by
   rw[show xs.length-(n+1)=xs.length-1-n by omega,Ya0 hk,show xs.length-1-n+1=xs.length-n by omega]
  rw[this,YbV];simp[Yab hk]
def jjf (xs:List Value):YdW xs.toArray none none (some (-1))=xs.reverse.toArray:=by
 have e:sliceRange ((xs.length:Int)-1) (-1) (-1)=(YaK xs.length).map λk=>xs.length-1-k:=by
  unfold sliceRange;have hc:(if (-1:Int)>0 then (if (xs.length:Int)-1 < -1 then (-1-((xs.length:Int)-1) + -1-1) / -1 else 0) else (if (xs.length:Int)-1 > -1 then ((xs.length:Int)-1 - -1 - -1-1)/(- -1) else 0)).toNat=xs.length:=by
   rw[if_neg (by omega),show(- -1:Int)=1 from rfl,Yfd]
   split<;>omega
  simp only[hc];refine Ydn λk hk=>?_;have:=List.mem_range.mp hk;omega
 have b:Ycl none none (some (-1)) xs.toArray.size=((xs.length:Int)-1,-1,-1):=by
  simp[Ycl]
 unfold YdW;rw[b];simp only;rw[e,YfB];have:=fm_rev xs xs.length (Yaf _);rw[Yfc,Ydk]at this;rw[<- this];congr 1;refine congrArg (λf=>List.filterMap f (YaK xs.length)) (funext λk=>?_);simp
def jj9 (xs:List Value):YdW xs.toArray none none (some 1)=xs.toArray:=by
 have:=slicePick_all xs.toArray;unfold YdW at this ⊢;exact this
def Vals.rev {xs:List V}{us:List Value}(r:Vals xs us):Vals xs.reverse us.reverse:=by
 induction r with
 |nil=>exact .nil
 |cons h r ih=>rw[YbV,YbV];exact ih.append (.cons h .nil)
section
variable {X:Cx}{e st:Expr}{te tst:TE}{pos p2:Pos}
end
end L2
namespace HT
open PySem PySem.Spec PyProof.Rows
section
variable {prog:Program}{w:World}{A:Around}{E:Value->Shared->Prop}{s:Shared}
def getItem_tuple_all {t sl:Addr}{items:Array Value}{vl vu:Value}{lo hi:Option Int}{Q:Value->Shared->Prop}(ht:IsTup s.heap t items)(hs:s.heap.IsSliceOf sl vl vu .none)(pl:IsPart vl lo)(pu:IsPart vu hi)
  (hw:sIx items.size 0 lo=0/\sIx items.size items.size hi=items.size) (h:Q (.ref t) s):wpAny (model prog w) A (getItem (.ref t) (.ref sl)) Q E s:=by
 obtain⟨os,hos,hcs,hds⟩:=id hs;have hTs:s.TypeIs (.ref sl) "slice" := ⟨os,hos,hcs⟩;unfold getItem
 try with_reducible refine Ybh ?_
 first|refine Yag (Yar ?_)|skip
 refine Yag (Yei ht.typeIs (by decide) ?_)
 refine Yag (Ycs (name:=YbR "__getitem__") ht.typeIs Ya3
  (YcD Ya3 ht.typeIs YdI ?_ (Yd0 _ _)))
 show wpAny _ _ (Ycu (.ref t) >>= _) _ _ s;refine Yag (Yfp ht ?_);refine Yag (Yet hTs ?_);rw[if_pos (by decide)]
 refine Yag (jbw hs pl pu ?_);have hyes:((((sIx items.size 0 lo:Nat):Int)==0&&(1:Int)==1&&(sIx items.size items.size hi-sIx items.size 0 lo)==items.size)=true):=by
  rw[hw.1,hw.2];simp
 show wpAny _ _ (if (((sIx items.size 0 lo:Nat):Int)==0&&(1:Int)==1&&(sIx items.size items.size hi-sIx items.size 0 lo)==items.size)=true then _ else _) _ _ s
 rw[if_pos hyes];refine Yag (m:=Ydq (.ref t)) ?_;unfold Ydq;refine Yag (Yet ht.typeIs (Yar ?_));rw[if_pos (by decide)]
 exact Yag (wpAny_rule (Yar ⟨_,rfl,Yar h⟩))
end
end HT
namespace L2
open PySem PySem.Spec PyProof.Rows
section
variable {X:Cx}
def rSlW (K:Yac):V->Option Int->Option Int->Hp->VK->Prop:=λx lo hi H Q=>∃a xs,x=.ref a/\SqT K H a xs/\
 (HT.sIx xs.length 0 lo=0/\HT.sIx xs.length xs.length hi=xs.length)/\Q (.ref a) H
def jk6:SlR X (rSlW X.K):=by
 intro pins s σ H x v vl vu lo hi sl Q I rx hs pl pu h;obtain⟨a,xs,rfl,hx,hw,q⟩:=h;cases rx;obtain⟨its,r,ht,hz⟩:=I.tuple hx;have hlen:its.toArray.size=xs.length:=by rw[Yaj];exact r.length.symm
 refine⟨"tuple",_,Ya3.lookup,ht.typeIs,?_⟩;exact HT.getItem_tuple_all ht hs pl pu (by rw[hlen];exact hw) ⟨.ref a,H,I,rfl,q⟩
def jk7:SlR X (λx lo hi H Q=>rSlT X.K x lo hi H Q\/rSlW X.K x lo hi H Q):=SlR.or jm5 jk6
end
end L2
namespace HT
open PySem PySem.Spec PyProof.Rows
section
variable {prog:Program}{w:World}{A:Around}{E:Value->Shared->Prop}{s:Shared}
def jde {sl:Addr}{t:Tok}{n:Nat}{Q:Int×Int×Nat->Shared->Prop}(hs:s.heap.IsSliceOf sl .none .none (.int (-1) t))(h:Q ((n:Int)-1,-1,n) s):wpAny (model prog w) A (YbF (.ref sl) (pure (n:Int))) Q E s:=by
 obtain⟨os,hos,hcs,hds⟩:=id hs;unfold YbF Ydw;refine Yag (Yag (Yb9 hos hds (x:=.none) rfl (Yag (Yb9 hos hds (x:=.none) rfl (Yag (Yb9 hos hds (x:=.int (-1) t) rfl (Yar ?_)))))));refine Yag (jba (.int (-1) t) ?_);show wpAny _ _ (if ((-1:Int)==0)=true then _ else _) _ _ s
 rw[if_neg (by decide)]
 refine Yag (jba .none (Yag (jba .none (Yag (Yar ?_)))));have e1:Ybq none none (-1) (n:Int)=((n:Int)-1,-1):=rfl;have e2:YaY ((n:Int)-1) (-1) (-1)=n:=by
  unfold YaY;rw[if_neg (by omega),show(- -1:Int)=1 from rfl,Yfd]
  split<;>omega
 show wpAny _ _ (match Ybq none none (-1) (n:Int)with|(lo,hi)=>pure (lo,(-1:Int),YaY lo hi (-1))) _ _ s
 rw[e1];show wpAny _ _ (pure ((n:Int)-1,(-1:Int),YaY ((n:Int)-1) (-1) (-1))) _ _ s;rw[e2];exact Yar h
def jjp (xs:List Value):((YaK xs.length).filterMap λ(k:Nat)=>xs.toArray[((xs.length:Int)-1+(k:Int)*(-1)).toNat]?).toArray=xs.reverse.toArray:=by
 have:=L2.fm_rev xs xs.length (Yaf _);rw[Yfc,Ydk]at this;rw[<- this];congr 1;refine congrArg (λf=>List.filterMap f (YaK xs.length)) (funext λk=>?_);rw[show((xs.length:Int)-1+(k:Int)*(-1)).toNat=xs.length-1-k by omega]
 simp
def getItem_tuple_rev {t sl:Addr}{its:List Value}{tk:Tok}{Q:Value->Shared->Prop}(ht:IsTup s.heap t its.toArray)(hs:s.heap.IsSliceOf sl .none .none (.int (-1) tk))
  (h:Q (.ref s.heap.objs.size) { s with heap:=s.heap.push { cls:=.type "tuple",data:=.seq its.reverse.toArray } }) (hsz:its.length<=Yak):wpAny (model prog w) A (getItem (.ref t) (.ref sl)) Q E s:=by
 have htake:sizeOk (.seq its.reverse.toArray):=by
  show its.reverse.toArray.size<=Yak;rw[Yaj,Ydo];exact hsz
 obtain⟨os,hos,hcs,hds⟩:=id hs;have hTs:s.TypeIs (.ref sl) "slice" := ⟨os,hos,hcs⟩;unfold getItem
 try with_reducible refine Ybh ?_
 first|refine Yag (Yar ?_)|skip
 refine Yag (Yei ht.typeIs (by decide) ?_)
 refine Yag (Ycs (name:=YbR "__getitem__") ht.typeIs Ya3
  (YcD Ya3 ht.typeIs YdI ?_ (Yd0 _ _)))
 show wpAny _ _ (Ycu (.ref t) >>= _) _ _ s;refine Yag (Yfp ht ?_);refine Yag (Yet hTs ?_);rw[if_pos (by decide)]
 refine Yag (jde (n:=its.length) hs ?_);have hno:¬((((its.length:Int)-1)==0&&(-1:Int)==1&&its.length==its.toArray.size)=true):=by simp
 show wpAny _ _ (if (((its.length:Int)-1)==0&&(-1:Int)==1&&its.length==its.toArray.size)=true then _ else _) _ _ s
 rw[if_neg hno,jjp]
 first
  |exact Yag (m:=YaZ _) (Ya6 (Yar ⟨_,rfl,Yar h⟩) htake)
  |exact Yag (m:=YaZ _) (Ya6 (Yag (Yar (Yar ⟨_,rfl,Yar h⟩))) htake)
  |exact Yag (Yag (m:=YaZ _) (Ya6 (Yar (Yar ⟨_,rfl,Yar h⟩)) htake))
  |exact Yag (Yag (m:=YaZ _) (Ya6 (Yar ⟨_,rfl,Yar h⟩) htake))
end
end HT
namespace L2
open PySem PySem.Spec PyProof.Rows
section
variable {X:Cx}{e st:Expr}{te tst:TE}{pos p2:Pos}
end
section
variable {X:Cx}{N:List Str}{scope:Scope}{cl:List (Str×Addr)}{C:Addr}{s₀:Shared}{H₀:Hp}{fp:List Addr}
end
end L2

namespace L2
open PySem PySem.Spec PyProof.Rows
section
variable {X:Cx}{pos:Pos}
def jp8 (K:Yac):R2:=λx y H Q=>∃a b xs ys,x=.ref a/\y=.ref b/\SqT K H a xs/\SqT K H b ys/\xs.length+ys.length<=Yak/\
 (xs=[]->Q (.ref b) H)/\(xs≠[]->ys=[]->Q (.ref a) H)/\(xs≠[]->ys≠[]->∀p,H p=none->Q (.ref p) (upd H p (.tup (xs++ys))))
def jlH:OpR X (Ybj .Add) (jp8 X.K):=by
 intro pins s σ H x y v u Q I rx ry h;obtain⟨a,b,xs,ys,rfl,rfl,ha,hb,hz,q0,q1,q2⟩:=h;by_cases hx:xs=[]
 ·cases rx;cases ry;obtain⟨its,r1,p1,_⟩:=I.tuple ha;obtain⟨its2,r2,p2,_⟩:=I.tuple hb;have hv:its=[]:=r1.nil_iff.mpr hx;subst hv;obtain⟨⟨cls,dd,data,sl⟩,ho,hc,n,hd⟩:=id p1;obtain⟨⟨cls2,dd2,data2,sl2⟩,ho2,hc2,n2,hd2⟩:=id p2;simp only at hc hd hc2 hd2;subst hc hd hc2 hd2;exact YfZ ⟨_,ho,rfl⟩ ⟨_,ho2,rfl⟩ Yey Yfq YcO YcM (YcG _ _)
   (tuple_addW0 a b _ its2.toArray n n2 dd dd2 sl sl2 rfl) ⟨ho,ho2,⟨.ref b,H,I,rfl,q0 hx⟩⟩
 ·exact jlG pins s σ H _ _ _ _ Q I rx ry ⟨a,b,xs,ys,rfl,rfl,ha,hb,hx,hz,q1 hx,q2 hx⟩
def jhf {k:Nat}(hr:Room k X.A):OpR X (YaV .Eq) (λx y H Q=>∃a b xs,x=.ref a/\y=.ref b/\SqT X.K H a xs/\SqT X.K H b []/\Q (.bl xs.isEmpty) H):=by
 intro pins s σ H x y v u Q I rx ry h;obtain⟨a,b,xs,rfl,rfl,ha,hb,q⟩:=h;cases rx;cases ry;obtain⟨its,rv,pa,_⟩:=I.tuple ha;obtain⟨its2,rv2,pb,_⟩:=I.tuple hb;cases rv2;have hu:X.A.units<cLine:=hr.units0;have e:((YaK (min its.toArray.size ([]:List Value).toArray.size)).all (λ_=>true)&&its.toArray.size==([]:List Value).toArray.size)=xs.isEmpty:=by
  cases rv<;>simp
 refine EqBoolInt.of_rc (SeqAt.RcAt.tuples (e:=λ_=>true) (show s.heap.IsTuple a its.toArray from pa) (show s.heap.IsTuple b ([]:List Value).toArray from pb) hu λj _ h2=>?_) ?_
 ·simp at h2
 ·rw[e];exact⟨.bl xs.isEmpty,H,I,rfl,q⟩
end
section
variable {X:Cx}{N:List Str}{scope:Scope}{cl:List (Str×Addr)}{C:Addr}{s₀:Shared}{H₀:Hp}{fp:List Addr}
end
section
variable {X:Cx}
end
section
variable {X:Cx}{N:List Str}{scope:Scope}{cl:List (Str×Addr)}{C:Addr}{s₀:Shared}{H₀:Hp}{fp:List Addr}
end
section
variable {X:Cx}
def jnm (K:Yac)(neg:Bool):R2:=λx y H Q=>∃d e,DV K H x d/\DV K H y e/\d.canLay0=true/\e.canLay0=true/\d.depth<=100/\Q (.bl (if neg then !PyData.eqv d e else YaI d e)) H
def jnT {k:Nat}(hr:Room k X.A):OpR X (YaV .NotEq) (jnm X.K true):=by
 intro pins s σ H x y v u Q I rx ry h;obtain⟨d,e,hd,he,c1,c2,hk,q⟩:=h;obtain⟨as,ra⟩:=hd.reads I rx;obtain⟨bs,rb⟩:=he.reads I ry;exact SeqAt.compareNe_reads ra rb c1 c2 (by have:=hr.un;omega) ⟨.bl _,H,I,rfl,q⟩
def jnY {k:Nat}(hr:Room k X.A):OpR X (YaV .Eq) (jnm X.K false):=by
 intro pins s σ H x y v u Q I rx ry h;obtain⟨d,e,hd,he,c1,c2,hk,q⟩:=h;obtain⟨as,ra⟩:=hd.reads I rx;obtain⟨bs,rb⟩:=he.reads I ry;exact SeqAt.compareEq_reads ra rb c1 c2 (by have:=hr.un;omega) ⟨.bl _,H,I,rfl,q⟩
end
section
variable {X:Cx}{N:List Str}{scope:Scope}{cl:List (Str×Addr)}{C:Addr}{s₀:Shared}{H₀:Hp}{fp:List Addr}
end
mutual
noncomputable def noB:PyData->Bool
 |.none=>true
 |.bool _=>false
 |.int _=>true
 |.str _=>true
 |.list ds=>noBs ds
 |.tuple ds=>noBs ds
 |.dict _=>false
noncomputable def noBs:List PyData->Bool
 |[]=>true
 |d::r=>noB d&&noBs r
end
mutual
def jkH:∀{d e:PyData},noB d=true->noB e=true->YaI d e=true->d=e
 |.none,.none,_,_,_=>rfl
 |.int i,.int j,_,_,h=>by rw[YaI]at h;rw[eq_of_beq h]
 |.str i,.str j,_,_,h=>by rw[YaI]at h;rw[eq_of_beq h]
 |.list xs,.list ys,h1,h2,h=>by rw[YaI]at h;rw[noB]at h1 h2;rw[jf3 h1 h2 h]
 |.tuple xs,.tuple ys,h1,h2,h=>by rw[YaI]at h;rw[noB]at h1 h2;rw[jf3 h1 h2 h]
 |.bool _,_,h,_,_=>by rw[noB]at h;cases h
 |.dict _,_,h,_,_=>by rw[noB]at h;cases h
 |.none,.bool _,_,h,_|.int _,.bool _,_,h,_|.str _,.bool _,_,h,_|.list _,.bool _,_,h,_|.tuple _,.bool _,_,h,_=>by rw[noB]at h;cases h
 |.none,.dict _,_,h,_|.int _,.dict _,_,h,_|.str _,.dict _,_,h,_|.list _,.dict _,_,h,_|.tuple _,.dict _,_,h,_=>by rw[noB]at h;cases h
 |.none,.int _,_,_,h|.none,.str _,_,_,h|.none,.list _,_,_,h|.none,.tuple _,_,_,h=>by rw[YaI]at h;cases h
 |.int _,.none,_,_,h|.int _,.str _,_,_,h|.int _,.list _,_,_,h|.int _,.tuple _,_,_,h=>by rw[YaI]at h;cases h
 |.str _,.none,_,_,h|.str _,.int _,_,_,h|.str _,.list _,_,_,h|.str _,.tuple _,_,_,h=>by rw[YaI]at h;cases h
 |.list _,.none,_,_,h|.list _,.int _,_,_,h|.list _,.str _,_,_,h|.list _,.tuple _,_,_,h=>by rw[YaI]at h;cases h
 |.tuple _,.none,_,_,h|.tuple _,.int _,_,_,h|.tuple _,.str _,_,_,h|.tuple _,.list _,_,_,h=>by rw[YaI]at h;cases h
def jf3:∀{ds es:List PyData},noBs ds=true->noBs es=true->YbQ ds es=true->ds=es
 |[],[],_,_,_=>rfl
 |d::r,e::q,h1,h2,h=>by
  rw[noBs,YaE]at h1 h2
  rw[YbQ,YaE]at h
  rw[jkH h1.1 h2.1 h.1,jf3 h1.2 h2.2 h.2]
 |[],_::_,_,_,h=>by rw[YbQ]at h;cases h
 |_::_,[],_,_,h=>by rw[YbQ]at h;cases h
end
section
variable {X:Cx}
end
section
variable {X:Cx}{N:List Str}{scope:Scope}{cl:List (Str×Addr)}{C:Addr}{s₀:Shared}{H₀:Hp}{fp:List Addr}
end
def jhp (ds:List PyData):YbQ ds []=ds.isEmpty:=by
 cases ds<;>rfl
def jdf:fillsNumberSlot (.type "tuple") "mul" = pure false:=
 PySem.fillsNumberSlot_seq (id := "tuple.__mul__") (r:=some (.builtin "tuple.__rmul__")) Yer.lookup (by decide +kernel) F.slot_tuple_rmul.lookup (by decide +kernel)
def je2:seqRepeat? (.type "tuple")=pure (some (.builtin "tuple.__mul__")):=by
 unfold seqRepeat?;rw[YfJ (T := "tuple") (name := "__mul__") (id := "tuple.__mul__") Yer.lookup (by decide +kernel),YfJ (T := "tuple") (name := "__rmul__") (id := "tuple.__rmul__") F.slot_tuple_rmul.lookup (by decide +kernel)]
 rfl
def jd9 (a:Int)(t:Tok)(l:Addr)(items:Array Value)(n:Nat)(dd:Option Addr)(sl:Array (Option Value)) :
  Meets (Builtin.«int.__rmul__» ⟨[.int a t,.ref l],[]⟩) (λ_ R s=>s.heap.get? l=some { cls:=.type "tuple",dict:=dd,data:=.seq items n,slots:=sl }/\R (.ok (.ret Value.notImplemented)) s):=
 .of_wp λprog w A R s h=>by obtain⟨hp,g,d,tk,os⟩:=s;obtain⟨hl,h⟩:=h;wp_walk;exact⟨_,rfl,h⟩
def jg9 (l:Addr)(items:Array Value)(n:Nat)(dd:Option Addr)(sl:Array (Option Value))(x:Int)(t:Tok)(hx:2<=x)(hx2:x<2 ^ 62)(h0:items.isEmpty=false)(hsz:items.size*x.toNat<=Yak) :
  Meets (Builtin.«tuple.__mul__» ⟨[.ref l,.int x t],[]⟩)
   (λA R s=>s.heap.get? l=some { cls:=.type "tuple",dict:=dd,data:=.seq items n,slots:=sl }/\R (.ok (.ret (.ref s.heap.objs.size))) { s with heap:=s.heap.push { cls:=.type "tuple",data:=.seq ((Yad x.toNat items).foldl (·++·) #[]) } }):=
 .of_wp λprog w A R s h=>by
  obtain⟨hp,g,d,tk,os⟩:=s;obtain⟨hl,h⟩:=h;have c1:(decide (x < -2 ^ 63)||decide (x ≥ 2 ^ 63))=false:=by simp;omega
  have c2:(items.isEmpty||x==1)=false:=by rw[h0];simp;omega
  have c3:(decide (x<=0)||items.isEmpty)=false:=by rw[h0];simp;omega
  have hz:(items.size:Int)*x=((items.size*x.toNat:Nat):Int):=by rw[Int.natCast_mul,Int.toNat_of_nonneg (by omega)]
  have h63:(Yak:Nat)<=(2 ^ 63-1)/8:=by decide
  wp_walk using wpAny_loadPart' hl
  simp only[c1,Ybw,if_false]
  wp_walk using wpAny_loadPart' hl
  simp only[c2,c3,Ybw,if_false];rw[if_neg (by rw[hz];omega)]
  have c4:Ydp ((items.size:Int)*x)=false:=by
   rw[hz];unfold Ydp;exact decide_eq_false (by omega)
  simp only[c4,Ybw,if_false];have hs:(YdD (λx1 x2=>x1++x2) #[] (Yad x.toNat items)).size<=Yak:=by
   rw[AutoListH.size_joined];simp only[Yaj,Yc8,YcJ];rw[YdQ];exact hsz
  revert hs h;generalize YdD (λx1 x2=>x1++x2) #[] (Yad x.toNat items)=G;intro h hs
  wp_walk
  exact⟨_,rfl,h⟩
def jhb (l:Addr)(items:Array Value)(n:Nat)(dd:Option Addr)(sl:Array (Option Value))(t:Tok)(h0:items.isEmpty=false) :
  Meets (Builtin.«tuple.__mul__» ⟨[.ref l,.int 0 t],[]⟩)
   (λA R s=>s.heap.get? l=some { cls:=.type "tuple",dict:=dd,data:=.seq items n,slots:=sl }/\R (.ok (.ret (.ref s.heap.objs.size))) { s with heap:=s.heap.push { cls:=.type "tuple",data:=.seq #[] } }):=
 .of_wp λprog w A R s h=>by
  obtain⟨hp,g,d,tk,os⟩:=s;obtain⟨hl,h⟩:=h;have c2:(items.isEmpty||(0:Int)==1)=false:=by rw[h0];rfl
  wp_walk using wpAny_loadPart' hl
  exact⟨_,rfl,h⟩
def jha (l:Addr)(items:Array Value)(n:Nat)(dd:Option Addr)(sl:Array (Option Value))(t:Tok) :
  Meets (Builtin.«tuple.__mul__» ⟨[.ref l,.int 1 t],[]⟩)
   (λA R s=>s.heap.get? l=some { cls:=.type "tuple",dict:=dd,data:=.seq items n,slots:=sl }/\R (.ok (.ret (.ref l))) s):=
 .of_wp λprog w A R s h=>by
  obtain⟨hp,g,d,tk,os⟩:=s;obtain⟨hl,h⟩:=h;have c1:(decide ((1:Int) < -2 ^ 63)||decide ((1:Int) ≥ 2 ^ 63))=false:=by decide
  have c2:(items.isEmpty||(1:Int)==1)=true:=by simp
  wp_walk using wpAny_loadPart' hl
  exact⟨_,rfl,h⟩
section
variable {X:Cx}
def jp5 (K:Yac):R2:=λx y H Q=>∃l k xs,x=.ref l/\y=.int k/\SqT K H l xs/\xs≠[]/\0<=k/\k<2 ^ 62/\xs.length*k.toNat<=Yak/\(k=1->Q (.ref l) H)/\(k≠1->∀p,H p=none->Q (.ref p) (upd H p (.tup (Yad k.toNat xs).flatten)))
def jlD:OpR X (Ybj .Mult) (jp5 X.K):=by
 intro pins s σ H x y v u Q I rx ry h;obtain⟨l,k,xs,rfl,rfl,hH,h0,h1,h2,hz,q1,q2⟩:=h;cases rx;obtain⟨t,rfl⟩:=ry;obtain⟨its,r,pl,_⟩:=I.tuple hH;have hl:=r.length;obtain⟨⟨cls,dd,data,sl⟩,e,hc,n,hd⟩:=id pl;simp only at hc hd;subst hc hd;have hne:its≠[]:=λz=>h0 (r.nil_iff.mp z);refine Ye1 (T := "tuple") (U := "int") (by decide) ⟨_,e,rfl⟩ (λs'=>Yek s' k t) jdf F.fills_int_mul Ydl je2 F.slot_int_index.lookup
  (Ybx Ydl (Yek s k t) F.entry_int_rmul (F.args_int_rmul_2 _ _) (jd9 k t l its.toArray n dd sl) ⟨e,rfl,⟨_,e,rfl⟩,?_⟩)
 by_cases hk:k=1
 ·subst hk;exact Ybx Yer ⟨_,e,rfl⟩ Yd6 (YdN _ _) (jha l its.toArray n dd sl t) ⟨e,⟨.ref l,H,I,rfl,q1 rfl⟩⟩
 ·by_cases hk0:k=0
  ·subst hk0;refine Ybx Yer ⟨_,e,rfl⟩ Yd6 (YdN _ _) (jhb l its.toArray n dd sl t (by simpa using hne)) ⟨e,?_⟩
   refine⟨.ref s.heap.objs.size,_,I.laid (t':=s.toks) (o:=.tup []) (λb ob q=>Yae _ q) (Yaf _) ?_,rfl,q2 hk _ (I.hok.fresh (Yaf _))⟩;exact⟨Ybb _,[],.nil,TupD.new _ _⟩
  refine Ybx Yer ⟨_,e,rfl⟩ Yd6 (YdN _ _) (jg9 l its.toArray n dd sl k t (by omega) h2 (by simpa using hne) (by rw[Yaj,<- hl];exact hz)) ⟨e,?_⟩
  have f0:=jdQ its k.toNat [];rw[Ya8]at f0;rw[f0];refine⟨.ref s.heap.objs.size,_,I.laid (t':=s.toks) (o:=.tup (Yad k.toNat xs).flatten) (λb ob q=>Yae _ q) (Yaf _) ?_,rfl,q2 hk _ (I.hok.fresh (Yaf _))⟩;exact⟨by rw[jfV,YdQ];exact hz,_,r.rep k.toNat,TupD.new _ _⟩
noncomputable def repS (x:Str)(k:Nat):Str:=⟨(Yad k x.cps.toList).flatten.toArray⟩
def jp6:R2:=λx y H Q=>∃z k,x=.str z/\y=.int k/\0<=k/\k<1000/\z.length<=1000/\Q (.str (repS z k.toNat)) H
def jgS (x:Array Nat):∀(k:Nat) (a:List Nat),((Yad k x).foldl (·++·) a.toArray)=(a++(Yad k x.toList).flatten).toArray
 |0,a=>by simp
 |k+1,a=>by
  rw[Yba,Yeg,show a.toArray++x=(a++x.toList).toArray by simp,jgS x k]
  simp[Yba]
def jlE:OpR X (Ybj .Mult) jp6:=by
 intro pins s σ H x y v u Q I rx ry h;obtain⟨z,k,rfl,rfl,h0,h1,hz,q⟩:=h;obtain⟨t,rfl⟩:=rx;obtain⟨t',rfl⟩:=ry;have hl:z.length*k.toNat<=1000000:=Yah (YeC hz (show k.toNat<=1000 by omega)) (by decide)
 refine P.mul_str (by simp;omega) (λh2 _=>?_) (λh2 _=>?_) ?_
 ·have:((2:Int) ^ 63-1)/k ≥ 1000:=by
   refine(Int.le_ediv_iff_mul_le (by omega)).mpr ?_
   omega
  omega
 ·exact decide_eq_false (by
   have:(1000000:Nat)<=Yak:=by decide
   omega)
 ·split
  ·have e:repS z k.toNat=Ye5:=by rw[show k.toNat=0 by omega];rfl
   rw[e]at q;exact⟨by decide,.str _,H,I.tok _,⟨_,rfl⟩,q⟩
  ·split
   ·rename_i h2 h3;have e:repS z k.toNat=z:=by
     rw[YcC,beq_iff_eq,beq_iff_eq]at h3;unfold repS;rcases h3 with h3|h3
     ·subst h3;simp
     ·have:z.cps.toList=[]:=by
       have:z.cps.size=0:=h3;simpa using this
      obtain⟨c⟩:=z;simp only at this ⊢;have hc:c=#[]:=by simpa using this
      subst hc;simp
    rw[e]at q;exact⟨.str _,H,I,⟨_,rfl⟩,q⟩
   ·have e:(Yad k.toNat z.cps).foldl (·++·) #[]=(Yad k.toNat z.cps.toList).flatten.toArray:=by
     have:=jgS z.cps k.toNat [];simpa using this
    refine⟨?_,.str _,H,I.tok _,⟨_,rfl⟩,?_⟩
    ·rw[e];show(Yad k.toNat z.cps.toList).flatten.toArray.size<=Yak;rw[Yaj,jfV,YdQ];exact Yah hl (by decide)
    ·rw[e];exact q
def jfr {prog:Program}{w:World}{A:Around}{E:Value->Shared->Prop}{s:Shared}{v:Value}{Q:Value->Shared->Prop}
  (h:wpAny (model prog w) A.in1 (collect v) (λvs s1=>wpAny (model prog w) A.in1 (newList vs) (λl s2=>wpAny (model prog w) A.in1 (call (.builtin "list.sort") [l]) (λ_ s3=>Q l s3) E s2) E s1) E s) :
  wpAny (model prog w) A (call (.builtin "sorted") [v]) Q E s:=by
 have one:∀Z:Unit->Shared->Prop,Z () s->wpAny (model prog w) A.in1 (checkCount "sorted" 1 1 [v].length) Z E s:=λZ z=>Yar z;refine Calls.call_function_entry kind_sorted plain_sorted entry_sorted (args_sorted1 v) (Yag (one _ (Yag (thn h λvs s1 h1=>Yag (thn h1 λl s2 h2=>?_)))));exact Yag (Ybh (thn h2 λ_ s3 q=>Yar ⟨_,rfl,q⟩))
def jcT:∀{us:List Value} {ns:List Int},IntsAre us ns->Vals (ns.map V.int) us
 |_,_,.nil=>.nil
 |_,_,.cons n t r=>.cons ⟨t,rfl⟩ (jcT r)
def jij:∀{kvs:List (Key×V)} {vs:List (Key×Value)},KV kvs vs->vs.map (·.1)=kvs.map (·.1)
 |_,_,.nil=>rfl
 |_,_,.cons a r=>by
  rw[YaG,YaG,jij r,a.1]
def jis {P:Program}{w:World}:∀{ns:List Int} {acc:List Value} {vs:List (Key×Value)},vs.map (·.1)=ns.map (λz=>(.inl z:Key))->acc.length=ns.length->(∀(j:Nat) (v:Value),acc[j]?=some v->∃k x,vs[j]?=some (k,x)/\(jaj P w).is k v=true)->IntsAre acc ns
 |[],[],_,_,_,_=>.nil
 |z::ns,v::acc,(k,x)::vs,e,hl,h=>by
  obtain⟨k',x',h1,h2⟩:=h 0 v rfl;have e1:(k,x)=(k',x'):=Yao h1;injection e1 with e1 e2
  subst e1;rw[YaG,YaG]at e;injection e with ek er
  have ek:k=.inl z:=ek;subst ek;obtain⟨t,rfl⟩:∃t,v=.int z t:=by
   have h2:jfX (.inl z) v=true:=h2;rcases jao h2 with⟨i,t,e,rfl⟩|⟨y,t,e,_⟩
   ·injection e with e;rw[e];exact⟨t,rfl⟩
   ·exact nomatch e
  exact .cons z t (jis er (by simpa using hl) λj v hj=>h (j+1) v hj)
 |z::ns,v::acc,[],e,_,_=>by cases e
 |z::ns,[],_,_,hl,_=>by cases hl
 |[],v::acc,_,_,hl,_=>by cases hl
end
end L2

namespace L2
open PySem PySem.Spec PyProof.Rows
open Sem (wp)
open AutoSeq1 (wpAny_loadPart')
section
variable {prog:Program}{w:World}{A:Around}{E:Value->Shared->Prop}{s:Shared}
def jge {it t:Addr}{i:Nat}{items:Array Value}{Q:Value->Shared->Prop}(hh:A.handled=none)(hit:s.heap.IsTupleIter it t i)(ht:s.heap.IsTuple t items)
  (more:∀x h',items[i]?=some x->h'.IsTupleIter it t (i+1)->YcH it s.heap h'->Q x { s with heap:=h' })
  (stop:items[i]?=none->∀h' e,Heap.ExtBut it s.heap h'->(∃o,h'.get? e=some o/\o.cls=.type "StopIteration")->E (.ref e) { s with heap:=h' }) :
  wpAny (model prog w) A (YfT (.ref it)) Q E s:=by
 have ty:=hit.typeIs;rcases hit with⟨⟨c,dc,dt,sl⟩,ho,e1,e2⟩;rcases ht with⟨⟨c',dc',dt',sl'⟩,hl,-,n,e4⟩;dsimp only at e1 e2 e4;subst e1 e2 e4;have up:∀f:Array Value->Array Value,YcH it s.heap (s.heap.update it (YbE f)):=λf=>YcH.update ..;have got:∀f:Array Value->Array Value,(s.heap.update it (YbE f)).get? it=some ⟨.type "tuple_iterator",dc,.fields (f #[.ref t,.int i 0]),sl⟩:=λf=>Yc9 _ ho rfl;refine Yag (Ycs (name:=YbR "__next__") ty YeM (YcD YeM ty F.entry_tuple_iterator_next ?_ (F.args_tuple_iterator_next_1 _)))
 wp_walk using Yd7 ho,Yd7 hl
 rw[Ybc];cases hx:items[i]? with
 |some x=>exact Yag (YcU ho rfl (Nat.lt_succ_self 1) (Yar ⟨x,rfl,Yar (more x _ hx ⟨_,got _,rfl,rfl⟩ (up _))⟩))
 |none=>
  refine Yag (wpAny_rule (Yag (YcU ho rfl (Nat.zero_lt_succ 1) ?_)));unfold YfS
  wp_walk
  exact wpAny_raiseNew_none hh (stop hx _ _ (((up _).extBut.push _).push _) ⟨_,Yas _ rfl,rfl⟩)
def jfs {prog:Program}{w:World}{A:Around}(hh:A.handled=none)(it t:Addr)(hne:t≠it)(items:Array Value) :
  Draws prog w A it [it,t] items.size (λi v=>items[i]?=some v) (λi h=>h.IsTupleIter it t i/\h.IsTuple t items):=by
 refine⟨λi h st=>?_,λi h h' st hk=>?_,λi s Q E hi st hQ=>?_,λs Q E st hE=>?_⟩
 ·rcases st.1 with⟨o,ho,-⟩;exact⟨o,ho⟩
 ·rcases st with⟨⟨o,ho,r⟩,⟨u,hu,q⟩⟩;exact⟨⟨o,hk it (by simp) o ho,r⟩,⟨u,hk t (by simp) u hu,q⟩⟩
 ·refine jge hh st.1 st.2 (λx h' e hit sb=>hQ x h' s.toks e ⟨hit,st.2.extBut sb.extBut hne⟩ sb) λz=>?_;exact absurd (Array.getElem?_eq_none_iff.mp z) (by omega)
 ·refine jge hh st.1 st.2 (λx h' e=>?_) λ_=>hE;exact absurd (Array.getElem?_eq_some_iff.mp e).1 (Ybf _)
def jji {α:Type}{M:Model}{x:α}{Q:α->Shared->Prop}(h:∀y,Q y s):wpAny M A (pure x) Q E s:=Yar (h x)
def jcv (v:Value)(ob:Obj) :
  Meets (Builtin.«enumerate.__new__» ⟨[.type "enumerate",v],[]⟩) (λ_ R s=>(∀(prog:Program) (w:World) (A:Around) (Q E:Value->Shared->Prop),Q (.ref s.heap.objs.size) { s with heap:=s.heap.push ob }->wpAny (model prog w) A (pyIter v) Q E s)/\
   R (.ok (.ret (.ref (s.heap.push ob).objs.size))) { s with heap:=(s.heap.push ob).push ⟨.type "enumerate",none,.fields #[.none,.bool false,.ref s.heap.objs.size,rawInt 0,.none,.none],#[]⟩ }):=
 .of_wp λprog w A R s h=>by
  rcases s with⟨hp,g,d,tk,os⟩;rcases h with⟨hi,h⟩;have hsub:=sub_enumerate
  wp_walk
  refine wpAny_stack_any λst=>jji λb=>?_;cases b<;>(wp_walk using hi prog w;exact⟨_,rfl,h⟩)
def jeQ {l:Addr}{items:Array Value}{Q:Value->Shared->Prop}(hL:s.heap.IsTuple l items)
  (h:∀h',IsEnum h' (s.heap.objs.size+1) s.heap.objs.size 0 .none->h'.IsTupleIter s.heap.objs.size l 0->(∀b o,s.heap.get? b=some o->h'.get? b=some o)->Q (.ref (s.heap.objs.size+1)) { s with heap:=h' }) :
  wpAny (model prog w) A (call (.type "enumerate") [.ref l]) Q E s:=by
 have at2:∀(p:Heap) (n:Nat) (o:Obj),p.objs.size=n->o.isFreed=false->(p.push o).get? n=some o:=λp n o e f=>by
  subst e;exact Yas p f
 have sz:=λo=>Yct s.heap o;refine callType_new F.called_enumerate (by decide) (Yfm _) (YfD _) (λobj=>YfR obj _) YfE (jcv (.ref l) _) ⟨λ_ _ _ _ _ q=>YdU hL q,?_⟩
 rw[sz];have he:=at2 _ _ ⟨.type "enumerate",none,.fields #[.none,.bool false,.ref s.heap.objs.size,rawInt 0,.none,.none],#[]⟩ (sz ⟨.type "tuple_iterator",none,.fields #[.ref l,.int 0 0],#[]⟩) rfl;exact⟨⟨_,he,rfl⟩,h _ he ⟨_,Yae _ (at2 _ _ _ rfl rfl),rfl,rfl⟩ λb o x=>Yae _ (Yae _ x)⟩
end
section
variable {X:Cx}{pins:List (Addr×Obj)}{σ:St}{H:Hp}{s:Shared}{h':Heap}
def jhC {t':Nat}{e it:Addr}(I:Inv X pins σ H s)(k:∀b o,b≠e->b≠it->s.heap.get? b=some o->h'.get? b=some o)(fe:FpOk X pins H e)(fi:FpOk X pins H it):Inv X pins σ H { s with heap:=h',toks:=t' }:=by
 obtain⟨e0,e1,_,e3,e4,e5⟩:=fe;obtain⟨i0,i1,_,i3,i4,i5⟩:=fi;have ne:∀b u,H b=some u->b≠e:=λb u q z=>by rw[z,e0]at q;cases q
 have ni:∀b u,H b=some u->b≠it:=λb u q z=>by rw[z,i0]at q;cases q
 have kk:∀b o,b∉[e,it]->s.heap.get? b=some o->h'.get? b=some o:=λb o hc q=>k b o (λz=>hc (by simp[z])) (λz=>hc (by simp[z])) q
 refine I.step (g':=s.gens) (d':=s.drawn) (ch:=[e,it]) (λb hb=>?_) (λb o _ _ hc q _=>kk b o hc q) (λb o _ _ hc q _=>⟨o.slots,kk b o hc q⟩) (λ_ _ _ _ n=>n)
  (λb o hc q=>⟨o,kk b o hc q⟩) (λ_ _ q=>q) (λ_ _ _ q=>q) (λb ps q=>⟨#[],by rw[q];simp⟩) (λm hm=>?_) (λb u q=>?_) I.bare
 ·simp only[YaM,Yaw,or_false]at hb;rcases hb with rfl|rfl
  ·exact⟨e3,e1,e4,e5⟩
  ·exact⟨i3,i1,i4,i5⟩
 ·obtain⟨o,es,ep,ho,r⟩:=hm;exact⟨o,es,ep,k _ o (Ne.symm e1) (Ne.symm i1) ho,r⟩
 ·refine(I.hok b u q).stay (λc v hc y=>k c v ?_ ?_ y) (λ_ y=>y) λ_ _ y=>y
  ·rcases hc with z|z
   ·rw[z];exact ne b u q
   ·exact ne c _ z
  ·rcases hc with z|z
   ·rw[z];exact ni b u q
   ·exact ni c _ z
noncomputable def Ite (_K:Yac)(a:Addr):It:=
 ⟨λi H=>∃xs x,H a=some (.tup xs)/\xs[i]?=some x,λi H y H'=>∃xs x p,H a=some (.tup xs)/\xs[i]?=some x/\y=.ref p/\H p=none/\H'=upd H p (.tup [.int (i:Int),x]),λi H=>∃xs,H a=some (.tup xs)/\xs.length=i⟩
def jhE {P:Program}{w:World}{K:Yac}{elts:List Expr}{x1}{pos:Pos}(a e it:Addr)(hei:e≠it)(hae:a≠e)(hai:a≠it) :
  Turn P w K (.Tuple elts x1 pos) (Ite K a) [e,it] e (λi h=>(∃old,IsEnum h e it (i:Int) old)/\h.IsTupleIter it a i) where
 mem:=by simp
 obj:=λi h st b hb=>by
  obtain⟨⟨old,he⟩,o,ho,c,d⟩:=st;simp only[YaM,Yaw,or_false]at hb;rcases hb with rfl|rfl
  ·exact⟨_,he,λv z=>nomatch z⟩
  ·exact⟨o,ho,λv z=>by rw[d]at z;cases z⟩
 keep:=λi h h' st k=>by
  obtain⟨⟨old,he⟩,o,ho,r⟩:=st;exact⟨⟨old,k e (by simp) _ he⟩,o,k it (by simp) _ ho,r⟩
 item:=by
  intro X hP hw hK hc i pins s σ H E I hf st hg;subst hP hw hK;obtain⟨xs,x,hq,hx⟩:=hg;obtain⟨its,rv,p,hz⟩:=I.tuple (SqT.of hq);obtain⟨u,hu,ru⟩:=rv.get hx;obtain⟨⟨old,he⟩,hit⟩:=st;have hlt:i<its.toArray.size:=by
   have:=(List.getElem?_eq_some_iff.mp hu).1;simpa using this
  refine Yfn (jfs (A:=X.A.in1) (I.ok.hd hc) it a hai its.toArray) he ⟨hit,p⟩ hlt hei (by simp;exact⟨hei,Ne.symm hae⟩) λx' h' tk hP ho hs' hT hsz hk=>?_
  refine⟨_,rfl,YeX ho λh2 he2 hs2=>?_⟩;have ex:x'=u:=by
   have:its.toArray[i]?=some u:=by simpa using hu
   exact Yao (hP.symm.trans this)
  subst ex;have hfr:H s.heap.objs.size=none:=I.hok.fresh (Yaf _);have hen:e≠s.heap.objs.size:=Yay (Yaq he);have hin:it≠s.heap.objs.size:=by obtain⟨o,ho',_⟩:=hit;exact Yay (Yaq ho')
  have I1:Inv X pins σ (upd H s.heap.objs.size (.tup [.int (i:Int),x])) { s with heap:=s.heap.push { cls:=.type "tuple",data:=.seq #[.int i tk,x'] },toks:=tk+1 }:=by
   refine I.laid (λb o y=>Yae _ y) (Yaf _) ⟨by show 2<=Yak;decide,[.int i tk,x'],.cons ⟨tk,rfl⟩ (.cons ru .nil),TupD.new _ _⟩
  have fpU:∀b,b≠s.heap.objs.size->FpOk X pins H b->FpOk X pins (upd H s.heap.objs.size (.tup [.int (i:Int),x])) b:=λb hb f=>⟨by rw[jaf hb];exact f.1,f.2⟩
  have kk:∀b o,b≠e->b≠it->(s.heap.push { cls:=.type "tuple",data:=.seq #[.int i tk,x'] }).get? b=some o->h2.get? b=some o:=λb o be bi y=>by
   have step:h'.get? b=some o:=by
    by_cases hb:b=s.heap.objs.size
    ·subst hb;rw[hT];exact(Yas s.heap (o:={ cls:=.type "tuple",data:=.seq #[.int i tk,x'] }) rfl).symm.trans y
    ·rw[YdG _ _ _ hb]at y;exact hk b o be bi y
   exact(hs2.2 b be).trans step
  have I2:Inv X pins σ (upd H s.heap.objs.size (.tup [.int (i:Int),x])) { s with heap:=h2,toks:=tk+1 }:=
   jhC (s:={ s with heap:=s.heap.push { cls:=.type "tuple",data:=.seq #[.int i tk,x'] },toks:=tk+1 }) (h':=h2) (t':=tk+1) (e:=e) (it:=it) I1 kk (fpU e hen (hf e (by simp))) (fpU it hin (hf it (by simp)))
  refine⟨.ref s.heap.objs.size,_,I2,rfl,⟨xs,x,_,hq,hx,rfl,hfr,rfl⟩,⟨⟨_,by simpa using he2⟩,?_⟩,λb hb=>?_⟩
  ·obtain⟨o,ho',r⟩:=hs'.1;exact⟨o,(hs2.2 it (Ne.symm hei)).trans ho',r⟩
  ·simp only[YaM,Yaw,or_false]at hb;rcases hb with rfl|rfl
   ·rw[jaf hen];exact(hf _ (by simp)).1
   ·rw[jaf hin];exact(hf _ (by simp)).1
 done:=by
  intro X hP hw hK hc i pins s σ H E I hf st hg;subst hP hw hK;obtain⟨xs,hq,hx⟩:=hg;obtain⟨its,rv,p,hz⟩:=I.tuple (SqT.of hq);obtain⟨⟨old,he⟩,hit⟩:=st;have hl:its.toArray.size=i:=by rw[Yaj,<- rv.length];exact hx
  refine YfG (jfs (A:=X.A.in1) (I.ok.hd hc) it a hai its.toArray) he ⟨by rw[hl];exact hit,p⟩ λh' eb=>⟨rfl,?_⟩
  obtain⟨f0,f1,f2,f3,f4,f5⟩:=hf it (by simp)
  exact I.turned (t':=s.toks) (λb o hb y=>eb b o hb y) f0 f1 f3 f4 f5
 self:=λA i s Q E st h=>by
  obtain⟨⟨old,he⟩,_⟩:=st;exact Yc0 he h
end
section
variable {X:Cx}
end
end L2

namespace L2
open PySem PySem.Spec PyProof.Rows
section
variable {X:Cx}
def jf8:ja7 X (.builtin "isinstance") (λxs H Q=>∃(x:V) (c:String) (t:Value) (b:Bool),xs=[x,.ty c]/\TyOf X.K H x t/\Yc4 X.K t (.type c)=some b/\Q (.bl b) H):=by
 intro pins s σ H xs us Q I r h;obtain⟨x,c,t,b,rfl,ty,e,q⟩:=h;obtain⟨u,v,rfl,ru,rv⟩:=Vals.two r;cases rv;exact jip I ru ty e λtk=>⟨.bl b,H,I.tok tk,rfl,q⟩
end
section
variable {prog:Program}{w:World}{A:Around}{R:Result->Shared->Prop}{I:Addr}{fp wr:List Addr}{n:Nat}{P:Nat->Value->Prop}{St:Nat->Heap->Prop}
end
section
variable {prog:Program}{w:World}{A:Around}{E:Value->Shared->Prop}{s:Shared}
end

noncomputable def joT (ks:List (List Int)):Nat:=argBest (λi j=>HT.lexLt (ks.getD i []) (ks.getD j [])) (ks.length-1)
def KeyI (H:Hp)(v:V)(k:List Int):Prop:=∃n,v=.int n/\k=[n]
def KeyT (K:Yac)(H:Hp)(v:V)(k:List Int):Prop:=∃t,v=.ref t/\SqT K H t (k.map V.int)
section
variable {X:Cx}
def jdi {vs:List V}{us:List Value}(r:Vals vs us){i:Nat}{u:Value}(h:us[i]?=some u):∃v,vs[i]?=some v/\RelV v u:=by
 induction r generalizing i with
 |nil=>cases h
 |cons a r ih=>
  cases i with
  |zero=>exact⟨_,rfl,by cases h;exact a⟩
  |succ i=>exact ih h
def jgN {ns:List Int}{us:List Value}(r:Vals (ns.map V.int) us):IntsAre us ns:=by
 induction ns generalizing us with
 |nil=>cases r;exact .nil
 |cons n ns ih=>
  cases r with
  |cons a r=>
   obtain⟨t,rfl⟩:=a;exact .cons n t (ih r)
end
end L2

namespace L2
open PySem PySem.Spec PyProof.Rows PySem.W
section
variable {n:Nat}{lt:Nat->Nat->Bool}{cmp:Nat->Nat->(Bool->Shared->Prop)->Shared->Prop}{s:Shared}
structure Asks (n:Nat)(lt:Nat->Nat->Bool)(cmp:Nat->Nat->(Bool->Shared->Prop)->Shared->Prop)(s:Shared):Prop where
 ask:∀i j C,i<n->j<n->C (lt i j) s->cmp i j C s
 tr:∀i j k,i<n->j<n->k<n->lt i j=true->lt j k=true->lt i k=true
 tot:∀i j,i<n->j<n->i≠j->lt i j=true\/lt j i=true
 ir:∀i,i<n->lt i i=false
noncomputable def gD (p:Array Nat)(k:Nat):Nat:=p.getD k 0
structure Arr (n:Nat)(p:Array Nat):Prop where
 z:p.size=n
 b:∀i,i<n->gD p i<n
 inj:∀i j,i<n->j<n->gD p i=gD p j->i=j
 pm:p.toList.Perm (YaK n)
def Asc (lt:Nat->Nat->Bool)(p:Array Nat)(m:Nat):Prop:=∀i,i+1<m->lt (gD p i) (gD p (i+1))=true
def Asks.no (a:Asks n lt cmp s){p:Array Nat}(r:Arr n p){i j:Nat}(hi:i<n)(hj:j<n)(hne:i≠j)(h:lt (gD p i) (gD p j)=false):lt (gD p j) (gD p i)=true:=by
 rcases a.tot _ _ (r.b i hi) (r.b j hj) (λz=>hne (r.inj i j hi hj z))with z|z
 ·rw[h]at z;cases z
 ·exact z
def Asc.less (a:Asks n lt cmp s){p:Array Nat}(r:Arr n p){m:Nat}(hm:m<=n)(h:Asc lt p m):∀d i,i+d+1<m->lt (gD p i) (gD p (i+d+1))=true
 |0,i,hi=>h i hi
 |d+1,i,hi=>a.tr _ _ _ (r.b _ (by omega)) (r.b _ (by omega)) (r.b _ (by omega)) (Asc.less a r hm h d i (by omega)) (h (i+d+1) hi)
def ji0 (a:Asks n lt cmp s){p:Array Nat}(r:Arr n p){Q:Nat->Shared->Prop}{m:Nat}(hm:m<=n):∀(f k:Nat),1<=k->k+f=m->Asc lt p k->(∀k',k<=k'->k'<=m->Asc lt p k'->(k'<m->lt (gD p k') (gD p (k'-1))=true)->Q k' s)->(kas_asc p f k).kasWp cmp Q s
 |0,k,_,e,h,q=>q k (Yaf _) (by omega) h λz=>by omega
 |f+1,k,h1,e,h,q=>by
  refine a.ask _ _ _ (r.b k (by omega)) (r.b (k-1) (by omega)) ?_
  show(if lt (gD p k) (gD p (k-1))=true then YfC k else kas_asc p f (k+1)).kasWp cmp Q s
  by_cases c:lt (gD p k) (gD p (k-1))=true
  ·rw[if_pos c];exact q k (Yaf _) (by omega) h λ_=>c
  ·rw[if_neg c];have c:lt (gD p (k-1)) (gD p k)=true:=a.no r (by omega) (by omega) (by omega) (by simpa using c)
   refine ji0 a r hm f (k+1) (by omega) (by omega) (λi hi=>?_) λk' h2 h3 h4 h5=>q k' (by omega) h3 h4 h5
   by_cases z:i+1=k
   ·have:i=k-1:=by omega
    rw[z,this];exact c
   ·exact h i (by omega)
def jiJ (a:Asks n lt cmp s){p:Array Nat}(r:Arr n p){Q:Array Nat×Nat×Nat->Shared->Prop}{m:Nat}(hm:m<=n):∀(f k:Nat),1<=k->k+f=m->(∀i,i+1<k->lt (gD p (i+1)) (gD p i)=true)->(∀k',k<=k'->k'<=m->(∀i,i+1<k'->lt (gD p (i+1)) (gD p i)=true)->Q (p,k',0) s)->(kas_desc f p k 0).kasWp cmp Q s
 |0,k,_,e,h,q=>q k (Yaf _) (by omega) h
 |f+1,k,h1,e,h,q=>by
  refine a.ask _ _ _ (r.b k (by omega)) (r.b (k-1) (by omega)) ?_
  show(if lt (gD p k) (gD p (k-1))=true then (if 0>0 then kas_desc f (kas_rev p (k-(0+1)) k) (k+1) 0 else kas_desc f p (k+1) 0)
   else KasT.ask (gD p (k-1)) (gD p k) λd=>if d=true then YfC (p,k,0) else kas_desc f p (k+1) (0+1)).kasWp cmp Q s
  by_cases c:lt (gD p k) (gD p (k-1))=true
  ·rw[if_pos c,if_neg (by decide)]
   refine jiJ a r hm f (k+1) (by omega) (by omega) (λi hi=>?_) λk' h2 h3 h4=>q k' (by omega) h3 h4
   by_cases z:i+1=k
   ·have:i=k-1:=by omega
    rw[z,this];exact c
   ·exact h i (by omega)
  ·rw[if_neg c];have c:lt (gD p (k-1)) (gD p k)=true:=a.no r (by omega) (by omega) (by omega) (by simpa using c)
   refine a.ask _ _ _ (r.b (k-1) (by omega)) (r.b k (by omega)) ?_
   dsimp only;rw[if_pos c];exact q k (Yaf _) (by omega) h
def jiB {p q:Array Nat}{i j:Nat}(h:p[i]?=q[j]?):gD p i=gD q j:=by
 unfold gD;rw[YbO,YbO,h]
def jfN {p:Array Nat}{m:Nat}(hm:m<=p.size)(k:Nat):gD (kas_rev p 0 m) k=if k<m then gD p (m-1-k) else gD p k:=by
 have:=getElem?_mirror_all (xs:=p) (i:=0) hm k;split
 ·rename_i h;refine jiB ?_;show(mirror p 0 m ((m-0)/2))[k]?=_;rw[this,if_pos ⟨Ybb _,h⟩];congr 1;omega
 ·rename_i h;refine jiB ?_;show(mirror p 0 m ((m-0)/2))[k]?=_;rw[this,if_neg (λz=>h z.2)]
def Arr.rev {p:Array Nat}(r:Arr n p){m:Nat}(hm:m<=n):Arr n (kas_rev p 0 m):=by
 have g:=λk=>jfN (p:=p) (m:=m) (by rw[r.z];exact hm) k
 refine⟨by rw[kas_rev_size,r.z],λi hi=>?_,λi j hi hj e=>?_,(Array.perm_iff_toList_perm.mp (mirror_perm p 0 m ((m-0)/2))).trans r.pm⟩
 ·rw[g];split
  ·exact r.b _ (by omega)
  ·exact r.b _ hi
 ·rw[g,g]at e;split at e<;>split at e
  ·have:=r.inj _ _ (by omega) (by omega) e;omega
  ·have:=r.inj _ _ (by omega) (by omega) e;omega
  ·have:=r.inj _ _ (by omega) (by omega) e;omega
  ·exact r.inj _ _ hi hj e
def jj2 (a:Asks n lt cmp s){p:Array Nat}(r:Arr n p){Q:Nat×Array Nat->Shared->Prop}(h2:2<=n)(q:∀k p',1<=k->k<=n->Arr n p'->Asc lt p' k->Q (k,p') s):(kas_count n p).kasWp cmp Q s:=by
 unfold kas_count;rw[YcB];refine ji0 a r (m:=n) (Yaf _) (n-1) 1 (Yaf _) (by omega) (λi hi=>by omega) λk h1 h3 h4 h5=>?_
 by_cases e:k=n
 ·rw[if_pos (by simpa using e)]
  exact q k p h1 h3 r h4
 ·rw[if_neg (by simpa using e)]
  by_cases hk:k>1
  ·rw[if_pos hk];refine a.ask _ _ _ (r.b 0 (by omega)) (r.b (k-1) (by omega)) ?_
   have c:lt (p.getD 0 0) (p.getD (k-1) 0)=true:=by
    have:=Asc.less a r h3 h4 (k-2) 0 (by omega)
    rw[show 0+(k-2)+1=k-1 by omega]at this
    exact this
   dsimp only;rw[if_pos c];exact q k p h1 h3 r h4
  ·rw[if_neg hk];have k1:k=1:=by omega
   subst k1;unfold kas_descPart;rw[YcB];refine jiJ a r (m:=n) (Yaf _) (n-(1+1)) (1+1) (by omega) (by omega) (λi hi=>?_) λk' h6 h7 h8=>?_
   ·have:i=0:=by omega
    subst this;exact h5 (by omega)
   ·rw[if_neg (by show ¬(0>0);omega)]
    show(kas_tail3 k' n p).kasWp cmp Q s;unfold kas_tail3;rw[YcB];have rr:=r.rev h7;refine ji0 a rr (m:=n) (Yaf _) (n-k') k' (by omega) (by omega) (λi hi=>?_) λk2 h9 ha hb hc=>?_
    ·rw[jfN (by rw[r.z];exact h7),jfN (by rw[r.z];exact h7),if_pos (by omega),if_pos hi]
     have:=h8 (k'-1-(i+1)) (by omega)
     rw[show k'-1-(i+1)+1=k'-1-i by omega]at this
     exact this
    ·exact q k2 _ (by omega) ha rr hb
def jeG (a:Asks n lt cmp s){p:Array Nat}(r:Arr n p){Q:Nat->Shared->Prop}{k:Nat}(hk:k<n)(hs:Asc lt p k):∀(f l u:Nat),l<=u->u<=k->u-l<=f->(∀i,i<l->lt (gD p i) (gD p k)=true)->(∀i,u<=i->i<k->lt (gD p k) (gD p i)=true)->
  (∀l',l'<=k->(∀i,i<l'->lt (gD p i) (gD p k)=true)->(∀i,l'<=i->i<k->lt (gD p k) (gD p i)=true)->Q l' s)->(YfY p k f l u).kasWp cmp Q s
 |0,l,u,h1,h2,h3,h4,h5,q=>q l (by omega) h4 λi hi=>h5 i (by omega)
 |f+1,l,u,h1,h2,h3,h4,h5,q=>by
  show(if l ≥ u then YfC l else KasT.ask (gD p k) (gD p ((l+u)/2)) λc=>if c=true then YfY p k f l ((l+u)/2) else YfY p k f ((l+u)/2+1) u).kasWp cmp Q s
  by_cases e:l ≥ u
  ·rw[if_pos e];exact q l (by omega) h4 λi hi=>h5 i (by omega)
  ·rw[if_neg e];obtain⟨m,hm⟩:∃m,m=(l+u)/2:=⟨_,rfl⟩;rw[<- hm];have m1:l<=m:=by omega
   have m2:m<u:=by omega
   refine a.ask _ _ _ (r.b k hk) (r.b m (by omega)) ?_
   dsimp only;by_cases c:lt (gD p k) (gD p m)=true
   ·rw[if_pos c];refine jeG a r hk hs f l m m1 (by omega) (by omega) h4 (λi hi1 hi2=>?_) q
    by_cases z:i=m
    ·rw[z];exact c
    ·have:=Asc.less a r (Yci hk) hs (i-m-1) m (by omega)
     rw[show m+(i-m-1)+1=i by omega]at this
     exact a.tr _ _ _ (r.b _ hk) (r.b _ (by omega)) (r.b _ (by omega)) c this
   ·rw[if_neg c];have c:lt (gD p m) (gD p k)=true:=a.no r hk (by omega) (by omega) (by simpa using c)
    refine jeG a r hk hs f (m+1) u (by omega) h2 (by omega) (λi hi=>?_) h5 q
    by_cases z:i=m
    ·rw[z];exact c
    ·have:=Asc.less a r (Yci hk) hs (m-i-1) i (by omega)
     rw[show i+(m-i-1)+1=m by omega]at this
     exact a.tr _ _ _ (r.b _ (by omega)) (r.b _ (by omega)) (r.b _ hk) this c
def jmB {p:Array Nat}{k l:Nat}(hk:k<p.size)(hl:l<=k)(i:Nat):gD (bubble p k (k-l)) i=if i=l then gD p k else if l<i/\i<=k then gD p (i-1) else gD p i:=by
 have:=getElem?_bubble (xs:=p) hk (k-l) (by omega) i
 rw[show k-(k-l)=l by omega]at this
 split
 ·rename_i h;refine jiB ?_;rw[this,if_pos h]
 ·rename_i h;rw[if_neg h]at this;split
  ·rename_i h';refine jiB ?_;rw[this,if_pos h']
  ·rename_i h';refine jiB ?_;rw[this,if_neg h']
def jkO (a:Asks n lt cmp s){Q:Array Nat->Shared->Prop}(q:∀p,Arr n p->Asc lt p n->Q p s):∀(f:Nat) (p:Array Nat) (k:Nat),Arr n p->k+f=n->Asc lt p k->(kas_bin f p k).kasWp cmp Q s
 |0,p,k,r,e,h=>by
  have:k=n:=by omega
  subst this;exact q p r h
 |f+1,p,k,r,e,h=>by
  show((YfY p k k 0 k).bind λl=>kas_bin f (bubble p k (k-l)) (k+1)).kasWp cmp Q s;rw[YcB];refine jeG a r (by omega) h k 0 k (Ybb _) (Yaf _) (by omega) (λi hi=>by omega) (λi h1 h2=>by omega) λl hl h1 h2=>?_
  have g:=λi=>jmB (p:=p) (k:=k) (l:=l) (by rw[r.z];omega) hl i
  refine jkO a q f _ (k+1) ⟨by rw[bubble_size,r.z],λi hi=>?_,λi j hi hj e'=>?_,(Array.perm_iff_toList_perm.mp (bubble_perm p k (k-l))).trans r.pm⟩ (by omega) λi hi=>?_
  ·rw[g];split
   ·exact r.b _ (by omega)
   ·split
    ·exact r.b _ (by omega)
    ·exact r.b _ hi
  ·have g2:∀i,gD (bubble p k (k-l)) i=gD p (if i=l then k else if l<i/\i<=k then i-1 else i):=λi=>by
    rw[g];split
    ·rfl
    ·split<;>rfl
   rw[g2,g2]at e';have bd:∀i,i<n->(if i=l then k else if l<i/\i<=k then i-1 else i)<n:=λi hi=>by
    split
    ·omega
    ·split<;>omega
   have e2:=r.inj _ _ (bd i hi) (bd j hj) e';by_cases x1:i=l
   ·rw[if_pos x1]at e2;by_cases y1:j=l
    ·omega
    ·rw[if_neg y1]at e2;by_cases y2:l<j/\j<=k
     ·rw[if_pos y2]at e2;omega
     ·rw[if_neg y2]at e2;omega
   ·rw[if_neg x1]at e2;by_cases y1:j=l
    ·rw[if_pos y1]at e2;by_cases x2:l<i/\i<=k
     ·rw[if_pos x2]at e2;omega
     ·rw[if_neg x2]at e2;omega
    ·rw[if_neg y1]at e2;by_cases x2:l<i/\i<=k
     ·rw[if_pos x2]at e2;by_cases y2:l<j/\j<=k
      ·rw[if_pos y2]at e2;omega
      ·rw[if_neg y2]at e2;omega
     ·rw[if_neg x2]at e2;by_cases y2:l<j/\j<=k
      ·rw[if_pos y2]at e2;omega
      ·rw[if_neg y2]at e2;omega
  ·rw[g,g];by_cases c1:i+1<l
   ·rw[if_neg (by omega),if_neg (by omega),if_neg (by omega),if_neg (by omega)]
    exact h i (by omega)
   ·by_cases c2:i+1=l
    ·rw[if_neg (by omega),if_neg (by omega),if_pos c2]
     exact h1 i (by omega)
    ·by_cases c3:i=l
     ·rw[if_pos c3,if_neg (by omega),if_pos (by omega)]
      rw[show i+1-1=l by omega]
      exact h2 l (Yaf _) (by omega)
     ·rw[if_neg c3,if_pos (by omega),if_neg (by omega),if_pos (by omega)]
      have:=h (i-1) (by omega)
      rw[show i-1+1=i+1-1 by omega]at this
      exact this
def jk5 (a:Asks n lt cmp s){Q:Array Nat->Shared->Prop}(h2:2<=n)(q:∀p,Arr n p->Asc lt p n->Q p s):(kas_sort n).kasWp cmp Q s:=by
 unfold kas_sort;rw[YcB];have r0:Arr n (Yc5 (YaK n)):=by
  have g:∀i,i<n->gD (Yc5 (YaK n)) i=i:=λi hi=>by unfold gD;simp[Array.getD,hi]
  exact⟨by simp,λi hi=>by rw[g i hi];exact hi,λi j hi hj e=>by rw[g i hi,g j hj]at e;exact e,by simp⟩
 refine jj2 a r0 h2 λk p' h1 h3 r h4=>?_;show(if k<n then kas_bin (n-max k 1) p' (max k 1) else YfC p').kasWp cmp Q s
 by_cases c:k<n
 ·rw[if_pos c,Nat.max_eq_left h1];exact jkO a q (n-k) p' k r (by omega) h4
 ·rw[if_neg c];have:k=n:=by omega
  subst this;exact q p' r h4
end
end L2

namespace L2
open PySem PySem.Spec PyProof.Rows PySem.W
open PySem.AutoSeq1 (wpAny_loadPart')
open PySem.MeetsSeq PySem.MeetsSeq2 PySem.MeetsSeq3
def jgM {us:List Value}{ns:List Int}(r:IntsAre us ns){i:Nat}{u:Value}(h:us[i]?=some u):∃z t,ns[i]?=some z/\u=.int z t:=by
 induction r generalizing i with
 |nil=>cases h
 |cons z t r ih=>
  cases i with
  |zero=>cases h;exact⟨z,t,rfl,rfl⟩
  |succ i=>exact ih h
section
variable {ns ms:List Int}{i:Nat}
def jjT {a c:Int}(h1:ns[i]?=some a)(h2:ms[i]?=some c):HT.lexLt (ns.drop i) (ms.drop i)=if a=c then HT.lexLt (ns.drop (i+1)) (ms.drop (i+1)) else decide (a<c):=by
 obtain⟨g1,e1⟩:=List.getElem?_eq_some_iff.mp h1;obtain⟨g2,e2⟩:=List.getElem?_eq_some_iff.mp h2;rw[Ya0 g1,Ya0 g2,HT.lexLt_cons,e1,e2]
def jl3 (h:i=ns.length\/i=ms.length)(h1:i<=ns.length)(h2:i<=ms.length):HT.lexLt (ns.drop i) (ms.drop i)=decide (ns.length<ms.length):=by
 by_cases e1:i=ns.length
 ·rw[YbH (l:=ns) (by omega)]
  by_cases e2:i=ms.length
  ·rw[YbH (by omega),HT.lexLt_nil_nil];exact(decide_eq_false (by omega)).symm
  ·rw[Ya0 (l:=ms) (by omega),HT.lexLt_nil_cons];exact(decide_eq_true (by omega)).symm
 ·rw[Ya0 (l:=ns) (by omega),YbH (l:=ms) (by omega),HT.lexLt_cons_nil];exact(decide_eq_false (by omega)).symm
end
def jl0 (l b : Addr)(xs ys : Array Value)(n m : Nat)(dd de : Option Addr)(sl sm : Array (Option Value))(ns ms : List Int)(hi : IntsAre xs.toList ns)(hj : IntsAre ys.toList ms)(k : Nat) :
    ∀ i : Nat, ns.length - i = k -> i <= ns.length -> i <= ms.length -> Meets (Builtin.«list.__eq__.loop» ⟨[.ref l, .ref b, rawInt i, rawInt 0], []⟩)
      (λ_ R s => s.heap.get? l = some { cls := .type "list", dict := dd, data := .seq xs n, slots := sl } /\ s.heap.get? b = some { cls := .type "list", dict := de, data := .seq ys m, slots := sm } /\ R (.ok (.ret (.bool (HT.lexLt (ns.drop i) (ms.drop i))))) s) := by
  have z1 : xs.size = ns.length := by rw [<- hi.length]; simp
  have z2 : ys.size = ms.length := by rw [<- hj.length]; simp
  have stop : ∀ i : Nat, i <= ns.length -> i <= ms.length -> (i = ns.length \/ i = ms.length) -> Meets (Builtin.«list.__eq__.loop» ⟨[.ref l, .ref b, rawInt i, rawInt 0], []⟩)
      (λ_ R s => s.heap.get? l = some { cls := .type "list", dict := dd, data := .seq xs n, slots := sl } /\ s.heap.get? b = some { cls := .type "list", dict := de, data := .seq ys m, slots := sm } /\ R (.ok (.ret (.bool (HT.lexLt (ns.drop i) (ms.drop i))))) s) := by
    intro i h1 h2 h3 prog w A R s h
    obtain ⟨hp, g, d, tk, os⟩ := s; obtain ⟨gl, gb, h⟩ := h
    rw [jl3 h3 h1 h2, <- z1, <- z2] at h
    wp_walk using wpAny_loadPart' gl, wpAny_loadPart' gb
    rcases h3 with e | e
    · have q1 : xs[((i : Nat) : Int).toNat]? = none := by simp; omega
      rw [q1]
      wp_walk using wpAny_loadPart' gl, wpAny_loadPart' gb
      exact h
    · have q2 : ys[((i : Nat) : Int).toNat]? = none := by simp; omega
      rw [q2]
      cases q1 : xs[((i : Nat) : Int).toNat]? with
      | none => wp_walk using wpAny_loadPart' gl, wpAny_loadPart' gb
                exact h
      | some v => wp_walk using wpAny_loadPart' gl, wpAny_loadPart' gb
                  exact h
  induction k with
  | zero => exact λi hk h1 h2 => stop i h1 h2 (.inl (by omega))
  | succ k ih =>
    intro i hk h1 h2
    by_cases e : i = ms.length
    · exact stop i h1 h2 (.inr e)
    · intro prog w A R s h
      obtain ⟨hp, g, d, tk, os⟩ := s; obtain ⟨gl, gb, h⟩ := h
      wp_walk using wpAny_loadPart' gl, wpAny_loadPart' gb
      have l1 : i < xs.size := by omega
      have l2 : i < ys.size := by omega
      have q1 : xs[((i : Nat) : Int).toNat]? = some xs[i] := by simp [l1]
      have q2 : ys[((i : Nat) : Int).toNat]? = some ys[i] := by simp [l2]
      have hc : ((i : Int) + 1) = ((i + 1 : Nat) : Int) := by push_cast; rfl
      obtain ⟨a, t, ea, va⟩ := jgM hi (i := i) (u := xs[i]) (by simp [l1])
      obtain ⟨c, u, ec, vc⟩ := jgM hj (i := i) (u := ys[i]) (by simp [l2])
      rw [jjT ea ec] at h
      rw [q1, q2, va, vc]
      obtain ⟨e, he, hiff⟩ := HT.eqAt_int A.in1 ⟨hp, g, d, tk, os⟩ a t c u
      refine Yag (he prog w _ _ ?_)
      cases e with
      | true =>
        rw [if_pos (hiff.mp rfl)] at h
        wp_walk
        rw [hc]
        exact ⟨plainId_quiet plain_eq_loop _, codeAny_builtin entry_eq_loop (by rw [YeW plain_eq_loop _]; exact ih (i + 1) (by omega) (by omega) (by omega) prog w A R _ ⟨gl, gb, h⟩)⟩
      | false =>
        rw [if_neg (λq => absurd (hiff.mpr q) Yan)] at h
        wp_walk using wpAny_loadPart' gl, wpAny_loadPart' gb
        rw [q1, q2, va, vc]
        have hri := HT.rcLt_int A.in1 ⟨hp, g, d, tk, os⟩ a t c u prog w
        wp_walk using hri
        exact h
def jl2 (l b:Addr)(xs ys:Array Value)(n m:Nat)(dd de:Option Addr)(sl sm:Array (Option Value))(ns ms:List Int)(hi:IntsAre xs.toList ns)(hj:IntsAre ys.toList ms):Meets (Builtin.«list.__lt__» ⟨[.ref l,.ref b],[]⟩)
   (λ_ R s=>s.heap.get? l=some { cls:=.type "list",dict:=dd,data:=.seq xs n,slots:=sl }/\s.heap.get? b=some { cls:=.type "list",dict:=de,data:=.seq ys m,slots:=sm }/\R (.ok (.ret (.bool (HT.lexLt ns ms)))) s):=by
 intro prog w A R s h;obtain⟨hp,g,d,tk,os⟩:=s;obtain⟨gl,gb,h⟩:=h;have f3:=AutoSeq1.sub_list_list
 wp_walk using wpAny_loadPart' gl,wpAny_loadPart' gb
 exact⟨plainId_quiet plain_eq_loop _,codeAny_builtin entry_eq_loop (by rw[YeW plain_eq_loop _];exact jl0 l b xs ys n m dd de sl sm ns ms hi hj _ 0 rfl (Ybb _) (Ybb _) prog w A R _ ⟨gl,gb,h⟩)⟩
end L2

namespace L2
open PySem PySem.Spec PyProof.Rows PySem.W
noncomputable def jcP:Nat:=64
section
variable {prog:Program}{w:World}{A:Around}{E:Value->Shared->Prop}{s:Shared}
def jhh {a b:Addr}{xs ys:Array Value}{ns ms:List Int}{Q:Bool->Shared->Prop}(hu:A.units<cLine)(ga:PlainL s.heap a xs)(gb:PlainL s.heap b ys)(hi:IntsAre xs.toList ns)(hj:IntsAre ys.toList ms)(h:Q (HT.lexLt ns ms) s) :
  wpAny (model prog w) A (oneLt' true (.ref a) (.ref b)) Q E s:=by
 obtain⟨⟨c1,d1,dt1,sl1⟩,n1,e1,p1,q1,r1⟩:=ga;obtain⟨⟨c2,d2,dt2,sl2⟩,n2,e2,p2,q2,r2⟩:=gb;simp only at p1 q1 r1 p2 q2 r2;subst p1 q1 r1 p2 q2 r2;rw[oneLt'_eq];simp only[if_true];refine Yag (wpAny_cRoomFor hu (Yag (wpAny_callSpecialIfBound?_slot ⟨_,e1,rfl⟩ YeG (Ybx YeG ⟨_,e1,rfl⟩ PySem.F.entry_list_lt (PySem.F.args_list_lt_2 _ _) (jl2 a b xs ys n1 n2 none none sl1 sl2 ns ms hi hj) ⟨e1,e2,?_⟩))));exact Ycd h
def jpp {α β γ:Type}{M:Model}{c:Prop}[Decidable c]{m n:Sem α}{g:α->Sem β}{f:β->Sem γ}{Q:γ->Shared->Prop}(mid:β->Shared->Prop)(h1:c->wpAny M A m (λa s1=>wpAny M A (g a) mid E s1) E s)(h2:¬c->wpAny M A n (λa s1=>wpAny M A (g a) mid E s1) E s)(h3:∀b s2,mid b s2->wpAny M A (f b) Q E s2) :
  wpAny M A (if c then m >>= λa=>g a >>= f else n >>= λa=>g a >>= f) Q E s:=by
 have on:∀{m:Sem α},wpAny M A m (λa s1=>wpAny M A (g a) mid E s1) E s->wpAny M A (m >>= λa=>g a >>= f) Q E s:=λh=>Yag (thn h λa s1 h=>Yag (thn h h3));by_cases hc:c
 ·rw[if_pos hc];exact on (h1 hc)
 ·rw[if_neg hc];exact on (h2 hc)
def jfM {κ:SortKind}{a:Addr}{vs:List Value}{n:Nat}{P:Fin->Shared->Prop}(ho:s.heap.get? a=some (seqObj "list" vs.toArray n))(h64:vs.length<jcP)(nd:vs.Nodup)(lt:Nat->Nat->Bool)
  (hk:∀h':Heap,(∀b o,b≠a->s.heap.get? b=some o->h'.get? b=some o)->2<=vs.length->∀R:SortKind->Shared->Prop,R κ { s with heap:=h' }->wpAny (model prog w) A (keyKind' vs.toArray) R E { s with heap:=h' })
  (as:∀h':Heap,(∀b o,b≠a->s.heap.get? b=some o->h'.get? b=some o)->Asks vs.length lt (kas_ask prog w A κ vs) { s with heap:=h' })
  (q:∀π:List Nat,π.Perm (YaK vs.length)->(∀i,i+1<vs.length->lt (π.getD i 0) (π.getD (i+1) 0)=true)->P (.done (.ret .none)) { s with heap:=sortedHeap s.heap a vs (Yc5 (π.map λi=>vs.getD i YaU)) }) :
  wpAny (model prog w) A (Builtin.«list.sort» ⟨[.ref a],[]⟩) P E s:=by
 rw[list_sort_plain];have hz:vs.toArray.size=vs.length:=by simp
 have big:vs.length<=Yak:=by rw[Ycw];unfold jcP at h64;omega
 have at1:=get?_update_seq ho λ_=>(#[]:Array Value);generalize eh1:s.heap.update a (Ycz λ_=>(#[]:Array Value))=h1 at at1;obtain⟨e1,ho1⟩:∃e1,h1.get? a=some (seqObj "list" #[] e1):=⟨_,at1⟩;refine Yag (listItems_at ho rfl (Yag (listUpdate_at ho rfl ?_ (hz ▸ big) (Ybb _))));rw[eh1];refine Yag (seqEpoch_at ho1 rfl (Yag (wpAny_newTuple (Yag (wpAny_newList (Ybh ?_) (Ybb _))) big)));obtain⟨h3,eh3⟩:∃h3,h3=(h1.push (seqObj "tuple" vs.toArray 0)).push (seqObj "list" #[] 0):=⟨_,rfl⟩;refine(?_:wpAny (model prog w) A _ P E { s with heap:=(h1.push (seqObj "tuple" vs.toArray 0)).push (seqObj "list" #[] 0) })
 have kp:∀b o,b≠a->s.heap.get? b=some o->h3.get? b=some o:=λb o hb e=>by
  rw[eh3];exact Yae _ (Yae _ (by rw[<- eh1,Yfl _ _ _ _ hb];exact e))
 have ho6:h3.get? a=some (seqObj "list" #[] e1):=by rw[eh3];exact Yae _ (Yae _ ho1)
 have fin:∀out:Array Value,sortedHeap s.heap a vs out=h3.update a (Ycz λ_=>out):=λout=>by rw[eh3,<- eh1];rfl
 rw[<- eh3];dsimp only;refine jpp (λ(r:PUnit×SortSt) s'=>s'={ s with heap:=h3 }/\∃π:List Nat,π.Perm (YaK vs.length)/\(∀i,i+1<vs.length->lt (π.getD i 0) (π.getD (i+1) 0)=true)/\(arrOf r.2).map (·.2)=Yc5 (π.map λi=>vs.getD i YaU)/\failedOf r.2=none) (λh2=>?_) (λh2=>?_) ?_
 rotate_right
 ·rintro⟨⟨⟩,st⟩ s' ⟨rfl,π,hp,hs,hout,hf⟩;refine Yag (seqEpoch_at ho6 rfl (Yag (listUpdate_at ho6 rfl ?_ (Ybb _) (by rw[hout,Yaj,Yaa,hp.length_eq,YbW];exact Nat.le_succ_of_le big))))
  dsimp only;rw[hf,bne_self_eq_false];refine Yar ?_;rw[hout,<- fin];exact q π hp hs
 ·rw[if_pos h2];refine Yar (Yar ⟨rfl,YaK vs.length,.refl _,λi hi=>by rw[hz]at h2;omega,?_,rfl⟩)
  refine(?_:(vs.toArray.zip vs.toArray).map (·.2)=_);apply Array.toList_inj.mp;refine Yf3 (by simp) λi g1 g2=>?_
  have hi:i<vs.length:=by simpa using g1
  simp[YaS,hi]
 ·rw[if_neg h2];rw[hz]at h2;refine hk h3 kp (Nat.not_lt.mp h2) _ ?_;refine Ybm (kat_run (s:={ s with heap:=h3 }) (κ:=κ) (Q:=λst' s'=>s'={ s with heap:=h3 }/\∃p:Array Nat,Arr vs.length p/\Asc lt p vs.length/\arrOf st'=p.map (kas_item (vs.toArray.zip vs.toArray))/\failedOf st'=none)
   (G:=λp s'=>s'={ s with heap:=h3 }/\Arr vs.length p/\Asc lt p vs.length) (ks:=vs) (vs:=vs) rfl (by omega) h64 (λp st' s' a1 a2 a3 a4=>⟨a4.1,p,a4.2.1,a4.2.2,a2,a3⟩) (jk5 (as h3 kp) (by omega) λp r1 r2=>⟨rfl,r1,r2⟩)) ?_ λ_ _ e=>e
  rintro⟨⟨⟩,st⟩ s' ⟨rfl,p,r1,r2,ar,hf⟩;refine⟨rfl,p.toList,r1.pm,λi hi=>?_,kat_snds rfl ar,hf⟩;have:=r2 i hi;unfold gD at this;rw[YbO,YbO]at this;rw[YaH,YaH,YbM,YbM];exact this
end

def jlZ:∀a:List Int,HT.lexLt a a=false
 |[]=>rfl
 |x::a=>by rw[HT.lexLt_cons,if_pos rfl];exact jlZ a
def jjR:∀a b c:List Int,HT.lexLt a b=true->HT.lexLt b c=true->HT.lexLt a c=true
 |[],[],_,h,_=>by cases h
 |[],_::_,[],_,h=>by rw[HT.lexLt_cons_nil]at h;cases h
 |[],_::_,_::_,_,_=>rfl
 |_::_,[],_,h,_=>by rw[HT.lexLt_cons_nil]at h;cases h
 |_::_,_::_,[],_,h=>by rw[HT.lexLt_cons_nil]at h;cases h
 |x::a,y::b,z::c,h1,h2=>by
  rw[HT.lexLt_cons]at h1 h2 ⊢;by_cases e1:x=y
  ·rw[if_pos e1]at h1;by_cases e2:y=z
   ·rw[if_pos e2]at h2;rw[if_pos (e1.trans e2)];exact jjR a b c h1 h2
   ·rw[if_neg e2]at h2;rw[if_neg (λq=>e2 (e1.symm.trans q)),e1];exact h2
  ·rw[if_neg e1]at h1;by_cases e2:y=z
   ·rw[if_pos e2]at h2;rw[if_neg (λq=>e1 (q.trans e2.symm)),<- e2];exact h1
   ·rw[if_neg e2]at h2;have g1:=of_decide_eq_true h1;have g2:=of_decide_eq_true h2;rw[if_neg (by omega)];exact decide_eq_true (by omega)
def jku:∀a b:List Int,a≠b->HT.lexLt a b=true\/HT.lexLt b a=true
 |[],[],h=>absurd rfl h
 |[],_::_,_=>.inl rfl
 |_::_,[],_=>.inr rfl
 |x::a,y::b,h=>by
  rw[HT.lexLt_cons,HT.lexLt_cons];by_cases e:x=y
  ·rw[if_pos e,if_pos e.symm];exact jku a b λz=>h (by rw[e,z])
  ·rw[if_neg e,if_neg (Ne.symm e)];by_cases z:x<y
   ·exact .inl (decide_eq_true z)
   ·exact .inr (decide_eq_true (by omega))
def KeyL (K:Yac)(H:Hp)(v:V)(k:List Int):Prop:=∃t,v=.ref t/\SqL K H t (k.map V.int)
def jjS {prog:Program}{w:World}{A:Around}{s:Shared}{Q:Bool->Shared->Prop}{k k':List Int}{ia ib:List Value}(ra:Vals (k.map V.int) ia)(rb:Vals (k'.map V.int) ib)(i:Nat)(h:Q (HT.lexLt k k') s):KatLex prog w A true (decide (ia.toArray.size<ib.toArray.size)) Q (ia.toArray.toList.zip ib.toArray.toList) i s:=by
 have go:∀(k:List Int) {k':List Int} {ia ib:List Value} (fin:Bool),Vals (k.map V.int) ia->Vals (k'.map V.int) ib->fin=decide (ia.length<ib.length)->∀(i:Nat),Q (HT.lexLt k k') s->KatLex prog w A true fin Q (ia.zip ib) i s:=λk=>by
  induction k with
  |nil=>
   intro k' ia ib fin ra rb hf i h;cases ra;subst hf;cases k' with
   |nil=>cases rb;exact kat_nil (by rw[HT.lexLt_nil_nil]at h;simpa using h)
   |cons y k'=>
    cases rb with
    |cons b rb=>
     refine kat_nil ?_;rw[show HT.lexLt [] (y::k')=true from rfl]at h;simpa using h
  |cons x k ih=>
   intro k' ia ib fin ra rb hf i h;cases ra with
   |cons a ra=>
    cases k' with
    |nil=>cases rb;subst hf;exact kat_nil (by rw[HT.lexLt_cons_nil]at h;simpa using h)
    |cons y k'=>
     cases rb with
     |cons b rb=>
      obtain⟨t,rfl⟩:=a;obtain⟨u,rfl⟩:=b;rw[HT.lexLt_cons]at h;refine kat_cons (wpAny_eqBool_int ?_);refine kat_go (λe=>kat_yes ?_) λe=>kat_no ?_
      ·have e:x=y:=by simpa using e
       rw[if_pos e]at h;exact ih fin ra rb (by rw[hf];simp) (i+1) h
      ·have e:¬x=y:=by simpa using e
       rw[if_neg e]at h;cases i with
       |zero=>exact oneLt_int h
       |succ i=>
        rw[show(true&&(i+1==0))=false by simp]
        exact kat_one _ _ (wpAny_lt_int h)
 exact go k _ ra rb (by simp) i h
section
variable {X:Cx}
def jpU (X:Cx)(xs:List V)(H:Hp)(Q:VK):Prop:=∃(p:Addr) (vs:List V) (ks:List (List Int)),xs=[.ref p]/\SqL X.K H p vs/\vs.length=ks.length/\ks.Nodup/\vs.length<jcP/\
 ((∀(i:Nat) v k,vs[i]?=some v->ks[i]?=some k->KeyI H v k)\/(∀(i:Nat) v k,vs[i]?=some v->ks[i]?=some k->KeyL X.K H v k)\/∀(i:Nat) v k,vs[i]?=some v->ks[i]?=some k->KeyT X.K H v k/\k≠[])/\
 ∀(l:Addr) (π:List Nat),H l=none->π.Perm (YaK vs.length)->(∀i,i+1<vs.length->HT.lexLt (ks.getD (π.getD i 0) []) (ks.getD (π.getD (i+1) 0) [])=true)->Q (.ref l) (upd H l (.lst (π.map λi=>vs.getD i .non)))
def jn6 {α:Type}{l:List α}(h:l.Nodup){i j:Nat}(hi:i<l.length)(hj:j<l.length)(hne:i≠j):l[i]≠l[j]:=by
 have h:=List.pairwise_iff_getElem.mp h;rcases Nat.lt_or_gt_of_ne hne with z|z
 ·exact h i j hi hj z
 ·exact λe=>h j i hj hi z e.symm
def jfB (hc:X.calm=true)(hu:X.A.units+2<cLine):ja7 X (.builtin "sorted") (jpU X):=by
 intro pins s σ H xs us Q I r h;obtain⟨p,vs,ks,rfl,hq,hl,hnd,h64,hk,q⟩:=h;obtain⟨u,rfl,rx⟩:=jcK r;cases rx;obtain⟨its,rv,pl,hz⟩:=I.list hq;have il:=rv.length;have hL:=pl.isList;have key:∀{i:Nat} {u:Value},its[i]?=some u->∃v k,vs[i]?=some v/\ks[i]?=some k/\RelV v u:=λ{i u} e=>by
  obtain⟨v,ev,r1⟩:=jdi rv e;have:i<ks.length:=by rw[<- hl];exact(List.getElem?_eq_some_iff.mp ev).1
  exact⟨v,ks[i],ev,Yab this,r1⟩
 have nd:its.Nodup:=by
  refine List.pairwise_iff_getElem.mpr λi j hi hj hij e=>?_;obtain⟨x,k,ex,ek,r1⟩:=key (Yab hi);obtain⟨y,k',ey,ek',r2⟩:=key (Yab hj);have kne:k≠k':=λz=>by
   obtain⟨h1,q1⟩:=List.getElem?_eq_some_iff.mp ek;obtain⟨h2,q2⟩:=List.getElem?_eq_some_iff.mp ek';exact jn6 hnd h1 h2 (by omega) (by rw[q1,q2];exact z)
  rcases hk with hk|hk|hk
  ·obtain⟨z,rfl,e1⟩:=hk i x k ex ek;obtain⟨z',rfl,e2⟩:=hk j y k' ey ek';obtain⟨t1,g1⟩:=r1;obtain⟨t2,g2⟩:=r2;rw[g1,g2]at e;injection e with e3 _
   exact kne (by rw[e1,e2,e3])
  ·obtain⟨a,rfl,ha⟩:=hk i x k ex ek;obtain⟨b,rfl,hb⟩:=hk j y k' ey ek';have g1:its[i]=.ref a:=r1;have g2:its[j]=.ref b:=r2;rw[g1,g2]at e;injection e with e3
   subst e3;exact kne (YfA (λ_ _ h=>by injection h) |>.mp (I.list_inj ha hb))
  ·obtain⟨⟨a,rfl,ha⟩,_⟩:=hk i x k ex ek;obtain⟨⟨b,rfl,hb⟩,_⟩:=hk j y k' ey ek';have g1:its[i]=.ref a:=r1;have g2:its[j]=.ref b:=r2;rw[g1,g2]at e;injection e with e3
   subst e3;exact kne (YfA (λ_ _ h=>by injection h) |>.mp (I.tuple_inj ha hb))
 have big:its.length<=Yak:=by rw[Ycw];unfold jcP at h64;omega
 refine jfr (collect_list hL (wpAny_newList ?_ big) big);obtain⟨h1,eh1⟩:∃h1,h1=(s.heap.push (seqObj "list" #[] 0)).update s.heap.objs.size (Ycz (·++its.toArray)):=⟨_,rfl⟩;rw[<- eh1];have k1:∀b o,s.heap.get? b=some o->h1.get? b=some o:=λb o e=>by
  rw[eh1,Yfl _ _ _ _ (Yay (Yaq e))];exact Yae _ e
 have hsz:s.heap.objs.size<=h1.objs.size:=by rw[eh1,Heap.size_update,size_push'];exact Yeo _
 have hoL:(h1.push { cls:=.type "list",data:=.seq its.toArray }).get? h1.objs.size=some (seqObj "list" its.toArray 0):=Yas _ rfl;have up:∀(h':Heap),(∀b o,b≠h1.objs.size->(h1.push { cls:=.type "list",data:=.seq its.toArray }).get? b=some o->h'.get? b=some o)->∀b o,s.heap.get? b=some o->h'.get? b=some o:=λh' k b o e=>
  k b o (Yay (Yaq (k1 b o e))) (Yae _ (k1 b o e))
 obtain⟨κ,hkind,hask⟩:∃κ:SortKind,(∀h':Heap,(∀b o,s.heap.get? b=some o->h'.get? b=some o)->2<=its.length->∀(R:SortKind->Shared->Prop) (E:Value->Shared->Prop),R κ { s with heap:=h' }->wpAny (model X.prog X.w) X.A.in1.in1 (keyKind' its.toArray) R E { s with heap:=h' })/\
   ∀(h':Heap),(∀b o,s.heap.get? b=some o->h'.get? b=some o)->∀(i j:Nat) (C:Bool->Shared->Prop),i<its.length->j<its.length->C (HT.lexLt (ks.getD i []) (ks.getD j [])) { s with heap:=h' }->kas_ask X.prog X.w X.A.in1.in1 κ its i j C { s with heap:=h' }:=by
  have pre:∀{i j:Nat} {C:Bool->Shared->Prop} {h':Heap},∀(hi:i<its.length) (hj:j<its.length),C (HT.lexLt (ks.getD i []) (ks.getD j [])) { s with heap:=h' }->∃x k y k',vs[i]?=some x/\ks[i]?=some k/\RelV x (its.getD i YaU)/\vs[j]?=some y/\ks[j]?=some k'/\RelV y (its.getD j YaU)/\C (HT.lexLt k k') { s with heap:=h' }:=λ{i j C h'} hi hj hC=>by
   have ei:its.getD i YaU=its[i]:=by simp[YaS,hi]
   have ej:its.getD j YaU=its[j]:=by simp[YaS,hj]
   obtain⟨x,k,ex,ek,rx⟩:=key (Yab hi);obtain⟨y,k',ey,ek',ry⟩:=key (Yab hj);have di:ks.getD i []=k:=by rw[YaH,ek];rfl
   have dj:ks.getD j []=k':=by rw[YaH,ek'];rfl
   rw[di,dj]at hC;exact⟨x,k,y,k',ex,ek,by rw[ei];exact rx,ey,ek',by rw[ej];exact ry,hC⟩
  rcases hk with hk|hk|hk
  ·refine⟨oneType',λh' up h2 R E hR=>kas_kind (M:=model X.prog X.w) (s:={ s with heap:=h' }) (T:=.type "int") (by omega) (λv hv=>?_) (by decide) (by decide) hR,λh' up i j C hi hj hC=>?_⟩
   ·obtain⟨i,hi,rfl⟩:=YaC hv;obtain⟨x,k,ex,ek,r1⟩:=key (Yab hi);obtain⟨z,rfl,_⟩:=hk i x k ex ek;obtain⟨t,e⟩:=r1;rw[e];exact Looks.of_pure rfl
   ·obtain⟨x,k,y,k',ex,ek,rx,ey,ek',ry,hC⟩:=pre hi hj hC;unfold kas_ask;rw[keyLt'_oneType];obtain⟨z,rfl,e1⟩:=hk i x k ex ek;obtain⟨z',rfl,e2⟩:=hk j y k' ey ek';obtain⟨t1,g1⟩:=rx;obtain⟨t2,g2⟩:=ry;rw[g1,g2];rw[e1,e2]at hC;refine oneLt_int ?_;have e:HT.lexLt [z] [z']=decide (z<z'):=by
     rw[HT.lexLt_cons];split
     ·rename_i q;rw[q,HT.lexLt_nil_nil];simp
     ·rfl
    rw[e]at hC;exact hC
  ·refine⟨oneType',λh' up h2 R E hR=>kas_kind (M:=model X.prog X.w) (s:={ s with heap:=h' }) (T:=.type "list") (by omega) (λv hv=>?_) (by decide) (by decide) hR,λh' up i j C hi hj hC=>?_⟩
   ·obtain⟨i,hi,rfl⟩:=YaC hv;obtain⟨x,k,ex,ek,r1⟩:=key (Yab hi);obtain⟨t,rfl,ht⟩:=hk i x k ex ek;obtain⟨js,rj,⟨o,m,eo,ec,_,_⟩,_⟩:=I.list ht;have r1:its[i]=.ref t:=r1;rw[r1];have:Looks (model X.prog X.w) h' (typeOf (.ref t)) o.cls:=(Looks.ld (up _ _ eo)).andThen .now;rw[ec]at this;exact this
   ·obtain⟨x,k,y,k',ex,ek,rx,ey,ek',ry,hC⟩:=pre hi hj hC;unfold kas_ask;rw[keyLt'_oneType];obtain⟨a,rfl,ha⟩:=hk i x k ex ek;obtain⟨b,rfl,hb⟩:=hk j y k' ey ek';obtain⟨ia,ra,pa,_⟩:=I.list ha;obtain⟨ib,rb,pb,_⟩:=I.list hb;have g1:its.getD i YaU=.ref a:=rx;have g2:its.getD j YaU=.ref b:=ry;rw[g1,g2];have upP:∀{t:Addr} {z:Array Value},PlainL s.heap t z->PlainL h' t z:=λ⟨o,n,e,q1,q2,q3⟩=>⟨o,n,up _ _ e,q1,q2,q3⟩;exact jhh (A:=X.A.in1.in1) (by rw[Ycc,Ycc];omega) (upP pa) (upP pb) (jgN (by simpa using ra)) (jgN (by simpa using rb)) hC
  ·refine⟨tuples' true,λh' up h2 R E hR=>?_,λh' up i j C hi hj hC=>?_⟩
   ·have go:∀l:List Value,(∀v∈l,v∈its)->∃fs,KatTups h' l fs/\fs.length=l.length/\∀f∈fs,Looks (model X.prog X.w) h' (typeOf f) (.type "int"):=λl=>by
     induction l with
     |nil=>intro _;exact⟨[],.nil,rfl,λ_ h=>(nomatch h)⟩
     |cons v l ih=>
      intro hv;obtain⟨fs,h1,h2,h3⟩:=ih λw hw=>hv w (Yai _ hw);obtain⟨i,hi,rfl⟩:=YaC (hv v Yat);obtain⟨x,k,ex,ek,r1⟩:=key (Yab hi);obtain⟨⟨t,rfl,ht⟩,kn⟩:=hk i x k ex ek;obtain⟨js,rj,⟨o,eo,ec,m,ed⟩,_⟩:=I.tuple ht;have r1:its[i]=.ref t:=r1;rw[r1];cases k with
      |nil=>exact absurd rfl kn
      |cons z k=>
       cases rj with
       |@cons v' u' _ us' r0 rr=>
        obtain⟨tk,rfl⟩:=r0;exact⟨_::fs,.cons (up _ _ eo) ec ed rfl h1,by rw[YaA,YaA,h2],λf hf=>by
         rcases YaM.mp hf with rfl|hf
         ·exact Looks.of_pure rfl
         ·exact h3 f hf⟩
    obtain⟨fs,h1,h3,h4⟩:=go its λ_ h=>h;exact kat_kind (M:=model X.prog X.w) (s:={ s with heap:=h' }) h1 (by omega) h4 (by decide) hR
   ·obtain⟨x,k,y,k',ex,ek,rx,ey,ek',ry,hC⟩:=pre hi hj hC;unfold kas_ask;obtain⟨⟨a,rfl,ha⟩,_⟩:=hk i x k ex ek;obtain⟨⟨b,rfl,hb⟩,_⟩:=hk j y k' ey ek';obtain⟨ia,ra,⟨o1,q1,_,m1,d1⟩,_⟩:=I.tuple ha;obtain⟨ib,rb,⟨o2,q2,_,m2,d2⟩,_⟩:=I.tuple hb;have g1:its.getD i YaU=.ref a:=rx;have g2:its.getD j YaU=.ref b:=ry;rw[g1,g2];refine kat_lt (s:={ s with heap:=h' }) (up _ _ q1) d1 (up _ _ q2) d2 ?_
    exact jjS ra rb 0 hC
 refine YcD slot_list_sort ⟨_,hoL,rfl⟩ entry_list_sort (jfM (κ:=κ) (s:={ s with heap:=h1.push { cls:=.type "list",data:=.seq its.toArray } }) hoL (by omega) nd (λi j=>HT.lexLt (ks.getD i []) (ks.getD j [])) (λh' kp h2 R hR=>hkind h' (up h' kp) h2 R _ hR) (λh' kp=>⟨λi j C hi hj hC=>hask h' (up h' kp) i j C hi hj hC,λi j k hi hj hk' h1 h2=>jjR _ _ _ h1 h2,λi j hi hj hne=>jku _ _ ?_,λi _=>jlZ _⟩) λπ hp hs=>⟨_,rfl,?_⟩) (args_list_sort _)
 ·have hi':i<ks.length:=by omega
  have hj':j<ks.length:=by omega
  have di:ks.getD i []=ks[i]:=by simp[YaS,hi']
  have dj:ks.getD j []=ks[j]:=by simp[YaS,hj']
  rw[di,dj];exact jn6 hnd hi' hj' hne
 ·obtain⟨e,he⟩:=sortedHeap_at (out:=Yc5 (π.map λi=>its.getD i YaU)) hoL;rw[<- il]at hp hs;have hfl:∀i∈π,i<vs.length:=λi hi=>List.mem_range.mp (hp.mem_iff.mp hi);refine⟨.ref h1.objs.size,_,I.laid (o:=.lst (π.map λi=>vs.getD i .non)) (λb ob y=>?_) hsz ?_,rfl,q _ π (I.hok.fresh hsz) hp hs⟩
  ·have hb:=k1 b ob y;have hlt:=Yaq hb;rw[sortedHeap_old (Yay hlt) (by rw[size_push'];exact YcP hlt)]
   exact Yae _ hb
  ·refine⟨by rw[Yaa,hp.length_eq,YbW,Ycw];unfold jcP at h64;omega,π.map λi=>its.getD i YaU,e,?_,?_⟩
   ·have:∀l:List Nat,(∀i∈l,i<vs.length)->Vals (l.map λi=>vs.getD i .non) (l.map λi=>its.getD i YaU):=λl=>by
     induction l with
     |nil=>intro _;exact .nil
     |cons i l ih=>
      intro hl';have hi:=hl' i (by simp)
      have hi2:i<its.length:=by omega
      obtain⟨v,ev,r1⟩:=jdi rv (Yab hi2);refine .cons ?_ (ih λj hj=>hl' j (Yai _ hj));refine(?_:RelV (vs.getD i .non) (its.getD i YaU));rw[YaH,ev,YaH,Yab hi2];exact r1
    exact this π hfl
   ·rw[he]
def jhu (hc:X.calm=true):ja7 X (.type "list") (λxs H Q=>∃(a:Addr) (kvs:List (Key×V)) (ns:List Int),xs=[.ref a]/\H a=some (.dK kvs)/\kvs.map (·.1)=ns.map (λz=>(.inl z:Key))/\∀l,H l=none->Q (.ref l) (upd H l (.lst (ns.map V.int)))):=by
 intro pins s σ H xs us Q I r h;obtain⟨a,kvs,ns,rfl,ha,hk,q⟩:=h;obtain⟨u,rfl,rx⟩:=jcK r;cases rx;obtain⟨hz,hS,vs,rv,m⟩:kvs.length<=Yak/\(a==Ya1)=false/\∃vs,KV kvs vs/\s.heap.DictOf (jaj X.prog X.w) a vs:=I.hok a _ ha;obtain⟨ep,hat⟩:=m.dictAt;have hkv:vs.map (·.1)=kvs.map (·.1):=jij rv;have hvl:vs.length=ns.length:=by simpa using congrArg Yef (hkv.trans hk)
 have hkl:kvs.length=ns.length:=by simpa using congrArg Yef hk
 refine kdl_call (A:=X.A) (kdl_dict (knd:=jaj X.prog X.w) (kvs:=vs) (ep:=ep) hS) (I.ok.hd hc) hat (by omega) λh' tk acc c' hk' hS' hacc=>?_
 have hl:acc.toList.length=ns.length:=by rw[YbB,hacc.1,hvl]
 have hI:IntsAre acc.toList ns:=jis (hkv.trans hk) hl λj v e=>hacc.2 j v (by rw[<- YbM];exact e)
 refine⟨.ref s.heap.objs.size,_,I.laid (t':=tk) (o:=.lst (ns.map V.int)) (λb o e=>hk' b o e) (Yaf _) ⟨by rw[Yaa];omega,acc.toList,c',jcT hI,by simpa using hS'⟩,rfl,q _ (I.hok.fresh (Yaf _))⟩
def jbM:∀r:List Int,YcI (r.map .int)=true/\Ybl (r.map .int)=0/\noBs (r.map .int)=true
 |[]=>⟨rfl,rfl,rfl⟩
 |i::r=>by
  obtain⟨h1,h2,h3⟩:=jbM r;refine⟨?_,?_,?_⟩
  ·show((Yen i).canLay0&&YcI (r.map .int))=true;rw[h1];rfl
  ·show max (Yen i).depth (Ybl (r.map .int))=0;rw[h2];rfl
  ·show(noB (.int i)&&noBs (r.map .int))=true;rw[h3];rfl
def jgQ:∀{l l':List Int},l.map Yen=l'.map Yen->l=l'
 |[],[],_=>rfl
 |[],_::_,h=>by cases h
 |_::_,[],h=>by cases h
 |a::l,b::l',h=>by
  have h:=Yd4 h;rw[Yen.inj h.1,jgQ h.2]
def jf4 (k k':List Int):YaI (.list (k.map .int)) (.list (k'.map .int))=decide (k=k'):=by
 by_cases h:k=k'
 ·rw[h,YcN (.list (k'.map .int)) (jbM k').1];simp
 ·cases e:YaI (.list (k.map .int)) (.list (k'.map .int))with
  |false=>simp[h]
  |true=>
   have e:=PyData.list.inj (jkH (d:=.list (k.map .int)) (e:=.list (k'.map .int)) (jbM k).2.2 (jbM k').2.2 e);exact absurd (jgQ e) h

def rInD (X:Cx)(neg:Bool):R2:=λx y H Q=>∃(p:Addr) (vs:List V) (d:PyData) (ds:List PyData),y=.ref p/\(SqL X.K H p vs\/SqT X.K H p vs)/\DV X.K H x d/\DVs X.K H vs ds/\d.canLay0=true/\d.depth<=100/\(∀e∈ds,e.canLay0=true)/\Q (.bl (if neg then !(ds.any λe=>YaI e d) else ds.any λe=>YaI e d)) H
open Classical in
noncomputable def eD (h:Heap)(d:PyData)(w:Value):Bool:=decide (∃e as,e.canLay0=true/\Reads h w e as/\YaI e d=true)
open Classical in
def joI {h:Heap}{d e:PyData}{w:Value}{as:List Addr}(r:Reads h w e as)(c:e.canLay0=true):eD h d w=YaI e d:=by
 unfold eD;cases q:YaI e d with
 |true=>exact decide_eq_true ⟨e,as,c,r,q⟩
 |false=>
  refine decide_eq_false λ⟨e',as',c',r',q'⟩=>?_;rw[SeqAt.Reads.unique e' e w as' as c' r' r,q]at q';cases q'
def jit {h:Heap}{d:PyData}:∀{us:List Value} {ds:List PyData} {as:List Addr},ReadsAll h us ds as->(∀e∈ds,e.canLay0=true)->us.any (eD h d)=(ds.any λe=>YaI e d)/\∀w∈us,∃e as,e.canLay0=true/\Reads h w e as
 |_,_,_,.nil,_=>⟨rfl,λw hw=>by simp at hw⟩
 |_,_,_,.cons r rs,c=>by
  obtain⟨h1,h2⟩:=jit (d:=d) rs λe he=>c e (Yai _ he);refine⟨by rw[Ybe,Ybe,h1,joI r (c _ Yat)],λw hw=>?_⟩
  rcases YaM.mp hw with rfl|hw
  ·exact⟨_,_,c _ Yat,r⟩
  ·exact h2 w hw
def jgP {pins:List (Addr×Obj)}{σ:St}{H:Hp}{s:Shared}{A:Around}{x:V}{u:Value}{d:PyData}{vs:List V}{ds:List PyData}{its:List Value}(hu:A.units+100<cLine)(I:Inv X pins σ H s)(rx:RelV x u)(hd:DV X.K H x d)(c:d.canLay0=true)(hp:d.depth<=100)(r:Vals vs its)(hv:DVs X.K H vs ds)(cs:∀e∈ds,e.canLay0=true) :
  (∀w,w∈its->Yev A s w u (eD s.heap d w))/\its.any (eD s.heap d)=ds.any λe=>YaI e d:=by
 obtain⟨as,ra⟩:=DVs.reads I hv r;obtain⟨bs,rb⟩:=DV.reads I hd rx;obtain⟨h1,h2⟩:=jit (d:=d) ra cs;refine⟨λw hw=>?_,h1⟩;obtain⟨e,as',ce,re⟩:=h2 w hw;rw[joI re ce];exact SeqAt.eqAt_reads _ _ A s _ _ _ _ re rb ce c (YaF (Yfy (Yah (Nat.min_le_right _ _) hp) _) hu)
def jnX {k:Nat}(hr:Room k X.A):OpR X (YaV .In) (rInD X false):=by
 intro pins s σ H x y v u Q I rx ry h;obtain⟨p,vs,d,ds,rfl,hq,hd,hv,c,hp,cs,q⟩:=h;cases ry;rcases hq with hq|hq
 ·obtain⟨its,r,pl,hz⟩:=I.list hq;obtain⟨h1,h2⟩:=jgP (A:=X.A.in1) (by have:=hr.un;rw[Ycc];omega) I rx hd c hp r hv cs
  refine Yf0 (eD s.heap d) pl.isList (λw hw=>h1 w (by simpa using hw)) ⟨.bl _,H,I,rfl,?_⟩
  rw[show its.toArray.any (eD s.heap d)=its.any (eD s.heap d) by simp,h2]
  exact q
 ·obtain⟨its,r,pl,hz⟩:=I.tuple hq;obtain⟨h1,h2⟩:=jgP (A:=X.A.in1) (by have:=hr.un;rw[Ycc];omega) I rx hd c hp r hv cs
  refine YfI (eD s.heap d) pl (λw hw=>h1 w (by simpa using hw)) ⟨.bl _,H,I,rfl,?_⟩
  rw[show its.toArray.any (eD s.heap d)=its.any (eD s.heap d) by simp,h2]
  exact q
def jhW {k:Nat}(hr:Room k X.A):OpR X (YaV .NotIn) (rInD X true):=by
 intro pins s σ H x y v u Q I rx ry h;obtain⟨p,vs,d,ds,rfl,hq,hd,hv,c,hp,cs,q⟩:=h;cases ry;rcases hq with hq|hq
 ·obtain⟨its,r,pl,hz⟩:=I.list hq;obtain⟨h1,h2⟩:=jgP (A:=X.A.in1) (by have:=hr.un;rw[Ycc];omega) I rx hd c hp r hv cs
  refine Yff (eD s.heap d) pl.isList (λw hw=>h1 w (by simpa using hw)) ⟨.bl _,H,I,rfl,?_⟩
  rw[show its.toArray.any (eD s.heap d)=its.any (eD s.heap d) by simp,h2]
  exact q
 ·obtain⟨its,r,pl,hz⟩:=I.tuple hq;obtain⟨h1,h2⟩:=jgP (A:=X.A.in1) (by have:=hr.un;rw[Ycc];omega) I rx hd c hp r hv cs
  refine Ye6 (eD s.heap d) pl (λw hw=>h1 w (by simpa using hw)) ⟨.bl _,H,I,rfl,?_⟩
  rw[show its.toArray.any (eD s.heap d)=its.any (eD s.heap d) by simp,h2]
  exact q
end
section
variable {X:Cx}
def jkG (bt:Nat->Nat->Bool):∀k,argBest bt k<=k
 |0=>Yaf _
 |k+1=>by
  have:=jkG bt k;show(if bt (k+1) (argBest bt k) then k+1 else argBest bt k)<=k+1
  split<;>omega
def jf1 (val:Nat->Int):∀k j,j<=k->val j<=val (argBest (λi j=>decide (val j<val i)) k)
 |0,j,h=>by rw[show j=0 by omega];exact Yeq _
 |k+1,j,h=>by
  show val j<=val (if decide (val (argBest (λi j=>decide (val j<val i)) k)<val (k+1))=true then k+1 else argBest (λi j=>decide (val j<val i)) k)
  by_cases c:val (argBest (λi j=>decide (val j<val i)) k)<val (k+1)
  ·rw[if_pos (by simpa using c)]
   by_cases e:j=k+1
   ·rw[e];exact Yeq _
   ·have:=jf1 val k j (by omega);omega
  ·rw[if_neg (by simpa using c)]
   by_cases e:j=k+1
   ·rw[e];omega
   ·exact jf1 val k j (by omega)
def jiT (hc:X.calm=true):ja7 X (.builtin "max") (λxs H Q=>∃(p:Addr) (ns:List Int),xs=[.ref p]/\(SqL X.K H p (ns.map V.int)\/SqT X.K H p (ns.map V.int))/\ns≠[]/\∀z∈ns,(∀y∈ns,y<=z)->Q (.int z) H):=by
 intro pins s σ H xs us Q I r h;obtain⟨p,ns,rfl,hq,hn,q⟩:=h;obtain⟨u,rfl,rx⟩:=jcK r;cases rx;have hn0:0<ns.length:=List.length_pos_iff.mpr hn;have fin:∀{its:List Value} {h':Heap} {tk:Nat},Vals (ns.map V.int) its->∀v,its[argBest (λi j=>decide (ns.getD j 0<ns.getD i 0)) (its.toArray.size-1)]?=some v->(∀b o,s.heap.get? b=some o->h'.get? b=some o)->EP X pins σ Q v { s with heap:=h',toks:=tk }:=λ{its h' tk} r v hv k=>by
  have il:=r.length;rw[Yaa]at il;obtain⟨x,ex,rx⟩:=jdi r hv;rw[Yaj,<- il]at ex;have hb:=jkG (λi j=>decide (ns.getD j 0<ns.getD i 0)) (ns.length-1);obtain⟨m,hm⟩:∃m,m=argBest (λi j=>decide (ns.getD j 0<ns.getD i 0)) (ns.length-1):=⟨_,rfl⟩;rw[<- hm]at ex hb;have hml:m<ns.length:=by omega
  rw[Yal,Yab hml]at ex;have ex:=Yao ex;subst ex;refine⟨_,H,I.kept k,rx,q _ (Ybo hml) λy hy=>?_⟩;obtain⟨j,hj,rfl⟩:=YaC hy;have:=jf1 (λi=>ns.getD i 0) (ns.length-1) j (by omega)
  rw[<- hm]at this;simpa[YaS,hj,hml]using this
 have val:∀{its:List Value},Vals (ns.map V.int) its->∀i v,its[i]?=some v->∃t,v=Yds (ns.getD i 0) t:=λ{its} r i v e=>by
  obtain⟨x,ex,rx⟩:=jdi r e;rw[Yal]at ex;cases en:ns[i]? with
  |none=>rw[en]at ex;cases ex
  |some n=>
   rw[en]at ex;cases ex;obtain⟨t,rfl⟩:=rx;exact⟨t,by rw[YaH,en];rfl⟩
 have kp:∀{h':Heap} {o0:Obj},(∀b o,b∉[s.heap.objs.size]->(s.heap.push o0).get? b=some o->h'.get? b=some o)->∀b o,s.heap.get? b=some o->h'.get? b=some o:=λhk b x e=>hk b x (λhm=>by rw[List.mem_singleton.mp hm]at e;exact Ybf _ (Yaq e)) (Yae _ e)
 have bd:∀{o0:Obj},p<s.heap.objs.size->∀b∈[s.heap.objs.size,p],b<(s.heap.push o0).objs.size:=λ{o0} hlt b hb=>by
  rw[Yct];rcases YaM.mp hb with rfl|hb
  ·exact Nat.lt_succ_self _
  ·rw[List.mem_singleton.mp hb];exact YcP hlt
 rcases hq with hq|hq
 ·obtain⟨its,r,pl,hz⟩:=I.list hq;have il:=r.length;rw[Yaa]at il;have hL:=pl.isList;have hlt:p<s.heap.objs.size:=by obtain⟨_,e,_⟩:=hL;exact Yaq e
  refine call_max_walk (YcZ hL ?_);exact⟨s.heap.objs.size,[s.heap.objs.size,p],[s.heap.objs.size],its.toArray.size,_,_,_,rfl,Walks.list (A:=X.A.in1) (I.ok.hd hc) _ p (Yay hlt) its.toArray,⟨⟨_,Yas _ rfl,rfl,rfl⟩,hL.push _⟩,bd hlt,by rw[Yaj];omega,
   CmpOf.ints_gt (λi=>ns.getD i 0) (λi v e=>val r i v (by simpa using e)),λv h' tk hv hk=>fin r v (by simpa using hv) (kp hk)⟩
 ·obtain⟨its,r,pl,hz⟩:=I.tuple hq;have il:=r.length;rw[Yaa]at il;have hlt:p<s.heap.objs.size:=by obtain⟨_,e,_⟩:=pl;exact Yaq e
  refine call_max_walk (YdU pl ?_);exact⟨s.heap.objs.size,[s.heap.objs.size,p],[s.heap.objs.size],its.toArray.size,_,_,_,rfl,Walks.tuple (A:=X.A.in1) (I.ok.hd hc) _ p (Yay hlt) its.toArray,⟨⟨_,Yas _ rfl,rfl,rfl⟩,pl.push _⟩,bd hlt,by rw[Yaj];omega,
   CmpOf.ints_gt (λi=>ns.getD i 0) (λi v e=>val r i v (by simpa using e)),λv h' tk hv hk=>fin r v (by simpa using hv) (kp hk)⟩
end
end L2

namespace L2
open PySem PySem.Spec PyProof.Rows
section
variable {prog:Program}{w:World}{A:Around}{R:Result->Shared->Prop}{I:Addr}{fp wr:List Addr}{n:Nat}{P:Nat->Value->Prop}{St:Nat->Heap->Prop}
end
section
variable {prog:Program}{w:World}{A:Around}{E:Value->Shared->Prop}{s:Shared}
end

section
variable {X:Cx}
end
end L2

namespace L2
open PySem PySem.Spec PyProof.Rows PySem.SeqAt PySem.MeetsSeq
def jbW (l:Addr)(es:Array Ycj)(n:Nat)(dd:Option Addr)(sl:Array (Option Value))(b:Str)(u:Tok) :
  Meets (Builtin.«dict.__eq__» ⟨[.ref l,.str b u],[]⟩) (λ_ R s=>s.heap.get? l=some { cls:=.type "dict",dict:=dd,data:=.dict es n,slots:=sl }/\R (.ok (.ret .notImplemented)) s):=
 .of_wp λprog w A R s h=>by obtain⟨hp,g,d,tk,os⟩:=s;obtain⟨hl,h⟩:=h;have f1:=F.sub_str_dict;wp_walk using wpAny_loadPart' hl;exact⟨_,rfl,h⟩
def jbV (b:Str)(u:Tok)(l:Addr)(es:Array Ycj)(n:Nat)(dd:Option Addr)(sl:Array (Option Value)) :
  Meets (Builtin.«str.__eq__» ⟨[.str b u,.ref l],[]⟩) (λ_ R s=>s.heap.get? l=some { cls:=.type "dict",dict:=dd,data:=.dict es n,slots:=sl }/\R (.ok (.ret .notImplemented)) s):=
 .of_wp λprog w A R s h=>by obtain⟨hp,g,d,tk,os⟩:=s;obtain⟨hl,h⟩:=h;wp_walk using wpAny_loadPart' hl,wpAny_load hl;exact⟨_,rfl,h⟩
section
variable {X:Cx}
def jfP {A:Around}{s:Shared}{l:Addr}{o:Obj}{es:Array Ycj}{n:Nat}(b:Str)(u:Tok)(ho:s.heap.get? l=some o)(hc:o.cls=.type "dict")(hd:o.data=.dict es n)(hu:A.units<cLine):RcAt A s (.ref l) (.str b u) false:=λprog w E Q h=>by
 obtain⟨cls,dd,data,sl⟩:=o;simp only at hc hd;subst hc hd;exact rc_eq_decline_or (k:=false) ⟨_,ho,rfl⟩ (Yej s b u) (by decide) F.sub_str_dict F.slot_dict_eq F.slot_str_eq_refl
  (λ_ hq=>Ybx F.slot_dict_eq ⟨_,ho,rfl⟩ F.entry_dict_eq (F.args_dict_eq_2 _ _) (jbW l es n dd sl b u) ⟨ho,hq⟩)
  (λ_ hq=>Ybx F.slot_str_eq_refl (Yej s b u) F.entry_str_eq (F.args_str_eq_2 _ _) (jbV b u l es n dd sl) ⟨ho,hq⟩)
  (λ_ hq=>wpAny_of_eq (rfl:isSame (.ref l) (.str b u)=pure false) hq) (.inr hu) h
def jjh:R2:=λx y H Q=>∃a z kvs,x=.ref a/\y=.str z/\H a=some (.dK kvs)/\Q (.bl false) H
def jeH {k:Nat}(hr:Room k X.A):OpR X (YaV .Eq) jjh:=by
 intro pins s σ H x y v u Q I rx ry h;obtain⟨a,z,kvs,rfl,rfl,ha,q⟩:=h;cases rx;obtain⟨t,rfl⟩:=ry;obtain⟨_,_,vs,_,o,es,ep,ho,hx,hd,_⟩:kvs.length<=Yak/\(a==Ya1)=false/\∃vs,KV kvs vs/\s.heap.DictOf (jaj X.prog X.w) a vs:=I.hok a _ ha;exact jfP z t ho hx.1 hd (by have:=hr.un;omega) X.prog X.w X.xe _ ⟨.bl false,H,I,rfl,q⟩
end
def rSlS:V->Option Int->Option Int->Hp->VK->Prop:=λx lo hi H Q=>∃z,x=.str z/\z.length<=Yak/\Q (.str (Ye4 z lo hi)) H
section
variable {X:Cx}
def jm6:SlR X rSlS:=by
 intro pins s σ H x v vl vu lo hi sl Q I rx hs pl pu h;obtain⟨z,rfl,hz,q⟩:=h;obtain⟨t,rfl⟩:=rx;refine⟨"str",_,F.slot_str_getitem.lookup,Yej _ _ _,?_⟩;obtain⟨o,ho,hc,hd⟩:=hs;have fin:∀t' k,EP X pins σ Q (.str (Ye4 z lo hi) t') { s with toks:=k }:=λt' k=>⟨.str _,H,I.tok _,⟨_,rfl⟩,q⟩
 cases pl with
 |none=>
  cases pu with
  |none=>exact Ycr (l:=none) (u:=none) (st:=none) ⟨o,ho,hc,hd⟩ rfl (Ydr ⟨Yah (YdO z _ _) hz,fin⟩)
  |int j uj=>exact Ycr (l:=none) (u:=some (j,uj)) (st:=none) ⟨o,ho,hc,hd⟩ rfl (Ydr ⟨Yah (YdO z _ _) hz,fin⟩)
 |int i ui=>
  cases pu with
  |none=>exact Ycr (l:=some (i,ui)) (u:=none) (st:=none) ⟨o,ho,hc,hd⟩ rfl (Ydr ⟨Yah (YdO z _ _) hz,fin⟩)
  |int j uj=>exact Ycr (l:=some (i,ui)) (u:=some (j,uj)) (st:=none) ⟨o,ho,hc,hd⟩ rfl (Ydr ⟨Yah (YdO z _ _) hz,fin⟩)
def jlI:OpR X (Ybj .Add) (λx y H Q=>∃b j,x=.bl b/\y=.int j/\Q (.int ((if b=true then (1:Int) else 0)+j)) H):=by
 intro pins s σ H x y v u Q I rx ry h;obtain⟨b,j,rfl,rfl,q⟩:=h;cases rx;obtain⟨t,rfl⟩:=ry;exact PySem.IntBool.add_bool_int ⟨.int _,H,I.tok _,⟨_,rfl⟩,q⟩
def jlC:OpR X (Ybj .Sub) (λx y H Q=>(∃b j,x=.bl b/\y=.int j/\Q (.int ((if b=true then (1:Int) else 0)-j)) H)\/∃i b,x=.int i/\y=.bl b/\Q (.int (i-if b=true then (1:Int) else 0)) H):=by
 intro pins s σ H x y v u Q I rx ry h;rcases h with⟨b,j,rfl,rfl,q⟩|⟨i,b,rfl,rfl,q⟩
 ·cases rx;obtain⟨t,rfl⟩:=ry;exact PySem.IntBool.sub_bool_int ⟨.int _,H,I.tok _,⟨_,rfl⟩,q⟩
 ·cases ry;obtain⟨t,rfl⟩:=rx;exact PySem.IntBool.sub_int_bool ⟨.int _,H,I.tok _,⟨_,rfl⟩,q⟩
def jlc (K:Yac):R2:=λx y H Q=>∃a z xs,x=.ref a/\y=.str z/\(SqT K H a xs\/SqL K H a xs)/\Q (.bl false) H
def je8 {k:Nat}(hr:Room k X.A):OpR X (YaV .Eq) (jlc X.K):=by
 intro pins s σ H x y v u Q I rx ry h;obtain⟨a,z,xs,rfl,rfl,ha,q⟩:=h;cases rx;obtain⟨t,rfl⟩:=ry;have hu:X.A.units<cLine:=hr.units0;rcases ha with ha|ha
 ·obtain⟨its,rv,pa,_⟩:=I.tuple ha;exact SeqAt.RcAt.tuple_str z t (show s.heap.IsTuple a its.toArray from pa) hu X.prog X.w X.xe _ ⟨.bl false,H,I,rfl,q⟩
 ·obtain⟨its,rv,pa,_⟩:=I.list ha;exact SeqAt.RcAt.list_str z t pa.isList hu X.prog X.w X.xe _ ⟨.bl false,H,I,rfl,q⟩
end
end L2

namespace L2
open PySem PySem.Spec PyProof.Rows
open AutoSeq1 (wpAny_loadPart')
section
variable {prog:Program}{w:World}{A:Around}{E:Value->Shared->Prop}{s:Shared}
end
section
variable {X:Cx}
end
end L2

namespace L2
open PySem PySem.Spec PyProof.Rows PySem.W
structure Lies (lo:Nat)(pn:List (Addr×Obj))(H:Hp)(h:Heap)(e:Addr)(cls:Value)(dx:Option Addr):Prop where
 ob:∃oe vs,h.get? e=some oe/\oe.cls=cls/\oe.dict=dx/\oe.data=.fields vs/\
  (vs[1]?=some .none\/∃T oT ts,vs[1]?=some (.ref T)/\T≠e/\h.get? T=some oT/\oT.data=.fields ts/\ts[3]?=some .none/\H T=none/\lo<=T/\∀p∈pn,p.1≠T)
 hn:H e=none
 le:lo<=e
 pn:∀p∈pn,p.1≠e
section
variable {M:Model}{A:Around}{E:Value->Shared->Prop}{s:Shared}
def jdx {h:Heap}{a:Addr}{o:Obj}{vs:Array Value}(i:Nat)(x:Value)(ho:h.get? a=some o)(hd:o.data=.fields vs) :
  (∃o',(h.update a (YbE (·.setIfInBounds i x))).get? a=some o'/\o'.cls=o.cls/\o'.dict=o.dict/\o'.data=.fields (vs.setIfInBounds i x))/\∀b,b≠a->(h.update a (YbE (·.setIfInBounds i x))).get? b=h.get? b:=by
 have z:=Obj.data_mapFields hd (·.setIfInBounds i x);refine⟨⟨_,Yc9 _ ho (Yfb z),Obj.cls_mapFields _ _,?_,z⟩,λb hb=>YcY _ _ (Ne.symm hb)⟩;unfold YbE;split<;>rfl
def jgU {base:Heap}{env:Env}{outer:List Env}{L e:Addr}{oe:Obj}{vs:Array Value}{head:Value}{had:Bool}{Q:Unit->Shared->Prop}
  (hfr:A.frames=some (env::outer)) (hl:s.heap.FunFrames base (env::outer)) (hf:env.frame=some L) (he:s.heap.get? e=some oe) (hd:oe.data=.fields vs) (hsz:1<vs.size)
  (h:∀(h':Heap) (T:Addr) (oe' oT:Obj) (vs' ts:Array Value),(∀b o,b∉frs (env::outer)->b≠e->s.heap.get? b=some o->h'.get? b=some o)->(∀b o,b∈frs (env::outer)->b≠e->s.heap.get? b=some o->∃sl,h'.get? b=some { o with slots:=sl })->
   s.heap.objs.size<=T->h'.get? e=some oe'->oe'.cls=oe.cls->oe'.dict=oe.dict->oe'.data=.fields vs'->vs'[1]?=some (.ref T)->h'.get? T=some oT->oT.data=.fields ts->ts[3]?=some .none->Q () { s with heap:=h' }) :
  wpAny M A (do let a <- frameOf env;let pl <- entryPlaceOf L had;let b <- EntryCells.newEntry head a .none (rawInt L) .none pl;setField (.ref e) 1 b) (λ_ s'=>wpAny M A (setFlight (.ref e) none) Q E s') E s:=by
 have out:e∉frs (env::outer):=λm=>by
  rcases hl.mem m with⟨-,o,ho,no⟩;exact no vs (by rw[<- hd,Yao (he.symm.trans ho)])
 refine Yag (wpAny_frameOf_fun hfr hl hf λh1 fs=>Yag (wpAny_entryPlaceOf λpl hpl=>Yag (Ya6 ?_ (hpl.sizeOk5 _ _ _ _ _))));have n3:3<([head,.ref L,.none,rawInt L,.none]++(if pl.isEmpty then Yad 6 YaU else pl)).toArray.size:=by
  rw[Yaj,YaD];exact Nat.lt_add_right _ (Nat.lt_of_sub_pos (Nat.zero_lt_succ 1))
 generalize eot:(⟨.type "traceback",none,.fields ([head,.ref L,.none,rawInt L,.none]++(if pl.isEmpty then Yad 6 YaU else pl)).toArray,#[]⟩:Obj)=ot
 have dt:ot.data=.fields ([head,.ref L,.none,rawInt L,.none]++(if pl.isEmpty then Yad 6 YaU else pl)).toArray:=by rw[<- eot]
 have g1:h1.get? e=some oe:=by rw[fs.2.1 e out,he]
 have new:=Yas h1 (Yfb dt);have ne:h1.objs.size≠e:=λz=>Ybf _ (z ▸ Yaq g1);obtain⟨⟨o2,g2,c2,d2,v2⟩,r2⟩:=jdx 1 (.ref h1.objs.size) (Yae ot g1) hd;have g2':=(r2 _ ne).trans new;obtain⟨⟨o3,g3,c3,d3,v3⟩,r3⟩:=jdx 3 .none g2' dt;refine YcU (Yae ot g1) hd hsz (Yag (Yb9 g2 v2 (YbN hsz) ?_));rw[if_pos (by rfl)]
 refine YcU g2' dt n3 ?_;have keep:∀b o,b≠e->h1.get? b=some o->_:=λb o hb g=>(r3 b (Yay (Yaq g))).trans ((r2 b hb).trans (Yae ot g));refine h _ h1.objs.size o2 o3 _ _ (λb o hb hbe g=>keep b o hbe (by rw[fs.2.1 b hb,g])) (λb o _ hbe g=>?_) (Ydf fs.1.symm) ((r3 e (Ne.symm ne)).trans g2) c2 d2 v2 (YbN hsz) g3 v3 (YbN n3)
 rcases fs.2.2 b o g with⟨sl,q⟩;exact⟨sl,keep b _ hbe q⟩
end
section
variable {X:Cx}{pins:List (Addr×Obj)}{σ:St}{H:Hp}{s:Shared}
def Inv.left {h':Heap}{ch:List Addr}(I:Inv X pins σ H s)(hH:∀b∈ch,H b=none)(hlo:∀b∈ch,X.s₀.heap.objs.size<=b)(hd:∀b∈ch,∃o vs,s.heap.get? b=some o/\o.data=.fields vs)(hp:∀b∈ch,∀p∈X.pn++pins,p.1≠b)
  (k:∀b o,b∉frs X.stack->b∉ch->s.heap.get? b=some o->h'.get? b=some o) (sl:∀b o,b∈frs X.stack->b∉ch->s.heap.get? b=some o->∃t,h'.get? b=some { o with slots:=t }):Inv X pins σ H { s with heap:=h' }:=by
 have u:Un (frs X.stack) ch H H s.heap h':=by
  refine⟨λb o e _ hb hc=>k b o hb hc e,λb o e _ hb hc=>sl b o hb hc e,λ_ _ _ n _=>n,λb o e hc=>?_,λ_ _ e=>e,λ_ _ _ e=>e,λb ps e=>⟨#[],by rw[e];simp⟩⟩
  by_cases hb:b∈frs X.stack
  ·obtain⟨t,q⟩:=sl b o hb hc e;exact⟨_,q⟩
  ·exact⟨o,k b o hb hc e⟩
 have tr:∀b u,H b=some u->b∉frs X.stack/\b∉ch:=λb u e=>⟨λz=>(by rw[I.stkFree b z]at e;cases e),λz=>(by rw[hH b z]at e;cases e)⟩
 have hok:HOk X.prog X.w H h':=λa o e=>(I.hok a o e).stay (λb v hb q=>by
  rcases hb with z|z
  ·subst z;exact k b v (tr b _ e).1 (tr b _ e).2 q
  ·exact k b v (tr b _ z).1 (tr b _ z).2 q) (λ_ q=>q) λ_ _ q=>q
 refine I.call (g':=s.gens) (d':=s.drawn) (t':=s.toks) u hok I.bare λb hb=>⟨.inr (hlo b hb),λz=>?_,λx c e z=>?_,hp b hb⟩
 ·obtain⟨o,vs,g,d⟩:=hd b hb;obtain⟨m,⟨o',_,_,ho,r⟩,_⟩:=I.loc;rw[z,ho]at g;cases g;have:=r.1;rw[this]at d;cases d
 ·obtain⟨o,vs,g,d⟩:=hd b hb;obtain⟨v,o',ho,hc⟩:=I.cell x c e;rw[z,g]at ho;cases ho;rw[d]at hc;cases hc
def joe {M:Model}{E:Value->Shared->Prop}{ea:Addr}{cls:Value}{dx:Option Addr}{Q:Unit->Shared->Prop}(I:Inv X [] σ H s)(hst:X.stack=X.env::X.outer)(hf:X.env.frame=some X.env.locals)
  (l:Lies X.s₀.heap.objs.size X.pn H s.heap ea cls dx) (q:∀h',Inv X [] σ H { s with heap:=h' }->Lies X.s₀.heap.objs.size X.pn H h' ea cls dx->Q () { s with heap:=h' }):wpAny M X.A (noteFrame (.ref ea) X.env) (λ_ s'=>wpAny M X.A (setFlight (.ref ea) none) Q E s') E s:=by
 obtain⟨oe,vs,he,hc,hdx,hd,ht⟩:=l.ob;have hfr:X.A.frames=some (X.env::X.outer):=by rw[<- hst];exact I.ok.frames
 have hl:s.heap.FunFrames X.base (X.env::X.outer):=by rw[<- hst];exact I.stack
 have pe:∀p∈X.pn++[],p.1≠ea:=λp hp=>l.pn p (by simpa using hp)
 unfold noteFrame;simp only[hf];rcases ht with h1|⟨T,oT,ts,h1,hTe,hT,hdT,h3,nT,lT,pT⟩
 ·refine Yag (Yb9 he hd h1 ?_);rw[if_neg (by decide)]
  refine jgU hfr hl hf he hd (Array.getElem?_eq_some_iff.mp h1).1 λh' T' oe' oT' vs' ts' k sl zT g1 c1 c2 c3 c4 g2 c5 c6=>?_;rw[<- hst]at k sl;have J:Inv X [] σ H { s with heap:=h' }:=I.left (ch:=[ea]) (λb hb=>by rw[List.mem_singleton.mp hb];exact l.hn) (λb hb=>by rw[List.mem_singleton.mp hb];exact l.le) (λb hb=>by rw[List.mem_singleton.mp hb];exact⟨oe,vs,he,hd⟩) (λb hb=>by rw[List.mem_singleton.mp hb];exact pe)
   (λb o hb hc e=>k b o hb (λz=>hc (by simp[z])) e) λb o hb hc e=>sl b o hb (λz=>hc (by simp[z])) e
  refine q h' J ⟨⟨oe',vs',g1,c1.trans hc,c2.trans hdx,c3,.inr ⟨T',oT',ts',c4,?_,g2,c5,c6,I.hok.fresh zT,Yah I.sz zT,λp hp z=>?_⟩⟩,l.hn,l.le,l.pn⟩
  ·exact λz=>absurd (Yaq he) (Nat.not_lt.mpr (z ▸ zT))
  ·exact absurd (Yaq (I.pin p (by simpa using hp)).1) (Nat.not_lt.mpr (z ▸ zT))
 ·have old:(YaU==rawInt X.env.locals)=false:=rfl;refine Yag (Yb9 he hd h1 ?_);rw[if_pos (by rfl)]
  refine Yag (Yb9 hT hdT h3 ?_);rw[old,if_neg Yan];refine Yag (YcU hT hdT (Array.getElem?_eq_some_iff.mp h3).1 ?_);have other:=(jdx 3 .none hT hdT).2;have I1:Inv X [] σ H { s with heap:=s.heap.update T (YbE (·.setIfInBounds 3 YaU)) }:=I.left (ch:=[T]) (λb hb=>by rw[List.mem_singleton.mp hb];exact nT) (λb hb=>by rw[List.mem_singleton.mp hb];exact lT) (λb hb=>by rw[List.mem_singleton.mp hb];exact⟨oT,ts,hT,hdT⟩) (λb hb p hp=>by rw[List.mem_singleton.mp hb];exact pT p (by simpa using hp))
   (λb o _ hc e=>(other b (by simpa using hc)).trans e) λb o _ hc e=>⟨o.slots,(other b (by simpa using hc)).trans e⟩
  have he1:=(other ea (Ne.symm hTe)).trans he;have hl1:(s.heap.update T (YbE (·.setIfInBounds 3 YaU))).FunFrames X.base (X.env::X.outer):=by rw[<- hst];exact I1.stack
  refine jgU (s:={ s with heap:=s.heap.update T (YbE (·.setIfInBounds 3 YaU)) }) hfr hl1 hf he1 hd (Array.getElem?_eq_some_iff.mp h1).1 λh' T' oe' oT' vs' ts' k sl zT g1 c1 c2 c3 c4 g2 c5 c6=>?_
  rw[<- hst]at k sl;have J:Inv X [] σ H { s with heap:=h' }:=Inv.left (s:={ s with heap:=s.heap.update T (YbE (·.setIfInBounds 3 YaU)) }) (ch:=[ea]) I1 (λb hb=>by rw[List.mem_singleton.mp hb];exact l.hn) (λb hb=>by rw[List.mem_singleton.mp hb];exact l.le) (λb hb=>by rw[List.mem_singleton.mp hb];exact⟨oe,vs,he1,hd⟩) (λb hb=>by rw[List.mem_singleton.mp hb];exact pe)
   (λb o hb hc e=>k b o hb (λz=>hc (by simp[z])) e) λb o hb hc e=>sl b o hb (λz=>hc (by simp[z])) e
  refine q h' J ⟨⟨oe',vs',g1,c1.trans hc,c2.trans hdx,c3,.inr ⟨T',oT',ts',c4,?_,g2,c5,c6,I1.hok.fresh zT,Yah I1.sz zT,λp hp z=>?_⟩⟩,l.hn,l.le,l.pn⟩
  ·exact λz=>absurd (Yaq he1) (Nat.not_lt.mpr (z ▸ zT))
  ·exact absurd (Yaq (I1.pin p (by simpa using hp)).1) (Nat.not_lt.mpr (z ▸ zT))
end
def CX1 (P:Program)(w:World):CXT:=λouter H s E e s'=>∃(ea:Addr) (H':Hp) (cls:Value) (dx:Option Addr),e=.ref ea/\s'.os=s.os/\AllBare s'.gens/\Un (frs outer) [] H H' s.heap s'.heap/\HOk P w H' s'.heap/\Lies s.heap.objs.size [] H' s'.heap ea cls dx/\E cls dx H'
section
variable {X:Cx}{pins:List (Addr×Obj)}{σ:St}{H:Hp}{s s':Shared}{e:Value}{E:XK}
def CX1.back (I:Inv X pins σ H s)(h:CX1 X.prog X.w X.stack H s E e s'):∃(ea:Addr) (H':Hp) (cls:Value) (dx:Option Addr),e=.ref ea/\Inv X pins σ H' s'/\Lies X.s₀.heap.objs.size X.pn H' s'.heap ea cls dx/\E cls dx H':=by
 obtain⟨ea,H',cls,dx,rfl,os,bare,un,hok,l,q⟩:=h;have pn:∀b,s.heap.objs.size<=b->∀p∈X.pn,p.1≠b:=λb hb p hp z=>absurd (Yaq (I.pin p (Yax _ hp)).1) (Nat.not_lt.mpr (z ▸ hb));refine⟨ea,H',cls,dx,rfl,I.call' (ch:=[]) os un hok bare (λb z=>absurd z (by simp)),⟨?_,l.hn,Yah I.sz l.le,pn ea l.le⟩,q⟩
 obtain⟨oe,vs,he,hc,hdx,hd,ht⟩:=l.ob;refine⟨oe,vs,he,hc,hdx,hd,ht.imp id ?_⟩;rintro⟨T,oT,ts,h1,h2,h3,h4,h5,h6,h7,_⟩;exact⟨T,oT,ts,h1,h2,h3,h4,h5,h6,Yah I.sz h7,pn T h7⟩
end
end L2

namespace L2
open PySem PySem.Spec PyProof.Rows PySem.W
open Builtin Builtin.ObjectAttr
section
variable {M:Model}{A:Around}{E:Value->Shared->Prop}{h:Heap}{g:Array Yd5}{d:Drawn}{t:Nat}{os:OsState}
variable {nm q:Str}{C N D:Addr}{bs bmB:List Value}{hdct:Bool}{sn:List Str}{sub:List Value}{ab:Bool}{col:Option Bool}{dd:Option Addr}{k0 k1 k2 k3 k5:Option Value}{B newId:String}{mN mD:Str->Option Value}{name:Str}
structure Two (h:Heap)(C N D:Addr)(mN mD:Str->Option Value)(bmB:List Value)(newId:String):Prop where
 cls:∃nm q bs sn sub ab col dd k0 k1 k2 k3 k5,h.get? C=some (excClassObj nm q C N bs (.ref D::bmB) true sn sub ab col dd k0 k1 k2 k3 k5 newId)
 ns:h.Ns N mN
 low:∃c0 dd cd sl,h.get? D=some { cls:=c0,dict:=dd,data:=.cls cd,slots:=sl }/\h.Ns cd.ns mD
end
section
variable {prog:Program}{w:World}{A:Around}{E:Value->Shared->Prop}{h:Heap}{g:Array Yd5}{d:Drawn}{t:Nat}{os:OsState}
variable {C N D x:Addr}{bmB:List Value}{B newId sa owner:String}{mN mD mA:Str->Option Value}{name:Str}{v:Value}
structure Reads (B:String)(bmB:List Value):Prop where
 ga:Slot B "__getattribute__" "BaseException.__getattribute__"
 mro:mroOf (.type B)=pure bmB
 no:typeLookup (.type B) "__getattr__" = pure none
 has:bmB.contains (.type "BaseException")=true
end
section
variable {X:Cx}{pins:List (Addr×Obj)}{σ:St}{H:Hp}{s:Shared}
end
section
variable {X:Cx}{H:Hp}{s:Shared}{C N D fI:Addr}{bmB:List Value}{B newId sa owner:String}{mN mD:Str->Option Value}{qual self f a f2 a2:Str}{scope:Scope}{cdv:Value}{p1 p2 p3 pos q1 q2 q3 qos:Pos}{v v2:V}
end
section
variable {M:Model}{A:Around}{E:Value->Shared->Prop}{env:Env}{C N D:Addr}{bmB:List Value}{newId:String}{mN mD:Str->Option Value}
end
end L2

namespace L2
open PySem PySem.Spec PyProof.Rows PySem.W
section
variable {M:Model}{A:Around}{E:Value->Shared->Prop}{h:Heap}{g:Array Yd5}{d:Drawn}{t:Nat}{os:OsState}
variable {nm q nm' q':Str}{C N D ND e:Addr}{bs bm bs' bm':List Value}{hdct hdct':Bool}{sn sn':List Str}{sub sub':List Value}{ab ab':Bool}{col col':Option Bool}{dd dd':Option Addr}{k0 k1 k2 k3 k5 l0 l1 l2 l3 l5:Option Value}{newId newId':String}{oe:Obj}
end
section
variable {X:Cx}{pins:List (Addr×Obj)}{σ:St}{H:Hp}{s:Shared}
end
def XL (M:Model)(A:Around)(env:Env)(R:Value->Shared->Prop):Value->Shared->Prop:=λe s'=>wpAny M A (noteFrame e env) (λ_ s''=>wpAny M A (setFlight e none) (λ_ s3=>R e s3) R s'') R s'
def jqb {M:Model}{A:Around}{env:Env}{R:Value->Shared->Prop}:Yd2 M A env (XL M A env R):=Yd2.looking
section
variable {P:Program}{w:World}{K:Yac}{mg:Str->Option Value}{base:Heap}
noncomputable abbrev cx1 (P:Program)(w:World)(K:Yac)(mg:Str->Option Value)(base:Heap)(N:List Str)(qual:Str)(scope:Scope)(f:Addr)(cd:Value)(A:Around)(outer:List Env)(s:Shared)(H:Hp)(E:XK):Cx:=
 (cxOf (CX1 P w) P w K mg base N qual scope f cd A outer s H E).wish (XL (model P w) (A.deeper (envOfC qual scope s.heap.objs.size f cd)) (envOfC qual scope s.heap.objs.size f cd) λe s'=>CX1 P w outer H s E e s')
def Fun.okX {x qual:Str}{st:Stmt}{f:Addr}{fd:Ybu}{N ps:List Str}{k:Nat}{sp:Sp}(F:Fun K x qual st f fd)(S:FnScope N ps (jah st))(len:∀vs H Q E,sp vs H Q E->vs.length=ps.length)
  (hbody:∀(cdv:Value) (A:Around) (outer:List Env) (s:Shared) (H:Hp) (vs:List V) (Q:VK) (E:XK),Room k (A.deeper (envOfC qual (jah st) s.heap.objs.size f cdv))->sp vs H Q E->
   ∃t,PSs (cx1 P w K mg base N qual (jah st) f cdv A outer s H E) (jau st) t/\t { nx:=λ_ H'=>Q .non H',rt:=Q } (start N vs) H):FnOk P w K mg base (CX1 P w) (k+1) f fd ps sp:=by
 obtain⟨oc,od,kV,doc,pm,an,cdv,ct,osl,rfl,lk,hcd⟩:=F.ex;refine jqH lk hcd S len λA outer s H vs Q E hr hsp=>?_;obtain⟨t,h,q⟩:=hbody cdv A outer s H vs Q E hr hsp;refine⟨t,λpins s1 σ H1 D I hw=>?_,q⟩;refine Ybm (h pins s1 σ H1 D (I.wish _) hw) (λ_ _ q=>q.unwish) λe s' z=>?_;show wpAny _ _ (leaving _ e) _ _ s';unfold leaving;exact Yag z
def CX1.out1 {N:List Str}{qual:Str}{scope:Scope}{f:Addr}{cd:Value}{A:Around}{outer:List Env}{s s':Shared}{H H':Hp}{E:XK}{pins:List (Addr×Obj)}{σ:St}{ea:Addr}{cls:Value}{dx:Option Addr}
  (I:Inv (cx1 P w K mg base N qual scope f cd A outer s H E) pins σ H' s') (l:Lies s.heap.objs.size [] H' s'.heap ea cls dx) (q:E cls dx H'):(cx1 P w K mg base N qual scope f cd A outer s H E).xe (.ref ea) s':=by
 have I0:Inv (cxOf (CX1 P w) P w K mg base N qual scope f cd A outer s H E) [] σ H' s':=I.unwish.pins_of λp hp=>absurd hp (by simp)
 refine joe (X:=cxOf (CX1 P w) P w K mg base N qual scope f cd A outer s H E) (E:=λe s'=>CX1 P w outer H s E e s') I0 rfl rfl l λh' J l'=>?_;exact⟨ea,H',cls,dx,rfl,J.os,J.bare,J.base,J.hok,l',q⟩
end
end L2

namespace L2
open PySem PySem.Spec PyProof.Rows PySem.W
open Builtin Builtin.ObjectAttr
noncomputable abbrev bmV:List Value:=[.type "ValueError",.type "Exception",.type "BaseException",.type "object"]
section
variable {prog:Program}{w:World}{A:Around}{E:Value->Shared->Prop}{h:Heap}{g:Array Yd5}{d:Drawn}{t:Nat}{os:OsState}
variable {C N D x:Addr}{bmB:List Value}{B newId sa owner:String}{mN mD mA:Str->Option Value}{name:Str}{v:Value}
end
noncomputable def offN:List Str:=["__setattr__", "__getattribute__", "__getattr__", "__class__", "word", "at", "row"]
structure XBase (K:Frag)(mg:Str->Option Value)(D:Addr)(mD:Str->Option Value):Prop where
 m:mg "PlanError" = some (.ref D)
 kp:keepIn K (.ref D)=true
 lk:∃q ND bs hd sn sub ab col dd k0 k1 k2 k3 k5 nid,K.lookup D=some (excClassObj "PlanError" q D ND bs bmV hd sn sub ab col dd k0 k1 k2 k3 k5 nid)/\∀h,K.In h->h.Ns ND mD
 no:∀y∈offN,mD y=none
 ni:mD "__init__" = none
structure XCls (K:Frag)(mg:Str->Option Value)(x:Str)(fs:List Str)(C:Addr):Prop where
 m:mg x=some (.ref C)
 kp:keepIn K (.ref C)=true
 ex:∃(D N fI:Addr) (mN mD:Str->Option Value),XBase K mg D mD/\(∃q bs sn sub ab col dd k0 k1 k2 k3 k5,K.lookup C=some (excClassObj x q C N bs (.ref D::bmV) true sn sub ab col dd k0 k1 k2 k3 k5 "ValueError.__new__"))/\(∀h,K.In h->h.Ns N mN)/\(∀y∈offN,mN y=none)/\
  mN "__init__" = some (.ref fI)/\∃(st:Stmt) (qual:Str) (fd:Ybu),L2.Fun K "__init__" qual st fI fd/\(∃od osl,K.lookup fI=some ⟨.type "function",od,.func fd,osl⟩)/\FnScope ("self" :: fs) ("self" :: fs) (jah st)/\Binds K fd ("self" :: fs) []/\(∀y∈(("self" : Str)::fs),(jah st).names.lookup y=some .local)/\
  ((∃f p1 p2 p3 pos,fs=[f]/\jau st=[.Assign [.Attribute (.Name "self" p1) f p2] (.Name f p3) pos])\/∃f f2 p1 p2 p3 pos q1 q2 q3 qos,fs=[f,f2]/\f≠f2/\jau st=[.Assign [.Attribute (.Name "self" p1) f p2] (.Name f p3) pos,.Assign [.Attribute (.Name "self" q1) f2 q2] (.Name f2 q3) qos])
section
variable {K:Frag}{mg:Str->Option Value}{x:Str}{fs:List Str}{C:Addr}
end
noncomputable def fldN:List Str:=["word", "at", "row"]
section
variable {K:Frag}{mg:Str->Option Value}{x:Str}{fs:List Str}{C:Addr}
structure XPin (X:Cx)(ea C dx:Addr):Prop where
 ex:∃oe vs,(ea,oe)∈X.pn/\oe.cls=.ref C/\oe.dict=some dx/\oe.data=.fields vs
end
section
variable {X:Cx}{mg:Str->Option Value}{x:Str}{fs:List Str}{C ea dx:Addr}
inductive XMany (X:Cx)(mg:Str->Option Value):List Str->List Addr->Prop
 |nil:XMany X mg [] []
 |cons {x:Str} {fs:List Str} {C:Addr} {xs:List Str} {Cs:List Addr}:XCls X.K mg x fs C->x ≠ "PlanError" -> XMany X mg xs Cs->XMany X mg (x::xs) (C::Cs)
end
end L2

namespace L2
open PySem PySem.Spec PyProof.Rows
section
variable {prog:Program}{w:World}{A:Around}{E:Value->Shared->Prop}{s:Shared}{d it:Addr}{o:Obj}{es:Array Ycj}{ep i:Nat}
end
end L2

namespace L2
open PySem PySem.Spec PyProof.Rows
section
variable {X:Cx}
end
end L2

namespace L2
open PySem PySem.Spec PyProof.Rows PySem.W
structure CloScope (N P:List Str)(sc:Scope):Prop where
 kind:sc.kind=.function
 co:sc.isCoroutine=false
 gen:sc.isGenerator=false
 nd:N.Nodup
 pre:N.take P.length=P
 par:∀x∈P,sc.names.lookup x=some .local
 nocell:∀y∈sc.names,y.2≠.cell
 frees:∀x,(x,YaR)∈sc.names->sc.names.lookup x=some .free
section
variable {P:Program}{w:World}{K:Yac}{mg:Str->Option Value}{base:Heap}
end
def jrW (o:Obj)(q:Str):Prop:=∃vs t,o.data=.fields vs/\vs[1]?=some (.str q t)
noncomputable abbrev frzC (o:Obj):HO:=.frz o (.ext λ_=>True)
def jo2 (H:Hp)(P:Addr)(pos:Pos)(q:Str):Prop:=
 H P=some (.tbl #[])\/∃c oc,H P=some (.tbl #[rawInt pos.line,rawInt pos.col,.ref c])/\H c=some (frzC oc)/\jrW oc q
def BmAt (mg:Str->Option Value)(base:Heap):Prop:=∃bm ob,mg "__builtins__" = some (.ref bm)/\bm≠Ydx/\base.get? bm=some ob/\ob.cls=.type "module" /\ ob.dict=some Ydx/\ob.data=.plain
section
variable {X:Cx}{pins:List (Addr×Obj)}{σ:St}{H:Hp}{s:Shared}
end
def jka (tb:List Addr)(H:Hp):Prop:=∀b,if b∈tb then H b=some (.tbl #[]) else H b=none\/∃o xs,H b=some (.frz o (.lst xs))
def law_callT {P:Program}{w:World}{K:Yac}{mg mb:Str->Option Value}{CX:CXT}{k:Nat}{fa a:Addr}{fd:Ybu}{x:Str}{sp:Sp}{s₁:Shared}{vs:List Value}{ns:List Int}{tb:List Addr}
  (hKl:(K.all λp=>p.2.cls != .type "list")=true) (htb:∀b∈tb,s₁.heap.get? b=some (tabObj #[])/\isCodeTable s₁.heap b/\K.lookup b=none) (hbm:BmAt mg s₁.heap)
  (KX:K.In s₁.heap) (hsys:∃o,K.lookup Ya1=some o/\o.cls=.type "dict") (hns:s₁.heap.Ns YaT mg) (hb:s₁.heap.Ns Ydx mb) (hbb:∀x:Str,x ≠ "__name__" -> mb x=Yca x) (hlim:s₁.heap.NoLimit) (hg:s₁.gens=#[])
  (ha:s₁.heap.get? a=some { cls:=.type "list",data:=.seq vs.toArray }) (hi:IntsAre vs ns) (hl:ns.length<=Yak) (hr:Room k callerA)
  (F:∀base:Heap,K.In base->base.Ns YaT mg->BmAt mg base->FnOk P w K mg base CX k fa fd [x] sp) (hbind:∀(s:Shared) (u:Value),BindsTo s fd ⟨[u],[]⟩ [(x,u)])
  (hsp:∀(H:Hp) (o:Obj),jka tb H->H a=some (.frz o (.lst (ns.map V.int)))->sp [.ref a] H (λv _=>v=.bl true) λ_ _ _=>False)
  (hCX:∀H e s',CX [] H s₁ (λ_ _ _=>False) e s'->False) :
  codeAny (model P w) callerA (.call (.ref fa) ⟨[.ref a],[]⟩) (λr s'=>r=.ok (.ret (.bool true))/\OldK s₁.heap s'.heap/\s'.os=s₁.os/\AllBare s'.gens) s₁:=by
 have ka:K.lookup a=none:=by
  cases hk:K.lookup a with
  |none=>rfl
  |some o=>
   have e:=KX a o hk;rw[ha]at e;cases e;have:=YcX.mp hKl (a,_) (mem_of_lookupK hk);simp at this
 let oa:Obj:={ cls:=.type "list",data:=.seq vs.toArray }
 have hat:a∉tb:=λz=>by
  have e:=(htb a z).1;rw[ha]at e;cases e
 obtain⟨H,hH⟩:∃H:Hp,H=λb=>if b∈tb then some (.tbl #[]) else if b=a then some (.frz oa (.lst (ns.map V.int))) else none:=⟨_,rfl⟩
 have H1:∀{b},b∈tb->H b=some (.tbl #[]):=λhb=>by rw[hH];exact if_pos hb
 have H2:H a=some (.frz oa (.lst (ns.map V.int))):=by
  rw[hH];show(if a∈tb then _ else if a=a then _ else _)=_
  rw[if_neg hat,if_pos rfl]
 have H3:∀{b},b∉tb->b≠a->H b=none:=λ{b} h1 h2=>by
  rw[hH];show(if b∈tb then _ else if b=a then _ else _)=_
  rw[if_neg h1,if_neg h2]
 clear hH;have free:∀{b:Addr} {o:Obj},s₁.heap.get? b=some o->o.cls≠.none->(∀xs n,o.data≠.seq xs n)->H b=none:=λ{b o} e h1 h2=>by
  refine H3 (λz=>?_) λz=>?_
  ·have e2:=(htb b z).1;rw[e]at e2;cases e2;exact h1 rfl
  ·rw[z,ha]at e;cases e;exact h2 _ _ rfl
 have hok:HOk P w H s₁.heap:=λb u e=>by
  by_cases h1:b∈tb
  ·rw[H1 h1]at e;cases e;exact(htb b h1).1
  ·by_cases h2:b=a
   ·subst h2;rw[H2]at e;cases e;exact⟨ha,by rw[Yaa];exact hl,vs,_,jeT hi,ha⟩
   ·rw[H3 h1 h2]at e;cases e
 have nsK:∀{b:Addr} {m:Str->Option Value},s₁.heap.Ns b m->(hidT s₁.heap H).Ns b m:=λ{b m} ⟨o,es,ep,e,d,r⟩=>by
  refine⟨o,es,ep,jeJ e (H3 (λz=>?_) λz=>?_),d,r⟩
  ·have e2:=(htb b z).1;rw[e]at e2;cases e2;cases d
  ·rw[z,ha]at e;cases e;cases d
 have hKb:K.In (hidT s₁.heap H):=λb o e=>jeJ (KX b o e) (H3 (λz=>by rw[(htb b z).2.2]at e;cases e) λz=>by rw[z,ka]at e;cases e)
 have hM:Mod K mg (hidT s₁.heap H):=⟨hKb,nsK hns,⟨mb,nsK hb,hbb⟩,let ⟨mc,h1,h2⟩:=hlim;⟨mc,nsK h1,h2⟩,hsys⟩
 have hBb:BmAt mg (hidT s₁.heap H):=by
  obtain⟨bm,ob,b1,b2,b3,b4,b5,b6⟩:=hbm;exact⟨bm,ob,b1,b2,jeJ b3 (free b3 (by rw[b4];nofun) (by rw[b6];nofun)),b4,b5,b6⟩
 have e0:Env0 P w K mg (hidT s₁.heap H) callerA [] s₁ H:=⟨rfl,hM,λb o e=>jlT e,Ydf (jiw _ _),trivial,λb hb=>(nomatch hb),hok,.of_eq hg⟩;have only:jka tb H:=λb=>by
  by_cases h1:b∈tb
  ·rw[if_pos h1];exact H1 h1
  ·rw[if_neg h1];by_cases h2:b=a
   ·subst h2;exact .inr ⟨_,_,H2⟩
   ·exact .inl (H3 h1 h2)
 refine Yeu ((F _ hKb (nsK hns) hBb).run callerA [] s₁ H ⟨[.ref a],[]⟩ [.ref a] [.ref a] _ _ hr e0 (hbind s₁ (.ref a)) (.cons rfl .nil) (hsp H oa only H2)) λr s' h=>?_
 match r,h with
 |.error e,h=>exact(hCX H e s' h).elim
 |.ok (.ret u),h=>
  obtain⟨v,H',os,bare,un,hok',r',q⟩:=h;have q':v=.bl true:=q;subst q';obtain rfl:u=Yfu true:=r';refine⟨rfl,⟨λb o e=>?_,λb o e=>un.there b o e (by simp)⟩,os,bare⟩
  by_cases h1:b∈tb
  ·obtain⟨e1,ht,_⟩:=htb b h1;rw[e]at e1;cases e1;obtain⟨more,e2⟩:=un.tbls b _ (H1 h1);exact .inr (.inl ⟨ht,rfl,#[],more,rfl,hok' b _ e2⟩)
  ·by_cases h2:b=a
   ·subst h2;obtain⟨e2,_⟩:=hok' b _ (un.frzs b _ _ H2);rw[ha]at e;cases e;exact .inl e2
   ·exact .inl (un.keep b o e (H3 h1 h2) (by intro z;exact(nomatch z)) (by simp))
def walk_ofT {l:YdL}{n k:Nat}{q:Program}{loose:List Str}{XP:(Str->Option Value)->Heap->Prop}{YP:World->Heap->Prop}{d:DefRec}{K:Params->Yac}{CX:World->CXT}{sp:World->Sp}{x:Str}{tbs:List (Str×Addr×Addr)}
  (hKl:∀w:World,((K w.params).all λp=>p.2.cls != .type "list")=true) (htb:∀(w:World),∀t∈tbs,(∃dr,(recsOf q).find? (λe=>e.name==t.1)=some dr)/\tabIn (K w.params) t.1=some (t.2.1,t.2.2)/\(K w.params).lookup t.2.2=none)
  (hn:l.most=some n) (hn2:n<=Yak) (hdf:d.params.defaults=[]) (hr:Room k callerA)
  (hY:∀(w:World) (h:Heap),YP w h->(K w.params).In h) (hsy:∀w:World,∃o,(K w.params).lookup Ya1=some o/\o.cls=.type "dict")
  (F:∀(w:World) (mg:Str->Option Value) (fa:Addr) (h:Heap),(K w.params).In h->h.Ns YaT mg->mg d.name=some (.ref fa)->
   ∃fd:Ybu,(∀(s:Shared) (u:Value),BindsTo s fd ⟨[u],[]⟩ [(x,u)])/\
    ∀base:Heap,(K w.params).In base->base.Ns YaT mg->BmAt mg base->FnOk l.prog w (K w.params) mg base (CX w) k fa fd [x] (sp w))
  (hsp:∀(w:World) (H:Hp) (o:Obj) (a:Addr) (ns:List Int),ns.length<=n->jka (tbs.map (·.2.2)) H->H a=some (.frz o (.lst (ns.map V.int)))->sp w [.ref a] H (λv _=>v=.bl true) λ_ _ _=>False)
  (hCX:∀(w:World) (H:Hp) (s:Shared) (e:Value) (s':Shared),CX w [] H s (λ_ _ _=>False) e s'->False) :
  Yf1 q loose XP YP l.row.toRowW d [] (λf vs=>Yfv f vs):=by
 refine Att.attach_call hn hdf λw s₀ s₁ mg mb fa o pm cd doc a vs ns G Y ho hd hcd hmg hobj hints hlen hg=>?_;have kx:=hY w _ Y;obtain⟨fd,hb,hF⟩:=F w mg fa _ kx G.T.g hmg;refine law_callT (tb:=tbs.map (·.2.2)) (hKl w) (λb hb=>?_) ?_ kx (hsy w) G.T.g G.T.b G.T.builtins G.T.nolimit hg hobj hints (Yah hlen hn2) hr hF hb (λH o hO hS=>hsp w H o a ns hlen hO hS) λH e s'=>hCX w H s₁ e s'
 ·obtain⟨t,ht,rfl⟩:=List.mem_map.mp hb;obtain⟨⟨dr,h1⟩,h2,h3⟩:=htb w t ht;obtain⟨c1,c2⟩:=tab_of G.T kx h1 h2;exact⟨c2,(c1.tab c2).isCodeTable,h3⟩
 ·obtain⟨bm,ob,b1,b2,b3,b4,b5,b6⟩:=G.T.bmain;exact⟨bm,ob,b1,b2,b3,b4,b5,b6⟩
end L2

namespace L2
open PySem PySem.Spec PyProof.Rows
open Sem (wp)
open AutoSeq1 (wpAny_loadPart')
section
variable {prog:Program}{w:World}{A:Around}{E:Value->Shared->Prop}{s:Shared}
def jeR {l:Addr}{items:Array Value}{Q:Value->Shared->Prop}(hL:s.heap.IsList l items)
  (h:∀h',IsEnum h' (s.heap.objs.size+1) s.heap.objs.size 0 .none->h'.IsListIter s.heap.objs.size l 0->(∀b o,s.heap.get? b=some o->h'.get? b=some o)->Q (.ref (s.heap.objs.size+1)) { s with heap:=h' }) :
  wpAny (model prog w) A (call (.type "enumerate") [.ref l]) Q E s:=by
 have at2:∀(p:Heap) (n:Nat) (o:Obj),p.objs.size=n->o.isFreed=false->(p.push o).get? n=some o:=λp n o e f=>by
  subst e;exact Yas p f
 have sz:=λo=>Yct s.heap o;refine callType_new F.called_enumerate (by decide) (Yfm _) (YfD _) (λobj=>YfR obj _) YfE (jcv (.ref l) _) ⟨λ_ _ _ _ _ q=>YcZ hL q,?_⟩
 rw[sz];have he:=at2 _ _ ⟨.type "enumerate",none,.fields #[.none,.bool false,.ref s.heap.objs.size,rawInt 0,.none,.none],#[]⟩ (sz ⟨.type "list_iterator",none,.fields #[.ref l,.int 0 0],#[]⟩) rfl;exact⟨⟨_,he,rfl⟩,h _ he ⟨_,Yae _ (at2 _ _ _ rfl rfl),rfl,rfl⟩ λb o x=>Yae _ (Yae _ x)⟩
end
section
variable {X:Cx}{pins:List (Addr×Obj)}{σ:St}{H:Hp}{s:Shared}{h':Heap}
noncomputable def Itf (K:Yac)(a:Addr):It:=
 ⟨λi H=>∃xs x,SqL K H a xs/\xs[i]?=some x,λi H y H'=>∃x p,(∀xs,SqL K H a xs->xs[i]?=some x)/\y=.ref p/\H p=none/\H'=upd H p (.tup [.int (i:Int),x]),λi H=>∃xs,SqL K H a xs/\xs.length=i⟩
def jg8 {P:Program}{w:World}{K:Yac}{elts:List Expr}{x1}{pos:Pos}(a e it:Addr)(hei:e≠it)(hae:a≠e)(hai:a≠it) :
  Turn P w K (.Tuple elts x1 pos) (Itf K a) [e,it] e (λi h=>(∃old,IsEnum h e it (i:Int) old)/\h.IsListIter it a i) where
 mem:=by simp
 obj:=λi h st b hb=>by
  obtain⟨⟨old,he⟩,o,ho,c,d⟩:=st;simp only[YaM,Yaw,or_false]at hb;rcases hb with rfl|rfl
  ·exact⟨_,he,λv z=>nomatch z⟩
  ·exact⟨o,ho,λv z=>by rw[d]at z;cases z⟩
 keep:=λi h h' st k=>by
  obtain⟨⟨old,he⟩,o,ho,r⟩:=st;exact⟨⟨old,k e (by simp) _ he⟩,o,k it (by simp) _ ho,r⟩
 item:=by
  intro X hP hw hK hc i pins s σ H E I hf st hg;subst hP hw hK;obtain⟨xs,x,hq,hx⟩:=hg;obtain⟨its,rv,p,hz⟩:=I.list hq;obtain⟨u,hu,ru⟩:=rv.get hx;obtain⟨⟨old,he⟩,hit⟩:=st;have hlt:i<its.toArray.size:=by
   have:=(List.getElem?_eq_some_iff.mp hu).1;simpa using this
  refine Yfn (YeH (A:=X.A.in1) (I.ok.hd hc) it a hai its.toArray) he ⟨hit,p.isList⟩ hlt hei (by simp;exact⟨hei,Ne.symm hae⟩) λx' h' tk hP ho hs' hT hsz hk=>?_
  refine⟨_,rfl,YeX ho λh2 he2 hs2=>?_⟩;have ex:x'=u:=by
   have:its.toArray[i]?=some u:=by simpa using hu
   exact Yao (hP.symm.trans this)
  subst ex;have hfr:H s.heap.objs.size=none:=I.hok.fresh (Yaf _);have hen:e≠s.heap.objs.size:=Yay (Yaq he);have hin:it≠s.heap.objs.size:=by obtain⟨o,ho',_⟩:=hit;exact Yay (Yaq ho')
  have I1:Inv X pins σ (upd H s.heap.objs.size (.tup [.int (i:Int),x])) { s with heap:=s.heap.push { cls:=.type "tuple",data:=.seq #[.int i tk,x'] },toks:=tk+1 }:=by
   refine I.laid (λb o y=>Yae _ y) (Yaf _) ⟨by show 2<=Yak;decide,[.int i tk,x'],.cons ⟨tk,rfl⟩ (.cons ru .nil),TupD.new _ _⟩
  have fpU:∀b,b≠s.heap.objs.size->FpOk X pins H b->FpOk X pins (upd H s.heap.objs.size (.tup [.int (i:Int),x])) b:=λb hb f=>⟨by rw[jaf hb];exact f.1,f.2⟩
  have kk:∀b o,b≠e->b≠it->(s.heap.push { cls:=.type "tuple",data:=.seq #[.int i tk,x'] }).get? b=some o->h2.get? b=some o:=λb o be bi y=>by
   have step:h'.get? b=some o:=by
    by_cases hb:b=s.heap.objs.size
    ·subst hb;rw[hT];exact(Yas s.heap (o:={ cls:=.type "tuple",data:=.seq #[.int i tk,x'] }) rfl).symm.trans y
    ·rw[YdG _ _ _ hb]at y;exact hk b o be bi y
   exact(hs2.2 b be).trans step
  have I2:Inv X pins σ (upd H s.heap.objs.size (.tup [.int (i:Int),x])) { s with heap:=h2,toks:=tk+1 }:=
   jhC (s:={ s with heap:=s.heap.push { cls:=.type "tuple",data:=.seq #[.int i tk,x'] },toks:=tk+1 }) (h':=h2) (t':=tk+1) (e:=e) (it:=it) I1 kk (fpU e hen (hf e (by simp))) (fpU it hin (hf it (by simp)))
  refine⟨.ref s.heap.objs.size,_,I2,rfl,⟨x,_,λys hy=>by rw[I.list_inj hy hq];exact hx,rfl,hfr,rfl⟩,⟨⟨_,by simpa using he2⟩,?_⟩,λb hb=>?_⟩
  ·obtain⟨o,ho',r⟩:=hs'.1;exact⟨o,(hs2.2 it (Ne.symm hei)).trans ho',r⟩
  ·simp only[YaM,Yaw,or_false]at hb;rcases hb with rfl|rfl
   ·rw[jaf hen];exact(hf _ (by simp)).1
   ·rw[jaf hin];exact(hf _ (by simp)).1
 done:=by
  intro X hP hw hK hc i pins s σ H E I hf st hg;subst hP hw hK;obtain⟨xs,hq,hx⟩:=hg;obtain⟨its,rv,p,hz⟩:=I.list hq;obtain⟨⟨old,he⟩,hit⟩:=st;have hl:its.toArray.size=i:=by rw[Yaj,<- rv.length];exact hx
  refine YfG (YeH (A:=X.A.in1) (I.ok.hd hc) it a hai its.toArray) he ⟨by rw[hl];exact hit,p.isList⟩ λh' eb=>⟨rfl,?_⟩
  obtain⟨f0,f1,f2,f3,f4,f5⟩:=hf it (by simp)
  exact I.turned (t':=s.toks) (λb o hb y=>eb b o hb y) f0 f1 f3 f4 f5
 self:=λA i s Q E st h=>by
  obtain⟨⟨old,he⟩,_⟩:=st;exact Yc0 he h
end
section
variable {X:Cx}
def jou (K:Yac)(ta:TA):TI:=λσ H R=>ta σ H λvs H1=>∃a,vs=[.ref a]/\(((∃xs,H1 a=some (.tup xs))/\R (Ite K a) H1)\/((∃xs,SqL K H1 a xs)/\R (Itf K a) H1))
def jjr {l:Expr}{ta:TA}{p pos tpos:Pos}{elts:List Expr}{x1}(hg:Gl X "enumerate")(hm:X.mg "enumerate" = none)(ha:PA X [l] ta)(hs:YaP [l] X.env=[(false,eval l X.env)]:=by rfl) :
  PI X (.Tuple elts x1 tpos) (.Call (.Name "enumerate" p) [l] [] pos) (jou X.K ta):=by
 intro pins s σ H R I h;refine Call_ (jfj I hg hm boot_enumerate (Ycp (thn (ha pos pins s σ H _ I h) λus s1 ⟨vs,H1,I1,r1,q1⟩=>?_) hs rfl));obtain⟨a,e,q⟩:=q1;subst e;obtain⟨u,rfl,rx⟩:=jcK r1;cases rx;have fp:∀b∈[s1.heap.objs.size+1,s1.heap.objs.size],FpOk X pins H1 b:=λb hb=>by
  simp only[YaM,Yaw,or_false]at hb;rcases hb with rfl|rfl
  ·exact I1.fpOk (Yeo _) (I1.hok.fresh (Yeo _))
  ·exact I1.fpOk (Yaf _) (I1.hok.fresh (Yaf _))
 rcases q with⟨⟨xs,hq⟩,q⟩|⟨⟨xs,hq⟩,q⟩
 ·obtain⟨its,rv,t,hz⟩:=I1.tuple (SqT.of hq);have hlt:a<s1.heap.objs.size:=by obtain⟨o,ho,_⟩:=t;exact Yaq ho
  exact jeQ (items:=its.toArray) t λh' he hit hk=>Yc0 he ⟨_,_,_,_,H1,rfl,I1.kept (t':=s1.toks) hk,jhE a _ _ (Nat.succ_ne_self _) (Yay (YcP hlt)) (Yay hlt),⟨⟨_,he⟩,hit⟩,fp,q⟩
 ·obtain⟨its,rv,t,hz⟩:=I1.list hq;have hlt:a<s1.heap.objs.size:=by obtain⟨o,ho,_⟩:=t.isList;exact Yaq ho
  exact jeR (items:=its.toArray) t.isList λh' he hit hk=>Yc0 he ⟨_,_,_,_,H1,rfl,I1.kept (t':=s1.toks) hk,jg8 a _ _ (Nat.succ_ne_self _) (Yay (YcP hlt)) (Yay hlt),⟨⟨_,he⟩,hit⟩,fp,q⟩
end
end L2

namespace L2
open PySem PySem.Spec PyProof.Rows
section
variable {X:Cx}
def jhX:OpR X (YaV .LtE) (λx y H Q=>∃i j,x=.str i/\y=.str j/\Q (.bl (!decide (j.cps.toList<i.cps.toList))) H):=by
 intro pins s σ H x y v u Q I rx ry h;obtain⟨i,j,rfl,rfl,q⟩:=h;obtain⟨t,rfl⟩:=rx;obtain⟨t',rfl⟩:=ry;exact PySem.P.le_str (jam I q rfl)
def jeP:ja7 X (.type "int") (λxs H Q=>∃z n,xs=[.str z]/\PySem.intText? z=some n/\z.length<=640/\Q (.int n) H):=by
 intro pins s σ H xs us Q I r h;obtain⟨z,n,rfl,h1,h2,q⟩:=h;obtain⟨u,rfl,rx⟩:=jcK r;obtain⟨t,rfl⟩:=rx;exact PySem.W.KIN.call_text h1 h2 ⟨.int n,H,I.tok _,⟨_,rfl⟩,q⟩
noncomputable def Its (x:Str):It:=⟨λi _=>i<x.cps.size,λi H y H'=>H'=H/\∃c,x.cps[i]?=some c/\y=.str ⟨#[c]⟩,λi _=>x.cps.size<=i⟩
def ji4 {P:Program}{w:World}{K:Yac}{tg:Expr}(x:Str)(t:Tok)(it:Addr):Turn P w K tg (Its x) [it] it (λi h=>h.IsStrIter it "str_ascii_iterator" x t i) where
 mem:=by simp
 obj:=λi h st b hb=>by
  obtain rfl:b=it:=by simpa using hb
  obtain⟨o,e,c,d⟩:=st;exact⟨o,e,λv z=>by rw[d]at z;cases z⟩
 keep:=λi h h' st k=>let ⟨o,e,r⟩:=st;⟨o,k it (by simp) o e,r⟩
 item:=by
  intro X hP hw hK hc i pins s σ H E I hf st hg;subst hP hw hK;obtain⟨f0,f1,f2,f3,f4,f5⟩:=hf it (by simp)
  have hg:i<x.cps.size:=hg;have hx:x.cps[i]?=some x.cps[i]:=by simp[hg]
  refine wpAny_pyNext_ascii_item st hx λh' st' sb=>?_;have I1:Inv X pins σ H { s with heap:=h',toks:=s.toks+1 }:=I.turned (t':=s.toks+1) (λb o hb e=>(sb.2 b hb).trans e) f0 f1 f3 f4 f5
  obtain⟨o,e,c,d⟩:=id st';exact⟨_,rfl,jiz (s:={ s with heap:=h',toks:=s.toks+1 }) e c d (by decide) ⟨.str ⟨#[x.cps[i]]⟩,H,I1,⟨_,rfl⟩,⟨rfl,_,hx,rfl⟩,st',λb hb=>(hf b hb).1⟩⟩
 done:=by
  intro X hP hw hK hc i pins s σ H E I hf st hg;subst hP hw hK;obtain⟨f0,f1,f2,f3,f4,f5⟩:=hf it (by simp)
  have hg:x.cps.size<=i:=hg;exact wpAny_pyNext_ascii_end (I.ok.hd hc) st (by simpa using hg) λh' eb=>⟨rfl,I.turned (t':=s.toks) (λb o hb e=>eb b o hb e) f0 f1 f3 f4 f5⟩
 self:=λ_ _ _ _ _ st h=>wpAny_pyIter_striter_ascii st h
def iStr (tl:TE):TI:=λσ H R=>tl σ H λx H1=>∃z:Str,x=.str z/\z.cps.all (·< 128)=true/\R (Its z) H1
def jnv {tg l:Expr}{tl:TE}(hl:PE X l tl):PI X tg l (iStr tl):=by
 intro pins s σ H R I h;refine thn (hl pins s σ H _ I h) λv s1 ⟨x,H1,I1,r1,z,e,ha,q⟩=>?_;subst e;obtain⟨t,rfl⟩:=r1;refine wpAny_pyIter_ascii ha ?_;refine⟨s1.heap.objs.size,[s1.heap.objs.size],_,_,H1,rfl,I1.kept (t':=s1.toks) λb o e=>Yae _ e,ji4 z t _,⟨_,Yas _ rfl,rfl,rfl⟩,λb hb=>?_,q⟩;obtain rfl:b=s1.heap.objs.size:=by simpa using hb
 exact I1.fpOk (Yaf _) (I1.hok.fresh (Yaf _))
abbrev TF:=St->Hp->(List Str->Hp->Prop)->Prop
noncomputable def cats (out:Str)(ys:List Str):Str:=ys.foldl (·++·) out
def PJ (X:Cx)(vs:List Expr)(t:TF):Prop:=
 ∀(out:Str) (pins:List (Addr×Obj)) (s:Shared) (σ:St) (H:Hp) (Q:VK),out.length+10000*vs.length<=Yak->Inv X pins σ H s->t σ H (λys H1=>Q (.str (cats out ys)) H1)->wpAny (model X.prog X.w) X.A (joinParts out (evalEach vs X.env)) (EP X pins σ Q) X.xe s
def jgW {prog:Program}{w:World}{A:Around}{E:Value->Shared->Prop}{it a:Addr}{its:Array Value}(hne:a≠it):∀(m i:Nat) (s:Shared) (Q:List Value->Shared->Prop),s.heap.IsListIter it a i->s.heap.IsList a its->i+m<=its.size->
  (∀h',h'.IsListIter it a (i+m)->YcH it s.heap h'->Q ((its.toList.drop i).take m) { s with heap:=h' })->wpAny (model prog w) A (draw (.ref it) m) Q E s
 |0,i,s,Q,hit,_,_,q=>Yar (by simpa using q s.heap hit (YcH.refl ..))
 |m+1,i,s,Q,hit,hl,hle,q=>by
  have hi:i<its.size:=by omega
  show wpAny _ _ (pyNext (.ref it) >>= _) Q E s;refine Yag (YfF hit hl (x:=its[i]) (by simp[hi]) λh1 hit1 sb1=>?_)
  refine Yag (Ybh (jgW hne m (i+1) _ _ hit1 (hl.extBut sb1.extBut hne) (by omega) λh2 hit2 sb2=>Yar ?_))
  have e:its.toList.drop i=its[i]::its.toList.drop (i+1):=by simp[Ya0,hi]
  have r:=q h2 (by rw[show i+(m+1)=i+1+m by omega];exact hit2) (sb1.trans sb2)
  rw[e,List.take_succ_cons]at r;exact r
def gLst (K:Yac)(n:Nat)(t:TGs):TG:=λv σ H Q=>∃a xs,v=.ref a/\SqL K H a xs/\xs.length=n/\t xs σ H Q
def jnz {es:List Expr}{k n:Nat}{pos:Pos}{t:TGs}(hc:X.calm=true)(h:PGs X es t)
  (hn:(Ya4 es X.env).length=n:=by rfl) (hst:(Ya4 es X.env).findIdx? (·.1)=none:=by rfl):PG X (.Tuple es k pos) (gLst X.K n t):=by
 intro pins s σ H v u Q I r hw;obtain⟨a,xs,rfl,hq,hl,hw⟩:=hw;cases r;obtain⟨its,rv,hp,hz⟩:=I.list hq;have hL:=hp.isList;have hlt:a≠s.heap.objs.size:=by obtain⟨o,ho,_⟩:=hL;exact Yay (Yaq ho)
 have sz:its.toArray.size=n:=by rw[Yaj,<- rv.length];exact hl
 rw[assign_Tuple];refine Yag (Ydb ?_);unfold unpack;rw[hn,hst];refine Yag (Ybh ?_);unfold unpackItems;refine Yag ?_;unfold notIterableAtAll;refine Yag (wpAny_specialOf hL.typeIs slot_list_iter.lookup ?_);refine Yar ?_;simp only[Ybw,if_false];refine Yag (Ybh (YcZ hL ?_));refine Yag (Ybh (jgW hlt n 0 _ _ ⟨_,Yas _ rfl,rfl,rfl⟩ (hL.push _) (by omega) λh1 hit1 sb1=>?_))
 have hall:List.take n (List.drop 0 its.toArray.toList)=its:=by
  rw[Ydk];exact YbG (by simp;rw[<- rv.length];omega)
 rw[hall];have hil:its.length=n:=by rw[<- rv.length];exact hl
 rw[if_neg (by omega)]
 have hL1:h1.IsList a its.toArray:=(hL.push _).extBut sb1.extBut hlt;refine Yag (Ybh (YfU (I.ok.hd hc) hit1 hL1 (by simp;omega) λh2 eb=>?_))
 simp only[Option.isSome_none,Ybw,if_false];refine Yar ?_;have I1:Inv X pins σ H { s with heap:=h2 }:=I.kept (t':=s.toks) λb o e=>eb b o (Yay (Yaq e)) (sb1.extBut b o (Yay (Yaq e)) (Yae _ e))
 exact h pins _ σ H xs _ Q I1 rv hw
end
end L2

namespace L2
open PySem PySem.Spec PyProof.Rows Builtin Builtin.Str
section
variable {X:Cx}
end
end L2

namespace L2
open PySem PySem.Spec PyProof.Rows
section
variable {prog:Program}{w:World}{K:Type}[DecidableEq K]{knd:KeyKind prog w K}{A:Around}{E:Value->Shared->Prop}{s:Shared}
end
section
variable {X:Cx}
end
section
variable {P:Program}{w:World}{H:Hp}{h:Heap}{a:Addr}{o:Obj}{es:Array Ycj}{ep:Nat}{kvs:List (Key×V)}
def jgR (x:jaH P w H h a (.frz o (.dK kvs)))(hd:o.data=.dict es ep):es.size=kvs.length/\∃vs,KV kvs vs/\h.DictAt (jaj P w) a vs ep:=by
 obtain⟨ho,_,_,vs,r,o',es',ep',h1,h2,h3,h4,h5,h6⟩:=x;rw[ho]at h1;cases h1;rw[hd]at h3;cases h3;have e:=h5.length;rw[YbB]at e;exact⟨e.trans r.length.symm,vs,r,o,es,ho,h2,hd,h4,h5,h6⟩
def KV.at {κ:Type}{kvs:List (κ×V)}{vs:List (κ×Value)}(r:KV kvs vs):∀{i:Nat} {p:κ×V},kvs[i]?=some p->∃v,vs[i]?=some (p.1,v)/\RelV p.2 v:=by
 induction r with
 |nil=>intro i p h;simp at h
 |@cons p q ps qs h t ih=>
  intro i p' e;cases i with
  |zero=>simp at e;subst e;exact⟨q.2,by rw[h.1];rfl,h.2⟩
  |succ j=>simp at e;simpa using ih e
noncomputable def Itv (a:Addr)(o:Obj):It:=
 ⟨λi H=>∃kvs,H a=some (.frz o (.dK kvs))/\i<kvs.length,λi H x H'=>H'=H/\∃kvs k,H a=some (.frz o (.dK kvs))/\kvs[i]?=some (k,x),λi H=>∃kvs,H a=some (.frz o (.dK kvs))/\kvs.length<=i⟩
noncomputable def Iti (a:Addr)(o:Obj):It:=
 ⟨λi H=>∃kvs,H a=some (.frz o (.dK kvs))/\i<kvs.length,λi H y H'=>∃kvs k x p,H a=some (.frz o (.dK kvs))/\kvs[i]?=some (k,x)/\y=.ref p/\H p=none/\H'=upd H p (.tup [kV k,x]),λi H=>∃kvs,H a=some (.frz o (.dK kvs))/\kvs.length<=i⟩
def jkZ {K:Yac}{tg:Expr}(a it:Addr)(o:Obj)(es:Array Ycj)(ep:Nat)(hd:o.data=.dict es ep) :
  Turn P w K tg (Itv a o) [it] it (λi h=>h.IsValIter it a i es.size ep) where
 mem:=by simp
 obj:=λi h st b hb=>by
  cases List.mem_singleton.mp hb;obtain⟨u,e,_,d⟩:=st;exact⟨u,e,λv z=>by rw[d]at z;cases z⟩
 keep:=λi h h' st k=>st.at λu e=>k it (by simp) u e
 item:=by
  intro X hP hw hK hc i pins s σ H E I hf st hg;subst hP hw hK;obtain⟨kvs,hq,hl⟩:=hg;obtain⟨hs,vs,r,da⟩:=jgR (I.hok a _ hq) hd;obtain⟨f0,f1,f2,f3,f4,f5⟩:=hf it (by simp)
  rw[hs.trans r.length]at st;have ek:kvs[i]?=some kvs[i]:=Yab hl;obtain⟨v,ev,rv⟩:=r.at ek;refine wpAny_pyNext_values_item st da ev λh' st' sb=>?_;obtain⟨u,eu,cu,du⟩:=id st';rw[<- r.length,<- hs]at st';exact⟨_,rfl,jiz (s:={ s with heap:=h' }) eu cu du (by decide) ⟨_,H,I.turned (t':=s.toks) (λb o hb e=>(sb.2 b hb).trans e) f0 f1 f3 f4 f5,rv,⟨rfl,kvs,_,hq,ek⟩,st',λb hb=>(hf b hb).1⟩⟩
 done:=by
  intro X hP hw hK hc i pins s σ H E I hf st hg;subst hP hw hK;obtain⟨kvs,hq,hl⟩:=hg;obtain⟨hs,vs,r,da⟩:=jgR (I.hok a _ hq) hd;obtain⟨f0,f1,f2,f3,f4,f5⟩:=hf it (by simp)
  rw[hs.trans r.length]at st;exact wpAny_pyNext_values_end (I.ok.hd hc) st da (Ycv (by rw[<- r.length];exact hl)) λh' eb=>⟨rfl,I.turned (t':=s.toks) (λb o hb e=>eb b o hb e) f0 f1 f3 f4 f5⟩
 self:=λ_ _ _ _ _ st q=>wpAny_pyIter_valiter st q
def jl7 {k:Key}{u:Value}(e:(jaj P w).is k u=true):RelV (kV k) u:=by
 rcases jao e with⟨i,t,rfl,rfl⟩|⟨x,t,rfl,rfl⟩
 ·exact⟨t,rfl⟩
 ·exact⟨t,rfl⟩
def jk0 {K:Yac}{elts:List Expr}{x1}{pos:Pos}(a it:Addr)(o:Obj)(es:Array Ycj)(ep:Nat)(hd:o.data=.dict es ep) :
  Turn P w K (.Tuple elts x1 pos) (Iti a o) [it] it (λi h=>∃u v,IsItemIter h it a i es.size ep u v) where
 mem:=by simp
 obj:=λi h st b hb=>by
  cases List.mem_singleton.mp hb;obtain⟨u,v,e⟩:=st;exact⟨_,e,λv z=>nomatch z⟩
 keep:=λi h h' st k=>let ⟨u,v,e⟩:=st;⟨u,v,k it (by simp) _ e⟩
 item:=by
  intro X hP hw hK hc i pins s σ H E I hf st hg;subst hP hw hK;obtain⟨kvs,hq,hl⟩:=hg;obtain⟨hs,vs,r,da⟩:=jgR (I.hok a _ hq) hd;have fi:=hf it (by simp)
  obtain⟨u0,v0,st⟩:=st;rw[hs.trans r.length]at st;have ek:kvs[i]?=some kvs[i]:=Yab hl;obtain⟨v,ev,rv⟩:=r.at ek;refine wpAny_pyNext_items_item st da ev λkey h' hk out tp sz kp=>⟨_,rfl,wpAny_letOwnedTupleGo_items out λh2 st2 sb=>?_⟩;rw[<- r.length,<- hs]at st2;have hfr:H s.heap.objs.size=none:=I.hok.fresh (Yaf _);have hin:it≠s.heap.objs.size:=Yay (Yaq st);have I1:Inv X pins σ (upd H s.heap.objs.size (.tup [kV kvs[i].1,kvs[i].2])) { s with heap:=s.heap.push { cls:=.type "tuple",data:=.seq #[key,v] },toks:=s.toks }:=by
   refine I.laid (λb o y=>Yae _ y) (Yaf _) ⟨by show 2<=Yak;decide,[key,v],.cons (jl7 hk) (.cons rv .nil),TupD.new _ _⟩
  have kk:∀b o,b≠it->(s.heap.push { cls:=.type "tuple",data:=.seq #[key,v] }).get? b=some o->h2.get? b=some o:=λb o bi y=>by
   refine(sb.2 b bi).trans ?_;by_cases hb:b=s.heap.objs.size
   ·subst hb;rw[Yas _ rfl]at y;exact tp.trans y
   ·rw[YdG _ _ _ hb]at y;exact kp b o bi y
  obtain⟨f0,f1,f2,f3,f4,f5⟩:=fi;have f0':upd H s.heap.objs.size (.tup [kV kvs[i].1,kvs[i].2]) it=none:=by rw[jaf hin];exact f0
  refine⟨.ref s.heap.objs.size,_,I1.turned (h':=h2) (t':=s.toks) kk f0' f1 f3 f4 f5,rfl,⟨kvs,_,_,_,hq,ek,rfl,hfr,rfl⟩,⟨_,_,st2⟩,λb hb=>?_⟩;cases List.mem_singleton.mp hb;exact f0'
 done:=by
  intro X hP hw hK hc i pins s σ H E I hf st hg;subst hP hw hK;obtain⟨kvs,hq,hl⟩:=hg;obtain⟨hs,vs,r,da⟩:=jgR (I.hok a _ hq) hd;obtain⟨f0,f1,f2,f3,f4,f5⟩:=hf it (by simp)
  obtain⟨u0,v0,st⟩:=st;rw[hs.trans r.length]at st;exact wpAny_pyNext_items_end (I.ok.hd hc) st da (Ycv (by rw[<- r.length];exact hl)) λh' eb=>⟨rfl,I.turned (t':=s.toks) (λb o hb e=>eb b o hb e) f0 f1 f3 f4 f5⟩
 self:=λA i s Q E st q=>by
  obtain⟨u,v,st⟩:=st;exact PySem.W.kcp_self st q
end
section
variable {X:Cx}{tg d:Expr}{tl:TE}{apos cpos:Pos}
def Held (H:Hp)(a:Addr)(kvs:List (Key×V))(R:Obj->Hp->Prop):Prop:=Rd H a (.dK kvs)/\∀o,(∀u,H a=some (.frz u (.dK kvs))->u=o)->R o (upd H a (.frz o (.dK kvs)))
def jiy {pins:List (Addr×Obj)}{s:Shared}{σ:St}{H:Hp}{a:Addr}{kvs:List (Key×V)}{R:Obj->Hp->Prop}(I:Inv X pins σ H s)(q:Held H a kvs R) :
  ∃o es ep vs,o.data=.dict es ep/\es.size=vs.length/\(a==Ya1)=false/\s.heap.DictAt (jaj X.prog X.w) a vs ep/\R o (upd H a (.frz o (.dK kvs)))/\Inv X pins σ (upd H a (.frz o (.dK kvs))) s:=by
 obtain⟨z,y,vs,r,o,es,ep,h1,h2,h3,h4,h5,h6⟩:=jft I.hok q.1;have e:=h5.length;rw[YbB]at e;have at0:s.heap.DictAt (jaj X.prog X.w) a vs ep:=⟨o,es,h1,h2,h3,h4,h5,h6⟩;rcases q.1 with g|⟨u,g⟩
 ·refine⟨o,es,ep,vs,h3,e,y,at0,q.2 o (λu z=>by rw[g]at z;cases z),?_⟩
  exact I.write (h':=s.heap) (t':=s.toks) (x:=a) (e:=a) (by rw[g];trivial) (.inl rfl) (λb u _ e=>e) ⟨o,h1⟩ ⟨h1,z,y,vs,r,o,es,ep,h1,h2,h3,h4,h5,h6⟩
 ·have hu:=(show jaH X.prog X.w H s.heap a (.frz u (.dK kvs))from I.hok a _ g).1;rw[h1]at hu;cases hu;have same:upd H a (.frz o (.dK kvs))=H:=by
   funext b;unfold upd;split
   ·rename_i z;rw[z,g]
   ·rfl
  refine⟨o,es,ep,vs,h3,e,y,at0,q.2 o (λu z=>by rw[g]at z;cases z;rfl),?_⟩
  rw[same];exact I
def iDV (tl:TE):TI:=λσ H R=>tl σ H λx H1=>∃a kvs,x=.ref a/\Held H1 a kvs λo H'=>R (Itv a o) H'
def iDI (tl:TE):TI:=λσ H R=>tl σ H λx H1=>∃a kvs,x=.ref a/\Held H1 a kvs λo H'=>R (Iti a o) H'
def jqc (hd:PE X d tl)(hbase:Yby d "values" X.env (eval d X.env)=eval d X.env:=by rfl)(hline:(apos.endLine==cpos.line)=true:=by rfl):PI X tg (.Call (.Attribute d "values" apos) [] [] cpos) (iDV tl):=by
 intro pins s σ H R I h;refine Yfo hbase hline (thn (hd pins s σ H _ I h) λv s1 ⟨x,H1,I1,r1,a,kvs,ex,q⟩=>?_);subst ex;cases r1;obtain⟨t1,t2,_⟩:=jkB I1 (.inl ⟨kvs,q.1⟩);obtain⟨o,es,ep,vs,hd,hs,y,at0,q,I2⟩:=jiy I1 q;refine⟨"dict", "dict.values",Yem,Yd8,PySem.F.type_dict_values,t1,t2,Ycn rfl (Ydj ?_)⟩;refine call_meetsIn Yd8 t1 PySem.F.entry_dict_values (PySem.F.args_dict_values_1 _) (meets_dict_values (jaj X.prog X.w) a y) ⟨⟨vs,at0.dictOf⟩,?_⟩;have I3:Inv X pins σ (upd H1 a (.frz o (.dK kvs))) { s1 with heap:=s1.heap.push { cls:=.type "dict_values",data:=.fields #[.ref a] } }:=I2.kept (t':=s1.toks) λb o e=>Yae _ e
 refine wpAny_pyIter_values (s:={ s1 with heap:=s1.heap.push { cls:=.type "dict_values",data:=.fields #[.ref a] } }) ⟨_,Yas _ rfl,rfl,rfl⟩ (at0.at' λo e=>Yae _ e) ?_
 rw[<- hs];refine⟨_,[_],_,_,_,rfl,I3.kept (t':=s1.toks) λb o e=>Yae _ e,jkZ a _ o es ep hd,⟨_,Yas _ rfl,rfl,rfl⟩,λb hb=>?_,q⟩;cases List.mem_singleton.mp hb;exact I3.fpOk (Yaf _) (I3.hok.fresh (Yaf _))
def jqd {elts:List Expr}{x1}{tpos:Pos}(hd:PE X d tl)(hbase:Yby d "items" X.env (eval d X.env)=eval d X.env:=by rfl)(hline:(apos.endLine==cpos.line)=true:=by rfl):PI X (.Tuple elts x1 tpos) (.Call (.Attribute d "items" apos) [] [] cpos) (iDI tl):=by
 intro pins s σ H R I h;refine Yfo hbase hline (thn (hd pins s σ H _ I h) λv s1 ⟨x,H1,I1,r1,a,kvs,ex,q⟩=>?_);subst ex;cases r1;obtain⟨t1,t2,_⟩:=jkB I1 (.inl ⟨kvs,q.1⟩);obtain⟨o,es,ep,vs,hd,hs,y,at0,q,I2⟩:=jiy I1 q;refine⟨"dict", "dict.items",Yem,Yel,PySem.F.type_dict_items,t1,t2,Ycn rfl (Ydj ?_)⟩;refine call_meetsIn Yel t1 PySem.F.entry_dict_items (PySem.F.args_dict_items_1 _) (meets_dict_items (jaj X.prog X.w) a y) ⟨⟨vs,at0.dictOf⟩,?_⟩;have I3:Inv X pins σ (upd H1 a (.frz o (.dK kvs))) { s1 with heap:=s1.heap.push { cls:=.type "dict_items",data:=.fields #[.ref a] } }:=I2.kept (t':=s1.toks) λb o e=>Yae _ e
 refine wpAny_pyIter_items (s:={ s1 with heap:=s1.heap.push { cls:=.type "dict_items",data:=.fields #[.ref a] } }) ⟨_,Yas _ rfl,rfl,rfl⟩ (at0.at' λo e=>Yae _ e) ?_
 rw[<- hs];refine⟨_,[_],_,_,_,rfl,I3.kept (t':=s1.toks) λb o e=>Yae _ e,jk0 a _ o es ep hd,⟨_,_,Yas _ rfl⟩,λb hb=>?_,q⟩;cases List.mem_singleton.mp hb;exact I3.fpOk (Yaf _) (I3.hok.fresh (Yaf _))
end
end L2

namespace L2
open PySem PySem.Spec PyProof.Rows
open Sem (wp)
structure Zs (h:Heap)(n a1 a2 k:Nat)(f0:Value):Prop where
 z:IsZip h (n+4) (n+2) (n+3) f0
 i:IsPair h (n+2) (.ref n) (.ref (n+1))
 o:∃p q,IsPair h (n+3) p q
 i1:h.IsTupleIter n a1 k
 i2:h.IsTupleIter (n+1) a2 k
section
variable {prog:Program}{w:World}{A:Around}{E:Value->Shared->Prop}{s:Shared}
end
section
variable {X:Cx}{pins:List (Addr×Obj)}{σ:St}{H:Hp}{s:Shared}{h':Heap}
end
end L2

namespace Z
open PySem L2
inductive U where
 |non|bl (b:Bool)|int (i:Int)|str (x:Str)|tup (xs:List U)|loc (a:Addr)|fn (n:Nat)|ty (n:String)
 |exc (c:Nat) (fs:List U)|own (n:Nat)|clo (n:Nat) (cs:List U)
inductive MO where
 |lst (xs:List U)|fro (xs:List U)|dK (kvs:List (Key×U))|dT (kvs:List (List Key×U))|frd (o:Obj) (kvs:List (List Key×U))|frk (o:Obj) (kvs:List (Key×U))
abbrev Gp:=Addr->Option MO
noncomputable def gup (G:Gp)(a:Addr)(o:MO):Gp:=λb=>if b=a then some o else G b
structure New (G:Gp)(p:Addr)(o:MO)(G':Gp):Prop where
 no:G p=none
 eq:G'=gup G p o
structure Put (G:Gp)(a:Addr)(o:MO)(G':Gp):Prop where
 eq:G'=gup G a o
structure XV where
 c:Nat
 fs:List U
abbrev Sg:=List (Option U)
abbrev K1:=U->Gp->Prop
abbrev KX:=XV->Gp->Prop
def newO (G:Gp)(o:MO)(Q:K1):Prop:=∀p G',New G p o G'->Q (.loc p) G'
def putO (G:Gp)(a:Addr)(o:MO)(Q:Gp->Prop):Prop:=∀G',Put G a o G'->Q G'
def newO.at {G:Gp}{o:MO}{Q:K1}(h:newO G o Q):∀p,G p=none->Q (.loc p) (gup G p o):=λp hp=>h p _ ⟨hp,rfl⟩
def putO.at {G:Gp}{a:Addr}{o:MO}{Q:Gp->Prop}(h:putO G a o Q):Q (gup G a o):=h _ ⟨rfl⟩
structure En where
 nx:Sg->Gp->Prop
 rt:K1
 ex:XV->Sg->Gp->Prop
noncomputable def lsG (G:Gp)(a:Addr):Option (List U):=match G a with
 |some (.lst xs)=>some xs
 |some (.fro xs)=>some xs
 |_=>none
noncomputable def kU:U->Option Key
 |.int i=>some (.inl i)
 |.str x=>some (.inr x)
 |_=>none
noncomputable def kUs:List U->Option (List Key)
 |[]=>some []
 |u::r=>match kU u,kUs r with
  |some k,some ks=>some (k::ks)
  |_,_=>none
noncomputable def Ku:Key->U
 |.inl i=>.int i
 |.inr x=>.str x
section
variable {κ α:Type}[DecidableEq κ]
noncomputable def dGet (kvs:List (κ×α))(k:κ):Option α:=(kvs.find? λkv=>decide (kv.1=k)).map (·.2)
noncomputable def dPut (kvs:List (κ×α))(k:κ)(v:α):List (κ×α):=
 if (kvs.any λkv=>decide (kv.1=k))=true then kvs.map (λkv=>if kv.1=k then (kv.1,v) else kv) else kvs++[(k,v)]
noncomputable def jd5 (more:List (κ×α)):List (κ×α):=more.foldl (λacc kv=>dPut acc kv.1 kv.2) []
end
noncomputable def cut {α:Type}(xs:List α)(lo hi:Option Int):List α:=(xs.drop (HT.sIx xs.length 0 lo)).take (HT.sIx xs.length xs.length hi-HT.sIx xs.length 0 lo)
mutual
inductive DU (G:Gp):U->PyData->Prop
 |non:DU G .non .none
 |bl (b:Bool):DU G (.bl b) (.bool b)
 |int (i:Int):DU G (.int i) (.int i)
 |str (x:Str):DU G (.str x) (.str x)
 |tup {us:List U} {ds:List PyData}:DUs G us ds->DU G (.tup us) (.tuple ds)
 |lst {a:Addr} {us:List U} {ds:List PyData}:lsG G a=some us->DUs G us ds->DU G (.loc a) (.list ds)
 |dic {a:Addr}:G a=some (.dK [])->DU G (.loc a) (.dict [])
inductive DUs (G:Gp):List U->List PyData->Prop
 |nil:DUs G [] []
 |cons {u:U} {d:PyData} {us:List U} {ds:List PyData}:DU G u d->DUs G us ds->DUs G (u::us) (d::ds)
end
def addU:U->U->Gp->K1->Prop
 |.int i,.int j,G,Q=>Q (.int (i+j)) G
 |.str x,.str y,G,Q=>x.length+y.length<=Yak/\Q (.str (x++y)) G
 |.tup xs,.tup ys,G,Q=>xs.length+ys.length<=Yak/\Q (.tup (xs++ys)) G
 |.loc a,.loc b,G,Q=>∃xs ys,G a=some (.lst xs)/\G b=some (.lst ys)/\xs.length+ys.length<=Yak/\newO G (.lst (xs++ys)) Q
 |.bl b,.int j,G,Q=>Q (.int ((if b=true then (1:Int) else 0)+j)) G
 |_,_,_,_=>False
def subU:U->U->Gp->K1->Prop
 |.int i,.int j,G,Q=>Q (.int (i-j)) G
 |.bl b,.int j,G,Q=>Q (.int ((if b=true then (1:Int) else 0)-j)) G
 |.int i,.bl b,G,Q=>Q (.int (i-if b=true then (1:Int) else 0)) G
 |_,_,_,_=>False
def mulU:U->U->Gp->K1->Prop
 |.int i,.int j,G,Q=>CMul i j/\Q (.int (i*j)) G
 |.loc a,.int k,G,Q=>∃xs,G a=some (.lst xs)/\-(2 ^ 63)<=k/\k<2 ^ 63/\xs.length*k.toNat<=Yak/\newO G (.lst (Yad k.toNat xs).flatten) Q
 |.tup xs,.int k,G,Q=>xs≠[]/\0<=k/\k<2 ^ 62/\xs.length*k.toNat<=Yak/\Q (.tup (Yad k.toNat xs).flatten) G
 |.str z,.int k,G,Q=>0<=k/\k<1000/\z.length<=1000/\Q (.str (repS z k.toNat)) G
 |_,_,_,_=>False
def jmu:U->U->Gp->K1->Prop
 |.int i,.int j,G,Q=>0<j/\j<1073741824/\Q (.int (i/j)) G
 |_,_,_,_=>False
def modU:U->U->Gp->K1->Prop
 |.int i,.int j,G,Q=>0<j/\Q (.int (i%j)) G
 |_,_,_,_=>False
def powU:U->U->Gp->K1->Prop
 |.int i,.int j,G,Q=>CPow i j/\Q (.int (i ^ j.toNat)) G
 |_,_,_,_=>False
def binU:YbU->U->U->Gp->K1->Prop
 |.Add=>addU
 |.Sub=>subU
 |.Mult=>mulU
 |.FloorDiv=>jmu
 |.Mod=>modU
 |.Pow=>powU
 |_=>λ_ _ _ _=>False
def jiv:YbU->U->U->Gp->K1->Prop
 |.Add,.int i,.int j,G,Q=>Q (.int (i+j)) G
 |.Add,.str x,.str y,G,Q=>x.length+y.length<=Yak/\Q (.str (x++y)) G
 |.Sub,.int i,.int j,G,Q=>Q (.int (i-j)) G
 |.Mult,.int i,.int j,G,Q=>CMul i j/\Q (.int (i*j)) G
 |_,_,_,_,_=>False
def negU:U->Gp->K1->Prop
 |.int i,G,Q=>Q (.int (-i)) G
 |_,_,_=>False
def Small (d:PyData):Prop:=d.canLay0=true/\d.depth<=100
noncomputable def eqU:U->U->Gp->(Bool->Prop)->Prop
 |.non,.non,_,k=>k true
 |.non,.bl _,_,k=>k false
 |.non,.int _,_,k=>k false
 |.non,.str _,_,k=>k false
 |.bl _,.non,_,k=>k false
 |.bl a,.bl b,_,k=>k (decide (a=b))
 |.bl _,.str _,_,k=>k false
 |.int _,.non,_,k=>k false
 |.int i,.int j,_,k=>k (decide (i=j))
 |.int _,.str _,_,k=>k false
 |.str _,.non,_,k=>k false
 |.str _,.bl _,_,k=>k false
 |.str _,.int _,_,k=>k false
 |.str x,.str y,_,k=>k (decide (x=y))
 |x,y,G,k=>∃d e,DU G x d/\DU G y e/\Small d/\Small e/\k (YaI d e)
def eqQ:U->U->Gp->(Bool->Prop)->Prop
 |.loc a,.str y,G,k=>(∃kvs,G a=some (.dK kvs)/\k false)\/(∃xs,G a=some (.lst xs)/\k false)\/eqU (.loc a) (.str y) G k
 |.tup xs,.tup [],_,k=>k xs.isEmpty
 |.tup _,.str _,_,k=>k false
 |x,y,G,k=>eqU x y G k
def isU:U->U->(Bool->Prop)->Prop
 |.non,.non,k=>k true
 |.bl a,.bl b,k=>k (decide (a=b))
 |.non,.bl _,k|.non,.int _,k|.non,.str _,k|.non,.tup _,k|.non,.loc _,k=>k false
 |.bl _,.non,k|.int _,.non,k|.str _,.non,k|.tup _,.non,k|.loc _,.non,k=>k false
 |.int _,.bl _,k|.str _,.bl _,k|.tup _,.bl _,k|.loc _,.bl _,k=>k false
 |_,_,_=>False
noncomputable def flat:U->Bool
 |.non|.bl _|.int _|.str _=>true
 |_=>false
noncomputable def eqF:U->U->Bool
 |.non,.non=>true
 |.bl a,.bl b=>a==b
 |.bl a,.int b=>(if a then 1 else 0)==b
 |.int a,.bl b=>a==(if b then 1 else 0)
 |.int a,.int b=>a==b
 |.str a,.str b=>a==b
 |_,_=>false
def inU:U->U->Gp->(Bool->Prop)->Prop
 |.str x,.str y,_,k=>k (!(Ycb y x 0 y.length 1).isEmpty)
 |.tup xs,.tup ys,G,k=>∃d ds,DU G (.tup xs) d/\DUs G ys ds/\Small d/\(∀e∈ds,Small e)/\k (ds.any λe=>YaI e d)
 |x,.tup ys,_,k=>flat x=true/\ys.all flat=true/\k (ys.any λy=>eqF y x)
 |x,.loc a,G,k=>match G a with
  |some (.lst ys)=>(flat x=true/\ys.all flat=true/\k (ys.any λy=>eqF y x))\/
    ∃d ds,DU G x d/\DUs G ys ds/\Small d/\(∀e∈ds,Small e)/\k (ds.any λe=>YaI e d)
  |some (.fro ys)=>flat x=true/\ys.all flat=true/\k (ys.any λy=>eqF y x)
  |some (.dK kvs)=>match kU x with
   |some y=>k (dGet kvs y).isSome
   |none=>False
  |some (.dT kvs)=>match x with
   |.tup xs=>match kUs xs with
    |some y=>k (dGet kvs y).isSome
    |none=>False
   |_=>False
  |some (.frk _ kvs)=>match kU x with
   |some y=>k (dGet kvs y).isSome
   |none=>False
  |_=>False
 |_,_,_,_=>False
def ordU:CmpOp->U->U->(Bool->Prop)->Prop
 |.Lt,.int i,.int j,k=>k (decide (i<j))
 |.LtE,.int i,.int j,k=>k (decide (i<=j))
 |.LtE,.str x,.str y,k=>k (!decide (y.cps.toList<x.cps.toList))
 |.Gt,.int i,.int j,k=>k (decide (j<i))
 |_,_,_,_=>False
def cmpU:CmpOp->U->U->Gp->(Bool->Prop)->Prop
 |.Eq,x,y,G,k=>eqQ x y G k
 |.NotEq,x,y,G,k=>eqU x y G λb=>k (!b)
 |.Is,x,y,_,k=>isU x y k
 |.IsNot,x,y,_,k=>isU x y λb=>k (!b)
 |.In,x,y,G,k=>inU x y G k
 |.NotIn,x,y,G,k=>inU x y G λb=>k (!b)
 |o,x,y,_,k=>ordU o x y k
def truU:U->Gp->(Bool->Prop)->Prop
 |.non,_,k=>k false
 |.bl b,_,k=>k b
 |.int i,_,k=>k (i != 0)
 |.str x,_,k=>x.length<=Yak/\k ((x.length:Int) != 0)
 |.tup xs,_,k=>k (!xs.isEmpty)
 |.loc a,G,k=>match G a with
  |some (.lst xs)=>k (!xs.isEmpty)
  |some (.fro xs)=>k (!xs.isEmpty)
  |some (.dK kvs)=>k (!kvs.isEmpty)
  |_=>False
 |_,_,_=>False
def ixU:U->U->Gp->K1->Prop
 |.tup xs,.int i,G,Q=>match atI xs i with
  |some u=>Q u G
  |none=>False
 |.str x,.int i,G,Q=>x.length<=Yak/\match atI x.cps.toList i with
  |some c=>Q (.str ⟨#[c]⟩) G
  |none=>False
 |.loc a,y,G,Q=>match G a with
  |some (.lst xs)=>(match y with|.int i=>(match atI xs i with|some u=>Q u G|none=>False)|_=>False)
  |some (.fro xs)=>(match y with|.int i=>(match atI xs i with|some u=>Q u G|none=>False)|_=>False)
  |some (.dK kvs)=>(match kU y with|some k=>(match dGet kvs k with|some u=>Q u G|none=>False)|none=>False)
  |some (.dT kvs)=>(match y with|.tup ys=>(match kUs ys with|some k=>(match dGet kvs k with|some u=>Q u G|none=>False)|none=>False)|_=>False)
  |some (.frk _ kvs)=>(match kU y with|some k=>(match dGet kvs k with|some u=>Q u G|none=>False)|none=>False)
  |_=>False
 |_,_,_,_=>False
def slU:U->Option Int->Option Int->Gp->K1->Prop
 |.tup xs,lo,hi,G,Q=>Q (.tup (cut xs lo hi)) G
 |.str x,lo,hi,G,Q=>x.length<=Yak/\Q (.str (Ye4 x lo hi)) G
 |.loc a,lo,hi,G,Q=>match lsG G a with
  |some xs=>newO G (.lst (cut xs lo hi)) Q
  |none=>False
 |_,_,_,_,_=>False
def revU:U->U->Gp->K1->Prop
 |.tup xs,.int i,G,Q=>i=-1/\Q (.tup xs.reverse) G
 |.loc a,.int i,G,Q=>match lsG G a with
  |some xs=>(i=1\/i=-1)/\newO G (.lst (if i=1 then xs else xs.reverse)) Q
  |none=>False
 |_,_,_,_=>False
def jqw:U->U->Gp->K1->Prop
 |.loc a,.int i,G,Q=>(match G a with
  |some (.lst xs)=>0<=i/\(match xs[i.toNat]? with|some u=>Q u G|none=>False)
  |_=>False)
 |_,_,_,_=>False
def setU:U->U->U->Gp->(Gp->Prop)->Prop
 |.loc a,y,v,G,Q=>match G a with
  |some (.lst xs)=>(match y with|.int i=>(match ixN xs.length i with|some j=>putO G a (.lst (xs.set j v)) Q|none=>False)|_=>False)
  |some (.dK kvs)=>(match kU y with|some k=>kvs.length<Yak/\putO G a (.dK (dPut kvs k v)) Q|none=>False)
  |some (.dT kvs)=>(match y with|.tup ys=>(match kUs ys with|some k=>kvs.length<Yak/\putO G a (.dT (dPut kvs k v)) Q|none=>False)|_=>False)
  |_=>False
 |_,_,_,_,_=>False
inductive Blt|len|repr|min|max|sum|all|any|sorted|int|str|isi
 deriving DecidableEq
inductive Mth|append|extend|insert|pop|reverse|index|join|get|split|setd
 deriving DecidableEq
noncomputable def jfo:List U->Option (List Int)
 |[]=>some []
 |.int i::r=>(match jfo r with|some l=>some (i::l)|none=>none)
 |_=>none
noncomputable def jpR:List U->Option (List Str)
 |[]=>some []
 |.str x::r=>(match jpR r with|some l=>some (x::l)|none=>none)
 |_=>none
noncomputable def tyN:U->Gp->Option String
 |.non,_=>some "NoneType"
 |.bl _,_=>some "bool"
 |.int _,_=>some "int"
 |.str _,_=>some "str"
 |.tup _,_=>some "tuple"
 |.loc a,G=>match G a with
  |some (.lst _)=>some "list"
  |some (.dK _)=>some "dict"
  |some (.dT _)=>some "dict"
  |_=>none
 |_,_=>none
noncomputable def isiU (x:U)(G:Gp)(t:String):Option Bool:=match tyN x G with
 |some n=>if t∈["bool", "int", "str", "list", "tuple", "dict"] then some (n==t||(n == "bool" && t == "int")) else none
 |none=>none
def lenU:List U->Gp->K1->Prop
 |[.tup xs],G,Q=>Q (.int xs.length) G
 |[.str x],G,Q=>x.length<=Yak/\Q (.int x.length) G
 |[.loc a],G,Q=>(match G a with
  |some (.lst xs)=>Q (.int xs.length) G
  |some (.fro xs)=>Q (.int xs.length) G
  |some (.dK kvs)=>Q (.int kvs.length) G
  |_=>False)
 |_,_,_=>False
def jfO:List U->Gp->K1->Prop
 |[u],G,Q=>∃d,DU G u d/\Fits 16000000 60 d/\Q (.str d.shown) G
 |_,_,_=>False
def minU:List U->Gp->K1->Prop
 |[.int i,.int j],G,Q=>Q (.int (if j<i then j else i)) G
 |_,_,_=>False
def jjQ (xs:List U)(G:Gp)(Q:K1):Prop:=match jfo xs with
 |some ns=>ns≠[]/\∀z∈ns,(∀y∈ns,y<=z)->Q (.int z) G
 |none=>False
def maxU:List U->Gp->K1->Prop
 |[.int i,.int j],G,Q=>Q (.int (if j>i then j else i)) G
 |[.loc a],G,Q=>(match G a with
  |some (.lst xs)=>jjQ xs G Q
  |_=>False)
 |[.tup xs],G,Q=>jjQ xs G Q
 |_,_,_=>False
def sumU:List U->Gp->K1->Prop
 |[.loc a],G,Q=>(match G a with
  |some (.lst xs)=>(match jfo xs with|some ns=>Q (.int ns.sum) G|none=>False)
  |_=>False)
 |_,_,_=>False
def intU:List U->Gp->K1->Prop
 |[.int i],G,Q=>Q (.int i) G
 |[.bl b],G,Q=>Q (.int (if b then 1 else 0)) G
 |[.str z],G,Q=>∃n,PySem.intText? z=some n/\z.length<=640/\Q (.int n) G
 |_,_,_=>False
def jfn:List U->Gp->K1->Prop
 |[x,.ty t],G,Q=>(match isiU x G t with|some b=>Q (.bl b) G|none=>False)
 |_,_,_=>False
def jbE:List U->Gp->K1->Prop
 |[.loc a],G,Q=>(match G a with
  |some (.lst us)=>∃ks:List (List Int),ks.Nodup/\us.length<jcP/\us.length=ks.length/\((∃ns:List Int,us=ns.map .int/\ks=ns.map λn=>[n])\/(∃as:List Addr,us=as.map .loc/\∀(i:Nat) a k,as[i]?=some a->ks[i]?=some k->G a=some (.lst (k.map .int)))\/us=ks.map (λk=>.tup (k.map .int))/\∀k∈ks,k≠[])/\
    ∀π:List Nat,π.Perm (YaK us.length)->(∀i,i+1<us.length->HT.lexLt (ks.getD (π.getD i 0) []) (ks.getD (π.getD (i+1) 0) [])=true)->newO G (.lst (π.map λi=>us.getD i .non)) Q
  |_=>False)
 |_,_,_=>False
def mkDU:U->Gp->K1->Prop
 |.loc a,G,Q=>(match G a with
  |some (.dK kvs)=>∃ns:List Int,kvs.map (·.1)=ns.map (λz=>(Sum.inl z:Key))/\newO G (.lst (ns.map .int)) Q
  |_=>False)
 |_,_,_=>False
def jpS:U->Gp->K1->Prop
 |.tup us,G,Q=>∃ns:List Int,us=ns.map .int/\ns.length<64/\∀ms:List Int,ms.Pairwise (·< ·)->(∀z,z∈ms↔z∈ns)->newO G (.lst (ms.map .int)) Q
 |_,_,_=>False
def jqs:U->Gp->K1->Prop
 |.loc a,G,Q=>(match G a with
  |some (.lst us)=>∃ks:List (List Int),(us=ks.map (λk=>U.tup (k.map .int))\/∃ns:List Int,us=ns.map .int/\ks=ns.map λn=>[n])/\(us=[]->Q .non G)/\∀u,us[joT ks]?=some u->Q u G
  |_=>False)
 |_,_,_=>False
def jqt:U->Gp->K1->Prop
 |.loc a,G,Q=>(match G a with
  |some (.lst us)=>∃ns:List Int,us=ns.map .int/\(ns=[]->Q (.int 0) G)/\∀z∈ns,(∀y∈ns,y<=z)->Q (.int z) G
  |_=>False)
 |_,_,_=>False
def bltU:Blt->List U->Gp->K1->Prop
 |.len=>lenU
 |.repr=>jfO
 |.min=>minU
 |.max=>maxU
 |.sum=>sumU
 |.all=>λ_ _ _=>False
 |.any=>λ_ _ _=>False
 |.sorted=>jbE
 |.int=>intU
 |.str=>λ_ _ _=>False
 |.isi=>jfn
def jga:U->List U->Gp->K1->Prop
 |.loc a,[v],G,Q=>(match G a with
  |some (.lst xs)=>xs.length<Yak/\putO G a (.lst (xs++[v])) (Q .non)
  |_=>False)
 |_,_,_,_=>False
def jf2:U->List U->Gp->K1->Prop
 |.loc a,[.loc b],G,Q=>(match G a,G b with
  |some (.lst xs),some (.lst ys)=>xs.length+ys.length<=Yak/\putO G a (.lst (xs++ys)) (Q .non)
  |_,_=>False)
 |_,_,_,_=>False
def jf0:U->List U->Gp->K1->Prop
 |.loc a,[.int i,v],G,Q=>(match G a with
  |some (.lst xs)=>0<=i/\i<=xs.length/\xs.length<Yak/\putO G a (.lst (xs.take i.toNat++v::xs.drop i.toNat)) (Q .non)
  |_=>False)
 |_,_,_,_=>False
def popU:U->List U->Gp->K1->Prop
 |.loc a,[],G,Q=>(match G a with
  |some (.lst xs)=>(match xs[xs.length-1]? with|some v=>putO G a (.lst xs.dropLast) (Q v)|none=>False)
  |_=>False)
 |.loc a,[.int i],G,Q=>(match G a with
  |some (.lst xs)=>-(2 ^ 63)<=i/\i<2 ^ 63/\(match YfW i xs.length with
   |some k=>(match xs[k]? with|some v=>putO G a (.lst (xs.eraseIdx k)) (Q v)|none=>False)
   |none=>False)
  |_=>False)
 |_,_,_,_=>False
def jaL:Mth->U->List U->Gp->K1->Prop
 |.append=>jga
 |.extend=>jf2
 |.insert=>jf0
 |.pop=>popU
 |.reverse=>λ_ _ _ _=>False
 |.index=>λ_ _ _ _=>False
 |.join=>λ_ _ _ _=>False
 |.get=>λ_ _ _ _=>False
 |.split=>λ_ _ _ _=>False
 |.setd=>λ_ _ _ _=>False
noncomputable def mtU:Mth->U->Gp->Option (String×String)
 |.append,x,G=>(match x with|.loc a=>(match G a with|some (.lst _)=>some ("list", "list.append")|_=>none)|_=>none)
 |.extend,x,G=>(match x with|.loc a=>(match G a with|some (.lst _)=>some ("list", "list.extend")|_=>none)|_=>none)
 |.insert,x,G=>(match x with|.loc a=>(match G a with|some (.lst _)=>some ("list", "list.insert")|_=>none)|_=>none)
 |.pop,x,G=>(match x with|.loc a=>(match G a with|some (.lst _)=>some ("list", "list.pop")|_=>none)|_=>none)
 |.reverse,_,_=>none
 |.index,_,_=>none
 |.join,_,_=>none
 |.get,_,_=>none
 |.split,_,_=>none
 |.setd,_,_=>none
noncomputable def clsA:List (Str×List Str):=[("PlanError",[]),("NoPaper",["word", "at"]),("TooMany",["word"]),("NoRing",["word"]),("NoText",["row", "word"]),("NoRow",["row"])]
noncomputable def clsN (c:Nat):Str:=(clsA.getD c ("",[])).1
noncomputable def clsF (c:Nat):List Str:=(clsA.getD c ("",[])).2
inductive HL where
 |is1 (c:Nat)|isi (cs:List Nat)|isiV|v (i:Nat)
inductive HA where
 |str (x:Str)|att (f:Str)
inductive HV where
 |cond (k:Bool) (a:Bool×HL) (as:List (Bool×HL))|one (a:HA)|bl (b:Bool)|tup (as:List HA)|lst (as:List HA)
inductive HS where
 |asg (i:Nat) (e:HV)|ifa (k:Bool) (a:Bool×HL) (as:List (Bool×HL)) (i:Nat) (e:HV)
section
variable (x:XV)
noncomputable def litH (ς:Sg):HL->Option Bool
 |.is1 c=>some (decide (x.c=c))
 |.isi cs=>some (cs.contains x.c)
 |.isiV=>some true
 |.v i=>match ς[i]? with
  |some (some (.bl b))=>some b
  |_=>none
noncomputable def lit1 (ς:Sg)(p:Bool×HL):Option Bool:=match litH x ς p.2 with
 |some b=>some (if p.1=true then !b else b)
 |none=>none
noncomputable def jmz (ς:Sg)(k:Bool):Bool×HL->List (Bool×HL)->Option Bool
 |a,[]=>lit1 x ς a
 |a,b::r=>match lit1 x ς a with
  |some t=>if t=k then jmz ς k b r else some t
  |none=>none
noncomputable def atH:HA->Option U
 |.str y=>some (.str y)
 |.att f=>((clsF x.c).zip x.fs).lookup f
noncomputable def atsH:List HA->Option (List U)
 |[]=>some []
 |a::r=>match atH x a,atsH r with
  |some u,some us=>some (u::us)
  |_,_=>none
def hvH (ς:Sg):HV->Gp->K1->Prop
 |.cond k a as,G,Q=>match jmz x ς k a as with
  |some b=>Q (.bl b) G
  |none=>False
 |.one a,G,Q=>match atH x a with
  |some u=>Q u G
  |none=>False
 |.bl b,G,Q=>Q (.bl b) G
 |.tup as,G,Q=>match atsH x as with
  |some us=>Q (.tup us) G
  |none=>False
 |.lst as,G,Q=>match atsH x as with
  |some us=>newO G (.lst us) Q
  |none=>False
def hsH:List HS->Sg->Gp->(Sg->Gp->Prop)->Prop
 |[],ς,G,k=>k ς G
 |.asg i e::r,ς,G,k=>hvH x ς e G λu G1=>hsH r (ς.set i (some u)) G1 k
 |.ifa q a as i e::r,ς,G,k=>match jmz x ς q a as with
  |some true=>hvH x ς e G λu G1=>hsH r (ς.set i (some u)) G1 k
  |some false=>hsH r ς G k
  |none=>False
end
mutual
inductive E where
 |v (i:Nat)|non|bl (b:Bool)|int (i:Int)|str (x:Str)|g (n:Nat)
 |bin (o:YbU) (a b:E)|neg (a:E)|not (a:E)|bop (k:Bool) (a:E) (es:Es)
 |cmp (o:CmpOp) (a b:E)|cmp2 (o p:CmpOp) (a b c:E)|ife (c a b:E)
 |tup (es:Es)|lst (es:Es)|dic (es:Es)|dicT
 |ix (a b:E)|sl (a:E) (lo hi:Eo)|rev (a st:E)
 |call (n:Nat) (es:Es)|app (i:Nat) (es:Es)|blt (b:Blt) (es:Es)|meth (m:Mth) (o:E) (es:Es)
 |ty (n:String)
 |lc (pick:List (Option Nat)) (t:Tg) (it:It) (ifs:Es) (e:E)|lc2 (pick:List (Option Nat)) (t:Tg) (it:It) (ifs:Es) (t2:Tg) (it2:It) (ifs2:Es) (e:E)|mkL (e:E)|mkT (e:E)|rngL (a:E)|rngT (a:E)|rngL2 (a b:E)|minD (e:E)|maxD (e:E)|mkD (e:E)|sset (e:E)|fst (es:Es)|lrp (e:E) (i:Nat) (y a b:Str) (es:Es)
inductive Eo where
 |no|so (e:E)
inductive Es where
 |nil|cons (e:E) (es:Es)
inductive Tg where
 |n (i:Nat)|t (ts:Tgs)
inductive Tgs where
 |nil|cons (t:Tg) (ts:Tgs)
inductive It where
 |e (e:E)|r1 (e:E)|r2 (a b:E)|enum (e:E)|dk (e:E)|s (e:E)|dv (e:E)|di (e:E)|zp (a b:E)
end
mutual
inductive S where
 |pass|expr (e:E)|asg (t:Tg) (e:E)|asgC (i:Nat) (e:E)|unp (ts:Tgs) (e:E)|setS (o i e:E)|par (is:List Nat) (es:Es)|aug (i:Nat) (o:YbU) (e:E)|augS (o i:E) (p:YbU) (e:E)
 |ite (c:E) (a b:Ss)|fr (t:Tg) (it:It) (b:Ss)|wh (c:E) (b:Ss)|ret (e:E)|retN
 |never|raise (c:Nat) (es:Es)|tr (b:Ss) (c:Nat) (n:Nat) (h:List HS)
inductive Ss where
 |nil|cons (s:S) (ss:Ss)
end
mutual
noncomputable def tgU:Tg->U->Sg->(Sg->Prop)->Prop
 |.n i,u,ς,k=>k (ς.set i (some u))
 |.t ts,u,ς,k=>match u with
  |.tup us=>tgsU ts us ς k
  |_=>False
noncomputable def tgsU:Tgs->List U->Sg->(Sg->Prop)->Prop
 |.nil,us,ς,k=>us=[]/\k ς
 |.cons t ts,us,ς,k=>match us with
  |[]=>False
  |u::r=>tgU t u ς λς'=>tgsU ts r ς' k
end
abbrev Cl:=Nat->List U->Gp->K1->KX->Prop
def slot (ς:Sg)(i:Nat)(k:U->Prop):Prop:=match ς[i]? with
 |some (some u)=>k u
 |_=>False
noncomputable def jb5 (pick:List (Option Nat))(ς:Sg):Sg:=pick.map λo=>o.bind λj=>(ς[j]?).join
def jea (ok:Gp->Prop)(b:U->Gp->(Option U->Gp->Prop)->Prop):List U->List U->Gp->(List U->Gp->Prop)->Prop
 |[],acc,G,k=>ok G/\k acc G
 |x::xs,acc,G,k=>ok G/\b x G λo G'=>jea ok b xs (match o with|some u=>acc++[u]|none=>acc) G' k
def jmA (ok:Gp->Prop)(b:U->List U->Gp->(List U->Gp->Prop)->Prop):List U->List U->Gp->(List U->Gp->Prop)->Prop
 |[],acc,G,k=>ok G/\k acc G
 |x::xs,acc,G,k=>ok G/\b x acc G λacc' G'=>jmA ok b xs acc' G' k
def forL (ok:Gp->Prop)(b:U->Sg->Gp->(Sg->Gp->Prop)->Prop):List U->Sg->Gp->(Sg->Gp->Prop)->Prop
 |[],ς,G,k=>ok G/\k ς G
 |x::xs,ς,G,k=>ok G/\b x ς G λς' G'=>forL ok b xs ς' G' k
noncomputable def rngU (i:Int)(n:Nat):List U:=(YaK n).map λk:Nat=>.int (i+k)
noncomputable def jeL:Nat->List U->List U
 |_,[]=>[]
 |n,u::r=>.tup [.int n,u]::jeL (n+1) r
def itU:U->Gp->(List U->(Gp->Prop)->Prop)->Prop
 |.tup xs,_,k=>k xs λ_=>True
 |.loc a,G,k=>match lsG G a with
  |some xs=>k xs λG'=>lsG G' a=some xs
  |none=>False
 |_,_,_=>False
def enI:U->Gp->(List U->(Gp->Prop)->Prop)->Prop
 |.tup xs,_,k=>k (jeL 0 xs) λ_=>True
 |.loc a,G,k=>match lsG G a with
  |some xs=>k (jeL 0 xs) λG'=>lsG G' a=some xs
  |none=>False
 |_,_,_=>False
def jmG:U->Gp->(List U->(Gp->Prop)->Gp->Prop)->Prop
 |.loc a,G,Q=>match G a with
  |some (.dT kvs)=>∀o G',Put G a (.frd o kvs) G'->Q (kvs.map λp=>.tup (p.1.map Ku)) (λG'=>G' a=some (.frd o kvs)) G'
  |_=>False
 |_,_,_=>False
def jdg (f:List (Key×U)->List U):U->Gp->(List U->(Gp->Prop)->Gp->Prop)->Prop
 |.loc a,G,Q=>match G a with
  |some (.dK kvs)=>∀o G',Put G a (.frk o kvs) G'->Q (f kvs) (λG'=>G' a=some (.frk o kvs)) G'
  |some (.frk o kvs)=>Q (f kvs) (λG'=>G' a=some (.frk o kvs)) G
  |_=>False
 |_,_,_=>False
noncomputable def jdn (kvs:List (Key×U)):List U:=kvs.map (·.2)
noncomputable def jc7 (kvs:List (Key×U)):List U:=kvs.map λp=>.tup [Ku p.1,p.2]
def zipU:U->U->(List U->Prop)->Prop
 |.tup xs,.tup ys,k=>k ((xs.zip ys).map λp=>.tup [p.1,p.2])
 |_,_,_=>False
def sgU:U->(List U->Prop)->Prop
 |.str z,k=>z.cps.all (·< 128)=true/\k (z.cps.toList.map λc=>.str ⟨#[c]⟩)
 |_,_=>False
def fpU:U->(Str->Prop)->Prop
 |.str z,k=>z.length<=10000/\k z
 |.int i,k=>i.natAbs.log2<1920/\k (toString i:String)
 |_,_=>False
def repU (y b:Str):U->(Str->Str->Prop)->Prop
 |.str z,k=>y.length+z.length<=Yak/\z.length+b.length<=Yak/\∀w:Str,w.length<=z.length+b.length->(∀c∈w.cps.toList,c∈z.cps.toList\/c∈b.cps.toList)->k (y++z) w
 |_,_=>False
def unpU (ts:Tgs):U->Gp->Sg->(Sg->Prop)->Prop
 |.loc a,G,ς,k=>match lsG G a with
  |some us=>tgsU ts us ς k
  |none=>False
 |_,_,_,_=>False
def glU (gs:List U)(n:Nat)(k:U->Prop):Prop:=match gs[n]? with
 |some u=>k u
 |none=>False
abbrev UE:=Sg->Gp->K1->KX->Prop
abbrev UT:=Sg->Gp->(Bool->Gp->Prop)->KX->Prop
abbrev UA:=Sg->Gp->(List U->Gp->Prop)->KX->Prop
def truT (t:UE):UT:=λς G Q X=>t ς G (λx G1=>truU x G1 λb=>Q b G1) X
noncomputable abbrev tp (t:UE):UE×UT:=(t,truT t)
noncomputable def comb:Bool->UE×UT->UE×UT->UE×UT
 |true,p,q=>(λς G Q X=>p.1 ς G (λx G1=>truU x G1 λc=>if c=true then q.1 ς G1 Q X else Q x G1) X,λς G Q X=>p.2 ς G (λc G1=>if c=true then q.2 ς G1 Q X else Q false G1) X)
 |false,p,q=>(λς G Q X=>p.1 ς G (λx G1=>truU x G1 λc=>if c=true then Q x G1 else q.1 ς G1 Q X) X,λς G Q X=>p.2 ς G (λc G1=>if c=true then Q true G1 else q.2 ς G1 Q X) X)
section
variable (gs:List U)(Δ:Cl)
mutual
noncomputable def den:E->UE×UT
 |.v i=>tp λς G Q _=>slot ς i λu=>Q u G
 |.non=>tp λ_ G Q _=>Q .non G
 |.bl b=>tp λ_ G Q _=>Q (.bl b) G
 |.int i=>tp λ_ G Q _=>Q (.int i) G
 |.str x=>tp λ_ G Q _=>Q (.str x) G
 |.g n=>tp λ_ G Q _=>glU gs n λu=>Q u G
 |.bin o a b=>tp λς G Q X=>(den a).1 ς G (λx G1=>(den b).1 ς G1 (λy G2=>binU o x y G2 Q) X) X
 |.neg a=>tp λς G Q X=>(den a).1 ς G (λx G1=>negU x G1 Q) X
 |.not a=>(λς G Q X=>(den a).1 ς G (λx G1=>truU x G1 λb=>Q (.bl (!b)) G1) X,
   λς G Q X=>(den a).2 ς G (λb G1=>Q (!b) G1) X)
 |.bop k a es=>denB k (den a) es
 |.cmp o a b=>tp λς G Q X=>(den a).1 ς G (λx G1=>(den b).1 ς G1 (λy G2=>cmpU o x y G2 λc=>Q (.bl c) G2) X) X
 |.cmp2 o p a b c=>tp λς G Q X=>(den a).1 ς G (λx G1=>(den b).1 ς G1 (λy G2=>cmpU o x y G2 λt=>if t=true then (den c).1 ς G2 (λz G3=>cmpU p y z G3 λt'=>Q (.bl t') G3) X else Q (.bl false) G2) X) X
 |.ife c a b=>(λς G Q X=>(den c).2 ς G (λt G1=>if t=true then (den a).1 ς G1 Q X else (den b).1 ς G1 Q X) X,
   λς G Q X=>(den c).2 ς G (λt G1=>if t=true then (den a).2 ς G1 Q X else (den b).2 ς G1 Q X) X)
 |.tup es=>tp λς G Q X=>ja1 es ς G (λus G1=>us.length<=Yak/\Q (.tup us) G1) X
 |.lst es=>tp λς G Q X=>ja1 es ς G (λus G1=>us.length<=Yak/\newO G1 (.lst us) Q) X
 |.dic es=>tp λς G Q X=>denD es ς G (λkvs G1=>kvs.length<=15/\newO G1 (.dK (jd5 kvs)) Q) X
 |.dicT=>tp λ_ G Q _=>newO G (.dT []) Q
 |.ix a b=>tp λς G Q X=>(den a).1 ς G (λx G1=>(den b).1 ς G1 (λy G2=>ixU x y G2 Q) X) X
 |.sl a lo hi=>tp λς G Q X=>(den a).1 ς G (λx G1=>denO lo ς G1 (λl G2=>denO hi ς G2 (λh G3=>slU x l h G3 Q) X) X) X
 |.rev a b=>tp λς G Q X=>(den a).1 ς G (λx G1=>(den b).1 ς G1 (λy G2=>revU x y G2 Q) X) X
 |.call n es=>tp λς G Q X=>ja1 es ς G (λus G1=>Δ n us G1 Q X) X
 |.app _ _=>tp λ_ _ _ _=>False
 |.blt b es=>tp λς G Q X=>ja1 es ς G (λus G1=>bltU b us G1 Q) X
 |.meth m o es=>tp λς G Q X=>(den o).1 ς G (λx G1=>match mtU m x G1 with
   |some _=>ja1 es ς G1 (λus G2=>jaL m x us G2 Q) X
   |none=>False) X
 |.ty n=>tp λ_ G Q _=>Q (.ty n) G
 |.lc pick t it ifs e=>tp λς G Q X=>denI it ς G (λxs ok G1=>xs.length<=Yak/\jea ok (λx G2 k=>tgU t x (jb5 pick ς) λτ=>denC ifs τ G2 (λb G3=>if b=true then (den e).1 τ G3 (λu G4=>k (some u) G4) (λ_ _=>False) else k none G3)) xs [] G1
   λus G5=>newO G5 (.lst us) Q) X
 |.lc2 pick t it ifs t2 it2 ifs2 e=>tp λς G Q X=>denI it ς G (λxs ok G1=>jmA ok (λx acc G2 k=>tgU t x (jb5 pick ς) λτ=>denC ifs τ G2 (λb G3=>if b=true then denI it2 τ G3 (λys ok2 G4=>acc.length+ys.length<=Yak/\jea ok2 (λy G5 k5=>tgU t2 y τ λτ'=>denC ifs2 τ' G5 (λb2 G6=>if b2=true then (den e).1 τ' G6 (λu G7=>k5 (some u) G7) (λ_ _=>False) else k5 none G6)) ys acc G4 k) (λ_ _=>False) else k acc G3)) xs [] G1
   λus G5=>newO G5 (.lst us) Q) X
 |.sset e=>tp λς G Q X=>(den e).1 ς G (λx G1=>jpS x G1 Q) X
 |.fst es=>tp λς G Q X=>denF es ς G (λzs G1=>Q (.str (L2.cats Ye5 zs)) G1) X
 |.lrp e i y _ b es=>tp λς G Q X=>(den e).1 ς G (λx G1=>slot ς i λu=>repU y b u λz w=>ja1 es ς G1 (λus G2=>(x::.str z::.str w::us).length<=Yak/\newO G2 (.lst (x::.str z::.str w::us)) Q) X) X
 |.mkD e=>tp λς G Q X=>(den e).1 ς G (λx G1=>mkDU x G1 Q) X
 |.maxD e=>tp λς G Q X=>(den e).1 ς G (λx G1=>jqt x G1 Q) X
 |.minD e=>tp λς G Q X=>(den e).1 ς G (λx G1=>jqs x G1 Q) X
 |.mkL e=>tp λς G Q X=>(den e).1 ς G (λx G1=>itU x G1 λxs _=>newO G1 (.lst xs) Q) X
 |.mkT e=>tp λς G Q X=>(den e).1 ς G (λx G1=>itU x G1 λxs _=>Q (.tup xs) G1) X
 |.rngL e=>tp λς G Q X=>(den e).1 ς G (λx G1=>match x with
   |.int j=>0<=j/\j<=1000000/\newO G1 (.lst (rngU 0 j.toNat)) Q
   |_=>False) X
 |.rngT e=>tp λς G Q X=>(den e).1 ς G (λx G1=>match x with
   |.int j=>0<=j/\j<=1000000/\Q (.tup (rngU 0 j.toNat)) G1
   |_=>False) X
 |.rngL2 a b=>tp λς G Q X=>(den a).1 ς G (λx G1=>(den b).1 ς G1 (λy G2=>match x,y with
   |.int i,.int j=>0<=i/\i<=j/\j<=1000000000/\j-i<=1000000/\newO G2 (.lst (rngU i (j-i).toNat)) Q
   |_,_=>False) X) X
noncomputable def denB (k:Bool)(p:UE×UT):Es->UE×UT
 |.nil=>p
 |.cons e es=>comb k p (denB k (den e) es)
noncomputable def denC:Es->Sg->Gp->(Bool->Gp->Prop)->Prop
 |.nil,_,G,Q=>Q true G
 |.cons e es,ς,G,Q=>(den e).2 ς G (λb G1=>if b=true then denC es ς G1 Q else Q false G1) (λ_ _=>False)
noncomputable def denO:Eo->Sg->Gp->(Option Int->Gp->Prop)->KX->Prop
 |.no,_,G,Q,_=>Q none G
 |.so e,ς,G,Q,X=>(den e).1 ς G (λx G1=>match x with|.int i=>Q (some i) G1|_=>False) X
noncomputable def ja1:Es->Sg->Gp->(List U->Gp->Prop)->KX->Prop
 |.nil,_,G,Q,_=>Q [] G
 |.cons e es,ς,G,Q,X=>(den e).1 ς G (λx G1=>ja1 es ς G1 (λxs G2=>Q (x::xs) G2) X) X
noncomputable def denF:Es->Sg->Gp->(List Str->Gp->Prop)->KX->Prop
 |.nil,_,G,Q,_=>Q [] G
 |.cons e es,ς,G,Q,X=>(den e).1 ς G (λx G1=>fpU x λz=>denF es ς G1 (λzs G2=>Q (z::zs) G2) X) X
noncomputable def denD:Es->Sg->Gp->(List (Key×U)->Gp->Prop)->KX->Prop
 |.nil,_,G,Q,_=>Q [] G
 |.cons e (.cons f es),ς,G,Q,X=>(den e).1 ς G (λx G1=>(den f).1 ς G1 (λy G2=>match kU x with
   |some k=>denD es ς G2 (λkvs G3=>Q ((k,y)::kvs) G3) X
   |none=>False) X) X
 |.cons _ .nil,_,_,_,_=>False
noncomputable def denI:It->Sg->Gp->(List U->(Gp->Prop)->Gp->Prop)->KX->Prop
 |.e e,ς,G,Q,X=>(den e).1 ς G (λx G1=>itU x G1 λxs ok=>Q xs ok G1) X
 |.r1 e,ς,G,Q,X=>(den e).1 ς G (λx G1=>match x with
   |.int j=>-(2 ^ 62)<=j/\j<2 ^ 62/\Q (rngU 0 j.toNat) (λ_=>True) G1
   |_=>False) X
 |.r2 a b,ς,G,Q,X=>(den a).1 ς G (λx G1=>(den b).1 ς G1 (λy G2=>match x,y with
   |.int i,.int j=>-(2 ^ 62)<=i/\i<2 ^ 62/\-(2 ^ 62)<=j/\j<2 ^ 62/\Q (rngU i (j-i).toNat) (λ_=>True) G2
   |_,_=>False) X) X
 |.enum e,ς,G,Q,X=>(den e).1 ς G (λx G1=>enI x G1 λxs ok=>Q xs ok G1) X
 |.dk e,ς,G,Q,X=>(den e).1 ς G (λx G1=>jmG x G1 Q) X
 |.s e,ς,G,Q,X=>(den e).1 ς G (λx G1=>sgU x λxs=>Q xs (λ_=>True) G1) X
 |.dv e,ς,G,Q,X=>(den e).1 ς G (λx G1=>jdg jdn x G1 Q) X
 |.di e,ς,G,Q,X=>(den e).1 ς G (λx G1=>jdg jc7 x G1 Q) X
 |.zp a b,ς,G,Q,X=>(den a).1 ς G (λx G1=>(den b).1 ς G1 (λy G2=>zipU x y λxs=>Q xs (λ_=>True) G2) X) X
end
def denE (e:E):UE:=(den gs Δ e).1
def denT (e:E):UT:=(den gs Δ e).2
mutual
noncomputable def denS:S->En->Sg->Gp->Prop
 |.pass,D,ς,G=>D.nx ς G
 |.expr e,D,ς,G=>denE gs Δ e ς G (λ_ G1=>D.nx ς G1) λx G1=>D.ex x ς G1
 |.asg t e,D,ς,G=>denE gs Δ e ς G (λu G1=>tgU t u ς λς'=>D.nx ς' G1) λx G1=>D.ex x ς G1
 |.asgC i e,D,ς,G=>denE gs Δ e ς G (λu G1=>D.nx (ς.set i (some u)) G1) λx G1=>D.ex x ς G1
 |.unp ts e,D,ς,G=>denE gs Δ e ς G (λu G1=>unpU ts u G1 ς λς'=>D.nx ς' G1) λx G1=>D.ex x ς G1
 |.setS o i e,D,ς,G=>denE gs Δ e ς G (λv G1=>denE gs Δ o ς G1 (λx G2=>denE gs Δ i ς G2 (λy G3=>setU x y v G3 λG4=>D.nx ς G4) λx G1=>D.ex x ς G1) λx G1=>D.ex x ς G1) λx G1=>D.ex x ς G1
 |.par is es,D,ς,G=>ja1 gs Δ es ς G (λus G1=>us.length=is.length/\D.nx ((is.zip us).foldl (λs p=>s.set p.1 (some p.2)) ς) G1) λx G1=>D.ex x ς G1
 |.aug i o e,D,ς,G=>slot ς i λx=>denE gs Δ e ς G (λy G1=>jiv o x y G1 λz G2=>D.nx (ς.set i (some z)) G2) λx G1=>D.ex x ς G1
 |.augS o i p e,D,ς,G=>denE gs Δ o ς G (λx G1=>denE gs Δ i ς G1 (λy G2=>jqw x y G2 λa G3=>denE gs Δ e ς G3 (λb G4=>jiv p a b G4 λz G5=>setU x y z G5 λG6=>D.nx ς G6) λx G1=>D.ex x ς G1) λx G1=>D.ex x ς G1) λx G1=>D.ex x ς G1
 |.ite c a b,D,ς,G=>denT gs Δ c ς G (λt G1=>if t=true then jaR a D ς G1 else jaR b D ς G1) λx G1=>D.ex x ς G1
 |.fr t it b,D,ς,G=>denI gs Δ it ς G (λxs ok G1=>forL ok (λx ς1 G2 k=>tgU t x ς1 λς2=>jaR b { D with nx:=k } ς2 G2) xs ς G1 D.nx) λx G1=>D.ex x ς G1
 |.wh c b,D,ς,G=>∃W:Nat->Sg->Gp->Prop,(∃m,W m ς G)/\∀m ς1 G1,W m ς1 G1->
   denT gs Δ c ς1 G1 (λt G2=>if t=true then jaR b { D with nx:=λς' G'=>∃m',m'<m/\W m' ς' G' } ς1 G2 else D.nx ς1 G2) λx G1=>D.ex x ς1 G1
 |.ret e,D,ς,G=>denE gs Δ e ς G D.rt λx G1=>D.ex x ς G1
 |.retN,D,_,G=>D.rt .non G
 |.never,_,_,_=>False
 |.raise c es,D,ς,G=>ja1 gs Δ es ς G (λus G1=>us.length=(clsF c).length/\D.ex ⟨c,us⟩ ς G1) λx G1=>D.ex x ς G1
 |.tr b c n h,D,ς,G=>jaR b { D with ex:=λx ς1 G1=>(c=0\/x.c=c)/\hsH x h (ς1.set n none) G1 λς2 G2=>D.nx (ς2.set n none) G2 } ς G
noncomputable def jaR:Ss->En->Sg->Gp->Prop
 |.nil,D,ς,G=>D.nx ς G
 |.cons s ss,D,ς,G=>denS s { D with nx:=λς' G'=>jaR ss D ς' G' } ς G
end
end
structure Fun where
 name:Str
 ps:List Str
 N:List Str
 body:Ss
structure Nst where
 P:Addr
 ff:Nat
 vi:Nat
 fi:Nat
 caps:List Nat
 wi:Nat
 fni:Nat
 least:Int
 wn:Str
 fn:Str
 at':Str
structure Tab where
 funs:List Fun
 gs:List U
 gn:List Str:=[]
 cs:List Nat:=[]
 vf:List Fun:=[]
 ns:List (Nat×Nst):=[]
noncomputable def jad (n:Nat)(us:List U):Sg:=us.map some++Yad (n-us.length) none
def jab (T:Tab):Nat->Cl
 |0,_,_,_,_,_=>False
 |k+1,n,us,G,Q,X=>match (T.funs++T.vf)[n]? with
  |some d=>us.length=d.ps.length/\jaR T.gs (jab T k) d.body ⟨λ_ G'=>Q .non G',Q,λx _ G'=>X x G'⟩ (jad d.N.length us) G
  |none=>False
mutual
noncomputable def RU (K:Yac)(H:Hp):U->V->Prop
 |.non,v=>v=.non
 |.bl b,v=>v=.bl b
 |.int i,v=>v=.int i
 |.str x,v=>v=.str x
 |.tup xs,v=>∃a vs,v=.ref a/\H a=some (.tup vs)/\RUs K H xs vs
 |.loc a,v=>v=.ref a
 |.fn _,_=>False
 |.ty n,v=>v=.ty n
 |.exc _ _,_=>False
 |.own _,_=>False
 |.clo _ _,_=>False
noncomputable def RUs (K:Yac)(H:Hp):List U->List V->Prop
 |[],vs=>vs=[]
 |u::us,vs=>∃v vr,vs=v::vr/\RU K H u v/\RUs K H us vr
end
def RKs {κ:Type}(K:Yac)(H:Hp):List (κ×U)->List (κ×V)->Prop
 |[],l=>l=[]
 |(k,u)::r,l=>∃v l',l=(k,v)::l'/\RU K H u v/\RKs K H r l'
def MOk (K:Yac)(H:Hp)(a:Addr):MO->Prop
 |.lst us=>∃vs,H a=some (.lst vs)/\RUs K H us vs
 |.fro us=>∃o vs,H a=some (.frz o (.lst vs))/\RUs K H us vs
 |.dK kvs=>∃l,H a=some (.dK l)/\RKs K H kvs l
 |.dT kvs=>∃l,H a=some (.dT l)/\RKs K H kvs l
 |.frd o kvs=>∃l,H a=some (.frz o (.dT l))/\RKs K H kvs l
 |.frk o kvs=>∃l,H a=some (.frz o (.dK l))/\RKs K H kvs l
noncomputable def tabs:List (Addr×Pos×Str):=[]
def jfJ (H:Hp):Prop:=∀t∈tabs,jo2 H t.1 t.2.1 t.2.2
structure HR (K:Yac)(H:Hp)(G:Gp):Prop where
 mo:∀a o,G a=some o->MOk K H a o
 tab:jfJ H
instance {K:Yac} {H:Hp} {G:Gp}:CoeFun (HR K H G) λ_=>∀a o,G a=some o->MOk K H a o:=⟨HR.mo⟩
noncomputable def noTb:HO->Bool
 |.tbl _=>false
 |_=>true
structure Fr (H:Hp)(G:Gp)(H':Hp)(G':Gp):Prop where
 go:∀a o,H a=some o->G a=none->(nt:noTb o=true:=by rfl)->H' a=some o/\G' a=none
instance {H H':Hp} {G G':Gp}:CoeFun (Fr H G H' G') λ_=>∀a o,H a=some o->G a=none->(nt:noTb o=true:=by rfl)->H' a=some o/\G' a=none:=⟨@Fr.go H G H' G'⟩
def SR (K:Yac)(H:Hp)(ς:Sg)(σ:St):Prop:=ς.length=σ.length/\∀(i:Nat) (u:U),ς[i]?=some (some u)->∃v,σ[i]?=some (some v)/\RU K H u v
section
variable {K:Yac}{H H' H1 H2:Hp}{G G' G1 G2:Gp}
def Fr.refl (H:Hp)(G:Gp):Fr H G H G:=⟨λ_ _ h g _=>⟨h,g⟩⟩
def Fr.trans (a:Fr H G H1 G1)(b:Fr H1 G1 H2 G2):Fr H G H2 G2:=⟨λc o h g nt=>let ⟨h1,g1⟩:=a c o h g nt;b c o h1 g1 nt⟩
structure TS (H H':Hp):Prop where
 tup:∀a xs,H a=some (.tup xs)->H' a=some (.tup xs)
 cod:∀a o,H a=some (frzC o)->H' a=some (frzC o)
instance:CoeFun (TS H H') λ_=>∀a xs,H a=some (.tup xs)->H' a=some (.tup xs):=⟨TS.tup⟩
def TS.trans (a:TS H H1)(b:TS H1 H2):TS H H2:=⟨λc xs h=>b.tup c xs (a.tup c xs h),λc o h=>b.cod c o (a.cod c o h)⟩
mutual
def RU.ts (t:TS H H'):∀{u:U} {v:V},RU K H u v->RU K H' u v
 |.non,_,h=>h
 |.bl _,_,h=>h
 |.int _,_,h=>h
 |.str _,_,h=>h
 |.tup xs,_,h=>by
  obtain⟨a,vs,e,q,r⟩:=h
  exact⟨a,vs,e,t _ _ q,RUs.ts t r⟩
 |.loc _,_,h=>h
 |.fn _,_,h=>h
 |.ty _,_,h=>h
 |.exc _ _,_,h=>h
 |.own _,_,h=>h
 |.clo _ _,_,h=>h
def RUs.ts (t:TS H H'):∀{us:List U} {vs:List V},RUs K H us vs->RUs K H' us vs
 |[],_,h=>h
 |_::_,_,h=>by
  obtain⟨v,vr,e,r,rs⟩:=h
  exact⟨v,vr,e,RU.ts t r,RUs.ts t rs⟩
end
def RKs.ts {κ:Type}(t:TS H H'):∀{kvs:List (κ×U)} {l:List (κ×V)},RKs K H kvs l->RKs K H' kvs l
 |[],_,h=>h
 |(_,_)::_,_,h=>by
  obtain⟨v,l',e,r,rs⟩:=h;exact⟨v,l',e,r.ts t,RKs.ts t rs⟩
def SR.ts {ς:Sg}{σ:St}(t:TS H H')(h:SR K H ς σ):SR K H' ς σ:=⟨h.1,λi u e=>let ⟨v,e1,r⟩:=h.2 i u e;⟨v,e1,r.ts t⟩⟩
def HR.tupNone (h:HR K H G){a:Addr}{xs:List V}(e:H a=some (.tup xs)):G a=none:=by
 cases q:G a with
 |none=>rfl
 |some o=>
  have m:=h a o q;cases o with
  |lst us=>obtain⟨_,e2,_⟩:=m;rw[e]at e2;cases e2
  |fro us=>obtain⟨_,_,e2,_⟩:=m;rw[e]at e2;cases e2
  |dK us=>obtain⟨_,e2,_⟩:=m;rw[e]at e2;cases e2
  |dT us=>obtain⟨_,e2,_⟩:=m;rw[e]at e2;cases e2
  |frd _ us=>obtain⟨_,e2,_⟩:=m;rw[e]at e2;cases e2
  |frk _ us=>obtain⟨_,e2,_⟩:=m;rw[e]at e2;cases e2
def HR.codNone (h:HR K H G){a:Addr}{ob:Obj}(e:H a=some (frzC ob)):G a=none:=by
 cases q:G a with
 |none=>rfl
 |some o=>
  have m:=h a o q;cases o with
  |lst us=>obtain⟨_,e2,_⟩:=m;rw[e]at e2;cases e2
  |fro us=>obtain⟨_,_,e2,_⟩:=m;rw[e]at e2;cases e2
  |dK us=>obtain⟨_,e2,_⟩:=m;rw[e]at e2;cases e2
  |dT us=>obtain⟨_,e2,_⟩:=m;rw[e]at e2;cases e2
  |frd _ us=>obtain⟨_,e2,_⟩:=m;rw[e]at e2;cases e2
  |frk _ us=>obtain⟨_,e2,_⟩:=m;rw[e]at e2;cases e2
def HR.tblNone (h:HR K H G){a:Addr}{ps:Array Value}(e:H a=some (.tbl ps)):G a=none:=by
 cases q:G a with
 |none=>rfl
 |some o=>
  have m:=h a o q;cases o with
  |lst us=>obtain⟨_,e2,_⟩:=m;rw[e]at e2;cases e2
  |fro us=>obtain⟨_,_,e2,_⟩:=m;rw[e]at e2;cases e2
  |dK us=>obtain⟨_,e2,_⟩:=m;rw[e]at e2;cases e2
  |dT us=>obtain⟨_,e2,_⟩:=m;rw[e]at e2;cases e2
  |frd _ us=>obtain⟨_,e2,_⟩:=m;rw[e]at e2;cases e2
  |frk _ us=>obtain⟨_,e2,_⟩:=m;rw[e]at e2;cases e2
def Fr.ts (f:Fr H G H' G')(h:HR K H G):TS H H':=⟨λa xs e=>(f a _ e (h.tupNone e)).1,λa o e=>(f a _ e (h.codNone e)).1⟩
def jfJ.upd (h:jfJ H){p:Addr}{o:HO}(h1:∀ps,H p≠some (.tbl ps))(h2:∀ob,H p≠some (frzC ob)):jfJ (L2.upd H p o):=λt ht=>by
 rcases h t ht with e|⟨c,oc,e1,e2,q⟩
 ·exact .inl (by rw[jaf (λz=>h1 _ (z ▸ e))];exact e)
 ·exact .inr ⟨c,oc,by rw[jaf (λz=>h1 _ (z ▸ e1))];exact e1,by rw[jaf (λz=>h2 _ (z ▸ e2))];exact e2,q⟩
def jfJ.new (h:jfJ H){p:Addr}{o:HO}(e:H p=none):jfJ (L2.upd H p o):=h.upd (λps z=>by rw[e]at z;cases z) λob z=>by rw[e]at z;cases z
def HR.tabW (h:HR K H G){p:Addr}{o:HO}{mo:MO}(g:G p=some mo):jfJ (L2.upd H p o):=h.tab.upd (λps z=>by rw[h.tblNone z]at g;cases g) λob z=>by rw[h.codNone z]at g;cases g
def MOk.there {a:Addr}{o:MO}(m:MOk K H a o):∃ho,H a=some ho:=by
 cases o with
 |lst _=>obtain⟨_,e,_⟩:=m;exact⟨_,e⟩
 |fro _=>obtain⟨_,_,e,_⟩:=m;exact⟨_,e⟩
 |dK _=>obtain⟨_,e,_⟩:=m;exact⟨_,e⟩
 |dT _=>obtain⟨_,e,_⟩:=m;exact⟨_,e⟩
 |frd _ _=>obtain⟨_,e,_⟩:=m;exact⟨_,e⟩
 |frk _ _=>obtain⟨_,e,_⟩:=m;exact⟨_,e⟩
def MOk.keep {a:Addr}{o:MO}(m:MOk K H a o)(e:H' a=H a)(t:TS H H'):MOk K H' a o:=by
 cases o with
 |lst _=>obtain⟨vs,q,r⟩:=m;exact⟨vs,e.trans q,r.ts t⟩
 |fro _=>obtain⟨ob,vs,q,r⟩:=m;exact⟨ob,vs,e.trans q,r.ts t⟩
 |dK _=>obtain⟨l,q,r⟩:=m;exact⟨l,e.trans q,r.ts t⟩
 |dT _=>obtain⟨l,q,r⟩:=m;exact⟨l,e.trans q,r.ts t⟩
 |frd _ _=>obtain⟨l,q,r⟩:=m;exact⟨l,e.trans q,r.ts t⟩
 |frk _ _=>obtain⟨l,q,r⟩:=m;exact⟨l,e.trans q,r.ts t⟩
def HR.nope (h:HR K H G){a:Addr}(e:H a=none):G a=none:=by
 cases q:G a with
 |none=>rfl
 |some o=>
  obtain⟨_,e2⟩:=(h a o q).there;rw[e]at e2;cases e2
def jag {a:Addr}{o:MO}:gup G a o a=some o:=by unfold gup;rw[if_pos rfl]
def jbx {a b:Addr}{o:MO}(h:b≠a):gup G a o b=G b:=by unfold gup;rw[if_neg h]
def TS.new {p:Addr}{o:HO}(e:H p=none):TS H (upd H p o):=⟨λa xs h=>by rw[jaf (jai h e)];exact h,λa ob h=>by rw[jaf (jai h e)];exact h⟩
def HR.newT (h:HR K H G){p:Addr}{xs:List V}(e:H p=none):HR K (upd H p (.tup xs)) G:=⟨λa o q=>by
 have m:=h a o q;obtain⟨ho,e2⟩:=m.there;exact m.keep (jaf (jai e2 e)) (TS.new e),h.tab.new e⟩
def Fr.new {p:Addr}{o:HO}(e:H p=none):Fr H G (upd H p o) G:=⟨λa ob h g _=>⟨by rw[jaf (jai h e)];exact h,g⟩⟩
def HR.newO (h:HR K H G){p:Addr}{o:HO}{mo:MO}(e:H p=none)(m:MOk K (upd H p o) p mo):HR K (upd H p o) (gup G p mo):=⟨λa ob q=>by
 by_cases z:a=p
 ·subst z;rw[jag]at q;cases q;exact m
 ·rw[jbx z]at q;exact(h a ob q).keep (jaf z) (TS.new e),h.tab.new e⟩
def Fr.newO {p:Addr}{o:HO}{mo:MO}(e:H p=none):Fr H G (upd H p o) (gup G p mo):=⟨λa ob h g _=>by
 have z:a≠p:=jai h e;exact⟨by rw[jaf z];exact h,by rw[jbx z];exact g⟩⟩
def TS.write (h:HR K H G){p:Addr}{o:HO}{mo:MO}(g:G p=some mo):TS H (upd H p o):=⟨λa xs e=>by
 have z:a≠p:=λz=>by subst z;rw[h.tupNone e]at g;cases g
 rw[jaf z];exact e,λa ob e=>by
 have z:a≠p:=λz=>by subst z;rw[h.codNone e]at g;cases g
 rw[jaf z];exact e⟩
def HR.write (h:HR K H G){p:Addr}{o:HO}{mo mo':MO}(g:G p=some mo)(m:MOk K (upd H p o) p mo'):HR K (upd H p o) (gup G p mo'):=⟨λa ob q=>by
 by_cases z:a=p
 ·subst z;rw[jag]at q;cases q;exact m
 ·rw[jbx z]at q;exact(h a ob q).keep (jaf z) (TS.write h g),h.tabW g⟩
def Fr.write {p:Addr}{o:HO}{mo mo':MO}(g:G p=some mo):Fr H G (upd H p o) (gup G p mo'):=⟨λa ob h n _=>by
 have z:a≠p:=λz=>by subst z;rw[n]at g;cases g
 exact⟨by rw[jaf z];exact h,by rw[jbx z];exact n⟩⟩
def RUs.length:∀{us:List U} {vs:List V},RUs K H us vs->us.length=vs.length
 |[],_,h=>by cases h;rfl
 |_::_,_,h=>by
  obtain⟨v,vr,rfl,_,rs⟩:=h;simp[rs.length]
def RUs.append:∀{us ws:List U} {vs xs:List V},RUs K H us vs->RUs K H ws xs->RUs K H (us++ws) (vs++xs)
 |[],_,_,_,h,h'=>by cases h;exact h'
 |_::_,_,_,_,h,h'=>by
  obtain⟨v,vr,rfl,r,rs⟩:=h;exact⟨v,vr++_,rfl,r,rs.append h'⟩
def RUs.get:∀{us:List U} {vs:List V} {i:Nat} {u:U},RUs K H us vs->us[i]?=some u->∃v,vs[i]?=some v/\RU K H u v
 |[],_,_,_,_,e=>by simp at e
 |_::_,_,0,_,h,e=>by
  obtain⟨v,vr,rfl,r,_⟩:=h;simp at e;subst e;exact⟨v,rfl,r⟩
 |_::_,_,i+1,_,h,e=>by
  obtain⟨v,vr,rfl,_,rs⟩:=h;obtain⟨w,h1,h2⟩:=rs.get (i:=i) (by simpa using e)
  exact⟨w,by simpa using h1,h2⟩
def RUs.take:∀{us:List U} {vs:List V} (n:Nat),RUs K H us vs->RUs K H (us.take n) (vs.take n)
 |_,_,0,_=>rfl
 |[],_,_+1,h=>by cases h;rfl
 |_::_,_,n+1,h=>by
  obtain⟨v,vr,rfl,r,rs⟩:=h;exact⟨v,vr.take n,rfl,r,rs.take n⟩
def RUs.drop:∀{us:List U} {vs:List V} (n:Nat),RUs K H us vs->RUs K H (us.drop n) (vs.drop n)
 |_,_,0,h=>h
 |[],_,_+1,h=>by cases h;rfl
 |_::_,_,n+1,h=>by
  obtain⟨v,vr,rfl,_,rs⟩:=h;exact rs.drop n
def RUs.set {u:U}{v:V}(r:RU K H u v):∀{us:List U} {vs:List V} (i:Nat),RUs K H us vs->RUs K H (us.set i u) (vs.set i v)
 |[],_,_,h=>by cases h;rfl
 |_::_,_,0,h=>by
  obtain⟨w,vr,rfl,_,rs⟩:=h;exact⟨v,vr,rfl,r,rs⟩
 |_::_,_,i+1,h=>by
  obtain⟨w,vr,rfl,q,rs⟩:=h;exact⟨w,vr.set i v,rfl,q,rs.set r i⟩
def RUs.reverse:∀{us:List U} {vs:List V},RUs K H us vs->RUs K H us.reverse vs.reverse
 |[],_,h=>by cases h;rfl
 |_::_,_,h=>by
  obtain⟨v,vr,rfl,r,rs⟩:=h;rw[YbV,YbV];exact rs.reverse.append ⟨v,[],rfl,r,rfl⟩
def RUs.rep {us:List U}{vs:List V}(h:RUs K H us vs):∀k:Nat,RUs K H (Yad k us).flatten (Yad k vs).flatten
 |0=>rfl
 |k+1=>by
  rw[Yba,Yba,YbX,YbX];exact h.append (h.rep k)
def RUs.erase:∀{us:List U} {vs:List V} (i:Nat),RUs K H us vs->RUs K H (us.eraseIdx i) (vs.eraseIdx i)
 |[],_,_,h=>by cases h;rfl
 |_::_,_,0,h=>by
  obtain⟨v,vr,rfl,_,rs⟩:=h;exact rs
 |_::_,_,i+1,h=>by
  obtain⟨v,vr,rfl,r,rs⟩:=h;exact⟨v,_,rfl,r,rs.erase i⟩
section
variable {us:List U}{vs:List V}
def RUs.dropLast (h:RUs K H us vs):RUs K H us.dropLast vs.dropLast:=by
 rw[YeY,YeY,h.length];exact h.take _
def RUs.atI {i:Int}{u:U}(h:RUs K H us vs)(e:atI us i=some u):∃v,L2.atI vs i=some v/\RU K H u v:=by
 unfold L2.atI at e ⊢;rw[h.length]at e;cases q:ixN vs.length i with
 |none=>rw[q]at e;cases e
 |some j=>
  rw[q]at e;exact h.get e
def RUs.cut (h:RUs K H us vs)(lo hi:Option Int):RUs K H (Z.cut us lo hi) (cutV vs lo hi):=by
 unfold Z.cut cutV;rw[h.length];exact(h.drop _).take _
def RUs.isEmpty (h:RUs K H us vs):us.isEmpty=vs.isEmpty:=by
 cases us with
 |nil=>cases h;rfl
 |cons u us=>obtain⟨v,vr,rfl,_⟩:=h;rfl
end
def RUs.ints:∀{us:List U} {vs:List V} {ns:List Int},RUs K H us vs->jfo us=some ns->vs=ns.map V.int
 |[],_,_,h,e=>by cases h;cases e;rfl
 |u::us,_,ns,h,e=>by
  obtain⟨v,vr,rfl,r,rs⟩:=h;cases u with
  |int i=>
   cases r;rw[jfo]at e;cases q:jfo us with
   |none=>rw[q]at e;cases e
   |some l=>rw[q]at e;cases e;rw[rs.ints q];rfl
  |_=>cases e
def HR.lst (h:HR K H G){a:Addr}{us:List U}(e:G a=some (.lst us)):∃vs,H a=some (.lst vs)/\RUs K H us vs:=h a _ e
def HR.ls (h:HR K H G){a:Addr}{us:List U}(e:lsG G a=some us):∃vs,SqL K H a vs/\RUs K H us vs:=by
 unfold lsG at e;split at e
 ·rename_i xs q;cases e;obtain⟨vs,q2,r⟩:=h a _ q;exact⟨vs,.inl (.inl q2),r⟩
 ·rename_i xs q;cases e;obtain⟨o,vs,q2,r⟩:=h a _ q;exact⟨vs,.inl (.inr ⟨o,q2⟩),r⟩
 ·cases e
def HR.rd (h:HR K H G){a:Addr}{us:List U}(e:lsG G a=some us):∃vs,Rd H a (.lst vs)/\RUs K H us vs:=by
 unfold lsG at e;split at e
 ·rename_i xs q;cases e;obtain⟨vs,q2,r⟩:=h a _ q;exact⟨vs,.inl q2,r⟩
 ·rename_i xs q;cases e;obtain⟨o,vs,q2,r⟩:=h a _ q;exact⟨vs,.inr ⟨o,q2⟩,r⟩
 ·cases e
end
mutual
def DU.dv {K:Yac}{H:Hp}{G:Gp}(h:HR K H G):∀{u:U} {d:PyData} {v:V},DU G u d->RU K H u v->DV K H v d
 |_,_,_,.non,r=>by cases r;exact .non
 |_,_,_,.bl b,r=>by cases r;exact .bl b
 |_,_,_,.int i,r=>by cases r;exact .int i
 |_,_,_,.str x,r=>by cases r;exact .str x
 |_,_,_,.tup q,r=>by
  obtain⟨a,vs,rfl,s,rs⟩:=r
  exact .tup (.of s) (DUs.dv h q rs)
 |_,_,_,.lst e q,r=>by
  cases r
  obtain⟨vs,s,rs⟩:=h.rd e
  exact .lst s (DUs.dv h q rs)
 |_,_,_,.dic e,r=>by
  cases r
  obtain⟨l,q,rs⟩:=h _ _ e
  cases rs
  exact .dic q
def DUs.dv {K:Yac}{H:Hp}{G:Gp}(h:HR K H G):∀{us:List U} {ds:List PyData} {vs:List V},DUs G us ds->RUs K H us vs->DVs K H vs ds
 |_,_,_,.nil,r=>by cases r;exact .nil
 |_,_,_,.cons a b,r=>by
  obtain⟨v,vr,rfl,r1,rs⟩:=r
  exact .cons (DU.dv h a r1) (DUs.dv h b rs)
end
end Z

namespace L2
open PySem
section
variable {X:Cx}
def PE.imp {e:Expr}{t t':TE}(h:PE X e t)(i:∀σ H Q,t' σ H Q->t σ H Q):PE X e t':=λpins s σ H Q I q=>h pins s σ H Q I (i σ H Q q)
def PT.imp {e:Expr}{t t':TT}(h:PT X e t)(i:∀σ H Q,t' σ H Q->t σ H Q):PT X e t':=λpins s σ H Q I q=>h pins s σ H Q I (i σ H Q q)
def PW.imp {e:Expr}{t t':TT}(h:PW X e t)(i:∀σ H Q,t' σ H Q->t σ H Q):PW X e t':=λw pins s σ H Q I q=>h w pins s σ H Q I (i σ H Q q)
def PA.imp {e:List Expr}{t t':TA}(h:PA X e t)(i:∀σ H Q,t' σ H Q->t σ H Q):PA X e t':=λpos pins s σ H Q I q=>h pos pins s σ H Q I (i σ H Q q)
def PO.imp {e:Option Expr}{t t':TO}(h:PO X e t)(i:∀σ H Q,t' σ H Q->t σ H Q):PO X e t':=λpins s σ H Q I q=>h pins s σ H Q I (i σ H Q q)
def PS.imp {e:Stmt}{t t':L2.TS}(h:PS X e t)(i:∀D σ H,t' D σ H->t D σ H):PS X e t':=λpins s σ H D I q=>h pins s σ H D I (i D σ H q)
def PSs.imp {e:List Stmt}{t t':L2.TS}(h:PSs X e t)(i:∀D σ H,t' D σ H->t D σ H):PSs X e t':=λpins s σ H D I q=>h pins s σ H D I (i D σ H q)
end
end L2
namespace Z
open PySem L2
noncomputable def gK (K:Yac):Str->Option Value:=λx=>(Yco K YaT x).join
def XD (K:Yac)(H:Hp)(C dx:Addr)(x:XV):Prop:=1<=x.c/\x.c<6/\XCls K (gK K) (clsN x.c) (clsF x.c) C/\∃l,H dx=some (.xd l)/\l.map (·.1)=clsF x.c/\RUs K H x.fs (l.map (·.2))
def XAt (X:Cx)(H:Hp)(s:Shared)(e:Value)(x:XV):Prop:=∃ea C dx,e=.ref ea/\Lies X.s₀.heap.objs.size X.pn H s.heap ea (.ref C) (some dx)/\XD X.K H C dx x
section
variable (X:Cx)
def LX (σ:St)(H:Hp)(G:Gp)(E:KX):Prop:=∀(pins:List (Addr×Obj)) (e:Value) (s':Shared) (x:XV) (G':Gp) (H':Hp),Inv X pins σ H' s'->XAt X H' s' e x->HR X.K H' G'->Fr H G H' G'->E x G'->X.xe e s'
def LV (H:Hp)(G:Gp)(Q:K1)(Q0:VK):Prop:=∀w v G' H',RU X.K H' w v->HR X.K H' G'->Fr H G H' G'->Q w G'->Q0 v H'
def lE (t:UE):TE:=λσ H Q0=>∃ς G Q E,SR X.K H ς σ/\HR X.K H G/\t ς G Q E/\LV X H G Q Q0/\LX X σ H G E
def lT (t:UT):TT:=λσ H Q0=>∃ς G Q E,SR X.K H ς σ/\HR X.K H G/\t ς G Q E/\(∀b G' H',HR X.K H' G'->Fr H G H' G'->Q b G'->Q0 b H')/\LX X σ H G E
def lA (t:UA):TA:=λσ H Q0=>∃ς G Q E,SR X.K H ς σ/\HR X.K H G/\t ς G Q E/\(∀ws vs G' H',RUs X.K H' ws vs->HR X.K H' G'->Fr H G H' G'->Q ws G'->Q0 vs H')/\LX X σ H G E
def lO (t:Sg->Gp->(Option Int->Gp->Prop)->KX->Prop):TO:=λσ H Q0=>∃ς G Q E,SR X.K H ς σ/\HR X.K H G/\t ς G Q E/\(∀o G' H',HR X.K H' G'->Fr H G H' G'->Q o G'->Q0 o H')/\LX X σ H G E
end
section
variable {X:Cx}{σ:St}{H H1 H2:Hp}{G G1 G2:Gp}
def LX.fr {E:KX}(h:LX X σ H G E)(f:Fr H G H1 G1):LX X σ H1 G1 E:=λpins e s' x G' H' I a hr f' q=>h pins e s' x G' H' I a hr (f.trans f') q
section
variable {Q:K1}{Q0:VK}
def LV.fr (h:LV X H G Q Q0)(f:Fr H G H1 G1):LV X H1 G1 Q Q0:=λw v G' H' r hr f' q=>h w v G' H' r hr (f.trans f') q
def LV.here (h:LV X H G Q Q0){w:U}{v:V}(r:RU X.K H w v)(hr:HR X.K H G)(q:Q w G):Q0 v H:=h w v G H r hr (Fr.refl _ _) q
def LV.bl (h:LV X H G Q Q0){b:Bool}(hr:HR X.K H G)(q:Q (.bl b) G):Q0 (.bl b) H:=h.here (w:=.bl b) rfl hr q
def LV.int (h:LV X H G Q Q0){b:Int}(hr:HR X.K H G)(q:Q (.int b) G):Q0 (.int b) H:=h.here (w:=.int b) rfl hr q
def LV.str (h:LV X H G Q Q0){b:Str}(hr:HR X.K H G)(q:Q (.str b) G):Q0 (.str b) H:=h.here (w:=.str b) rfl hr q
def LV.tup (h:LV X H G Q Q0){p:Addr}{us:List U}{vs:List V}(e:H p=none)(r:RUs X.K H us vs)(hr:HR X.K H G)(q:Q (.tup us) G):Q0 (.ref p) (upd H p (.tup vs)):=
 h (.tup us) (.ref p) G _ ⟨p,vs,rfl,jas,r.ts (TS.new e)⟩ (hr.newT e) (Fr.new e) q
def LV.lst (h:LV X H G Q Q0){p:Addr}{us:List U}{vs:List V}(e:H p=none)(r:RUs X.K H us vs)(hr:HR X.K H G)(q:newO G (.lst us) Q):Q0 (.ref p) (upd H p (.lst vs)):=
 h (.loc p) (.ref p) _ _ rfl (hr.newO (mo:=.lst us) e ⟨vs,jas,r.ts (TS.new e)⟩) (Fr.newO e) (q.at p (hr.nope e))
def LV.wl (h:LV X H G Q Q0){p:Addr}{us:List U}{vs:List V}{mo:MO}(g:G p=some mo)(r:RUs X.K H us vs)(hr:HR X.K H G){w:U}{v:V}(rw':RU X.K H w v)(q:putO G p (.lst us) (Q w)):Q0 v (upd H p (.lst vs)):=
 h w v _ _ (rw'.ts (TS.write hr g)) (hr.write (mo':=.lst us) g ⟨vs,jas,r.ts (TS.write hr g)⟩) (Fr.write g) q.at
end
end
section
variable {X:Cx}{σ:St}{H:Hp}{Q0:VK}{ta tb:UE}
def lE.two {R:V->V->Hp->Prop}{k:U->U->Gp->K1->Prop}(h:lE X (λς G Q E=>ta ς G (λx G1=>tb ς G1 (λy G2=>k x y G2 Q) E) E) σ H Q0)
  (f:∀x y v v' G H' Q,RU X.K H' x v->RU X.K H' y v'->HR X.K H' G->k x y G Q->LV X H' G Q Q0->R v v' H'):lE X ta σ H λv H1=>lE X tb σ H1 λv' H2=>R v v' H2:=by
 obtain⟨ς,G,Q,E,hς,hG,h,lv,lx⟩:=h;refine⟨ς,G,_,E,hς,hG,h,λx v G1 H1 rx hG1 f1 h1=>?_,lx⟩;refine⟨ς,G1,_,E,hς.ts (f1.ts hG),hG1,h1,λy v' G2 H2 ry hG2 f2 h2=>?_,lx.fr f1⟩;exact f x y v v' G2 H2 Q (rx.ts (f2.ts hG1)) ry hG2 h2 (lv.fr (f1.trans f2))
def lE.one {R:V->Hp->Prop}{k:U->Gp->K1->Prop}(h:lE X (λς G Q E=>ta ς G (λx G1=>k x G1 Q) E) σ H Q0)
  (f:∀x v G H' Q,RU X.K H' x v->HR X.K H' G->k x G Q->LV X H' G Q Q0->R v H'):lE X ta σ H R:=by
 obtain⟨ς,G,Q,E,hς,hG,h,lv,lx⟩:=h;exact⟨ς,G,_,E,hς,hG,h,λx v G1 H1 rx hG1 f1 h1=>f x v G1 H1 Q rx hG1 h1 (lv.fr f1),lx⟩
def lE.many {ta:UA}{R:List V->Hp->Prop}{k:List U->Gp->K1->Prop}(h:lE X (λς G Q E=>ta ς G (λx G1=>k x G1 Q) E) σ H Q0)
  (f:∀x v G H' Q,RUs X.K H' x v->HR X.K H' G->k x G Q->LV X H' G Q Q0->R v H'):lA X ta σ H R:=by
 obtain⟨ς,G,Q,E,hς,hG,h,lv,lx⟩:=h;exact⟨ς,G,_,E,hς,hG,h,λx v G1 H1 rx hG1 f1 h1=>f x v G1 H1 Q rx hG1 h1 (lv.fr f1),lx⟩
end
section
variable {X:Cx}{pos:Pos}
def jpr {i:Nat}{x:Str}(hN:X.N[i]?=some x)(hv:Vis X.env.scope x)(hd:(x==("__debug__" : Str))=false)(hcd:(x==("__classdict__" : Str))=false):PE X (.Name x pos) (lE X λς G Q _=>slot ς i λu=>Q u G):=by
 refine(jnA hN hv hd hcd).imp λσ H Q0 h=>?_;obtain⟨ς,G,Q,E,hς,hG,h,lv,_⟩:=h;unfold slot at h;split at h
 ·rename_i u e;obtain⟨v,e1,r⟩:=hς.2 i u e;exact⟨v,e1,lv.here r hG h⟩
 ·exact h.elim
def jcL {e:Expr}{u:U}{v:V}(h:PE X e (tC v))(r:∀H,RU X.K H u v):PE X e (lE X λ_ G Q _=>Q u G):=
 h.imp λ_ _ _ ⟨_,_,_,_,_,hG,q,lv,_⟩=>lv.here (r _) hG q
end
def OpU (X:Cx)(f:Value->Value->Sem Value)(b:U->U->Gp->K1->Prop):Prop:=
 ∃r:R2,OpR X f r/\∀x y v v' G H Q Q0,RU X.K H x v->RU X.K H y v'->HR X.K H G->b x y G Q->LV X H G Q Q0->r v v' H Q0
section
variable {X:Cx}{pos:Pos}{a b c:Expr}{ta tb tc:UE}
def jpI {o:YbU}{k:U->U->Gp->K1->Prop}(ho:OpU X (Ybj o) k)(ha:PE X a (lE X ta))(hb:PE X b (lE X tb)) :
  PE X (.BinOp a o b pos) (lE X λς G Q E=>ta ς G (λx G1=>tb ς G1 (λy G2=>k x y G2 Q) E) E):=by
 obtain⟨r,h1,h2⟩:=ho;exact(jqf h1 ha hb).imp λσ H Q0 h=>lE.two h λx y v v' G H' Q rx ry hG q lv=>h2 x y v v' G H' Q Q0 rx ry hG q lv
def jnP:OpU X (Ybj .Add) addU:=by
 refine⟨_,jn1.or (jhg.or ((jlH (X:=X)).or (jn0.or jlI))),?_⟩;intro x y v v' G H Q Q0 rx ry hG h lv;cases x<;>try exact h.elim
 ·cases y<;>try exact h.elim
  cases rx;cases ry;exact .inr (.inr (.inr (.inr ⟨_,_,rfl,rfl,lv.int hG h⟩)))
 ·cases y<;>try exact h.elim
  cases rx;cases ry;exact .inl ⟨_,_,rfl,rfl,lv.int hG h⟩
 ·cases y<;>try exact h.elim
  cases rx;cases ry;exact .inr (.inl ⟨_,_,rfl,rfl,h.1,lv.str hG h.2⟩)
 ·cases y<;>try exact h.elim
  rename_i xs ys;obtain⟨a,vs,rfl,s1,r1⟩:=rx;obtain⟨b,ws,rfl,s2,r2⟩:=ry;obtain⟨hl,q⟩:=h;refine .inr (.inr (.inl ⟨a,b,vs,ws,rfl,rfl,.of s1,.of s2,by rw[<- r1.length,<- r2.length];exact hl,λz=>?_,λ_ z=>?_,λ_ _ p hp=>?_⟩))
  ·have:xs=[]:=by have:=r1.length;rw[z]at this;simpa using this
   subst this;exact lv.here (w:=.tup ys) ⟨b,ws,rfl,s2,r2⟩ hG q
  ·have:ys=[]:=by have:=r2.length;rw[z]at this;simpa using this
   subst this;rw[YcA]at q;exact lv.here (w:=.tup xs) ⟨a,vs,rfl,s1,r1⟩ hG q
  ·exact lv.tup hp (r1.append r2) hG q
 ·cases y<;>try exact h.elim
  cases rx;cases ry;obtain⟨xs,ys,g1,g2,hl,q⟩:=h;obtain⟨vs,e1,r1⟩:=hG.lst g1;obtain⟨ws,e2,r2⟩:=hG.lst g2;exact .inr (.inr (.inr (.inl ⟨_,_,vs,ws,rfl,rfl,e1,e2,by rw[<- r1.length,<- r2.length];exact hl,λp hp=>lv.lst hp (r1.append r2) hG q⟩)))
def jnK:OpU X (Ybj .Sub) subU:=by
 refine⟨_,jnQ.or (jlC (X:=X)),?_⟩;intro x y v v' G H Q Q0 rx ry hG h lv;unfold subU at h;split at h
 ·cases rx;cases ry;exact .inl ⟨_,_,rfl,rfl,lv.int hG h⟩
 ·cases rx;cases ry;exact .inr (.inl ⟨_,_,rfl,rfl,lv.int hG h⟩)
 ·cases rx;cases ry;exact .inr (.inr ⟨_,_,rfl,rfl,lv.int hG h⟩)
 ·exact h.elim
def jnM:OpU X (Ybj .Mult) mulU:=by
 refine⟨_,jnU.or (jnR.or ((jlD (X:=X)).or jlE)),?_⟩;intro x y v v' G H Q Q0 rx ry hG h lv;unfold mulU at h;split at h
 ·cases rx;cases ry;exact .inl ⟨_,_,rfl,rfl,h.1,lv.int hG h.2⟩
 ·cases rx;cases ry;obtain⟨xs,g1,h1,h2,hl,q⟩:=h;obtain⟨vs,e1,r1⟩:=hG.lst g1;exact .inr (.inl ⟨_,_,vs,rfl,rfl,e1,h1,h2,by rw[<- r1.length];exact hl,λp hp=>lv.lst hp (r1.rep _) hG q⟩)
 ·rename_i xs k;obtain⟨a,vs,rfl,s1,r1⟩:=rx;cases ry;obtain⟨h0,h1,h2,hl,q⟩:=h;refine .inr (.inr (.inl ⟨a,k,vs,rfl,rfl,.of s1,?_,h1,h2,by rw[<- r1.length];exact hl,λz=>?_,λ_ p hp=>lv.tup hp (r1.rep _) hG q⟩))
  ·intro z;subst z;exact h0 (by have:=r1.length;simpa using this)
  ·subst z;have e:(Yad (Int.toNat 1) xs).flatten=xs:=by simp
   rw[e]at q;exact lv.here (w:=.tup xs) ⟨a,vs,rfl,s1,r1⟩ hG q
 ·cases rx;cases ry;exact .inr (.inr (.inr ⟨_,_,rfl,rfl,h.1,h.2.1,h.2.2.1,lv.str hG h.2.2.2⟩))
 ·exact h.elim
def jlB:OpU X (Ybj .FloorDiv) jmu:=by
 refine⟨_,jlF,?_⟩;intro x y v v' G H Q Q0 rx ry hG h lv;unfold jmu at h;split at h
 ·cases rx;cases ry;exact⟨_,_,rfl,rfl,⟨h.1,h.2.1⟩,lv.int hG h.2.2⟩
 ·exact h.elim
def jnN:OpU X (Ybj .Mod) modU:=by
 refine⟨_,jnV,?_⟩;intro x y v v' G H Q Q0 rx ry hG h lv;unfold modU at h;split at h
 ·cases rx;cases ry;exact⟨_,_,rfl,rfl,h.1,lv.int hG h.2⟩
 ·exact h.elim
def jnL:OpU X (Ybj .Pow) powU:=by
 refine⟨_,jnS,?_⟩;intro x y v v' G H Q Q0 rx ry hG h lv;unfold powU at h;split at h
 ·cases rx;cases ry;exact⟨_,_,rfl,rfl,h.1,lv.int hG h.2⟩
 ·exact h.elim
def jnO (o:YbU):OpU X (Ybj o) (binU o):=by
 cases o with
 |Add=>exact jnP
 |Sub=>exact jnK
 |Mult=>exact jnM
 |FloorDiv=>exact jlB
 |Mod=>exact jnN
 |Pow=>exact jnL
 |_=>exact⟨λ_ _ _ _=>False,λ_ _ _ _ _ _ _ _ _ _ _ _ h=>h.elim,λ_ _ _ _ _ _ _ _ _ _ _ h _=>h⟩
def jpz (ha:PE X a (lE X ta)):PE X (.UnaryOp .USub a pos) (lE X λς G Q E=>ta ς G (λx G1=>negU x G1 Q) E):=by
 refine(jqe jmI ha).imp λσ H Q0 h=>lE.one h λx v G H' Q rx hG q lv=>?_;unfold negU at q;split at q
 ·cases rx;exact⟨_,rfl,lv.int hG q⟩
 ·exact q.elim
end
def CmU (X:Cx)(o:CmpOp):Prop:=
 ∃r:R2,OpR X (YaV o) r/\∀x y v v' G H (k:Bool->Prop) (Q0:VK),RU X.K H x v->RU X.K H y v'->HR X.K H G->cmpU o x y G k->(∀c,k c->Q0 (.bl c) H)->r v v' H Q0
section
variable {X:Cx}
def rIs (neg:Bool):R2:=λx y H Q=>((x=.non\/∃b,x=.bl b)\/(y=.non\/∃b,y=.bl b))/\Q (.bl (if neg then !decide (x=y) else decide (x=y))) H
def jgw {x y:V}{v u:Value}(rx:RelV x v)(ry:RelV y u)(h:(x=.non\/∃b,x=.bl b)\/(y=.non\/∃b,y=.bl b)):plainIs v u=true/\(v==u)=decide (x=y):=by
 rcases h with(rfl|⟨b,rfl⟩)|(rfl|⟨b,rfl⟩)
 ·cases rx;cases y with
  |non=>cases ry;exact⟨rfl,by simp⟩
  |bl c=>cases ry;exact⟨rfl,by simp⟩
  |int _=>obtain⟨t,rfl⟩:=ry;exact⟨rfl,by simp⟩
  |str _=>obtain⟨t,rfl⟩:=ry;exact⟨rfl,by simp⟩
  |byt _=>obtain⟨t,rfl⟩:=ry;exact⟨rfl,by simp⟩
  |flt _=>obtain⟨t,rfl⟩:=ry;exact⟨rfl,by simp⟩
  |ref _=>cases ry;exact⟨rfl,by simp⟩
  |ty _=>cases ry;exact⟨rfl,by simp⟩
 ·cases rx;cases y with
  |non=>cases ry;exact⟨rfl,by simp⟩
  |bl c=>cases ry;exact⟨rfl,by cases b<;>cases c<;>rfl⟩
  |int _=>obtain⟨t,rfl⟩:=ry;exact⟨rfl,by simp⟩
  |str _=>obtain⟨t,rfl⟩:=ry;exact⟨rfl,by simp⟩
  |byt _=>obtain⟨t,rfl⟩:=ry;exact⟨rfl,by simp⟩
  |flt _=>obtain⟨t,rfl⟩:=ry;exact⟨rfl,by simp⟩
  |ref _=>cases ry;exact⟨rfl,by simp⟩
  |ty _=>cases ry;exact⟨rfl,by simp⟩
 ·cases ry;cases x with
  |non=>cases rx;exact⟨rfl,by simp⟩
  |bl c=>cases rx;exact⟨rfl,by simp⟩
  |int _=>obtain⟨t,rfl⟩:=rx;exact⟨rfl,by simp⟩
  |str _=>obtain⟨t,rfl⟩:=rx;exact⟨rfl,by simp⟩
  |byt _=>obtain⟨t,rfl⟩:=rx;exact⟨rfl,by simp⟩
  |flt _=>obtain⟨t,rfl⟩:=rx;exact⟨rfl,by simp⟩
  |ref _=>cases rx;exact⟨rfl,by simp⟩
  |ty _=>cases rx;exact⟨rfl,by simp⟩
 ·cases ry;cases x with
  |non=>cases rx;exact⟨rfl,by simp⟩
  |bl c=>cases rx;exact⟨rfl,by cases b<;>cases c<;>rfl⟩
  |int _=>obtain⟨t,rfl⟩:=rx;exact⟨rfl,by simp⟩
  |str _=>obtain⟨t,rfl⟩:=rx;exact⟨rfl,by simp⟩
  |byt _=>obtain⟨t,rfl⟩:=rx;exact⟨rfl,by simp⟩
  |flt _=>obtain⟨t,rfl⟩:=rx;exact⟨rfl,by simp⟩
  |ref _=>cases rx;exact⟨rfl,by simp⟩
  |ty _=>cases rx;exact⟨rfl,by simp⟩
def jnW:OpR X (YaV .Is) (rIs false):=by
 intro pins s σ H x y v u Q I rx ry h;obtain⟨c,q⟩:=h;obtain⟨h1,h2⟩:=jgw rx ry c;refine wpAny_is_plain h1 ⟨.bl _,H,I,?_,q⟩;rw[h2];rfl
def jhY:OpR X (YaV .IsNot) (rIs true):=by
 intro pins s σ H x y v u Q I rx ry h;obtain⟨c,q⟩:=h;obtain⟨h1,h2⟩:=jgw rx ry c;refine wpAny_isNot_plain h1 ⟨.bl _,H,I,?_,q⟩;rw[h2];rfl
def jkA {K:Yac}{H:Hp}{x y:U}{v v':V}{k:Bool->Prop}(rx:RU K H x v)(ry:RU K H y v')(h:isU x y k):((v=.non\/∃b,v=.bl b)\/(v'=.non\/∃b,v'=.bl b))/\k (decide (v=v')):=by
 have e:∀{a b:V},a≠b->k false->k (decide (a=b)):=λn q=>by rw[decide_eq_false n];exact q
 cases x<;>try exact h.elim
 ·cases y
  case non=>have h':k true:=h;cases rx;cases ry;exact⟨.inl (.inl rfl),by simpa using h'⟩
  all_goals first
   |exact h.elim
   |(cases rx;obtain⟨a,vs,rfl,_⟩:=ry;exact⟨.inl (.inl rfl),e (λz=>nomatch z) h⟩)
   |(cases rx;cases ry;exact⟨.inl (.inl rfl),e (λz=>nomatch z) h⟩)
 ·cases y<;>first
   |exact h.elim
   |(cases rx;cases ry;exact⟨.inr (.inl rfl),e (λz=>nomatch z) h⟩)
   |(cases rx;cases ry;rename_i b c;exact⟨.inl (.inr ⟨_,rfl⟩),by rw[decide_eq_decide.mpr (⟨λz=>V.bl.inj z,λz=>z ▸ rfl⟩:V.bl b=.bl c↔b=c)];exact h⟩)
 ·cases y<;>first
   |exact h.elim
   |(cases rx;cases ry;exact⟨.inr (.inl rfl),e (λz=>nomatch z) h⟩)
   |(cases rx;cases ry;exact⟨.inr (.inr ⟨_,rfl⟩),e (λz=>nomatch z) h⟩)
 ·cases y<;>first
   |exact h.elim
   |(cases rx;cases ry;exact⟨.inr (.inl rfl),e (λz=>nomatch z) h⟩)
   |(cases rx;cases ry;exact⟨.inr (.inr ⟨_,rfl⟩),e (λz=>nomatch z) h⟩)
 ·cases y<;>first
   |exact h.elim
   |(cases ry;obtain⟨a,vs,rfl,_⟩:=rx;exact⟨.inr (.inl rfl),e (λz=>nomatch z) h⟩)
   |(cases ry;obtain⟨a,vs,rfl,_⟩:=rx;exact⟨.inr (.inr ⟨_,rfl⟩),e (λz=>nomatch z) h⟩)
 ·cases y<;>first
   |exact h.elim
   |(cases rx;cases ry;exact⟨.inr (.inl rfl),e (λz=>nomatch z) h⟩)
   |(cases rx;cases ry;exact⟨.inr (.inr ⟨_,rfl⟩),e (λz=>nomatch z) h⟩)
def jkI {H:Hp}{G:Gp}{x y:U}{v v':V}{k:Bool->Prop}(rx:RU X.K H x v)(ry:RU X.K H y v')(hG:HR X.K H G)(h:eqU x y G k) :
  (scal v v'=true/\k (decide (v=v')))\/∃d e,DV X.K H v d/\DV X.K H v' e/\d.canLay0=true/\e.canLay0=true/\d.depth<=100/\k (YaI d e):=by
 have g:(∃d e,DU G x d/\DU G y e/\Small d/\Small e/\k (YaI d e))->(scal v v'=true/\k (decide (v=v')))\/∃d e,DV X.K H v d/\DV X.K H v' e/\d.canLay0=true/\e.canLay0=true/\d.depth<=100/\k (YaI d e):=
  λ⟨d,e,h1,h2,⟨s1,s2⟩,⟨s3,_⟩,q⟩=>.inr ⟨d,e,h1.dv hG rx,h2.dv hG ry,s1,s3,s2,q⟩
 have e:∀{p:Prop} [Decidable p],¬p->k false->k (decide p):=λn q=>by rw[decide_eq_false n];exact q
 cases x<;>try exact g h
 all_goals
  cases y<;>first
   |exact g h
   |(cases rx;cases ry;exact .inl ⟨rfl,e (λz=>V.noConfusion z) h⟩)
   |(cases rx;cases ry;exact .inl ⟨rfl,by simp only[V.bl.injEq,V.int.injEq,V.str.injEq];exact h⟩)
def jhN {K:Yac}{H:Hp}{us:List U}{vs:List V}(r:RUs K H us vs):vs.isEmpty=us.isEmpty:=by
 have:=r.length;cases us<;>cases vs<;>first|rfl|cases this
def jmv {H:Hp}{G:Gp}{x y:U}{v v':V}{k:Bool->Prop}(rx:RU X.K H x v)(ry:RU X.K H y v')(hG:HR X.K H G)(h:eqQ x y G k):eqU x y G k\/(∃a z kvs,v=.ref a/\v'=.str z/\H a=some (.dK kvs)/\k false)\/(∃a b xs,v=.ref a/\v'=.ref b/\SqT X.K H a xs/\SqT X.K H b []/\k xs.isEmpty)\/∃a z xs,v=.ref a/\v'=.str z/\(SqT X.K H a xs\/SqL X.K H a xs)/\k false:=by
 unfold eqQ at h;split at h
 ·rcases h with⟨kvs,g,q⟩|⟨xs,g,q⟩|h
  ·cases rx;cases ry;obtain⟨l,e,rs⟩:=hG _ _ g;exact .inr (.inl ⟨_,_,l,rfl,rfl,e,q⟩)
  ·cases rx;cases ry;obtain⟨vs,e,rs⟩:=hG.lst g;exact .inr (.inr (.inr ⟨_,_,vs,rfl,rfl,.inr (.of e),q⟩))
  ·exact .inl h
 ·obtain⟨a,vs,rfl,s1,r1⟩:=rx;obtain⟨b,ws,rfl,s2,r2⟩:=ry;cases r2;refine .inr (.inr (.inl ⟨a,b,vs,rfl,rfl,.of s1,.of s2,?_⟩));rw[jhN r1];exact h
 ·obtain⟨a,vs,rfl,s1,r1⟩:=rx;cases ry;exact .inr (.inr (.inr ⟨a,_,vs,rfl,rfl,.inl (.of s1),h⟩))
 ·exact .inl h
section
variable {K:Yac}{H:Hp}
def jfY {x:U}{v:V}{k:Key}(r:RU K H x v)(e:kU x=some k):v=kV k:=by
 cases x with
 |int i=>cases r;cases e;rfl
 |str i=>cases r;cases e;rfl
 |_=>cases e
def jgH:∀{xs:List U} {vs:List V} {ks:List Key},RUs K H xs vs->kUs xs=some ks->vs=ks.map kV
 |[],_,_,r,e=>by cases r;cases e;rfl
 |x::xs,_,ks,r,e=>by
  obtain⟨v,vr,rfl,r1,rs⟩:=r;rw[kUs]at e;cases h1:kU x with
  |none=>rw[h1]at e;cases e
  |some k=>
   cases h2:kUs xs with
   |none=>rw[h1,h2]at e;cases e
   |some l=>
    rw[h1,h2]at e;cases e;rw[jfY r1 h1,jgH rs h2];rfl
def jeK {x:U}{v:V}(r:RU K H x v)(e:flat x=true):jdh v=true:=by
 cases x<;>first|(cases r;rfl)|exact absurd (show false=true from e) (by decide)
def jdm:∀{xs:List U} {vs:List V},RUs K H xs vs->xs.all flat=true->vs.all jdh=true
 |[],_,r,_=>by cases r;rfl
 |x::xs,_,r,e=>by
  obtain⟨v,vr,rfl,r1,rs⟩:=r;rw[YcT,YaE]at e;rw[YcT,jeK r1 e.1,jdm rs e.2];rfl
def joC {x y:U}{v v':V}(r:RU K H x v)(r':RU K H y v')(e:flat x=true)(e':flat y=true):eqV v v'=eqF x y:=by
 cases x<;>first|(exact absurd (show false=true from e) (by decide))|(cases y<;>first|(exact absurd (show false=true from e') (by decide))|(cases r;cases r';rfl))
def jg3 {x:U}{v:V}(r:RU K H x v)(e:flat x=true):∀{xs:List U} {vs:List V},RUs K H xs vs->xs.all flat=true->inV v vs=xs.any λy=>eqF y x
 |[],_,rs,_=>by cases rs;rfl
 |y::xs,_,rs,e'=>by
  obtain⟨v',vr,rfl,r1,rs⟩:=rs;rw[YcT,YaE]at e';have ih:=jg3 r e rs e'.2;unfold inV at ih ⊢;rw[Ybe,Ybe,joC r1 r e'.1 e,ih]
end
def jdo {κ:Type}[DecidableEq κ]{K:Yac}{H:Hp}(k:κ):∀{kvs:List (κ×U)} {l:List (κ×V)},RKs K H kvs l->match dGet kvs k with|some u=>∃v,valV l k=some v/\RU K H u v|none=>valV l k=none
 |[],_,r=>by cases r;exact rfl
 |(k',u)::kvs,_,r=>by
  obtain⟨v,l',rfl,r1,rs⟩:=r;by_cases e:k'=k
  ·subst e;have:dGet ((k',u)::kvs) k'=some u:=by simp[dGet,Ybz]
   rw[this];exact⟨v,jdj rfl,r1⟩
  ·have:dGet ((k',u)::kvs) k=dGet kvs k:=by simp[dGet,Ybz,e]
   rw[this,jdk (p:=(k',v)) e];exact jdo k rs
def jdN {κ:Type}[DecidableEq κ]{K:Yac}{H:Hp}(k:κ){kvs:List (κ×U)}{l:List (κ×V)}(r:RKs K H kvs l):(valV l k).isSome=(dGet kvs k).isSome:=by
 have:=jdo k r;cases e:dGet kvs k with
 |none=>rw[e]at this;rw[show valV l k=none from this];rfl
 |some u=>rw[e]at this;obtain⟨v,h,_⟩:=this;rw[h];rfl
def rDIn (neg:Bool):R2:=λx y H Q=>∃a o,y=.ref a/\DGet H a x o/\Q (.bl (if neg then !o.isSome else o.isSome)) H
def jnZ (hu:X.A.units+1<cLine):OpR X (YaV .In) (rDIn false):=by
 intro pins s σ H x y v u Q I rx ry h;obtain⟨a,o,rfl,g,q⟩:=h;cases ry;exact d_in hu I g rx λs' I'=>⟨.bl o.isSome,H,I',rfl,q⟩
def jh1 (hu:X.A.units+1<cLine):OpR X (YaV .NotIn) (rDIn true):=by
 intro pins s σ H x y v u Q I rx ry h;obtain⟨a,o,rfl,g,q⟩:=h;cases ry;exact jmx hu I g rx λs' I'=>⟨.bl (!o.isSome),H,I',rfl,q⟩
def jeI {K:Yac}{H:Hp}:∀{ns:List Int} {vs:List V},RUs K H (ns.map .int) vs->vs=ns.map V.int
 |[],_,h=>h
 |n::ns,_,h=>by
  obtain⟨v,vr,rfl,h1,h2⟩:=h;rw[jeI h2];have h1:v=.int n:=h1;rw[h1];rfl
def jkC {H:Hp}{G:Gp}{x y:U}{v v':V}{k:Bool->Prop}(rx:RU X.K H x v)(ry:RU X.K H y v')(hG:HR X.K H G)(h:inU x y G k) :
  (∃i j,v=.str i/\v'=.str j/\k (!(Ycb j i 0 j.length 1).isEmpty))\/(∃p xs,v'=.ref p/\(SqL X.K H p xs\/SqT X.K H p xs)/\jdh v=true/\xs.all jdh=true/\k (inV v xs))\/
   (∃a o,v'=.ref a/\DGet H a v o/\k o.isSome)\/∃(p:Addr) (vs:List V) (d:PyData) (ds:List PyData),v'=.ref p/\(SqL X.K H p vs\/SqT X.K H p vs)/\DV X.K H v d/\DVs X.K H vs ds/\d.canLay0=true/\d.depth<=100/\(∀e∈ds,e.canLay0=true)/\k (ds.any λe=>YaI e d):=by
 unfold inU at h;split at h
 ·cases rx;cases ry;exact .inl ⟨_,_,rfl,rfl,h⟩
 ·obtain⟨a,vs,rfl,e,rs⟩:=ry;obtain⟨d,ds,hd,hds,sd,sds,q⟩:=h;exact .inr (.inr (.inr ⟨a,vs,d,ds,rfl,.inr (.of e),hd.dv hG rx,hds.dv hG rs,sd.1,sd.2,λe he=>(sds e he).1,q⟩))
 ·obtain⟨a,vs,rfl,e,rs⟩:=ry;obtain⟨f1,f2,q⟩:=h;exact .inr (.inl ⟨a,vs,rfl,.inr (.of e),jeK rx f1,jdm rs f2,by rw[jg3 rx f1 rs f2];exact q⟩)
 ·cases ry;rename_i a;split at h
  ·rename_i ys g;obtain⟨vs,e,rs⟩:=hG.lst g;rcases h with⟨f1,f2,q⟩|⟨d,ds,hd,hds,sd,sds,q⟩
   ·exact .inr (.inl ⟨a,vs,rfl,.inl (.of e),jeK rx f1,jdm rs f2,by rw[jg3 rx f1 rs f2];exact q⟩)
   ·exact .inr (.inr (.inr ⟨a,vs,d,ds,rfl,.inl (.of e),hd.dv hG rx,hds.dv hG rs,sd.1,sd.2,λe he=>(sds e he).1,q⟩))
  ·rename_i ys g;obtain⟨ob,vs,e,rs⟩:=hG a _ g;obtain⟨f1,f2,q⟩:=h;exact .inr (.inl ⟨a,vs,rfl,.inl (.inl (.inr ⟨ob,e⟩)),jeK rx f1,jdm rs f2,by rw[jg3 rx f1 rs f2];exact q⟩)
  ·rename_i kvs g;obtain⟨l,e,rs⟩:=hG a _ g;split at h
   ·rename_i y ek;have:=jfY rx ek;subst this;exact .inr (.inr (.inl ⟨a,_,rfl,DGet.k e,by rw[jdN y rs];exact h⟩))
   ·exact h.elim
  ·rename_i kvs g;obtain⟨l,e,rs⟩:=hG a _ g;split at h
   ·rename_i xs;obtain⟨b,vs,rfl,eb,rb⟩:=rx;split at h
    ·rename_i y ek;have:=jgH rb ek;subst this;exact .inr (.inr (.inl ⟨a,_,rfl,DGet.t e eb,by rw[jdN y rs];exact h⟩))
    ·exact h.elim
   ·exact h.elim
  ·rename_i o kvs g;obtain⟨l,e,rs⟩:=hG a _ g;split at h
   ·rename_i y ek;have:=jfY rx ek;subst this;exact .inr (.inr (.inl ⟨a,_,rfl,.inl ⟨l,y,.inr ⟨o,e⟩,rfl,rfl⟩,by rw[jdN y rs];exact h⟩))
   ·exact h.elim
  ·exact h.elim
 ·exact h.elim
def jfR {o:CmpOp}{x y:U}{k:Bool->Prop}(h:ordU o x y k):(∃i j,x=.int i/\y=.int j)\/(o=.LtE/\∃i j,x=.str i/\y=.str j):=by
 unfold ordU at h;split at h<;>first|exact .inl ⟨_,_,rfl,rfl⟩|exact .inr ⟨rfl,_,_,rfl,rfl⟩|exact h.elim
def jex {k:Nat}(hr:Room k X.A)(o:CmpOp):CmU X o:=by
 have hu:X.A.units+1<cLine:=by have:=hr.un;omega
 cases o with
 |Eq=>
  refine⟨_,jqn.or ((jnY hr).or ((jeH hr).or ((jhf hr).or (je8 hr)))),λx y v v' G H k Q0 rx ry hG h q=>?_⟩;rcases jmv rx ry hG h with h|⟨a,z,kvs,h1,h2,h3,h4⟩|⟨a,b,xs,h1,h2,h3,h4,h5⟩|⟨a,z,xs,h1,h2,h3,h4⟩
  ·rcases jkI rx ry hG h with⟨h1,h2⟩|⟨d,e,h1,h2,h3,h4,h5,h6⟩
   ·exact .inl ⟨h1,q _ h2⟩
   ·exact .inr (.inl ⟨d,e,h1,h2,h3,h4,h5,q _ h6⟩)
  ·exact .inr (.inr (.inl ⟨a,z,kvs,h1,h2,h3,q _ h4⟩))
  ·exact .inr (.inr (.inr (.inl ⟨a,b,xs,h1,h2,h3,h4,q _ h5⟩)))
  ·exact .inr (.inr (.inr (.inr ⟨a,z,xs,h1,h2,h3,q _ h4⟩)))
 |NotEq=>
  refine⟨_,jqj.or (jnT hr),λx y v v' G H k Q0 rx ry hG h q=>?_⟩;rcases jkI rx ry hG h with⟨h1,h2⟩|⟨d,e,h1,h2,h3,h4,h5,h6⟩
  ·exact .inl ⟨h1,q _ h2⟩
  ·exact .inr ⟨d,e,h1,h2,h3,h4,h5,q _ h6⟩
 |Is=>
  refine⟨_,jnW,λx y v v' G H k Q0 rx ry hG h q=>?_⟩;obtain⟨h1,h2⟩:=jkA rx ry h;exact⟨h1,q _ h2⟩
 |IsNot=>
  refine⟨_,jhY,λx y v v' G H k Q0 rx ry hG h q=>?_⟩;obtain⟨h1,h2⟩:=jkA rx ry h;exact⟨h1,q _ h2⟩
 |In=>
  refine⟨_,jhZ.or ((jh0 (X:=X)).or ((jnZ hu).or (jnX hr))),λx y v v' G H k Q0 rx ry hG h q=>?_⟩;rcases jkC rx ry hG h with⟨i,j,h1,h2,h3⟩|⟨p,xs,h1,h2,h3,h4,h5⟩|⟨a,o,h1,h2,h3⟩|⟨p,vs,d,ds,h1,h2,h3,h4,h5,h6,h7,h8⟩
  ·exact .inl ⟨i,j,h1,h2,q _ h3⟩
  ·exact .inr (.inl ⟨p,xs,h1,h2,h3,h4,q _ h5⟩)
  ·exact .inr (.inr (.inl ⟨a,o,h1,h2,q _ h3⟩))
  ·exact .inr (.inr (.inr ⟨p,vs,d,ds,h1,h2,h3,h4,h5,h6,h7,q _ h8⟩))
 |NotIn=>
  refine⟨_,je6.or ((je7 (X:=X)).or ((jh1 hu).or (jhW hr))),λx y v v' G H k Q0 rx ry hG h q=>?_⟩;rcases jkC rx ry hG h with⟨i,j,h1,h2,h3⟩|⟨p,xs,h1,h2,h3,h4,h5⟩|⟨a,o,h1,h2,h3⟩|⟨p,vs,d,ds,h1,h2,h3,h4,h5,h6,h7,h8⟩
  ·exact .inl ⟨i,j,h1,h2,q _ h3⟩
  ·exact .inr (.inl ⟨p,xs,h1,h2,h3,h4,q _ h5⟩)
  ·exact .inr (.inr (.inl ⟨a,o,h1,h2,q _ h3⟩))
  ·exact .inr (.inr (.inr ⟨p,vs,d,ds,h1,h2,h3,h4,h5,h6,h7,q _ h8⟩))
 |Lt=>
  refine⟨_,jqk,λx y v v' G H k Q0 rx ry hG h q=>?_⟩;obtain⟨i,j,rfl,rfl⟩|⟨z,_⟩:=jfR h
  rotate_left
  ·cases z
  cases rx;cases ry;exact⟨_,_,rfl,rfl,q _ h⟩
 |LtE=>
  refine⟨_,jql.or jhX,λx y v v' G H k Q0 rx ry hG h q=>?_⟩;obtain⟨i,j,rfl,rfl⟩|⟨_,i,j,rfl,rfl⟩:=jfR h
  ·cases rx;cases ry;exact .inl ⟨_,_,rfl,rfl,q _ h⟩
  ·cases rx;cases ry;exact .inr ⟨_,_,rfl,rfl,q _ h⟩
 |Gt=>
  refine⟨_,jqm,λx y v v' G H k Q0 rx ry hG h q=>?_⟩;obtain⟨i,j,rfl,rfl⟩|⟨z,_⟩:=jfR h
  rotate_left
  ·cases z
  cases rx;cases ry;exact⟨_,_,rfl,rfl,q _ h⟩
 |GtE=>exact⟨λ_ _ _ _=>False,λ_ _ _ _ _ _ _ _ _ _ _ _ h=>h.elim,λ_ _ _ _ _ _ _ _ _ _ _ h _=>h.elim⟩
variable {pos:Pos}{a b c:Expr}{ta tb tc:UE}{tA tB:UT}
def jpG {o:CmpOp}(ho:CmU X o)(ha:PE X a (lE X ta))(hb:PE X b (lE X tb))(hm:YdY o b=false) :
  PE X (.Compare a [o] [b] pos) (lE X λς G Q E=>ta ς G (λx G1=>tb ς G1 (λy G2=>cmpU o x y G2 λc=>Q (.bl c) G2) E) E):=by
 obtain⟨r,h1,h2⟩:=ho;exact(jlx h1 ha hb hm).imp λσ H Q0 h=>lE.two h λx y v v' G H' Q rx ry hG q lv=>h2 x y v v' G H' _ Q0 rx ry hG q λc q=>lv.bl hG q
def jmR {o o':CmpOp}(ho:CmU X o)(ho':CmU X o')(ha:PE X a (lE X ta))(hb:PE X b (lE X tb))(hc:PE X c (lE X tc))(hm:YfX [o,o'] [b,c]=false) :
  PE X (.Compare a [o,o'] [b,c] pos) (lE X λς G Q E=>ta ς G (λx G1=>tb ς G1 (λy G2=>cmpU o x y G2 λt=>if t=true then tc ς G2 (λz G3=>cmpU o' y z G3 λt'=>Q (.bl t') G3) E else Q (.bl false) G2) E) E):=by
 obtain⟨r,h1,h2⟩:=ho;obtain⟨r',h1',h2'⟩:=ho';refine(jjw h1 h1' ha hb hc hm).imp λσ H Q0 h=>?_;obtain⟨ς,G,Q,E,hς,hG,h,lv,lx⟩:=h;refine⟨ς,G,_,E,hς,hG,h,λx v G1 H1 rx hG1 f1 h1=>?_,lx⟩;refine⟨ς,G1,_,E,hς.ts (f1.ts hG),hG1,h1,λy v' G2 H2 ry hG2 f2 h3=>?_,lx.fr f1⟩;refine h2 x y v v' G2 H2 _ _ (rx.ts (f2.ts hG1)) ry hG2 h3 λt q=>⟨t,rfl,?_⟩;cases t with
 |false=>
  rw[if_neg Yan]at q ⊢;exact(lv.fr (f1.trans f2)).bl hG2 q
 |true=>
  rw[if_pos rfl]at q ⊢;refine⟨ς,G2,_,E,(hς.ts (f1.ts hG)).ts (f2.ts hG1),hG2,q,λz v3 G3 H3 rz hG3 f3 h4=>?_,lx.fr (f1.trans f2)⟩;exact h2' y z v' v3 G3 H3 _ Q0 (ry.ts (f3.ts hG2)) rz hG3 h4 λc q=>(lv.fr ((f1.trans f2).trans f3)).bl hG3 q
def jeB {H:Hp}{G:Gp}{x:U}{v:V}{k:Bool->Prop}(rx:RU X.K H x v)(hG:HR X.K H G)(h:truU x G k):∃b,TruV X.K v H b/\k b:=by
 unfold truU at h;split at h
 ·cases rx;exact⟨_,rfl,h⟩
 ·cases rx;exact⟨_,rfl,h⟩
 ·cases rx;exact⟨_,rfl,h⟩
 ·cases rx;exact⟨_,⟨h.1,rfl⟩,h.2⟩
 ·obtain⟨a,vs,rfl,e,rs⟩:=rx;exact⟨_,.inr (.inl ⟨vs,.of e,rfl⟩),by rw[<- rs.isEmpty];exact h⟩
 ·cases rx;split at h
  ·rename_i g;obtain⟨vs,e,rs⟩:=hG.lst g;exact⟨_,.inl ⟨vs,.of e,rfl⟩,by rw[<- rs.isEmpty];exact h⟩
  ·rename_i g;obtain⟨ob,vs,e,rs⟩:=hG _ _ g;exact⟨_,.inl ⟨vs,.inl (.inr ⟨ob,e⟩),rfl⟩,by rw[<- rs.isEmpty];exact h⟩
  ·rename_i kvs g;obtain⟨l,e,rs⟩:=hG _ _ g;refine⟨_,.inr (.inr ⟨l,e,rfl⟩),?_⟩;cases kvs with
   |nil=>cases rs;exact h
   |cons p r=>obtain⟨v,l',rfl,_⟩:=rs;exact h
  ·exact h.elim
 ·exact h.elim
def jpv (ha:PE X a (lE X ta))(he:∀whole,isTrue a X.env whole=(do let v <- whole;standAt a.pos;holding [v] (truthy v))):PT X a (lT X λς G Q E=>ta ς G (λx G1=>truU x G1 λb=>Q b G1) E):=by
 refine(jjj ha he).imp λσ H Q0 h=>?_;obtain⟨ς,G,Q,E,hς,hG,h,lv,lx⟩:=h;refine⟨ς,G,_,E,hς,hG,h,λx v G1 H1 rx hG1 f1 h1=>?_,lx⟩;obtain⟨b,h2,h3⟩:=jeB rx hG1 h1;exact⟨b,h2,lv b G1 H1 hG1 f1 h3⟩
def jmQ {o:CmpOp}(ho:CmU X o)(ha:PE X a (lE X ta))(hb:PE X b (lE X tb))(hm:YdY o b=false) :
  PT X (.Compare a [o] [b] pos) (lT X λς G Q E=>ta ς G (λx G1=>tb ς G1 (λy G2=>cmpU o x y G2 λc=>truU (.bl c) G2 λc=>Q c G2) E) E):=by
 obtain⟨r,h1,h2⟩:=ho;refine(jlh h1 ha hb hm).imp λσ H Q0 h=>?_;obtain⟨ς,G,Q,E,hς,hG,h,lv,lx⟩:=h;refine⟨ς,G,_,E,hς,hG,h,λx v G1 H1 rx hG1 f1 h1=>?_,lx⟩;refine⟨ς,G1,_,E,hς.ts (f1.ts hG),hG1,h1,λy v' G2 H2 ry hG2 f2 h3=>?_,lx.fr f1⟩;exact h2 x y v v' G2 H2 _ _ (rx.ts (f2.ts hG1)) ry hG2 h3 λt q=>⟨t,rfl,lv t G2 H2 hG2 (f1.trans f2) q⟩
def jkV {o o':CmpOp}(ho:CmU X o)(ho':CmU X o')(ha:PE X a (lE X ta))(hb:PE X b (lE X tb))(hc:PE X c (lE X tc))(hm:YfX [o,o'] [b,c]=false) :
  PT X (.Compare a [o,o'] [b,c] pos) (lT X λς G Q E=>ta ς G (λx G1=>tb ς G1 (λy G2=>cmpU o x y G2 λt=>if t=true then tc ς G2 (λz G3=>cmpU o' y z G3 λt'=>truU (.bl t') G3 λc=>Q c G3) E else truU (.bl false) G2 λc=>Q c G2) E) E):=by
 obtain⟨r,h1,h2⟩:=ho;obtain⟨r',h1',h2'⟩:=ho';refine(jjk h1 h1' ha hb hc hm).imp λσ H Q0 h=>?_;obtain⟨ς,G,Q,E,hς,hG,h,lv,lx⟩:=h;refine⟨ς,G,_,E,hς,hG,h,λx v G1 H1 rx hG1 f1 h1=>?_,lx⟩;refine⟨ς,G1,_,E,hς.ts (f1.ts hG),hG1,h1,λy v' G2 H2 ry hG2 f2 h3=>?_,lx.fr f1⟩;refine h2 x y v v' G2 H2 _ _ (rx.ts (f2.ts hG1)) ry hG2 h3 λt q=>⟨t,rfl,?_⟩;cases t with
 |false=>
  rw[if_neg Yan]at q ⊢;exact⟨false,rfl,lv false G2 H2 hG2 (f1.trans f2) q⟩
 |true=>
  rw[if_pos rfl]at q ⊢;refine⟨ς,G2,_,E,(hς.ts (f1.ts hG)).ts (f2.ts hG1),hG2,q,λz v3 G3 H3 rz hG3 f3 h4=>?_,lx.fr (f1.trans f2)⟩;exact h2' y z v' v3 G3 H3 _ _ (ry.ts (f3.ts hG2)) rz hG3 h4 λc q=>⟨c,rfl,lv c G3 H3 hG3 ((f1.trans f2).trans f3) q⟩
section
variable {rest:List Expr}
def jlz {sa sb:TE}(ha:PE X a sa)(hb:PE X (.BoolOp .And (b::rest) pos) sb):PE X (.BoolOp .And (a::b::rest) pos) (λσ H Q=>sa σ H λx H1=>∃k,TruV X.K x H1 k/\if k=true then sb σ H1 Q else Q x H1):=by
 intro pins s σ H Q I h;refine PyProof.Rows.BoolOp_and (thn (ha pins s σ H _ I h) λv s1 ⟨x,H1,I1,r1,k,hk,q1⟩=>?_);refine thn (jgf pins s1 σ H1 x v (λc H2=>c=k/\H2=H1) I1 r1 ⟨k,hk,rfl,rfl⟩) λc s2 ⟨H2,I2,e1,e2⟩=>?_;subst e1 e2;cases c with
 |true=>exact hb pins s2 σ H2 Q I2 q1
 |false=>exact⟨x,H2,I2,r1,q1⟩
def jnD {sa sb:TE}(ha:PE X a sa)(hb:PE X (.BoolOp .Or (b::rest) pos) sb):PE X (.BoolOp .Or (a::b::rest) pos) (λσ H Q=>sa σ H λx H1=>∃k,TruV X.K x H1 k/\if k=true then Q x H1 else sb σ H1 Q):=by
 intro pins s σ H Q I h;refine PyProof.Rows.BoolOp_or (thn (ha pins s σ H _ I h) λv s1 ⟨x,H1,I1,r1,k,hk,q1⟩=>?_);refine thn (jgf pins s1 σ H1 x v (λc H2=>c=k/\H2=H1) I1 r1 ⟨k,hk,rfl,rfl⟩) λc s2 ⟨H2,I2,e1,e2⟩=>?_;subst e1 e2;cases c with
 |true=>exact⟨x,H2,I2,r1,q1⟩
 |false=>exact hb pins s2 σ H2 Q I2 q1
def jpJ (ha:PE X a (lE X ta))(hb:PE X (.BoolOp .And (b::rest) pos) (lE X tb)):PE X (.BoolOp .And (a::b::rest) pos) (lE X λς G Q E=>ta ς G (λx G1=>truU x G1 λc=>if c=true then tb ς G1 Q E else Q x G1) E):=by
 refine(jlz ha hb).imp λσ H Q0 h=>?_;obtain⟨ς,G,Q,E,hς,hG,h,lv,lx⟩:=h;refine⟨ς,G,_,E,hς,hG,h,λx v G1 H1 rx hG1 f1 h1=>?_,lx⟩;obtain⟨k,h2,h3⟩:=jeB rx hG1 h1;refine⟨k,h2,?_⟩;cases k with
 |true=>rw[if_pos rfl]at h3 ⊢;exact⟨ς,G1,Q,E,hς.ts (f1.ts hG),hG1,h3,lv.fr f1,lx.fr f1⟩
 |false=>rw[if_neg Yan]at h3 ⊢;exact(lv.fr f1).here rx hG1 h3
def u_or (ha:PE X a (lE X ta))(hb:PE X (.BoolOp .Or (b::rest) pos) (lE X tb)):PE X (.BoolOp .Or (a::b::rest) pos) (lE X λς G Q E=>ta ς G (λx G1=>truU x G1 λc=>if c=true then Q x G1 else tb ς G1 Q E) E):=by
 refine(jnD ha hb).imp λσ H Q0 h=>?_;obtain⟨ς,G,Q,E,hς,hG,h,lv,lx⟩:=h;refine⟨ς,G,_,E,hς,hG,h,λx v G1 H1 rx hG1 f1 h1=>?_,lx⟩;obtain⟨k,h2,h3⟩:=jeB rx hG1 h1;refine⟨k,h2,?_⟩;cases k with
 |true=>rw[if_pos rfl]at h3 ⊢;exact(lv.fr f1).here rx hG1 h3
 |false=>rw[if_neg Yan]at h3 ⊢;exact⟨ς,G1,Q,E,hς.ts (f1.ts hG),hG1,h3,lv.fr f1,lx.fr f1⟩
end
def jpy (ha:PE X a (lE X ta)):PE X (.UnaryOp .Not a pos) (lE X λς G Q E=>ta ς G (λx G1=>truU x G1 λb=>Q (.bl (!b)) G1) E):=by
 intro pins s σ H Q0 I h;obtain⟨ς,G,Q,E,hς,hG,h,lv,lx⟩:=h;refine PyProof.Rows.UnaryOp_ (thn (ha pins s σ H (λv H1=>∃k,TruV X.K v H1 k/\Q0 (.bl (!k)) H1) I ⟨ς,G,_,E,hς,hG,h,λx v G1 H1 rx hG1 f1 h1=>?_,lx⟩) λv s1 ⟨x,H1,I1,r1,k,hk,q1⟩=>?_)
 ·obtain⟨k,h2,h3⟩:=jeB rx hG1 h1;exact⟨k,h2,(lv.fr f1).bl hG1 h3⟩
 ·refine PyProof.Rows.not_of (thn (jgf pins s1 σ H1 x v (λc H2=>c=k/\H2=H1) I1 r1 ⟨k,hk,rfl,rfl⟩) λc s2 ⟨H2,I2,e1,e2⟩=>?_);subst e1 e2;exact⟨.bl (!c),H2,I2,rfl,q1⟩
def jmN (hc:PT X c (lT X tA)){tC:UT}(ha:PT X a (lT X tB))(hb:PT X b (lT X tC)):PT X (.IfExp c a b pos) (lT X λς G Q E=>tA ς G (λt G1=>if t=true then tB ς G1 Q E else tC ς G1 Q E) E):=by
 intro pins s σ H Q0 I h;obtain⟨ς,G,Q,E,hς,hG,h,lv,lx⟩:=h;show wpAny _ _ (do if <- isTrue c X.env (eval c X.env) then isTrue a X.env (eval a X.env) else isTrue b X.env (eval b X.env)) _ _ s
 refine Yag (thn (hc pins s σ H (λt H1=>∃G1,HR X.K H1 G1/\Fr H G H1 G1/\if t=true then tB ς G1 Q E else tC ς G1 Q E) I ⟨ς,G,_,E,hς,hG,h,λt G1 H1 hG1 f1 h1=>⟨G1,hG1,f1,h1⟩,lx⟩) λt s1 ⟨H1,I1,G1,hG1,f1,h1⟩=>?_)
 cases t with
 |true=>exact ha pins s1 σ H1 Q0 I1 ⟨ς,G1,Q,E,hς.ts (f1.ts hG),hG1,h1,λb G2 H2 hG2 f2 h2=>lv b G2 H2 hG2 (f1.trans f2) h2,lx.fr f1⟩
 |false=>exact hb pins s1 σ H1 Q0 I1 ⟨ς,G1,Q,E,hς.ts (f1.ts hG),hG1,h1,λb G2 H2 hG2 f2 h2=>lv b G2 H2 hG2 (f1.trans f2) h2,lx.fr f1⟩
def jmL (ha:PT X a (lT X tA)):PT X (.UnaryOp .Not a pos) (lT X λς G Q E=>tA ς G (λb G1=>Q (!b) G1) E):=by
 refine(jnn ha).imp λσ H Q0 h=>?_;obtain⟨ς,G,Q,E,hς,hG,h,lv,lx⟩:=h;exact⟨ς,G,_,E,hς,hG,h,λb G1 H1 hG1 f1 h1=>lv (!b) G1 H1 hG1 f1 h1,lx⟩
def jmT {rest:List Expr}(ha:PT X a (lT X tA))(hb:PW X (.BoolOp .And (b::rest) pos) (lT X tB)):PW X (.BoolOp .And (a::b::rest) pos) (lT X λς G Q E=>tA ς G (λc G1=>if c=true then tB ς G1 Q E else Q false G1) E):=by
 refine(pw_and ha hb).imp λσ H Q0 h=>?_;obtain⟨ς,G,Q,E,hς,hG,h,lv,lx⟩:=h;refine⟨ς,G,_,E,hς,hG,h,λc G1 H1 hG1 f1 h1=>?_,lx⟩;cases c with
 |false=>rw[if_neg Yan]at h1 ⊢;exact lv false G1 H1 hG1 f1 h1
 |true=>rw[if_pos rfl]at h1 ⊢;exact⟨ς,G1,Q,E,hς.ts (f1.ts hG),hG1,h1,λb G2 H2 hG2 f2 h2=>lv b G2 H2 hG2 (f1.trans f2) h2,lx.fr f1⟩
def jpx {rest:List Expr}(ha:PT X a (lT X tA))(hb:PW X (.BoolOp .Or (b::rest) pos) (lT X tB)):PW X (.BoolOp .Or (a::b::rest) pos) (lT X λς G Q E=>tA ς G (λc G1=>if c=true then Q true G1 else tB ς G1 Q E) E):=by
 refine(pw_or ha hb).imp λσ H Q0 h=>?_;obtain⟨ς,G,Q,E,hς,hG,h,lv,lx⟩:=h;refine⟨ς,G,_,E,hς,hG,h,λc G1 H1 hG1 f1 h1=>?_,lx⟩;cases c with
 |true=>rw[if_pos rfl]at h1 ⊢;exact lv true G1 H1 hG1 f1 h1
 |false=>rw[if_neg Yan]at h1 ⊢;exact⟨ς,G1,Q,E,hς.ts (f1.ts hG),hG1,h1,λb G2 H2 hG2 f2 h2=>lv b G2 H2 hG2 (f1.trans f2) h2,lx.fr f1⟩
def jpE (hc:PT X c (lT X tA))(ha:PE X a (lE X ta))(hb:PE X b (lE X tb)):PE X (.IfExp c a b pos) (lE X λς G Q E=>tA ς G (λt G1=>if t=true then ta ς G1 Q E else tb ς G1 Q E) E):=by
 refine(jju hc ha hb).imp λσ H Q0 h=>?_;obtain⟨ς,G,Q,E,hς,hG,h,lv,lx⟩:=h;refine⟨ς,G,_,E,hς,hG,h,λc G1 H1 hG1 f1 h1=>?_,lx⟩;cases c with
 |true=>rw[if_pos rfl]at h1 ⊢;exact⟨ς,G1,Q,E,hς.ts (f1.ts hG),hG1,h1,lv.fr f1,lx.fr f1⟩
 |false=>rw[if_neg Yan]at h1 ⊢;exact⟨ς,G1,Q,E,hς.ts (f1.ts hG),hG1,h1,lv.fr f1,lx.fr f1⟩
end
end Z

namespace L2
open PySem PySem.Spec PyProof.Rows
section
variable {X:Cx}{e st:Expr}{te tst:TE}{pos p2:Pos}
def jpK (K:Yac)(te tst:TE):TE:=λσ H Q=>te σ H λx H1=>tst σ H1 λy H2=>(∃a xs,x=.ref a/\SqL K H2 a xs/\
 ((y=.int 1/\∀p,H2 p=none->Q (.ref p) (upd H2 p (.lst xs)))\/(y=.int (-1)/\∀p,H2 p=none->Q (.ref p) (upd H2 p (.lst xs.reverse)))))\/
 ∃a xs,x=.ref a/\SqT K H2 a xs/\y=.int (-1)/\∀p,H2 p=none->Q (.ref p) (upd H2 p (.tup xs.reverse))
def jlu (he:PE X e te)(hs:PE X st tst):PE X (.Subscript e (.Slice none none (some st) p2) pos) (jpK X.K te tst):=by
 intro pins s σ H Q I h;refine Subscript_ (thn (he pins s σ H _ I h) λv s1 ⟨x,H1,I1,r1,q1⟩=>?_);refine wpAny_Slice ?_;rw[Yfs,evalPart_some];refine Yar (Yar ?_);refine thn (hs pins s1 σ H1 _ I1 q1) λu s3 ⟨y,H3,I3,r3,q3⟩=>?_;have I4:Inv X pins σ H3 { s3 with heap:=s3.heap.push { cls:=.type "slice",data:=.fields #[.none,.none,u] } }:=I3.kept (t':=s3.toks) λb ob q=>Yae _ q
 rcases q3 with⟨a,xs,rfl,hx,q3⟩|⟨a,xs,rfl,hx,rfl,q⟩
 ·cases r1;obtain⟨its,r,ht,hz⟩:=I4.list hx;have hlen:=r.length;show wpAny (model X.prog X.w) X.A (YdV e (.Slice none none (some st) p2) (.ref a) (.ref s3.heap.objs.size)) (EP X pins σ Q) X.xe { s3 with heap:=s3.heap.push { cls:=.type "slice",data:=.fields #[.none,.none,u] } }
  refine tail_any (ops:=[.ref a,.ref s3.heap.objs.size]) ht.isList.typeIs slot_list_getitem.lookup ?_ (by with_unfolding_all rfl)
  rcases q3 with⟨rfl,q⟩|⟨rfl,q⟩
  ·obtain⟨t,rfl⟩:=r3;refine Yc1 ht.isList (Heap.IsSliceOf.new ..) .none .none (.int 1 t) (by decide) ?_ (by rw[Yaj]<;>omega)
   rw[jj9];refine⟨.ref _,_,I4.laid (t':=s3.toks) (o:=.lst xs) (λb ob q=>Yae _ q) (Yaf _) ?_,rfl,q _ (I4.hok.fresh (Yaf _))⟩;exact⟨hz,_,0,r,Yas _ rfl⟩
  ·obtain⟨t,rfl⟩:=r3;refine Yc1 ht.isList (Heap.IsSliceOf.new ..) .none .none (.int (-1) t) (by decide) ?_ (by rw[Yaj]<;>omega)
   rw[jjf];refine⟨.ref _,_,I4.laid (t':=s3.toks) (o:=.lst xs.reverse) (λb ob q=>Yae _ q) (Yaf _) ?_,rfl,q _ (I4.hok.fresh (Yaf _))⟩;exact⟨by rw[Ydo];exact hz,_,0,r.rev,Yas _ rfl⟩
 ·cases r1;obtain⟨t,rfl⟩:=r3;obtain⟨its,r,ht,hz⟩:=I4.tuple hx;have hlen:=r.length;show wpAny (model X.prog X.w) X.A (YdV e (.Slice none none (some st) p2) (.ref a) (.ref s3.heap.objs.size)) (EP X pins σ Q) X.xe { s3 with heap:=s3.heap.push { cls:=.type "slice",data:=.fields #[.none,.none,.int (-1) t] } }
  refine tail_any (ops:=[.ref a,.ref s3.heap.objs.size]) ht.typeIs Ya3.lookup ?_ (by with_unfolding_all rfl)
  refine HT.getItem_tuple_rev ht (Heap.IsSliceOf.new ..) ?_ (by rw[<- hlen];exact hz)
  refine⟨.ref _,_,I4.laid (t':=s3.toks) (o:=.tup xs.reverse) (λb ob q=>Yae _ q) (Yaf _) ?_,rfl,q _ (I4.hok.fresh (Yaf _))⟩;exact⟨by rw[Ydo];exact hz,_,r.rev,TupD.new _ _⟩
end
end L2
namespace Z
open PySem L2
section
variable {X:Cx}{pos:Pos}{a b e:Expr}{es:List Expr}{ta tb te:UE}{ts:UA}
def jg5:PA X [] (lA X λ_ G Q _=>Q [] G):=by
 refine jnI.imp λσ H Q0 h=>?_;obtain⟨ς,G,Q,E,hς,hG,h,lv,lx⟩:=h;exact lv [] [] G H rfl hG (Fr.refl _ _) h
def jeb (ha:PE X e (lE X te))(hr:PA X es (lA X ts))(hs:YaP (e::es) X.env=(false,eval e X.env)::YaP es X.env):PA X (e::es) (lA X λς G Q E=>te ς G (λx G1=>ts ς G1 (λxs G2=>Q (x::xs) G2) E) E):=by
 refine(jlA ha hr hs).imp λσ H Q0 h=>?_;obtain⟨ς,G,Q,E,hς,hG,h,lv,lx⟩:=h;refine⟨ς,G,_,E,hς,hG,h,λx v G1 H1 rx hG1 f1 h1=>?_,lx⟩;refine⟨ς,G1,_,E,hς.ts (f1.ts hG),hG1,h1,λxs vs G2 H2 rxs hG2 f2 h2=>?_,lx.fr f1⟩;exact lv (x::xs) (v::vs) G2 H2 ⟨v,vs,rfl,rx.ts (f2.ts hG1),rxs⟩ hG2 (f1.trans f2) h2
def jps {k}(h:PA X es (lA X ts)):PE X (.Tuple es k pos) (lE X λς G Q E=>ts ς G (λus G1=>us.length<=Yak/\Q (.tup us) G1) E):=
 (jnB h).imp λσ H Q0 h=>lE.many h λus vs G H' Q r hG q lv=>⟨by rw[<- r.length];exact q.1,λp hp=>lv.tup hp r hG q.2⟩
def jpD (h:PA X es (lA X ts)):PE X (.List es pos) (lE X λς G Q E=>ts ς G (λus G1=>us.length<=Yak/\newO G1 (.lst us) Q) E):=
 (jnF h).imp λσ H Q0 h=>lE.many h λus vs G H' Q r hG q lv=>⟨by rw[<- r.length];exact q.1,λp hp=>lv.lst hp r hG q.2⟩
def rDix:R2:=λx y H Q=>∃a v,x=.ref a/\DGet H a y (some v)/\Q v H
def jmb (hu:X.A.units+1<cLine):IxR X rDix:=by
 intro value slice pins s σ H x y v u Q I rx ry h hs;obtain⟨a,w,rfl,g,q⟩:=h;cases rx;exact PyProof.Rows.tail_any (jf5 I g) PySem.F.slot_dict_getitem.lookup (jiO hu I g ry λw' s3 I3 rw'=>⟨w,H,I3,rw',q⟩) hs
def jky {H:Hp}{G:Gp}{y:U}{v':V}{Q:K1}{Q0:VK}{a:Addr}{xs:List U}{vs:List V}(h:match y with|.int i=>(match atI xs i with|some u=>Q u G|none=>False)|_=>False)
  (ry:RU X.K H y v') (hG:HR X.K H G) (lv:LV X H G Q Q0) (sq:SqL X.K H a vs) (rs:RUs X.K H xs vs):rIx X.K (.ref a) v' H Q0:=by
 cases y with
 |int i=>
  cases ry;dsimp only at h;split at h
  ·rename_i u e;obtain⟨w,e2,r⟩:=rs.atI e;exact .inl ⟨_,vs,_,w,rfl,rfl,sq,e2,lv.here r hG h⟩
  ·exact h.elim
 |_=>exact h.elim
def jop {H:Hp}{G:Gp}{x y:U}{v v':V}{Q:K1}{Q0:VK}(rx:RU X.K H x v)(ry:RU X.K H y v')(hG:HR X.K H G)(h:ixU x y G Q)(lv:LV X H G Q Q0):rIx X.K v v' H Q0\/rDix v v' H Q0:=by
 unfold ixU at h;split at h
 ·obtain⟨a,vs,rfl,e,rs⟩:=rx;cases ry;split at h
  ·rename_i u e1;obtain⟨w,e2,r⟩:=rs.atI e1;exact .inl (.inr (.inl ⟨a,vs,_,w,rfl,rfl,.of e,e2,lv.here r hG h⟩))
  ·exact h.elim
 ·cases rx;cases ry;obtain⟨h1,h⟩:=h;split at h
  ·rename_i c e1;exact .inl (.inr (.inr ⟨_,_,c,rfl,rfl,h1,e1,lv.str hG h⟩))
  ·exact h.elim
 ·cases rx;split at h
  ·rename_i g;obtain⟨vs,e,rs⟩:=hG.lst g;exact .inl (jky h ry hG lv (.of e) rs)
  ·rename_i g;obtain⟨ob,vs,e,rs⟩:=hG _ _ g;exact .inl (jky h ry hG lv (.inl (.inr ⟨ob,e⟩)) rs)
  ·rename_i kvs g;obtain⟨l,e,rs⟩:=hG _ _ g;split at h
   ·rename_i k ek;have:=jfY ry ek;subst this;split at h
    ·rename_i u eu;have:=jdo k rs;rw[eu]at this;obtain⟨w,e2,r⟩:=this;exact .inr ⟨_,w,rfl,by rw[<- e2];exact DGet.k e,lv.here r hG h⟩
    ·exact h.elim
   ·exact h.elim
  ·rename_i kvs g;obtain⟨l,e,rs⟩:=hG _ _ g;split at h
   ·rename_i ys;obtain⟨b,bs,rfl,eb,rb⟩:=ry;split at h
    ·rename_i k ek;have:=jgH rb ek;subst this;split at h
     ·rename_i u eu;have:=jdo k rs;rw[eu]at this;obtain⟨w,e2,r⟩:=this;exact .inr ⟨_,w,rfl,by rw[<- e2];exact DGet.t e eb,lv.here r hG h⟩
     ·exact h.elim
    ·exact h.elim
   ·exact h.elim
  ·rename_i o kvs g;obtain⟨l,e,rs⟩:=hG _ _ g;split at h
   ·rename_i k ek;have:=jfY ry ek;subst this;split at h
    ·rename_i u eu;have:=jdo k rs;rw[eu]at this;obtain⟨w,e2,r⟩:=this;exact .inr ⟨_,w,rfl,by rw[<- e2];exact .inl ⟨l,k,.inr ⟨o,e⟩,rfl,rfl⟩,lv.here r hG h⟩
    ·exact h.elim
   ·exact h.elim
  ·exact h.elim
 ·exact h.elim
def u_ix (hu:X.A.units+1<cLine)(ha:PE X a (lE X ta))(hb:PE X b (lE X tb))(hs:jgb b):PE X (.Subscript a b pos) (lE X λς G Q E=>ta ς G (λx G1=>tb ς G1 (λy G2=>ixU x y G2 Q) E) E):=
 (jqh ((joo (X:=X)).or (jmb hu)) ha hb hs).imp λσ H Q0 h=>lE.two h λx y v v' G H' Q rx ry hG q lv=>jop rx ry hG q lv
def u_no:PO X none (lO X λ_ G Q _=>Q none G):=jln.imp λσ H Q0 h=>by
 obtain⟨ς,G,Q,E,hς,hG,h,lv,lx⟩:=h;exact lv none G H hG (Fr.refl _ _) h
def u_so (ha:PE X e (lE X te)):PO X (some e) (lO X λς G Q E=>te ς G (λx G1=>match x with|.int i=>Q (some i) G1|_=>False) E):=(jlm ha).imp λσ H Q0 h=>by
 obtain⟨ς,G,Q,E,hς,hG,h,lv,lx⟩:=h;refine⟨ς,G,_,E,hς,hG,h,λx v G1 H1 rx hG1 f1 h1=>?_,lx⟩;dsimp only at h1;split at h1
 ·cases rx;exact⟨_,rfl,lv _ G1 H1 hG1 f1 h1⟩
 ·exact h1.elim
def u_sl {lo hi:Option Expr}{p2:Pos}{tl th:Sg->Gp->(Option Int->Gp->Prop)->KX->Prop}(ha:PE X e (lE X te))(hl:PO X lo (lO X tl))(hh:PO X hi (lO X th)) :
  PE X (.Subscript e (.Slice lo hi none p2) pos) (lE X λς G Q E=>te ς G (λx G1=>tl ς G1 (λl G2=>th ς G2 (λh G3=>slU x l h G3 Q) E) E) E):=by
 refine(jjt (SlR.or (jk7 (X:=X)) (SlR.or jk8 jm6)) ha hl hh).imp λσ H Q0 h=>?_;obtain⟨ς,G,Q,E,hς,hG,h,lv,lx⟩:=h;refine⟨ς,G,_,E,hς,hG,h,λx v G1 H1 rx hG1 f1 h1=>?_,lx⟩;refine⟨ς,G1,_,E,hς.ts (f1.ts hG),hG1,h1,λl G2 H2 hG2 f2 h2=>?_,lx.fr f1⟩;refine⟨ς,G2,_,E,(hς.ts (f1.ts hG)).ts (f2.ts hG1),hG2,h2,λu G3 H3 hG3 f3 h3=>?_,lx.fr (f1.trans f2)⟩;have lv3:=lv.fr ((f1.trans f2).trans f3);have rx3:=rx.ts ((f2.ts hG1).trans (f3.ts hG2));unfold slU at h3;split at h3
 ·obtain⟨a,vs,rfl,ea,rs⟩:=rx3;by_cases z:HT.sIx vs.length 0 l=0/\HT.sIx vs.length vs.length u=vs.length
  ·refine .inl (.inr ⟨a,vs,rfl,.of ea,z,?_⟩);refine lv3.here (w:=.tup _) ⟨a,vs,rfl,ea,?_⟩ hG3 h3;have e2:cutV vs l u=vs:=by unfold cutV;rw[z.1,z.2];simp
   have:=rs.cut l u;rw[e2]at this;exact this
  ·exact .inl (.inl ⟨a,vs,rfl,.of ea,z,λp hp=>lv3.tup hp (rs.cut l u) hG3 h3⟩)
 ·cases rx3;exact .inr (.inr ⟨_,rfl,h3.1,lv3.str hG3 h3.2⟩)
 ·cases rx3;split at h3
  ·rename_i us eu;obtain⟨vs,sq,rs⟩:=hG3.ls eu;exact .inr (.inl ⟨_,vs,rfl,sq,λp hp=>lv3.lst hp (rs.cut l u) hG3 h3⟩)
  ·exact h3.elim
 ·exact h3.elim
def jpw {st:Expr}{p2:Pos}(ha:PE X a (lE X ta))(hb:PE X st (lE X tb)):PE X (.Subscript a (.Slice none none (some st) p2) pos) (lE X λς G Q E=>ta ς G (λx G1=>tb ς G1 (λy G2=>revU x y G2 Q) E) E):=by
 refine(jlu ha hb).imp λσ H Q0 h=>lE.two h λx y v v' G H' Q rx ry hG q lv=>?_;unfold revU at q;split at q
 ·obtain⟨a,vs,rfl,ea,rs⟩:=rx;cases ry;obtain⟨rfl,q⟩:=q;exact .inr ⟨a,vs,rfl,.of ea,rfl,λp hp=>lv.tup hp rs.reverse hG q⟩
 ·cases rx;cases ry;split at q
  ·rename_i us eu;obtain⟨vs,sq,rs⟩:=hG.ls eu;obtain⟨hi,q⟩:=q;rcases hi with rfl|rfl
   ·exact .inl ⟨_,vs,rfl,sq,.inl ⟨rfl,λp hp=>lv.lst hp rs hG q⟩⟩
   ·exact .inl ⟨_,vs,rfl,sq,.inr ⟨rfl,λp hp=>lv.lst hp rs.reverse hG q⟩⟩
  ·exact q.elim
 ·exact q.elim
end
end Z

namespace L2
open PySem PySem.Spec PyProof.Rows
section
variable {X:Cx}
end
end L2
namespace Z
open PySem L2
noncomputable def bltN:Blt->Str
 |.len => "len" |.repr => "repr" |.min => "min" |.max => "max" |.sum => "sum" |.all => "all" |.any => "any" |.sorted => "sorted" |.int => "int" |.str => "str" |.isi => "isinstance"
noncomputable def bltV:Blt->Value
 |.len=>.builtin "len" |.repr=>.builtin "repr" |.min=>.builtin "min" |.max=>.builtin "max" |.sum=>.builtin "sum" |.all=>.builtin "all" |.any=>.builtin "any" |.sorted=>.builtin "sorted" |.int=>.type "int" |.str=>.type "str" |.isi=>.builtin "isinstance"
section
variable {X:Cx}
def RUs.one {K:Yac}{H:Hp}{u:U}{vs:List V}(r:RUs K H [u] vs):∃v,vs=[v]/\RU K H u v:=by
 obtain⟨v,vr,rfl,r1,rs⟩:=r;cases rs;exact⟨v,rfl,r1⟩
def RUs.two {K:Yac}{H:Hp}{u w:U}{vs:List V}(r:RUs K H [u,w] vs):∃v v',vs=[v,v']/\RU K H u v/\RU K H w v':=by
 obtain⟨v,vr,rfl,r1,rs⟩:=r;obtain⟨v',rfl,r2⟩:=rs.one;exact⟨v,v',rfl,r1,r2⟩
def jl6 (K:Yac):∀t∈["NoneType", "bool", "int", "str", "list", "tuple", "dict"],∀c∈["bool", "int", "str", "list", "tuple", "dict"],Yc4 K (.type t) (.type c)=some (t==c||(t == "bool" && c == "int")):=by
 simp only[List.forall_mem_cons,Yaw,false_implies,implies_true,and_true];refine⟨?_,?_,?_,?_,?_,?_,?_⟩<;>refine⟨?_,?_,?_,?_,?_,?_⟩<;>rfl
def jkX {x:U}{G:Gp}{n:String}(h:tyN x G=some n):n∈["NoneType", "bool", "int", "str", "list", "tuple", "dict"]:=by
 unfold tyN at h;split at h<;>first|(cases h;decide)|(split at h<;>first|(cases h;decide)|cases h)|cases h
def jmd {H:Hp}{G:Gp}{x:U}{v:V}{t:String}{b:Bool}(r:RU X.K H x v)(hG:HR X.K H G)(h:isiU x G t=some b):∃tv,TyOf X.K H v tv/\Yc4 X.K tv (.type t)=some b:=by
 unfold isiU at h;split at h
 ·rename_i n en;split at h
  ·rename_i ht;cases h;refine⟨.type n,?_,jl6 X.K n (jkX en) t ht⟩;unfold tyN at en;split at en
   ·cases en;cases r;exact .non
   ·cases en;cases r;exact .bl _
   ·cases en;cases r;exact .int _
   ·cases en;cases r;exact .str _
   ·cases en;obtain⟨a,ws,rfl,e,_⟩:=r;exact .tup e
   ·cases r;split at en
    ·rename_i g;cases en;obtain⟨ws,e,_⟩:=hG.lst g;exact .lst e
    ·rename_i g;cases en;obtain⟨ws,e,_⟩:=hG _ _ g;exact .dK e
    ·rename_i g;cases en;obtain⟨ws,e,_⟩:=hG _ _ g;exact .dT e
    ·cases en
   ·cases en
  ·cases h
 ·cases h
def BlU (X:Cx)(b:Blt):Prop:=∃r,ja7 X (bltV b) r/\∀us vs G H Q Q0,RUs X.K H us vs->HR X.K H G->bltU b us G Q->LV X H G Q Q0->r vs H Q0
def joP {k:Nat}(hr:Room k X.A)(hc:X.calm=true)(b:Blt):BlU X b:=by
 cases b with
 |len=>
  refine⟨_,ja7.or (jj5 (X:=X)) jiU,λus vs G H Q Q0 r hG h lv=>?_⟩
  change lenU us G Q at h
  unfold lenU at h;split at h<;>first|exact h.elim|skip
  ·obtain⟨v,rfl,r1⟩:=r.one;obtain⟨a,ws,rfl,e,rs⟩:=r1;exact .inl ⟨_,_,rfl,.inr ⟨ws,.of e,rfl⟩,by rw[<- rs.length];exact lv.int hG h⟩
  ·obtain⟨v,rfl,r1⟩:=r.one;cases r1;exact .inl ⟨_,_,rfl,⟨h.1,rfl⟩,lv.int hG h.2⟩
  ·obtain⟨v,rfl,r1⟩:=r.one;cases r1;split at h
   ·rename_i g;obtain⟨ws,e,rs⟩:=hG.lst g;exact .inl ⟨_,_,rfl,.inl ⟨ws,.of e,rfl⟩,by rw[<- rs.length];exact lv.int hG h⟩
   ·rename_i g;obtain⟨ob,ws,e,rs⟩:=hG _ _ g;exact .inl ⟨_,_,rfl,.inl ⟨ws,.inl (.inr ⟨ob,e⟩),rfl⟩,by rw[<- rs.length];exact lv.int hG h⟩
   ·rename_i kvs g;obtain⟨l,e,rs⟩:=hG _ _ g;refine .inr ⟨_,l,rfl,e,?_⟩;have:∀{kvs:List (Key×U)} {l:List (Key×V)},RKs X.K H kvs l->kvs.length=l.length:=by
     intro kvs
     induction kvs with
     |nil=>intro l r;cases r;rfl
     |cons p q ih=>intro l r;obtain⟨v,l',rfl,_,rs⟩:=r;simp[ih rs]
    rw[<- this rs];exact lv.int hG h
   ·exact h.elim
 |repr=>
  refine⟨_,jht hr,λus vs G H Q Q0 r hG h lv=>?_⟩
  change jfO us G Q at h
  unfold jfO at h;split at h<;>first|exact h.elim|skip
  obtain⟨v,rfl,r1⟩:=r.one;obtain⟨d,h1,h2,h3⟩:=h;exact⟨v,d,rfl,h1.dv hG r1,h2,lv.str hG h3⟩
 |min=>
  refine⟨_,jiR hc,λus vs G H Q Q0 r hG h lv=>?_⟩
  change minU us G Q at h
  unfold minU at h;split at h<;>first|exact h.elim|skip
  obtain⟨v,v',rfl,r1,r2⟩:=r.two;cases r1;cases r2;exact⟨_,_,rfl,lv.int hG h⟩
 |max=>
  refine⟨_,(jiS hc).or (jiT hc),λus vs G H Q Q0 r hG h lv=>?_⟩
  change maxU us G Q at h
  unfold maxU at h;split at h<;>first|exact h.elim|skip
  ·obtain⟨v,v',rfl,r1,r2⟩:=r.two;cases r1;cases r2;exact .inl ⟨_,_,rfl,lv.int hG h⟩
  ·obtain⟨v,rfl,r1⟩:=r.one;cases r1;split at h
   ·rename_i g;obtain⟨ws,e,rs⟩:=hG.lst g;unfold jjQ at h;split at h
    ·rename_i ns en;have:=rs.ints en;subst this;exact .inr ⟨_,ns,rfl,.inl (.of e),h.1,λz hz hy=>lv.int hG (h.2 z hz hy)⟩
    ·exact h.elim
   ·exact h.elim
  ·obtain⟨v,rfl,r1⟩:=r.one;obtain⟨a,ws,rfl,e,rs⟩:=r1;unfold jjQ at h;split at h
   ·rename_i ns en;have:=rs.ints en;subst this;exact .inr ⟨_,ns,rfl,.inr (.of e),h.1,λz hz hy=>lv.int hG (h.2 z hz hy)⟩
   ·exact h.elim
 |sum=>
  refine⟨_,jj4 hc,λus vs G H Q Q0 r hG h lv=>?_⟩
  change sumU us G Q at h
  unfold sumU at h;split at h<;>first|exact h.elim|skip
  obtain⟨v,rfl,r1⟩:=r.one;cases r1;split at h
  ·rename_i g;obtain⟨ws,e,rs⟩:=hG.lst g;split at h
   ·rename_i ns en;have:=rs.ints en;subst this;exact⟨_,ns,rfl,.of e,lv.int hG h⟩
   ·exact h.elim
  ·exact h.elim
 |any=>exact⟨λ_ _ _=>False,λ_ _ _ _ _ _ _ _ _ h=>h.elim,λ_ _ _ _ _ _ _ _ h _=>h.elim⟩
 |all=>exact⟨λ_ _ _=>False,λ_ _ _ _ _ _ _ _ _ h=>h.elim,λ_ _ _ _ _ _ _ _ h _=>h.elim⟩
 |sorted=>
  refine⟨_,jfB hc (by have:=hr.un;omega),λus vs G H Q Q0 r hG h lv=>?_⟩
  change jbE us G Q at h
  unfold jbE at h;split at h<;>first|exact h.elim|skip
  obtain⟨v,rfl,r1⟩:=r.one;cases r1;split at h<;>first|exact h.elim|skip
  rename_i us g;obtain⟨ws,e,rs⟩:=hG.lst g;obtain⟨ks,hnd,h64,hl,hk,q⟩:=h;refine⟨_,ws,ks,rfl,.inl (.of e),by rw[<- rs.length];exact hl,hnd,by rw[<- rs.length];exact h64,?_,λl π hn hp hs=>?_⟩
  ·rcases hk with⟨ns,rfl,rfl⟩|⟨as,rfl,hk⟩|⟨rfl,hk⟩
   ·refine .inl λi v k e1 e2=>?_;rw[Yal]at e2;cases en:ns[i]? with
    |none=>rw[en]at e2;cases e2
    |some n=>
     rw[en]at e2;cases e2;obtain⟨v',e3,r3⟩:=rs.get (i:=i) (u:=.int n) (by rw[Yal,en];rfl)
     rw[e1]at e3;cases e3;exact⟨n,r3,rfl⟩
   ·refine .inr (.inl λi v k e1 e2=>?_);have hi:i<as.length:=by
     have:=(List.getElem?_eq_some_iff.mp e1).1;rw[<- rs.length,Yaa]at this;exact this
    obtain⟨v',e3,r3⟩:=rs.get (i:=i) (u:=.loc as[i]) (by rw[Yal,Yab hi];rfl)
    rw[e1]at e3;cases e3;obtain⟨ws2,e4,r4⟩:=hG.lst (hk i _ k (Yab hi) e2);rw[jeI r4]at e4;exact⟨as[i],r3,.inl (.of e4)⟩
   ·refine .inr (.inr λi v k e1 e2=>⟨?_,hk k (Yam e2)⟩);obtain⟨v',e3,r3⟩:=rs.get (i:=i) (u:=.tup (k.map .int)) (by rw[Yal,e2];rfl)
    rw[e1]at e3;cases e3;obtain⟨t,ws2,rfl,et,rt⟩:=r3;rw[jeI rt]at et;exact⟨t,rfl,.of et⟩
  ·rw[<- rs.length]at hp hs;refine lv.lst hn ?_ hG (q π hp hs);have:∀l:List Nat,(∀i∈l,i<us.length)->RUs X.K H (l.map λi=>us.getD i .non) (l.map λi=>ws.getD i .non):=λl=>by
    induction l with
    |nil=>intro _;rfl
    |cons i l ih=>
     intro hl';have hi:=hl' i (by simp)
     obtain⟨v',e3,r3⟩:=rs.get (Yab hi);refine⟨_,_,rfl,?_,ih λj hj=>hl' j (Yai _ hj)⟩;refine(?_:RU X.K H (us.getD i .non) (ws.getD i .non));rw[YaH,Yab hi,YaH,e3];exact r3
   exact this π λi hi=>List.mem_range.mp (hp.mem_iff.mp hi)
 |int=>
  refine⟨_,jiV.or jeP,λus vs G H Q Q0 r hG h lv=>?_⟩
  change intU us G Q at h
  unfold intU at h;split at h<;>first|exact h.elim|skip
  ·obtain⟨v,rfl,r1⟩:=r.one;cases r1;exact .inl (.inl ⟨_,rfl,lv.int hG h⟩)
  ·obtain⟨v,rfl,r1⟩:=r.one;cases r1;exact .inl (.inr ⟨_,rfl,lv.int hG h⟩)
  ·obtain⟨v,rfl,r1⟩:=r.one;cases r1;obtain⟨n,h1,h2,h⟩:=h;exact .inr ⟨_,n,rfl,h1,h2,lv.int hG h⟩
 |str=>exact⟨λ_ _ _=>False,λ_ _ _ _ _ _ _ _ _ h=>h.elim,λ_ _ _ _ _ _ _ _ h _=>h.elim⟩
 |isi=>
  refine⟨_,jf8,λus vs G H Q Q0 r hG h lv=>?_⟩
  change jfn us G Q at h
  unfold jfn at h;split at h<;>first|exact h.elim|skip
  rename_i t;obtain⟨v,v',rfl,r1,r2⟩:=r.two;cases r2;split at h
  ·rename_i b eb;obtain⟨tv,h1,h2⟩:=jmd r1 hG eb;exact⟨v,t,tv,b,rfl,h1,h2,lv.bl hG h⟩
  ·exact h.elim
def jj6 (b:Blt):Yca (bltN b)=some (bltV b):=by
 cases b with
 |len=>exact PySem.boot_len
 |repr=>exact(by with_unfolding_all rfl)
 |min=>exact PyProof.Rows.boot_min
 |max=>exact PyProof.Rows.boot_max
 |sum=>exact PyProof.Rows.boot_sum
 |any=>exact PyProof.Rows.boot_any
 |all=>exact PyProof.Rows.boot_all
 |sorted=>exact PyProof.Rows.boot_sorted
 |int=>exact PyProof.Rows.boot_int
 |str=>exact PyProof.Rows.boot_str
 |isi=>exact PyProof.Rows.boot_isinstance
def joR (b:Blt):bltN b ≠ "__name__" /\ (bltN b==("__debug__" : Str))=false:=by cases b<;>decide
def jpH {b:Blt}{e:Expr}{es:List Expr}{ts:UA}{p pos:Pos}(hb:BlU X b)(hg:Gl X (bltN b))(hm:X.mg (bltN b)=none)(ha:PA X (e::es) (lA X ts))
  (he:YaP (e::es) X.env=(false,eval e X.env)::YaP es X.env) (hpl:(backTo pos (YaP es X.env)).any (·.1)=false) :
  PE X (.Call (.Name (bltN b) p) (e::es) [] pos) (lE X λς G Q E=>ts ς G (λus G1=>bltU b us G1 Q) E):=by
 obtain⟨r,h1,h2⟩:=hb;have fin:∀σ H Q0,lE X (λς G Q E=>ts ς G (λus G1=>bltU b us G1 Q) E) σ H Q0->tCB r (lA X ts) σ H Q0:=λσ H Q0 h=>lE.many h λus vs G H' Q rs hG q lv=>h2 us vs G H' Q Q0 rs hG q lv;have hv:=jj6 b;obtain⟨n1,n2⟩:=joR b;cases b
 all_goals first
  |exact(jjx h1 hg hm hv ha n1 n2 he hpl).imp fin
  |exact(jcn h1 hg hm hv ha n1 n2 he hpl).imp fin
end
noncomputable def mthN:Mth->Str
 |.append => "append" |.extend => "extend" |.insert => "insert" |.pop => "pop" |.reverse => "reverse" |.index => "index" |.join => "join" |.get => "get" |.split => "split" |.setd => "setdefault"
section
variable {X:Cx}
def RUs.mk {K:Yac}{H:Hp}{u:U}{v:V}{us:List U}{vs:List V}(r:RU K H u v)(rs:RUs K H us vs):RUs K H (u::us) (v::vs):=⟨v,vs,rfl,r,rs⟩
structure MtK (X:Cx)(m:Mth)(T id:String):Prop where
 pa:PlainAttrs T
 sl:Slot T (mthN m) id
 ty:typeOf (.builtin id)=pure (.type "method_descriptor")
def MtU (X:Cx)(m:Mth):Prop:=∀x G1 T id,mtU m x G1=some (T,id)->MtK X m T id/\(∀v H1,RU X.K H1 x v->HR X.K H1 G1->tyV X.K T v H1)/\
 ∃r,MtR X id r/\∀us v vs G H Q Q0,RU X.K H x v->RUs X.K H us vs->HR X.K H G->jaL m x us G Q->LV X H G Q Q0->r v vs H Q0
def jgd {a:Addr}{G:Gp}{us:List U}(g:G a=some (.lst us)):∀v H1,RU X.K H1 (.loc a) v->HR X.K H1 G->tyV X.K "list" v H1:=λv H1 r hG=>by
 cases r;obtain⟨vs,e,_⟩:=hG.lst g;exact .inl ⟨rfl,vs,.of e⟩
def jif:MtU X .append:=by
 intro x G1 T id h;dsimp only[mtU]at h;split at h<;>first|contradiction|skip
 split at h
 ·rename_i g;cases h;refine⟨⟨Ycg,PySem.F.slot_list_append,PySem.F.type_list_append⟩,jgd g,_,jff,λus v vs G H Q Q0 rx rs hG h lv=>?_⟩;cases rx;dsimp only[jaL]at h;unfold jga at h;split at h<;>first|exact h.elim|skip
  rename_i e2;cases e2;split at h
  ·rename_i g2;obtain⟨ws,e,r⟩:=hG.lst g2;obtain⟨y,rfl,ry⟩:=rs.one;refine⟨_,ws,y,rfl,rfl,e,by rw[<- r.length];exact h.1,?_⟩
   exact lv.wl g2 (r.append (RUs.mk (us:=[]) (vs:=[]) ry rfl)) hG (w:=.non) rfl h.2
  ·exact h.elim
 ·cases h
def jie:MtU X .extend:=by
 intro x G1 T id h;dsimp only[mtU]at h;split at h<;>first|contradiction|skip
 split at h
 ·rename_i g;cases h;refine⟨⟨Ycg,PySem.F.slot_list_extend,PySem.F.type_list_extend⟩,jgd g,_,jih,λus v vs G H Q Q0 rx rs hG h lv=>?_⟩;cases rx;dsimp only[jaL]at h;unfold jf2 at h;split at h<;>first|exact h.elim|skip
  rename_i e2;cases e2;split at h
  ·rename_i g2 g3;obtain⟨ws,e,r⟩:=hG.lst g2;obtain⟨zs,e',r'⟩:=hG.lst g3;obtain⟨y,rfl,ry⟩:=rs.one;cases ry;refine⟨_,_,ws,zs,rfl,rfl,e,e',by rw[<- r.length,<- r'.length];exact h.1,?_⟩
   exact lv.wl g2 (r.append r') hG (w:=.non) rfl h.2
  ·exact h.elim
 ·cases h
def jid:MtU X .insert:=by
 intro x G1 T id h;dsimp only[mtU]at h;split at h<;>first|contradiction|skip
 split at h
 ·rename_i g;cases h;refine⟨⟨Ycg,PySem.F.slot_list_insert,PySem.F.type_list_insert⟩,jgd g,_,jig,λus v vs G H Q Q0 rx rs hG h lv=>?_⟩;cases rx;dsimp only[jaL]at h;unfold jf0 at h;split at h<;>first|exact h.elim|skip
  rename_i e2;cases e2;split at h
  ·rename_i g2;obtain⟨ws,e,r⟩:=hG.lst g2;obtain⟨y,z,rfl,ry,rz⟩:=rs.two;cases ry;obtain⟨h1,h2,h3,h4⟩:=h;refine⟨_,ws,_,z,rfl,rfl,e,h1,by rw[<- r.length];exact h2,by rw[<- r.length];exact h3,?_⟩
   exact lv.wl g2 ((r.take _).append (RUs.mk rz (r.drop _))) hG (w:=.non) rfl h4
  ·exact h.elim
 ·cases h
def jn7:MtU X .pop:=by
 intro x G1 T id h;dsimp only[mtU]at h;split at h<;>first|contradiction|skip
 split at h
 ·rename_i g;cases h;refine⟨⟨Ycg,PySem.F.slot_list_pop,PySem.F.type_list_pop⟩,jgd g,_,MtR.or (mt_pop (X:=X)) jjP,λus v vs G H Q Q0 rx rs hG h lv=>?_⟩;cases rx;dsimp only[jaL]at h;unfold popU at h;split at h<;>first|exact h.elim|skip
  ·rename_i e2;cases e2;split at h
   ·rename_i g2;obtain⟨ws,e,r⟩:=hG.lst g2;cases rs;split at h
    ·rename_i u eu;obtain⟨y,ey,ry⟩:=r.get eu;rw[r.length]at ey;exact .inl ⟨_,ws,y,rfl,rfl,e,ey,lv.wl g2 r.dropLast hG ry h⟩
    ·exact h.elim
   ·exact h.elim
  ·rename_i e2;cases e2;split at h
   ·rename_i g2;obtain⟨ws,e,r⟩:=hG.lst g2;obtain⟨y,rfl,ry⟩:=rs.one;cases ry;obtain⟨h1,h2,h⟩:=h;split at h
    ·rename_i k ek;split at h
     ·rename_i u eu;obtain⟨y,ey,ry⟩:=r.get eu;exact .inr ⟨_,ws,_,k,y,rfl,rfl,e,h1,h2,by rw[<- r.length];exact ek,ey,lv.wl g2 (r.erase k) hG ry h⟩
     ·exact h.elim
    ·exact h.elim
   ·exact h.elim
 ·cases h
def RKs.put {κ:Type}[DecidableEq κ]{K:Yac}{H:Hp}{k:κ}{u:U}{v:V}(r:RU K H u v):∀{kvs:List (κ×U)} {l:List (κ×V)},RKs K H kvs l->RKs K H (dPut kvs k u) (putK l k v):=by
 intro kvs l h;have any:∀{kvs:List (κ×U)} {l:List (κ×V)},RKs K H kvs l->(kvs.any λkv=>decide (kv.1=k))=l.any λkv=>decide (kv.1=k):=by
  intro kvs
  induction kvs with
  |nil=>intro l h;cases h;rfl
  |cons p q ih=>intro l h;obtain⟨w,l',rfl,_,rs⟩:=h;simp only[Ybe];rw[ih rs]
 have repl:∀{kvs:List (κ×U)} {l:List (κ×V)},RKs K H kvs l->RKs K H (kvs.map λkv=>if kv.1=k then (kv.1,u) else kv) (l.map λkv=>if kv.1=k then (kv.1,v) else kv):=by
  intro kvs
  induction kvs with
  |nil=>intro l h;cases h;rfl
  |cons p q ih=>
   intro l h;obtain⟨k',u'⟩:=p;obtain⟨w,l',rfl,rw',rs⟩:=h;simp only[YaG];by_cases e:k'=k
   ·rw[if_pos e,if_pos e];exact⟨v,_,rfl,r,ih rs⟩
   ·rw[if_neg e,if_neg e];exact⟨w,_,rfl,rw',ih rs⟩
 have snoc:∀{kvs:List (κ×U)} {l:List (κ×V)},RKs K H kvs l->RKs K H (kvs++[(k,u)]) (l++[(k,v)]):=by
  intro kvs
  induction kvs with
  |nil=>intro l h;cases h;exact⟨v,[],rfl,r,rfl⟩
  |cons p q ih=>intro l h;obtain⟨k',u'⟩:=p;obtain⟨w,l',rfl,rw',rs⟩:=h;exact⟨w,_,rfl,rw',ih rs⟩
 unfold dPut putK;rw[any h];split
 ·exact repl h
 ·exact snoc h
def RKs.length {κ:Type}{K:Yac}{H:Hp}:∀{kvs:List (κ×U)} {l:List (κ×V)},RKs K H kvs l->kvs.length=l.length
 |[],_,h=>by cases h;rfl
 |(_,_)::_,_,h=>by obtain⟨v,l',rfl,_,rs⟩:=h;simp[rs.length]
def jks (m:Mth):MtU X m:=by
 cases m with
 |append=>exact jif
 |extend=>exact jie
 |insert=>exact jid
 |pop=>exact jn7
 |reverse=>intro x G1 T id h;cases h
 |index=>intro x G1 T id h;cases h
 |join=>intro x G1 T id h;cases h
 |split=>intro x G1 T id h;cases h
 |setd=>intro x G1 T id h;cases h
 |get=>intro x G1 T id h;unfold mtU at h;split at h<;>contradiction
variable {m:Mth}{o e:Expr}{es:List Expr}{to:UE}{ts:UA}{apos cpos:Pos}
def jmM (hm:MtU X m)(ho:PE X o (lE X to))(ha:PA X (e::es) (lA X ts))(hbase:Yby o (mthN m) X.env (eval o X.env)=eval o X.env)
  (hfew:((backTo cpos (YaP (e::es) X.env)).all (λx=>!x.1)&&(backToKw cpos (YeR [] X.env)).all (λx=>x.1.isSome)
   && decide ((e::es).length+([]:List Keyword).length+(if ([]:List Keyword).isEmpty then 0 else 1)<30))=true)
  (hline:(apos.endLine==cpos.line)=true) (hs:YaP (e::es) X.env=(false,eval e X.env)::YaP es X.env) (hplain:(backTo cpos (YaP es X.env)).any (·.1)=false) :
  PE X (.Call (.Attribute o (mthN m) apos) (e::es) [] cpos) (lE X λς G Q E=>to ς G (λx G1=>match mtU m x G1 with|some _=>ts ς G1 (λus G2=>jaL m x us G2 Q) E|none=>False) E):=by
 intro pins s σ H Q0 I h;obtain⟨ς,G,Q,E,hς,hG,h,lv,lx⟩:=h;refine PySem.wpAny_Call_method_late hbase hfew hline rfl (thn (ho pins s σ H (λv H1=>∃x G1 T id,RU X.K H1 x v/\HR X.K H1 G1/\Fr H G H1 G1/\mtU m x G1=some (T,id)/\ts ς G1 (λus G2=>jaL m x us G2 Q) E) I
  ⟨ς,G,_,E,hς,hG,h,λx v G1 H1 rx hG1 f1 h1=>?_,lx⟩) λv s1 ⟨xv,H1,I1,r1,x,G1,T,id,rx,hG1,f1,em,h1⟩=>?_)
 ·dsimp only at h1;split at h1
  ·rename_i p ep;exact⟨x,G1,p.1,p.2,rx,hG1,f1,ep,h1⟩
  ·exact h1.elim
 ·obtain⟨k,hty,r,hr1,hr2⟩:=hm x G1 T id em;obtain⟨t1,t2⟩:=jkh I1 r1 (hty xv H1 rx hG1);refine⟨T,id,k.pa,k.sl,k.ty,t1,t2,?_⟩;have hA:=ha cpos pins s1 σ H1 (λvs H2=>∃us G2,RUs X.K H2 us vs/\HR X.K H2 G2/\Fr H1 G1 H2 G2/\jaL m x us G2 Q) I1 ⟨ς,G1,_,E,hς.ts (f1.ts hG),hG1,h1,λus vs G2 H2 rs hG2 f2 h2=>⟨us,G2,rs,hG2,f2,h2⟩,lx.fr f1⟩;rw[hs]at hA ⊢;refine Ycn (by show(false||(backTo cpos (YaP es X.env)).any (·.1))=false;rw[hplain]<;>rfl) (Calls.evalArgs_plain ?_)
  exact thn hA λus s2 ⟨vs,H2,I2,r2,ws,G2,rs,hG2,f2,h2⟩=>hr1 pins s2 σ H2 xv vs v us Q0 I2 r1 r2 (hr2 ws xv vs G2 H2 Q Q0 (rx.ts (f2.ts hG1)) rs hG2 h2 (lv.fr (f1.trans f2)))
def jkU (hm:MtU X m)(ho:PE X o (lE X to))(hbase:Yby o (mthN m) X.env (eval o X.env)=eval o X.env)(hline:(apos.endLine==cpos.line)=true) :
  PE X (.Call (.Attribute o (mthN m) apos) [] [] cpos) (lE X λς G Q E=>to ς G (λx G1=>match mtU m x G1 with|some _=>jaL m x [] G1 Q|none=>False) E):=by
 intro pins s σ H Q0 I h;obtain⟨ς,G,Q,E,hς,hG,h,lv,lx⟩:=h;refine PySem.wpAny_Call_method0_late hbase hline (thn (ho pins s σ H (λv H1=>∃x G1 T id,RU X.K H1 x v/\HR X.K H1 G1/\Fr H G H1 G1/\mtU m x G1=some (T,id)/\jaL m x [] G1 Q) I
  ⟨ς,G,_,E,hς,hG,h,λx v G1 H1 rx hG1 f1 h1=>?_,lx⟩) λv s1 ⟨xv,H1,I1,r1,x,G1,T,id,rx,hG1,f1,em,h1⟩=>?_)
 ·dsimp only at h1;split at h1
  ·rename_i p ep;exact⟨x,G1,p.1,p.2,rx,hG1,f1,ep,h1⟩
  ·exact h1.elim
 ·obtain⟨k,hty,r,hr1,hr2⟩:=hm x G1 T id em;obtain⟨t1,t2⟩:=jkh I1 r1 (hty xv H1 rx hG1);exact⟨T,id,k.pa,k.sl,k.ty,t1,t2,Ycn rfl (Ydj (hr1 pins s1 σ H1 xv [] v [] Q0 I1 r1 .nil (hr2 [] xv [] G1 H1 Q Q0 rx rfl hG1 h1 (lv.fr f1))))⟩
end
end Z

namespace L2
open PySem PySem.Spec PyProof.Rows
section
variable {X:Cx}{tg:Expr}
def iSeq (K:Yac)(tl:TE):TI:=λσ H R=>tl σ H λx H1=>∃a,x=.ref a/\(((∃xs,SqL K H1 a xs)/\R (Itl K a) H1)\/((∃xs,SqT K H1 a xs)/\R (Itt K a) H1))
def jnw {l:Expr}{tl:TE}(hl:PE X l tl):PI X tg l (iSeq X.K tl):=by
 intro pins s σ H R I h;refine thn (hl pins s σ H _ I h) λv s1 ⟨x,H1,I1,r1,q1⟩=>?_;obtain⟨a,e,⟨⟨xs,hq⟩,q⟩|⟨⟨xs,hq⟩,q⟩⟩:=q1
 ·subst e;cases r1;obtain⟨its,rv,p,hz⟩:=I1.list hq;refine YcZ p.isList ?_;refine⟨s1.heap.objs.size,[s1.heap.objs.size],_,_,H1,rfl,I1.kept (t':=s1.toks) λb o e=>Yae _ e,jhD a _,⟨_,Yas _ rfl,rfl,rfl⟩,λb hb=>?_,q⟩;have e:b=s1.heap.objs.size:=by simpa using hb
  subst e;exact I1.fpOk (Yaf _) (I1.hok.fresh (Yaf _))
 ·subst e;cases r1;obtain⟨its,rv,p,hz⟩:=I1.tuple hq;refine YdU (show s1.heap.IsTuple a its.toArray from p) ?_;refine⟨s1.heap.objs.size,[s1.heap.objs.size],_,_,H1,rfl,I1.kept (t':=s1.toks) λb o e=>Yae _ e,jg6 a _,⟨_,Yas _ rfl,rfl,rfl⟩,λb hb=>?_,q⟩;have e:b=s1.heap.objs.size:=by simpa using hb
  subst e;exact I1.fpOk (Yaf _) (I1.hok.fresh (Yaf _))
def PI.imp {iter:Expr}{t t':TI}(h:PI X tg iter t)(i:∀σ H R,t' σ H R->t σ H R):PI X tg iter t':=λpins s σ H R I q=>h pins s σ H R I (i σ H R q)
def PG.imp {target:Expr}{t t':TG}(h:PG X target t)(i:∀v σ H Q,t' v σ H Q->t v σ H Q):PG X target t':=λpins s σ H v u Q I r q=>h pins s σ H v u Q I r (i v σ H Q q)
def PGs.imp {ts:List Expr}{t t':TGs}(h:PGs X ts t)(i:∀v σ H Q,t' v σ H Q->t v σ H Q):PGs X ts t':=λpins s σ H v u Q I r q=>h pins s σ H v u Q I r (i v σ H Q q)
def PIfs.imp {ifs:List Expr}{t t':TT}(h:PIfs X ifs t)(i:∀σ H Q,t' σ H Q->t σ H Q):PIfs X ifs t':=λpins s σ H Q I q=>h pins s σ H Q I (i σ H Q q)
end
end L2
namespace Z
open PySem L2
abbrev UI:=Sg->Gp->(List U->(Gp->Prop)->Gp->Prop)->KX->Prop
def jfI (K:Yac)(J:L2.It)(H:Hp)(G:Gp)(xs:List U)(ok:Gp->Prop):Prop:=∀i H' G',TS H H'->HR K H' G'->ok G'->
 (∀u,xs[i]?=some u->J.go i H'/\∀v H'',J.yld i H' v H''->RU K H'' u v/\HR K H'' G'/\Fr H' G' H'' G')/\(i=xs.length->J.stop i H')
def jfI.mono {K:Yac}{J:L2.It}{H H2:Hp}{G G2:Gp}{xs:List U}{ok:Gp->Prop}(h:jfI K J H G xs ok)(t:TS H H2):jfI K J H2 G2 xs ok:=λi H' G' t'=>h i H' G' (t.trans t')
section
variable (X:Cx)
def lI (t:UI):TI:=λσ H R=>∃ς G Q E,SR X.K H ς σ/\HR X.K H G/\t ς G Q E/\(∀xs ok G' H' J,HR X.K H' G'->Fr H G H' G'->jfI X.K J H' G' xs ok->Q xs ok G'->R J H')/\LX X σ H G E
def lG (K:Yac)(t:U->Sg->(Sg->Prop)->Prop):TG:=λv σ H Q0=>∃u ς k,RU K H u v/\SR K H ς σ/\t u ς k/\∀ς' σ',SR K H ς' σ'->k ς'->Q0 σ' H
def lGs (K:Yac)(t:List U->Sg->(Sg->Prop)->Prop):TGs:=λvs σ H Q0=>∃us ς k,RUs K H us vs/\SR K H ς σ/\t us ς k/\∀ς' σ',SR K H ς' σ'->k ς'->Q0 σ' H
end
section
variable {X:Cx}{tg:Expr}{pos:Pos}{te ta tb:UE}
def u_ie {l:Expr}(hl:PE X l (lE X te)):PI X tg l (lI X λς G Q E=>te ς G (λx G1=>itU x G1 λxs ok=>Q xs ok G1) E):=by
 refine(jnw hl).imp λσ H R h=>?_;obtain⟨ς,G,Q,E,hς,hG,h,lv,lx⟩:=h;refine⟨ς,G,_,E,hς,hG,h,λx v G1 H1 rx hG1 f1 h1=>?_,lx⟩;dsimp only at h1;unfold itU at h1;split at h1
 ·obtain⟨a,vs,rfl,ea,rs⟩:=rx;refine⟨a,rfl,.inr ⟨⟨vs,.of ea⟩,lv _ _ _ H1 _ hG1 f1 (λi H' G' f hr _=>?_) h1⟩⟩;have e':H' a=some (.tup vs):=f a _ ea;refine⟨λu eu=>?_,λe=>⟨vs,.of e',by rw[e,rs.length];exact Yaf _⟩⟩
  obtain⟨w,ew,rw'⟩:=rs.get eu;refine⟨⟨vs,w,.of e',ew⟩,λv H'' y=>?_⟩;obtain⟨rfl,y⟩:=y;have:=y vs (.of e');rw[ew]at this;cases this;exact⟨rw'.ts f,hr,Fr.refl _ _⟩
 ·cases rx;rename_i a;split at h1
  ·rename_i us eu;obtain⟨vs,sq,rs⟩:=hG1.ls eu;refine⟨_,rfl,.inl ⟨⟨vs,sq⟩,lv _ _ _ H1 _ hG1 f1 (λi H' G' f hr ok=>?_) h1⟩⟩;obtain⟨vs',sq',rs'⟩:=hr.ls ok;refine⟨λu eu=>?_,λe=>⟨vs',sq',by rw[e,rs'.length];exact Yaf _⟩⟩
   obtain⟨w,ew,rw'⟩:=rs'.get eu;refine⟨⟨vs',w,sq',ew⟩,λv H'' y=>?_⟩;obtain⟨rfl,y⟩:=y;have:=y vs' sq';rw[ew]at this;cases this;exact⟨rw',hr,Fr.refl _ _⟩
  ·exact h1.elim
 ·exact h1.elim
def jjd {K:Yac}{H:Hp}{G:Gp}(lo:Int)(n:Nat):jfI K (Itr lo n) H G (rngU lo n) λ_=>True:=by
 intro i H' G' f hr _;have hl:(rngU lo n).length=n:=by simp[rngU]
 refine⟨λu eu=>?_,λe=>by rw[hl]at e;exact Ydf e.symm⟩
 have hi:i<n:=by have:=(List.getElem?_eq_some_iff.mp eu).1;omega
 refine⟨hi,λv H'' y=>?_⟩;obtain⟨rfl,rfl⟩:=y;have:(rngU lo n)[i]?=some (.int (lo+i)):=by simp[rngU,Yal,Yfi hi]
 rw[this]at eu;cases eu;exact⟨rfl,hr,Fr.refl _ _⟩
def u_r1 {a:Expr}{p:Pos}(hg:Gl X "range")(hm:X.mg "range" = none)(ha:PE X a (lE X ta))(hs:YaP [a] X.env=[(false,eval a X.env)]):PI X tg (.Call (.Name "range" p) [a] [] pos) (lI X λς G Q E=>ta ς G (λx G1=>match x with
   |.int j=>-(2 ^ 62)<=j/\j<2 ^ 62/\Q (rngU 0 j.toNat) (λ_=>True) G1
   |_=>False) E):=by
 refine(jhU hg hm (jeb ha jg5 hs) hs).imp λσ H R h=>?_;obtain⟨ς,G,Q,E,hς,hG,h,lv,lx⟩:=h;refine⟨ς,G,λus G1=>match us with|[x]=>(match x with|.int j=>-(2 ^ 62)<=j/\j<2 ^ 62/\Q (rngU 0 j.toNat) (λ_=>True) G1|_=>False)|_=>False,E,hς,hG,h,λus vs G1 H1 rs hG1 f1 h1=>?_,lx⟩
 dsimp only at h1;split at h1
 ·obtain⟨v,rfl,r⟩:=rs.one;split at h1
  ·cases r;exact⟨_,rfl,h1.1,h1.2.1,lv _ _ G1 H1 _ hG1 f1 (jjd 0 _) h1.2.2⟩
  ·exact h1.elim
 ·exact h1.elim
def jcC:∀{n i:Nat} {xs:List U} {u:U},(jeL n xs)[i]?=some u->∃x,xs[i]?=some x/\u=.tup [.int ((n+i:Nat):Int),x]
 |_,_,[],_,h=>by simp[jeL]at h
 |n,0,x::xs,_,h=>by
  simp[jeL]at h;exact⟨x,rfl,h.symm⟩
 |n,i+1,_::xs,_,h=>by
  obtain⟨x,e1,e2⟩:=jcC (n:=n+1) (i:=i) (xs:=xs) (by simpa[jeL]using h)
  exact⟨x,by simpa using e1,by rw[e2];congr 3;omega⟩
def jcB:∀(n:Nat) (xs:List U),(jeL n xs).length=xs.length
 |_,[]=>rfl
 |n,_::xs=>by simp[jeL,jcB (n+1) xs]
def jmO {l:Expr}{p tpos:Pos}{elts:List Expr}{x1}(hg:Gl X "enumerate")(hm:X.mg "enumerate" = none)(ha:PE X l (lE X ta))(hs:YaP [l] X.env=[(false,eval l X.env)]) :
  PI X (.Tuple elts x1 tpos) (.Call (.Name "enumerate" p) [l] [] pos) (lI X λς G Q E=>ta ς G (λx G1=>enI x G1 λxs ok=>Q xs ok G1) E):=by
 refine(jjr hg hm (jeb ha jg5 hs) hs).imp λσ H R h=>?_;obtain⟨ς,G,Q,E,hς,hG,h,lv,lx⟩:=h;refine⟨ς,G,λus G1=>match us with|[x]=>enI x G1 λxs ok=>Q xs ok G1|_=>False,E,hς,hG,h,λus vs G1 H1 rs hG1 f1 h1=>?_,lx⟩
 dsimp only at h1;split at h1
 ·obtain⟨v,rfl,r⟩:=rs.one;unfold enI at h1;split at h1
  ·obtain⟨a,ws,rfl,ea,rr⟩:=r;refine⟨a,rfl,.inl ⟨⟨ws,ea⟩,lv _ _ _ H1 _ hG1 f1 (λi H' G' f hr _=>?_) h1⟩⟩;have e':H' a=some (.tup ws):=f a _ ea;refine⟨λu eu=>?_,λe=>⟨ws,e',by rw[e,jcB,rr.length]⟩⟩
   obtain⟨x,ex,rfl⟩:=jcC eu;obtain⟨w,ew,rw'⟩:=rr.get ex;refine⟨⟨ws,w,e',ew⟩,λv H'' y=>?_⟩;obtain⟨ys,z,q,hq,hz,rfl,hn,rfl⟩:=y;rw[e']at hq;cases hq;rw[ew]at hz;cases hz;refine⟨⟨q,_,rfl,jas,⟨_,_,rfl,by rw[YcJ];rfl,⟨_,_,rfl,(rw'.ts f).ts (TS.new hn),rfl⟩⟩⟩,hr.newT hn,Fr.new hn⟩
  ·cases r;split at h1
   ·rename_i us eu;obtain⟨vs,sq,rs⟩:=hG1.ls eu;refine⟨_,rfl,.inr ⟨⟨vs,sq⟩,lv _ _ _ H1 _ hG1 f1 (λi H' G' f hr ok=>?_) h1⟩⟩;obtain⟨vs',sq',rr⟩:=hr.ls ok;refine⟨λu eu=>?_,λe=>⟨vs',sq',by rw[e,jcB,rr.length]⟩⟩
    obtain⟨x,ex,rfl⟩:=jcC eu;obtain⟨w,ew,rw'⟩:=rr.get ex;refine⟨⟨vs',w,sq',ew⟩,λv H'' y=>?_⟩;obtain⟨z,q,hz,rfl,hn,rfl⟩:=y;have hz:=hz vs' sq';rw[ew]at hz;cases hz;refine⟨⟨q,_,rfl,jas,⟨_,_,rfl,by rw[YcJ];rfl,⟨_,_,rfl,rw'.ts (TS.new hn),rfl⟩⟩⟩,hr.newT hn,Fr.new hn⟩
   ·exact h1.elim
  ·exact h1.elim
 ·exact h1.elim
def u_is {l:Expr}(hl:PE X l (lE X te)):PI X tg l (lI X λς G Q E=>te ς G (λx G1=>sgU x λxs=>Q xs (λ_=>True) G1) E):=by
 refine(jnv hl).imp λσ H R h=>?_;obtain⟨ς,G,Q,E,hς,hG,h,lv,lx⟩:=h;refine⟨ς,G,_,E,hς,hG,h,λx v G1 H1 rx hG1 f1 h1=>?_,lx⟩;cases x with
 |str z=>
  cases rx;obtain⟨ha,h1⟩:=h1;refine⟨z,rfl,ha,lv _ _ _ H1 _ hG1 f1 (λi H' G' f hr _=>⟨λu eu=>?_,λe=>?_⟩) h1⟩
  ·rw[Yal]at eu;cases ec:z.cps.toList[i]? with
   |none=>rw[ec]at eu;cases eu
   |some c=>
    rw[ec]at eu;cases eu;have ec':z.cps[i]?=some c:=by simpa using ec
    refine⟨(Array.getElem?_eq_some_iff.mp ec').1,λv H'' y=>?_⟩;obtain⟨rfl,d,ed,rfl⟩:=y;rw[ec']at ed;cases ed;exact⟨rfl,hr,Fr.refl _ _⟩
  ·rw[e];simp[Its]
 |_=>exact h1.elim
section
variable {κ:Type}{K:Yac}{H:Hp}
def RKs.len:∀{kvs:List (κ×U)} {l:List (κ×V)},RKs K H kvs l->kvs.length=l.length
 |[],_,h=>by cases h;rfl
 |(_,_)::_,_,h=>by
  obtain⟨v,l',rfl,_,rs⟩:=h;simp[RKs.len rs]
def RKs.val:∀{kvs:List (κ×U)} {l:List (κ×V)} {i:Nat} {p:κ×V},RKs K H kvs l->l[i]?=some p->∃u,kvs[i]?=some (p.1,u)/\RU K H u p.2
 |[],_,_,_,h,e=>by cases h;simp at e
 |(_,_)::_,_,0,_,h,e=>by
  obtain⟨v,l',rfl,r,_⟩:=h;simp at e;subst e;exact⟨_,rfl,r⟩
 |(_,_)::_,_,i+1,_,h,e=>by
  obtain⟨v,l',rfl,_,rs⟩:=h;simp at e;simpa using RKs.val rs e
end
def jkg {f:List (Key×U)->List U}{J:Addr->Obj->L2.It}{l:Expr}{ti:TI}(hl:PI X tg l ti)(hti:ti=λσ H R=>lE X te σ H λx H1=>∃a kvs,x=.ref a/\Held H1 a kvs λo H'=>R (J a o) H')
  (hw:∀{a o kvs} {H':Hp} {G':Gp},HR X.K H' G'->G' a=some (.frk o kvs)->jfI X.K (J a o) H' G' (f kvs) λG'=>G' a=some (.frk o kvs)):PI X tg l (lI X λς G Q E=>te ς G (λx G1=>jdg f x G1 Q) E):=by
 subst hti;refine hl.imp λσ H R h=>?_;obtain⟨ς,G,Q,E,hς,hG,h,lv,lx⟩:=h;refine⟨ς,G,_,E,hς,hG,h,λx v G1 H1 rx hG1 f1 h1=>?_,lx⟩;dsimp only at h1;unfold jdg at h1;split at h1
 ·cases rx;rename_i a;split at h1
  ·rename_i kvs g;obtain⟨l,e,rk⟩:=hG1 _ _ g;refine⟨a,l,rfl,.inl e,λo _=>?_⟩;have hG2:HR X.K (upd H1 a (.frz o (.dK l))) (gup G1 a (.frk o kvs)):=hG1.write g ⟨l,jas,rk.ts (TS.write hG1 g)⟩;exact lv _ _ _ _ _ hG2 (f1.trans (Fr.write g)) (hw hG2 jag) (h1 o _ ⟨rfl⟩)
  ·rename_i o kvs g;obtain⟨l,e,rk⟩:=hG1 _ _ g;refine⟨a,l,rfl,.inr ⟨o,e⟩,λo' ho=>?_⟩;cases ho o e;have same:upd H1 a (.frz o (.dK l))=H1:=by
    funext b;unfold upd;split
    ·rename_i z;rw[z,e]
    ·rfl
   rw[same];exact lv _ _ _ _ _ hG1 f1 (hw hG1 g) h1
  ·exact h1.elim
 ·exact h1.elim
def u_dv {d:Expr}{apos:Pos}(hd:PE X d (lE X te))(hb:Yby d "values" X.env (eval d X.env)=eval d X.env)(hl:(apos.endLine==pos.line)=true):PI X tg (.Call (.Attribute d "values" apos) [] [] pos) (lI X λς G Q E=>te ς G (λx G1=>jdg jdn x G1 Q) E):=by
 refine jkg (J:=Itv) (jqc hd hb hl) rfl λ{a o kvs H' G'} _ _=>λi H2 G2 f hr ok=>?_;obtain⟨l',e',rk'⟩:=hr _ _ ok;refine⟨λu eu=>?_,λz=>⟨l',e',by rw[z,jdn,Yaa,rk'.len];exact Yaf _⟩⟩
 have hi:i<l'.length:=by
  have:=(List.getElem?_eq_some_iff.mp eu).1;rw[jdn,Yaa,rk'.len]at this;exact this
 refine⟨⟨l',e',hi⟩,λv H'' y=>?_⟩;obtain⟨rfl,l2,k,e2,ek⟩:=y;rw[e']at e2;cases e2;obtain⟨u2,eu2,ru⟩:=rk'.val ek;rw[jdn,Yal,eu2]at eu;cases eu;exact⟨ru,hr,Fr.refl _ _⟩
def u_di {d:Expr}{apos tpos:Pos}{elts:List Expr}{x1}(hd:PE X d (lE X te))(hb:Yby d "items" X.env (eval d X.env)=eval d X.env)(hl:(apos.endLine==pos.line)=true):PI X (.Tuple elts x1 tpos) (.Call (.Attribute d "items" apos) [] [] pos) (lI X λς G Q E=>te ς G (λx G1=>jdg jc7 x G1 Q) E):=by
 refine jkg (J:=Iti) (jqd hd hb hl) rfl λ{a o kvs H' G'} _ _=>λi H2 G2 f hr ok=>?_;obtain⟨l',e',rk'⟩:=hr _ _ ok;refine⟨λu eu=>?_,λz=>⟨l',e',by rw[z,jc7,Yaa,rk'.len];exact Yaf _⟩⟩
 have hi:i<l'.length:=by
  have:=(List.getElem?_eq_some_iff.mp eu).1;rw[jc7,Yaa,rk'.len]at this;exact this
 refine⟨⟨l',e',hi⟩,λv H'' y=>?_⟩;obtain⟨l2,k,x,p,e2,ek,rfl,hn,rfl⟩:=y;rw[e']at e2;cases e2;obtain⟨u2,eu2,ru⟩:=rk'.val ek;rw[jc7,Yal,eu2]at eu;cases eu;exact⟨⟨p,_,rfl,jas,⟨_,_,rfl,by cases k<;>rfl,⟨_,_,rfl,ru.ts (TS.new hn),rfl⟩⟩⟩,hr.newT hn,Fr.new hn⟩
def SR.set {K:Yac}{H:Hp}{ς:Sg}{σ:St}{u:U}{v:V}(h:SR K H ς σ)(r:RU K H u v)(i:Nat):SR K H (ς.set i (some u)) (σ.set i (some v)):=by
 refine⟨by simp[h.1],λj w e=>?_⟩
 by_cases hj:j=i
 ·subst hj;by_cases hl:j<ς.length
  ·rw[Ybk hl]at e;cases e;exact⟨v,Ybk (by rw[<- h.1];exact hl),r⟩
  ·rw[Ycv (by simp;omega)]at e
   cases e
 ·rw[Ya5 (Ne.symm hj)]at e ⊢;exact h.2 j w e
def u_tn {i:Nat}{x:Str}(hN:X.N.Nodup)(hi:X.N[i]?=some x)(hx:Loc X.env.scope x)(hf:X.fn x=true\/X.env.scope.names.lookup x=some .local):PG X (.Name x pos) (lG X.K (tgU (.n i))):=by
 refine(jlt hN hi hx hf).imp λv σ H Q h=>?_;obtain⟨u,ς,k,r,hς,h,q⟩:=h;exact q _ _ (hς.set r i) h
def u_tt {es:List Expr}{k n:Nat}{ts:Tgs}(hc:X.calm=true)(h:PGs X es (lGs X.K (tgsU ts)))(hn:(Ya4 es X.env).length=n)(hst:(Ya4 es X.env).findIdx? (·.1)=none)(hl:∀us ς k,tgsU ts us ς k->us.length=n) :
  PG X (.Tuple es k pos) (lG X.K (tgU (.t ts))):=by
 refine(jnx hc h hn hst).imp λv σ H Q h=>?_;obtain⟨u,ς,k,r,hς,h,q⟩:=h;cases u with
 |tup us=>
  obtain⟨a,vs,rfl,e,rs⟩:=r;have h':tgsU ts us ς k:=h;exact⟨a,vs,rfl,.of e,by rw[<- rs.length];exact hl _ _ _ h',us,ς,k,rs,hς,h',q⟩
 |_=>exact h.elim
def jpt:PGs X [] (lGs X.K (tgsU .nil)):=by
 refine jls.imp λvs σ H Q h=>?_;obtain⟨us,ς,k,r,hς,h,q⟩:=h;obtain⟨rfl,h⟩:=h;cases r;exact⟨rfl,q _ _ hς h⟩
def jpu {e:Expr}{es:List Expr}{t:Tg}{ts:Tgs}(h1:PG X e (lG X.K (tgU t)))(h2:PGs X es (lGs X.K (tgsU ts)))(hs:(Ya4 (e::es) X.env).map (·.2)=assign e X.env::(Ya4 es X.env).map (·.2)) :
  PGs X (e::es) (lGs X.K (tgsU (.cons t ts))):=by
 refine(jjs h1 h2 hs).imp λvs σ H Q h=>?_;obtain⟨us,ς,k,r,hς,h,q⟩:=h;cases us with
 |nil=>exact h.elim
 |cons u us=>
  obtain⟨v,vr,rfl,r1,rs⟩:=r;exact⟨v,vr,rfl,u,ς,_,r1,hς,h,λς' σ' hs' h'=>⟨us,ς',k,rs,hs',h',q⟩⟩
end
def jgK {K:Yac}{H:Hp}:∀ns:List Int,RUs K H (ns.map .int) (ns.map V.int)
 |[]=>rfl
 |_::r=>⟨_,_,rfl,rfl,jgK r⟩
def jhP {κ:Type}{K:Yac}{H:Hp}:∀{kvs:List (κ×U)} {l:List (κ×V)},RKs K H kvs l->kvs.map (·.1)=l.map (·.1)
 |[],_,h=>by cases h;rfl
 |(k,u)::r,_,h=>by
  obtain⟨v,l',rfl,_,rs⟩:=h;rw[YaG,YaG,jhP rs]
def lE0 (K:Yac)(t:UE):TE:=λτ H Q0=>∃ς G Q,SR K H ς τ/\HR K H G/\t ς G Q (λ_ _=>False)/\∀w v G' H',RU K H' w v->HR K H' G'->Fr H G H' G'->Q w G'->Q0 v H'
def lT0 (K:Yac)(t:Sg->Gp->(Bool->Gp->Prop)->Prop):TT:=λτ H Q0=>∃ς G Q,SR K H ς τ/\HR K H G/\t ς G Q/\∀b G' H',HR K H' G'->Fr H G H' G'->Q b G'->Q0 b H'
def LX.no {X:Cx}{σ:St}{H:Hp}{G:Gp}:LX X σ H G λ_ _=>False:=λ_ _ _ _ _ _ _ _ _ _ h=>h.elim
def lE0.of {X:Cx}{e:Expr}{t:UE}(h:PE X e (lE X t)):PE X e (lE0 X.K t):=h.imp λσ H Q0 ⟨ς,G,Q,h1,h2,h3,h4⟩=>⟨ς,G,Q,_,h1,h2,h3,h4,LX.no⟩
def lT0.of {X:Cx}{e:Expr}{t:UT}(h:PT X e (lT X t)):PT X e (lT0 X.K λς G Q=>t ς G Q λ_ _=>False):=h.imp λσ H Q0 ⟨ς,G,Q,h1,h2,h3,h4⟩=>⟨ς,G,Q,_,h1,h2,h3,h4,LX.no⟩
mutual
noncomputable def tgS:Tg->List Nat
 |.n i=>[i]
 |.t ts=>tgsS ts
noncomputable def tgsS:Tgs->List Nat
 |.nil=>[]
 |.cons t ts=>tgS t++tgsS ts
end
def Ext (ς0 ς:Sg):Prop:=ς0.length=ς.length/\∀(j:Nat) (w:U),ς0[j]?=some (some w)->ς[j]?=some (some w)
mutual
def jki {ς0:Sg}:∀{t:Tg} {u:U} {ς:Sg} {k:Sg->Prop},(∀i∈tgS t,∀w,ς0[i]?≠some (some w))->Ext ς0 ς->tgU t u ς k->tgU t u ς λς'=>k ς'/\Ext ς0 ς'
 |.n i,u,ς,k,hf,he,h=>by
  refine⟨h,by simp[he.1],λj w e=>?_⟩
  have hj:j≠i:=λz=>hf i (by simp[tgS]) w (z ▸ e)
  rw[Ya5 (Ne.symm hj)]
  exact he.2 j w e
 |.t ts,u,ς,k,hf,he,h=>by
  cases u with
  |tup us=>exact jhF (ts:=ts) (us:=us) (λi hi=>hf i hi) he h
  |_=>exact h
def jhF {ς0:Sg}:∀{ts:Tgs} {us:List U} {ς:Sg} {k:Sg->Prop},(∀i∈tgsS ts,∀w,ς0[i]?≠some (some w))->Ext ς0 ς->tgsU ts us ς k->tgsU ts us ς λς'=>k ς'/\Ext ς0 ς'
 |.nil,us,ς,k,_,he,h=>⟨h.1,h.2,he⟩
 |.cons t ts,us,ς,k,hf,he,h=>by
  cases us with
  |nil=>exact h
  |cons u r=>
   have:=jki (t:=t) (u:=u) (λi hi=>hf i (by simp[tgsS,hi])) he h
   refine jdr this λς' ⟨h1,h2⟩=>jhF (λi hi=>hf i (by simp[tgsS,hi])) h2 h1
def jdr:∀{t:Tg} {u:U} {ς:Sg} {k k':Sg->Prop},tgU t u ς k->(∀ς,k ς->k' ς)->tgU t u ς k'
 |.n _,_,_,_,_,h,i=>i _ h
 |.t ts,u,ς,_,_,h,i=>by
  cases u with
  |tup us=>exact jgg (ts:=ts) (us:=us) h i
  |_=>exact h
def jgg:∀{ts:Tgs} {us:List U} {ς:Sg} {k k':Sg->Prop},tgsU ts us ς k->(∀ς,k ς->k' ς)->tgsU ts us ς k'
 |.nil,_,_,_,_,h,i=>⟨h.1,i _ h.2⟩
 |.cons t ts,us,ς,_,_,h,i=>by
  cases us with
  |nil=>exact h
  |cons u r=>exact jdr (t:=t) h λς' h'=>jgg h' i
end
def SR.ext {K:Yac}{H:Hp}{ς0 ς:Sg}{σ:St}(h:SR K H ς σ)(e:Ext ς0 ς):SR K H ς0 σ:=⟨e.1.trans h.1,λi u q=>h.2 i u (e.2 i u q)⟩
def SR.pick {K:Yac}{H:Hp}{ς:Sg}{σ:St}(h:SR K H ς σ)(pick:List (Option Nat)):SR K H (jb5 pick ς) (pick.map λo=>o.bind λj=>(σ[j]?).join):=by
 refine⟨by simp[jb5],λi u e=>?_⟩
 unfold jb5 at e;rw[Yal]at e ⊢;cases q:pick[i]? with
 |none=>rw[q]at e;cases e
 |some o=>
  rw[q]at e;cases o with
  |none=>simp at e
  |some j=>
   simp only[YfL,Option.bind_some,Option.some.injEq]at e ⊢;have e':ς[j]?=some (some u):=by
    cases z:ς[j]? with
    |none=>rw[z]at e;cases e
    |some w=>rw[z]at e;simp at e;rw[e]
   obtain⟨v,ev,r⟩:=h.2 j u e';exact⟨v,by rw[ev];rfl,r⟩
section
variable {K:Yac}{H:Hp}{G:Gp}
def HR.newH (h:HR K H G){p:Addr}{o:HO}(e:H p=none):HR K (upd H p o) G:=⟨λa ob q=>by
 have m:=h a ob q;obtain⟨ho,e2⟩:=m.there;exact m.keep (jaf (jai e2 e)) (TS.new e),h.tab.new e⟩
def TS.hid {p:Addr}{ys:List V}{o:HO}(e:H p=some (.lst ys)):TS H (upd H p o):=⟨λa xs h=>by
 have:a≠p:=λz=>by subst z;rw[e]at h;cases h
 rw[jaf this];exact h,λa ob h=>by
 have:a≠p:=λz=>by subst z;rw[e]at h;cases h
 rw[jaf this];exact h⟩
def HR.hid (h:HR K H G){p:Addr}{ys:List V}{o:HO}(e:H p=some (.lst ys))(g:G p=none):HR K (upd H p o) G:=⟨λa ob q=>by
 have:a≠p:=λz=>by subst z;rw[g]at q;cases q
 exact(h a ob q).keep (jaf this) (TS.hid e),h.tab.upd (λps z=>by rw[e]at z;cases z) λob z=>by rw[e]at z;cases z⟩
def HR.know (h:HR K H G){p:Addr}{ys:List V}{us:List U}(e:H p=some (.lst ys))(r:RUs K H us ys):HR K H (gup G p (.lst us)):=⟨λa ob q=>by
 by_cases z:a=p
 ·subst z;rw[jag]at q;cases q;exact⟨ys,e,r⟩
 ·rw[jbx z]at q;exact h a ob q,h.tab⟩
end
section
variable {X:Cx}{pick:List (Option Nat)}{ti:UI}{t:Tg}{tc:Sg->Gp->(Bool->Gp->Prop)->Prop}{te:UE}{σ:St}{H:Hp}{Q0:VK}
abbrev lcD (pick:List (Option Nat))(ti:UI)(t:Tg)(tc:Sg->Gp->(Bool->Gp->Prop)->Prop)(te:UE):UE:=λς G Q E=>ti ς G (λxs ok G1=>xs.length<=Yak/\jea ok (λx G2 k=>tgU t x (jb5 pick ς) λτ=>tc τ G2 (λb G3=>if b=true then te τ G3 (λu G4=>k (some u) G4) (λ_ _=>False) else k none G3)) xs [] G1
   λus G5=>newO G5 (.lst us) Q) E
structure FrX (D:Addr)(H:Hp)(G:Gp)(H':Hp)(G':Gp):Prop where
 go:∀a o,a≠D->H a=some o->G a=none->(nt:noTb o=true:=by rfl)->H' a=some o/\G' a=none
instance {D:Addr} {H H':Hp} {G G':Gp}:CoeFun (FrX D H G H' G') λ_=>∀a o,a≠D->H a=some o->G a=none->(nt:noTb o=true:=by rfl)->H' a=some o/\G' a=none:=⟨@FrX.go D H G H' G'⟩
def joc {xs:List U}{ok:Gp->Prop}{G1:Gp}{H1:Hp}{J:L2.It}{τu:Sg}{τ0:St}{D:Addr}{acc0:List U}{ys0:List V}{kk:List U->Gp->Prop}{QQ:St->List V->Hp->Prop}
  (free:∀i∈tgS t,∀w,τu[i]?≠some (some w)) (wk:jfI X.K J H1 G1 xs ok) (hG1:HR X.K H1 G1) (eD1:H1 D=some (.lst ys0)) (gD1:G1 D=none) (ra1:RUs X.K H1 acc0 ys0) (sr1:SR X.K H1 τu τ0) (hl:acc0.length+xs.length<=Yak)
  (h1:jea ok (λx G2 k=>tgU t x τu λτ=>tc τ G2 (λb G3=>if b=true then te τ G3 (λu G4=>k (some u) G4) (λ_ _=>False) else k none G3)) xs acc0 G1 kk)
  (fin:∀τ' acc' ys' G' H',SR X.K H' τu τ'->HR X.K H' G'->FrX D H1 G1 H' G'->H' D=some (.lst ys')->G' D=none->RUs X.K H' acc' ys'->kk acc' G'->QQ τ' ys' H') :
  ji3 J (lG X.K (tgU t)) (lT0 X.K tc) (emA (lE0 X.K te) D) QQ τ0 ys0 H1:=by
 refine⟨λi m τ ys H'=>m=xs.length-i/\i<=xs.length/\∃acc G',SR X.K H' τu τ/\HR X.K H' G'/\FrX D H1 G1 H' G'/\H' D=some (.lst ys)/\G' D=none/\RUs X.K H' acc ys/\acc.length<=acc0.length+i/\
  jea ok (λx G2 k=>tgU t x τu λτ=>tc τ G2 (λb G3=>if b=true then te τ G3 (λu G4=>k (some u) G4) (λ_ _=>False) else k none G3)) (xs.drop i) acc G' kk,⟨xs.length,by simp,Ybb _,acc0,G1,sr1,hG1,⟨λ_ _ _ a b _=>⟨a,b⟩⟩,eD1,gD1,ra1,by omega,by simpa using h1⟩,?_⟩
 rintro i m τ ys H' ⟨rfl,hi,acc,G',sr,hr,f,eD,gD',ra,hal,hc⟩;have ts:TS H1 H':=⟨λa zs e=>(f a _ (λz=>by rw[z,eD1]at e;cases e) e (hG1.tupNone e)).1,λa zs e=>(f a _ (λz=>by rw[z,eD1]at e;cases e) e (hG1.codNone e)).1⟩
 by_cases hlt:i<xs.length
 ·rw[Ya0 hlt]at hc;obtain⟨hok,hb⟩:=hc;obtain⟨w1,_⟩:=wk i H' G' ts hr hok;obtain⟨go,yl⟩:=w1 xs[i] (by simp[hlt])
  refine .inr ⟨go,λv H'' y=>?_⟩;obtain⟨rx,hr2,f2⟩:=yl v H'' y;have sr2:=sr.ts (f2.ts hr);refine⟨xs[i],τu,_,rx,sr2,jki free ⟨rfl,λ_ _ e=>e⟩ hb,λτv σ' hs' ⟨hk,he⟩=>?_⟩;refine⟨τv,G',_,hs',hr2,hk,λb G3 H3 hr3 f3 h3=>?_⟩;have f13:FrX D H1 G1 H3 G3:=⟨λa o n h g nt=>let ⟨a1,a2⟩:=f a o n h g nt;let ⟨b1,b2⟩:=f2 a o a1 a2 nt;f3 a o b1 b2 nt⟩
  have hs3:SR X.K H3 τu σ':=(hs'.ext he).ts (f3.ts hr2);obtain⟨eD2,gD2⟩:=f2 D _ eD gD';obtain⟨eD3,gD3⟩:=f3 D _ eD2 gD2;have ra3:=(ra.ts (f2.ts hr)).ts (f3.ts hr2);cases b with
  |false=>
   rw[if_neg Yan]at h3;dsimp only;rw[if_neg Yan];exact⟨xs.length-(i+1),by omega,rfl,hlt,acc,G3,hs3,hr3,f13,eD3,gD3,ra3,by omega,h3⟩
  |true=>
   rw[if_pos rfl]at h3;dsimp only;rw[if_pos rfl];refine⟨τv,G3,_,hs'.ts (f3.ts hr2),hr3,h3,λu v G4 H4 ru hr4 f4 h4=>?_⟩;obtain⟨eD4,gD4⟩:=f4 D _ eD3 gD3;have ra4:=ra3.ts (f4.ts hr3);have tsn:=TS.hid (o:=.lst (ys++[v])) eD4;refine⟨eD4,by rw[<- ra.length];omega,xs.length-(i+1),by omega,rfl,hlt,acc++[u],G4,(hs3.ts (f4.ts hr3)).ts tsn,hr4.hid eD4 gD4,?_,jas,gD4,(ra4.append (RUs.mk (us:=[]) (vs:=[]) ru rfl)).ts tsn,by simp;omega,h4⟩
   refine⟨λa o n ha ga nt=>?_⟩;obtain⟨x1,x2⟩:=f13 a o n ha ga nt;obtain⟨y1,y2⟩:=f4 a o x1 x2 nt;exact⟨by rw[jaf n];exact y1,y2⟩
 ·have e:i=xs.length:=by omega
  subst e;rw[Yf4]at hc;obtain⟨hok,q⟩:=hc;obtain⟨_,w2⟩:=wk xs.length H' G' ts hr hok;exact .inl ⟨w2 rfl,fin τ acc ys G' H' sr hr f eD gD' ra q⟩
def jhT {is:List Nat}(hp:is.all (λi=>(pick[i]?).join.isNone)=true)(ς:Sg):∀i∈is,∀w,(jb5 pick ς)[i]?≠some (some w):=λi hi w e=>by
 have:=YcX.mp hp i hi;unfold jb5 at e;rw[Yal]at e;cases q:pick[i]? with
 |none=>rw[q]at e;cases e
 |some o=>
  rw[q]at e this;cases o with
  |none=>simp at e
  |some j=>simp at this
def jkv (hp:(tgS t).all (λi=>(pick[i]?).join.isNone)=true)(h:lE X (lcD pick ti t tc te) σ H Q0):tLc pick (lI X ti) (lG X.K (tgU t)) (lT0 X.K tc) (lE0 X.K te) σ H Q0:=by
 obtain⟨ς,G,Q,E,hς,hG,h,lv,lx⟩:=h;refine⟨ς,G,_,E,hς,hG,h,λxs ok G1 H1 J hG1 f1 wk h1=>?_,lx⟩;obtain⟨hl,h1⟩:=h1;intro D hD;refine joc (acc0:=[]) (jhT hp ς) (wk.mono (TS.new hD)) (hG1.newH hD) jas (hG1.nope hD) rfl (((hς.ts (f1.ts hG)).ts (TS.new hD)).pick pick) (by simpa using hl) h1 λτ' acc' ys' G' H' sr hr f eD gD' ra q=>?_
 refine lv (.loc D) (.ref D) _ H' rfl (hr.know eD ra) ?_ (q.at D gD');refine⟨λa o ha ga nt=>?_⟩;obtain⟨x1,x2⟩:=f1 a o ha ga nt;obtain⟨y1,y2⟩:=f a o (jai x1 hD) (by rw[jaf (jai x1 hD)];exact x1) x2 nt
 exact⟨y1,by rw[jbx (jai x1 hD)];exact y2⟩
def lI0 (K:Yac)(t:UI):TI:=λσ H R=>∃ς G Q,SR K H ς σ/\HR K H G/\t ς G Q (λ_ _=>False)/\∀xs ok G' H' J,HR K H' G'->Fr H G H' G'->jfI K J H' G' xs ok->Q xs ok G'->R J H'
mutual
def jk2 {is:List Nat}:∀{t:Tg} {u:U} {ς:Sg} {k:Sg->Prop},(∀i∈is,i∉tgS t)->(∀i∈is,∀w,ς[i]?≠some (some w))->tgU t u ς k->tgU t u ς λς'=>k ς'/\∀i∈is,∀w,ς'[i]?≠some (some w)
 |.n j,u,ς,k,hf,he,h=>by
  refine⟨h,λi hi w e=>?_⟩
  have hj:i≠j:=λz=>hf i hi (by simp[tgS,z])
  rw[Ya5 (Ne.symm hj)]at e
  exact he i hi w e
 |.t ts,u,ς,k,hf,he,h=>by
  cases u with
  |tup us=>exact jgh (ts:=ts) (us:=us) (λi hi=>hf i hi) he h
  |_=>exact h
def jgh {is:List Nat}:∀{ts:Tgs} {us:List U} {ς:Sg} {k:Sg->Prop},(∀i∈is,i∉tgsS ts)->(∀i∈is,∀w,ς[i]?≠some (some w))->tgsU ts us ς k->tgsU ts us ς λς'=>k ς'/\∀i∈is,∀w,ς'[i]?≠some (some w)
 |.nil,us,ς,k,_,he,h=>⟨h.1,h.2,he⟩
 |.cons t ts,us,ς,k,hf,he,h=>by
  cases us with
  |nil=>exact h
  |cons u r=>
   have:=jk2 (t:=t) (u:=u) (λi hi z=>hf i hi (by simp[tgsS,z])) he h
   refine jdr this λς' ⟨h1,h2⟩=>jgh (λi hi z=>hf i hi (by simp[tgsS,z])) h2 h1
end
variable {tg iter elt:Expr}{ifs:List Expr}{pos:Pos}{N:List Str}{scope:Scope}
def u_lc (hc:X.calm=true)(S:CScope X N pick scope)(hw:PI X tg iter (lI X ti))(hp:(tgS t).all (λi=>(pick[i]?).join.isNone)=true)
  (hg:∀cl C s₀ H₀ fp,PG (jap X N scope cl C s₀ H₀ fp) tg (lG X.K (tgU t))) (hi:∀cl C s₀ H₀ fp,PIfs (jap X N scope cl C s₀ H₀ fp) ifs (lT0 X.K tc)) (he:∀cl C s₀ H₀ fp,PE (jap X N scope cl C s₀ H₀ fp) elt (lE0 X.K te))
  (hs:∀x,Ya7 iter X.env x=pure x):PE X (.ListComp elt [⟨tg,iter,ifs,0⟩] scope pos) (lE X (lcD pick ti t tc te)):=
 (jqg hc S hw hg hi he hs).imp λ_ _ _ h=>jkv hp h
end
section
variable {X:Cx}{e:Expr}{te ta tb:UE}{p pos:Pos}
def jpC (hc:X.calm=true)(hg:Gl X "list")(hm:X.mg "list" = none)(ha:PE X e (lE X te))(he:YaP [e] X.env=[(false,eval e X.env)]) :
  PE X (.Call (.Name "list" p) [e] [] pos) (lE X λς G Q E=>te ς G (λx G1=>mkDU x G1 Q) E):=by
 refine(jcn (jhu hc) hg hm YdM (jeb ha jg5 he) (by decide) (by decide) he rfl).imp λσ H Q0 h=>?_
 obtain⟨ς,G,Q,E,hς,hG,h,lv,lx⟩:=h;refine⟨ς,G,λus G1=>match us with|[x]=>mkDU x G1 Q|_=>False,E,hς,hG,h,λus vs G1 H1 rs hG1 f1 h1=>?_,lx⟩
 dsimp only at h1;split at h1
 ·obtain⟨v,rfl,r⟩:=rs.one;unfold mkDU at h1;split at h1
  ·cases r;split at h1
   ·rename_i kvs g;obtain⟨ns,hk,q⟩:=h1;obtain⟨l,e,rk⟩:=hG1 _ _ g;refine⟨_,l,ns,rfl,e,?_,λp hp=>(lv.fr f1).lst hp (jgK _) hG1 q⟩;rw[<- jhP rk];exact hk
   ·exact h1.elim
  ·exact h1.elim
 ·exact h1.elim
def jpB (hg:Gl X "list")(hm:X.mg "list" = none)(ha:PE X e (lE X te))(he:YaP [e] X.env=[(false,eval e X.env)]) :
  PE X (.Call (.Name "list" p) [e] [] pos) (lE X λς G Q E=>te ς G (λx G1=>itU x G1 λxs _=>newO G1 (.lst xs) Q) E):=by
 refine(jcn (jfC (X:=X)) hg hm YdM (jeb ha jg5 he) (by decide) (by decide) he rfl).imp λσ H Q0 h=>?_
 obtain⟨ς,G,Q,E,hς,hG,h,lv,lx⟩:=h;refine⟨ς,G,λus G1=>match us with|[x]=>(itU x G1 λxs _=>newO G1 (.lst xs) Q)|_=>False,E,hς,hG,h,λus vs G1 H1 rs hG1 f1 h1=>?_,lx⟩
 dsimp only at h1;split at h1
 ·obtain⟨v,rfl,r⟩:=rs.one;unfold itU at h1;split at h1
  ·obtain⟨a,ws,rfl,ea,rr⟩:=r;exact⟨a,ws,rfl,.inr (.of ea),λl hl=>(lv.fr f1).lst hl rr hG1 h1⟩
  ·cases r;split at h1
   ·rename_i us eu;obtain⟨ws,sq,rr⟩:=hG1.ls eu;exact⟨_,ws,rfl,.inl sq,λl hl=>(lv.fr f1).lst hl rr hG1 h1⟩
   ·exact h1.elim
  ·exact h1.elim
 ·exact h1.elim
def jpA (hg:Gl X "tuple")(hm:X.mg "tuple" = none)(ha:PE X e (lE X te))(he:YaP [e] X.env=[(false,eval e X.env)]) :
  PE X (.Call (.Name "tuple" p) [e] [] pos) (lE X λς G Q E=>te ς G (λx G1=>itU x G1 λxs _=>Q (.tup xs) G1) E):=by
 refine(jcn (jeO (X:=X)) hg hm PyProof.Rows.boot_tuple (jeb ha jg5 he) (by decide) (by decide) he rfl).imp λσ H Q0 h=>?_
 obtain⟨ς,G,Q,E,hς,hG,h,lv,lx⟩:=h;refine⟨ς,G,λus G1=>match us with|[x]=>(itU x G1 λxs _=>Q (.tup xs) G1)|_=>False,E,hς,hG,h,λus vs G1 H1 rs hG1 f1 h1=>?_,lx⟩
 dsimp only at h1;split at h1
 ·obtain⟨v,rfl,r⟩:=rs.one;unfold itU at h1;split at h1
  ·obtain⟨a,ws,rfl,ea,rr⟩:=r;exact⟨a,ws,rfl,.inr ⟨.of ea,(lv.fr f1).here (w:=.tup _) ⟨a,ws,rfl,ea,rr⟩ hG1 h1⟩⟩
  ·cases r;split at h1
   ·rename_i us eu;obtain⟨ws,sq,rr⟩:=hG1.ls eu;exact⟨_,ws,rfl,.inl ⟨sq,λl hl=>(lv.fr f1).tup hl rr hG1 h1⟩⟩
   ·exact h1.elim
  ·exact h1.elim
 ·exact h1.elim
def u_ty {x:Str}{n:String}(hg:Gl X x)(hm:X.mg x=none)(hv:Yca x=some (.type n))(hn:x ≠ "__name__")(hd:(x==("__debug__" : Str))=false):PE X (.Name x pos) (lE X λ_ G Q _=>Q (.ty n) G):=
 jcL (u:=.ty n) (jly (v:=.ty n) hg hm hv rfl hn hd) λ_=>rfl
def u_gl {x:Str}{u:U}{v:V}{w:Value}(hg:Gl X x)(hm:X.mg x=some w)(r:RelV v w)(hr:∀H,RU X.K H u v)(hd:(x==("__debug__" : Str))=false):PE X (.Name x pos) (lE X λ_ G Q _=>Q u G):=
 jcL (jlv hg hm r hd) hr
def jmP:PE X (.Dict [] [] pos) (lE X λ_ G Q _=>newO G (.dK []) Q):=by
 refine jjv.imp λσ H Q0 h p hp=>?_;obtain⟨ς,G,Q,E,hς,hG,h,lv,lx⟩:=h;exact lv (.loc p) (.ref p) _ _ rfl (hG.newO (mo:=.dK []) hp ⟨[],jas,rfl⟩) (Fr.newO hp) (h.at p (hG.nope hp))
def RKs.merge {K:Yac}{H:Hp}:∀{more:List (Key×U)} {m:List (Key×V)},RKs K H more m->∀{kvs:List (Key×U)} {l:List (Key×V)},RKs K H kvs l->RKs K H (more.foldl (λacc kv=>dPut acc kv.1 kv.2) kvs) (jdK l m)
 |[],_,h,_,_,h'=>by cases h;exact h'
 |(k,u)::more,_,h,_,_,h'=>by
  obtain⟨v,l',rfl,r,rs⟩:=h;exact RKs.merge rs (h'.put r)
def lD (X:Cx)(t:Sg->Gp->(List (Key×U)->Gp->Prop)->KX->Prop)(trs:List (TE×TE)):Prop:=
 ∀σ H ς G Q E (Q0:List (V×V)->Hp->Prop),SR X.K H ς σ->HR X.K H G->t ς G Q E->LX X σ H G E->
  (∀kvs (l:List (Key×V)) G' H',RKs X.K H' kvs l->HR X.K H' G'->Fr H G H' G'->Q kvs G'->Q0 (l.map λkv=>(kV kv.1,kv.2)) H')->jgn trs σ H Q0
def jpF {keys:List (Option Expr)}{values:List Expr}{trs:List (TE×TE)}{t:Sg->Gp->(List (Key×U)->Gp->Prop)->KX->Prop}(hp:PPs X pos keys values trs)(hd:lD X t trs)(hall:keys.all (·.isSome)=true)(hl:keys.length=values.length)(h0:keys≠[])
  (h15:keys.length<=15):PE X (.Dict keys values pos) (lE X λς G Q E=>t ς G (λkvs G1=>kvs.length<=15/\newO G1 (.dK (jd5 kvs)) Q) E):=by
 refine(jlw hp hall hl h0 h15).imp λσ H Q0 h p hp=>?_;obtain⟨ς,G,Q,E,hς,hG,h,lv,lx⟩:=h;have gp:=hG.nope hp;refine hd σ _ ς G _ E _ (hς.ts (TS.new hp)) (hG.newH hp) h (lx.fr (Fr.new hp)) λkvs l G' H' r hG' f q=>?_;obtain⟨e,g⟩:=f p _ jas gp;refine⟨e,l,rfl,by rw[<- r.length];exact q.1,?_⟩
 have ts:TS H' (upd H' p (.dK (jdK [] l))):=⟨λa xs h=>by
  have:a≠p:=λz=>by subst z;rw[e]at h;cases h
  rw[jaf this];exact h,λa xs h=>by
  have:a≠p:=λz=>by subst z;rw[e]at h;cases h
  rw[jaf this];exact h⟩
 refine lv (.loc p) (.ref p) (gup G' p (.dK (jd5 kvs))) _ rfl ⟨λa ob z=>?_,hG'.tab.upd (λps z=>by rw[e]at z;cases z) λob z=>by rw[e]at z;cases z⟩ ⟨λa o ha ga nt=>?_⟩ (q.2.at p g)
 ·by_cases ea:a=p
  ·subst ea;rw[jag]at z;cases z;exact⟨_,jas,(RKs.merge r (kvs:=[]) (l:=[]) rfl).ts ts⟩
  ·rw[jbx ea]at z;exact(hG' a ob z).keep (jaf ea) ts
 ·have ea:a≠p:=jai ha hp;obtain⟨x1,x2⟩:=f a o (by rw[jaf ea];exact ha) ga nt
  exact⟨by rw[jaf ea];exact x1,by rw[jbx ea];exact x2⟩
def jof:lD X (λ_ G Q _=>Q [] G) []:=λσ H ς G Q E Q0 hς hG h lx q=>q [] [] G H rfl hG (Fr.refl _ _) h
def jl4 {tk tv:UE}{t:Sg->Gp->(List (Key×U)->Gp->Prop)->KX->Prop}{trs:List (TE×TE)}(hr:lD X t trs):lD X (λς G Q E=>tk ς G (λx G1=>tv ς G1 (λy G2=>match kU x with
   |some k=>t ς G2 (λkvs G3=>Q ((k,y)::kvs) G3) E
   |none=>False) E) E) ((lE X tk,lE X tv)::trs):=by
 intro σ H ς G Q E Q0 hς hG h lx q;refine⟨ς,G,_,E,hς,hG,h,λx v G1 H1 rx hG1 f1 h1=>?_,lx⟩;refine⟨ς,G1,_,E,hς.ts (f1.ts hG),hG1,h1,λy v' G2 H2 ry hG2 f2 h2=>?_,lx.fr f1⟩;dsimp only at h2;split at h2
 ·rename_i k ek;have:=jfY rx ek;subst this;refine hr σ H2 ς G2 _ E _ ((hς.ts (f1.ts hG)).ts (f2.ts hG1)) hG2 h2 (lx.fr (f1.trans f2)) λkvs l G3 H3 r hG3 f3 h3=>?_;exact q ((k,y)::kvs) ((k,v')::l) G3 H3 ⟨v',l,rfl,ry.ts (f3.ts hG2),r⟩ hG3 ((f1.trans f2).trans f3) h3
 ·exact h2.elim
end
end Z

namespace L2
open PySem
end L2
namespace Z
open PySem L2
structure LD (X:Cx)(H:Hp)(G:Gp)(De:En)(D:Ends):Prop where
 nx:∀ς' σ' G' H',SR X.K H' ς' σ'->HR X.K H' G'->Fr H G H' G'->De.nx ς' G'->D.nx σ' H'
 rt:∀w v G' H',RU X.K H' w v->HR X.K H' G'->Fr H G H' G'->De.rt w G'->D.rt v H'
 ex:∀(pins:List (Addr×Obj)) (e:Value) (s':Shared) (x:XV) ς' σ' G' H',Inv X pins σ' H' s'->SR X.K H' ς' σ'->XAt X H' s' e x->HR X.K H' G'->Fr H G H' G'->De.ex x ς' G'->X.xe e s'
abbrev US:=En->Sg->Gp->Prop
def lS (X:Cx)(t:US):L2.TS:=λD σ H=>∃De ς G,SR X.K H ς σ/\HR X.K H G/\t De ς G/\LD X H G De D
section
variable {X:Cx}{H H1:Hp}{G G1:Gp}{De:En}{D:Ends}{ς:Sg}{σ:St}
def LD.fr (h:LD X H G De D)(f:Fr H G H1 G1):LD X H1 G1 De D:=
 ⟨λς' σ' G' H' a b c=>h.nx ς' σ' G' H' a b (f.trans c),λw v G' H' a b c=>h.rt w v G' H' a b (f.trans c),λpins e s' x ς' σ' G' H' i a b c d=>h.ex pins e s' x ς' σ' G' H' i a b c (f.trans d)⟩
def LD.lx (h:LD X H G De D)(hς:SR X.K H ς σ)(hG:HR X.K H G):LX X σ H G λx G1=>De.ex x ς G1:=λpins e s' x G' H' I a hr f q=>h.ex pins e s' x ς σ G' H' I (hς.ts (f.ts hG)) a hr f q
def LD.here (h:LD X H G De D)(hς:SR X.K H ς σ)(hG:HR X.K H G)(q:De.nx ς G):D.nx σ H:=h.nx ς σ G H hς hG (Fr.refl _ _) q
def LD.with {k:Sg->Gp->Prop}{D':Ends}(h:LD X H G De D)(hn:∀ς' σ' G' H',SR X.K H' ς' σ'->HR X.K H' G'->Fr H G H' G'->k ς' G'->D'.nx σ' H')(hr:D'.rt=D.rt):LD X H G { De with nx:=k } D':=
 ⟨hn,λw v G' H' a b c d=>by rw[hr];exact h.rt w v G' H' a b c d,h.ex⟩
end
section
variable {X:Cx}{st:Stmt}{rest:List Stmt}{pos:Pos}{e:Expr}{te:UE}{t u:US}
def s_nil:PSs X [] (lS X λD ς G=>D.nx ς G):=jli.imp λD σ H ⟨De,ς,G,hς,hG,h,ld⟩=>ld.here hς hG h
def s_cons (h1:PS X st (lS X t))(h2:PSs X rest (lS X u)):PSs X (st::rest) (lS X λD ς G=>t { D with nx:=λς' G'=>u D ς' G' } ς G):=by
 refine(jjl h1 h2).imp λD σ H ⟨De,ς,G,hς,hG,h,ld⟩=>?_;exact⟨_,ς,G,hς,hG,h,ld.with (λς' σ' G' H' a b c d=>⟨De,ς',G',a,b,d,ld.fr c⟩) rfl⟩
def s_expr (he:PE X e (lE X te))(hs:Yc3 e none pos.line X.env=pure false):PS X (.Expr e pos) (lS X λD ς G=>te ς G (λ_ G1=>D.nx ς G1) λx G1=>D.ex x ς G1):=
 (jlj he hs).imp λD σ H ⟨De,ς,G,hς,hG,h,ld⟩=>⟨ς,G,_,_,hς,hG,h,λw v G' H' _ hr f q=>ld.nx ς σ G' H' (hς.ts (f.ts hG)) hr f q,ld.lx hς hG⟩
def s_ret (he:PE X e (lE X te)):PS X (.Return (some e) pos) (lS X λD ς G=>te ς G D.rt λx G1=>D.ex x ς G1):=
 (jnp he).imp λD σ H ⟨De,ς,G,hς,hG,h,ld⟩=>⟨ς,G,_,_,hς,hG,h,λw v G' H' r hr f q=>ld.rt w v G' H' r hr f q,ld.lx hς hG⟩
def s_if {c:Expr}{a b:List Stmt}{tc:UT}(hc:PT X c (lT X tc))(ha:PSs X a (lS X t))(hb:PSs X b (lS X u)):PS X (.If c a b pos) (lS X λD ς G=>tc ς G (λx G1=>if x=true then t D ς G1 else u D ς G1) λx G1=>D.ex x ς G1):=by
 refine(jqa hc ha hb).imp λD σ H ⟨De,ς,G,hς,hG,h,ld⟩=>⟨ς,G,_,_,hς,hG,h,λb G' H' hr f q=>?_,ld.lx hς hG⟩;cases b with
 |true=>rw[if_pos rfl]at q ⊢;exact⟨De,ς,G',hς.ts (f.ts hG),hr,q,ld.fr f⟩
 |false=>rw[if_neg Yan]at q ⊢;exact⟨De,ς,G',hς.ts (f.ts hG),hr,q,ld.fr f⟩
def jmC {g:Tg}{D:Ends}{σ:St}{H:Hp}(h:lS X (λD ς G=>te ς G (λu G1=>tgU g u ς λς'=>D.nx ς' G1) λx G1=>D.ex x ς G1) D σ H) :
  lE X te σ H λx H1=>lG X.K (tgU g) x σ H1 D.nx:=by
 obtain⟨De,ς,G,hς,hG,h,ld⟩:=h;exact⟨ς,G,_,_,hς,hG,h,λw v G' H' r hr f q=>⟨w,ς,_,r,hς.ts (f.ts hG),q,λς' σ' hs hk=>ld.nx ς' σ' G' H' hs hr f hk⟩,ld.lx hς hG⟩
def s_unp {ts:Tgs}{es:List Expr}{k n:Nat}{p:Pos}(hc:X.calm=true)(he:PE X e (lE X te))(hg:PGs X es (lGs X.K (tgsU ts)))(hn:(Ya4 es X.env).length=n)(hst:(Ya4 es X.env).findIdx? (·.1)=none)(hl:∀us ς k,tgsU ts us ς k->us.length=n)
  (hs:Ybt [.Tuple es k p] e pos.line X.env=pure false) (hw:Ybi [.Tuple es k p] e X.env=pure none) (h1:(Ya4 [.Tuple es k p] X.env).map (·.2)=[assign (.Tuple es k p) X.env]) :
  PS X (.Assign [.Tuple es k p] e pos) (lS X λD ς G=>te ς G (λu G1=>unpU ts u G1 ς λς'=>D.nx ς' G1) λx G1=>D.ex x ς G1):=by
 refine(jhQ he (jnz hc hg hn hst) hs hw h1).imp λD σ H h=>?_;obtain⟨De,ς,G,hς,hG,h,ld⟩:=h;refine⟨ς,G,_,_,hς,hG,h,λw v G' H' r hr f q=>?_,ld.lx hς hG⟩;cases w with
 |loc a=>
  cases r;unfold unpU at q;dsimp only at q;split at q
  ·rename_i us eu;obtain⟨vs,sq,rs⟩:=hr.ls eu;exact⟨a,vs,rfl,sq,by rw[<- rs.length];exact hl _ _ _ q,us,ς,_,rs,hς.ts (f.ts hG),q,λς' σ' hs hk=>ld.nx ς' σ' G' H' hs hr f hk⟩
  ·exact q.elim
 |_=>exact q.elim
def s_asg {tg:Expr}{g:Tg}(he:PE X e (lE X te))(hg:PG X tg (lG X.K (tgU g)))(hs:Ybt [tg] e pos.line X.env=pure false)(hw:Ybi [tg] e X.env=pure none)
  (h1:(Ya4 [tg] X.env).map (·.2)=[assign tg X.env]):PS X (.Assign [tg] e pos) (lS X λD ς G=>te ς G (λu G1=>tgU g u ς λς'=>D.nx ς' G1) λx G1=>D.ex x ς G1):=
 (jhQ he hg hs hw h1).imp λ_ _ _ h=>jmC h
def s_lc {i:Nat}{y:Str}{py spos:Pos}{tg iter elt:Expr}{ifs:List Expr}{pick:List (Option Nat)}{N:List Str}{scope:Scope}{ti:UI}{g:Tg}{tc:Sg->Gp->(Bool->Gp->Prop)->Prop}
  (hN:X.N.Nodup) (hi':X.N[i]?=some y) (hy:X.env.scope.names.lookup y=some .local) (hc:X.calm=true) (S:CScope X N pick scope) (hw:PI X tg iter (lI X ti)) (hp:(tgS g).all (λi=>(pick[i]?).join.isNone)=true)
  (hg:∀cl C s₀ H₀ fp,PG (jap X N scope cl C s₀ H₀ fp) tg (lG X.K (tgU g))) (hi:∀cl C s₀ H₀ fp,PIfs (jap X N scope cl C s₀ H₀ fp) ifs (lT0 X.K tc)) (he:∀cl C s₀ H₀ fp,PE (jap X N scope cl C s₀ H₀ fp) elt (lE0 X.K te))
  (hsw:Yc3 (.ListComp elt [⟨tg,iter,ifs,0⟩] scope pos) (some (.Name y py)) spos.line X.env=pure true) (hs:∀x,Ya7 iter X.env x=pure x) :
  PS X (.Assign [.Name y py] (.ListComp elt [⟨tg,iter,ifs,0⟩] scope pos) spos) (lS X λD ς G=>lcD pick ti g tc te ς G (λu G1=>tgU (.n i) u ς λς'=>D.nx ς' G1) λx G1=>D.ex x ς G1):=by
 refine(jp9 hN hi' hy hc S hw hg hi he hsw hs).imp λD σ H h=>?_;obtain⟨De,ς,G,hς,hG,h,ld⟩:=h;exact jkv hp ⟨ς,G,_,_,hς,hG,h,λw v G' H' r hr f q=>ld.nx _ _ G' H' ((hς.ts (f.ts hG)).set r i) hr f q,ld.lx hς hG⟩
def jnk:TSet:=λo i v H Q=>∃a H',o=.ref a/\DPut H a i v H'/\Q H'
def ji8 (hu:X.A.units+1<cLine):PSet X jnk:=by
 intro pins s σ H o i v ov iv u Q I ro ri rv h;obtain⟨a,H',rfl,g,q⟩:=h;cases ro;exact jiN hu I g ri rv λs' I'=>⟨H',I',q⟩
def _root_.L2.PSet.or {t t':TSet}(h:PSet X t)(h':PSet X t'):PSet X λo i v H Q=>t o i v H Q\/t' o i v H Q:=by
 intro pins s σ H o i v ov iv u Q I ro ri rv q;rcases q with q|q
 ·exact h pins s σ H o i v ov iv u Q I ro ri rv q
 ·exact h' pins s σ H o i v ov iv u Q I ro ri rv q
def jk9 {H:Hp}{G:Gp}{x y w:U}{v v' v'':V}{k:Gp->Prop}{Q0:Hp->Prop}(rx:RU X.K H x v)(ry:RU X.K H y v')(rw':RU X.K H w v'')(hG:HR X.K H G)(h:setU x y w G k)
  (q:∀G' H',HR X.K H' G'->Fr H G H' G'->k G'->Q0 H'):jnj v v' v'' H Q0\/jnk v v' v'' H Q0:=by
 cases x with
 |loc a=>
  cases rx;unfold setU at h;dsimp only at h;split at h
  ·rename_i xs g;obtain⟨vs,e,rs⟩:=hG.lst g;cases y with
   |int i=>
    cases ry;dsimp only at h;split at h
    ·rename_i j ej;refine .inl ⟨a,vs,i,j,rfl,rfl,e,by rw[<- rs.length];exact ej,?_⟩
     exact q _ _ (hG.write (mo':=.lst (xs.set j w)) g ⟨_,jas,(rs.set rw' j).ts (TS.write hG g)⟩) (Fr.write g) h.at
    ·exact h.elim
   |_=>exact h.elim
  ·rename_i kvs g;obtain⟨l,e,rs⟩:=hG a _ g;split at h
   ·rename_i k' ek;have:=jfY ry ek;subst this;refine .inr ⟨a,_,rfl,DPut.k e (by rw[<- rs.length];exact h.1),?_⟩
    exact q _ _ (hG.write (mo':=.dK (dPut kvs k' w)) g ⟨_,jas,(rs.put rw').ts (TS.write hG g)⟩) (Fr.write g) h.2.at
   ·exact h.elim
  ·rename_i kvs g;obtain⟨l,e,rs⟩:=hG a _ g;cases y with
   |tup ys=>
    obtain⟨b,ws,rfl,eb,rb⟩:=ry;dsimp only at h;split at h
    ·rename_i k' ek;have:=jgH rb ek;subst this;refine .inr ⟨a,_,rfl,DPut.t e eb (by rw[<- rs.length];exact h.1),?_⟩
     exact q _ _ (hG.write (mo':=.dT (dPut kvs k' w)) g ⟨_,jas,(rs.put rw').ts (TS.write hG g)⟩) (Fr.write g) h.2.at
    ·exact h.elim
   |_=>exact h.elim
  ·exact h.elim
 |_=>exact h.elim
def s_set {o i:Expr}{to ti:UE}{tpos:Pos}(hu:X.A.units+1<cLine)(he:PE X e (lE X te))(ho:PE X o (lE X to))(hi:PE X i (lE X ti))(hs:Ybt [.Subscript o i tpos] e pos.line X.env=pure false)(hw:Ybi [.Subscript o i tpos] e X.env=pure none)
  (h1:(Ya4 [.Subscript o i tpos] X.env).map (·.2)=[assign (.Subscript o i tpos) X.env]) (ha:∀v,assign (.Subscript o i tpos) X.env v=(do
   let ov <- holding [v] (eval o X.env)
   let iv <- holding [v,ov] (eval i X.env)
   standAt tpos
   holding [v,ov,iv] (setItem ov iv v)
   release [v,ov,iv] [])):PS X (.Assign [.Subscript o i tpos] e pos) (lS X λD ς G=>te ς G (λv G1=>to ς G1 (λx G2=>ti ς G2 (λy G3=>setU x y v G3 λG4=>D.nx ς G4) λx G1=>D.ex x ς G1) λx G1=>D.ex x ς G1) λx G1=>D.ex x ς G1):=by
 refine(jhQ he (jny ho hi (PSet.or ji7 (ji8 hu)) ha) hs hw h1).imp λD σ H ⟨De,ς,G,hς,hG,h,ld⟩=>?_;refine⟨ς,G,_,_,hς,hG,h,λw v G1 H1 rw' hG1 f1 h1=>?_,ld.lx hς hG⟩;have hς1:=hς.ts (f1.ts hG);refine⟨ς,G1,_,_,hς1,hG1,h1,λx vx G2 H2 rx hG2 f2 h2=>?_,(ld.fr f1).lx hς1 hG1⟩;have hς2:=hς1.ts (f2.ts hG1);refine⟨ς,G2,_,_,hς2,hG2,h2,λy vy G3 H3 ry hG3 f3 h3=>?_,(ld.fr (f1.trans f2)).lx hς2 hG2⟩;have hς3:=hς2.ts (f3.ts hG2);exact jk9 (rx.ts (f3.ts hG2)) ry ((rw'.ts (f2.ts hG1)).ts (f3.ts hG2)) hG3 h3 λG' H' hr f q=>ld.nx ς σ G' H' (hς3.ts (f.ts hG3)) hr (((f1.trans f2).trans f3).trans f) q
def IpU (X:Cx)(o:YbU):Prop:=∃r:TIp,PIp X o r/\∀x y v v' G H Q Q0,RU X.K H x v->RU X.K H y v'->HR X.K H G->jiv o x y G Q->LV X H G Q Q0->r v v' H Q0
def jot (o:YbU):IpU X o:=by
 cases o with
 |Add=>
  refine⟨_,(OpR.or (jmg (X:=X)) jfZ),λx y v v' G H Q Q0 rx ry hG h lv=>?_⟩;cases x<;>try exact h.elim
  ·cases y<;>try exact h.elim
   cases rx;cases ry;exact .inl ⟨_,_,rfl,rfl,lv.int hG h⟩
  ·cases y<;>try exact h.elim
   cases rx;cases ry;exact .inr ⟨_,_,rfl,rfl,h.1,lv.str hG h.2⟩
 |Sub=>
  refine⟨_,jme (X:=X),λx y v v' G H Q Q0 rx ry hG h lv=>?_⟩;cases x<;>try exact h.elim
  cases y<;>try exact h.elim
  cases rx;cases ry;exact⟨_,_,rfl,rfl,lv.int hG h⟩
 |Mult=>
  refine⟨_,jmf (X:=X),λx y v v' G H Q Q0 rx ry hG h lv=>?_⟩;cases x<;>try exact h.elim
  cases y<;>try exact h.elim
  cases rx;cases ry;exact⟨_,_,rfl,rfl,h.1,lv.int hG h.2⟩
 |_=>exact⟨λ_ _ _ _=>False,λ_ _ _ _ _ _ _ _ _ _ _ _ h=>h.elim,λ_ _ _ _ _ _ _ _ _ _ _ h _=>h.elim⟩
def s_aug {i:Nat}{x:Str}{o:YbU}{pos':Pos}(hN:X.N.Nodup)(hi:X.N[i]?=some x)(hx:Loc X.env.scope x)(hf:X.fn x=true\/X.env.scope.names.lookup x=some .local)(he:PE X e (lE X te)) :
  PS X (.AugAssign (.Name x pos') o e pos) (lS X λD ς G=>slot ς i λx=>te ς G (λy G1=>jiv o x y G1 λz G2=>D.nx (ς.set i (some z)) G2) λx G1=>D.ex x ς G1):=by
 obtain⟨r,h1,h2⟩:=jot (X:=X) o;refine(jnu hN hi hx he h1 hf).imp λD σ H ⟨De,ς,G,hς,hG,h,ld⟩=>?_;dsimp only at h;unfold slot at h;split at h
 ·rename_i u eu;obtain⟨v,ev,ru⟩:=hς.2 i u eu;refine⟨v,ev,ς,G,_,_,hς,hG,h,λy vy G1 H1 ry hG1 f1 h1=>?_,ld.lx hς hG⟩;exact h2 u y v vy G1 H1 _ _ (ru.ts (f1.ts hG)) ry hG1 h1 λw vw G2 H2 rw' hr2 f2 q=>ld.nx _ _ G2 H2 (((hς.ts (f1.ts hG)).ts (f2.ts hG1)).set rw' i) hr2 (f1.trans f2) q
 ·exact h.elim
def _root_.L2.PGet.or {t t':V->V->Hp->VK->Prop}(h:PGet X t)(h':PGet X t'):PGet X λo i H Q=>t o i H Q\/t' o i H Q:=by
 intro pins s σ H o i ov iv Q I ro ri q;rcases q with q|q
 ·exact h pins s σ H o i ov iv Q I ro ri q
 ·exact h' pins s σ H o i ov iv Q I ro ri q
def s_par2 {i j:Nat}{x y:Str}{a b:Expr}{ts:UA}{px py pt:Pos}{kt k2 pt2}(hc:X.calm=true)(hN:X.N.Nodup)(hi:X.N[i]?=some x)(hj:X.N[j]?=some y)(hij:i≠j)
  (hx:X.env.scope.names.lookup x=some .local) (hy:X.env.scope.names.lookup y=some .local) (ha:PA X [a,b] (lA X ts))
  (hw:Ybi [.Tuple [.Name x px,.Name y py] kt pt] (.Tuple [a,b] k2 pt2) X.env=pure (some [x,y])) (hs:Ybt [.Tuple [.Name x px,.Name y py] kt pt] (.Tuple [a,b] k2 pt2) pos.line X.env=pure false) :
  PS X (.Assign [.Tuple [.Name x px,.Name y py] kt pt] (.Tuple [a,b] k2 pt2) pos) (lS X λD ς G=>ts ς G (λus G1=>us.length=[i,j].length/\D.nx (([i,j].zip us).foldl (λs p=>s.set p.1 (some p.2)) ς) G1) λx G1=>D.ex x ς G1):=by
 refine(jnq hc hN hi hj hij hx hy ha hw hs).imp λD σ H ⟨De,ς,G,hς,hG,h,ld⟩=>?_;refine⟨ς,G,_,_,hς,hG,h,λus vs G1 H1 rs hG1 f1 h1=>?_,ld.lx hς hG⟩;obtain⟨h1,h2⟩:=h1
 match us,h1,h2,rs with
 |[u,w],_,h2,rs=>
  obtain⟨v,v',rfl,r1,r2⟩:=rs.two;exact⟨v,v',rfl,ld.nx _ _ G1 H1 (((hς.ts (f1.ts hG)).set r1 i).set r2 j) hG1 f1 h2⟩
def s_for {tg iter:Expr}{body:List Stmt}{ti:UI}{g:Tg}{tb:US}(hp:Yd2 (model X.prog X.w) X.A X.env X.xe)(hc:X.calm=true)(hi:PI X tg iter (lI X ti))(hg:PG X tg (lG X.K (tgU g)))(hb:PSs X body (lS X tb))
  (hs:∀x,Ya7 iter X.env x=pure x):PS X (.For tg iter body [] pos) (lS X λD ς G=>ti ς G (λxs ok G1=>forL ok (λx ς1 G2 k=>tgU g x ς1 λς2=>tb { D with nx:=k } ς2 G2) xs ς G1 D.nx) λx G1=>D.ex x ς G1):=by
 refine(jnt hp hc hi hg hb hs).imp λD σ H ⟨De,ς,G,hς,hG,h,ld⟩=>?_;refine⟨ς,G,_,_,hς,hG,h,λxs ok G1 H1 J hG1 f1 wk h1=>?_,ld.lx hς hG⟩;refine⟨λi m σ' H'=>m=xs.length-i/\i<=xs.length/\∃ς' G',SR X.K H' ς' σ'/\HR X.K H' G'/\Fr H1 G1 H' G'/\forL ok (λx ς1 G2 k=>tgU g x ς1 λς2=>tb { De with nx:=k } ς2 G2) (xs.drop i) ς' G' De.nx,⟨xs.length,by simp,Ybb _,ς,G1,hς.ts (f1.ts hG),hG1,Fr.refl _ _,by simpa using h1⟩,?_⟩
 rintro i m σ' H' ⟨rfl,hi',ς',G',sr,hr,f,hc'⟩;by_cases hlt:i<xs.length
 ·rw[Ya0 hlt]at hc';obtain⟨hok,hb'⟩:=hc';obtain⟨w1,_⟩:=wk i H' G' (f.ts hG1) hr hok;obtain⟨go,yl⟩:=w1 xs[i] (by simp[hlt])
  refine .inr ⟨go,λσ2 H2=>∃ς2 G2,SR X.K H2 ς2 σ2/\HR X.K H2 G2/\Fr H1 G1 H2 G2/\forL ok (λx ς1 G2 k=>tgU g x ς1 λς2=>tb { De with nx:=k } ς2 G2) (xs.drop (i+1)) ς2 G2 De.nx,λσ2 H2 q=>⟨xs.length-(i+1),by omega,rfl,hlt,q⟩,λv H'' y=>?_⟩
  obtain⟨rx,hr2,f2⟩:=yl v H'' y;refine⟨xs[i],ς',_,rx,sr.ts (f2.ts hr),hb',λς2 σ2 hs2 hk=>?_⟩;have f3:=(f1.trans f).trans f2;refine⟨_,ς2,G',hs2,hr2,hk,(ld.fr f3).with (λς3 σ3 G3 H3 a b c d=>⟨ς3,G3,a,b,(f.trans f2).trans c,d⟩) rfl⟩
 ·have e:i=xs.length:=by omega
  subst e;rw[Yf4]at hc';obtain⟨hok,q⟩:=hc';exact .inl ⟨(wk xs.length H' G' (f.ts hG1) hr hok).2 rfl,ld.nx ς' σ' G' H' sr hr (f1.trans f) q⟩
def s_wh {c:Expr}{body:List Stmt}{tc:UT}{tb:US}(hp:Yd2 (model X.prog X.w) X.A X.env X.xe)(hc:PT X c (lT X tc))(hb:PSs X body (lS X tb)) :
  PS X (.While c body [] pos) (lS X λD ς G=>∃W:Nat->Sg->Gp->Prop,(∃m,W m ς G)/\∀m ς1 G1,W m ς1 G1->
   tc ς1 G1 (λt G2=>if t=true then tb { D with nx:=λς' G'=>∃m',m'<m/\W m' ς' G' } ς1 G2 else D.nx ς1 G2) λx G1=>D.ex x ς1 G1):=by
 refine(jjm hp hc hb).imp λD σ H ⟨De,ς,G,hς,hG,h,ld⟩=>?_;obtain⟨W,⟨m0,w0⟩,turn⟩:=h;refine⟨λm σ' H'=>∃ς' G',SR X.K H' ς' σ'/\HR X.K H' G'/\Fr H G H' G'/\W m ς' G',⟨m0,ς,G,hς,hG,Fr.refl _ _,w0⟩,?_⟩;rintro m σ' H' ⟨ς',G',sr,hr,f,w⟩;refine⟨ς',G',_,_,sr,hr,turn m ς' G' w,λb G2 H2 hr2 f2 q=>?_,(ld.fr f).lx sr hr⟩;cases b with
 |true=>
  rw[if_pos rfl]at q ⊢;refine⟨λσ3 H3=>∃ς3 G3,SR X.K H3 ς3 σ3/\HR X.K H3 G3/\Fr H G H3 G3/\∃m',m'<m/\W m' ς3 G3,λσ3 H3 ⟨ς3,G3,a,b,c,m',hm,w'⟩=>⟨m',hm,ς3,G3,a,b,c,w'⟩,?_⟩;exact⟨_,ς',G2,sr.ts (f2.ts hr),hr2,q,(ld.fr (f.trans f2)).with (λς3 σ3 G3 H3 a b c d=>⟨ς3,G3,a,b,(f.trans f2).trans c,d⟩) rfl⟩
 |false=>
  rw[if_neg Yan]at q ⊢;exact ld.nx ς' σ' G2 H2 (sr.ts (f2.ts hr)) hr2 (f.trans f2) q
end
structure Ctx where
 N:List Str
 sc:List (Str×YbC)
noncomputable def kd (c:Ctx)(x:Str)(k:YbC):Bool:=c.sc.lookup x==some k
noncomputable def glo (c:Ctx)(x:Str):Bool:=kd c x .globalImplicit && !(x==("__debug__" : Str))
noncomputable def nm1:Expr->List Str
 |.Name x _=>[x]
 |_=>[]
noncomputable def nm2:Expr->List Str
 |.Tuple es _ _=>es.flatMap nm1
 |e=>nm1 e
noncomputable def jfL:Expr->List Str
 |.Tuple es _ _=>es.flatMap nm2
 |e=>nm1 e
noncomputable def jhB:List String:=["bool", "int", "str", "list", "tuple", "dict"]
noncomputable def cOkS (c:Ctx)(N:List Str)(pick:List (Option Nat))(scope:Scope):Bool:=
 decide (scope.kind=.function)&&scope.names.all (λy=>y.2 != .cell||scope.names.lookup y.1==some .cell)&&scope.names.all (λy=>y.2 != .local||scope.names.lookup y.1==some .local)
  && scope.names.all (λy=>y.2 != .free||(scope.names.lookup y.1==some .free&&(kd c y.1 .cell||kd c y.1 .free)))
  && pick.length==N.length&&(N.zip pick).all (λp=>match p.2 with|none=>true|some j=>c.N[j]?==some p.1&&scope.names.lookup p.1==some .free)&&decide N.Nodup
noncomputable def jgB:Expr->Bool
 |.Call (.Name _ _) [] [] _=>false
 |_=>true
noncomputable def e0:Expr:=.Name "" ⟨0,0,0,0⟩
noncomputable def hd:List Expr->Expr
 |[]=>e0
 |e::_=>e
noncomputable def c0:Expr->Expr
 |.BinOp l _ _ _=>l
 |.UnaryOp _ x _=>x
 |.IfExp t _ _ _=>t
 |.Compare l _ _ _=>l
 |.Subscript v _ _=>v
 |.Attribute v _ _=>v
 |.Call f _ _ _=>f
 |.ListComp e _ _ _=>e
 |.FormattedValue v _ _ _=>v
 |_=>e0
noncomputable def c1:Expr->Expr
 |.BinOp _ _ r _=>r
 |.IfExp _ b _ _=>b
 |.Subscript _ s _=>s
 |_=>e0
noncomputable def c2:Expr->Expr
 |.IfExp _ _ b _=>b
 |_=>e0
noncomputable def cl:Expr->List Expr
 |.BoolOp _ vs _=>vs
 |.Compare _ _ vs _=>vs
 |.Call _ vs _ _=>vs
 |.List vs _=>vs
 |.Tuple vs _ _=>vs
 |.Dict _ vs _=>vs
 |.JoinedStr vs _=>vs
 |_=>[]
noncomputable def kw0:Expr->Keyword
 |.Call _ _ (k::_) _=>k
 |_=>⟨none,e0,⟨0,0,0,0⟩⟩
noncomputable def kk:Expr->Nat
 |.Constant _ k _=>k
 |.Tuple _ k _=>k
 |_=>0
noncomputable def oe:Option Expr->Expr
 |some e=>e
 |none=>e0
noncomputable def dk:Expr->List Expr
 |.Dict ks _ _=>ks.map oe
 |_=>[]
noncomputable def gen1:Expr->YbJ
 |.ListComp _ (g::_) _ _=>g
 |_=>⟨e0,e0,[],0⟩
noncomputable def gen2:Expr->YbJ
 |.ListComp _ (_::g::_) _ _=>g
 |_=>⟨e0,e0,[],0⟩
noncomputable def scp:Expr->Scope
 |.ListComp _ _ s _=>s
 |_=>⟨.module,[],false,false,[]⟩
noncomputable def s0:Expr->Expr
 |.Slice (some e) _ _ _=>e
 |_=>e0
noncomputable def s1:Expr->Expr
 |.Slice _ (some e) _ _=>e
 |_=>e0
noncomputable def s2:Expr->Expr
 |.Slice _ _ (some e) _=>e
 |_=>e0
noncomputable def nmA (c:Ctx)(i:Nat):Str:=c.N.getD i ""
noncomputable def boU:Bool->PySem.BoolOp
 |true=>.And
 |false=>.Or
noncomputable def lh1 (h:Expr):Expr:=hd (cl h).tail
noncomputable def lh2 (h:Expr):Expr:=hd (cl h).tail.tail
noncomputable def jcy:Es->Nat
 |.nil=>0
 |.cons _ es=>jcy es+1
noncomputable def jeV:Tgs->Nat
 |.nil=>0
 |.cons _ ts=>jeV ts+1
noncomputable def isT:Tg->Bool
 |.t _=>true
 |.n _=>false
noncomputable def isLc:E->Bool
 |.lc ..=>true
 |.lc2 ..=>true
 |_=>false
noncomputable def cc (c:Ctx)(pick:List (Option Nat))(h:Expr):Ctx:=⟨jfL (gen1 h).target++(pick.filterMap id).filterMap (λj=>c.N[j]?),(scp h).names⟩
noncomputable def cc2 (c:Ctx)(pick:List (Option Nat))(h:Expr):Ctx:=⟨jfL (gen1 h).target++jfL (gen2 h).target++(pick.filterMap id).filterMap (λj=>c.N[j]?),(scp h).names⟩
mutual
noncomputable def unTg (c:Ctx):Tg->Expr->Expr
 |.n i,h=>.Name (nmA c i) h.pos
 |.t ts,h=>.Tuple (jeA c ts (cl h)) (kk h) h.pos
noncomputable def jeA (c:Ctx):Tgs->List Expr->List Expr
 |.nil,_=>[]
 |.cons t ts,hs=>unTg c t (hd hs)::jeA c ts hs.tail
end
noncomputable def okN (c:Ctx)(i:Nat):Bool:=decide (i<c.N.length)&&(kd c (nmA c i) .local||kd c (nmA c i) .cell)
mutual
noncomputable def okTg (c:Ctx):Tg->Bool
 |.n i=>okN c i
 |.t ts=>jjN c ts
noncomputable def jjN (c:Ctx):Tgs->Bool
 |.nil=>true
 |.cons t ts=>okTg c t&&jjN c ts
end
section
variable (T:Tab)
noncomputable def fnN (n:Nat):Str:=match T.funs[n]? with
 |some d=>d.name
 |none => ""
mutual
noncomputable def unE (c:Ctx):E->Expr->Expr
 |.v i,h=>.Name (nmA c i) h.pos
 |.non,h=>.Constant .none (kk h) h.pos
 |.bl b,h=>.Constant (.bool b) (kk h) h.pos
 |.int i,h=>.Constant (.int i) (kk h) h.pos
 |.str x,h=>.Constant (.str x) (kk h) h.pos
 |.g n,h=>.Name (T.gn.getD n "") h.pos
 |.ty n,h=>.Name (YbR n) h.pos
 |.bin o a b,h=>.BinOp (unE c a (c0 h)) o (unE c b (c1 h)) h.pos
 |.neg a,h=>.UnaryOp .USub (unE c a (c0 h)) h.pos
 |.not a,h=>.UnaryOp .Not (unE c a (c0 h)) h.pos
 |.bop k a es,h=>.BoolOp (boU k) (unE c a (hd (cl h))::unEs c es (cl h).tail) h.pos
 |.cmp o a b,h=>.Compare (unE c a (c0 h)) [o] [unE c b (hd (cl h))] h.pos
 |.cmp2 o p a b d,h=>.Compare (unE c a (c0 h)) [o,p] [unE c b (hd (cl h)),unE c d (hd (cl h).tail)] h.pos
 |.ife t a b,h=>.IfExp (unE c t (c0 h)) (unE c a (c1 h)) (unE c b (c2 h)) h.pos
 |.tup es,h=>.Tuple (unEs c es (cl h)) (kk h) h.pos
 |.lst es,h=>.List (unEs c es (cl h)) h.pos
 |.dic es,h=>.Dict (unK c es (dk h)) (unV c es (cl h)) h.pos
 |.dicT,h=>.Dict [] [] h.pos
 |.ix a b,h=>.Subscript (unE c a (c0 h)) (unE c b (c1 h)) h.pos
 |.sl a lo hi,h=>.Subscript (unE c a (c0 h)) (.Slice (unO c lo (s0 (c1 h))) (unO c hi (s1 (c1 h))) none (c1 h).pos) h.pos
 |.rev a b,h=>.Subscript (unE c a (c0 h)) (.Slice none none (some (unE c b (s2 (c1 h)))) (c1 h).pos) h.pos
 |.call n es,h=>.Call (.Name (fnN T n) (c0 h).pos) (unEs c es (cl h)) [] h.pos
 |.app i es,h=>.Call (.Name (nmA c i) (c0 h).pos) (unEs c es (cl h)) [] h.pos
 |.blt b es,h=>.Call (.Name (bltN b) (c0 h).pos) (unEs c es (cl h)) [] h.pos
 |.meth m o es,h=>.Call (.Attribute (unE c o (c0 (c0 h))) (mthN m) (c0 h).pos) (unEs c es (cl h)) [] h.pos
 |.lc pick t it ifs d,h=>.ListComp (unE (cc c pick h) d (c0 h)) [⟨unTg (cc c pick h) t (gen1 h).target,unI c it (gen1 h).iter,unEs (cc c pick h) ifs (gen1 h).ifs,0⟩] (scp h) h.pos
 |.lc2 pick t it ifs t2 it2 ifs2 d,h=>.ListComp (unE (cc2 c pick h) d (c0 h)) [⟨unTg (cc2 c pick h) t (gen1 h).target,unI c it (gen1 h).iter,unEs (cc2 c pick h) ifs (gen1 h).ifs,0⟩,⟨unTg (cc2 c pick h) t2 (gen2 h).target,unI (cc2 c pick h) it2 (gen2 h).iter,unEs (cc2 c pick h) ifs2 (gen2 h).ifs,0⟩] (scp h) h.pos
 |.fst es,h=>.JoinedStr (unF c es (cl h)) h.pos
 |.lrp d i y a b es,h=>.List (unE c d (hd (cl h))::.BinOp (.Constant (.str y) (kk (c0 (lh1 h))) (c0 (lh1 h)).pos) .Add (.Name (nmA c i) (c1 (lh1 h)).pos) (lh1 h).pos::
   .Call (.Attribute (.Name (nmA c i) (c0 (c0 (lh2 h))).pos) "replace" (c0 (lh2 h)).pos) [.Constant (.str a) (kk (hd (cl (lh2 h)))) (hd (cl (lh2 h))).pos,.Constant (.str b) (kk (lh1 (lh2 h))) (lh1 (lh2 h)).pos,.Constant (.int 1) (kk (lh2 (lh2 h))) (lh2 (lh2 h)).pos] [] (lh2 h).pos::unEs c es (cl h).tail.tail.tail) h.pos
 |.sset d,h=>.Call (.Name "sorted" (c0 h).pos) [.Call (.Name "set" (c0 (hd (cl h))).pos) [unE c d (hd (cl (hd (cl h))))] [] (hd (cl h)).pos] [] h.pos
 |.mkD d,h=>.Call (.Name "list" (c0 h).pos) [unE c d (hd (cl h))] [] h.pos
 |.maxD d,h=>.Call (.Name "max" (c0 h).pos) [unE c d (hd (cl h))] [⟨some "default",.Constant (.int 0) (kk (kw0 h).value) (kw0 h).value.pos,(kw0 h).pos⟩] h.pos
 |.minD d,h=>.Call (.Name "min" (c0 h).pos) [unE c d (hd (cl h))] [⟨some "default",.Constant .none (kk (kw0 h).value) (kw0 h).value.pos,(kw0 h).pos⟩] h.pos
 |.mkL d,h=>.Call (.Name "list" (c0 h).pos) [unE c d (hd (cl h))] [] h.pos
 |.mkT d,h=>.Call (.Name "tuple" (c0 h).pos) [unE c d (hd (cl h))] [] h.pos
 |.rngL d,h=>.Call (.Name "list" (c0 h).pos) [.Call (.Name "range" (c0 (hd (cl h))).pos) [unE c d (hd (cl (hd (cl h))))] [] (hd (cl h)).pos] [] h.pos
 |.rngT d,h=>.Call (.Name "tuple" (c0 h).pos) [.Call (.Name "range" (c0 (hd (cl h))).pos) [unE c d (hd (cl (hd (cl h))))] [] (hd (cl h)).pos] [] h.pos
 |.rngL2 _ _,_=>e0
noncomputable def unO (c:Ctx):Eo->Expr->Option Expr
 |.no,_=>none
 |.so d,h=>some (unE c d h)
noncomputable def unEs (c:Ctx):Es->List Expr->List Expr
 |.nil,_=>[]
 |.cons d es,hs=>unE c d (hd hs)::unEs c es hs.tail
noncomputable def unK (c:Ctx):Es->List Expr->List (Option Expr)
 |.cons d (.cons _ es),hs=>some (unE c d (hd hs))::unK c es hs.tail
 |_,_=>[]
noncomputable def unV (c:Ctx):Es->List Expr->List Expr
 |.cons _ (.cons d es),hs=>unE c d (hd hs)::unV c es hs.tail
 |_,_=>[]
noncomputable def unF (c:Ctx):Es->List Expr->List Expr
 |.nil,_=>[]
 |.cons d es,hs=>(match d with
  |.str x=>.Constant (.str x) (kk (hd hs)) (hd hs).pos
  |d=>.FormattedValue (unE c d (c0 (hd hs))) (-1) none (hd hs).pos)::unF c es hs.tail
noncomputable def unI (c:Ctx):It->Expr->Expr
 |.e d,h=>unE c d h
 |.r1 d,h=>.Call (.Name "range" (c0 h).pos) [unE c d (hd (cl h))] [] h.pos
 |.r2 a b,h=>.Call (.Name "range" (c0 h).pos) [unE c a (hd (cl h)),unE c b (hd (cl h).tail)] [] h.pos
 |.enum d,h=>.Call (.Name "enumerate" (c0 h).pos) [unE c d (hd (cl h))] [] h.pos
 |.dk d,h=>unE c d h
 |.s d,h=>unE c d h
 |.dv d,h=>.Call (.Attribute (unE c d (c0 (c0 h))) "values" (c0 h).pos) [] [] h.pos
 |.di d,h=>.Call (.Attribute (unE c d (c0 (c0 h))) "items" (c0 h).pos) [] [] h.pos
 |.zp a b,h=>.Call (.Name "zip" (c0 h).pos) [unE c a (hd (cl h)),unE c b (hd (cl h).tail)] [] h.pos
end
mutual
noncomputable def okE (c:Ctx):E->Expr->Bool
 |.v i,_=>decide (i<c.N.length)&&(kd c (nmA c i) .local||kd c (nmA c i) .cell||kd c (nmA c i) .free) && !(nmA c i==("__debug__" : Str)) && !(nmA c i==("__classdict__" : Str))
 |.non,_=>true
 |.bl _,_=>true
 |.int _,_=>true
 |.str _,_=>true
 |.g n,_=>decide (n<T.gs.length)&&decide (n<T.gn.length)&&glo c (T.gn.getD n "")
 |.ty n,_=>jhB.contains n&&glo c (YbR n)
 |.bin _ a b,h=>okE c a (c0 h)&&okE c b (c1 h)
 |.neg a,h=>okE c a (c0 h)
 |.not a,h=>okE c a (c0 h)
 |.bop _ a es,h=>okE c a (hd (cl h))&&okEs c es (cl h).tail
 |.cmp o a b,h=>okE c a (c0 h)&&okE c b (hd (cl h)) && !behindInMarks o (unE T c b (hd (cl h)))
 |.cmp2 o p a b d,h=>okE c a (c0 h)&&okE c b (hd (cl h))&&okE c d (hd (cl h).tail) && !lastMarks [o,p] [unE T c b (hd (cl h)),unE T c d (hd (cl h).tail)]
 |.ife t a b,h=>okE c t (c0 h)&&okE c a (c1 h)&&okE c b (c2 h)
 |.tup es,h=>okEs c es (cl h)
 |.lst es,h=>okEs c es (cl h)
 |.dic es,h=>okD c es (dk h) (cl h)&&decide (jcy es<=30)
 |.dicT,_=>false
 |.ix a b,h=>okE c a (c0 h)&&okE c b (c1 h)
 |.sl a lo hi,h=>okE c a (c0 h)&&okO c lo (s0 (c1 h))&&okO c hi (s1 (c1 h))
 |.rev a b,h=>okE c a (c0 h)&&okE c b (s2 (c1 h))
 |.call n es,h=>decide (n<T.funs.length)&&glo c (fnN T n)&&okEs c es (cl h)
 |.app i es,h=>decide (i<c.N.length)&&(kd c (nmA c i) .local||kd c (nmA c i) .cell||kd c (nmA c i) .free) && !(nmA c i==("__debug__" : Str)) && !(nmA c i==("__classdict__" : Str))&&okEs c es (cl h)
 |.blt b es,h=>decide (0<jcy es)&&glo c (bltN b)&&okEs c es (cl h)
 |.meth _ o es,h=>okE c o (c0 (c0 h))&&okEs c es (cl h)&&((c0 h).pos.endLine==h.pos.line)&&decide (jcy es<30)&&jgB (unE T c o (c0 (c0 h)))
 |.lc pick t it ifs d,h=>cOkS c (cc c pick h).N pick (scp h)&&(tgS t).all (λi=>(pick[i]?).join.isNone)&&okTg (cc c pick h) t&&okI c t it (gen1 h).iter&&okEs (cc c pick h) ifs (gen1 h).ifs&&decide (jcy ifs<=1)&&okE (cc c pick h) d (c0 h)
 |.lc2 _ _ _ _ _ _ _ _,_=>false
 |.fst _,_=>false
 |.lrp _ _ _ _ _ _,_=>false
 |.sset _,_=>false
 |.mkD d,h=>glo c "list" && okE c d (hd (cl h))
 |.maxD _,_=>false
 |.minD _,_=>false
 |.mkL d,h=>glo c "list" && okE c d (hd (cl h))
 |.mkT d,h=>glo c "tuple" && okE c d (hd (cl h))
 |.rngL _,_=>false
 |.rngT _,_=>false
 |.rngL2 _ _,_=>false
noncomputable def okO (c:Ctx):Eo->Expr->Bool
 |.no,_=>true
 |.so d,h=>okE c d h
noncomputable def okEs (c:Ctx):Es->List Expr->Bool
 |.nil,_=>true
 |.cons d es,hs=>okE c d (hd hs)&&okEs c es hs.tail
noncomputable def okD (c:Ctx):Es->List Expr->List Expr->Bool
 |.nil,_,_=>true
 |.cons d (.cons f es),hs,gs=>okE c d (hd hs)&&okE c f (hd gs)&&okD c es hs.tail gs.tail
 |.cons _ .nil,_,_=>false
noncomputable def okF (c:Ctx):Es->List Expr->Bool
 |.nil,_=>true
 |.cons d es,hs=>(match d with
  |.str x=>decide (x.length<=10000)
  |d=>okE c d (c0 (hd hs)))&&okF c es hs.tail
noncomputable def okI (c:Ctx)(t:Tg):It->Expr->Bool
 |.e d,h=>okE c d h
 |.r1 d,h=>glo c "range" && okE c d (hd (cl h))
 |.r2 _ _,_=>false
 |.enum d,h=>isT t&&glo c "enumerate" && okE c d (hd (cl h))
 |.dk _,_=>false
 |.s d,h=>okE c d h
 |.dv d,h=>okE c d (c0 (c0 h))&&((c0 h).pos.endLine==h.pos.line)&&jgB (unE T c d (c0 (c0 h)))
 |.di d,h=>isT t&&okE c d (c0 (c0 h))&&((c0 h).pos.endLine==h.pos.line)&&jgB (unE T c d (c0 (c0 h)))
 |.zp _ _,_=>false
end
noncomputable def jkk (ts:List Expr):Nat:=(ts.head?.map (·.pos.line)).getD 0
noncomputable def jan (c:Ctx)(ts:List Expr):List Str:=ts.filterMap fun
  |.Name id pos=>if c.sc.lookup id==some .local&&pos.line==jkk ts then some id else none
  |_=>none
noncomputable def jgJ:Expr->Bool
 |.Starred ..=>true
 |_=>false
noncomputable def swapped (c:Ctx)(ts vs:List Expr):Bool:=
 (ts.length==2||ts.length==3)&&vs.length==ts.length && !(vs.any jgJ)&&(jan c ts).length==ts.length&&(jan c ts).eraseDups.length==(jan c ts).length && !(vs.all (Yfr 8)) && !(vs.all (constantsAlone 8))
noncomputable def jcR (c:Ctx)(ts vs:List Expr):Bool:=
 !(ts.length==2||ts.length==3)||vs.length != ts.length||(!(vs.any jgJ)&&((jan c ts).length != ts.length||(jan c ts).eraseDups.length != (jan c ts).length||vs.all (Yfr 8)))
noncomputable def lcSw (c:Ctx)(y:Str)(py p:Pos)(s:Scope):Bool:=c.sc.lookup y==some .local&&py.line==p.line && !(s.names.any λ(n,k)=>n==y&&(k == .local||k == .cell))
noncomputable def q0:Stmt->Expr
 |.Expr e _=>e
 |.Assign _ e _=>e
 |.Return (some e) _=>e
 |.AugAssign _ _ e _=>e
 |.If e _ _ _=>e
 |.While e _ _ _=>e
 |.For _ e _ _ _=>e
 |_=>e0
noncomputable def q1:Stmt->Expr
 |.Assign (t::_) _ _=>t
 |.AugAssign t _ _ _=>t
 |.For t _ _ _ _=>t
 |_=>e0
noncomputable def qr:Stmt->Expr
 |.Raise (some e) _ _=>e
 |_=>e0
noncomputable def hTy:Stmt->Expr
 |.Try _ (.ExceptHandler (some t) _ _ _::_) _ _ _=>t
 |_=>e0
noncomputable def hBd:Stmt->List Stmt
 |.Try _ (.ExceptHandler _ _ b _::_) _ _ _=>b
 |_=>[]
noncomputable def hPs:Stmt->Pos
 |.Try _ (.ExceptHandler _ _ _ p::_) _ _ _=>p
 |_=>⟨0,0,0,0⟩
noncomputable def qa:Stmt->List Stmt
 |.Try a _ _ _ _=>a
 |.If _ a _ _=>a
 |.While _ a _ _=>a
 |.For _ _ a _ _=>a
 |_=>[]
noncomputable def qb:Stmt->List Stmt
 |.If _ _ b _=>b
 |_=>[]
noncomputable def qh:List Stmt->Stmt
 |[]=>.Pass ⟨0,0,0,0⟩
 |s::_=>s
noncomputable def unNs (c:Ctx):List Nat->List Expr->List Expr
 |[],_=>[]
 |i::is,hs=>.Name (nmA c i) (hd hs).pos::unNs c is hs.tail
noncomputable def unCs:List Nat->List Expr->List Expr
 |[],_=>[]
 |k::ks,hs=>.Name (clsN k) (hd hs).pos::unCs ks hs.tail
section
variable (c:Ctx)(n:Nat)
noncomputable def unHL:HL->Expr->Expr
 |.v i,h=>.Name (nmA c i) h.pos
 |.isiV,h=>.Call (.Name "isinstance" (c0 h).pos) [.Name (nmA c n) (hd (cl h)).pos,.Name "ValueError" (hd (cl h).tail).pos] [] h.pos
 |.is1 k,h=>.Call (.Name "isinstance" (c0 h).pos) [.Name (nmA c n) (hd (cl h)).pos,.Name (clsN k) (hd (cl h).tail).pos] [] h.pos
 |.isi ks,h=>.Call (.Name "isinstance" (c0 h).pos) [.Name (nmA c n) (hd (cl h)).pos,.Tuple (unCs ks (cl (hd (cl h).tail))) (kk (hd (cl h).tail)) (hd (cl h).tail).pos] [] h.pos
noncomputable def jkS:Bool×HL->Expr->Expr
 |(true,l),h=>.UnaryOp .Not (unHL c n l (c0 h)) h.pos
 |(false,l),h=>unHL c n l h
noncomputable def jke:List (Bool×HL)->List Expr->List Expr
 |[],_=>[]
 |a::r,hs=>jkS c n a (hd hs)::jke r hs.tail
noncomputable def jkf (k:Bool)(a:Bool×HL):List (Bool×HL)->Expr->Expr
 |[],h=>jkS c n a h
 |b::r,h=>.BoolOp (boU k) (jkS c n a (hd (cl h))::jke c n (b::r) (cl h).tail) h.pos
noncomputable def unHA:HA->Expr->Expr
 |.str x,h=>.Constant (.str x) (kk h) h.pos
 |.att f,h=>.Attribute (.Name (nmA c n) (c0 h).pos) f h.pos
noncomputable def jkT:List HA->List Expr->List Expr
 |[],_=>[]
 |a::r,hs=>unHA c n a (hd hs)::jkT r hs.tail
noncomputable def unHV:HV->Expr->Expr
 |.cond k a as,h=>jkf c n k a as h
 |.one a,h=>unHA c n a h
 |.bl b,h=>.Constant (.bool b) (kk h) h.pos
 |.tup as,h=>.Tuple (jkT c n as (cl h)) (kk h) h.pos
 |.lst as,h=>.List (jkT c n as (cl h)) h.pos
noncomputable def jmK (i:Nat)(e:HV)(h:Stmt):Stmt:=.Assign [.Name (nmA c i) (q1 h).pos] (unHV c n e (q0 h)) h.pos
noncomputable def unHS:HS->Stmt->Stmt
 |.asg i e,h=>jmK c n i e h
 |.ifa k a as i e,h=>.If (jkf c n k a as (q0 h)) [jmK c n i e (qh (qa h))] [] h.pos
noncomputable def jmJ:List HS->List Stmt->List Stmt
 |[],_=>[]
 |s::r,hs=>unHS c n s (qh hs)::jmJ r hs.tail
end
section
variable (cs:List Nat)(c:Ctx)
noncomputable def okC (k:Nat):Bool:=decide (1<=k)&&decide (k<6)&&cs.contains k&&glo c (clsN k)
noncomputable def okHL:HL->Bool
 |.v i=>decide (i<c.N.length)&&(kd c (nmA c i) .local||kd c (nmA c i) .cell||kd c (nmA c i) .free) && !(nmA c i==("__debug__" : Str)) && !(nmA c i==("__classdict__" : Str))
 |.isiV=>glo c "isinstance" && glo c "ValueError"
 |.is1 k=>glo c "isinstance" && okC cs c k
 |.isi ks=>glo c "isinstance" && ks.all (okC cs c)&&decide (ks.length<=8)
noncomputable def jkq (as:List (Bool×HL)):Bool:=as.all λp=>okHL cs c p.2
noncomputable def okHA:HA->Bool
 |.str _=>true
 |.att f=>fldN.contains f
noncomputable def okHV:HV->Bool
 |.cond _ a as=>okHL cs c a.2&&jkq cs c as
 |.one a=>okHA a
 |.bl _=>true
 |.tup as=>as.all okHA&&decide (as.length<=8)
 |.lst as=>as.all okHA&&decide (as.length<=8)
noncomputable def okHS (n:Nat):HS->Bool
 |.asg i e=>okN c i&&decide (i≠n)&&okHV cs c e
 |.ifa _ a as i e=>okHL cs c a.2&&jkq cs c as&&okN c i&&decide (i≠n)&&okHV cs c e
end
mutual
noncomputable def unS (c:Ctx):S->Stmt->Stmt
 |.pass,h=>.Pass h.pos
 |.expr d,h=>.Expr (unE T c d (q0 h)) h.pos
 |.asg t d,h=>.Assign [unTg c t (q1 h)] (unE T c d (q0 h)) h.pos
 |.unp ts d,h=>.Assign [.Tuple (jeA c ts (cl (q1 h))) (kk (q1 h)) (q1 h).pos] (unE T c d (q0 h)) h.pos
 |.asgC i d,h=>.Assign [.Name (nmA c i) (q1 h).pos] (unE T c d (q0 h)) h.pos
 |.setS o i d,h=>.Assign [.Subscript (unE T c o (c0 (q1 h))) (unE T c i (c1 (q1 h))) (q1 h).pos] (unE T c d (q0 h)) h.pos
 |.par is es,h=>.Assign [.Tuple (unNs c is (cl (q1 h))) (kk (q1 h)) (q1 h).pos] (.Tuple (unEs T c es (cl (q0 h))) (kk (q0 h)) (q0 h).pos) h.pos
 |.aug i o d,h=>.AugAssign (.Name (nmA c i) (q1 h).pos) o (unE T c d (q0 h)) h.pos
 |.augS a i o d,h=>.AugAssign (.Subscript (unE T c a (c0 (q1 h))) (unE T c i (c1 (q1 h))) (q1 h).pos) o (unE T c d (q0 h)) h.pos
 |.ite t a b,h=>.If (unE T c t (q0 h)) (unSs c a (qa h)) (unSs c b (qb h)) h.pos
 |.fr t it b,h=>.For (unTg c t (q1 h)) (unI T c it (q0 h)) (unSs c b (qa h)) [] h.pos
 |.wh t b,h=>.While (unE T c t (q0 h)) (unSs c b (qa h)) [] h.pos
 |.ret d,h=>.Return (some (unE T c d (q0 h))) h.pos
 |.retN,h=>.Return none h.pos
 |.never,h=>h
 |.raise k es,h=>.Raise (some (.Call (.Name (clsN k) (c0 (qr h)).pos) (unEs T c es (cl (qr h))) [] (qr h).pos)) none h.pos
 |.tr b k n hs,h=>.Try (unSs c b (qa h)) [.ExceptHandler (some (.Name (clsN k) (hTy h).pos)) (some (nmA c n)) (jmJ c n hs (hBd h)) (hPs h)] [] [] h.pos
noncomputable def unSs (c:Ctx):Ss->List Stmt->List Stmt
 |.nil,_=>[]
 |.cons s r,hs=>unS c s (qh hs)::unSs c r hs.tail
end
noncomputable def okA (c:Ctx):Tg->E->Stmt->Bool
 |.n i,.lc ..,_=>!(kd c (nmA c i) .local)
 |.n i,.lc2 ..,_=>!(kd c (nmA c i) .local)
 |.t _,.lc ..,_=>false
 |.t _,.lc2 ..,_=>false
 |.t ts,.tup es,h=>jcR c (jeA c ts (cl (q1 h))) (unEs T c es (cl (q0 h)))
 |_,_,_=>true
noncomputable def okNs (c:Ctx):List Nat->Bool
 |[]=>true
 |i::is=>decide (i<c.N.length)&&kd c (nmA c i) .local && !(is.contains i)&&okNs c is
mutual
noncomputable def okS (c:Ctx):S->Stmt->Bool
 |.pass,_=>false
 |.expr d,h=>okE T c d (q0 h) && !isLc d
 |.asg t d,h=>okE T c d (q0 h)&&okTg c t&&okA T c t d h
 |.unp ts d,h=>okE T c d (q0 h)&&jjN c ts&&okA T c (.t ts) d h
 |.asgC i d,h=>isLc d&&okE T c d (q0 h)&&decide (i<c.N.length)&&lcSw c (nmA c i) (q1 h).pos (q0 h).pos (scp (q0 h))
 |.setS o i d,h=>okE T c d (q0 h)&&okE T c o (c0 (q1 h))&&okE T c i (c1 (q1 h))
 |.par is es,h=>okEs T c es (cl (q0 h))&&okNs c is&&swapped c (unNs c is (cl (q1 h))) (unEs T c es (cl (q0 h)))&&decide (is.length=2)
 |.aug i _ d,h=>okN c i&&okE T c d (q0 h)
 |.augS _ _ _ _,_=>false
 |.ite t a b,h=>okE T c t (q0 h)&&okSs c a (qa h)&&okSs c b (qb h)
 |.fr t it b,h=>okTg c t&&okI T c t it (q0 h)&&okSs c b (qa h)
 |.wh t b,h=>okE T c t (q0 h)&&okSs c b (qa h)
 |.ret d,h=>okE T c d (q0 h)
 |.retN,_=>false
 |.never,_=>true
 |.raise _ _,_=>false
 |.tr _ _ _ _,_=>false
noncomputable def okSs (c:Ctx):Ss->List Stmt->Bool
 |.nil,_=>true
 |.cons s r,hs=>okS c s (qh hs)&&okSs c r hs.tail
end
end
def lSp (K:Yac)(t:List U->Gp->K1->KX->Prop):Sp:=λvs H Q0 E0=>∃us G Q E,RUs K H us vs/\HR K H G/\t us G Q E/\(∀w v G' H',RU K H' w v->HR K H' G'->Fr H G H' G'->Q w G'->Q0 v H')/\
 ∀x G' H' C dx,XD K H' C dx x->HR K H' G'->Fr H G H' G'->E x G'->E0 (.ref C) (some dx) H'
def FnU (P:Program)(w:World)(K:Yac)(mg:Str->Option Value)(base:Heap)(k:Nat)(d:Fun)(t:List U->Gp->K1->KX->Prop):Prop:=
 ∃(f:Addr) (fd:Ybu),FnOk P w K mg base (CX1 P w) (k+2) f fd d.ps (lSp K t)/\mg d.name=some (.ref f)/\YbY K (.ref f)=true/\Binds K fd d.ps []
noncomputable def jcJ:List Str:=["len", "repr", "min", "max", "sum", "all", "any", "sorted", "int", "str", "isinstance", "range", "enumerate", "list", "tuple", "bool", "dict", "ValueError", "set", "zip"]
structure Cok (T:Tab)(k:Nat)(X:Cx)(c:Ctx):Prop where
 hN:X.N=c.N
 nd:c.N.Nodup
 loc:∀x,kd c x .local=true->X.env.scope.names.lookup x=some .local
 cel:∀x,kd c x .cell=true->X.env.scope.names.lookup x=some .cell/\X.fn x=true
 fre:∀x,kd c x .free=true->X.env.scope.names.lookup x=some .cell\/X.env.scope.names.lookup x=some .free
 glb:∀x,kd c x .globalImplicit=true->Gl X x
 room:Room k X.A
 calm:X.calm=true
 po:Yd2 (model X.prog X.w) X.A X.env X.xe
 blt:∀x∈jcJ,X.mg x=none
 fns:∀(n:Nat) (d:Fun),T.funs[n]?=some d->FnU X.prog X.w X.K X.mg X.base k d (jab T k n)
 gls:∀(n:Nat) (x:Str) (u:U),T.gn[n]?=some x->T.gs[n]?=some u->∃v w,X.mg x=some w/\RelV v w/\∀H,RU X.K H u v
 room2:Room (k+2) X.A
 cls:∀n∈T.cs,1<=n->∃C,XCls X.K (gK X.K) (clsN n) (clsF n) C
 mgK:∀x v,gK X.K x=some v->X.mg x=some v
structure Cos (T:Tab)(k:Nat)(X:Cx)(c:Ctx):Prop extends Cok T k X c where
 sc:X.env.scope.names=c.sc
 kind:X.env.scope.kind=.function
 stk:X.stack=X.env::X.outer/\X.env.frame=some X.env.locals
section
variable {T:Tab}{k:Nat}{X:Cx}{c:Ctx}
def Cok.hu (h:Cok T k X c):X.A.units+1<cLine:=jqB h.room
def Cok.vis (h:Cok T k X c){x:Str}(v:(kd c x .local||kd c x .cell||kd c x .free)=true):Vis X.env.scope x:=by
 simp only[YcC]at v;rcases v with(v|v)|v
 ·exact .inl (h.loc x v)
 ·exact .inr (.inl (h.cel x v).1)
 ·rcases h.fre x v with z|z
  ·exact .inr (.inl z)
  ·exact .inr (.inr z)
def Cok.store (h:Cok T k X c){x:Str}(v:(kd c x .local||kd c x .cell)=true):Loc X.env.scope x/\(X.fn x=true\/X.env.scope.names.lookup x=some .local):=by
 simp only[YcC]at v;rcases v with v|v
 ·exact⟨.inl (h.loc x v),.inr (h.loc x v)⟩
 ·exact⟨.inr (h.cel x v).1,.inl (h.cel x v).2⟩
def Cok.gl (h:Cok T k X c){x:Str}(v:glo c x=true):Gl X x/\(x==("__debug__" : Str))=false:=by
 unfold glo at v;rw[YaE]at v;exact⟨h.glb x v.1,by simpa using v.2⟩
end
noncomputable def jfp:Expr->Bool
 |.BoolOp ..|.BinOp ..|.UnaryOp ..|.IfExp ..|.Dict ..|.ListComp ..|.Compare ..|.Call ..|.Constant ..|.Subscript ..|.Name ..|.List ..|.Tuple ..|.JoinedStr ..=>true
 |_=>false
section
variable {T:Tab}{c:Ctx}
def jaz (ir:E)(h:Expr):jfp (unE T c ir h)=true:=by cases ir<;>rfl
def jaC {e:Expr}(h:jfp e=true)(es:List Expr)(env:Env):YaP (e::es) env=(false,eval e env)::YaP es env:=by
 cases e<;>first|rfl|cases h
def jmk {e:Expr}(h:jfp e=true):jgb e:=by
 intro o i;cases e<;>first|rfl|cases h
def jbO {e:Expr}(h:jfp e=true)(env:Env):∀x,Ya7 e env x=pure x:=by
 intro x;cases e<;>first|rfl|cases h
def jkQ (it:It)(h:Expr)(env:Env):∀x,Ya7 (unI T c it h) env x=pure x:=by
 cases it with
 |e d=>exact jbO (jaz d _) env
 |dk d=>exact jbO (jaz d _) env
 |s d=>exact jbO (jaz d _) env
 |_=>exact λ_=>rfl
def jjW {o i:Expr}(h:jfp i=true)(env:Env)(tpos:Pos):∀v,assign (.Subscript o i tpos) env v=(holding [v] (eval o env) >>= λa=>holding [v,a] (eval i env) >>= λb=>standAt tpos >>= λ_=>holding [v,a,b] (setItem a b v) >>= λ_=>release [v,a,b] []):=by
 intro v;cases i<;>first|rfl|cases h
def jkR {ir:E}(q:isLc ir=false)(h:Expr)(env:Env)(l:Nat):Yc3 (unE T c ir h) none l env=pure false:=by
 cases ir<;>first|rfl|cases q
def jkP {ir:E}(q:isLc ir=false)(h tg:Expr)(env:Env)(l:Nat):Ybt [tg] (unE T c ir h) l env=pure false:=by
 cases ir<;>first|rfl|cases q
def jkd (ir:E)(h x y:Expr)(p:Pos)(env:Env)(l:Nat):Ybt [.Subscript x y p] (unE T c ir h) l env=pure false/\Ybi [.Subscript x y p] (unE T c ir h) env=pure none:=by
 cases ir<;>exact⟨rfl,rfl⟩
def jpq (ir:E)(h:Expr)(x:Str)(p:Pos)(env:Env):Ybi [.Name x p] (unE T c ir h) env=pure none:=by
 cases ir<;>rfl
def jhA (t:Tg)(h:Expr)(env:Env):(Ya4 [unTg c t h] env).map (·.2)=[assign (unTg c t h) env]:=by
 cases t<;>rfl
def jeS {o:Expr}(h:jgB o=true)(m:Str)(env:Env)(w:Sem Value):Yby o m env w=w:=by
 unfold Yby;split
 ·cases h
 ·rfl
def jdp:∀(es:Es) (hs:List Expr) (env:Env) (pos:Pos),(backTo pos (YaP (unEs T c es hs) env)).any (·.1)=false/\(backTo pos (YaP (unEs T c es hs) env)).all (λx=>!x.1)=true
 |.nil,_,_,_=>⟨rfl,rfl⟩
 |.cons d es,hs,env,pos=>by
  obtain⟨h1,h2⟩:=jdp es hs.tail env pos;show(backTo pos (YaP (unE T c d (hd hs)::unEs T c es hs.tail) env)).any (·.1)=false/\(backTo pos (YaP (unE T c d (hd hs)::unEs T c es hs.tail) env)).all (λx=>!x.1)=true;rw[jaC (jaz d _)];exact⟨by show(false||(backTo pos (YaP (unEs T c es hs.tail) env)).any (·.1))=false;rw[h1];rfl,by show(!false&&(backTo pos (YaP (unEs T c es hs.tail) env)).all (λx=>!x.1))=true;rw[h2];rfl⟩
def jhz:∀(es:Es) (hs:List Expr),(unEs T c es hs).length=jcy es
 |.nil,_=>rfl
 |.cons _ es,hs=>congrArg (·+ 1) (jhz es hs.tail)
def ba {a b:Bool}(h:(a&&b)=true):a=true/\b=true:=by simpa using h
def bn {a:Bool}(h:(!a)=true):a=false:=by simpa using h
def jqp {i:Nat}(h:decide (i<c.N.length)=true):c.N[i]?=some (nmA c i):=by
 unfold nmA;rw[YaH,Yab (of_decide_eq_true h)];rfl
end
def jfK:∀{ts:Tgs} {us:List U} {ς:Sg} {k:Sg->Prop},tgsU ts us ς k->us.length=jeV ts
 |.nil,us,ς,k,h=>by rw[h.1];rfl
 |.cons t ts,us,ς,k,h=>by
  cases us with
  |nil=>exact h.elim
  |cons u r=>
   have:∃ς',tgsU ts r ς' k:=tg_some h;obtain⟨ς',h'⟩:=this;show r.length+1=jeV ts+1;rw[jfK h']
where
 tg_some {t:Tg} {u:U} {ς:Sg} {P:Sg->Prop} (h:tgU t u ς P):∃ς',P ς':=by
  have:=jdr (k':=λ_=>∃ς',P ς') h λς' h'=>⟨ς',h'⟩;exact tg_const this
 tg_const:∀{t:Tg} {u:U} {ς:Sg} {P:Prop},tgU t u ς (λ_=>P)->P
  |.n _,_,_,_,h=>h
  |.t ts,u,ς,P,h=>by
   cases u with
   |tup us=>exact tgs_const (ts:=ts) (us:=us) h
   |_=>exact h.elim
 tgs_const:∀{ts:Tgs} {us:List U} {ς:Sg} {P:Prop},tgsU ts us ς (λ_=>P)->P
  |.nil,_,_,_,h=>h.2
  |.cons t ts,us,ς,P,h=>by
   cases us with
   |nil=>exact h.elim
   |cons u r=>exact tg_const (jdr (t:=t) h λς' h'=>tgs_const h')
section
variable {T:Tab}{k:Nat}{X:Cx}{c:Ctx}
def jdq:∀(ts:Tgs) (hs:List Expr) (env:Env),(Ya4 (jeA c ts hs) env).length=jeV ts/\(Ya4 (jeA c ts hs) env).findIdx? (·.1)=none
 |.nil,_,_=>⟨rfl,rfl⟩
 |.cons t ts,hs,env=>by
  obtain⟨h1,h2⟩:=jdq ts hs.tail env;have e:Ya4 (jeA c (.cons t ts) hs) env=(false,assign (unTg c t (hd hs)) env)::Ya4 (jeA c ts hs.tail) env:=by cases t<;>rfl
  rw[e];exact⟨by simp[h1,jeV],by simp[List.findIdx?_cons,h2]⟩
def Cok.nm {i:Nat}(C:Cok T k X c)(h:decide (i<c.N.length)=true):X.N[i]?=some (nmA c i):=by rw[C.hN];exact jqp h
mutual
def sTg (C:Cok T k X c):∀(t:Tg) (h:Expr),okTg c t=true->PG X (unTg c t h) (lG X.K (tgU t))
 |.n _,_,q=>let s:=C.store (ba q).2;u_tn (by rw[C.hN];exact C.nd) (C.nm (ba q).1) s.1 s.2
 |.t ts,h,q=>u_tt C.calm (sTgs C ts (cl h) q) (jdq ts _ X.env).1 (jdq ts _ X.env).2 λus ς k q=>jfK q
def sTgs (C:Cok T k X c):∀(ts:Tgs) (hs:List Expr),jjN c ts=true->PGs X (jeA c ts hs) (lGs X.K (tgsU ts))
 |.nil,_,_=>jpt
 |.cons t ts,hs,q=>jpu (sTg C t (hd hs) (ba q).1) (sTgs C ts hs.tail (ba q).2) (by cases t<;>rfl)
end
def EB (X:Cx)(σ:St):XK:=λcls dx H'=>∀(pins:List (Addr×Obj)) (ea:Addr) (s':Shared),Inv X pins σ H' s'->Lies X.s₀.heap.objs.size X.pn H' s'.heap ea cls dx->X.xe (.ref ea) s'
def jhO {j:Nat}{f:Addr}{fd:Ybu}{ps:List Str}{sp:Sp}{pins:List (Addr×Obj)}{σ:St}{H:Hp}{s:Shared}{Q:VK}{us:List Value}{vs:List V}(F:FnOk X.prog X.w X.K X.mg X.base (CX1 X.prog X.w) j f fd ps sp)(hr:Room j X.A)(hb:Binds X.K fd ps [])
  (I:Inv X pins σ H s) (r:Vals vs us) (h:sp vs H Q (EB X σ)):wpAny (model X.prog X.w) X.A (call (.ref f) us) (EP X pins σ Q) X.xe s:=by
 have hl:(us++[]).length=ps.length:=by rw[YcA,<- r.length];exact F.len _ _ _ _ h
 have hbs:=hb s us I.kIn hl;rw[YcA]at hbs;refine wpAny_call (Yeu (F.run X.A X.stack s H ⟨us,[]⟩ us vs Q (EB X σ) hr I.env0 hbs r h) λr s' hq=>?_);cases r with
 |error e=>
  obtain⟨ea,H',cls,dx,rfl,I',l,q⟩:=CX1.back I hq;exact q pins ea s' I' l
 |ok fl=>
  cases fl with
  |ret u=>exact I.after hq
  |next=>exact Yda hq
  |brk=>exact Yda hq
  |cont=>exact Yda hq
def jhL {n:Nat}{σ:St}{H:Hp}{G:Gp}{us:List U}{vs:List V}{Q:K1}{E:KX}{Q0:VK}(r:RUs X.K H us vs)(hG:HR X.K H G)(h:jab T k n us G Q E)(lv:LV X H G Q Q0)(lx:LX X σ H G E):lSp X.K (jab T k n) vs H Q0 (EB X σ):=
 ⟨us,G,Q,E,r,hG,h,lv,λx G' H' C dx xd hr f q pins ea s' I' l=>lx pins (.ref ea) s' x G' H' I' ⟨ea,C,dx,rfl,l,xd⟩ hr f q⟩
def jmS {n:Nat}{d:Fun}{x:Str}{e:Expr}{es:List Expr}{ts:UA}{p pos:Pos}(C:Cok T k X c)(hd:T.funs[n]?=some d)(hx:d.name=x)(hg:glo c x=true)(ha:PA X (e::es) (lA X ts))
  (he:YaP (e::es) X.env=(false,eval e X.env)::YaP es X.env) (hpl:(backTo pos (YaP es X.env)).any (·.1)=false) :
  PE X (.Call (.Name x p) (e::es) [] pos) (lE X λς G Q E=>ts ς G (λus G1=>jab T k n us G1 Q E) E):=by
 obtain⟨f,fd,F,hm,hk,hb⟩:=C.fns n d hd;obtain⟨g1,g2⟩:=C.gl hg;rw[hx]at hm;intro pins s σ H Q0 I ⟨ς,G,Q,E,hς,hG,h,lv,lx⟩;refine YcQ (jfW I g1 hm ?_ g2);have h':lA X ts σ H λvs H1=>lSp X.K (jab T k n) vs H1 Q0 (EB X σ):=⟨ς,G,_,E,hς,hG,h,λus vs G1 H1 rs hG1 f1 h1=>jhL rs hG1 h1 (lv.fr f1) (lx.fr f1),lx⟩;refine PySem.W.callWith_K (h₀:=X.base) I.ok.mod.kin hk (thn (ha pos pins s σ H _ I h') λus s1 ⟨vs,H1,I1,r,q⟩=>⟨I1.kIn,?_⟩) he hpl;exact jhO F C.room2 hb I1 r q
def jkW {n:Nat}{d:Fun}{x:Str}{p pos:Pos}(C:Cok T k X c)(hd:T.funs[n]?=some d)(hx:d.name=x)(hg:glo c x=true) :
  PE X (.Call (.Name x p) [] [] pos) (lE X λ_ G Q E=>jab T k n [] G Q E):=by
 obtain⟨f,fd,F,hm,hk,hb⟩:=C.fns n d hd;obtain⟨g1,g2⟩:=C.gl hg;rw[hx]at hm;intro pins s σ H Q0 I ⟨ς,G,Q,E,hς,hG,h,lv,lx⟩;refine YcQ (jfW I g1 hm ?_ g2);exact PySem.W.callWith_K0 I.kIn hk (jhO (us:=[]) (vs:=[]) F C.room2 hb I .nil (jhL (show RUs X.K H [] []from rfl) hG h lv lx))
def Cok.comp {pick:List (Option Nat)}{scope:Scope}{N:List Str}(C:Cok T k X c)(h:cOkS c N pick scope=true):CScope X N pick scope/\∀cl A s₀ H₀ fp,Cok T k (jap X N scope cl A s₀ H₀ fp) ⟨N,scope.names⟩:=by
 unfold cOkS at h;simp only[YaE,decide_eq_true_eq]at h;obtain⟨⟨⟨⟨⟨⟨h1,h2⟩,h3⟩,h4⟩,h5⟩,h6⟩,h7⟩:=h;have cells:∀y∈scope.names,y.2=.cell->scope.names.lookup y.1=some .cell:=λy hy hc=>by
  have:=YcX.mp h2 y hy;rw[hc]at this;simpa using this
 refine⟨⟨h1,cells,λy hy hl=>?_,λy hy hf=>?_,by simpa using h5,λi j x e1 e2=>?_⟩,λcl A s₀ H₀ fp=>?_⟩
 ·have:=YcX.mp h3 y hy;rw[hl]at this;simpa using this
 ·have:=YcX.mp h4 y hy;rw[hf]at this;simp only[bne_self_eq_false,YeN,YaE,YcC,beq_iff_eq]at this;refine⟨this.1,?_⟩;rcases this.2 with z|z
  ·exact .inl (C.cel _ z).1
  ·exact C.fre _ z
 ·have hz:(N.zip pick)[i]?=some (x,some j):=by rw[List.getElem?_zip_eq_some];exact⟨e1,e2⟩
  have:=YcX.mp h6 _ (Yam hz);rw[C.hN];simpa using this
 ·refine⟨rfl,h7,λx z=>?_,λx z=>?_,λx z=>?_,λx z=>?_,C.room,C.calm,Yd2.never,C.blt,C.fns,C.gls,C.room2,C.cls,C.mgK⟩
  ·exact jaB (by decide) (eq_of_beq z)
  ·exact⟨jaB (by decide) (eq_of_beq z),z⟩
  ·exact ja6 (eq_of_beq z)
  ·exact glc (eq_of_beq z)
end
end Z

namespace Z
open PySem L2
section
variable {K:Yac}{H H':Hp}{G G':Gp}
end
section
variable {T:Tab}{k:Nat}{X:Cx}{c:Ctx}
end
structure HC (T:Tab)(X:Cx)(c:Ctx)(n:Nat)(ea C dx:Addr)(x:XV):Prop where
 hN:X.N=c.N
 nd:c.N.Nodup
 loc:∀y,kd c y .local=true->X.env.scope.names.lookup y=some .local
 cel:∀y,kd c y .cell=true->X.env.scope.names.lookup y=some .cell/\X.fn y=true
 fre:∀y,kd c y .free=true->X.env.scope.names.lookup y=some .cell\/X.env.scope.names.lookup y=some .free
 glb:∀y,kd c y .globalImplicit=true->Gl X y
 blt:∀y∈jcJ,X.mg y=none
 cls:∀n∈T.cs,1<=n->∃C,XCls X.K (gK X.K) (clsN n) (clsF n) C
 me:XCls X.K (gK X.K) (clsN x.c) (clsF x.c) C
 lo:1<=x.c
 hi:x.c<6
 pin:XPin X ea C dx
 mgK:∀y v,gK X.K y=some v->X.mg y=some v
 en:n<c.N.length/\kd c (nmA c n) .local=true/\(nmA c n==("__debug__" : Str))=false/\(nmA c n==("__classdict__" : Str))=false
structure HSt (X:Cx)(n:Nat)(ea C dx:Addr)(x:XV)(σ:St)(H:Hp)(ς:Sg)(G:Gp):Prop where
 sr:SR X.K H ς σ
 hr:HR X.K H G
 en:σ[n]?=some (some (.ref ea))
 xd:XD X.K H C dx x
def hB (X:Cx)(n:Nat)(ea C dx:Addr)(x:XV)(f:Sg->Option Bool):TE:=λσ H Q=>∃ς G b,HSt X n ea C dx x σ H ς G/\f ς=some b/\∀H',HR X.K H' G->Fr H G H' G->Q (.bl b) H'
def hT (X:Cx)(n:Nat)(ea C dx:Addr)(x:XV)(f:Sg->Option Bool):TT:=λσ H Q=>∃ς G b,HSt X n ea C dx x σ H ς G/\f ς=some b/\∀H',HR X.K H' G->Fr H G H' G->Q b H'
section
variable {T:Tab}{X:Cx}{c:Ctx}{n:Nat}{ea C dx:Addr}{x:XV}
def hV (X:Cx)(n:Nat)(ea C dx:Addr)(x:XV)(f:Sg->Gp->K1->Prop):TE:=λσ H Q0=>∃ς G Q,HSt X n ea C dx x σ H ς G/\f ς G Q/\LV X H G Q Q0
def hS (X:Cx)(n:Nat)(ea C dx:Addr)(x:XV)(hs:List HS):L2.TS:=λD σ H=>∃ς G k,HSt X n ea C dx x σ H ς G/\hsH x hs ς G k/\∀ς' σ' G' H',HSt X n ea C dx x σ' H' ς' G'->Fr H G H' G'->k ς' G'->D.nx σ' H'
end
section
variable {T:Tab}{k:Nat}{X:Cx}{c:Ctx}
end
section
variable {T:Tab}{k:Nat}
def jlY (b:Blt):bltN b∈jcJ:=by cases b<;>decide
def jmU:∀n∈jhB,Yca (YbR n)=some (.type n)/\YbR n∈jcJ/\YbR n ≠ "__name__" := by decide +kernel
abbrev SE (T:Tab)(k:Nat)(X:Cx)(c:Ctx)(ir:E)(h:Expr):Prop:=PE X (unE T c ir h) (lE X (den T.gs (jab T k) ir).1)/\PT X (unE T c ir h) (lT X (den T.gs (jab T k) ir).2)
section
variable {X:Cx}{c:Ctx}
def tru {e:Expr}{t:UE}(h:PE X e (lE X t))(hp:∀whole,isTrue e X.env whole=(do let v <- whole;standAt e.pos;holding [v] (truthy v))):PE X e (lE X t)/\PT X e (lT X (truT t)):=⟨h,jpv h hp⟩
section
variable {a b:Expr}{rest:List Expr}{pos:Pos}{p q:UE×UT}
def jnd (ha:PE X a (lE X p.1)/\PT X a (lT X p.2))(hb:PE X (.BoolOp .And (b::rest) pos) (lE X q.1)/\PW X (.BoolOp .And (b::rest) pos) (lT X q.2)) :
  PE X (.BoolOp .And (a::b::rest) pos) (lE X (comb true p q).1)/\PW X (.BoolOp .And (a::b::rest) pos) (lT X (comb true p q).2):=⟨jpJ ha.1 hb.1,jmT ha.2 hb.2⟩
def jpY (ha:PE X a (lE X p.1)/\PT X a (lT X p.2))(hb:PE X (.BoolOp .Or (b::rest) pos) (lE X q.1)/\PW X (.BoolOp .Or (b::rest) pos) (lT X q.2)) :
  PE X (.BoolOp .Or (a::b::rest) pos) (lE X (comb false p q).1)/\PW X (.BoolOp .Or (a::b::rest) pos) (lT X (comb false p q).2):=⟨u_or ha.1 hb.1,jpx ha.2 hb.2⟩
end
def se_v {i:Nat}{h:Expr}(C:Cok T k X c)(q:okE T c (.v i) h=true):SE T k X c (.v i) h:=tru (jpr (C.nm (ba (ba (ba q).1).1).1) (C.vis (ba (ba (ba q).1).1).2) (bn (ba (ba q).1).2) (bn (ba q).2)) λ_=>rfl
def se_g {n:Nat}{h:Expr}(C:Cok T k X c)(q:okE T c (.g n) h=true):SE T k X c (.g n) h:=by
 have h1:=of_decide_eq_true (ba (ba q).1).1;have h2:=of_decide_eq_true (ba (ba q).1).2;have hn:T.gn[n]?=some (T.gn.getD n ""):=by rw[YaH,Yab h2];rfl
 obtain⟨v,w,m,r,ru⟩:=C.gls n _ T.gs[n] hn (by simp[h1])
 obtain⟨g1,g2⟩:=C.gl (ba q).2;refine tru (PE.imp (u_gl (u:=T.gs[n]) g1 m r ru g2) λσ H Q0 ⟨ς,G,Q,E,hς,hG,h,lv,lx⟩=>⟨ς,G,Q,E,hς,hG,?_,lv,lx⟩) λ_=>rfl;have h':glU T.gs n λu=>Q u G:=h;unfold glU at h';rw[Yab h1]at h';exact h'
def jpX {n:String}{h:Expr}(C:Cok T k X c)(q:okE T c (.ty n) h=true):SE T k X c (.ty n) h:=by
 obtain⟨g1,g2⟩:=C.gl (ba q).2;obtain⟨t1,t2,t3⟩:=jmU n (by simpa using (ba q).1)
 exact tru (u_ty g1 (C.blt _ t2) t1 t3 g2) λ_=>rfl
def jm8 {es:Es}{h:Expr}{trs:List (TE×TE)}(h1:PPs X h.pos (unK T c es (dk h)) (unV T c es (cl h)) trs)(h2:lD X (denD T.gs (jab T k) es) trs)(h3:(unK T c es (dk h)).all (·.isSome)=true)(h4:(unK T c es (dk h)).length=(unV T c es (cl h)).length)
  (h5:(unK T c es (dk h)).length<=15):SE T k X c (.dic es) h:=by
 refine tru ?_ λ_=>rfl
 match es,h1,h2,h3,h4,h5 with
 |.nil,_,_,_,_,_=>exact PE.imp jmP λσ H Q0 ⟨ς,G,Q,E,hς,hG,h,lv,lx⟩=>⟨ς,G,Q,E,hς,hG,(show([]:List (Key×U)).length<=15/\newO G (.dK (jd5 [])) Q from h).2,lv,lx⟩
 |.cons _ .nil,_,_,_,_,_=>exact λpins s σ H Q0 I ⟨ς,G,Q,E,hς,hG,h,lv,lx⟩=>(show False from h).elim
 |.cons d (.cons f es),h1,h2,h3,h4,h5=>exact jpF h1 h2 h3 h4 (λz=>nomatch z) h5
def jlb {n:Nat}{es:Es}{h:Expr}(C:Cok T k X c)(q:okE T c (.call n es) h=true)(ha:PA X (unEs T c es (cl h)) (lA X (ja1 T.gs (jab T k) es))):SE T k X c (.call n es) h:=by
 refine tru ?_ λ_=>rfl;have hn:=of_decide_eq_true (ba (ba q).1).1;have hd':T.funs[n]?=some T.funs[n]:=by simp[hn]
 have hx:T.funs[n].name=fnN T n:=by unfold fnN;rw[hd']
 match es,ha with
 |.nil,_=>exact jkW C hd' hx (ba (ba q).1).2
 |.cons d es,ha=>exact jmS C hd' hx (ba (ba q).1).2 ha (jaC (jaz d _) _ _) (jdp es _ _ _).1
def jm9 {b:Blt}{es:Es}{h:Expr}(C:Cok T k X c)(q:okE T c (.blt b es) h=true)(ha:PA X (unEs T c es (cl h)) (lA X (ja1 T.gs (jab T k) es))):SE T k X c (.blt b es) h:=by
 refine tru ?_ λ_=>rfl;obtain⟨g1,g2⟩:=C.gl (ba (ba q).1).2
 match es,ha,q with
 |.nil,_,q=>exact absurd (of_decide_eq_true (ba (ba q).1).1) (Ybf 0)
 |.cons d es,ha,_=>exact jpH (joP C.room C.calm b) g1 (C.blt _ (jlY b)) ha (jaC (jaz d _) _ _) (jdp es _ _ _).1
def jla {m:Mth}{o:E}{es:Es}{h:Expr}(q:okE T c (.meth m o es) h=true)(ho:PE X (unE T c o (c0 (c0 h))) (lE X (den T.gs (jab T k) o).1))(ha:PA X (unEs T c es (cl h)) (lA X (ja1 T.gs (jab T k) es))):SE T k X c (.meth m o es) h:=by
 refine tru ?_ λ_=>rfl;have h6:=(ba q).2;have h5:=of_decide_eq_true (ba (ba q).1).2;have h4:=(ba (ba (ba q).1).1).2
 match es,ha,h5 with
 |.nil,_,_=>exact jkU (jks m) ho (jeS h6 _ _ _) h4
 |.cons d es,ha,h5=>
  refine jmM (jks m) ho ha (jeS h6 _ _ _) ?_ h4 (jaC (jaz d _) _ _) (jdp es _ _ _).1;have e:=(jdp (T:=T) (c:=c) (.cons d es) (cl h) X.env h.pos).2;show((backTo h.pos (YaP (unEs T c (.cons d es) (cl h)) X.env)).all (λx=>!x.1)&&_&&decide ((unEs T c (.cons d es) (cl h)).length+0+0<30))=true;rw[e,jhz];exact decide_eq_true h5
def jna {d:E}{e:Expr}(h:PT X e (lT X (den T.gs (jab T k) d).2)):PIfs X [e] (lT0 X.K (denC T.gs (jab T k) (.cons d .nil))):=by
 refine PIfs.imp (jlq (lT0.of h)) λσ H Q0 ⟨ς,G,Q,h1,h2,h3,h4⟩=>⟨ς,G,λb G'=>Q b G',h1,h2,?_,h4⟩;have h3':(den T.gs (jab T k) d).2 ς G (λb G1=>if b=true then Q true G1 else Q false G1) (λ_ _=>False):=h3
 have e:(λ(b:Bool) (G1:Gp)=>if b=true then Q true G1 else Q false G1)=λb G'=>Q b G':=by
  funext b G1;cases b<;>simp
 rw[e]at h3';exact h3'
def jnc:PIfs X [] (lT0 X.K (denC T.gs (jab T k) .nil)):=PIfs.imp jlr λσ H Q0 ⟨ς,G,Q,h1,h2,h3,h4⟩=>h4 true G H h2 (Fr.refl _ _) h3
def jol:∀(es:Es) (hs:List Expr),2*(unK T c es hs).length<=jcy es
 |.nil,_=>Yaf _
 |.cons _ .nil,_=>Ybb _
 |.cons _ (.cons _ es),hs=>by
  have:=jol es hs.tail;show 2*((unK T c es hs.tail).length+1)<=jcy es+1+1;omega
def k_le {es:Es}{hs:List Expr}(h:jcy es<=30):(unK T c es hs).length<=15:=by
 have:=jol (T:=T) (c:=c) es hs;omega
end
mutual
def sE:∀(ir:E) {X:Cx} {c:Ctx} {h:Expr},Cok T k X c->okE T c ir h=true->SE T k X c ir h
 |.v _,_,_,_,C,q=>se_v C q
 |.non,_,_,_,_,_=>tru (jcL (u:=.non) jnE λ_=>rfl) λ_=>rfl
 |.bl b,_,_,_,_,_=>tru (jcL (u:=.bl b) jqi λ_=>rfl) λ_=>rfl
 |.int i,_,_,_,_,_=>tru (jcL (u:=.int i) jnH λ_=>rfl) λ_=>rfl
 |.str x,_,_,_,_,_=>tru (jcL (u:=.str x) jnC λ_=>rfl) λ_=>rfl
 |.g _,_,_,_,C,q=>se_g C q
 |.ty _,_,_,_,C,q=>jpX C q
 |.bin o a b,_,_,_,C,q=>tru (jpI (jnO o) (sE a C (ba q).1).1 (sE b C (ba q).2).1) λ_=>rfl
 |.neg a,_,_,_,C,q=>tru (jpz (sE a C q).1) λ_=>rfl
 |.not a,_,_,_,C,q=>⟨jpy (sE a C q).1,jmL (sE a C q).2⟩
 |.bop k a es,_,_,h,C,q=>let r:=sB es k C (sE a C (ba q).1) (ba q).2 h.pos;⟨r.1,r.2.pt⟩
 |.cmp o a b,_,_,_,C,q=>⟨jpG (jex C.room o) (sE a C (ba (ba q).1).1).1 (sE b C (ba (ba q).1).2).1 (bn (ba q).2),jmQ (jex C.room o) (sE a C (ba (ba q).1).1).1 (sE b C (ba (ba q).1).2).1 (bn (ba q).2)⟩
 |.cmp2 o p a b d,_,_,_,C,q=>⟨jmR (jex C.room o) (jex C.room p) (sE a C (ba (ba (ba q).1).1).1).1 (sE b C (ba (ba (ba q).1).1).2).1 (sE d C (ba (ba q).1).2).1 (bn (ba q).2),
   PT.imp (jkV (jex C.room o) (jex C.room p) (sE a C (ba (ba (ba q).1).1).1).1 (sE b C (ba (ba (ba q).1).1).2).1 (sE d C (ba (ba q).1).2).1 (bn (ba q).2)) λ_ _ _ ⟨ς,G,Q,E,hς,hG,h,lv,lx⟩=>⟨ς,G,Q,E,hς,hG,h,lv,lx⟩⟩
 |.ife t a b,_,_,_,C,q=>⟨jpE (sE t C (ba (ba q).1).1).2 (sE a C (ba (ba q).1).2).1 (sE b C (ba q).2).1,jmN (sE t C (ba (ba q).1).1).2 (sE a C (ba (ba q).1).2).2 (sE b C (ba q).2).2⟩
 |.tup es,_,_,_,C,q=>tru (jps (sEs es C q)) λ_=>rfl
 |.lst es,_,_,_,C,q=>tru (jpD (sEs es C q)) λ_=>rfl
 |.dic es,_,_,h,C,q=>let ⟨_,h1,h2,h3,h4⟩:=sD es C h.pos (ba q).1;jm8 h1 h2 h3 h4 (k_le (of_decide_eq_true (ba q).2))
 |.dicT,_,_,_,_,q=>nomatch q
 |.ix a b,_,_,_,C,q=>tru (u_ix C.hu (sE a C (ba q).1).1 (sE b C (ba q).2).1 (jmk (jaz b _))) λ_=>rfl
 |.sl a lo hi,_,_,_,C,q=>tru (u_sl (sE a C (ba (ba q).1).1).1 (sO lo C (ba (ba q).1).2) (sO hi C (ba q).2)) λ_=>rfl
 |.rev a b,_,_,_,C,q=>tru (jpw (sE a C (ba q).1).1 (sE b C (ba q).2).1) λ_=>rfl
 |.call _ es,_,_,_,C,q=>jlb C q (sEs es C (ba q).2)
 |.app _ _,_,_,_,_,_=>⟨λ_ _ _ _ _ _ ⟨_,_,_,_,_,_,h,_⟩=>(show False from h).elim,λ_ _ _ _ _ _ ⟨_,_,_,_,_,_,h,_⟩=>(show False from h).elim⟩
 |.blt _ es,_,_,_,C,q=>jm9 C q (sEs es C (ba q).2)
 |.meth _ o es,_,_,_,C,q=>jla q (sE o C (ba (ba (ba (ba q).1).1).1).1).1 (sEs es C (ba (ba (ba (ba q).1).1).1).2)
 |.lc _ t it ifs d,_,_,_,C,q=>let S:=C.comp (ba (ba (ba (ba (ba (ba q).1).1).1).1).1).1
   tru (u_lc C.calm S.1 (sI it t _ _ C (ba (ba (ba (ba q).1).1).1).2).1 (ba (ba (ba (ba (ba (ba q).1).1).1).1).1).2 (λcl A s₀ H₀ fp=>sTg (S.2 cl A s₀ H₀ fp) t _ (ba (ba (ba (ba (ba q).1).1).1).1).2)
    (λcl A s₀ H₀ fp=>sC ifs (S.2 cl A s₀ H₀ fp) (of_decide_eq_true (ba (ba q).1).2) (ba (ba (ba q).1).1).2) (λcl A s₀ H₀ fp=>lE0.of (sE d (S.2 cl A s₀ H₀ fp) (ba q).2).1) (sI it t ⟨[],[]⟩ e0 C (ba (ba (ba (ba q).1).1).1).2).2) λ_=>rfl
 |.lc2 _ _ _ _ _ _ _ _,_,_,_,_,q=>nomatch q
 |.fst _,_,_,_,_,q=>nomatch q
 |.lrp _ _ _ _ _ _,_,_,_,_,q=>nomatch q
 |.sset _,_,_,_,_,q=>nomatch q
 |.mkD d,_,_,_,C,q=>tru (jpC C.calm (C.gl (ba q).1).1 (C.blt _ (by decide)) (sE d C (ba q).2).1 (jaC (jaz d _) _ _)) λ_=>rfl
 |.maxD _,_,_,_,_,q=>nomatch q
 |.minD _,_,_,_,_,q=>nomatch q
 |.mkL d,_,_,_,C,q=>tru (jpB (C.gl (ba q).1).1 (C.blt _ (by decide)) (sE d C (ba q).2).1 (jaC (jaz d _) _ _)) λ_=>rfl
 |.mkT d,_,_,_,C,q=>tru (jpA (C.gl (ba q).1).1 (C.blt _ (by decide)) (sE d C (ba q).2).1 (jaC (jaz d _) _ _)) λ_=>rfl
 |.rngL _,_,_,_,_,q=>nomatch q
 |.rngT _,_,_,_,_,q=>nomatch q
 |.rngL2 _ _,_,_,_,_,q=>nomatch q
def sO:∀(ir:Eo) {X:Cx} {c:Ctx} {h:Expr},Cok T k X c->okO T c ir h=true->PO X (unO T c ir h) (lO X (denO T.gs (jab T k) ir))
 |.no,_,_,_,_,_=>u_no
 |.so d,_,_,_,C,q=>u_so (sE d C q).1
def sEs:∀(ir:Es) {X:Cx} {c:Ctx} {hs:List Expr},Cok T k X c->okEs T c ir hs=true->PA X (unEs T c ir hs) (lA X (ja1 T.gs (jab T k) ir))
 |.nil,_,_,_,_,_=>jg5
 |.cons d ir,_,_,_,C,q=>jeb (sE d C (ba q).1).1 (sEs ir C (ba q).2) (jaC (jaz d _) _ _)
def sB:∀(ir:Es) (b:Bool) {X:Cx} {c:Ctx} {hs:List Expr} {a:Expr} {p:UE×UT},Cok T k X c->PE X a (lE X p.1)/\PT X a (lT X p.2)->okEs T c ir hs=true->∀pos:Pos,
  PE X (.BoolOp (boU b) (a::unEs T c ir hs) pos) (lE X (denB T.gs (jab T k) b p ir).1)/\PW X (.BoolOp (boU b) (a::unEs T c ir hs) pos) (lT X (denB T.gs (jab T k) b p ir).2)
 |.nil,true,_,_,_,_,_,_,ha,_,_=>⟨jkm ha.1,pw_and1 ha.2⟩
 |.nil,false,_,_,_,_,_,_,ha,_,_=>⟨jkm ha.1,pw_or1 ha.2⟩
 |.cons d ir,true,_,_,_,_,_,C,ha,q,pos=>jnd ha (sB ir true C (sE d C (ba q).1) (ba q).2 pos)
 |.cons d ir,false,_,_,_,_,_,C,ha,q,pos=>jpY ha (sB ir false C (sE d C (ba q).1) (ba q).2 pos)
def sC:∀(ir:Es) {X:Cx} {c:Ctx} {hs:List Expr},Cok T k X c->jcy ir<=1->okEs T c ir hs=true->PIfs X (unEs T c ir hs) (lT0 X.K (denC T.gs (jab T k) ir))
 |.nil,_,_,_,_,_,_=>jnc
 |.cons d .nil,_,_,_,C,_,q=>jna (sE d C (ba q).1).2
 |.cons _ (.cons _ es),_,_,_,_,l,_=>absurd l (by show ¬(jcy es+1+1<=1);omega)
def sD:∀(ir:Es) {X:Cx} {c:Ctx} {hs gs:List Expr},Cok T k X c->(p:Pos)->okD T c ir hs gs=true->∃trs,PPs X p (unK T c ir hs) (unV T c ir gs) trs/\lD X (denD T.gs (jab T k) ir) trs/\(unK T c ir hs).all (·.isSome)=true/\(unK T c ir hs).length=(unV T c ir gs).length
 |.nil,_,_,_,_,_,_,_=>⟨[],jll,jof,rfl,rfl⟩
 |.cons d (.cons f ir),_,_,_,_,C,p,q=>let ⟨_,h1,h2,h3,h4⟩:=sD ir C p (ba q).2;⟨_,jjn (sE d C (ba (ba q).1).1).1 (sE f C (ba (ba q).1).2).1 h1,jl4 h2,h3,congrArg (·+ 1) h4⟩
 |.cons _ .nil,_,_,_,_,_,_,q=>nomatch q
def sI:∀(ir:It) (t:Tg) (ct:Ctx) (ht:Expr) {X:Cx} {c:Ctx} {h:Expr},Cok T k X c->okI T c t ir h=true->PI X (unTg ct t ht) (unI T c ir h) (lI X (denI T.gs (jab T k) ir))/\∀x,Ya7 (unI T c ir h) X.env x=pure x
 |.e d,_,_,_,_,_,_,C,q=>⟨u_ie (sE d C q).1,jbO (jaz d _) _⟩
 |.r1 d,_,_,_,_,_,_,C,q=>⟨u_r1 (C.gl (ba q).1).1 (C.blt _ (by decide)) (sE d C (ba q).2).1 (jaC (jaz d _) _ _),λ_=>rfl⟩
 |.r2 _ _,_,_,_,_,_,_,_,q=>nomatch q
 |.enum d,.t _,_,_,_,_,_,C,q=>⟨jmO (C.gl (ba (ba q).1).2).1 (C.blt _ (by decide)) (sE d C (ba q).2).1 (jaC (jaz d _) _ _),λ_=>rfl⟩
 |.enum _,.n _,_,_,_,_,_,_,q=>nomatch q
 |.dk _,_,_,_,_,_,_,_,q=>nomatch q
 |.s d,_,_,_,_,_,_,C,q=>⟨u_is (sE d C q).1,jbO (jaz d _) _⟩
 |.dv d,_,_,_,_,_,_,C,q=>⟨u_dv (sE d C (ba (ba q).1).1).1 (jeS (ba q).2 _ _ _) (ba (ba q).1).2,λ_=>rfl⟩
 |.di d,.t _,_,_,_,_,_,C,q=>⟨u_di (sE d C (ba (ba (ba q).1).1).2).1 (jeS (ba q).2 _ _ _) (ba (ba q).1).2,λ_=>rfl⟩
 |.di _,.n _,_,_,_,_,_,_,q=>nomatch q
 |.zp _ _,_,_,_,_,_,_,_,q=>nomatch q
end
end
section
variable {c:Ctx}{env:Env}
noncomputable def swF (sb:Bool)(names:List Str)(bk:ScopeKind)(ts vs:List Expr):Sem (Option (List Str)):=
 if (!(ts.length==2||ts.length==3)||vs.length != ts.length||bk != .function)=true then pure none
 else if sb=true then pure none
 else if (names.length != ts.length||names.eraseDups.length != names.length)=true then pure none
 else if vs.all (Yfr 8)=true then pure none
 else if vs.all (constantsAlone 8)=true then do unsupported "assign.tuple-of-constant-expressions:order-of-the-stores";pure (some names)
 else pure (some names)
noncomputable def jeD (env:Env)(ts:List Expr):List Str:=ts.filterMap fun
  |.Name id pos=>if env.kindOf id==some .local&&pos.line==jkk ts then some id else none
  |_=>none
def jmY {ts vs:List Expr}{a b:Nat}{p q:Pos}:Ybi [.Tuple ts a p] (.Tuple vs b q) env=swF (vs.any jgJ) (jeD env ts) env.blockKind ts vs:=by
 have e1:jgJ=fun|.Starred ..=>true|_=>false:=by funext e;cases e<;>rfl
 with_unfolding_all rfl
def jgp (hk:∀x,env.kindOf x=c.sc.lookup x)(ts:List Expr):jeD env ts=jan c ts:=by
 unfold jan jeD;congr 1;funext e;cases e<;>first|rfl|(dsimp only;rw[hk])
def jeW (hk:∀x,env.kindOf x=c.sc.lookup x)(hb:env.blockKind=.function){ts vs:List Expr}{a b:Nat}{p q:Pos}(h:jcR c ts vs=true):Ybi [.Tuple ts a p] (.Tuple vs b q) env=pure none:=by
 rw[jmY,jgp hk,hb];unfold swF;unfold jcR at h;by_cases h1:(!(ts.length==2||ts.length==3)||vs.length != ts.length)=true
 ·rw[if_pos (by rw[h1];rfl)]
 ·have h1':(!(ts.length==2||ts.length==3)||vs.length != ts.length)=false:=by simpa using h1
  rw[h1']at h;rw[if_neg (by rw[h1'];decide)]
  simp only[YeN,YaE,YdH]at h;obtain⟨h2,h3⟩:=h;rw[if_neg (by rw[h2];decide)]
  by_cases h4:((jan c ts).length != ts.length||(jan c ts).eraseDups.length != (jan c ts).length)=true
  ·rw[if_pos h4]
  ·rw[if_neg h4];have h4':((jan c ts).length != ts.length||(jan c ts).eraseDups.length != (jan c ts).length)=false:=by simpa using h4
   rw[h4']at h3;rw[if_pos (by simpa using h3)]
def jhJ (hk:∀x,env.kindOf x=c.sc.lookup x)(hb:env.blockKind=.function){ts vs:List Expr}{a b:Nat}{p q:Pos}(h:swapped c ts vs=true):Ybi [.Tuple ts a p] (.Tuple vs b q) env=pure (some (jan c ts)):=by
 rw[jmY,jgp hk,hb];unfold swF;unfold swapped at h;simp only[YaE,YdH]at h;obtain⟨⟨⟨⟨⟨⟨h1,h2⟩,h3⟩,h4⟩,h5⟩,h6⟩,h7⟩:=h;have e1:(!(ts.length==2||ts.length==3)||vs.length != ts.length||(YeF != YeF))=false:=by
  have:(vs.length != ts.length)=false:=by simpa using h2
  rw[h1,this];rfl
 rw[if_neg (by rw[e1];decide),if_neg (by rw[h3];decide)]
 have e2:((jan c ts).length != ts.length||(jan c ts).eraseDups.length != (jan c ts).length)=false:=by
  have z1:((jan c ts).length != ts.length)=false:=by simpa using h4
  have z2:((jan c ts).eraseDups.length != (jan c ts).length)=false:=by simpa using h5
  rw[z1,z2];rfl
 rw[if_neg (by rw[e2];decide),if_neg (by rw[h6];decide),if_neg (by rw[h7];decide)]
def ji6 (hk:∀x,env.kindOf x=c.sc.lookup x)(hb:env.blockKind=.function){elt:Expr}{gs:List YbJ}{s:Scope}{p py:Pos}{y:Str}{l:Nat}(h:lcSw c y py p s=true) :
  Yc3 (.ListComp elt gs s p) (some (.Name y py)) l env=pure true:=by
 unfold lcSw at h;simp only[YaE]at h;unfold Yc3;dsimp only;show(pure (env.blockKind == .function&&env.kindOf y==some .local&&py.line==p.line && !(s.names.any λ(n,k)=>n==y&&(k == .local||k == .cell))):Sem Bool)=pure true;rw[hb,hk,h.1.1,h.1.2,h.2];rfl
def jgo (hk:∀x,env.kindOf x=c.sc.lookup x){elt:Expr}{gs:List YbJ}{s:Scope}{p py:Pos}{y:Str}{l:Nat}(h:(c.sc.lookup y==some .local)=false) :
  Ybt [.Name y py] (.ListComp elt gs s p) l env=pure false:=by
 show(pure (env.blockKind == .function&&env.kindOf y==some .local&&py.line==p.line && !(s.names.any λ(n,k)=>n==y&&(k == .local||k == .cell))):Sem Bool)=pure false;rw[hk,h];simp
end
section
variable {T:Tab}{k:Nat}
def Cos.kindOf {X:Cx}{c:Ctx}(C:Cos T k X c):∀x,X.env.kindOf x=c.sc.lookup x:=λx=>by
 unfold Env.kindOf;rw[C.sc]
def Cos.block {X:Cx}{c:Ctx}(C:Cos T k X c):X.env.blockKind=.function:=by
 unfold Env.blockKind;rw[C.kind];rfl
def jkr {c:Ctx}:∀(is:List Nat) (hs:List Expr),(unNs c is hs).length=is.length
 |[],_=>rfl
 |_::is,hs=>congrArg (·+ 1) (jkr is hs.tail)
def sw2 {c:Ctx}{x y:Str}{p q:Pos}(h:(jan c [.Name x p,.Name y q]).length=2):jan c [.Name x p,.Name y q]=[x,y]:=by
 unfold jan at h ⊢;simp only[Yce,List.filterMap_nil]at h ⊢;split at h<;>split at h<;>simp_all
section
variable {X:Cx}{c:Ctx}
def jm3 {t:Tg}{d:E}{h:Stmt}(C:Cos T k X c)(q:okS T c (.asg t d) h=true)(hs:PE X (unE T c d (q0 h)) (lE X (den T.gs (jab T k) d).1)):PS X (unS T c (.asg t d) h) (lS X (denS T.gs (jab T k) (.asg t d))):=by
 have hg:=sTg C.toCok t (q1 h) (ba (ba q).1).2;have q3:=(ba q).2;have fin:Ybt [unTg c t (q1 h)] (unE T c d (q0 h)) h.pos.line X.env=pure false/\Ybi [unTg c t (q1 h)] (unE T c d (q0 h)) X.env=pure none:=by
  cases t with
  |n i=>
   refine⟨?_,jpq d _ _ _ _⟩;by_cases hl:isLc d=true
   ·cases d with
    |lc=>exact jgo C.kindOf (bn q3)
    |lc2=>exact jgo C.kindOf (bn q3)
    |_=>cases hl
   ·exact jkP (by simpa using hl) _ _ _ _
  |t ts=>
   cases d with
   |lc=>cases q3
   |lc2=>cases q3
   |tup es=>exact⟨rfl,jeW C.kindOf C.block q3⟩
   |_=>exact⟨rfl,rfl⟩
 exact s_asg hs hg fin.1 fin.2 (jhA t _ _)
def jm1 {ts:Tgs}{d:E}{h:Stmt}(C:Cos T k X c)(q:okS T c (.unp ts d) h=true)(hs:PE X (unE T c d (q0 h)) (lE X (den T.gs (jab T k) d).1)):PS X (unS T c (.unp ts d) h) (lS X (denS T.gs (jab T k) (.unp ts d))):=by
 have hg:=sTgs C.toCok ts (cl (q1 h)) (ba (ba q).1).2;have q3:=(ba q).2;have fin:Ybt [unTg c (.t ts) (q1 h)] (unE T c d (q0 h)) h.pos.line X.env=pure false/\Ybi [unTg c (.t ts) (q1 h)] (unE T c d (q0 h)) X.env=pure none:=by
  cases d with
  |lc=>cases q3
  |lc2=>cases q3
  |tup es=>exact⟨rfl,jeW C.kindOf C.block q3⟩
  |_=>exact⟨rfl,rfl⟩
 exact s_unp C.calm hs hg (jdq ts _ X.env).1 (jdq ts _ X.env).2 (λus ς k q=>jfK q) fin.1 fin.2 (jhA (.t ts) (q1 h) _)
def jm2 {is:List Nat}{es:Es}{h:Stmt}(C:Cos T k X c)(q:okS T c (.par is es) h=true)(ha:PA X (unEs T c es (cl (q0 h))) (lA X (ja1 T.gs (jab T k) es))):PS X (unS T c (.par is es) h) (lS X (denS T.gs (jab T k) (.par is es))):=by
 have h3:=(ba (ba q).1).2;have h2:=(ba (ba (ba q).1).1).2;have hsw:=jhJ (a:=kk (q1 h)) (b:=kk (q0 h)) (p:=(q1 h).pos) (q:=(q0 h).pos) C.kindOf C.block h3;unfold swapped at h3;simp only[YaE,YcC,beq_iff_eq]at h3;obtain⟨⟨⟨⟨⟨⟨_,l2⟩,_⟩,l4⟩,_⟩,_⟩,_⟩:=h3;rw[jhz,jkr]at l2;have l1:is.length=2:=of_decide_eq_true (ba q).2;have nd:X.N.Nodup:=by rw[C.hN];exact C.nd
 match is,es,l1,l2,l4,hsw,h2,ha with
 |[i,j],.cons a (.cons b .nil),_,_,l4,hsw,h2,ha=>
  have u1:=ba h2;have u2:=ba u1.2;refine s_par2 C.calm nd (C.nm (ba (ba u1.1).1).1) (C.nm (ba (ba u2.1).1).1) (by intro z;subst z;have:=(ba u1.1).2;simp at this) (C.loc _ (ba (ba u1.1).1).2) (C.loc _ (ba (ba u2.1).1).2) ha ?_ rfl
  rw[<- sw2 l4];exact hsw
 |[],_,l1,_,_,_,_,_=>exact absurd l1 (by simp)
 |[_],_,l1,_,_,_,_,_=>exact absurd l1 (by simp)
 |_::_::_::_,_,l1,_,_,_,_,_=>exact absurd l1 (by simp)
 |[_,_],.nil,_,l2,_,_,_,_=>exact absurd l2 (by simp[jcy])
 |[_,_],.cons _ .nil,_,l2,_,_,_,_=>exact absurd l2 (by simp[jcy])
 |[_,_],.cons _ (.cons _ (.cons _ _)),_,l2,_,_,_,_=>exact absurd l2 (by simp[jcy])
def jk4 {i:Nat}{d:E}{h:Stmt}(C:Cos T k X c)(q:okS T c (.asgC i d) h=true):PS X (unS T c (.asgC i d) h) (lS X (denS T.gs (jab T k) (.asgC i d))):=by
 have qd:=(ba (ba (ba q).1).1);have hl:=(ba q).2;have hi:=C.nm (ba (ba q).1).2;have hy:=eq_of_beq (ba (ba hl).1).1;cases d with
 |lc pick t it ifs d=>
  have q1':=qd.2;have S:=C.toCok.comp (ba (ba (ba (ba (ba (ba q1').1).1).1).1).1).1;exact s_lc (by rw[C.hN];exact C.nd) hi (by rw[C.sc];exact hy) C.calm S.1 (sI it t _ _ C.toCok (ba (ba (ba (ba q1').1).1).1).2).1 (ba (ba (ba (ba (ba (ba q1').1).1).1).1).1).2
   (λcl A s₀ H₀ fp=>sTg (S.2 cl A s₀ H₀ fp) t _ (ba (ba (ba (ba (ba q1').1).1).1).1).2) (λcl A s₀ H₀ fp=>sC ifs (S.2 cl A s₀ H₀ fp) (of_decide_eq_true (ba (ba q1').1).2) (ba (ba (ba q1').1).1).2)
   (λcl A s₀ H₀ fp=>lE0.of (sE d (S.2 cl A s₀ H₀ fp) (ba q1').2).1) (ji6 C.kindOf C.block hl) (jkQ it _ _)
 |lc2 pick t it ifs t2 it2 ifs2 d=>exact Bool.noConfusion (show false=true from qd.2)
 |_=>cases qd.1
end
mutual
def sS:∀(ir:S) {X:Cx} {c:Ctx} {h:Stmt},Cos T k X c->okS T c ir h=true->PS X (unS T c ir h) (lS X (denS T.gs (jab T k) ir))
 |.pass,_,_,_,_,q=>nomatch q
 |.expr d,_,_,_,C,q=>s_expr (sE d C.toCok (ba q).1).1 (jkR (bn (ba q).2) _ _ _)
 |.asg _ d,_,_,_,C,q=>jm3 C q (sE d C.toCok (ba (ba q).1).1).1
 |.asgC _ _,_,_,_,C,q=>jk4 C q
 |.unp _ d,_,_,_,C,q=>jm1 C q (sE d C.toCok (ba (ba q).1).1).1
 |.setS o i d,_,_,_,C,q=>s_set C.toCok.hu (sE d C.toCok (ba (ba q).1).1).1 (sE o C.toCok (ba (ba q).1).2).1 (sE i C.toCok (ba q).2).1 (jkd d _ _ _ _ _ _).1 (jkd d _ _ _ _ _ 0).2 rfl (jjW (jaz i _) _ _)
 |.par _ es,_,_,_,C,q=>jm2 C q (sEs es C.toCok (ba (ba (ba q).1).1).1)
 |.aug _ _ d,_,_,_,C,q=>let s:=C.toCok.store (ba (ba q).1).2;s_aug (by rw[C.hN];exact C.nd) (C.nm (ba (ba q).1).1) s.1 s.2 (sE d C.toCok (ba q).2).1
 |.augS _ _ _ _,_,_,_,_,q=>nomatch q
 |.ite t a b,_,_,_,C,q=>s_if (sE t C.toCok (ba (ba q).1).1).2 (sSs a C (ba (ba q).1).2) (sSs b C (ba q).2)
 |.fr t it b,_,_,_,C,q=>s_for C.po C.calm (sI it t _ _ C.toCok (ba (ba q).1).2).1 (sTg C.toCok t _ (ba (ba q).1).1) (sSs b C (ba q).2) (sI it t ⟨[],[]⟩ e0 C.toCok (ba (ba q).1).2).2
 |.wh t b,_,_,_,C,q=>s_wh C.po (sE t C.toCok (ba q).1).2 (sSs b C (ba q).2)
 |.ret d,_,_,_,C,q=>s_ret (sE d C.toCok q).1
 |.retN,_,_,_,_,q=>nomatch q
 |.never,_,_,_,_,_=>λ_ _ _ _ _ _ ⟨_,_,_,_,_,q,_⟩=>(show False from q).elim
 |.raise _ _,_,_,_,_,q=>nomatch q
 |.tr _ _ _ _,_,_,_,_,q=>nomatch q
def sSs:∀(ir:Ss) {X:Cx} {c:Ctx} {hs:List Stmt},Cos T k X c->okSs T c ir hs=true->PSs X (unSs T c ir hs) (lS X (jaR T.gs (jab T k) ir))
 |.nil,_,_,_,_,_=>s_nil
 |.cons s r,_,_,_,C,q=>s_cons (t:=denS T.gs (jab T k) s) (u:=jaR T.gs (jab T k) r) (sS s C (ba q).1) (sSs r C (ba q).2)
end
end
def jkF {T:Tab}{n:Nat}{d:Fun}(h:T.funs[n]?=some d):(T.funs++T.vf)[n]?=some d:=by
 rw[YaN (List.getElem?_eq_some_iff.mp h).1];exact h
def jiQ {T:Tab}{k n:Nat}{d:Fun}(hd:(T.funs++T.vf)[n]?=some d){us:List U}{G:Gp}{Q:K1}{E:KX}(h:jab T (k+1) n us G Q E) :
  us.length=d.ps.length/\jaR T.gs (jab T k) d.body ⟨λ_ G'=>Q .non G',Q,λx _ G'=>E x G'⟩ (jad d.N.length us) G:=by
 have h':(match (T.funs++T.vf)[n]? with|some d=>us.length=d.ps.length/\jaR T.gs (jab T k) d.body ⟨λ_ G'=>Q .non G',Q,λx _ G'=>E x G'⟩ (jad d.N.length us) G|none=>False):=h
 rw[hd]at h';exact h'
def jno {X:Cx}{a b:List Stmt}{t:L2.TS}(e:a=b)(h:PSs X a t):PSs X b t:=e ▸ h
def jhK {K:Yac}{H:Hp}{N:List Str}{us:List U}{vs:List V}(r:RUs K H us vs):SR K H (jad N.length us) (L2.start N vs):=by
 unfold jad L2.start;refine⟨by simp[r.length],λi u e=>?_⟩
 by_cases hi:i<us.length
 ·rw[YaN (by simpa using hi),Yal]at e
  cases q:us[i]? with
  |none=>rw[q]at e;cases e
  |some w=>
   rw[q]at e;have:w=u:=by simpa using e
   subst this;obtain⟨v,ev,rv⟩:=r.get q;have hv:i<vs.length:=by rw[<- r.length];exact hi
   exact⟨v,by rw[YaN (by simpa using hv),Yal,ev];rfl,rv⟩
 ·rw[Ybv (by simpa using hi),YeJ]at e
  split at e<;>cases e
structure PF (T:Tab)(P:Program)(w:World)(K:Yac)(mg:Str->Option Value)(base:Heap)(k:Nat):Prop where
 blt:∀x∈jcJ,mg x=none
 fns:∀(n:Nat) (d:Fun),T.funs[n]?=some d->FnU P w K mg base k d (jab T k n)
 gls:∀(n:Nat) (x:Str) (u:U),T.gn[n]?=some x->T.gs[n]?=some u->∃v w,mg x=some w/\RelV v w/\∀H,RU K H u v
 cls:∀n∈T.cs,1<=n->∃C,XCls K (gK K) (clsN n) (clsF n) C
 mgK:∀x v,gK K x=some v->mg x=some v
noncomputable def scB (N ps:List Str)(sc:Scope):Bool:=
 decide (sc.kind=.function) && !sc.isCoroutine && !sc.isGenerator&&decide N.Nodup&&(N.take ps.length==ps)&&ps.all (λx=>sc.names.lookup x==some .local||sc.names.lookup x==some .cell)&&sc.names.all (λy=>y.2 != .free)
def jnb {N ps:List Str}{sc:Scope}(h:scB N ps sc=true):FnScope N ps sc:=by
 unfold scB at h;simp only[YaE,decide_eq_true_eq,YdH]at h;obtain⟨⟨⟨⟨⟨⟨h1,h2⟩,h3⟩,h4⟩,h5⟩,h6⟩,h7⟩:=h;refine⟨h1,h2,h3,h4,eq_of_beq h5,λx hx=>?_,λy hy=>?_⟩
 ·have:=YcX.mp h6 x hx;simpa using this
 ·simpa using YcX.mp h7 y hy
noncomputable def jeF (T:Tab):Nat->List Fun->List Stmt->Bool
 |_,[],[]=>true
 |i,d::ds,st::sts=>scB d.N d.ps (jah st)&&((T.ns.lookup i).isSome||okSs T ⟨d.N,(jah st).names⟩ d.body (jau st))&&jeF T (i+1) ds sts
 |_,_,_=>false
def je3 (T:Tab)(all:List Stmt):Nat->List Fun->List Stmt->Prop
 |_,[],_=>True
 |i,d::ds,st::sts=>(match T.ns.lookup i with
  |none=>unSs T ⟨d.N,(jah st).names⟩ d.body (jau st)=jau st
  |some _=>False)/\je3 T all (i+1) ds sts
 |_,_::_,[]=>False
def jdy {T:Tab}{all:List Stmt}:∀{i:Nat} {ds:List Fun} {sts:List Stmt},jeF T i ds sts=true->je3 T all i ds sts->∀{n:Nat} {d:Fun},ds[n]?=some d->∃st,sts[n]?=some st/\scB d.N d.ps (jah st)=true/\(match T.ns.lookup (i+n)with
  |none=>okSs T ⟨d.N,(jah st).names⟩ d.body (jau st)=true/\unSs T ⟨d.N,(jah st).names⟩ d.body (jau st)=jau st
  |some _=>False)
 |_,[],_,_,_,_,_,e=>by simp at e
 |_,_::_,[],h,_,_,_,_=>by unfold jeF at h;cases h
 |i,d::ds,st::sts,h,g,n,d',e=>by
  unfold jeF at h;unfold je3 at g;simp only[YaE]at h;cases n with
  |zero=>
   simp at e;subst e;refine⟨st,rfl,h.1.1,?_⟩;have g1:=g.1;have h1:=h.1.2;rw[Nat.add_zero];cases q:T.ns.lookup i with
   |none=>rw[q]at g1 h1;exact⟨by simpa using h1,g1⟩
   |some z=>rw[q]at g1;exact g1
  |succ n=>
   obtain⟨st',e',q⟩:=jdy h.2 g.2 (n:=n) (by simpa using e)
   rw[show i+1+n=i+(n+1) by omega]at q
   exact⟨st',by simpa using e',q⟩
noncomputable def jf7 (K:Yac)(v:Value)(P:Addr):Bool:=match v with
 |.ref c=>(match K.lookup c with
  |some ⟨.type t,_,.fields vs,_⟩=>t == "code" && (match (vs[11]?:Option Value)with|some (.ref Q)=>Q==P|_=>false)&&(match vs.getD 18 .none with|.str _ _=>true|_=>false)&&(match vs.getD 7 .none with|.int _ _=>true|_=>false)
   && (match vs.getD 9 .none with|.bool _=>true|_=>false)&&(match vs.getD 10 .none with|.int _ _=>true|_=>false)&&c != P
  |_=>false)
 |_=>false
section
variable {T:Tab}{P:Program}{w:World}{K:Yac}{mg:Str->Option Value}{base:Heap}
def jhx {j n:Nat}{f:Addr}{fd:Ybu}{ps:List Str}{t:List U->Gp->K1->KX->Prop}(hz:∀us G Q E,¬t us G Q E):FnOk P w K mg base (CX1 P w) j f fd ps (lSp K t):=
 ⟨λvs H Q E ⟨_,_,_,_,_,_,h,_⟩=>(hz _ _ _ _ h).elim,λA outer s H args us vs Q E _ _ _ _ ⟨_,_,_,_,_,_,h,_⟩=>(hz _ _ _ _ h).elim⟩
def jgv {k n:Nat}{d:Fun}{st:Stmt}{f:Addr}{fd:Ybu}(F:L2.Fun K d.name d.name st f fd)(h1:scB d.N d.ps (jah st)=true)(h2:okSs T ⟨d.N,(jah st).names⟩ d.body (jau st)=true)(h3:unSs T ⟨d.N,(jah st).names⟩ d.body (jau st)=jau st)
  (pf:PF T P w K mg base k) (hd:T.funs[n]?=some d):FnOk P w K mg base (CX1 P w) (k+3) f fd d.ps (lSp K (jab T (k+1) n)):=by
 have S:=jnb h1;refine F.okX S (λvs H Q E ⟨us,G,Q',E',r,hG,h,lv,lx⟩=>by rw[<- r.length];exact(jiQ (jkF hd) h).1) λcdv A outer s H vs Q E hr hsp=>?_
 obtain⟨us,G,Q',E',r,hG,h,lv,lx⟩:=hsp;obtain⟨hl,h⟩:=jiQ (jkF hd) h;refine⟨_,jno h3 (sSs d.body (k:=k) (c:=⟨d.N,(jah st).names⟩) (hs:=jau st) ⟨⟨rfl,S.nd,λx z=>eq_of_beq z,λx z=>⟨eq_of_beq z,rfl⟩,λx z=>.inr (eq_of_beq z),λx z=>eq_of_beq z,hr.mono (by omega),rfl,jqb,pf.blt,pf.fns,pf.gls,hr,pf.cls,pf.mgK⟩,rfl,S.kind,rfl,rfl⟩ h2),?_⟩
 exact⟨_,_,G,jhK r,hG,h,⟨λς' σ' G' H' a b c q=>lv .non .non G' H' rfl b c q,λw v G' H' a b c q=>lv w v G' H' a b c q,λpins e s' x ς' σ' G' H' I sr xat hr' f q=>by obtain⟨ea,C0,dx,rfl,l,xd⟩:=xat;exact CX1.out1 I l (lx x G' H' C0 dx xd hr' f q)⟩⟩
abbrev Dyn (T:Tab)(K:Yac)(mg:Str->Option Value)(sts:List Stmt):Prop:=∀(n:Nat) (d:Fun) (st:Stmt),T.funs[n]?=some d->sts[n]?=some st->∃(f:Addr) (fd:Ybu),L2.Fun K d.name d.name st f fd/\mg d.name=some (.ref f)/\Binds K fd d.ps []/\∀z,T.ns.lookup n=some z->jf7 K fd.code z.P=true
def jlk {sts:List Stmt}(hst:jeF T 0 T.funs sts=true)(heq:je3 T sts 0 T.funs sts)(dyn:Dyn T K mg sts)(hU:∀t∈tabs,∀t'∈tabs,t.1=t'.1->t=t')(hKb:K.In base)(hB:BmAt mg base)
  (hb:∀x∈jcJ,mg x=none) (hg:∀(n:Nat) (x:Str) (u:U),T.gn[n]?=some x->T.gs[n]?=some u->∃v w,mg x=some w/\RelV v w/\∀H,RU K H u v) (hc:∀n∈T.cs,1<=n->∃C,XCls K (gK K) (clsN n) (clsF n) C) (hm:∀x v,gK K x=some v->mg x=some v) :
  ∀(k:Nat),PF T P w K mg base k:=by
 intro k
 induction k using Nat.strongRecOn with
 |ind k ih=>
  refine⟨hb,λn d hd=>?_,hg,hc,hm⟩;obtain⟨st,e,h1,h2⟩:=jdy hst heq hd;obtain⟨f,fd,F,m,b,hz⟩:=dyn n d st hd e;refine⟨f,fd,?_,m,F.kp,b⟩;rw[YcJ]at h2;cases q:T.ns.lookup n with
  |none=>
   rw[q]at h2;obtain _|k:=k
   ·exact jhx (n:=n) λ_ _ _ _ h=>h
   ·exact jgv F h1 h2.1 h2.2 (ih k (by omega)) hd
  |some z=>rw[q]at h2;exact h2.elim
noncomputable def G0 (a:Addr)(ns:List Int):Gp:=λb=>if b=a then some (.fro (ns.map .int)) else none
def jir {H:Hp}:∀ns:List Int,RUs K H (ns.map .int) (ns.map V.int)
 |[]=>rfl
 |_::r=>⟨_,_,rfl,rfl,jir r⟩
def law_sp {k n:Nat}{H:Hp}{o:Obj}{a:Addr}{ns:List Int}{tb:List Addr}(hT:∀t∈tabs,t.1∈tb)(hO:jka tb H)(fr:H a=some (.frz o (.lst (ns.map V.int))))(h:jab T k n [.loc a] (G0 a ns) (λu _=>u=.bl true) λ_ _=>False) :
  lSp K (jab T k n) [.ref a] H (λv _=>v=.bl true) λ_ _ _=>False:=by
 refine⟨[.loc a],G0 a ns,_,_,⟨_,_,rfl,rfl,rfl⟩,⟨λb mo e=>?_,λt ht=>.inl ?_⟩,h,λw v G' H' r _ _ q=>?_,λ_ _ _ _ _ _ _ _ z=>z.elim⟩
 ·unfold G0 at e;split at e
  ·rename_i z;subst z;cases e;exact⟨o,_,fr,jir ns⟩
  ·cases e
 ·have:=hO t.1;rw[if_pos (hT t ht)]at this;exact this
 ·subst q;exact r
def jhc {sts:List Stmt}{k n:Nat}{d:Fun}{st:Stmt}{f:Addr}{fd:Ybu}(F:L2.Fun K d.name d.name st f fd)(hst:jeF T 0 T.funs sts=true)(heq:je3 T sts 0 T.funs sts)(dyn:Dyn T K mg sts)(hU:∀t∈tabs,∀t'∈tabs,t.1=t'.1->t=t')(hKb:K.In base)(hB:BmAt mg base)
  (hb:∀x∈jcJ,mg x=none) (hg:∀(n:Nat) (x:Str) (u:U),T.gn[n]?=some x->T.gs[n]?=some u->∃v w,mg x=some w/\RelV v w/\∀H,RU K H u v) (hc:∀n∈T.cs,1<=n->∃C,XCls K (gK K) (clsN n) (clsF n) C) (hm:∀x v,gK K x=some v->mg x=some v) (hd:T.funs[n]?=some d) (hs:sts[n]?=some st) (hn:T.ns.lookup n=none) :
  FnOk P w K mg base (CX1 P w) (k+2) f fd d.ps (lSp K (jab T k n)):=by
 cases k with
 |zero=>exact jhx (n:=n) λ_ _ _ _ h=>h
 |succ k=>
  obtain⟨st',e,h1,h2⟩:=jdy hst heq hd;rw[hs]at e;cases e;rw[YcJ,hn]at h2;exact jgv F h1 h2.1 h2.2 (jlk hst heq dyn hU hKb hB hb hg hc hm k) hd
end
section
variable {K:Yac}
def jqD {x:Str}{v:Value}(h:gK K x=some v):Yco K YaT x=some (some v):=by
 unfold gK at h;cases q:Yco K YaT x with
 |none=>rw[q]at h;cases h
 |some o=>rw[q]at h;rw[show o=some v from h]
def jn9 {h:Heap}{mg:Str->Option Value}(X:K.In h)(G:h.Ns YaT mg):∀x v,gK K x=some v->mg x=some v:=λ_ _ e=>YcL X G (jqD e)
end
def jb8 {G:Gp}{a:Addr}{o u:MO}:gup (gup G a o) a u=gup G a u:=by funext b;unfold gup;split<;>rfl
def Sm (f:Addr)(G G':Gp):Prop:=∀b o,b≠f->G b=some o->G' b=some o
def Sa (G G':Gp):Prop:=∀b o,G b=some o->G' b=some o
def Sm.refl {f:Addr}{G:Gp}:Sm f G G:=λ_ _ _ h=>h
def Sa.refl {G:Gp}:Sa G G:=λ_ _ h=>h
def Sm.trans {f:Addr}{G G1 G2:Gp}(a:Sm f G G1)(b:Sm f G1 G2):Sm f G G2:=λc o n h=>b c o n (a c o n h)
def Sa.trans {G G1 G2:Gp}(a:Sa G G1)(b:Sa G1 G2):Sa G G2:=λc o h=>b c o (a c o h)
def Sa.sm {f:Addr}{G G':Gp}(a:Sa G G'):Sm f G G':=λc o _ h=>a c o h
def Sa.new {G:Gp}{p:Addr}{o:MO}(h:G p=none):Sa G (gup G p o):=λc u e=>by
 rw[jbx (λz=>by rw[z,h]at e;cases e)];exact e
def Sm.put {G:Gp}{f:Addr}{o:MO}:Sm f G (gup G f o):=λc u n e=>by rw[jbx n];exact e
def ja0 {G:Gp}{a p:Addr}{o:MO}(h:G a=some o)(hp:G p=none):p≠a:=λz=>by rw[z,h]at hp;cases hp
section
variable {G G':Gp}{p:Addr}{o:MO}
def New.at (n:New G p o G'):G' p=some o:=by rw[n.eq];exact jag
def New.sa (n:New G p o G'):Sa G G':=by rw[n.eq];exact Sa.new n.no
def Put.at (n:Put G p o G'):G' p=some o:=by rw[n.eq];exact jag
def Put.sm (n:Put G p o G'):Sm p G G':=by rw[n.eq];exact Sm.put
end
mutual
noncomputable def pd:U->PyData
 |.non=>.none
 |.bl b=>.bool b
 |.int i=>.int i
 |.str x=>.str x
 |.tup us=>.tuple (pds us)
 |.loc _=>.none
 |.fn _=>.none
 |.ty _=>.none
 |.exc _ _=>.none
 |.own _=>.none
 |.clo _ _=>.none
noncomputable def pds:List U->List PyData
 |[]=>[]
 |u::us=>pd u::pds us
end
mutual
noncomputable def bare:U->Bool
 |.non=>true
 |.bl _=>true
 |.int _=>true
 |.str _=>true
 |.tup us=>bares us
 |.loc _=>false
 |.fn _=>false
 |.ty _=>false
 |.exc _ _=>false
 |.own _=>false
 |.clo _ _=>false
noncomputable def bares:List U->Bool
 |[]=>true
 |u::us=>bare u&&bares us
end
mutual
def joK {G:Gp}:∀{u:U},bare u=true->DU G u (pd u)
 |.non,_=>.non
 |.bl b,_=>.bl b
 |.int i,_=>.int i
 |.str x,_=>.str x
 |.tup _,h=>.tup (jgV h)
 |.loc _,h=>nomatch h
 |.fn _,h=>nomatch h
 |.ty _,h=>nomatch h
 |.exc _ _,h=>nomatch h
 |.own _,h=>nomatch h
 |.clo _ _,h=>nomatch h
def jgV {G:Gp}:∀{us:List U},bares us=true->DUs G us (pds us)
 |[],_=>.nil
 |_::_,h=>.cons (joK (ba h).1) (jgV (ba h).2)
end
def jg2:∀{us:List U},(∀u∈us,bare u=true)->bares us=true
 |[],_=>rfl
 |u::us,h=>by
  show(bare u&&bares us)=true;rw[h u Yat,jg2 λv hv=>h v (Yai _ hv)];rfl
def jkn:∀us:List U,pds us=us.map pd
 |[]=>rfl
 |u::us=>by
  show pd u::pds us=_;rw[jkn us];rfl
def jnf {G:Gp}{u:U}{Q:K1}(h:bare u=true)(f:Fits 16000000 60 (pd u))(q:Q (.str (pd u).shown) G):jfO [u] G Q:=⟨pd u,joK h,f,q⟩
structure Sml (n:Nat)(u:U):Prop where
 b:bare u=true
 l:(pd u).canLay0=true
 d:(pd u).depth<=n
def Sml.mono {n m:Nat}{u:U}(h:Sml n u)(e:n<=m):Sml m u:=⟨h.b,h.l,Yah h.d e⟩
def Sml.int (i:Int):Sml 0 (.int i):=⟨rfl,rfl,Yaf _⟩
def Sml.str {x:Str}(h:∀c∈x.cps.toList,c<128):Sml 0 (.str x):=⟨rfl,by
 show x.cps.all (λc=>decide (c<0x110000))=true;rw[<- Array.all_toList,YcX];exact λc hc=>by simpa using Yde (h c hc) (by decide),Yaf _⟩
def smls {n:Nat}:∀{us:List U},(∀u∈us,Sml n u)->bares us=true/\YcI (pds us)=true/\Ybl (pds us)<=n
 |[],_=>⟨rfl,rfl,Ybb _⟩
 |u::us,h=>by
  obtain⟨h1,h2,h3⟩:=smls λv hv=>h v (Yai _ hv);have hu:=h u Yat;refine⟨?_,?_,?_⟩
  ·show(bare u&&bares us)=true;rw[hu.b,h1];rfl
  ·show((pd u).canLay0&&YcI (pds us))=true;rw[hu.l,h2];rfl
  ·show max (pd u).depth (Ybl (pds us))<=n;exact Nat.max_le.mpr ⟨hu.d,h3⟩
def Sml.tup {n:Nat}{us:List U}(h:∀u∈us,Sml n u):Sml (n+1) (.tup us):=let ⟨h1,h2,h3⟩:=smls h;⟨h1,h2,Yd3 h3⟩
def Sml.small {n:Nat}{u:U}(h:Sml n u)(hn:n<=100):Small (pd u):=⟨h.l,Yah h.d hn⟩
def joB {G:Gp}{n:Nat}{a b:Addr}{us:List U}{k:Bool->Prop}(ga:G a=some (.lst us))(gb:G b=some (.lst []))(h:∀u∈us,Sml n u)(hn:n<100)(q:k us.isEmpty):eqU (.loc a) (.loc b) G k:=by
 obtain⟨h1,h2,h3⟩:=smls h;have la:lsG G a=some us:=by unfold lsG;rw[ga]
 have lb:lsG G b=some []:=by unfold lsG;rw[gb]
 refine⟨.list (pds us),.list [],.lst la (jgV h1),.lst lb .nil,⟨h2,?_⟩,⟨rfl,by decide⟩,?_⟩
 ·show Ybl (pds us)+1<=100;omega
 ·have e:YaI (.list (pds us)) (.list [])=us.isEmpty:=by
   show YbQ (pds us) []=_;rw[jhp];cases us<;>rfl
  rw[e];exact q
structure Ft (n k:Nat)(u:U):Prop where
 b:bare u=true
 f:Fits n k (pd u)
def Ft.mono {n n' k k':Nat}{u:U}(h:Ft n k u)(h1:n<=n')(h2:k<=k'):Ft n' k' u:=⟨h.b,h.f.mono h1 h2⟩
def Ft.int {i:Int}(h:i.natAbs<2 ^ 1000):Ft 1921 0 (.int i):=⟨rfl,Fits.int h⟩
def Ft.str {x:Str}{m:Nat}(h:x.length<=m)(hc:∀c∈x.cps.toList,c<128):Ft (10*m+2) 0 (.str x):=⟨rfl,Fits.str h λc hc'=>Yde (hc c hc') (by decide)⟩
def Ft.tup {n k m N:Nat}{us:List U}(hl:us.length<=m)(h:∀u∈us,Ft n k u)(hN:m*(n+2)+3<=N):Ft N (k+1) (.tup us):=by
 refine⟨jg2 λu hu=>(h u hu).b,?_⟩;show Fits N (k+1) (.tuple (pds us));rw[jkn];refine Fits.tupLe (m:=m) (n:=n) (by rw[Yaa];exact hl) (λd hd=>?_) hN
 obtain⟨u,hu,rfl⟩:=List.mem_map.mp hd;exact(h u hu).f
def jng {G:Gp}{n k:Nat}{u:U}{Q:K1}(h:Ft n k u)(h1:n<=16000000)(h2:k<=60)(q:Q (.str (pd u).shown) G):jfO [u] G Q:=jnf h.b (h.f.mono h1 h2) q
section
variable {ok:Gp->Prop}
def jar {b:U->Sg->Gp->(Sg->Gp->Prop)->Prop}{k:Sg->Gp->Prop}:∀{xs:List U} (I:Nat->Sg->Gp->Prop) (_:∀ς G,I xs.length ς G->ok G/\k ς G)
  (_:∀i x ς G (K:Sg->Gp->Prop),xs[i]?=some x->I i ς G->(∀ς' G',I (i+1) ς' G'->K ς' G')->ok G/\b x ς G K) {ς:Sg} {G:Gp} (_:I 0 ς G),forL ok b xs ς G k
 |[],_,h0,_,_,_,h=>h0 _ _ h
 |x::_,I,h0,h1,_,_,h=>h1 0 x _ _ _ rfl h λ_ _ h'=>jar (λi=>I (i+1)) h0 (λi y ς G K e hi hk=>h1 (i+1) y ς G K e hi hk) h'
def jak {b:U->Gp->(Option U->Gp->Prop)->Prop}{k:List U->Gp->Prop}:∀{xs:List U} (I:Nat->List U->Gp->Prop) (_:∀acc G,I xs.length acc G->ok G/\k acc G)
  (_:∀i x acc G (K:Option U->Gp->Prop),xs[i]?=some x->I i acc G->(∀u G',I (i+1) (acc++[u]) G'->K (some u) G')->(∀G',I (i+1) acc G'->K none G')->ok G/\b x G K) {acc:List U} {G:Gp} (_:I 0 acc G),jea ok b xs acc G k
 |[],_,h0,_,_,_,h=>h0 _ _ h
 |x::_,I,h0,h1,_,_,h=>h1 0 x _ _ _ rfl h (λ_ _ h'=>jak (λi=>I (i+1)) h0 (λi y a G K e hi hk hn=>h1 (i+1) y a G K e hi hk hn) h') (λ_ h'=>jak (λi=>I (i+1)) h0 (λi y a G K e hi hk hn=>h1 (i+1) y a G K e hi hk hn) h')
def jaD {b:U->Gp->(Option U->Gp->Prop)->Prop}{k:List U->Gp->Prop}{G:Gp}(f:U->U)(hok:ok G):∀{xs:List U} (_:∀x∈xs,∀K:Option U->Gp->Prop,K (some (f x)) G->b x G K) {acc:List U} (_:k (acc++xs.map f) G),jea ok b xs acc G k
 |[],_,acc,q=>⟨hok,by simpa using q⟩
 |x::xs,hb,acc,q=>⟨hok,hb x Yat _ (jaD f hok (λy hy=>hb y (Yai _ hy)) (by simpa using q))⟩
end
def jal (i:Int)(n:Nat):(rngU i n).length=n:=by unfold rngU;simp
def jaI {n i:Nat}{x:U}(h:(rngU 0 n)[i]?=some x):i<n/\x=.int i:=by
 unfold rngU at h;rw[Yal]at h;by_cases hi:i<n
 ·rw[Yfi hi]at h;exact⟨hi,by simpa using h.symm⟩
 ·rw[Ycv (by simpa using hi)]at h
  cases h
def jbT {α β:Type}(f:α->β)(l:List α)(i:Int):atI (l.map f) i=(atI l i).map f:=by
 unfold atI;rw[Yaa];cases ixN l.length i with
 |none=>rfl
 |some j=>simp
section
variable {α:Type}
def jaG (a:α)(l:List α):atI (a::l) 0=some a:=jat (xs:=a::l) (j:=0) rfl
def jay (a b:α)(l:List α):atI (a::b::l) 1=some b:=jat (xs:=a::b::l) (j:=1) rfl
def jqN (a b c:α)(l:List α):atI (a::b::c::l) 2=some c:=jat (xs:=a::b::c::l) (j:=2) rfl
def jqM (a b c d:α)(l:List α):atI (a::b::c::d::l) 3=some d:=jat (xs:=a::b::c::d::l) (j:=3) rfl
def jfH {l:List α}{r:Int}(h0:0<=r)(h1:r<l.length):∃x,x∈l/\atI l r=some x:=by
 obtain⟨j,rfl⟩:=YaB h0;have hj:j<l.length:=by omega
 exact⟨l[j],Ybo hj,jat (Yab hj)⟩
end
noncomputable def fdU (c:Addr)(a l t:Int):List (Key×U):=[(.inr "cells",.loc c),(.inr "at",.int a),(.inr "left",.int l),(.inr "turn",.int t)]
structure Fd (G:Gp)(f c:Addr):Prop where
 ex:∃(ns:List Int) (a l t:Int),G f=some (.dK (fdU c a l t))/\G c=some (.lst (ns.map .int))/\ns≠[]
section
def k_ca:¬((Sum.inr ("cells" : Str):Key)=Sum.inr ("at" : Str)):=by decide +kernel
def k_cl:¬((Sum.inr ("cells" : Str):Key)=Sum.inr ("left" : Str)):=by decide +kernel
def k_ct:¬((Sum.inr ("cells" : Str):Key)=Sum.inr ("turn" : Str)):=by decide +kernel
def k_al:¬((Sum.inr ("at" : Str):Key)=Sum.inr ("left" : Str)):=by decide +kernel
def k_at:¬((Sum.inr ("at" : Str):Key)=Sum.inr ("turn" : Str)):=by decide +kernel
def k_lt:¬((Sum.inr ("left" : Str):Key)=Sum.inr ("turn" : Str)):=by decide +kernel
variable {c:Addr}{a l t:Int}
def jml:dGet (fdU c a l t) (.inr "cells")=some (.loc c):=by simp[dGet,fdU]
def g_at:dGet (fdU c a l t) (.inr "at")=some (.int a):=by simp[dGet,fdU,k_ca,-Ycf]
def jow:dGet (fdU c a l t) (.inr "left")=some (.int l):=by simp[dGet,fdU,k_cl,k_al,-Ycf]
def jkD:dGet (fdU c a l t) (.inr "turn")=some (.int t):=by simp[dGet,fdU,k_ct,k_at,k_lt,-Ycf]
def jko (x:Int):dPut (fdU c a l t) (.inr "turn") (.int x)=fdU c a l x:=by simp[dPut,fdU,k_ct,k_at,k_lt,-Ycf]
def p_at (x:Int):dPut (fdU c a l t) (.inr "at") (.int x)=fdU c x l t:=by simp[dPut,fdU,k_ca,Ne.symm k_al,Ne.symm k_at,-Ycf]
def jnJ (x:Int):dPut (fdU c a l t) (.inr "left") (.int x)=fdU c a x t:=by simp[dPut,fdU,k_cl,k_al,Ne.symm k_lt,-Ycf]
def joa {p:Addr}:jd5 [((Sum.inr ("cells" : Str):Key),U.loc p),(.inr "at",.int 0),(.inr "left",.int 0),(.inr "turn",.int 0)]=fdU p 0 0 0:=by
 simp[jd5,dPut,fdU,k_ca,k_cl,k_ct,k_al,k_at,k_lt,-Ycf]
def jgT:(fdU c a l t).length<Yak:=by show 4<Yak;decide
section
variable {G G':Gp}
def Fd.put {f c:Addr}{ns:List Int}{kvs:List (Key×U)}{a l t:Int}(p:Put G f (.dK (fdU c a l t)) G')(h:G f=some (.dK kvs))(hc:G c=some (.lst (ns.map .int)))(hn:ns≠[]):Fd G' f c:=
 ⟨ns,a,l,t,p.at,p.sm _ _ (λz=>by rw[z,h]at hc;cases hc) hc,hn⟩
def Fd.sa {f c:Addr}(h:Fd G f c)(s:Sa G G'):Fd G' f c:=let ⟨ns,a,l,t,h1,h2,h3⟩:=h.ex;⟨ns,a,l,t,s _ _ h1,s _ _ h2,h3⟩
def Fd.new {f c p:Addr}{o:MO}(h:Fd G f c)(n:New G p o G'):Fd G' f c:=h.sa n.sa
def Fd.away {f c p:Addr}{o:MO}(h:Fd G f c)(n:New G p o G'):p≠f/\p≠c:=by
 obtain⟨ns,a,l,t,h1,h2,_⟩:=h.ex;exact⟨ja0 h1 n.no,ja0 h2 n.no⟩
def Fd.off {f c p:Addr}{o:MO}(h:Fd G f c)(hp:p≠f/\p≠c)(w:Put G p o G'):Fd G' f c:=let ⟨ns,a,l,t,h1,h2,h3⟩:=h.ex;⟨ns,a,l,t,w.sm _ _ (Ne.symm hp.1) h1,w.sm _ _ (Ne.symm hp.2) h2,h3⟩
end
def Sm.wr {f p:Addr}{G G1 G2 G3:Gp}{o:MO}(s1:Sm f G G1)(n:G1 p=none)(s2:Sm f G G2)(w:Put G2 p o G3):Sm f G G3:=λb u hb e=>w.sm b u (λz=>by
 have:=s1 _ _ hb e;rw[z,n]at this;cases this) (s2 b u hb e)
def Sm.nw {f p:Addr}{G G1 G2:Gp}{o:MO}(s:Sm f G G1)(n:New G1 p o G2):Sm f G G2:=s.trans n.sa.sm
end
section
variable {gs:List U}{Δ:Cl}
def D_v {ς:Sg}{G:Gp}{Q:K1}{X:KX}(i:Nat):(den gs Δ (.v i)).1 ς G Q X=(slot ς i λu=>Q u G):=rfl
def T_v {ς:Sg}{G:Gp}{R:Bool->Gp->Prop}{X:KX}(i:Nat):(den gs Δ (.v i)).2 ς G R X=(den gs Δ (.v i)).1 ς G (λx G1=>truU x G1 λb=>R b G1) X:=rfl
def jrG {ς:Sg}{G:Gp}{Q:K1}{X:KX}: (den gs Δ (.non)).1 ς G Q X=(Q .non G):=rfl
def D_bl {ς:Sg}{G:Gp}{Q:K1}{X:KX}(b:Bool):(den gs Δ (.bl b)).1 ς G Q X=(Q (.bl b) G):=rfl
def jrO {ς:Sg}{G:Gp}{Q:K1}{X:KX}(i:Int):(den gs Δ (.int i)).1 ς G Q X=(Q (.int i) G):=rfl
def jrD {ς:Sg}{G:Gp}{Q:K1}{X:KX}(x:Str):(den gs Δ (.str x)).1 ς G Q X=(Q (.str x) G):=rfl
def D_g {ς:Sg}{G:Gp}{Q:K1}{X:KX}(n:Nat):(den gs Δ (.g n)).1 ς G Q X=(glU gs n λu=>Q u G):=rfl
def T_g {ς:Sg}{G:Gp}{R:Bool->Gp->Prop}{X:KX}(n:Nat):(den gs Δ (.g n)).2 ς G R X=(den gs Δ (.g n)).1 ς G (λx G1=>truU x G1 λb=>R b G1) X:=rfl
def D_ty {ς:Sg}{G:Gp}{Q:K1}{X:KX}(n:String):(den gs Δ (.ty n)).1 ς G Q X=(Q (.ty n) G):=rfl
def T_ty {ς:Sg}{G:Gp}{R:Bool->Gp->Prop}{X:KX}(n:String):(den gs Δ (.ty n)).2 ς G R X=(den gs Δ (.ty n)).1 ς G (λx G1=>truU x G1 λb=>R b G1) X:=rfl
def jrU {ς:Sg}{G:Gp}{Q:K1}{X:KX}(o:YbU)(a b:E):(den gs Δ (.bin o a b)).1 ς G Q X=((den gs Δ a).1 ς G (λx G1=>(den gs Δ b).1 ς G1 (λy G2=>binU o x y G2 Q) X) X):=rfl
def jri {ς:Sg}{G:Gp}{R:Bool->Gp->Prop}{X:KX}(o:YbU)(a b:E):(den gs Δ (.bin o a b)).2 ς G R X=(den gs Δ (.bin o a b)).1 ς G (λx G1=>truU x G1 λb=>R b G1) X:=rfl
def jrH {ς:Sg}{G:Gp}{Q:K1}{X:KX}(a:E):(den gs Δ (.neg a)).1 ς G Q X=((den gs Δ a).1 ς G (λx G1=>negU x G1 Q) X):=rfl
def jrS {ς:Sg}{G:Gp}{Q:K1}{X:KX}(o:CmpOp)(a b:E):(den gs Δ (.cmp o a b)).1 ς G Q X=((den gs Δ a).1 ς G (λx G1=>(den gs Δ b).1 ς G1 (λy G2=>cmpU o x y G2 λc=>Q (.bl c) G2) X) X):=rfl
def jrg {ς:Sg}{G:Gp}{R:Bool->Gp->Prop}{X:KX}(o:CmpOp)(a b:E):(den gs Δ (.cmp o a b)).2 ς G R X=(den gs Δ (.cmp o a b)).1 ς G (λx G1=>truU x G1 λb=>R b G1) X:=rfl
def jpj {ς:Sg}{G:Gp}{Q:K1}{X:KX}(o p:CmpOp)(a b c:E):(den gs Δ (.cmp2 o p a b c)).1 ς G Q X=((den gs Δ a).1 ς G (λx G1=>(den gs Δ b).1 ς G1 (λy G2=>cmpU o x y G2 λt=>if t=true then (den gs Δ c).1 ς G2 (λz G3=>cmpU p y z G3 λt'=>Q (.bl t') G3) X else Q (.bl false) G2) X) X):=rfl
def jo3 {ς:Sg}{G:Gp}{R:Bool->Gp->Prop}{X:KX}(o p:CmpOp)(a b c:E):(den gs Δ (.cmp2 o p a b c)).2 ς G R X=(den gs Δ (.cmp2 o p a b c)).1 ς G (λx G1=>truU x G1 λb=>R b G1) X:=rfl
def jrC {ς:Sg}{G:Gp}{Q:K1}{X:KX}(es:Es):(den gs Δ (.tup es)).1 ς G Q X=(ja1 gs Δ es ς G (λus G1=>us.length<=Yak/\Q (.tup us) G1) X):=rfl
def jrL {ς:Sg}{G:Gp}{Q:K1}{X:KX}(es:Es):(den gs Δ (.lst es)).1 ς G Q X=(ja1 gs Δ es ς G (λus G1=>us.length<=Yak/\newO G1 (.lst us) Q) X):=rfl
def jrR {ς:Sg}{G:Gp}{Q:K1}{X:KX}(es:Es):(den gs Δ (.dic es)).1 ς G Q X=(denD gs Δ es ς G (λkvs G1=>kvs.length<=15/\newO G1 (.dK (jd5 kvs)) Q) X):=rfl
def D_ix {ς:Sg}{G:Gp}{Q:K1}{X:KX}(a b:E):(den gs Δ (.ix a b)).1 ς G Q X=((den gs Δ a).1 ς G (λx G1=>(den gs Δ b).1 ς G1 (λy G2=>ixU x y G2 Q) X) X):=rfl
def T_ix {ς:Sg}{G:Gp}{R:Bool->Gp->Prop}{X:KX}(a b:E):(den gs Δ (.ix a b)).2 ς G R X=(den gs Δ (.ix a b)).1 ς G (λx G1=>truU x G1 λb=>R b G1) X:=rfl
def D_sl {ς:Sg}{G:Gp}{Q:K1}{X:KX}(a:E)(lo hi:Eo):(den gs Δ (.sl a lo hi)).1 ς G Q X=((den gs Δ a).1 ς G (λx G1=>denO gs Δ lo ς G1 (λl G2=>denO gs Δ hi ς G2 (λh G3=>slU x l h G3 Q) X) X) X):=rfl
def jrE {ς:Sg}{G:Gp}{Q:K1}{X:KX}(a b:E):(den gs Δ (.rev a b)).1 ς G Q X=((den gs Δ a).1 ς G (λx G1=>(den gs Δ b).1 ς G1 (λy G2=>revU x y G2 Q) X) X):=rfl
def jpk {ς:Sg}{G:Gp}{Q:K1}{X:KX}(n:Nat)(es:Es):(den gs Δ (.call n es)).1 ς G Q X=(ja1 gs Δ es ς G (λus G1=>Δ n us G1 Q X) X):=rfl
def jo4 {ς:Sg}{G:Gp}{R:Bool->Gp->Prop}{X:KX}(n:Nat)(es:Es):(den gs Δ (.call n es)).2 ς G R X=(den gs Δ (.call n es)).1 ς G (λx G1=>truU x G1 λb=>R b G1) X:=rfl
def jrT {ς:Sg}{G:Gp}{Q:K1}{X:KX}(b:Blt)(es:Es):(den gs Δ (.blt b es)).1 ς G Q X=(ja1 gs Δ es ς G (λus G1=>bltU b us G1 Q) X):=rfl
def jrh {ς:Sg}{G:Gp}{R:Bool->Gp->Prop}{X:KX}(b:Blt)(es:Es):(den gs Δ (.blt b es)).2 ς G R X=(den gs Δ (.blt b es)).1 ς G (λx G1=>truU x G1 λb=>R b G1) X:=rfl
def jpi {ς:Sg}{G:Gp}{Q:K1}{X:KX}(m:Mth)(o:E)(es:Es):(den gs Δ (.meth m o es)).1 ς G Q X=((den gs Δ o).1 ς G (λx G1=>match mtU m x G1 with|some _=>ja1 gs Δ es ς G1 (λus G2=>jaL m x us G2 Q) X|none=>False) X):=rfl
def D_lc {ς:Sg}{G:Gp}{Q:K1}{X:KX}(pick:List (Option Nat))(t:Tg)(it:It)(ifs:Es)(e:E):(den gs Δ (.lc pick t it ifs e)).1 ς G Q X=(denI gs Δ it ς G (λxs ok G1=>xs.length<=Yak/\jea ok (λx G2 k=>tgU t x (jb5 pick ς) λτ=>denC gs Δ ifs τ G2 (λb G3=>if b=true then (den gs Δ e).1 τ G3 (λu G4=>k (some u) G4) (λ_ _=>False) else k none G3)) xs [] G1 λus G5=>newO G5 (.lst us) Q) X):=rfl
def jrN {ς:Sg}{G:Gp}{Q:K1}{X:KX}(pick:List (Option Nat))(t:Tg)(it:It)(ifs:Es)(t2:Tg)(it2:It)(ifs2:Es)(e:E):(den gs Δ (.lc2 pick t it ifs t2 it2 ifs2 e)).1 ς G Q X=(denI gs Δ it ς G (λxs ok G1=>jmA ok (λx acc G2 k=>tgU t x (jb5 pick ς) λτ=>denC gs Δ ifs τ G2 (λb G3=>if b=true then denI gs Δ it2 τ G3 (λys ok2 G4=>acc.length+ys.length<=Yak/\jea ok2 (λy G5 k5=>tgU t2 y τ λτ'=>denC gs Δ ifs2 τ' G5 (λb2 G6=>if b2=true then (den gs Δ e).1 τ' G6 (λu G7=>k5 (some u) G7) (λ_ _=>False) else k5 none G6)) ys acc G4 k) (λ_ _=>False) else k acc G3)) xs [] G1 λus G5=>newO G5 (.lst us) Q) X):=rfl
def jrd {ς:Sg}{G:Gp}{R:Bool->Gp->Prop}{X:KX}(pick:List (Option Nat))(t:Tg)(it:It)(ifs:Es)(t2:Tg)(it2:It)(ifs2:Es)(e:E):(den gs Δ (.lc2 pick t it ifs t2 it2 ifs2 e)).2 ς G R X=(den gs Δ (.lc2 pick t it ifs t2 it2 ifs2 e)).1 ς G (λx G1=>truU x G1 λb=>R b G1) X:=rfl
def jrQ {ς:Sg}{G:Gp}{Q:K1}{X:KX}(es:Es):(den gs Δ (.fst es)).1 ς G Q X=(denF gs Δ es ς G (λzs G1=>Q (.str (L2.cats Ye5 zs)) G1) X):=rfl
def jrf {ς:Sg}{G:Gp}{R:Bool->Gp->Prop}{X:KX}(es:Es):(den gs Δ (.fst es)).2 ς G R X=(den gs Δ (.fst es)).1 ς G (λx G1=>truU x G1 λb=>R b G1) X:=rfl
def jrM {ς:Sg}{G:Gp}{Q:K1}{X:KX}(e:E)(i:Nat)(y a b:Str)(es:Es):(den gs Δ (.lrp e i y a b es)).1 ς G Q X=((den gs Δ e).1 ς G (λx G1=>slot ς i λu=>repU y b u λz w=>ja1 gs Δ es ς G1 (λus G2=>(x::.str z::.str w::us).length<=Yak/\newO G2 (.lst (x::.str z::.str w::us)) Q) X) X):=rfl
def jrc {ς:Sg}{G:Gp}{R:Bool->Gp->Prop}{X:KX}(e:E)(i:Nat)(y a b:Str)(es:Es):(den gs Δ (.lrp e i y a b es)).2 ς G R X=(den gs Δ (.lrp e i y a b es)).1 ς G (λx G1=>truU x G1 λb=>R b G1) X:=rfl
def jrK {ς:Sg}{G:Gp}{Q:K1}{X:KX}(e:E):(den gs Δ (.mkD e)).1 ς G Q X=((den gs Δ e).1 ς G (λx G1=>mkDU x G1 Q) X):=rfl
def jrb {ς:Sg}{G:Gp}{R:Bool->Gp->Prop}{X:KX}(e:E):(den gs Δ (.mkD e)).2 ς G R X=(den gs Δ (.mkD e)).1 ς G (λx G1=>truU x G1 λb=>R b G1) X:=rfl
def jrJ {ς:Sg}{G:Gp}{Q:K1}{X:KX}(e:E):(den gs Δ (.mkL e)).1 ς G Q X=((den gs Δ e).1 ς G (λx G1=>itU x G1 λxs _=>newO G1 (.lst xs) Q) X):=rfl
def jrI {ς:Sg}{G:Gp}{Q:K1}{X:KX}(e:E):(den gs Δ (.mkT e)).1 ς G Q X=((den gs Δ e).1 ς G (λx G1=>itU x G1 λxs _=>Q (.tup xs) G1) X):=rfl
def jrF {ς:Sg}{G:Gp}{Q:K1}{X:KX}(a:E):(den gs Δ (.not a)).1 ς G Q X=((den gs Δ a).1 ς G (λx G1=>truU x G1 λb=>Q (.bl (!b)) G1) X):=rfl
def jra {ς:Sg}{G:Gp}{R:Bool->Gp->Prop}{X:KX}(a:E):(den gs Δ (.not a)).2 ς G R X=((den gs Δ a).2 ς G (λb G1=>R (!b) G1) X):=rfl
def jrP {ς:Sg}{G:Gp}{Q:K1}{X:KX}(c a b:E):(den gs Δ (.ife c a b)).1 ς G Q X=((den gs Δ c).2 ς G (λt G1=>if t=true then (den gs Δ a).1 ς G1 Q X else (den gs Δ b).1 ς G1 Q X) X):=rfl
def jre {ς:Sg}{G:Gp}{R:Bool->Gp->Prop}{X:KX}(c a b:E):(den gs Δ (.ife c a b)).2 ς G R X=((den gs Δ c).2 ς G (λt G1=>if t=true then (den gs Δ a).2 ς G1 R X else (den gs Δ b).2 ς G1 R X) X):=rfl
def jpl {k:Bool}{a:E}:den gs Δ (.bop k a .nil)=den gs Δ a:=rfl
def jrV {ς:Sg}{G:Gp}{Q:K1}{X:KX}{a b:E}{es:Es}:(den gs Δ (.bop true a (.cons b es))).1 ς G Q X=(den gs Δ a).1 ς G (λx G1=>truU x G1 λc=>if c=true then (den gs Δ (.bop true b es)).1 ς G1 Q X else Q x G1) X:=rfl
def D_or {ς:Sg}{G:Gp}{Q:K1}{X:KX}{a b:E}{es:Es}:(den gs Δ (.bop false a (.cons b es))).1 ς G Q X=(den gs Δ a).1 ς G (λx G1=>truU x G1 λc=>if c=true then Q x G1 else (den gs Δ (.bop false b es)).1 ς G1 Q X) X:=rfl
def jrj {ς:Sg}{G:Gp}{R:Bool->Gp->Prop}{X:KX}{a b:E}{es:Es}:(den gs Δ (.bop true a (.cons b es))).2 ς G R X=(den gs Δ a).2 ς G (λc G1=>if c=true then (den gs Δ (.bop true b es)).2 ς G1 R X else R false G1) X:=rfl
def T_or {ς:Sg}{G:Gp}{R:Bool->Gp->Prop}{X:KX}{a b:E}{es:Es}:(den gs Δ (.bop false a (.cons b es))).2 ς G R X=(den gs Δ a).2 ς G (λc G1=>if c=true then R true G1 else (den gs Δ (.bop false b es)).2 ς G1 R X) X:=rfl
def O_no {ς:Sg}{G:Gp}{X:KX}{Q:Option Int->Gp->Prop}:denO gs Δ .no ς G Q X=Q none G:=rfl
def O_so {ς:Sg}{G:Gp}{X:KX}{Q:Option Int->Gp->Prop}{e:E}:denO gs Δ (.so e) ς G Q X=(den gs Δ e).1 ς G (λx G1=>match x with|.int i=>Q (some i) G1|_=>False) X:=rfl
def jrZ {ς:Sg}{G:Gp}{X:KX}{Q:List U->Gp->Prop}:ja1 gs Δ .nil ς G Q X=Q [] G:=rfl
def jpo {ς:Sg}{G:Gp}{X:KX}{Q:List U->Gp->Prop}{e:E}{es:Es}:ja1 gs Δ (.cons e es) ς G Q X=(den gs Δ e).1 ς G (λx G1=>ja1 gs Δ es ς G1 (λxs G2=>Q (x::xs) G2) X) X:=rfl
def jrX {ς:Sg}{G:Gp}{Q:Bool->Gp->Prop}:denC gs Δ .nil ς G Q=Q true G:=rfl
def jpm {ς:Sg}{G:Gp}{Q:Bool->Gp->Prop}{e:E}{es:Es}:denC gs Δ (.cons e es) ς G Q=(den gs Δ e).2 ς G (λb G1=>if b=true then denC gs Δ es ς G1 Q else Q false G1) (λ_ _=>False):=rfl
def jrq {ς:Sg}{G:Gp}{X:KX}{Q:List (Key×U)->Gp->Prop}:denD gs Δ .nil ς G Q X=Q [] G:=rfl
def jo8 {ς:Sg}{G:Gp}{X:KX}{Q:List (Key×U)->Gp->Prop}{e f:E}{es:Es}:denD gs Δ (.cons e (.cons f es)) ς G Q X=(den gs Δ e).1 ς G (λx G1=>(den gs Δ f).1 ς G1 (λy G2=>match kU x with|some k=>denD gs Δ es ς G2 (λkvs G3=>Q ((k,y)::kvs) G3) X|none=>False) X) X:=rfl
def I_e {ς:Sg}{G:Gp}{X:KX}{Q:List U->(Gp->Prop)->Gp->Prop}{e:E}:denI gs Δ (.e e) ς G Q X=(den gs Δ e).1 ς G (λx G1=>itU x G1 λxs ok=>Q xs ok G1) X:=rfl
def I_r1 {ς:Sg}{G:Gp}{X:KX}{Q:List U->(Gp->Prop)->Gp->Prop}{e:E}:denI gs Δ (.r1 e) ς G Q X=(den gs Δ e).1 ς G (λx G1=>match x with|.int j=>-(2 ^ 62)<=j/\j<2 ^ 62/\Q (rngU 0 j.toNat) (λ_=>True) G1|_=>False) X:=rfl
def jo9 {ς:Sg}{G:Gp}{X:KX}{Q:List U->(Gp->Prop)->Gp->Prop}{e:E}:denI gs Δ (.enum e) ς G Q X=(den gs Δ e).1 ς G (λx G1=>enI x G1 λxs ok=>Q xs ok G1) X:=rfl
def I_s {ς:Sg}{G:Gp}{X:KX}{Q:List U->(Gp->Prop)->Gp->Prop}{e:E}:denI gs Δ (.s e) ς G Q X=(den gs Δ e).1 ς G (λx G1=>sgU x λxs=>Q xs (λ_=>True) G1) X:=rfl
def jrw {ς:Sg}{G:Gp}{X:KX}{Q:List Str->Gp->Prop}:denF gs Δ .nil ς G Q X=Q [] G:=rfl
def jph {ς:Sg}{G:Gp}{X:KX}{Q:List Str->Gp->Prop}{e:E}{es:Es}:denF gs Δ (.cons e es) ς G Q X=(den gs Δ e).1 ς G (λx G1=>fpU x λz=>denF gs Δ es ς G1 (λzs G2=>Q (z::zs) G2) X) X:=rfl
def I_dv {ς:Sg}{G:Gp}{X:KX}{Q:List U->(Gp->Prop)->Gp->Prop}{e:E}:denI gs Δ (.dv e) ς G Q X=(den gs Δ e).1 ς G (λx G1=>jdg jdn x G1 Q) X:=rfl
def I_di {ς:Sg}{G:Gp}{X:KX}{Q:List U->(Gp->Prop)->Gp->Prop}{e:E}:denI gs Δ (.di e) ς G Q X=(den gs Δ e).1 ς G (λx G1=>jdg jc7 x G1 Q) X:=rfl
def I_dk {ς:Sg}{G:Gp}{X:KX}{Q:List U->(Gp->Prop)->Gp->Prop}{e:E}:denI gs Δ (.dk e) ς G Q X=(den gs Δ e).1 ς G (λx G1=>jmG x G1 Q) X:=rfl
def jrk {D:En}{ς:Sg}{G:Gp}{ts:Tgs}{e:E}:denS gs Δ (.unp ts e) D ς G=(den gs Δ e).1 ς G (λu G1=>unpU ts u G1 ς λς'=>D.nx ς' G1) λx G1=>D.ex x ς G1:=rfl
def jo6 {D:En}{ς:Sg}{G:Gp}{e:E}:denS gs Δ (.expr e) D ς G=(den gs Δ e).1 ς G (λ_ G1=>D.nx ς G1) λx G1=>D.ex x ς G1:=rfl
def jrp {D:En}{ς:Sg}{G:Gp}{t:Tg}{e:E}:denS gs Δ (.asg t e) D ς G=(den gs Δ e).1 ς G (λu G1=>tgU t u ς λς'=>D.nx ς' G1) λx G1=>D.ex x ς G1:=rfl
def jo7 {D:En}{ς:Sg}{G:Gp}{i:Nat}{e:E}:denS gs Δ (.asgC i e) D ς G=(den gs Δ e).1 ς G (λu G1=>D.nx (ς.set i (some u)) G1) λx G1=>D.ex x ς G1:=rfl
def jo5 {D:En}{ς:Sg}{G:Gp}{o i e:E}:denS gs Δ (.setS o i e) D ς G=(den gs Δ e).1 ς G (λv G1=>(den gs Δ o).1 ς G1 (λx G2=>(den gs Δ i).1 ς G2 (λy G3=>setU x y v G3 λG4=>D.nx ς G4) (λx G1=>D.ex x ς G1)) (λx G1=>D.ex x ς G1)) (λx G1=>D.ex x ς G1):=rfl
def jrm {D:En}{ς:Sg}{G:Gp}{is:List Nat}{es:Es}:denS gs Δ (.par is es) D ς G=ja1 gs Δ es ς G (λus G1=>us.length=is.length/\D.nx ((is.zip us).foldl (λs p=>s.set p.1 (some p.2)) ς) G1) λx G1=>D.ex x ς G1:=rfl
def jro {D:En}{ς:Sg}{G:Gp}{i:Nat}{o:YbU}{e:E}:denS gs Δ (.aug i o e) D ς G=slot ς i λx=>(den gs Δ e).1 ς G (λy G1=>jiv o x y G1 λz G2=>D.nx (ς.set i (some z)) G2) λx G1=>D.ex x ς G1:=rfl
def jrn {D:En}{ς:Sg}{G:Gp}{c:E}{a b:Ss}:denS gs Δ (.ite c a b) D ς G=(den gs Δ c).2 ς G (λt G1=>if t=true then jaR gs Δ a D ς G1 else jaR gs Δ b D ς G1) λx G1=>D.ex x ς G1:=rfl
def S_fr {D:En}{ς:Sg}{G:Gp}{t:Tg}{it:It}{b:Ss}:denS gs Δ (.fr t it b) D ς G=denI gs Δ it ς G (λxs ok G1=>forL ok (λx ς1 G2 k=>tgU t x ς1 λς2=>jaR gs Δ b { D with nx:=k } ς2 G2) xs ς G1 D.nx) λx G1=>D.ex x ς G1:=rfl
def jrl {D:En}{ς:Sg}{G:Gp}{e:E}:denS gs Δ (.ret e) D ς G=(den gs Δ e).1 ς G D.rt λx G1=>D.ex x ς G1:=rfl
def jmE {D:En}{ς:Sg}{G:Gp}{c:Nat}{es:Es}:denS gs Δ (.raise c es) D ς G=ja1 gs Δ es ς G (λus G1=>us.length=(clsF c).length/\D.ex ⟨c,us⟩ ς G1) λx G1=>D.ex x ς G1:=rfl
def S_tr {D:En}{ς:Sg}{G:Gp}{b:Ss}{c n:Nat}{h:List HS}:denS gs Δ (.tr b c n h) D ς G=jaR gs Δ b { D with ex:=λx ς1 G1=>(c=0\/x.c=c)/\hsH x h (ς1.set n none) G1 λς2 G2=>D.nx (ς2.set n none) G2 } ς G:=rfl
def jrY {D:En}{ς:Sg}{G:Gp}:jaR gs Δ .nil D ς G=D.nx ς G:=rfl
def jpn {D:En}{ς:Sg}{G:Gp}{s:S}{r:Ss}:jaR gs Δ (.cons s r) D ς G=denS gs Δ s { D with nx:=λς' G'=>jaR gs Δ r D ς' G' } ς G:=rfl
def S_wh {D:En}{ς:Sg}{G:Gp}{c:E}{b:Ss}:denS gs Δ (.wh c b) D ς G=∃W:Nat->Sg->Gp->Prop,(∃m,W m ς G)/\∀m ς1 G1,W m ς1 G1->(den gs Δ c).2 ς1 G1 (λt G2=>if t=true then jaR gs Δ b { D with nx:=λς' G'=>∃m',m'<m/\W m' ς' G' } ς1 G2 else D.nx ς1 G2) λx G1=>D.ex x ς1 G1:=rfl
end
section
variable {G:Gp}
def jq9 {Q:K1}{i j:Int}:binU .Add (.int i) (.int j) G Q=Q (.int (i+j)) G:=rfl
def jq8 {Q:K1}{xs ys:List U}:binU .Add (.tup xs) (.tup ys) G Q=(xs.length+ys.length<=Yak/\Q (.tup (xs++ys)) G):=rfl
def jo0 {Q:K1}{a b:Addr}:binU .Add (.loc a) (.loc b) G Q=∃xs ys,G a=some (.lst xs)/\G b=some (.lst ys)/\xs.length+ys.length<=Yak/\newO G (.lst (xs++ys)) Q:=rfl
def jq3 {Q:K1}{i j:Int}:binU .Sub (.int i) (.int j) G Q=Q (.int (i-j)) G:=rfl
def jq6 {Q:K1}{i j:Int}:binU .Mult (.int i) (.int j) G Q=(CMul i j/\Q (.int (i*j)) G):=rfl
def joY {Q:K1}{a:Addr}{k:Int}:binU .Mult (.loc a) (.int k) G Q=∃xs,G a=some (.lst xs)/\-(2 ^ 63)<=k/\k<2 ^ 63/\xs.length*k.toNat<=Yak/\newO G (.lst (Yad k.toNat xs).flatten) Q:=rfl
def joX {Q:K1}{xs:List U}{k:Int}:binU .Mult (.tup xs) (.int k) G Q=(xs≠[]/\0<=k/\k<2 ^ 62/\xs.length*k.toNat<=Yak/\Q (.tup (Yad k.toNat xs).flatten) G):=rfl
def joZ {Q:K1}{i j:Int}:binU .FloorDiv (.int i) (.int j) G Q=(0<j/\j<1073741824/\Q (.int (i/j)) G):=rfl
def jq7 {Q:K1}{i j:Int}:binU .Mod (.int i) (.int j) G Q=(0<j/\Q (.int (i%j)) G):=rfl
def jq4 {Q:K1}{i j:Int}:binU .Pow (.int i) (.int j) G Q=(CPow i j/\Q (.int (i ^ j.toNat)) G):=rfl
def jq5 {Q:K1}{i:Int}:negU (.int i) G Q=Q (.int (-i)) G:=rfl
def jq2 {k:Bool->Prop}{i j:Int}:cmpU .Eq (.int i) (.int j) G k=k (decide (i=j)):=rfl
def jqX {k:Bool->Prop}{i j:Int}:cmpU .NotEq (.int i) (.int j) G k=k (!decide (i=j)):=rfl
def jq0 {k:Bool->Prop}{i j:Str}:cmpU .Eq (.str i) (.str j) G k=k (decide (i=j)):=rfl
def jqV {k:Bool->Prop}{i j:Str}:cmpU .NotEq (.str i) (.str j) G k=k (!decide (i=j)):=rfl
def W_lt {k:Bool->Prop}{i j:Int}:cmpU .Lt (.int i) (.int j) G k=k (decide (i<j)):=rfl
def W_le {k:Bool->Prop}{i j:Int}:cmpU .LtE (.int i) (.int j) G k=k (decide (i<=j)):=rfl
def W_gt {k:Bool->Prop}{i j:Int}:cmpU .Gt (.int i) (.int j) G k=k (decide (j<i)):=rfl
def jqU {k:Bool->Prop}{xs ys:List U}:cmpU .NotEq (.tup xs) (.tup ys) G k=eqU (.tup xs) (.tup ys) G λb=>k (!b):=rfl
def jqZ {k:Bool->Prop}{xs ys:List U}{y:U}:cmpU .Eq (.tup xs) (.tup (y::ys)) G k=eqU (.tup xs) (.tup (y::ys)) G k:=rfl
def joU {k:Bool->Prop}{xs:List U}:cmpU .Eq (.tup xs) (.tup []) G k=k xs.isEmpty:=rfl
def jqW {k:Bool->Prop}{a b:Addr}:cmpU .NotEq (.loc a) (.loc b) G k=eqU (.loc a) (.loc b) G λb=>k (!b):=rfl
def jq1 {k:Bool->Prop}{a b:Addr}:cmpU .Eq (.loc a) (.loc b) G k=eqU (.loc a) (.loc b) G k:=rfl
def W_in {k:Bool->Prop}{x y:U}:cmpU .In x y G k=inU x y G k:=rfl
def jqT {k:Bool->Prop}{x y:U}:cmpU .NotIn x y G k=inU x y G λb=>k (!b):=rfl
def W_is {k:Bool->Prop}{x y:U}:cmpU .Is x y G k=isU x y k:=rfl
def jqY {k:Bool->Prop}{x y:U}:cmpU .IsNot x y G k=isU x y λb=>k (!b):=rfl
def Y_bl {k:Bool->Prop}{b:Bool}:truU (.bl b) G k=k b:=rfl
def jqP {k:Bool->Prop}:truU .non G k=k false:=rfl
def jqQ {k:Bool->Prop}{i:Int}:truU (.int i) G k=k (i != 0):=rfl
def jqO {k:Bool->Prop}{xs:List U}:truU (.tup xs) G k=k (!xs.isEmpty):=rfl
def jrt {k:List U->(Gp->Prop)->Prop}{xs:List U}:itU (.tup xs) G k=k xs λ_=>True:=rfl
def jqR {Q:K1}{lo hi:Option Int}{xs:List U}:slU (.tup xs) lo hi G Q=Q (.tup (cut xs lo hi)) G:=rfl
end
section
variable {us:List U}{G:Gp}{Q:K1}
def jrz:bltU .len us G Q=lenU us G Q:=rfl
def jpb:bltU .repr us G Q=jfO us G Q:=rfl
def jrx:bltU .min us G Q=minU us G Q:=rfl
def jry:bltU .max us G Q=maxU us G Q:=rfl
def jrv:bltU .sum us G Q=sumU us G Q:=rfl
def jkb:bltU .sorted us G Q=jbE us G Q:=rfl
def jrB:bltU .int us G Q=intU us G Q:=rfl
def jrA:bltU .isi us G Q=jfn us G Q:=rfl
end
section
variable {G:Gp}{Q:K1}
def jqS {lo hi:Option Int}{x:Str}:slU (.str x) lo hi G Q=(x.length<=Yak/\Q (.str (Ye4 x lo hi)) G):=rfl
def jo1 {b:Bool}{j:Int}:binU .Add (.bl b) (.int j) G Q=Q (.int ((if b=true then (1:Int) else 0)+j)) G:=rfl
def joW {b:Bool}{j:Int}:binU .Sub (.bl b) (.int j) G Q=Q (.int ((if b=true then (1:Int) else 0)-j)) G:=rfl
def joV {b:Bool}{i:Int}:binU .Sub (.int i) (.bl b) G Q=Q (.int (i-if b=true then (1:Int) else 0)) G:=rfl
def jpe {xs:List U}:lenU [.tup xs] G Q=Q (.int xs.length) G:=rfl
def jpc {i j:Int}:minU [.int i,.int j] G Q=Q (.int (if j<i then j else i)) G:=rfl
def jpd {i j:Int}:maxU [.int i,.int j] G Q=Q (.int (if j>i then j else i)) G:=rfl
def jpg {b:Bool}:intU [.bl b] G Q=Q (.int (if b then 1 else 0)) G:=rfl
def jpf {i:Int}:intU [.int i] G Q=Q (.int i) G:=rfl
end
def G_n {i:Nat}{u:U}{ς:Sg}{k:Sg->Prop}:tgU (.n i) u ς k=k (ς.set i (some u)):=rfl
def G_t {ts:Tgs}{us:List U}{ς:Sg}{k:Sg->Prop}:tgU (.t ts) (.tup us) ς k=tgsU ts us ς k:=rfl
def jru {us:List U}{ς:Sg}{k:Sg->Prop}:tgsU .nil us ς k=(us=[]/\k ς):=rfl
def jpa {t:Tg}{ts:Tgs}{u:U}{r:List U}{ς:Sg}{k:Sg->Prop}:tgsU (.cons t ts) (u::r) ς k=tgU t u ς λς'=>tgsU ts r ς' k:=rfl
def sl_0 {u:U}{ς:Sg}{k:U->Prop}:slot (some u::ς) 0 k=k u:=rfl
def sl_s {o:Option U}{ς:Sg}{i:Nat}{k:U->Prop}:slot (o::ς) (i+1) k=slot ς i k:=rfl
def jbH {G:Gp}{a:Addr}{o:MO}{Q:Gp->Prop}:putO G a o Q=Q (gup G a o):=propext ⟨λh=>h.at,λh G1 p=>by rw[p.eq];exact h⟩
def ix_t {xs:List U}{i:Int}{u:U}{G:Gp}{Q:K1}(h:atI xs i=some u):ixU (.tup xs) (.int i) G Q=Q u G:=by unfold ixU;dsimp only;rw[h]
def ix_l {a:Addr}{xs:List U}{i:Int}{u:U}{G:Gp}{Q:K1}(g:G a=some (.lst xs))(h:atI xs i=some u):ixU (.loc a) (.int i) G Q=Q u G:=by unfold ixU;dsimp only;rw[g];dsimp only;rw[h]
def ix_d {a:Addr}{kvs:List (Key×U)}{x:Str}{u:U}{G:Gp}{Q:K1}(g:G a=some (.dK kvs))(h:dGet kvs (.inr x)=some u):ixU (.loc a) (.str x) G Q=Q u G:=by unfold ixU;dsimp only;rw[g];show(match dGet kvs (.inr x)with|some u=>Q u G|none=>False)=_;rw[h]
def jl9 {a:Addr}{xs:List U}{r:Int}{G:Gp}{Q:K1}(g:G a=some (.lst xs))(h0:0<=r)(h1:r<xs.length)(q:∀u∈xs,Q u G):ixU (.loc a) (.int r) G Q:=by
 obtain⟨u,hu,e⟩:=jfH h0 h1;rw[ix_l g e];exact q u hu
def jcz (zs:List Int){a:Addr}{r:Int}{G:Gp}{Q:K1}(g:G a=some (.lst (zs.map .int)))(h0:0<=r)(h1:r<zs.length)(q:∀z∈zs,Q (.int z) G):ixU (.loc a) (.int r) G Q:=
 jl9 g h0 (by rw[Yaa];exact h1) λu hu=>by
  obtain⟨z,hz,rfl⟩:=List.mem_map.mp hu;exact q z hz
def jgL:∀zs:List Int,jfo (zs.map .int)=some zs
 |[]=>rfl
 |x::r=>by show(match jfo (r.map .int)with|some l=>some (x::l)|none=>none)=_;rw[jgL r]
section
variable {a:Addr}
def in_l {ys:List U}{x:U}{G:Gp}{k:Bool->Prop}(g:G a=some (.lst ys))(h1:flat x=true)(h2:ys.all flat=true)(q:k (ys.any λy=>eqF y x)):inU x (.loc a) G k:=by
 cases x<;>first|(cases h1;done)|(unfold inU;dsimp only;rw[g];exact .inl ⟨h1,h2,q⟩)
def jfh {xs:List U}{G:Gp}{Q:K1}(g:G a=some (.lst xs)):lenU [.loc a] G Q=Q (.int xs.length) G:=by unfold lenU;dsimp only;rw[g]
def jqv {xs:List U}{G:Gp}{Q:K1}(g:G a=some (.fro xs)):lenU [.loc a] G Q=Q (.int xs.length) G:=by unfold lenU;dsimp only;rw[g]
def it_l {xs:List U}{G:Gp}{k:List U->(Gp->Prop)->Prop}(g:G a=some (.lst xs)):itU (.loc a) G k=k xs λG'=>lsG G' a=some xs:=by unfold itU;dsimp only;have e:lsG G a=some xs:=(by unfold lsG;rw[g]);rw[e]
def jby {xs:List U}{v:U}{G:Gp}{Q:K1}(g:G a=some (.lst xs)):jaL .append (.loc a) [v] G Q=(xs.length<Yak/\putO G a (.lst (xs++[v])) (Q .non)):=by unfold jaL jga;dsimp only;rw[g]
def jaA {xs:List U}{G:Gp}(g:G a=some (.lst xs)):mtU .append (.loc a) G=some ("list", "list.append"):=by unfold mtU;dsimp only;rw[g]
def jpW {xs:List U}{i:Int}{j:Nat}{v:U}{G:Gp}{Q:Gp->Prop}(g:G a=some (.lst xs))(h:ixN xs.length i=some j):setU (.loc a) (.int i) v G Q=putO G a (.lst (xs.set j v)) Q:=by unfold setU;dsimp only;rw[g];dsimp only;rw[h]
def ji9 {kvs:List (Key×U)}{x:Str}{v:U}{G:Gp}{Q:Gp->Prop}(g:G a=some (.dK kvs)):setU (.loc a) (.str x) v G Q=(kvs.length<Yak/\putO G a (.dK (dPut kvs (.inr x) v)) Q):=by unfold setU;dsimp only;rw[g];rfl
end
def jmc {n j:Nat}(h:j<n):ixN n (j:Int)=some j:=by unfold ixN;rw[if_pos (Int.natCast_nonneg j),if_pos (by exact_mod_cast h)];simp
noncomputable def jj1:Nat->Ss->Ss
 |0,s=>s
 |_+1,.nil=>.nil
 |n+1,.cons _ r=>jj1 n r
def dr_0 {s:Ss}:jj1 0 s=s:=rfl
def dr_s {n:Nat}{s:S}{r:Ss}:jj1 (n+1) (.cons s r)=jj1 n r:=rfl
def pk_nil {ς:Sg}:jb5 [] ς=[]:=rfl
def jlp {ς:Sg}{r:List (Option Nat)}:jb5 (none::r) ς=none::jb5 r ς:=rfl
def jlo {ς:Sg}{j:Nat}{r:List (Option Nat)}:jb5 (some j::r) ς=(ς[j]?).join::jb5 r ς:=rfl
def jrr {x:Str}:kU (.str x)=some (.inr x):=rfl
def jrs {i:Int}:kU (.int i)=some (.inl i):=rfl
section
variable {a:Addr}{xs:List U}{lo hi:Option Int}{G:Gp}{Q:K1}
def sl_f (g:G a=some (.fro xs)):slU (.loc a) lo hi G Q=newO G (.lst (cut xs lo hi)) Q:=by unfold slU;dsimp only;have e:lsG G a=some xs:=(by unfold lsG;rw[g]);rw[e]
def sl_l (g:G a=some (.lst xs)):slU (.loc a) lo hi G Q=newO G (.lst (cut xs lo hi)) Q:=by unfold slU;dsimp only;have e:lsG G a=some xs:=(by unfold lsG;rw[g]);rw[e]
end
def jmy {α β:Type}(f:α->β)(xs:List α)(lo hi:Option Int):cut (xs.map f) lo hi=(cut xs lo hi).map f:=by unfold cut;rw[Yaa,<- YdA,<- Ycy]
def jd6 {α:Type}(xs:List α)(n:Nat):cut xs none (some (n:Int))=xs.take n:=by
 unfold cut;rw[HT.sIx_none,HT.sIx_nat,Ydk,Nat.sub_zero,List.take_eq_take_iff];omega
def jg0 {α:Type}(xs:List α)(n:Nat):cut xs (some (n:Int)) none=xs.drop n:=by
 unfold cut;rw[HT.sIx_none,HT.sIx_nat];by_cases h:n<=xs.length
 ·rw[Nat.min_eq_left h,YbG (by simp)]
 ·rw[Nat.min_eq_right (by omega),YbH (Yaf _),YbH (by omega),List.take_nil]
section
variable {G:Gp}{f c:Addr}{a l t:Int}{Q:K1}
def jjZ:ixU (.loc f) (.str "cells") (gup G f (.dK (fdU c a l t))) Q=Q (.loc c) (gup G f (.dK (fdU c a l t))):=ix_d jag jml
def jqF:ixU (.loc f) (.str "at") (gup G f (.dK (fdU c a l t))) Q=Q (.int a) (gup G f (.dK (fdU c a l t))):=ix_d jag g_at
def jmn:ixU (.loc f) (.str "left") (gup G f (.dK (fdU c a l t))) Q=Q (.int l) (gup G f (.dK (fdU c a l t))):=ix_d jag jow
def jmm:ixU (.loc f) (.str "turn") (gup G f (.dK (fdU c a l t))) Q=Q (.int t) (gup G f (.dK (fdU c a l t))):=ix_d jag jkD
end
section
variable {G:Gp}{f c:Addr}{a l t x:Int}{Q:Gp->Prop}
def jqG:setU (.loc f) (.str "at") (.int x) (gup G f (.dK (fdU c a l t))) Q=Q (gup G f (.dK (fdU c x l t))):=by rw[ji9 jag,p_at,jbH,jb8];exact propext ⟨λh=>h.2,λh=>⟨jgT,h⟩⟩
def jmr:setU (.loc f) (.str "left") (.int x) (gup G f (.dK (fdU c a l t))) Q=Q (gup G f (.dK (fdU c a x t))):=by rw[ji9 jag,jnJ,jbH,jb8];exact propext ⟨λh=>h.2,λh=>⟨jgT,h⟩⟩
def jmq:setU (.loc f) (.str "turn") (.int x) (gup G f (.dK (fdU c a l t))) Q=Q (gup G f (.dK (fdU c a l x))):=by rw[ji9 jag,jko,jbH,jb8];exact propext ⟨λh=>h.2,λh=>⟨jgT,h⟩⟩
end
end Z

namespace Y
open PySem L2
noncomputable def nO:Obj:=⟨.none,none,.fields ⟨[]⟩,⟨[]⟩⟩
noncomputable def tO (v:List Value):Obj:=⟨.type "tuple",none,.seq ⟨v⟩ 0,⟨[]⟩⟩
noncomputable def sO (c:Value)(v:List Value):Obj:=⟨c,none,.fields ⟨v⟩,⟨[]⟩⟩
noncomputable def rO (v:List (Option Value)):Obj:=⟨.type "frame",none,.plain,⟨v⟩⟩
noncomputable def gO (x q:Str)(s:Stmt):Obj:=⟨.none,none,.func { name:=x,qualname:=q,params:=jbk s,body:=.stmts (jau s),scope:=jah s,globals:=0,closure:=[],defaults:=.none,kwdefaults:=.none },⟨[]⟩⟩
noncomputable def fO (x q:Str)(s:Stmt)(m:Value)(c:Nat):Obj:=⟨.type "function",none,.func (YbI x q (jbk s) (jau s) (jah s) .none .none .none m none (.ref c) .none),⟨[]⟩⟩
noncomputable def kO (fi x q:Str)(t:Nat)(l a f:Int)(r:Nat)(b:Bool)(u v w:Value)(z:Nat):Obj:=⟨.type "code",none,.fields ⟨[.str x t,.str q (t+1),.str fi (t+2),.int l 0,.int a 0,.int 0 0,.int 0 0,.int f 0,.ref r,.bool b,.int 181 0,.ref (r+1),.none,u,v,w,.int z 0,.int l 0,.str fi (z+1)]⟩,⟨[]⟩⟩
noncomputable def dE (P:Params)(x:Str)(t:Nat)(v:Value):Ycj:=⟨PyData.keyHash P x,.str x t,v⟩
noncomputable def dO (e:List Ycj)(n:Nat):Obj:=⟨.type "dict",none,.dict ⟨e⟩ n,⟨[]⟩⟩
noncomputable def cO (x:Str)(b m:List Value)(n:Nat)(u:List Value)(s:List (Option Value)):Obj:=⟨.type "type",none,.cls { name:=x,bases:=b,mro:=m,ns:=n,qualname:=x,subclasses:=u },⟨s⟩⟩
noncomputable def tE:Obj:=tO []
noncomputable abbrev bE:Ycm:=.nil
noncomputable abbrev bN (o:Obj)(l r:Ycm):Ycm:=.node o l r
noncomputable abbrev bL (o:Obj):Ycm:=.node o .nil .nil
end Y
namespace Z
open PySem L2
noncomputable def argB (ps:List Str)(a:Yf7):Bool:=a.posonlyargs.isEmpty&&(a.args.map (·.arg)==ps)&&a.vararg.isNone&&a.kwonlyargs.isEmpty&&a.kwarg.isNone
def jod:∀{ps:List Str} {us:List Value},us.length=ps.length->ps.Nodup->(ps.filterMap λn=>((ps.zip us).lookup n).map (n,·))=ps.zip us/\∀n∈ps,((ps.zip us).lookup n).isSome=true:=by
 have key:∀{l:List Str} {vs:List Value} {L:List (Str×Value)},vs.length=l.length->l.Nodup->(∀(i:Nat) n v,l[i]?=some n->vs[i]?=some v->L.lookup n=some v)->(l.filterMap λn=>(L.lookup n).map (n,·))=l.zip vs/\∀n∈l,(L.lookup n).isSome=true:=by
  intro l
  induction l with
  |nil=>intro vs L _ _ _;exact⟨rfl,λn h=>absurd h Yaw⟩
  |cons x l ih=>
   intro vs L hl nd hL;obtain _|⟨v,vs⟩:=vs
   ·cases hl
   ·have h0:=hL 0 x v rfl rfl;obtain⟨e1,e2⟩:=ih (L:=L) (vs:=vs) (by simpa using hl) (List.nodup_cons.mp nd).2 λi n v a b=>hL (i+1) n v a b
    refine⟨?_,λn hn=>?_⟩
    ·rw[Yce,h0,Yfz,<- e1];rfl
    ·rcases YaM.mp hn with rfl|hn
     ·rw[h0];rfl
     ·exact e2 n hn
 intro ps us hl nd;refine key hl nd λi n v a b=>?_;have hz:(ps.zip us)[i]?=some (n,v):=List.getElem?_zip_eq_some.mpr ⟨a,b⟩;have:∀(l:List (Str×Value)),(l.map (·.1)).Nodup->(n,v)∈l->l.lookup n=some v:=by
  intro l
  induction l with
  |nil=>intro _ h;exact absurd h Yaw
  |cons p l ih=>
   intro nd h;obtain⟨m,u⟩:=p;rw[Ya9];by_cases e:n=m
   ·subst e;rw[beq_self_eq_true];rcases YaM.mp h with h|h
    ·cases h;rfl
    ·exact absurd (List.mem_map.mpr ⟨_,h,rfl⟩) (List.nodup_cons.mp nd).1
   ·rw[beq_eq_false_iff_ne.mpr e];rcases YaM.mp h with h|h
    ·cases h;exact absurd rfl e
    ·exact ih (List.nodup_cons.mp nd).2 h
 exact this _ (by rw[List.map_fst_zip (by omega)];exact nd) (Yam hz)
def jiW {ps:List Str}{a:Yf7}(h:argB ps a=true)(nd:ps.Nodup){x q:Str}{b:List Stmt}{sc:Scope}{kV doc pm:Value}{an:Option Addr}{cdv ct:Value}{us:List Value}(hl:us.length=ps.length) :
  bindArgs (YbI x q a b sc .none kV doc pm an cdv ct) ⟨us,[]⟩=pure (ps.zip us):=by
 obtain⟨po,as,va,ko,kd,ka,df⟩:=a;unfold argB at h;simp only[YaE,List.isEmpty_iff,Option.isNone_iff_eq_none,beq_iff_eq]at h;obtain⟨⟨⟨⟨rfl,rfl⟩,rfl⟩,rfl⟩,rfl⟩:=h;obtain⟨e1,e2⟩:=jod hl nd;have e3:(List.filter (λn=>(Yee n ((as.map (·.arg)).zip us)).isNone) (as.map (·.arg)))=[]:=List.filter_eq_nil_iff.mpr λn hn=>by
  have:=e2 n hn;cases q:Yee n ((as.map (·.arg)).zip us)with
  |none=>rw[q]at this;cases this
  |some _=>simp
 have e0:seqItems? YaU=pure none:=rfl;unfold bindArgs;dsimp only;rw[e0];generalize as.map (·.arg)=ns at *;have e4:ns.take (ns.length-0)=ns:=by rw[Nat.sub_zero,Yaz]
 simp[hl,e1,e3,e4]

abbrev FL:=List (Addr×Addr×Value)
noncomputable def refB (v:Option (Option Value))(f:Addr):Bool:=match v with
 |some (some (.ref a))=>a==f
 |_=>false
def jnh {v:Option (Option Value)}{f:Addr}(h:refB v f=true):v=some (some (.ref f)):=by
 unfold refB at h;split at h
 ·rw[eq_of_beq h]
 ·cases h
noncomputable def dynB (T:Tab)(K:Yac):Nat->FL->List Fun->List Stmt->Bool
 |_,[],[],[]=>true
 |i,x::fs,d::ds,s::ss=>refB (Yco K YaT d.name) x.1&&YcF K (.ref x.2.1) d.name&&(match T.ns.lookup i with|none=>true|some z=>jf7 K (.ref x.2.1) z.P)&&argB d.ps (jbk s)&&dynB T K (i+1) fs ds ss
 |_,_,_,_=>false
noncomputable def lkR:FL->List Fun->List Stmt->List (Option Obj)
 |x::fs,d::ds,s::ss=>some (Y.fO d.name d.name s x.2.2 x.2.1)::lkR fs ds ss
 |_,_,_=>[]
def jiG {T:Tab}{K:Yac}:∀{i:Nat} {fs:FL} {ds:List Fun} {ss:List Stmt},dynB T K i fs ds ss=true->fs.map (λx=>K.lookup x.1)=lkR fs ds ss->∀{n:Nat} {d:Fun} {s:Stmt},ds[n]?=some d->ss[n]?=some s->
  ∃x:Addr×Addr×Value,Yco K YaT d.name=some (some (.ref x.1))/\K.lookup x.1=some (Y.fO d.name d.name s x.2.2 x.2.1)/\YcF K (.ref x.2.1) d.name=true/\(∀z,T.ns.lookup (i+n)=some z->jf7 K (.ref x.2.1) z.P=true)/\argB d.ps (jbk s)=true
 |_,_,[],_,_,_,_,_,_,e,_=>by simp at e
 |_,_,_::_,[],_,_,_,_,_,_,e=>by simp at e
 |_,[],_::_,_::_,h,_,_,_,_,_,_=>by unfold dynB at h;cases h
 |i,x::fs,d::ds,s::ss,h,g,n,d',s',e1,e2=>by
  unfold dynB at h;simp only[YaE]at h;obtain⟨⟨⟨⟨h1,h2⟩,h3⟩,h4⟩,h5⟩:=h;unfold lkR at g;rw[YaG]at g;injection g with g1 g2
  cases n with
  |zero=>
   cases(Yao e1:d=d');cases(Yao e2:s=s');exact⟨x,jnh h1,g1,h2,λz hz=>by rw[Nat.add_zero]at hz;rw[hz]at h3;exact h3,h4⟩
  |succ n=>
   obtain⟨y,q1,q2,q3,q4,q5⟩:=jiG h5 g2 (n:=n) e1 e2;exact⟨y,q1,q2,q3,λz hz=>q4 z (by rw[show i+1+n=i+(n+1) by omega];exact hz),q5⟩
def jnr {N ps:List Str}{sc:Scope}(h:scB N ps sc=true):ps.Nodup:=by
 have S:=jnb h;rw[<- S.pre];exact S.nd.sublist (YfM _ _)
def jim {K:Yac}{f:Addr}{c:Value}{d:Option Addr}{fd:Ybu}{sl:Array (Option Value)}(h:K.lookup f=some ⟨c,d,.func fd,sl⟩):YbY K (.ref f)=true:=by
 unfold YbY;dsimp only;rw[h]
section
variable {T:Tab}{K:Yac}{h:Heap}{mg:Str->Option Value}
def joJ {fs:FL}{sts:List Stmt}(X:K.In h)(G:h.Ns YaT mg)(hst:jeF T 0 T.funs sts=true)(heq:je3 T sts 0 T.funs sts)(hB:dynB T K 0 fs T.funs sts=true)(hL:fs.map (λx=>K.lookup x.1)=lkR fs T.funs sts):Dyn T K mg sts:=by
 intro n d st h1 h2;obtain⟨x,q1,q2,q3,q4,q5⟩:=jiG hB hL h1 h2;have F:=jkE (st:=st) q2 q3 (jim q2);obtain⟨st',e,hs,_⟩:=jdy hst heq h1;cases h2.symm.trans e;exact⟨_,_,F,YcL X G q1,F.binds λ_ _ _ _ _ _ us hl=>jiW q5 (jnr hs) hl,λz hz=>q4 z (by rw[YcJ];exact hz)⟩
noncomputable def bltB (K:Yac):Bool:=jcJ.all λx=>match Yco K YaT x with
 |some none=>true
 |_=>false
def joS (X:K.In h)(G:h.Ns YaT mg)(hb:bltB K=true):∀x∈jcJ,mg x=none:=λx hx=>by
 have:=YcX.mp hb x hx;refine PySem.W.mg_none_of X G ?_;split at this
 ·assumption
 ·cases this
noncomputable def gsB (K:Yac):List Str->List U->Bool
 |[],[]=>true
 |x::xs,u::us=>(match u,Yco K YaT x with
  |.int i,some (some (.int j _))=>i==j
  |.str i,some (some (.str j _))=>i==j
  |_,_=>false)&&gsB K xs us
 |_,_=>false
def jov (X:K.In h)(G:h.Ns YaT mg):∀{xs:List Str} {us:List U},gsB K xs us=true->∀(n:Nat) (x:Str) (u:U),xs[n]?=some x->us[n]?=some u->∃v w,mg x=some w/\RelV v w/\∀H,RU K H u v
 |[],_,_,_,_,_,e,_=>by simp at e
 |_::_,[],_,_,_,_,_,e=>by simp at e
 |x::xs,u::us,hb,n,x',u',e1,e2=>by
  unfold gsB at hb;rw[YaE]at hb;cases n with
  |zero=>
   cases(Yao e1:x=x');cases(Yao e2:u=u');have h1:=hb.1;split at h1
   ·rename_i i j t q;cases eq_of_beq h1;exact⟨.int i,_,YcL X G q,⟨_,rfl⟩,λ_=>rfl⟩
   ·rename_i i j t q;cases eq_of_beq h1;exact⟨.str i,_,YcL X G q,⟨_,rfl⟩,λ_=>rfl⟩
   ·cases h1
  |succ n=>exact jov X G hb.2 n x' u' e1 e2
def CsA (K:Yac):List Nat->Prop
 |[]=>True
 |n::r=>(∃C,XCls K (gK K) (clsN n) (clsF n) C)/\CsA K r
def joO:∀{l:List Nat},CsA K l->∀n∈l,1<=n->∃C,XCls K (gK K) (clsN n) (clsF n) C
 |[],_,_,hn,_=>absurd hn Yaw
 |m::r,hc,n,hn,h1=>by
  unfold CsA at hc;rcases YaM.mp hn with rfl|hn
  ·exact hc.1
  ·exact joO hc.2 n hn h1
def all2 {l:YdL}{w:World}{fa:Addr}{fs:FL}{sts:List Stmt}{k n:Nat}{d:Fun}{st:Stmt}(X:K.In h)(G:h.Ns YaT mg)(hfa:mg "law" = some (.ref fa))(hst:jeF T 0 T.funs sts=true)(heq:je3 T sts 0 T.funs sts)
  (hU:∀t∈tabs,∀t'∈tabs,t.1=t'.1->t=t') (hB:dynB T K 0 fs T.funs sts=true) (hL:fs.map (λx=>K.lookup x.1)=lkR fs T.funs sts) (hb:bltB K=true) (hg:gsB K T.gn T.gs=true) (hc:CsA K T.cs)
  (hd:T.funs[n]?=some d) (hs:sts[n]?=some st) (hn:T.ns.lookup n=none) (hdn:d.name = "law") (hps:d.ps=[("_law_script" : Str)]) :
  ∃fd:Ybu,(∀(s:Shared) (v:Value),BindsTo s fd ⟨[v],[]⟩ [("_law_script",v)])/\∀base:Heap,K.In base->base.Ns YaT mg->BmAt mg base->FnOk l.prog w K mg base (CX1 l.prog w) (k+2) fa fd ["_law_script"] (lSp K (jab T k n)):=by
 have dyn:=joJ X G hst heq hB hL;obtain⟨x,q1,q2,q3,q4,q5⟩:=jiG hB hL hd hs;obtain⟨st',e,hsc,_⟩:=jdy hst heq hd;cases hs.symm.trans e;have F:=jkE (st:=st) q2 q3 (jim q2);rw[hdn]at q1;cases hfa.symm.trans (YcL X G q1);refine⟨YbI d.name d.name (jbk st) (jau st) (jah st) .none .none .none x.2.2 none (.ref x.2.1) .none,λs v=>.of_eq ((jiW (us:=[v]) q5 (jnr hsc) (by rw[hps];rfl)).trans (by rw[hps];rfl)),λbase hKb _ hBm=>?_⟩
 rw[<- hps];exact jhc F hst heq dyn hU hKb hBm (joS X G hb) (jov X G hg) (joO hc) (jn9 X G) hd hs hn
end
section
variable {K:Yac}
end
section
local macro_rules
 |`(#[])=>`(.nil)
 |`(#[$x])=>`(.cons $x .nil)
 |`(#[$x,$xs,*])=>`(.cons $x #[$xs,*])
noncomputable abbrev jgC:Nat:=0
noncomputable abbrev jfS:Nat:=1
noncomputable abbrev jc1:Nat:=2
noncomputable abbrev jbe:Nat:=3
noncomputable abbrev jdJ:Nat:=4
noncomputable abbrev jc4:Nat:=5
noncomputable abbrev jfb:Nat:=6
noncomputable abbrev jdC:Nat:=7
noncomputable abbrev jc5:Nat:=8
noncomputable abbrev ja4:Nat:=9
noncomputable abbrev ja9:Nat:=10
noncomputable abbrev jb1:Nat:=11
noncomputable abbrev jbL:Nat:=12
noncomputable abbrev jcs:Nat:=13
noncomputable abbrev jcS:Nat:=14
noncomputable abbrev jdB:Nat:=15
noncomputable abbrev jfc:Nat:=16
noncomputable abbrev jb0:Nat:=17
noncomputable abbrev jc3:Nat:=18
noncomputable abbrev jc2:Nat:=19
noncomputable abbrev jgE:Nat:=20
noncomputable abbrev jgD:Nat:=21
noncomputable abbrev ja2:Nat:=22
noncomputable abbrev jbJ:Nat:=23
noncomputable abbrev jek:Nat:=24
noncomputable abbrev jaa:Nat:=25
noncomputable abbrev jb6:Nat:=26
noncomputable abbrev jaF:Nat:=27
noncomputable abbrev jei:Nat:=28
noncomputable abbrev jbg:Nat:=29
noncomputable abbrev jej:Nat:=30
noncomputable abbrev jdE:Nat:=31
noncomputable abbrev jcr:Nat:=32
noncomputable abbrev jbf:Nat:=33
noncomputable abbrev jdH:Nat:=34
noncomputable abbrev jfe:Nat:=35
noncomputable abbrev jcp:Nat:=36
noncomputable abbrev jaE:Nat:=37
noncomputable abbrev jel:Nat:=38
noncomputable abbrev jcq:Nat:=39
noncomputable abbrev jeh:Nat:=40
noncomputable abbrev jem:Nat:=41
noncomputable abbrev jdD:Nat:=42
noncomputable abbrev jdF:Nat:=43
noncomputable abbrev jfd:Nat:=44
noncomputable abbrev jbK:Nat:=45
noncomputable abbrev jdI:Nat:=46
noncomputable abbrev jdG:Nat:=47
noncomputable abbrev jlV:Nat:=48
noncomputable def jgY:Fun:=⟨"top_of",["plan", "period", "s"],["plan", "period", "s", "word", "one", "other", "low", "high"],#[.asg (.t #[.n 3,.n 4,.n 5,.n 6,.n 7]) (.ix (.ix (.v 0) (.int 1)) (.v 2)),.ret (.ife (.cmp .Eq (.v 3) (.str "span")) (.v 7) (.bin .Sub (.v 1) (.v 7)))]⟩
noncomputable def jdT:Fun:=⟨"window_of",["plan", "period", "s"],["plan", "period", "s", "low"],#[.asg (.n 3) (.ix (.ix (.ix (.v 0) (.int 1)) (.v 2)) (.int 3)),(.ret (.tup #[.v 3,(.blt .min #[.call jgC #[.v 0,.v 1,.v 2],.bin .Sub (.bin .Add (.v 3) (.v 1)) (.int 1)])]))]⟩
noncomputable def jc8:Fun:=⟨"windows_of",["plan", "period"],["plan", "period"],#[.ret (.mkT (.lc [none,some 0,some 1] (.n 0) (.r1 (.blt .len #[.ix (.v 0) (.int 1)])) .nil (.call jfS #[.v 1,.v 2,.v 0])))]⟩
noncomputable def jcD:Fun:=⟨"with_window",["windows", "s", "window"],["windows", "s", "window"],#[.ret (.bin .Add (.bin .Add (.sl (.v 0) .no (.so (.v 1))) (.tup #[.v 2])) (.sl (.v 0) (.so (.bin .Add (.v 1) (.int 1))) .no))]⟩
noncomputable def jfz:Fun:=⟨"ends_of",["plan", "entry"],["plan", "entry", "s", "way", "word", "one", "other", "low", "high"],#[.ite (.cmp .Eq (.blt .len #[.v 1]) (.int 3)) #[.ret (.tup #[.ix (.v 1) (.int 1),.ix (.v 1) (.int 2)])] .nil,.asg (.t #[.n 2,.n 3]) (.v 1),.asg (.t #[.n 4,.n 5,.n 6,.n 7,.n 8]) (.ix (.ix (.v 0) (.int 1)) (.v 2)),.ret (.ife (.cmp .Eq (.v 3) (.int 1)) (.tup #[.v 5,.v 6]) (.tup #[.v 6,.v 5]))]⟩
noncomputable def jdc:Fun:=⟨"entry_sums",["beats", "windows", "entry"],["beats", "windows", "entry", "apart", "s", "way", "least", "most"],#[.ite (.cmp .Eq (.blt .len #[.v 2]) (.int 3)) #[.asg (.n 3) (.bin .Sub (.ix (.v 0) (.ix (.v 2) (.int 2))) (.ix (.v 0) (.ix (.v 2) (.int 1)))),.ret (.tup #[.v 3,.v 3])] .nil,.asg (.t #[.n 4,.n 5]) (.v 2),.asg (.t #[.n 6,.n 7]) (.ix (.v 1) (.v 4)),.ret (.ife (.cmp .Eq (.v 5) (.int 1)) (.tup #[.v 6,.v 7]) (.tup #[.neg (.v 7),.neg (.v 6)]))]⟩
noncomputable def jfu:Fun:=⟨"sums_of",["plan", "period", "beats", "windows", "ring"],["plan", "period", "beats", "windows", "ring", "sums"],#[.asgC 5 (.lc [none,some 2,some 3] (.n 0) (.e (.v 4)) .nil (.call jc4 #[.v 1,.v 2,.v 0])),(.ret (.tup #[.blt .sum #[.lc [none,none] (.t #[.n 0,.n 1]) (.e (.v 5)) .nil (.v 0)],.blt .sum #[.lc [none,none] (.t #[.n 0,.n 1]) (.e (.v 5)) .nil (.v 1)]]))]⟩
noncomputable def jdU:Fun:=⟨"ring_bars",["plan", "period", "beats", "windows", "ring"],["plan", "period", "beats", "windows", "ring", "least", "most"],#[.asg (.t #[.n 5,.n 6]) (.call jfb #[.v 0,.v 1,.v 2,.v 3,.v 4]),.ret (.cmp .Lt (.bin .Mult (.bin .FloorDiv (.v 6) (.v 1)) (.v 1)) (.v 5))]⟩
noncomputable def jdd:Fun:=⟨"entries_to",["plan", "work"],["plan", "work", "found", "s", "word", "one", "other", "low", "high"],#[.asg (.n 2) (.lst .nil),(.fr (.t #[.n 3,.t #[.n 4,.n 5,.n 6,.n 7,.n 8]]) (.enum (.ix (.v 0) (.int 1))) #[.ite (.cmp .Eq (.v 6) (.v 1)) #[.expr (.meth .append (.v 2) #[.tup #[.v 3,.int 1,.v 5]])] .nil,.ite (.cmp .Eq (.v 5) (.v 1)) #[.expr (.meth .append (.v 2) #[.tup #[.v 3,.neg (.int 1),.v 6]])] .nil]),.ret (.v 2)]⟩
noncomputable def jbD:Ss:=#[(.wh (.cmp .Lt (.v 4) (.blt .len #[.v 3])) #[(.fr (.t #[.n 5,.n 6,.n 7]) (.e (.call jc5 #[.v 0,.ix (.v 3) (.v 4)])) #[(.ite (.cmp .NotIn (.v 7) (.v 3)) #[.setS (.v 2) (.v 7) (.tup #[.v 5,.v 6]),.expr (.meth .append (.v 3) #[.v 7])] .nil)]),.aug 4 .Add (.int 1)]),.ret (.v 2)]
noncomputable def jcH:Fun:=⟨"forest_from",["plan", "roots"],["plan", "roots", "forest", "reached", "at", "s", "way", "start"],(.cons (.asg (.n 2) (.dic .nil)) (.cons (.asg (.n 3) (.mkL (.v 1))) (.cons (.asg (.n 4) (.int 0)) jbD)))⟩
noncomputable def jbl:Ss:=#[(.wh (.cmp .In (.v 2) (.v 1)) #[.expr (.meth .append (.v 3) #[.ix (.v 1) (.v 2)]),.asg (.n 2) (.ix (.call jdJ #[.v 0,.ix (.v 1) (.v 2)]) (.int 1))]),.ret (.tup #[.v 3,.v 2])]
noncomputable def jb3:Fun:=⟨"path_to_root",["plan", "forest", "work"],["plan", "forest", "work", "path"],(.cons (.asg (.n 3) (.lst .nil)) jbl)⟩
noncomputable def jbt:Ss:=#[.ret (.mkT (.bin .Add (.bin .Add (.bin .Add (.lst #[.tup #[.v 2,.int 1]]) (.v 8)) (.v 12)) (.lc [none,none] (.t #[.n 0,.n 1]) (.e (.rev (.v 10) (.neg (.int 1)))) .nil (.tup #[.v 0,.neg (.v 1)]))))]
noncomputable def jaZ:Ss:=(.cons (.asg (.n 12) (.ife (.cmp .Eq (.v 9) (.v 11)) (.lst .nil) (.lst #[.tup #[.str "home",.v 9,.v 11]]))) jbt)
noncomputable def jbu:Ss:=(.cons (.wh (.bop true (.v 8) #[.v 10,.cmp .Eq (.ix (.v 8) (.neg (.int 1))) (.ix (.v 10) (.neg (.int 1)))]) #[.expr (.meth .pop (.v 8) .nil),.expr (.meth .pop (.v 10) .nil)]) jaZ)
noncomputable def jbv:Ss:=(.cons (.asg (.t #[.n 8,.n 9]) (.call ja9 #[.v 0,.v 1,.v 5])) (.cons (.asg (.t #[.n 10,.n 11]) (.call ja9 #[.v 0,.v 1,.v 4])) jbu))
noncomputable def jb4:Fun:=⟨"closing_ring",["plan", "forest", "s"],["plan", "forest", "s", "word", "one", "other", "low", "high", "there", "there_root", "back", "back_root", "homes"],(.cons (.asg (.t #[.n 3,.n 4,.n 5,.n 6,.n 7]) (.ix (.ix (.v 0) (.int 1)) (.v 2))) jbv)⟩
noncomputable def jbR:Fun:=⟨"closing_rings",["plan", "part", "forest"],["plan", "part", "forest", "used", "spans"],#[.asg (.n 3) (.lc [none,none] (.t #[.n 0,.n 1]) (.dv (.v 2)) .nil (.v 0)),.asgC 4 (.lc [none,some 0,some 1,some 3] (.n 0) (.r1 (.blt .len #[.ix (.v 0) (.int 1)])) #[.bop true (.cmp .In (.ix (.ix (.ix (.v 1) (.int 1)) (.v 0)) (.int 1)) (.v 2)) #[.cmp .NotIn (.v 0) (.v 3)]] (.v 0)),.ret (.lc [none,some 0,some 2] (.n 0) (.e (.v 4)) .nil (.call jb1 #[.v 1,.v 2,.v 0]))]⟩
noncomputable def jcI:Fun:=⟨"beats_along",["plan", "period", "beats", "forest", "lengths"],["plan", "period", "beats", "forest", "lengths", "found", "work", "s", "way", "nearer"],#[.asg (.n 5) (.mkL (.v 2)),(.fr (.t #[.n 6,.t #[.n 7,.n 8]]) (.di (.v 3)) #[.asg (.n 9) (.ix (.call jdJ #[.v 0,.tup #[.v 7,.v 8]]) (.int 1)),.setS (.v 5) (.v 6) (.bin .Mod (.bin .Sub (.ix (.v 5) (.v 9)) (.bin .Mult (.v 8) (.ix (.v 4) (.v 7)))) (.v 1))]),.ret (.mkT (.v 5))]⟩
noncomputable def jcU:Ss:=#[(.fr (.n 3) (.r1 (.blt .len #[.ix (.v 0) (.int 0)])) #[(.ite (.cmp .NotIn (.v 3) (.v 2)) #[.asg (.n 4) (.blt .sorted #[.bin .Add (.lst #[.v 3]) (.mkD (.call ja4 #[.v 0,.lst #[.v 3]]))]),.expr (.meth .extend (.v 2) #[.v 4]),.expr (.meth .append (.v 1) #[.mkT (.v 4)])] .nil)]),.ret (.mkT (.v 1))]
noncomputable def jep:Fun:=⟨"parts_of",["plan"],["plan", "parts", "placed", "work", "part"],(.cons (.asg (.n 1) (.lst .nil)) (.cons (.asg (.n 2) (.lst .nil)) jcU))⟩
noncomputable def jfv:Fun:=⟨"staying",["part", "stays"],["part", "stays"],#[.ret (.lc [none,some 1] (.n 0) (.e (.v 0)) #[.cmp .In (.v 0) (.v 1)] (.v 0))]⟩
noncomputable def jds:Ss:=#[.fr (.n 5) (.r1 (.bin .Sub (.bin .Sub (.blt .len #[.ix (.v 0) (.int 0)]) (.blt .len #[.v 2])) (.blt .len #[.v 3]))) #[.aug 4 .Mult (.v 1)],.ret (.v 4)]
noncomputable def jdt:Ss:=(.cons (.asg (.n 4) (.int 1)) jds)
noncomputable def jfw:Fun:=⟨"size_of",["plan", "period", "stays"],["plan", "period", "stays", "free", "size", "turn"],(.cons (.asgC 3 (.lc [none,some 2] (.n 0) (.e (.call jcS #[.v 0])) #[.not (.call jdB #[.v 0,.v 1])] (.v 0))) jdt)⟩
noncomputable def jb2:Fun:=⟨"refuse_great",["plan", "period", "stays"],["plan", "period", "stays"],#[.ite (.cmp .Gt (.call jfc #[.v 0,.v 1,.v 2]) (.g 0)) #[.never] .nil]⟩
noncomputable def jdb:Fun:=⟨"first_void",["windows"],["windows", "s", "least", "most"],#[.fr (.t #[.n 1,.t #[.n 2,.n 3]]) (.enum (.v 0)) #[.ite (.cmp .Lt (.v 3) (.v 2)) #[.ret (.v 1)] .nil],.ret .non]⟩
noncomputable def jda:Fun:=⟨"first_wide",["forest", "windows"],["forest", "windows", "s", "way", "least", "most"],#[(.fr (.t #[.n 2,.n 3]) (.dv (.v 0)) #[.asg (.t #[.n 4,.n 5]) (.ix (.v 1) (.v 2)),.ite (.cmp .Lt (.v 4) (.v 5)) #[.ret (.v 2)] .nil]),.ret .non]⟩
noncomputable def jgZ:Fun:=⟨"halved",["windows", "s"],["windows", "s", "least", "most", "cut"],#[.asg (.t #[.n 2,.n 3]) (.ix (.v 0) (.v 1)),.asg (.n 4) (.bin .FloorDiv (.bin .Add (.v 2) (.v 3)) (.int 2)),(.ret (.tup #[.v 4,(.tup #[.call jbe #[.v 0,.v 1,.tup #[.v 2,.v 4]],.call jbe #[.v 0,.v 1,.tup #[.bin .Add (.v 4) (.int 1),.v 3]]])]))]⟩
noncomputable def jgi:Ss:=#[.ret (.tup #[.str "none",.tup #[.str "split",.v 7,.v 8,.ix (.v 10) (.int 0),.ix (.v 10) (.int 1)]])]
noncomputable def jgj:Ss:=(.cons (.fr (.n 11) (.e (.v 9)) #[.asg (.t #[.n 12,.n 13]) (.call jgD #[.v 0,.v 1,.v 2,.v 3,.v 4,.v 11]),.ite (.cmp .Eq (.v 12) (.str "times")) #[.ret (.tup #[.str "times",.v 13])] .nil,.expr (.meth .append (.v 10) #[.v 13])]) jgi)
noncomputable def jgk:Ss:=(.cons (.asg (.n 10) (.lst .nil)) jgj)
noncomputable def jgl:Ss:=(.cons (.asg (.t #[.n 8,.n 9]) (.call jgE #[.v 5,.v 7])) jgk)
noncomputable def jeC:Ss:=(.cons (.ite (.cmp .Is (.v 7) .non) #[.ret (.tup #[.str "times",.v 5])] .nil) jgl)
noncomputable def jgm:Ss:=(.cons (.asg (.n 7) (.call jc2 #[.v 3,.v 5])) jeC)
noncomputable def jkN:Fun:=⟨"seek",["plan", "period", "beats", "forest", "rings", "windows"],["plan", "period", "beats", "forest", "rings", "windows", "ring", "s", "cut", "sides", "cases", "side", "word", "found"],(.cons (.fr (.n 6) (.e (.v 4)) #[.ite (.call jdC #[.v 0,.v 1,.v 2,.v 5,.v 6]) #[.ret (.tup #[.str "none",.tup #[.str "ring",.v 6]])] .nil]) jgm)⟩
noncomputable def jaM:Ss:=#[.ret (.tup #[.str "times",.v 6])]
noncomputable def jav:Ss:=(.cons (.fr (.n 7) (.e (.call jcS #[.v 0])) #[.asg (.n 8) (.call ja4 #[.v 0,.bop false (.call jdB #[.v 7,.v 3]) #[.sl (.v 7) .no (.so (.int 1))]]),(.asg (.t #[.n 9,.n 10]) (.call jgD #[.v 0,.v 1,.v 6,.v 8,.call jbL #[.v 0,.v 7,.v 8],.v 4])),.ite (.cmp .Eq (.v 9) (.str "none")) #[.ret (.tup #[.str "none",.v 10])] .nil,.asg (.n 6) (.call jcs #[.v 0,.v 1,.v 6,.v 8,.lc [none,none] (.t #[.n 0,.n 1]) (.e (.v 10)) .nil (.v 0)])]) jaM)
noncomputable def jaN:Ss:=(.cons (.asg (.n 6) (.mkT (.lc [none,some 2,some 3] (.n 0) (.r1 (.blt .len #[.ix (.v 0) (.int 0)])) .nil (.ife (.cmp .In (.v 0) (.v 2)) (.ix (.v 1) (.v 0)) (.int 0))))) jav)
noncomputable def jaw:Ss:=(.cons (.ite (.cmp .IsNot (.v 5) .non) #[(.ret (.tup #[.str "none",(.tup #[.str "ring",(.tup #[.tup #[.v 5,.int 1],.tup #[.v 5,.neg (.int 1)]])])]))] .nil) jaN)
noncomputable def jaO:Ss:=(.cons (.asg (.n 5) (.call jc3 #[.v 4])) jaw)
noncomputable def jaP:Ss:=(.cons (.asg (.n 4) (.call jc1 #[.v 0,.v 1])) jaO)
noncomputable def ja3:Fun:=⟨"times_or_none_with",["plan", "period", "beats", "stays"],["plan", "period", "beats", "stays", "windows", "void", "times", "part", "forest", "word", "found"],(.cons (.expr (.call jb0 #[.v 0,.v 1,.v 3])) jaP)⟩
noncomputable def jbP:Fun:=⟨"times_or_none",["plan", "period"],["plan", "period"],#[.ret (.call ja2 #[.v 0,.v 1,.tup .nil,.tup .nil])]⟩
noncomputable def jet:Fun:=⟨"_law_feed",["_law_script"],["_law_script"],#[(.ret (.dic #[.str "cells",.bin .Add (.mkL (.sl (.v 0) .no (.so (.int 63)))) (.bin .Mult (.lst #[.int 0]) (.blt .int #[.cmp .Eq (.blt .len #[.v 0]) (.int 0)])),.str "at",.int 0,.str "left",.int 0,.str "turn",.int 0]))]⟩
noncomputable def jev:Fun:=⟨"_law_draw",["_law_feed_here", "_law_many"],["_law_feed_here", "_law_many", "_law_cell", "_law_mixed", "_law_found"],#[.setS (.v 0) (.str "turn") (.bin .Add (.ix (.v 0) (.str "turn")) (.int 1)),(.ite (.cmp .Eq (.ix (.v 0) (.str "left")) (.int 0)) #[.asg (.n 2) (.ix (.ix (.v 0) (.str "cells")) (.bin .Mod (.ix (.v 0) (.str "at")) (.blt .len #[.ix (.v 0) (.str "cells")]))),.setS (.v 0) (.str "at") (.bin .Add (.ix (.v 0) (.str "at")) (.int 1)),.ite (.cmp .Lt (.v 2) (.bin .Pow (.int 10) (.int 18))) #[.asg (.n 3) (.bin .Mod (.bin .Mult (.bin .Add (.bin .Mod (.v 2) (.int 2147483629)) (.bin .Mult (.int 1019) (.ix (.v 0) (.str "turn")))) (.int 48271)) (.int 2147483647)),.asg (.n 3) (.bin .Mod (.bin .Mult (.bin .Add (.bin .FloorDiv (.v 3) (.int 13)) (.bin .Mult (.int 43) (.ix (.v 0) (.str "turn")))) (.int 69621)) (.int 2147483587)),.ret (.bin .Mod (.bin .FloorDiv (.v 3) (.int 11)) (.v 1))] .nil,.setS (.v 0) (.str "left") (.v 2)] .nil),.asg (.n 4) (.bin .Mod (.ix (.v 0) (.str "left")) (.v 1)),.setS (.v 0) (.str "left") (.bin .FloorDiv (.ix (.v 0) (.str "left")) (.v 1)),.ret (.v 4)]⟩
noncomputable def jd1:Fun:=⟨"_law_names",["_law_feed_here", "_law_many"],["_law_feed_here", "_law_many", "_law_some", "_law_first", "_law_step"],#[.asg (.n 2) (.lst #[.str "a",.str "ab",.str "abc",.str "b",.str "ba",.str "works",.str "span",.str "apart",.str "at",.str "none",.str "hold",.str "zzzzzzzz",.str "z",.str "o",.str "find"]),.asg (.n 2) (.bin .Add (.v 2) (.lst #[.str "late",.str "n"])),.asg (.n 3) (.call jaa #[.v 0,.int 17]),.asg (.n 4) (.bin .Add (.int 1) (.call jaa #[.v 0,.int 16])),.ret (.mkT (.lc [none,some 2,some 3,some 4] (.n 0) (.r1 (.v 1)) .nil (.ix (.v 1) (.bin .Mod (.bin .Add (.v 2) (.bin .Mult (.v 3) (.v 0))) (.int 17)))))]⟩
noncomputable def jc9:Fun:=⟨"_law_number",["_law_feed_here", "_law_cycle"],["_law_feed_here", "_law_cycle"],#[(.ret (.ix (.lst #[.int 0,.call jaa #[.v 0,.v 1],.call jaa #[.v 0,.v 1],.call jaa #[.v 0,.bin .Add (.bin .Mult (.int 3) (.v 1)) (.int 1)]]) (.call jaa #[.v 0,.int 4])))]⟩
noncomputable def jer:Fun:=⟨"_law_span",["_law_feed_here", "_law_works", "_law_cycle"],["_law_feed_here", "_law_works", "_law_cycle", "_law_one", "_law_other", "_law_low", "_law_wide"],#[(.par [3,4] #[.call jaa #[.v 0,.v 1],.call jaa #[.v 0,.v 1]]),.asg (.n 5) (.call jaF #[.v 0,.v 2]),.ite (.cmp .Eq (.call jaa #[.v 0,.int 3]) (.int 0)) #[.ret (.tup #[.str "apart",.v 3,.v 4,.v 5,.call jaF #[.v 0,.v 2]])] .nil,(.asg (.n 6) (.ix (.lst #[.int 0,.int 0,.int 1,.call jaa #[.v 0,.v 2],.bin .Sub (.v 2) (.int 1),.bin .Add (.v 2) (.call jaa #[.v 0,.int 5])]) (.call jaa #[.v 0,.int 6]))),.ret (.tup #[.str "span",.v 3,.v 4,.v 5,.bin .Add (.v 5) (.v 6)])]⟩
noncomputable def jcG:Fun:=⟨"_law_fitting",["_law_feed_here", "_law_beats", "_law_cycle"],["_law_feed_here", "_law_beats", "_law_cycle", "_law_one", "_law_other", "_law_gap", "_law_low", "_law_length"],#[(.par [3,4] #[.call jaa #[.v 0,.blt .len #[.v 1]],.call jaa #[.v 0,.blt .len #[.v 1]]]),.asg (.n 5) (.bin .Mod (.bin .Sub (.ix (.v 1) (.v 4)) (.ix (.v 1) (.v 3))) (.v 2)),(.ite (.cmp .Eq (.call jaa #[.v 0,.int 3]) (.int 0)) #[(.ret (.tup #[.str "apart",.v 3,.v 4,.call jaa #[.v 0,.bin .Add (.v 5) (.int 1)],.call jaa #[.v 0,.bin .Add (.bin .Sub (.v 2) (.v 5)) (.int 1)]]))] .nil),.asg (.n 6) (.call jaF #[.v 0,.v 2]),.asg (.n 7) (.bin .Add (.v 6) (.bin .Mod (.bin .Sub (.v 5) (.v 6)) (.v 2))),.ret (.tup #[.str "span",.v 3,.v 4,.v 6,.bin .Add (.v 7) (.ix (.lst #[.int 0,.int 0,.int 1,.call jaa #[.v 0,.v 2]]) (.call jaa #[.v 0,.int 4]))])]⟩
noncomputable def jbz:Ss:=#[(.ite (.bop true (.cmp2 .Lt .Lt (.int 0) (.blt .len #[.v 5]) (.int 24)) #[.cmp .Eq (.call jaa #[.v 0,.int 6]) (.int 0)]) #[(.expr (.meth .insert (.v 5) #[.call jaa #[.v 0,.bin .Add (.blt .len #[.v 5]) (.int 1)],.ix (.v 5) (.int 0)]))] .nil),(.ret (.tup #[.call jb6 #[.v 0,.v 1],.mkT (.v 5)]))]
noncomputable def jes:Fun:=⟨"_law_plan",["_law_feed_here", "_law_works", "_law_most", "_law_cycle"],["_law_feed_here", "_law_works", "_law_most", "_law_cycle", "_law_beats", "_law_spans", "_law_k"],(.cons (.asgC 4 (.lc [none,some 0,some 3] (.n 0) (.r1 (.v 1)) .nil (.call jaa #[.v 1,.v 2]))) (.cons (.asg (.n 5) (.lst .nil)) (.cons (.fr (.n 6) (.r1 (.call jaa #[.v 0,.bin .Add (.v 2) (.int 1)])) #[.ite (.cmp .Gt (.call jaa #[.v 0,.int 5]) (.int 0)) #[.expr (.meth .append (.v 5) #[.call jbg #[.v 0,.v 4,.v 3]])] #[.expr (.meth .append (.v 5) #[.call jei #[.v 0,.v 1,.v 3]])]]) jbz)))⟩
noncomputable def jcd:Ss:=#[(.ret (.tup #[.sl (.tup #[.str "a",.str "ab",.str "b",.str "ba",.str "abc",.str "z",.str "n",.str "at"]) .no (.so (.v 1)),.mkT (.v 5)]))]
noncomputable def jbn:Ss:=#[.ite (.cmp .Lt (.v 7) (.int 3)) #[.expr (.meth .append (.v 5) #[.call jbg #[.v 0,.v 4,.v 3]])] #[.ite (.cmp .Lt (.v 7) (.int 5)) #[.expr (.meth .append (.v 5) #[.tup #[.str "span",.bin .Mod (.v 6) (.v 1),.v 9,.v 8,.bin .Add (.v 8) (.call jaa #[.v 0,.bin .Add (.int 1) (.bin .FloorDiv (.v 3) (.int 2))])]])] #[.expr (.meth .append (.v 5) #[.tup #[.str "apart",.v 9,.bin .Mod (.v 6) (.v 1),.v 8,.call jaF #[.v 0,.v 3]]])]]]
noncomputable def jdX:Fun:=⟨"_law_tight",["_law_feed_here", "_law_works", "_law_most", "_law_cycle"],["_law_feed_here", "_law_works", "_law_most", "_law_cycle", "_law_beats", "_law_spans", "_law_k", "_law_way", "_law_low", "_law_other"],(.cons (.asgC 4 (.lc [none,some 0,some 3] (.n 0) (.r1 (.v 1)) .nil (.call jaa #[.v 1,.v 2]))) (.cons (.asg (.n 5) (.lst .nil)) (.cons (.fr (.n 6) (.r1 (.bin .Add (.int 1) (.call jaa #[.v 0,.v 2]))) (.cons (.asg (.n 7) (.call jaa #[.v 0,.int 6])) (.cons (.asg (.n 8) (.call jaF #[.v 0,.v 3])) (.cons (.asg (.n 9) (.bin .Mod (.bin .Add (.bin .Add (.v 6) (.int 1)) (.call jaa #[.v 0,.v 1])) (.v 1))) jbn)))) jcd)))⟩
noncomputable def jd3:Fun:=⟨"_law_end",["_law_cycle", "_law_span_here"],["_law_cycle", "_law_span_here", "_law_top"],#[.asg (.n 2) (.ife (.cmp .Eq (.ix (.v 1) (.int 0)) (.str "span")) (.ix (.v 1) (.int 4)) (.bin .Sub (.v 0) (.ix (.v 1) (.int 4)))),.ret (.blt .min #[.v 2,.bin .Sub (.bin .Add (.ix (.v 1) (.int 3)) (.v 0)) (.int 1)])]⟩
noncomputable def jcj:Ss:=#[(.fr (.n 4) (.r1 (.blt .len #[.ix (.v 0) (.int 1)])) #[.asg (.t #[.n 5,.n 6,.n 7,.n 8,.n 9]) (.ix (.ix (.v 0) (.int 1)) (.v 4)),.asg (.n 10) (.bin .Mod (.bin .Sub (.bin .Sub (.ix (.v 2) (.v 7)) (.ix (.v 2) (.v 6))) (.v 8)) (.v 1)),.ite (.cmp .Gt (.bin .Add (.v 8) (.v 10)) (.call jcr #[.v 1,.ix (.ix (.v 0) (.int 1)) (.v 4)])) #[.expr (.meth .append (.v 3) #[.v 4])] .nil]),.ret (.v 3)]
noncomputable def jd2:Fun:=⟨"_law_lacks",["_law_plan_here", "_law_cycle", "_law_beats"],["_law_plan_here", "_law_cycle", "_law_beats", "_law_found", "_law_s", "_law_word", "_law_one", "_law_other", "_law_low", "_law_high", "_law_gap"],(.cons (.asg (.n 3) (.lst .nil)) jcj)⟩
noncomputable def jch:Ss:=#[.ret (.blt .sorted #[.v 1])]
noncomputable def jbo:Ss:=#[.expr (.meth .append (.v 1) #[.blt .sorted #[.v 8]])]
noncomputable def jbp:Ss:=(.cons (.fr (.n 9) (.e (.v 7)) #[.asg (.n 8) (.bin .Add (.v 8) (.v 9))]) jbo)
noncomputable def jbq:Ss:=(.cons (.asg (.n 8) (.lst .nil)) jbp)
noncomputable def jbr:Ss:=(.cons (.asgC 1 (.lc [none,some 7] (.n 0) (.e (.v 1)) #[.cmp .NotIn (.v 0) (.v 1)] (.v 0))) jbq)
noncomputable def jaW:Ss:=(.cons (.asg (.n 7) (.lc [none,some 3,some 4] (.n 0) (.e (.v 1)) #[.bop false (.cmp .In (.v 1) (.v 0)) #[.cmp .In (.v 2) (.v 0)]] (.v 0))) jbr)
noncomputable def jci:Ss:=(.cons (.fr (.t #[.n 2,.n 3,.n 4,.n 5,.n 6]) (.e (.ix (.v 0) (.int 1))) jaW) jch)
noncomputable def jd0:Fun:=⟨"_law_parts",["_law_plan_here"],["_law_plan_here", "_law_found", "_law_word", "_law_one", "_law_other", "_law_low", "_law_high", "_law_mine", "_law_whole_here", "_law_part"],(.cons (.asgC 1 (.lc [none] (.n 0) (.r1 (.blt .len #[.ix (.v 0) (.int 0)])) .nil (.lst #[.v 0]))) jci)⟩
noncomputable def jdu:Ss:=#[.ret (.lc [none,some 0,some 1] (.n 0) (.e (.v 3)) #[.cmp .Eq (.call jbf #[.v 1,.v 2,.v 0]) (.lst .nil)] (.v 0))]
noncomputable def jbX:Ss:=#[.asg (.n 3) (.v 5)]
noncomputable def jaQ:Ss:=#[.expr (.meth .extend (.v 5) #[.lc [none,some 6] (.n 0) (.r1 (.ife (.cmp .In (.v 4) (.v 2)) (.int 1) (.v 1))) .nil (.bin .Add (.v 1) (.tup #[.v 0]))])]
noncomputable def jbY:Ss:=(.cons (.asg (.n 5) (.lst .nil)) (.cons (.fr (.n 6) (.e (.v 3)) jaQ) jbX))
noncomputable def jdv:Ss:=(.cons (.fr (.n 4) (.r1 (.blt .len #[.ix (.v 0) (.int 0)])) jbY) jdu)
noncomputable def jdw:Ss:=(.cons (.asg (.n 3) (.lst #[.tup .nil])) jdv)
noncomputable def jfy:Fun:=⟨"_law_all",["_law_plan_here", "_law_cycle"],["_law_plan_here", "_law_cycle", "_law_firsts", "_law_found", "_law_work", "_law_longer", "_law_ahead"],(.cons (.asgC 2 (.lc [none] (.n 0) (.e (.call jdH #[.v 0])) .nil (.ix (.v 0) (.int 0)))) jdw)⟩
noncomputable def jcE:Fun:=⟨"_law_windows",["_law_plan_here", "_law_cycle"],["_law_plan_here", "_law_cycle"],#[.ret (.mkT (.lc [none,some 1] (.n 0) (.e (.ix (.v 0) (.int 1))) .nil (.tup #[.ix (.v 0) (.int 3),.call jcr #[.v 1,.v 0]])))]⟩
noncomputable def jdW:Fun:=⟨"_law_whole",["_law_thing", "_law_first", "_law_last"],["_law_thing", "_law_first", "_law_last"],#[(.ret (.bop true (.blt .isi #[.v 0,.ty "int"]) #[.not (.blt .isi #[.v 0,.ty "bool"]),.cmp2 .LtE .LtE (.v 1) (.v 0) (.v 2)]))]⟩
noncomputable def jcX:Ss:=#[.asg (.n 3) (.ix (.ix (.v 0) (.int 1)) (.ix (.v 2) (.int 0))),.ret (.ife (.cmp .Eq (.ix (.v 2) (.int 1)) (.int 1)) (.tup #[.ix (.v 3) (.int 1),.ix (.v 3) (.int 2)]) (.tup #[.ix (.v 3) (.int 2),.ix (.v 3) (.int 1)]))]
noncomputable def jcY:Ss:=(.cons (.ite (.bop false (.not (.call jaE #[.ix (.v 2) (.int 0),.int 0,.bin .Sub (.blt .len #[.ix (.v 0) (.int 1)]) (.int 1)])) #[.not (.call jaE #[.ix (.v 2) (.int 1),.neg (.int 1),.int 1]),.cmp .Eq (.ix (.v 2) (.int 1)) (.int 0)]) #[.ret .non] .nil) jcX)
noncomputable def jcZ:Ss:=(.cons (.ite (.cmp .Eq (.blt .len #[.v 2]) (.int 3)) #[.ite (.bop false (.not (.blt .isi #[.ix (.v 2) (.int 0),.ty "str"])) #[.cmp .NotEq (.ix (.v 2) (.int 0)) (.str "home")]) #[.ret .non] .nil,.ite (.cmp .In (.bl false) (.lc [none,some 1] (.n 0) (.e (.sl (.v 2) (.so (.int 1)) .no)) .nil (.bop true (.call jaE #[.v 0,.int 0,.int 7]) #[.cmp .In (.v 0) (.v 1)]))) #[.ret .non] .nil,.ret (.sl (.v 2) (.so (.int 1)) .no)] .nil) jcY)
noncomputable def jeu:Fun:=⟨"_law_ends",["_law_plan_here", "_law_stays", "_law_entry"],["_law_plan_here", "_law_stays", "_law_entry", "_law_span_here"],(.cons (.ite (.bop false (.not (.blt .isi #[.v 2,.ty "tuple"])) #[.cmp .NotIn (.blt .len #[.v 2]) (.tup #[.int 2,.int 3])]) #[.ret .non] .nil) jcZ)⟩
noncomputable def jbA:Ss:=#[.ret (.cmp .Eq (.lc [none,some 3] (.n 0) (.r1 (.blt .len #[.v 3])) #[.cmp .NotEq (.ix (.ix (.v 1) (.bin .Sub (.v 0) (.int 1))) (.int 1)) (.ix (.ix (.v 1) (.v 0)) (.int 0))] (.v 0)) (.lst .nil))]
noncomputable def jbB:Ss:=(.cons (.ite (.cmp .In .non (.v 3)) #[.ret (.bl false)] .nil) jbA)
noncomputable def jbC:Ss:=(.cons (.asg (.n 3) (.lc [none,some 0,some 1] (.n 0) (.e (.v 2)) .nil (.call jel #[.v 1,.v 2,.v 0]))) jbB)
noncomputable def jcF:Fun:=⟨"_law_is_ring",["_law_plan_here", "_law_stays", "_law_thing"],["_law_plan_here", "_law_stays", "_law_thing", "_law_spots"],(.cons (.ite (.bop false (.not (.blt .isi #[.v 2,.ty "tuple"])) #[.not (.cmp2 .LtE .LtE (.int 1) (.blt .len #[.v 2]) (.int 60))]) #[.ret (.bl false)] .nil) jbC)⟩
noncomputable def jcV:Ss:=#[.ret (.tup #[.v 3,.v 4])]
noncomputable def jcW:Ss:=(.cons (.fr (.n 5) (.e (.v 2)) #[.ite (.cmp .Eq (.blt .len #[.v 5]) (.int 3)) #[.asg (.n 3) (.bin .Sub (.bin .Add (.v 3) (.ix (.v 0) (.ix (.v 5) (.int 2)))) (.ix (.v 0) (.ix (.v 5) (.int 1)))),.asg (.n 4) (.bin .Sub (.bin .Add (.v 4) (.ix (.v 0) (.ix (.v 5) (.int 2)))) (.ix (.v 0) (.ix (.v 5) (.int 1))))] #[.ite (.cmp .Eq (.ix (.v 5) (.int 1)) (.int 1)) #[.asg (.n 3) (.bin .Add (.v 3) (.ix (.ix (.v 1) (.ix (.v 5) (.int 0))) (.int 0))),.asg (.n 4) (.bin .Add (.v 4) (.ix (.ix (.v 1) (.ix (.v 5) (.int 0))) (.int 1)))] #[.asg (.n 3) (.bin .Sub (.v 3) (.ix (.ix (.v 1) (.ix (.v 5) (.int 0))) (.int 1))),.asg (.n 4) (.bin .Sub (.v 4) (.ix (.ix (.v 1) (.ix (.v 5) (.int 0))) (.int 0)))]]]) jcV)
noncomputable def jeq:Fun:=⟨"_law_sums",["_law_beats", "_law_windows_here", "_law_ring"],["_law_beats", "_law_windows_here", "_law_ring", "_law_least", "_law_most", "_law_entry"],(.cons (.asg (.n 3) (.int 0)) (.cons (.asg (.n 4) (.int 0)) jcW))⟩
noncomputable def jew:Fun:=⟨"_law_bars",["_law_cycle", "_law_sums_here"],["_law_cycle", "_law_sums_here", "_law_least", "_law_most"],#[.asg (.t #[.n 2,.n 3]) (.v 1),.ret (.cmp .Lt (.bin .Mult (.bin .FloorDiv (.v 3) (.v 0)) (.v 0)) (.v 2))]⟩
noncomputable def jcb:Ss:=#[.ret .non]
noncomputable def jaS:Ss:=#[.asg (.n 6) (.bin .Add (.v 6) (.int 1))]
noncomputable def jaT:Ss:=(.cons (.ite (.cmp .Eq (.ix (.v 7) (.int 0)) (.str "ring")) #[.ite (.not (.call jcq #[.v 0,.v 3,.ix (.v 7) (.int 1)])) #[.ret (.tup #[.str "ring",.v 6])] .nil,.ite (.not (.call jem #[.v 1,.call jeh #[.v 2,.v 8,.ix (.v 7) (.int 1)]])) #[.ret (.tup #[.str "bar",.v 6])] .nil] #[.par [9,10] #[.ix (.v 7) (.int 1),.ix (.v 7) (.int 2)],.ite (.not (.call jaE #[.v 9,.int 0,.bin .Sub (.blt .len #[.ix (.v 0) (.int 1)]) (.int 1)])) #[.ret (.tup #[.str "span",.v 6])] .nil,.asg (.t #[.n 11,.n 12]) (.ix (.v 8) (.v 9)),.ite (.not (.call jaE #[.v 10,.v 11,.bin .Sub (.v 12) (.int 1)])) #[.ret (.tup #[.str "cut",.v 6])] .nil,.expr (.meth .append (.v 5) #[.tup #[.ix (.v 7) (.int 4),.bin .Add (.bin .Add (.sl (.v 8) .no (.so (.v 9))) (.tup #[.tup #[.bin .Add (.v 10) (.int 1),.v 12]])) (.sl (.v 8) (.so (.bin .Add (.v 9) (.int 1))) .no)]]),.expr (.meth .append (.v 5) #[.tup #[.ix (.v 7) (.int 3),.bin .Add (.bin .Add (.sl (.v 8) .no (.so (.v 9))) (.tup #[.tup #[.v 11,.v 10]])) (.sl (.v 8) (.so (.bin .Add (.v 9) (.int 1))) .no)]])]) jaS)
noncomputable def jaU:Ss:=(.cons (.ite (.cmp .NotIn (.tup #[.ix (.v 7) (.int 0),.blt .len #[.v 7]]) (.tup #[.tup #[.str "ring",.int 2],.tup #[.str "split",.int 5]])) #[.ret (.tup #[.str "shape",.v 6])] .nil) jaT)
noncomputable def jaV:Ss:=(.cons (.ite (.bop false (.not (.blt .isi #[.v 7,.ty "tuple"])) #[.cmp .Eq (.blt .len #[.v 7]) (.int 0),.not (.blt .isi #[.ix (.v 7) (.int 0),.ty "str"])]) #[.ret (.tup #[.str "shape",.v 6])] .nil) jaU)
noncomputable def jbm:Ss:=(.cons (.asg (.t #[.n 7,.n 8]) (.meth .pop (.v 5) .nil)) jaV)
noncomputable def jcc:Ss:=(.cons (.wh (.cmp .NotEq (.v 5) (.lst .nil)) jbm) jcb)
noncomputable def jdV:Fun:=⟨"_law_wrong",["_law_plan_here", "_law_cycle", "_law_beats", "_law_stays", "_law_thing"],["_law_plan_here", "_law_cycle", "_law_beats", "_law_stays", "_law_thing", "_law_line", "_law_at", "_law_node", "_law_windows_here", "_law_s", "_law_cut", "_law_least", "_law_most"],(.cons (.asg (.n 5) (.lst #[.tup #[.v 4,.call jcp #[.v 0,.v 1]]])) (.cons (.asg (.n 6) (.int 0)) jcc))⟩
noncomputable def jdY:Fun:=⟨"_law_small",["_law_feed_here"],["_law_feed_here", "_law_works", "_law_cycle"],#[(.ite (.cmp .Gt (.call jaa #[.v 0,.int 8]) (.int 0)) #[.asg (.n 1) (.ix (.lst #[.int 2,.int 3,.int 3,.int 4,.int 2,.int 1]) (.call jaa #[.v 0,.int 6])),(.ret (.tup #[.v 1,.bin .Add (.int 1) (.call jaa #[.v 0,.ix (.lst #[.int 12,.int 24,.int 6,.int 3]) (.bin .Sub (.v 1) (.int 1))]),.int 5]))] .nil),.asg (.n 1) (.bin .Add (.int 2) (.call jaa #[.v 0,.int 7])),.asg (.n 2) (.bin .Add (.int 1) (.call jaa #[.v 0,.ix (.lst #[.int 300,.int 17,.int 6,.int 4,.int 3,.int 2,.int 2]) (.bin .Sub (.v 1) (.int 2))])),.ret (.tup #[.v 1,.v 2,.ix (.lst #[.int 5,.int 12,.int 24]) (.call jaa #[.v 0,.int 3])])]⟩
noncomputable def jfx:Fun:=⟨"_law_far",["_law_feed_here", "_law_plan_here", "_law_cycle"],["_law_feed_here", "_law_plan_here", "_law_cycle", "_law_spans", "_law_word", "_law_one", "_law_other", "_law_low", "_law_high", "_law_by"],#[.asg (.n 3) (.lst .nil),(.fr (.t #[.n 4,.n 5,.n 6,.n 7,.n 8]) (.e (.ix (.v 1) (.int 1))) #[.asg (.n 9) (.int 0),.ite (.cmp .Eq (.v 4) (.str "span")) #[.asg (.n 9) (.bin .Mult (.v 2) (.call jaa #[.v 0,.bin .Add (.bin .FloorDiv (.bin .Sub (.int 9999) (.v 8)) (.v 2)) (.int 1)]))] .nil,.expr (.meth .append (.v 3) #[.tup #[.v 4,.v 5,.v 6,.bin .Add (.v 7) (.v 9),.bin .Add (.v 8) (.v 9)]])]),.ret (.tup #[.ix (.v 1) (.int 0),.mkT (.v 3)])]⟩
noncomputable def jbQ:Fun:=⟨"_law_some_plan",["_law_feed_here"],["_law_feed_here", "_law_works", "_law_cycle", "_law_most", "_law_plan_here"],#[.asg (.t #[.n 1,.n 2,.n 3]) (.call jdF #[.v 0]),.asg (.n 4) (.call jdE #[.v 0,.v 1,.v 3,.v 2]),.ite (.cmp .Eq (.call jaa #[.v 0,.int 6]) (.int 0)) #[.asg (.n 4) (.call jfd #[.v 0,.v 4,.v 2])] .nil,.ret (.tup #[.v 4,.v 2])]⟩
noncomputable def jck:Ss:=#[.ret (.v 2)]
noncomputable def jaX:Ss:=#[(.ite (.cmp .Eq (.ix (.v 3) (.int 0)) (.str "split")) #[.expr (.meth .append (.v 1) #[.tup #[.ix (.v 3) (.int 3),.bin .Add (.v 4) (.int 1)]]),.expr (.meth .append (.v 1) #[.tup #[.ix (.v 3) (.int 4),.bin .Add (.v 4) (.int 1)]])] .nil)]
noncomputable def jaY:Ss:=(.cons (.asg (.n 2) (.blt .max #[.v 2,.v 4])) jaX)
noncomputable def jbs:Ss:=(.cons (.asg (.t #[.n 3,.n 4]) (.meth .pop (.v 1) .nil)) jaY)
noncomputable def jcl:Ss:=(.cons (.wh (.cmp .NotEq (.v 1) (.lst .nil)) jbs) jck)
noncomputable def jd4:Fun:=⟨"_law_depth",["_law_cases"],["_law_cases", "_law_line", "_law_found", "_law_node", "_law_deep"],(.cons (.asg (.n 1) (.lst #[.tup #[.v 0,.int 1]])) (.cons (.asg (.n 2) (.int 0)) jcl))⟩
noncomputable def jce:Ss:=#[.ite (.cmp .In (.bl false) (.lc [none,some 1] (.n 0) (.e (.ix (.v 3) (.int 1))) .nil (.call jaE #[.v 0,.int 0,.bin .Sub (.v 1) (.int 1)]))) #[.ret (.bl false)] .nil,.ret (.cmp .Eq (.call jbf #[.v 0,.v 1,.ix (.v 3) (.int 1)]) (.lst .nil))]
noncomputable def jcf:Ss:=(.cons (.ite (.bop false (.cmp .NotEq (.ix (.v 3) (.int 0)) (.str "times")) #[.not (.blt .isi #[.ix (.v 3) (.int 1),.ty "tuple"]),.cmp .NotEq (.blt .len #[.ix (.v 3) (.int 1)]) (.blt .len #[.ix (.v 0) (.int 0)])]) #[.ret (.bl false)] .nil) jce)
noncomputable def jbb:Ss:=(.cons (.ite (.cmp .Eq (.v 4) (.lst .nil)) #[.ite (.cmp .NotEq (.ix (.v 3) (.int 0)) (.str "none")) #[.ret (.bl false)] .nil,.asg (.n 5) (.bin .Mult (.tup #[.int 0]) (.blt .len #[.ix (.v 0) (.int 0)])),.ite (.cmp .IsNot (.call jdD #[.v 0,.v 1,.v 5,.tup .nil,.ix (.v 3) (.int 1)]) .non) #[.ret (.bl false)] .nil,.ret (.cmp .LtE (.call jdI #[.ix (.v 3) (.int 1)]) (.int 100))] .nil) jcf)
noncomputable def jbc:Ss:=(.cons (.ite (.bop false (.not (.blt .isi #[.v 3,.ty "tuple"])) #[.cmp .NotEq (.blt .len #[.v 3]) (.int 2),.cmp .NotEq (.blt .repr #[.v 0]) (.v 2)]) #[.ret (.bl false)] .nil) jbb)
noncomputable def jbd:Ss:=(.cons (.asg (.n 4) (.call jfe #[.v 0,.v 1])) jbc)
noncomputable def jcg:Ss:=(.cons (.asg (.n 3) (.call jbJ #[.v 0,.v 1])) jbd)
noncomputable def jdZ:Fun:=⟨"_law_right",["_law_plan_here", "_law_cycle"],["_law_plan_here", "_law_cycle", "_law_kept", "_law_found", "_law_some", "_law_beats"],(.cons (.asg (.n 2) (.blt .repr #[.v 0])) jcg)⟩
noncomputable def jec:Ss:=#[.ite (.not (.call jdG #[.v 4,.v 5])) #[.ret (.bl false)] .nil]
noncomputable def jhG:Ss:=#[.fr (.t #[.n 4,.n 5]) (.e (.bin .Add (.v 2) (.sl (.v 2) .no (.so (.int 1))))) jec,.ret (.bl true)]
noncomputable def jcM:Ss:=#[.expr (.meth .append (.v 2) #[.tup #[.v 4,.v 5]])]
noncomputable def jcN:Ss:=(.cons (.ite (.cmp .Eq (.call jaa #[.v 1,.int 8]) (.int 0)) #[.asg (.n 5) (.bin .Add (.int 301) (.call jaa #[.v 1,.int 300])),.asg (.n 4) (.tup #[.ix (.v 4) (.int 0),.mkT (.lc [none,none,none,none,none] (.t #[.n 0,.n 1,.n 2,.n 3,.n 4]) (.e (.ix (.v 4) (.int 1))) .nil (.tup #[.v 0,.v 1,.v 1,.v 3,.v 4]))])] .nil) jcM)
noncomputable def jed:Ss:=(.cons (.ite (.cmp .Eq (.call jaa #[.v 1,.int 3]) (.int 0)) #[(.asg (.n 4) (.call jej #[.v 1,.blt .len #[.ix (.v 4) (.int 0)],.int 6,.v 5]))] .nil) jcN)
noncomputable def jcO:Ss:=(.cons (.asg (.t #[.n 4,.n 5]) (.call jbK #[.v 1])) jed)
noncomputable def jhH:Ss:=(.cons (.fr (.n 3) (.r1 (.int 3)) jcO) jhG)
noncomputable def jhI:Ss:=(.cons (.asg (.n 2) (.lst .nil)) jhH)
noncomputable def joM:Fun:=⟨"law",["_law_script"],["_law_script", "_law_feed_here", "_law_plans", "_law_k", "_law_plan_here", "_law_cycle"],(.cons (.asg (.n 1) (.call jek #[.v 0])) jhI)⟩
noncomputable def T:Tab:=⟨[jgY,jdT,jc8,jcD,jfz,jdc,jfu,jdU,jdd,jcH,jb3,jb4,jbR,jcI,jep,jfv,jfw,jb2,jdb,jda,jgZ,jkN,ja3,jbP,jet,jev,jd1,jc9,jer,jcG,jes,jdX,jd3,jd2,jd0,jfy,jcE,jdW,jeu,jcF,jeq,jew,jdV,jdY,jfx,jbQ,jd4,jdZ,joM],[(.int 300)],["MOST_SIZE"],[],[],[]⟩
def top (i:Nat):Stmt:=PySem.Challenge.pw_beatplans_k18_times_or_none.main.body.getD i (.Pass ⟨0,0,0,0⟩)
noncomputable abbrev s_top_of:Stmt:=top 4
noncomputable abbrev s_window_of:Stmt:=top 5
noncomputable abbrev s_windows_of:Stmt:=top 6
noncomputable abbrev s_with_window:Stmt:=top 7
noncomputable abbrev s_ends_of:Stmt:=top 9
noncomputable abbrev s_entry_sums:Stmt:=top 10
noncomputable abbrev s_sums_of:Stmt:=top 11
noncomputable abbrev s_ring_bars:Stmt:=top 12
noncomputable abbrev s_entries_to:Stmt:=top 14
noncomputable abbrev s_forest_from:Stmt:=top 15
noncomputable abbrev s_path_to_root:Stmt:=top 16
noncomputable abbrev s_closing_ring:Stmt:=top 17
noncomputable abbrev s_closing_rings:Stmt:=top 18
noncomputable abbrev s_beats_along:Stmt:=top 19
noncomputable abbrev s_parts_of:Stmt:=top 21
noncomputable abbrev s_staying:Stmt:=top 24
noncomputable abbrev s_size_of:Stmt:=top 25
noncomputable abbrev s_refuse_great:Stmt:=top 26
noncomputable abbrev s_first_void:Stmt:=top 27
noncomputable abbrev s_first_wide:Stmt:=top 28
noncomputable abbrev s_halved:Stmt:=top 29
noncomputable abbrev s_seek:Stmt:=top 30
noncomputable abbrev s_times_or_none_with:Stmt:=top 31
noncomputable abbrev s_times_or_none:Stmt:=top 32
noncomputable abbrev s_law_feed:Stmt:=top 34
noncomputable abbrev s_law_draw:Stmt:=top 35
noncomputable abbrev s_law_names:Stmt:=top 36
noncomputable abbrev s_law_number:Stmt:=top 37
noncomputable abbrev s_law_span:Stmt:=top 38
noncomputable abbrev s_law_fitting:Stmt:=top 39
noncomputable abbrev s_law_plan:Stmt:=top 40
noncomputable abbrev s_law_tight:Stmt:=top 41
noncomputable abbrev s_law_end:Stmt:=top 42
noncomputable abbrev s_law_lacks:Stmt:=top 43
noncomputable abbrev s_law_parts:Stmt:=top 44
noncomputable abbrev s_law_all:Stmt:=top 45
noncomputable abbrev s_law_windows:Stmt:=top 46
noncomputable abbrev s_law_whole:Stmt:=top 47
noncomputable abbrev s_law_ends:Stmt:=top 48
noncomputable abbrev s_law_is_ring:Stmt:=top 49
noncomputable abbrev s_law_sums:Stmt:=top 50
noncomputable abbrev s_law_bars:Stmt:=top 51
noncomputable abbrev s_law_wrong:Stmt:=top 52
noncomputable abbrev s_law_small:Stmt:=top 53
noncomputable abbrev s_law_far:Stmt:=top 54
noncomputable abbrev s_law_some_plan:Stmt:=top 55
noncomputable abbrev s_law_depth:Stmt:=top 56
noncomputable abbrev s_law_right:Stmt:=top 57
noncomputable abbrev s_law:Stmt:=top 58
end
local macro_rules
 |`(tactic| simp! only[$xs,*])=>`(tactic| try simp only[D_v,T_v,jrG,D_bl,jrO,jrD,D_g,T_g,D_ty,T_ty,jrU,jri,jrH,jrS,jrg,jpj,jo3,jrC,jrL,jrR,D_ix,T_ix,D_sl,jrE,jpk,jo4,jrT,jrh,jpi,D_lc,jrN,jrd,jrQ,jrf,jrM,jrc,jrK,jrb,jrJ,jrI,jrF,jra,jrP,jre,jpl,jrV,D_or,jrj,T_or,O_no,O_so,jrZ,jpo,jrX,jpm,jrq,jo8,I_e,I_r1,jo9,I_s,jrw,jph,I_dv,I_di,I_dk,jrk,jo6,jrp,jo7,jo5,jrm,jro,jrn,S_fr,jrl,jmE,S_tr,jrY,jpn,jq9,jq8,jo0,jq3,jq6,joY,joX,joZ,jq7,jq4,jq5,jq2,jqX,jq0,jqV,W_lt,W_le,W_gt,jqU,jqZ,joU,jqW,jq1,W_in,jqT,W_is,jqY,Y_bl,jqP,jqQ,jqO,jrt,jqR,jrz,jpb,jrx,jry,jrv,jkb,jrB,jrA,jqS,jo1,joW,joV,jpe,jpc,jpd,jpg,jpf,G_n,G_t,jru,jpa,sl_0,sl_s,dr_0,dr_s,pk_nil,jlp,jlo,jrr,jrs,jjZ,jqF,jmn,jmm,jqG,jmr,jmq,YaG,Yc6,Yf5,Ya8,YaA,Yc8,List.set_cons_zero,List.set_cons_succ,Yfz,List.zip_nil_right,List.zip_nil_left,Yeg,List.foldl_nil,List.getElem?_cons_zero,List.getElem?_cons_succ,Option.join_some,ite_true,ite_false,Ybw,Ybc,$xs,*])
section
variable {k:Nat}{G:Gp}{Q:K1}{X:KX}
def jae {f c:Addr}{m:Int}(hf:Fd G f c)(h0:0<m)(h1:m<1073741824)(q:∀(r:Int) (G':Gp),0<=r->r<m->Fd G' f c->Sm f G G'->Q (.int r) G'):jab T (k+1) jaa [.loc f,.int m] G Q X:=by
 obtain⟨ns,a,l,t,g1,g2,hn⟩:=hf.ex;have fin:∀(z a' l' t':Int),Q (.int (z%m)) (gup G f (.dK (fdU c a' l' t'))):=λz a' l' t'=>q _ _ (Ybg z (by omega)) (Ya2 z h0) (Fd.put ⟨rfl⟩ g1 g2 hn) Sm.put
 have hlen:0<ns.length:=List.length_pos_iff.mpr hn;have gc:∀kvs,gup G f (.dK kvs) c=some (.lst (ns.map .int)):=λkvs=>by rw[jbx (λz=>by rw[z,g1]at g2;cases g2)];exact g2
 obtain⟨z,hz,ez⟩:=jfH (l:=ns) (r:=a%ns.length) (Ybg _ (by omega)) (Ya2 _ (by omega))
 refine⟨rfl,?_⟩;simp! only[jev,jad,Yad,ix_d g1 jkD,ji9 g1,jbH,jko,jgT,true_and,jfh (gc _),Yaa,ix_l (gc _) ((jbT U.int ns _).trans (congrArg _ ez))];have cut:∀(l' a' t':Int),(0<m/\0<m/\m<1073741824/\Q (.int (l'%m)) (gup G f (.dK (fdU c a' (l'/m) t')))):=λl' a' t'=>⟨h0,h0,by omega,fin _ _ _ _⟩
 by_cases hl:l=0
 ·rw[if_pos (by simpa using hl)]
  refine⟨by omega,by constructor<;>decide,?_⟩
  by_cases hc:z<10 ^ Int.toNat 18
  ·rw[if_pos (by simpa using hc)]
   exact⟨by decide,.inl (by decide),.inr (by decide),by decide,by decide,by decide,.inl (by decide),.inr (by decide),by decide,by decide,by decide,h0,fin _ _ _ _⟩
  ·rw[if_neg (by simpa using hc)]
   exact cut _ _ _
 ·rw[if_neg (by simpa using hl)]
  exact cut _ _ _
def jlQ {a:Addr}{ns:List Int}(ha:G a=some (.fro (ns.map .int)))(hl:ns.length<=63)(q:∀(f c:Addr) (G':Gp),Fd G' f c->Q (.loc f) G'):jab T (k+1) jek [.loc a] G Q X:=by
 have hcl:(cut ns none (some 63)).length<=63:=by rw[show(63:Int)=((63:Nat):Int)from rfl,jd6];simp;omega
 refine⟨rfl,?_⟩;simp! only[jet,jad,Yad,sl_f ha,jmy];intro p1 G1 n1;rw[it_l n1.at];intro p2 G2 n2;refine⟨by decide,λp3 G3 n3=>?_⟩
 simp! only[jqv (n3.sa _ _ (n2.sa _ _ (n1.sa _ _ ha)))];obtain⟨zs,ez,lz,hz⟩:∃zs:List Int,(Yad (Int.toNat (if decide (((ns.map U.int).length:Int)=0)=true then 1 else 0)) [U.int 0]).flatten=zs.map U.int/\zs.length<=1/\(ns=[]->zs≠[]):=by
  by_cases h:ns=[]
  ·subst h;exact⟨[0],rfl,by decide,λ_=>by simp⟩
  ·refine⟨[],?_,by decide,λz=>absurd z h⟩
   rw[if_neg (by simpa using h)]
   rfl
 refine⟨_,n3.at,by split<;>decide,by split<;>decide,by split<;>decide,λp4 G4 n4=>?_⟩
 rw[ez]at n4;refine⟨_,_,n4.sa _ _ (n3.sa _ _ n2.at),n4.at,?_,λp5 G5 n5=>⟨by decide,λp6 G6 n6=>?_⟩⟩
 ·rw[Yaa,Yaa];exact Yah (Nat.add_le_add hcl lz) (by decide:63+1<=Yak)
 rw[joa]at n6;rw[<- Yap]at n5;refine q _ p5 _ ⟨_,0,0,0,n6.at,n6.sa _ _ n5.at,λz=>?_⟩;obtain⟨z1,z2⟩:=List.append_eq_nil_iff.mp z;refine hz ?_ z2;rw[show(63:Int)=((63:Nat):Int)from rfl,jd6]at z1;cases ns with
 |nil=>rfl
 |cons _ _=>cases z1
end

structure Nm (x:Str):Prop where
 l8:x.length<=8
 ch:∀c∈x.cps.toList,c<128
structure Spn where
 w:Str
 o:Nat
 t:Nat
 lo:Int
 hi:Int
noncomputable def Spn.u (s:Spn):U:=.tup [.str s.w,.int s.o,.int s.t,.int s.lo,.int s.hi]
structure Spn.Ok (W:Nat)(s:Spn):Prop where
 w:s.w = "apart" \/ s.w = "span"
 o:s.o<W
 t:s.t<W
 lo:0<=s.lo/\s.lo<=9999
 hi:0<=s.hi/\s.hi<=9999
noncomputable def jaq (l:List Int):U:=.tup (l.map .int)
def jhy {x:Str}(h:x = "apart" \/ x = "span"):x.length<=8/\∀c∈x.cps.toList,c<128:=by
 rcases h with rfl|rfl
 ·exact⟨by decide +kernel,by decide +kernel⟩
 ·exact⟨by decide +kernel,by decide +kernel⟩
def jox {i:Int}(h:-100000<=i/\i<=100000):Ft 1921 0 (.int i):=Ft.int (YaF (show i.natAbs<=100000 by omega) (by decide))
def Spn.Ok.ft {W:Nat}{s:Spn}(h:s.Ok W)(hW:W<=8):Ft 10000 1 s.u:=by
 have:=h.o;have:=h.t;have:=h.lo;have:=h.hi;refine Ft.tup (n:=1921) (m:=5) (Yaf _) (λu hu=>?_) (by decide)
 simp only[YaM,Yaw,or_false]at hu;rcases hu with rfl|rfl|rfl|rfl|rfl
 ·exact(Ft.str (m:=8) (jhy h.w).1 (jhy h.w).2).mono (by decide) (Yaf _)
 all_goals exact jox (by omega)

noncomputable def menu:List Str:=["a", "ab", "abc", "b", "ba", "works", "span", "apart", "at", "none", "hold", "zzzzzzzz", "z", "o", "find", "late", "n"]
def jlX:∀x∈menu,Nm x:=by
 have h:∀x∈menu,x.length<=8/\∀c∈x.cps.toList,c<128:=by decide +kernel
 exact λx hx=>⟨(h x hx).1,(h x hx).2⟩
noncomputable def jac (xs:List Str)(ss:List Spn):U:=.tup [.tup (xs.map .str),.tup (ss.map Spn.u)]
def jqx {a:Addr}{xs:List U}{i:Int}{v:U}{G:Gp}{Q:K1}(g:G a=some (.lst xs)):jaL .insert (.loc a) [.int i,v] G Q=(0<=i/\i<=xs.length/\xs.length<Yak/\putO G a (.lst (xs.take i.toNat++v::xs.drop i.toNat)) (Q .non)):=by unfold jaL jf0;dsimp only;rw[g]
def jn8 {a:Addr}{xs:List U}{G:Gp}(g:G a=some (.lst xs)):mtU .insert (.loc a) G=some ("list", "list.insert"):=by unfold mtU;dsimp only;rw[g]
section
variable {k:Nat}{G:Gp}{Q:K1}{X:KX}
def jjD {f c:Addr}{m:Nat}(hf:Fd G f c)(h1:m<=8)(q:∀(xs:List Str) (G':Gp),xs.length=m->(∀x∈xs,Nm x)->Fd G' f c->Sm f G G'->Q (.tup (xs.map .str)) G'):jab T (k+2) jb6 [.loc f,.int m] G Q X:=by
 refine⟨rfl,?_⟩;simp! only[jd1,jad,Yad];refine⟨by decide,λp G1 n1=>⟨by decide,λp2 G2 n2=>⟨_,_,n2.sa _ _ n1.at,n2.at,by decide,λp3 G3 n3=>?_⟩⟩⟩
 have f3:=((hf.new n1).new n2).new n3;have s3:Sm f G G3:=n1.sa.sm.trans (n2.sa.sm.trans n3.sa.sm);have hp:=((hf.new n1).new n2).away n3;have g3:G3 p3=some (.lst (menu.map .str)):=n3.at
 refine jae f3 (by decide) (by decide) λfirst G4 a4 b4 f4 s4=>jae f4 (by decide) (by decide) λr5 G5 a5 b5 f5 s5=>?_
 have g5:=s5 _ _ hp.1 (s4 _ _ hp.1 g3);simp! only[];refine⟨by omega,by omega,by rw[jal];exact Yah (show((m:Int)).toNat<=8 by omega) (by decide),?_⟩
 refine jak (λi acc G'=>G'=G5/\∃xs:List Str,acc=xs.map .str/\xs.length=i/\∀x∈xs,Nm x) ?_ ?_ ⟨rfl,[],rfl,rfl,λ_ h=>nomatch h⟩
 ·rintro acc G' ⟨rfl,xs,rfl,hl,hx⟩;rw[jal]at hl;refine⟨trivial,λp6 G6 n6=>?_⟩;simp! only[it_l n6.at];exact q xs G6 (by omega) hx (f5.new n6) ((s3.trans (s4.trans s5)).nw n6)
 ·rintro i x acc G' K hx ⟨rfl,xs,rfl,hl,hn⟩ hk _;obtain⟨hi,rfl⟩:=jaI hx;simp! only[];obtain⟨y,hy,ey⟩:=jfH (l:=menu) (r:=(first+(1+r5)*(i:Int))%17) (Ybg _ (by decide)) (Ya2 _ (by decide))
  refine⟨trivial,.inr (by constructor<;>omega),by decide,?_⟩
  rw[ix_l g5 ((jbT U.str menu _).trans (congrArg _ ey))];exact hk _ _ ⟨rfl,xs++[y],by simp,by simp[hl],λz hz=>by
   rcases List.mem_append.mp hz with z'|z'
   ·exact hn z z'
   ·rw[List.mem_singleton.mp z'];exact jlX y hy⟩
def jbI {f c:Addr}{P:Int}(hf:Fd G f c)(h1:1<=P)(h2:P<=600)(q:∀(z:Int) (G':Gp),0<=z->z<=1801->Fd G' f c->Sm f G G'->Q (.int z) G'):jab T (k+2) jaF [.loc f,.int P] G Q X:=by
 refine⟨rfl,?_⟩;simp! only[jc9,jad,Yad];refine jae hf (by omega) (by omega) λr1 G1 a1 b1 f1 s1=>jae f1 (by omega) (by omega) λr2 G2 a2 b2 f2 s2=>⟨.inl (by decide),jae f2 (by omega) (by omega) λr3 G3 a3 b3 f3 s3=>⟨by decide,λp G4 n4=>jae (f3.new n4) (by decide) (by decide) λr5 G5 a5 b5 f5 s5=>?_⟩⟩
 refine jcz [0,r1,r2,r3] (s5 _ _ (f3.away n4).1 n4.at) a5 b5 λz hz=>?_;have:0<=z/\z<=1801:=by simp only[YaM,Yaw,or_false]at hz;omega
 exact q z _ this.1 this.2 f5 (((s1.trans (s2.trans s3)).nw n4).trans s5)
def jlM {f c:Addr}{P:Int}{W:Nat}(hf:Fd G f c)(h1:1<=P)(h2:P<=600)(w0:0<W)(w8:W<=8)(q:∀(s:Spn) (G':Gp),s.Ok W->Fd G' f c->Sm f G G'->Q s.u G'):jab T (k+3) jei [.loc f,.int W,.int P] G Q X:=by
 refine⟨rfl,?_⟩;simp! only[jer,jad,Yad];refine jae hf (by omega) (by omega) λo' Ga aa ba fa sa=>jae fa (by omega) (by omega) λt' Gb ab bb fb sb=>?_
 obtain⟨o,rfl⟩:=YaB aa;obtain⟨t,rfl⟩:=YaB ab;refine⟨trivial,?_⟩;refine jbI fb h1 h2 λlo G1 a1 b1 f1 s1=>?_;refine jae f1 (by decide) (by decide) λr G2 a2 b2 f2 s2=>?_
 have S2:=sa.trans (sb.trans (s1.trans s2));simp! only[];by_cases hr:r=0
 ·rw[if_pos (by simpa using hr)]
  refine jbI f2 h1 h2 λhi G3 a3 b3 f3 s3=>⟨by decide,?_⟩
  exact q ⟨"apart",o,t,lo,hi⟩ _ ⟨.inl rfl,by dsimp only;omega,by dsimp only;omega,by dsimp only;omega,by dsimp only;omega⟩ f3 (S2.trans s3)
 ·rw[if_neg (by simpa using hr)]
  refine jae f2 (by omega) (by omega) λr3 G3 a3 b3 f3 s3=>jae f3 (by decide) (by decide) λr4 G4 a4 b4 f4 s4=>⟨by decide,λp G5 n5=>jae (f4.new n5) (by decide) (by decide) λr6 G6 a6 b6 f6 s6=>?_⟩
  refine jcz [0,0,1,r3,P-1,P+r4] (s6 _ _ (f4.away n5).1 n5.at) a6 b6 λz hz=>?_;have hz':0<=z/\z<=700:=by simp only[YaM,Yaw,or_false]at hz;omega
  simp! only[];exact⟨by decide,q ⟨"span",o,t,lo,lo+z⟩ _ ⟨.inr rfl,by dsimp only;omega,by dsimp only;omega,by dsimp only;omega,by dsimp only;omega⟩ f6 ((S2.trans (s3.trans s4)).nw n5 |>.trans s6)⟩
def jeg {f c pb:Addr}{P:Int}{W:Nat}{bs:List Int}(hf:Fd G f c)(h1:1<=P)(h2:P<=600)(gb:G pb=some (.lst (bs.map .int)))(hb:pb≠f)(bl:bs.length=W)(w0:0<W)(w8:W<=8)(q:∀(s:Spn) (G':Gp),s.Ok W->(s.w = "span" -> s.lo<=s.hi)->Fd G' f c->Sm f G G'->Q s.u G'):jab T (k+3) jbg [.loc f,.loc pb,.int P] G Q X:=by
 refine⟨rfl,?_⟩;simp! only[jcG,jad,Yad,jfh gb,Yaa,bl];refine jae hf (by omega) (by omega) λo' Ga aa ba fa sa=>?_
 have ga:=sa _ _ hb gb;simp! only[jfh ga,Yaa,bl];refine jae fa (by omega) (by omega) λt' Gb ab bb fb sb=>?_
 have gb2:=sb _ _ hb ga;obtain⟨o,rfl⟩:=YaB aa;obtain⟨t,rfl⟩:=YaB ab;obtain⟨x,hx,ex⟩:=jfH (l:=bs) (r:=(t:Int)) ab (by omega)
 obtain⟨y,hy,ey⟩:=jfH (l:=bs) (r:=(o:Int)) aa (by omega)
 simp! only[ix_l gb2 ((jbT U.int bs _).trans (congrArg _ ex)),ix_l gb2 ((jbT U.int bs _).trans (congrArg _ ey))];refine⟨trivial,by omega,jae fb (by decide) (by decide) λr G2 a2 b2 f2 s2=>?_⟩
 have S2:=sa.trans (sb.trans s2);obtain⟨gap,hg⟩:∃gap,gap=(x-y)%P:=⟨_,rfl⟩;have g0:0<=gap:=by rw[hg];exact Ybg _ (by omega)
 have g1:gap<P:=by rw[hg];exact Ya2 _ (by omega)
 rw[<- hg];simp! only[];by_cases hr:r=0
 ·rw[if_pos (by simpa using hr)]
  refine jae f2 (by omega) (by omega) λlo G3 a3 b3 f3 s3=>jae f3 (by omega) (by omega) λhi G4 a4 b4 f4 s4=>⟨by decide,?_⟩
  exact q ⟨"apart",o,t,lo,hi⟩ _ ⟨.inl rfl,by dsimp only;omega,by dsimp only;omega,by dsimp only;omega,by dsimp only;omega⟩ (λz=>absurd (show("apart" : Str) = "span" from z) (by decide +kernel)) f4 (S2.trans (s3.trans s4))
 ·rw[if_neg (by simpa using hr)]
  refine jbI f2 h1 h2 λlo G3 a3 b3 f3 s3=>⟨by omega,jae f3 (by omega) (by omega) λr4 G4 a4 b4 f4 s4=>⟨by decide,λp G5 n5=>jae (f4.new n5) (by decide) (by decide) λr6 G6 a6 b6 f6 s6=>?_⟩⟩
  refine jcz [0,0,1,r4] (s6 _ _ (f4.away n5).1 n5.at) a6 b6 λz hz=>?_;have hz':0<=z/\z<=700:=by simp only[YaM,Yaw,or_false]at hz;omega
  have e0:0<=(gap-lo)%P:=Ybg _ (by omega)
  have e1:(gap-lo)%P<P:=Ya2 _ (by omega)
  simp! only[];exact⟨by decide,q ⟨"span",o,t,lo,lo+(gap-lo)%P+z⟩ _ ⟨.inr rfl,by dsimp only;omega,by dsimp only;omega,by dsimp only;omega,by dsimp only;omega⟩ (λ_=>by dsimp only;omega) f6 ((S2.trans (s3.trans s4)).nw n5 |>.trans s6)⟩
end

section
variable {k:Nat}{G:Gp}{Q:K1}{X:KX}
def jhS {f c p5:Addr}{P m:Int}{W:Nat}{ss:List Spn}{pb:Addr}{o6:Option U}{G0 G3:Gp}(s0:Sm f G G0)(n0:G0 p5=none)(hf:Fd G3 f c)(h5:p5≠f/\p5≠c)(g5:G3 p5=some (.lst (ss.map Spn.u)))(sl:ss.length<=24)(so:∀s∈ss,s.Ok W)(w8:W<=8)(s3:Sm f G G3)
  (q:∀(xs:List Str) (ss:List Spn) (G':Gp),xs.length=W->(∀x∈xs,Nm x)->ss.length<=24->(∀s∈ss,s.Ok W)->Fd G' f c->Sm f G G'->Q (jac xs ss) G') :
  jaR T.gs (jab T (k+3)) jbz ⟨λ_ G'=>Q .non G',Q,λx _ G'=>X x G'⟩ [some (.loc f),some (.int W),some (.int m),some (.int P),some (.loc pb),some (.loc p5),o6] G3:=by
 have fin:∀(ss:List Spn) (G4:Gp),G4 p5=some (.lst (ss.map Spn.u))->ss.length<=24->(∀s∈ss,s.Ok W)->Fd G4 f c->Sm f G G4->jab T (k+3) jb6 [.loc f,.int W] G4 (λx G1=>itU (.loc p5) G1 λxs _=>0+1+1<=Yak/\Q (.tup [x,.tup xs]) G1) X:=λss G4 g4 l4 o4 f4 s4=>by
  refine jjD f4 w8 λxs G5 lx nx f5 s5=>?_;rw[it_l (s5 _ _ h5.1 g4)];exact⟨by decide,q xs ss _ lx nx l4 o4 f5 (s4.trans s5)⟩
 simp! only[jbz,jfh g5,Yaa];by_cases z1:(0:Int)<ss.length
 ·rw[if_pos (by simpa using z1)]
  by_cases z2:(ss.length:Int)<24
  ·rw[if_pos (by simpa using z2)]
   refine jae hf (by decide) (by decide) λr G4 a4 b4 f4 s4=>?_
   have g4:=s4 _ _ h5.1 g5;simp! only[];by_cases hr:r=0
   ·rw[if_pos (by simpa using hr)]
    simp! only[jn8 g4,jfh g4,Yaa];refine jae f4 (by omega) (by omega) λr5 G5 a5 b5 f5 s5=>?_
    have g5':=s5 _ _ h5.1 g4;obtain⟨x,hx⟩:∃x,ss[0]?=some x:=⟨ss[0]'(by omega),Yab _⟩
    have ox:=so x (Yam hx);rw[ix_l g5' (show atI (ss.map Spn.u) 0=some x.u from(jbT Spn.u ss _).trans (congrArg _ (jat (j:=0) hx))),jqx g5'];obtain⟨j,rfl⟩:=YaB a5;refine⟨by omega,by rw[Yaa];omega,by rw[Yaa];exact YaF sl (by decide),λG6 p6=>?_⟩
    have e:(ss.map Spn.u).take (j:Int).toNat++x.u::(ss.map Spn.u).drop (j:Int).toNat=(ss.take j++x::ss.drop j).map Spn.u:=by
     rw[Ybc,Yap,Ycy,YaG,YdA]
    rw[e]at p6;refine fin (ss.take j++x::ss.drop j) G6 p6.at ?_ (λs hs=>?_) (f5.off h5 p6) (Sm.wr s0 n0 (s3.trans (s4.trans s5)) p6)
    ·simp;omega
    ·rcases List.mem_append.mp hs with z|z
     ·exact so s (Yb7 z)
     ·rcases YaM.mp z with rfl|z
      ·exact ox
      ·exact so s (List.mem_of_mem_drop z)
   ·rw[if_neg (by simpa using hr)]
    exact fin ss G4 g4 sl so f4 (s3.trans s4)
  ·rw[if_neg (by simpa using z2)]
   exact fin ss G3 g5 sl so hf s3
 ·rw[if_neg (by simpa using z1)]
  exact fin ss G3 g5 sl so hf s3
def jlO {f c:Addr}{P m:Int}{W:Nat}(hf:Fd G f c)(h1:1<=P)(h2:P<=600)(w0:0<W)(w8:W<=8)(m0:0<=m)(m1:m<=24)
  (q:∀(xs:List Str) (ss:List Spn) (G':Gp),xs.length=W->(∀x∈xs,Nm x)->ss.length<=24->(∀s∈ss,s.Ok W)->Fd G' f c->Sm f G G'->Q (jac xs ss) G'):jab T (k+4) jej [.loc f,.int W,.int m,.int P] G Q X:=by
 refine⟨rfl,?_⟩;simp! only[jes,jad,Yad];refine⟨by omega,by omega,by rw[jal];exact Yah w8 (by decide),?_⟩
 refine jak (λi acc G'=>Fd G' f c/\Sm f G G'/\∃bs:List Int,acc=bs.map .int/\bs.length=i) ?_ ?_ ⟨hf,Sm.refl,[],rfl,rfl⟩
 ·rintro acc G1 ⟨f1,s1,bs,rfl,hl⟩;rw[jal]at hl;refine⟨trivial,λpb G2 n2=>?_⟩;simp! only[];refine⟨by decide,λp5 G3 n3=>?_⟩
  have f2:=f1.new n2;have hb:=f1.away n2;have h5:=f2.away n3;have s2:=s1.nw n2;refine jae (f2.new n3) (by omega) (by omega) λm' G4 a4 b4 f4 s4=>?_
  have hb5:p5≠pb:=ja0 n2.at n3.no;refine⟨by omega,by omega,?_⟩
  refine jar (λi ς G'=>∃(ss:List Spn) (o6:Option U),ς=[some (.loc f),some (.int W),some (.int m),some (.int P),some (.loc pb),some (.loc p5),o6]/\Fd G' f c/\Sm f G G'/\G' pb=some (.lst (bs.map .int))/\G' p5=some (.lst (ss.map Spn.u))/\ss.length=i/\∀s∈ss,s.Ok W) ?_ ?_
   ⟨[],_,rfl,f4,(s2.nw n3).trans s4,s4 _ _ hb.1 (n3.sa _ _ n2.at),s4 _ _ h5.1 n3.at,rfl,λ_ h=>nomatch h⟩
  ·rintro ς G5 ⟨ss,o6,rfl,f5,s5,gb,g5,l5,o5⟩;rw[jal]at l5;exact⟨trivial,jhS s2 n3.no f5 h5 g5 (by omega) o5 w8 s5 q⟩
  ·rintro i x ς G5 K hx ⟨ss,o6,rfl,f5,s5,gb,g5,l5,o5⟩ hk;obtain⟨hi,rfl⟩:=jaI hx;refine⟨trivial,?_⟩;simp! only[];have add:∀(s:Spn) (G6:Gp),s.Ok W->Fd G6 f c->Sm f G5 G6->jaL .append (.loc p5) [s.u] G6 λ_ G1=>K [some (.loc f),some (.int W),some (.int m),some (.int P),some (.loc pb),some (.loc p5),some (.int i)] G1:=λs G6 os f6 s6=>by
    have g6:=s6 _ _ h5.1 g5;rw[jby g6];refine⟨by rw[Yaa];exact Yau (show ss.length<25 by omega) (by decide),λG7 p7=>?_⟩
    refine hk _ _ ⟨ss++[s],_,rfl,f6.off h5 p7,Sm.wr s2 n3.no (s5.trans s6) p7,p7.sm _ _ (Ne.symm hb5) (s6 _ _ hb.1 gb),by rw[Yap];exact p7.at,by simp[l5],λz hz=>?_⟩
    rcases List.mem_append.mp hz with z'|z'
    ·exact o5 z z'
    ·rw[List.mem_singleton.mp z'];exact os
   refine jae f5 (by decide) (by decide) λr G6 a6 b6 f6 s6=>?_
   have g6:=s6 _ _ h5.1 g5;simp! only[];by_cases hr:0<r
   ·rw[if_pos (by simpa using hr)]
    simp! only[jaA g6];exact jeg f6 h1 h2 (s6 _ _ hb.1 gb) hb.1 hl w0 w8 λs G7 os _ f7 s7=>add s G7 os f7 (s6.trans s7)
   ·rw[if_neg (by simpa using hr)]
    simp! only[jaA g6];exact jlM f6 h1 h2 w0 w8 λs G7 os f7 s7=>add s G7 os f7 (s6.trans s7)
 ·rintro i x acc G1 K hx ⟨f1,s1,bs,rfl,hl⟩ hk _;exact⟨trivial,jae f1 (by omega) (by omega) λr G2 a2 b2 f2 s2=>hk _ _ ⟨f2,s1.trans s2,bs++[r],by simp,by simp[hl]⟩⟩
end

inductive Con (es:List (Int×Int)):Int->Int->Prop
 |refl (x:Int):Con es x x
 |step {x a b:Int}:Con es x a->((a,b)∈es\/(b,a)∈es)->Con es x b
section
variable {es:List (Int×Int)}
def Con.trans {x y z:Int}(h:Con es x y)(g:Con es y z):Con es x z:=by
 induction g with
 |refl=>exact h
 |step _ e ih=>exact .step ih e
def Con.one {a b:Int}(e:(a,b)∈es\/(b,a)∈es):Con es a b:=.step (.refl a) e
def Con.symm {x y:Int}(h:Con es x y):Con es y x:=by
 induction h with
 |refl=>exact .refl _
 |step _ e ih=>exact(Con.one (Or.symm e)).trans ih
end
def Con.mono {es es':List (Int×Int)}(h:∀a b,(a,b)∈es->(a,b)∈es'\/(b,a)∈es'){x y:Int}(g:Con es x y):Con es' x y:=by
 induction g with
 |refl=>exact .refl _
 |step _ e ih=>
  rcases e with e|e
  ·exact .step ih (h _ _ e)
  ·exact .step ih (Or.symm (h _ _ e))
def Con.closed {es:List (Int×Int)}{S:Int->Prop}(hc:∀a b,S a->((a,b)∈es\/(b,a)∈es)->S b){x y:Int}(h:Con es x y)(hx:S x):S y:=by
 induction h with
 |refl=>exact hx
 |step _ e ih=>exact hc _ _ ih e
abbrev Sl:List Int->List Int->Prop:=λa b=>HT.lexLt a b=true
def pw_ext {α:Type}{r:α->α->Prop}(as:∀a b,r a b->r b a->False):∀{l l':List α},l.Pairwise r->l'.Pairwise r->(∀x,x∈l↔x∈l')->l=l'
 |[],[],_,_,_=>rfl
 |[],b::l',_,_,h=>absurd ((h b).mpr (by simp)) (by simp)
 |a::l,[],_,_,h=>absurd ((h a).mp (by simp)) (by simp)
 |a::l,b::l',h1,h2,h=>by
  obtain⟨p1,p2⟩:=List.pairwise_cons.mp h1;obtain⟨q1,q2⟩:=List.pairwise_cons.mp h2;have e:a=b:=by
   rcases YaM.mp ((h a).mp (by simp))with z|z
   ·exact z
   ·rcases YaM.mp ((h b).mpr (by simp))with y|y
    ·exact y.symm
    ·exact(as _ _ (p1 b y) (q1 a z)).elim
  subst e;rw[pw_ext as p2 q2 λx=>?_];constructor
  ·intro hx;rcases YaM.mp ((h x).mp (Yai _ hx))with z|z
   ·subst z;exact(as _ _ (p1 x hx) (p1 x hx)).elim
   ·exact z
  ·intro hx;rcases YaM.mp ((h x).mpr (Yai _ hx))with z|z
   ·subst z;exact(as _ _ (q1 x hx) (q1 x hx)).elim
   ·exact z
def jqu (a b:Int)(h:a<b)(g:b<a):False:=by omega
def jpV (a b:List Int)(h:Sl a b)(g:Sl b a):False:=by
 have:=jjR a b a h g;rw[jlZ]at this;cases this
structure IsP (W:Nat)(es:List (Int×Int))(ps:List (List Int)):Prop where
 ne:∀p∈ps,p≠[]
 as:∀p∈ps,p.Pairwise (·< ·)
 bd:∀p∈ps,∀x∈p,0<=x/\x<W
 al:∀x:Int,0<=x->x<W->∃p∈ps,x∈p
 un:∀p∈ps,∀q∈ps,∀x,x∈p->x∈q->p=q
 nd:ps.Nodup
 ed:∀a b,(a,b)∈es->∃p∈ps,a∈p/\b∈p
 co:∀p∈ps,∀x∈p,∀y∈p,Con es x y
def IsP.part {W:Nat}{es:List (Int×Int)}{ps:List (List Int)}(h:IsP W es ps){p:List Int}(hp:p∈ps){x y:Int}(hx:x∈p)(g:Con es x y):y∈p:=by
 refine g.closed (S:=λz=>z∈p) (λa b ha e=>?_) hx;rcases e with e|e
 ·obtain⟨q,hq,h1,h2⟩:=h.ed a b e;rw[h.un p hp q hq a ha h1];exact h2
 ·obtain⟨q,hq,h1,h2⟩:=h.ed b a e;rw[h.un p hp q hq a ha h2];exact h1
def ji2 {α:Type}{r:α->α->Prop}(tr:∀a b c,r a b->r b c->r a c):∀{l:List α},(∀i (h:i+1<l.length),r l[i] l[i+1])->l.Pairwise r
 |[],_=>.nil
 |[a],_=>YcS _ _
 |a::b::l,h=>by
  have ih:=ji2 tr (l:=b::l) λi hi=>h (i+1) (by simpa using hi)
  refine List.pairwise_cons.mpr ⟨λx hx=>?_,ih⟩;have h0:=h 0 (by simp)
  rcases YaM.mp hx with rfl|hx
  ·exact h0
  ·exact tr _ _ _ h0 ((List.pairwise_cons.mp ih).1 x hx)
def je5 {α:Type}(l:List α)(d:α){π:List Nat}(h:π.Perm (YaK l.length)):(π.map λi=>l.getD i d).Perm l:=by
 have:=h.map λi=>l.getD i d;have e:(YaK l.length).map (λi=>l.getD i d)=l:=by
  refine Yf3 (by simp) λi h1 h2=>?_
  simp[YaS,h2]
 rw[e]at this;exact this
section
variable {G:Gp}{Q:K1}{a:Addr}
def jm4 {ns:List Int}(g:G a=some (.lst (ns.map .int)))(nd:ns.Nodup)(h64:ns.length<64)(q:∀zs:List Int,zs.Perm ns->zs.Pairwise (·< ·)->newO G (.lst (zs.map .int)) Q):jbE [.loc a] G Q:=by
 unfold jbE;dsimp only;rw[g];refine⟨ns.map λn=>[n],?_,by rw[Yaa];exact Yau h64 (by decide),by rw[Yaa,Yaa],.inl ⟨ns,rfl,rfl⟩,λπ hp hs=>?_⟩
 ·exact List.pairwise_map.mpr (nd.imp λh z=>h (Yd4 z).1)
 ·rw[Yaa]at hp hs;have hfl:∀i∈π,i<ns.length:=λi hi=>List.mem_range.mp (hp.mem_iff.mp hi);have pl:π.length=ns.length:=by rw[hp.length_eq,YbW]
  have e:(π.map λi=>(ns.map U.int).getD i .non)=(π.map λi=>ns.getD i 0).map .int:=by
   rw[YaW];refine Ydn λi hi=>?_;simp[YaS,hfl i hi]
  rw[e];refine q _ (je5 ns 0 hp) (ji2 (r:=λa b:Int=>a<b) (λ_ _ _ h g=>Int.lt_trans h g) λi hi=>?_);have hi:i+1<ns.length:=by simpa[pl]using hi
  have h1:i<π.length:=by omega
  have h2:i+1<π.length:=by omega
  have b1:=hfl _ (Ybo h1);have b2:=hfl _ (Ybo h2);have:=hs i hi;rw[show π.getD i 0=π[i] by simp[YaS,h1],show π.getD (i+1) 0=π[i+1] by simp[YaS,h2]]at this
  have k1:(ns.map λn=>[n]).getD π[i] []=[ns[π[i]]]:=by simp[YaS,b1]
  have k2:(ns.map λn=>[n]).getD π[i+1] []=[ns[π[i+1]]]:=by simp[YaS,b2]
  rw[k1,k2]at this;have l1:HT.lexLt [ns[π[i]]] [ns[π[i+1]]]=decide (ns[π[i]]<ns[π[i+1]]):=by
   rw[HT.lexLt_cons];split
   ·rename_i z;rw[z,HT.lexLt_nil_nil];simp
   ·rfl
  rw[l1]at this;simpa[YaS,b1,b2]using of_decide_eq_true this
structure Ls (G:Gp)(p:Addr)(as:List Addr)(ks:List (List Int)):Prop where
 gp:G p=some (.lst (as.map .loc))
 l:as.length=ks.length
 ga:∀(i:Nat) a k,as[i]?=some a->ks[i]?=some k->G a=some (.lst (k.map .int))
end

def atM {α:Type}{f:α->U}{l:List α}{n:Nat}{a:α}(h:l[n]?=some a):atI (l.map f) (n:Int)=some (f a):=(jbT f l _).trans (congrArg _ (jat h))
noncomputable def edg (ss:List Spn):List (Int×Int):=ss.map λs=>((s.o:Int),(s.t:Int))
def jjX {G:Gp}{a:Addr}{o:MO}(g:G a=some o):G=gup G a o:=by
 funext b;unfold gup;split
 ·rename_i z;rw[z];exact g
 ·rfl
def jax:∀(W:Nat) (l:List Int),l.Nodup->(∀x∈l,0<=x/\x<W)->l.length<=W
 |0,l,_,h=>by
  cases l with
  |nil=>exact Yaf _
  |cons a l=>have:=h a (by simp);omega
 |W+1,l,nd,h=>by
  have ih:=jax W (l.erase (W:Int)) (nd.erase _) λx hx=>by
   obtain⟨h1,h2⟩:=nd.mem_erase_iff.mp hx;have:=h x h2;omega
  by_cases hm:(W:Int)∈l
  ·rw[YeD hm]at ih;omega
  ·rw[List.erase_of_not_mem hm]at ih;omega
abbrev Ent:=Nat×Int
noncomputable def eu (e:Ent):U:=.tup [.int e.1,.int e.2]
noncomputable def eS (ss:List Spn)(e:Ent):Int:=match ss[e.1]? with|some s=>if e.2=1 then s.o else s.t|none=>0
noncomputable def eD (ss:List Spn)(e:Ent):Int:=match ss[e.1]? with|some s=>if e.2=1 then s.t else s.o|none=>0
def EOk (ss:List Spn)(e:Ent):Prop:=e.1<ss.length/\(e.2=1\/e.2=-1)
noncomputable def trU (ss:List Spn)(e:Ent):U:=.tup [.int e.1,.int e.2,.int (eS ss e)]
section
variable {ss:List Spn}{s:Spn}{i:Nat}
def eS_1 (h:ss[i]?=some s):eS ss (i,1)=s.o:=by unfold eS;dsimp only;rw[h];rfl
def eS_m (h:ss[i]?=some s):eS ss (i,-1)=s.t:=by unfold eS;dsimp only;rw[h];rfl
def eD_1 (h:ss[i]?=some s):eD ss (i,1)=s.t:=by unfold eD;dsimp only;rw[h];rfl
def eD_m (h:ss[i]?=some s):eD ss (i,-1)=s.o:=by unfold eD;dsimp only;rw[h];rfl
def EOk.get {e:Ent}(h:EOk ss e):∃s,ss[e.1]?=some s/\((e=(e.1,1)/\eS ss e=s.o/\eD ss e=s.t)\/(e=(e.1,-1)/\eS ss e=s.t/\eD ss e=s.o)):=by
 obtain⟨j,w⟩:=e;refine⟨ss[j]'h.1,Yab h.1,?_⟩;rcases h.2 with z|z
 ·have z:w=1:=z;subst z;exact .inl ⟨rfl,eS_1 (Yab h.1),eD_1 (Yab h.1)⟩
 ·have z:w=-1:=z;subst z;exact .inr ⟨rfl,eS_m (Yab h.1),eD_m (Yab h.1)⟩
def EOk.adj {e:Ent}(h:EOk ss e):(eS ss e,eD ss e)∈edg ss\/(eD ss e,eS ss e)∈edg ss:=by
 obtain⟨s,hs,z⟩:=h.get;have hm:((s.o:Int),(s.t:Int))∈edg ss:=List.mem_map.mpr ⟨s,Yam hs,rfl⟩;rcases z with⟨_,h1,h2⟩|⟨_,h1,h2⟩
 ·rw[h1,h2];exact .inl hm
 ·rw[h1,h2];exact .inr hm
end
section
variable {k:Nat}{G:Gp}{Q:K1}{X:KX}{xs:List Str}{ss:List Spn}{W:Nat}
def jhk {w:Nat}(sl:ss.length<=24)(q:∀(p:Addr) (tr:List Ent) (G':Gp),Sa G G'->G p=none->G' p=some (.lst (tr.map (trU ss)))->tr.length<=48->(∀e∈tr,EOk ss e/\eD ss e=w)->
  (∀j s,ss[j]?=some s->(s.t=w->(j,1)∈tr)/\(s.o=w->(j,-1)∈tr))->Q (.loc p) G'):jab T (k+1) jc5 [jac xs ss,.int w] G Q X:=by
 refine⟨rfl,?_⟩;simp! only[jdd,jad,Yad];refine⟨by decide,λp G1 n1=>?_⟩
 simp! only[jac,ix_t (jay _ _ _)];refine jar (λi ς G'=>∃(tr:List Ent) (o3 o4 o5 o6 o7 o8:Option U),ς=[some (jac xs ss),some (.int w),some (.loc p),o3,o4,o5,o6,o7,o8]/\G'=gup G1 p (.lst (tr.map (trU ss)))/\tr.length<=2*i/\(∀e∈tr,EOk ss e/\eD ss e=w)/\∀j s,j<i->ss[j]?=some s->(s.t=w->(j,1)∈tr)/\(s.o=w->(j,-1)∈tr)) ?_ ?_ ⟨[],_,_,_,_,_,_,rfl,jjX n1.at,Yaf _,λ_ h=>(nomatch h),λj s h=>by omega⟩
 ·rintro ς G2 ⟨tr,o3,o4,o5,o6,o7,o8,rfl,rfl,hl,he,hz⟩;rw[jcB,Yaa]at hl hz;refine⟨trivial,?_⟩;simp! only[];refine q p tr _ (λb o hb=>?_) n1.no jag (by omega) he λj s e=>hz j s (List.getElem?_eq_some_iff.mp e).1 e
  rw[jbx (λz=>by rw[z,n1.no]at hb;cases hb)]
  exact n1.sa _ _ hb
 ·rintro i x ς G2 K hx ⟨tr,o3,o4,o5,o6,o7,o8,rfl,rfl,hl,he,hz⟩ hk;obtain⟨u,hu,rfl⟩:=jcC hx;rw[Yal]at hu;cases es:ss[i]? with
  |none=>rw[es]at hu;cases hu
  |some s=>
   rw[es]at hu;have hu:=(Yao hu).symm;subst hu;have il:i<ss.length:=(List.getElem?_eq_some_iff.mp es).1;refine⟨trivial,?_⟩;simp! only[Spn.u,jaA jag,jby jag,jbH,jb8];refine⟨trivial,trivial,?_⟩;have second:∀tr':List Ent,tr'.length<=2*i+1->(∀e∈tr',EOk ss e/\eD ss e=w)->(∀e∈tr,e∈tr')->(s.t=w->(i,1)∈tr')->(if decide ((s.o:Int)=(w:Int))=true then
     0+1+1+1<=Yak/\(match mtU .append (.loc p) (gup G1 p (.lst (tr'.map (trU ss))))with
      |some _=>jaL .append (.loc p) [U.tup [.int ((0+i:Nat):Int),.int (-1),.int s.t]] (gup G1 p (.lst (tr'.map (trU ss)))) λ_ G'=>K [some (jac xs ss),some (.int w),some (.loc p),some (.int ((0+i:Nat):Int)),some (.str s.w),some (.int s.o),some (.int s.t),some (.int s.lo),some (.int s.hi)] G'
      |none=>False)
     else K [some (jac xs ss),some (.int w),some (.loc p),some (.int ((0+i:Nat):Int)),some (.str s.w),some (.int s.o),some (.int s.t),some (.int s.lo),some (.int s.hi)] (gup G1 p (.lst (tr'.map (trU ss))))):=λtr' hl' he' hs' ht'=>by
    by_cases c:s.o=w
    ·rw[if_pos (by simp;omega),jaA jag,jby jag,jbH,jb8]
     refine⟨by decide,by rw[Yaa];exact YaF (show tr'.length<=48 by omega) (by decide),hk _ _ ⟨tr'++[(i,-1)],_,_,_,_,_,_,rfl,by rw[Yap];simp[trU,eS_m es],by simp;omega,λe h=>?_,λj s' hj ej=>?_⟩⟩
     ·rcases List.mem_append.mp h with h|h
      ·exact he' e h
      ·rw[List.mem_singleton.mp h,eD_m es];exact⟨⟨il,.inr rfl⟩,by omega⟩
     ·by_cases e:j=i
      ·subst e;rw[es]at ej;cases ej;exact⟨λh=>Yax _ (ht' h),λ_=>Yav _ (List.mem_singleton.mpr rfl)⟩
      ·have:=hz j s' (by omega) ej
       exact⟨λh=>Yax _ (hs' _ (this.1 h)),λh=>Yax _ (hs' _ (this.2 h))⟩
    ·rw[if_neg (by simp;omega)]
     refine hk _ _ ⟨tr',_,_,_,_,_,_,rfl,rfl,by omega,he',λj s' hj ej=>?_⟩
     by_cases e:j=i
     ·subst e;rw[es]at ej;cases ej;exact⟨ht',λh=>absurd h c⟩
     ·have:=hz j s' (by omega) ej
      exact⟨λh=>hs' _ (this.1 h),λh=>hs' _ (this.2 h)⟩
   by_cases c:s.t=w
   ·rw[if_pos (by simp;omega)]
    refine⟨by decide,by rw[Yaa];exact YaF (show tr.length<=48 by omega) (by decide),?_⟩
    have:=second (tr++[(i,1)]) (by simp;omega) (λe h=>by
     rcases List.mem_append.mp h with h|h
     ·exact he e h
     ·rw[List.mem_singleton.mp h,eD_1 es];exact⟨⟨il,.inl rfl⟩,by omega⟩) (λe h=>Yax _ h) λ_=>Yav _ (List.mem_singleton.mpr rfl)
    rw[jaA jag,jby jag,jbH,jb8,Yap]at this;simp only[YaG,Yc6,trU,eS_1 es]at this ⊢;simpa using this
   ·rw[if_neg (by simp;omega)]
    have:=second tr (by omega) he (λ_ h=>h) λh=>absurd h c
    rw[jaA jag,jby jag,jbH,jb8]at this;exact this
end

def jm7 {a:Addr}{kvs:List (Key×U)}{z:Int}{v:U}{G:Gp}{Q:Gp->Prop}(g:G a=some (.dK kvs)):setU (.loc a) (.int z) v G Q=(kvs.length<Yak/\putO G a (.dK (dPut kvs (.inl z) v)) Q):=by unfold setU;dsimp only;rw[g];rfl
def jdP (z:Int)(l:List Int):((l.map U.int).any λy=>eqF y (.int z))=decide (z∈l):=by
 rw[Ybs,Yf6,decide_eq_true_eq];constructor
 ·rintro⟨y,hy,e⟩;obtain⟨x,hx,rfl⟩:=List.mem_map.mp hy;have:x=z:=by simpa[eqF]using e
  rw[<- this];exact hx
 ·intro h;exact⟨.int z,List.mem_map.mpr ⟨z,h,rfl⟩,by simp[eqF]⟩
def jbj (l:List Int):(l.map U.int).all flat=true:=by simp[flat]
structure Rch (W:Nat)(es:List (Int×Int))(w:Nat)(rs:List Int):Prop where
 nd:((w:Int)::rs).Nodup
 bd:∀x∈(w:Int)::rs,0<=x/\x<W
 co:∀x∈(w:Int)::rs,Con es w x
noncomputable def fkv (fs:List (Int×Ent)):List (Key×U):=fs.map λf=>(Sum.inl f.1,eu f.2)
noncomputable def fky (fs:List (Int×Ent)):List Int:=fs.map (·.1)
structure Fst (W:Nat)(ss:List Spn)(w:Nat)(fs:List (Int×Ent)):Prop where
 nd:((w:Int)::fky fs).Nodup
 bd:∀x∈(w:Int)::fky fs,0<=x/\x<W
 en:∀j f,fs[j]?=some f->EOk ss f.2/\eS ss f.2=f.1/\eD ss f.2∈(w:Int)::fky (fs.take j)
section
variable {W:Nat}{ss:List Spn}{w:Nat}{fs:List (Int×Ent)}
def jcA {j:Nat}{x:Int}(h:x∈fky (fs.take j)):∃i f,i<j/\fs[i]?=some f/\f.1=x:=by
 obtain⟨f,hf,rfl⟩:=List.mem_map.mp h;obtain⟨i,hi,e⟩:=YaC hf;rw[Ybn]at hi;refine⟨i,f,by omega,?_,rfl⟩
 rw[<- e,YfN];exact Yab (by omega)
def jdR {j:Nat}{f:Int×Ent}(h:fs[j]?=some f):f.1∈fky fs:=List.mem_map.mpr ⟨f,Yam h,rfl⟩
def jiD {j:Nat}{x:Int}(h:x∈(w:Int)::fky (fs.take j)):x∈(w:Int)::fky fs:=by
 rcases YaM.mp h with z|z
 ·rw[z];simp
 ·obtain⟨i,f,_,e,rfl⟩:=jcA z;exact Yai _ (jdR e)
def Fst.con (h:Fst W ss w fs):∀(n j:Nat) (f:Int×Ent),j<n->fs[j]?=some f->Con (edg ss) w f.1
 |0,_,_,hj,_=>by omega
 |n+1,j,f,hj,e=>by
  obtain⟨e1,e2,e3⟩:=h.en j f e;have:Con (edg ss) w (eD ss f.2):=by
   rcases YaM.mp e3 with z|z
   ·rw[z];exact .refl _
   ·obtain⟨i,g,hi,ei,eg⟩:=jcA z;rw[<- eg];exact h.con n i g (by omega) ei
  rw[<- e2];exact .step this (Or.symm e1.adj)
def Fst.rch (h:Fst W ss w fs):Rch W (edg ss) w (fky fs):=⟨h.nd,h.bd,λx hx=>by
 rcases YaM.mp hx with z|z
 ·rw[z];exact .refl _
 ·obtain⟨f,hf,rfl⟩:=List.mem_map.mp z;obtain⟨j,hj,e⟩:=YaC hf;exact h.con (j+1) j f (by omega) (by rw[Yab hj,e])⟩
def Fst.add (h:Fst W ss w fs){e:Ent}(he:EOk ss e)(hd:eD ss e∈(w:Int)::fky fs)(hs:0<=eS ss e/\eS ss e<W)(hn:eS ss e∉(w:Int)::fky fs):Fst W ss w (fs++[(eS ss e,e)]):=by
 have ek:(w:Int)::fky (fs++[(eS ss e,e)])=((w:Int)::fky fs)++[eS ss e]:=by simp[fky]
 refine⟨?_,λx hx=>?_,λj f ej=>?_⟩
 ·rw[ek];refine List.nodup_append.mpr ⟨h.nd,by simp,λa ha b hb=>?_⟩
  rw[List.mem_singleton.mp hb];exact λz=>hn (z ▸ ha)
 ·rw[ek]at hx;rcases List.mem_append.mp hx with z|z
  ·exact h.bd x z
  ·rw[List.mem_singleton.mp z];exact hs
 ·by_cases hj:j<fs.length
  ·rw[YaN hj]at ej;rw[YdR (by omega)]
   exact h.en j f ej
  ·have hl:=(List.getElem?_eq_some_iff.mp ej).1;rw[YaD,Yc7]at hl;have:j=fs.length:=by omega
   subst this;rw[Ybv (Yaf _),Yfc]at ej;cases ej;refine⟨he,rfl,?_⟩;rw[YdR (Yaf _),Yaz];exact hd
def jmp (hw:w<W):Fst W ss w []:=⟨by simp[fky],λx hx=>by rw[show((w:Int)::fky [])=[(w:Int)]from rfl]at hx;rw[List.mem_singleton.mp hx];omega,λj f e=>by simp at e⟩
def jlg {kvs:List (Key×U)}{z:Int}{v:U}(hn:∀kv∈kvs,kv.1≠Sum.inl z):dPut kvs (.inl z) v=kvs++[(.inl z,v)]:=by
 unfold dPut;rw[if_neg λh'=>?_];obtain⟨kv,hkv,e⟩:=Yf6.mp h';exact hn kv hkv (of_decide_eq_true e)
end
section
variable {k:Nat}{G:Gp}{Q:K1}{X:KX}{xs:List Str}{ss:List Spn}{W:Nat}
def joG {W:Nat}(so:∀s∈ss,s.Ok W):∀a b,(a,b)∈edg ss->(0<=a/\a<W)/\0<=b/\b<W:=λa b h=>by
 obtain⟨s,hs,e⟩:=List.mem_map.mp h;have o:=so s hs;have o1:=o.o;have o2:=o.t;obtain⟨e1,e2⟩:=Ydc e;omega
def Clo (ss:List Spn)(w:Nat)(rs:List Int):Prop:=∀x y,x∈(w:Int)::rs->((x,y)∈edg ss\/(y,x)∈edg ss)->y∈(w:Int)::rs
def jef {w:Nat}{r:U}(so:∀s∈ss,s.Ok W)(sl:ss.length<=24)(hw:w<W)(w8:W<=8)(hr:∀G1,Sa G G1->∀k:List U->Prop,k [.int w]->itU r G1 λxs _=>k xs)
  (q:∀(pf:Addr) (fs:List (Int×Ent)) (G':Gp),Sa G G'->G pf=none->G' pf=some (.dK (fkv fs))->Fst W ss w fs->Clo ss w (fky fs)->Q (.loc pf) G') :
  jab T (k+2) ja4 [jac xs ss,r] G Q X:=by
 refine⟨rfl,?_⟩;simp! only[jcH,jad,Yad];refine⟨by decide,λpf G1 n1=>?_⟩
 simp! only[];refine hr G1 n1.sa _ ?_;intro pr G2 n2;simp! only[jbD];have hfr:pf≠pr:=Ne.symm (ja0 n1.at n2.no);have frame:∀{Ga Gb:Gp} {p:Addr} {o:MO},(p=pf\/p=pr)->Sa G Ga->Put Ga p o Gb->Sa G Gb:=λ{Ga Gb p o} hp s w b u e=>w.sm _ _ (λz=>by
  rcases hp with rfl|rfl
  ·rw[z,n1.no]at e;cases e
  ·rw[z]at e;have:=n1.sa _ _ e;rw[n2.no]at this;cases this) (s b u e)
 rw[S_wh];refine⟨λn ς G'=>∃(fs:List (Int×Ent)) (i:Nat) (o5 o6 o7:Option U),ς=[some (jac xs ss),some r,some (.loc pf),some (.loc pr),some (.int i),o5,o6,o7]/\n=W-i/\Sa G G'/\G' pf=some (.dK (fkv fs))/\G' pr=some (.lst (((w:Int)::fky fs).map .int))/\Fst W ss w fs/\i<=fs.length+1/\
   ∀j x y,j<i->((w:Int)::fky fs)[j]?=some x->((x,y)∈edg ss\/(y,x)∈edg ss)->y∈(w:Int)::fky fs,⟨_,[],0,_,_,_,rfl,rfl,n1.sa.trans n2.sa,n2.sa _ _ n1.at,n2.at,jmp hw,by simp,λj x y h=>by omega⟩,?_⟩
 rintro n ς G3 ⟨fs,i,o5,o6,o7,rfl,rfl,s3,gf,gr,rc,il,cl⟩;have rl:=jax W _ rc.nd rc.bd;simp only[fky,YaA,Yaa]at rl;have kl:(fky fs).length=fs.length:=Yaa _;simp! only[jfh gr,Yaa,YaA,kl];by_cases c:(i:Int)<((fs.length+1:Nat):Int)
 ·rw[if_pos (by simpa using c)]
  have hi:i<((w:Int)::fky fs).length:=by rw[YaA,kl];omega
  obtain⟨x,hx⟩:∃x,((w:Int)::fky fs)[i]?=some x:=⟨_,Yab hi⟩;have bx:=rc.bd x (Yam hx);obtain⟨xn,rfl⟩:=YaB bx.1;rw[ix_l gr (show atI (((w:Int)::fky fs).map U.int) (i:Int)=some (.int (xn:Int))from atM hx)];refine jhk sl λpe tr G4 s4 ne g4 tl te tm=>?_;rw[it_l g4];have hpe1:pe≠pf:=λz=>by rw[z,gf]at ne;cases ne
  have hpe2:pe≠pr:=λz=>by rw[z,gr]at ne;cases ne
  refine jar (λj ς G'=>∃(fs':List (Int×Ent)) (o5 o6 o7:Option U),ς=[some (jac xs ss),some r,some (.loc pf),some (.loc pr),some (.int i),o5,o6,o7]/\Sa G G'/\G' pe=some (.lst (tr.map (trU ss)))/\G' pf=some (.dK (fkv fs'))/\G' pr=some (.lst (((w:Int)::fky fs').map .int))/\Fst W ss w fs'/\(∃ext,fs'=fs++ext)/\∀e∈tr.take j,eS ss e∈(w:Int)::fky fs')
   ?_ ?_ ⟨fs,_,_,_,rfl,s3.trans s4,g4,s4 _ _ gf,s4 _ _ gr,rc,⟨[],by simp⟩,λe he=>by simp at he⟩
  ·rintro ς G5 ⟨fs',o5,o6,o7,rfl,s5,ge,gf',gr',rc',⟨ext,hext⟩,hm⟩;rw[Yaa,Yaz]at hm;refine⟨by unfold lsG;rw[ge],?_⟩
   simp! only[];have ll:fs'.length=fs.length+ext.length:=by rw[hext,YaD]
   refine⟨W-(i+1),by omega,fs',i+1,_,_,_,rfl,rfl,s5,gf',gr',rc',by omega,λj x' y hj hx' e=>?_⟩
   have pre:((w:Int)::fky fs')[j]?=((w:Int)::fky fs)[j]?:=by
    rw[hext,show((w:Int)::fky (fs++ext))=((w:Int)::fky fs)++fky ext by simp[fky],YaN (by rw[YaA,kl];omega)]
   rw[pre]at hx';have up:∀z,z∈(w:Int)::fky fs->z∈(w:Int)::fky fs':=λz hz=>by
    rw[hext,show((w:Int)::fky (fs++ext))=((w:Int)::fky fs)++fky ext by simp[fky]]
    exact Yax _ hz
   by_cases ej:j=i
   ·subst ej;rw[hx]at hx';cases hx';rcases e with e|e
    ·obtain⟨s,hs,es⟩:=List.mem_map.mp e;obtain⟨e1,e2⟩:=Ydc es;obtain⟨jj,hjj,ejj⟩:=YaC hs;have hg:ss[jj]?=some s:=by rw[Yab hjj,ejj]
     have:=hm _ ((tm jj s hg).2 (by omega))
     rw[eS_m hg,e2]at this;exact this
    ·obtain⟨s,hs,es⟩:=List.mem_map.mp e;obtain⟨e1,e2⟩:=Ydc es;obtain⟨jj,hjj,ejj⟩:=YaC hs;have hg:ss[jj]?=some s:=by rw[Yab hjj,ejj]
     have:=hm _ ((tm jj s hg).1 (by omega))
     rw[eS_1 hg,e1]at this;exact this
   ·exact up _ (cl j x' y (by omega) hx' e)
  ·rintro j u ς G5 K hu ⟨fs',o5,o6,o7,rfl,s5,ge,gf',gr',rc',⟨ext,hext⟩,hm⟩ hk2;rw[Yal]at hu;cases et:tr[j]? with
   |none=>rw[et]at hu;cases hu
   |some e=>
    rw[et]at hu;have hu:=(Yao hu).symm;subst hu;refine⟨by unfold lsG;rw[ge],?_⟩
    obtain⟨oe,ed⟩:=te e (Yam et);have rl':=jax W _ rc'.nd rc'.bd;simp only[fky,YaA,Yaa]at rl';have hx':(xn:Int)∈(w:Int)::fky fs':=by
     rw[hext,show((w:Int)::fky (fs++ext))=((w:Int)::fky fs)++fky ext by simp[fky]]
     exact Yax _ (Yam hx)
    simp! only[trU];refine⟨trivial,in_l gr' rfl (jbj _) ?_⟩;rw[jdP];by_cases cz:eS ss e∈(w:Int)::fky fs'
    ·rw[if_neg (by rw[decide_eq_true cz];decide)]
     refine hk2 _ _ ⟨fs',_,_,_,rfl,s5,ge,gf',gr',rc',⟨ext,hext⟩,λe' he'=>?_⟩;rw[YaL,et]at he';rcases List.mem_append.mp he' with z|z
     ·exact hm e' z
     ·rw[List.mem_singleton.mp z];exact cz
    ·rw[if_pos (by rw[decide_eq_false cz];decide),jm7 gf']
     have fl:(fkv fs').length=fs'.length:=Yaa _;refine⟨by decide,by rw[fl];exact YaF (show fs'.length<=8 by omega) (by decide),λG6 p6=>?_⟩
     have gr6:=p6.sm _ _ (Ne.symm hfr) gr';simp! only[jaA gr6,jby gr6];refine⟨YaF (show _<=9 by simp[fky];omega) (by decide),λG7 p7=>?_⟩
     have bz:0<=eS ss e/\eS ss e<(W:Int):=by
      rcases oe.adj with z|z
      ·exact(joG so _ _ z).1
      ·exact(joG so _ _ z).2
     have pn:dPut (fkv fs') (.inl (eS ss e)) (.tup [.int e.1,.int e.2])=fkv (fs'++[(eS ss e,e)]):=by
      rw[jlg λkv hkv z=>?_]
      ·simp[fkv,eu]
      ·obtain⟨f,hf,rfl⟩:=List.mem_map.mp hkv;have z:=Sum.inl.inj z;exact cz (Yai _ (List.mem_map.mpr ⟨f,hf,z⟩))
     rw[pn]at p6;refine hk2 _ _ ⟨fs'++[(eS ss e,e)],_,_,_,rfl,frame (.inr rfl) (frame (.inl rfl) s5 p6) p7,p7.sm _ _ hpe2 (p6.sm _ _ hpe1 ge),p7.sm _ _ hfr p6.at,?_,rc'.add oe (by rw[ed];exact hx') bz cz,⟨ext++[(eS ss e,e)],by rw[hext,YdF]⟩,λe' he'=>?_⟩
     ·have:=p7.at
      rw[this];simp[fky]
     ·rw[YaL,et]at he';rw[show((w:Int)::fky (fs'++[(eS ss e,e)]))=((w:Int)::fky fs')++[eS ss e] by simp[fky]]
      rcases List.mem_append.mp he' with z|z
      ·exact Yax _ (hm e' z)
      ·rw[List.mem_singleton.mp z];exact Yav _ (List.mem_singleton.mpr rfl)
 ·rw[if_neg (by simpa using c)]
  refine q pf fs G3 s3 n1.no gf rc λx y hx e=>?_;obtain⟨j,hj,ej⟩:=YaC hx;refine cl j x y ?_ (by rw[Yab hj,ej]) e
  rw[YaA,kl]at hj;omega
def jh6 {w:Nat}{pr0:Addr}(so:∀s∈ss,s.Ok W)(sl:ss.length<=24)(hw:w<W)(w8:W<=8)(g0:G pr0=some (.lst [.int w]))
  (q:∀(pf:Addr) (kvs:List (Key×U)) (rs:List Int) (G':Gp),Sa G G'->G' pf=some (.dK kvs)->kvs.map (·.1)=rs.map (λx=>(Sum.inl x:Key))->Rch W (edg ss) w rs->(∀x y,x∈(w:Int)::rs->((x,y)∈edg ss\/(y,x)∈edg ss)->y∈(w:Int)::rs)->Q (.loc pf) G') :
  jab T (k+2) ja4 [jac xs ss,.loc pr0] G Q X:=
 jef so sl hw w8 (λG1 s1 k h=>by rw[it_l (s1 _ _ g0)];exact h) λpf fs G' s' _ g' f' c'=>q pf (fkv fs) (fky fs) G' s' g' (by simp[fkv,fky]) f'.rch c'
end

def jkt {a:Addr}{xs:List U}{G:Gp}(g:G a=some (.lst xs)):mtU .extend (.loc a) G=some ("list", "list.extend"):=by unfold mtU;dsimp only;rw[g]
def joA {a b:Addr}{xs ys:List U}{G:Gp}{Q:K1}(g:G a=some (.lst xs))(g':G b=some (.lst ys)):jaL .extend (.loc a) [.loc b] G Q=(xs.length+ys.length<=Yak/\putO G a (.lst (xs++ys)) (Q .non)):=by unfold jaL jf2;dsimp only;rw[g,g']
def jqr {a:Addr}{kvs:List (Key×U)}{ns:List Int}{G:Gp}{Q:K1}(g:G a=some (.dK kvs))(h:kvs.map (·.1)=ns.map (λz=>(Sum.inl z:Key)))(q:newO G (.lst (ns.map .int)) Q):mkDU (.loc a) G Q:=by unfold mkDU;dsimp only;rw[g];exact⟨ns,h,q⟩
noncomputable def jhV (ps:List (List Int)):U:=.tup (ps.map jaq)
structure Pp (W:Nat)(es:List (Int×Int))(i:Nat)(ps:List (List Int))(pl:List Int):Prop where
 hd:∀p∈ps,∃h r,p=h::r/\h<(i:Int)
 as:∀p∈ps,p.Pairwise (·< ·)
 bd:∀p∈ps,∀x∈p,0<=x/\x<W
 co:∀p∈ps,∀x∈p,∀y∈p,Con es x y
 cl:∀p∈ps,∀x∈p,∀y,Con es x y->y∈p
 so:ps.Pairwise Sl
 me:∀x,x∈pl↔∃p∈ps,x∈p
 up:∀x:Int,0<=x->x<i->x∈pl
 l1:ps.length<=i
 l2:pl.length<=8*i
section
variable {W:Nat}{es:List (Int×Int)}
def Pp.nil:Pp W es 0 [] []:=⟨λ_ h=>(nomatch h),λ_ h=>(nomatch h),λ_ h=>(nomatch h),λ_ h=>(nomatch h),λ_ h=>(nomatch h),.nil,λx=>by simp,λx h1 h2=>by omega,Yaf _,Yaf _⟩
section
variable {i:Nat}{ps:List (List Int)}{pl:List Int}
def Pp.skip (h:Pp W es i ps pl)(hi:(i:Int)∈pl):Pp W es (i+1) ps pl:=by
 refine⟨λp hp=>?_,h.as,h.bd,h.co,h.cl,h.so,h.me,λx h1 h2=>?_,by have:=h.l1;omega,by have:=h.l2;omega⟩
 ·obtain⟨a,r,e,l⟩:=h.hd p hp;exact⟨a,r,e,by omega⟩
 ·by_cases e:x=i
  ·rw[e];exact hi
  ·exact h.up x h1 (by omega)
def Pp.add (h:Pp W es i ps pl)(hi:(i:Int)∉pl)(w8:W<=8){rs zs:List Int}(rc:Rch W es i rs)(cl:∀x y,x∈(i:Int)::rs->((x,y)∈es\/(y,x)∈es)->y∈(i:Int)::rs)
  (hp:zs.Perm ((i:Int)::rs)) (hs:zs.Pairwise (·< ·)):Pp W es (i+1) (ps++[zs]) (pl++zs):=by
 have mz:∀y,y∈zs↔y∈(i:Int)::rs:=λy=>hp.mem_iff;have zc:∀x∈zs,∀y,Con es x y->y∈zs:=λx hx y g=>(mz y).mpr (g.closed (S:=λz=>z∈(i:Int)::rs) (λa b ha e=>cl a b ha e) ((mz x).mp hx));have iz:(i:Int)∈zs:=(mz _).mpr (by simp)
 have low:∀y∈zs,(i:Int)<=y:=λy hy=>by
  by_cases c:(i:Int)<=y
  ·exact c
  ·have by0:=rc.bd y ((mz y).mp hy);obtain⟨p,hp',hyp⟩:=(h.me y).mp (h.up y by0.1 (by omega))
   exact absurd ((h.me _).mpr ⟨p,hp',h.cl p hp' y hyp i (rc.co y ((mz y).mp hy)).symm⟩) hi
 obtain⟨r,ez⟩:∃r,zs=(i:Int)::r:=by
  cases zs with
  |nil=>cases iz
  |cons a r=>
   refine⟨r,?_⟩;rcases YaM.mp iz with z|z
   ·rw[z]
   ·have:=(List.pairwise_cons.mp hs).1 _ z;have:=low a (by simp)
    omega
 have lz:zs.length<=8:=by
  rw[hp.length_eq];exact Yah (jax W _ rc.nd rc.bd) w8
 have one:∀{P:List Int->Prop},(∀p∈ps,P p)->P zs->∀p∈ps++[zs],P p:=λ{P} h1 h2 p hp=>by
  rcases List.mem_append.mp hp with z|z
  ·exact h1 p z
  ·rw[List.mem_singleton.mp z];exact h2
 refine⟨one (λp hp=>?_) ⟨_,r,ez,by omega⟩,one h.as hs,one h.bd λx hx=>rc.bd x ((mz x).mp hx),one h.co λx hx y hy=>(rc.co x ((mz x).mp hx)).symm.trans (rc.co y ((mz y).mp hy)),one h.cl zc,?_,λx=>?_,λx h1 h2=>?_,by have:=h.l1;simp;omega,by have:=h.l2;simp;omega⟩
 ·obtain⟨a,r,e,l⟩:=h.hd p hp;exact⟨a,r,e,by omega⟩
 ·refine List.pairwise_append.mpr ⟨h.so,YcS _ _,λp hp z hz=>?_⟩;rw[List.mem_singleton.mp hz,ez];obtain⟨a,r',e,l⟩:=h.hd p hp;rw[e];show HT.lexLt _ _=true;rw[HT.lexLt_cons,if_neg (by omega)]
  exact decide_eq_true l
 ·rw[List.mem_append,h.me x];constructor
  ·rintro(⟨p,hp,hx⟩|hx)
   ·exact⟨p,Yax _ hp,hx⟩
   ·exact⟨zs,Yav _ (List.mem_singleton.mpr rfl),hx⟩
  ·rintro⟨p,hp,hx⟩;rcases List.mem_append.mp hp with z|z
   ·exact .inl ⟨p,z,hx⟩
   ·rw[List.mem_singleton.mp z]at hx;exact .inr hx
 ·by_cases e:x=i
  ·rw[e];exact Yav _ iz
  ·exact Yax _ (h.up x h1 (by omega))
end
def Pp.isP {ps:List (List Int)}{pl:List Int}(h:Pp W es W ps pl)(ebd:∀a b,(a,b)∈es->0<=a/\a<W):IsP W es ps:=by
 refine⟨λp hp=>?_,h.as,h.bd,λx h1 h2=>(h.me x).mp (h.up x h1 h2),λp hp q hq x h1 h2=>?_,?_,λa b e=>?_,h.co⟩
 ·obtain⟨a,r,e,_⟩:=h.hd p hp;rw[e];simp
 ·exact pw_ext jqu (h.as p hp) (h.as q hq) λy=>⟨λhy=>h.cl q hq x h2 y (h.co p hp x h1 y hy),λhy=>h.cl p hp x h1 y (h.co q hq x h2 y hy)⟩
 ·exact h.so.imp λ{a b} g e=>by rw[e]at g;exact jpV _ _ g g
 ·have b0:=ebd a b e;obtain⟨p,hp,ha⟩:=(h.me a).mp (h.up a b0.1 b0.2);exact⟨p,hp,ha,h.cl p hp a ha b (Con.one (.inl e))⟩
end
section
variable {k:Nat}{G:Gp}{Q:K1}{X:KX}{xs:List Str}{ss:List Spn}
def joH {W:Nat}(so:∀s∈ss,s.Ok W):∀a b,(a,b)∈edg ss->(0<=a/\a<W)/\0<=b/\b<W:=λa b h=>by
 obtain⟨s,hs,e⟩:=List.mem_map.mp h;have o:=so s hs;have o1:=o.o;have o2:=o.t;obtain⟨e1,e2⟩:=Ydc e;omega
def jdA (so:∀s∈ss,s.Ok xs.length)(sl:ss.length<=24)(w8:xs.length<=8)(q:∀(ps:List (List Int)) (G':Gp),IsP xs.length (edg ss) ps->ps.Pairwise Sl->ps.length<=8->Sa G G'->Q (jhV ps) G'):jab T (k+3) jcS [jac xs ss] G Q X:=by
 refine⟨rfl,?_⟩;simp! only[jep,jad,Yad];refine⟨by decide,λpp G1 n1=>?_⟩
 simp! only[];refine⟨by decide,λpl G2 n2=>?_⟩
 have hne:pl≠pp:=ja0 n1.at n2.no;have frame:∀{Ga Gb:Gp} {p:Addr} {o:MO},(p=pp\/p=pl)->Sa G Ga->Put Ga p o Gb->Sa G Gb:=λ{Ga Gb p o} hp s w b u e=>w.sm _ _ (λz=>by
  rcases hp with rfl|rfl
  ·rw[z,n1.no]at e;cases e
  ·rw[z]at e;have:=n1.sa _ _ e;rw[n2.no]at this;cases this) (s b u e)
 simp! only[jcU,jac,ix_t (jaG _ _),Yaa];refine⟨by omega,by omega,?_⟩
 refine jar (λi ς G'=>∃(ps:List (List Int)) (ls:List Int) (o3 o4:Option U),ς=[some (jac xs ss),some (.loc pp),some (.loc pl),o3,o4]/\Sa G G'/\G' pp=some (.lst (ps.map jaq))/\G' pl=some (.lst (ls.map .int))/\Pp xs.length (edg ss) i ps ls) ?_ ?_ ⟨[],[],_,_,rfl,n1.sa.trans n2.sa,n2.sa _ _ n1.at,n2.at,Pp.nil⟩
 ·rintro ς G3 ⟨ps,ls,o3,o4,rfl,s3,gp,gl,h⟩;rw[jal]at h;refine⟨trivial,?_⟩;simp! only[it_l gp];exact q ps _ (h.isP λa b e=>(joH so a b e).1) h.so (by have:=h.l1;omega) s3
 ·rintro i x ς G3 K hx ⟨ps,ls,o3,o4,rfl,s3,gp,gl,h⟩ hk;obtain⟨hi,rfl⟩:=jaI hx;refine⟨trivial,?_⟩;simp! only[];refine in_l gl rfl (jbj _) ?_;rw[jdP];by_cases c:(i:Int)∈ls
  ·rw[if_neg (by rw[decide_eq_true c];decide)]
   exact hk _ _ ⟨ps,ls,_,_,rfl,s3,gp,gl,h.skip c⟩
  ·rw[if_pos (by rw[decide_eq_false c];decide)]
   refine⟨by decide,λp4 G4 n4=>⟨by decide,λp5 G5 n5=>?_⟩⟩
   refine jh6 so sl hi w8 n5.at λpf kvs rs G6 s6 gf hkv rc cl=>?_;refine jqr gf hkv λp7 G7 n7=>?_;have g4:=n7.sa _ _ (s6 _ _ (n5.sa _ _ n4.at));have rl:=jax _ _ rc.nd rc.bd;simp only[YaA]at rl;refine⟨_,_,g4,n7.at,Yah (show _<=9 by simp;omega) (by decide),λp8 G8 n8=>?_⟩
   have e8:[U.int (i:Int)]++rs.map .int=((i:Int)::rs).map .int:=rfl;rw[e8]at n8;simp! only[];refine jm4 n8.at rc.nd (by simp;omega) λzs hp hs p9 G9 n9=>?_
   have s8:Sa G3 G8:=(((n4.sa.trans n5.sa).trans s6).trans n7.sa).trans n8.sa;have s9:Sa G3 G9:=s8.trans n9.sa;have q1:p9≠pl:=ja0 (s8 _ _ gl) n9.no;have q2:p9≠pp:=ja0 (s8 _ _ gp) n9.no;have gp9:=s9 _ _ gp;have gl9:=s9 _ _ gl;have h':=h.add c w8 rc cl hp hs;have lz:zs.length<=8:=by rw[hp.length_eq];simp;omega
   have l2:=h.l2;have l1:=h.l1;simp! only[jkt gl9,joA gl9 n9.at];refine⟨Yah (show _<=100 by simp;omega) (by decide),λGa pa=>?_⟩
   have gpa:=pa.sm _ _ (Ne.symm hne) gp9;have g9a:=pa.sm _ _ q1 n9.at
   simp! only[jaA gpa,it_l g9a,jby gpa];refine⟨by rw[Yaa];exact YaF (show ps.length<=8 by omega) (by decide),λGb pb=>?_⟩
   refine hk _ _ ⟨ps++[zs],ls++zs,_,_,rfl,frame (.inl rfl) (frame (.inr rfl) (s3.trans s9) pa) pb,?_,?_,h'⟩
   ·rw[Yap];exact pb.at
   ·rw[Yap];exact pb.sm _ _ hne pa.at
end

noncomputable def hit (o t:Int)(k:List Int):Bool:=decide (o∈k)||decide (t∈k)
def jbN {o t:Int}{k:List Int}:hit o t k=true↔o∈k\/t∈k:=by unfold hit;simp
section
variable {W:Nat}{es:List (Int×Int)}{ks:List (List Int)}
def IsP.perm {ks':List (List Int)}(h:IsP W es ks)(p:ks'.Perm ks):IsP W es ks':=by
 have m:∀k,k∈ks'↔k∈ks:=λk=>p.mem_iff;refine⟨λk hk=>h.ne k ((m k).mp hk),λk hk=>h.as k ((m k).mp hk),λk hk=>h.bd k ((m k).mp hk),λx h1 h2=>?_,λk hk q hq=>h.un k ((m k).mp hk) q ((m q).mp hq),p.nodup_iff.mpr h.nd,λa b e=>?_,λk hk=>h.co k ((m k).mp hk)⟩
 ·obtain⟨k,hk,hx⟩:=h.al x h1 h2;exact⟨k,(m k).mpr hk,hx⟩
 ·obtain⟨k,hk,hx⟩:=h.ed a b e;exact⟨k,(m k).mpr hk,hx⟩
def IsP.zero:IsP W [] ((YaK W).map λ(i:Nat)=>[(i:Int)]):=by
 have m:∀k,k∈(YaK W).map (λ(i:Nat)=>[(i:Int)])↔∃i:Nat,i<W/\k=[(i:Int)]:=λk=>by
  rw[List.mem_map];constructor
  ·rintro⟨i,hi,rfl⟩;exact⟨i,List.mem_range.mp hi,rfl⟩
  ·rintro⟨i,hi,rfl⟩;exact⟨i,List.mem_range.mpr hi,rfl⟩
 refine⟨λk hk=>?_,λk hk=>?_,λk hk x hx=>?_,λx h1 h2=>?_,λk hk q hq x h1 h2=>?_,?_,λ_ _ h=>(nomatch h),λk hk x hx y hy=>?_⟩
 ·obtain⟨i,_,rfl⟩:=(m k).mp hk;simp
 ·obtain⟨i,_,rfl⟩:=(m k).mp hk;exact YcS _ _
 ·obtain⟨i,hi,rfl⟩:=(m k).mp hk;rw[List.mem_singleton.mp hx];omega
 ·obtain⟨n,rfl⟩:=YaB h1;exact⟨[(n:Int)],(m _).mpr ⟨n,by omega,rfl⟩,by simp⟩
 ·obtain⟨i,_,rfl⟩:=(m k).mp hk;obtain⟨j,_,rfl⟩:=(m q).mp hq;rw[<- List.mem_singleton.mp h1,<- List.mem_singleton.mp h2]
 ·refine List.pairwise_map.mpr (List.nodup_range.imp λ{a b} h e=>h ?_);have:=(Yd4 e).1;omega
 ·obtain⟨i,_,rfl⟩:=(m k).mp hk;rw[List.mem_singleton.mp hx,List.mem_singleton.mp hy];exact .refl _
def IsP.flat (h:IsP W es ks){o t:Int}:(ks.filter (hit o t)).flatten.Nodup/\∀x∈(ks.filter (hit o t)).flatten,0<=x/\x<W:=by
 refine⟨List.pairwise_flatten.mpr ⟨λl hl=>(h.as l (Yed.mp hl).1).imp λ{a b} g e=>by omega,?_⟩,λx hx=>?_⟩
 ·refine(h.nd.sublist Yfk).imp_of_mem λ{a b} ha hb hne x hx y hy e=>hne ?_;exact h.un a (Yed.mp ha).1 b (Yed.mp hb).1 x hx (e ▸ hy)
 ·obtain⟨l,hl,hx⟩:=List.mem_flatten.mp hx;exact h.bd l (Yed.mp hl).1 x hx
def IsP.step (h:IsP W es ks){o t:Int}(ho:0<=o/\o<W)(ht:0<=t/\t<W){zs:List Int}(hp:zs.Perm (ks.filter (hit o t)).flatten)(hs:zs.Pairwise (·< ·)):IsP W (es++[(o,t)]) (ks.filter (λk=>!hit o t k)++[zs]):=by
 have mz:∀x,x∈zs↔∃k∈ks,hit o t k=true/\x∈k:=λx=>by
  rw[hp.mem_iff,List.mem_flatten];constructor
  ·rintro⟨l,hl,hx⟩;exact⟨l,(Yed.mp hl).1,(Yed.mp hl).2,hx⟩
  ·rintro⟨l,h1,h2,hx⟩;exact⟨l,Yed.mpr ⟨h1,h2⟩,hx⟩
 have mf:∀k,k∈ks.filter (λk=>!hit o t k)↔k∈ks/\¬hit o t k=true:=λk=>by rw[Yed];simp
 obtain⟨ko,hko,oko⟩:=h.al o ho.1 ho.2;obtain⟨kt,hkt,tkt⟩:=h.al t ht.1 ht.2;have oz:o∈zs:=(mz o).mpr ⟨ko,hko,jbN.mpr (.inl oko),oko⟩;have tz:t∈zs:=(mz t).mpr ⟨kt,hkt,jbN.mpr (.inr tkt),tkt⟩;have up:∀{x y},Con es x y->Con (es++[(o,t)]) x y:=λg=>g.mono λa b e=>.inl (Yax _ e);have ot:Con (es++[(o,t)]) o t:=Con.one (.inl (Yav _ (List.mem_singleton.mpr rfl)));have zo:∀x∈zs,Con (es++[(o,t)]) o x:=λx hx=>by
  obtain⟨k,hk,hh,hxk⟩:=(mz x).mp hx;rcases jbN.mp hh with z|z
  ·exact up (h.co k hk o z x hxk)
  ·exact ot.trans (up (h.co k hk t z x hxk))
 have one:∀{P:List Int->Prop},(∀k∈ks,¬hit o t k=true->P k)->P zs->∀p∈ks.filter (λk=>!hit o t k)++[zs],P p:=λ{P} h1 h2 p hp=>by
  rcases List.mem_append.mp hp with z|z
  ·exact h1 p ((mf p).mp z).1 ((mf p).mp z).2
  ·rw[List.mem_singleton.mp z];exact h2
 have put:∀{k:List Int},k∈ks->∀{P:List Int->Prop},P k->(hit o t k=true->P zs)->∃p∈ks.filter (λk=>!hit o t k)++[zs],P p:=λ{k} hk {P} h1 h2=>by
  by_cases c:hit o t k=true
  ·exact⟨zs,Yav _ (List.mem_singleton.mpr rfl),h2 c⟩
  ·exact⟨k,Yax _ ((mf k).mpr ⟨hk,c⟩),h1⟩
 refine⟨one (λk hk _=>h.ne k hk) (λz=>by rw[z]at oz;cases oz),one (λk hk _=>h.as k hk) hs,one (λk hk _=>h.bd k hk) λx hx=>?_,λx h1 h2=>?_,?_,?_,λa b e=>?_,one (λk hk _ x hx y hy=>up (h.co k hk x hx y hy)) λx hx y hy=>(zo x hx).symm.trans (zo y hy)⟩
 ·obtain⟨k,hk,_,hxk⟩:=(mz x).mp hx;exact h.bd k hk x hxk
 ·obtain⟨k,hk,hx⟩:=h.al x h1 h2;exact put hk (P:=λp=>x∈p) hx λc=>(mz x).mpr ⟨k,hk,c,hx⟩
 ·have no:∀k∈ks,¬hit o t k=true->∀x,x∈k->x∈zs->False:=λk hk c x hx hz=>by
   obtain⟨k',hk',c',hx'⟩:=(mz x).mp hz;rw[h.un k hk k' hk' x hx hx']at c;exact c c'
  refine one (λk hk c=>one (λq hq _ x h1 h2=>h.un k hk q hq x h1 h2) λx h1 h2=>(no k hk c x h1 h2).elim) (one (λq hq c x h1 h2=>(no q hq c x h2 h1).elim) λ_ _ _=>rfl)
 ·refine List.nodup_append.mpr ⟨h.nd.sublist Yfk,by simp,λa ha b hb e=>?_⟩
  rw[List.mem_singleton.mp hb]at e;rw[e]at ha;exact((mf zs).mp ha).2 (jbN.mpr (.inl oz))
 ·rcases List.mem_append.mp e with e|e
  ·obtain⟨k,hk,ha,hb⟩:=h.ed a b e;exact put hk (P:=λp=>a∈p/\b∈p) ⟨ha,hb⟩ λc=>⟨(mz a).mpr ⟨k,hk,c,ha⟩,(mz b).mpr ⟨k,hk,c,hb⟩⟩
  ·have e:=List.mem_singleton.mp e;obtain⟨rfl,rfl⟩:=Ydc e;exact⟨zs,Yav _ (List.mem_singleton.mpr rfl),oz,tz⟩
def IsP.fewer (h:IsP W es ks){o t:Int}(ho:0<=o/\o<W):(ks.filter (λk=>!hit o t k)).length<ks.length:=by
 obtain⟨ko,hko,oko⟩:=h.al o ho.1 ho.2;have:=jbN (t:=t) |>.mpr (.inl oko);exact List.length_filter_lt_length_iff_exists.mpr ⟨ko,hko,by simp[this]⟩
end
structure Lq (G:Gp)(p:Addr)(el:List (Addr×List Int)):Prop where
 gp:G p=some (.lst (el.map λe=>.loc e.1))
 ga:∀e∈el,G e.1=some (.lst (e.2.map .int))
def Lq.sa {G G':Gp}{p:Addr}{el:List (Addr×List Int)}(h:Lq G p el)(s:Sa G G'):Lq G' p el:=⟨s _ _ h.gp,λe he=>s _ _ (h.ga e he)⟩
def Lq.ls {G:Gp}{p:Addr}{el:List (Addr×List Int)}(h:Lq G p el):Ls G p (el.map (·.1)) (el.map (·.2)):=by
 refine⟨by rw[h.gp,YaW];rfl,by simp,λi a k e1 e2=>?_⟩
 rw[Yal]at e1 e2;cases e:el[i]? with
 |none=>rw[e]at e1;cases e1
 |some x=>
  rw[e]at e1 e2;cases e1;cases e2;exact h.ga x (Yam e)
def jeM {G:Gp}:∀l:List Int,DUs G (l.map .int) (l.map .int)
 |[]=>.nil
 |_::r=>.cons (.int _) (jeM r)
def jeY (l:List Int):Small (.list (l.map .int)):=⟨(jbM l).1,by show Ybl (l.map .int)+1<=100;rw[(jbM l).2.1];decide⟩
def jmi {G:Gp}{b p:Addr}{kx:List Int}{el:List (Addr×List Int)}{k:Bool->Prop}(gb:G b=some (.lst (kx.map .int)))(h:Lq G p el)(q:k (decide (kx∈el.map (·.2)))):inU (.loc b) (.loc p) G k:=by
 unfold inU;dsimp only;rw[h.gp];refine .inr ⟨.list (kx.map .int),el.map λe=>.list (e.2.map .int),.lst (by unfold lsG;rw[gb]) (jeM _),?_,jeY kx,λe he=>?_,?_⟩
 ·have ga:=h.ga;clear h q
  induction el with
  |nil=>exact .nil
  |cons e el ih=>exact .cons (.lst (by unfold lsG;rw[ga e Yat]) (jeM _)) (ih λe he=>ga e (Yai _ he))
 ·obtain⟨z,_,rfl⟩:=List.mem_map.mp he;exact jeY z.2
 ·have:(el.map λe=>PyData.list (e.2.map .int)).any (λe=>YaI e (.list (kx.map .int)))=decide (kx∈el.map (·.2)):=by
   rw[Ybs,Yf6,decide_eq_true_eq];constructor
   ·rintro⟨d,hd,e⟩;obtain⟨z,hz,rfl⟩:=List.mem_map.mp hd;rw[jf4]at e;exact List.mem_map.mpr ⟨z,hz,of_decide_eq_true e⟩
   ·intro hm;obtain⟨z,hz,e⟩:=List.mem_map.mp hm;exact⟨_,List.mem_map.mpr ⟨z,hz,rfl⟩,by rw[jf4];exact decide_eq_true e⟩
  rw[this];exact q
def ja8 {G G':Gp}{p:Addr}(s:Sa G G')(h:G' p=none):G p=none:=by
 cases e:G p with
 |none=>rfl
 |some o=>rw[s _ _ e]at h;cases h
section
variable {k:Nat}{G:Gp}{Q:K1}{X:KX}{xs:List Str}{ss:List Spn}
def jhe {W:Nat}{s:Spn}{K:Sg->Gp->Prop}{u0 u2 u5 u6 o7 o8 o9:Option U}{p:Addr}{el:List (Addr×List Int)}{es:List (Int×Int)}{G3:Gp}(os:s.Ok W)(w8:W<=8)(hq:Lq G3 p el)(hP:IsP W es (el.map (·.2)))(ll:el.length<=8)(s3:Sa G G3)(fr:∀e∈el,G e.1=none)
  (kk:∀(p':Addr) (el':List (Addr×List Int)) (G':Gp) (o7 o8 o9:Option U),Lq G' p' el'->IsP W (es++[((s.o:Int),(s.t:Int))]) (el'.map (·.2))->el'.length<=8->Sa G G'->(∀e∈el',G e.1=none)->K [u0,some (.loc p'),u2,some (.int s.o),some (.int s.t),u5,u6,o7,o8,o9] G') :
  jaR T.gs (jab T k) jaW ⟨K,Q,λx _ G'=>X x G'⟩ [u0,some (.loc p),u2,some (.int s.o),some (.int s.t),u5,u6,o7,o8,o9] G3:=by
 have bo:0<=(s.o:Int)/\(s.o:Int)<W:=by have:=os.o;omega
 have bt:0<=(s.t:Int)/\(s.t:Int)<W:=by have:=os.t;omega
 simp! only[jaW,it_l hq.gp];refine⟨by rw[Yaa];exact Yah ll (by decide),?_⟩
 refine jak (λi acc G'=>G'=G3/\acc=((el.take i).filter λe=>hit s.o s.t e.2).map λe=>U.loc e.1) ?_ ?_ ⟨rfl,rfl⟩
 ·rintro acc G4 ⟨rfl,rfl⟩;rw[Yaa,Yaz];refine⟨by unfold lsG;rw[hq.gp],λpm G5 n5=>?_⟩
  have hm:Lq G5 pm (el.filter λe=>hit s.o s.t e.2):=⟨n5.at,λe he=>n5.sa _ _ (hq.ga e (Yed.mp he).1)⟩;have hq5:=hq.sa n5.sa;have em:(el.filter λe=>hit s.o s.t e.2).map (·.2)=(el.map (·.2)).filter (hit s.o s.t):=by rw[List.filter_map];rfl
  simp! only[jbr,it_l hq5.gp];refine⟨by rw[Yaa];exact Yah ll (by decide),?_⟩
  refine jak (λi acc G'=>G'=G5/\acc=((el.take i).filter λe=>!hit s.o s.t e.2).map λe=>U.loc e.1) ?_ ?_ ⟨rfl,rfl⟩
  ·rintro acc G6 ⟨rfl,rfl⟩;rw[Yaa,Yaz];refine⟨by unfold lsG;rw[hq5.gp],λpn G7 n7=>?_⟩
   have hn:Lq G7 pn (el.filter λe=>!hit s.o s.t e.2):=⟨n7.at,λe he=>n7.sa _ _ (hq5.ga e (Yed.mp he).1)⟩;have hm7:=hm.sa n7.sa;have en:(el.filter λe=>!hit s.o s.t e.2).map (·.2)=(el.map (·.2)).filter (λk=>!hit s.o s.t k):=by rw[List.filter_map];rfl
   simp! only[jbq];refine⟨by decide,λp8 G8 n8=>?_⟩
   have hm8:=hm7.sa n8.sa;have hn8:=hn.sa n8.sa;have s8:Sa G G8:=((s3.trans n5.sa).trans n7.sa).trans n8.sa;have fl:=hP.flat (o:=s.o) (t:=s.t);simp! only[jbp,it_l hm8.gp];refine jar (λi ς G'=>∃(pw:Addr) (o9:Option U),ς=[u0,some (.loc pn),u2,some (.int s.o),some (.int s.t),u5,u6,some (.loc pm),some (.loc pw),o9]/\Sa G8 G'/\G' pw=some (.lst ((((el.filter λe=>hit s.o s.t e.2).take i).map (·.2)).flatten.map .int))) ?_ ?_ ⟨p8,_,rfl,Sa.refl,n8.at⟩
   ·rintro ς G9 ⟨pw,o9,rfl,s9,gw⟩;rw[Yaa,Yaz,em]at gw;refine⟨by unfold lsG;rw[s9 _ _ hm8.gp],?_⟩
    have hn9:=hn8.sa s9;simp! only[jbo,jaA hn9.gp];have lf:=jax W _ fl.1 fl.2;refine jm4 gw fl.1 (by omega) λzs hp hs pz Ga na=>?_
    have hna:=hn9.sa na.sa;rw[jby hna.gp];have fw:=hP.fewer (t:=s.t) bo;rw[<- en,Yaa,Yaa]at fw;refine⟨by rw[Yaa];exact YaF (show _<=8 by omega) (by decide),λGb pb=>?_⟩
    have fresh:G pn=none:=ja8 (s3.trans n5.sa) n7.no;have npn:∀e∈el,e.1≠pn:=λe he=>Ne.symm (ja0 (hq5.ga e he) n7.no);refine kk pn ((el.filter λe=>!hit s.o s.t e.2)++[(pz,zs)]) Gb _ _ _ ⟨by rw[Yap];exact pb.at,λe he=>?_⟩ ?_ (by rw[YaD];simp;omega) (λb o e=>pb.sm _ _ (λz=>by rw[z,fresh]at e;cases e) (na.sa _ _ (s9 _ _ (s8 _ _ e)))) ?_
    ·rcases List.mem_append.mp he with z|z
     ·exact pb.sm _ _ (npn e (Yed.mp z).1) (hna.ga e z)
     ·rw[List.mem_singleton.mp z];exact pb.sm _ _ (ja0 hn9.gp na.no) na.at
    ·rw[Yap,en];exact hP.step bo bt hp hs
    ·intro e he;rcases List.mem_append.mp he with z|z
     ·exact fr e (Yed.mp z).1
     ·rw[List.mem_singleton.mp z];exact ja8 (s8.trans s9) na.no
   ·rintro i x ς G9 K9 hx ⟨pw,o9,rfl,s9,gw⟩ hk;rw[Yal]at hx;cases ee:(el.filter λe=>hit s.o s.t e.2)[i]? with
    |none=>rw[ee]at hx;cases hx
    |some e=>
     rw[ee]at hx;have hx:=(Yao hx).symm;subst hx;refine⟨by unfold lsG;rw[s9 _ _ hm8.gp],?_⟩
     have ge:=s9 _ _ (hm8.ga e (Yam ee));simp! only[];have e1:(((el.filter λe=>hit s.o s.t e.2).take (i+1)).map (·.2)).flatten=(((el.filter λe=>hit s.o s.t e.2).take i).map (·.2)).flatten++e.2:=by
      rw[YaL,ee,Yap,Yfj];simp
     have lf:=jax W _ fl.1 fl.2;have l1:((((el.filter λe=>hit s.o s.t e.2).take i).map (·.2)).flatten++e.2).length<=8:=by
      rw[<- e1];refine Yah ?_ (Yah lf w8);rw[<- em]
      conv=>rhs;rw[<- List.take_append_drop (i+1) (el.filter λe=>hit s.o s.t e.2)]
      rw[Yap,Yfj,YaD];omega
     rw[YaD]at l1;refine⟨_,_,gw,ge,by rw[Yaa,Yaa];exact Yah l1 (by decide),λpz Ga na=>hk _ _ ⟨pz,_,rfl,s9.trans na.sa,?_⟩⟩
     rw[e1,Yap];exact na.at
  ·rintro i x acc G6 K6 hx ⟨rfl,rfl⟩ hk hn;rw[Yal]at hx;cases ee:el[i]? with
   |none=>rw[ee]at hx;cases hx
   |some e=>
    rw[ee]at hx;have hx:=(Yao hx).symm;subst hx;have he:=Yam ee;refine⟨by unfold lsG;rw[hq5.gp],?_⟩
    simp! only[];refine jmi (hq5.ga e he) hm ?_;have e0:decide (e.2∈(el.filter λe=>hit s.o s.t e.2).map (·.2))=hit s.o s.t e.2:=by
     rw[em,Ybs,decide_eq_true_eq,Yed];exact⟨λz=>z.2,λz=>⟨List.mem_map.mpr ⟨e,he,rfl⟩,z⟩⟩
    rw[e0];have et:el.take (i+1)=el.take i++[e]:=by rw[YaL,ee];rfl
    cases c:hit s.o s.t e.2 with
    |true=>
     rw[if_neg (by decide)]
     exact hn _ ⟨rfl,by rw[et,Yck,YeL (by simp[c])];simp⟩
    |false=>
     rw[if_pos (by decide)]
     exact hk _ _ ⟨rfl,by rw[et,Yck,YeK (by simp[c]),Yap];rfl⟩
 ·rintro i x acc G4 K4 hx ⟨rfl,rfl⟩ hk hn;rw[Yal]at hx;cases ee:el[i]? with
  |none=>rw[ee]at hx;cases hx
  |some e=>
   rw[ee]at hx;have hx:=(Yao hx).symm;subst hx;have ge:=hq.ga e (Yam ee);refine⟨by unfold lsG;rw[hq.gp],?_⟩
   simp! only[];have et:el.take (i+1)=el.take i++[e]:=by rw[YaL,ee];rfl
   have yes:hit s.o s.t e.2=true->K4 (some (.loc e.1)) G4:=λc=>hk _ _ ⟨rfl,by rw[et,Yck,YeK (by simpa using c),Yap];rfl⟩
   have no:¬hit s.o s.t e.2=true->K4 none G4:=λc=>hn _ ⟨rfl,by rw[et,Yck,YeL (by simpa using c)];simp⟩
   refine in_l ge rfl (jbj _) ?_;rw[jdP];by_cases c1:(s.o:Int)∈e.2
   ·rw[if_pos (decide_eq_true c1)];exact yes (jbN.mpr (.inl c1))
   ·rw[if_neg (by rw[decide_eq_false c1];decide)]
    refine in_l ge rfl (jbj _) ?_;rw[jdP];by_cases c2:(s.t:Int)∈e.2
    ·rw[if_pos (decide_eq_true c2)];exact yes (jbN.mpr (.inr c2))
    ·rw[if_neg (by rw[decide_eq_false c2];decide)]
     exact no λz=>(jbN.mp z).elim c1 c2
end

def jpT {G:Gp}{a:Addr}{Q:K1}{as:List Addr}{ks:List (List Int)}(h:Ls G a as ks)(nd:ks.Nodup)(h64:ks.length<64)(q:∀(p:Addr) (as':List Addr) (ks':List (List Int)) (G':Gp),ks'.Perm ks->ks'.Pairwise Sl->Sa G G'->Ls G' p as' ks'->(∀b∈as',b∈as)->Q (.loc p) G'):jbE [.loc a] G Q:=by
 unfold jbE;dsimp only;rw[h.gp];refine⟨ks,nd,by rw[Yaa,h.l];exact Yau h64 (by decide),by rw[Yaa,h.l],.inr (.inl ⟨as,rfl,h.ga⟩),λπ hp hs=>?_⟩
 rw[Yaa,h.l]at hp hs;have hfl:∀i∈π,i<ks.length:=λi hi=>List.mem_range.mp (hp.mem_iff.mp hi);have pl:π.length=ks.length:=by rw[hp.length_eq,YbW]
 have e:(π.map λi=>(as.map U.loc).getD i .non)=(π.map λi=>as.getD i a).map .loc:=by
  rw[YaW];refine Ydn λi hi=>?_;have:=hfl i hi;rw[<- h.l]at this;simp[YaS,this]
 rw[e];intro p G' n;refine q p _ (π.map λi=>ks.getD i []) G' (je5 ks [] hp) (ji2 jjR λi hi=>?_) n.sa ⟨n.at,by simp,λi a' k e1 e2=>n.sa _ _ ?_⟩ λb hb=>?_
 ·have hi:i+1<ks.length:=by simpa[pl]using hi
  have h1:i<π.length:=by omega
  have h2:i+1<π.length:=by omega
  have:=hs i hi;rw[show π.getD i 0=π[i] by simp[YaS,h1],show π.getD (i+1) 0=π[i+1] by simp[YaS,h2]]at this
  simpa using this
 ·rw[Yal]at e1 e2;cases ep:π[i]? with
  |none=>rw[ep]at e1;cases e1
  |some j=>
   rw[ep]at e1 e2;have hj:=hfl j (Yam ep);have hj':j<as.length:=by rw[h.l];exact hj
   have e1:=Yao e1;have e2:=Yao e2;refine h.ga j a' k ?_ ?_
   ·rw[Yab hj',<- e1];simp[YaS,hj']
   ·rw[Yab hj,<- e2];simp[YaS,hj]
 ·obtain⟨i,hi,rfl⟩:=List.mem_map.mp hb;have:=hfl i hi;rw[<- h.l]at this;rw[show as.getD i a=as[i] by simp[YaS,this]]
  exact Ybo this
section
variable {k:Nat}{G:Gp}{Q:K1}{X:KX}{xs:List Str}{ss:List Spn}
def jfa (so:∀s∈ss,s.Ok xs.length)(w8:xs.length<=8)(q:∀(p:Addr) (as:List Addr) (ks:List (List Int)) (G':Gp),Sa G G'->Ls G' p as ks->IsP xs.length (edg ss) ks->ks.Pairwise Sl->ks.length<=8->(∀a∈as,G a=none)->Q (.loc p) G'):jab T (k+1) jdH [jac xs ss] G Q X:=by
 refine⟨rfl,?_⟩;simp! only[jd0,jad,Yad,jac,ix_t (jaG _ _),Yaa];refine⟨by omega,by omega,by rw[jal];exact Yah w8 (by decide),?_⟩
 refine jak (λi acc G'=>∃el:List (Addr×List Int),acc=el.map (λe=>.loc e.1)/\Sa G G'/\(∀e∈el,G' e.1=some (.lst (e.2.map .int)))/\el.map (·.2)=((YaK i).map λ(i:Nat)=>[(i:Int)])/\∀e∈el,G e.1=none) ?_ ?_ ⟨[],rfl,Sa.refl,λ_ h=>(nomatch h),rfl,λ_ h=>(nomatch h)⟩
 ·rintro acc G1 ⟨el,rfl,s1,ga,ek,fr⟩;rw[jal]at ek;refine⟨trivial,λp G2 n2=>?_⟩;have hq:Lq G2 p el:=⟨n2.at,λe he=>n2.sa _ _ (ga e he)⟩;have ll:el.length<=8:=by
   have:=congrArg Yef ek;rw[Yaa,Yaa,YbW]at this;omega
  simp! only[jci,ix_t (jay _ _ _)];refine jar (λi ς G'=>∃(p:Addr) (el:List (Addr×List Int)) (o2 o3 o4 o5 o6 o7 o8 o9:Option U),ς=[some (jac xs ss),some (.loc p),o2,o3,o4,o5,o6,o7,o8,o9]/\Lq G' p el/\IsP xs.length (edg (ss.take i)) (el.map (·.2))/\el.length<=8/\Sa G G'/\∀e∈el,G e.1=none) ?_ ?_ ⟨p,el,_,_,_,_,_,_,_,_,rfl,hq,by rw[ek];exact IsP.zero,ll,s1.trans n2.sa,fr⟩
  ·rintro ς G3 ⟨p,el,o2,o3,o4,o5,o6,o7,o8,o9,rfl,hq,hP,ll,s3,fr⟩;rw[Yaa,Yaz]at hP;refine⟨trivial,?_⟩;simp! only[jch];refine jpT hq.ls hP.nd (by rw[Yaa];omega) λp' as' ks' G4 hp hs s4 h4 hm=>?_
   exact q p' as' ks' G4 (s3.trans s4) h4 (hP.perm hp) hs (by rw[hp.length_eq,Yaa];exact ll) λa ha=>by
    obtain⟨e,he,rfl⟩:=List.mem_map.mp (hm a ha);exact fr e he
  ·rintro i x ς G3 K hx ⟨p,el,o2,o3,o4,o5,o6,o7,o8,o9,rfl,hq,hP,ll,s3,fr⟩ hk;rw[Yal]at hx;cases es:ss[i]? with
   |none=>rw[es]at hx;cases hx
   |some s=>
    rw[es]at hx;have hx:=(Yao hx).symm;subst hx;refine⟨trivial,?_⟩;simp! only[Spn.u];refine⟨trivial,jhe (so s (Yam es)) w8 hq hP ll s3 fr λp' el' G' o7 o8 o9 h1 h2 h3 h4 h5=>hk _ _ ⟨p',el',_,_,_,_,_,_,_,_,rfl,h1,?_,h3,h4,h5⟩⟩;have:edg (ss.take (i+1))=edg (ss.take i)++[((s.o:Int),(s.t:Int))]:=by unfold edg;rw[YaL,es,Yap];rfl
    rw[this];exact h2
 ·rintro i x acc G1 K hx ⟨el,rfl,s1,ga,ek,fr⟩ hk _;obtain⟨hi,rfl⟩:=jaI hx;refine⟨trivial,?_⟩;simp! only[];refine⟨by decide,λp G2 n2=>hk _ _ ⟨el++[(p,[(i:Int)])],by rw[Yap];rfl,s1.trans n2.sa,λe he=>?_,by rw[Yap,ek,Yeb,Yap];rfl,λe he=>?_⟩⟩
  rcases List.mem_append.mp he with z|z
  ·exact n2.sa _ _ (ga e z)
  ·rw[List.mem_singleton.mp z];exact n2.at
  rcases List.mem_append.mp he with z|z
  ·exact fr e z
  ·rw[List.mem_singleton.mp z];exact ja8 s1 n2.no
end
def jmo {xs:List Str}{ss:List Spn}(x8:xs.length<=8)(nm:∀x∈xs,Nm x)(sl:ss.length<=24)(so:∀s∈ss,s.Ok xs.length):Ft 600000 3 (jac xs ss):=by
 refine(Ft.tup (n:=260000) (k:=2) (m:=2) (Yaf _) (λu hu=>?_) (by decide)).mono (Yaf _) (Yaf _)
 simp only[YaM,Yaw,or_false]at hu;rcases hu with rfl|rfl
 ·refine(Ft.tup (n:=82) (k:=0) (m:=8) (by rw[Yaa];exact x8) (λv hv=>?_) (by decide:_<=1000)).mono (by decide) (by decide)
  obtain⟨x,hx,rfl⟩:=List.mem_map.mp hv;exact Ft.str (nm x hx).l8 (nm x hx).ch
 ·refine Ft.tup (n:=10000) (k:=1) (m:=25) (by rw[Yaa];omega) (λv hv=>?_) (by decide)
  obtain⟨s,hs,rfl⟩:=List.mem_map.mp hv;exact(so s hs).ft x8
def jib {x:Str}{G:Gp}{k:Bool->Prop}(h:k false):cmpU .NotEq (.str x) (.str x) G k:=by
 show k (!decide (x=x));rw[decide_eq_true rfl];exact h

def Wk (ss:List Spn):List Ent->Int->Int->Prop
 |[],a,b=>a=b
 |e::r,a,b=>EOk ss e/\eS ss e=a/\Wk ss r (eD ss e) b
noncomputable def jbi (e:Ent):Ent:=(e.1,-e.2)
section
variable {ss:List Spn}
def Wk.app:∀{r r':List Ent} {a m b:Int},Wk ss r a m->Wk ss r' m b->Wk ss (r++r') a b
 |[],_,_,_,_,h,g=>by rw[show _=_ from h];exact g
 |_::r,_,_,_,_,⟨h1,h2,h3⟩,g=>⟨h1,h2,Wk.app h3 g⟩
def Wk.last:∀{r:List Ent} {e:Ent} {a b:Int},Wk ss (r++[e]) a b->Wk ss r a (eS ss e)/\EOk ss e/\eD ss e=b
 |[],e,a,b,⟨h1,h2,h3⟩=>⟨h2.symm,h1,h3⟩
 |_::r,e,a,b,⟨h1,h2,h3⟩=>let ⟨g1,g2⟩:=Wk.last h3;⟨⟨h1,h2,g1⟩,g2⟩
def EOk.flip {e:Ent}(h:EOk ss e):EOk ss (jbi e)/\eS ss (jbi e)=eD ss e/\eD ss (jbi e)=eS ss e:=by
 obtain⟨s,hs,z⟩:=h.get;rcases z with⟨z,h1,h2⟩|⟨z,h1,h2⟩
 ·rw[h1,h2,z];exact⟨⟨h.1,.inr rfl⟩,eS_m hs,eD_m hs⟩
 ·rw[h1,h2,z];exact⟨⟨h.1,.inl rfl⟩,eS_1 hs,eD_1 hs⟩
def Wk.rev:∀{r:List Ent} {a b:Int},Wk ss r a b->Wk ss (r.reverse.map jbi) b a
 |[],_,_,h=>Eq.symm h
 |e::r,a,b,⟨h1,h2,h3⟩=>by
  rw[YbV,Yap];refine(Wk.rev h3).app ?_;obtain⟨f1,f2,f3⟩:=h1.flip;exact⟨f1,f2,f3.trans h2⟩
def Wk.all:∀{r:List Ent} {a b:Int},Wk ss r a b->∀e∈r,EOk ss e
 |_::_,_,_,⟨h1,_,h3⟩,e,he=>by
  rcases YaM.mp he with z|z
  ·rw[z];exact h1
  ·exact h3.all e z
section
variable {a:Addr}{o:Obj}{kvs:List (Key×U)}{z:Int}
def jqz {G:Gp}{k:Bool->Prop}(g:G a=some (.frk o kvs))(q:k (dGet kvs (.inl z)).isSome):inU (.int z) (.loc a) G k:=by unfold inU;dsimp only;rw[g];exact q
def joq {u:U}{G:Gp}{Q:K1}(g:G a=some (.frk o kvs))(h:dGet kvs (.inl z)=some u):ixU (.loc a) (.int z) G Q=Q u G:=by unfold ixU;dsimp only;rw[g];dsimp only[kU];rw[h]
end
section
variable {f:List (Key×U)->List U}{a:Addr}
def jmj {kvs:List (Key×U)}{G:Gp}{Q:List U->(Gp->Prop)->Gp->Prop}(g:G a=some (.dK kvs)):jdg f (.loc a) G Q=∀o G',Put G a (.frk o kvs) G'->Q (f kvs) (λG'=>G' a=some (.frk o kvs)) G':=by unfold jdg;dsimp only;rw[g]
def jix {o:Obj}{kvs:List (Key×U)}{G:Gp}{Q:List U->(Gp->Prop)->Gp->Prop}(g:G a=some (.frk o kvs)):jdg f (.loc a) G Q=Q (f kvs) (λG'=>G' a=some (.frk o kvs)) G:=by unfold jdg;dsimp only;rw[g]
end
def jiI:∀{fs:List (Int×Ent)} {z:Int},z∉fky fs->dGet (fkv fs) (.inl z)=none
 |[],_,_=>rfl
 |f::fs,z,h=>by
  have h1:¬f.1=z:=λe=>h (by rw[<- e];simp[fky])
  have h2:z∉fky fs:=λe=>h (Yai _ e);have:=jiI h2;unfold dGet fkv at this ⊢;rw[YaG,YeV (by simpa using h1)]
  exact this
def jiH:∀{fs:List (Int×Ent)} {j:Nat} {f:Int×Ent},(fky fs).Nodup->fs[j]?=some f->dGet (fkv fs) (.inl f.1)=some (eu f.2)
 |[],_,_,_,h=>by simp at h
 |g::fs,0,f,_,h=>by
  simp at h;subst h;unfold dGet fkv;rw[YaG,List.find?_cons_of_pos (by simp)];rfl
 |g::fs,j+1,f,nd,h=>by
  simp at h;have nd:=List.nodup_cons.mp (show(g.1::fky fs).Nodup from nd);have h1:¬g.1=f.1:=λe=>nd.1 (by rw[e];exact jdR h)
  have:=jiH nd.2 h;unfold dGet fkv at this ⊢;rw[YaG,YeV (by simpa using h1)]
  exact this
def jmt {fs:List (Int×Ent)}{w:Nat}(nd:((w:Int)::fky fs).Nodup){n:Nat}{z:Int}(h:z∈(w:Int)::fky (fs.take n)) :
  (z=w/\dGet (fkv fs) (.inl z)=none)\/∃j f,j<n/\fs[j]?=some f/\f.1=z/\dGet (fkv fs) (.inl z)=some (eu f.2):=by
 have nd:=List.nodup_cons.mp nd;rcases YaM.mp h with z'|z'
 ·exact .inl ⟨z',by rw[z'];exact jiI nd.1⟩
 ·obtain⟨i,f,hi,e,rfl⟩:=jcA z';exact .inr ⟨i,f,hi,e,rfl,jiH nd.2 e⟩
end
section
variable {k:Nat}{G:Gp}{Q:K1}{X:KX}{xs:List Str}{ss:List Spn}{W:Nat}
def jh7 {e:Ent}(h:EOk ss e)(q:Q (.tup [.int (eS ss e),.int (eD ss e)]) G):jab T (k+1) jdJ [jac xs ss,eu e] G Q X:=by
 obtain⟨s,hs,z⟩:=h.get;refine⟨rfl,?_⟩;simp! only[jfz,jad,Yad,eu,jac,ix_t (jay _ _ _),ix_t (atM hs),Spn.u];refine⟨trivial,trivial,?_⟩;rcases z with⟨z,h1,h2⟩|⟨z,h1,h2⟩
 ·rw[show e.2=1 by rw[z],if_pos (by decide)]
  rw[h1,h2]at q;exact⟨by decide,q⟩
 ·rw[show e.2=-1 by rw[z],if_neg (by decide)]
  rw[h1,h2]at q;exact⟨by decide,q⟩
def jh4 {w:Nat}{fs:List (Int×Ent)}{pf:Addr}{o:Obj}{z:Int}(hF:Fst W ss w fs)(w8:W<=8)(gf:G pf=some (.frk o (fkv fs)))(hz:z∈(w:Int)::fky fs)
  (q:∀(p:Addr) (es:List Ent) (G':Gp),Sa G G'->G p=none->G' p=some (.lst (es.map eu))->Wk ss es z w->es.length<=fs.length->(∀e∈es,∃f∈fs,f.2=e)->Q (.tup [.loc p,.int w]) G') :
  jab T (k+2) ja9 [jac xs ss,.loc pf,.int z] G Q X:=by
 have rl:=jax W _ hF.nd hF.bd;simp only[fky,YaA,Yaa]at rl;refine⟨rfl,?_⟩;simp! only[jb3,jad,Yad];refine⟨by decide,λp G1 n1=>?_⟩
 simp! only[jbl];rw[S_wh];refine⟨λn ς G'=>∃(es:List Ent) (y:Int),ς=[some (jac xs ss),some (.loc pf),some (.int y),some (.loc p)]/\Sa G G'/\G' p=some (.lst (es.map eu))/\Wk ss es z y/\y∈(w:Int)::fky (fs.take n)/\n<=fs.length/\es.length+n<=fs.length/\∀e∈es,∃f∈fs,f.2=e,
  ⟨fs.length,[],z,rfl,n1.sa,n1.at,rfl,by rw[Yaz];exact hz,Yaf _,by simp,λ_ h=>(nomatch h)⟩,?_⟩
 rintro n ς G2 ⟨es,y,rfl,s2,gp,wk,hy,hn,hl,hm⟩;have gf2:=s2 _ _ gf;simp! only[];refine jqz gf2 ?_;rcases jmt hF.nd hy with⟨rfl,e⟩|⟨j,f,hj,ef,rfl,e⟩
 ·rw[e,if_neg (by decide)]
  simp! only[];exact⟨by decide,q p es G2 s2 n1.no gp wk (by omega) hm⟩
 ·obtain⟨h1,h2,h3⟩:=hF.en j f ef;rw[e,if_pos (by rfl)]
  simp! only[jaA gp,joq gf2 e,jby gp];refine⟨by rw[Yaa];exact YaF (show es.length<=8 by omega) (by decide),λG3 p3=>?_⟩
  have hpf:pf≠p:=λz=>by rw[z,n1.no]at gf;cases gf
  have gf3:=p3.sm _ _ hpf gf2;simp! only[joq gf3 e];refine jh7 h1 ?_;rw[ix_t (jay _ _ _)];refine⟨j,hj,es++[f.2],eD ss f.2,rfl,λb u hb=>p3.sm _ _ (λz=>by rw[z,n1.no]at hb;cases hb) (s2 _ _ hb),by rw[Yap];exact p3.at,wk.app ⟨h1,h2,rfl⟩,h3,by omega,by simp;omega,λe he=>?_⟩
  rcases List.mem_append.mp he with z|z
  ·exact hm e z
  ·rw[List.mem_singleton.mp z];exact⟨f,Yam ef,rfl⟩
end

def mt_pop {p:Addr}{us:List U}{G:Gp}(g:G p=some (.lst us)):mtU .pop (.loc p) G=some ("list", "list.pop"):=by unfold mtU;dsimp only;rw[g]
def jgu {p:Addr}{es:List Ent}{e:Ent}{G:Gp}{Q:K1}(g:G p=some (.lst ((es++[e]).map eu)))(q:∀G',Put G p (.lst (es.map eu)) G'->Q (eu e) G'):jaL .pop (.loc p) [] G Q:=by
 dsimp only[jaL];unfold popU;dsimp only;rw[g];dsimp only;have e1:((es++[e]).map eu)[((es++[e]).map eu).length-1]?=some (eu e):=by simp
 have e2:((es++[e]).map eu).dropLast=es.map eu:=by simp
 rw[e1,e2];exact λG' h=>q G' h
def jiZ {es:List Ent}{e:Ent}:atI ((es++[e]).map eu) (-1)=some (eu e):=by
 refine(jbT eu _ _).trans ?_;unfold atI;rw[show ixN (es++[e]).length (-1)=some es.length by unfold ixN;simp;omega]
 simp
def jqI {e e':Ent}{G:Gp}{k:Bool->Prop}(q:k (decide (e=e'))):cmpU .Eq (eu e) (eu e') G k:=by
 refine(?_:eqU (eu e) (eu e') G k);have d:∀x:Ent,DU G (eu x) (.tuple ([(x.1:Int),x.2].map .int)):=λx=>.tup (jeM [(x.1:Int),x.2]);have sm:∀l:List Int,Small (.tuple (l.map .int)):=λl=>⟨(jbM l).1,by show Ybl (l.map .int)+1<=100;rw[(jbM l).2.1];decide⟩
 refine⟨_,_,d e,d e',sm _,sm _,?_⟩;have:YaI (.list ([(e.1:Int),e.2].map .int)) (.list ([(e'.1:Int),e'.2].map .int))=decide (e=e'):=by
  rw[jf4,Ybs,decide_eq_true_eq,decide_eq_true_eq];constructor
  ·intro h;injection h with h1 h2
   injection h2 with h2 _
   exact Ydd (by omega) h2
  ·intro h;rw[h]
 rw[show YaI (.tuple ([(e.1:Int),e.2].map .int)) (.tuple ([(e'.1:Int),e'.2].map .int))=decide (e=e')from this];exact q
section
variable {a:Addr}{us:List U}{G:Gp}
def ji5 {kk:Bool->Prop}(g:G a=some (.lst us)):truU (.loc a) G kk=kk (!us.isEmpty):=by unfold truU;dsimp only;rw[g]
def jpZ {Q:K1}(g:G a=some (.lst us)):revU (.loc a) (.int (-1)) G Q=newO G (.lst us.reverse) Q:=by
 unfold revU lsG;dsimp only;rw[g];simp
end
def Tf (fs:List (Int×Ent))(e:Ent):Prop:=∃f∈fs,f.2=e\/f.2=jbi e
structure CR (ss:List Spn)(fs:List (Int×Ent))(i:Nat)(s:Spn)(ring:List Ent):Prop where
 at':ss[i]?=some s
 wk:Wk ss ring s.o s.o
 l:ring.length<=1+2*fs.length
 tl:∃r,ring=(i,1)::r/\∀e∈r,Tf fs e
def snoc {α:Type}:∀l:List α,l=[]\/∃r e,l=r++[e]
 |[]=>.inl rfl
 |a::l=>.inr (by
  rcases snoc l with z|⟨r,e,z⟩
  ·exact⟨[],a,by rw[z];rfl⟩
  ·exact⟨a::r,e,by rw[z];rfl⟩)
section
variable {k:Nat}{G:Gp}{Q:K1}{X:KX}{xs:List Str}{ss:List Spn}{W:Nat}
def jjL {w i:Nat}{s:Spn}{fs:List (Int×Ent)}{pf:Addr}{o:Obj}(hF:Fst W ss w fs)(w8:W<=8)(gf:G pf=some (.frk o (fkv fs)))(hs:ss[i]?=some s)(h1:(s.o:Int)∈(w:Int)::fky fs)(h2:(s.t:Int)∈(w:Int)::fky fs)
  (q:∀(ring:List Ent) (G':Gp),Sa G G'->CR ss fs i s ring->Q (.tup (ring.map eu)) G'):jab T (k+3) jb1 [jac xs ss,.loc pf,.int i] G Q X:=by
 have rl:=jax W _ hF.nd hF.bd;simp only[fky,YaA,Yaa]at rl;have il:=(List.getElem?_eq_some_iff.mp hs).1;refine⟨rfl,?_⟩;simp! only[jb4,jad,Yad,jac,ix_t (jay _ _ _),ix_t (atM hs),Spn.u];refine⟨trivial,?_⟩;simp! only[jbv];refine jh4 (xs:=xs) hF w8 gf h2 λpt ts G1 s1 nt g1 wt lt mt=>?_;simp! only[];refine⟨trivial,?_⟩;refine jh4 (xs:=xs) hF w8 (s1 _ _ gf) h1 λpb bs G2 s2 nb g2 wb lb mb=>?_;simp! only[jbu];refine⟨trivial,?_⟩;rw[S_wh];have hne:pt≠pb:=λz=>by rw[z]at g1;rw[nb]at g1;cases g1
 refine⟨λn ς G'=>∃(ts bs:List Ent) (m:Int),ς=[some (jac xs ss),some (.loc pf),some (.int i),some (.str s.w),some (.int s.o),some (.int s.t),some (.int s.lo),some (.int s.hi),some (.loc pt),some (.int w),some (.loc pb),some (.int w),none]/\n=ts.length/\Sa G G'/\G' pt=some (.lst (ts.map eu))/\G' pb=some (.lst (bs.map eu))/\Wk ss ts s.t m/\Wk ss bs s.o m/\ts.length<=fs.length/\bs.length<=fs.length/\(∀e∈ts,∃f∈fs,f.2=e)/\∀e∈bs,∃f∈fs,f.2=e,
  ⟨_,ts,bs,w,rfl,rfl,s1.trans s2,s2 _ _ g1,g2,wt,wb,lt,lb,mt,mb⟩,?_⟩
 have nb0:G pb=none:=ja8 s1 nb;clear s1 g1 wt lt mt s2 g2 wb lb mb nb;rintro n ς G3 ⟨ts,bs,m,rfl,rfl,s3,gt,gb,wt,wb,lt,lb,mt,mb⟩;have done:jaR T.gs (jab T (k+2)) jaZ ⟨λ_ G'=>Q .non G',Q,λx _ G'=>X x G'⟩ [some (jac xs ss),some (.loc pf),some (.int i),some (.str s.w),some (.int s.o),some (.int s.t),some (.int s.lo),some (.int s.hi),some (.loc pt),some (.int w),some (.loc pb),some (.int w),none] G3:=by
  simp! only[jaZ];rw[if_pos (by simp)]
  refine⟨by decide,λph G4 n4=>?_⟩
  simp! only[jbt];refine⟨by decide,by decide,λp5 G5 n5=>?_⟩
  refine⟨_,_,n5.at,n5.sa _ _ (n4.sa _ _ gt),Yah (show _<=20 by simp;omega) (by decide),λp6 G6 n6=>?_⟩
  refine⟨_,_,n6.at,n6.sa _ _ (n5.sa _ _ n4.at),Yah (show _<=20 by simp;omega) (by decide),λp7 G7 n7=>?_⟩
  have gb7:=n7.sa _ _ (n6.sa _ _ (n5.sa _ _ (n4.sa _ _ gb)));dsimp only;rw[jpZ gb7];intro p8 G8 n8;rw[it_l n8.at];refine⟨Yah (show _<=20 by simp;omega) (by decide),?_⟩
  rw[<- Yf2];refine jaD (λu=>match u with|.tup [.int a,.int b]=>.tup [.int a,.int (-b)]|u=>u) (by unfold lsG;rw[n8.at,Yf2]) (λu hu K hK=>?_) ?_
  ·obtain⟨e,he,rfl⟩:=List.mem_map.mp hu;simp! only[eu];exact⟨trivial,by decide,hK⟩
  ·intro p9 G9 n9;have e9:[]++(bs.reverse.map eu).map (λu=>match u with|.tup [.int a,.int b]=>.tup [.int a,.int (-b)]|u=>u)=(bs.reverse.map jbi).map eu:=by
    rw[Ya8,YaW,YaW];rfl
   rw[e9]at n9;refine⟨_,_,n9.sa _ _ (n8.sa _ _ n7.at),n9.at,Yah (show _<=30 by simp;omega) (by decide),λpa Ga na=>?_⟩
   dsimp only;rw[it_l na.at];have e10:[U.tup [.int i,.int 1]]++ts.map eu++[]++(bs.reverse.map jbi).map eu=(((i,1)::(ts++bs.reverse.map jbi)):List Ent).map eu:=by simp[eu]
   rw[e10];have ok1:EOk ss (i,1):=⟨il,.inl rfl⟩;refine q _ Ga (s3.trans ((((((n4.sa.trans n5.sa).trans n6.sa).trans n7.sa).trans n8.sa).trans n9.sa).trans na.sa)) ⟨hs,⟨ok1,eS_1 hs,?_⟩,by simp;omega,_,rfl,λe he=>?_⟩
   ·rw[eD_1 hs];exact wt.app wb.rev
   ·rcases List.mem_append.mp he with z|z
    ·obtain⟨f,hf,rfl⟩:=mt e z;exact⟨f,hf,.inl rfl⟩
    ·obtain⟨e',he',rfl⟩:=List.mem_map.mp z;obtain⟨f,hf,rfl⟩:=mb e' (List.mem_reverse.mp he');exact⟨f,hf,.inr (by simp[jbi])⟩
 simp! only[];rw[ji5 gt];rcases snoc ts with rfl|⟨ts',et,rfl⟩
 ·rw[if_neg (by simp)];exact done
 rw[if_pos (by simp),ji5 gb]
 rcases snoc bs with rfl|⟨bs',eb,rfl⟩
 ·rw[if_neg (by simp)];exact done
 rw[if_pos (by simp),ix_l gt jiZ,ix_l gb jiZ]
 refine jqI ?_;by_cases c:et=eb
 ·subst c;rw[if_pos (by simp),mt_pop gt]
  refine jgu gt λG4 p4=>?_;have gb4:=p4.sm _ _ (Ne.symm hne) gb;rw[mt_pop gb4];refine jgu gb4 λG5 p5=>?_;obtain⟨w1,w2,w3⟩:=wt.last;obtain⟨v1,v2,v3⟩:=wb.last;refine⟨ts'.length,by simp,ts',bs',eS ss et,trivial,rfl,λb u hb=>p5.sm _ _ (λz=>by rw[z,nb0]at hb;cases hb) (p4.sm _ _ (λz=>by rw[z,nt]at hb;cases hb) (s3 _ _ hb)),p5.sm _ _ hne p4.at,p5.at,w1,v1,by simp at lt;omega,by simp at lb;omega,λe he=>mt e (Yax _ he),λe he=>mb e (Yax _ he)⟩
 ·rw[if_neg (by simpa using c)];exact done
end

noncomputable def jcQ (r:List Ent):U:=.tup (r.map eu)
section
variable {k:Nat}{G:Gp}{Q:K1}{X:KX}{xs:List Str}{ss:List Spn}{W:Nat}
def jh8 {w:Nat}{fs:List (Int×Ent)}{pf:Addr}{ps:List Int}(hF:Fst W ss w fs)(w8:W<=8)(sl:ss.length<=24)(gf:G pf=some (.dK (fkv fs)))(hc:Clo ss w (fky fs))(hp:∀x∈ps,x∈(w:Int)::fky fs)
  (q:∀(p:Addr) (rs:List (List Ent)) (o:Obj) (G':Gp),Sm pf G G'->G p=none->G' p=some (.lst (rs.map jcQ))->G' pf=some (.frk o (fkv fs))->(∀r∈rs,∃i s,CR ss fs i s r)->(∀i s,ss[i]?=some s->(s.o:Int)∈ps->(∃f∈fs,f.2.1=i)\/∃r∈rs,CR ss fs i s r)->rs.length<=24->Q (.loc p) G') :
  jab T (k+4) jbL [jac xs ss,jaq ps,.loc pf] G Q X:=by
 have rl:=jax W _ hF.nd hF.bd;simp only[fky,YaA,Yaa]at rl;refine⟨rfl,?_⟩;simp! only[jbR,jad,Yad,jmj gf];intro o G1 p1;have ev:jdn (fkv fs)=fs.map λf=>eu f.2:=by unfold jdn fkv;rw[YaW];rfl
 refine⟨by rw[ev,Yaa];exact Yah (show fs.length<=8 by omega) (by decide),?_⟩
 refine jaD (λu=>match u with|.tup (a::_)=>a|u=>u) p1.at (λu hu K hK=>?_) ?_
 ·rw[ev]at hu;obtain⟨f,hf,rfl⟩:=List.mem_map.mp hu;simp! only[eu];exact⟨trivial,hK⟩
 intro pu G2 n2;have eu2:[]++(jdn (fkv fs)).map (λu=>match u with|.tup (a::_)=>a|u=>u)=(fs.map λf=>((f.2.1:Nat):Int)).map U.int:=by
  rw[ev,Ya8,YaW,YaW];rfl
 rw[eu2]at n2;simp! only[jac,ix_t (jay _ _ _),Yaa];refine⟨by omega,by omega,by rw[jal];exact Yah (show((ss.length:Int)).toNat<=24 by omega) (by decide),?_⟩
 refine jak (λn acc G'=>G'=G2/\∃is:List Nat,acc=is.map (λ(i:Nat)=>U.int (i:Int))/\is.length<=n/\(∀i∈is,∃s,ss[i]?=some s/\(s.o:Int)∈ps)/\∀i s,i<n->ss[i]?=some s->(s.o:Int)∈ps->(∃f∈fs,f.2.1=i)\/i∈is) ?_ ?_ ⟨rfl,[],rfl,Yaf _,λ_ h=>(nomatch h),λi s h=>by omega⟩
 ·rintro acc G' ⟨rfl,is,rfl,il,h1,h2⟩;rw[jal]at il h2;refine⟨trivial,λp3 G3 n3=>?_⟩;simp! only[it_l n3.at];refine⟨by rw[Yaa];exact Yah (show is.length<=24 by omega) (by decide),?_⟩
  have gf3:G3 pf=some (.frk o (fkv fs)):=n3.sa _ _ (n2.sa _ _ p1.at);refine jak (λn acc G'=>Sa G3 G'/\∃rs:List (List Ent),acc=rs.map jcQ/\rs.length<=n/\(∀r∈rs,∃i s,CR ss fs i s r)/\∀i∈is.take n,∃s,∃r∈rs,CR ss fs i s r) ?_ ?_ ⟨Sa.refl,[],rfl,Yaf _,λ_ h=>(nomatch h),λi h=>by simp at h⟩
  ·rintro acc G4 ⟨s4,rs,rfl,rl4,c1,c2⟩;rw[Yaa]at rl4 c2;rw[Yaz]at c2;refine⟨by unfold lsG;rw[s4 _ _ n3.at],λp5 G5 n5=>?_⟩
   have sm:Sm pf G G4:=λb u hb e=>s4 _ _ (n3.sa _ _ (n2.sa _ _ (p1.sm _ _ hb e)));refine q p5 rs o G5 (λb u hb e=>n5.sa _ _ (sm b u hb e)) ?_ n5.at (n5.sa _ _ (s4 _ _ gf3)) c1 (λi s es ho=>?_) (by omega)
   ·cases e:G p5 with
    |none=>rfl
    |some u=>
     by_cases z:p5=pf
     ·have:=s4 _ _ gf3;rw[<- z,n5.no]at this;cases this
     ·have:=sm _ _ z e;rw[n5.no]at this;cases this
   ·rcases h2 i s (by have:=(List.getElem?_eq_some_iff.mp es).1;omega) es ho with z|z
    ·exact .inl z
    ·obtain⟨s',r,hr,h⟩:=c2 i z;have:=h.at';rw[es]at this;cases this;exact .inr ⟨r,hr,h⟩
  ·rintro n x acc G4 K hx ⟨s4,rs,rfl,rl4,c1,c2⟩ hk _;rw[Yal]at hx;cases ei:is[n]? with
   |none=>rw[ei]at hx;cases hx
   |some i=>
    rw[ei]at hx;cases hx;obtain⟨s,es,ho⟩:=h1 i (Yam ei);have hin:=hp _ ho;have ht:=hc _ _ hin (.inl (List.mem_map.mpr ⟨s,Yam es,rfl⟩));refine⟨by unfold lsG;rw[s4 _ _ n3.at],?_⟩
    simp! only[];refine jjL (xs:=xs) hF w8 (s4 _ _ gf3) es hin ht λr G5 s5 h5=>hk _ _ ⟨s4.trans s5,rs++[r],by rw[Yap];rfl,by simp;omega,λr' hr'=>?_,λi' hi'=>?_⟩
    ·rcases List.mem_append.mp hr' with z|z
     ·exact c1 r' z
     ·rw[List.mem_singleton.mp z];exact⟨i,s,h5⟩
    ·rw[YaL,ei]at hi';rcases List.mem_append.mp hi' with z|z
     ·obtain⟨s',r',hr',h⟩:=c2 i' z;exact⟨s',r',Yax _ hr',h⟩
     ·rw[List.mem_singleton.mp z];exact⟨s,r,Yav _ (List.mem_singleton.mpr rfl),h5⟩
 ·rintro n x acc G' K hx ⟨rfl,is,rfl,il,h1,h2⟩ hk hn;obtain⟨hi,rfl⟩:=jaI hx;obtain⟨s,es⟩:∃s,ss[n]?=some s:=⟨ss[n]'(by omega),Yab _⟩
  refine⟨trivial,?_⟩;simp! only[ix_t (jay _ _ _),ix_t (atM es),Spn.u];refine⟨rfl,jbj _,?_⟩;rw[jdP];dsimp only;by_cases c:(s.o:Int)∈ps
  ·rw[if_pos (by rw[decide_eq_true c])]
   refine in_l n2.at rfl (jbj _) ?_;rw[jdP];by_cases d:((n:Nat):Int)∈fs.map λf=>((f.2.1:Nat):Int)
   ·rw[if_neg (by rw[decide_eq_true d];decide)]
    refine hn _ ⟨rfl,is,rfl,by omega,h1,λi s' hi' es' ho=>?_⟩
    by_cases e:i=n
    ·obtain⟨f,hf,ef⟩:=List.mem_map.mp d;exact .inl ⟨f,hf,by omega⟩
    ·exact h2 i s' (by omega) es' ho
   ·rw[if_pos (by rw[decide_eq_false d];decide)]
    refine hk _ _ ⟨rfl,is++[n],by simp,by simp;omega,λi hi'=>?_,λi s' hi' es' ho=>?_⟩
    ·rcases List.mem_append.mp hi' with z|z
     ·exact h1 i z
     ·rw[List.mem_singleton.mp z];exact⟨s,es,c⟩
    ·by_cases e:i=n
     ·exact .inr (Yav _ (List.mem_singleton.mpr e))
     ·rcases h2 i s' (by omega) es' ho with z|z
      ·exact .inl z
      ·exact .inr (Yax _ z)
  ·rw[if_neg (by rw[decide_eq_false c];decide)]
   refine hn _ ⟨rfl,is,rfl,by omega,h1,λi s' hi' es' ho=>?_⟩
   by_cases e:i=n
   ·subst e;rw[es]at es';cases es';exact absurd ho c
   ·exact h2 i s' (by omega) es' ho
end

abbrev Wn:=List (Int×Int)
noncomputable def wu (w:Int×Int):U:=.tup [.int w.1,.int w.2]
noncomputable def wsU (ws:Wn):U:=.tup (ws.map wu)
noncomputable def wlo (ws:Wn)(e:Ent):Int:=if e.2=1 then (ws.getD e.1 (0,0)).1 else -(ws.getD e.1 (0,0)).2
noncomputable def whi (ws:Wn)(e:Ent):Int:=if e.2=1 then (ws.getD e.1 (0,0)).2 else -(ws.getD e.1 (0,0)).1
noncomputable def sLo (ws:Wn)(r:List Ent):Int:=(r.map (wlo ws)).sum
noncomputable def sHi (ws:Wn)(r:List Ent):Int:=(r.map (whi ws)).sum
def Bar (P:Int)(ws:Wn)(r:List Ent):Prop:=sHi ws r/P*P<sLo ws r
noncomputable instance {P:Int} {ws:Wn} {r:List Ent}:Decidable (Bar P ws r):=inferInstanceAs (Decidable (_<_))
def getW {ws:Wn}{i:Nat}{w:Int×Int}(h:ws[i]?=some w):ws.getD i (0,0)=w:=by simp[YaS,h]
def jmZ {a:Addr}{l:List Int}{G:Gp}{Q:K1}(g:G a=some (.lst (l.map .int))):sumU [.loc a] G Q=Q (.int l.sum) G:=by
 unfold sumU;dsimp only;rw[g];dsimp only;rw[jgL]
section
variable {k:Nat}{G:Gp}{Q:K1}{X:KX}{xs:List Str}{ss:List Spn}{ws:Wn}{P:Int}{bu:U}
def jjJ {e:Ent}(wl:ws.length=ss.length)(he:EOk ss e)(q:Q (.tup [.int (wlo ws e),.int (whi ws e)]) G):jab T (k+1) jc4 [bu,wsU ws,eu e] G Q X:=by
 have il:e.1<ws.length:=by rw[wl];exact he.1
 have ew:ws[e.1]?=some ws[e.1]:=Yab il;refine⟨rfl,?_⟩;simp! only[jdc,jad,Yad,eu,wsU,ix_t (atM ew),wu];refine⟨trivial,trivial,?_⟩;unfold wlo whi at q;rw[getW ew]at q;rcases he.2 with z|z
 ·rw[z,if_pos (by decide)]
  rw[if_pos z,if_pos z]at q;exact⟨by decide,q⟩
 ·rw[z,if_neg (by decide)]
  rw[if_neg (by omega),if_neg (by omega)]at q
  exact⟨by decide,q⟩
def jlL {r:List Ent}(wl:ws.length=ss.length)(hr:∀e∈r,EOk ss e)(rl:r.length<=30)(q:∀G',Sa G G'->Q (.tup [.int (sLo ws r),.int (sHi ws r)]) G'):jab T (k+2) jfb [jac xs ss,.int P,bu,wsU ws,jcQ r] G Q X:=by
 refine⟨rfl,?_⟩;simp! only[jfu,jad,Yad,jcQ];refine⟨by rw[Yaa];exact Yah rl (by decide),?_⟩
 refine jaD (λu=>match u with|.tup [.int a,.int b]=>.tup [.int (wlo ws (a.toNat,b)),.int (whi ws (a.toNat,b))]|u=>u) trivial (λu hu K hK=>?_) ?_
 ·obtain⟨e,he,rfl⟩:=List.mem_map.mp hu;simp! only[];exact jjJ wl (hr e he) hK
 intro p1 G1 n1;have e1:[]++(r.map eu).map (λu=>match u with|.tup [.int a,.int b]=>U.tup [.int (wlo ws (a.toNat,b)),.int (whi ws (a.toNat,b))]|u=>u)=r.map λe=>U.tup [.int (wlo ws e),.int (whi ws e)]:=by
  rw[Ya8,YaW];rfl
 rw[e1]at n1;simp! only[it_l n1.at];refine⟨by rw[Yaa];exact Yah rl (by decide),?_⟩
 refine jaD (λu=>match u with|.tup [a,_]=>a|u=>u) (by unfold lsG;rw[n1.at]) (λu hu K hK=>?_) ?_
 ·obtain⟨e,he,rfl⟩:=List.mem_map.mp hu;simp! only[];exact⟨trivial,hK⟩
 intro p2 G2 n2;have t1:[]++(r.map λe=>U.tup [.int (wlo ws e),.int (whi ws e)]).map (λu=>match u with|.tup [a,_]=>a|u=>u)=(r.map (wlo ws)).map .int:=by
  rw[Ya8,YaW,YaW];rfl
 rw[t1]at n2;rw[jmZ n2.at,it_l (n2.sa _ _ n1.at)];refine⟨by rw[Yaa];exact Yah rl (by decide),?_⟩
 refine jaD (λu=>match u with|.tup [_,b]=>b|u=>u) (by unfold lsG;rw[n2.sa _ _ n1.at]) (λu hu K hK=>?_) ?_
 ·obtain⟨e,he,rfl⟩:=List.mem_map.mp hu;simp! only[];exact⟨trivial,hK⟩
 intro p3 G3 n3;have t2:[]++(r.map λe=>U.tup [.int (wlo ws e),.int (whi ws e)]).map (λu=>match u with|.tup [_,b]=>b|u=>u)=(r.map (whi ws)).map .int:=by
  rw[Ya8,YaW,YaW];rfl
 rw[t2]at n3;rw[jmZ n3.at];exact⟨by decide,q G3 ((n1.sa.trans n2.sa).trans n3.sa)⟩
def jlS {r:List Ent}(wl:ws.length=ss.length)(hr:∀e∈r,EOk ss e)(rl:r.length<=30)(p1:1<=P)(p2:P<=600)(q:∀G',Sa G G'->Q (.bl (decide (Bar P ws r))) G'):jab T (k+3) jdC [jac xs ss,.int P,bu,wsU ws,jcQ r] G Q X:=by
 refine⟨rfl,?_⟩;simp! only[jdU,jad,Yad];refine jlL wl hr rl λG1 s1=>?_;simp! only[];exact⟨trivial,by omega,by omega,.inr (by constructor<;>omega),q G1 s1⟩
end

noncomputable def eL (L:List Int)(e:Ent):Int:=e.2*L.getD e.1 0
noncomputable def sumL (L:List Int)(r:List Ent):Int:=(r.map (eL L)).sum
def eL_1 {L:List Int}{e:Ent}(h:e.2=1):eL L e=L.getD e.1 0:=by unfold eL;rw[h];omega
def eL_m {L:List Int}{e:Ent}(h:e.2=-1):eL L e=-L.getD e.1 0:=by unfold eL;rw[h];omega
def jmw (L:List Int)(e:Ent):eL L (jbi e)=-eL L e:=by unfold eL jbi;simp[Int.neg_mul]
def jiA {L:List Int}{i:Nat}{x:Int}(h:L[i]?=some x):L.getD i 0=x:=by simp[YaS,h]
structure Wi (L:List Int)(ws:Wn):Prop where
 l:L.length=ws.length
 b:∀(i:Nat) (w:Int×Int),ws[i]?=some w->w.1<=L.getD i 0/\L.getD i 0<=w.2
section
variable {L:List Int}{ws:Wn}{ss:List Spn}
def Wi.ent (h:Wi L ws)(wl:ws.length=ss.length){e:Ent}(he:EOk ss e):wlo ws e<=eL L e/\eL L e<=whi ws e:=by
 have ew:ws[e.1]?=some (ws[e.1]'(by rw[wl];exact he.1)):=Yab _
 have:=h.b _ _ ew;unfold wlo whi;rw[getW ew];rcases he.2 with z|z
 ·rw[if_pos z,if_pos z,eL_1 z];exact this
 ·rw[if_neg (by omega),if_neg (by omega),eL_m z];omega
def Wi.sum (h:Wi L ws)(wl:ws.length=ss.length):∀{r:List Ent},(∀e∈r,EOk ss e)->sLo ws r<=sumL L r/\sumL L r<=sHi ws r
 |[],_=>by simp[sLo,sHi,sumL]
 |e::r,hr=>by
  have h1:=h.ent wl (hr e Yat);have h2:=Wi.sum h wl (r:=r) λx hx=>hr x (Yai _ hx);have a1:sLo ws (e::r)=wlo ws e+sLo ws r:=by simp[sLo]
  have a2:sHi ws (e::r)=whi ws e+sHi ws r:=by simp[sHi]
  have a3:sumL L (e::r)=eL L e+sumL L r:=by simp[sumL]
  rw[a1,a2,a3];omega
end
noncomputable def bt (bs:List Int)(x:Int):Int:=bs.getD x.toNat 0
def jqL {bs:List Int}{x:Int}(h0:0<=x)(h1:x<bs.length):atI (bs.map U.int) x=some (.int (bt bs x)):=by
 obtain⟨j,rfl⟩:=YaB h0;have hj:j<bs.length:=by omega
 have:bs[j]?=some (bt bs (j:Int)):=by unfold bt;simp[YaS,hj]
 exact atM this
def joQ {bs:List Int}{x y v:Int}(h0:0<=x)(h1:x<bs.length)(hy:0<=y):bt (bs.set x.toNat v) y=if y=x then v else bt bs y:=by
 unfold bt;by_cases e:y=x
 ·subst e;rw[if_pos rfl];simp[YaS,show y.toNat<bs.length by omega]
 ·rw[if_neg e];simp only[YaS];rw[Ya5 (by omega)]
def Kp (ss:List Spn)(L:List Int)(P:Int)(bs:List Int)(e:Ent):Prop:=P ∣ bt bs (eS ss e)+eL L e-bt bs (eD ss e)
def Lu (ss:List Spn)(G:Gp)(lu:U)(L:List Int):Prop:=L.length=ss.length/\((∃p,lu=.loc p/\G p=some (.lst (L.map .int)))\/lu=jaq L)
def Lu.sa {ss:List Spn}{G G':Gp}{lu:U}{L:List Int}(h:Lu ss G lu L)(s:Sa G G'):Lu ss G' lu L:=by
 obtain⟨h1,⟨p,e,g⟩|h2⟩:=h
 ·exact⟨h1,.inl ⟨p,e,s _ _ g⟩⟩
 ·exact⟨h1,.inr h2⟩
def Lu.ix {ss:List Spn}{G:Gp}{lu:U}{L:List Int}{e:Ent}{Q:K1}(h:Lu ss G lu L)(he:EOk ss e)(q:Q (.int (L.getD e.1 0)) G):ixU lu (.int e.1) G Q:=by
 have il:e.1<L.length:=by rw[h.1];exact he.1
 have e1:L[e.1]?=some (L.getD e.1 0):=by simp[YaS,il]
 rcases h.2 with⟨p,rfl,g⟩|rfl
 ·rw[ix_l g (atM e1)];exact q
 ·rw[show jaq L=.tup (L.map .int)from rfl,ix_t (atM e1)];exact q
section
variable {k:Nat}{G:Gp}{Q:K1}{X:KX}{xs:List Str}{ss:List Spn}{W:Nat}{L:List Int}{P:Int}{lu:U}
def jjM {w:Nat}{fs:List (Int×Ent)}{pf:Addr}{o:Obj}{bs:List Int}(hF:Fst W ss w fs)(w8:W<=8)(hlu:Lu ss G lu L)(p1:1<=P)(p2:P<=600)(bl:bs.length=W)(bb:∀b∈bs,0<=b/\b<P)(gf:G pf=some (.frk o (fkv fs)))
  (q:∀(bs':List Int) (G':Gp),Sa G G'->bs'.length=W->(∀b∈bs',0<=b/\b<P)->(∀x,0<=x->x∉fky fs->bt bs' x=bt bs x)->(∀f∈fs,Kp ss L P bs' f.2)->Q (jaq bs') G') :
  jab T (k+2) jcs [jac xs ss,.int P,jaq bs,.loc pf,lu] G Q X:=by
 have rl:=jax W _ hF.nd hF.bd;simp only[fky,YaA,Yaa]at rl;refine⟨rfl,?_⟩;simp! only[jcI,jad,Yad,jaq];intro p1' G1 n1;simp! only[jix (n1.sa _ _ gf)];have ei:jc7 (fkv fs)=fs.map λf=>U.tup [.int f.1,eu f.2]:=by unfold jc7 fkv;rw[YaW];rfl
 rw[ei];have hpf:pf≠p1':=λz=>by rw[z,n1.no]at gf;cases gf
 refine jar (λj ς G'=>∃(bs':List Int) (o6 o7 o8 o9:Option U),ς=[some (jac xs ss),some (.int P),some (.tup (bs.map .int)),some (.loc pf),some lu,some (.loc p1'),o6,o7,o8,o9]/\Sa G G'/\G' p1'=some (.lst (bs'.map .int))/\bs'.length=W/\(∀b∈bs',0<=b/\b<P)/\(∀x,0<=x->x∉fky (fs.take j)->bt bs' x=bt bs x)/\∀i f,i<j->fs[i]?=some f->Kp ss L P bs' f.2) ?_ ?_
  ⟨bs,_,_,_,_,rfl,n1.sa,n1.at,bl,bb,λ_ _ _=>rfl,λi f h=>by omega⟩
 ·rintro ς G2 ⟨bs',o6,o7,o8,o9,rfl,s2,g2,l2,b2,k2,h2⟩;rw[Yaa]at k2 h2;rw[Yaz]at k2;refine⟨s2 _ _ gf,?_⟩;simp! only[it_l g2];exact q bs' G2 s2 l2 b2 k2 λf hf=>by
   obtain⟨i,hi,e⟩:=YaC hf;exact h2 i f hi (by rw[Yab hi,e])
 ·rintro j u ς G2 K hu ⟨bs',o6,o7,o8,o9,rfl,s2,g2,l2,b2,k2,h2⟩ hk;rw[Yal]at hu;cases ef:fs[j]? with
  |none=>rw[ef]at hu;cases hu
  |some f=>
   rw[ef]at hu;cases hu;obtain⟨h1,hS,hD⟩:=hF.en j f ef;have bx:=hF.bd f.1 (Yai _ (jdR ef));have bD:=hF.bd _ (jiD hD);have nd:=List.nodup_cons.mp hF.nd;have new:∀y,y∈(w:Int)::fky (fs.take j)->y≠f.1:=λy hy z=>by
    rcases YaM.mp hy with z'|z'
    ·exact nd.1 (by rw[<- z',z];exact jdR ef)
    ·obtain⟨i,f',hi,ei',e'⟩:=jcA z';have a1:(fky fs)[i]?=some f.1:=by unfold fky;rw[Yal,ei',YfL,e',z]
     have a2:(fky fs)[j]?=some f.1:=by unfold fky;rw[Yal,ef];rfl
     have:=(YfO (List.getElem?_eq_some_iff.mp a1).1 nd.2).mp (a1.trans a2.symm);omega
   refine⟨s2 _ _ gf,?_⟩;simp! only[eu];refine⟨trivial,trivial,by decide,?_⟩
   refine jh7 (e:=f.2) h1 ?_;rw[ix_t (jay _ _ _)];simp! only[ix_l g2 (jqL bD.1 (show eD ss f.2<(bs'.length:Int) by omega))]
   refine(hlu.sa s2).ix h1 ?_;refine⟨.inl (by rcases h1.2 with z|z<;>rw[z]<;>constructor<;>omega),by omega,?_⟩
   obtain⟨xn,hxn⟩:=YaB bx.1;rw[hxn,jpW g2 (jmc (by rw[Yaa];omega))]
   intro G3 p3;obtain⟨v,hv⟩:∃v,v=(bt bs' (eD ss f.2)-f.2.2*L.getD f.2.1 0)%P:=⟨_,rfl⟩;have v0:0<=v:=by rw[hv];exact Ybg _ (by omega)
   have v1:v<P:=by rw[hv];exact Ya2 _ (by omega)
   rw[<- hv,<- List.map_set]at p3;have hset:∀y,0<=y->bt (bs'.set xn v) y=if y=f.1 then v else bt bs' y:=λy hy=>by
    have:=joQ (bs:=bs') (v:=v) (y:=y) bx.1 (by omega) hy
    rw[show f.1.toNat=xn by omega]at this
    exact this
   refine hk _ _ ⟨bs'.set xn v,_,_,_,_,rfl,λb u' hb=>p3.sm _ _ (λz=>by rw[z,n1.no]at hb;cases hb) (s2 _ _ hb),p3.at,by simp[l2],λb hb=>?_,λy hy hn=>?_,λi f' hi ei'=>?_⟩
   ·rcases Yex hb with z|z
    ·exact b2 b z
    ·rw[z];exact⟨v0,v1⟩
   ·rw[YaL,ef]at hn;have h1':y∉fky (fs.take j):=λz=>hn (by simp[fky]at z ⊢;exact .inl z)
    have h2':y≠f.1:=λz=>hn (by simp[fky,z])
    rw[hset y hy,if_neg h2',k2 y hy h1']
   ·by_cases e:i=j
    ·subst e;rw[ef]at ei';cases ei';unfold Kp;rw[hS,hset _ bx.1,if_pos rfl,hset _ bD.1,if_neg (new _ hD)];refine⟨-((bt bs' (eD ss f.2)-f.2.2*L.getD f.2.1 0)/P),?_⟩;have:=Ydg (bt bs' (eD ss f.2)-f.2.2*L.getD f.2.1 0) P;rw[<- hv]at this;unfold eL;rw[Int.mul_neg];omega
    ·have hi':i<j:=by omega
     obtain⟨o1,oS,oD⟩:=hF.en i f' ei';have bS':=hF.bd f'.1 (Yai _ (jdR ei'));have bD':=hF.bd _ (jiD oD);have old:∀y,y∈(w:Int)::fky (fs.take i)->y∈(w:Int)::fky (fs.take j):=λy hy=>by
      rcases YaM.mp hy with z|z
      ·rw[z];simp
      ·obtain⟨i2,f2,hi2,e2,e3⟩:=jcA z;refine Yai _ (List.mem_map.mpr ⟨f2,?_,e3⟩);exact Yam (i:=i2) (by rw[YdB,if_pos (by omega)];exact e2)
     have mS:f'.1∈(w:Int)::fky (fs.take j):=by
      refine Yai _ (List.mem_map.mpr ⟨f',?_,rfl⟩);exact Yam (i:=i) (by rw[YdB,if_pos hi'];exact ei')
     have:=h2 i f' hi' ei';unfold Kp at this ⊢;rw[oS]at this ⊢;rw[hset _ bS'.1,if_neg (new _ mS),hset _ bD'.1,if_neg (new _ (old _ oD))];exact this
end

section
variable {ss:List Spn}{L:List Int}{P:Int}{bs:List Int}
def tel:∀{r:List Ent} {a b:Int},(∀e∈r,Kp ss L P bs e)->Wk ss r a b->P ∣ bt bs a+sumL L r-bt bs b
 |[],a,b,_,h=>by
  rw[show a=b from h];exact⟨0,by simp[sumL]⟩
 |e::r,a,b,hk,⟨_,h2,h3⟩=>by
  have h1:=hk e Yat;have ih:=tel (λe' he=>hk e' (Yai _ he)) h3;have:=Int.dvd_add h1 ih;rw[h2]at this;have es:sumL L (e::r)=eL L e+sumL L r:=by simp[sumL]
  rw[es];have e2:bt bs a+eL L e-bt bs (eD ss e)+(bt bs (eD ss e)+sumL L r-bt bs b)=bt bs a+(eL L e+sumL L r)-bt bs b:=by omega
  rw[e2]at this;exact this
def Kp.flip {e:Ent}(h:Kp ss L P bs e)(he:EOk ss e):Kp ss L P bs (jbi e):=by
 obtain⟨_,f2,f3⟩:=he.flip;unfold Kp at h ⊢;rw[f2,f3,jmw];have:=Int.dvd_neg.mpr h;rw[show -(bt bs (eS ss e)+eL L e-bt bs (eD ss e))=bt bs (eD ss e) + -eL L e-bt bs (eS ss e) by omega]at this
 exact this
def jiC (e:Ent):jbi (jbi e)=e:=by unfold jbi;simp
def Tf.kp {fs:List (Int×Ent)}{e:Ent}(h:Tf fs e)(he:EOk ss e)(hk:∀f∈fs,Kp ss L P bs f.2):Kp ss L P bs e:=by
 obtain⟨f,hf,z|z⟩:=h
 ·rw[<- z];exact hk f hf
 ·have:=hk f hf;rw[z]at this;have:=this.flip he.flip.1;rw[jiC]at this;exact this
def jhs {r:List Ent}{a:Int}(hk:∀i,i<ss.length->Kp ss L P bs (i,1))(hw:Wk ss r a a):P ∣ sumL L r:=by
 have all:∀e∈r,Kp ss L P bs e:=λe he=>?_
 ·have:=tel all hw;rw[show bt bs a+sumL L r-bt bs a=sumL L r by omega]at this
  exact this
 ·have ok:=hw.all e he;have k1:=hk e.1 ok.1;rcases ok.2 with z|z
  ·rw[show e=(e.1,1)from Ydd rfl z];exact k1
  ·have:=k1.flip (e:=(e.1,1)) ⟨ok.1,.inl rfl⟩;rw[show jbi (e.1,1)=e from Ydd rfl (by simp[jbi,z])]at this
   exact this
end
def jjV {p:List Int}(h:p≠[]):p.headD 0∈p:=by
 cases p with
 |nil=>exact absurd rfl h
 |cons a r=>simp
def IsP.apart {W:Nat}{es:List (Int×Int)}{ps:List (List Int)}(h:IsP W es ps){n:Nat}{p p':List Int}(hp:ps[n]?=some p)(hp':p'∈ps.take n){x:Int}(h1:x∈p)(h2:x∈p'):False:=by
 have e:=h.un p (Yam hp) p' (Yb7 hp') x h1 h2;subst e;obtain⟨i,hi,ei⟩:=YaC hp';rw[Ybn]at hi;rw[YfN]at ei;have a1:ps[i]?=some p:=by rw[Yab (by omega),ei]
 have:=(YfO (by omega) h.nd).mp (a1.trans hp.symm)
 omega

def Kw (ss:List Spn)(P:Int)(ws:Wn)(b:List Int)(i:Nat):Prop:=∃l,(ws.getD i (0,0)).1<=l/\l<=(ws.getD i (0,0)).2/\P ∣ bt b (eS ss (i,1))+l-bt b (eD ss (i,1))
inductive Cs (ss:List Spn)(P:Int):Nat->Nat->Wn->U->Prop
 |ring {n:Nat} {ws:Wn} {r:List Ent} {a:Int}:Wk ss r a a->r≠[]->r.length<=30->Bar P ws r->Cs ss P n 1 ws (.tup [.str "ring",jcQ r])
 |split {n m1 m2:Nat} {ws:Wn} {s:Nat} {l h cut:Int} {c1 c2:U}:ws[s]?=some (l,h)->l<=cut->cut<h->Cs ss P n m1 (ws.set s (l,cut)) c1->Cs ss P n m2 (ws.set s (cut+1,h)) c2->Cs ss P (n+1) (m1+m2+1) ws (.tup [.str "split",.int s,.int cut,c1,c2])
section
variable {ss:List Spn}{P:Int}{ws:Wn}{b:List Int}
def joz (wl:ws.length=ss.length)(h:∀i,i<ss.length->Kw ss P ws b i):∃L,Wi L ws/\∀i,i<ss.length->Kp ss L P b (i,1):=by
 have ex:∀i,∃l,i<ss.length->(ws.getD i (0,0)).1<=l/\l<=(ws.getD i (0,0)).2/\P ∣ bt b (eS ss (i,1))+l-bt b (eD ss (i,1)):=λi=>by
  by_cases hi:i<ss.length
  ·obtain⟨l,hl⟩:=h i hi;exact⟨l,λ_=>hl⟩
  ·exact⟨0,λz=>absurd z hi⟩
 obtain⟨f,hf⟩:∃f:Nat->Int,∀i,i<ss.length->(ws.getD i (0,0)).1<=f i/\f i<=(ws.getD i (0,0)).2/\P ∣ bt b (eS ss (i,1))+f i-bt b (eD ss (i,1)):=⟨λi=>YeZ (ex i),λi=>Yes (ex i)⟩;have hg:∀i,i<ss.length->((YaK ss.length).map f).getD i 0=f i:=λi hi=>by simp[YaS,hi]
 refine⟨(YaK ss.length).map f,⟨by simp[wl],λi w e=>?_⟩,λi hi=>?_⟩
 ·have hi:i<ss.length:=by rw[<- wl];exact(List.getElem?_eq_some_iff.mp e).1
  have:=hf i hi;rw[hg i hi];rw[getW e]at this;exact⟨this.1,this.2.1⟩
 ·unfold Kp;rw[eL_1 rfl,hg i hi];exact(hf i hi).2.2
def Wi.set {L:List Int}{s:Nat}{w:Int×Int}(h:Wi L ws)(h1:w.1<=L.getD s 0)(h2:L.getD s 0<=w.2):Wi L (ws.set s w):=by
 refine⟨by rw[Ybr];exact h.l,λi w' e=>?_⟩
 by_cases c:i=s
 ·subst c;have hi:i<ws.length:=by
   have:=(List.getElem?_eq_some_iff.mp e).1
   rwa [Ybr]at this
  rw[Ybk hi]at e;cases e;exact⟨h1,h2⟩
 ·rw[Ya5 (λz=>c z.symm)]at e;exact h.b i w' e
def Cs.no {n m:Nat}{ws:Wn}{c:U}(h:Cs ss P n m ws c)(p1:1<=P):ws.length=ss.length->∀L,Wi L ws->(∀i,i<ss.length->Kp ss L P b (i,1))->False:=by
 induction h with
 |@ring n ws r a hw _ _ hb=>
  intro wl L hL hk;have s:=hL.sum wl hw.all;obtain⟨q,hq⟩:=jhs hk hw;unfold Bar at hb;have:q<=sHi ws r/P:=Int.le_ediv_of_mul_le (by omega) (by rw[YdT,<- hq];exact s.2)
  have:=YdS this (show 0<=P by omega)
  rw[YdT q P]at this;omega
 |@split n m1 m2 ws s l h cut c1 c2 es h1 h2 _ _ ih1 ih2=>
  intro wl L hL hk;have b:=hL.b s _ es;by_cases c:L.getD s 0<=cut
  ·exact ih1 (by rw[Ybr];exact wl) L (hL.set b.1 c) hk
  ·exact ih2 (by rw[Ybr];exact wl) L (hL.set (by show cut+1<=_;omega) b.2) hk
def jje (r:List Ent):Sml 2 (jcQ r):=Sml.tup λu hu=>by
 obtain⟨e,_,rfl⟩:=List.mem_map.mp hu;exact Sml.tup λv hv=>by
  simp only[YaM,Yaw,or_false]at hv;rcases hv with rfl|rfl<;>exact Sml.int _
def Cs.sml {n m:Nat}{ws:Wn}{c:U}(h:Cs ss P n m ws c):Sml (n+3) c:=by
 induction h with
 |@ring n ws r a _ _ _ _=>
  refine(Sml.tup (n:=2) λu hu=>?_).mono (by omega)
  simp only[YaM,Yaw,or_false]at hu;rcases hu with rfl|rfl
  ·exact(Sml.str (by decide +kernel)).mono (by decide)
  ·exact jje r
 |@split n m1 m2 ws s l h cut c1 c2 _ _ _ _ _ ih1 ih2=>
  refine(Sml.tup (n:=n+3) λu hu=>?_).mono (by omega)
  simp only[YaM,Yaw,or_false]at hu;rcases hu with rfl|rfl|rfl|rfl|rfl
  ·exact(Sml.str (by decide +kernel)).mono (by omega)
  ·exact(Sml.int _).mono (by omega)
  ·exact(Sml.int _).mono (by omega)
  ·exact ih1
  ·exact ih2
structure Tm (P:Int)(fs:List (Int×Ent))(rs:List (List Ent))(ws ws':Wn):Prop where
 l:ws'.length=ws.length
 sub:∀(i:Nat) (w w':Int×Int),ws[i]?=some w->ws'[i]?=some w'->w.1<=w'.1/\w'.1<=w'.2/\w'.2<=w.2
 pt:∀f∈fs,∀w',ws'[f.2.1]?=some w'->w'.1=w'.2
 nb:∀r∈rs,¬Bar P ws' r
def Tm.kw {fs:List (Int×Ent)}{rs:List (List Ent)}{ws':Wn}{i:Nat}{s:Spn}(h:Tm P fs rs ws ws')(wl:ws.length=ss.length)(p1:1<=P)(hk:∀f∈fs,EOk ss f.2/\Kp ss (ws'.map (·.1)) P b f.2)(es:ss[i]?=some s)
  (hr:(∃f∈fs,f.2.1=i)\/∃r∈rs,CR ss fs i s r):Kw ss P ws b i:=by
 have il:=(List.getElem?_eq_some_iff.mp es).1;have ew:ws[i]?=some (ws[i]'(by omega)):=Yab _
 have ew':ws'[i]?=some (ws'[i]'(by rw[h.l];omega)):=Yab _
 generalize ws[i]'(by omega)=w at ew
 generalize ws'[i]'(by rw[h.l];omega)=w' at ew'
 have sb:=h.sub i w w' ew ew';have lw:(ws'.map (·.1)).getD i 0=w'.1:=jiA (by rw[Yal,ew'];rfl)
 unfold Kw;rw[getW ew];rcases hr with⟨f,hf,rfl⟩|⟨r,hr,cr⟩
 ·obtain⟨ok,kf⟩:=hk f hf;have k1:Kp ss (ws'.map (·.1)) P b (f.2.1,1):=by
   rcases ok.2 with z|z
   ·rw[show(f.2.1,(1:Int))=f.2 from Ydd rfl z.symm];exact kf
   ·have:=kf.flip ok;rw[show jbi f.2=(f.2.1,1)from Ydd rfl (by simp[jbi,z])]at this
    exact this
  unfold Kp at k1;rw[eL_1 rfl,lw]at k1;exact⟨w'.1,sb.1,by omega,k1⟩
 ·have nb:=h.nb r hr;obtain⟨tl,rfl,ht⟩:=cr.tl;obtain⟨_,_,w3⟩:=cr.wk;have t:=tel (λe he=>(ht e he).kp (w3.all e he) λf hf=>(hk f hf).2) w3;have pts:∀r:List Ent,(∀e∈r,Tf fs e)->(∀e∈r,EOk ss e)->sLo ws' r=sumL (ws'.map (·.1)) r/\sHi ws' r=sumL (ws'.map (·.1)) r:=λr=>by
   induction r with
   |nil=>intros;exact⟨rfl,rfl⟩
   |cons e r ih=>
    intro h1 h2;obtain⟨i1,i2⟩:=ih (λx hx=>h1 x (Yai _ hx)) λx hx=>h2 x (Yai _ hx);obtain⟨f,hf,z⟩:=h1 e Yat;have ok:=h2 e Yat;have ef:f.2.1=e.1:=by rcases z with z|z<;>rw[z]<;>rfl
    have ee:ws'[e.1]?=some (ws'[e.1]'(by rw[h.l,wl];exact ok.1)):=Yab _
    generalize ws'[e.1]'(by rw[h.l,wl];exact ok.1)=v at ee
    have pv:=h.pt f hf v (by rw[ef];exact ee)
    have lv:(ws'.map (·.1)).getD e.1 0=v.1:=jiA (by rw[Yal,ee];rfl)
    have one:wlo ws' e=eL (ws'.map (·.1)) e/\whi ws' e=eL (ws'.map (·.1)) e:=by
     unfold wlo whi;rw[getW ee];rcases ok.2 with z|z
     ·rw[if_pos z,if_pos z,eL_1 z,lv];omega
     ·rw[if_neg (by omega),if_neg (by omega),eL_m z,lv];omega
    have a1:sLo ws' (e::r)=wlo ws' e+sLo ws' r:=by simp[sLo]
    have a2:sHi ws' (e::r)=whi ws' e+sHi ws' r:=by simp[sHi]
    have a3:sumL (ws'.map (·.1)) (e::r)=eL (ws'.map (·.1)) e+sumL (ws'.map (·.1)) r:=by simp[sumL]
    rw[a1,a2,a3,one.1,one.2,i1,i2];exact⟨rfl,rfl⟩
  obtain⟨q1,q2⟩:=pts tl ht w3.all;generalize sumL (ws'.map (·.1)) tl=S at t q1 q2;have b1:sLo ws' ((i,1)::tl)=w'.1+S:=by
   have a1:sLo ws' ((i,1)::tl)=wlo ws' (i,1)+sLo ws' tl:=by simp[sLo]
   rw[a1,q1];unfold wlo;rw[if_pos rfl,getW ew']
  have b2:sHi ws' ((i,1)::tl)=w'.2+S:=by
   have a2:sHi ws' ((i,1)::tl)=whi ws' (i,1)+sHi ws' tl:=by simp[sHi]
   rw[a2,q2];unfold whi;rw[if_pos rfl,getW ew']
  unfold Bar at nb;rw[b1,b2]at nb;have m1:=Int.ediv_mul_le (w'.2+S) (show P≠0 by omega)
  rw[eD_1 es]at t;refine⟨(w'.2+S)/P*P-S,by omega,by omega,?_⟩
  rw[eS_1 es,eD_1 es];have d1:P ∣ (w'.2+S)/P*P:=⟨(w'.2+S)/P,YdT _ _⟩;have:=Int.dvd_sub d1 t;rw[show(w'.2+S)/P*P-(bt b s.t+S-bt b s.o)=bt b s.o+((w'.2+S)/P*P-S)-bt b s.t by omega]at this
  exact this
end

section
variable {k:Nat}{G:Gp}{Q:K1}{X:KX}{xs:List Str}{ss:List Spn}{ws:Wn}{P:Int}{bu:U}
def jlK {W0:Wn}(hw:W0=ws)(q0:(∀w∈ws,w.1<=w.2)->Q .non G)(q1:∀(i:Nat) (w:Int×Int),ws[i]?=some w->w.2<w.1->Q (.int i) G):jab T (k+1) jc3 [wsU W0] G Q X:=by
 subst hw;refine⟨rfl,?_⟩;simp! only[jdb,jad,Yad,wsU];refine jar (λi ς G'=>∃o1 o2 o3:Option U,ς=[some (wsU W0),o1,o2,o3]/\G'=G/\∀j w,j<i->W0[j]?=some w->w.1<=w.2) ?_ ?_ ⟨_,_,_,rfl,rfl,λj w h=>by omega⟩
 ·rintro ς G' ⟨o1,o2,o3,rfl,rfl,h⟩;rw[jcB,Yaa]at h;refine⟨trivial,?_⟩;simp! only[];exact q0 λw hw=>by
   obtain⟨j,hj,e⟩:=YaC hw;exact h j w hj (by rw[Yab hj,e])
 ·rintro i x ς G' K hx ⟨o1,o2,o3,rfl,rfl,h⟩ hk;obtain⟨u,hu,rfl⟩:=jcC hx;rw[Yal]at hu;cases ew:W0[i]? with
  |none=>rw[ew]at hu;cases hu
  |some w=>
   rw[ew]at hu;have hu:=(Yao hu).symm;subst hu;refine⟨trivial,?_⟩;simp! only[wu];refine⟨trivial,trivial,?_⟩;by_cases c:w.2<w.1
   ·rw[if_pos (by simpa using c)]
    rw[show((0+i:Nat):Int)=(i:Int) by omega]
    exact q1 i w ew c
   ·rw[if_neg (by simpa using c)]
    refine hk _ _ ⟨_,_,_,rfl,rfl,λj w' hj ej=>?_⟩;by_cases e:j=i
    ·subst e;rw[ew]at ej;cases ej;omega
    ·exact h j w' (by omega) ej
def jlJ {fs:List (Int×Ent)}{pf:Addr}{o:Obj}(gf:G pf=some (.frk o (fkv fs)))(wl:ws.length=ss.length)(hf:∀f∈fs,EOk ss f.2)(q0:(∀f∈fs,∀w,ws[f.2.1]?=some w->¬w.1<w.2)->Q .non G)
  (q1:∀f∈fs,∀w,ws[f.2.1]?=some w->w.1<w.2->Q (.int f.2.1) G):jab T (k+1) jc2 [.loc pf,wsU ws] G Q X:=by
 refine⟨rfl,?_⟩;simp! only[jda,jad,Yad,jix gf];have ev:jdn (fkv fs)=fs.map λf=>eu f.2:=by unfold jdn fkv;rw[YaW];rfl
 rw[ev];refine jar (λi ς G'=>∃o2 o3 o4 o5:Option U,ς=[some (.loc pf),some (wsU ws),o2,o3,o4,o5]/\G'=G/\∀f∈fs.take i,∀w,ws[f.2.1]?=some w->¬w.1<w.2) ?_ ?_ ⟨_,_,_,_,rfl,rfl,λf h=>by simp at h⟩
 ·rintro ς G' ⟨o2,o3,o4,o5,rfl,rfl,h⟩;rw[Yaa,Yaz]at h;refine⟨gf,?_⟩;simp! only[];exact q0 h
 ·rintro i x ς G' K hx ⟨o2,o3,o4,o5,rfl,rfl,h⟩ hk;rw[Yal]at hx;cases ef:fs[i]? with
  |none=>rw[ef]at hx;cases hx
  |some f=>
   rw[ef]at hx;cases hx;have fm:=Yam ef;have il:f.2.1<ws.length:=by rw[wl];exact(hf f fm).1
   have ew:ws[f.2.1]?=some ws[f.2.1]:=Yab il;generalize ws[f.2.1]=w at ew;refine⟨gf,?_⟩;simp! only[eu,wsU,ix_t (atM ew),wu];refine⟨trivial,trivial,?_⟩;by_cases c:w.1<w.2
   ·rw[if_pos (by simpa using c)]
    exact q1 f fm w ew c
   ·rw[if_neg (by simpa using c)]
    refine hk _ _ ⟨_,_,_,_,rfl,rfl,λf' hf' w' ew'=>?_⟩;rw[YaL,ef]at hf';rcases List.mem_append.mp hf' with z|z
    ·exact h f' z w' ew'
    ·rw[List.mem_singleton.mp z,ew]at ew';cases ew';exact c
def jh2 {s:Nat}{w:Int×Int}(hs:s<ws.length)(wl:ws.length<=24)(q:Q (wsU (ws.set s w)) G):jab T (k+1) jbe [wsU ws,.int s,wu w] G Q X:=by
 refine⟨rfl,?_⟩;simp! only[jcD,jad,Yad,wsU];have e1:cut (ws.map wu) none (some (s:Int))=(ws.take s).map wu:=by rw[jd6,Ycy]
 have e2:cut (ws.map wu) (some ((s:Int)+1)) none=(ws.drop (s+1)).map wu:=by
  have:=jg0 (ws.map wu) (s+1);rw[YdA];exact this
 rw[e1,e2];refine⟨by decide,Yah (show _<=30 by simp;omega) (by decide),Yah (show _<=60 by simp;omega) (by decide),?_⟩
 have e3:(ws.take s).map wu++[wu w]++(ws.drop (s+1)).map wu=(ws.set s w).map wu:=by
  rw[Ydz,if_pos hs];simp
 rw[e3];exact q
def jh5 {s:Nat}{w:Int×Int}(hs:ws[s]?=some w)(wl:ws.length<=24)(q:Q (.tup [.int ((w.1+w.2)/2),.tup [wsU (ws.set s (w.1,(w.1+w.2)/2)),wsU (ws.set s ((w.1+w.2)/2+1,w.2))]]) G):jab T (k+2) jgE [wsU ws,.int s] G Q X:=by
 have il:=(List.getElem?_eq_some_iff.mp hs).1;refine⟨rfl,?_⟩;simp! only[jgZ,jad,Yad,wsU,ix_t (atM hs)];show tgU _ (.tup [.int w.1,.int w.2]) _ _;simp! only[];refine⟨trivial,by decide,by decide,by decide,?_⟩
 refine jh2 (ws:=ws) (w:=(w.1,(w.1+w.2)/2)) il wl ?_
 simp! only[];refine⟨by decide,?_⟩
 refine jh2 (ws:=ws) (w:=((w.1+w.2)/2+1,w.2)) il wl ?_
 exact⟨by decide,by decide,q⟩
end

def Tm.of {P:Int}{fs:List (Int×Ent)}{rs:List (List Ent)}{ws side ws':Wn}{s:Nat}{w v:Int×Int}(hs:ws[s]?=some w)(e:side=ws.set s v)(h1:w.1<=v.1)(h2:v.2<=w.2)(h:Tm P fs rs side ws'):Tm P fs rs ws ws':=by
 subst e;have il:=(List.getElem?_eq_some_iff.mp hs).1;refine⟨by rw[h.l,Ybr],λi a b ea eb=>?_,h.pt,h.nb⟩
 by_cases c:i=s
 ·subst c;rw[hs]at ea;cases ea;have:=h.sub i v b (Ybk il) eb;omega
 ·exact h.sub i a b (by rw[Ya5 (λz=>c z.symm)];exact ea) eb
def jkY (n:Nat):(2:Int) ^ (n+1)=2*2 ^ n:=by rw[Int.pow_succ,YdT]
def job {l h:Int}{n:Nat}(h1:l<h)(h2:h-l<2 ^ n):∃m,n=m+1/\(l+h)/2-l<2 ^ m/\h-((l+h)/2+1)<2 ^ m:=by
 cases n with
 |zero=>exact absurd h2 (by have:(2:Int) ^ 0=1:=rfl;omega)
 |succ m=>
  refine⟨m,rfl,?_⟩;rw[jkY]at h2;generalize (2:Int) ^ m=x at h2;omega
noncomputable def jfg (e:Nat->Nat)(s m i:Nat):Nat:=if i=s then m else e i
def jgq {e:Nat->Nat}{s m:Nat}(he:e s=m+1):∀{fs:List (Int×Ent)},(fs.map λf=>jfg e s m f.2.1).sum<=(fs.map λf=>e f.2.1).sum/\((∃f∈fs,f.2.1=s)->(fs.map λf=>jfg e s m f.2.1).sum<(fs.map λf=>e f.2.1).sum)
 |[]=>⟨Yaf _,λ⟨_,h,_⟩=>(nomatch h)⟩
 |f::fs=>by
  obtain⟨h1,h2⟩:=jgq he (fs:=fs);simp only[YaG,List.sum_cons];by_cases c:f.2.1=s
  ·have e1:jfg e s m f.2.1=m:=if_pos c;rw[e1,c,he];exact⟨by omega,λ_=>by omega⟩
  ·have e1:jfg e s m f.2.1=e f.2.1:=if_neg c;rw[e1];refine⟨by omega,λ⟨f',hf',e'⟩=>?_⟩
   rcases YaM.mp hf' with z|z
   ·rw[z]at e';exact absurd e' c
   ·have:=h2 ⟨f',z,e'⟩;omega
def Sk (xs:List Str)(ss:List Spn)(P:Int)(fs:List (Int×Ent))(rs:List (List Ent))(pf pr:Addr)(o:Obj)(bu:U)(n:Nat):Prop:=
 ∀(k:Nat) (G:Gp) (Q:K1) (X:KX) (ws:Wn) (e:Nat->Nat),ws.length=ss.length->(∀w∈ws,w.1<=w.2)->(∀f∈fs,∀v,ws[f.2.1]?=some v->v.2-v.1<2 ^ (e f.2.1))->(fs.map λf=>e f.2.1).sum<=n->G pf=some (.frk o (fkv fs))->G pr=some (.lst (rs.map jcQ))->
  (∀(c:U) (m:Nat) (G':Gp),Sa G G'->Cs ss P n m ws c->Q (.tup [.str "none",c]) G')->(∀(ws':Wn) (G':Gp),Sa G G'->Tm P fs rs ws ws'->Q (.tup [.str "times",wsU ws']) G')->jab T (k+n+4) jgD [jac xs ss,.int P,bu,.loc pf,.loc pr,wsU ws] G Q X
section
variable {xs:List Str}{ss:List Spn}{P:Int}{fs:List (Int×Ent)}{rs:List (List Ent)}{pf pr:Addr}{o:Obj}{bu:U}{W w:Nat}
def je1 {n:Nat}(hF:Fst W ss w fs)(w8:W<=8)(sl:ss.length<=24)(p1:1<=P)(p2:P<=600)(hrs:∀r∈rs,∃i s,CR ss fs i s r)(ih:∀m,n=m+1->Sk xs ss P fs rs pf pr o bu m):Sk xs ss P fs rs pf pr o bu n:=by
 intro k G Q X ws e wl nv hm hs gf gr q1 q2;have hf:∀f∈fs,EOk ss f.2:=λf hf=>by
  obtain⟨j,hj,ej⟩:=YaC hf;exact(hF.en j f (by rw[Yab hj,ej])).1
 have rl0:=jax _ _ hF.nd hF.bd;simp only[fky,YaA,Yaa]at rl0;refine⟨rfl,?_⟩;simp! only[jkN,jad,Yad,it_l gr];refine jar (λi ς G'=>∃o6:Option U,ς=[some (jac xs ss),some (.int P),some bu,some (.loc pf),some (.loc pr),some (wsU ws),o6,none,none,none,none,none,none,none]/\Sa G G'/\∀r∈rs.take i,¬Bar P ws r) ?_ ?_ ⟨_,rfl,Sa.refl,λr hr=>by simp at hr⟩
 ·rintro ς G1 ⟨o6,rfl,s1,nb⟩;rw[Yaa,Yaz]at nb;have gf1:=s1 _ _ gf;refine⟨by unfold lsG;rw[s1 _ _ gr],?_⟩
  simp! only[jgm];refine jlJ (ss:=ss) gf1 wl hf (λhn=>?_) λf fm v ev c=>?_
  ·have isn:∀kk:Bool->Prop,kk true->isU .non .non kk:=λ_ h=>h;simp! only[jeC];refine isn _ ?_;rw[if_pos rfl];refine⟨by decide,q2 ws G1 s1 ⟨rfl,λi a b ea eb=>?_,λf hf' v ev=>?_,nb⟩⟩
   ·rw[ea]at eb;cases eb;have:=nv a (Yam ea);omega
   ·have:=hn f hf' v ev;have:=nv v (Yam ev);omega
  ·have isn:∀kk:Bool->Prop,kk false->isU (.int (f.2.1:Int)) .non kk:=λ_ h=>h;simp! only[jeC];refine isn _ ?_;rw[if_neg (by decide)]
   obtain⟨m',hm',c1,c2⟩:=job c (hm f fm v ev);have dec:=(jgq (s:=f.2.1) hm' (fs:=fs)).2 ⟨f,fm,rfl⟩;obtain⟨m,rfl⟩:∃m,n=m+1:=⟨n-1,by omega⟩
   have il:=(List.getElem?_eq_some_iff.mp ev).1;generalize hcut:(v.1+v.2)/2=ct at c1 c2;have l1:v.1<=ct:=by omega
   have l2:ct<v.2:=by omega
   simp! only[jgl];refine jh5 (ws:=ws) ev (by omega) ?_
   rw[hcut];simp! only[];refine⟨trivial,?_⟩;simp! only[jgk];refine⟨by decide,λpc G2 n2=>?_⟩
   simp! only[jgj];have side:∀(x:Int×Int),v.1<=x.1->x.1<=x.2->x.2<=v.2->x.2-x.1<2 ^ m'->(ws.set f.2.1 x).length=ss.length/\(∀y∈ws.set f.2.1 x,y.1<=y.2)/\∀f'∈fs,∀y,(ws.set f.2.1 x)[f'.2.1]?=some y->y.2-y.1<2 ^ (jfg e f.2.1 m' f'.2.1):=λx x1 x2 x3 x4=>by
    refine⟨by rw[Ybr];exact wl,λy hy=>?_,λf' hf' y ey=>?_⟩
    ·rcases Yex hy with z|z
     ·exact nv y z
     ·rw[z];exact x2
    ·by_cases z:f'.2.1=f.2.1
     ·rw[z,Ybk il]at ey;cases ey;rw[show jfg e f.2.1 m' f'.2.1=m' from if_pos z];exact x4
     ·rw[Ya5 (λy=>z y.symm)]at ey;rw[show jfg e f.2.1 m' f'.2.1=e f'.2.1 from if_neg z];exact hm f' hf' y ey
   refine jar (λj ς G'=>∃(cs:List U) (o11 o12 o13:Option U),ς=[some (jac xs ss),some (.int P),some bu,some (.loc pf),some (.loc pr),some (wsU ws),o6,some (.int f.2.1),some (.int ct),some (.tup [wsU (ws.set f.2.1 (v.1,ct)),wsU (ws.set f.2.1 (ct+1,v.2))]),some (.loc pc),o11,o12,o13]/\Sa G G'/\G' pc=some (.lst cs)/\cs.length=j/\(∀c,cs[0]?=some c->∃n,Cs ss P m n (ws.set f.2.1 (v.1,ct)) c)/\∀c,cs[1]?=some c->∃n,Cs ss P m n (ws.set f.2.1 (ct+1,v.2)) c) ?_ ?_ ⟨[],_,_,_,rfl,s1.trans n2.sa,n2.at,rfl,λc h=>by simp at h,λc h=>by simp at h⟩
   ·rintro ς G3 ⟨cs,o11,o12,o13,rfl,s3,g3,cl,h1,h2⟩;have cl:cs.length=2:=cl;refine⟨trivial,?_⟩;obtain⟨ca,cb,rfl⟩:∃a b,cs=[a,b]:=by
     match cs,cl with
     |[a,b],_=>exact⟨a,b,rfl⟩
    obtain⟨n1,k1⟩:=h1 ca rfl;obtain⟨n2',k2⟩:=h2 cb rfl;simp! only[jgi,ix_l g3 (jaG _ _),ix_l g3 (jay _ _ _)];exact⟨by decide,by decide,q1 _ _ G3 s3 (.split ev l1 l2 k1 k2)⟩
   ·rintro j x ς G3 K hx ⟨cs,o11,o12,o13,rfl,s3,g3,cl,h1,h2⟩ hk;have gf3:=s3 _ _ gf;have gr3:=s3 _ _ gr;have npc:G pc=none:=ja8 s1 n2.no;have frm:∀{Ga Gb:Gp} {u:MO},Sa G Ga->Put Ga pc u Gb->Sa G Gb:=λ{Ga Gb u} s w b z e=>w.sm _ _ (λy=>by rw[y,npc]at e;cases e) (s b z e)
    refine⟨trivial,?_⟩;simp! only[];have go:∀(y:Int×Int),v.1<=y.1->y.1<=y.2->y.2<=v.2->y.2-y.1<2 ^ m'->(∀(c:U) (n:Nat),Cs ss P m n (ws.set f.2.1 y) c->∀G',Sa G G'->G' pc=some (.lst (cs++[c]))->∀o12 o13,K [some (jac xs ss),some (.int P),some bu,some (.loc pf),some (.loc pr),some (wsU ws),o6,some (.int f.2.1),some (.int ct),some (.tup [wsU (ws.set f.2.1 (v.1,ct)),wsU (ws.set f.2.1 (ct+1,v.2))]),some (.loc pc),some (wsU (ws.set f.2.1 y)),o12,o13] G')->
      jab T (k+m+4) jgD [jac xs ss,.int P,bu,.loc pf,.loc pr,wsU (ws.set f.2.1 y)] G3 (λu G1=>tgU (.t (.cons (.n 12) (.cons (.n 13) .nil))) u [some (jac xs ss),some (.int P),some bu,some (.loc pf),some (.loc pr),some (wsU ws),o6,some (.int f.2.1),some (.int ct),some (.tup [wsU (ws.set f.2.1 (v.1,ct)),wsU (ws.set f.2.1 (ct+1,v.2))]),some (.loc pc),some (wsU (ws.set f.2.1 y)),o12,o13] λς'=>slot ς' 12 λu=>cmpU .Eq u (.str "times") G1 λb=>if b=true then slot ς' 13 λu=>0+1+1<=Yak/\Q (.tup [.str "times",u]) G1 else slot ς' 10 λu=>match mtU .append u G1 with
       |some _=>slot ς' 13 λu_1=>jaL .append u [u_1] G1 λ_ G1=>K ς' G1
       |none=>False) λx G1=>X x G1:=λy y1 y2 y3 y4 add=>by
     obtain⟨a1,a2,a3⟩:=side y y1 y2 y3 y4;refine ih m rfl k G3 _ _ _ (jfg e f.2.1 m') a1 a2 a3 (by omega) gf3 gr3 (λc n' G4 s4 hc=>?_) λws' G4 s4 ht=>?_
     ·have g4:=s4 _ _ g3;simp! only[];refine⟨trivial,?_⟩;rw[if_neg (by decide +kernel)]
      simp! only[jaA g4,jby g4];refine⟨YaF (show cs.length<=2 by have:=(List.getElem?_eq_some_iff.mp hx).1;simp at this;omega) (by decide),λG5 p5=>?_⟩
      exact add c n' hc G5 (frm (s3.trans s4) p5) p5.at _ _
     ·simp! only[];refine⟨trivial,?_⟩;rw[if_pos (by decide +kernel)]
      simp! only[];exact⟨by decide,q2 ws' G4 (s3.trans s4) (Tm.of ev rfl y1 y3 ht)⟩
    rw[show k+(m+1)+3=k+m+4 by omega]
    match j,hx,cl with
    |0,hx,cl=>
     have hx:wsU (ws.set f.2.1 (v.1,ct))=x:=Yao hx;subst hx;have e0:cs=[]:=List.length_eq_zero_iff.mp cl;subst e0;refine go (v.1,ct) (Yeq _) l1 (by show ct<=v.2;omega) c1 λc n' hc G4 s4 g4 a b=>hk _ _ ⟨[c],_,_,_,rfl,s4,g4,rfl,λc' h=>?_,λc' h=>by simp at h⟩
     cases h;exact⟨n',hc⟩
    |1,hx,cl=>
     have hx:wsU (ws.set f.2.1 (ct+1,v.2))=x:=Yao hx;subst hx;obtain⟨c0,rfl⟩:∃c,cs=[c]:=by
      match cs,cl with
      |[c],_=>exact⟨c,rfl⟩
     refine go (ct+1,v.2) (by show v.1<=ct+1;omega) (by show ct+1<=v.2;omega) (Yeq _) c2 λc n' hc G4 s4 g4 a b=>hk _ _ ⟨[c0,c],_,_,_,rfl,s4,g4,rfl,λc' h=>?_,λc' h=>?_⟩
     ·cases h;exact h1 _ rfl
     ·cases h;exact⟨n',hc⟩
    |j+2,hx,cl=>simp at hx
 ·rintro i x ς G1 K hx ⟨o6,rfl,s1,nb⟩ hk;rw[Yal]at hx;cases er:rs[i]? with
  |none=>rw[er]at hx;cases hx
  |some r=>
   rw[er]at hx;cases hx;obtain⟨j,s,hr⟩:=hrs r (Yam er);have rl1:=hr.l;obtain⟨t,ht,_⟩:=hr.tl;refine⟨by unfold lsG;rw[s1 _ _ gr],?_⟩
   simp! only[];refine jlS (xs:=xs) (k:=k+n) wl hr.wk.all (by omega) p1 p2 λG2 s2=>?_
   simp! only[];by_cases c:Bar P ws r
   ·rw[if_pos (by simpa using c)]
    exact⟨by decide,by decide,q1 _ 1 G2 (s1.trans s2) (.ring hr.wk (by rw[ht];simp) (by omega) c)⟩
   ·rw[if_neg (by simpa using c)]
    refine hk _ _ ⟨_,rfl,s1.trans s2,λr' hr'=>?_⟩;rw[YaL,er]at hr';rcases List.mem_append.mp hr' with z|z
    ·exact nb r' z
    ·rw[List.mem_singleton.mp z];exact c
def jlN (n:Nat)(hF:Fst W ss w fs)(w8:W<=8)(sl:ss.length<=24)(p1:1<=P)(p2:P<=600)(hrs:∀r∈rs,∃i s,CR ss fs i s r):Sk xs ss P fs rs pf pr o bu n:=by
 induction n with
 |zero=>exact je1 hF w8 sl p1 p2 hrs λm h=>(nomatch h)
 |succ n ih=>exact je1 hF w8 sl p1 p2 hrs λm h=>by cases h;exact ih
end

def gs24:T.gs=[.int 300]:=rfl
section
variable {k:Nat}{G:Gp}{Q:K1}{X:KX}{xs:List Str}{ss:List Spn}{P:Int}{bs:List Int}{W:Nat}
def jee {p:List Int}(pl:p.length<=8)(q:∀(a:Addr) (G':Gp),Sa G G'->G' a=some (.lst [])->Q (.loc a) G'):jab T (k+1) jdB [jaq p,.tup []] G Q X:=by
 refine⟨rfl,?_⟩;simp! only[jfv,jad,Yad,jaq];refine⟨by rw[Yaa];exact Yah pl (by decide),?_⟩
 refine jak (λi acc G'=>G'=G/\acc=[]) ?_ ?_ ⟨rfl,rfl⟩
 ·rintro acc G1 ⟨rfl,rfl⟩;exact⟨trivial,λa G2 n2=>q a G2 n2.sa n2.at⟩
 ·rintro i x acc G1 K hx ⟨rfl,rfl⟩ hk hn;rw[Yal]at hx;cases e:p[i]? with
  |none=>rw[e]at hx;cases hx
  |some z=>
   rw[e]at hx;have hx:=(Yao hx).symm;subst hx;refine⟨trivial,?_⟩;simp! only[];exact⟨rfl,rfl,hn _ ⟨rfl,rfl⟩⟩
section
variable {W:Nat}{es:List (Int×Int)}{ps:List (List Int)}
def jgy (h:IsP W es ps)(w8:W<=8){p:List Int}(hp:p∈ps):p.length<=8:=
 Yah (jax W p ((h.as p hp).imp λ{a b} g e=>by omega) (h.bd p hp)) w8
def jgx (h:IsP W es ps)(w0:0<W):1<=ps.length:=by
 obtain⟨p,hp,_⟩:=h.al 0 (by omega) (by omega)
 exact YeU hp
end
def jhj (w0:0<xs.length)(w8:xs.length<=8)(so:∀s∈ss,s.Ok xs.length)(sl:ss.length<=24)(h1:1<=P)(h2:P<=600)(pw:∀ps:List (List Int),IsP xs.length (edg ss) ps->P.toNat ^ (xs.length-ps.length)<=300)
  (q:∀(z:Int) (G':Gp),z<=300->Sa G G'->Q (.int z) G'):jab T (k+4) jfc [jac xs ss,.int P,.tup []] G Q X:=by
 refine⟨rfl,?_⟩;simp! only[jfw,jad,Yad];refine jdA so sl w8 λps G1 hP hs pl s1=>?_;have pn:=jgx hP w0;simp! only[jhV];refine⟨by rw[Yaa];exact Yah pl (by decide),?_⟩
 refine jak (λi acc G'=>Sa G1 G'/\acc=(ps.take i).map jaq) ?_ ?_ ⟨Sa.refl,rfl⟩
 ·rintro acc G2 ⟨s2,rfl⟩;rw[Yaa,Yaz];refine⟨trivial,λp3 G3 n3=>?_⟩;simp! only[jdt];simp! only[jds,jac,ix_t (jaG _ _),Yaa,jfh n3.at];refine⟨by omega,by omega,?_⟩
  refine jar (λi ς G'=>G'=G3/\∃o5,ς=[some (jac xs ss),some (.int P),some (.tup []),some (.loc p3),some (.int ((P.toNat ^ i:Nat):Int)),o5]) ?_ ?_ ⟨rfl,_,rfl⟩
  ·rintro ς G4 ⟨rfl,o5,rfl⟩;rw[jal];refine⟨trivial,?_⟩;simp! only[];refine q _ _ ?_ ((s1.trans s2).trans n3.sa);have:P.toNat ^ ((xs.length:Int)-((0:Nat):Int)-(ps.length:Int)).toNat<=300:=Yah (Ycx (by omega) (by omega)) (pw ps hP)
   omega
  ·rintro i x ς G4 K hx ⟨rfl,o5,rfl⟩ hk;obtain⟨hi,rfl⟩:=jaI hx;refine⟨trivial,?_⟩;simp! only[];have b1:P.toNat ^ i<=300:=Yah (Ycx (by omega) (by omega)) (pw ps hP)
   generalize ez:P.toNat ^ i=z at b1;refine⟨.inr (by constructor<;>omega),hk _ _ ⟨rfl,some (.int (i:Int)),?_⟩⟩
   have e:((P.toNat ^ (i+1):Nat):Int)=(z:Int)*P:=by rw[Nat.pow_succ,ez,Int.natCast_mul];congr 1;omega
   rw[e]
 ·rintro i x acc G2 K hx ⟨s2,rfl⟩ hk hn;rw[Yal]at hx;cases e:ps[i]? with
  |none=>rw[e]at hx;cases hx
  |some z=>
   rw[e]at hx;have hx:=(Yao hx).symm;subst hx;refine⟨trivial,?_⟩;simp! only[];refine jee (jgy hP w8 (Yam e)) λa G3 s3 g3=>?_;rw[ji5 g3];rw[if_pos (by decide)]
   exact hk _ _ ⟨s2.trans s3,by rw[YaL,e,Yap];rfl⟩
def jh3 (w0:0<xs.length)(w8:xs.length<=8)(so:∀s∈ss,s.Ok xs.length)(sl:ss.length<=24)(h1:1<=P)(h2:P<=600)(pw:∀ps:List (List Int),IsP xs.length (edg ss) ps->P.toNat ^ (xs.length-ps.length)<=300)
  (q:∀(G':Gp),Sa G G'->Q .non G'):jab T (k+5) jb0 [jac xs ss,.int P,.tup []] G Q X:=by
 refine⟨rfl,?_⟩;simp! only[jb2,jad,Yad];refine jhj w0 w8 so sl h1 h2 pw λz G1 hz s1=>?_;simp! only[gs24,glU];rw[if_neg (by simp;omega)]
 exact q _ s1
end

noncomputable def endZ (P:Int)(s:Spn):Int:=if s.lo+P-1<(if s.w = "span" then s.hi else P-s.hi) then s.lo+P-1 else if s.w = "span" then s.hi else P-s.hi
noncomputable def winO (P:Int)(ss:List Spn):Wn:=ss.map λs=>(s.lo,endZ P s)
def joE {P:Int}{s:Spn}:endZ P s-s.lo<=P-1:=by unfold endZ;split<;>omega
section
variable {k:Nat}{G:Gp}{Q:K1}{X:KX}{xs:List Str}{ss:List Spn}{ws:Wn}{P:Int}{W:Nat}
def jn2 {i:Nat}{s:Spn}(hs:ss[i]?=some s)(h:s.Ok W)(q:Q (.int (if s.w = "span" then s.hi else P-s.hi)) G):jab T (k+1) jgC [jac xs ss,.int P,.int i] G Q X:=by
 refine⟨rfl,?_⟩;simp! only[jgY,jad,Yad,jac,ix_t (jay _ _ _),ix_t (atM hs),Spn.u];refine⟨trivial,?_⟩;rcases h.w with z|z
 ·rw[z,if_neg (by decide +kernel)]
  rw[z,if_neg (show ¬(("apart" : Str) = "span") by decide +kernel)]at q
  exact q
 ·rw[z,if_pos (by decide +kernel)]
  rw[z,if_pos rfl]at q;exact q
def jhi (so:∀s∈ss,s.Ok W)(sl:ss.length<=24)(q:∀G',Sa G G'->Q (wsU (winO P ss)) G'):jab T (k+3) jc1 [jac xs ss,.int P] G Q X:=by
 refine⟨rfl,?_⟩;simp! only[jc8,jad,Yad,jac,ix_t (jay _ _ _),Yaa];refine⟨by omega,by omega,by rw[jal];exact Yah (show((ss.length:Int)).toNat<=24 by omega) (by decide),?_⟩
 refine jak (λi acc G'=>G'=G/\acc=(winO P (ss.take i)).map wu) ?_ ?_ ⟨rfl,rfl⟩
 ·rintro acc G' ⟨rfl,rfl⟩;rw[jal,Yaz];refine⟨trivial,λp G1 n1=>?_⟩;dsimp only;rw[it_l n1.at];exact q G1 n1.sa
 ·rintro i x acc G' K hx ⟨rfl,rfl⟩ hk _;obtain⟨hi,rfl⟩:=jaI hx;have hi:i<ss.length:=by omega
  have es:ss[i]?=some ss[i]:=Yab hi;refine⟨trivial,?_⟩;simp! only[];refine⟨rfl,?_⟩;simp! only[jdT,jad,Yad,jac,ix_t (jay _ _ _),ix_t (atM es)];show ixU (.tup [.str ss[i].w,.int ss[i].o,.int ss[i].t,.int ss[i].lo,.int ss[i].hi]) _ _ _;rw[ix_t (show atI [U.str ss[i].w,.int ss[i].o,.int ss[i].t,.int ss[i].lo,.int ss[i].hi] 3=some (.int ss[i].lo)from rfl)];simp! only[];refine jn2 (xs:=xs) (P:=P) es (so _ (Ybo hi)) ?_;simp! only[];refine⟨by decide,hk _ _ ⟨rfl,?_⟩⟩
  unfold winO;rw[YaL,es,Yap,Yap];rfl
structure Pw (W:Nat)(ss:List Spn)(P:Int)(ws:Wn)(ps:List (List Int))(n:Nat)(bs:List Int):Prop where
 l:bs.length=W
 b:∀b∈bs,0<=b/\b<P
 k:∀i s,ss[i]?=some s->(∃p∈ps.take n,(s.o:Int)∈p)->Kw ss P ws bs i
def jl5 {bs bs':List Int}{i:Nat}{s:Spn}(h:Kw ss P ws bs i)(hs:ss[i]?=some s)(h1:bt bs' s.o=bt bs s.o)(h2:bt bs' s.t=bt bs s.t):Kw ss P ws bs' i:=by
 unfold Kw at h ⊢;rw[eS_1 hs,eD_1 hs]at h ⊢;rw[h1,h2];exact h
def Pw.step {n w:Nat}{fs:List (Int×Ent)}{p:List Int}{ps:List (List Int)}{bs bs':List Int}(h:Pw W ss P ws ps n bs)(hP:IsP W (edg ss) ps)(hp:ps[n]?=some p)(he:∀x,x∈p↔x∈(w:Int)::fky fs)
  (l':bs'.length=W) (b':∀b∈bs',0<=b/\b<P) (s':∀x,0<=x->x∉fky fs->bt bs' x=bt bs x) (k':∀i s,ss[i]?=some s->(s.o:Int)∈p->Kw ss P ws bs' i):Pw W ss P ws ps (n+1) bs':=by
 have off:∀x,x∉p->x∉fky fs:=λx hx z=>hx ((he x).mpr (Yai _ z));refine⟨l',b',λi s es ⟨p',hp',ho⟩=>?_⟩;rw[YaL,hp]at hp';rcases List.mem_append.mp hp' with z|z
 ·have ht:(s.t:Int)∈p':=hP.part (Yb7 z) ho (.one (.inl (List.mem_map.mpr ⟨s,Yam es,rfl⟩)));exact jl5 (h.k i s es ⟨p',z,ho⟩) es (s' _ (by omega) (off _ λz'=>hP.apart hp z z' ho)) (s' _ (by omega) (off _ λz'=>hP.apart hp z z' ht))
 ·rw[List.mem_singleton.mp z]at ho;exact k' i s es ho
def jqo (so:∀s∈ss,s.Ok xs.length)(sl:ss.length<=24)(w0:0<xs.length)(w8:xs.length<=8)(p1:1<=P)(p2:P<=600)(pw:∀ps:List (List Int),IsP xs.length (edg ss) ps->P.toNat ^ (xs.length-ps.length)<=300)
  (q1:∀(c:U) (m:Nat) (G':Gp),Sa G G'->Cs ss P 70 m (winO P ss) c->Q (.tup [.str "none",c]) G')
  (q2:∀(bs:List Int) (G':Gp),Sa G G'->bs.length=xs.length->(∀b∈bs,0<=b/\b<P)->(∀i,i<ss.length->Kw ss P (winO P ss) bs i)->Q (.tup [.str "times",jaq bs]) G') :
  jab T (k+75) ja2 [jac xs ss,.int P,.tup [],.tup []] G Q X:=by
 have wl:(winO P ss).length=ss.length:=Yaa _;refine⟨rfl,?_⟩;simp! only[ja3,jad,Yad];refine jh3 (k:=k+69) w0 w8 so sl p1 p2 pw λG1 s1=>?_;simp! only[jaP];refine jhi (k:=k+71) so sl λG2 s2=>?_;simp! only[jaO];refine jlK (k:=k+73) (ws:=winO P ss) rfl (λnv=>?_) λi w ew c=>?_
 ·have isn:∀kk:Bool->Prop,kk true->isU .non .non kk:=λ_ h=>h;simp! only[jaw];refine isn _ ?_;rw[if_neg (by decide)]
  simp! only[jaN,jac,ix_t (jaG _ _),Yaa];refine⟨by omega,by omega,by rw[jal];exact Yah (show((xs.length:Int)).toNat<=8 by omega) (by decide),?_⟩
  refine jaD (λ_=>.int 0) trivial (λu hu K hK=>?_) ?_
  ·obtain⟨i,_,rfl⟩:=List.mem_map.mp hu;simp! only[];exact⟨rfl,rfl,hK⟩
  intro p3 G3 n3;have e3:[]++(rngU 0 xs.length).map (λ_=>U.int 0)=(Yad xs.length (0:Int)).map .int:=by
   rw[Ya8,List.map_const',jal,List.map_replicate]
  rw[e3]at n3;rw[it_l n3.at];refine(?_:jaR T.gs (jab T (k+74)) jav ⟨λ_ G'=>Q .non G',Q,λx _ G'=>X x G'⟩ [some (jac xs ss),some (.int P),some (.tup []),some (.tup []),some (wsU (winO P ss)),some .non,some (jaq (Yad xs.length 0)),none,none,none,none] G3)
  have s03:Sa G G3:=s1.trans (s2.trans n3.sa);simp! only[jav];refine jdA (k:=k+71) (xs:=xs) so sl w8 λps G4 hP hS hl s4=>?_;simp! only[jhV];refine jar (λn ς G'=>∃(bs:List Int) (o7 o8 o9 o10:Option U),ς=[some (jac xs ss),some (.int P),some (.tup []),some (.tup []),some (wsU (winO P ss)),some .non,some (jaq bs),o7,o8,o9,o10]/\Sa G G'/\Pw xs.length ss P (winO P ss) ps n bs) ?_ ?_
   ⟨Yad xs.length 0,_,_,_,_,rfl,s03.trans s4,by simp,λb hb=>by rw[List.eq_of_mem_replicate hb];omega,λi s _ ⟨p,hp,_⟩=>by simp at hp⟩
  ·rintro ς G5 ⟨bs,o7,o8,o9,o10,rfl,s5,pt⟩;rw[Yaa]at pt;refine⟨trivial,?_⟩;simp! only[jaM];refine⟨by decide,q2 bs G5 s5 pt.l pt.b λi hi=>?_⟩
   have es:ss[i]?=some ss[i]:=Yab hi;obtain⟨p,hp,hpo,_⟩:=hP.ed _ _ (List.mem_map.mpr ⟨ss[i],Ybo hi,rfl⟩);exact pt.k i _ es ⟨p,by rw[Yaz];exact hp,hpo⟩
  ·rintro n u ς G5 K hu ⟨bs,o7,o8,o9,o10,rfl,s5,pt⟩ hk;rw[Yal]at hu;cases ep:ps[n]? with
   |none=>rw[ep]at hu;cases hu
   |some p=>
    rw[ep]at hu;cases hu;have pm:=Yam ep;have pl:=jgy hP w8 pm;obtain⟨x0,rest,rfl⟩:∃x r,p=x::r:=by
     cases p with
     |nil=>exact absurd rfl (hP.ne _ pm)
     |cons x r=>exact⟨x,r,rfl⟩
    have b0:=hP.bd _ pm x0 (by simp)
    obtain⟨w,rfl⟩:=YaB b0.1;refine⟨trivial,?_⟩;simp! only[];refine jee (k:=k+73) pl λpa G6 s6 g6=>?_;rw[ji5 g6,if_neg (by simp)]
    simp! only[jaq];have ec:cut (U.int w::rest.map U.int) none (some 1)=[.int w]:=jd6 (U.int w::rest.map U.int) 1;rw[ec];refine jef (k:=k+72) (r:=.tup [.int w]) (xs:=xs) so sl (show w<xs.length by omega) w8 (λ_ _ _ h=>h) λpf fs G7 s7 nf gf hF hC=>?_
    have mem:∀x,x∈(w:Int)::rest↔x∈(w:Int)::fky fs:=λx=>
     ⟨λhx=>(hP.co _ pm w (by simp) x hx).closed (S:=λz=>z∈(w:Int)::fky fs) (λa b ha e=>hC a b ha e) (by simp),λhx=>hP.part pm (by simp) (hF.rch.co x hx)⟩
    have rl0:=jax _ _ hF.nd hF.bd;simp only[fky,YaA,Yaa]at rl0;refine jh8 (k:=k+70) (xs:=xs) (ps:=(w:Int)::rest) hF w8 sl gf hC (λx hx=>(mem x).mp hx) λpr rs o G8 s8 nr gr gf8 c1 c2 rl=>?_;have s68:Sa G6 G8:=λb u hb=>s8 _ _ (λz=>by rw[z,nf]at hb;cases hb) (s7 _ _ hb)
    have S8:Sa G G8:=(s5.trans s6).trans s68;have sk:=jlN (xs:=xs) (rs:=rs) (pf:=pf) (pr:=pr) (o:=o) (bu:=jaq bs) 70 hF w8 sl p1 (show P<=600 by omega) c1
    refine sk k G8 _ _ (winO P ss) (λ_=>10) wl nv (λf hf v ev=>?_) ?_ gf8 gr (λc m G9 s9 hc=>?_) λws' G9 s9 ht=>?_
    ·obtain⟨s,hs,rfl⟩:=List.mem_map.mp (Yam ev);have:=joE (P:=P) (s:=s);have e2:(2:Int) ^ 10=1024:=rfl;rw[e2];show endZ P s-s.lo<1024;omega
    ·have:∀l:List (Int×Ent),(l.map λ_=>10).sum=10*l.length:=λl=>by
      induction l with
      |nil=>rfl
      |cons a l ih=>rw[YaG,List.sum_cons,ih,YaA];omega
     rw[this];omega
    ·simp! only[];refine⟨trivial,?_⟩;rw[if_pos (by decide +kernel)]
     exact⟨by decide,q1 c m G9 (S8.trans s9) hc⟩
    ·simp! only[];refine⟨trivial,?_⟩;rw[if_neg (by decide +kernel)]
     simp! only[wsU];refine⟨by rw[Yaa,ht.l,wl];exact Yah sl (by decide),?_⟩
     refine jaD (λu=>match u with|.tup [a,_]=>a|u=>u) trivial (λu hu K hK=>?_) ?_
     ·obtain⟨v,_,rfl⟩:=List.mem_map.mp hu;show tgU _ (.tup [.int v.1,.int v.2]) _ _;simp! only[];exact⟨trivial,hK⟩
     intro pl' Ga na;have ea:[]++(ws'.map wu).map (λu=>match u with|.tup [a,_]=>a|u=>u)=(ws'.map (·.1)).map U.int:=by
      rw[Ya8,YaW,YaW];rfl
     rw[ea]at na;have lu:Lu ss Ga (.loc pl') (ws'.map (·.1)):=⟨by rw[Yaa,ht.l,wl],.inl ⟨pl',rfl,na.at⟩⟩
     refine jjM (k:=k+72) (xs:=xs) hF w8 lu p1 (show P<=600 by omega) pt.l pt.b (na.sa _ _ (s9 _ _ gf8)) λbs' Gb sb l7 b7 e7 k7=>?_
     simp! only[];refine hk _ _ ⟨bs',_,_,_,_,rfl,S8.trans (s9.trans (na.sa.trans sb)),pt.step hP ep mem l7 b7 e7 λi s es ho=>?_⟩;refine ht.kw wl p1 (λf hf=>⟨?_,k7 f hf⟩) es (c2 i s es ho);obtain⟨j,hj,ej⟩:=YaC hf;exact(hF.en j f (by rw[Yab hj,ej])).1
 ·have isn:∀kk:Bool->Prop,kk false->isU (.int (i:Int)) .non kk:=λ_ h=>h;simp! only[jaw];refine isn _ ?_;rw[if_pos (by decide)]
  have il:i<ss.length:=by rw[<- wl];exact(List.getElem?_eq_some_iff.mp ew).1
  have es:ss[i]?=some ss[i]:=Yab il;refine⟨by decide,by decide,by decide,by decide,by decide,q1 (.tup [.str "ring",jcQ [(i,1),(i,-1)]]) 1 G2 (s1.trans s2) (.ring (a:=(ss[i].o:Int)) ⟨⟨il,.inl rfl⟩,eS_1 es,⟨il,.inr rfl⟩,?_,eD_m es⟩ (by simp) (by simp) ?_)⟩
  ·rw[eS_m es,eD_1 es]
  ·have a1:sLo (winO P ss) [(i,1),(i,-1)]=w.1-w.2:=by
    have:sLo (winO P ss) [(i,1),(i,-1)]=wlo (winO P ss) (i,1)+(wlo (winO P ss) (i,-1)+0):=by simp[sLo]
    rw[this];unfold wlo;rw[if_pos rfl,if_neg (show ¬((-1:Int)=1) by decide),getW ew];omega
   have a2:sHi (winO P ss) [(i,1),(i,-1)]=w.2-w.1:=by
    have:sHi (winO P ss) [(i,1),(i,-1)]=whi (winO P ss) (i,1)+(whi (winO P ss) (i,-1)+0):=by simp[sHi]
    rw[this];unfold whi;rw[if_pos rfl,if_neg (show ¬((-1:Int)=1) by decide),getW ew];omega
   unfold Bar;rw[a1,a2];have:=Int.ediv_mul_le (w.2-w.1) (show P≠0 by omega)
   omega
def jjz (so:∀s∈ss,s.Ok xs.length)(sl:ss.length<=24)(w0:0<xs.length)(w8:xs.length<=8)(p1:1<=P)(p2:P<=600)(pw:∀ps:List (List Int),IsP xs.length (edg ss) ps->P.toNat ^ (xs.length-ps.length)<=300)
  (q1:∀(c:U) (m:Nat) (G':Gp),Sa G G'->Cs ss P 70 m (winO P ss) c->Q (.tup [.str "none",c]) G')
  (q2:∀(bs:List Int) (G':Gp),Sa G G'->bs.length=xs.length->(∀b∈bs,0<=b/\b<P)->(∀i,i<ss.length->Kw ss P (winO P ss) bs i)->Q (.tup [.str "times",jaq bs]) G') :
  jab T (k+76) jbJ [jac xs ss,.int P] G Q X:=by
 refine⟨rfl,?_⟩;simp! only[jbP,jad,Yad];exact⟨by decide,by decide,jqo (k:=k) so sl w0 w8 p1 p2 pw q1 q2⟩
end

noncomputable def topZ (P:Int)(s:Spn):Int:=if s.w = "span" then s.hi else P-s.hi
noncomputable def gapZ (P:Int)(bs:List Int)(s:Spn):Int:=(bs.getD s.t 0-bs.getD s.o 0-s.lo)%P
noncomputable def kpt (P:Int)(bs:List Int)(s:Spn):Bool:=decide (s.lo+gapZ P bs s<=topZ P s)
noncomputable def jbh (P:Int)(ss:List Spn)(bs:List Int):Bool:=ss.all (kpt P bs)
def joF {a b P:Int}(k:Int)(h:a=b+P*k):a%P=b%P:=by rw[h,Int.add_mul_emod_self_left]
noncomputable def nB (fs:List Int)(P:Nat)(w:Nat):Nat:=if (w:Int)∈fs then 1 else P
noncomputable def rowX (fs:List Int)(P:Nat)(w:Nat)(r:List Int):List (List Int):=(YaK (nB fs P w)).map λ(j:Nat)=>r++[(j:Int)]
noncomputable def jaK (fs:List Int)(P:Nat):Nat->List (List Int)
 |0=>[[]]
 |w+1=>(jaK fs P w).flatMap (rowX fs P w)
section
variable {fs:List Int}
def jjc {P w:Nat}{r:List Int}:(rowX fs P w r).length=nB fs P w:=by simp[rowX]
def jlW {P:Nat}(hP:1<=P)(w:Nat):nB fs P w<=P:=by unfold nB;split<;>omega
def jfq {P w:Nat}:∀l:List (List Int),(l.flatMap (rowX fs P w)).length=l.length*nB fs P w
 |[]=>by simp
 |r::l=>by rw[List.flatMap_cons,YaD,jjc,jfq l,YaA,Nat.add_mul];omega
def jgs {P:Nat}(h0:(0:Int)∈fs)(hP:1<=P):∀w,(jaK fs P (w+1)).length<=P ^ w
 |0=>by show((jaK fs P 0).flatMap (rowX fs P 0)).length<=_;rw[jfq];simp[jaK,nB,h0]
 |w+1=>by
  show((jaK fs P (w+1)).flatMap (rowX fs P (w+1))).length<=_;rw[jfq,Nat.pow_succ];exact YeC (jgs h0 hP w) (jlW hP _)
def jjb {P W:Nat}(h0:(0:Int)∈fs)(hP:1<=P)(h:P ^ (W-1)<=300){w:Nat}(hw:w<=W):(jaK fs P w).length<=300:=by
 cases w with
 |zero=>simp[jaK]
 |succ w=>exact Yah (jgs h0 hP w) (Yah (Ycx (by omega) (by omega)) h)
def jct {P:Nat}:∀{w:Nat} {b:List Int},b∈jaK fs P w↔b.length=w/\∀i,i<w->0<=b.getD i 0/\b.getD i 0<(nB fs P i:Int)
 |0,b=>by
  simp only[jaK,List.mem_singleton];exact⟨λh=>⟨by simp[h],λi h=>absurd h (Nat.not_lt_zero i)⟩,λh=>List.length_eq_zero_iff.mp h.1⟩
 |w+1,b=>by
  show b∈(jaK fs P w).flatMap _↔_;rw[List.mem_flatMap];constructor
  ·rintro⟨r,hr,hb⟩;obtain⟨j,hj,rfl⟩:=List.mem_map.mp hb;obtain⟨hl,hi⟩:=jct.mp hr;have hj:=List.mem_range.mp hj;refine⟨by simp[hl],λi h=>?_⟩
   by_cases e:i=w
   ·subst e;rw[show(r++[(j:Int)]).getD i 0=j by simp[YaS,hl]]
    omega
   ·rw[show(r++[(j:Int)]).getD i 0=r.getD i 0 by simp[YaS,YaN (show i<r.length by omega)]]
    exact hi i (by omega)
  ·rintro⟨hl,hi⟩;refine⟨b.take w,jct.mpr ⟨by simp;omega,λi h=>?_⟩,List.mem_map.mpr ⟨(b.getD w 0).toNat,List.mem_range.mpr ?_,?_⟩⟩
   ·rw[show(b.take w).getD i 0=b.getD i 0 by simp[YaS,YdB,h]]
    exact hi i (by omega)
   ·have:=hi w (by omega);omega
   ·have h1:=hi w (by omega)
    have e:((b.getD w 0).toNat:Int)=b.getD w 0:=by omega
    rw[e];have hw:w<b.length:=by omega
    rw[show b.getD w 0=b[w] by simp[YaS,hw]]
    have:=List.take_append_getElem hw;rw[this,YbG (by omega)]
end
def jqC {W:Nat}{es:List (Int×Int)}{ks:List (List Int)}(h:IsP W es ks)(w0:0<W):(0:Int)∈ks.map (·.headD 0):=by
 obtain⟨p,hp,h0⟩:=h.al 0 (by omega) (by omega)
 refine List.mem_map.mpr ⟨p,hp,?_⟩;have as:=h.as p hp;have bd:=h.bd p hp;cases p with
 |nil=>cases h0
 |cons a l=>
  have ba:=bd a Yat;rcases YaM.mp h0 with z|z
  ·exact z.symm
  ·have:=(List.pairwise_cons.mp as).1 0 z;omega
def Begun (P:Int)(ks:List (List Int))(b g:List Int):Prop:=∀p∈ks,∀x∈p,g.getD x.toNat 0=(b.getD x.toNat 0-b.getD (p.headD 0).toNat 0)%P
section
variable {P:Int}{W:Nat}
def jhv {ss:List Spn}{ks:List (List Int)}{b g:List Int}(hP:IsP W (edg ss) ks)(h:Begun P ks b g):jbh P ss g=jbh P ss b:=by
 unfold jbh;rw[Ybs,YcX,YcX];refine forall_congr' λs=>forall_congr' λhs=>?_;obtain⟨p,hp,ho,ht⟩:=hP.ed s.o s.t (by unfold edg;exact List.mem_map.mpr ⟨s,hs,rfl⟩)
 have e1:=h p hp _ ho;have e2:=h p hp _ ht;rw[Ybc]at e1 e2;have e:gapZ P g s=gapZ P b s:=by
  unfold gapZ;rw[e1,e2];refine joF ((b.getD s.o 0-b.getD (p.headD 0).toNat 0)/P-(b.getD s.t 0-b.getD (p.headD 0).toNat 0)/P) ?_;rw[Int.emod_def,Int.emod_def,Int.mul_sub];omega
 unfold kpt;rw[e]
def jiX {es:List (Int×Int)}{ks:List (List Int)}{b g:List Int}(h1:1<=P)(hP:IsP W es ks)(gl:g.length=W)(h:Begun P ks b g):g∈jaK (ks.map (·.headD 0)) P.toNat W:=by
 refine jct.mpr ⟨gl,λi hi=>?_⟩;obtain⟨p,hp,hx⟩:=hP.al i (by omega) (by omega)
 have e:=h p hp _ hx;rw[Ybc]at e;have b1:=Ybg (b.getD i 0-b.getD (p.headD 0).toNat 0) (show P≠0 by omega)
 have b2:=Ya2 (b.getD i 0-b.getD (p.headD 0).toNat 0) (show 0<P by omega)
 unfold nB;split
 ·rename_i hm;obtain⟨p',hp',e'⟩:=List.mem_map.mp hm;have hx':(i:Int)∈p':=by rw[<- e'];exact jjV (hP.ne p' hp')
  have:=hP.un p hp p' hp' _ hx hx';subst this;rw[e,e',Ybc,Int.sub_self];simp
 ·rw[e];omega
def jj7 {ss:List Spn}{ks:List (List Int)}{b g:List Int}(h1:1<=P)(hP:IsP W (edg ss) ks)(gl:g.length=W)(h:Begun P ks b g):g∈(jaK (ks.map (·.headD 0)) P.toNat W).filter (jbh P ss)↔jbh P ss b=true:=by
 rw[Yed,jhv hP h];exact⟨λh=>h.2,λhk=>⟨jiX h1 hP gl h,hk⟩⟩

end
def jia {bs:List Int}{n:Nat}(h:n<bs.length):atI (bs.map U.int) (n:Int)=some (.int (bs.getD n 0)):=by
 have:bs[n]?=some (bs.getD n 0):=by simp[YaS,h]
 exact atM this
section
variable {k:Nat}{G:Gp}{Q:K1}{X:KX}{xs:List Str}{ss:List Spn}{P:Int}{bs:List Int}{s:Spn}{j W:Nat}
def jg4 {f:Spn->Bool}{i:Nat}(h:ss[i]?=some s):(ss.take (i+1)).all f=((ss.take i).all f&&f s):=by
 rw[YaL,h,List.all_append];simp
def jlR (q:Q (.int (if s.lo+P-1<topZ P s then s.lo+P-1 else topZ P s)) G):jab T (k+1) jcr [.int P,s.u] G Q X:=by
 refine⟨rfl,?_⟩;simp! only[jd3,jad,Yad,Spn.u,ix_t (jaG _ _),ix_t (jqM _ _ _ _ _),ix_t (show atI [U.str s.w,.int s.o,.int s.t,.int s.lo,.int s.hi] 4=some (.int s.hi)from jat (j:=4) rfl)];unfold topZ at q;by_cases c:s.w = "span"
 ·rw[if_pos (by simpa using c)]
  rw[if_pos c]at q;exact q
 ·rw[if_neg (by simpa using c)]
  rw[if_neg c]at q;exact q
def jjI (hP:0<P)(bl:bs.length=W)(so:∀s∈ss,s.Ok W)(sl:ss.length<=24)(q:∀(p:Addr) (zs:List Int) (G':Gp),Sa G G'->G' p=some (.lst (zs.map .int))->(zs.map U.int).isEmpty=jbh P ss bs->Q (.loc p) G'):jab T (k+2) jbf [jac xs ss,.int P,jaq bs] G Q X:=by
 refine⟨rfl,?_⟩;simp! only[jd2,jad,Yad];refine⟨by decide,λp G1 n1=>?_⟩
 simp! only[jcj,jac,ix_t (jay _ _ _),Yaa];refine⟨by omega,by omega,?_⟩
 refine jar (λi ς G'=>∃(zs:List Int) (o4 o5 o6 o7 o8 o9 o10:Option U),ς=[some (jac xs ss),some (.int P),some (jaq bs),some (.loc p),o4,o5,o6,o7,o8,o9,o10]/\Sa G G'/\G' p=some (.lst (zs.map .int))/\zs.length<=i/\zs.isEmpty=(ss.take i).all (kpt P bs)) ?_ ?_ ⟨[],_,_,_,_,_,_,_,rfl,n1.sa,n1.at,Yaf _,rfl⟩
 ·rintro ς G2 ⟨zs,o4,o5,o6,o7,o8,o9,o10,rfl,s2,g2,_,he⟩;rw[jal,Yaz]at he;refine⟨trivial,?_⟩;simp! only[];exact q p zs _ s2 g2 (by rw[List.isEmpty_map];exact he)
 ·rintro i x ς G2 K hx ⟨zs,o4,o5,o6,o7,o8,o9,o10,rfl,s2,g2,hl,he⟩ hk;obtain⟨hi,rfl⟩:=jaI hx;refine⟨trivial,?_⟩;obtain⟨s,es⟩:∃s,ss[i]?=some s:=⟨_,Yab hi⟩;have os:=so s (Yam es);have o:=os.o;have t:=os.t;simp! only[jac,ix_t (jay _ _ _),ix_t (atM es)];rw[show s.u=.tup [.str s.w,.int s.o,.int s.t,.int s.lo,.int s.hi]from rfl];simp! only[jaq,ix_t (jia (show s.o<bs.length by omega)),ix_t (jia (show s.t<bs.length by omega)),jac,ix_t (jay _ _ _),ix_t (atM es)]
  refine⟨trivial,by omega,jlR ?_⟩
  simp! only[];have g0:0<=gapZ P bs s:=Ybg _ (by omega)
  have g1:gapZ P bs s<P:=Ya2 _ (by omega)
  rw[show(bs.getD s.t 0-bs.getD s.o 0-s.lo)%P=gapZ P bs s from rfl];by_cases c:(if s.lo+P-1<topZ P s then s.lo+P-1 else topZ P s)<s.lo+gapZ P bs s
  ·rw[if_pos (by simpa using c)]
   simp! only[jaA g2];rw[jby g2];refine⟨by rw[Yaa];exact YaF (show zs.length<=24 by omega) (by decide),λG3 p3=>?_⟩
   refine hk _ _ ⟨zs++[(i:Int)],_,_,_,_,_,_,_,rfl,?_,by rw[Yap];exact p3.at,by simp;omega,?_⟩
   ·exact λb u e=>p3.sm _ _ (λz=>by rw[z,n1.no]at e;cases e) (s2 _ _ e)
   ·rw[jg4 es];unfold kpt;rw[decide_eq_false (by split at c<;>omega),Bool.and_false]
    simp
  ·rw[if_neg (by simpa using c)]
   refine hk _ _ ⟨zs,_,_,_,_,_,_,_,rfl,s2,g2,by omega,?_⟩
   rw[jg4 es,he];unfold kpt;rw[decide_eq_true (by split at c<;>omega),Bool.and_true]
def jfk {kk:Bool->Gp->Prop}(hP:0<P)(bl:bs.length=W)(so:∀s∈ss,s.Ok W)(sl:ss.length<=24)(q:∀G',Sa G G'->kk (jbh P ss bs) G'):jab T (k+2) jbf [jac xs ss,.int P,jaq bs] G (λx G1=>0<=Yak/\newO G1 (.lst []) λy G2=>cmpU .Eq x y G2 λc=>kk c G2) X:=by
 refine jjI hP bl so sl λp zs G1 s1 g1 he=>⟨by decide,λp2 G2 n2=>?_⟩
 simp! only[];refine joB (n:=0) (n2.sa _ _ g1) n2.at (λu hu=>?_) (by decide) ?_
 ·obtain⟨z,_,rfl⟩:=List.mem_map.mp hu;exact Sml.int z
 ·rw[he];exact q _ (s1.trans n2.sa)
end

def jor {z:Int}{G:Gp}{Q:K1}:jfn [.int z,.ty "int"] G Q=Q (.bl true) G:=rfl
def jos {z:Int}{G:Gp}{Q:K1}:jfn [.int z,.ty "bool"] G Q=Q (.bl false) G:=rfl
def jdM {us:List U}{G:Gp}{Q:K1}:jfn [.tup us,.ty "tuple"] G Q=Q (.bl true) G:=rfl
section
variable {k:Nat}{G:Gp}{Q:K1}{X:KX}{xs:List Str}{ss:List Spn}{L:List Int}{P:Int}{W:Nat}
def jn4 {s:Spn}(h:s.Ok W)(q:Q (.int (endZ P s)) G):jab T (k+1) jcr [.int P,s.u] G Q X:=by
 refine⟨rfl,?_⟩;simp! only[jd3,jad,Yad,Spn.u,ix_t (jaG _ _),ix_t (jay _ _ _)];unfold endZ at q;rcases h.w with z|z
 ·rw[z,if_neg (by decide +kernel)]
  rw[z,if_neg (show ¬(("apart" : Str) = "span") by decide +kernel)]at q
  exact q
 ·rw[z,if_pos (by decide +kernel)]
  rw[z,if_pos rfl]at q;exact q
def jco {z a b:Int}(q:Q (.bl (decide (a<=z)&&decide (z<=b))) G):jab T (k+1) jaE [.int z,.int a,.int b] G Q X:=by
 refine⟨rfl,?_⟩;simp! only[jdW,jad,Yad,jor,jos];by_cases c:a<=z
 ·rw[decide_eq_true c]at q ⊢;exact q
 ·rw[decide_eq_false c]at q ⊢;exact q
def jjG {e:Ent}(h:EOk ss e)(q:Q (.tup [.int (eS ss e),.int (eD ss e)]) G):jab T (k+2) jel [jac xs ss,.tup [],eu e] G Q X:=by
 obtain⟨s,hs,z⟩:=h.get;have il:=h.1;refine⟨rfl,?_⟩;simp! only[jeu,jad,Yad,eu,jdM];refine⟨by decide,rfl,by decide,?_⟩
 simp! only[jcZ,jcY,jac,ix_t (jaG _ _),ix_t (jay _ _ _),Yaa];refine jco ?_;rw[decide_eq_true (show(0:Int)<=(e.1:Int) by omega),decide_eq_true (show(e.1:Int)<=(ss.length:Int)-1 by omega)]
 simp! only[];refine jco ?_;rw[decide_eq_true (show(-1:Int)<=e.2 by have:=h.2;omega),decide_eq_true (show e.2<=(1:Int) by have:=h.2;omega)]
 simp! only[jcX,ix_t (jaG _ _),ix_t (jay _ _ _),ix_t (atM hs)];rw[if_neg (by decide),if_neg (by have:=h.2;simp;omega)]
 simp! only[Spn.u,ix_t (jay _ _ _)];rcases z with⟨z,h1,h2⟩|⟨z,h1,h2⟩
 ·rw[show e.2=1 by rw[z],if_pos (by decide)]
  rw[h1,h2]at q;exact⟨by decide,q⟩
 ·rw[show e.2=-1 by rw[z],if_neg (by decide)]
  rw[h1,h2]at q;exact⟨by decide,q⟩
def Wk.next:∀{r:List Ent} {a b:Int},Wk ss r a b->∀{i:Nat} {e e':Ent},r[i]?=some e->r[i+1]?=some e'->eD ss e=eS ss e'
 |[],_,_,_,i,e,_,h,_=>by simp at h
 |[x],_,_,_,0,e,e',_,h=>by simp at h
 |x::y::r,_,_,⟨_,_,_,h3,_⟩,0,e,e',he,he'=>by
  simp at he he';rw[<- he,<- he',h3]
 |x::r,_,_,⟨_,_,h⟩,i+1,e,e',he,he'=>Wk.next h (i:=i) (by simpa using he) (by simpa using he')
def Wk.first {r:List Ent}{a b:Int}(h:Wk ss r a b){e:Ent}(he:r[0]?=some e):eS ss e=a:=by
 cases r with
 |nil=>simp at he
 |cons x r=>simp at he;rw[<- he];exact h.2.1
def jlU {p:Addr}{r:List Ent}{kk:Bool->Prop}(g:G p=some (.lst (r.map λe=>U.tup [.int (eS ss e),.int (eD ss e)])))(q:kk false):inU .non (.loc p) G kk:=by
 unfold inU;dsimp only;rw[g];have du:∀r:List Ent,DUs G (r.map λe=>U.tup [.int (eS ss e),.int (eD ss e)]) (r.map λe=>YeI [.int (eS ss e),.int (eD ss e)]):=λr=>by
  induction r with
  |nil=>exact .nil
  |cons e r ih=>exact .cons (.tup (.cons (.int _) (.cons (.int _) .nil))) ih
 refine .inr ⟨.none,_,.non,du r,⟨rfl,by decide⟩,λe he=>?_,?_⟩
 ·obtain⟨v,_,rfl⟩:=List.mem_map.mp he;exact⟨rfl,by show max 0 (max 0 0)+1<=100;decide⟩
 ·have:(r.map λe=>YeI [.int (eS ss e),.int (eD ss e)]).any (λe=>YaI e .none)=false:=by
   rw[List.any_map,YfP];intro e _ h;cases h
  rw[this];exact q
def jiF {p p':Addr}{kk:Bool->Prop}(g:G p=some (.lst []))(g':G p'=some (.lst []))(q:kk true):cmpU .Eq (.loc p) (.loc p') G kk:=by
 refine(?_:eqU (.loc p) (.loc p') G kk);exact⟨.list [],.list [],.lst (by unfold lsG;rw[g]) .nil,.lst (by unfold lsG;rw[g']) .nil,⟨rfl,by decide⟩,⟨rfl,by decide⟩,q⟩
def jjF {r:List Ent}{a:Int}(hw:Wk ss r a a)(hn:r≠[])(rl:r.length<=30)(q:∀G',Sa G G'->Q (.bl true) G'):jab T (k+3) jcq [jac xs ss,.tup [],jcQ r] G Q X:=by
 have r1:1<=r.length:=by cases r with|nil=>exact absurd rfl hn|cons _ _=>simp
 refine⟨rfl,?_⟩;simp! only[jcF,jad,Yad,jcQ,jdM,Yaa];rw[decide_eq_true (show(1:Int)<=(r.length:Int) by omega),decide_eq_true (show(r.length:Int)<=60 by omega)]
 simp! only[jbC];refine⟨by rw[Yaa];exact Yah rl (by decide),?_⟩
 refine jaD (λu=>match u with|.tup [.int x,.int y]=>.tup [.int (eS ss (x.toNat,y)),.int (eD ss (x.toNat,y))]|u=>u) trivial (λu hu K hK=>?_) ?_
 ·obtain⟨e,he,rfl⟩:=List.mem_map.mp hu;simp! only[];exact jjG (hw.all e he) hK
 intro p1 G1 n1;have e1:[]++(r.map eu).map (λu=>match u with|.tup [.int x,.int y]=>U.tup [.int (eS ss (x.toNat,y)),.int (eD ss (x.toNat,y))]|u=>u)=r.map λe=>U.tup [.int (eS ss e),.int (eD ss e)]:=by
  rw[Ya8,YaW];rfl
 rw[e1]at n1;simp! only[jbB];refine jlU n1.at ?_;rw[if_neg (by decide)]
 simp! only[jbA,jfh n1.at,Yaa];refine⟨by omega,by omega,by rw[jal];exact Yah (show((r.length:Int)).toNat<=30 by omega) (by decide),?_⟩
 refine jak (λ_ acc G'=>acc=[]/\G'=G1) ?_ ?_ ⟨rfl,rfl⟩
 ·rintro acc G' ⟨rfl,rfl⟩;refine⟨trivial,λp2 G2 n2=>⟨by decide,λp3 G3 n3=>?_⟩⟩
  exact jiF (n3.sa _ _ n2.at) n3.at (q G3 ((n1.sa.trans n2.sa).trans n3.sa))
 ·rintro i x acc G' K hx ⟨rfl,rfl⟩ _ hkn;obtain⟨hi,rfl⟩:=jaI hx;have hi:i<r.length:=by omega
  obtain⟨e,he⟩:∃e,r[i]?=some e:=⟨_,Yab hi⟩;obtain⟨e0,h0,hd⟩:∃e0,atI (r.map λe=>U.tup [.int (eS ss e),.int (eD ss e)]) ((i:Int)-1)=some (U.tup [.int (eS ss e0),.int (eD ss e0)])/\eD ss e0=eS ss e:=by
   cases i with
   |zero=>
    rcases snoc r with z|⟨r',e0,z⟩
    ·exact absurd z hn
    ·refine⟨e0,?_,?_⟩
     ·refine(jbT _ r _).trans ?_;rw[z];unfold atI;rw[show ixN (r'++[e0]).length (((0:Nat):Int)-1)=some r'.length by unfold ixN;simp;omega]
      simp
     ·rw[z]at hw;rw[hw.last.2.2];exact(hw.first (by rw[<- z];exact he)).symm
   |succ j=>
    have hj:j<r.length:=by omega
    refine⟨r[j],?_,hw.next (Yab hj) he⟩
    rw[show((j+1:Nat):Int)-1=(j:Int) by omega]
    exact atM (f:=λe=>U.tup [.int (eS ss e),.int (eD ss e)]) (Yab hj)
  refine⟨trivial,?_⟩;simp! only[ix_l n1.at h0,ix_t (jay _ _ _),ix_l n1.at (atM (f:=λe=>U.tup [.int (eS ss e),.int (eD ss e)]) he),ix_t (jaG _ _),hd];exact hkn _ ⟨rfl,rfl⟩
end

section
variable {k:Nat}{G:Gp}{Q:K1}{X:KX}{xs:List Str}{ss:List Spn}{ws:Wn}{P:Int}{W:Nat}{b:List Int}
def jkw {i:Nat}{s:Spn}(es:ss[i]?=some s)(p1:1<=P):Kw ss P (winO P ss) b i↔s.lo+(bt b s.t-bt b s.o-s.lo)%P<=endZ P s:=by
 have ew:(winO P ss)[i]?=some (s.lo,endZ P s):=by unfold winO;rw[Yal,es];rfl
 have dm:=Ydg (bt b s.t-bt b s.o-s.lo) P;have g0:=Ybg (bt b s.t-bt b s.o-s.lo) (show P≠0 by omega)
 unfold Kw;rw[getW ew,eS_1 es,eD_1 es];dsimp only;constructor
 ·rintro⟨l,h1,h2,d⟩;have e:(l-s.lo)%P=(bt b s.t-bt b s.o-s.lo)%P:=by
   refine Int.emod_eq_emod_iff_emod_sub_eq_zero.mpr (Int.emod_eq_zero_of_dvd ?_);rw[show l-s.lo-(bt b s.t-bt b s.o-s.lo)=bt b s.o+l-bt b s.t by omega]
   exact d
  have m1:=Ydg (l-s.lo) P;have m2:=Int.mul_nonneg (show 0<=P by omega) (Int.ediv_nonneg (show 0<=l-s.lo by omega) (show 0<=P by omega))
  rw[e]at m1;omega
 ·intro h;refine⟨_,by omega,h,-((bt b s.t-bt b s.o-s.lo)/P),?_⟩
  rw[Int.mul_neg];omega
def jgG (p1:1<=P):jbh P ss b=true↔∀i,i<ss.length->Kw ss P (winO P ss) b i:=by
 have one:∀s:Spn,kpt P b s=true↔s.lo+(bt b s.t-bt b s.o-s.lo)%P<=endZ P s:=λs=>by
  have g1:=Ya2 (b.getD s.t 0-b.getD s.o 0-s.lo) (show 0<P by omega)
  unfold kpt gapZ topZ endZ bt;rw[decide_eq_true_eq,Ybc,Ybc];by_cases c:s.w = "span"
  ·rw[if_pos c];constructor
   ·intro h;split<;>omega
   ·intro h;split at h<;>omega
  ·rw[if_neg c];constructor
   ·intro h;split<;>omega
   ·intro h;split at h<;>omega
 unfold jbh;rw[YcX];constructor
 ·intro h i hi;have es:ss[i]?=some ss[i]:=Yab hi;exact(jkw es p1).mpr ((one _).mp (h _ (Ybo hi)))
 ·intro h s hs;obtain⟨i,hi,e⟩:=YaC hs;have es:ss[i]?=some s:=by rw[Yab hi,e]
  exact(one s).mpr ((jkw es p1).mp (h i hi))
def jlP (so:∀s∈ss,s.Ok W)(sl:ss.length<=24)(q:∀G',Sa G G'->Q (wsU (winO P ss)) G'):jab T (k+2) jcp [jac xs ss,.int P] G Q X:=by
 refine⟨rfl,?_⟩;simp! only[jcE,jad,Yad,jac,ix_t (jay _ _ _)];refine⟨by rw[Yaa];exact Yah sl (by decide),?_⟩
 refine jak (λi acc G'=>G'=G/\acc=(winO P (ss.take i)).map wu) ?_ ?_ ⟨rfl,rfl⟩
 ·rintro acc G' ⟨rfl,rfl⟩;rw[Yaa,Yaz];refine⟨trivial,λp G1 n1=>?_⟩;dsimp only;rw[it_l n1.at];exact q G1 n1.sa
 ·rintro i x acc G' K hx ⟨rfl,rfl⟩ hk _;rw[Yal]at hx;cases es:ss[i]? with
  |none=>rw[es]at hx;cases hx
  |some s=>
   rw[es]at hx;cases hx;refine⟨trivial,?_⟩;simp! only[];show ixU (.tup [.str s.w,.int s.o,.int s.t,.int s.lo,.int s.hi]) _ _ _;rw[ix_t (show atI [U.str s.w,.int s.o,.int s.t,.int s.lo,.int s.hi] 3=some (.int s.lo)from rfl)];refine jn4 (k:=k) (so s (Yam es)) ⟨by decide,hk _ _ ⟨rfl,?_⟩⟩
   unfold winO;rw[YaL,es,Yap,Yap];rfl
def jjE {r:List Ent}{bu:U}(wl:ws.length=ss.length)(hr:∀e∈r,EOk ss e)(q:Q (.tup [.int (sLo ws r),.int (sHi ws r)]) G):jab T (k+1) jeh [bu,wsU ws,jcQ r] G Q X:=by
 refine⟨rfl,?_⟩;simp! only[jeq,jad,Yad,jcW,jcQ];refine jar (λi ς G'=>∃(o5:Option U),ς=[some bu,some (wsU ws),some (.tup (r.map eu)),some (.int (sLo ws (r.take i))),some (.int (sHi ws (r.take i))),o5]/\G'=G) ?_ ?_ ⟨_,rfl,rfl⟩
 ·rintro ς G' ⟨o5,rfl,rfl⟩;rw[Yaa,Yaz];refine⟨trivial,?_⟩;simp! only[jcV];exact⟨by decide,q⟩
 ·rintro i x ς G' K hx ⟨o5,rfl,rfl⟩ hk;rw[Yal]at hx;cases ee:r[i]? with
  |none=>rw[ee]at hx;cases hx
  |some e=>
   rw[ee]at hx;cases hx;have ok:=hr e (Yam ee);have il:e.1<ws.length:=by rw[wl];exact ok.1
   have ew:ws[e.1]?=some ws[e.1]:=Yab il;generalize ws[e.1]=w at ew;have a1:sLo ws (r.take (i+1))=sLo ws (r.take i)+wlo ws e:=by unfold sLo;rw[YaL,ee];simp
   have a2:sHi ws (r.take (i+1))=sHi ws (r.take i)+whi ws e:=by unfold sHi;rw[YaL,ee];simp
   refine⟨trivial,?_⟩;simp! only[eu];rw[if_neg (by decide)]
   simp! only[ix_t (jaG _ _),ix_t (jay _ _ _)];rcases ok.2 with z|z
   ·rw[z,if_pos (by decide)]
    simp! only[ix_t (jaG _ _),wsU,ix_t (atM ew),wu,ix_t (jay _ _ _)];refine hk _ _ ⟨some (eu e),?_,rfl⟩;rw[a1,a2];unfold wlo whi;rw[if_pos z,if_pos z,getW ew,eu,z];rfl
   ·rw[z,if_neg (by decide)]
    simp! only[ix_t (jaG _ _),wsU,ix_t (atM ew),wu,ix_t (jay _ _ _)];refine hk _ _ ⟨some (eu e),?_,rfl⟩;rw[a1,a2];unfold wlo whi;rw[if_neg (by omega),if_neg (by omega),getW ew,eu,z,YfQ,YfQ];rfl
def jjH {lo hi:Int}(p1:1<=P)(p2:P<=600)(q:Q (.bl (decide (hi/P*P<lo))) G):jab T (k+1) jem [.int P,.tup [.int lo,.int hi]] G Q X:=by
 refine⟨rfl,?_⟩;simp! only[jew,jad,Yad];exact⟨trivial,by omega,by omega,.inr (by constructor<;>omega),q⟩
end

section
variable {k:Nat}{G:Gp}{Q:K1}{X:KX}{xs:List Str}{ss:List Spn}{ws:Wn}{P:Int}{W:Nat}
def jmF (ws:Wn):Sml 2 (wsU ws):=Sml.tup λu hu=>by
 obtain⟨w,_,rfl⟩:=List.mem_map.mp hu;exact Sml.tup λv hv=>by
  simp only[YaM,Yaw,or_false]at hv;rcases hv with rfl|rfl<;>exact Sml.int _
def jic {p p':Addr}{us:List U}{n:Nat}{kk:Bool->Prop}(h:∀u∈us,Sml n u)(hn:n<=90)(g:G p=some (.lst us))(g':G p'=some (.lst []))(q:kk us.isEmpty):eqU (.loc p) (.loc p') G kk:=by
 obtain⟨h1,h2,h3⟩:=smls h;refine⟨.list (pds us),.list [],.lst (by unfold lsG;rw[g]) (jgV h1),.lst (by unfold lsG;rw[g']) .nil,⟨h2,by show Ybl (pds us)+1<=100;omega⟩,⟨rfl,by decide⟩,?_⟩
 have:YaI (.list (pds us)) (.list [])=us.isEmpty:=by
  cases us with
  |nil=>rfl
  |cons u r=>
   show YbQ (pd u::pds r) []=false;unfold YbQ;rfl
 rw[this];exact q
def jkl {p:Addr}{us:List U}{u:U}{Q:K1}(g:G p=some (.lst (us++[u])))(q:∀G',Put G p (.lst us) G'->Q u G'):jaL .pop (.loc p) [] G Q:=by
 dsimp only[jaL];unfold popU;dsimp only;rw[g];dsimp only;have e1:(us++[u])[(us++[u]).length-1]?=some u:=by simp
 have e2:(us++[u]).dropLast=us:=by simp
 rw[e1,e2];exact λG' h=>q G' h
def jkz {x:Str}{G:Gp}{Q:K1}:jfn [.str x,.ty "str"] G Q=Q (.bl true) G:=rfl
def jgO {w:Str}{n:Int}{kk:Bool->Prop}(h:(w = "ring" /\ n=2)\/(w = "split" /\ n=5))(q:kk true):inU (.tup [.str w,.int n]) (.tup [.tup [.str "ring",.int 2],.tup [.str "split",.int 5]]) G kk:=by
 have du:∀(x:Str) (i:Int),DU G (.tup [.str x,.int i]) (.tuple [.str x,.int i]):=λx i=>.tup (.cons (.str x) (.cons (.int i) .nil));have sm:∀(x:Str) (i:Int),Sml 1 (.tup [.str x,.int i])->Small (.tuple [.str x,.int i]):=λx i h=>h.small (by decide)
 have s1:Sml 1 (.tup [.str "ring",.int 2]):=Sml.tup λv hv=>by
  simp only[YaM,Yaw,or_false]at hv;rcases hv with rfl|rfl
  ·exact Sml.str (by decide +kernel)
  ·exact Sml.int _
 have s2:Sml 1 (.tup [.str "split",.int 5]):=Sml.tup λv hv=>by
  simp only[YaM,Yaw,or_false]at hv;rcases hv with rfl|rfl
  ·exact Sml.str (by decide +kernel)
  ·exact Sml.int _
 have all:∀e∈[YeI [.str "ring",.int 2],.tuple [.str "split",.int 5]],Small e:=λe he=>by
  simp only[YaM,Yaw,or_false]at he;rcases he with rfl|rfl
  ·exact sm _ _ s1
  ·exact sm _ _ s2
 rcases h with⟨rfl,rfl⟩|⟨rfl,rfl⟩
 ·refine⟨_,_,du _ _,.cons (du _ _) (.cons (du _ _) .nil),sm _ _ s1,all,?_⟩;rw[Ybe,YcN _ (sm _ _ s1).1,Ye0];exact q
 ·refine⟨_,_,du _ _,.cons (du _ _) (.cons (du _ _) .nil),sm _ _ s2,all,?_⟩;rw[Ybe,Ybe,YcN _ (sm _ _ s2).1,Ye0,Bool.or_true];exact q
abbrev En3:=U×Wn×Nat
noncomputable def stU (x:En3):U:=.tup [x.1,wsU x.2.1]
def StOk (ss:List Spn)(P:Int)(i:Nat)(x:En3):Prop:=x.2.1.length=ss.length/\∃n,n+i<=71/\Cs ss P n x.2.2 x.2.1 x.1
def jm0 {i:Nat}{x:En3}(h:StOk ss P i x):Sml 75 (stU x):=Sml.tup (n:=74) λu hu=>by
 obtain⟨_,n,hn,hc⟩:=h;simp only[YaM,Yaw,or_false]at hu;rcases hu with rfl|rfl
 ·exact hc.sml.mono (by omega)
 ·exact(jmF _).mono (by decide)
def jkc {s:Nat}{w:Int×Int}(hs:s<ws.length):cut (ws.map wu) none (some (s:Int))++[wu w]++cut (ws.map wu) (some ((s:Int)+1)) none=(ws.set s w).map wu:=by
 have e1:cut (ws.map wu) none (some (s:Int))=(ws.take s).map wu:=by rw[jd6,Ycy]
 have e2:cut (ws.map wu) (some ((s:Int)+1)) none=(ws.drop (s+1)).map wu:=by
  have:=jg0 (ws.map wu) (s+1);rw[YdA];exact this
 rw[e1,e2,Ydz,if_pos hs];simp
def joN {lo hi:Option Int}{us:List U}:(cut us lo hi).length<=us.length:=by
 unfold cut;rw[Ybn,YcW];omega
def jjy {bu:U}{c:U}{m:Nat}(so:∀s∈ss,s.Ok W)(sl:ss.length<=24)(p1:1<=P)(p2:P<=600)(hc:Cs ss P 70 m (winO P ss) c)(q:∀G',Sa G G'->Q .non G'):jab T (k+4) jdD [jac xs ss,.int P,bu,.tup [],c] G Q X:=by
 refine⟨rfl,?_⟩;simp! only[jdV,jad,Yad];refine jlP (k:=k+1) so sl λG1 s1=>⟨by decide,by decide,λpl G2 n2=>?_⟩
 simp! only[jcc];rw[S_wh];have npl:G pl=none:=ja8 s1 n2.no;have frm:∀{Ga Gb:Gp} {u:MO},Sa G Ga->Put Ga pl u Gb->Sa G Gb:=λ{Ga Gb u} s w b z e=>w.sm _ _ (λy=>by rw[y,npl]at e;cases e) (s b z e)
 refine⟨λn ς G'=>∃(st:List En3) (i:Int) (o7 o8 o9 o10 o11 o12:Option U),ς=[some (jac xs ss),some (.int P),some bu,some (.tup []),some c,some (.loc pl),some (.int i),o7,o8,o9,o10,o11,o12]/\n=(st.map (·.2.2)).sum/\Sa G G'/\G' pl=some (.lst (st.map stU))/\∀j x,st[j]?=some x->StOk ss P j x,
  ⟨_,[(c,winO P ss,m)],0,_,_,_,_,_,_,rfl,rfl,s1.trans n2.sa,n2.at,λj x hx=>?_⟩,?_⟩
 ·match j,hx with
  |0,hx=>cases hx;exact⟨Yaa _,70,by decide,hc⟩
  |j+1,hx=>simp at hx
 rintro n ς G3 ⟨st,i,o7,o8,o9,o10,o11,o12,rfl,rfl,s3,g3,hst⟩;simp! only[];refine⟨by decide,λpn G4 n4=>?_⟩
 have g4:=n4.sa _ _ g3;have s4:=s3.trans n4.sa;simp! only[];refine jic (n:=75) (λu hu=>?_) (by decide) g4 n4.at ?_
 ·obtain⟨x,hx,rfl⟩:=List.mem_map.mp hu;obtain⟨j,hj,ej⟩:=YaC hx;exact jm0 (hst j x (by rw[Yab hj,ej]))
 rcases snoc st with rfl|⟨st',x,rfl⟩
 ·rw[if_neg (by simp)]
  simp! only[jcb];exact q G4 s4
 ·rw[if_pos (by simp)]
  rw[Yap]at g4;simp! only[jbm,mt_pop g4];refine jkl g4 λG5 p5=>?_;have g5:=p5.at
  have s5:=frm s4 p5;obtain⟨xl,n',hn',hcx⟩:=hst st'.length x (by simp)
  have hst':∀j y,st'[j]?=some y->StOk ss P j y:=λj y ej=>hst j y (by rw[YaN (List.getElem?_eq_some_iff.mp ej).1];exact ej)
  obtain⟨xc,xw,xm⟩:=x;dsimp only at xl hcx;have msum:((st'++[(xc,xw,xm)]).map (·.2.2)).sum=(st'.map (·.2.2)).sum+xm:=by simp
  rw[msum];show tgU _ (.tup [xc,wsU xw]) _ _;cases hcx with
  |@ring _ _ r a hw hn rl hb=>
   simp! only[];refine⟨trivial,?_⟩;simp! only[jaV,jdM,ix_t (jaG _ _),jkz];rw[if_neg (by decide),if_neg (by decide),if_neg (by decide)]
   simp! only[jaU,ix_t (jaG _ _)];refine⟨by decide,by decide,by decide,by decide,jgO (.inl ⟨rfl,rfl⟩) ?_⟩
   rw[if_neg (by decide)]
   simp! only[jaT,ix_t (jaG _ _)];rw[if_pos (by decide +kernel)]
   simp! only[];rw[ix_t (jay _ _ _)];refine jjF (k:=k) (xs:=xs) hw hn rl λG6 s6=>?_;simp! only[];rw[ix_t (jay _ _ _)];refine jjE (k:=k+2) (ss:=ss) xl hw.all ?_;refine jjH (k:=k+2) p1 p2 ?_;rw[decide_eq_true (show sHi xw r/P*P<sLo xw r from hb)];simp! only[jaS];exact⟨(st'.map (·.2.2)).sum,by omega,st',_,_,_,_,_,_,_,rfl,rfl,s5.trans s6,s6 _ _ g5,hst'⟩
  |@split n1 m1 m2 _ s l h ct c1 c2 ew l1 l2 k1 k2=>
   have il:=(List.getElem?_eq_some_iff.mp ew).1;simp! only[];refine⟨trivial,?_⟩;simp! only[jaV,jdM,ix_t (jaG _ _),jkz];rw[if_neg (by decide),if_neg (by decide),if_neg (by decide)]
   simp! only[jaU,ix_t (jaG _ _)];refine⟨by decide,by decide,by decide,by decide,jgO (.inr ⟨rfl,rfl⟩) ?_⟩
   rw[if_neg (by decide)]
   simp! only[jaT,ix_t (jaG _ _)];rw[if_neg (by decide +kernel)]
   simp! only[];have i3:atI [U.str "split",.int s,.int ct,c1,c2] 3=some c1:=rfl;have i4:atI [U.str "split",.int s,.int ct,c1,c2] 4=some c2:=rfl;rw[ix_t (jay _ _ _),ix_t (jqN _ _ _ _)];refine⟨trivial,?_⟩;simp! only[jac,ix_t (jay _ _ _),Yaa];refine jco (k:=k+2) ?_;rw[decide_eq_true (show(0:Int)<=(s:Int) by omega),decide_eq_true (show(s:Int)<=(ss.length:Int)-1 by omega)]
   simp! only[wsU,ix_t (atM ew)];show tgU _ (.tup [.int l,.int h]) _ _;simp! only[];refine⟨trivial,?_⟩;refine jco (k:=k+2) ?_;rw[decide_eq_true l1,decide_eq_true (show ct<=h-1 by omega)]
   simp! only[jaA g5];rw[ix_t i4,if_neg (by decide)]
   have wl:(xw.map wu).length<=24:=by rw[Yaa,xl];exact sl
   have cl1:=joN (us:=xw.map wu) (lo:=none) (hi:=some (s:Int));have cl2:=joN (us:=xw.map wu) (lo:=some ((s:Int)+1)) (hi:=none);have b1:(cut (xw.map wu) none (some (s:Int))).length+(0+1)<=Yak:=Yah (show _<=30 by omega) (by decide)
   have b2:∀u:U,(cut (xw.map wu) none (some (s:Int))++[u]).length+(cut (xw.map wu) (some ((s:Int)+1)) none).length<=Yak:=λu=>Yah (show _<=60 by rw[YaD,Yc7];omega) (by decide)
   refine⟨by decide,by decide,b1,b2 _,by decide,?_⟩
   rw[show(U.tup [.int (ct+1),.int h])=wu (ct+1,h)from rfl,jkc il,jby g5];refine⟨by rw[Yaa];exact YaF (show st'.length<=71 by omega) (by decide),λG6 p6=>?_⟩
   have g6:=p6.at
   dsimp only;rw[jaA g6];dsimp only;rw[ix_t i3];refine⟨by decide,by decide,b1,b2 _,by decide,?_⟩
   rw[show(U.tup [.int l,.int ct])=wu (l,ct)from rfl,jkc il,jby g6];refine⟨by rw[YaD,Yaa];exact YaF (show _<=72 by simp;omega) (by decide),λG7 p7=>?_⟩
   simp! only[jaS];have n1':n1+1+st'.length<=71:=hn';have e7:(st'.map stU++[U.tup [c2,.tup ((xw.set s (ct+1,h)).map wu)]])++[U.tup [c1,.tup ((xw.set s (l,ct)).map wu)]]=(st'++[(c2,xw.set s (ct+1,h),m2),(c1,xw.set s (l,ct),m1)]).map stU:=by simp[stU,wsU]
   have g7:=p7.at
   rw[e7]at g7;refine⟨(st'.map (·.2.2)).sum+(m2+m1),by omega,st'++[(c2,xw.set s (ct+1,h),m2),(c1,xw.set s (l,ct),m1)],_,_,_,_,_,_,_,rfl,by simp,frm (frm s5 p6) p7,g7,λj y ej=>?_⟩
   by_cases hj:j<st'.length
   ·rw[YaN hj]at ej;exact hst' j y ej
   ·rw[Ybv (by omega)]at ej
    obtain⟨d,hd⟩:∃d,j=st'.length+d:=⟨j-st'.length,by omega⟩
    rw[hd,YeT]at ej
    match d,ej with
    |0,ej=>
     cases ej;exact⟨by show(xw.set s (ct+1,h)).length=_;rw[Ybr];exact xl,n1,by omega,k2⟩
    |1,ej=>
     cases ej;exact⟨by show(xw.set s (l,ct)).length=_;rw[Ybr];exact xl,n1,by omega,k1⟩
    |d+2,ej=>simp at ej
end

def jms {α β:Type}{f:α->List β}{l:List α}{i:Nat}{a:α}(h:l[i]?=some a):(l.take (i+1)).flatMap f=(l.take i).flatMap f++f a:=by
 rw[YaL,h,List.flatMap_append];simp
def joy {fs:List Int}{P w:Nat}{rows:List (List Int)}(hP:1<=P)(h2:P<=600)(hr:rows.length<=300)(i:Nat):((rows.take i).flatMap (rowX fs P w)).length<=180000:=by
 rw[jfq];have h1:(rows.take i).length<=300:=by rw[Ybn];omega
 have h2:=Yah (jlW (fs:=fs) hP w) h2;exact Yah (YeC h1 h2) (by decide)
section
variable {k:Nat}{G:Gp}{Q:K1}{X:KX}{xs:List Str}{ss:List Spn}{P:Int}{bs:List Int}{W:Nat}
def jqy {a:Addr}{zs:List Int}{z:Int}{kk:Bool->Prop}(g:G a=some (.lst (zs.map .int)))(q:kk (decide (z∈zs))):inU (.int z) (.loc a) G kk:=by
 refine in_l g rfl (jbj _) ?_;rw[jdP];exact q
def jgt {b:List Int}{i:Nat}:(YaK (i+1)).map (λ(j:Nat)=>jaq (b++[(j:Int)]))=(YaK i).map (λ(j:Nat)=>jaq (b++[(j:Int)]))++[U.tup (b.map U.int++[.int i])]:=by
 rw[Yeb,Yap];simp[jaq]
def ji1 {K:Sg->Gp->Prop}{D:En}{u0:Option U}{p2 pf pl:Addr}{zs:List Int}{rows rl:List (List Int)}{w:Nat}{b:List Int}{G3:Gp}(h1:1<=P)(h2:P<=600)(w8:w<8)(hb:b.length=w)(g2:G3 p2=some (.lst (zs.map .int)))(gf:G3 pf=some (.lst (rows.map jaq)))(gl:G3 pl=some (.lst (rl.map jaq)))(l2:pl≠p2)(lf:pl≠pf)(fr:G pl=none)(s3:Sa G G3)(rb:rl.length<=180000)(hD:D.nx=K)
  (kk:∀(G':Gp),Sa G G'->G' p2=some (.lst (zs.map .int))->G' pf=some (.lst (rows.map jaq))->G' pl=some (.lst ((rl++rowX zs P.toNat w b).map jaq))->K [u0,some (.int P),some (.loc p2),some (.loc pf),some (.int w),some (.loc pl),some (jaq b)] G') :
  jaR T.gs (jab T k) jaQ D [u0,some (.int P),some (.loc p2),some (.loc pf),some (.int w),some (.loc pl),some (jaq b)] G3:=by
 have nb:=jlW (fs:=zs) (P:=P.toNat) (by omega) w
 have fin:newO G3 (.lst ((YaK (nB zs P.toNat w)).map λ(j:Nat)=>jaq (b++[(j:Int)]))) λx G1=>jaL .extend (.loc pl) [x] G1 λ_ G1=>K [u0,some (.int P),some (.loc p2),some (.loc pf),some (.int w),some (.loc pl),some (jaq b)] G1:=λp9 G4 n4=>by
  dsimp only;rw[joA (n4.sa _ _ gl) n4.at];refine⟨by rw[Yaa,Yaa,YbW];exact Yah (show _<=180600 by omega) (by decide),λG5 p5=>?_⟩
  refine kk G5 (λc u e=>p5.sm _ _ (λz=>by rw[z,fr]at e;cases e) (n4.sa _ _ (s3 _ _ e))) (p5.sm _ _ (Ne.symm l2) (n4.sa _ _ g2)) (p5.sm _ _ (Ne.symm lf) (n4.sa _ _ gf)) ?_
  rw[Yap,rowX,YaW];exact p5.at
 simp! only[jaQ,jkt gl];refine jqy g2 ?_;by_cases c:(w:Int)∈zs
 ·have e:nB zs P.toNat w=((1:Int)).toNat:=by unfold nB;rw[if_pos c];rfl
  rw[e]at fin;rw[if_pos (decide_eq_true c)];refine⟨by decide,by decide,by decide,?_⟩
  refine jak (λi acc G'=>G'=G3/\acc=(YaK i).map λ(j:Nat)=>jaq (b++[(j:Int)])) ?_ ?_ ⟨rfl,rfl⟩
  ·rintro acc G4 ⟨rfl,rfl⟩;rw[jal,hD];exact⟨trivial,fin⟩
  ·rintro i x acc G4 K4 hx ⟨rfl,rfl⟩ hk _;obtain⟨hi,rfl⟩:=jaI hx;refine⟨trivial,?_⟩;simp! only[jaq];refine⟨by decide,by rw[Yaa];exact Yah (show b.length+_<=9 by omega) (by decide),?_⟩
   refine hk _ _ ⟨rfl,jgt.symm⟩
 ·have e:nB zs P.toNat w=P.toNat:=by unfold nB;rw[if_neg c]
  rw[e]at fin;rw[if_neg (by rw[decide_eq_false c];decide)]
  refine⟨by omega,by omega,by rw[jal];exact Yah (show P.toNat<=600 by omega) (by decide),?_⟩
  refine jak (λi acc G'=>G'=G3/\acc=(YaK i).map λ(j:Nat)=>jaq (b++[(j:Int)])) ?_ ?_ ⟨rfl,rfl⟩
  ·rintro acc G4 ⟨rfl,rfl⟩;rw[jal,hD];exact⟨trivial,fin⟩
  ·rintro i x acc G4 K4 hx ⟨rfl,rfl⟩ hk _;obtain⟨hi,rfl⟩:=jaI hx;refine⟨trivial,?_⟩;simp! only[jaq];refine⟨by decide,by rw[Yaa];exact Yah (show b.length+_<=9 by omega) (by decide),?_⟩
   refine hk _ _ ⟨rfl,jgt.symm⟩
def jiE {α:Type}{f:α->Bool}{l:List α}{i:Nat}{a:α}(h:l[i]?=some a):(l.take (i+1)).filter f=(l.take i).filter f++if f a=true then [a] else []:=by
 rw[YaL,h,Yck];cases e:f a<;>simp[e]
def jkp (w0:0<xs.length)(w8:xs.length<=8)(so:∀s∈ss,s.Ok xs.length)(sl:ss.length<=24)(h1:1<=P)(h2:P<=600)(hR:∀ks:List (List Int),IsP xs.length (edg ss) ks->∀w,w<=xs.length->(jaK (ks.map (·.headD 0)) P.toNat w).length<=300)
  (q:∀(ks:List (List Int)) (p:Addr) (G':Gp),IsP xs.length (edg ss) ks->ks.Pairwise Sl->Sa G G'->G p=none->G' p=some (.lst (((jaK (ks.map (·.headD 0)) P.toNat xs.length).filter (jbh P ss)).map jaq))->Q (.loc p) G'):jab T (k+3) jfe [jac xs ss,.int P] G Q X:=by
 refine⟨rfl,?_⟩;simp! only[jfy,jad,Yad];refine jfa so w8 λp as ks' G1 s1 hs hP hs' kl _=>?_;have q:=q ks';have hR:=hR ks' hP;generalize ezs:ks'.map (·.headD 0)=zs at hR q;have P1:1<=P.toNat:=by omega
 have P3:P.toNat<=600:=by omega
 rw[it_l hs.gp];refine⟨by rw[Yaa,hs.l];exact Yah kl (by decide),?_⟩
 refine jak (λi acc G'=>G'=G1/\acc=(zs.take i).map .int) ?_ ?_ ⟨rfl,rfl⟩
 ·rintro acc G2 ⟨rfl,rfl⟩;have el:zs.length=as.length:=by rw[<- ezs,Yaa,hs.l]
  rw[Yaa,<- el,Yaz];refine⟨by unfold lsG;rw[hs.gp],λp2 G3 n3=>?_⟩
  simp! only[jdw];refine⟨by decide,by decide,λp3 G4 n4=>?_⟩
  simp! only[jdv,jac,ix_t (jaG _ _),Yaa];refine⟨by omega,by omega,?_⟩
  refine jar (λi ς G'=>∃(pf:Addr) (o4 o5 o6:Option U),ς=[some (jac xs ss),some (.int P),some (.loc p2),some (.loc pf),o4,o5,o6]/\Sa G G'/\G' p2=some (.lst (zs.map .int))/\G' pf=some (.lst ((jaK zs P.toNat i).map jaq))) ?_ ?_ ⟨p3,_,_,_,rfl,(s1.trans n3.sa).trans n4.sa,n4.sa _ _ n3.at,n4.at⟩
  ·rintro ς G5 ⟨pf,o4,o5,o6,rfl,s5,g2,gf⟩;rw[jal]at gf;have r3:=hR _ (Yaf _);refine⟨trivial,?_⟩;simp! only[jdu,it_l gf];refine⟨by rw[Yaa];exact Yah r3 (by decide),?_⟩
   refine jak (λi acc G'=>Sa G5 G'/\acc=(((jaK zs P.toNat xs.length).take i).filter (jbh P ss)).map jaq) ?_ ?_ ⟨Sa.refl,rfl⟩
   ·rintro acc G6 ⟨s6,rfl⟩;rw[Yaa,Yaz];refine⟨by unfold lsG;rw[s6 _ _ gf],λp7 G7 n7=>?_⟩
    exact q p7 G7 hP hs' ((s5.trans s6).trans n7.sa) (ja8 (s5.trans s6) n7.no) n7.at
   ·rintro i x acc G6 K6 hx ⟨s6,rfl⟩ hk hn;rw[Yal]at hx;cases es:(jaK zs P.toNat xs.length)[i]? with
    |none=>rw[es]at hx;cases hx
    |some b=>
     rw[es]at hx;have hx:=(Yao hx).symm;subst hx;have bl:=(jct.mp (Yam es)).1;have ft:=jiE (f:=jbh P ss) es;refine⟨by unfold lsG;rw[s6 _ _ gf],?_⟩
     simp! only[];refine jfk (by omega) bl so sl λG7 s7=>?_
     cases c:jbh P ss b with
     |true=>
      rw[c,if_pos rfl]at ft;rw[if_pos rfl];exact hk _ _ ⟨s6.trans s7,by rw[ft,Yap];rfl⟩
     |false=>
      rw[c,if_neg (by decide),YcA]at ft
      rw[if_neg (by decide)]
      exact hn _ ⟨s6.trans s7,by rw[ft]⟩
  ·rintro w x ς G5 K hx ⟨pf,o4,o5,o6,rfl,s5,g2,gf⟩ hk;obtain⟨hw,rfl⟩:=jaI hx;have r3:=hR w (by omega)
   refine⟨trivial,?_⟩;simp! only[jbY];refine⟨by decide,λpl G6 n6=>?_⟩
   have fr:G pl=none:=ja8 s5 n6.no;have l2:pl≠p2:=ja0 g2 n6.no;have lf:pl≠pf:=ja0 gf n6.no;have gf6:=n6.sa _ _ gf;simp! only[it_l gf6];refine jar (λj ς G'=>∃o6:Option U,ς=[some (jac xs ss),some (.int P),some (.loc p2),some (.loc pf),some (.int w),some (.loc pl),o6]/\Sa G G'/\G' p2=some (.lst (zs.map .int))/\G' pf=some (.lst ((jaK zs P.toNat w).map jaq))/\G' pl=some (.lst ((((jaK zs P.toNat w).take j).flatMap (rowX zs P.toNat w)).map jaq))) ?_ ?_ ⟨_,rfl,s5.trans n6.sa,n6.sa _ _ g2,gf6,n6.at⟩
   ·rintro ς G7 ⟨o6,rfl,s7,g27,gf7,gl7⟩;rw[Yaa,Yaz]at gl7;refine⟨by unfold lsG;rw[gf7],?_⟩
    simp! only[jbX];exact hk _ _ ⟨pl,_,_,_,rfl,s7,g27,gl7⟩
   ·rintro j y ς G7 K7 hy ⟨o6,rfl,s7,g27,gf7,gl7⟩ hk7;rw[Yal]at hy;cases es:(jaK zs P.toNat w)[j]? with
    |none=>rw[es]at hy;cases hy
    |some b=>
     rw[es]at hy;have hy:=(Yao hy).symm;subst hy;have bl:=(jct.mp (Yam es)).1;refine⟨by unfold lsG;rw[gf7],?_⟩
     simp! only[];refine ji1 h1 h2 (by omega) bl g27 gf7 gl7 l2 lf fr s7 (joy P1 P3 r3 j) rfl λG8 s8 g28 gf8 gl8=>hk7 _ _ ⟨_,rfl,s8,g28,gf8,?_⟩
     rw[gl8,jms es]
 ·rintro i x acc G2 K hx ⟨rfl,rfl⟩ hk _;rw[Yal]at hx;cases ea:as[i]? with
  |none=>rw[ea]at hx;cases hx
  |some a=>
   rw[ea]at hx;have hx:=(Yao hx).symm;subst hx;have hi:i<ks'.length:=by rw[<- hs.l];exact(List.getElem?_eq_some_iff.mp ea).1
   have ek:=Yab hi;have ga:=hs.ga i a _ ea ek;have ne:=hP.ne _ (Ybo hi);refine⟨by unfold lsG;rw[hs.gp],?_⟩
   simp! only[];generalize ks'[i]=kp at ga ne ek;cases kp with
   |nil=>exact absurd rfl ne
   |cons z l=>
    rw[ix_l ga (jaG _ _)];have ez:zs[i]?=some z:=by rw[<- ezs,Yal,ek];rfl
    exact hk _ _ ⟨rfl,by rw[YaL,ez,Yap];rfl⟩
end

def pw_le {P:Int}{c W:Nat}(h:P<=c)(hc:c ^ (W-1)<=300):P.toNat ^ (W-1)<=300:=Yah (Nat.pow_le_pow_left (by omega) (W-1)) hc
structure Sok (W:Nat)(s:Spn):Prop where
 ok:s.Ok W
 le:s.w = "span" -> s.lo<=s.hi
section
variable {k:Nat}{G:Gp}{Q:K1}{X:KX}{xs:List Str}{ss:List Spn}{P:Int}{bs:List Int}{W:Nat}{f c:Addr}
def jjB (hf:Fd G f c)(q:∀(W:Nat) (P m:Int) (G':Gp),1<=W->W<=8->1<=P->P<=300->P.toNat ^ (W-1)<=300->1<=m->m<=24->Fd G' f c->Sm f G G'->Q (.tup [.int W,.int P,.int m]) G'):jab T (k+2) jdF [.loc f] G Q X:=by
 refine⟨rfl,?_⟩;simp! only[jdY,jad,Yad];refine jae hf (by decide) (by decide) λr G1 a1 b1 f1 s1=>?_
 simp! only[];by_cases hr:0<r
 ·rw[if_pos (by simpa using hr)]
  simp! only[];refine⟨by decide,λp G2 n2=>jae (f1.new n2) (by decide) (by decide) λr3 G3 a3 b3 f3 s3=>?_⟩
  refine jcz [2,3,3,4,2,1] (s3 _ _ (f1.away n2).1 n2.at) a3 b3 λz hz=>?_;simp! only[];refine⟨by decide,λp4 G4 n4=>?_⟩
  have S4:Sm f G G4:=((s1.nw n2).trans s3).nw n4;have f4:=f3.new n4
  suffices h:∃(W d:Nat),z=W/\1<=W/\W<=8/\atI [U.int 12,.int 24,.int 6,.int 3] (z-1)=some (.int d)/\0<d/\d<=300/\d ^ (W-1)<=300 by
   obtain⟨W,d,rfl,w1,w8,ha,d0,d1,dp⟩:=h;dsimp only;rw[ix_l n4.at ha];refine jae f4 (by omega) (by omega) λr5 G5 a5 b5 f5 s5=>⟨by decide,?_⟩
   exact q W (1+r5) 5 _ w1 w8 (by omega) (by omega) (pw_le (c:=d) (by omega) dp) (by decide) (by decide) f5 (S4.trans s5)
  simp only[YaM,Yaw,or_false]at hz;rcases hz with rfl|rfl|rfl|rfl|rfl|rfl
  ·exact⟨2,24,rfl,by decide,by decide,jat (j:=1) rfl,by decide,by decide,by decide⟩
  ·exact⟨3,6,rfl,by decide,by decide,jat (j:=2) rfl,by decide,by decide,by decide⟩
  ·exact⟨3,6,rfl,by decide,by decide,jat (j:=2) rfl,by decide,by decide,by decide⟩
  ·exact⟨4,3,rfl,by decide,by decide,jat (j:=3) rfl,by decide,by decide,by decide⟩
  ·exact⟨2,24,rfl,by decide,by decide,jat (j:=1) rfl,by decide,by decide,by decide⟩
  ·exact⟨1,12,rfl,by decide,by decide,jat (j:=0) rfl,by decide,by decide,by decide⟩
 ·rw[if_neg (by simpa using hr)]
  simp! only[];refine jae f1 (by decide) (by decide) λr2 G2 a2 b2 f2 s2=>?_
  simp! only[];refine⟨by decide,λp3 G3 n3=>?_⟩
  have S3:Sm f G G3:=(s1.trans s2).nw n3
  suffices h:∃(W d:Nat),2+r2=W/\1<=W/\W<=8/\atI [U.int 300,.int 17,.int 6,.int 4,.int 3,.int 2,.int 2] (2+r2-2)=some (.int d)/\0<d/\d<=300/\d ^ (W-1)<=300 by
   obtain⟨W,d,hW,w1,w8,ha,d0,d1,dp⟩:=h;dsimp only;rw[ix_l n3.at ha];refine jae (f2.new n3) (by omega) (by omega) λr5 G5 a5 b5 f5 s5=>?_
   simp! only[];refine⟨by decide,λp6 G6 n6=>jae (f5.new n6) (by decide) (by decide) λr7 G7 a7 b7 f7 s7=>?_⟩
   refine jcz [5,12,24] (s7 _ _ (f5.away n6).1 n6.at) a7 b7 λm hm=>?_;have hm':1<=m/\m<=24:=by simp only[YaM,Yaw,or_false]at hm;omega
   rw[hW];exact⟨by decide,q W (1+r5) m _ w1 w8 (by omega) (by omega) (pw_le (c:=d) (by omega) dp) hm'.1 hm'.2 f7 (((S3.trans s5).nw n6).trans s7)⟩
  rcases(show r2=0\/r2=1\/r2=2\/r2=3\/r2=4\/r2=5\/r2=6 by omega)with rfl|rfl|rfl|rfl|rfl|rfl|rfl
  ·exact⟨2,300,rfl,by decide,by decide,jat (j:=0) rfl,by decide,by decide,by decide⟩
  ·exact⟨3,17,rfl,by decide,by decide,jat (j:=1) rfl,by decide,by decide,by decide⟩
  ·exact⟨4,6,rfl,by decide,by decide,jat (j:=2) rfl,by decide,by decide,by decide⟩
  ·exact⟨5,4,rfl,by decide,by decide,jat (j:=3) rfl,by decide,by decide,by decide⟩
  ·exact⟨6,3,rfl,by decide,by decide,jat (j:=4) rfl,by decide,by decide,by decide⟩
  ·exact⟨7,2,rfl,by decide,by decide,jat (j:=5) rfl,by decide,by decide,by decide⟩
  ·exact⟨8,2,rfl,by decide,by decide,jat (j:=6) rfl,by decide,by decide,by decide⟩
noncomputable def nm8:List Str:=["a", "ab", "b", "ba", "abc", "z", "n", "at"]
def jn5:∀x∈nm8,Nm x:=by
 have h:∀x∈nm8,x.length<=8/\∀c∈x.cps.toList,c<128:=by decide +kernel
 exact λx hx=>⟨(h x hx).1,(h x hx).2⟩
def jjA {m:Int}(hf:Fd G f c)(h1:1<=P)(h2:P<=300)(w0:0<W)(w8:W<=8)(m0:1<=m)(m1:m<=24)
  (q:∀(xs:List Str) (ss:List Spn) (G':Gp),xs.length=W->(∀x∈xs,Nm x)->ss≠[]->ss.length<=24->(∀s∈ss,Sok W s)->Fd G' f c->Sm f G G'->Q (jac xs ss) G'):jab T (k+4) jdE [.loc f,.int W,.int m,.int P] G Q X:=by
 refine⟨rfl,?_⟩;simp! only[jdX,jad,Yad];refine⟨by omega,by omega,by rw[jal];exact Yah w8 (by decide),?_⟩
 refine jak (λi acc G'=>Fd G' f c/\Sm f G G'/\∃bs:List Int,acc=bs.map .int/\bs.length=i) ?_ ?_ ⟨hf,Sm.refl,[],rfl,rfl⟩
 ·rintro acc G1 ⟨f1,s1,bs,rfl,hl⟩;rw[jal]at hl;refine⟨trivial,λpb G2 n2=>?_⟩;simp! only[];refine⟨by decide,λp5 G3 n3=>?_⟩
  have f2:=f1.new n2;have hb:=f1.away n2;have h5:=f2.away n3;have s2:=s1.nw n2;refine jae (f2.new n3) (by omega) (by omega) λm' G4 a4 b4 f4 s4=>?_
  have hb5:p5≠pb:=ja0 n2.at n3.no;simp! only[];refine⟨by omega,by omega,?_⟩
  refine jar (λi ς G'=>∃(ss:List Spn) (o6 o7 o8 o9:Option U),ς=[some (.loc f),some (.int W),some (.int m),some (.int P),some (.loc pb),some (.loc p5),o6,o7,o8,o9]/\Fd G' f c/\Sm f G G'/\G' pb=some (.lst (bs.map .int))/\G' p5=some (.lst (ss.map Spn.u))/\ss.length=i/\∀s∈ss,Sok W s) ?_ ?_
   ⟨[],_,_,_,_,rfl,f4,(s2.nw n3).trans s4,s4 _ _ hb.1 (n3.sa _ _ n2.at),s4 _ _ h5.1 n3.at,rfl,λ_ h=>(nomatch h)⟩
  ·rintro ς G5 ⟨ss,o6,o7,o8,o9,rfl,f5,s5,gb,g5,l5,o5⟩;rw[jal]at l5;refine⟨trivial,?_⟩;simp! only[jcd,it_l g5];refine⟨by decide,by decide,?_⟩
   have e:cut [U.str "a",.str "ab",.str "b",.str "ba",.str "abc",.str "z",.str "n",.str "at"] none (some (W:Int))=(nm8.take W).map .str:=by
    rw[jd6,Ycy];rfl
   rw[e];exact q _ ss _ (by rw[Ybn];exact Nat.min_eq_left w8) (λx hx=>jn5 x (Yb7 hx)) (λz=>by rw[z]at l5;simp at l5;omega) (by omega) o5 f5 s5
  ·rintro i x ς G5 K hx ⟨ss,o6,o7,o8,o9,rfl,f5,s5,gb,g5,l5,o5⟩ hk;obtain⟨hi,rfl⟩:=jaI hx;refine⟨trivial,?_⟩;simp! only[];refine jae f5 (by decide) (by decide) λway G6 a6 b6 f6 s6=>?_
   refine jbI f6 h1 (by omega) λlo G7 a7 b7 f7 s7=>?_
   refine jae f7 (by omega) (by omega) λr8 G8 a8 b8 f8 s8=>?_
   have S8:=s6.trans (s7.trans s8);have g8:=S8 _ _ h5.1 g5;simp! only[jbn];refine⟨by omega,?_⟩
   obtain⟨t,ht⟩:∃t:Nat,((i:Int)+1+r8)%(W:Int)=t:=⟨_,(YaB (Ybg _ (by omega))).choose_spec⟩
   have ht':(t:Int)<W:=by rw[<- ht];exact Ya2 _ (by omega)
   obtain⟨o,ho⟩:∃o:Nat,(i:Int)%(W:Int)=o:=⟨_,(YaB (Ybg _ (by omega))).choose_spec⟩
   have ho':(o:Int)<W:=by rw[<- ho];exact Ya2 _ (by omega)
   rw[ht];have add:∀(s:Spn) (G9:Gp) (o8':Option U),Sok W s->Fd G9 f c->Sm f G8 G9->jaL .append (.loc p5) [s.u] G9 λ_ G1=>K [some (.loc f),some (.int W),some (.int m),some (.int P),some (.loc pb),some (.loc p5),some (.int i),some (.int way),some (.int lo),some (.int t)] G1:=λs G9 _ os f9 s9=>by
    have g9:=s9 _ _ h5.1 g8;rw[jby g9];refine⟨by rw[Yaa];exact Yau (show ss.length<25 by omega) (by decide),λGa pa=>?_⟩
    refine hk _ _ ⟨ss++[s],_,_,_,_,rfl,f9.off h5 pa,Sm.wr s2 n3.no (s5.trans (S8.trans s9)) pa,pa.sm _ _ (Ne.symm hb5) (s9 _ _ hb.1 (S8 _ _ hb.1 gb)),by rw[Yap];exact pa.at,by simp[l5],λz hz=>?_⟩
    rcases List.mem_append.mp hz with z'|z'
    ·exact o5 z z'
    ·rw[List.mem_singleton.mp z'];exact os
   by_cases c1:way<3
   ·rw[if_pos (by simpa using c1)]
    simp! only[jaA g8];exact jeg f8 h1 (by omega) (S8 _ _ hb.1 gb) hb.1 hl w0 w8 λs G9 os os' f9 s9=>add s G9 none ⟨os,os'⟩ f9 s9
   ·rw[if_neg (by simpa using c1)]
    simp! only[];by_cases c2:way<5
    ·rw[if_pos (by simpa using c2)]
     simp! only[jaA g8];refine⟨by omega,by decide,by decide,jae f8 (by omega) (by omega) λr9 G9 a9 b9 f9 s9=>⟨by decide,?_⟩⟩
     rw[ho];exact add ⟨"span",o,t,lo,lo+r9⟩ G9 none ⟨⟨.inr rfl,by dsimp only;omega,by dsimp only;omega,by dsimp only;omega,by dsimp only;omega⟩,λ_=>by dsimp only;omega⟩ f9 s9
    ·rw[if_neg (by simpa using c2)]
     simp! only[jaA g8];refine⟨by omega,jbI f8 h1 (by omega) λhi' G9 a9 b9 f9 s9=>⟨by decide,?_⟩⟩
     rw[ho];exact add ⟨"apart",t,o,lo,hi'⟩ G9 none ⟨⟨.inl rfl,by dsimp only;omega,by dsimp only;omega,by dsimp only;omega,by dsimp only;omega⟩,λz=>absurd (show("apart" : Str) = "span" from z) (by decide +kernel)⟩ f9 s9
 ·rintro i x acc G1 K hx ⟨f1,s1,bs,rfl,hl⟩ hk _;exact⟨trivial,jae f1 (by omega) (by omega) λr G2 a2 b2 f2 s2=>hk _ _ ⟨f2,s1.trans s2,bs++[r],by simp,by simp[hl]⟩⟩
def jn3 (hf:Fd G f c)(h1:1<=P)(h2:P<=300)(sl:ss.length<=24)(so:∀s∈ss,Sok W s)(q:∀(ss':List Spn) (G':Gp),ss'.length=ss.length->(∀s∈ss',Sok W s)->Fd G' f c->Sm f G G'->Q (jac xs ss') G'):jab T (k+2) jfd [.loc f,jac xs ss,.int P] G Q X:=by
 refine⟨rfl,?_⟩;simp! only[jfx,jad,Yad];refine⟨by decide,λp G1 n1=>?_⟩
 have hp:=hf.away n1;simp! only[jac,ix_t (jay _ _ _)];refine jar (λi ς G'=>∃(ss':List Spn) (o4 o5 o6 o7 o8 o9:Option U),ς=[some (.loc f),some (jac xs ss),some (.int P),some (.loc p),o4,o5,o6,o7,o8,o9]/\Fd G' f c/\Sm f G G'/\G' p=some (.lst (ss'.map Spn.u))/\ss'.length=i/\∀s∈ss',Sok W s) ?_ ?_ ⟨[],_,_,_,_,_,_,rfl,hf.new n1,n1.sa.sm,n1.at,rfl,λ_ h=>(nomatch h)⟩
 ·rintro ς G2 ⟨ss',o4,o5,o6,o7,o8,o9,rfl,f2,s2,g2,l2,k2⟩;rw[Yaa]at l2;refine⟨trivial,?_⟩;simp! only[jac,ix_t (jaG _ _),it_l g2];exact⟨by decide,q ss' _ l2 k2 f2 s2⟩
 ·rintro i x ς G2 K hx ⟨ss',o4,o5,o6,o7,o8,o9,rfl,f2,s2,g2,l2,k2⟩ hk;rw[Yal]at hx;cases es:ss[i]? with
  |none=>rw[es]at hx;cases hx
  |some s=>
   rw[es]at hx;have hx:=(Yao hx).symm;subst hx;have il:i<24:=Yau (List.getElem?_eq_some_iff.mp es).1 sl;have os:=so s (Yam es);have w:=os.ok.w;have lo:=os.ok.lo;have hi:=os.ok.hi;refine⟨trivial,?_⟩;rw[show s.u=.tup [.str s.w,.int s.o,.int s.t,.int s.lo,.int s.hi]from rfl];simp! only[];refine⟨trivial,?_⟩;have add:∀(by':Int) (G9:Gp),Sok W ⟨s.w,s.o,s.t,s.lo+by',s.hi+by'⟩->Fd G9 f c->Sm f G2 G9->jaL .append (.loc p) [.tup [.str s.w,.int s.o,.int s.t,.int (s.lo+by'),.int (s.hi+by')]] G9 λ_ G1=>K [some (.loc f),some (jac xs ss),some (.int P),some (.loc p),some (.str s.w),some (.int s.o),some (.int s.t),some (.int s.lo),some (.int s.hi),some (.int by')] G1:=λby' G9 os9 f9 s9=>by
    have g9:=s9 _ _ hp.1 g2;rw[jby g9];refine⟨by rw[Yaa];exact Yau (show ss'.length<25 by omega) (by decide),λGa pa=>?_⟩
    refine hk _ _ ⟨ss'++[⟨s.w,s.o,s.t,s.lo+by',s.hi+by'⟩],_,_,_,_,_,_,rfl,f9.off hp pa,Sm.wr Sm.refl n1.no (s2.trans s9) pa,by rw[Yap];exact pa.at,by simp[l2],λz hz=>?_⟩
    rcases List.mem_append.mp hz with z'|z'
    ·exact k2 z z'
    ·rw[List.mem_singleton.mp z'];exact os9
   by_cases c1:s.w = "span"
   ·rw[if_pos (by simpa using c1)]
    have d0:0<=(9999-s.hi)/P:=Int.ediv_nonneg (by omega) (by omega)
    have d1:P*((9999-s.hi)/P)<=9999-s.hi:=Int.mul_ediv_self_le (by omega)
    have d2:(9999-s.hi)/P<=9999:=by
     have:=YdS h1 d0;omega
    simp! only[];refine⟨by omega,by omega,jae f2 (by omega) (by omega) λr G3 a3 b3 f3 s3=>⟨.inl (by constructor<;>omega),?_⟩⟩
    have g3:=s3 _ _ hp.1 g2;have e0:0<=P*r:=Int.mul_nonneg (by omega) a3
    have e1:P*r<=P*((9999-s.hi)/P):=Int.mul_le_mul_of_nonneg_left (by omega) (by omega)
    have le:=os.le c1;simp! only[jaA g3];exact⟨by decide,add (P*r) G3 ⟨⟨w,os.ok.o,os.ok.t,by dsimp only;omega,by dsimp only;omega⟩,λ_=>by dsimp only;omega⟩ f3 s3⟩
   ·rw[if_neg (by simpa using c1)]
    simp! only[jaA g2];exact⟨by decide,add 0 G2 ⟨⟨w,os.ok.o,os.ok.t,by dsimp only;omega,by dsimp only;omega⟩,λz=>absurd z c1⟩ f2 Sm.refl⟩
def je9 (hf:Fd G f c)(q:∀(xs:List Str) (ss:List Spn) (P:Int) (G':Gp),1<=xs.length->xs.length<=8->1<=P->P<=300->P.toNat ^ (xs.length-1)<=300->(∀x∈xs,Nm x)->ss≠[]->ss.length<=24->(∀s∈ss,Sok xs.length s)->Fd G' f c->Sm f G G'->Q (.tup [jac xs ss,.int P]) G'):jab T (k+5) jbK [.loc f] G Q X:=by
 refine⟨rfl,?_⟩;simp! only[jbQ,jad,Yad];refine jjB hf λW P m G1 w1 w8 p1 p2 pw m1 m2 f1 s1=>?_;simp! only[];refine⟨trivial,jjA f1 p1 p2 (by omega) w8 m1 m2 λxs ss G2 xl nm ne sl so f2 s2=>?_⟩
 subst xl;simp! only[];refine jae f2 (by decide) (by decide) λr G3 a3 b3 f3 s3=>?_
 simp! only[];by_cases hr:r=0
 ·rw[if_pos (by simpa using hr)]
  simp! only[];refine jn3 (xs:=xs) f3 p1 p2 sl so λss' G4 l4 so4 f4 s4=>⟨by decide,?_⟩
  exact q xs ss' P _ w1 w8 p1 p2 pw nm (λz=>by rw[z]at l4;exact ne (List.length_eq_zero_iff.mp l4.symm)) (by omega) so4 f4 (s1.trans (s2.trans (s3.trans s4)))
 ·rw[if_neg (by simpa using hr)]
  simp! only[];exact⟨by decide,q xs ss P _ w1 w8 p1 p2 pw nm ne sl so f3 (s1.trans (s2.trans s3))⟩
end

section
variable {k:Nat}{G:Gp}{Q:K1}{X:KX}{xs:List Str}{ss:List Spn}{ws:Wn}{P:Int}{W:Nat}
abbrev En4:=U×Nat×Nat
noncomputable def dpU (x:En4):U:=.tup [x.1,.int x.2.1]
def DpOk (ss:List Spn)(P:Int)(i:Nat)(x:En4):Prop:=∃n ws,n+i<=71/\n+x.2.1<=71/\Cs ss P n x.2.2 ws x.1
def jjK {c:U}{m:Nat}(hc:Cs ss P 70 m ws c)(q:∀(z:Int) (G':Gp),z<=100->Sa G G'->Q (.int z) G'):jab T (k+1) jdI [c] G Q X:=by
 refine⟨rfl,?_⟩;simp! only[jd4,jad,Yad];refine⟨by decide,by decide,λpl G2 n2=>?_⟩
 simp! only[jcl];rw[S_wh];have frm:∀{Ga Gb:Gp} {u:MO},Sa G Ga->Put Ga pl u Gb->Sa G Gb:=λ{Ga Gb u} s w b z e=>w.sm _ _ (λy=>by rw[y,n2.no]at e;cases e) (s b z e)
 refine⟨λn ς G'=>∃(st:List En4) (i:Int) (o3 o4:Option U),ς=[some c,some (.loc pl),some (.int i),o3,o4]/\n=(st.map (·.2.2)).sum/\i<=100/\Sa G G'/\G' pl=some (.lst (st.map dpU))/\∀j x,st[j]?=some x->DpOk ss P j x,
  ⟨_,[(c,1,m)],0,_,_,rfl,rfl,by decide,n2.sa,n2.at,λj x hx=>?_⟩,?_⟩
 ·match j,hx with
  |0,hx=>cases hx;exact⟨70,ws,by decide,by show 70+1<=71;decide,hc⟩
  |j+1,hx=>simp at hx
 rintro n ς G3 ⟨st,i,o3,o4,rfl,rfl,i1,s3,g3,hst⟩;simp! only[];refine⟨by decide,λpn G4 n4=>?_⟩
 have g4:=n4.sa _ _ g3;have s4:=s3.trans n4.sa;simp! only[];refine jic (n:=75) (λu hu=>?_) (by decide) g4 n4.at ?_
 ·obtain⟨x,hx,rfl⟩:=List.mem_map.mp hu;obtain⟨j,hj,ej⟩:=YaC hx;obtain⟨n',ws',h1,h2,h3⟩:=hst j x (by rw[Yab hj,ej])
  refine Sml.tup (n:=74) λu hu=>?_;simp only[YaM,Yaw,or_false]at hu;rcases hu with rfl|rfl
  ·exact h3.sml.mono (by omega)
  ·exact(Sml.int _).mono (by decide)
 rcases snoc st with rfl|⟨st',x,rfl⟩
 ·rw[if_neg (by simp)]
  simp! only[jck];exact q i G4 i1 s4
 ·rw[if_pos (by simp)]
  rw[Yap]at g4;simp! only[jbs,mt_pop g4];refine jkl g4 λG5 p5=>?_;have g5:=p5.at
  have s5:=frm s4 p5;obtain⟨n',ws',hn1,hn2,hcx⟩:=hst st'.length x (by simp)
  have hst':∀j y,st'[j]?=some y->DpOk ss P j y:=λj y ej=>hst j y (by rw[YaN (List.getElem?_eq_some_iff.mp ej).1];exact ej)
  obtain⟨xc,xd,xm⟩:=x;dsimp only at hn1 hn2 hcx;have msum:((st'++[(xc,xd,xm)]).map (·.2.2)).sum=(st'.map (·.2.2)).sum+xm:=by simp
  rw[msum];show tgU _ (.tup [xc,.int xd]) _ _;have mx:(if (xd:Int)>i then (xd:Int) else i)<=100:=by split<;>omega
  cases hcx with
  |@ring _ _ r a hw hn rl hb=>
   simp! only[];refine⟨trivial,?_⟩;simp! only[jaY];simp! only[jaX,ix_t (jaG _ _)];rw[if_neg (by decide +kernel)]
   exact⟨(st'.map (·.2.2)).sum,by omega,st',_,_,_,rfl,rfl,mx,s5,g5,hst'⟩
  |@split n1 m1 m2 _ s l h ct c1 c2 ew l1 l2 k1 k2=>
   have i3:atI [U.str "split",.int s,.int ct,c1,c2] 3=some c1:=rfl;have i4:atI [U.str "split",.int s,.int ct,c1,c2] 4=some c2:=rfl;simp! only[];refine⟨trivial,?_⟩;simp! only[jaY];simp! only[jaX,ix_t (jaG _ _)];rw[if_pos (by decide +kernel)]
   simp! only[jaA g5];rw[ix_t i3];refine⟨by decide,?_⟩
   rw[jby g5];refine⟨by rw[Yaa];exact YaF (show st'.length<=71 by omega) (by decide),λG6 p6=>?_⟩
   have g6:=p6.at
   dsimp only;rw[jaA g6];dsimp only;rw[ix_t i4];refine⟨by decide,?_⟩
   rw[jby g6];refine⟨by rw[YaD,Yaa];exact YaF (show _<=72 by simp;omega) (by decide),λG7 p7=>?_⟩
   have e7:(st'.map dpU++[U.tup [c1,.int ((xd:Int)+1)]])++[U.tup [c2,.int ((xd:Int)+1)]]=(st'++[(c1,xd+1,m1),(c2,xd+1,m2)]).map dpU:=by simp[dpU]
   have g7:=p7.at
   rw[e7]at g7;refine⟨(st'.map (·.2.2)).sum+(m1+m2),by omega,st'++[(c1,xd+1,m1),(c2,xd+1,m2)],_,_,_,rfl,by simp,mx,frm (frm s5 p6) p7,g7,λj y ej=>?_⟩
   by_cases hj:j<st'.length
   ·rw[YaN hj]at ej;exact hst' j y ej
   ·rw[Ybv (by omega)]at ej
    obtain⟨d,hd⟩:∃d,j=st'.length+d:=⟨j-st'.length,by omega⟩
    rw[hd,YeT]at ej
    match d,ej with
    |0,ej=>cases ej;exact⟨n1,_,by omega,by show n1+(xd+1)<=71;omega,k1⟩
    |1,ej=>cases ej;exact⟨n1,_,by omega,by show n1+(xd+1)<=71;omega,k2⟩
    |d+2,ej=>simp at ej
end
def jj0 {G:Gp}{p:Addr}{n:Nat}{kk:Bool->Prop}(g:G p=some (.lst (Yad n (.bl true))))(q:kk false):inU (.bl false) (.loc p) G kk:=by
 refine in_l g rfl (by simp[List.all_replicate,flat]) ?_
 have:((Yad n (U.bl true)).any λy=>eqF y (.bl false))=false:=by simp[List.any_replicate,eqF]
 rw[this];exact q
def jjO (l:List Int):Sml 1 (jaq l):=Sml.tup λu hu=>by
 obtain⟨z,_,rfl⟩:=List.mem_map.mp hu;exact Sml.int z
def jj8 {P:Int}{W:Nat}{es:List (Int×Int)}{ks:List (List Int)}{b:List Int}(hP:IsP W es ks):∃g:List Int,g.length=W/\Begun P ks b g:=by
 have ex:∀x:Nat,∃v,∀p∈ks,(x:Int)∈p->v=(b.getD x 0-b.getD (p.headD 0).toNat 0)%P:=λx=>by
  by_cases h:∃p∈ks,(x:Int)∈p
  ·obtain⟨p,hp,hx⟩:=h;exact⟨(b.getD x 0-b.getD (p.headD 0).toNat 0)%P,λp' hp' hx'=>by rw[hP.un p hp p' hp' _ hx hx']⟩
  ·exact⟨0,λp hp hx=>absurd ⟨p,hp,hx⟩ h⟩
 obtain⟨f,hf⟩:∃f:Nat->Int,∀x:Nat,∀p∈ks,(x:Int)∈p->f x=(b.getD x 0-b.getD (p.headD 0).toNat 0)%P:=⟨λx=>YeZ (ex x),λx=>Yes (ex x)⟩;refine⟨(YaK W).map f,by simp,λp hp x hx=>?_⟩
 have bd:=hP.bd p hp x hx;obtain⟨n,rfl⟩:=YaB bd.1;have:((YaK W).map f).getD n 0=f n:=by simp[YaS,show n<W by omega]
 rw[Ybc,this];exact hf n p hp hx

structure Dn (xs:List Str)(ss:List Spn)(P:Int):Prop where
 w0:0<xs.length
 w8:xs.length<=8
 nm:∀x∈xs,Nm x
 sl:ss.length<=24
 so:∀s∈ss,s.Ok xs.length
 p1:1<=P
 p2:P<=600
 pw:∀ps:List (List Int),IsP xs.length (edg ss) ps->P.toNat ^ (xs.length-ps.length)<=300
 hR:∀ks:List (List Int),IsP xs.length (edg ss) ks->∀w,w<=xs.length->(jaK (ks.map (·.headD 0)) P.toNat w).length<=300
section
variable {k:Nat}{G:Gp}{Q:K1}{X:KX}{xs:List Str}{ss:List Spn}{P:Int}
def jjC (h:Dn xs ss P)(q:∀G',Sa G G'->Q (.bl true) G'):jab T (k+77) jdG [jac xs ss,.int P] G Q X:=by
 refine⟨rfl,?_⟩;have w0:=h.w0;have w8:=h.w8;have wl:(winO P ss).length=ss.length:=Yaa _;obtain⟨z0,hz⟩:∃z:Str,∀(G:Gp) (Q:K1),Q (.str z) G->jfO [jac xs ss] G Q:=⟨_,λG Q q=>jng (jmo h.w8 h.nm h.sl h.so) (by decide) (by decide) q⟩
 simp! only[jdZ,jad,Yad];refine hz _ _ ?_;simp! only[jcg];have sm:∀F:List (List Int),∀u∈F.map jaq,Sml 1 u:=λF u hu=>by
  obtain⟨l,_,rfl⟩:=List.mem_map.mp hu;exact jjO l
 refine jjz (k:=k) (xs:=xs) h.so h.sl w0 w8 h.p1 h.p2 h.pw (λcs m G1 s1 hc=>?_) λbs G1 s1 bl bb hk=>?_
 ·simp! only[jbd];refine jkp (k:=k+73) (xs:=xs) w0 w8 h.so h.sl h.p1 h.p2 h.hR λks p G2 hP hS s2 _ g2=>?_;have e:(jaK (ks.map (·.headD 0)) P.toNat xs.length).filter (jbh P ss)=[]:=by
   cases ef:(jaK (ks.map (·.headD 0)) P.toNat xs.length).filter (jbh P ss)with
   |nil=>rfl
   |cons b r=>
    have hb:b∈(jaK (ks.map (·.headD 0)) P.toNat xs.length).filter (jbh P ss):=by rw[ef];exact Yat
    obtain⟨L,hL,hK⟩:=joz wl ((jgG h.p1).mp (Yed.mp hb).2);exact(hc.no h.p1 wl L hL hK).elim
  rw[e]at g2;simp! only[jbc,jdM];rw[if_neg (by decide)]
  simp! only[];rw[if_neg (by decide)]
  simp! only[];refine hz _ _ ?_;refine jib ?_;rw[if_neg (by decide)]
  simp! only[jbb];refine⟨by decide,λp3 G3 n3=>?_⟩
  refine jiF (n3.sa _ _ g2) n3.at ?_;rw[if_pos rfl];simp! only[ix_t (jaG _ _)];rw[if_neg (by decide +kernel)]
  simp! only[jac,ix_t (jaG _ _),Yaa];have isn:∀kk:Bool->Prop,kk true->isU .non .non kk:=λ_ h=>h;refine⟨by decide,by simp,by omega,by omega,Yah (show _<=8 by omega) (by decide),by decide,?_⟩
  rw[ix_t (jay _ _ _)];refine jjy (k:=k+72) (xs:=xs) h.so h.sl h.p1 h.p2 hc λG4 s4=>?_;refine isn _ ?_;rw[if_neg (by decide),ix_t (jay _ _ _)]
  refine jjK (k:=k+75) hc λz G5 hz5 s5=>?_;have fin:=q G5 (s1.trans (s2.trans (n3.sa.trans (s4.trans s5))));simp! only[];rw[decide_eq_true hz5];exact fin
 ·simp! only[jbd];refine jkp (k:=k+73) (xs:=xs) w0 w8 h.so h.sl h.p1 h.p2 h.hR λks p G2 hP hS s2 _ g2=>?_;have kp:jbh P ss bs=true:=(jgG h.p1).mpr hk;have e:(((jaK (ks.map (·.headD 0)) P.toNat xs.length).filter (jbh P ss)).map jaq).isEmpty=false:=by
   obtain⟨g,gl,hb⟩:=jj8 (P:=P) (b:=bs) hP;have:=(jj7 h.p1 hP gl hb).mpr kp;cases ef:(jaK (ks.map (·.headD 0)) P.toNat xs.length).filter (jbh P ss)with
   |nil=>rw[ef]at this;cases this
   |cons b r=>rfl
  simp! only[jbc,jdM];rw[if_neg (by decide)]
  simp! only[];rw[if_neg (by decide)]
  simp! only[];refine hz _ _ ?_;refine jib ?_;rw[if_neg (by decide)]
  simp! only[jbb];refine⟨by decide,λp3 G3 n3=>?_⟩
  simp! only[];refine jic (n:=1) (sm _) (by decide) (n3.sa _ _ g2) n3.at ?_
  rw[e,if_neg (by decide)]
  simp! only[jcf,ix_t (jaG _ _)];rw[if_neg (by decide +kernel),ix_t (jay _ _ _)]
  simp! only[jaq,jdM];rw[if_neg (by decide),ix_t (jay _ _ _)]
  simp! only[jac,ix_t (jaG _ _),Yaa];rw[if_neg (by simp[bl])]
  simp! only[jce];rw[ix_t (jay _ _ _)];simp! only[];refine⟨by rw[Yaa,bl];exact Yah (show xs.length<=8 by omega) (by decide),?_⟩
  refine jaD (λ_=>.bl true) trivial (λu hu K hK=>?_) ?_
  ·obtain⟨b,hb,rfl⟩:=List.mem_map.mp hu;simp! only[];refine jco (k:=k+75) ?_;have:=bb b hb;rw[decide_eq_true this.1,decide_eq_true (show b<=P-1 by omega)]
   exact hK
  intro p6 G6 n6;have e6:[]++(bs.map U.int).map (λ_=>U.bl true)=Yad bs.length (.bl true):=by rw[Ya8,YaW];exact List.map_const' ..
  rw[e6]at n6;refine jj0 n6.at ?_;rw[if_neg (by decide)]
  simp! only[];rw[ix_t (jay _ _ _)];have hp:0<P:=by have:=h.p1;omega
  refine jfk (k:=k+74) (xs:=xs) (bs:=bs) (kk:=λc G1=>Q (.bl c) G1) hp bl h.so h.sl λG7 s7=>?_;rw[kp];exact q G7 (s1.trans (s2.trans (n3.sa.trans (n6.sa.trans s7))))
end

def jja {ss:List Spn}(h:∀s∈ss,s.o=s.t){x y:Int}(c:Con (edg ss) x y):y=x:=by
 refine c.closed (S:=λz=>z=x) (λa b ha e=>?_) rfl;rcases e with e|e
 ·obtain⟨s,hs,es⟩:=List.mem_map.mp e;have:=h s hs;have e1:=congrArg Prod.fst es;have e2:=congrArg Prod.snd es;dsimp only at e1 e2;show b=x;have ha:a=x:=ha;omega
 ·obtain⟨s,hs,es⟩:=List.mem_map.mp e;have:=h s hs;have e1:=congrArg Prod.fst es;have e2:=congrArg Prod.snd es;dsimp only at e1 e2;show b=x;have ha:a=x:=ha;omega
def jg1:∀(W:Nat) (l:List Int),(∀x:Int,0<=x->x<W->x∈l)->W<=l.length
 |0,_,_=>Ybb _
 |W+1,l,h=>by
  have m:=h W (by omega) (by omega)
  have:=jg1 W (l.erase W) λx h0 h1=>(List.mem_erase_of_ne (by omega)).mpr (h x h0 (by omega))
  rw[YeD m]at this;have:0<l.length:=YeU m;omega
def je0 {W:Nat}{ss:List Spn}{ps:List (List Int)}(h:∀s∈ss,s.o=s.t)(hP:IsP W (edg ss) ps){x:Int}(h0:0<=x)(h1:x<W):x∈ps.map (·.headD 0):=by
 obtain⟨p,hp,hx⟩:=hP.al x h0 h1;refine List.mem_map.mpr ⟨p,hp,?_⟩;cases p with
 |nil=>cases hx
 |cons y r=>exact(jja h (hP.co _ hp x hx y (by simp)))
def jgr {fs:List Int}{P:Nat}:∀w:Nat,(∀x:Int,0<=x->x<w->x∈fs)->(jaK fs P w).length=1
 |0,_=>rfl
 |w+1,h=>by
  have m:nB fs P w=1:=by unfold nB;rw[if_pos (h w (by omega) (by omega))]
  show((jaK fs P w).flatMap (rowX fs P w)).length=1;rw[jfq,m,jgr w λx h0 h1=>h x h0 (by omega)]
section
variable {xs:List Str}{ss:List Spn}{P:Int}
def Dn.of (w0:0<xs.length)(w8:xs.length<=8)(nm:∀x∈xs,Nm x)(sl:ss.length<=24)(so:∀s∈ss,s.Ok xs.length)(p1:1<=P)(p2:P<=300)(pw:P.toNat ^ (xs.length-1)<=300):Dn xs ss P:=
 ⟨w0,w8,nm,sl,so,p1,by omega,λps hP=>Yah (Ycx (by omega) (by have:=jgx hP w0;omega)) pw,λks hP w hw=>jjb (jqC hP w0) (by omega) pw hw⟩
def Dn.self (w0:0<xs.length)(w8:xs.length<=8)(nm:∀x∈xs,Nm x)(sl:ss.length<=24)(so:∀s∈ss,s.Ok xs.length)(p1:1<=P)(p2:P<=600)(h:∀s∈ss,s.o=s.t):Dn xs ss P:=by
 refine⟨w0,w8,nm,sl,so,p1,p2,λps hP=>?_,λks hP w hw=>?_⟩
 ·have:=jg1 xs.length (ps.map (·.headD 0)) λx h0 h1=>je0 h hP h0 h1;rw[Yaa]at this;rw[show xs.length-ps.length=0 by omega]
  exact Yah (Ydf (Nat.pow_zero _)) (by decide)
 ·rw[jgr w λx h0 h1=>je0 h hP h0 (by omega)]
  decide

end
abbrev Tr:=List Str×List Spn×Int
noncomputable def tpU (t:Tr):U:=.tup [jac t.1 t.2.1,.int t.2.2]
section
variable {k:Nat}{G:Gp}{Q:K1}{X:KX}{K:Sg->Gp->Prop}{xs:List Str}{ss:List Spn}{P:Int}{a f c pl:Addr}
section
variable {o3:Option U}{ts:List Tr}
def jin (hd:Dn xs ss P)(g:G pl=some (.lst (ts.map tpU)))(hl:ts.length<3)(kk:∀ς G',(∃o3 o4 o5,ς=[some (.loc a),some (.loc f),some (.loc pl),o3,o4,o5])->Put G pl (.lst ((ts++[(xs,ss,P)]).map tpU)) G'->K ς G') :
  jaR T.gs (jab T (k+6)) jcM ⟨K,Q,λx _ G'=>X x G'⟩ [some (.loc a),some (.loc f),some (.loc pl),o3,some (jac xs ss),some (.int P)] G:=by
 simp! only[jcM,jaA g];refine⟨by decide,?_⟩
 rw[jby g];refine⟨by rw[Yaa];exact Yau hl (by decide),λGa pa=>?_⟩
 exact kk _ _ ⟨_,_,_,rfl⟩ (by rw[Yap];exact pa)
def jgI (w0:0<xs.length)(w8:xs.length<=8)(nm:∀x∈xs,Nm x)(sl:ss.length<=24)(so:∀s∈ss,s.Ok xs.length)(p1:1<=P)(p2:P<=300)(pw:P.toNat ^ (xs.length-1)<=300)(hf:Fd G f c)(hp:pl≠f/\pl≠c)(g:G pl=some (.lst (ts.map tpU)))(hl:ts.length<3)
  (kk:∀(t:Tr) ς G1 G',Dn t.1 t.2.1 t.2.2->(∃o3 o4 o5,ς=[some (.loc a),some (.loc f),some (.loc pl),o3,o4,o5])->Fd G1 f c->Put G1 pl (.lst ((ts++[t]).map tpU)) G'->K ς G') :
  jaR T.gs (jab T (k+6)) jcN ⟨K,Q,λx _ G'=>X x G'⟩ [some (.loc a),some (.loc f),some (.loc pl),o3,some (jac xs ss),some (.int P)] G:=by
 simp! only[jcN];refine jae hf (by decide) (by decide) λr G1 a1 b1 f1 s1=>?_
 simp! only[];by_cases hr:r=0
 ·rw[if_pos (by simpa using hr)]
  simp! only[];refine jae f1 (by decide) (by decide) λr2 G2 a2 b2 f2 s2=>?_
  simp! only[jac,ix_t (jaG _ _)];rw[ix_t (jay _ _ _)];simp! only[];refine⟨by rw[Yaa];exact Yah sl (by decide),?_⟩
  refine jak (λi acc G'=>G'=G2/\acc=((ss.take i).map λs=>(⟨s.w,s.o,s.o,s.lo,s.hi⟩:Spn)).map Spn.u) ?_ ?_ ⟨rfl,rfl⟩
  ·rintro acc G' ⟨rfl,rfl⟩;rw[Yaa,Yaz];refine⟨trivial,λp3 G3 n3=>?_⟩;dsimp only;rw[it_l n3.at];have hd:Dn xs (ss.map λs=>(⟨s.w,s.o,s.o,s.lo,s.hi⟩:Spn)) (301+r2):=by
    refine Dn.self w0 w8 nm (by rw[Yaa];exact sl) (λs hs=>?_) (by omega) (by omega) λs hs=>?_
    ·obtain⟨s,hs',rfl⟩:=List.mem_map.mp hs;have:=so s hs';exact⟨this.w,this.o,this.o,this.lo,this.hi⟩
    ·obtain⟨s,hs,rfl⟩:=List.mem_map.mp hs;rfl
   refine⟨by decide,jin (xs:=xs) hd (n3.sa _ _ (s2 _ _ hp.1 (s1 _ _ hp.1 g))) hl λς G' h1 h2=>?_⟩
   exact kk (xs,_,301+r2) ς G3 G' hd h1 (f2.new n3) h2
  ·rintro i x acc G' K' hx ⟨rfl,rfl⟩ hk _;rw[Yal]at hx;cases es:ss[i]? with
   |none=>rw[es]at hx;cases hx
   |some s=>
    rw[es]at hx;have hx:=(Yao hx).symm;subst hx;refine⟨trivial,?_⟩;rw[show s.u=.tup [.str s.w,.int s.o,.int s.t,.int s.lo,.int s.hi]from rfl];simp! only[];refine⟨trivial,by decide,hk _ _ ⟨rfl,?_⟩⟩
    rw[YaL,es,Yap,Yap];rfl
 ·rw[if_neg (by simpa using hr)]
  have hd:=Dn.of w0 w8 nm sl so p1 p2 pw;simp! only[];refine jin (xs:=xs) hd (s1 _ _ hp.1 g) hl λς G' h1 h2=>?_;exact kk (xs,ss,P) ς G1 G' hd h1 f1 h2
end
def jjU {o3 o4 o5:Option U}{ts:List Tr}(hf:Fd G f c)(hp:pl≠f/\pl≠c)(g:G pl=some (.lst (ts.map tpU)))(hl:ts.length<3)
  (kk:∀(t:Tr) ς G1 G',Dn t.1 t.2.1 t.2.2->(∃o3 o4 o5,ς=[some (.loc a),some (.loc f),some (.loc pl),o3,o4,o5])->Fd G1 f c->Put G1 pl (.lst ((ts++[t]).map tpU)) G'->K ς G') :
  jaR T.gs (jab T (k+6)) jcO ⟨K,Q,λx _ G'=>X x G'⟩ [some (.loc a),some (.loc f),some (.loc pl),o3,o4,o5] G:=by
 simp! only[jcO];refine je9 (k:=k+1) hf λxs ss P G1 w0 w8 p1 p2 pw nm _ sl so f1 s1=>?_;simp! only[];refine⟨trivial,?_⟩;simp! only[jed];refine jae f1 (by decide) (by decide) λr G2 a2 b2 f2 s2=>?_
 have g2:=s2 _ _ hp.1 (s1 _ _ hp.1 g);simp! only[];by_cases hr:r=0
 ·rw[if_pos (by simpa using hr)]
  simp! only[jac,ix_t (jaG _ _),Yaa];refine jlO (k:=k+2) f2 p1 (by omega) (show 0<xs.length by omega) w8 (by decide) (by decide) λxs' ss' G3 xl nm' sl' so' f3 s3=>?_
  refine jgI (by omega) (by omega) nm' sl' (by rw[xl];exact so') p1 p2 (by rw[xl];exact pw) f3 hp (s3 _ _ hp.1 g2) hl kk
 ·rw[if_neg (by simpa using hr)]
  exact jgI (by omega) w8 nm sl (λs hs=>(so s hs).ok) p1 p2 pw f2 hp g2 hl kk
end
def law_ir (a:Addr)(ns:List Int)(hl:ns.length<=63):jab T 300 jlV [.loc a] (G0 a ns) (λu _=>u=.bl true) λ_ _=>False:=by
 refine⟨rfl,?_⟩;simp! only[joM,jad,Yad];refine jlQ (k:=298) (show G0 a ns a=some (.fro (ns.map .int))from if_pos rfl) hl λf c G1 f1=>?_;simp! only[jhI];refine⟨by decide,λpl G2 n2=>?_⟩
 have hp:=f1.away n2;simp! only[jhH];refine⟨by decide,by decide,?_⟩
 refine jar (λi ς G'=>∃(ts:List Tr) (o3 o4 o5:Option U),ς=[some (.loc a),some (.loc f),some (.loc pl),o3,o4,o5]/\Fd G' f c/\G' pl=some (.lst (ts.map tpU))/\ts.length=i/\∀t∈ts,Dn t.1 t.2.1 t.2.2) ?_ ?_ ⟨[],_,_,_,rfl,f1.new n2,n2.at,rfl,λ_ h=>(nomatch h)⟩
 ·rintro ς G3 ⟨ts,o3,o4,o5,rfl,f3,g3,l3,d3⟩;refine⟨trivial,?_⟩;simp! only[jhG];rw[sl_l g3];intro p4 G4 n4;have g4:=n4.sa _ _ g3;rw[show cut (ts.map tpU) none (some 1)=(ts.map tpU).take 1 from jd6 _ 1]at n4;rw[jal]at l3;have l3:ts.length=3:=l3;refine⟨_,_,g4,n4.at,Yah (show _<=6 by simp;omega) (by decide),λp5 G5 n5=>?_⟩
  dsimp only;rw[it_l n5.at];have em:ts.map tpU++(ts.map tpU).take 1=(ts++ts.take 1).map tpU:=by rw[Yap,Ycy]
  have g5:=n5.at
  rw[em]at g5 ⊢;have d5:∀t∈ts++ts.take 1,Dn t.1 t.2.1 t.2.2:=λt ht=>(List.mem_append.mp ht).elim (d3 t) λz=>d3 t (Yb7 z);refine jar (λi ς G'=>(∃o3 o4 o5:Option U,ς=[some (.loc a),some (.loc f),some (.loc pl),o3,o4,o5])/\Sa G5 G') ?_ ?_ ⟨⟨_,_,_,rfl⟩,Sa.refl⟩
  ·rintro ς G6 ⟨⟨o3,o4,o5,rfl⟩,s6⟩;exact⟨by unfold lsG;rw[s6 _ _ g5],trivial⟩
  ·rintro i x ς G6 K hx ⟨⟨o3,o4,o5,rfl⟩,s6⟩ hk;refine⟨by unfold lsG;rw[s6 _ _ g5],?_⟩
   obtain⟨t,ht,rfl⟩:=List.mem_map.mp (Yam hx);rw[show tpU t=.tup [jac t.1 t.2.1,.int t.2.2]from rfl];simp! only[];refine⟨trivial,?_⟩;simp! only[jec];refine jjC (k:=222) (d5 t ht) λG7 s7=>?_;simp! only[];rw[if_neg (by decide)]
   exact hk _ _ ⟨⟨_,_,_,rfl⟩,s6.trans s7⟩
 ·rintro i x ς G3 K hx ⟨ts,o3,o4,o5,rfl,f3,g3,l3,d3⟩ hk;obtain⟨hi,rfl⟩:=jaI hx;refine⟨trivial,?_⟩;simp! only[];refine jjU (k:=293) f3 hp g3 (by omega) λt ς G4 G' ht ⟨o3,o4,o5,es⟩ f4 p4=>hk _ _ ⟨ts++[t],o3,o4,o5,es,f4.off hp p4,p4.at,by simp[l3],λu hu=>?_⟩
  rcases List.mem_append.mp hu with z|z
  ·exact d3 u z
  ·rw[List.mem_singleton.mp z];exact ht

noncomputable def sts:List Stmt:=[s_top_of,s_window_of,s_windows_of,s_with_window,s_ends_of,s_entry_sums,s_sums_of,s_ring_bars,s_entries_to,s_forest_from,s_path_to_root,s_closing_ring,s_closing_rings,s_beats_along,s_parts_of,s_staying,s_size_of,s_refuse_great,s_first_void,s_first_wide,s_halved,s_seek,s_times_or_none_with,s_times_or_none,s_law_feed,s_law_draw,s_law_names,s_law_number,s_law_span,s_law_fitting,s_law_plan,s_law_tight,s_law_end,s_law_lacks,s_law_parts,s_law_all,s_law_windows,s_law_whole,s_law_ends,s_law_is_ring,s_law_sums,s_law_bars,s_law_wrong,s_law_small,s_law_far,s_law_some_plan,s_law_depth,s_law_right,s_law]
def prog_rep:jeF T 0 T.funs sts=true:=by decide +kernel
def prog_eq:je3 T sts 0 T.funs sts:=⟨rfl,rfl,rfl,rfl,rfl,rfl,rfl,rfl,rfl,rfl,rfl,rfl,rfl,rfl,rfl,rfl,rfl,rfl,rfl,rfl,rfl,rfl,rfl,rfl,rfl,rfl,rfl,rfl,rfl,rfl,rfl,rfl,rfl,rfl,rfl,rfl,rfl,rfl,rfl,rfl,rfl,rfl,rfl,rfl,rfl,rfl,rfl,rfl,rfl,trivial⟩
def tabsU:∀t∈tabs,∀t'∈tabs,t.1=t'.1->t=t':=λt h=>(nomatch (show t∈[]from h))
noncomputable def tbs:List (Str×Addr×Addr):=[]
def walk {l:YdL}{q:Program}{loose:List Str}{XP:(Str->Option Value)->Heap->Prop}{YP:World->Heap->Prop}{d:DefRec}{K:Params->Yac}(hn:l.most=some 63)(hdf:d.params.defaults=[])
  (hY:∀(w:World) (h:Heap),YP w h->(K w.params).In h) (hK:∀w:World,((K w.params).all λp=>p.2.cls != .type "list")=true) (hsy:∀w:World,∃o,(K w.params).lookup Ya1=some o/\o.cls=.type "dict")
  (hT:∀(w:World),∀t∈tbs,(∃dr,(PyProof.Rows.recsOf q).find? (λe=>e.name==t.1)=some dr)/\PySem.W.tabIn (K w.params) t.1=some (t.2.1,t.2.2)/\(K w.params).lookup t.2.2=none)
  (F:∀(w:World) (mg:Str->Option Value) (fa:Addr) (h:Heap),(K w.params).In h->h.Ns YaT mg->mg d.name=some (.ref fa)->
   ∃fd:Ybu,(∀(s:Shared) (u:Value),BindsTo s fd ⟨[u],[]⟩ [("_law_script",u)])/\∀base:Heap,(K w.params).In base->base.Ns YaT mg->BmAt mg base->FnOk l.prog w (K w.params) mg base (CX1 l.prog w) 302 fa fd ["_law_script"] (lSp (K w.params) (jab T 300 jlV))) :
  Yf1 q loose XP YP l.row.toRowW d [] (λf vs=>Yfv f vs):=
 L2.walk_ofT (n:=63) (k:=302) (x := "_law_script") (CX:=λw=>CX1 l.prog w) (sp:=λw=>lSp (K w.params) (jab T 300 jlV)) hK hT hn (by decide) hdf ⟨rfl,by decide,by decide,rfl⟩ hY hsy F (λw _ _ a ns hl hO hS=>law_sp (by decide) hO hS (law_ir a ns hl)) λ_ _ _ _ _ ⟨_,_,_,_,_,_,_,_,_,_,z⟩=>z
end Z
namespace Y
open PySem L2
set_option maxHeartbeats 0
noncomputable def q0:Str := "/claim/cut.py"
noncomputable def q1:Str := "<module>"
noncomputable def q2:Str := "__main__"
noncomputable def q3:Str := "closing_rings"
noncomputable def q4:Str := "windows_of"
noncomputable def q5:Str := "parts_of"
noncomputable def q6:Str := "beatplans.joining"
noncomputable def q7:Str := "ends_of"
noncomputable def q8:Str := "beatplans.rings"
noncomputable def q9:Str := "forest_from"
noncomputable def q10:Str := "beats_along"
noncomputable def q11:Str := "with_window"
noncomputable def q12:Str := "entries_to"
noncomputable def q13:Str := "__init__"
noncomputable def q14:Str := "TooMany.__init__"
noncomputable def q15:Str := "path_to_root"
noncomputable def q16:Str := "beatplans.forests"
noncomputable def q17:Str := "__module__"
noncomputable def q18:Str := "beatplans.errors"
noncomputable def q19:Str := "__firstlineno__"
noncomputable def q20:Str := "__static_attributes__"
noncomputable def q21:Str := "__weakref__"
noncomputable def q22:Str := "__doc__"
noncomputable def q23:Str := "plan"
noncomputable def q24:Str := "forest"
noncomputable def q25:Str := "work"
noncomputable def q26:Str := "path"
noncomputable def q27:Str := "top_of"
noncomputable def q28:Str := "parts"
noncomputable def q29:Str := "placed"
noncomputable def q30:Str := "part"
noncomputable def q31:Str := "entry"
noncomputable def q32:Str := "s"
noncomputable def q33:Str := "way"
noncomputable def q34:Str := "word"
noncomputable def q35:Str := "one"
noncomputable def q36:Str := "other"
noncomputable def q37:Str := "low"
noncomputable def q38:Str := "high"
noncomputable def q39:Str := "sums_of"
noncomputable def q40:Str := "closing_ring"
noncomputable def q41:Str := "window_of"
noncomputable def q42:Str := "__name__"
noncomputable def q43:Str := "beatplans.finding"
noncomputable def q44:Str := "__package__"
noncomputable def q45:Str := "__loader__"
noncomputable def q46:Str := "__spec__"
noncomputable def q47:Str := "__annotations__"
noncomputable def q48:Str := "__builtins__"
noncomputable def q49:Str := "__file__"
noncomputable def q50:Str := "__cached__"
noncomputable def q51:Str := "PlanError"
noncomputable def q52:Str := "TooMany"
noncomputable def q53:Str := "entry_sums"
noncomputable def q54:Str := "ring_bars"
noncomputable def q55:Str := "MOST_SIZE"
noncomputable def q56:Str := "beatplans.plans"
noncomputable def q57:Str := "period"
noncomputable def q58:Str := "__qualname__"
noncomputable def q59:Str := "found"
noncomputable def q60:Str := "self"
noncomputable def q61:Str := "beats"
noncomputable def q62:Str := "lengths"
noncomputable def q63:Str := "nearer"
noncomputable def q64:Str := "windows"
noncomputable def q65:Str := "window"
noncomputable def q66:Str := "roots"
noncomputable def q67:Str := "reached"
noncomputable def q68:Str := "at"
noncomputable def q69:Str := "start"
noncomputable def q70:Str := "apart"
noncomputable def q71:Str := "least"
noncomputable def q72:Str := "most"
noncomputable def q73:Str := "ring"
noncomputable def q74:Str := "_law_end"
noncomputable def q75:Str := "times_or_none_with"
noncomputable def q76:Str := "refuse_great"
noncomputable def q77:Str := "_law_feed"
noncomputable def q78:Str := "law_beatplans_k18_times_or_none"
noncomputable def q79:Str := "_law_sums"
noncomputable def q80:Str := "_law_fitting"
noncomputable def q81:Str := "_law_lacks"
noncomputable def q82:Str := "_law_feed_here"
noncomputable def q83:Str := "_law_plan_here"
noncomputable def q84:Str := "_law_cycle"
noncomputable def q85:Str := "_law_spans"
noncomputable def q86:Str := "_law_word"
noncomputable def q87:Str := "_law_one"
noncomputable def q88:Str := "_law_other"
noncomputable def q89:Str := "_law_low"
noncomputable def q90:Str := "_law_high"
noncomputable def q91:Str := "_law_by"
noncomputable def q92:Str := "times_or_none"
noncomputable def q93:Str := "_law_is_ring"
noncomputable def q94:Str := "first_void"
noncomputable def q95:Str := "_law_span"
noncomputable def q96:Str := "_law_windows"
noncomputable def q97:Str := "size_of"
noncomputable def q98:Str := "_law_small"
noncomputable def q99:Str := "_law_ends"
noncomputable def q100:Str := "staying"
noncomputable def q101:Str := "halved"
noncomputable def q102:Str := "_law_plan"
noncomputable def q103:Str := "_law_parts"
noncomputable def q104:Str := "_law_far"
noncomputable def q105:Str := "_law_script"
noncomputable def q106:Str := "_law_beats"
noncomputable def q107:Str := "_law_windows_here"
noncomputable def q108:Str := "_law_ring"
noncomputable def q109:Str := "_law_least"
noncomputable def q110:Str := "_law_most"
noncomputable def q111:Str := "_law_entry"
noncomputable def q112:Str := "_law_names"
noncomputable def q113:Str := "_law_wrong"
noncomputable def q114:Str := "seek"
noncomputable def q115:Str := "first_wide"
noncomputable def q116:Str := "_law_draw"
noncomputable def q117:Str := "_law_number"
noncomputable def q118:Str := "_law_tight"
noncomputable def q119:Str := "_law_all"
noncomputable def q120:Str := "_law_whole"
noncomputable def q121:Str := "_law_bars"
noncomputable def q122:Str := "_law_some_plan"
noncomputable def q123:Str := "cut"
noncomputable def q124:Str := "_law_stays"
noncomputable def q125:Str := "_law_thing"
noncomputable def q126:Str := "_law_line"
noncomputable def q127:Str := "_law_at"
noncomputable def q128:Str := "_law_node"
noncomputable def q129:Str := "_law_s"
noncomputable def q130:Str := "_law_cut"
noncomputable def q131:Str := "_law_works"
noncomputable def q132:Str := "_law_wide"
noncomputable def q133:Str := "_law_span_here"
noncomputable def q134:Str := "_law_top"
noncomputable def q135:Str := "rings"
noncomputable def q136:Str := "sides"
noncomputable def q137:Str := "cases"
noncomputable def q138:Str := "side"
noncomputable def q139:Str := "_law_found"
noncomputable def q140:Str := "_law_gap"
noncomputable def q141:Str := "_law_length"
noncomputable def q142:Str := "stays"
noncomputable def q143:Str := "_law_many"
noncomputable def q144:Str := "_law_cell"
noncomputable def q145:Str := "_law_mixed"
noncomputable def q146:Str := "_law_sums_here"
noncomputable def q147:Str := "_law_first"
noncomputable def q148:Str := "_law_last"
noncomputable def q149:Str := "_law_depth"
noncomputable def q150:Str := "law"
noncomputable def q151:Str := "_law_right"
noncomputable def q152:Str := "_law_cases"
noncomputable def q153:Str := "_law_deep"
noncomputable def h0:List Value:=[]
noncomputable def o0:Obj:=sO .none h0
noncomputable def o1:Obj:=kO q0 q1 q1 182 1 0 0 11 false .none .none .none 185
noncomputable def o2:Obj:=rO [(some (.ref 13)),(some (.ref 3)),(some (.ref 3)),none,(some (.str q2 164)),none,(some (.ref 0))]
noncomputable def o3:Obj:=gO q3 q3 (Z.top 18)
noncomputable def o4:Obj:=gO q4 q4 (Z.top 6)
noncomputable def o5:Obj:=fO q5 q5 (Z.top 21) (.str q6 392) 142
noncomputable def o6:Obj:=fO q7 q7 (Z.top 9) (.str q8 273) 78
noncomputable def o7:Obj:=kO q0 q9 q9 340 48 2 3 106 true (.ref 108) (.ref 109) (.ref 110) 351
noncomputable def o8:Obj:=tO [(.type "ValueError")]
noncomputable def o9:Obj:=kO q0 q10 q10 376 78 5 3 130 true (.ref 132) (.ref 133) (.ref 134) 389
noncomputable def o10:Obj:=kO q0 q11 q11 264 17 3 3 66 true (.ref 68) (.ref 69) (.ref 70) 270
noncomputable def o11:Obj:=gO q12 q12 (Z.top 14)
noncomputable def o12:Obj:=gO q13 q14 (jiu (Z.top 2) 0)
noncomputable def o13:Obj:=fO q15 q15 (Z.top 16) (.str q16 323) 118
noncomputable def o14 (P:Params):Obj:=dO (dE P q17 196 (.str q18 187)::dE P q19 200 (.int 2 199)::dE P q20 201 (.ref 22)::dE P q21 203 (.ref 25)::dE P q22 204 .none::[]) 3
noncomputable def o15:Obj:=tO [(.str q23 357),(.str q24 358),(.str q25 359),(.str q26 360)]
noncomputable def o16:Obj:=gO q27 q27 (Z.top 4)
noncomputable def o17:Obj:=tO [(.str q23 397),(.str q28 398),(.str q29 399),(.str q25 400),(.str q30 401)]
noncomputable def o18:Obj:=tO [(.str q23 278),(.str q31 279),(.str q32 280),(.str q33 281),(.str q34 282),(.str q35 283),(.str q36 284),(.str q37 285),(.str q38 286)]
noncomputable def o19 (P:Params):Obj:=dO (dE P q17 214 (.str q18 187)::dE P q19 218 (.int 4 217)::dE P q13 226 (.ref 41)::dE P q20 228 (.ref 42)::dE P q22 229 .none::[]) 2
noncomputable def o20:Obj:=fO q39 q39 (Z.top 11) (.str q8 273) 90
noncomputable def o21:Obj:=kO q0 q40 q40 364 65 3 3 120 true .none .none (.ref 122) 367
noncomputable def o22:Obj:=kO q0 q41 q41 248 12 3 3 54 true (.ref 56) (.ref 57) (.ref 58) 255
noncomputable def o23:Obj:=sO (.type "builtin_function_or_method") [(.builtin "object.__init_subclass__"),(.ref 24)]
noncomputable def g25 (P:Params):List Ycj:=dE P q22 166 .none::dE P q44 167 .none::dE P q45 168 (.builtin "__main__.__loader__#opaque")::dE P q46 169 .none::dE P q47 170 (.ref 6)::dE P q48 171 (.ref 4)::dE P q49 173 (.str q0 172)::dE P q50 174 .none::dE P q51 206 (.ref 24)::dE P q52 231 (.ref 44)::dE P q27 247 (.ref 53)::dE P q41 257 (.ref 60)::dE P q4 263 (.ref 65)::dE P q11 272 (.ref 72)::dE P q7 289 (.ref 79)::dE P q53 303 (.ref 86)::dE P q39 309 (.ref 91)::dE P q54 322 (.ref 98)::dE P q12 339 (.ref 105)::dE P q9 353 (.ref 112)::dE P q15 363 (.ref 119)::dE P q40 369 (.ref 124)::dE P q3 375 (.ref 129)::dE P q10 391 (.ref 136)::dE P q5 404 (.ref 143)::dE P q55 408 (.int 300 407)::[]
noncomputable def o24 (P:Params):Obj:=dO (dE P q42 165 (.str q43 405)::g25 P) 27
noncomputable def o25:Obj:=fO q3 q3 (Z.top 18) (.str q16 323) 128
noncomputable def o26:Obj:=fO q4 q4 (Z.top 6) (.str q56 232) 64
noncomputable def o27:Obj:=kO q0 q54 q54 310 36 5 3 92 true (.ref 94) (.ref 95) (.ref 96) 320
noncomputable def o28:Obj:=kO q0 q52 q52 209 4 0 0 31 false .none .none .none 212
noncomputable def o29:Obj:=tO [(.str q23 237),(.str q57 238),(.str q32 239),(.str q34 240),(.str q35 241),(.str q36 242),(.str q37 243),(.str q38 244)]
noncomputable def o30 (P:Params):Obj:=dO (dE P q17 196 (.str q18 187)::dE P q58 198 (.str q51 197)::dE P q19 200 (.int 2 199)::dE P q20 201 (.ref 22)::[]) 4
noncomputable def o31:Obj:=fO q12 q12 (Z.top 14) (.str q16 323) 104
noncomputable def o32:Obj:=fO q13 q14 (jiu (Z.top 2) 0) (.str q18 187) 40
noncomputable def o33:Obj:=gO q39 q39 (Z.top 11)
noncomputable def o34:Obj:=sO (.type "getset_descriptor") [(.str q21 202),(.ref 24),(.builtin "ExceptionGroup.__weakref__"),.none]
noncomputable def o35:Obj:=tO [(.str q23 328),(.str q25 329),(.str q59 330),(.str q32 331),(.str q34 332),(.str q35 333),(.str q36 334),(.str q37 335),(.str q38 336)]
noncomputable def o36:Obj:=tO [(.str q60 222),(.str q34 223)]
noncomputable def o37:Obj:=kO q0 q53 q53 290 26 3 3 80 true (.ref 82) (.ref 83) (.ref 84) 301
noncomputable def o38:Obj:=gO q15 q15 (Z.top 16)
noncomputable def o39:Obj:=fO q27 q27 (Z.top 4) (.str q56 232) 52
noncomputable def o40:Obj:=rO [(some (.ref 20)),(some (.ref 3)),(some (.ref 17)),none,(some (.str q18 187)),none,(some (.ref 0))]
noncomputable def o41:Obj:=gO q5 q5 (Z.top 21)
noncomputable def o42:Obj:=gO q7 q7 (Z.top 9)
noncomputable def o43:Obj:=sO (.type "super") [(.ref 44),(.ref 44),(.ref 44)]
noncomputable def o44:Obj:=sO (.type "builtin_function_or_method") [(.builtin "type.__prepare__"),(.type "type")]
noncomputable def o45:Obj:=kO q0 q3 q3 370 74 3 3 125 true .none .none (.ref 127) 373
noncomputable def o46:Obj:=kO q0 q4 q4 258 15 2 3 61 true .none .none (.ref 63) 261
noncomputable def o47:Obj:=gO q54 q54 (Z.top 12)
noncomputable def o48:Obj:=sO .none [(.int 6 0),(.int 4 0),(.ref 40)]
noncomputable def o49:Obj:=fO q9 q9 (Z.top 15) (.str q16 323) 111
noncomputable def o50:Obj:=fO q10 q10 (Z.top 19) (.str q16 323) 135
noncomputable def o51:Obj:=fO q11 q11 (Z.top 7) (.str q56 232) 71
noncomputable def o52:Obj:=kO q0 q12 q12 325 40 2 3 99 true (.ref 101) (.ref 102) (.ref 103) 337
noncomputable def o53:Obj:=kO q0 q13 q14 219 6 2 3 35 true (.ref 37) (.ref 38) (.ref 39) 224
noncomputable def o54:Obj:=tO [(.str q23 251),(.str q57 252),(.str q32 253),(.str q37 254)]
noncomputable def o55:Obj:=cO q51 [(.type "ValueError")] [(.ref 24),(.type "ValueError"),(.type "Exception"),(.type "BaseException"),(.type "object")] 23 [(.ref 44)] [(some (.ref 15)),none,(some (.str q51 189)),(some (.str q51 197)),(some (.builtin "ValueError.__new__")),(some (.bool true))]
noncomputable def o56:Obj:=tO [(.str q23 379),(.str q57 380),(.str q61 381),(.str q24 382),(.str q62 383),(.str q59 384),(.str q25 385),(.str q32 386),(.str q33 387),(.str q63 388)]
noncomputable def o57:Obj:=tO [(.str q64 267),(.str q32 268),(.str q65 269)]
noncomputable def o58:Obj:=gO q53 q53 (Z.top 10)
noncomputable def o59:Obj:=kO q0 q27 q27 234 9 3 3 47 true (.ref 49) (.ref 50) (.ref 51) 245
noncomputable def o60:Obj:=kO q0 q51 q51 191 2 0 0 18 false .none .none .none 194
noncomputable def o61:Obj:=tO [(.str q23 343),(.str q66 344),(.str q24 345),(.str q67 346),(.str q68 347),(.str q32 348),(.str q33 349),(.str q69 350)]
noncomputable def o62:Obj:=cO q52 [(.ref 24)] [(.ref 44),(.ref 24),(.type "ValueError"),(.type "Exception"),(.type "BaseException"),(.type "object")] 43 [] [(some (.ref 28)),none,(some (.str q52 207)),(some (.str q52 215)),(some (.builtin "ValueError.__new__")),(some (.bool true))]
noncomputable def o63:Obj:=fO q40 q40 (Z.top 17) (.str q16 323) 123
noncomputable def o64:Obj:=fO q41 q41 (Z.top 5) (.str q56 232) 59
noncomputable def o65:Obj:=tO [(.ref 24)]
noncomputable def h68:List Value:=h0++[(.int 2 0),(.int 0 0),(.ref 20),(.int 4 0),(.int 0 0),(.ref 33),(.int 9 0),(.int 0 0),(.ref 52),(.int 12 0),(.int 0 0),(.ref 59),(.int 15 0),(.int 0 0),(.ref 64),(.int 17 0),(.int 0 0),(.ref 71),(.int 20 0),(.int 0 0),(.ref 78),(.int 26 0),(.int 0 0),(.ref 85),(.int 33 0),(.int 0 0),(.ref 90),(.int 36 0),(.int 0 0),(.ref 97),(.int 40 0),(.int 0 0),(.ref 104),(.int 48 0),(.int 0 0),(.ref 111),(.int 59 0),(.int 0 0),(.ref 118),(.int 65 0),(.int 0 0),(.ref 123),(.int 74 0),(.int 0 0),(.ref 128),(.int 78 0),(.int 0 0),(.ref 135),(.int 85 0),(.int 0 0),(.ref 142)]
noncomputable def o66:Obj:=sO .none h68
noncomputable def o67:Obj:=fO q54 q54 (Z.top 12) (.str q8 273) 97
noncomputable def o68:Obj:=rO [(some (.ref 33)),(some (.ref 3)),(some (.ref 30)),none,(some (.str q18 187)),none,(some (.ref 0))]
noncomputable def o69:Obj:=tO [(.str q61 293),(.str q64 294),(.str q31 295),(.str q70 296),(.str q32 297),(.str q33 298),(.str q71 299),(.str q72 300)]
noncomputable def o70:Obj:=tO [(.str q34 227)]
noncomputable def o71:Obj:=kO q0 q39 q39 304 33 5 3 87 true .none .none (.ref 89) 307
noncomputable def o72:Obj:=gO q40 q40 (Z.top 17)
noncomputable def o73:Obj:=gO q41 q41 (Z.top 5)
noncomputable def o74:Obj:=sO (.type "super") [(.ref 24),(.ref 24),(.ref 24)]
noncomputable def o75:Obj:=gO q10 q10 (Z.top 19)
noncomputable def o76:Obj:=gO q11 q11 (Z.top 7)
noncomputable def o77:Obj:=fO q53 q53 (Z.top 10) (.str q8 273) 85
noncomputable def o78:Obj:=kO q0 q15 q15 354 59 3 3 113 true (.ref 115) (.ref 116) (.ref 117) 361
noncomputable def o79:Obj:=kO q0 q5 q5 394 85 1 3 137 true (.ref 139) (.ref 140) (.ref 141) 402
noncomputable def o80:Obj:=kO q0 q7 q7 275 20 2 3 73 true (.ref 75) (.ref 76) (.ref 77) 287
noncomputable def o81:Obj:=gO q9 q9 (Z.top 15)
noncomputable def o82:Obj:=sO (.type "builtin_function_or_method") [(.builtin "object.__init_subclass__"),(.ref 44)]
noncomputable def o83:Obj:=tO [(.str q23 313),(.str q57 314),(.str q61 315),(.str q64 316),(.str q73 317),(.str q71 318),(.str q72 319)]
noncomputable def o84 (P:Params):Obj:=dO (dE P q17 214 (.str q18 187)::dE P q58 216 (.str q52 215)::dE P q19 218 (.int 4 217)::dE P q13 226 (.ref 41)::dE P q20 228 (.ref 42)::[]) 5
noncomputable def o85:Obj:=gO q74 q74 (Z.top 42)
noncomputable def o86:Obj:=gO q75 q75 (Z.top 31)
noncomputable def o87:Obj:=kO q0 q76 q76 421 104 3 3 154 true (.ref 156) (.ref 157) (.ref 158) 427
noncomputable def o88:Obj:=fO q77 q77 (Z.top 34) (.str q78 497) 206
noncomputable def o89:Obj:=fO q79 q79 (Z.top 50) (.str q78 497) 302
noncomputable def o90:Obj:=kO q0 q80 q80 544 184 3 3 234 true (.ref 236) (.ref 237) (.ref 238) 555
noncomputable def o91:Obj:=kO q0 q81 q81 579 220 3 3 258 true (.ref 260) (.ref 261) (.ref 262) 593
noncomputable def o92:Obj:=tO [(.str q82 688),(.str q83 689),(.str q84 690),(.str q85 691),(.str q86 692),(.str q87 693),(.str q88 694),(.str q89 695),(.str q90 696),(.str q91 697)]
noncomputable def o93:Obj:=kO q0 q92 q92 489 151 2 3 194 true (.ref 196) (.ref 197) (.ref 198) 494
noncomputable def o94:Obj:=kO q0 q93 q93 629 264 3 3 292 true .none .none (.ref 294) 632
noncomputable def o95:Obj:=fO q94 q94 (Z.top 27) (.str q43 405) 166
noncomputable def o96:Obj:=gO q95 q95 (Z.top 38)
noncomputable def o97:Obj:=fO q96 q96 (Z.top 46) (.str q78 497) 278
noncomputable def o98:Obj:=gO q97 q97 (Z.top 25)
noncomputable def o99:Obj:=kO q0 q98 q98 676 313 1 3 318 true (.ref 320) (.ref 321) (.ref 322) 682
noncomputable def o100:Obj:=fO q99 q99 (Z.top 48) (.str q78 497) 290
noncomputable def o101:Obj:=tO [(.str q64 433),(.str q32 434),(.str q71 435),(.str q72 436)]
noncomputable def o102:Obj:=kO q0 q100 q100 409 96 2 3 144 true .none .none (.ref 146) 412
noncomputable def o103:Obj:=gO q101 q101 (Z.top 29)
noncomputable def o104:Obj:=gO q102 q102 (Z.top 40)
noncomputable def o105:Obj:=gO q103 q103 (Z.top 44)
noncomputable def o106:Obj:=fO q104 q104 (Z.top 54) (.str q78 497) 330
noncomputable def o107:Obj:=tO [(.str q105 502)]
noncomputable def o108:Obj:=tO [(.str q106 638),(.str q107 639),(.str q108 640),(.str q109 641),(.str q110 642),(.str q111 643)]
noncomputable def o109:Obj:=fO q112 q112 (Z.top 36) (.str q78 497) 218
noncomputable def o110:Obj:=gO q113 q113 (Z.top 52)
noncomputable def o111:Obj:=kO q0 q114 q114 463 122 6 3 182 true (.ref 184) (.ref 185) (.ref 186) 480
noncomputable def g115 (P:Params):List Ycj:=g25 P++[dE P q100 414 (.ref 148),dE P q97 420 (.ref 153),dE P q76 429 (.ref 160),dE P q94 439 (.ref 167),dE P q115 451 (.ref 174),dE P q101 462 (.ref 181),dE P q114 482 (.ref 188),dE P q75 488 (.ref 193),dE P q92 496 (.ref 200),dE P q77 505 (.ref 207),dE P q116 516 (.ref 214),dE P q112 522 (.ref 219),dE P q117 530 (.ref 226),dE P q95 543 (.ref 233),dE P q80 557 (.ref 240),dE P q102 563 (.ref 245),dE P q118 569 (.ref 250),dE P q74 578 (.ref 257),dE P q81 595 (.ref 264),dE P q103 601 (.ref 269),dE P q119 607 (.ref 274),dE P q96 613 (.ref 279),dE P q120 622 (.ref 286),dE P q99 628 (.ref 291),dE P q93 634 (.ref 296),dE P q79 646 (.ref 303),dE P q121 656 (.ref 310),dE P q113 675 (.ref 317),dE P q98 684 (.ref 324),dE P q104 700 (.ref 331),dE P q122 711 (.ref 338)]
noncomputable def o112 (P:Params):Obj:=dO (dE P q42 165 (.str q78 497)::g115 P) 58
noncomputable def o113:Obj:=fO q74 q74 (Z.top 42) (.str q78 497) 256
noncomputable def o114:Obj:=fO q75 q75 (Z.top 31) (.str q43 405) 192
noncomputable def o115:Obj:=gO q99 q99 (Z.top 48)
noncomputable def o116:Obj:=kO q0 q117 q117 523 175 2 3 220 true (.ref 222) (.ref 223) (.ref 224) 528
noncomputable def o117:Obj:=kO q0 q119 q119 602 238 2 3 270 true .none .none (.ref 272) 605
noncomputable def o118:Obj:=kO q0 q122 q122 701 328 1 3 332 true (.ref 334) (.ref 335) (.ref 336) 709
noncomputable def o119:Obj:=tO [(.str q64 455),(.str q32 456),(.str q71 457),(.str q72 458),(.str q123 459)]
noncomputable def o120:Obj:=gO q104 q104 (Z.top 54)
noncomputable def o121:Obj:=fO q95 q95 (Z.top 38) (.str q78 497) 232
noncomputable def o122:Obj:=fO q97 q97 (Z.top 25) (.str q43 405) 152
noncomputable def o123:Obj:=gO q112 q112 (Z.top 36)
noncomputable def o124:Obj:=tO [(.str q83 660),(.str q84 661),(.str q106 662),(.str q124 663),(.str q125 664),(.str q126 665),(.str q127 666),(.str q128 667),(.str q107 668),(.str q129 669),(.str q130 670),(.str q109 671),(.str q110 672)]
noncomputable def o125:Obj:=kO q0 q118 q118 564 203 4 3 246 true .none .none (.ref 248) 567
noncomputable def o126:Obj:=gO q94 q94 (Z.top 27)
noncomputable def o127:Obj:=tO [(.str q82 534),(.str q131 535),(.str q84 536),(.str q87 537),(.str q88 538),(.str q89 539),(.str q132 540)]
noncomputable def o128:Obj:=gO q96 q96 (Z.top 46)
noncomputable def o129:Obj:=kO q0 q116 q116 506 156 2 3 208 true (.ref 210) (.ref 211) (.ref 212) 514
noncomputable def o130:Obj:=kO q0 q121 q121 647 285 2 3 304 true (.ref 306) (.ref 307) (.ref 308) 654
noncomputable def o131:Obj:=fO q101 q101 (Z.top 29) (.str q43 405) 180
noncomputable def o132:Obj:=fO q102 q102 (Z.top 40) (.str q78 497) 244
noncomputable def o133:Obj:=fO q103 q103 (Z.top 44) (.str q78 497) 268
noncomputable def o134:Obj:=gO q77 q77 (Z.top 34)
noncomputable def o135:Obj:=gO q79 q79 (Z.top 50)
noncomputable def o136:Obj:=kO q0 q115 q115 440 112 2 3 168 true (.ref 170) (.ref 171) (.ref 172) 449
noncomputable def o137:Obj:=kO q0 q120 q120 614 249 3 3 280 true (.ref 282) (.ref 283) (.ref 284) 620
noncomputable def o138:Obj:=fO q113 q113 (Z.top 52) (.str q78 497) 316
noncomputable def o139:Obj:=tO [(.str q84 573),(.str q133 574),(.str q134 575)]
noncomputable def o140:Obj:=kO q0 q74 q74 570 217 2 3 251 true (.ref 253) (.ref 254) (.ref 255) 576
noncomputable def o141:Obj:=tO [(.str q82 679),(.str q131 680),(.str q84 681)]
noncomputable def o142:Obj:=kO q0 q75 q75 483 137 4 3 189 true .none .none (.ref 191) 486
noncomputable def o143:Obj:=fO q76 q76 (Z.top 26) (.str q43 405) 159
noncomputable def o144:Obj:=gO q117 q117 (Z.top 37)
noncomputable def o145:Obj:=gO q119 q119 (Z.top 45)
noncomputable def o146:Obj:=gO q122 q122 (Z.top 55)
noncomputable def o147:Obj:=fO q80 q80 (Z.top 39) (.str q78 497) 239
noncomputable def o148:Obj:=fO q81 q81 (Z.top 43) (.str q78 497) 263
noncomputable def o149:Obj:=fO q92 q92 (Z.top 32) (.str q43 405) 199
noncomputable def o150:Obj:=fO q93 q93 (Z.top 49) (.str q78 497) 295
noncomputable def o151:Obj:=kO q0 q95 q95 531 177 3 3 227 true (.ref 229) (.ref 230) (.ref 231) 541
noncomputable def o152:Obj:=kO q0 q97 q97 415 98 3 3 149 true .none .none (.ref 151) 418
noncomputable def o153:Obj:=tO [(.str q23 466),(.str q57 467),(.str q61 468),(.str q24 469),(.str q135 470),(.str q64 471),(.str q73 472),(.str q32 473),(.str q123 474),(.str q136 475),(.str q137 476),(.str q138 477),(.str q34 478),(.str q59 479)]
noncomputable def o154:Obj:=gO q118 q118 (Z.top 41)
noncomputable def o155:Obj:=tO [(.str q83 582),(.str q84 583),(.str q106 584),(.str q139 585),(.str q129 586),(.str q86 587),(.str q87 588),(.str q88 589),(.str q89 590),(.str q90 591),(.str q140 592)]
noncomputable def o156:Obj:=fO q98 q98 (Z.top 53) (.str q78 497) 323
noncomputable def o157:Obj:=tO [(.str q23 492),(.str q57 493)]
noncomputable def o158:Obj:=fO q100 q100 (Z.top 24) (.str q43 405) 147
noncomputable def o159:Obj:=gO q116 q116 (Z.top 35)
noncomputable def o160:Obj:=gO q121 q121 (Z.top 51)
noncomputable def o161:Obj:=kO q0 q101 q101 452 118 2 3 175 true (.ref 177) (.ref 178) (.ref 179) 460
noncomputable def o162:Obj:=kO q0 q102 q102 558 192 4 3 241 true .none .none (.ref 243) 561
noncomputable def o163:Obj:=kO q0 q103 q103 596 228 1 3 265 true .none .none (.ref 267) 599
noncomputable def o164:Obj:=gO q115 q115 (Z.top 28)
noncomputable def o165:Obj:=tO [(.str q82 547),(.str q106 548),(.str q84 549),(.str q87 550),(.str q88 551),(.str q140 552),(.str q89 553),(.str q141 554)]
noncomputable def o166:Obj:=gO q120 q120 (Z.top 47)
noncomputable def o167:Obj:=tO [(.str q23 424),(.str q57 425),(.str q142 426)]
noncomputable def o168:Obj:=kO q0 q113 q113 657 288 5 3 311 true (.ref 313) (.ref 314) (.ref 315) 673
noncomputable def o169:Obj:=fO q114 q114 (Z.top 30) (.str q43 405) 187
noncomputable def h174:List Value:=h68++[(.int 96 0),(.int 0 0),(.ref 147),(.int 98 0),(.int 0 0),(.ref 152),(.int 104 0),(.int 0 0),(.ref 159),(.int 107 0),(.int 0 0),(.ref 166),(.int 112 0),(.int 0 0),(.ref 173),(.int 118 0),(.int 0 0),(.ref 180),(.int 122 0),(.int 0 0),(.ref 187),(.int 137 0),(.int 0 0),(.ref 192),(.int 151 0),(.int 0 0),(.ref 199),(.int 154 0),(.int 0 0),(.ref 206),(.int 156 0),(.int 0 0),(.ref 213),(.int 169 0),(.int 0 0),(.ref 218),(.int 175 0),(.int 0 0),(.ref 225),(.int 177 0),(.int 0 0),(.ref 232),(.int 184 0),(.int 0 0),(.ref 239),(.int 192 0),(.int 0 0),(.ref 244),(.int 203 0),(.int 0 0),(.ref 249),(.int 217 0),(.int 0 0),(.ref 256),(.int 220 0),(.int 0 0),(.ref 263),(.int 228 0),(.int 0 0),(.ref 268),(.int 238 0),(.int 0 0),(.ref 273),(.int 247 0),(.int 0 0),(.ref 278),(.int 249 0),(.int 0 0),(.ref 285),(.int 251 0),(.int 0 0),(.ref 290),(.int 264 0),(.int 0 0),(.ref 295),(.int 271 0),(.int 0 0),(.ref 302),(.int 285 0),(.int 0 0),(.ref 309),(.int 288 0),(.int 0 0),(.ref 316),(.int 313 0),(.int 0 0),(.ref 323),(.int 320 0),(.int 0 0),(.ref 330),(.int 328 0),(.int 0 0),(.ref 337)]
noncomputable def o170:Obj:=sO .none h174
noncomputable def o171:Obj:=gO q98 q98 (Z.top 53)
noncomputable def o172:Obj:=kO q0 q99 q99 623 251 3 3 287 true .none .none (.ref 289) 626
noncomputable def o173:Obj:=fO q117 q117 (Z.top 37) (.str q78 497) 225
noncomputable def o174:Obj:=fO q119 q119 (Z.top 45) (.str q78 497) 273
noncomputable def o175:Obj:=gO q100 q100 (Z.top 24)
noncomputable def o176:Obj:=fO q122 q122 (Z.top 55) (.str q78 497) 337
noncomputable def o177:Obj:=tO [(.str q82 509),(.str q143 510),(.str q144 511),(.str q145 512),(.str q139 513)]
noncomputable def o178:Obj:=tO [(.str q84 650),(.str q146 651),(.str q109 652),(.str q110 653)]
noncomputable def o179:Obj:=kO q0 q104 q104 685 320 3 3 325 true (.ref 327) (.ref 328) (.ref 329) 698
noncomputable def o180:Obj:=tO [(.str q24 443),(.str q64 444),(.str q32 445),(.str q33 446),(.str q71 447),(.str q72 448)]
noncomputable def o181:Obj:=tO [(.str q125 617),(.str q147 618),(.str q148 619)]
noncomputable def o182:Obj:=kO q0 q112 q112 517 169 2 3 215 true .none .none (.ref 217) 520
noncomputable def o183:Obj:=gO q114 q114 (Z.top 30)
noncomputable def o184:Obj:=fO q118 q118 (Z.top 41) (.str q78 497) 249
noncomputable def o185:Obj:=gO q81 q81 (Z.top 43)
noncomputable def o186:Obj:=gO q92 q92 (Z.top 32)
noncomputable def o187:Obj:=gO q93 q93 (Z.top 49)
noncomputable def o188:Obj:=kO q0 q94 q94 430 107 1 3 161 true (.ref 163) (.ref 164) (.ref 165) 437
noncomputable def o189:Obj:=kO q0 q96 q96 608 247 2 3 275 true .none .none (.ref 277) 611
noncomputable def o190:Obj:=fO q116 q116 (Z.top 35) (.str q78 497) 213
noncomputable def o191:Obj:=fO q121 q121 (Z.top 51) (.str q78 497) 309
noncomputable def o192:Obj:=tO [(.str q82 704),(.str q131 705),(.str q84 706),(.str q110 707),(.str q83 708)]
noncomputable def o193:Obj:=kO q0 q77 q77 499 154 1 3 201 true (.ref 203) (.ref 204) (.ref 205) 503
noncomputable def o194:Obj:=kO q0 q79 q79 635 271 3 3 297 true (.ref 299) (.ref 300) (.ref 301) 644
noncomputable def o195:Obj:=fO q115 q115 (Z.top 28) (.str q43 405) 173
noncomputable def o196:Obj:=gO q80 q80 (Z.top 39)
noncomputable def o197:Obj:=fO q120 q120 (Z.top 47) (.str q78 497) 285
noncomputable def o198:Obj:=gO q76 q76 (Z.top 26)
noncomputable def o199:Obj:=tO [(.str q82 526),(.str q84 527)]
noncomputable def o200:Obj:=gO q149 q149 (Z.top 56)
noncomputable def o201:Obj:=fO q150 q150 (Z.top 58) (.str q78 497) 354
noncomputable def g207 (P:Params):List Ycj:=g115 P++[dE P q149 722 (.ref 345),dE P q151 728 (.ref 350),dE P q150 734 (.ref 355)]
noncomputable def o202 (P:Params):Obj:=dO (dE P q42 165 (.str q78 497)::g207 P) 61
noncomputable def o203:Obj:=gO q150 q150 (Z.top 58)
noncomputable def o204:Obj:=fO q149 q149 (Z.top 56) (.str q78 497) 344
noncomputable def o205:Obj:=tO [(.str q152 715),(.str q126 716),(.str q139 717),(.str q128 718),(.str q153 719)]
noncomputable def o206:Obj:=kO q0 q151 q151 723 344 2 3 346 true .none .none (.ref 348) 726
noncomputable def o207:Obj:=kO q0 q149 q149 712 334 1 3 339 true (.ref 341) (.ref 342) (.ref 343) 720
noncomputable def o208:Obj:=gO q151 q151 (Z.top 57)
noncomputable def h215:List Value:=h174++[(.int 334 0),(.int 0 0),(.ref 344),(.int 344 0),(.int 0 0),(.ref 349),(.int 362 0),(.int 0 0),(.ref 354)]
noncomputable def o209:Obj:=sO .none h215
noncomputable def o210:Obj:=kO q0 q150 q150 729 362 1 3 351 true .none .none (.ref 353) 732
noncomputable def o211:Obj:=fO q151 q151 (Z.top 57) (.str q78 497) 349
noncomputable def Ha (P:Params):Heap:=⟨⟨Yb6 P::YbA P::Yb5 P::Yfh P::Yb4 P::Yb3 P::Yb2 P::Yb1 P::Yb0 P::YbZ P::YbK P::tE::o0::o1::o2::[]⟩,{}⟩
noncomputable def t0 (P:Params):Ycm:=(bN (Yb6 P) (bN (YbA P) (bN (Yfh P) (bL (Yb1 P)) (bL tE)) (bN (Yb3 P) (bL (YbZ P)) (bL o1))) (bN (Yb5 P) (bN (Yb4 P) (bL (Yb0 P)) (bL o0)) (bN (Yb2 P) (bL (YbK P)) (bL o2))))
noncomputable def t1 (P:Params):Ycm:=(bN (Yb6 P) (bN (YbA P) (bN (o24 P) (bN (Yb1 P) (bN o8 (bN tE (bN o4 (bL o3) bE) (bL tE)) (bN tE (bN o6 (bL o5) bE) (bL o7))) (bN (o14 P) (bN o12 (bN o10 (bL o9) bE) (bL o11)) (bN nO (bL tE) (bL o13)))) (bN tE (bN nO (bN tE (bN nO (bL nO) bE) (bL tE)) (bN o16 (bL tE) (bL o15))) (bN o23 (bN (o19 P) (bN o18 (bL o17) bE) (bL nO)) (bN o22 (bL o20) (bL o21))))) (bN (Yb3 P) (bN (YbZ P) (bN (o30 P) (bN o28 (bN o26 (bL o25) bE) (bL o27)) (bN o29 (bL nO) (bL tE))) (bN o34 (bN o32 (bN tE (bL tE) bE) (bL o31)) (bN tE (bL o33) (bL nO)))) (bN o1 (bN o40 (bN o36 (bN tE (bL tE) bE) (bL o35)) (bN o39 (bL o37) (bL o38))) (bN o44 (bN o43 (bN o42 (bL o41) bE) (bL tE)) (bN tE (bL nO) (bL tE)))))) (bN (Yb5 P) (bN (Yb4 P) (bN (Yb0 P) (bN o44 (bN o48 (bN o46 (bL o45) bE) (bL o47)) (bN nO (bL tE) (bL o49))) (bN o55 (bN o53 (bN o51 (bL o50) bE) (bL o52)) (bN o54 (bL nO) (bL tE)))) (bN o66 (bN o60 (bN nO (bN o57 (bL o56) bE) (bL nO)) (bN o59 (bL o58) (bL tE))) (bN o65 (bN o62 (bN tE (bL tE) bE) (bL o61)) (bN o64 (bL tE) (bL o63))))) (bN (Yb2 P) (bN (YbK P) (bN tE (bN o68 (bN tE (bL tE) bE) (bL o67)) (bN tE (bL o69) (bL nO))) (bN o74 (bN o70 (bN nO (bL nO) bE) (bL tE)) (bN o73 (bL o71) (bL o72)))) (bN o2 (bN tE (bN tE (bN o76 (bL o75) bE) (bL tE)) (bN tE (bL o77) (bL o78))) (bN (o84 P) (bN o82 (bN o80 (bL o79) bE) (bL o81)) (bN nO (bL o83) (bL nO)))))))
noncomputable def t2 (P:Params):Ycm:=(bN (Yb6 P) (bN (YbA P) (bN (o112 P) (bN (Yb1 P) (bN o8 (bN tE (bN o4 (bN o3 (bL o85) bE) (bN o86 (bL nO) bE)) (bN tE (bN o87 (bL tE) bE) (bL tE))) (bN tE (bN o6 (bN o5 (bL nO) bE) (bN o88 (bL tE) bE)) (bN o7 (bN tE (bL o89) bE) (bL o90)))) (bN (o14 P) (bN o12 (bN o10 (bN o9 (bL o91) bE) (bN o93 (bL o92) bE)) (bN o11 (bN o95 (bL o94) bE) (bL o96))) (bN nO (bN tE (bN o98 (bL o97) bE) (bL tE)) (bN o13 (bN nO (bL tE) bE) (bL nO))))) (bN tE (bN nO (bN tE (bN nO (bN nO (bL nO) bE) (bN nO (bL o99) bE)) (bN tE (bN o101 (bL o100) bE) (bL tE))) (bN o16 (bN tE (bN o102 (bL tE) bE) (bL tE)) (bN o15 (bN o103 (bL tE) bE) (bL o104)))) (bN o23 (bN (o19 P) (bN o18 (bN o17 (bL o105) bE) (bN o107 (bL o106) bE)) (bN nO (bN tE (bL o108) bE) (bL nO))) (bN o22 (bN o20 (bN nO (bL tE) bE) (bL o109)) (bN o21 (bN o111 (bL o110) bE) (bL tE)))))) (bN (Yb3 P) (bN (YbZ P) (bN (o30 P) (bN o28 (bN o26 (bN o25 (bL o113) bE) (bN o114 (bL tE) bE)) (bN o27 (bN tE (bL o115) bE) (bL o116))) (bN o29 (bN nO (bN nO (bL o117) bE) (bN nO (bL o118) bE)) (bN tE (bN o119 (bL nO) bE) (bL tE)))) (bN o34 (bN o32 (bN tE (bN tE (bL tE) bE) (bN tE (bL o120) bE)) (bN o31 (bN nO (bL tE) bE) (bL o121))) (bN tE (bN o33 (bN o122 (bL nO) bE) (bL o123)) (bN nO (bN tE (bL o124) bE) (bL o125))))) (bN o1 (bN o40 (bN o36 (bN tE (bN tE (bL tE) bE) (bN tE (bL tE) bE)) (bN o35 (bN o126 (bL nO) bE) (bL o127))) (bN o39 (bN o37 (bN tE (bL o128) bE) (bL o129)) (bN o38 (bN o131 (bL o130) bE) (bL o132)))) (bN o44 (bN o43 (bN o42 (bN o41 (bL o133) bE) (bN o134 (bL nO) bE)) (bN tE (bN o136 (bL o135) bE) (bL tE))) (bN tE (bN nO (bN tE (bL o137) bE) (bL nO)) (bN tE (bN tE (bL o138) bE) (bL o139))))))) (bN (Yb5 P) (bN (Yb4 P) (bN (Yb0 P) (bN o44 (bN o48 (bN o46 (bN o45 (bL o140) bE) (bN o142 (bL o141) bE)) (bN o47 (bN o143 (bL nO) bE) (bL o144))) (bN nO (bN tE (bN tE (bL o145) bE) (bN tE (bL o146) bE)) (bN o49 (bN nO (bL tE) bE) (bL o147)))) (bN o55 (bN o53 (bN o51 (bN o50 (bL o148) bE) (bN o149 (bL tE) bE)) (bN o52 (bN tE (bL o150) bE) (bL o151))) (bN o54 (bN nO (bN o152 (bL tE) bE) (bL nO)) (bN tE (bN o153 (bL nO) bE) (bL o154))))) (bN o170 (bN o60 (bN nO (bN o57 (bN o56 (bL o155) bE) (bN o157 (bL o156) bE)) (bN nO (bN tE (bL tE) bE) (bL nO))) (bN o59 (bN o58 (bN o158 (bL nO) bE) (bL o159)) (bN tE (bN o161 (bL o160) bE) (bL o162)))) (bN o65 (bN o62 (bN tE (bN tE (bL o163) bE) (bN tE (bL tE) bE)) (bN o61 (bN o164 (bL tE) bE) (bL o165))) (bN o64 (bN tE (bN o167 (bL o166) bE) (bL tE)) (bN o63 (bN o169 (bL o168) bE) (bL nO)))))) (bN (Yb2 P) (bN (YbK P) (bN tE (bN o68 (bN tE (bN tE (bL tE) bE) (bN tE (bL o171) bE)) (bN o67 (bN nO (bL o172) bE) (bL o173))) (bN tE (bN o69 (bN o175 (bL o174) bE) (bN o177 (bL o176) bE)) (bN nO (bN tE (bL o178) bE) (bL nO)))) (bN o74 (bN o70 (bN nO (bN nO (bL nO) bE) (bN nO (bL o179) bE)) (bN tE (bN o180 (bL nO) bE) (bL tE))) (bN o73 (bN o71 (bN tE (bL o181) bE) (bL o182)) (bN o72 (bN o183 (bL tE) bE) (bL o184))))) (bN o2 (bN tE (bN tE (bN o76 (bN o75 (bL o185) bE) (bN o186 (bL nO) bE)) (bN tE (bN o188 (bL o187) bE) (bL tE))) (bN tE (bN o77 (bN nO (bL o189) bE) (bL o190)) (bN o78 (bN tE (bL o191) bE) (bL tE)))) (bN (o84 P) (bN o82 (bN o80 (bN o79 (bL tE) bE) (bN o193 (bL o192) bE)) (bN o81 (bN o195 (bL o194) bE) (bL o196))) (bN nO (bN o83 (bN o198 (bL o197) bE) (bL o199)) (bN nO (bN nO (bL tE) bE) (bL tE))))))))
noncomputable def t3 (P:Params):Ycm:=(bN (Yb6 P) (bN (YbA P) (bN (o202 P) (bN (Yb1 P) (bN o8 (bN tE (bN o4 (bN o3 (bL o85) bE) (bN o86 (bL nO) bE)) (bN tE (bN o87 (bL tE) bE) (bN tE (bL tE) bE))) (bN tE (bN o6 (bN o5 (bL nO) bE) (bN o88 (bL tE) bE)) (bN o7 (bN tE (bL o89) bE) (bL o90)))) (bN (o14 P) (bN o12 (bN o10 (bN o9 (bL o91) bE) (bN o93 (bL o92) bE)) (bN o11 (bN o95 (bL o94) bE) (bL o96))) (bN nO (bN tE (bN o98 (bL o97) bE) (bN tE (bL o200) bE)) (bN o13 (bN nO (bL tE) bE) (bL nO))))) (bN tE (bN nO (bN tE (bN nO (bN nO (bL nO) bE) (bN nO (bL o99) bE)) (bN tE (bN o101 (bL o100) bE) (bN tE (bL o201) bE))) (bN o16 (bN tE (bN o102 (bL tE) bE) (bN tE (bL tE) bE)) (bN o15 (bN o103 (bL tE) bE) (bL o104)))) (bN o23 (bN (o19 P) (bN o18 (bN o17 (bL o105) bE) (bN o107 (bL o106) bE)) (bN nO (bN tE (bL o108) bE) (bL nO))) (bN o22 (bN o20 (bN nO (bL tE) bE) (bN o109 (bL nO) bE)) (bN o21 (bN o111 (bL o110) bE) (bL tE)))))) (bN (Yb3 P) (bN (YbZ P) (bN (o30 P) (bN o28 (bN o26 (bN o25 (bL o113) bE) (bN o114 (bL tE) bE)) (bN o27 (bN tE (bL o115) bE) (bN o116 (bL o203) bE))) (bN o29 (bN nO (bN nO (bL o117) bE) (bN nO (bL o118) bE)) (bN tE (bN o119 (bL nO) bE) (bL tE)))) (bN o34 (bN o32 (bN tE (bN tE (bL tE) bE) (bN tE (bL o120) bE)) (bN o31 (bN nO (bL tE) bE) (bL o121))) (bN tE (bN o33 (bN o122 (bL nO) bE) (bN o123 (bL o204) bE)) (bN nO (bN tE (bL o124) bE) (bL o125))))) (bN o1 (bN o40 (bN o36 (bN tE (bN tE (bL tE) bE) (bN tE (bL tE) bE)) (bN o35 (bN o126 (bL nO) bE) (bL o127))) (bN o39 (bN o37 (bN tE (bL o128) bE) (bN o129 (bL o205) bE)) (bN o38 (bN o131 (bL o130) bE) (bL o132)))) (bN o44 (bN o43 (bN o42 (bN o41 (bL o133) bE) (bN o134 (bL nO) bE)) (bN tE (bN o136 (bL o135) bE) (bL tE))) (bN tE (bN nO (bN tE (bL o137) bE) (bN nO (bL o206) bE)) (bN tE (bN tE (bL o138) bE) (bL o139))))))) (bN (Yb5 P) (bN (Yb4 P) (bN (Yb0 P) (bN o44 (bN o48 (bN o46 (bN o45 (bL o140) bE) (bN o142 (bL o141) bE)) (bN o47 (bN o143 (bL nO) bE) (bN o144 (bL nO) bE))) (bN nO (bN tE (bN tE (bL o145) bE) (bN tE (bL o146) bE)) (bN o49 (bN nO (bL tE) bE) (bL o147)))) (bN o55 (bN o53 (bN o51 (bN o50 (bL o148) bE) (bN o149 (bL tE) bE)) (bN o52 (bN tE (bL o150) bE) (bL o151))) (bN o54 (bN nO (bN o152 (bL tE) bE) (bN nO (bL o207) bE)) (bN tE (bN o153 (bL nO) bE) (bL o154))))) (bN o209 (bN o60 (bN nO (bN o57 (bN o56 (bL o155) bE) (bN o157 (bL o156) bE)) (bN nO (bN tE (bL tE) bE) (bL nO))) (bN o59 (bN o58 (bN o158 (bL nO) bE) (bN o159 (bL nO) bE)) (bN tE (bN o161 (bL o160) bE) (bL o162)))) (bN o65 (bN o62 (bN tE (bN tE (bL o163) bE) (bN tE (bL tE) bE)) (bN o61 (bN o164 (bL tE) bE) (bL o165))) (bN o64 (bN tE (bN o167 (bL o166) bE) (bN tE (bL o208) bE)) (bN o63 (bN o169 (bL o168) bE) (bL nO)))))) (bN (Yb2 P) (bN (YbK P) (bN tE (bN o68 (bN tE (bN tE (bL tE) bE) (bN tE (bL o171) bE)) (bN o67 (bN nO (bL o172) bE) (bN o173 (bL o210) bE))) (bN tE (bN o69 (bN o175 (bL o174) bE) (bN o177 (bL o176) bE)) (bN nO (bN tE (bL o178) bE) (bL nO)))) (bN o74 (bN o70 (bN nO (bN nO (bL nO) bE) (bN nO (bL o179) bE)) (bN tE (bN o180 (bL nO) bE) (bL tE))) (bN o73 (bN o71 (bN tE (bL o181) bE) (bN o182 (bL tE) bE)) (bN o72 (bN o183 (bL tE) bE) (bL o184))))) (bN o2 (bN tE (bN tE (bN o76 (bN o75 (bL o185) bE) (bN o186 (bL nO) bE)) (bN tE (bN o188 (bL o187) bE) (bL tE))) (bN tE (bN o77 (bN nO (bL o189) bE) (bN o190 (bL tE) bE)) (bN o78 (bN tE (bL o191) bE) (bL tE)))) (bN (o84 P) (bN o82 (bN o80 (bN o79 (bL tE) bE) (bN o193 (bL o192) bE)) (bN o81 (bN o195 (bL o194) bE) (bL o196))) (bN nO (bN o83 (bN o198 (bL o197) bE) (bN o199 (bL o211) bE)) (bN nO (bN nO (bL tE) bE) (bL tE))))))))
noncomputable def Hz (P:Params):Heap:=⟨⟨Yb6 P::YbA P::Yb5 P::o202 P::Yb4 P::Yb3 P::Yb2 P::Yb1 P::Yb0 P::YbZ P::YbK P::tE::o209::o1::o2::o8::o44::o30 P::tE::nO::o60::o40::tE::o14 P::o55::o34::o74::o23::o65::o44::o84 P::tE::o48::o28::o68::tE::nO::o36::tE::o12::o53::o32::o70::o19 P::o62::o43::o82::tE::nO::o29::tE::o16::o59::o39::tE::nO::o54::tE::o73::o22::o64::tE::nO::o4::o46::o26::tE::nO::o57::tE::o76::o10::o51::tE::nO::o18::tE::o42::o80::o6::tE::nO::o69::tE::o58::o37::o77::tE::nO::o33::o71::o20::tE::nO::o83::tE::o47::o27::o67::tE::nO::o35::tE::o11::o52::o31::tE::nO::o61::tE::o81::o7::o49::tE::nO::o15::tE::o38::o78::o13::tE::nO::o72::o21::o63::tE::nO::o3::o45::o25::tE::nO::o56::tE::o75::o9::o50::tE::nO::o17::tE::o41::o79::o5::tE::nO::o175::o102::o158::tE::nO::o98::o152::o122::tE::nO::o167::tE::o198::o87::o143::tE::nO::o101::tE::o126::o188::o95::tE::nO::o180::tE::o164::o136::o195::tE::nO::o119::tE::o103::o161::o131::tE::nO::o153::tE::o183::o111::o169::tE::nO::o86::o142::o114::tE::nO::o157::tE::o186::o93::o149::tE::nO::o107::tE::o134::o193::o88::tE::nO::o177::tE::o159::o129::o190::tE::nO::o123::o182::o109::tE::nO::o199::tE::o144::o116::o173::tE::nO::o127::tE::o96::o151::o121::tE::nO::o165::tE::o196::o90::o147::tE::nO::o104::o162::o132::tE::nO::o154::o125::o184::tE::nO::o139::tE::o85::o140::o113::tE::nO::o155::tE::o185::o91::o148::tE::nO::o105::o163::o133::tE::nO::o145::o117::o174::tE::nO::o128::o189::o97::tE::nO::o181::tE::o166::o137::o197::tE::nO::o115::o172::o100::tE::nO::o187::o94::o150::tE::nO::o108::tE::o135::o194::o89::tE::nO::o178::tE::o160::o130::o191::tE::nO::o124::tE::o110::o168::o138::tE::nO::o141::tE::o171::o99::o156::tE::nO::o92::tE::o120::o179::o106::tE::nO::o192::tE::o146::o118::o176::tE::nO::o205::tE::o200::o207::o204::tE::nO::o208::o206::o211::tE::nO::o203::o210::o201::[]⟩,{}⟩
noncomputable def st1:List Stmt:=[Z.top 0,Z.top 1,Z.top 2,Z.top 3,Z.top 4,Z.top 5,Z.top 6,Z.top 7,Z.top 8,Z.top 9,Z.top 10,Z.top 11,Z.top 12,Z.top 13,Z.top 14,Z.top 15,Z.top 16,Z.top 17,Z.top 18,Z.top 19,Z.top 20,Z.top 21,Z.top 22,Z.top 23]
noncomputable def st2:List Stmt:=[Z.top 24,Z.top 25,Z.top 26,Z.top 27,Z.top 28,Z.top 29,Z.top 30,Z.top 31,Z.top 32,Z.top 33,Z.top 34,Z.top 35,Z.top 36,Z.top 37,Z.top 38,Z.top 39,Z.top 40,Z.top 41,Z.top 42,Z.top 43,Z.top 44,Z.top 45,Z.top 46,Z.top 47,Z.top 48,Z.top 49,Z.top 50,Z.top 51,Z.top 52,Z.top 53,Z.top 54,Z.top 55]
noncomputable def st3:List Stmt:=[Z.top 56,Z.top 57,Z.top 58]
noncomputable def bd:List Stmt:=st1++(st2++(st3++[]))
noncomputable abbrev pw:Program:=PySem.Challenge.pw_beatplans_k18_times_or_none
noncomputable def qw:Program:={ pw with main:={ pw.main with body:=[Z.top 1,Z.top 2,Z.top 4,Z.top 5,Z.top 6,Z.top 7,Z.top 9,Z.top 10,Z.top 11,Z.top 12,Z.top 14,Z.top 15,Z.top 16,Z.top 17,Z.top 18,Z.top 19,Z.top 21,Z.top 23,Z.top 24,Z.top 25,Z.top 26,Z.top 27,Z.top 28,Z.top 29,Z.top 30,Z.top 31,Z.top 32,Z.top 34,Z.top 35,Z.top 36,Z.top 37,Z.top 38,Z.top 39,Z.top 40,Z.top 41,Z.top 42,Z.top 43,Z.top 44,Z.top 45,Z.top 46,Z.top 47,Z.top 48,Z.top 49,Z.top 50,Z.top 51,Z.top 52,Z.top 53,Z.top 54,Z.top 55,Z.top 56,Z.top 57,Z.top 58] } }
noncomputable def en:Env:={ scope:=pw.main.scope,locals:=mainNs,globals:=mainNs,cells:=[],code:=.ref 13,frame:=some 14 }
noncomputable def cE:Code:=.body bd en
noncomputable abbrev pz:Pos:=⟨0,0,0,0⟩
noncomputable abbrev fz:List Frame:=[PySem.W.topFrame pz]
noncomputable abbrev s0 (w:World)(os:OsState):Shared:=⟨YbL w.params,⟨[]⟩,PySem.W.boot_drawn,PySem.W.boot_toks,os⟩
noncomputable abbrev sz (w:World)(os:OsState):Shared:=⟨Hz w.params,⟨[]⟩,{},735,os⟩
noncomputable def sT (t:Params->Ycm)(n k:Nat)(w:World)(os:OsState):PySem.W.SharedT:=⟨t w.params,n,{},⟨[]⟩,{},k,os⟩
section
variable (w:World)(os:OsState)
def jp1:PySem.W.topGo Yc2 pw w 11 (some (.ref 6)) 12 (s0 w os) (Yfw pw)=some (⟨Ha w.params,⟨[]⟩,{},187,os⟩,⟨denote Yc2 cE,cE,pz,fz⟩):=by
 rw[PySem.W.Fast.te15667345088766844465,YaX,PySem.W.Fast.te11892475500146522536];kernel_rfl
def jp3:PySem.W.segRun Yc2 pw w 11 (some (.ref 6)) 1 1 ⟨Ha w.params,⟨[]⟩,{},187,os⟩ (PySem.W.blockOf bd en cE pz fz)=some (.next,(sT t0 15 187 w os).abs,cE,pz):=by
 rw[PySem.W.Fast.te14374325043358763698,YaX];kernel_rfl
def r1:YdJ Yc2 pw w 11 (some (.ref 6)) 1 982 (sT t0 15 187 w os) (YdC st1 en cE pz fz)=some (.next,sT t1 144 409 w os,cE,⟨95,0,95,9⟩):=by
 rw[YbP,YaX];kernel_rfl
def r2:YdJ Yc2 pw w 11 (some (.ref 6)) 1 971 (sT t1 144 409 w os) (YdC st2 en cE ⟨95,0,95,9⟩ fz)=some (.next,sT t2 339 712 w os,cE,⟨328,0,333,39⟩):=by
 rw[YbP,YaX];kernel_rfl
def r3:YdJ Yc2 pw w 11 (some (.ref 6)) 1 86 (sT t2 339 712 w os) (YdC st3 en cE ⟨328,0,333,39⟩ fz)=some (.next,sT t3 356 735 w os,cE,⟨362,0,376,15⟩):=by
 rw[YbP,YaX];kernel_rfl
def jp2:YfK Yc2 pw w 11 (some (.ref 6)) 2 (sT t3 356 735 w os).abs ⟨PySem.W.doneF .next,cE,⟨362,0,376,15⟩,fz⟩=some (sz w os):=by
 rw[PySem.W.Fast.te14082659384304107361,YaX];kernel_rfl
def jp0:YfK Yc2 pw w 11 (some (.ref 6)) (12+(1+(982+(971+(86+(2)))))) (s0 w os) (Yfw pw)=some (sz w os):=
 PySem.W.go_top (jp1 w os) (PySem.W.piece_block (jp3 w os) (Ydu (Ydt (r1 w os)) (Ydu (Ydt (r2 w os)) (Ydu (Ydt (r3 w os)) (jp2 w os)))))
end
noncomputable def KK:Params->Yac:=λP=>((1:Addr),YbA P)::((3:Addr),o202 P)::((52:Addr),o59)::((53:Addr),o39)::((59:Addr),o22)::((60:Addr),o64)::((64:Addr),o46)::((65:Addr),o26)::((71:Addr),o10)::((72:Addr),o51)::((78:Addr),o80)::((79:Addr),o6)::((85:Addr),o37)::((86:Addr),o77)::((90:Addr),o71)::((91:Addr),o20)::((97:Addr),o27)::((98:Addr),o67)::((104:Addr),o52)::((105:Addr),o31)::((111:Addr),o7)::((112:Addr),o49)::((118:Addr),o78)::((119:Addr),o13)::((123:Addr),o21)::((124:Addr),o63)::((128:Addr),o45)::((129:Addr),o25)::((135:Addr),o9)::((136:Addr),o50)::((142:Addr),o79)::((143:Addr),o5)::((147:Addr),o102)::((148:Addr),o158)::((152:Addr),o152)::((153:Addr),o122)::((159:Addr),o87)::((160:Addr),o143)::((166:Addr),o188)::((167:Addr),o95)::((173:Addr),o136)::((174:Addr),o195)::((180:Addr),o161)::((181:Addr),o131)::((187:Addr),o111)::((188:Addr),o169)::((192:Addr),o142)::((193:Addr),o114)::((199:Addr),o93)::((200:Addr),o149)::((206:Addr),o193)::((207:Addr),o88)::((213:Addr),o129)::((214:Addr),o190)::((218:Addr),o182)::((219:Addr),o109)::((225:Addr),o116)::((226:Addr),o173)::((232:Addr),o151)::((233:Addr),o121)::((239:Addr),o90)::((240:Addr),o147)::((244:Addr),o162)::((245:Addr),o132)::((249:Addr),o125)::((250:Addr),o184)::((256:Addr),o140)::((257:Addr),o113)::((263:Addr),o91)::((264:Addr),o148)::((268:Addr),o163)::((269:Addr),o133)::((273:Addr),o117)::((274:Addr),o174)::((278:Addr),o189)::((279:Addr),o97)::((285:Addr),o137)::((286:Addr),o197)::((290:Addr),o172)::((291:Addr),o100)::((295:Addr),o94)::((296:Addr),o150)::((302:Addr),o194)::((303:Addr),o89)::((309:Addr),o130)::((310:Addr),o191)::((316:Addr),o168)::((317:Addr),o138)::((323:Addr),o99)::((324:Addr),o156)::((330:Addr),o179)::((331:Addr),o106)::((337:Addr),o118)::((338:Addr),o176)::((344:Addr),o207)::((345:Addr),o204)::((349:Addr),o206)::((350:Addr),o211)::((354:Addr),o210)::((355:Addr),o201)::[]
noncomputable def KA:List Addr:=1::3::52::53::59::60::64::65::71::72::78::79::85::86::90::91::97::98::104::105::111::112::118::119::123::124::128::129::135::136::142::143::147::148::152::153::159::160::166::167::173::174::180::181::187::188::192::193::199::200::206::207::213::214::218::219::225::226::232::233::239::240::244::245::249::250::256::257::263::264::268::269::273::274::278::279::285::286::290::291::295::296::302::303::309::310::316::317::323::324::330::331::337::338::344::345::349::350::354::355::[]
noncomputable def fl:Z.FL:=(53,52,(.str q56 232))::(60,59,(.str q56 232))::(65,64,(.str q56 232))::(72,71,(.str q56 232))::(79,78,(.str q8 273))::(86,85,(.str q8 273))::(91,90,(.str q8 273))::(98,97,(.str q8 273))::(105,104,(.str q16 323))::(112,111,(.str q16 323))::(119,118,(.str q16 323))::(124,123,(.str q16 323))::(129,128,(.str q16 323))::(136,135,(.str q16 323))::(143,142,(.str q6 392))::(148,147,(.str q43 405))::(153,152,(.str q43 405))::(160,159,(.str q43 405))::(167,166,(.str q43 405))::(174,173,(.str q43 405))::(181,180,(.str q43 405))::(188,187,(.str q43 405))::(193,192,(.str q43 405))::(200,199,(.str q43 405))::(207,206,(.str q78 497))::(214,213,(.str q78 497))::(219,218,(.str q78 497))::(226,225,(.str q78 497))::(233,232,(.str q78 497))::(240,239,(.str q78 497))::(245,244,(.str q78 497))::(250,249,(.str q78 497))::(257,256,(.str q78 497))::(264,263,(.str q78 497))::(269,268,(.str q78 497))::(274,273,(.str q78 497))::(279,278,(.str q78 497))::(286,285,(.str q78 497))::(291,290,(.str q78 497))::(296,295,(.str q78 497))::(303,302,(.str q78 497))::(310,309,(.str q78 497))::(317,316,(.str q78 497))::(324,323,(.str q78 497))::(331,330,(.str q78 497))::(338,337,(.str q78 497))::(345,344,(.str q78 497))::(350,349,(.str q78 497))::(355,354,(.str q78 497))::[]
def k_dyn (P:Params):Z.dynB Z.T (KK P) 0 fl Z.T.funs Z.sts=true:=by kernel_rfl
def k_lk (P:Params):fl.map (λx=>(KK P).lookup x.1)=Z.lkR fl Z.T.funs Z.sts:=by kernel_rfl
def k_blt (P:Params):Z.bltB (KK P)=true:=by kernel_rfl
def k_gs (P:Params):Z.gsB (KK P) Z.T.gn Z.T.gs=true:=by kernel_rfl
def k_cs (P:Params):Z.CsA (KK P) Z.T.cs:=trivial
noncomputable abbrev rr:PySem.W.OpenRow:=PySem.Challenge.rw_beatplans_k18_times_or_none.row
noncomputable def Xt:Shared->Bool:=λs=>PySem.W.xlAt qw [] s&&PySem.W.recOk (PySem.W.RowW.records rr.toRowW) s
noncomputable abbrev hk:PySem.W.Hook:=PySem.W.kHook KK KA (λ_=>by kernel_rfl)
def jok (w:World):((YbL w.params).isNs YaT&&(⟨[]⟩:Array Yd5).size==0,(YbL w.params).objs.size,(YbL w.params).nsMap YaT "__annotations__")=(true,11,some (YbD 6)):=by
 rw[PySem.W.Fast.te8920871248978507458];kernel_rfl
def k_l1 (w:World)(os:OsState):(PySem.W.staticsOk (importedModules pw.main.body) (YbL w.params) (Hz w.params)&&PySem.W.namesBound pw (Hz w.params)&&PySem.W.gensDone (sz w os)&&PySem.W.laidKept (YbL w.params) (Hz w.params))=true:=by
 rw[YcV];kernel_rfl
def k_l2 (w:World)(os:OsState):PySem.W.openSeen qw [] (importedModules pw.main.body) Xt true (sz w os)=PySem.W.openGood qw []:=by
 rw[PySem.W.Fast.te4187177175401517315,YcV];kernel_rfl
def k_l3 (w:World)(os:OsState):Ydi hk (sz w os)=Ydh hk w:=by kernel_rfl
def k_hl:PySem.W.LeftO pw qw [] Xt (Ydi hk) (Ydh hk) 4198:=PySem.W.LeftO.of_pieces (PySem.W.boot_open (by kernel_rfl) (by decide) λ_=>by kernel_rfl) jok jp0 (by decide) λw=>funext λos=>Ydd (k_l1 w os) (Ydd (k_l2 w os) (k_l3 w os))
end Y
set_option maxRecDepth 100000 in
set_option maxHeartbeats 0 in
def Z.wellS:PySem.Challenge.rw_beatplans_k18_times_or_none.wellSaid=true:=by decide +kernel
open PySem PySem.W PyProof.Rows
set_option maxRecDepth 100000 in
set_option maxHeartbeats 0 in
theorem PySem.Challenge.cw_beatplans_k18_times_or_none_holds : PySem.Challenge.rw_beatplans_k18_times_or_none.Holds := by
 refine PySem.W.holds_law Z.wellS λsaid=>?_
 refine PySem.W.holds_open (q:=Y.qw) (loose:=[]) (Xt:=Y.Xt) (XP:=PySem.W.XL Y.qw []) (Yf:=Ydi Y.hk) (Ya:=Ydh Y.hk) (YP:=PySem.W.Hook.says Y.hk) (N:=4198) Y.k_hl (PySem.W.Hook.of Y.hk) (PySem.W.Hook.keeps Y.hk) (λs e=>PySem.W.xl_of s (Bool.and_eq_true_iff.mp e).1) PySem.W.XL.keeps (by rfl) (by rfl) (by rfl) (λs e=>PySem.W.recFacts_of (Bool.and_eq_true_iff.mp e).2) (by rfl) said (by decide +kernel) ⟨rfl,rfl,rfl,rfl,rfl,by decide +kernel⟩ ?hw ?hc
 case hw=>w_witness2
 refine Z.walk (l:=PySem.Challenge.rw_beatplans_k18_times_or_none) rfl rfl (λw h Y=>PySem.W.kIn_of Y) ?K ?S ?B ?F
 case K=>intro w;rfl
 case S=>intro w;exact⟨_,rfl,rfl⟩
 case B=>exact λw t ht=>(nomatch (show t∈[]from ht))
 case F=>exact λw mg fa h X G hm=>Z.all2 X G hm Z.prog_rep Z.prog_eq Z.tabsU (Y.k_dyn _) (Y.k_lk _) (Y.k_blt _) (Y.k_gs _) (Y.k_cs _) rfl rfl rfl rfl rfl
