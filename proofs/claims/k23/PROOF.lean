import PyProof.Rows.All
import Wide.All
import OpenK.AllK
import Wide.FinOn
import Lean
import PyProof.EqAt
import PyProof.EqKinds
import PyProof.TupleCall
import PySem.Challenge.RW_beatplans_k23_great_rounds
set_option compiler.extract_closed false
set_option Elab.async false
set_option linter.all false
set_option maxRecDepth 100000
set_option maxHeartbeats 8000000
open List renaming all_cons → YcI, any_cons → Yba, any_eq_false → Yfu, append_assoc → Ydj, append_nil → YcV, cons_append → YfK, dropLast_eq_take → Yev, drop_eq_getElem_cons → YaU, drop_length → YfJ, drop_of_length_le → Ybz, drop_zero → Yc3, eraseIdxIfInBounds_toArray → Ydi, ext_getElem → YfI, filterMap_cons → YbY, filterMap_map → Yfe, find?_cons → Ybr, find?_cons_of_neg → Yes, flatten_cons → YbM, foldl → Ydh, foldl_cons → YdR, getD → Ybg, getD_eq_getElem?_getD → YaF, getElem?_append_left → YaT, getElem?_append_right → YbO, getElem?_eq_getElem → Yaa, getElem?_eq_none → Ycj, getElem?_inj → Yft, getElem?_map → Yan, getElem?_range → YeU, getElem?_replicate → Yek, getElem?_set_ne → Ya2, getElem?_set_self → Ybe, getElem?_take → Yfd, getElem_mem → YbX, getElem_of_mem → YaE, getElem_take → Yfs, length → YeT, length_append → YaQ, length_cons → Yaz, length_drop → Ydy, length_map → Yac, length_nil → YcU, length_range → Ydg, length_reverse → Yc6, length_set → Ybl, length_singleton → YcT, length_take → YbW, lookup → YdQ, lookup_cons → Ya7, map_append → YaJ, map_congr_left → YeS, map_cons → YaB, map_drop → Yej, map_inj_right → Yfc, map_map → YaY, map_nil → YcS, map_reverse → YfH, map_take → Yei, mem_append_left → Yaw, mem_append_right → Yas, mem_cons → YaO, mem_cons_of_mem → Yaj, mem_cons_self → Yat, mem_of_getElem? → Yam, mem_of_mem_take → YeK, mem_or_eq_of_mem_set → Yd7, ne_nil_of_mem → Yfb, nil_append → Ya6, not_mem_nil → Yav, of_mem_zip → YdP, pairwise_singleton → Yeh, range → YaX, replicate → Yae, replicate_succ → Ya8, reverse_cons → YbL, set_eq_take_append_cons_drop → Ydf, size_toArray → Yai, take_append_of_le_length → Ydx, take_length → YaP, take_of_length_le → YcL, take_sublist → Yfr, take_succ → Ya5, toArray → YcR, zip_cons_cons → Yfa
open PySem.W renaming BT → Ycl, Frag → Yab, OpenLaw → Ydo, WalkO → YfG, boot_heap → YbD, boot_o_0 → Ycg, boot_o_1 → YbP, boot_o_10 → Yb3, boot_o_2 → Ycf, boot_o_3 → YeQ, boot_o_4 → Yce, boot_o_5 → Ycd, boot_o_6 → Ycc, boot_o_7 → Ycb, boot_o_8 → Yca, boot_o_9 → Yb9, cellsFrom_some → Yd6, codeIn → Yct, findIn → Ycs, fnOf → YbA, instObj → Ydn, kas_place → YfD, keepIn → YbN, kia_one → Ya9, kitOne → YcQ, kitx_dict → YeG, kitx_list → YeF, lookIn → YdH, methodObj → Ydb, mg_of → YcA, nsIn → Yb5, piece_app → YeE, piecesOf → YeP, plainGet → YeO, segRunT → Ye7, segRun_of → YeD, specialIn → YeC, topRun → Yfp, topStub → Ye6
open PySem.Heap renaming SameBut → Ycv, get?_push_ne → Ydk, get?_push_of_some → Yad, get?_push_size → Yaq, get?_update_ne → YeV, get?_update_other → YcM, get?_update_self → YcW, lt_size → Yao, size_push → Ycy
open PySem renaming Arguments → YfL, Comprehension → YbB, DictEntry → Ych, FuncData → Ybn, GenState → YdJ, NameKind → Ybu, Operator → YbK, PassesOwn → YdI, Spec → YaC, assignEach → YaZ, assignInOrder → Ye3, attributeBase → Ybq, behindInMarks → YdD, binaryOp → Ybd, bootBuiltins → YbS, builtinsNs → Ydd, call → Ye5, call_meets → Ybv, cellsFrom → Ybi, codeAny_mono → Yd4, compTurn → Yec, compareOp → YaN, concat_meets → YfE, evalArgs_none → Yc2, evalPart_none → Ye2, foldedForSure → Ye1, foldedSetIterable → Ya4, inplaceOp → YdC, keywordEach → Yeq, lastMarks → YfC, letOwnedTupleGo → Ycz, mainGlobals → YaK, mem_of_lookup → YaA, newFunctionEnv → Yey, noFill_tuple_add → Yd8, post_val_or_str → Yda, pushCells → Yep, seqIndex? → YfB, seqIndex_neg → YfA, seqSlot_of → Yfo, seq_tuple_add → Ye0, sizeLine → Yah, sizeLine_eq → Ycn, sliceBounds → Yb2, slicePick → YdB, starEach → YaG, swappedStores → Ybc, swapsWith → YcP, swapsWithSole → Ybm, sysModules → YaV, treeTable → Yc9, tupleKind → Yeo, tupleKind_room_in1 → YcG, typeIs_int → YdW, typeIs_str → YdV, wpAny_Call_Name_kw → YcF, wpAny_Call_method0_late → YeY, wpAny_binaryOp_repeat_ref → Yex, wpAny_bind → Yaf, wpAny_callSpecial?_slot → Yb8, wpAny_call_entry → Ycr, wpAny_comprehension_free → YeM, wpAny_execs_nil → Yen, wpAny_field → YbR, wpAny_getItem_list_slice → YcO, wpAny_getItem_str_slice → Yb7, wpAny_holding → Ybb, wpAny_letOwnedTupleGo_enum → Yeu, wpAny_mono → Ybh, wpAny_newObj_type → Ya3, wpAny_passesOwn → YbQ, wpAny_pure → Yap, wpAny_pyIter_enum → YcN, wpAny_pyIter_list → YdU, wpAny_pyNext_enum_endD → Yfl, wpAny_pyNext_enum_itemD → YeX, wpAny_pyNext_list_end → Yfz, wpAny_pyNext_list_item → Yfk, wpAny_sequenceKey → YdT, wpAny_setField → YcJ, wpAny_standAt → YcY, wpAny_truthy_bool → YbV, wpAny_typeOf → Yd3
open Nat renaming add_le_add_left → Ye9, le_of_eq → YeJ, le_of_lt → Yb0, le_refl → Yag, le_succ → Yd0, le_trans → Yal, lt_irrefl → Ybf, lt_of_le_of_lt → YaL, lt_of_lt_of_le → Yau, lt_succ_of_lt → Ydr, lt_trans → Ydw, mul_comm → Ydv, ne_of_lt → Yax, pow_le_pow_right → YeR, sub_self → YeI, zero_add → Ycx, zero_le → Ybj
open Bool renaming and_eq_true → Yay, eq_iff_iff → Yb1, false_eq_true → Ybo, false_ne_true → Yak, false_or → Yem, not_eq_true' → Ydl, or_eq_true → Ycq, true_or → Yew
open Option.some renaming inj → Yar
open PySem.PyData renaming canLayAll0 → Ycw, depthAll → YbC, eqv → YaD, eqvAll → Ycm, int → YdZ, tuple → Yeg
open PySem.NameKind renaming cell → YaH, free → YaI
open PySem.Value renaming bool → Ye4, int → YdG, none → YaM, ref → Ybw, str → Yer
open PySem.Builtin.Slice renaming sliceAdjust → Ybk, sliceApplied → Yby, sliceFields → Ydc, slicePlaces → YaR
open PySem.Builtin.Tuple renaming tupleExact → YaS, tupleIsExact → Yc8, tupleItemsOf → Yci, tupleTooMany → Yc7
open PyProof.Rows renaming args_tuple_getitem → YdF, assignInOrder_cons → YdE, boot_list → Ydp, callWith_type1 → Yb6, entry_tuple_getitem → Ydm, slot_tuple_getitem → YaW, subscriptTail → YdA, subscriptTail_builtinR → Yfm, tupleItemsOf_ → YeZ
open Int renaming ediv_one → YeL, emod_add_mul_ediv → Yck, emod_lt_of_pos → Ybp, emod_nonneg → Ybs, eq_ofNat_of_zero_le → Ya0, le_refl → Yfh, mul_comm → Ydz, sub_eq_add_neg → Yfv, toNat_natCast → Yds
open PySem.W.Fast renaming te10110043849684766642 → YcH, te14364793385576792824 → Ya1, te5923862056798008813 → YcK
open Array renaming getD_eq_getD_getElem? → YbG, getElem?_setIfInBounds_self_of_lt → YbF, getElem?_toList → YbE, length_toList → Ybt
open PySem.Obj renaming isFreed_of_fields → YeH, mapFields → Ybx, mapSeq → Yco
open PySem.Str renaming empty → YeA, ofString → YbH
open PySem.Builtin.List renaming listTooLong → YbI
open True renaming intro → YbJ
open PySem.Builtin.Str renaming occurrences → YbT
open PySem.Around renaming in1_units → YbU, under_plainId → Yet
open Sum.inr renaming injEq → YbZ
open PySem.Calls renaming Name_function_global → YdS, callWith_builtin → Yb4
open PySem.W.KasT renaming kasWp_bind → Ycp, ret → Yfg
open PySem.F renaming args_object_init_2 → Yfw, args_tuple_add_2 → Ycu, args_tuple_mul_2 → Ydt, entry_enumerate_new → Yfj, entry_tuple_add → YcC, entry_tuple_mul → YdK, newCall_enumerate_1 → Yfi, plainAttrs_dict → YdY, plainAttrs_list → YcB, slot_dict_items → YdX, slot_dict_values → YdM, slot_int_rmul → Yc4, slot_list_lt → Yee, slot_tuple_add → YcE, slot_tuple_iterator_next → Yel, slot_tuple_mul → Yd2, typeCall_enumerate_1 → YeW
open PySem.SeqAt renaming EqAt → Yd5, eqv_refl → YcD, in_listAt → YfF, in_tupleAt → Yfn, notIn_listAt → YeN, notIn_tupleAt → YeB
open False renaming elim → YcX
open Prod renaming ext → YcZ
open PySem.W.Hook renaming obs → Yc1, val → Yc0
open PySem.Paired renaming length → Yc5
open Option renaming getD_none → Ye8, isSome_map → Yde, map_some → Yfq, none_or → YdO, some_or → YdN
open Prod.mk renaming inj → Ydq
open PySem.Txt renaming slice → Yez, slice_le → Ydu
open PySem.AutoSeq1 renaming wpAny_loadPart' → YdL
open List.Pairwise renaming nil → Yd1
open PySem.SeqAt.EqAt renaming int_int → Yeb, int_str → Yea, str_int → Yd9
open PySem.ScopeKind renaming function → Yed
open PySem.Draws renaming list → Yef
open List.cons renaming inj → Yff
open PySem.Builtin.SmallTypes renaming nextOf → Yfy, stopIteration → Yfx
namespace L2
open PySem PySem.Spec PyProof.Rows

abbrev Key:=Sum Int Str
noncomputable def jeZ:Key->Value->Bool
 |.inl k,v=>Value.isInt k v
 |.inr x,v=>Value.isStrOf x v
noncomputable def keyH (w:World):Key->Int
 |.inl k=>hashInt k
 |.inr x=>hashStr w x
theorem jal:∀{k:Key} {v:Value},jeZ k v=true->(∃i t,k=Sum.inl i/\v=YdG i t)\/(∃x t,k=Sum.inr x/\v=Yer x t)
 |.inl i,v,h=>by
  obtain⟨t,e⟩:=Value.isInt_shape (k:=i) (v:=v) h;exact .inl ⟨i,t,rfl,e⟩
 |.inr x,v,h=>by
  obtain⟨t,e⟩:=Value.isStrOf_shape (x:=x) (v:=v) h;exact .inr ⟨x,t,rfl,e⟩
theorem jg4 (i:Int)(t:Tok):jeZ (.inl i) (.int i t)=true:=by simp[jeZ,Value.isInt]
theorem jg3 (x:Str)(t:Tok):jeZ (.inr x) (.str x t)=true:=by simp[jeZ,Value.isStrOf]
theorem jmA (a b:Int):decide ((Sum.inl a:Key)=Sum.inl b)=(a==b):=by
 by_cases e:a=b
 ·subst e;simp
 ·have h:¬(Sum.inl a:Key)=Sum.inl b:=λq=>e (Sum.inl.inj q);rw[decide_eq_false h];exact(beq_eq_false_iff_ne.mpr e).symm
theorem jmx (a b:Str):decide ((Sum.inr a:Key)=Sum.inr b)=decide (a=b):=by
 by_cases e:a=b
 ·subst e;simp
 ·have h:¬(Sum.inr a:Key)=Sum.inr b:=λq=>e (Sum.inr.inj q);rw[decide_eq_false h,decide_eq_false e]
theorem jmz (a:Int)(b:Str):decide ((Sum.inl a:Key)=Sum.inr b)=false:=decide_eq_false (λq=>nomatch q)
theorem jmy (a:Str)(b:Int):decide ((Sum.inr a:Key)=Sum.inl b)=false:=decide_eq_false (λq=>nomatch q)

noncomputable def jai (prog:Program)(w:World):PySem.KeyKind prog w Key where
 is:=jeZ
 hash:=keyH w
 inj:=λv a b ha hb=>by
  rcases jal ha with⟨i,t,rfl,rfl⟩|⟨x,t,rfl,rfl⟩
  ·rcases jal hb with⟨j,u,rfl,e⟩|⟨y,u,rfl,e⟩
   ·injection e with e1 _;rw[e1]
   ·exact nomatch e
  ·rcases jal hb with⟨j,u,rfl,e⟩|⟨y,u,rfl,e⟩
   ·exact nomatch e
   ·injection e with e1 _;rw[e1]
 byValue:=λk v h=>by
  rcases jal h with⟨i,t,rfl,rfl⟩|⟨x,t,rfl,rfl⟩<;>rfl
 pyHash:=λhv h=>by
  rcases jal hv with⟨i,t,rfl,rfl⟩|⟨x,t,rfl,rfl⟩
  ·exact wpAny_pyHash_int h
  ·exact wpAny_pyHash_str h
 eqBool:=λhu hv h=>by
  rcases jal hu with⟨i,t,rfl,rfl⟩|⟨x,t,rfl,rfl⟩
  ·rcases jal hv with⟨j,u,rfl,rfl⟩|⟨y,u,rfl,rfl⟩
   ·rw[jmA]at h;exact wpAny_eqBool_int h
   ·rw[jmz]at h;exact Yea i t y u _ _ _ _ h
  ·rcases jal hv with⟨j,u,rfl,rfl⟩|⟨y,u,rfl,rfl⟩
   ·rw[jmy]at h;exact Yd9 x t j u _ _ _ _ h
   ·rw[jmx]at h;exact wpAny_eqBool_str h
 «strs»:=λk x t v h=>by
  rcases jal h with⟨i,u,rfl,e⟩|⟨y,u,rfl,e⟩
  ·exact nomatch e
  ·injection e with e1 _
   subst e1
   cases v<;>rfl

theorem jeW (prog:Program)(w:World)(i:Int)(t:Tok):(jai prog w).is (.inl i) (.int i t)=true:=jg4 i t
theorem jeV (prog:Program)(w:World)(x:Str)(t:Tok):(jai prog w).is (.inr x) (.str x t)=true:=jg3 x t

inductive V where
 |non|bl (b:Bool)|int (i:Int)|str (x:Str)|byt (b:Array UInt8)|flt (b:UInt64)|ref (a:Addr)|ty (n:String)
 deriving DecidableEq

def RelV:V->Value->Prop
 |.non,u=>u=YaM
 |.bl b,u=>u=Ye4 b
 |.int i,u=>∃t,u=YdG i t
 |.str x,u=>∃t,u=Yer x t
 |.byt b,u=>∃t,u=Value.bytes b t
 |.flt b,u=>∃t,u=Value.float b t
 |.ref a,u=>u=Ybw a
 |.ty n,u=>u=Value.type n

abbrev Vals:List V->List Value->Prop:=Paired RelV
theorem Vals.length {xs:List V}{us:List Value}(r:Vals xs us):xs.length=us.length:=Yc5 r
theorem Vals.get:∀{xs:List V} {us:List Value} {i:Nat} {x:V},Vals xs us->xs[i]?=some x->∃u,us[i]?=some u/\RelV x u
 |_,_,_,_,.nil,e=>by simp at e
 |_,_,0,_,.cons r _,e=>by simp at e;subst e;exact⟨_,rfl,r⟩
 |_,_,i+1,x,.cons _ t,e=>by
  obtain⟨u,h1,h2⟩:=Vals.get (i:=i) (x:=x) t (by simpa using e)
  exact⟨u,by simpa using h1,h2⟩
theorem Vals.set {x:V}{u:Value}(r:RelV x u):∀{xs:List V} {us:List Value} (i:Nat),Vals xs us->Vals (xs.set i x) (us.set i u)
 |_,_,_,.nil=>.nil
 |_,_,0,.cons _ t=>.cons r t
 |_,_,i+1,.cons q t=>.cons q (Vals.set r i t)
theorem Vals.append:∀{xs ys:List V} {us ws:List Value},Vals xs us->Vals ys ws->Vals (xs++ys) (us++ws)
 |_,_,_,_,.nil,s=>s
 |_,_,_,_,.cons r t,s=>.cons r (Vals.append t s)
theorem Vals.take:∀{xs:List V} {us:List Value} (n:Nat),Vals xs us->Vals (xs.take n) (us.take n)
 |_,_,0,_=>.nil
 |_,_,_+1,.nil=>.nil
 |_,_,n+1,.cons r t=>.cons r (Vals.take n t)
theorem Vals.drop:∀{xs:List V} {us:List Value} (n:Nat),Vals xs us->Vals (xs.drop n) (us.drop n)
 |_,_,0,r=>r
 |_,_,_+1,.nil=>.nil
 |_,_,n+1,.cons _ t=>Vals.drop n t
def RelO:Option V->Option Value->Prop
 |some v,some u=>RelV v u
 |none,none=>True
 |_,_=>False
def KV {κ:Type}:List (κ×V)->List (κ×Value)->Prop:=Paired λ(p:κ×V) (q:κ×Value)=>p.1=q.1/\RelV p.2 q.2

noncomputable def kV:Key->V
 |.inl i=>.int i
 |.inr x=>.str x

inductive HO where
 |lst (xs:List V)
 |tup (xs:List V)
 |dK (kvs:List (Key×V))|dT (kvs:List (List Key×V))
 |set (S:Int->Bool) (n:Nat)
 |ins (C dx:Addr) (fs:List (Str×V))
 |own (x:Addr)
 |xd (fs:List (Str×V))
 |met (f x:Addr)
 |rng (lo hi:Int)
 |frz (o:Obj) (u:HO)
 |tbl (ps:Array Value)
 |ext (φ:Heap->Prop)

abbrev Hp:=Addr->Option HO
noncomputable def upd (H:Hp)(a:Addr)(o:HO):Hp:=λb=>if b=a then some o else H b
theorem jao {H:Hp}{a:Addr}{o:HO}:upd H a o a=some o:=by unfold upd;rw[if_pos rfl]
section
variable {H:Hp}{a b:Addr}
theorem jac {o:HO}(h:b≠a):upd H a o b=H b:=by unfold upd;rw[if_neg h]
theorem joB {o u:HO}(h:H a=some o)(h':H b=some u)(d:o≠u):a≠b:=by
 intro e;subst e;rw[h]at h';exact d (Yar h')
theorem jah {o:HO}(h:H a=some o)(h':H b=none):a≠b:=by
 intro e;subst e;rw[h]at h';cases h'

end
def TupD (h:Heap)(a:Addr)(items:Array Value):Prop:=∃o,h.get? a=some o/\o.cls=.type "tuple" /\ ∃n,o.data=.seq items n/\o.dict=none
theorem TupD.tup {h:Heap}{a:Addr}{items:Array Value}(x:TupD h a items):IsTup h a items:=let ⟨o,e,c,n,d,_⟩:=x;⟨o,e,c,n,d⟩
theorem TupD.new (h:Heap)(items:Array Value):TupD (h.push { cls:=.type "tuple",data:=.seq items }) h.objs.size items:=⟨_,Yaq _ rfl,rfl,_,rfl,rfl⟩
section
variable (P:Program)(w:World)
def jaC (H:Hp)(h:Heap)(a:Addr):HO->Prop
 |.lst xs=>xs.length<=Yah/\∃(its:List Value) (n:Nat),Vals xs its/\h.get? a=some { cls:=.type "list",data:=.seq its.toArray n }
 |.tup xs=>xs.length<=Yah/\∃its:List Value,Vals xs its/\TupD h a its.toArray
 |.dK kvs=>kvs.length<=Yah/\(a==YaV)=false/\∃vs,KV kvs vs/\h.DictOf (jai P w) a vs
 |.dT kvs=>kvs.length<=Yah/\(a==YaV)=false/\∃xs:List (List Key×Addr×Value),
   Paired (λ(p:List Key×V) (q:List Key×Addr×Value)=>p.1=q.1/\H q.2.1=some (.tup (p.1.map kV))/\RelV p.2 q.2.2) kvs xs/\
   ∃o es ep,h.get? a=some o/\o.ExactDict/\o.data=.dict es ep/\es.toList=xs.map (entryOfKey (Yeo (jai P w)))/\(xs.map (·.1)).Nodup
 |.set S n=>h.SetOf (intKind P w) a S n
 |.ins C dx fs=>H dx=some (.own a)/\fs.length<=1000/\dx≠a/\h.get? a=some (Ydn C dx)/\
   ∃mA,h.Ns1 dx mA/\(∀f,RelO (fs.lookup f) (mA f))/\PySem.Within mA (fs.map (·.1))
 |.own _=>∃o,h.get? a=some o
 |.xd fs=>∃mA,h.Ns1 a mA/\∀f,RelO (fs.lookup f) (mA f)
 |.rng lo hi=>∃t u v,h.get? a=some { cls:=.type "range",data:=.fields #[.int lo t,.int hi u,.int 1 v] }
 |.frz o u=>h.get? a=some o/\jaC H h a u
 |.tbl ps=>h.get? a=some { cls:=.none,data:=.fields ps }
 |.met f x=>h.get? a=some (Ydb (.ref f) (.ref x))
 |.ext φ=>φ h/\(∃o,h.get? a=some o)/\∀h1 h2:Heap,φ h1->(∀o,h1.get? a=some o->h2.get? a=some o)->φ h2
def HOk (H:Hp)(h:Heap):Prop:=∀a o,H a=some o->jaC P w H h a o
end

section
variable {P:Program}{w:World}{H H':Hp}{h h':Heap}{a:Addr}{o:HO}
theorem jaC.lt (x:jaC P w H h a o):a<h.objs.size:=by
 cases o with
 |lst xs=>obtain⟨_,_,_,_,e⟩:=x;exact Yao e
 |tup xs=>obtain⟨_,_,_,p⟩:=x;exact p.tup.lt
 |dK kvs=>obtain⟨_,_,_,_,o,_,_,e,_⟩:=x;exact Yao e
 |dT kvs=>obtain⟨_,_,_,_,o,_,_,e,_⟩:=x;exact Yao e
 |set S n=>obtain⟨o,_,_,_,e,_⟩:=x;exact Yao e
 |ins C dx fs=>obtain⟨_,_,_,e,_⟩:=x;exact Yao e
 |own y=>obtain⟨_,e⟩:=x;exact Yao e
 |xd fs=>obtain⟨_,⟨_,_,_,e,_⟩,_⟩:=x;exact Yao e
 |rng lo hi=>obtain⟨_,_,_,e⟩:=x;exact Yao e
 |frz ob u=>obtain⟨e,_⟩:=x;exact Yao e
 |tbl ps=>exact Yao (show h.get? a=some _ from x)
 |met f y=>exact Yao (show h.get? a=some _ from x)
 |ext φ=>obtain⟨_,⟨_,e⟩,_⟩:=x;exact Yao e
theorem Paired.mapP {α β:Type}{F G:α->β->Prop}:∀{l₁:List α} {l₂:List β},Paired F l₁ l₂->(∀a b,F a b->G a b)->Paired G l₁ l₂
 |_,_,.nil,_=>.nil
 |_,_,.cons r t,f=>.cons (f _ _ r) (Paired.mapP t f)
theorem jaC.stay (x:jaC P w H h a o)(k:∀b u,(b=a\/H b=some (.own a))->h.get? b=some u->h'.get? b=some u)
  (ho:∀b,H b=some (.own a)->H' b=some (.own a)) (ht:∀b xs,H b=some (.tup xs)->H' b=some (.tup xs)):jaC P w H' h' a o:=by
 induction o with
 |lst xs=>obtain⟨z,its,n,r,e⟩:=x;exact⟨z,its,n,r,k _ _ (.inl rfl) e⟩
 |tup xs=>obtain⟨z,its,r,ob,e,c⟩:=x;exact⟨z,its,r,ob,k _ _ (.inl rfl) e,c⟩
 |dK kvs=>obtain⟨z,y,vs,r,ob,es,ep,e,c⟩:=x;exact⟨z,y,vs,r,ob,es,ep,k _ _ (.inl rfl) e,c⟩
 |dT kvs=>
  obtain⟨z,y,xs,r,ob,es,ep,e,c⟩:=x;exact⟨z,y,xs,Paired.mapP r λp q z=>⟨z.1,ht _ _ z.2.1,z.2.2⟩,ob,es,ep,k _ _ (.inl rfl) e,c⟩
 |set S n=>obtain⟨ob,es,ep,t,e,c⟩:=x;exact⟨ob,es,ep,t,k _ _ (.inl rfl) e,c⟩
 |ins C dx fs=>
  obtain⟨d,z,ne,e,mA,⟨od,es,ep,e2,c⟩,r⟩:=x;exact⟨ho _ d,z,ne,k _ _ (.inl rfl) e,mA,⟨od,es,ep,k _ _ (.inr d) e2,c⟩,r⟩
 |own y=>obtain⟨ob,e⟩:=x;exact⟨ob,k _ _ (.inl rfl) e⟩
 |xd fs=>obtain⟨mA,⟨od,es,ep,e,c⟩,r⟩:=x;exact⟨mA,⟨od,es,ep,k _ _ (.inl rfl) e,c⟩,r⟩
 |rng lo hi=>obtain⟨t,u,v,e⟩:=x;exact⟨t,u,v,k _ _ (.inl rfl) e⟩
 |frz ob u ih=>obtain⟨e,q⟩:=x;exact⟨k _ _ (.inl rfl) e,ih q⟩
 |tbl ps=>
  have e:h.get? a=some { cls:=.none,data:=.fields ps }:=x;show h'.get? a=some { cls:=.none,data:=.fields ps };exact k a _ (.inl rfl) e
 |met f y=>
  have e:h.get? a=some (Ydb (.ref f) (.ref y)):=x;show h'.get? a=some (Ydb (.ref f) (.ref y));exact k a _ (.inl rfl) e
 |ext φ=>obtain⟨p,⟨o,e⟩,st⟩:=x;exact⟨st _ _ p λo q=>k _ _ (.inl rfl) q,⟨o,k _ _ (.inl rfl) e⟩,st⟩
theorem HOk.lt (x:HOk P w H h)(e:H a=some o):a<h.objs.size:=(x a o e).lt
theorem HOk.fresh (x:HOk P w H h)(e:h.objs.size<=a):H a=none:=by
 cases q:H a with
 |none=>rfl
 |some u=>exact absurd (Yau (x.lt q) e) (Ybf _)
theorem HOk.kept (x:HOk P w H h)(k:∀b u,h.get? b=some u->h'.get? b=some u):HOk P w H h':=λa o e=>
 (x a o e).stay (λb u _ q=>k b u q) (λ_ q=>q) λ_ _ q=>q
theorem HOk.laid (x:HOk P w H h)(k:∀b u,h.get? b=some u->h'.get? b=some u)(hp:h.objs.size<=a)(new:jaC P w (upd H a o) h' a o):HOk P w (upd H a o) h':=λb u e=>by
 have hn:=x.fresh hp;by_cases hb:b=a
 ·subst hb;rw[jao]at e;cases e;exact new
 ·rw[jac hb]at e;exact(x b u e).stay (λc v _ q=>k c v q) (λc q=>by rw[jac (jah q hn)];exact q) λc xs q=>by rw[jac (jah q hn)];exact q
end

def Rd (H:Hp)(a:Addr)(u:HO):Prop:=H a=some u\/∃o,H a=some (.frz o u)
theorem Rd.of {H:Hp}{a:Addr}{u:HO}(h:H a=some u):Rd H a u:=.inl h
theorem Rd.ok {P:Program}{w:World}{H:Hp}{h:Heap}{a:Addr}{u:HO}(r:Rd H a u)(x:HOk P w H h):jaC P w H h a u:=by
 rcases r with r|⟨o,r⟩
 ·exact x a u r
 ·obtain⟨_,q⟩:=x a _ r;exact q
def Mut:Option HO->Prop
 |some (.lst _)=>True
 |some (.dK _)=>True
 |some (.dT _)=>True
 |some (.set _ _)=>True
 |some (.ins _ _ _)=>True
 |some (.ext _)=>True
 |_=>False
section
variable {P:Program}{w:World}{H:Hp}{h h':Heap}{x e:Addr}{o':HO}
theorem HOk.write (ok:HOk P w H h)(mu:Mut (H x))(he:e=x\/H e=some (.own x))(k:∀b u,b≠e->h.get? b=some u->h'.get? b=some u)(heo:∃u,h'.get? e=some u)
  (new:jaC P w (upd H x o') h' x o'):HOk P w (upd H x o') h':=λb u q=>by
 have nown:∀c y,H c=some (.own y)->c≠x:=λc y r z=>by subst z;rw[r]at mu;exact mu
 have ntup:∀c xs,H c=some (.tup xs)->c≠x:=λc xs r z=>by subst z;rw[r]at mu;exact mu
 by_cases hb:b=x
 ·subst hb;rw[jao]at q;cases q;exact new
 ·rw[jac hb]at q;by_cases hbe:b=e
  ·have q':H b=some (.own x):=by
    rcases he with z|z
    ·exact absurd (hbe.trans z) hb
    ·rw[hbe];exact z
   rw[q]at q';cases q';obtain⟨v,hv⟩:=heo;exact⟨v,by rw[hbe];exact hv⟩
  ·refine(ok b u q).stay (λc v hc r=>k c v ?_ r) (λc r=>by rw[jac (nown c b r)];exact r) λc xs r=>by rw[jac (ntup c xs r)];exact r
   rcases hc with rfl|hc
   ·exact hbe
   ·rintro rfl;rcases he with z|z
    ·exact nown c b hc z
    ·rw[hc]at z;cases z;exact hb rfl
end

structure Un (fs ex:List Addr)(H H':Hp)(h h':Heap):Prop where
 keep:∀b o,h.get? b=some o->H b=none->b∉fs->b∉ex->h'.get? b=some o
 slot:∀b o,h.get? b=some o->H b=none->b∈fs->b∉ex->∃sl,h'.get? b=some { o with slots:=sl }
 free:∀b o,h.get? b=some o->H b=none->b∉ex->H' b=none
 there:∀b o,h.get? b=some o->b∉ex->∃o',h'.get? b=some o'
 tups:∀b xs,H b=some (.tup xs)->H' b=some (.tup xs)
 frzs:∀b o u,H b=some (.frz o u)->H' b=some (.frz o u)
 tbls:∀b ps,H b=some (.tbl ps)->∃more,H' b=some (.tbl (ps++more))
section
variable {fs fs' ex ex':List Addr}{H H1 H2:Hp}{h h1 h2 h':Heap}{a x e:Addr}{o:HO}
theorem Un.any (u:Un fs ex H H1 h h1){b:Addr}{ob:Obj}(q:h.get? b=some ob)(n:H b=none)(hx:b∉ex):∃sl,h1.get? b=some { ob with slots:=sl }:=by
 by_cases hb:b∈fs
 ·exact u.slot b ob q n hb hx
 ·exact⟨ob.slots,u.keep b ob q n hb hx⟩
theorem Un.kept (k:∀b u,h.get? b=some u->h'.get? b=some u):Un fs ex H H h h':=
 ⟨λb ob q _ _ _=>k b ob q,λb ob q _ _ _=>⟨ob.slots,k b ob q⟩,λ_ _ _ n _=>n,λb ob q _=>⟨ob,k b ob q⟩,λ_ _ q=>q,λ_ _ _ q=>q,λ_ ps q=>⟨#[],by rw[q];simp⟩⟩
theorem Un.refl:Un fs ex H H h h:=Un.kept λ_ _ q=>q
theorem Un.laid (k:∀b u,h.get? b=some u->h'.get? b=some u)(hp:h.objs.size<=a)(hn:H a=none):Un fs ex H (upd H a o) h h' where
 keep:=λb u q _ _ _=>k b u q
 slot:=λb u q _ _ _=>⟨u.slots,k b u q⟩
 free:=λb u q n _=>by rw[jac (Yax (Yau (Yao q) hp))];exact n
 there:=λb u q _=>⟨u,k b u q⟩
 tups:=λb xs q=>by rw[jac (jah q hn)];exact q
 frzs:=λb u xs q=>by rw[jac (jah q hn)];exact q
 tbls:=λb ps q=>⟨#[],by rw[jac (jah q hn),q];simp⟩
theorem Un.write (mu:Mut (H x))(he:e=x\/H e=some (.own x))(k:∀b u,b≠e->h.get? b=some u->h'.get? b=some u)(heo:∃u,h'.get? e=some u):Un fs ex H (upd H x o) h h':=by
 have hx:∀b,H b=none->b≠x:=λb n z=>by subst z;rw[n]at mu;exact mu
 have hb:∀b,H b=none->b≠e:=λb n z=>by
  subst z;rcases he with r|r
  ·exact hx b n r
  ·rw[n]at r;cases r
 have hm:∀b u,H b=some u->¬Mut (some u)->b≠x:=λb u q nm z=>by subst z;rw[q]at mu;exact nm mu
 refine⟨λb u q n _ _=>k b u (hb b n) q,λb u q n _ _=>⟨u.slots,k b u (hb b n) q⟩,λb u q n _=>by rw[jac (hx b n)];exact n,λb u q _=>?_,
  λb xs q=>by rw[jac (hm b _ q λz=>z)];exact q,λb u xs q=>by rw[jac (hm b _ q λz=>z)];exact q,λb ps q=>⟨#[],by rw[jac (hm b _ q λz=>z),q];simp⟩⟩
 by_cases hbe:b=e
 ·subst hbe;exact heo
 ·exact⟨u,k b u hbe q⟩
end

noncomputable def trk (h:Heap)(H:Hp):List Addr:=(YaX h.objs.size).filter λa=>(H a).isSome
noncomputable def hidT (h:Heap)(H:Hp):Heap:=PySem.W.hideAll h (trk h H)
theorem jhe (h:Heap)(H:Hp):(hidT h H).objs.size=h.objs.size:=PySem.W.hideAll_size _ _
section
variable {h:Heap}{H:Hp}{b:Addr}{o:Obj}
theorem jdU (e:h.get? b=some o)(n:H b=none):(hidT h H).get? b=some o:=
 PySem.W.hideAll_get _ e λhm=>by
  have q:(H b).isSome=true:=(List.mem_filter.mp hm).2;rw[n]at q;simp at q
theorem jke (e:(hidT h H).get? b=some o):h.get? b=some o/\H b=none:=by
 have e':h.get? b=some o:=PySem.W.of_hideAll (trk h H) e;refine⟨e',?_⟩;cases q:H b with
 |none=>rfl
 |some x=>
  have hm:b∈trk h H:=List.mem_filter.mpr ⟨List.mem_range.mpr (Yao e'),by simp[q]⟩
  have z:(hidT h H).get? b=none:=PySem.W.hideAll_none (trk h H) hm;rw[z]at e;cases e

end
noncomputable def jkX (g h:Heap)(L:Addr):List (Addr×Obj):=(YaX h.objs.size).filterMap λa=>if a=L\/(g.get? a).isSome=true then none else (h.get? a).map λo=>(a,o)
noncomputable def rest (g h:Heap)(L d:Addr):List (Addr×Obj):=(jkX g h L).filter λp=>decide (p.1≠d)

structure Mod (K:Yab)(mg:Str->Option Value)(base:Heap):Prop where
 kin:K.In base
 glob:base.Ns YaK mg
 blt:∃mb,base.Ns Ydd mb/\∀x:Str,x ≠ "__name__" -> mb x=YbS x
 nolimit:base.NoLimit
 sys:∃o,K.lookup YaV=some o/\o.cls=.type "dict"

structure Cx where
 prog:Program
 w:World
 K:Yab
 mg:Str->Option Value
 base:Heap
 A:Around
 N:List Str
 s₀:Shared
 H₀:Hp
 env:Env
 outer:List Env
 stack:List Env
 ex:List Addr
 fn:Str->Bool
 calm:Bool
 pn:List (Addr×Obj)
 xe:Value->Shared->Prop
noncomputable def frs (l:List Env):List Addr:=l.filterMap (·.frame)
noncomputable abbrev Cx.fs (X:Cx):List Addr:=frs X.outer

def Vis (sc:Scope)(x:Str):Prop:=sc.names.lookup x=some .local\/sc.names.lookup x=some .cell\/sc.names.lookup x=some .free
def Loc (sc:Scope)(x:Str):Prop:=sc.names.lookup x=some .local\/sc.names.lookup x=some .cell
def Look (env:Env)(h:Heap)(m:Str->Option Value)(x:Str)(u:Value):Prop:=
 (env.kindOf x=some .local/\m x=some u)\/((env.kindOf x=some .cell\/env.kindOf x=some .free)/\∃c,env.cells.lookup x=some c/\h.IsCell c (some u))

structure Cx.Ok (X:Cx):Prop where
 mod:Mod X.K X.mg X.base
 kind:X.env.scope.kind=.function
 glob:X.env.globals=YaK
 blt:X.env.builtins=Ydd
 above:X.s₀.heap.objs.size<=X.env.locals
 inj:∀x y c,X.env.cells.lookup x=some c->X.env.cells.lookup y=some c->x=y
 has:∀x,(X.env.kindOf x=some .cell\/X.env.kindOf x=some .free)->∃c,X.env.cells.lookup x=some c
 cab:∀x c,X.fn x=true->X.env.cells.lookup x=some c->X.s₀.heap.objs.size<=c
 hd:X.calm=true->X.A.handled=none
 frames:X.A.frames=some X.stack
 stk:X.stack=X.outer\/(X.stack=X.env::X.outer/\X.env.frame=some X.env.locals)
 exf:∀b∈X.ex,b≠X.env.locals/\∀x c,X.env.cells.lookup x=some c->c≠b
 bs:∀b o,X.base.get? b=some o->X.s₀.heap.get? b=some o/\X.H₀ b=none
 bsz:X.base.objs.size<=X.s₀.heap.objs.size
 noex:∀b o,X.base.get? b=some o->b∉X.ex
 exfs:∀b∈X.ex,b∉X.fs
 funs:X.s₀.heap.FunFrames X.base X.outer
 frf:∀b∈X.fs,X.H₀ b=none

structure Inv (X:Cx)(pins:List (Addr×Obj))(σ:List (Option V))(H:Hp)(s:Shared):Prop where
 ok:X.Ok
 os:s.os=X.s₀.os
 bare:AllBare s.gens
 base:Un X.fs X.ex X.H₀ H X.s₀.heap s.heap
 loc:∃m,s.heap.Ns X.env.locals m/\∀(i:Nat) (x:Str) (v:V),X.N[i]?=some x->σ[i]?=some (some v)->Vis X.env.scope x->∃u,RelV v u/\Look X.env s.heap m x u
 cell:∀x c,X.env.cells.lookup x=some c->∃v,s.heap.IsCell c v
 free:H X.env.locals=none
 freeC:∀x c,X.env.cells.lookup x=some c->H c=none
 pin:∀p∈X.pn++pins,s.heap.get? p.1=some p.2/\H p.1=none/\p.1≠X.env.locals/\p.1∉X.fs/\∀v,p.2.data≠.cell v
 hok:HOk X.prog X.w H s.heap
 len:σ.length=X.N.length

section
variable {X:Cx}{pins:List (Addr×Obj)}{σ:List (Option V)}{H H':Hp}{s:Shared}{h':Heap}

theorem Cx.Ok.nofr (ok:X.Ok){b:Addr}{o:Obj}(e:X.base.get? b=some o):b∉X.fs:=λhb=>by
 have:=(ok.funs.mem hb).1;rw[e]at this;cases this
theorem Inv.bs (I:Inv X pins σ H s):∀b o,X.base.get? b=some o->s.heap.get? b=some o/\H b=none:=λb o e=>
 ⟨I.base.keep b o (I.ok.bs b o e).1 (I.ok.bs b o e).2 (I.ok.nofr e) (I.ok.noex b o e),I.base.free b o (I.ok.bs b o e).1 (I.ok.bs b o e).2 (I.ok.noex b o e)⟩
theorem Inv.bk (I:Inv X pins σ H s):∀b o,X.base.get? b=some o->s.heap.get? b=some o:=λb o e=>(I.bs b o e).1
theorem Inv.mod (I:Inv X pins σ H s):Mod X.K X.mg X.base:=I.ok.mod
theorem Inv.kIn (I:Inv X pins σ H s):X.K.In s.heap:=I.ok.mod.kin.keeps I.bk
theorem Inv.lt (I:Inv X pins σ H s):X.env.locals<s.heap.objs.size:=let ⟨_,hn,_⟩:=I.loc;hn.lt
theorem Inv.sz (I:Inv X pins σ H s):X.s₀.heap.objs.size<=s.heap.objs.size:=Yal I.ok.above (Yb0 I.lt)
theorem Inv.nofs (I:Inv X pins σ H s){a:Addr}(h:s.heap.objs.size<=a):a∉X.fs:=λhb=>by
 obtain⟨_,o,ho,_⟩:=I.ok.funs.mem hb;exact absurd (Yau (Yao ho) (Yal I.sz h)) (Ybf _)
theorem Inv.cne (I:Inv X pins σ H s):∀x c,X.env.cells.lookup x=some c->c≠X.env.locals:=λx c e z=>by
 obtain⟨v,o,ho,hd⟩:=I.cell x c e;obtain⟨m,⟨o',es,ep,ho',hd',_⟩,_⟩:=I.loc;rw[z,ho']at ho;cases ho;rw[hd']at hd;cases hd
theorem Inv.funs (I:Inv X pins σ H s):s.heap.FunFrames X.base X.outer:=by
 have all:∀(l:List Env),(∀b∈frs l,b∈X.fs)->X.s₀.heap.FunFrames X.base l->s.heap.FunFrames X.base l:=by
  intro l
  induction l with
  |nil=>intro _ _;trivial
  |cons env r ih=>
   intro hs hl;obtain⟨hk,⟨L,o,hf,hn,ho,hd⟩,hr⟩:=hl;have hL:L∈X.fs:=hs L (by unfold frs;rw[YbY,hf];exact Yat)
   obtain⟨sl,e⟩:=I.base.slot L o ho (I.ok.frf L hL) hL λz=>I.ok.exfs L z hL;exact⟨hk,⟨L,_,hf,hn,e,hd⟩,ih (λb hb=>hs b (by unfold frs;rw[YbY,hf];exact Yaj _ hb)) hr⟩
 exact all X.outer (λ_ hb=>hb) I.ok.funs

theorem Inv.stack (I:Inv X pins σ H s):s.heap.FunFrames X.base X.stack:=by
 rcases I.ok.stk with e|⟨e,hf⟩
 ·rw[e];exact I.funs
 ·rw[e];obtain⟨m,hn,_⟩:=I.loc;refine .cons (by rw[I.ok.kind];decide) hf hn ?_ I.funs
  exact Heap.get?_none_of_le (Yal I.ok.bsz I.ok.above)
theorem Inv.stkSub (I:Inv X pins σ H s):∀b∈frs X.stack,b∈X.env.locals::X.fs:=λb hb=>by
 rcases I.ok.stk with e|⟨e,hf⟩
 ·rw[e]at hb;exact Yaj _ hb
 ·rw[e]at hb;unfold frs at hb;rw[YbY,hf]at hb;exact hb
theorem Inv.stkFree (I:Inv X pins σ H s):∀b∈frs X.stack,H b=none:=λb hb=>by
 rcases YaO.mp (I.stkSub b hb)with e|hb
 ·rw[e];exact I.free
 ·obtain⟨_,o,ho,_⟩:=I.ok.funs.mem hb;exact I.base.free b o ho (I.ok.frf b hb) λz=>I.ok.exfs b z hb

theorem Inv.step {g':Array YdJ}{t':Nat}{d':Drawn}{ch:List Addr}(I:Inv X pins σ H s)
  (hch:∀b∈ch,(b∈X.ex\/X.s₀.heap.objs.size<=b)/\b≠X.env.locals/\(∀x c,X.env.cells.lookup x=some c->c≠b)/\∀p∈X.pn++pins,p.1≠b)
  (keep:∀b o,b≠X.env.locals->b∉X.fs->b∉ch->s.heap.get? b=some o->H b=none->h'.get? b=some o)
  (slot:∀b o,b≠X.env.locals->b∈X.fs->b∉ch->s.heap.get? b=some o->H b=none->∃sl,h'.get? b=some { o with slots:=sl }) (free:∀b o,b∉ch->s.heap.get? b=some o->H b=none->H' b=none)
  (there:∀b o,b∉ch->s.heap.get? b=some o->∃o',h'.get? b=some o')
  (tups:∀b xs,H b=some (.tup xs)->H' b=some (.tup xs)) (frzs:∀b o u,H b=some (.frz o u)->H' b=some (.frz o u)) (tbls:∀b ps,H b=some (.tbl ps)->∃more,H' b=some (.tbl (ps++more)))
  (ns:∀m,s.heap.Ns X.env.locals m->h'.Ns X.env.locals m) (hok:HOk X.prog X.w H' h') (hg:AllBare g') :
  Inv X pins σ H' { s with heap:=h',gens:=g',drawn:=d',toks:=t' }:=by
 have neL:∀b o,X.s₀.heap.get? b=some o->b≠X.env.locals:=λb o e=>Yax (Yau (Yao e) I.ok.above);have neC:∀b o,X.s₀.heap.get? b=some o->b∉X.ex->b∉ch:=λb o e hx hb=>by
  rcases(hch b hb).1 with z|z
  ·exact hx z
  ·exact absurd (Yau (Yao e) z) (Ybf _)
 have cellK:∀x c,X.env.cells.lookup x=some c->∀v,s.heap.IsCell c v->h'.IsCell c v:=λx c e v ⟨o,ho,hd⟩=>by
  have nch:c∉ch:=λz=>(hch c z).2.2.1 x c e rfl;by_cases hc:c∈X.fs
  ·obtain⟨sl,q⟩:=slot c o (I.cne x c e) hc nch ho (I.freeC x c e);exact⟨_,q,hd⟩
  ·exact⟨o,keep c o (I.cne x c e) hc nch ho (I.freeC x c e),hd⟩
 refine⟨I.ok,I.os,hg,⟨λb o e n hb hx=>?_,λb o e n hb hx=>?_,λb o e n hx=>?_,λb o e hx=>?_,λb xs e=>tups b xs (I.base.tups b xs e),λb o xs e=>frzs b o xs (I.base.frzs b o xs e),λb ps e=>?_⟩,?_,λx c e=>?_,?_,λx c e=>?_,λp hp=>?_,hok,I.len⟩
 ·exact keep b o (neL b o e) hb (neC b o e hx) (I.base.keep b o e n hb hx) (I.base.free b o e n hx)
 ·obtain⟨sl,e1⟩:=I.base.slot b o e n hb hx;obtain⟨sl',e2⟩:=slot b _ (neL b o e) hb (neC b o e hx) e1 (I.base.free b o e n hx);exact⟨sl',e2⟩
 ·obtain⟨o',e1⟩:=I.base.there b o e hx;exact free b o' (neC b o e hx) e1 (I.base.free b o e n hx)
 ·obtain⟨o',e1⟩:=I.base.there b o e hx;exact there b o' (neC b o e hx) e1
 ·obtain⟨m1,e1⟩:=I.base.tbls b ps e;obtain⟨m2,e2⟩:=tbls b _ e1;exact⟨m1++m2,by rw[e2,Array.append_assoc]⟩
 ·obtain⟨m,hn,hl⟩:=I.loc;refine⟨m,ns m hn,λi x v e1 e2 e3=>?_⟩;obtain⟨u,r,l⟩:=hl i x v e1 e2 e3;refine⟨u,r,?_⟩;rcases l with l|⟨k,c,e,z⟩
  ·exact .inl l
  ·exact .inr ⟨k,c,e,cellK x c e _ z⟩
 ·obtain⟨v,z⟩:=I.cell x c e;exact⟨v,cellK x c e v z⟩
 ·obtain⟨m,⟨o,_,_,ho,_⟩,_⟩:=I.loc;exact free _ o (λz=>(hch _ z).2.1 rfl) ho I.free
 ·obtain⟨v,o,ho,hd⟩:=I.cell x c e;exact free c o (λz=>(hch c z).2.2.1 x c e rfl) ho (I.freeC x c e)
 ·obtain⟨e,n,ne,nf,d⟩:=I.pin p hp;have nch:p.1∉ch:=λz=>(hch p.1 z).2.2.2 p hp rfl;exact⟨keep p.1 p.2 ne nf nch e n,free p.1 p.2 nch e n,ne,nf,d⟩
theorem Inv.un {t':Nat}(I:Inv X pins σ H s)(u:Un X.fs [] H H' s.heap h')(hok:HOk X.prog X.w H' h'):Inv X pins σ H' { s with heap:=h',toks:=t' }:=by
 obtain⟨m,⟨o,es,ep,ho,r⟩,_⟩:=id I.loc;obtain⟨sl,hL⟩:=u.any ho I.free (by simp)
 exact I.step (g':=s.gens) (d':=s.drawn) (ch:=[]) (λ_ z=>nomatch z) (λb o _ hb _ e n=>u.keep b o e n hb (by simp)) (λb o _ hb _ e n=>u.slot b o e n hb (by simp)) (λb o _ e n=>u.free b o e n (by simp)) (λb o _ e=>u.there b o e (by simp)) u.tups u.frzs u.tbls (λm' hm=>by
  obtain⟨o',es',ep',ho',r'⟩:=hm;rw[ho]at ho';cases ho';exact⟨_,es',ep',hL,r'⟩) hok I.bare
theorem Inv.call {g':Array YdJ}{t':Nat}{d':Drawn}{ch:List Addr}(I:Inv X pins σ H s)(u:Un (frs X.stack) ch H H' s.heap h')(hok:HOk X.prog X.w H' h')(hg:AllBare g')
  (hch:∀b∈ch,(b∈X.ex\/X.s₀.heap.objs.size<=b)/\b≠X.env.locals/\(∀x c,X.env.cells.lookup x=some c->c≠b)/\∀p∈X.pn++pins,p.1≠b) :
  Inv X pins σ H' { s with heap:=h',gens:=g',drawn:=d',toks:=t' }:=by
 obtain⟨m,⟨o,es,ep,ho,r⟩,_⟩:=id I.loc;obtain⟨sl,hL⟩:=u.any ho I.free λz=>(hch _ z).2.1 rfl;exact I.step (ch:=ch) hch (λb o hL hb hc e n=>u.keep b o e n (λz=>(YaO.mp (I.stkSub b z)).elim hL hb) hc) (λb o _ _ hc e n=>u.any e n hc) (λb o hc e n=>u.free b o e n hc) (λb o hc e=>u.there b o e hc) u.tups u.frzs u.tbls (λm' hm=>by
  obtain⟨o',es',ep',ho',r'⟩:=hm;rw[ho]at ho';cases ho';exact⟨_,es',ep',hL,r'⟩) hok hg
theorem Inv.turned {t':Nat}{it:Addr}(I:Inv X pins σ H s)(k:∀b o,b≠it->s.heap.get? b=some o->h'.get? b=some o)(hn:H it=none)(hL:it≠X.env.locals)
  (h1:it∈X.ex\/X.s₀.heap.objs.size<=it) (h2:∀x c,X.env.cells.lookup x=some c->c≠it) (h3:∀p∈X.pn++pins,p.1≠it):Inv X pins σ H { s with heap:=h',toks:=t' }:=by
 have nit:∀b u,H b=some u->b≠it:=λb u e z=>by rw[z,hn]at e;cases e
 refine I.step (g':=s.gens) (d':=s.drawn) (ch:=[it]) (λb hb=>?_) (λb o _ _ hc e _=>k b o (λz=>hc (by simp[z])) e) (λb o _ _ hc e _=>⟨o.slots,k b o (λz=>hc (by simp[z])) e⟩) (λ_ _ _ _ n=>n)
  (λb o hc e=>⟨o,k b o (λz=>hc (by simp[z])) e⟩) (λ_ _ e=>e) (λ_ _ _ e=>e) (λb ps e=>⟨#[],by rw[e];simp⟩) (λm hm=>?_) (λb u e=>?_) I.bare
 ·have e:b=it:=by simpa using hb
  subst e;exact⟨h1,hL,h2,h3⟩
 ·obtain⟨o,es,ep,ho,r⟩:=hm;exact⟨o,es,ep,k _ o (Ne.symm hL) ho,r⟩
 ·refine(I.hok b u e).stay (λc v hc q=>k c v ?_ q) (λ_ q=>q) λ_ _ q=>q;rcases hc with z|z
  ·rw[z];exact nit b u e
  ·exact nit c _ z
theorem Inv.tok (I:Inv X pins σ H s)(t:Nat):Inv X pins σ H { s with toks:=t }:=I.un (h':=s.heap) (t':=t) Un.refl I.hok
theorem Inv.kept {t':Nat}(I:Inv X pins σ H s)(k:∀b u,s.heap.get? b=some u->h'.get? b=some u):Inv X pins σ H { s with heap:=h',toks:=t' }:=I.un (Un.kept k) (I.hok.kept k)
theorem Inv.laid {a:Addr}{o:HO}{t':Nat}(I:Inv X pins σ H s)(k:∀b u,s.heap.get? b=some u->h'.get? b=some u)(hp:s.heap.objs.size<=a)(new:jaC X.prog X.w (upd H a o) h' a o) :
  Inv X pins σ (upd H a o) { s with heap:=h',toks:=t' }:=I.un (Un.laid k hp (I.hok.fresh hp)) (I.hok.laid k hp new)
theorem Inv.write {x e:Addr}{o:HO}{t':Nat}(I:Inv X pins σ H s)(mu:Mut (H x))(he:e=x\/H e=some (.own x))(k:∀b u,b≠e->s.heap.get? b=some u->h'.get? b=some u)(heo:∃u,h'.get? e=some u)
  (new:jaC X.prog X.w (upd H x o) h' x o):Inv X pins σ (upd H x o) { s with heap:=h',toks:=t' }:=I.un (Un.write mu he k heo) (I.hok.write mu he k heo new)
theorem Inv.pins_of {pins':List (Addr×Obj)}(I:Inv X pins σ H s)(h:∀p∈pins',s.heap.get? p.1=some p.2/\H p.1=none/\p.1≠X.env.locals/\p.1∉X.fs/\∀v,p.2.data≠.cell v):Inv X pins' σ H s:=
 ⟨I.ok,I.os,I.bare,I.base,I.loc,I.cell,I.free,I.freeC,λp hp=>(List.mem_append.mp hp).elim (λz=>I.pin p (Yaw _ z)) (h p),I.hok,I.len⟩

theorem jfw {N:List Str}(hN:N.Nodup){i j:Nat}{x:Str}(a:N[i]?=some x)(b:N[j]?=some x):i=j:=by
 obtain⟨h1,e1⟩:=List.getElem?_eq_some_iff.mp a;obtain⟨h2,e2⟩:=List.getElem?_eq_some_iff.mp b;exact(List.getElem_inj hN).mp (e1.trans e2.symm)

section
variable {M:Model}{A:Around}{E:Value->Shared->Prop}{i:Nat}{x:Str}{v:V}{u:Value}{Q:Unit->Shared->Prop}
theorem jd8 (I:Inv X pins σ H s)(hN:X.N.Nodup)(hi:X.N[i]?=some x)(hx:Loc X.env.scope x)(r:RelV v u)
  (h:∀s',Inv X pins (σ.set i (some v)) H s'->(∃a,Ycv a s.heap s'.heap/\(a=X.env.locals\/X.env.cells.lookup x=some a))->Q () s') (hf:X.fn x=true\/X.env.scope.names.lookup x=some .local:=by first|exact .inl rfl|exact .inr rfl|assumption):wpAny M A (storeName X.env x u) Q E s:=by
 obtain⟨m,hn,hl⟩:=id I.loc;have hcls:(X.env.scope.kind == .class||(X.env.scope.kind == .module&&X.env.locals != X.env.globals))=false:=by rw[I.ok.kind];rfl
 have hiσ:i<σ.length:=by rw[I.len];exact(List.getElem?_eq_some_iff.mp hi).1
 have cne:=I.cne;have tracked:∀{a:Addr} {h':Heap},(∃o,s.heap.get? a=some o/\H a=none)->Ycv a s.heap h'->HOk X.prog X.w H h':=λ{a h'} ha hs b ob e=>by
  obtain⟨_,_,hfree⟩:=ha;refine(I.hok b ob e).stay (λc w' hc q=>(hs.2 c ?_).trans q) (λ_ q=>q) λ_ _ q=>q;rintro rfl;rcases hc with rfl|hc
  ·rw[hfree]at e;cases e
  ·rw[hfree]at hc;cases hc
 rcases hx with hk|hk
 ·refine wpAny_storeName_local hk hn (λh' hn' hs=>?_) hcls;obtain⟨oL,_,_,hoL,_⟩:=id hn;refine h _ ⟨I.ok,I.os,I.bare,⟨λb o e n hb hx=>?_,λb o e n hb hx=>?_,I.base.free,λb o e hx=>?_,I.base.tups,I.base.frzs,I.base.tbls⟩,⟨_,hn',λj y v' e1 e2 e3=>?_⟩,λy c e=>?_,I.free,I.freeC,λp hp=>?_,tracked ⟨oL,hoL,I.free⟩ hs,by simpa using I.len⟩ ⟨_,hs,.inl rfl⟩
  ·exact(hs.2 b (Yax (Yau (Yao e) I.ok.above))).trans (I.base.keep b o e n hb hx)
  ·obtain⟨sl,e1⟩:=I.base.slot b o e n hb hx;exact⟨sl,(hs.2 b (Yax (Yau (Yao e) I.ok.above))).trans e1⟩
  ·obtain⟨o',e1⟩:=I.base.there b o e hx;exact⟨o',(hs.2 b (Yax (Yau (Yao e) I.ok.above))).trans e1⟩
  ·by_cases hj:j=i
   ·subst hj;rw[hi]at e1;cases e1;rw[Ybe hiσ]at e2;cases e2;exact⟨u,r,.inl ⟨hk,by simp⟩⟩
   ·rw[Ya2 (Ne.symm hj)]at e2;obtain⟨u',r',q⟩:=hl j y v' e1 e2 e3;refine⟨u',r',?_⟩;rcases q with⟨k,e⟩|⟨k,c,e,z⟩
    ·refine .inl ⟨k,?_⟩;have:y≠x:=λe=>hj (jfw hN e1 (e ▸ hi));simp[this,e]
    ·exact .inr ⟨k,c,e,z.sameBut hs (cne y c e)⟩
  ·obtain⟨w',z⟩:=I.cell y c e;exact⟨w',z.sameBut hs (cne y c e)⟩
  ·obtain⟨e,n,ne,nf,d⟩:=I.pin p hp;exact⟨(hs.2 p.1 ne).trans e,n,ne,nf,d⟩
 ·have hfn:X.fn x=true:=by
   rcases hf with z|z
   ·exact z
   ·rw[z]at hk;cases hk
  obtain⟨c,hc⟩:=I.ok.has x (.inl hk);obtain⟨w',z⟩:=I.cell x c hc;refine wpAny_storeName_cell I.ok.kind hk hc z (λh' hc' hs=>?_);obtain⟨oc,hoc,hocd⟩:=id z;refine h { s with heap:=h' } ⟨I.ok,I.os,I.bare,⟨λb o e n hb hx=>?_,λb o e n hb hx=>?_,I.base.free,λb o e hx=>?_,I.base.tups,I.base.frzs,I.base.tbls⟩,⟨m,hn.sameBut hs (Ne.symm (cne x c hc)),λj y v' e1 e2 e3=>?_⟩,λy c' e=>?_,I.free,I.freeC,λp hp=>?_,tracked ⟨oc,hoc,I.freeC x c hc⟩ hs,by simpa using I.len⟩ ⟨c,hs,.inr hc⟩
  ·exact(hs.2 b (Yax (Yau (Yao e) (I.ok.cab x c hfn hc)))).trans (I.base.keep b o e n hb hx)
  ·obtain⟨sl,e1⟩:=I.base.slot b o e n hb hx;exact⟨sl,(hs.2 b (Yax (Yau (Yao e) (I.ok.cab x c hfn hc)))).trans e1⟩
  ·obtain⟨o',e1⟩:=I.base.there b o e hx;exact⟨o',(hs.2 b (Yax (Yau (Yao e) (I.ok.cab x c hfn hc)))).trans e1⟩
  ·by_cases hj:j=i
   ·subst hj;rw[hi]at e1;cases e1;rw[Ybe hiσ]at e2;cases e2;exact⟨u,r,.inr ⟨.inl hk,c,hc,hc'⟩⟩
   ·rw[Ya2 (Ne.symm hj)]at e2;obtain⟨u',r',q⟩:=hl j y v' e1 e2 e3;refine⟨u',r',?_⟩;rcases q with q|⟨k,c',e,z'⟩
    ·exact .inl q
    ·refine .inr ⟨k,c',e,z'.sameBut hs ?_⟩;rintro rfl;exact hj (jfw hN e1 (I.ok.inj _ _ _ e hc ▸ hi))
  ·by_cases hcc:c'=c
   ·subst hcc;exact⟨_,hc'⟩
   ·obtain⟨w2,z2⟩:=I.cell y c' e;exact⟨w2,z2.sameBut hs hcc⟩
  ·obtain⟨e,n,ne,nf,d⟩:=I.pin p hp;refine⟨(hs.2 p.1 ?_).trans e,n,ne,nf,d⟩;intro q;rw[q,hoc]at e;have q':oc=p.2:=Yar e;exact d w' (by rw[<- q'];exact hocd)
theorem jcL (I:Inv X pins σ H s)(hN:X.N.Nodup)(hi:X.N[i]?=some x)(hx:Loc X.env.scope x)(r:RelV v u)
  (h:∀s',Inv X pins (σ.set i (some v)) H s'->Q () s') (hf:X.fn x=true\/X.env.scope.names.lookup x=some .local:=by first|exact .inl rfl|exact .inr rfl|assumption):wpAny M A (storeName X.env x u) Q E s:=
 jd8 I hN hi hx r (λs' I' _=>h s' I') hf
end
theorem Inv.call' {s':Shared}{ch:List Addr}(I:Inv X pins σ H s)(ho:s'.os=s.os)(u:Un (frs X.stack) ch H H' s.heap s'.heap)(hok:HOk X.prog X.w H' s'.heap)(hg:AllBare s'.gens)
  (hch:∀b∈ch,(b∈X.ex\/X.s₀.heap.objs.size<=b)/\b≠X.env.locals/\(∀x c,X.env.cells.lookup x=some c->c≠b)/\∀p∈X.pn++pins,p.1≠b):Inv X pins σ H' s':=by
 obtain⟨h',g',d',t',o'⟩:=s';have e:o'=s.os:=ho;subst e;exact I.call (g':=g') (t':=t') (d':=d') u hok hg hch
end

abbrev XK:=Value->Option Addr->Hp->Prop
abbrev St:=List (Option V)
abbrev VK:=V->Hp->Prop
abbrev TE:=St->Hp->VK->Prop
abbrev TT:=St->Hp->(Bool->Hp->Prop)->Prop
abbrev TA:=St->Hp->(List V->Hp->Prop)->Prop
structure Ends where
 nx:St->Hp->Prop
 rt:VK
 bk:St->Hp->Prop:=λ_ _=>False
 ct:St->Hp->Prop:=λ_ _=>False
abbrev TS:=Ends->St->Hp->Prop

def EP (X:Cx)(pins:List (Addr×Obj))(σ:St)(Q:VK)(u:Value)(s':Shared):Prop:=∃v H',Inv X pins σ H' s'/\RelV v u/\Q v H'
def TP (X:Cx)(pins:List (Addr×Obj))(σ:St)(Q:Bool->Hp->Prop)(b:Bool)(s':Shared):Prop:=∃H',Inv X pins σ H' s'/\Q b H'
def AP (X:Cx)(pins:List (Addr×Obj))(σ:St)(Q:List V->Hp->Prop)(us:List Value)(s':Shared):Prop:=∃vs H',Inv X pins σ H' s'/\Vals vs us/\Q vs H'
def SP (X:Cx)(pins:List (Addr×Obj))(D:Ends)(f:Flow)(s':Shared):Prop:=
 match f with
 |.next=>∃σ' H',Inv X pins σ' H' s'/\D.nx σ' H'
 |.brk=>∃σ' H',Inv X pins σ' H' s'/\D.bk σ' H'
 |.cont=>∃σ' H',Inv X pins σ' H' s'/\D.ct σ' H'
 |.ret u=>∃v σ' H',Inv X pins σ' H' s'/\RelV v u/\D.rt v H'

def PE (X:Cx)(e:Expr)(t:TE):Prop:=
 ∀(pins:List (Addr×Obj)) (s:Shared) (σ:St) (H:Hp) (Q:VK),Inv X pins σ H s->t σ H Q->wpAny (model X.prog X.w) X.A (eval e X.env) (EP X pins σ Q) X.xe s
def PT (X:Cx)(e:Expr)(t:TT):Prop:=
 ∀(pins:List (Addr×Obj)) (s:Shared) (σ:St) (H:Hp) (Q:Bool->Hp->Prop),Inv X pins σ H s->t σ H Q->wpAny (model X.prog X.w) X.A (isTrue e X.env (eval e X.env)) (TP X pins σ Q) X.xe s
def PW (X:Cx)(e:Expr)(t:TT):Prop:=
 ∀(whole:Sem Value) (pins:List (Addr×Obj)) (s:Shared) (σ:St) (H:Hp) (Q:Bool->Hp->Prop),Inv X pins σ H s->t σ H Q->wpAny (model X.prog X.w) X.A (isTrue e X.env whole) (TP X pins σ Q) X.xe s
theorem PW.pt {X:Cx}{e:Expr}{t:TT}(h:PW X e t):PT X e t:=h _
def PA (X:Cx)(es:List Expr)(t:TA):Prop:=
 ∀(pos:Pos) (pins:List (Addr×Obj)) (s:Shared) (σ:St) (H:Hp) (Q:List V->Hp->Prop),Inv X pins σ H s->t σ H Q->wpAny (model X.prog X.w) X.A (spliced (backTo pos (YaG es X.env))) (AP X pins σ Q) X.xe s
def PS (X:Cx)(st:Stmt)(t:TS):Prop:=
 ∀(pins:List (Addr×Obj)) (s:Shared) (σ:St) (H:Hp) (D:Ends),Inv X pins σ H s->t D σ H->wpAny (model X.prog X.w) X.A (exec st X.env) (SP X pins D) X.xe s
def PSs (X:Cx)(st:List Stmt)(t:TS):Prop:=
 ∀(pins:List (Addr×Obj)) (s:Shared) (σ:St) (H:Hp) (D:Ends),Inv X pins σ H s->t D σ H->wpAny (model X.prog X.w) X.A (execs st X.env) (SP X pins D) X.xe s
theorem thn {α:Type}{t:Sem α}{Q Q':α->Shared->Prop}{M:Model}{A:Around}{E:Value->Shared->Prop}{s:Shared}(h:wpAny M A t Q E s)(hQ:∀a s,Q a s->Q' a s):wpAny M A t Q' E s:=Ybh h hQ λ_ _ x=>x
section
variable {X:Cx}

def tVar (i:Nat):TE:=λσ H Q=>∃v,σ[i]?=some (some v)/\Q v H
def tC (v:V):TE:=λ_ H Q=>Q v H
theorem jlR {i:Nat}{x:Str}{pos:Pos}(hN:X.N[i]?=some x)(hv:Vis X.env.scope x)(hd:(x==("__debug__" : Str))=false:=by decide)(hcd:(x==("__classdict__" : Str))=false:=by decide):PE X (.Name x pos) (tVar i):=by
 intro pins s σ H Q I h;obtain⟨v,e,h⟩:=h;obtain⟨m,hn,hl⟩:=I.loc;obtain⟨u,r,l⟩:=hl i x v hN e hv;have fin:EP X pins σ Q u s:=⟨v,H,I,r,h⟩;rcases l with⟨hk,hm⟩|⟨hk,c,hc,hcell⟩
 ·exact wpAny_Name (wpAny_loadName_local I.ok.kind hk hn hm fin) hd
 ·rcases hk with hk|hk
  ·exact wpAny_Name (wpAny_loadName_cell I.ok.kind hk hc hcell fin) hd
  ·exact wpAny_Name (wpAny_loadName_free I.ok.kind hk hc hcell fin hcd) hd
theorem jlY {i j pos}:PE X (.Constant (.int i) j pos) (tC (.int i)):=λ_ _ _ H _ I h=>wpAny_Constant_int ⟨.int i,H,I.tok _,⟨_,rfl⟩,h⟩
theorem jot {b j pos}:PE X (.Constant (.bool b) j pos) (tC (.bl b)):=λ_ _ _ H _ I h=>Constant_bool ⟨.bl b,H,I,rfl,h⟩
theorem jlV {j pos}:PE X (.Constant .none j pos) (tC .non):=λ_ _ _ H _ I h=>Constant_none ⟨.non,H,I,rfl,h⟩
theorem jlT {x j pos}:PE X (.Constant (.str x) j pos) (tC (.str x)):=λ_ _ _ H _ I h=>Calls.Constant_str ⟨.str x,H,I.tok _,⟨_,rfl⟩,h⟩

def Gl (X:Cx)(x:Str):Prop:=X.env.kindOf x=some .globalImplicit
section
variable {E:Value->Shared->Prop}{pins:List (Addr×Obj)}{s:Shared}{σ:St}{H:Hp}{x:Str}{u:Value}{pos:Pos}{Q:Value->Shared->Prop}
theorem jeY (I:Inv X pins σ H s)(hg:Gl X x)(hm:X.mg x=some u)(h:Q u s)
  (hd:(x==("__debug__" : Str))=false:=by decide):wpAny (model X.prog X.w) X.A (eval (.Name x pos) X.env) Q E s:=
 YdS I.ok.kind hg (Calls.loadGlobal_global (by rw[I.ok.glob];exact I.mod.glob.keeps I.bk) hm h) hd
theorem jen (I:Inv X pins σ H s)(hg:Gl X x)(hm:X.mg x=none)(hv:YbS x=some u)(h:Q u s)
  (hn:x ≠ "__name__" := by decide) (hd:(x==("__debug__" : Str))=false:=by decide):wpAny (model X.prog X.w) X.A (eval (.Name x pos) X.env) Q E s:=by
 obtain⟨mb,h1,h2⟩:=I.mod.blt;exact YdS I.ok.kind hg (Calls.loadGlobal_builtin (by rw[I.ok.glob];exact I.mod.glob.keeps I.bk) hm (by rw[I.ok.blt];exact h1.keeps I.bk) ((h2 x hn).trans hv) h) hd
end
section
variable {x:Str}{v:V}{u:Value}{pos:Pos}
theorem jjT (hg:Gl X x)(hm:X.mg x=some u)(r:RelV v u)(hd:(x==("__debug__" : Str))=false:=by decide):PE X (.Name x pos) (tC v):=
 λ_ _ _ H _ I h=>jeY I hg hm ⟨v,H,I,r,h⟩ hd
theorem jjW (hg:Gl X x)(hm:X.mg x=none)(hv:YbS x=some u)(r:RelV v u)(hn:x ≠ "__name__" := by decide)(hd:(x==("__debug__" : Str))=false:=by decide):PE X (.Name x pos) (tC v):=
 λ_ _ _ H _ I h=>jen I hg hm hv ⟨v,H,I,r,h⟩ hn hd

end
variable {a b:Expr}{ta tb:TE}{pos:Pos}
def tB (t:TE):TT:=λσ H Q=>t σ H λx H1=>∃c,x=.bl c/\Q c H1
variable {tA tB':TT}{rest:List Expr}
def tAnd (t u:TT):TT:=λσ H Q=>t σ H λc H1=>if c=true then u σ H1 Q else Q false H1
def tOr (t u:TT):TT:=λσ H Q=>t σ H λc H1=>if c=true then Q true H1 else u σ H1 Q
def tNot (t:TT):TT:=λσ H Q=>t σ H λc H1=>Q (!c) H1
theorem pw_and1 (ha:PT X a tA):PW X (.BoolOp .And [a] pos) tA:=by
 intro wh pins s σ H Q I h;refine isTrue_and (thn (ha pins s σ H Q I h) λc s1 e=>?_);cases c with
 |true=>exact isTrue_and_nil e
 |false=>exact e
theorem pw_or1 (ha:PT X a tA):PW X (.BoolOp .Or [a] pos) tA:=by
 intro wh pins s σ H Q I h;refine isTrue_or (thn (ha pins s σ H Q I h) λc s1 e=>?_);cases c with
 |false=>exact isTrue_or_nil e
 |true=>exact e
theorem pw_and (ha:PT X a tA)(hb:PW X (.BoolOp .And (b::rest) pos) tB'):PW X (.BoolOp .And (a::b::rest) pos) (tAnd tA tB'):=by
 intro wh pins s σ H Q I h;refine isTrue_and (thn (ha pins s σ H _ I h) λc s1 ⟨H1,I1,q1⟩=>?_);cases c with
 |true=>exact hb wh pins s1 σ H1 Q I1 q1
 |false=>exact⟨H1,I1,q1⟩
theorem pw_or (ha:PT X a tA)(hb:PW X (.BoolOp .Or (b::rest) pos) tB'):PW X (.BoolOp .Or (a::b::rest) pos) (tOr tA tB'):=by
 intro wh pins s σ H Q I h;refine isTrue_or (thn (ha pins s σ H _ I h) λc s1 ⟨H1,I1,q1⟩=>?_);cases c with
 |true=>exact⟨H1,I1,q1⟩
 |false=>exact hb wh pins s1 σ H1 Q I1 q1
theorem jlD (ha:PT X a tA):PT X (.UnaryOp .Not a pos) (tNot tA):=by
 intro pins s σ H Q I h;exact isTrue_not (ha pins s σ H (λc H1=>Q (!c) H1) I h)
def jp7 (ta tb:TE):TE:=λσ H Q=>ta σ H λx H1=>∃c,x=.bl c/\if c=true then tb σ H1 Q else Q (.bl false) H1
def tOrV (ta tb:TE):TE:=λσ H Q=>ta σ H λx H1=>∃c,x=.bl c/\if c=true then Q (.bl true) H1 else tb σ H1 Q
def jp6 (ta:TE):TE:=λσ H Q=>ta σ H λx H1=>∃c,x=.bl c/\Q (.bl (!c)) H1
theorem jiM {op}{t:TE}(h:PE X a t):PE X (.BoolOp op [a] pos) t:=λpins s σ H Q I hw=>BoolOp_one (h pins s σ H Q I hw)
def tIf (t:TT)(ta tb:TE):TE:=λσ H Q=>t σ H λc H1=>if c=true then ta σ H1 Q else tb σ H1 Q
theorem jh4 {c:Expr}(hc:PT X c tA)(ha:PE X a ta)(hb:PE X b tb):PE X (.IfExp c a b pos) (tIf tA ta tb):=by
 intro pins s σ H Q I h;refine wpAny_IfExp (thn (hc pins s σ H _ I h) λd s1 ⟨H1,I1,q1⟩=>?_);cases d with
 |true=>exact ha pins s1 σ H1 Q I1 q1
 |false=>exact hb pins s1 σ H1 Q I1 q1
end

def SqL (K:Yab)(H:Hp)(a:Addr)(xs:List V):Prop:=
 Rd H a (.lst xs)\/
  ∃(o:Obj) (its:Array Value) (n:Nat),K.lookup a=some o/\o.cls=.type "list" /\ o.dict=none/\o.data=.seq its n/\its.size<=Yah/\Vals xs its.toList
def SqT (K:Yab)(H:Hp)(a:Addr)(xs:List V):Prop:=
 Rd H a (.tup xs)\/
  ∃(o:Obj) (its:Array Value) (n:Nat),K.lookup a=some o/\o.cls=.type "tuple" /\ o.data=.seq its n/\its.size<=Yah/\Vals xs its.toList
noncomputable def absV:Value->Option V
 |.none=>some .non
 |.bool b=>some (.bl b)
 |.int i _=>some (.int i)
 |.str x _=>some (.str x)
 |.bytes b _=>some (.byt b)
 |.float b _=>some (.flt b)
 |.ref a=>some (.ref a)
 |.type n=>some (.ty n)
 |_=>none
theorem RelV.abs {x:V}{u:Value}(r:RelV x u):absV u=some x:=by
 cases x with
 |non=>cases r;rfl
 |bl _=>cases r;rfl
 |int _=>obtain⟨t,rfl⟩:=r;rfl
 |str _=>obtain⟨t,rfl⟩:=r;rfl
 |byt _=>obtain⟨t,rfl⟩:=r;rfl
 |flt _=>obtain⟨t,rfl⟩:=r;rfl
 |ref _=>cases r;rfl
 |ty _=>cases r;rfl
theorem RelV.inj {x y:V}{u:Value}(r:RelV x u)(q:RelV y u):x=y:=Yar (r.abs.symm.trans q.abs)
theorem Vals.inj:∀{xs ys:List V} {us:List Value},Vals xs us->Vals ys us->xs=ys
 |_,_,_,.nil,.nil=>rfl
 |_,_,_,.cons r t,.cons r' t'=>by rw[r.inj r',Vals.inj t t']
section
variable {X:Cx}{pins:List (Addr×Obj)}{σ:St}{H:Hp}{s:Shared}{a:Addr}{xs ys:List V}
theorem SqL.of {K:Yab}(h:H a=some (.lst xs)):SqL K H a xs:=.inl (.inl h)
theorem SqT.of {K:Yab}(h:H a=some (.tup xs)):SqT K H a xs:=.inl (.inl h)
theorem Inv.list (I:Inv X pins σ H s)(h:SqL X.K H a xs):∃its:List Value,Vals xs its/\PlainL s.heap a its.toArray/\xs.length<=Yah:=by
 rcases h with h|⟨o,its,n,hk,hc,hd,hs,hz,r⟩
 ·obtain⟨z,its,n,r,e⟩:=h.ok I.hok;exact⟨its,r,⟨_,n,e,rfl,rfl,rfl⟩,z⟩
 ·refine⟨its.toList,r,⟨o,n,I.kIn a o hk,hc,hd,by simpa using hs⟩,?_⟩
  have e:=r.length;simp only[Ybt]at e;omega
theorem Inv.tuple (I:Inv X pins σ H s)(h:SqT X.K H a xs):∃its:List Value,Vals xs its/\IsTup s.heap a its.toArray/\xs.length<=Yah:=by
 rcases h with h|⟨o,its,n,hk,hc,hs,hz,r⟩
 ·obtain⟨z,its,r,p⟩:=h.ok I.hok;exact⟨its,r,p.tup,z⟩
 ·refine⟨its.toList,r,⟨o,I.kIn a o hk,hc,n,by simpa using hs⟩,?_⟩
  have e:=r.length;simp only[Ybt]at e;omega
theorem Inv.list_inj (I:Inv X pins σ H s)(h:SqL X.K H a xs)(h':SqL X.K H a ys):xs=ys:=by
 obtain⟨its,r,⟨o,n,e,_,_,d⟩,_⟩:=I.list h;obtain⟨its',r',⟨o',n',e',_,_,d'⟩,_⟩:=I.list h';rw[e]at e';cases e';rw[d]at d';injection d' with d1 _
 have:its=its':=by simpa using congrArg Array.toList d1
 subst this;exact r.inj r'
theorem Inv.tuple_inj (I:Inv X pins σ H s)(h:SqT X.K H a xs)(h':SqT X.K H a ys):xs=ys:=by
 obtain⟨its,r,⟨o,e,_,n,d⟩,_⟩:=I.tuple h;obtain⟨its',r',⟨o',e',_,n',d'⟩,_⟩:=I.tuple h';rw[e]at e';cases e';rw[d]at d';injection d' with d1 _
 have:its=its':=by simpa using congrArg Array.toList d1
 subst this;exact r.inj r'
end

noncomputable abbrev Cx.wish (X:Cx)(E:Value->Shared->Prop):Cx:={ X with xe:=E }
noncomputable abbrev Cx.nox (X:Cx):Cx:=X.wish λ_ _=>False
theorem Cx.Ok.wish {X:Cx}(ok:X.Ok)(E:Value->Shared->Prop):(X.wish E).Ok:=
 ⟨ok.mod,ok.kind,ok.glob,ok.blt,ok.above,ok.inj,ok.has,ok.cab,ok.hd,ok.frames,ok.stk,ok.exf,ok.bs,ok.bsz,ok.noex,ok.exfs,ok.funs,ok.frf⟩
theorem Cx.Ok.unwish {X:Cx}{E:Value->Shared->Prop}(ok:(X.wish E).Ok):X.Ok:=
 ⟨ok.mod,ok.kind,ok.glob,ok.blt,ok.above,ok.inj,ok.has,ok.cab,ok.hd,ok.frames,ok.stk,ok.exf,ok.bs,ok.bsz,ok.noex,ok.exfs,ok.funs,ok.frf⟩
section
variable {X:Cx}{pins:List (Addr×Obj)}{σ:St}{H:Hp}{s:Shared}{E:Value->Shared->Prop}
theorem Inv.wish (I:Inv X pins σ H s)(E:Value->Shared->Prop):Inv (X.wish E) pins σ H s:=⟨I.ok.wish E,I.os,I.bare,I.base,I.loc,I.cell,I.free,I.freeC,I.pin,I.hok,I.len⟩
theorem Inv.unwish (I:Inv (X.wish E) pins σ H s):Inv X pins σ H s:=⟨I.ok.unwish,I.os,I.bare,I.base,I.loc,I.cell,I.free,I.freeC,I.pin,I.hok,I.len⟩
theorem SP.unwish {D:Ends}{f:Flow}{s':Shared}(h:SP (X.wish E) pins D f s'):SP X pins D f s':=by
 cases f with
 |next=>obtain⟨σ',H',I,q⟩:=h;exact⟨σ',H',I.unwish,q⟩
 |brk=>obtain⟨σ',H',I,q⟩:=h;exact⟨σ',H',I.unwish,q⟩
 |cont=>obtain⟨σ',H',I,q⟩:=h;exact⟨σ',H',I.unwish,q⟩
 |ret u=>obtain⟨v,σ',H',I,r,q⟩:=h;exact⟨v,σ',H',I.unwish,r,q⟩
end

section
variable {X:Cx}{st:Stmt}{rest:List Stmt}{t u:TS}{e:Expr}{te:TE}{pos:Pos}
def jnZ:TS:=λD σ H=>D.nx σ H
def tSeq (t u:TS):TS:=λD σ H=>t { D with nx:=u D } σ H
theorem jjG:PSs X [] jnZ:=λ_ _ σ H _ I h=>Yen ⟨σ,H,I,h⟩
theorem jhW (h1:PS X st t)(h2:PSs X rest u):PSs X (st::rest) (tSeq t u):=by
 intro pins s σ H D I h;refine wpAny_execs_cons (thn (h1 pins s σ H { D with nx:=u D } I h) λf s1 q=>?_)
 cases f with
 |next=>
  obtain⟨σ',H',I',q⟩:=q;exact h2 pins s1 σ' H' D I' q
 |ret v=>exact q
 |brk=>exact q
 |cont=>exact q
theorem Inv.quiet {pins:List (Addr×Obj)}{σ:St}{H:Hp}{s:Shared}(I:Inv X pins σ H s):interactive X.env=false:=by simp[interactive,I.ok.kind]
def jn0 (te:TE):TS:=λD σ H=>te σ H λ_ H1=>D.nx σ H1
theorem jjH (he:PE X e te)(hs:YcP e none pos.line X.env=pure false:=by rfl):PS X (.Expr e pos) (jn0 te):=by
 intro pins s σ H D I h;exact wpAny_Expr_any (thn (he pins s σ H _ I h) λv s1 ⟨x,H1,I1,r1,q1⟩=>⟨σ,H1,I1,q1⟩) I.quiet hs
def tRet (te:TE):TS:=λD σ H=>te σ H D.rt
theorem jlF (he:PE X e te):PS X (.Return (some e) pos) (tRet te):=by
 intro pins s σ H D I h;exact wpAny_Return_some (thn (he pins s σ H _ I h) λv s1 ⟨x,H1,I1,r1,q1⟩=>⟨x,σ,H1,I1,r1,q1⟩)
def tIfS (c:TT)(t u:TS):TS:=λD σ H=>c σ H λb H1=>if b=true then t D σ H1 else u D σ H1
theorem jol {c:Expr}{a b:List Stmt}{tc:TT}(hc:PT X c tc)(ha:PSs X a t)(hb:PSs X b u):PS X (.If c a b pos) (tIfS tc t u):=by
 intro pins s σ H D I h;refine wpAny_If (thn (hc pins s σ H _ I h) λd s1 ⟨H1,I1,q1⟩=>?_);cases d with
 |true=>exact ha pins s1 σ H1 D I1 q1
 |false=>exact hb pins s1 σ H1 D I1 q1
end

abbrev TG:=V->St->Hp->(St->Hp->Prop)->Prop
abbrev TGs:=List V->St->Hp->(St->Hp->Prop)->Prop
def PG (X:Cx)(target:Expr)(t:TG):Prop:=
 ∀(pins:List (Addr×Obj)) (s:Shared) (σ:St) (H:Hp) (v:V) (u:Value) (Q:St->Hp->Prop),Inv X pins σ H s->RelV v u->t v σ H Q->
  wpAny (model X.prog X.w) X.A (assign target X.env u) (λ_ s'=>∃σ' H',Inv X pins σ' H' s'/\Q σ' H') X.xe s
def PGs (X:Cx)(ts:List Expr)(t:TGs):Prop:=
 ∀(pins:List (Addr×Obj)) (s:Shared) (σ:St) (H:Hp) (vs:List V) (us:List Value) (Q:St->Hp->Prop),Inv X pins σ H s->Vals vs us->t vs σ H Q->
  wpAny (model X.prog X.w) X.A (Ye3 ((YaZ ts X.env).map (·.2)) us) (λ_ s'=>∃σ' H',Inv X pins σ' H' s'/\Q σ' H') X.xe s
abbrev TSet:=V->V->V->Hp->(Hp->Prop)->Prop
def PSet (X:Cx)(t:TSet):Prop:=
 ∀(pins:List (Addr×Obj)) (s:Shared) (σ:St) (H:Hp) (o i v:V) (ov iv u:Value) (Q:Hp->Prop),Inv X pins σ H s->RelV o ov->RelV i iv->RelV v u->t o i v H Q->
  wpAny (model X.prog X.w) X.A (setItem ov iv u) (λ_ s'=>∃H',Inv X pins σ H' s'/\Q H') X.xe s
abbrev TIp:=V->V->Hp->VK->Prop
def PIp (X:Cx)(op:YbK)(t:TIp):Prop:=
 ∀(pins:List (Addr×Obj)) (s:Shared) (σ:St) (H:Hp) (x y:V) (v u:Value) (Q:VK),Inv X pins σ H s->RelV x v->RelV y u->t x y H Q->
  wpAny (model X.prog X.w) X.A (YdC op v u) (EP X pins σ Q) X.xe s
section
variable {X:Cx}{pos:Pos}
def jir (i:Nat):TG:=λv σ H Q=>Q (σ.set i (some v)) H
theorem jjR {i:Nat}{x:Str}(hN:X.N.Nodup)(hi:X.N[i]?=some x)(hx:Loc X.env.scope x)(hf:X.fn x=true\/X.env.scope.names.lookup x=some .local:=by first|exact .inl rfl|exact .inr rfl|assumption):PG X (.Name x pos) (jir i):=by
 intro pins s σ H v u Q I r h;exact wpAny_assign_Name (jcL I hN hi hx r (λs' I'=>⟨_,H,I',h⟩) hf)
def gNil:TGs:=λvs σ H Q=>vs=[]/\Q σ H
def joM (t:TG)(u:TGs):TGs:=λvs σ H Q=>∃v r,vs=v::r/\t v σ H λσ' H'=>u r σ' H' Q
theorem jjQ:PGs X [] gNil:=by
 intro pins s σ H vs us Q I r h;obtain⟨e,h⟩:=h;subst e;cases r;exact assignInOrder_nil ⟨σ,H,I,h⟩
theorem jh2 {e:Expr}{es:List Expr}{t:TG}{u:TGs}(h1:PG X e t)(h2:PGs X es u)
  (hs:(YaZ (e::es) X.env).map (·.2)=assign e X.env::(YaZ es X.env).map (·.2):=by rfl):PGs X (e::es) (joM t u):=by
 intro pins s σ H vs us Q I r h;obtain⟨v,vr,e1,h⟩:=h;subst e1;cases r with
 |cons r rr=>
  rw[hs];refine YdE (thn (h1 pins s σ H _ _ _ I r h) λ_ s1 ⟨σ1,H1,I1,q1⟩=>?_);exact h2 pins s1 σ1 H1 _ _ Q I1 rr q1
def gTup (K:Yab)(n:Nat)(t:TGs):TG:=λv σ H Q=>∃a xs,v=.ref a/\SqT K H a xs/\xs.length=n/\t xs σ H Q
theorem jlO {es:List Expr}{k:Nat}{t:TGs}{n:Nat}(hc:X.calm=true)(h:PGs X es t)
  (hn:(YaZ es X.env).length=n:=by rfl) (hst:(YaZ es X.env).findIdx? (·.1)=none:=by rfl):PG X (.Tuple es k pos) (gTup X.K n t):=by
 intro pins s σ H v u Q I r hw;obtain⟨a,xs,e1,hq,hl,hw⟩:=hw;subst e1;cases r;obtain⟨its,rv,ht,hz⟩:=I.tuple hq;refine assign_Tuple_tuple (I.ok.hd hc) ht (by simp[hn,<- hl,rv.length]) hst λh' hx=>?_
 have I1:Inv X pins σ H { s with heap:=h' }:=I.kept (t':=s.toks) λb o e=>hx b o (Yax (Yao e)) e
 exact h pins _ σ H xs _ Q I1 (by simpa using rv) hw
def gSub (to ti:TE)(t:TSet):TG:=λv σ H Q=>to σ H λo H1=>ti σ H1 λi H2=>t o i v H2 λH3=>Q σ H3
theorem jlP {o i:Expr}{to ti:TE}{t:TSet}(ho:PE X o to)(hi:PE X i ti)(hs:PSet X t)
  (ha:∀v,assign (.Subscript o i pos) X.env v=(do
   let ov <- holding [v] (eval o X.env)
   let iv <- holding [v,ov] (eval i X.env)
   standAt pos
   holding [v,ov,iv] (setItem ov iv v)
   release [v,ov,iv] []):=by intro _;rfl):PG X (.Subscript o i pos) (gSub to ti t):=by
 intro pins s σ H v u Q I r h;rw[ha];refine Yaf (Ybb (thn (ho pins s σ H _ I h) λov s1 ⟨x,H1,I1,r1,q1⟩=>?_));refine Yaf (Ybb (thn (hi pins s1 σ H1 _ I1 q1) λiv s2 ⟨y,H2,I2,r2,q2⟩=>?_));refine Yaf (YcY (Yaf (Ybb (thn (hs pins s2 σ H2 x y v ov iv u _ I2 r1 r2 r q2) λ_ s3 ⟨H3,I3,q3⟩=>?_))));exact wpAny_release ⟨σ,H3,I3,q3⟩
def tAsg (te:TE)(g:TG):TS:=λD σ H=>te σ H λx H1=>g x σ H1 D.nx
theorem jgD {tg e:Expr}{te:TE}{g:TG}(he:PE X e te)(hg:PG X tg g)(hs:Ybm [tg] e pos.line X.env=pure false:=by rfl)(hw:Ybc [tg] e X.env=pure none:=by rfl)
  (h1:(YaZ [tg] X.env).map (·.2)=[assign tg X.env]:=by rfl):PS X (.Assign [tg] e pos) (tAsg te g):=by
 intro pins s σ H D I h;refine wpAny_Assign_stores (thn (he pins s σ H _ I h) λv s1 ⟨x,H1,I1,r1,q1⟩=>?_) hs hw;rw[h1];exact thn (hg pins s1 σ H1 x v _ I1 r1 q1) λ_ s2 q=>q
def tPar (i j:Nat)(ta:TA):TS:=λD σ H=>ta σ H λvs H1=>∃v w,vs=[v,w]/\D.nx ((σ.set i (some v)).set j (some w)) H1
theorem jlG {i j:Nat}{x y:Str}{a b:Expr}{ta:TA}{px py pt:Pos}{kt k2 pt2}(hc:X.calm=true)(hN:X.N.Nodup)(hi:X.N[i]?=some x)(hj:X.N[j]?=some y)(hij:i≠j)
  (hx:X.env.scope.names.lookup x=some .local) (hy:X.env.scope.names.lookup y=some .local) (ha:PA X [a,b] ta)
  (hw:Ybc [.Tuple [.Name x px,.Name y py] kt pt] (.Tuple [a,b] k2 pt2) X.env=pure (some [x,y]))
  (hs:Ybm [.Tuple [.Name x px,.Name y py] kt pt] (.Tuple [a,b] k2 pt2) pos.line X.env=pure false:=by rfl) :
  PS X (.Assign [.Tuple [.Name x px,.Name y py] kt pt] (.Tuple [a,b] k2 pt2) pos) (tPar i j ta):=by
 intro pins s σ H D I h;rw[exec_Assign_arm];refine Yaf (YcY ?_);rw[hs];refine Yaf (Yap ?_);rw[if_neg (by decide)]
 refine Yaf (Tuple_ (thn (ha _ pins s σ H _ I h) λus s1 ⟨vs,H1,I1,r1,q1⟩=>?_));obtain⟨v,w,e1,q1⟩:=q1;subst e1;obtain⟨u1,u2,rfl,rv,rw'⟩:∃u1 u2,us=[u1,u2]/\RelV v u1/\RelV w u2:=by
  cases r1 with
  |cons p q=>
   cases q with
   |cons p' q'=>
    cases q';exact⟨_,_,rfl,p,p'⟩
 refine Ya3 ?_ (by show 2<=Yah;decide)
 have I2:Inv X pins σ H1 { s1 with heap:=s1.heap.push { cls:=.type "tuple",data:=.seq [u1,u2].toArray } }:=I1.kept (t':=s1.toks) λb o e=>Yad _ e
 rw[hw];refine Yaf (Yap ?_);show wpAny (model X.prog X.w) X.A (do rule "assign.swapped-stores";let items <- unpackItems (.ref s1.heap.objs.size) 2 none;Ye3 [λv=>bindName X.env y v,λv=>bindName X.env x v] items.reverse;pure Flow.next) _ _ _
 refine Yaf (wpAny_rule (Yaf (unpackItems_tuple (items:=#[u1,u2]) (I.ok.hd hc) (IsTup.new s1.heap _) λh' hx'=>?_)));have I3:=I2.kept (h':=h') (t':=s1.toks) λb o e=>hx' b o (Yax (Yao e)) e;show wpAny _ _ (Ye3 [λv=>bindName X.env y v,λv=>bindName X.env x v] [u2,u1] >>= λ_=>pure Flow.next) _ _ _
 refine Yaf (YdE (wpAny_bindName (jcL I3 hN hj (.inl hy) rw' (λs2 I4=>?_) (.inr hy))));refine YdE (wpAny_bindName (jcL I4 hN hi (.inl hx) rv (λs3 I5=>assignInOrder_nil (Yap ?_)) (.inr hx)));rw[List.set_comm _ _ (Ne.symm hij)]at I5;exact⟨_,H1,I5,q1⟩
def tAug (i:Nat)(te:TE)(ti:TIp):TS:=λD σ H=>∃x,σ[i]?=some (some x)/\te σ H λy H1=>ti x y H1 λz H2=>D.nx (σ.set i (some z)) H2
theorem jlK {i:Nat}{x:Str}{e:Expr}{te:TE}{op:YbK}{ti:TIp}{pos':Pos}(hN:X.N.Nodup)(hi:X.N[i]?=some x)(hx:Loc X.env.scope x)(he:PE X e te)(ho:PIp X op ti)(hf:X.fn x=true\/X.env.scope.names.lookup x=some .local:=by first|exact .inl rfl|exact .inr rfl|assumption) :
  PS X (.AugAssign (.Name x pos') op e pos) (tAug i te ti):=by
 intro pins s σ H D I h;obtain⟨v,e1,h⟩:=h;obtain⟨m,hn,hl⟩:=I.loc;have vis:Vis X.env.scope x:=by rcases hx with k|k;exact .inl k;exact .inr (.inl k)
 obtain⟨u,r,l⟩:=hl i x v hi e1 vis;refine wpAny_AugAssign_Name ?_;have go:wpAny (model X.prog X.w) X.A (eval e X.env) (λw s₂=>wpAny (model X.prog X.w) X.A (YdC op u w) (λr s₃=>wpAny (model X.prog X.w) X.A (storeName X.env x r) (λ_=>SP X pins D .next) X.xe s₃) X.xe s₂) X.xe s:=by
  refine thn (he pins s σ H _ I h) λw s1 ⟨y,H1,I1,r1,q1⟩=>?_;refine thn (ho pins s1 σ H1 v y u w _ I1 r r1 q1) λz s2 ⟨zv,H2,I2,r2,q2⟩=>?_;exact jcL I2 hN hi hx r2 (λs3 I3=>⟨_,H2,I3,q2⟩) hf
 rcases l with⟨hk,hm⟩|⟨hk,c,hc,hcell⟩
 ·exact wpAny_loadName_local I.ok.kind hk hn hm go
 ·rcases hk with hk|hk
  ·exact wpAny_loadName_cell I.ok.kind hk hc hcell go
  ·rcases hx with k|k
   ·have:X.env.scope.names.lookup x=some .free:=hk;rw[k]at this;cases this
   ·have:X.env.scope.names.lookup x=some .free:=hk;rw[k]at this;cases this
def PGet (X:Cx)(t:V->V->Hp->VK->Prop):Prop:=
 ∀(pins:List (Addr×Obj)) (s:Shared) (σ:St) (H:Hp) (o i:V) (ov iv:Value) (Q:VK),Inv X pins σ H s->RelV o ov->RelV i iv->t o i H Q->
  wpAny (model X.prog X.w) X.A (getItem ov iv) (EP X pins σ Q) X.xe s
def jle (c:TT)(tb:TS):TS:=λD σ H=>∃W:Nat->St->Hp->Prop,(∃m,W m σ H)/\∀m σ H,W m σ H->
 c σ H λb H1=>if b=true then ∃N:St->Hp->Prop,(∀σ' H',N σ' H'->∃m',m'<m/\W m' σ' H')/\tb { D with nx:=N,ct:=N,bk:=D.nx } σ H1 else D.nx σ H1
theorem jhX {c:Expr}{body:List Stmt}{tc:TT}{tb:TS}(hp:YdI (model X.prog X.w) X.A X.env X.xe)(hc:PT X c tc)(hb:PSs X body tb):PS X (.While c body [] pos) (jle tc tb):=by
 intro pins s σ H D I h;obtain⟨W,⟨m0,w0⟩,turn⟩:=h;refine wpAny_While (codeAny_whileLoop (λn s'=>∃σ' H',Inv X pins σ' H' s'/\W n σ' H') ?_ m0 ⟨σ,H,I,w0⟩);rintro n s1 ⟨σ1,H1,I1,w1⟩;refine YbQ hp (thn (hc pins s1 σ1 H1 _ I1 (turn n σ1 H1 w1)) λb s2 ⟨H2,I2,q2⟩=>?_);cases b with
 |true=>
  obtain⟨N,hN,q2⟩:=q2;rw[if_pos rfl];refine YbQ hp (thn (hb pins s2 σ1 H2 _ I2 q2) λf s3 q3=>?_);cases f with
  |next=>
   obtain⟨σ3,H3,I3,n3⟩:=q3;obtain⟨m',hm,w3⟩:=hN σ3 H3 n3;exact⟨m',hm,σ3,H3,I3,w3⟩
  |cont=>
   obtain⟨σ3,H3,I3,n3⟩:=q3;obtain⟨m',hm,w3⟩:=hN σ3 H3 n3;exact⟨m',hm,σ3,H3,I3,w3⟩
  |brk=>exact q3
  |ret v=>exact q3
 |false=>
  rw[if_neg Yak];exact Yen ⟨σ1,H2,I2,q2⟩
end

structure It where
 go:Nat->Hp->Prop
 yld:Nat->Hp->V->Hp->Prop
 stop:Nat->Hp->Prop
def FpOk (X:Cx)(pins:List (Addr×Obj))(H:Hp)(b:Addr):Prop:=
 H b=none/\b≠X.env.locals/\b∉X.fs/\(b∈X.ex\/X.s₀.heap.objs.size<=b)/\(∀x c,X.env.cells.lookup x=some c->c≠b)/\∀p∈X.pn++pins,p.1≠b
theorem Inv.fpOk {X:Cx}{pins:List (Addr×Obj)}{σ:St}{H H':Hp}{s:Shared}{b:Addr}(I:Inv X pins σ H s)(hb:s.heap.objs.size<=b)(hn:H' b=none):FpOk X pins H' b:=by
 refine⟨hn,Nat.ne_of_gt (Yau I.lt hb),I.nofs hb,.inr (Yal I.sz hb),λx c e z=>?_,λp hp z=>?_⟩
 ·obtain⟨v,q⟩:=I.cell x c e;exact absurd (Yau q.lt (by rw[z];exact hb)) (Ybf _)
 ·exact absurd (Yau (Yao (I.pin p hp).1) (by rw[z];exact hb)) (Ybf _)
structure Turn (P:Program)(w:World)(K:Yab)(tg:Expr)(J:It)(fp:List Addr)(it:Addr)(tn:Nat->Heap->Prop):Prop where
 mem:it∈fp
 obj:∀i h,tn i h->∀b∈fp,∃o,h.get? b=some o/\∀v,o.data≠.cell v
 keep:∀i h h',tn i h->(∀b∈fp,∀o,h.get? b=some o->h'.get? b=some o)->tn i h'
 item:∀(X:Cx),X.prog=P->X.w=w->X.K=K->X.calm=true->∀(i:Nat) (pins:List (Addr×Obj)) (s:Shared) (σ:St) (H:Hp) (E:Value->Shared->Prop),Inv X pins σ H s->(∀b∈fp,FpOk X pins H b)->tn i s.heap->J.go i H->
  wpAny (model P w) X.A (pyNext (.ref it)) (λr s1=>∃u,r=some u/\
   wpAny (model P w) X.A (Ycz tg (.ref it) u) (λ_ s2=>∃x H',Inv X pins σ H' s2/\RelV x u/\J.yld i H x H'/\tn (i+1) s2.heap/\∀b∈fp,H' b=none) E s1) E s
 done:∀(X:Cx),X.prog=P->X.w=w->X.K=K->X.calm=true->∀(i:Nat) (pins:List (Addr×Obj)) (s:Shared) (σ:St) (H:Hp) (E:Value->Shared->Prop),Inv X pins σ H s->(∀b∈fp,FpOk X pins H b)->tn i s.heap->J.stop i H->
  wpAny (model P w) X.A (pyNext (.ref it)) (λr s1=>r=none/\Inv X pins σ H s1) E s
 self:∀(A:Around) (i:Nat) (s:Shared) (Q:Value->Shared->Prop) (E:Value->Shared->Prop),tn i s.heap->Q (.ref it) s->wpAny (model P w) A (pyIter (.ref it)) Q E s
abbrev TI:=St->Hp->(It->Hp->Prop)->Prop
def PIE (X:Cx)(pins:List (Addr×Obj))(σ:St)(tg:Expr)(R:It->Hp->Prop)(itv:Value)(s2:Shared):Prop:=
 ∃(it:Addr) (fp:List Addr) (tn:Nat->Heap->Prop) (J:It) (H':Hp),itv=.ref it/\Inv X pins σ H' s2/\Turn X.prog X.w X.K tg J fp it tn/\tn 0 s2.heap/\(∀b∈fp,FpOk X pins H' b)/\R J H'
def PI (X:Cx)(tg iter:Expr)(wi:TI):Prop:=
 ∀(pins:List (Addr×Obj)) (s:Shared) (σ:St) (H:Hp) (R:It->Hp->Prop),Inv X pins σ H s->wi σ H R->
  wpAny (model X.prog X.w) X.A (eval iter X.env) (λv s1=>wpAny (model X.prog X.w) X.A (pyIter v) (PIE X pins σ tg R) X.xe s1) X.xe s

theorem jhh {M : Model}{A : Around}{E : Value -> Shared -> Prop}{s : Shared}{tg : Expr}{it : Addr}{u : Value}{o : Obj}{n : String}{vs : Array Value}{Q : Unit -> Shared -> Prop}(ho : s.heap.get? it = some o)(hc : o.cls = .type n)(hd : o.data = .fields vs)
    (hn : ["enumerate", "zip", "dict_itemiterator", "dict_reverseitemiterator", "odict_iterator", "itertools.zip_longest", "itertools.pairwise"].contains n = false) (hQ : Q () s) : wpAny M A (Ycz tg (.ref it) u) Q E s := by
  unfold Ycz
  cases tg <;> first
    | exact Yap hQ
    | (cases u <;> first
        | exact Yap hQ
        | (refine Yaf (wpAny_load ho ?_)
           rw [hc, hd]
           show wpAny M A (if (["enumerate", "zip", "dict_itemiterator", "dict_reverseitemiterator", "odict_iterator", "itertools.zip_longest", "itertools.pairwise"].contains n && vs[0]? == some (rawInt _)) = true then _ else _) Q E s
           rw [if_neg (by intro h; rw [hn, Bool.false_and] at h; cases h)]
           exact Yap hQ))

noncomputable def Itl (K:Yab)(a:Addr):It:=
 ⟨λi H=>∃xs x,SqL K H a xs/\xs[i]?=some x,λi H x H'=>H'=H/\∀xs,SqL K H a xs->xs[i]?=some x,λi H=>∃xs,SqL K H a xs/\xs.length<=i⟩
noncomputable def Itt (K:Yab)(a:Addr):It:=
 ⟨λi H=>∃xs x,SqT K H a xs/\xs[i]?=some x,λi H x H'=>H'=H/\∀xs,SqT K H a xs->xs[i]?=some x,λi H=>∃xs,SqT K H a xs/\xs.length<=i⟩
noncomputable def Itr (lo:Int)(n:Nat):It:=⟨λi _=>i<n,λi H x H'=>H'=H/\x=.int (lo+i),λi _=>n<=i⟩
section
variable {P:Program}{w:World}{K:Yab}{tg:Expr}
theorem jgs (a it:Addr):Turn P w K tg (Itl K a) [it] it (λi h=>h.IsListIter it a i) where
 mem:=by simp
 obj:=λi h st b hb=>by
  have e:b=it:=by simpa using hb
  subst e;obtain⟨o,e,c,d⟩:=st;exact⟨o,e,λv z=>by rw[d]at z;cases z⟩
 keep:=λi h h' st k=>st.at λo e=>k it (by simp) o e
 item:=by
  intro X hP hw hK hc i pins s σ H E I hf st hg;subst hP hw hK;obtain⟨xs,x,hq,hx⟩:=hg;obtain⟨its,rv,p,hz⟩:=I.list hq;obtain⟨u,hu,ru⟩:=rv.get hx;obtain⟨f0,f1,f2,f3,f4,f5⟩:=hf it (by simp)
  refine Yfk st p.isList (x:=u) (by simpa using hu) λh' st' sb=>?_
  have I1:Inv X pins σ H { s with heap:=h' }:=I.turned (t':=s.toks) (λb o hb e=>(sb.2 b hb).trans e) f0 f1 f3 f4 f5
  obtain⟨o,e,c,d⟩:=id st';exact⟨u,rfl,jhh (s:={ s with heap:=h' }) e c d (by decide) ⟨x,H,I1,ru,⟨rfl,λys hy=>by rw[I.list_inj hy hq];exact hx⟩,st',λb hb=>(hf b hb).1⟩⟩
 done:=by
  intro X hP hw hK hc i pins s σ H E I hf st hg;subst hP hw hK;obtain⟨xs,hq,hx⟩:=hg;obtain⟨its,rv,p,hz⟩:=I.list hq;obtain⟨f0,f1,f2,f3,f4,f5⟩:=hf it (by simp)
  have hl:=rv.length;exact Yfz (I.ok.hd hc) st p.isList (by simp;omega) λh' eb=>⟨rfl,I.turned (t':=s.toks) (λb o hb e=>eb b o hb e) f0 f1 f3 f4 f5⟩
 self:=λ_ _ _ _ _ st h=>wpAny_pyIter_listiter st h
theorem jfX (a it:Addr):Turn P w K tg (Itt K a) [it] it (λi h=>h.IsTupleIter it a i) where
 mem:=by simp
 obj:=λi h st b hb=>by
  have e:b=it:=by simpa using hb
  subst e;obtain⟨o,e,c,d⟩:=st;exact⟨o,e,λv z=>by rw[d]at z;cases z⟩
 keep:=λi h h' st k=>st.at λo e=>k it (by simp) o e
 item:=by
  intro X hP hw hK hc i pins s σ H E I hf st hg;subst hP hw hK;obtain⟨xs,x,hq,hx⟩:=hg;obtain⟨its,rv,p,hz⟩:=I.tuple hq;obtain⟨u,hu,ru⟩:=rv.get hx;obtain⟨f0,f1,f2,f3,f4,f5⟩:=hf it (by simp)
  refine wpAny_pyNext_tuple_item st (show s.heap.IsTuple a its.toArray from p) (x:=u) (by simpa using hu) λh' st' sb=>?_
  have I1:Inv X pins σ H { s with heap:=h' }:=I.turned (t':=s.toks) (λb o hb e=>(sb.2 b hb).trans e) f0 f1 f3 f4 f5
  obtain⟨o,e,c,d⟩:=id st';exact⟨u,rfl,jhh (s:={ s with heap:=h' }) e c d (by decide) ⟨x,H,I1,ru,⟨rfl,λys hy=>by rw[I.tuple_inj hy hq];exact hx⟩,st',λb hb=>(hf b hb).1⟩⟩
 done:=by
  intro X hP hw hK hc i pins s σ H E I hf st hg;subst hP hw hK;obtain⟨xs,hq,hx⟩:=hg;obtain⟨its,rv,p,hz⟩:=I.tuple hq;obtain⟨f0,f1,f2,f3,f4,f5⟩:=hf it (by simp)
  have hl:=rv.length;exact wpAny_pyNext_tuple_end (I.ok.hd hc) st (show s.heap.IsTuple a its.toArray from p) (by simp;omega) λh' eb=>⟨rfl,I.turned (t':=s.toks) (λb o hb e=>eb b o hb e) f0 f1 f3 f4 f5⟩
 self:=λ_ _ _ _ _ st h=>wpAny_pyIter_tupleiter st h
theorem jfY (it:Addr)(lo:Int)(n:Nat):Turn P w K tg (Itr lo n) [it] it (λi h=>IsRangeIter h it (lo+(i:Nat)*1) ((n:Int)-(i:Nat)) 1) where
 mem:=by simp
 obj:=λi h st b hb=>by
  have e:b=it:=by simpa using hb
  subst e;exact⟨_,st,λv z=>by
   have z':Data.fields _=Data.cell v:=z;cases z'⟩
 keep:=λi h h' st k=>k it (by simp) _ st
 item:=by
  intro X hP hw hK hc i pins s σ H E I hf st hg;subst hP hw hK;obtain⟨f0,f1,f2,f3,f4,f5⟩:=hf it (by simp)
  have W:=Walks.range (prog:=X.prog) (w:=X.w) (I.ok.hd hc) it lo 1 n;refine W.item i s _ _ hg st λv h' tk hv st' kk=>?_;obtain⟨t,rfl⟩:=hv;have I1:Inv X pins σ H { s with heap:=h',toks:=tk }:=I.turned (λb o hb e=>kk b o (by simpa using hb) e) f0 f1 f3 f4 f5
  refine⟨_,rfl,jhh (s:={ s with heap:=h',toks:=tk }) (n := "range_iterator") st' rfl rfl (by decide) ⟨.int (lo+i),H,I1,⟨t,?_⟩,⟨rfl,rfl⟩,st',λb hb=>(hf b hb).1⟩⟩
  rw[Int.mul_one]
 done:=by
  intro X hP hw hK hc i pins s σ H E I hf st hg;subst hP hw hK;obtain⟨f0,f1,f2,f3,f4,f5⟩:=hf it (by simp)
  exact wpAny_pyNext_range_end (I.ok.hd hc) st (by have:n<=i:=hg;omega) λh' eb=>⟨rfl,I.turned (t':=s.toks) (λb o hb e=>eb b o hb e) f0 f1 f3 f4 f5⟩
 self:=λ_ _ _ _ _ st h=>wpAny_pyIter_rangeiter st h
end
section
variable {X:Cx}{tg:Expr}
theorem jhR {pins:List (Addr×Obj)}{σ:St}{H:Hp}{s:Shared}{R:It->Hp->Prop}{E:Value->Shared->Prop}{lo hi:Int}{t u v:Tok}{tk:Nat}(I:Inv X pins σ H s)(h1:-(2 ^ 62)<=lo)(h2:lo<2 ^ 62)(h3:-(2 ^ 62)<=hi)(h4:hi<2 ^ 62)
  (q:R (Itr lo (hi-lo).toNat) H):wpAny (model X.prog X.w) X.A (pyIter (.ref s.heap.objs.size)) (PIE X pins σ tg R) E { s with heap:=s.heap.push { cls:=.type "range",data:=.fields #[.int lo t,.int hi u,.int 1 v] },toks:=tk }:=by
 refine wpAny_pyIter_range (IsRange.new ..) (small_one h1 h2 h3 h4) ?_;have I1:Inv X pins σ H { s with heap:=s.heap.push { cls:=.type "range",data:=.fields #[.int lo t,.int hi u,.int 1 v] },toks:=tk }:=I.kept λb o e=>Yad _ e
 refine⟨(s.heap.push { cls:=.type "range",data:=.fields #[.int lo t,.int hi u,.int 1 v] }).objs.size,[(s.heap.push { cls:=.type "range",data:=.fields #[.int lo t,.int hi u,.int 1 v] }).objs.size],_,_,H,rfl,
  I1.kept (t':=tk) λb o e=>Yad _ e,jfY _ lo (hi-lo).toNat,?_,λb hb=>?_,q⟩
 ·have e1:lo+((0:Nat):Int)*1=lo:=by simp
  have e2:(((hi-lo).toNat:Nat):Int)-((0:Nat):Int)=Builtin.Range.rangeSize lo hi 1:=by rw[rangeSize_one];split<;>omega
  show IsRangeIter _ _ (lo+((0:Nat):Int)*1) ((((hi-lo).toNat:Nat):Int)-((0:Nat):Int)) 1;rw[e1,e2];exact Yaq _ rfl
 ·have e:b=(s.heap.push { cls:=.type "range",data:=.fields #[.int lo t,.int hi u,.int 1 v] }).objs.size:=by simpa using hb
  subst e;exact I1.fpOk (Yag _) (I1.hok.fresh (Yag _))
def joJ (ta:TA):TI:=λσ H R=>ta σ H λvs H1=>∃j:Int,vs=[.int j]/\-(2 ^ 62)<=j/\j<2 ^ 62/\R (Itr 0 j.toNat) H1
theorem jgG {a:Expr}{ta:TA}{p pos:Pos}(hg:Gl X "range")(hm:X.mg "range" = none)(ha:PA X [a] ta)(hs:YaG [a] X.env=[(false,eval a X.env)]:=by rfl):PI X tg (.Call (.Name "range" p) [a] [] pos) (joJ ta):=by
 intro pins s σ H R I h;refine Call_ (jen I hg hm boot_range (Yb6 (thn (ha pos pins s σ H _ I h) λus s1 ⟨vs,H1,I1,r1,q1⟩=>?_) hs rfl));obtain⟨j,e,q1,q2,q⟩:=q1;subst e;cases r1 with
 |cons r rr=>
  cases rr;obtain⟨t,rfl⟩:=r;exact call_range_1 (jhR I1 (by omega) (by omega) q1 q2 (by simpa using q))
def tFor (wi:TI)(g:TG)(tb:TS):TS:=λD σ H=>wi σ H λJ H1=>∃W:Nat->Nat->St->Hp->Prop,(∃m,W 0 m σ H1)/\∀i m σ H,W i m σ H->
 (J.stop i H/\D.nx σ H)\/(J.go i H/\∃N:St->Hp->Prop,(∀σ' H',N σ' H'->∃m',m'<m/\W (i+1) m' σ' H')/\∀x H',J.yld i H x H'->g x σ H' λσ2 H2=>tb { D with nx:=N,ct:=N,bk:=D.nx } σ2 H2)
noncomputable def jee (fp:List Addr)(h:Heap):List (Addr×Obj):=fp.filterMap λb=>(h.get? b).map λo=>(b,o)
theorem jbr {fp:List Addr}{h:Heap}{b:Addr}{o:Obj}(hb:b∈fp)(e:h.get? b=some o):(b,o)∈jee fp h:=List.mem_filterMap.mpr ⟨b,hb,by rw[e];rfl⟩
theorem jgX {fp:List Addr}{h:Heap}{p:Addr×Obj}(hp:p∈jee fp h):p.1∈fp/\h.get? p.1=some p.2:=by
 obtain⟨b,hb,e⟩:=List.mem_filterMap.mp hp;cases q:h.get? b with
 |none=>rw[q]at e;cases e
 |some o=>
  rw[q]at e;have e':(b,o)=p:=Yar e;subst e';exact⟨hb,q⟩
theorem Inv.pinned {pins:List (Addr×Obj)}{σ:St}{H:Hp}{s:Shared}{fp:List Addr}(I:Inv X pins σ H s)(hf:∀b∈fp,FpOk X pins H b)(ho:∀b∈fp,∃o,s.heap.get? b=some o/\∀v,o.data≠.cell v):Inv X (pins++jee fp s.heap) σ H s:=
 I.pins_of λp hp=>(List.mem_append.mp hp).elim (λz=>I.pin p (Yas _ z)) λz=>by
  obtain⟨hb,e⟩:=jgX z;obtain⟨f0,f1,f2,_⟩:=hf p.1 hb;obtain⟨o,e',d⟩:=ho p.1 hb;rw[e]at e';cases e';exact⟨e,f0,f1,f2,d⟩
theorem Inv.unpinned {pins pl:List (Addr×Obj)}{σ:St}{H:Hp}{s:Shared}(I:Inv X (pins++pl) σ H s):Inv X pins σ H s:=I.pins_of λp hp=>I.pin p (Yas _ (Yaw _ hp))
theorem jlJ {iter:Expr}{body:List Stmt}{wi:TI}{g:TG}{tb:TS}{pos:Pos}(hp:YdI (model X.prog X.w) X.A X.env X.xe)(hc:X.calm=true)(hi:PI X tg iter wi)(hg:PG X tg g)(hb:PSs X body tb)
  (hs:∀x,Ya4 iter X.env x=pure x:=by intro _;rfl):PS X (.For tg iter body [] pos) (tFor wi g tb):=by
 intro pins s σ H D I h;refine wpAny_For (thn (hi pins s σ H _ I h) λv s1 h1=>thn h1 λitv s2 h2=>?_) hs;obtain⟨it,fp,tn,J,H2,e,I2,T,st2,f2,W,⟨m0,w0⟩,turn⟩:=h2;subst e;have stat:∀{H':Hp},(∀b∈fp,H' b=none)->∀b∈fp,FpOk X pins H' b:=λhn b hb=>⟨hn b hb,(f2 b hb).2⟩;refine codeAny_forLoop_any (λn s'=>∃i σ' H',Inv X pins σ' H' s'/\tn i s'.heap/\(∀b∈fp,H' b=none)/\W i n σ' H') ?_ m0 ⟨0,σ,H2,I2,st2,λb hb=>(f2 b hb).1,w0⟩;rintro n s3 ⟨i,σ3,H3,I3,st3,fr3,w3⟩;rcases turn i n σ3 H3 w3 with⟨stop,qn⟩|⟨go,N,hN,step⟩
 ·refine YbQ hp (thn (T.done X rfl rfl rfl hc i pins s3 σ3 H3 X.xe I3 (stat fr3) st3 stop) λr s4 ⟨hr,I4⟩=>?_);subst hr;exact Yen ⟨σ3,H3,I4,qn⟩
 ·refine YbQ hp (thn (T.item X rfl rfl rfl hc i pins s3 σ3 H3 X.xe I3 (stat fr3) st3 go) λr s4 ⟨u,hr,h4⟩=>?_);subst hr;refine YbQ hp (thn h4 λ_ s5 ⟨x,H5,I5,r5,y5,st5,fr5⟩=>?_);have I5':=I5.pinned (stat fr5) (T.obj _ _ st5);refine YbQ hp (thn (hg _ s5 σ3 H5 x u _ I5' r5 (step x H5 y5)) λ_ s6 ⟨σ6,H6,I6,q6⟩=>?_);refine YbQ hp (thn (hb _ s6 σ6 H6 _ I6 q6) λf s7 q7=>?_);have again:∀{σ7:St} {H7:Hp},Inv X (pins++jee fp s5.heap) σ7 H7 s7->N σ7 H7->∃m,m<n/\∃i σ' H',Inv X pins σ' H' s7/\tn i s7.heap/\(∀b∈fp,H' b=none)/\W i m σ' H':=λ{σ7 H7} I7 n7=>by
   obtain⟨m',hm,w7⟩:=hN σ7 H7 n7;refine⟨m',hm,i+1,σ7,H7,I7.unpinned,T.keep _ _ _ st5 λb hb o e=>(I7.pin (b,o) (Yas _ (Yas _ (jbr hb e)))).1,λb hb=>?_,w7⟩;obtain⟨o,e,d⟩:=T.obj _ _ st5 b hb;exact(I7.pin (b,o) (Yas _ (Yas _ (jbr hb e)))).2.1
  cases f with
  |next=>obtain⟨σ7,H7,I7,n7⟩:=q7;exact again I7 n7
  |cont=>obtain⟨σ7,H7,I7,n7⟩:=q7;exact again I7 n7
  |brk=>obtain⟨σ7,H7,I7,q7⟩:=q7;exact⟨σ7,H7,I7.unpinned,q7⟩
  |ret v=>obtain⟨x7,σ7,H7,I7,r7,q7⟩:=q7;exact⟨x7,σ7,H7,I7.unpinned,r7,q7⟩
end


abbrev R2:=V->V->Hp->VK->Prop
def OpR (X:Cx)(f:Value->Value->Sem Value)(r:R2):Prop:=
 ∀(pins:List (Addr×Obj)) (s:Shared) (σ:St) (H:Hp) (x y:V) (v u:Value) (Q:VK),Inv X pins σ H s->RelV x v->RelV y u->r x y H Q->
  wpAny (model X.prog X.w) X.A (f v u) (EP X pins σ Q) X.xe s
def UnR (X:Cx)(f:Value->Sem Value)(r:V->Hp->VK->Prop):Prop:=
 ∀(pins:List (Addr×Obj)) (s:Shared) (σ:St) (H:Hp) (x:V) (v:Value) (Q:VK),Inv X pins σ H s->RelV x v->r x H Q->
  wpAny (model X.prog X.w) X.A (f v) (EP X pins σ Q) X.xe s
def ja5 (X:Cx)(f:Value)(r:List V->Hp->VK->Prop):Prop:=
 ∀(pins:List (Addr×Obj)) (s:Shared) (σ:St) (H:Hp) (xs:List V) (us:List Value) (Q:VK),Inv X pins σ H s->Vals xs us->r xs H Q->
  wpAny (model X.prog X.w) X.A (call f us) (EP X pins σ Q) X.xe s
def TruR (X:Cx)(r:V->Hp->(Bool->Hp->Prop)->Prop):Prop:=
 ∀(pins:List (Addr×Obj)) (s:Shared) (σ:St) (H:Hp) (x:V) (v:Value) (Q:Bool->Hp->Prop),Inv X pins σ H s->RelV x v->r x H Q->
  wpAny (model X.prog X.w) X.A (truthy v) (TP X pins σ Q) X.xe s

def tOp (r:R2)(ta tb:TE):TE:=λσ H Q=>ta σ H λx H1=>tb σ H1 λy H2=>r x y H2 Q
def tUn (r:V->Hp->VK->Prop)(ta:TE):TE:=λσ H Q=>ta σ H λx H1=>r x H1 Q
def rI (C:Int->Int->Prop)(g:Int->Int->V):R2:=λx y H Q=>∃i j,x=.int i/\y=.int j/\C i j/\Q (g i j) H
def rI0 (g:Int->Int->V):R2:=λx y H Q=>∃i j,x=.int i/\y=.int j/\Q (g i j) H
def rU (g:Int->V):V->Hp->VK->Prop:=λx H Q=>∃i,x=.int i/\Q (g i) H

section
variable {X:Cx}{a b c:Expr}{ta tb tc:TE}{pos:Pos}

theorem binT (ha:PE X a ta)(hb:PE X b tb){pins:List (Addr×Obj)}{s:Shared}{σ:St}{H:Hp}{R:V->V->Hp->Prop}(I:Inv X pins σ H s)
  (h:ta σ H λx H1=>tb σ H1 λy H2=>R x y H2) {Q:Value->Shared->Prop} {f:Value->Value->Sem Value}
  (hf:∀v u s2 x y H2,Inv X pins σ H2 s2->RelV x v->RelV y u->R x y H2->wpAny (model X.prog X.w) X.A (f v u) Q X.xe s2) :
  wpAny (model X.prog X.w) X.A (eval a X.env) (λv s₁=>wpAny (model X.prog X.w) X.A (eval b X.env) (λu s₂=>wpAny (model X.prog X.w) X.A (f v u) Q X.xe s₂) X.xe s₁) X.xe s:=by
 refine thn (ha pins s σ H _ I h) λv s1 ⟨x,H1,I1,r1,q1⟩=>?_;refine thn (hb pins s1 σ H1 _ I1 q1) λu s2 ⟨y,H2,I2,r2,q2⟩=>?_;exact hf v u s2 x y H2 I2 r1 r2 q2

theorem joq {op:YbK}{r:R2}(ho:OpR X (Ybd op) r)(ha:PE X a ta)(hb:PE X b tb):PE X (.BinOp a op b pos) (tOp r ta tb):=by
 intro pins s σ H Q I h;exact wpAny_BinOp (binT ha hb I h λv u s2 x y H2 I2 rx ry q=>ho pins s2 σ H2 x y v u Q I2 rx ry q)
theorem jop {op:UnaryOp}{r:V->Hp->VK->Prop}(ho:UnR X (unaryOp op) r)(ha:PE X a ta):PE X (.UnaryOp op a pos) (tUn r ta):=by
 intro pins s σ H Q I h;exact UnaryOp_ (thn (ha pins s σ H _ I h) λv s1 ⟨x,H1,I1,r1,q1⟩=>ho pins s1 σ H1 x v Q I1 r1 q1)
section
variable {f:Value->Value->Sem Value}
theorem opI {C:Int->Int->Prop}{g:Int->Int->Int}
  (rule:∀(i j:Int) (t u:Tok) (s:Shared) (Q:Value->Shared->Prop) (E:Value->Shared->Prop),C i j->Q (.int (g i j) s.toks) { s with toks:=s.toks+1 }->wpAny (model X.prog X.w) X.A (f (.int i t) (.int j u)) Q E s) :
  OpR X f (rI C λi j=>.int (g i j)):=by
 intro pins s σ H x y v u Q I rx ry h;obtain⟨i,j,rfl,rfl,hc,q⟩:=h;obtain⟨t,rfl⟩:=rx;obtain⟨t',rfl⟩:=ry;exact rule i j t t' s _ _ hc ⟨.int (g i j),H,I.tok _,⟨_,rfl⟩,q⟩
theorem opI0 {g:Int->Int->Int}
  (rule:∀(i j:Int) (t u:Tok) (s:Shared) (Q:Value->Shared->Prop) (E:Value->Shared->Prop),Q (.int (g i j) s.toks) { s with toks:=s.toks+1 }->wpAny (model X.prog X.w) X.A (f (.int i t) (.int j u)) Q E s) :
  OpR X f (rI0 λi j=>.int (g i j)):=by
 intro pins s σ H x y v u Q I rx ry h;obtain⟨i,j,rfl,rfl,q⟩:=h;obtain⟨t,rfl⟩:=rx;obtain⟨t',rfl⟩:=ry;exact rule i j t t' s _ _ ⟨.int (g i j),H,I.tok _,⟨_,rfl⟩,q⟩
theorem opB0 {g:Int->Int->Bool}
  (rule:∀(i j:Int) (t u:Tok) (s:Shared) (Q:Value->Shared->Prop) (E:Value->Shared->Prop),Q (.bool (g i j)) s->wpAny (model X.prog X.w) X.A (f (.int i t) (.int j u)) Q E s) :
  OpR X f (rI0 λi j=>.bl (g i j)):=by
 intro pins s σ H x y v u Q I rx ry h;obtain⟨i,j,rfl,rfl,q⟩:=h;obtain⟨t,rfl⟩:=rx;obtain⟨t',rfl⟩:=ry;exact rule i j t t' s _ _ ⟨.bl (g i j),H,I,rfl,q⟩

end
def CDiv (i j:Int):Prop:=0<j/\j<1073741824
def CPow (i j:Int):Prop:=0<=j/\j<=1000000/\i.natAbs<2 ^ 64
def CMul (i j:Int):Prop:=(-(2 ^ 64)<i/\i<2 ^ 64)\/(-(2 ^ 64)<j/\j<2 ^ 64)
theorem CMul.ok {i j:Int}(h:CMul i j):IntMulOk i j:=by
 rcases h with⟨h1,h2⟩|⟨h1,h2⟩
 ·exact .of_left (intBits_le_64 h1 h2)
 ·exact .of_right (intBits_le_64 h1 h2)
theorem jmi:OpR X (Ybd .Add) (rI0 λi j=>.int (i+j)):=opI0 λ_ _ _ _ _ _ _ q=>add_int q
theorem jl7:OpR X (Ybd .Sub) (rI0 λi j=>.int (i-j)):=opI0 λ_ _ _ _ _ _ _ q=>sub_int q
theorem jmb:OpR X (Ybd .Mult) (rI CMul λi j=>.int (i*j)):=opI λ_ _ _ _ _ _ _ hc q=>mul_int q hc.ok
theorem jj3:OpR X (Ybd .FloorDiv) (rI CDiv λi j=>.int (i/j)):=opI λi j _ _ _ _ _ hc q=>by
 have h1:(0:Int)<j:=hc.1;have h2:j<1073741824:=hc.2;exact floordiv_int (by omega) (by rw[Int.fdiv_eq_ediv_of_nonneg i (by omega)];exact q) (.inl (PyProof.noPylong_small (by omega)))
theorem jmc:OpR X (Ybd .Mod) (rI (λ_ j=>0<j) λi j=>.int (i%j)):=opI λi j _ _ _ _ _ hc q=>by
 have h1:(0:Int)<j:=hc;exact mod_int' (by omega) (by rw[Int.fmod_eq_emod_of_nonneg i (by omega)];exact q)
theorem jl9:OpR X (Ybd .Pow) (rI CPow λi j=>.int (i ^ j.toNat)):=opI λ_ _ _ _ _ _ _ hc q=>pow_int_small hc.1 hc.2.1 hc.2.2 q
theorem jkC:OpR X (YdC .Add) (rI0 λi j=>.int (i+j)):=opI0 λ_ _ _ _ _ _ _ q=>iadd_int q
theorem jkA:OpR X (YdC .Sub) (rI0 λi j=>.int (i-j)):=opI0 λ_ _ _ _ _ _ _ q=>isub_int q
theorem jkB:OpR X (YdC .Mult) (rI CMul λi j=>.int (i*j)):=opI λ_ _ _ _ _ _ _ hc q=>imul_int q hc.ok
theorem unI {f:Value->Sem Value}{g:Int->Int}
  (rule:∀(i:Int) (t:Tok) (s:Shared) (Q:Value->Shared->Prop) (E:Value->Shared->Prop),Q (.int (g i) s.toks) { s with toks:=s.toks+1 }->wpAny (model X.prog X.w) X.A (f (.int i t)) Q E s) :
  UnR X f (rU λi=>.int (g i)):=by
 intro pins s σ H x v Q I rx h;obtain⟨i,rfl,q⟩:=h;obtain⟨t,rfl⟩:=rx;exact rule i t s _ _ ⟨.int (g i),H,I.tok _,⟨_,rfl⟩,q⟩
theorem jk1:UnR X (unaryOp .USub) (rU λi=>.int (-i)):=unI λ_ _ _ _ _ q=>neg_int q
end

noncomputable def scal:V->V->Bool
 |.non,.non=>true|.non,.int _=>true|.int _,.non=>true|.non,.bl _=>true|.bl _,.non=>true|.non,.str _=>true|.str _,.non=>true
 |.int _,.int _=>true|.bl _,.bl _=>true|.str _,.str _=>true|.byt _,.byt _=>true
 |.int _,.str _=>true|.str _,.int _=>true|.bl _,.str _=>true|.str _,.bl _=>true
 |_,_=>false
def rEq:R2:=λx y H Q=>scal x y=true/\Q (.bl (decide (x=y))) H
def rNe:R2:=λx y H Q=>scal x y=true/\Q (.bl (!decide (x=y))) H

theorem jht {i j:Int}:decide (V.int i=V.int j)=(i==j):=by
 rw[Yb1];simp
theorem ji9 {i j:Bool}:decide (V.bl i=V.bl j)=(i==j):=by
 rw[Yb1];simp
theorem jhs {i j:Str}:decide (V.str i=V.str j)=(i==j):=by
 rw[Yb1];simp
theorem jhu {i j:Array UInt8}:decide (V.byt i=V.byt j)=(i.toList==j.toList):=by
 rw[Yb1];cases i;cases j;simp

section
variable {X:Cx}{a b c:Expr}{ta tb tc:TE}{pos:Pos}
theorem jaj {pins:List (Addr×Obj)}{σ:St}{H:Hp}{s:Shared}{Q:VK}{k k':Bool}(I:Inv X pins σ H s)(q:Q (.bl k) H)(e:k=k'):EP X pins σ Q (.bool k') s:=by
 subst e;exact⟨.bl k,H,I,rfl,q⟩
theorem joy:OpR X (YaN .Eq) rEq:=by
 intro pins s σ H x y v u Q I rx ry h;obtain⟨hs,q⟩:=h;cases x with
 |non=>
  cases rx;cases y with
  |non=>cases ry;exact PySem.EqNone.eq_none_none (jaj I q (by simp))
  |bl j=>cases ry;exact PySem.EqNone.eq_none_bool (jaj I q (by simp))
  |int j=>obtain⟨t',rfl⟩:=ry;exact PySem.EqNone.eq_none_int (jaj I q (by simp))
  |str j=>obtain⟨t',rfl⟩:=ry;exact PySem.EqNone.eq_none_str (jaj I q (by simp))
  |_=>exact absurd (show false=true from hs) Yak
 |bl i=>
  cases rx;cases y with
  |non=>cases ry;exact PySem.EqNone.eq_bool_none (jaj I q (by simp))
  |bl j=>cases ry;exact eq_bool (jaj I q ji9)
  |str j=>obtain⟨t',rfl⟩:=ry;exact PySem.EqMixed.eq_bool_str (jaj I q (by simp))
  |_=>exact absurd (show false=true from hs) Yak
 |int i=>
  obtain⟨t,rfl⟩:=rx;cases y with
  |non=>cases ry;exact PySem.EqNone.eq_int_none (jaj I q (by simp))
  |int j=>obtain⟨t',rfl⟩:=ry;exact eq_int (jaj I q jht)
  |str j=>obtain⟨t',rfl⟩:=ry;exact PySem.EqMixed.eq_int_str (jaj I q (by simp))
  |_=>exact absurd (show false=true from hs) Yak
 |str i=>
  obtain⟨t,rfl⟩:=rx;cases y with
  |non=>cases ry;exact PySem.EqNone.eq_str_none (jaj I q (by simp))
  |bl j=>cases ry;exact PySem.EqMixed.eq_str_bool (jaj I q (by simp))
  |int j=>obtain⟨t',rfl⟩:=ry;exact PySem.EqMixed.eq_str_int (jaj I q (by simp))
  |str j=>obtain⟨t',rfl⟩:=ry;exact eq_str (jaj I q jhs)
  |_=>exact absurd (show false=true from hs) Yak
 |byt i=>
  obtain⟨t,rfl⟩:=rx;cases y with
  |byt j=>obtain⟨t',rfl⟩:=ry;exact PySem.W.eq_bytes (jaj I q jhu)
  |_=>exact absurd (show false=true from hs) Yak
 |_=>cases y<;>exact absurd (show false=true from hs) Yak
theorem jou:OpR X (YaN .NotEq) rNe:=by
 intro pins s σ H x y v u Q I rx ry h;obtain⟨hs,q⟩:=h;cases x with
 |non=>
  cases rx;cases y with
  |non=>cases ry;exact PySem.EqNone.ne_none_none (jaj I q (by simp))
  |bl j=>cases ry;exact PySem.EqNone.ne_none_bool (jaj I q (by simp))
  |int j=>obtain⟨t',rfl⟩:=ry;exact PySem.EqNone.ne_none_int (jaj I q (by simp))
  |str j=>obtain⟨t',rfl⟩:=ry;exact PySem.EqNone.ne_none_str (jaj I q (by simp))
  |_=>exact absurd (show false=true from hs) Yak
 |bl i=>
  cases rx;cases y with
  |non=>cases ry;exact PySem.EqNone.ne_bool_none (jaj I q (by simp))
  |bl j=>cases ry;exact ne_bool (jaj I q (congrArg not ji9))
  |str j=>obtain⟨t',rfl⟩:=ry;exact PySem.EqMixed.ne_bool_str (jaj I q (by simp))
  |_=>exact absurd (show false=true from hs) Yak
 |int i=>
  obtain⟨t,rfl⟩:=rx;cases y with
  |non=>cases ry;exact PySem.EqNone.ne_int_none (jaj I q (by simp))
  |int j=>obtain⟨t',rfl⟩:=ry;exact ne_int (jaj I q (congrArg not jht))
  |str j=>obtain⟨t',rfl⟩:=ry;exact PySem.EqMixed.ne_int_str (jaj I q (by simp))
  |_=>exact absurd (show false=true from hs) Yak
 |str i=>
  obtain⟨t,rfl⟩:=rx;cases y with
  |non=>cases ry;exact PySem.EqNone.ne_str_none (jaj I q (by simp))
  |bl j=>cases ry;exact PySem.EqMixed.ne_str_bool (jaj I q (by simp))
  |int j=>obtain⟨t',rfl⟩:=ry;exact PySem.EqMixed.ne_str_int (jaj I q (by simp))
  |str j=>obtain⟨t',rfl⟩:=ry;exact ne_str (jaj I q (congrArg not jhs))
  |_=>exact absurd (show false=true from hs) Yak
 |byt i=>
  obtain⟨t,rfl⟩:=rx;cases y with
  |byt j=>obtain⟨t',rfl⟩:=ry;exact PySem.W.ne_bytes (jaj I q (congrArg not jhu))
  |_=>exact absurd (show false=true from hs) Yak
 |_=>cases y<;>exact absurd (show false=true from hs) Yak

theorem jov:OpR X (YaN .Lt) (rI0 λi j=>.bl (decide (i<j))):=opB0 λ_ _ _ _ _ _ _ q=>lt_int q
theorem jow:OpR X (YaN .LtE) (rI0 λi j=>.bl (decide (i<=j))):=opB0 λ_ _ _ _ _ _ _ q=>le_int q
theorem jox:OpR X (YaN .Gt) (rI0 λi j=>.bl (decide (j<i))):=opB0 λ_ _ _ _ _ _ _ q=>gt_int q
theorem jgM:OpR X (YaN .In) (λx y H Q=>∃i j,x=.str i/\y=.str j/\Q (.bl (!(YbT j i 0 j.length 1).isEmpty)) H):=by
 intro pins s σ H x y v u Q I rx ry h;obtain⟨i,j,rfl,rfl,q⟩:=h;obtain⟨t,rfl⟩:=rx;obtain⟨t',rfl⟩:=ry;exact in_str (jaj I q rfl)

theorem jef:OpR X (YaN .NotIn) (λx y H Q=>∃i j,x=.str i/\y=.str j/\Q (.bl (!(!(YbT j i 0 j.length 1).isEmpty))) H):=by
 intro pins s σ H x y v u Q I rx ry h;obtain⟨i,j,rfl,rfl,q⟩:=h;obtain⟨t,rfl⟩:=rx;obtain⟨t',rfl⟩:=ry;exact notIn_str (jaj I q rfl)
theorem OpR.or {f:Value->Value->Sem Value}{r r':R2}(h:OpR X f r)(h':OpR X f r'):OpR X f (λx y H Q=>r x y H Q\/r' x y H Q):=by
 intro pins s σ H x y v u Q I rx ry q;rcases q with q|q
 ·exact h pins s σ H x y v u Q I rx ry q
 ·exact h' pins s σ H x y v u Q I rx ry q

theorem jjV {op:CmpOp}{r:R2}(ho:OpR X (YaN op) r)(ha:PE X a ta)(hb:PE X b tb)(hm:YdD op b=false):PE X (.Compare a [op] [b] pos) (tOp r ta tb):=by
 intro pins s σ H Q I h;exact wpAny_Compare1 (binT ha hb I h λv u s2 x y H2 I2 rx ry q=>ho pins s2 σ H2 x y v u Q I2 rx ry q) hm
def jlf (t:TE):TT:=λσ H Q=>t σ H λx H'=>∃k,x=.bl k/\Q k H'
theorem jjF {op:CmpOp}{r:R2}(ho:OpR X (YaN op) r)(ha:PE X a ta)(hb:PE X b tb)(hm:YdD op b=false):PT X (.Compare a [op] [b] pos) (jlf (tOp r ta tb)):=by
 intro pins s σ H Q I h;refine wpAny_isTrue_Compare1 (thn (ha pins s σ H _ I h) λv s1 ⟨x,H1,I1,r1,q1⟩=>thn (hb pins s1 σ H1 _ I1 q1) λu s2 ⟨y,H2,I2,r2,q2⟩=>
  thn (ho pins s2 σ H2 x y v u _ I2 r1 r2 q2) λc s3 ⟨z,H3,I3,r3,k,e,q3⟩=>?_) hm
 subst e;cases r3;exact YbV ⟨H3,I3,q3⟩
def jiK (r r':R2)(ta tb tc:TE):TE:=λσ H Q=>ta σ H λx H1=>tb σ H1 λy H2=>r x y H2 λz H3=>∃k,z=.bl k/\
 (if k=true then tc σ H3 λw' H4=>r' y w' H4 Q else Q (.bl false) H3)
section
variable {op op':CmpOp}{r r':R2}
theorem jh6 (ho:OpR X (YaN op) r)(ho':OpR X (YaN op') r')(ha:PE X a ta)(hb:PE X b tb)(hc:PE X c tc)
  (hm:YfC [op,op'] [b,c]=false:=by with_unfolding_all rfl):PE X (.Compare a [op,op'] [b,c] pos) (jiK r r' ta tb tc):=by
 intro pins s σ H Q I h;refine Compare_chain (thn (ha pins s σ H _ I h) λv s1 ⟨x,H1,I1,r1,q1⟩=>chain_link (thn (hb pins s1 σ H1 _ I1 q1) λu s2 ⟨y,H2,I2,r2,q2⟩=>
  thn (ho pins s2 σ H2 x y v u _ I2 r1 r2 q2) λd s3 ⟨z,H3,I3,r3,k,e,q3⟩=>?_)) hm
 subst e;cases r3;refine YbV ?_;cases k with
 |false=>exact ite_ff ⟨.bl false,H3,I3,rfl,q3⟩
 |true=>exact ite_tt (chain_last (thn (hc pins s3 σ H3 _ I3 q3) λw' s4 ⟨z',H4,I4,r4,q4⟩=>ho' pins s4 σ H4 y z' u w' Q I4 r2 r4 q4))
theorem jhV (ho:OpR X (YaN op) r)(ho':OpR X (YaN op') r')(ha:PE X a ta)(hb:PE X b tb)(hc:PE X c tc)
  (hm:YfC [op,op'] [b,c]=false:=by with_unfolding_all rfl):PT X (.Compare a [op,op'] [b,c] pos) (jlf (jiK r r' ta tb tc)):=by
 intro pins s σ H Q I h;refine isTrue_chain (thn (ha pins s σ H _ I h) λv s1 ⟨x,H1,I1,r1,q1⟩=>test_link (thn (hb pins s1 σ H1 _ I1 q1) λu s2 ⟨y,H2,I2,r2,q2⟩=>
  thn (ho pins s2 σ H2 x y v u _ I2 r1 r2 q2) λd s3 ⟨z,H3,I3,r3,k,e,q3⟩=>?_)) hm
 subst e;cases r3;refine YbV ?_;cases k with
 |false=>
  obtain⟨k',e',q'⟩:=q3;cases e';exact ite_ff ⟨H3,I3,q'⟩
 |true=>
  refine ite_tt (test_last (thn (hc pins s3 σ H3 _ I3 q3) λw' s4 ⟨z',H4,I4,r4,q4⟩=>thn (ho' pins s4 σ H4 y z' u w' _ I4 r2 r4 q4) λd' s5 ⟨z2,H5,I5,r5,k2,e2,q5⟩=>?_));subst e2;cases r5;exact YbV ⟨H5,I5,q5⟩

end
def TruV (K:Yab)(x:V)(H:Hp)(k:Bool):Prop:=
 match x with
 |.non=>k=false
 |.bl b=>k=b
 |.int i=>k=(i != 0)
 |.str y=>y.length<=Yah/\k=((y.length:Int) != 0)
 |.byt y=>y.size<=Yah/\k=((y.size:Int) != 0)
 |.ref p=>(∃xs,SqL K H p xs/\k = !xs.isEmpty)\/(∃xs,SqT K H p xs/\k = !xs.isEmpty)\/∃kvs,H p=some (.dK kvs)/\k = !kvs.isEmpty
 |_=>False
theorem jgf {κ:Type}{kvs:List (κ×V)}{vs:List (κ×Value)}(r:KV kvs vs):(!vs.isEmpty) = !kvs.isEmpty:=by
 cases r<;>rfl
theorem jdz {xs:List V}{its:List Value}(r:Vals xs its):(!its.toArray.isEmpty) = !xs.isEmpty:=by
 cases r<;>simp
theorem jdy:(Yah:Nat)<2 ^ 63:=by rw[Ycn];decide
theorem jfe:TruR X (λx H Q=>∃k,TruV X.K x H k/\Q k H):=by
 intro pins s σ H x v Q I rx h;obtain⟨k,e,q⟩:=h;have hl:=jdy;have hs:Yah=16777216:=Ycn;cases x with
 |non=>
  cases rx;have e':k=false:=e;subst e';exact truthy_none ⟨H,I,q⟩
 |bl b=>
  cases rx;have e':k=b:=e;subst e';exact YbV ⟨H,I,q⟩
 |int i=>
  obtain⟨t,rfl⟩:=rx;have e':k=(i != 0):=e;subst e';exact PySem.P.truthy_int ⟨H,I,q⟩
 |str y=>
  obtain⟨t,rfl⟩:=rx;obtain⟨hy,e'⟩:y.length<=Yah/\k=((y.length:Int) != 0):=e;subst e';exact PySem.P.truthy_str (by omega) ⟨H,I.tok _,q⟩
 |byt y=>
  obtain⟨t,rfl⟩:=rx;obtain⟨hy,e'⟩:y.size<=Yah/\k=((y.size:Int) != 0):=e;subst e';exact PySem.W.truthy_bytes (by omega) ⟨H,I.tok _,q⟩
 |ref p=>
  cases rx;have e':(∃xs,SqL X.K H p xs/\k = !xs.isEmpty)\/(∃xs,SqT X.K H p xs/\k = !xs.isEmpty)\/∃kvs,H p=some (.dK kvs)/\k = !kvs.isEmpty:=e;rcases e' with⟨xs,hx,e'⟩|⟨xs,hx,e'⟩|⟨kvs,hx,e'⟩
  ·subst e';obtain⟨its,r,pl,hz⟩:=I.list hx;have hlen:=r.length;exact wpAny_truthy_list pl.isList (by simp only[Yai];omega) ⟨H,I.tok _,by rw[jdz r];exact q⟩
  ·subst e';obtain⟨its,r,pl,hz⟩:=I.tuple hx;have hlen:=r.length;exact truthy_tuple pl (by simp only[Yai];omega) ⟨H,I.tok _,by rw[jdz r];exact q⟩
  ·subst e';obtain⟨hz,hS,vs,r,m⟩:kvs.length<=Yah/\(p==YaV)=false/\∃vs,KV kvs vs/\s.heap.DictOf (jai X.prog X.w) p vs:=I.hok p _ hx;have hlen:kvs.length=vs.length:=Yc5 r;exact wpAny_truthy_dict hS m (by omega) ⟨H,I.tok _,by rw[jgf r];exact q⟩
 |_=>exact(show False from e).elim
theorem jhU (ha:PE X a ta)(he:∀whole,isTrue a X.env whole=(do let v <- whole;standAt a.pos;holding [v] (truthy v))) :
  PT X a (λσ H Q=>ta σ H λx H'=>∃k,TruV X.K x H' k/\Q k H'):=by
 intro pins s σ H Q I h;exact isTrue_plain (thn (ha pins s σ H _ I h) λv s1 ⟨x,H1,I1,r1,q1⟩=>jfe pins s1 σ H1 x v Q I1 r1 q1) (he _)

theorem jf6:OpR X (Ybd .Add) (λx y H Q=>∃i j,x=.str i/\y=.str j/\i.length+j.length<=Yah/\Q (.str (i++j)) H):=by
 intro pins s σ H x y v u Q I rx ry h;obtain⟨i,j,rfl,rfl,hz,q⟩:=h;obtain⟨t,rfl⟩:=rx;obtain⟨t',rfl⟩:=ry;exact add_str (λt' tk=>⟨.str (i++j),H,I.tok _,⟨_,rfl⟩,q⟩) hz
theorem je1:OpR X (YdC .Add) (λx y H Q=>∃i j,x=.str i/\y=.str j/\i.length+j.length<=Yah/\Q (.str (i++j)) H):=by
 intro pins s σ H x y v u Q I rx ry h;obtain⟨i,j,rfl,rfl,hz,q⟩:=h;obtain⟨t,rfl⟩:=rx;obtain⟨t',rfl⟩:=ry;exact iadd_str (λt' tk=>⟨.str (i++j),H,I.tok _,⟨_,rfl⟩,q⟩) hz
theorem jcO {x:V}{us:List Value}(r:Vals [x] us):∃u,us=[u]/\RelV x u:=by
 cases r with
 |cons r1 r2=>cases r2;exact⟨_,rfl,r1⟩
theorem jnB {x y:V}{us:List Value}(r:Vals [x,y] us):∃u w',us=[u,w']/\RelV x u/\RelV y w':=by
 cases r with
 |cons r1 r2=>
  cases r2 with
  |cons r3 r4=>cases r4;exact⟨_,_,rfl,r1,r3⟩
theorem jhz (hc:X.calm=true):ja5 X (.builtin "min") (λxs H Q=>∃i j,xs=[.int i,.int j]/\Q (.int (if j<i then j else i)) H):=by
 intro pins s σ H xs us Q I r h;obtain⟨i,j,rfl,q⟩:=h;obtain⟨u,w',rfl,⟨t,rfl⟩,⟨t',rfl⟩⟩:=jnB r;refine min_two_ints (I.ok.hd hc) λh' tk k=>⟨_,H,I.kept k,?_,q⟩;by_cases hj:j<i
 ·rw[if_pos hj,if_pos hj];exact⟨_,rfl⟩
 ·rw[if_neg hj,if_neg hj];exact⟨_,rfl⟩
theorem jhB:ja5 X (.type "int") (λxs H Q=>(∃i,xs=[.int i]/\Q (.int i) H)\/∃k,xs=[.bl k]/\Q (.int (if k then 1 else 0)) H):=by
 intro pins s σ H xs us Q I r h;rcases h with⟨i,rfl,q⟩|⟨k,rfl,q⟩
 ·obtain⟨u,rfl,t,rfl⟩:=jcO r;exact call_int_int ⟨.int i,H,I,⟨_,rfl⟩,q⟩
 ·obtain⟨u,rfl,r1⟩:=jcO r;cases r1;exact call_int_bool ⟨.int (if k then 1 else 0),H,I.tok _,⟨_,rfl⟩,q⟩
def LenV (K:Yab)(x:V)(H:Hp)(n:Nat):Prop:=
 match x with
 |.str y=>y.length<=Yah/\n=y.length
 |.byt y=>y.size<=Yah/\n=y.size
 |.ref p=>(∃xs,SqL K H p xs/\n=xs.length)\/∃xs,SqT K H p xs/\n=xs.length
 |_=>False
theorem jiy:ja5 X (.builtin "len") (λxs H Q=>∃x n,xs=[x]/\LenV X.K x H n/\Q (.int n) H):=by
 intro pins s σ H xs us Q I r h;obtain⟨x,n,rfl,e,q⟩:=h;obtain⟨u,rfl,rx⟩:=jcO r;have hl:=jdy;have hs:Yah=16777216:=Ycn;cases x with
 |str y=>
  obtain⟨t,rfl⟩:=rx;obtain⟨hy,e'⟩:y.length<=Yah/\n=y.length:=e;subst e';exact len_str (by omega) ⟨.int _,H,I.tok _,⟨_,rfl⟩,q⟩
 |byt y=>
  obtain⟨t,rfl⟩:=rx;obtain⟨hy,e'⟩:y.size<=Yah/\n=y.size:=e;subst e';exact PySem.W.len_bytes (by omega) ⟨.int _,H,I.tok _,⟨_,rfl⟩,q⟩
 |ref p=>
  cases rx;have e':(∃xs,SqL X.K H p xs/\n=xs.length)\/∃xs,SqT X.K H p xs/\n=xs.length:=e;rcases e' with⟨xs,hx,e'⟩|⟨xs,hx,e'⟩
  ·subst e';obtain⟨its,r',pl,hz⟩:=I.list hx;have hlen:=r'.length;exact Calls.call_len_list pl.isList (by simp only[Yai];omega) ⟨.int xs.length,H,I.tok _,⟨_,by simp only[Yai];rw[hlen]⟩,q⟩
  ·subst e';obtain⟨its,r',pl,hz⟩:=I.tuple hx;have hlen:=r'.length;exact len_tuple pl (by simp only[Yai];omega) ⟨.int xs.length,H,I.tok _,⟨_,by simp only[Yai];rw[hlen]⟩,q⟩
 |_=>exact(show False from e).elim
end

structure ObjM (h:Heap)(x dx C:Addr)(mA:Str->Option Value):Prop where
 obj:h.get? x=some (Ydn C dx)
 ns:h.Ns1 dx mA
 ne:dx≠x

theorem jg1 {h:Heap}{dx:Addr}{mA:Str->Option Value}(n:h.Ns1 dx mA):∃od,h.get? dx=some od/\∀name,YdH name od=some (mA name):=by
 obtain⟨o,es,ep,ho,hd,hk,_,hm⟩:=n;refine⟨o,ho,λname=>?_⟩;have e:=hm name;unfold nsFind findBy at e;rw[<- Array.find?_toList]at e;unfold YdH;rw[hd];dsimp only;split
 ·rename_i y q;rw[q]at e;exact congrArg some e
 ·rename_i q;rw[q]at e;have a:es.toList.any (·.refKey)=false:=by
   rw[Yfu];intro y hy;obtain⟨z,t,hkey⟩:=hk y (Array.mem_toList_iff.mp hy);simp[Ych.refKey,hkey]
  have a':¬es.toList.any (·.refKey)=true:=by rw[a];exact Yak
  rw[if_neg a'];exact congrArg some e

theorem ObjM.look {h:Heap}{x dx C:Addr}{mA:Str->Option Value}(I:ObjM h x dx C mA):∃od,PySem.W.InstAt h x (Ydn C dx) C (some od)/\∀name,YdH name od=some (mA name):=
 let ⟨od,ho,hl⟩:=jg1 I.ns
 ⟨od,⟨I.obj,rfl,rfl,ho⟩,hl⟩

section
variable {prog:Program}{w:World}{A:Around}{E:Value->Shared->Prop}{s:Shared}{K:Yab}{x dx C f:Addr}{mA:Str->Option Value}{name:Str}{v:Value}

end

theorem RelO.some_of {v:V}{o:Option Value}(r:RelO (some v) o):∃u,o=some u/\RelV v u:=by
 cases o with
 |none=>exact(show False from r).elim
 |some u=>exact⟨u,rfl,r⟩
section
variable {P:Program}{w:World}{H H':Hp}{h h':Heap}{a C dx:Addr}{fs fs':List (Str×V)}
theorem jkD (hok:HOk P w H h)(e:H a=some (.ins C dx fs)):∃mA,ObjM h a dx C mA/\(∀f,RelO (fs.lookup f) (mA f))/\PySem.Within mA (fs.map (·.1))/\fs.length<=1000/\H dx=some (.own a):=by
 obtain⟨d,z,ne,ob,mA,n,r,q⟩:=(show jaC P w H h a (.ins C dx fs)from hok a _ e);exact⟨mA,⟨ob,n,ne⟩,r,q,z,d⟩
end

structure Cls (K:Yab)(C:Addr):Prop where
 pg:YeO K C YeA=true
 hd:PySem.W.hasDictIn K C=true
 po:PySem.W.plainOver K C=true
 sa:Ycs K (.ref C) "__setattr__" = some (some (.builtin "object.__setattr__"))
theorem Cls.get {K:Yab}{C:Addr}(c:Cls K C)(f:Str):YeO K C f=true:=c.pg
structure Con (K:Yab)(C:Addr)(f:Str)(v:V)(u:Value):Prop where
 at_:Ycs K (.ref C) f=some (some u)
 rel:RelV v u
 get:YeC K u "__get__" = some none
 cp:PySem.W.copiedNames.contains f=false
structure Meth (K:Yab)(C:Addr)(m:Str)(f:Addr):Prop where
 at_:Ycs K (.ref C) m=some (some (.ref f))
 fn:PySem.W.isFn K (.ref f)=true
 kp:YbN K (.ref f)=true

section
variable {X:Cx}{pins:List (Addr×Obj)}{σ:St}{H:Hp}{s:Shared}{a C dx:Addr}{fs:List (Str×V)}{f:Str}{v:V}{A:Around}{E:Value->Shared->Prop}

end

section
variable {X:Cx}{o e value:Expr}{f:Str}{pos pos' tpos:Pos}{ta tv:TE}
end

section
variable {X:Cx}{pins:List (Addr×Obj)}{σ:St}{H:Hp}{s:Shared}{A:Around}{E:Value->Shared->Prop}{Q:Value->Shared->Prop}{c:Value}{b:Bool}
inductive TyOf (K:Yab)(H:Hp):V->Value->Prop where
 |non:TyOf K H .non (.type "NoneType")
 |bl (x:Bool):TyOf K H (.bl x) (.type "bool")
 |int (i:Int):TyOf K H (.int i) (.type "int")
 |str (x:Str):TyOf K H (.str x) (.type "str")
 |flt (x:UInt64):TyOf K H (.flt x) (.type "float")
 |lst {a:Addr} {xs:List V} (e:H a=some (.lst xs)):TyOf K H (.ref a) (.type "list")
 |frz {a:Addr} {o:Obj} {xs:List V} (e:H a=some (.frz o (.lst xs))):TyOf K H (.ref a) (.type "list")
 |tup {a:Addr} {xs:List V} (e:H a=some (.tup xs)):TyOf K H (.ref a) (.type "tuple")
 |dK {a:Addr} {kvs:List (Key×V)} (e:H a=some (.dK kvs)):TyOf K H (.ref a) (.type "dict")
 |dT {a:Addr} {kvs:List (List Key×V)} (e:H a=some (.dT kvs)):TyOf K H (.ref a) (.type "dict")
 |ins {a C dx:Addr} {fs:List (Str×V)} (e:H a=some (.ins C dx fs)) (cl:Cls K C) (ha:Ycs K (.ref C) "__class__" = some (some (.builtin "object.__class__")))
   (hn:YeC K (.builtin "object.__class__") "__get__" = some (some (.builtin "getset_descriptor.__get__"))) (htk:PySem.W.takesIn K (.builtin "object.__class__")=some true)
   (hm:PySem.W.mroIn K C (.type "object")=some true):TyOf K H (.ref a) (.ref C)
theorem jg7 {x:V}{u t:Value}(I:Inv X pins σ H s)(rx:RelV x u)(ty:TyOf X.K H x t)(e:YcQ X.K t c=some b)(h:∀tk,Q (.bool b) { s with toks:=tk }) :
  wpAny (model X.prog X.w) A (call (.builtin "isinstance") [u,c]) Q E s:=by
 cases ty with
 |non=>cases(show u=YaM from rx);exact Ya9 PySem.W.kitx_none I.kIn YbJ e (λz=>nomatch z) h
 |bl y=>cases(show u=Ye4 y from rx);exact Ya9 PySem.W.kitx_bool I.kIn YbJ e (λz=>nomatch z) h
 |int i=>obtain⟨t,q⟩:=(show ∃t,u=YdG i t from rx);cases q;exact Ya9 PySem.W.kitx_int I.kIn YbJ e (λz=>nomatch z) h
 |str y=>obtain⟨t,q⟩:=(show ∃t,u=Yer y t from rx);cases q;exact Ya9 PySem.W.kitx_str I.kIn YbJ e (λz=>nomatch z) h
 |flt y=>obtain⟨t,q⟩:=(show ∃t,u=Value.float y t from rx);cases q;exact Ya9 PySem.W.kitx_float I.kIn YbJ e (λz=>nomatch z) h
 |@lst a xs ea=>
  cases(show u=Ybw a from rx);obtain⟨_,_,n,_,h1⟩:=(show jaC X.prog X.w H s.heap a (.lst xs)from I.hok a _ ea);exact Ya9 YeF I.kIn ⟨_,h1,rfl⟩ e (λz=>nomatch z) h
 |@frz a ob xs ea=>
  cases(show u=Ybw a from rx);obtain⟨_,_,_,n,_,h1⟩:=(show jaC X.prog X.w H s.heap a (.frz ob (.lst xs))from I.hok a _ ea);exact Ya9 YeF I.kIn ⟨_,h1,rfl⟩ e (λz=>nomatch z) h
 |@tup a xs ea=>
  cases(show u=Ybw a from rx);obtain⟨_,_,_,p⟩:=(show jaC X.prog X.w H s.heap a (.tup xs)from I.hok a _ ea);obtain⟨o,h1,h2,_⟩:=p;exact Ya9 PySem.W.kitx_tuple I.kIn ⟨o,h1,h2⟩ e (λz=>nomatch z) h
 |@dK a kvs ea=>
  cases(show u=Ybw a from rx);obtain⟨_,_,vs,_,p⟩:=(show jaC X.prog X.w H s.heap a (.dK kvs)from I.hok a _ ea);obtain⟨o,es,ep,h1,h2,_⟩:=p;exact Ya9 YeG I.kIn ⟨o,h1,h2.1⟩ e (λz=>nomatch z) h
 |@dT a kvs ea=>
  cases(show u=Ybw a from rx);obtain⟨_,_,xs,_,o,es,ep,h1,h2,_⟩:=(show jaC X.prog X.w H s.heap a (.dT kvs)from I.hok a _ ea);exact Ya9 YeG I.kIn ⟨o,h1,h2.1⟩ e (λz=>nomatch z) h
 |@ins a C dx fs ea cl ha hn htk hm=>
  cases(show u=Ybw a from rx);obtain⟨mA,O,_⟩:=jkD I.hok ea;obtain⟨od,J,_⟩:=O.look;exact Ya9 (PySem.W.kitx_own (cl.get _) cl.hd ha hn htk hm) I.kIn J e (λz=>nomatch z) h
end

structure Room (k:Nat)(A:Around):Prop where
 hd:A.handled=none
 dp:A.depth+k+20<recursionLimit
 un:A.units+8*k+200<cLine
 gd:A.guards=some []
theorem Room.mono {j k:Nat}{A:Around}(r:Room k A)(h:j<=k):Room j A:=⟨r.hd,by have:=r.dp;omega,by have:=r.un;omega,r.gd⟩
section
variable {k:Nat}{A:Around}
theorem Room.deeper (r:Room (k+1) A)(env:Env):Room k (A.deeper env):=
 ⟨r.hd,by have:=r.dp;show A.depth+1+k+20<_;omega,by have:=r.un;show A.units+3+8*k+200<_;omega,r.gd⟩
theorem Room.depth (r:Room k A):A.depth<recursionLimit:=by have:=r.dp;omega
theorem Room.units (r:Room k A):A.units+64<cLine:=by have:=r.un;omega
theorem Room.units0 (r:Room k A):A.units<cLine:=by have:=r.un;omega

end
def tNil:TA:=λ_ H Q=>Q [] H
def jn2 (ta:TE)(tr:TA):TA:=λσ H Q=>ta σ H λx H1=>tr σ H1 λxs H2=>Q (x::xs) H2
section
variable {X:Cx}{e:Expr}{es:List Expr}{te:TE}{t:TA}{pos:Pos}
theorem jlZ:PA X [] tNil:=λ_ _ _ _ H Q I h=>Calls.spliced_nil ⟨[],H,I,.nil,h⟩
theorem jjY (ha:PE X e te)(hr:PA X es t)(hs:YaG (e::es) X.env=(false,eval e X.env)::YaG es X.env:=by rfl):PA X (e::es) (jn2 te t):=by
 intro pos pins s σ H Q I h;rw[hs];show wpAny _ _ (spliced ((false,eval e X.env)::backTo pos (YaG es X.env))) _ _ s;refine Calls.spliced_cons (thn (ha pins s σ H _ I h) λu s1 ⟨x,H1,I1,r1,q1⟩=>?_);exact thn (hr pos pins s1 σ H1 _ I1 q1) λus s2 ⟨xs,H2,I2,r2,q2⟩=>⟨x::xs,H2,I2,.cons r1 r2,q2⟩

def tTup (t:TA):TE:=λσ H Q=>t σ H λxs H1=>xs.length<=Yah/\∀p,H1 p=none->Q (.ref p) (upd H1 p (.tup xs))
def tLst (t:TA):TE:=λσ H Q=>t σ H λxs H1=>xs.length<=Yah/\∀p,H1 p=none->Q (.ref p) (upd H1 p (.lst xs))
theorem jlS {x1}(h:PA X es t):PE X (.Tuple es x1 pos) (tTup t):=by
 intro pins s σ H Q I hq;refine wpAny_Tuple_spliced (thn (h pos pins s σ H _ I hq) λus s1 ⟨xs,H1,I1,r,z,q⟩=>⟨by rw[<- r.length];exact z,?_⟩)
 have hf:H1 s1.heap.objs.size=none:=I1.hok.fresh (Yag _);refine⟨.ref s1.heap.objs.size,upd H1 s1.heap.objs.size (.tup xs),I1.laid (t':=s1.toks) (λb u e=>Yad _ e) (Yag _) ?_,rfl,q _ hf⟩;exact⟨z,us,r,⟨_,Yaq _ rfl,rfl,_,rfl,rfl⟩⟩
theorem jlW (h:PA X es t):PE X (.List es pos) (tLst t):=by
 intro pins s σ H Q I hq;refine wpAny_List_spliced (thn (h pos pins s σ H _ I hq) λus s1 ⟨xs,H1,I1,r,z,q⟩=>⟨by rw[<- r.length];exact z,?_⟩)
 have hf:H1 s1.heap.objs.size=none:=I1.hok.fresh (Yag _);refine⟨.ref s1.heap.objs.size,upd H1 s1.heap.objs.size (.lst xs),I1.laid (t':=s1.toks) (λb u e=>Yad _ e) (Yag _) ?_,rfl,q _ hf⟩;exact⟨z,us,0,r,Yaq _ rfl⟩
end

abbrev Sp:=List V->Hp->VK->XK->Prop
abbrev CXT:=List Env->Hp->Shared->XK->Value->Shared->Prop

structure Env0 (P:Program)(w:World)(K:Yab)(mg:Str->Option Value)(base:Heap)(A:Around)(outer:List Env)(s:Shared)(H:Hp):Prop where
 frames:A.frames=some outer
 mod:Mod K mg base
 bs:∀b o,base.get? b=some o->s.heap.get? b=some o/\H b=none
 bsz:base.objs.size<=s.heap.objs.size
 funs:s.heap.FunFrames base outer
 frf:∀b∈frs outer,H b=none
 hok:HOk P w H s.heap
 bare:AllBare s.gens
def CE (outer:List Env)(P:Program)(w:World)(H:Hp)(s:Shared)(Q:VK)(u:Value)(s':Shared):Prop:=
 ∃v H',s'.os=s.os/\AllBare s'.gens/\Un (frs outer) [] H H' s.heap s'.heap/\HOk P w H' s'.heap/\RelV v u/\Q v H'
def CR (CX:CXT)(outer:List Env)(P:Program)(w:World)(H:Hp)(s:Shared)(Q:VK)(E:XK)(r:Result)(s':Shared):Prop:=
 match r with
 |.ok (.ret u)=>CE outer P w H s Q u s'
 |.ok _=>False
 |.error e=>CX outer H s E e s'
structure FnOk (P:Program)(w:World)(K:Yab)(mg:Str->Option Value)(base:Heap)(CX:CXT)(k:Nat)(f:Addr)(fd:Ybn)(ps:List Str)(sp:Sp):Prop where
 len:∀vs H Q E,sp vs H Q E->vs.length=ps.length
 run:∀(A:Around) (outer:List Env) (s:Shared) (H:Hp) (args:Args) (us:List Value) (vs:List V) (Q:VK) (E:XK),Room k A->Env0 P w K mg base A outer s H->BindsTo s fd args (ps.zip us)->Vals vs us->sp vs H Q E->
  codeAny (model P w) A (.call (.ref f) args) (CR CX outer P w H s Q E) s
section
variable {X:Cx}{pins:List (Addr×Obj)}{σ:St}{H:Hp}{s s':Shared}
theorem Inv.env0 (I:Inv X pins σ H s):Env0 X.prog X.w X.K X.mg X.base X.A X.stack s H:=
 ⟨I.ok.frames,I.ok.mod,I.bs,Yal I.ok.bsz I.sz,I.stack,I.stkFree,I.hok,I.bare⟩
theorem Inv.after {Q:VK}{u:Value}(I:Inv X pins σ H s)(h:CE X.stack X.prog X.w H s Q u s'):EP X pins σ Q u s':=by
 obtain⟨v,H',os,bare,un,hok,r,q⟩:=h;obtain⟨hh,g,d,t,os'⟩:=s';obtain rfl:os'=s.os:=os;exact⟨v,H',I.call (h':=hh) (g':=g) (d':=d) (t':=t) (ch:=[]) un hok bare (λb z=>absurd z (by simp)),r,q⟩
end

def Binds (K:Yab)(fd:Ybn)(ps:List Str)(ds:List Value):Prop:=
 ∀(s:Shared) (us:List Value),K.In s.heap->(us++ds).length=ps.length->BindsTo s fd ⟨us,[]⟩ (ps.zip (us++ds))
theorem Binds.all {K:Yab}{fd:Ybn}{ps:List Str}(h:∀us:List Value,us.length=ps.length->bindArgs fd ⟨us,[]⟩=pure (ps.zip us)):Binds K fd ps []:=λs us _ hl=>by
 rw[YcV]at hl ⊢;exact .of_eq (h us hl)

section
variable {X:Cx}{CX:CXT}{k:Nat}{f C:Addr}{fd:Ybn}{ps:List Str}{sp:Sp}{dvs:List V}{ds:List Value}{E:XK}{x m:Str}{p pos apos:Pos}{e o:Expr}{es:List Expr}{ta:TE}{t:TA}

structure Mk (K:Yab)(C f:Addr):Prop where
 makes:PySem.W.makesIn K C=true
 init:Ycs K (.ref C) "__init__" = some (some (.ref f))
 fn:PySem.W.isFn K (.ref f)=true
 kp:YbN K (.ref C)=true

end

def PK (X:Cx)(kws:List Keyword)(t:TA):Prop:=
 ∀(pos:Pos) (pins:List (Addr×Obj)) (s:Shared) (σ:St) (H:Hp) (Q:List V->Hp->Prop),Inv X pins σ H s->t σ H Q->wpAny (model X.prog X.w) X.A (evalAll ((backToKw pos (Yeq kws X.env)).map (·.2))) (AP X pins σ Q) X.xe s
section
variable {X:Cx}{CX:CXT}{k:Nat}{f C:Addr}{fd:Ybn}{ps ks:List Str}{sp:Sp}{E:XK}{x m:Str}{p pos apos kpos:Pos}{e o:Expr}{es:List Expr}{kws:List Keyword}{te ta:TE}{t tk:TA}{nm:Option Str}
theorem pk_nil:PK X [] tNil:=λ_ _ _ _ H Q I h=>wpAny_evalAll_nil ⟨[],H,I,.nil,h⟩
structure KBinds (K:Yab)(fd:Ybn)(ps ks:List Str)(g:List Value->List Value->List Value)(gV:List V->List V->List V):Prop where
 to:∀(s:Shared) (us ws:List Value),K.In s.heap->(g us ws).length=ps.length->BindsTo s fd ⟨us,ks.zip ws⟩ (ps.zip (g us ws))
 rel:∀{vs:List V} {us:List Value} {zs:List V} {ws:List Value},Vals vs us->Vals zs ws->Vals (gV vs zs) (g us ws)
variable {g:List Value->List Value->List Value}{gV:List V->List V->List V}
end

structure FnScope (N P:List Str)(sc:Scope):Prop where
 kind:sc.kind=.function
 co:sc.isCoroutine=false
 gen:sc.isGenerator=false
 nd:N.Nodup
 pre:N.take P.length=P
 par:∀x∈P,sc.names.lookup x=some .local\/sc.names.lookup x=some .cell
 nofree:∀y∈sc.names,y.2≠.free

section
variable {kindOf:Str->Option Ybu}{x:Str}
theorem jeG:∀{binds:List (Str×Value)} {m:Str->Option Value},(∀v,(x,v)∉binds)->bindL kindOf binds m x=m x
 |[],_,_=>rfl
 |(n,v)::r,m,h=>by
  unfold bindL;rw[jeG λw hw=>h w (Yaj _ hw)];split
  ·have:x≠n:=by rintro rfl;exact h v Yat
   simp[this]
  ·rfl
theorem jeI:∀{binds:List (Str×Value)} {m:Str->Option Value},(∀v,(x,v)∉binds)->bindC kindOf binds m x=m x
 |[],_,_=>rfl
 |(n,v)::r,m,h=>by
  unfold bindC;rw[jeI λw hw=>h w (Yaj _ hw)];split
  ·rfl
  ·have:x≠n:=by rintro rfl;exact h v Yat
   simp[this]
theorem jeH {v:Value}:∀{P:List Str} {vs:List Value} {i:Nat} {m:Str->Option Value},P.Nodup->P[i]?=some x->vs[i]?=some v->kindOf x=some .local->
  bindL kindOf (P.zip vs) m x=some v
 |[],_,_,_,_,h,_,_=>by simp at h
 |_::_,[],_,_,_,_,h,_=>by simp at h
 |p::P,w::vs,0,m,nd,h1,h2,hk=>by
  simp at h1 h2;subst h1;subst h2;show bindL kindOf ((p,w)::P.zip vs) m p=_;unfold bindL;rw[jeG λv hv=>(List.nodup_cons.mp nd).1 (YdP hv).1,if_pos hk];simp
 |p::P,w::vs,i+1,m,nd,h1,h2,hk=>by
  show bindL kindOf ((p,w)::P.zip vs) m x=_;unfold bindL;exact jeH (i:=i) (List.nodup_cons.mp nd).2 (by simpa using h1) (by simpa using h2) hk
theorem jeJ {v:Value}:∀{P:List Str} {vs:List Value} {i:Nat} {m:Str->Option Value},P.Nodup->P[i]?=some x->vs[i]?=some v->kindOf x≠some .local->
  bindC kindOf (P.zip vs) m x=some v
 |[],_,_,_,_,h,_,_=>by simp at h
 |_::_,[],_,_,_,_,h,_=>by simp at h
 |p::P,w::vs,0,m,nd,h1,h2,hk=>by
  simp at h1 h2;subst h1;subst h2;show bindC kindOf ((p,w)::P.zip vs) m p=_;unfold bindC;rw[jeI λv hv=>(List.nodup_cons.mp nd).1 (YdP hv).1,if_neg hk];simp
 |p::P,w::vs,i+1,m,nd,h1,h2,hk=>by
  show bindC kindOf ((p,w)::P.zip vs) m x=_;unfold bindC;exact jeJ (i:=i) (List.nodup_cons.mp nd).2 (by simpa using h1) (by simpa using h2) hk

end
noncomputable def start (N:List Str)(vs:List V):St:=vs.map some++Yae (N.length-vs.length) none

noncomputable def cxOf (CX:CXT)(P:Program)(w:World)(K:Yab)(mg:Str->Option Value)(base:Heap)(N:List Str)(qual:Str)(scope:Scope)(f:Addr)(cd:Value)(A:Around)(outer:List Env)(s:Shared)(H:Hp)(E:XK):Cx where
 prog:=P
 w:=w
 K:=K
 mg:=mg
 base:=base
 A:=A.deeper (envOfC qual scope s.heap.objs.size f cd)
 N:=N
 s₀:=s
 H₀:=H
 env:=envOfC qual scope s.heap.objs.size f cd
 outer:=outer
 stack:=envOfC qual scope s.heap.objs.size f cd::outer
 ex:=[]
 calm:=true
 fn:=λ_=>true
 pn:=[]
 xe:=λe s'=>wpAny (model P w) (A.deeper (envOfC qual scope s.heap.objs.size f cd)) (leaving (envOfC qual scope s.heap.objs.size f cd) e) (λ_ s''=>CX outer H s E e s'') (λe' s''=>CX outer H s E e' s'') s'

theorem jdZ {sc:Scope}{n:Nat}{x:Str}(h:sc.names.lookup x=some .cell):∃c,(Ybi n sc.names []).lookup x=some c:=by
 have q:=Yd6 sc.names n [] (.inl h);exact Option.isSome_iff_exists.mp q

section
variable {CX:CXT}{P:Program}{w:World}{K:Yab}{mg:Str->Option Value}{base:Heap}
theorem jg8 {N ps:List Str}{qual:Str}{scope:Scope}{f:Addr}{cd:Value}{A:Around}{outer:List Env}{s s1:Shared}{H:Hp}{E:XK}{us:List Value}{vs:List V}
  (S:FnScope N ps scope) (hd:A.handled=none) (e0:Env0 P w K mg base A outer s H) (hl:vs.length=ps.length) (r:Vals vs us)
  (x:InCallC s s.heap.objs.size (bindL (envOfC qual scope s.heap.objs.size f cd).kindOf (ps.zip us) λ_=>none) (Ybi (s.heap.objs.size+1) scope.names []) (bindC (envOfC qual scope s.heap.objs.size f cd).kindOf (ps.zip us) λ_=>none) s1) :
  Inv (cxOf CX P w K mg base N qual scope f cd A outer s H E) [] (start N vs) H s1:=by
 have hpl:ps.length<=N.length:=by have:=congrArg YeT S.pre;rw[YbW]at this;omega
 obtain⟨h1,tk,rfl,hk⟩:=x.done;have noA:∀b:Addr,b∉(cxOf CX P w K mg base N qual scope f cd A outer s H E).ex:=λb z=>absurd (show b∈([]:List Addr)from z) (by simp)
 refine⟨⟨e0.mod,S.kind,rfl,rfl,Yag _,λy z c h1 h2=>?_,λy hy=>?_,λy c _ h=>?_,λ_=>hd,Around.frames_deeper e0.frames,.inr ⟨rfl,rfl⟩,λb z=>absurd z (noA b),e0.bs,e0.bsz,λb _ _=>noA b,λb z=>absurd z (noA b),e0.funs,e0.frf⟩,
  rfl,e0.bare,Un.kept hk,⟨_,x.toInCall.ns,λi y v h1 h2 h3=>?_⟩,λy c h=>⟨_,x.cell y c h⟩,e0.hok.fresh (Yag _),λy c h=>?_,λp hp=>absurd (show p∈([]:List (Addr×Obj))from hp) (by simp),e0.hok.kept hk,?_⟩
 ·exact name_of_addr x.apart (YaA h1) (YaA h2)
 ·have hy:scope.names.lookup y=some .cell\/scope.names.lookup y=some .free:=hy;rcases hy with hy|hy
  ·exact jdZ hy
  ·exact absurd rfl (S.nofree _ (YaA hy))
 ·exact Yb0 (x.above y c (YaA h))
 ·have hi:i<vs.length:=by
   unfold start at h2;by_cases hi:i<vs.length
   ·exact hi
   ·rw[YbO (by simpa using hi)]at h2
    rw[Yek]at h2;split at h2<;>cases h2
  have ha:vs[i]?=some v:=by
   unfold start at h2;rw[YaT (by simpa using hi),Yan]at h2
   cases e:vs[i]? with
   |none=>rw[e]at h2;cases h2
   |some a=>rw[e]at h2;cases h2;rfl
  obtain⟨u,hu,rv⟩:=r.get ha;have hp:ps[i]?=some y:=by
   rw[<- S.pre,List.getElem?_take_of_lt (by omega)];exact h1
  have ndP:ps.Nodup:=by rw[<- S.pre];exact S.nd.sublist (Yfr _ _)
  refine⟨u,rv,?_⟩;rcases S.par y (Yam hp)with k|k
  ·exact .inl ⟨k,jeH ndP hp hu k⟩
  ·obtain⟨c,e⟩:=jdZ (n:=s.heap.objs.size+1) k;refine .inr ⟨.inl k,c,e,?_⟩;have q:=x.cell y c e;rw[jeJ ndP hp hu (by show scope.names.lookup y≠_;rw[k];decide)]at q
   exact q
 ·exact e0.hok.fresh (Yb0 (x.above y c (YaA h)))
 ·unfold start;show _=N.length;rw[YaQ,Yac,List.length_replicate];omega

theorem joP {k:Nat}{f:Addr}{name qual:Str}{params:YfL}{body:List Stmt}{scope:Scope}{dV kV doc pm cdv ct oc:Value}{an od:Option Addr}
  {osl:Array (Option Value)} {N ps:List Str} {sp:Sp} (lk:K.lookup f=some ⟨oc,od,.func (YbA name qual params body scope dV kV doc pm an cdv ct),osl⟩) (hcd:Yct K cdv qual=true) (S:FnScope N ps scope)
  (len:∀vs H Q E,sp vs H Q E->vs.length=ps.length)
  (hbody:∀(A:Around) (outer:List Env) (s:Shared) (H:Hp) (vs:List V) (Q:VK) (E:XK),Room k (A.deeper (envOfC qual scope s.heap.objs.size f cdv))->sp vs H Q E->
   ∃t,PSs (cxOf CX P w K mg base N qual scope f cdv A outer s H E) body t/\t { nx:=λ_ H'=>Q .non H',rt:=Q } (start N vs) H) :
  FnOk P w K mg base CX (k+1) f (YbA name qual params body scope dV kV doc pm an cdv ct) ps sp:=by
 refine⟨len,λA outer s H args us vs Q E hr e0 hb r hsp=>?_⟩;have hl:=len _ _ _ _ hsp;have KX:K.In s.heap:=e0.mod.kin.keeps λb o e=>(e0.bs b o e).1;have lim:s.heap.NoLimit:=e0.mod.nolimit.keeps λb o e=>(e0.bs b o e).1;have hkind:∀y∈ps.zip us,scope.names.lookup y.1=some .local\/(scope.names.lookup y.1=some .cell/\((Ybi (s.heap.objs.size+1) scope.names []).lookup y.1).isSome=true):=λ⟨n,v⟩ hy=>by
  rcases S.par n (YdP hy).1 with q|q
  ·exact .inl q
  ·exact .inr ⟨q,Yd6 _ _ _ (.inl q)⟩
 refine codeAny_call_function hr.depth (KX _ _ lk) rfl S.co S.gen rfl (PySem.W.codeRec_of KX hcd) (hb _ _ _ _ ?_);refine wpAny_newFunctionEnv_cells S.kind hkind λenv he s1 x=>?_;subst he;refine⟨lim.keeps x.toInCall.keep,codeAny_func ?_⟩;obtain⟨t,ht,hq⟩:=hbody A outer s H vs Q E (hr.deeper _) hsp;have I:Inv (cxOf CX P w K mg base N qual scope f cdv A outer s H E) [] (start N vs) H s1:=jg8 S hr.hd e0 hl r x;refine Ybh (ht [] s1 (start N vs) H _ I hq) (λfl s' hs=>?_) λe s' hs=>hs;have fin:∀{σ':St} {H':Hp} {v:V} {u:Value},Inv (cxOf CX P w K mg base N qual scope f cdv A outer s H E) [] σ' H' s'->RelV v u->Q v H'->CE outer P w H s Q u s':=
  λ{σ' H' v u} J rv q=>⟨v,H',J.os,J.bare,J.base,J.hok,rv,q⟩
 cases fl with
 |ret u=>
  obtain⟨v,σ',H',J,rv,q⟩:=hs;exact fin J rv q
 |next=>
  obtain⟨σ',H',J,q⟩:=hs;exact fin (v:=V.non) (u:=YaM) J rfl q
 |brk=>
  obtain⟨_,_,_,q⟩:=hs;exact YcX q
 |cont=>
  obtain⟨_,_,_,q⟩:=hs;exact YcX q
end
section
variable {X:Cx}{x:Str}{p pos:Pos}{e:Expr}{es:List Expr}{t:TA}{id T:String}{r:List V->Hp->VK->Prop}

def tCB (r:List V->Hp->VK->Prop)(t:TA):TE:=λσ H Q=>t σ H λvs H1=>r vs H1 Q
theorem jh7 (hc:ja5 X (.builtin id) r)(hg:Gl X x)(hm:X.mg x=none)(hv:YbS x=some (.builtin id))(ha:PA X (e::es) t)(hn:x ≠ "__name__" := by decide)(hdb:(x==("__debug__" : Str))=false:=by decide)
  (he:YaG (e::es) X.env=(false,eval e X.env)::YaG es X.env:=by rfl) (hpl:(backTo pos (YaG es X.env)).any (·.1)=false:=by rfl):PE X (.Call (.Name x p) (e::es) [] pos) (tCB r t):=by
 intro pins s σ H Q I h;refine YcF (jen I hg hm hv ?_ hn hdb);exact PyProof.Rows.callWith_builtin1 (thn (ha pos pins s σ H _ I h) λus s1 ⟨vs,H1,I1,r1,q1⟩=>hc pins s1 σ H1 vs us Q I1 r1 q1) he hpl
theorem jbN (hc:ja5 X (.type T) r)(hg:Gl X x)(hm:X.mg x=none)(hv:YbS x=some (.type T))(ha:PA X (e::es) t)(hn:x ≠ "__name__" := by decide)(hdb:(x==("__debug__" : Str))=false:=by decide)
  (he:YaG (e::es) X.env=(false,eval e X.env)::YaG es X.env:=by rfl) (hpl:(backTo pos (YaG es X.env)).any (·.1)=false:=by rfl):PE X (.Call (.Name x p) (e::es) [] pos) (tCB r t):=by
 intro pins s σ H Q I h;refine YcF (jen I hg hm hv ?_ hn hdb);exact Yb6 (thn (ha pos pins s σ H _ I h) λus s1 ⟨vs,H1,I1,r1,q1⟩=>hc pins s1 σ H1 vs us Q I1 r1 q1) he hpl
end
end L2

namespace HT
open PySem PyProof.Rows

noncomputable def lexLt:List Int->List Int->Bool
 |[],[]=>false
 |[],_::_=>true
 |_::_,[]=>false
 |x::xs,y::ys=>if x=y then lexLt xs ys else decide (x<y)
theorem lexLt_cons (x y:Int)(xs ys:List Int):lexLt (x::xs) (y::ys)=if x=y then lexLt xs ys else decide (x<y):=rfl
theorem lexLt_nil_nil:lexLt [] []=false:=rfl
theorem lexLt_nil_cons (y:Int)(ys:List Int):lexLt [] (y::ys)=true:=rfl
theorem lexLt_cons_nil (x:Int)(xs:List Int):lexLt (x::xs) []=false:=rfl

theorem eqAt_int (A:Around)(s:Shared)(a:Int)(t:Tok)(c:Int)(u:Tok):∃e,Yd5 A s (.int a t) (.int c u) e/\(e=true↔a=c):=
 ⟨(a==c),Yeb a t c u,by simp⟩
theorem rcLt_int (A:Around)(s:Shared)(a:Int)(t:Tok)(c:Int)(u:Tok)(prog:Program)(w:World)(E:Value->Shared->Prop)(Q:Value->Shared->Prop)(h:Q (.bool (decide (a<c))) s) :
  wpAny (model prog w) A (richCompare .Lt (.int a t) (.int c u)) Q E s:=
 (PyProof.Rows.lt_int h:wpAny (model prog w) A (YaN .Lt (.int a t) (.int c u)) Q E s)

section
open PySem.SeqAt
open PySem.AutoSeq1 (wpAny_loadPart')
open PySem.MeetsSeq PySem.MeetsSeq2 PySem.MeetsSeq3

end

section
variable {prog:Program}{w:World}{A:Around}{E:Value->Shared->Prop}{s:Shared}

theorem cat_tup {t b:Addr}{vs ws:List Value}{Q:Value->Shared->Prop}(ht:IsTup s.heap t vs.toArray)(hb:IsTup s.heap b ws.toArray)(hv:vs≠[])
  (h1:ws=[]->Q (.ref t) s) (h2:ws≠[]->Q (.ref s.heap.objs.size) { s with heap:=s.heap.push { cls:=.type "tuple",data:=.seq (vs++ws).toArray } })
  (hsz:vs.length+ws.length<=Yah):wpAny (model prog w) A (Ybd .Add (.ref t) (.ref b)) Q E s:=by
 obtain⟨⟨cls,dd,data,sl⟩,ho,hc,n,hd⟩:=id ht;obtain⟨⟨cls2,dd2,data2,sl2⟩,ho2,hc2,n2,hd2⟩:=id hb;simp only at hc hd hc2 hd2;subst hc hd hc2 hd2;have e:vs.toArray++ws.toArray=(vs++ws).toArray:=by simp
 by_cases hw:ws=[]
 ·exact YfE ⟨_,ho,rfl⟩ ⟨_,ho2,rfl⟩ Yd8 Ye0 YcE YcC (Ycu _ _)
   (tuple_addW1 t b vs.toArray ws.toArray n n2 dd dd2 sl sl2 (by simpa using hv) (by simp[hw])) ⟨ho,ho2,h1 hw⟩
 ·refine YfE ⟨_,ho,rfl⟩ ⟨_,ho2,rfl⟩ Yd8 Ye0 YcE YcC (Ycu _ _)
   (tuple_addW2 t b vs.toArray ws.toArray n n2 dd dd2 sl sl2 (by simpa using hv) (by simpa using hw) (by rw[Yai,Yai];exact hsz)) ⟨ho,ho2,?_⟩
  rw[e];exact h2 hw

noncomputable def sIx (n d:Nat):Option Int->Nat
 |none=>d
 |some v=>if v<0 then (v+(n:Int)).toNat else min v.toNat n
theorem sIx_none (n d:Nat):sIx n d none=d:=rfl
theorem sIx_nat (n d k:Nat):sIx n d (some (k:Int))=min k n:=by
 show(if (k:Int)<0 then ((k:Int)+(n:Int)).toNat else min (k:Int).toNat n)=min k n
 rw[if_neg (by omega),Yds]
theorem jlw (n d:Nat)(hd:d<=n)(o:Option Int):sIx n d o<=n:=by
 cases o with
 |none=>exact hd
 |some v=>
  show(if v<0 then (v+(n:Int)).toNat else min v.toNat n)<=n
  by_cases hv:v<0
  ·rw[if_pos hv];omega
  ·rw[if_neg hv];exact Nat.min_le_right _ _
theorem jhx (v:Int)(n d:Nat):(if v<0 then max (v+(n:Int)) 0 else min v (n:Int))=((sIx n d (some v):Nat):Int):=by
 show(if v<0 then max (v+(n:Int)) 0 else min v (n:Int))=(((if v<0 then (v+(n:Int)).toNat else min v.toNat n):Nat):Int)
 by_cases hv:v<0
 ·simp only[if_pos hv];omega
 ·simp only[if_neg hv];omega
theorem jgl (lo hi:Option Int)(n:Nat):Ybk lo hi 1 (n:Int)=(((sIx n 0 lo:Nat):Int),((sIx n n hi:Nat):Int)):=by
 have h1:¬((1:Int)<0):=by omega
 unfold Ybk;simp only[h1,if_false];refine YcZ ?_ ?_
 ·cases lo with
  |none=>rfl
  |some v=>exact jhx v n 0
 ·cases hi with
  |none=>rfl
  |some v=>exact jhx v n n
theorem jf4 (i j:Nat):YaR (i:Int) (j:Int) 1=j-i:=by
 unfold YaR;have h1:(1:Int)>0:=by omega
 simp only[h1,if_true,YeL];split<;>omega
theorem jaY {v:Value}{o:Option Int}{Q:Option Int->Shared->Prop}(p:IsPart v o)(h:Q o s):wpAny (model prog w) A (Builtin.Slice.slicePartIndex v) Q E s:=by
 cases p with
 |none=>exact slicePart_none h
 |int i t=>exact slicePart_int h
theorem jbb {sl:Addr}{vl vu:Value}{lo hi:Option Int}{n:Nat}{Q:Int×Int×Nat->Shared->Prop}(hs:s.heap.IsSliceOf sl vl vu .none)(pl:IsPart vl lo)(pu:IsPart vu hi)
  (h:Q (((sIx n 0 lo:Nat):Int),1,sIx n n hi-sIx n 0 lo) s):wpAny (model prog w) A (Yby (.ref sl) (pure (n:Int))) Q E s:=by
 obtain⟨os,hos,hcs,hds⟩:=id hs;unfold Yby Ydc;refine Yaf (Yaf (YbR hos hds (x:=vl) rfl (Yaf (YbR hos hds (x:=vu) rfl (Yaf (YbR hos hds (x:=.none) rfl (Yap ?_)))))));refine Yaf (slicePart_none ?_);show wpAny _ _ (if ((1:Int)==0)=true then _ else _) _ _ s
 rw[if_neg (by decide)]
 refine Yaf (jaY pl (Yaf (jaY pu (Yaf (Yap ?_)))));show wpAny _ _ (match Ybk lo hi 1 (n:Int)with|(lo,hi)=>pure (lo,(1:Int),YaR lo hi 1)) _ _ s
 rw[jgl lo hi n];show wpAny _ _ (pure (((sIx n 0 lo:Nat):Int),(1:Int),YaR ((sIx n 0 lo:Nat):Int) ((sIx n n hi:Nat):Int) 1)) _ _ s;rw[jf4];exact Yap h
theorem jh0 (xs:Array Value)(i k:Nat):((YaX k).filterMap λ(m:Nat)=>xs[((i:Int)+(m:Int)*1).toNat]?).toArray=((xs.toList.drop i).take k).toArray:=by
 have e:(λ(m:Nat)=>xs[((i:Int)+(m:Int)*1).toNat]?)=λm=>xs[i+m]?:=by
  funext m;have:((i:Int)+(m:Int)*1).toNat=i+m:=by omega
  rw[this]
 rw[e];have:=pick_run xs i k;rw[Yfe]at this;have e2:((λx=>xs[x]?) ∘ λx=>i+x)=λm=>xs[i+m]?:=rfl;rw[e2]at this;rw[this]

theorem getItem_tuple_cut {t sl:Addr}{items:Array Value}{vl vu:Value}{lo hi:Option Int}{Q:Value->Shared->Prop}(ht:IsTup s.heap t items)(hs:s.heap.IsSliceOf sl vl vu .none)(pl:IsPart vl lo)(pu:IsPart vu hi)
  (hw:¬(sIx items.size 0 lo=0/\sIx items.size items.size hi=items.size))
  (h:Q (.ref s.heap.objs.size) { s with heap:=s.heap.push { cls:=.type "tuple",data:=.seq ((items.toList.drop (sIx items.size 0 lo)).take (sIx items.size items.size hi-sIx items.size 0 lo)).toArray } })
  (hsz:items.size<=Yah):wpAny (model prog w) A (getItem (.ref t) (.ref sl)) Q E s:=by
 have htake:sizeOk (.seq ((items.toList.drop (sIx items.size 0 lo)).take (sIx items.size items.size hi-sIx items.size 0 lo)).toArray):=by
  show((items.toList.drop (sIx items.size 0 lo)).take (sIx items.size items.size hi-sIx items.size 0 lo)).toArray.size<=Yah;rw[Yai,YbW,Ydy,Ybt];omega
 have hj:sIx items.size items.size hi<=items.size:=jlw _ _ (Yag _) hi;obtain⟨os,hos,hcs,hds⟩:=id hs;have hTs:s.TypeIs (.ref sl) "slice" := ⟨os,hos,hcs⟩;unfold getItem
 try with_reducible refine Ybb ?_
 first|refine Yaf (Yap ?_)|skip
 refine Yaf (YdT ht.typeIs (by decide) ?_)
 refine Yaf (Yb8 (name:=YbH "__getitem__") ht.typeIs YaW
  (Ycr YaW ht.typeIs Ydm ?_ (YdF _ _)))
 show wpAny _ _ (Yci (.ref t) >>= _) _ _ s;refine Yaf (YeZ ht ?_);refine Yaf (Yd3 hTs ?_);rw[if_pos (by decide)]
 refine Yaf (jbb hs pl pu ?_);have hno:¬((((sIx items.size 0 lo:Nat):Int)==0&&(1:Int)==1&&(sIx items.size items.size hi-sIx items.size 0 lo)==items.size)=true):=by
  intro q;rw[Yay,Yay]at q;have q1:((sIx items.size 0 lo:Nat):Int)=0:=eq_of_beq q.1.1;have q2:sIx items.size items.size hi-sIx items.size 0 lo=items.size:=eq_of_beq q.2;exact hw ⟨by omega,by omega⟩
 show wpAny _ _ (if (((sIx items.size 0 lo:Nat):Int)==0&&(1:Int)==1&&(sIx items.size items.size hi-sIx items.size 0 lo)==items.size)=true then _ else _) _ _ s
 rw[if_neg hno,jh0]
 first
  |exact Yaf (m:=YaS _) (Ya3 (Yap ⟨_,rfl,Yap h⟩) htake)
  |exact Yaf (m:=YaS _) (Ya3 (Yaf (Yap (Yap ⟨_,rfl,Yap h⟩))) htake)
  |exact Yaf (Yaf (m:=YaS _) (Ya3 (Yap (Yap ⟨_,rfl,Yap h⟩)) htake))
  |exact Yaf (Yaf (m:=YaS _) (Ya3 (Yap ⟨_,rfl,Yap h⟩) htake))
end
end HT

namespace L2
open PySem PySem.Spec PyProof.Rows

abbrev TO:=St->Hp->(Option Int->Hp->Prop)->Prop
def PO (X:Cx)(e:Option Expr)(t:TO):Prop:=
 ∀(pins:List (Addr×Obj)) (s:Shared) (σ:St) (H:Hp) (Q:Option Int->Hp->Prop),Inv X pins σ H s->t σ H Q->
  wpAny (model X.prog X.w) X.A (evalPart e X.env) (λu s'=>∃o H',Inv X pins σ H' s'/\IsPart u o/\Q o H') X.xe s
def jjs:TO:=λ_ H Q=>Q none H
def jnX (t:TE):TO:=λσ H Q=>t σ H λx H1=>∃i,x=.int i/\Q (some i) H1

section
variable {X:Cx}{e:Expr}{te:TE}{lo hi:Option Expr}{tl th:TO}{pos p2:Pos}

theorem jjL:PO X none jjs:=by
 intro pins s σ H Q I h;rw[Ye2];exact Yap ⟨none,H,I,.none,h⟩
theorem jjK (h:PE X e te):PO X (some e) (jnX te):=by
 intro pins s σ H Q I hw;rw[evalPart_some];refine thn (h pins s σ H _ I hw) λu s1 ⟨x,H1,I1,r1,q1⟩=>?_;obtain⟨i,rfl,q⟩:=q1;obtain⟨t,rfl⟩:=r1;exact⟨some i,H1,I1,.int i t,q⟩

def SlR (X:Cx)(r:V->Option Int->Option Int->Hp->VK->Prop):Prop:=
 ∀(pins:List (Addr×Obj)) (s:Shared) (σ:St) (H:Hp) (x:V) (v vl vu:Value) (lo hi:Option Int) (sl:Addr) (Q:VK),Inv X pins σ H s->RelV x v->s.heap.IsSliceOf sl vl vu .none->IsPart vl lo->IsPart vu hi->r x lo hi H Q->
  ∃T id,typeLookup (.type T) "__getitem__" = pure (some (.builtin id))/\s.TypeIs v T/\wpAny (model X.prog X.w) X.A (getItem v (.ref sl)) (EP X pins σ Q) X.xe s
theorem SlR.or {r r':V->Option Int->Option Int->Hp->VK->Prop}(h:SlR X r)(h':SlR X r'):SlR X (λx lo hi H Q=>r x lo hi H Q\/r' x lo hi H Q):=by
 intro pins s σ H x v vl vu lo hi sl Q I rx hs pl pu q;rcases q with q|q
 ·exact h pins s σ H x v vl vu lo hi sl Q I rx hs pl pu q
 ·exact h' pins s σ H x v vl vu lo hi sl Q I rx hs pl pu q
def tSl (r:V->Option Int->Option Int->Hp->VK->Prop)(te:TE)(tl th:TO):TE:=λσ H Q=>te σ H λx H1=>tl σ H1 λl H2=>th σ H2 λu H3=>r x l u H3 Q
theorem jh3 {r:V->Option Int->Option Int->Hp->VK->Prop}(hr:SlR X r)(he:PE X e te)(hl:PO X lo tl)(hu:PO X hi th):PE X (.Subscript e (.Slice lo hi none p2) pos) (tSl r te tl th):=by
 intro pins s σ H Q I h;refine Subscript_ (thn (he pins s σ H _ I h) λv s1 ⟨x,H1,I1,r1,q1⟩=>?_);refine wpAny_Slice (thn (hl pins s1 σ H1 _ I1 q1) λvl s2 ⟨l,H2,I2,pl,q2⟩=>thn (hu pins s2 σ H2 _ I2 q2) λvu s3 ⟨u,H3,I3,pu,q3⟩=>?_);rw[Ye2];refine Yap ?_;have I4:Inv X pins σ H3 { s3 with heap:=s3.heap.push { cls:=.type "slice",data:=.fields #[vl,vu,.none] } }:=I3.kept (t':=s3.toks) λb ob q=>Yad _ q
 obtain⟨T,id,hT,ht,hg⟩:=hr pins { s3 with heap:=s3.heap.push { cls:=.type "slice",data:=.fields #[vl,vu,.none] } } σ H3 x v vl vu l u s3.heap.objs.size Q I4 r1 (Heap.IsSliceOf.new ..) pl pu q3;show wpAny (model X.prog X.w) X.A (YdA e (.Slice lo hi none p2) v (.ref s3.heap.objs.size)) (EP X pins σ Q) X.xe { s3 with heap:=s3.heap.push { cls:=.type "slice",data:=.fields #[vl,vu,.none] } }
 exact tail_any (ops:=[.ref s3.heap.objs.size,v]) ht hT hg (by with_unfolding_all rfl)

noncomputable def cutV (xs:List V)(lo hi:Option Int):List V:=(xs.drop (HT.sIx xs.length 0 lo)).take (HT.sIx xs.length xs.length hi-HT.sIx xs.length 0 lo)
theorem jdj (xs:List V)(lo hi:Option Int):(cutV xs lo hi).length<=xs.length:=by
 unfold cutV;rw[YbW,Ydy];omega
def rSlT (K:Yab):V->Option Int->Option Int->Hp->VK->Prop:=λx lo hi H Q=>∃a xs,x=.ref a/\SqT K H a xs/\
 ¬(HT.sIx xs.length 0 lo=0/\HT.sIx xs.length xs.length hi=xs.length)/\∀p,H p=none->Q (.ref p) (upd H p (.tup (cutV xs lo hi)))
theorem jln:SlR X (rSlT X.K):=by
 intro pins s σ H x v vl vu lo hi sl Q I rx hs pl pu h;obtain⟨a,xs,rfl,hx,hw,q⟩:=h;cases rx;obtain⟨its,r,ht,hz⟩:=I.tuple hx;have hlen:its.toArray.size=xs.length:=by rw[Yai];exact r.length.symm
 refine⟨"tuple",_,YaW.lookup,ht.typeIs,?_⟩;refine HT.getItem_tuple_cut ht hs pl pu (by rw[hlen];exact hw) ?_ (by rw[hlen];exact hz)
 rw[hlen];refine⟨.ref s.heap.objs.size,_,I.laid (t':=s.toks) (o:=.tup (cutV xs lo hi)) (λb ob q=>Yad _ q) (Yag _) ?_,rfl,q _ (I.hok.fresh (Yag _))⟩;exact⟨Yal (jdj xs lo hi) hz,_,(r.drop (HT.sIx xs.length 0 lo)).take (HT.sIx xs.length xs.length hi-HT.sIx xs.length 0 lo),TupD.new _ _⟩

def joi (K:Yab):R2:=λx y H Q=>∃a b xs ys,x=.ref a/\y=.ref b/\SqT K H a xs/\SqT K H b ys/\xs≠[]/\xs.length+ys.length<=Yah/\
 (ys=[]->Q (.ref a) H)/\(ys≠[]->∀p,H p=none->Q (.ref p) (upd H p (.tup (xs++ys))))
theorem Vals.nil_iff {xs:List V}{us:List Value}(r:Vals xs us):us=[]↔xs=[]:=by
 cases r with
 |nil=>simp
 |cons _ _=>simp
theorem jj4:OpR X (Ybd .Add) (joi X.K):=by
 intro pins s σ H x y v u Q I rx ry h;obtain⟨a,b,xs,ys,rfl,rfl,ha,hb,hx,hz,q1,q2⟩:=h;cases rx;cases ry;obtain⟨its,r1,p1,_⟩:=I.tuple ha;obtain⟨its2,r2,p2,_⟩:=I.tuple hb;refine HT.cat_tup p1 p2 (λz=>hx (r1.nil_iff.mp z)) (λz=>⟨.ref a,H,I,rfl,q1 (r2.nil_iff.mp z)⟩) (λz=>?_) (by rw[<- r1.length,<- r2.length];exact hz)
 refine⟨.ref s.heap.objs.size,_,I.laid (t':=s.toks) (o:=.tup (xs++ys)) (λb ob q=>Yad _ q) (Yag _) ?_,rfl,q2 (λw=>z (r2.nil_iff.mpr w)) _ (I.hok.fresh (Yag _))⟩;exact⟨by rw[YaQ];exact hz,_,r1.append r2,TupD.new _ _⟩
end

noncomputable def ixN (n:Nat)(i:Int):Option Nat:=if 0<=i then (if i<n then some i.toNat else none) else if -(n:Int)<=i then some (i+n).toNat else none
noncomputable def atI {α:Type}(xs:List α)(i:Int):Option α:=(ixN xs.length i).bind λj=>xs[j]?
theorem jg6 {n:Nat}{i:Int}{j:Nat}(h:ixN n i=some j):YfB i n=some j/\j<n/\-(n:Int)<=i/\i<n:=by
 unfold ixN at h;by_cases h0:0<=i
 ·rw[if_pos h0]at h;by_cases h1:i<n
  ·rw[if_pos h1]at h;have e:i.toNat=j:=Yar h;exact⟨by rw[seqIndex_of h0 h1,e],by omega,by omega,h1⟩
  ·rw[if_neg h1]at h;cases h
 ·rw[if_neg h0]at h;by_cases h1:-(n:Int)<=i
  ·rw[if_pos h1]at h;have e:(i+n).toNat=j:=Yar h;exact⟨by rw[YfA (by omega) h1,e],by omega,h1,by omega⟩
  ·rw[if_neg h1]at h;cases h
theorem je8 {α:Type}{xs:List α}{i:Int}{v:α}(h:atI xs i=some v):∃j,YfB i xs.length=some j/\xs[j]?=some v/\j<xs.length/\-(xs.length:Int)<=i/\i<xs.length:=by
 unfold atI at h;cases e:ixN xs.length i with
 |none=>rw[e]at h;cases h
 |some j=>
  rw[e]at h;obtain⟨h1,h2,h3,h4⟩:=jg6 e;exact⟨j,h1,h,h2,h3,h4⟩
theorem jdl {α:Type}{xs:List α}{j:Nat}{v:α}(h:xs[j]?=some v):atI xs (j:Int)=some v:=by
 have hj:j<xs.length:=(List.getElem?_eq_some_iff.mp h).1;have e:ixN xs.length (j:Int)=some j:=by
  unfold ixN;rw[if_pos (by omega),if_pos (by omega)];simp
 unfold atI;rw[e];exact h
def jfa (b:Expr):Prop:=∀o i,subscripted b false o i=operate [o,i] (getItem o i)
def IxR (X:Cx)(r:R2):Prop:=
 ∀(value slice:Expr) (pins:List (Addr×Obj)) (s:Shared) (σ:St) (H:Hp) (x y:V) (v u:Value) (Q:VK),Inv X pins σ H s->RelV x v->RelV y u->r x y H Q->
  subscripted slice false v u=operate [v,u] (getItem v u)->wpAny (model X.prog X.w) X.A (YdA value slice v u) (EP X pins σ Q) X.xe s
def MtR (X:Cx)(id:String)(r:V->List V->Hp->VK->Prop):Prop:=
 ∀(pins:List (Addr×Obj)) (s:Shared) (σ:St) (H:Hp) (x:V) (xs:List V) (v:Value) (us:List Value) (Q:VK),Inv X pins σ H s->RelV x v->Vals xs us->r x xs H Q->
  wpAny (model X.prog X.w) X.A (call (.builtin id) (v::us)) (EP X pins σ Q) X.xe s
section
variable {X:Cx}{a b:Expr}{ta tb:TE}{pos:Pos}
theorem IxR.or {r r':R2}(h:IxR X r)(h':IxR X r'):IxR X (λx y H Q=>r x y H Q\/r' x y H Q):=by
 intro value slice pins s σ H x y v u Q I rx ry q hs;rcases q with q|q
 ·exact h value slice pins s σ H x y v u Q I rx ry q hs
 ·exact h' value slice pins s σ H x y v u Q I rx ry q hs
theorem MtR.or {id:String}{r r':V->List V->Hp->VK->Prop}(h:MtR X id r)(h':MtR X id r'):MtR X id (λx xs H Q=>r x xs H Q\/r' x xs H Q):=by
 intro pins s σ H x xs v us Q I rx rs q;rcases q with q|q
 ·exact h pins s σ H x xs v us Q I rx rs q
 ·exact h' pins s σ H x xs v us Q I rx rs q
theorem jos {r:R2}(hr:IxR X r)(ha:PE X a ta)(hb:PE X b tb)(hs:jfa b):PE X (.Subscript a b pos) (tOp r ta tb):=by
 intro pins s σ H Q I h;exact Subscript_ (binT ha hb I h λv u s2 x y H2 I2 rx ry q=>hr a b pins s2 σ H2 x y v u Q I2 rx ry q (hs _ _))

def rIxL (K:Yab):R2:=λx y H Q=>∃p xs i v,x=.ref p/\y=.int i/\SqL K H p xs/\atI xs i=some v/\Q v H
def rIxT (K:Yab):R2:=λx y H Q=>∃p xs i v,x=.ref p/\y=.int i/\SqT K H p xs/\atI xs i=some v/\Q v H
def rIxS:R2:=λx y H Q=>∃z i c,x=.str z/\y=.int i/\z.length<=Yah/\atI z.cps.toList i=some c/\Q (.str ⟨#[c]⟩) H
theorem jkw:IxR X (rIxL X.K):=by
 intro value slice pins s σ H x y v u Q I rx ry h hs;obtain⟨p,xs,i,z,rfl,rfl,hq,he,q⟩:=h;cases rx;obtain⟨t,rfl⟩:=ry;obtain⟨its,r,pl,hz⟩:=I.list hq;obtain⟨j,h1,h2,h3,h4,h5⟩:=je8 he;obtain⟨w,ew,rw'⟩:=r.get h2;have hl:=r.length;have hn:=jdy;have fin:EP X pins σ Q w s:=⟨z,H,I,rw',q⟩;by_cases h0:0<=i
 ·have hj:i.toNat=j:=by
   rw[seqIndex_of h0 h5]at h1;exact Yar h1
  exact item_listR pl.isList h0 (by omega) (by rw[hj];simpa using ew) fin hs
 ·have hj:(i+(its.toArray.size:Int)).toNat=j:=by
   rw[YfA (by omega) h4]at h1
   rw[Yai,<- hl];exact Yar h1
  exact Yfm (x:=w) pl.isList.typeIs slot_list_getitem.lookup
   (wpAny_getItem_list_neg (Q:=λr s'=>r=w/\EP X pins σ Q r s') pl.isList (by omega) (by rw[Yai]<;>omega) (by omega) (by rw[hj];simpa using ew) ⟨rfl,fin⟩) hs
theorem jmD:IxR X (rIxT X.K):=by
 intro value slice pins s σ H x y v u Q I rx ry h hs;obtain⟨p,xs,i,z,rfl,rfl,hq,he,q⟩:=h;cases rx;obtain⟨t,rfl⟩:=ry;obtain⟨its,r,pl,hz⟩:=I.tuple hq;obtain⟨j,h1,h2,h3,h4,h5⟩:=je8 he;obtain⟨w,ew,rw'⟩:=r.get h2;have hl:=r.length;have hn:=jdy;have fin:EP X pins σ Q w s:=⟨z,H,I,rw',q⟩;exact Yfm (x:=w) pl.typeIs slot_tuple_getitem.lookup
  (getItem_tuple (j:=j) (Q:=λr s'=>r=w/\EP X pins σ Q r s') pl (by omega) (by omega) (by rw[Yai,<- hl];exact h1) (by simpa using ew) ⟨rfl,fin⟩) hs
theorem jmE:IxR X rIxS:=by
 intro value slice pins s σ H x y v u Q I rx ry h hs;obtain⟨z,i,c,rfl,rfl,hz,he,q⟩:=h;obtain⟨t,rfl⟩:=rx;obtain⟨t',rfl⟩:=ry;obtain⟨j,h1,h2,h3,h4,h5⟩:=je8 he;have hl:z.cps.toList.length=z.length:=by simp[Str.length]
 rw[hl]at h1 h4 h5;have hn:=jdy;exact tail_any (YdV s z t) slot_str_getitem.lookup (getItem_str (c:=c) (by
  have e1:decide (i < -(2 ^ 63:Int))=false:=decide_eq_false (by omega)
  have e2:decide (i ≥ 2 ^ 63)=false:=decide_eq_false (by omega)
  rw[e1,e2,Bool.or_false]) (by rw[h1];simpa using h2) ⟨.str ⟨#[c]⟩,H,I.tok _,⟨_,rfl⟩,q⟩) hs
def rIx (K:Yab):R2:=λx y H Q=>rIxL K x y H Q\/rIxT K x y H Q\/rIxS x y H Q
theorem jmF:IxR X (rIx X.K):=jkw.or (jmD.or jmE)

theorem jgc (its:List Value)(n j:Nat)(u:Value):Yco (·.setIfInBounds j u) { cls:=.type "list",data:=.seq its.toArray n }={ cls:=.type "list",data:=.seq (its.set j u).toArray n }:=by
 simp[Yco]
section
variable {pins:List (Addr×Obj)}{σ:St}{H:Hp}{s:Shared}{p:Addr}
theorem Inv.lst {xs:List V}(I:Inv X pins σ H s)(h:H p=some (.lst xs)) :
  ∃(its:List Value) (n:Nat),Vals xs its/\s.heap.get? p=some { cls:=.type "list",data:=.seq its.toArray n }/\xs.length<=Yah:=by
 obtain⟨z,its,n,r,e⟩:=I.hok p _ h;exact⟨its,n,r,e,z⟩
theorem Inv.lstUpd {xs ys:List V}{its its':List Value}{n n':Nat}{f:Obj->Obj}(I:Inv X pins σ H s)(h:H p=some (.lst xs))
  (ho:s.heap.get? p=some { cls:=.type "list",data:=.seq its.toArray n }) (hf:f { cls:=.type "list",data:=.seq its.toArray n }={ cls:=.type "list",data:=.seq its'.toArray n' }) (r:Vals ys its') (hz:ys.length<=Yah) (t:Nat) :
  Inv X pins σ (upd H p (.lst ys)) { s with heap:=s.heap.update p f,toks:=t }:=by
 have e:(s.heap.update p f).get? p=some { cls:=.type "list",data:=.seq its'.toArray n' }:=by
  rw[YcW f ho (by rw[hf]<;>rfl),hf]
 refine I.write (x:=p) (e:=p) (by rw[h];trivial) (.inl rfl) (λb u hb q=>(YcM _ _ (Ne.symm hb)).trans q) ⟨_,e⟩ ?_
 exact⟨hz,its',n',r,e⟩
end
def jlz:V->V->V->Hp->(Hp->Prop)->Prop:=λo i v H Q=>∃p xs k j,o=.ref p/\i=.int k/\H p=some (.lst xs)/\ixN xs.length k=some j/\Q (upd H p (.lst (xs.set j v)))
theorem jhL:PSet X jlz:=by
 intro pins s σ H o i v ov iv u Q I ro ri rv h;obtain⟨p,xs,k,j,rfl,rfl,hp,hj,q⟩:=h;cases ro;obtain⟨t,rfl⟩:=ri;obtain⟨its,n,r,ho,hz⟩:=I.lst hp;obtain⟨h1,h2,h3,h4⟩:=jg6 hj;have hl:=r.length;have hn:=jdy;have I':Inv X pins σ (upd H p (.lst (xs.set j v))) { s with heap:=s.heap.update p (Yco (·.setIfInBounds j u)) }:=
  I.lstUpd hp ho (jgc its n j u) (r.set rv j) (by rw[Ybl];exact hz) s.toks
 by_cases h0:0<=k
 ·have hk:k.toNat=j:=by
   rw[seqIndex_of h0 h4]at h1;exact Yar h1
  exact PySem.W.ki_setAt ho h0 (by omega) (by rw[Yai,<- hl];exact h4) (by rw[hk];exact⟨_,I',q⟩)
 ·have hk:(k+(its.toArray.size:Int)).toNat=j:=by
   rw[YfA (by omega) h3]at h1
   rw[Yai,<- hl];exact Yar h1
  exact PySem.W.ki_setBack ho (by omega) (by rw[Yai,<- hl];exact h3) (by omega) (by rw[hk];exact⟨_,I',q⟩)

theorem jea (lo hi:Option Int)(n:Nat):(Yb2 lo hi none n).1=((HT.sIx n 0 lo:Nat):Int)/\(Yb2 lo hi none n).2.1=((HT.sIx n n hi:Nat):Int)/\(Yb2 lo hi none n).2.2=1:=by
 refine⟨?_,?_,rfl⟩
 ·cases lo with
  |none=>simp[Yb2,HT.sIx]
  |some i=>
   simp only[Yb2,HT.sIx,Ye8,show(1:Int)>0 by decide,if_true]
   by_cases h:i<0
   ·simp only[h,if_true]<;>omega
   ·simp only[h,if_false]<;>omega
 ·cases hi with
  |none=>simp[Yb2,HT.sIx]
  |some i=>
   simp only[Yb2,HT.sIx,Ye8,show(1:Int)>0 by decide,if_true]
   by_cases h:i<0
   ·simp only[h,if_true]<;>omega
   ·simp only[h,if_false]<;>omega
theorem jdN (its:List Value)(lo hi:Option Int):YdB its.toArray lo hi none=((its.drop (HT.sIx its.length 0 lo)).take (HT.sIx its.length its.length hi-HT.sIx its.length 0 lo)).toArray:=by
 obtain⟨h1,h2,h3⟩:=jea lo hi its.toArray.size;unfold YdB;rw[h1,h2,h3];simp only[sliceRange_one,pick_run,Yai]<;>rfl
def rSlL (K:Yab):V->Option Int->Option Int->Hp->VK->Prop:=λx lo hi H Q=>∃a xs,x=.ref a/\SqL K H a xs/\∀p,H p=none->Q (.ref p) (upd H p (.lst (cutV xs lo hi)))
theorem jjx:SlR X (rSlL X.K):=by
 intro pins s σ H x v vl vu lo hi sl Q I rx hs pl pu h;obtain⟨a,xs,rfl,hx,q⟩:=h;cases rx;obtain⟨its,r,ht,hz⟩:=I.list hx;have hlen:=r.length;refine⟨"list",_,slot_list_getitem.lookup,ht.isList.typeIs,?_⟩;refine YcO ht.isList hs pl pu .none (by simp) ?_ (by rw[Yai]<;>omega)
 rw[jdN,<- hlen];refine⟨.ref s.heap.objs.size,_,I.laid (t':=s.toks) (o:=.lst (cutV xs lo hi)) (λb ob q=>Yad _ q) (Yag _) ?_,rfl,q _ (I.hok.fresh (Yag _))⟩;exact⟨Yal (jdj xs lo hi) hz,_,0,(r.drop (HT.sIx xs.length 0 lo)).take (HT.sIx xs.length xs.length hi-HT.sIx xs.length 0 lo),Yaq _ rfl⟩

noncomputable def jcH:V->Bool
 |.non=>true
 |.bl _=>true
 |.int _=>true
 |.str _=>true
 |_=>false
noncomputable def eqV:V->V->Bool
 |.non,.non=>true
 |.bl a,.bl b=>a==b
 |.bl a,.int b=>(if a then 1 else 0)==b
 |.int a,.bl b=>a==(if b then 1 else 0)
 |.int a,.int b=>a==b
 |.str a,.str b=>a==b
 |_,_=>false
theorem jmQ {A:Around}{s:Shared}{y x:V}{u v:Value}(ry:RelV y u)(rx:RelV x v)(fy:jcH y=true)(fx:jcH x=true):Yd5 A s u v (eqV y x):=by
 cases y with
 |non=>
  cases ry;cases x with
  |non=>cases rx;exact Yd5.same _
  |bl b=>cases rx;exact Yd5.none_bool b
  |int b=>obtain⟨t,rfl⟩:=rx;exact Yd5.none_int b t
  |str b=>obtain⟨t,rfl⟩:=rx;exact Yd5.none_str b t
  |_=>exact absurd (show false=true from fx) Yak
 |bl a=>
  cases ry;cases x with
  |non=>cases rx;exact Yd5.bool_none a
  |bl b=>cases rx;exact Yd5.bool_bool a b
  |int b=>obtain⟨t,rfl⟩:=rx;exact Yd5.bool_int a b t
  |str b=>obtain⟨t,rfl⟩:=rx;exact Yd5.bool_str a b t
  |_=>exact absurd (show false=true from fx) Yak
 |int a=>
  obtain⟨t',rfl⟩:=ry;cases x with
  |non=>cases rx;exact Yd5.int_none a t'
  |bl b=>cases rx;exact Yd5.int_bool a t' b
  |int b=>obtain⟨t,rfl⟩:=rx;exact Yeb a t' b t
  |str b=>obtain⟨t,rfl⟩:=rx;exact Yea a t' b t
  |_=>exact absurd (show false=true from fx) Yak
 |str a=>
  obtain⟨t',rfl⟩:=ry;cases x with
  |non=>cases rx;exact Yd5.str_none a t'
  |bl b=>cases rx;exact Yd5.str_bool a t' b
  |int b=>obtain⟨t,rfl⟩:=rx;exact Yd9 a t' b t
  |str b=>obtain⟨t,rfl⟩:=rx;exact Yd5.str_str a t' b t
  |_=>exact absurd (show false=true from fx) Yak
 |_=>exact absurd (show false=true from fy) Yak
noncomputable def eqU (x:V)(u:Value):Bool:=match u with
 |.none=>eqV .non x
 |.bool b=>eqV (.bl b) x
 |.int i _=>eqV (.int i) x
 |.str z _=>eqV (.str z) x
 |_=>false
theorem ji6 {x y:V}{u:Value}(r:RelV y u)(f:jcH y=true):eqU x u=eqV y x:=by
 cases y with
 |non=>cases r;rfl
 |bl b=>cases r;rfl
 |int i=>obtain⟨t,rfl⟩:=r;rfl
 |str z=>obtain⟨t,rfl⟩:=r;rfl
 |_=>exact absurd (show false=true from f) Yak
theorem jdm {x:V}:∀{xs:List V} {us:List Value},Vals xs us->xs.all jcH=true->us.any (eqU x)=xs.any λy=>eqV y x
 |_,_,.nil,_=>rfl
 |y::xs,u::us,.cons r t,f=>by
  rw[YcI,Yay]at f;rw[Yba,Yba,ji6 r f.1,jdm t f.2]
theorem jbT {A:Around}{s:Shared}{x:V}{v:Value}(rx:RelV x v)(fx:jcH x=true):∀{xs:List V} {us:List Value},Vals xs us->xs.all jcH=true->∀u∈us,Yd5 A s u v (eqU x u)
 |_,_,.nil,_=>λu hu=>by cases hu
 |y::xs,u::us,.cons r t,f=>λu' hu=>by
  rw[YcI,Yay]at f;rcases YaO.mp hu with rfl|hu
  ·rw[ji6 r f.1];exact jmQ r rx f.1 fx
  ·exact jbT rx fx t f.2 u' hu
noncomputable def inV (x:V)(xs:List V):Bool:=xs.any λy=>eqV y x
def rIn (K:Yab)(neg:Bool):R2:=λx y H Q=>∃p xs,y=.ref p/\(SqL K H p xs\/SqT K H p xs)/\jcH x=true/\xs.all jcH=true/\Q (.bl (if neg then !inV x xs else inV x xs)) H
theorem jgN:OpR X (YaN .In) (rIn X.K false):=by
 intro pins s σ H x y v u Q I rx ry h;obtain⟨p,xs,rfl,hq,fx,fs,q⟩:=h;cases ry;rcases hq with hq|hq
 ·obtain⟨its,r,pl,hz⟩:=I.list hq;refine YfF (eqU x) pl.isList (λw hw=>jbT rx fx r fs w (by simpa using hw)) ⟨.bl _,H,I,rfl,?_⟩
  rw[show its.toArray.any (eqU x)=its.any (eqU x) by simp,jdm r fs]
  exact q
 ·obtain⟨its,r,pl,hz⟩:=I.tuple hq;refine Yfn (eqU x) pl (λw hw=>jbT rx fx r fs w (by simpa using hw)) ⟨.bl _,H,I,rfl,?_⟩
  rw[show its.toArray.any (eqU x)=its.any (eqU x) by simp,jdm r fs]
  exact q
theorem jeg:OpR X (YaN .NotIn) (rIn X.K true):=by
 intro pins s σ H x y v u Q I rx ry h;obtain⟨p,xs,rfl,hq,fx,fs,q⟩:=h;cases ry;rcases hq with hq|hq
 ·obtain⟨its,r,pl,hz⟩:=I.list hq;refine YeN (eqU x) pl.isList (λw hw=>jbT rx fx r fs w (by simpa using hw)) ⟨.bl _,H,I,rfl,?_⟩
  rw[show its.toArray.any (eqU x)=its.any (eqU x) by simp,jdm r fs]
  exact q
 ·obtain⟨its,r,pl,hz⟩:=I.tuple hq;refine YeB (eqU x) pl (λw hw=>jbT rx fx r fs w (by simpa using hw)) ⟨.bl _,H,I,rfl,?_⟩
  rw[show its.toArray.any (eqU x)=its.any (eqU x) by simp,jdm r fs]
  exact q
theorem ja5.or {f:Value}{r r':List V->Hp->VK->Prop}(h:ja5 X f r)(h':ja5 X f r'):ja5 X f (λxs H Q=>r xs H Q\/r' xs H Q):=by
 intro pins s σ H xs us Q I rs q;rcases q with q|q
 ·exact h pins s σ H xs us Q I rs q
 ·exact h' pins s σ H xs us Q I rs q
theorem jeF:ja5 X (.type "list") (λxs H Q=>∃p ys,xs=[.ref p]/\(SqL X.K H p ys\/SqT X.K H p ys)/\∀l,H l=none->Q (.ref l) (upd H l (.lst ys))):=by
 intro pins s σ H xs us Q I r h;obtain⟨p,ys,rfl,hq,q⟩:=h;obtain⟨u,rfl,rx⟩:=jcO r;cases rx;have fin:∀(its:List Value),Vals ys its->ys.length<=Yah->∀(h':Heap) (c':Nat),(∀b o',s.heap.get? b=some o'->h'.get? b=some o')->
   h'.get? s.heap.objs.size=some { cls:=.type "list",dict:=none,data:=.seq its.toArray c',slots:=#[] }->EP X pins σ Q (.ref s.heap.objs.size) { s with heap:=h' }:=λits r' hz h' c' kp e=>
  ⟨.ref s.heap.objs.size,_,I.laid (t':=s.toks) kp (Yag _) (show jaC X.prog X.w _ h' _ (.lst ys)from⟨hz,its,c',r',e⟩),rfl,q _ (I.hok.fresh (Yag _))⟩
 rcases hq with hq|hq
 ·obtain⟨its,r',pl,hz⟩:=I.list hq;have hlen:=r'.length;obtain⟨o,ho,hc,n,hd⟩:=pl.isList;exact call_list_seq p (.inl rfl) ho hc hd (λh' c' kp e=>fin its r' hz h' c' kp e) (by simp only[Yai]<;>omega)
 ·obtain⟨its,r',pl,hz⟩:=I.tuple hq;have hlen:=r'.length;obtain⟨o,ho,hc,n,hd⟩:=pl;exact call_list_seq p (.inr rfl) ho hc hd (λh' c' kp e=>fin its r' hz h' c' kp e) (by simp only[Yai]<;>omega)
theorem jd0:ja5 X (.type "tuple") (λxs H Q=>∃p ys,xs=[.ref p]/\((SqL X.K H p ys/\∀l,H l=none->Q (.ref l) (upd H l (.tup ys)))\/(SqT X.K H p ys/\Q (.ref p) H))):=by
 intro pins s σ H xs us Q I r h;obtain⟨p,ys,rfl,h⟩:=h;obtain⟨u,rfl,rx⟩:=jcO r;cases rx;rcases h with⟨hq,q⟩|⟨hq,q⟩
 ·obtain⟨its,r',pl,hz⟩:=I.list hq;have hlen:=r'.length;refine call_tuple_list pl.isList (λh' kp=>?_) (by simp only[Yai]<;>omega)
  have I1:Inv X pins σ H { s with heap:=h' }:=I.kept (t':=s.toks) kp
  have I2:Inv X pins σ (upd H h'.objs.size (.tup ys)) { s with heap:=h'.push { cls:=.type "tuple",data:=.seq its.toArray } }:=
   I1.laid (t':=s.toks) (λb o e=>Yad _ e) (Yag _) (show jaC X.prog X.w _ _ _ (.tup ys)from⟨hz,its,r',TupD.new _ _⟩)
  exact⟨.ref h'.objs.size,_,I2,rfl,q _ (I1.hok.fresh (Yag _))⟩
 ·obtain⟨its,r',pl,hz⟩:=I.tuple hq;exact call_tuple_same pl ⟨.ref p,H,I,rfl,q⟩

def tyV (K:Yab)(T:String)(x:V)(H:Hp):Prop:=match x with
 |.str _=>T = "str"
 |.int _=>T = "int"
 |.ref p=>(T = "list" /\ ∃xs,SqL K H p xs)\/(T = "tuple" /\ ∃o,K.lookup p=some o/\o.cls=.type "tuple" /\ o.dict=none)\/
   (T = "dict" /\ ((∃kvs,H p=some (.dK kvs))\/∃kvs,H p=some (.dT kvs)))\/(T = "set" /\ ∃S n,H p=some (.set S n))\/(T = "tuple" /\ ∃xs,H p=some (.tup xs))
 |_=>False
theorem jiI {pins:List (Addr×Obj)}{σ:St}{H:Hp}{s:Shared}{T:String}{x:V}{v:Value}(I:Inv X pins σ H s)(r:RelV x v)(ty:tyV X.K T x H) :
  s.TypeIs v T/\∀a,v=.ref a->∃ob,s.heap.get? a=some ob/\ob.dict=none:=by
 cases x with
 |str z=>
  obtain⟨t,rfl⟩:=r;cases(show T = "str" from ty);exact⟨YdV s z t,λ_ e=>nomatch e⟩
 |int i=>
  obtain⟨t,rfl⟩:=r;cases(show T = "int" from ty);exact⟨YdW s i t,λ_ e=>nomatch e⟩
 |ref p=>
  cases r;rcases ty with⟨rfl,xs,hq⟩|⟨rfl,o,hk,hc,hd⟩|⟨rfl,hk⟩|⟨rfl,S,n,hk⟩|⟨rfl,xs,hk⟩
  ·obtain⟨its,_,pl,_⟩:=I.list hq;refine⟨pl.isList.typeIs,λa e=>?_⟩;cases e;obtain⟨o,n,e,c,hd,_⟩:=pl;exact⟨o,e,hd⟩
  ·refine⟨⟨o,I.kIn p o hk,hc⟩,λa e=>?_⟩;cases e;exact⟨o,I.kIn _ o hk,hd⟩
  ·have z:∃o,s.heap.get? p=some o/\o.ExactDict:=by
    rcases hk with⟨kvs,hk⟩|⟨kvs,hk⟩
    ·obtain⟨_,_,_,_,o,_,_,e,ex,_⟩:=I.hok p _ hk;exact⟨o,e,ex⟩
    ·obtain⟨_,_,_,_,o,_,_,e,ex,_⟩:=I.hok p _ hk;exact⟨o,e,ex⟩
   obtain⟨o,e,ex⟩:=z;refine⟨⟨o,e,ex.1⟩,λa e2=>?_⟩;cases e2;exact⟨o,e,ex.2.1⟩
  ·obtain⟨o,_,_,_,e,ex,_⟩:=I.hok p _ hk;refine⟨⟨o,e,ex.1⟩,λa e2=>?_⟩;cases e2;exact⟨o,e,ex.2.1⟩
  ·obtain⟨_,its,r,o,e,c,n,d,hd⟩:=(show jaC X.prog X.w H s.heap p (.tup xs)from I.hok p _ hk);refine⟨⟨o,e,c⟩,λa e2=>?_⟩;cases e2;exact⟨o,e,hd⟩
 |_=>exact YcX ty
variable {o e:Expr}{es:List Expr}{to:TE}{t:TA}{name:Str}{apos cpos:Pos}{T id:String}{r:V->List V->Hp->VK->Prop}
end

def MtM (X:Cx)(id:String)(r:V->List V->Hp->VK->Prop):Prop:=
 ∀(pins:List (Addr×Obj)) (s:Shared) (σ:St) (H:Hp) (x:V) (xs:List V) (v:Value) (us:List Value) (Q:VK),Inv X pins σ H s->RelV x v->Vals xs us->r x xs H Q->
  wpAny (model X.prog X.w) X.A (call (.builtin id) (v::us)) (EP X pins σ Q) X.xe s

theorem Vals.one:∀{x:V} {us:List Value},Vals [x] us->∃u,us=[u]/\RelV x u
 |_,_,.cons r .nil=>⟨_,rfl,r⟩
theorem Vals.two:∀{x y:V} {us:List Value},Vals [x,y] us->∃u v,us=[u,v]/\RelV x u/\RelV y v
 |_,_,_,.cons r (.cons q .nil)=>⟨_,_,rfl,r,q⟩
theorem Vals.zero:∀{us:List Value},Vals [] us->us=[]
 |_,.nil=>rfl
theorem Vals.dropLast {xs:List V}{us:List Value}(h:Vals xs us):Vals xs.dropLast us.dropLast:=by
 induction h with
 |nil=>exact .nil
 |cons r t ih=>
  cases t with
  |nil=>exact .nil
  |cons q t'=>exact .cons r ih
theorem Vals.eraseIdx:∀{xs:List V} {us:List Value} (i:Nat),Vals xs us->Vals (xs.eraseIdx i) (us.eraseIdx i)
 |_,_,_,.nil=>.nil
 |_,_,0,.cons _ t=>t
 |_,_,i+1,.cons r t=>.cons r (Vals.eraseIdx i t)
theorem Vals.rep {xs:List V}{us:List Value}(h:Vals xs us):∀k:Nat,Vals (Yae k xs).flatten (Yae k us).flatten
 |0=>.nil
 |k+1=>by
  rw[Ya8,Ya8,YbM,YbM];exact Vals.append h (Vals.rep h k)
theorem jgg {α:Type}(l:List α):l.eraseIdx (l.length-1)=l.dropLast:=by
 induction l with
 |nil=>rfl
 |cons a r ih=>
  cases r with
  |nil=>rfl
  |cons b r=>
   have e:(a::b::r).length-1=((b::r).length-1)+1:=by
    have h1:(a::b::r).length=r.length+2:=rfl;have h2:(b::r).length=r.length+1:=rfl;omega
   rw[e,List.eraseIdx_cons_succ,ih]
   all_goals rfl
theorem jem {α:Type}:∀(l:List α) (i:Nat),(l.eraseIdx i).length<=l.length
 |[],_=>Yag _
 |_::_,0=>Yd0 _
 |_::r,i+1=>Nat.succ_le_succ (jem r i)
theorem jc9 (its:List Value):∀(k:Nat) (acc:List Value),
  Ydh (λx1 x2=>x1++x2) acc.toArray (Yae k its.toArray)=(acc++(Yae k its).flatten).toArray
 |0,acc=>by simp
 |k+1,acc=>by
  have e:acc.toArray++its.toArray=(acc++its).toArray:=by simp
  have e2:(acc++its)++(Yae k its).flatten=acc++(Yae (k+1) its).flatten:=by
   rw[Ya8,YbM,Ydj]
  rw[<- e2,<- jc9 its k (acc++its),<- e,Ya8,YdR]

section
variable {X:Cx}{pins:List (Addr×Obj)}{σ:St}{H:Hp}{s:Shared}{l b:Addr}{xs ys zs:List V}

theorem Inv.lset {its its':List Value}{n:Nat}{f:Array Value->Array Value}{t':Nat}(I:Inv X pins σ H s)(hH:H l=some (.lst xs))
  (e:s.heap.get? l=some { cls:=.type "list",data:=.seq its.toArray n }) (hf:f its.toArray=its'.toArray) (hv:Vals ys its') (hz:ys.length<=Yah) :
  Inv X pins σ (upd H l (.lst ys)) { s with heap:=s.heap.update l (Yco f),toks:=t' }:=by
 have q:=PySem.IsL.update e f;rw[hf]at q;refine I.write (x:=l) (e:=l) (by rw[hH];exact trivial) (.inl rfl) (λb' u hb hu=>(YcM s.heap (Yco f) (Ne.symm hb)).trans hu) ⟨_,q⟩ ?_
 exact⟨hz,its',_,hv,q⟩
theorem Inv.lnew {its:List Value}{t':Nat}(I:Inv X pins σ H s)(hv:Vals ys its)(hz:ys.length<=Yah) :
  Inv X pins σ (upd H s.heap.objs.size (.lst ys)) { s with heap:=s.heap.push { cls:=.type "list",data:=.seq its.toArray },toks:=t' }:=
 I.laid (λ_ _ q=>Yad _ q) (Yag _) ⟨hz,its,0,hv,Yaq _ rfl⟩
theorem Inv.fresh (I:Inv X pins σ H s):H s.heap.objs.size=none:=I.hok.fresh (Yag _)
theorem Inv.lstM (I:Inv X pins σ H s)(hH:H l=some (.lst xs)):xs.length<=Yah/\∃(its:List Value) (n:Nat),Vals xs its/\xs.length=its.length/\s.heap.get? l=some { cls:=.type "list",data:=.seq its.toArray n }:=by
 obtain⟨z,its,n,r,e⟩:=I.hok l _ hH;exact⟨z,its,n,r,r.length,e⟩

theorem jfv {n:Nat}(h:n<=Yah):YbI n=false:=by
 unfold YbI;exact decide_eq_false (by omega)
end

section
variable {X:Cx}

def jjD:V->List V->Hp->VK->Prop:=λx vs H Q=>∃l xs y,x=.ref l/\vs=[y]/\H l=some (.lst xs)/\xs.length<Yah/\Q .non (upd H l (.lst (xs++[y])))
theorem jek:MtM X "list.append" jjD:=by
 intro pins s σ H x vs v us Q I rx rv h;obtain⟨l,xs,y,rfl,rfl,hH,hz,q⟩:=h;cases rx;obtain⟨u,rfl,ru⟩:=rv.one;obtain⟨z,its,n,r,hl,e⟩:=I.lstM hH;refine Ybv F.slot_list_append ⟨_,e,rfl⟩ F.entry_list_append (F.args_list_append_2 _ _) (PySem.list_append l its.toArray n u (by rw[Yai];omega)) ⟨e,?_⟩
 refine⟨.non,_,I.lset (its':=its++[u]) hH e (by simp) (r.append (.cons ru .nil)) ?_,rfl,q⟩
 rw[YaQ,YcT];omega

def jjC:V->List V->Hp->VK->Prop:=λx vs H Q=>∃l b xs zs,x=.ref l/\vs=[.ref b]/\H l=some (.lst xs)/\H b=some (.lst zs)/\xs.length+zs.length<=Yah/\Q .non (upd H l (.lst (xs++zs)))
theorem jg0:MtM X "list.extend" jjC:=by
 intro pins s σ H x vs v us Q I rx rv h;obtain⟨l,b,xs,zs,rfl,rfl,hH,hB,hz,q⟩:=h;cases rx;obtain⟨u,rfl,ru⟩:=rv.one;cases ru;obtain⟨z,its,n,r,hl,e⟩:=I.lstM hH;obtain⟨z2,its2,n2,r2,hl2,e2⟩:=I.lstM hB;have hsz:its.toArray.size+its2.toArray.size<=Yah:=by rw[Yai,Yai];omega
 have hlong:¬(!its.toArray.isEmpty&&YbI (its.toArray.size+its2.toArray.size))=true:=by
  rw[jfv hsz,Bool.and_false];exact Yak
 refine Ybv F.slot_list_extend ⟨_,e,rfl⟩ F.entry_list_extend (F.args_list_extend_2 _ _)
  (AutoSeq1.list_extend_list_list_0 l its.toArray n b its2.toArray n2 hlong (by rw[Yai];omega) (by omega)) ⟨e,e2,?_⟩
 refine⟨.non,_,I.lset (its':=its++its2) hH e (by simp) (r.append r2) ?_,rfl,q⟩
 rw[YaQ];omega

def rPop:V->List V->Hp->VK->Prop:=λx vs H Q=>∃l xs y,x=.ref l/\vs=[]/\H l=some (.lst xs)/\xs[xs.length-1]?=some y/\Q y (upd H l (.lst xs.dropLast))
theorem mt_pop:MtM X "list.pop" rPop:=by
 intro pins s σ H x vs v us Q I rx rv h;obtain⟨l,xs,y,rfl,rfl,hH,hy,q⟩:=h;cases rx;have hus:=rv.zero;subst hus;obtain⟨z,its,n,r,hl,e⟩:=I.lstM hH;obtain⟨u,hu,ru⟩:=r.get hy;have hy':its.toArray[its.toArray.size-1]?=some u:=by
  show its.toArray[its.length-1]?=some u;rw[<- YbE,<- hl];exact hu
 refine Ybv F.slot_list_pop ⟨_,e,rfl⟩ F.entry_list_pop (F.args_list_pop_1 _) (MeetsSeq.list_pop_last l its.toArray n u hy' (by rw[Yai];omega)) ⟨e,?_⟩
 refine⟨y,_,I.lset (its':=its.dropLast) hH e ?_ r.dropLast ?_,ru,q⟩
 ·show its.toArray.eraseIdxIfInBounds (its.toArray.size-1)=its.dropLast.toArray;rw[Yai,Ydi,jgg]
 ·rw[List.length_dropLast];omega

def jlB:V->List V->Hp->VK->Prop:=λx vs H Q=>∃l xs i k y,x=.ref l/\vs=[.int i]/\H l=some (.lst xs)/\-(2 ^ 63)<=i/\i<2 ^ 63/\YfB i xs.length=some k/\xs[k]?=some y/\Q y (upd H l (.lst (xs.eraseIdx k)))
theorem jil:MtM X "list.pop" jlB:=by
 intro pins s σ H x vs v us Q I rx rv h;obtain⟨l,xs,i,k,y,rfl,rfl,hH,h1,h2,hk,hy,q⟩:=h;cases rx;obtain⟨u,rfl,ru⟩:=rv.one;obtain⟨t,rfl⟩:=ru;obtain⟨z,its,n,r,hl,e⟩:=I.lstM hH;obtain⟨w,hw,rw'⟩:=r.get hy;refine Ybv F.slot_list_pop ⟨_,e,rfl⟩ F.entry_list_pop (F.args_list_pop_2 _ _)
  (MeetsSeq.list_pop_at l its.toArray n i t k w (fitsIndex_both h1 h2) (by rw[Yai,<- hl];exact hk) (by rw[<- YbE];exact hw) (by rw[Yai];omega)) ⟨e,?_⟩
 refine⟨y,_,I.lset (its':=its.eraseIdx k) hH e ?_ (r.eraseIdx k) ?_,rw',q⟩
 ·show its.toArray.eraseIdxIfInBounds k=(its.eraseIdx k).toArray;rw[Ydi]
 ·have:=jem xs k;omega

def rCat:R2:=λx y H Q=>∃l b xs zs,x=.ref l/\y=.ref b/\H l=some (.lst xs)/\H b=some (.lst zs)/\xs.length+zs.length<=Yah/\∀p,H p=none->Q (.ref p) (upd H p (.lst (xs++zs)))
theorem jmh:OpR X (Ybd .Add) rCat:=by
 intro pins s σ H x y v u Q I rx ry h;obtain⟨l,b,xs,zs,rfl,rfl,hH,hB,hz,q⟩:=h;cases rx;cases ry;obtain⟨z,its,n,r,hl,e⟩:=I.lstM hH;obtain⟨z2,its2,n2,r2,hl2,e2⟩:=I.lstM hB;refine PySem.P.add_list e e2 ?_ (by rw[Yai,Yai];omega)
 have ea:its.toArray++its2.toArray=(its++its2).toArray:=by simp
 rw[ea];exact⟨.ref _,_,I.lnew (t':=s.toks) (r.append r2) (by rw[YaQ];omega),rfl,q _ I.fresh⟩
def rRep:R2:=λx y H Q=>∃l k xs,x=.ref l/\y=.int k/\H l=some (.lst xs)/\-(2 ^ 63)<=k/\k<2 ^ 63/\xs.length*k.toNat<=Yah/\
 ∀p,H p=none->Q (.ref p) (upd H p (.lst (Yae k.toNat xs).flatten))
theorem jeX {α:Type}(xs:List α)(k:Nat):(Yae k xs).flatten.length=k*xs.length:=by
 induction k with
 |zero=>simp
 |succ k ih=>rw[Ya8,YbM,YaQ,ih,Nat.succ_mul,Nat.add_comm]
theorem jl8:OpR X (Ybd .Mult) rRep:=by
 intro pins s σ H x y v u Q I rx ry h;obtain⟨l,k,xs,rfl,rfl,hH,h1,h2,hz,q⟩:=h;cases rx;obtain⟨t,rfl⟩:=ry;obtain⟨z,its,n,r,hl,e⟩:=I.lstM hH;have hlen:its.toArray.size*k.toNat<=Yah:=by rw[Yai,<- hl];exact hz
 have hcap:¬its.toArray.size*k.toNat>(2 ^ 63-1)/8:=by
  have:(Yah:Nat)<=(2 ^ 63-1)/8:=by decide
  omega
 have hfit:¬(!Builtin.List.listFitsIndex k)=true:=by
  rw[fitsIndex_both h1 h2];exact Yak
 have hlong:¬YbI (its.toArray.size*k.toNat)=true:=by
  rw[jfv hlen];exact Yak
 have hnew:Ydh (λx1 x2=>x1++x2) #[] (Yae (if its.toArray.isEmpty=true then 0 else k.toNat) its.toArray)=(Yae k.toNat its).flatten.toArray:=by
  have f0:∀m:Nat,Ydh (λx1 x2=>x1++x2) #[] (Yae m its.toArray)=(Yae m its).flatten.toArray:=λm=>by
   have:=jc9 its m [];rw[Ya6]at this;exact this
  rw[f0];cases its with
  |nil=>simp
  |cons a r'=>rw[if_neg (by simp)]
 refine Yex (T := "list") (U := "int") (by decide) ⟨_,e,rfl⟩ (λs'=>YdW s' k t) noFill_list_mul F.fills_int_mul Yc4 repeat_list F.slot_int_index.lookup
  (Ybv Yc4 (YdW s k t) F.entry_int_rmul (F.args_int_rmul_2 _ _) (int___rmul___int_list k t l its.toArray n)
   ⟨e,rfl,⟨_,e,rfl⟩,Ybv F.slot_list_mul ⟨_,e,rfl⟩ F.entry_list_mul (F.args_list_mul_2 _ _) (AutoListH.list___mul___list_int_3 l its.toArray n k t hfit hcap hlong) ⟨e,?_⟩⟩)
 rw[hnew];exact⟨.ref _,_,I.lnew (t':=s.toks) (r.rep k.toNat) (by rw[jeX,Ydv];exact hz),rfl,q _ I.fresh⟩

end

section
variable {prog:Program}{w:World}{A:Around}{E:Value->Shared->Prop}{s:Shared}
end

section
variable {X:Cx}
end

section
variable {κ:Type}[DecidableEq κ]
noncomputable def valV (kvs:List (κ×V))(k:κ):Option V:=(kvs.find? λkv=>decide (kv.1=k)).map (·.2)
noncomputable def putK (kvs:List (κ×V))(k:κ)(v:V):List (κ×V):=
 if (kvs.any λkv=>decide (kv.1=k))=true then kvs.map (λkv=>if kv.1=k then (kv.1,v) else kv) else kvs++[(k,v)]
noncomputable def jp8 (kvs:List (κ×V))(k:κ):List (κ×V):=kvs.filter λkv=>decide (kv.1≠k)

section
variable {p:κ×V}{r:List (κ×V)}{k:κ}
theorem jcJ (e:p.1=k):valV (p::r) k=some p.2:=by simp[valV,Ybr,e]
theorem jcK (e:¬p.1=k):valV (p::r) k=valV r k:=by simp[valV,Ybr,e]
end
theorem jfc (k:κ):∀kvs:List (κ×V),(kvs.any λkv=>decide (kv.1=k))=(valV kvs k).isSome
 |[]=>rfl
 |p::r=>by
  rw[Yba];by_cases e:p.1=k
  ·simp only[jcJ e,decide_eq_true e,Yew,Option.isSome_some]
  ·rw[jcK e,decide_eq_false e,Yem];exact jfc k r
theorem jbB (kvs:List (κ×V))(k:κ)(v:V):(putK kvs k v).length<=kvs.length+1:=by
 unfold putK;split
 ·rw[Yac];omega
 ·rw[YaQ,Yaz,YcU];omega
theorem RelO.isSome_eq {o:Option V}{u:Option Value}(r:RelO o u):o.isSome=u.isSome:=by
 cases o with
 |none=>cases u with
  |none=>rfl
  |some _=>exact(show False from r).elim
 |some _=>cases u with
  |none=>exact(show False from r).elim
  |some _=>rfl
section
variable {kvs:List (κ×V)}{vs:List (κ×Value)}
theorem KV.val (r:KV kvs vs)(k:κ):RelO (valV kvs k) (valueAt vs k):=by
 unfold KV at r
 induction r with
 |nil=>exact YbJ
 |@cons p q ps qs h t ih=>
  obtain⟨h1,h2⟩:=h;by_cases e:p.1=k
  ·have e':q.1=k:=h1.symm.trans e;have b:valueAt (q::qs) k=some q.2:=by simp[valueAt,Ybr,e']
   rw[jcJ e,b];exact h2
  ·have e':¬q.1=k:=λz=>e (h1.trans z);have b:valueAt (q::qs) k=valueAt qs k:=by simp[valueAt,Ybr,e']
   rw[jcK e,b];exact ih
theorem KV.any (r:KV kvs vs)(k:κ):(kvs.any λkv=>decide (kv.1=k))=vs.any λkv=>decide (kv.1=k):=by
 unfold KV at r
 induction r with
 |nil=>rfl
 |cons h t ih=>rw[Yba,Yba,ih,h.1]
theorem KV.repl (r:KV kvs vs)(k:κ){y:V}{u:Value}(ry:RelV y u) :
  KV (kvs.map λkv=>if kv.1=k then (kv.1,y) else kv) (vs.map λkv=>if kv.1=k then (kv.1,u) else kv):=by
 unfold KV at r ⊢
 induction r with
 |nil=>exact .nil
 |@cons p q ps qs h t ih=>
  rw[YaB,YaB];refine .cons ?_ ih;obtain⟨h1,h2⟩:=h;by_cases e:p.1=k
  ·rw[if_pos e,if_pos (h1.symm.trans e)];exact⟨h1,ry⟩
  ·rw[if_neg e,if_neg (λz=>e (h1.trans z))];exact⟨h1,h2⟩
theorem KV.put (r:KV kvs vs)(k:κ){y:V}{u:Value}(ry:RelV y u):KV (putK kvs k y) (stored vs k u):=by
 unfold putK stored;rw[r.any k];by_cases e:(vs.any λkv=>decide (kv.1=k))=true
 ·rw[if_pos e,if_pos e];exact r.repl k ry
 ·rw[if_neg e,if_neg e];exact Paired.snoc r ⟨rfl,ry⟩
theorem KV.length (r:KV kvs vs):kvs.length=vs.length:=Yc5 r
end
end

theorem jge {P:Program}{w:World}{k:Key}{u:Value}(r:RelV (kV k) u):(jai P w).is k u=true:=by
 cases k with
 |inl i=>obtain⟨t,e⟩:=(show ∃t,u=YdG i t from r);subst e;exact jeW P w i t
 |inr x=>obtain⟨t,e⟩:=(show ∃t,u=Yer x t from r);subst e;exact jeV P w x t
theorem jep {P:Program}{w:World}:∀{ks:List Key} {us:List Value},Vals (ks.map kV) us->ItemsAre (jai P w) ks us
 |[],_,r=>by rw[YcS]at r;cases r;exact .nil
 |k::ks,_,r=>by
  rw[YaB]at r;cases r with
  |cons h t=>exact .cons (jge h) (jep t)

abbrev KT (H:Hp):List (List Key×V)->List (List Key×Addr×Value)->Prop:=Paired λp q=>p.1=q.1/\H q.2.1=some (.tup (p.1.map kV))/\RelV p.2 q.2.2
section
variable {H:Hp}{kvs:List (List Key×V)}{xs:List (List Key×Addr×Value)}
theorem KT.val (r:KT H kvs xs)(k:List Key):RelO (valV kvs k) ((atKey xs k).map (·.2)):=by
 induction r with
 |nil=>exact YbJ
 |@cons p q ps qs h t ih=>
  obtain⟨h1,_,h2⟩:=h;by_cases e:p.1=k
  ·have e':q.1=k:=h1.symm.trans e;have b:atKey (q::qs) k=some q.2:=by simp[atKey,Ybr,e']
   rw[jcJ e,b];exact h2
  ·have e':¬q.1=k:=λz=>e (h1.trans z);have b:atKey (q::qs) k=atKey qs k:=by simp[atKey,Ybr,e']
   rw[jcK e,b];exact ih
theorem KT.repl (r:KT H kvs xs)(k:List Key){y:V}{u:Value}(ry:RelV y u) :
  KT H (kvs.map λkv=>if kv.1=k then (kv.1,y) else kv) (xs.map (putAt k u)):=by
 induction r with
 |nil=>exact .nil
 |@cons p q ps qs h t ih=>
  rw[YaB,YaB];refine .cons ?_ ih;obtain⟨h1,h2,h3⟩:=h;unfold putAt;by_cases e:p.1=k
  ·rw[if_pos e,if_pos (h1.symm.trans e)];exact⟨h1,h2,ry⟩
  ·rw[if_neg e,if_neg (λz=>e (h1.trans z))];exact⟨h1,h2,h3⟩
theorem KT.put (r:KT H kvs xs)(k:List Key){b:Addr}{y:V}{u:Value}(hb:H b=some (.tup (k.map kV)))(ry:RelV y u) :
  KT H (putK kvs k y) (storedH xs k b u):=by
 have e:(kvs.any λkv=>decide (kv.1=k))=(atKey xs k).isSome:=by
  rw[jfc,(r.val k).isSome_eq,Yde]
 unfold putK storedH;rw[e];by_cases q:(atKey xs k).isSome=true
 ·rw[if_pos q,if_pos q];exact r.repl k ry
 ·rw[if_neg q,if_neg q];exact Paired.snoc r ⟨rfl,hb,ry⟩
end
theorem KT.keeps {H H':Hp}{kvs:List (List Key×V)}{xs:List (List Key×Addr×Value)}(r:KT H kvs xs)(ht:∀b ys,H b=some (.tup ys)->H' b=some (.tup ys)):KT H' kvs xs:=
 Paired.mapP r λ_ _ z=>⟨z.1,ht _ _ z.2.1,z.2.2⟩

section
variable {P:Program}{w:World}{H:Hp}{h:Heap}{a:Addr}
theorem jly {u:HO}(ok:HOk P w H h)(e:Rd H a u):jaC P w H h a u:=e.ok ok
theorem jew {kvs:List (Key×V)}(ok:HOk P w H h)(e:Rd H a (.dK kvs)):kvs.length<=Yah/\(a==YaV)=false/\∃vs,KV kvs vs/\h.DictOf (jai P w) a vs:=
 show jaC P w H h a (.dK kvs)from jly ok e
theorem jmW {kvs:List (Key×V)}(ok:HOk P w H h)(e:H a=some (.dK kvs)):kvs.length<=Yah/\(a==YaV)=false/\∃vs,KV kvs vs/\h.DictOf (jai P w) a vs:=jew ok (.inl e)
theorem jeo {ks:List Key}(ok:HOk P w H h)(e:H a=some (.tup (ks.map kV))):(Yeo (jai P w)).is h ks a:=by
 obtain⟨_,its,r,o,h1,h2,n,h3,_⟩:=(show jaC P w H h a (.tup (ks.map kV))from ok a _ e);exact⟨o,its.toArray,n,h1,h2,h3,by simpa using jep r⟩
section
variable {kvs:List (List Key×V)}
theorem jgh (ok:HOk P w H h)(e:Rd H a (.dT kvs)):kvs.length<=Yah/\(a==YaV)=false/\
  ∃xs,KT H kvs xs/\h.DictOfH (Yeo (jai P w)) a xs:=by
 obtain⟨z,y,xs,r,o,es,ep,h1,h2,h3,h4,h5⟩:=(show jaC P w H h a (.dT kvs)from jly ok e);refine⟨z,y,xs,r,o,es,ep,h1,h2,h3,h4,λx hx=>?_,h5⟩;have all:∀{l:List (List Key×V)} {m:List (List Key×Addr×Value)},KT H l m->∀x∈m,(Yeo (jai P w)).is h x.1 x.2.1:=by
  intro l m q
  induction q with
  |nil=>intro x hx;exact nomatch hx
  |@cons p q ps qs hq t ih=>
   intro x hx;rcases YaO.mp hx with e|hx
   ·subst e;exact jeo ok (by rw[<- hq.1];exact hq.2.1)
   ·exact ih x hx
 exact all r x hx
theorem joT (ok:HOk P w H h)(e:H a=some (.dT kvs)):kvs.length<=Yah/\(a==YaV)=false/\
  ∃xs,KT H kvs xs/\h.DictOfH (Yeo (jai P w)) a xs:=jgh ok (.inl e)
end
end

def DGet (H:Hp)(a:Addr)(y:V)(r:Option V):Prop:=
 (∃kvs k,Rd H a (.dK kvs)/\y=kV k/\r=valV kvs k)\/∃kvs k b,Rd H a (.dT kvs)/\y=.ref b/\H b=some (.tup (k.map kV))/\r=valV kvs k
def DPut (H:Hp)(a:Addr)(y v:V)(H':Hp):Prop:=
 (∃kvs k,H a=some (.dK kvs)/\y=kV k/\kvs.length<Yah/\H'=upd H a (.dK (putK kvs k v)))\/
 ∃kvs k b,H a=some (.dT kvs)/\y=.ref b/\H b=some (.tup (k.map kV))/\kvs.length<Yah/\H'=upd H a (.dT (putK kvs k v))
theorem DGet.k {H:Hp}{a:Addr}{kvs:List (Key×V)}{k:Key}(e:H a=some (.dK kvs)):DGet H a (kV k) (valV kvs k):=.inl ⟨kvs,k,.inl e,rfl,rfl⟩
theorem DGet.t {H:Hp}{a b:Addr}{kvs:List (List Key×V)}{k:List Key}(e:H a=some (.dT kvs))(eb:H b=some (.tup (k.map kV))):DGet H a (.ref b) (valV kvs k):=.inr ⟨kvs,k,b,.inl e,rfl,eb,rfl⟩
theorem DPut.k {H:Hp}{a:Addr}{kvs:List (Key×V)}{k:Key}{v:V}(e:H a=some (.dK kvs))(hl:kvs.length<Yah):DPut H a (kV k) v (upd H a (.dK (putK kvs k v))):=.inl ⟨kvs,k,e,rfl,hl,rfl⟩
theorem DPut.t {H:Hp}{a b:Addr}{kvs:List (List Key×V)}{k:List Key}{v:V}(e:H a=some (.dT kvs))(eb:H b=some (.tup (k.map kV)))(hl:kvs.length<Yah) :
  DPut H a (.ref b) v (upd H a (.dT (putK kvs k v))):=.inr ⟨kvs,k,b,e,rfl,eb,hl,rfl⟩

section
variable {X:Cx}{pins:List (Addr×Obj)}{σ:St}{H:Hp}{s:Shared}{a:Addr}{y v:V}{u r:Value}{o:Option V}{A:Around}{E:Value->Shared->Prop}

theorem Inv.big (I:Inv X pins σ H s):YaV<s.heap.objs.size:=by
 have h:YaK<s.heap.objs.size:=(I.mod.glob.keeps I.bk).lt;exact Ydw (by decide) h

section
variable {Q:Value->Shared->Prop}
theorem jhw (hu:A.units+1<cLine)(I:Inv X pins σ H s)(g:DGet H a y (some v))(ry:RelV y u)(h:∀w' s',Inv X pins σ H s'->RelV v w'->Q w' s') :
  wpAny (model X.prog X.w) A (getItem (.ref a) u) Q E s:=by
 rcases g with⟨kvs,k,e,ey,l⟩|⟨kvs,k,b,e,ey,eb,l⟩
 ·subst ey;obtain⟨z,hd,vs,rel,dd⟩:=jew I.hok e;obtain⟨w',hw,rw'⟩:=RelO.some_of (v:=v) (o:=valueAt vs k) (by rw[l];exact rel.val k)
  exact wpAny_getItem_of (jge ry) dd.mapOf hw (h w' _ (I.tok _) rw')
 ·subst ey;cases(show u=Ybw b from ry);obtain⟨z,hd,xs,rel,dd⟩:=jgh I.hok e;obtain⟨w',hw,rw'⟩:=RelO.some_of (v:=v) (o:=(atKey xs k).map (·.2)) (by rw[l];exact rel.val k)
  obtain⟨p,hp,hp2⟩:=Option.map_eq_some_iff.mp hw;refine wpAny_getItem_heap (YcG hu) (jeo I.hok eb) dd hp ?_;rw[hp2];exact h w' _ (I.tok _) rw'
theorem d_in (hu:A.units+1<cLine)(I:Inv X pins σ H s)(g:DGet H a y o)(ry:RelV y u)(h:∀s',Inv X pins σ H s'->Q (.bool o.isSome) s') :
  wpAny (model X.prog X.w) A (YaN .In u (.ref a)) Q E s:=by
 rcases g with⟨kvs,k,e,ey,l⟩|⟨kvs,k,b,e,ey,eb,l⟩
 ·subst ey;obtain⟨z,hd,vs,rel,dd⟩:=jew I.hok e;refine wpAny_in_of (jge ry) hd dd.mapOf ?_;rw[<- (rel.val k).isSome_eq,<- l];exact h _ (I.tok _)
 ·subst ey;cases(show u=Ybw b from ry);obtain⟨z,hd,xs,rel,dd⟩:=jgh I.hok e;refine wpAny_in_heap (YcG hu) (jeo I.hok eb) hd dd ?_;have q:=(rel.val k).isSome_eq;rw[Yde]at q;rw[<- q,<- l];exact h _ (I.tok _)
theorem jkR (hu:A.units+1<cLine)(I:Inv X pins σ H s)(g:DGet H a y o)(ry:RelV y u)(h:∀s',Inv X pins σ H s'->Q (.bool (!o.isSome)) s') :
  wpAny (model X.prog X.w) A (YaN .NotIn u (.ref a)) Q E s:=by
 rcases g with⟨kvs,k,e,ey,l⟩|⟨kvs,k,b,e,ey,eb,l⟩
 ·subst ey;obtain⟨z,hd,vs,rel,dd⟩:=jew I.hok e;refine wpAny_notIn_of (jge ry) hd dd.mapOf ?_;rw[<- (rel.val k).isSome_eq,<- l];exact h _ (I.tok _)
 ·subst ey;cases(show u=Ybw b from ry);obtain⟨z,hd,xs,rel,dd⟩:=jgh I.hok e;refine wpAny_notIn_heap (YcG hu) (jeo I.hok eb) hd dd ?_;have q:=(rel.val k).isSome_eq;rw[Yde]at q;rw[<- q,<- l];exact h _ (I.tok _)
end
theorem je5 {h':Heap}{t':Nat}{ob:HO}(I:Inv X pins σ H s)(mu:Mut (H a))(hs:Ycv a s.heap h')(he:∃q,h'.get? a=some q)(new:jaC X.prog X.w (upd H a ob) h' a ob) :
  Inv X pins σ (upd H a ob) { s with heap:=h',toks:=t' }:=
 I.write (x:=a) (e:=a) mu (.inl rfl) (λb q hb z=>(hs.2 b hb).trans z) he new
theorem ji8 {P:Program}{w:World}{H':Hp}{h':Heap}{kvs:List (Key×V)}{vs:List (Key×Value)}(z:kvs.length<=Yah)(hd:(a==YaV)=false)(rel:KV kvs vs)(dd:h'.DictOf (jai P w) a vs) :
  jaC P w H' h' a (.dK kvs):=⟨z,hd,vs,rel,dd⟩
theorem jhv {H':Hp}{Q:Unit->Shared->Prop}(hu:A.units+1<cLine)(I:Inv X pins σ H s)(g:DPut H a y v H')(ry:RelV y u)(rv:RelV v r)(h:∀s',Inv X pins σ H' s'->Q () s') :
  wpAny (model X.prog X.w) A (setItem (.ref a) u r) Q E s:=by
 rcases g with⟨kvs,k,e,ey,l,eH⟩|⟨kvs,k,b,e,ey,eb,l,eH⟩
 ·subst ey eH;obtain⟨z,hd,vs,rel,dd⟩:=jmW I.hok e;have hz:vs.length<=Yah:=by rw[<- rel.length];exact z
  have hl:(putK kvs k v).length<=Yah:=by have:=jbB kvs k v;omega
  refine wpAny_setItem_pairs (hsz:=hz) (jge ry) dd λh' dd' hs=>h _ ?_;have he:∃q,h'.get? a=some q:=let ⟨q,_,_,hq,_⟩:=dd';⟨q,hq⟩
  exact je5 I (by rw[e];exact YbJ) hs he (ji8 hl hd (rel.put k rv) dd')
 ·subst ey eH;cases(show u=Ybw b from ry);obtain⟨z,hd,xs,rel,dd⟩:=joT I.hok e;have hz:xs.length<=Yah:=by rw[<- Yc5 rel];exact z
  have hl:(putK kvs k v).length<=Yah:=by have:=jbB kvs k v;omega
  refine wpAny_setItem_heap (hsz:=hz) (YcG hu) (jeo I.hok eb) dd λh' dd' hs=>h _ ?_;obtain⟨q,es,ep,hq,h2,h3,h4,_,h5⟩:=dd';refine je5 I (by rw[e];exact YbJ) hs ⟨q,hq⟩ ⟨hl,hd,_,(rel.put k eb rv).keeps λc ys ec=>?_,q,es,ep,hq,h2,h3,h4,h5⟩
  rw[jac (joB ec e (λz=>nomatch z))];exact ec
end

section
variable {X:Cx}{pins:List (Addr×Obj)}{σ:St}{H:Hp}{s:Shared}{a:Addr}{kvs:List (Key×V)}{k:Key}{u:Value}{A:Around}{E:Value->Shared->Prop}
theorem joU {Q:Value->Shared->Prop}(I:Inv X pins σ H s)(e:Rd H a (.dK kvs))(h:∀t s',Inv X pins σ H s'->Q (.int kvs.length t) s'):wpAny (model X.prog X.w) A (call (.builtin "len") [.ref a]) Q E s:=by
 obtain⟨z,hd,vs,rel,dd⟩:=jew I.hok e;refine call_len_dict hd dd (by rw[<- rel.length];rw[Ycn]at z;omega) ?_
 rw[<- rel.length];exact h _ _ (I.tok _)
end

theorem je4 {X:Cx}{pins:List (Addr×Obj)}{σ:St}{H:Hp}{s:Shared}{a:Addr}{y:V}{o:Option V}(I:Inv X pins σ H s)(g:DGet H a y o):s.TypeIs (.ref a) "dict" := by
 rcases g with⟨kvs,k,e,_,_⟩|⟨kvs,k,b,e,_,_,_⟩
 ·obtain⟨_,_,vs,_,dd⟩:=jew I.hok e;exact dd.typeIs
 ·obtain⟨_,_,xs,_,dd⟩:=jgh I.hok e;exact dd.typeIs
section
variable {X:Cx}{o i e value:Expr}{pos pos' tpos:Pos}{td ty tv:TE}
end

theorem jfR {P:Program}{w:World}{H:Hp}(h:Heap)(hb:YaV<h.objs.size):jaC P w H (h.push { cls:=.type "dict",data:=.dict #[] }) h.objs.size (.dK []):=
 ⟨Ybj _,beq_eq_false_iff_ne.mpr (Ne.symm (Yax hb)),[],.nil,Heap.DictOf.new h⟩
def jlg:TE:=λ_ H Q=>∀p,H p=none->Q (.ref p) (upd H p (.dK []))
section
variable {X:Cx}{pos:Pos}
theorem jh5:PE X (.Dict [] [] pos) jlg:=λpins s σ H Q I h=>
 wpAny_Dict_empty ⟨.ref s.heap.objs.size,_,I.laid (a:=s.heap.objs.size) (o:=.dK []) (t':=s.toks) (λ_ _ q=>Yad _ q) (Yag _) (jfR s.heap I.big),rfl,h _ (I.hok.fresh (Yag _))⟩
end

def jfm:List (TE×TE)->St->Hp->(List (V×V)->Hp->Prop)->Prop
 |[],_,H,Q=>Q [] H
 |(tk,tv)::r,σ,H,Q=>tk σ H λx H1=>tv σ H1 λy H2=>jfm r σ H2 λps H3=>Q ((x,y)::ps) H3
abbrev VV:List (V×V)->List (Value×Value)->Prop:=Paired λp q=>RelV p.1 q.1/\RelV p.2 q.2
def PPs (X:Cx)(pos:Pos)(keys:List (Option Expr))(values:List Expr)(trs:List (TE×TE)):Prop:=
 ∀(pins:List (Addr×Obj)) (s:Shared) (σ:St) (H:Hp) (Q:List (V×V)->Hp->Prop),Inv X pins σ H s->jfm trs σ H Q->
  wpAny (model X.prog X.w) X.A (evalPairs (pairTrees keys values X.env pos)) (λvs s'=>∃ps H',Inv X pins σ H' s'/\VV ps vs/\Q ps H') X.xe s
theorem jjJ {X:Cx}{pos:Pos}:PPs X pos [] [] []:=λpins s σ H Q I h=>pairTrees_nil_walk ⟨[],H,I,.nil,h⟩
theorem jhY {X:Cx}{pos:Pos}{k v:Expr}{ks:List (Option Expr)}{vs:List Expr}{tk tv:TE}{trs:List (TE×TE)}(hk:PE X k tk)(hv:PE X v tv)(hr:PPs X pos ks vs trs) :
  PPs X pos (some k::ks) (v::vs) ((tk,tv)::trs):=λpins s σ H Q I h=>
 pairTrees_cons_walk (thn (hk pins s σ H _ I h) λu s1 ⟨x,H1,I1,rx,q1⟩=>thn (hv pins s1 σ H1 _ I1 q1) λw2 s2 ⟨y,H2,I2,ry,q2⟩=>
  thn (hr pins s2 σ H2 _ I2 q2) λws s3 ⟨ps,H3,I3,rel,q3⟩=>⟨(x,y)::ps,H3,I3,.cons ⟨rx,ry⟩ rel,q3⟩)

noncomputable def jc6 (kvs more:List (Key×V)):List (Key×V):=more.foldl (λacc kv=>putK acc kv.1 kv.2) kvs
theorem KV.merge:∀{more:List (Key×V)} {rs:List (Key×Value)} {kvs:List (Key×V)} {vs:List (Key×Value)},KV more rs->KV kvs vs->KV (jc6 kvs more) (merged vs rs):=by
 intro more rs kvs vs r;unfold KV at r
 induction r generalizing kvs vs with
 |nil=>intro q;exact q
 |@cons p q ps qs h t ih=>
  intro r0;have e:KV (putK kvs p.1 p.2) (stored vs q.1 q.2):=by
   have:=r0.put p.1 h.2;rw[<- h.1];exact this
  exact ih e
theorem jbW:∀(more kvs:List (Key×V)),(jc6 kvs more).length<=kvs.length+more.length
 |[],kvs=>by show kvs.length<=kvs.length+0;omega
 |p::r,kvs=>by
  have h1:=jbW r (putK kvs p.1 p.2);have h2:=jbB kvs p.1 p.2;show(jc6 (putK kvs p.1 p.2) r).length<=_;rw[Yaz];omega
theorem jdI {P:Program}{w:World}:∀{kvs:List (Key×V)} {ws:List (Value×Value)},VV (kvs.map λkv=>(kV kv.1,kv.2)) ws->∃rs,Carries (jai P w) ws rs/\KV kvs rs
 |[],_,r=>by rw[YcS]at r;cases r;exact⟨[],YbJ,.nil⟩
 |p::kvs,_,r=>by
  rw[YaB]at r;cases r with
  |@cons a b as bs h t=>
   obtain⟨rs,c,q⟩:=jdI (P:=P) (w:=w) t;obtain⟨b1,b2⟩:=b;exact⟨(p.1,b2)::rs,⟨jge h.1,rfl,c⟩,.cons ⟨rfl,h.2⟩ q⟩
def jn1 (trs:List (TE×TE)):TE:=λσ H Q=>∀p,H p=none->jfm trs σ (upd H p (.dK [])) λps H2=>H2 p=some (.dK [])/\∃kvs:List (Key×V),ps=kvs.map (λkv=>(kV kv.1,kv.2))/\kvs.length<=15/\Q (.ref p) (upd H2 p (.dK (jc6 [] kvs)))
theorem jjU {X:Cx}{pos:Pos}{keys:List (Option Expr)}{values:List Expr}{trs:List (TE×TE)}(h:PPs X pos keys values trs)(hall:keys.all (·.isSome)=true)(hl:keys.length=values.length)(h0:keys≠[])
  (h15:keys.length<=15):PE X (.Dict keys values pos) (jn1 trs):=by
 intro pins s σ H Q I q;have hn:=I.hok.fresh (Yag s.heap.objs.size);have I1:=I.laid (a:=s.heap.objs.size) (o:=.dK []) (h':=s.heap.push { cls:=.type "dict",data:=.dict #[] }) (t':=s.toks) (λ_ _ q=>Yad _ q) (Yag _) (jfR s.heap I.big);refine wpAny_Dict_walk (knd:=jai X.prog X.w) hall hl h0 h15 (thn (h pins _ σ _ _ I1 (q _ hn)) λws s2 ⟨ps,H2,I2,rel,e,kvs,ep,lk,q2⟩=>?_);subst ep;obtain⟨rs,c,rk⟩:=jdI (P:=X.prog) (w:=X.w) rel;obtain⟨z,hd,vs0,r0,dd⟩:=jmW I2.hok e;cases r0;refine⟨rs,c,dd,λh' dd' hs=>⟨.ref s.heap.objs.size,_,?_,rfl,q2⟩⟩;have hz:(jc6 [] kvs).length<=Yah:=by
  have h1:=jbW kvs [];rw[YcU]at h1;rw[Ycn];omega
 have he:∃q,h'.get? s.heap.objs.size=some q:=let ⟨q,_,_,hq,_⟩:=dd';⟨q,hq⟩
 exact je5 I2 (by rw[e];exact YbJ) hs he (ji8 hz hd (rk.merge .nil) dd')

structure M1 (X:Cx)(o:Expr)(m:Str)(apos:Pos)(e:Expr)(cpos:Pos):Prop where
 base:Ybq o m X.env (eval o X.env)=eval o X.env
 few:((backTo cpos (YaG [e] X.env)).all (λx=>!x.1)&&(backToKw cpos (Yeq [] X.env)).all (λx=>x.1.isSome)
  && decide (([e]:List Expr).length+([]:List Keyword).length+(if ([]:List Keyword).isEmpty then 0 else 1)<30))=true
 line:(apos.endLine==cpos.line)=true
 trees:backTo cpos (YaG [e] X.env)=[(false,eval e X.env)]
structure M2 (X:Cx)(o:Expr)(m:Str)(apos:Pos)(e f:Expr)(cpos:Pos):Prop where
 base:Ybq o m X.env (eval o X.env)=eval o X.env
 few:((backTo cpos (YaG [e,f] X.env)).all (λx=>!x.1)&&(backToKw cpos (Yeq [] X.env)).all (λx=>x.1.isSome)
  && decide (([e,f]:List Expr).length+([]:List Keyword).length+(if ([]:List Keyword).isEmpty then 0 else 1)<30))=true
 line:(apos.endLine==cpos.line)=true
 trees:backTo cpos (YaG [e,f] X.env)=[(false,eval e X.env),(false,eval f X.env)]

def IsD (H:Hp)(a:Addr):Prop:=(∃kvs,Rd H a (.dK kvs))\/∃kvs,Rd H a (.dT kvs)
theorem jiZ {X:Cx}{pins:List (Addr×Obj)}{σ:St}{H:Hp}{s:Shared}{a:Addr}(I:Inv X pins σ H s)(d:IsD H a) :
  s.TypeIs (.ref a) "dict" /\ (∀b,Ybw a=.ref b->∃ob,s.heap.get? b=some ob/\ob.dict=none)/\(a==YaV)=false:=by
 rcases d with⟨kvs,e⟩|⟨kvs,e⟩
 ·obtain⟨_,hd,vs,_,dd⟩:=jew I.hok e;refine⟨dd.typeIs,λb q=>?_,hd⟩;cases q;obtain⟨ob,_,_,h1,h2,_⟩:=dd;exact⟨ob,h1,h2.2.1⟩
 ·obtain⟨_,hd,xs,_,dd⟩:=jgh I.hok e;refine⟨dd.typeIs,λb q=>?_,hd⟩;cases q;obtain⟨ob,_,_,h1,h2,_⟩:=dd;exact⟨ob,h1,h2.2.1⟩

section
variable {X:Cx}{pins:List (Addr×Obj)}{σ:St}{H:Hp}{s:Shared}{a:Addr}{y d:V}{u r:Value}{o:Option V}{A:Around}{E:Value->Shared->Prop}
end

section
variable {X:Cx}{o e f:Expr}{apos cpos:Pos}{td ty tx:TE}
end

section
variable {X:Cx}{pins:List (Addr×Obj)}{σ:St}{H:Hp}{s:Shared}{a:Addr}{kvs:List (Key×V)}{A:Around}{E:Value->Shared->Prop}
end

section
variable {X:Cx}{pins:List (Addr×Obj)}{σ:St}{H:Hp}{s:Shared}{a:Addr}{y:V}{u:Value}{A:Around}{E:Value->Shared->Prop}
end
end L2

namespace Att
open PySem PySem.W PySem.Calls PyProof.Rows

theorem jc8 {P:Params}{h:Heap}:∀(ns:List Int) (vs:List Value),WellAll P h vs (ns.map WData.int)->IntsAre vs ns:=by
 intro ns
 induction ns with
 |nil=>
  intro vs w;rw[YcS]at w;cases w;exact .nil
 |cons n ns ih=>
  intro vs w;rw[YaB]at w;cases w with
  |cons a b=>
   cases a;exact .cons _ _ (ih _ b)

theorem jgz {l:OpenLaw}{n:Nat}(hn:l.most=some n){P:Params}{h:Heap}{args:List WData}{vals:List Value}
  (hpre:l.row.toRowW.claim.pre args=true) (hwl:WellAll P h vals args) :
  ∃a vs ns,vals=[Ybw a]/\args=[WData.list (ns.map WData.int)]/\h.get? a=some { cls:=.type "list",data:=.seq vs.toArray }/\IntsAre vs ns/\ns.length<=n:=by
 have hsh:WShape.hasAll [] args [.list .int]=true:=(pre_splitW hpre).1;have hc:l.pre.holds [] { args:=args }=true:=(pre_splitW hpre).2;obtain⟨d,r,rfl,h1,h2⟩:=hasAllW_cons hsh;obtain rfl:=hasAllW_nil h2;obtain⟨xs,rfl,h3⟩:=hasW_list h1;obtain⟨ns,rfl⟩:=items_int h3;have hlen:ns.length<=n:=by
  unfold OpenLaw.pre at hc;have h4:(WTm.not (.lt (.lit (.int (n:Int))) (.len (.arg 0)))).holds [] { args:=[.list (ns.map .int)] }=true:=by
   have h4:=(holds_andW hc).1;rw[hn]at h4;exact h4
  have h5:=condW_of h4 (w_not (w_lt w_lit (w_len_list (w_arg rfl))));rw[Yac]at h5;refine Nat.le_of_not_lt λq=>?_;have q':(n:Int)<((ns.length:Nat):Int):=by omega
  first
   |(rw[decide_eq_true q']at h5;exact absurd h5 (by decide))
   |(simp at h5;omega)
 cases hwl with
 |cons w1 w2=>
  cases w2;cases w1 with
  |list ho hall=>exact⟨_,_,ns,rfl,rfl,ho,jc8 ns _ hall,hlen⟩

theorem jgE (l:OpenLaw)(args:List WData):l.row.toRowW.claim.post args (.bool true) args=true:=
 postW_of (r:=l.row.toRowW) (X:=(true==true))
  (show WShape.has [] (.bool true) .bool=true by first|rfl|decide|simp[WShape.has,WShape.arms,WShape.armsAll])
  (show(WTm.eq .res (.lit (.bool true))).value [] { args:=args,res:=some (.bool true),after:=args }=some (.bool (true==true))from w_eq_bool (w_res rfl) w_lit) rfl

theorem attach_call {l:OpenLaw}{n:Nat}{q:Program}{loose:List Str}{XP:(Str->Option Value)->Heap->Prop}{YP:World->Heap->Prop}{d:DefRec}
  (hn:l.most=some n) (hdf:d.params.defaults=[])
  (call:∀(w:World) (s₀ s₁:Shared) (mg mb:Str->Option Value) (fa:Addr) (o:Obj) (pm cd doc:Value) (a:Addr) (vs:List Value) (ns:List Int),
   Ground q loose [] XP w s₀ mg mb s₁.heap->YP w s₁.heap->
   s₁.heap.get? fa=some o->o.data=.func (docDef d.name d.params d.body d.scope pm cd doc)->s₁.heap.CodeRec cd d.name->mg d.name=some (.ref fa)->
   s₁.heap.get? a=some { cls:=.type "list",data:=.seq vs.toArray }->IntsAre vs ns->ns.length<=n->s₁.gens=#[]->
   codeAny (model l.prog w) callerA (.call (.ref fa) ⟨[.ref a],[]⟩) (λr s'=>r=.ok (.ret (.bool true))/\OldK s₁.heap s'.heap/\s'.os=s₁.os/\AllBare s'.gens) s₁) :
  WalkO q loose XP YP l.row.toRowW d [] (λf vs=>Ye5 f vs):=by
 intro w s₀ s₁ mg mb G Y fa o pm cd doc dV kV ho hd hcd hD hmg hg args vals as hpre hlay hrd hwl hlo;obtain rfl:dV=.none:=Dflts.none hD hdf;obtain rfl:kV=.none:=Dflts.noKw hD;obtain⟨a,vs,ns,rfl,rfl,hobj,hints,hlen⟩:=jgz hn hpre hwl;refine enter_call (Yd4 (call w s₀ s₁ mg mb fa o pm cd doc a vs ns G Y ho (fd_plain hd) hcd hmg hobj hints hlen hg) λr s' hq=>?_);obtain⟨rfl,h2,h3,h4⟩:=hq;exact⟨.inl ⟨.bool true,.bool true,[],rfl,λ_=>rfl,.bool true,jgE l _,λ_=>⟨Yd1,λ_ hm=>(nomatch hm)⟩⟩,h2,h3,h4⟩

section
variable {prog:Program}{w:World}{A:Around}{E:Value->Shared->Prop}{s:Shared}{K:Frag}

end
end Att

namespace L2
open PySem PySem.Spec PyProof.Rows

theorem jd5:∀{vs:List Value} {ns:List Int},IntsAre vs ns->Vals (ns.map V.int) vs
 |_,_,.nil=>.nil
 |_,_,.cons n t h=>.cons ⟨t,rfl⟩ (jd5 h)



noncomputable def jhc (s:Stmt)(j:Nat):Stmt:=match s with
 |.ClassDef _ _ _ body _ _ _ _ _ _ _=>body.getD j (.Pass ⟨0,0,0,0⟩)
 |_=>.Pass ⟨0,0,0,0⟩
def ja4 (s:Stmt):YfL:=match s with
 |.FunctionDef _ a _ _ _ _ _ _ _ _=>a
 |_=>{ posonlyargs:=[],args:=[],vararg:=none,kwonlyargs:=[],kw_defaults:=[],kwarg:=none,defaults:=[] }
def jap (s:Stmt):List Stmt:=match s with
 |.FunctionDef _ _ b _ _ _ _ _ _ _=>b
 |_=>[]
def jag (s:Stmt):Scope:=match s with
 |.FunctionDef _ _ _ _ _ _ sc _ _ _=>sc
 |_=>{ kind:=.function,names:=[],isGenerator:=false,isCoroutine:=false }

abbrev CX0:CXT:=λ_ _ _ _ _ _=>False
abbrev E0:XK:=λ_ _ _=>False
structure Fun (K:Yab)(x qual:Str)(st:Stmt)(f:Addr)(fd:Ybn):Prop where
 ex:∃(oc:Value) (od:Option Addr) (kV doc pm:Value) (an:Option Addr) (cdv ct:Value) (osl:Array (Option Value)),
  fd=YbA x qual (ja4 st) (jap st) (jag st) .none kV doc pm an cdv ct/\K.lookup f=some ⟨oc,od,.func fd,osl⟩/\Yct K cdv qual=true
 kp:YbN K (.ref f)=true
section
variable {P:Program}{w:World}{K:Yab}{mg:Str->Option Value}{base:Heap}
section
variable {x qual:Str}{st:Stmt}{f:Addr}
theorem Fun.binds {fd:Ybn}{ps:List Str}(F:Fun K x qual st f fd)
  (h:∀(kV doc pm:Value) (an:Option Addr) (cdv ct:Value) (us:List Value),us.length=ps.length->bindArgs (YbA x qual (ja4 st) (jap st) (jag st) .none kV doc pm an cdv ct) ⟨us,[]⟩=pure (ps.zip us)):Binds K fd ps []:=by
 obtain⟨oc,od,kV,doc,pm,an,cdv,ct,osl,rfl,lk,hcd⟩:=F.ex;exact .all (h kV doc pm an cdv ct)
theorem ji2 {oc:Value}{od an:Option Addr}{osl:Array (Option Value)}{kV doc pm cdv ct:Value}(l:K.lookup f=some ⟨oc,od,.func (YbA x qual (ja4 st) (jap st) (jag st) .none kV doc pm an cdv ct),osl⟩)
  (c:Yct K cdv qual=true) (k:YbN K (.ref f)=true):Fun K x qual st f (YbA x qual (ja4 st) (jap st) (jag st) .none kV doc pm an cdv ct):=⟨⟨oc,od,kV,doc,pm,an,cdv,ct,osl,rfl,l,c⟩,k⟩
end
end
theorem joK {A:Around}{k:Nat}(hr:Room k A):A.units+1<cLine:=YaL (Ye9 (by decide:1<=64) _) hr.units
section
variable {X:Cx}
end

def Same (H H':Hp):Prop:=∀b o,H b=some o->H' b=some o
section
variable {X:Cx}
theorem jhA:ja5 X (.builtin "len") (λxs H Q=>∃a kvs,xs=[V.ref a]/\H a=some (.dK kvs)/\Q (.int kvs.length) H):=by
 intro pins s σ H xs us Q I r h;obtain⟨a,kvs,rfl,ha,q⟩:=h;obtain⟨u,rfl,ru⟩:=jcO r;cases ru;exact joU I (.inl ha) λt s' I'=>⟨.int kvs.length,H,I',⟨t,rfl⟩,q⟩
end
section
variable {κ:Type}[DecidableEq κ]
end
end L2

namespace L2
open PySem PySem.Spec PyProof.Rows

section
variable {prog:Program}{w:World}{A:Around}{R:Result->Shared->Prop}{s:Shared}
noncomputable def jeS (env:Env)(ifs:List Expr):Sem Bool:=forIn ifs true λc r=>ite (r=true) (isTrue c env (eval c env) >>= λb=>pure (.yield b)) (pure (.yield r))
noncomputable def jcX (ip:Pos)(tg:Expr)(ifs:List Expr)(it:Value)(env:Env)(em:Sem Unit)(next:Code):Sem Fin:=
 standAt ip >>= λ_=>pyNext it >>= λr=>match r with
  |none=>pure (.done .next)
  |some v=>Ycz tg it v >>= λ_=>assign tg env v >>= λ_=>jeS env ifs >>= λok=>ite (ok=true) (em >>= λ_=>again next) (again next)
def jjq (M:Model)(A:Around)(tg:Expr)(ifs:List Expr)(it:Value)(env:Env)(em:Sem Unit)(fin:Shared->Prop)(less:Shared->Prop):Option Value->Shared->Prop
 |none,s=>fin s
 |some v,s=>wpAny M A (Ycz tg it v) (λ_ s=>wpAny M A (assign tg env v) (λ_ s=>wpAny M A (jeS env ifs) (λok s=>if ok=true then wpAny M A em (λ_ s=>less s) (λ_ _=>False) s else less s) (λ_ _=>False) s) (λ_ _=>False) s) (λ_ _=>False) s
theorem jeD {elt:Expr}{gens:List YbB}{scope:Scope}{pos:Pos}{dp:Nat}{target:Expr}{ip:Pos}{ifs:List Expr}{it acc:Value}{env:Env}{em:Sem Unit}(I:Nat->Shared->Prop)
  (hct:Yec (.ListComp elt gens scope pos) dp it acc env=jcX ip target ifs it env em (.compLoop (.ListComp elt gens scope pos) dp it acc env))
  (turn:∀k t,I k t->wpAny (model prog w) A (pyNext it) (jjq (model prog w) A target ifs it env em (R (.ok .next)) λt=>∃m,m<k/\I m t) (λ_ _=>False) t)
  (n:Nat) (h:I n s):codeAny (model prog w) A (.compLoop (.ListComp elt gens scope pos) dp it acc env) R s:=by
 have no:∀{Z:Value->Shared->Prop} (e:Value) (t:Shared),False->Z e t:=λ_ _ f=>f.elim;refine codeAny_loop rfl I (λk t hk=>wpAny_noted (m:=Yec (.ListComp elt gens scope pos) dp it acc env) (hct ▸ ?_)) n h;refine Yaf (YcY (Yaf (Ybh (turn k t hk) (λr t1 p=>?_) no)))
 match r,p with
 |none,p=>exact Yap p
 |some v,p=>
  refine Yaf (Ybh p (λ_ t2 p=>Yaf (Ybh p (λ_ t3 p=>Yaf (Ybh p (λok t4 p=>?_) no)) no)) no)
  match ok,p with
  |false,p=>exact Yap ⟨rfl,p⟩
  |true,p=>exact Yaf (Ybh p (λ_ t5 p=>Yap ⟨rfl,p⟩) no)
end

theorem jbp (env:Env):∀(names:List (Str×Ybu)) (acc:List (Str×Addr)),(∀y∈names,y.2=.free->∃c,env.cells.lookup y.1=some c)->
  ∃cl:List (Str×Addr),(forIn names acc (λ(y:Str×Ybu) (cs:List (Str×Addr))=>(if (y.2==YaI)=true then (do let c <- cellOf env y.1;pure (ForInStep.yield ((y.1,c)::cs))) else pure (ForInStep.yield cs):Sem (ForInStep (List (Str×Addr))))):Sem (List (Str×Addr)))=pure cl/\
   (∀x c,(x,c)∈cl->(x,c)∈acc\/(env.cells.lookup x=some c/\(x,YaI)∈names))/\(∀p∈acc,p∈cl)/\(∀y∈names,y.2=.free->∃c,(y.1,c)∈cl)
 |[],acc,_=>⟨acc,rfl,λ_ _ h=>.inl h,λ_ h=>h,λ_ h=>nomatch h⟩
 |(n,k)::r,acc,h=>by
  by_cases hk:k=.free
  ·subst hk;obtain⟨c,hc⟩:=h (n,.free) Yat rfl;obtain⟨cl,e,h1,h2,h3⟩:=jbp env r ((n,c)::acc) λy hy=>h y (Yaj _ hy);refine⟨cl,?_,λx d hd=>?_,λp hp=>h2 p (Yaj _ hp),λy hy hf=>?_⟩
   ·rw[List.forIn_cons];have:(cellOf env n:Sem Addr)=pure c:=by unfold cellOf;rw[hc]
    simp only[beq_self_eq_true,if_true,this,pure_bind];exact e
   ·rcases h1 x d hd with z|⟨z,z'⟩
    ·rcases YaO.mp z with z|z
     ·cases z;exact .inr ⟨hc,Yat⟩
     ·exact .inl z
    ·exact .inr ⟨z,Yaj _ z'⟩
   ·rcases YaO.mp hy with z|z
    ·subst z;exact⟨c,h2 _ Yat⟩
    ·exact h3 y z hf
  ·obtain⟨cl,e,h1,h2,h3⟩:=jbp env r acc λy hy=>h y (Yaj _ hy);have hb:(k==YaI)=false:=by simpa using hk
   refine⟨cl,?_,λx d hd=>?_,h2,λy hy hf=>?_⟩
   ·rw[List.forIn_cons];simp only[hb,Ybo,if_false,pure_bind];exact e
   ·rcases h1 x d hd with z|⟨z,z'⟩
    ·exact .inl z
    ·exact .inr ⟨z,Yaj _ z'⟩
   ·rcases YaO.mp hy with z|z
    ·subst z;exact absurd hf hk
    ·exact h3 y z hf
theorem jbV {β:Type}:∀{l:List (Str×β)} {x:Str} {c:β},(x,c)∈l->∃d,l.lookup x=some d/\(x,d)∈l
 |(n,k)::r,x,c,h=>by
  cases hx:x==n with
  |true=>
   refine⟨k,by simp only[Ya7,hx],?_⟩
   rw[eq_of_beq hx];exact Yat
  |false=>
   rcases YaO.mp h with z|z
   ·cases z;simp at hx
   ·obtain⟨d,e,m⟩:=jbV z;exact⟨d,by simp only[Ya7,hx];exact e,Yaj _ m⟩
theorem jdH {scope:Scope}{env:Env}(h:∀y∈scope.names,y.2=.free->∃c,env.cells.lookup y.1=some c) :
  ∃cl:List (Str×Addr),closureFor scope env=pure cl/\(∀x c,cl.lookup x=some c->env.cells.lookup x=some c)/\(∀y∈scope.names,y.2=.free->∃c,cl.lookup y.1=some c):=by
 obtain⟨cl,e,h1,_,h3⟩:=jbp env scope.names [] h;refine⟨cl,?_,λx c hx=>?_,λy hy hf=>?_⟩
 ·unfold closureFor;rw[<- e];simp only[bind_pure]
 ·rcases h1 x c (YaA hx)with z|⟨z,_⟩
  ·exact nomatch z
  ·exact z
 ·obtain⟨c,hc⟩:=h3 y hy hf;obtain⟨d,e,_⟩:=jbV hc;exact⟨d,e⟩

noncomputable def jam (X:Cx)(N:List Str)(scope:Scope)(cl:List (Str×Addr))(C:Addr)(s₀:Shared)(H₀:Hp)(fp:List Addr):Cx where
 prog:=X.prog
 w:=X.w
 K:=X.K
 mg:=X.mg
 base:=X.base
 A:=X.A
 N:=N
 s₀:=s₀
 H₀:=H₀
 env:=compEnvC scope cl C X.env
 outer:=X.stack
 stack:=X.stack
 ex:=fp
 fn:=λx=>scope.names.lookup x==some .cell
 calm:=X.calm
 pn:=[]
 xe:=λ_ _=>False

noncomputable def cOk (oN:List Str)(on:List (Str×Ybu))(N:List Str)(pick:List (Option Nat))(scope:Scope):Bool:=
 decide (scope.kind=.function)&&scope.names.all (λy=>y.2 != .cell||scope.names.lookup y.1==some .cell)&&scope.names.all (λy=>y.2 != .local||scope.names.lookup y.1==some .local)
  && scope.names.all (λy=>y.2 != .free||(scope.names.lookup y.1==some .free&&(on.lookup y.1==some .cell||on.lookup y.1==some .free)))
  && pick.length==N.length&&(N.zip pick).all (λp=>match p.2 with|none=>true|some j=>oN[j]?==some p.1&&scope.names.lookup p.1==some .free)

structure CScope (X:Cx)(N:List Str)(pick:List (Option Nat))(scope:Scope):Prop where
 kind:scope.kind=.function
 cells:∀y∈scope.names,y.2=.cell->scope.names.lookup y.1=some .cell
 names:∀y∈scope.names,y.2=.local->scope.names.lookup y.1=some .local
 fre:∀y∈scope.names,y.2=.free->scope.names.lookup y.1=some .free/\(X.env.kindOf y.1=some .cell\/X.env.kindOf y.1=some .free)
 len:pick.length=N.length
 caps:∀(i j:Nat) (x:Str),N[i]?=some x->pick[i]?=some (some j)->X.N[j]?=some x/\scope.names.lookup x=some .free
theorem jcw (f:Str->Ybu->Ybu):∀(names:List (Str×Ybu)) (x:Str),(names.map λy=>(y.1,f y.1 y.2)).lookup x=(names.lookup x).map (f x)
 |[],_=>rfl
 |(n,k)::r,x=>by
  rw[YaB,Ya7,Ya7,jcw f r x];by_cases e:x=n
  ·subst e;rw[beq_self_eq_true];rfl
  ·rw[beq_false_of_ne e]
noncomputable def jiV (env:Env)(n:Str)(k:Ybu):Ybu:=if (k==YaI&&env.scope.kind == .function&&env.kindOf n==some .cell) then .cell else k
theorem jbM (env:Env)(names:List (Str×Ybu))(x:Str) :
  (names.map λ(n,k)=>if (k==YaI&&env.scope.kind == .function&&env.kindOf n==some .cell) then (n,YaH) else (n,k)).lookup x=(names.lookup x).map (jiV env x):=by
 rw[<- jcw (jiV env)];congr 2;funext y;show ite _ _ _=(y.1,ite _ _ _);split<;>rfl
theorem jaT {env:Env}{names:List (Str×Ybu)}{x:Str}(h:names.lookup x=some .free) :
  (names.map λ(n,k)=>if (k==YaI&&env.scope.kind == .function&&env.kindOf n==some .cell) then (n,YaH) else (n,k)).lookup x=some .cell\/
  (names.map λ(n,k)=>if (k==YaI&&env.scope.kind == .function&&env.kindOf n==some .cell) then (n,YaH) else (n,k)).lookup x=some .free:=by
 rw[jbM,h];show some (ite _ _ _)=_\/some (ite _ _ _)=_;split
 ·exact .inl rfl
 ·exact .inr rfl
theorem jau {env:Env}{q:Ybu}(hq:q≠.free){names:List (Str×Ybu)}{x:Str}(h:names.lookup x=some q) :
  (names.map λ(n,k)=>if (k==YaI&&env.scope.kind == .function&&env.kindOf n==some .cell) then (n,YaH) else (n,k)).lookup x=some q:=by
 rw[jbM,h];show some (ite _ _ _)=_;rw[beq_false_of_ne hq];rfl
theorem jbh {env:Env}:∀{names:List (Str×Ybu)} {x:Str},
  ((names.map λ(n,k)=>if (k==YaI&&env.scope.kind == .function&&env.kindOf n==some .cell) then (n,YaH) else (n,k)).lookup x=some .cell\/
  (names.map λ(n,k)=>if (k==YaI&&env.scope.kind == .function&&env.kindOf n==some .cell) then (n,YaH) else (n,k)).lookup x=some .free)->(x,YaI)∈names\/(x,YaH)∈names
 |[],_,h=>by simp at h
 |(n,k)::r,x,h=>by
  have ih:_->_:=@jbh env r x;have h':YdQ x ((if (k==YaI&&env.scope.kind == .function&&env.kindOf n==some .cell)=true then (n,YaH) else (n,k))::r.map λ(n,k)=>if (k==YaI&&env.scope.kind == .function&&env.kindOf n==some .cell) then (n,YaH) else (n,k))=some .cell\/YdQ x ((if (k==YaI&&env.scope.kind == .function&&env.kindOf n==some .cell)=true then (n,YaH) else (n,k))::r.map λ(n,k)=>if (k==YaI&&env.scope.kind == .function&&env.kindOf n==some .cell) then (n,YaH) else (n,k))=some .free:=h
  by_cases hk:k=.free
  ·cases hx:x==n with
   |true=>rw[eq_of_beq hx,hk];exact .inl Yat
   |false=>
    refine(ih ?_).imp (Yaj _) (Yaj _);by_cases hcc:(k==YaI&&env.scope.kind == .function&&env.kindOf n==some .cell)=true
    ·rw[if_pos hcc]at h';simpa only[Ya7,hx]using h'
    ·rw[if_neg hcc]at h';simpa only[Ya7,hx]using h'
  ·have hb:(k==YaI)=false:=by simpa using hk
   rw[if_neg (by simp[hb])]at h'
   cases hx:x==n with
   |true=>
    simp only[Ya7,hx]at h';rcases h' with z|z
    ·rw[eq_of_beq hx,Yar z];exact .inr Yat
    ·exact absurd (Yar z) hk
   |false=>exact(ih (by simpa only[Ya7,hx]using h')).imp (Yaj _) (Yaj _)

theorem jaD:∀(names:List (Str×Ybu)) (n:Nat) (acc:List (Str×Addr)),Ybi n names acc=Ybi n names []++acc
 |[],_,_=>rfl
 |(x,k)::r,n,acc=>by
  unfold Ybi;split
  ·rw[jaD r (n+1) ((x,n)::acc),jaD r (n+1) [(x,n)],Ydj];rfl
  ·exact jaD r n acc
theorem jaS:∀(names:List (Str×Ybu)) (n:Nat) {x:Str} {c:Addr},(x,c)∈Ybi n names []->(x,YaH)∈names
 |[],_,_,_,h=>nomatch h
 |(y,k)::r,n,x,c,h=>by
  unfold Ybi at h;split at h
  ·rename_i hk;rw[jaD]at h;rcases List.mem_append.mp h with h|h
   ·exact Yaj _ (jaS r _ h)
   ·have e:(x,c)=(y,n):=by simpa using h
    cases e;rw[eq_of_beq hk];exact Yat
  ·exact Yaj _ (jaS r _ h)
theorem jdx {β:Type}:∀(l m:List (Str×β)) (x:Str),(l++m).lookup x=(l.lookup x).or (m.lookup x)
 |[],_,_=>by simp
 |(n,k)::r,m,x=>by
  rw[YfK,Ya7,Ya7];cases hx:x==n with
  |true=>simp
  |false=>exact jdx r m x
structure BCells (scope:Scope)(cl cs:List (Str×Addr))(lo:Nat)(h:Heap):Prop where
 lk:∀x c,cs.lookup x=some c->((x,YaH)∈scope.names/\lo<c/\h.IsCell c none)\/((x,YaH)∉scope.names/\cl.lookup x=some c)
 own:∀x,scope.names.lookup x=some .cell->∃c,cs.lookup x=some c/\lo<c
 old:∀x c,(x,YaH)∉scope.names->cl.lookup x=some c->cs.lookup x=some c
 inj:∀x y c,cs.lookup x=some c->cs.lookup y=some c->lo<c->x=y
theorem jhE {scope:Scope}{cl:List (Str×Addr)}{h:Heap}{lo:Nat}(hl:h.objs.size=lo+1)(S:∀y∈scope.names,y.2=.cell->scope.names.lookup y.1=some .cell)(hcl:∀x c,cl.lookup x=some c->c<=lo):BCells scope cl (Ybi (lo+1) scope.names cl) lo (Yep h scope.names):=by
 have ok:=cellsFrom_ok scope.names h (lo+1) [] ⟨λ_ _ hm=>(nomatch hm),Yd1⟩ (by omega)
 rw[hl]at ok;have look:∀x,(Ybi (lo+1) scope.names cl).lookup x=((Ybi (lo+1) scope.names []).lookup x).or (cl.lookup x):=λx=>by rw[jaD,jdx]
 have own:∀x,(x,YaH)∈scope.names->∃c,(Ybi (lo+1) scope.names []).lookup x=some c:=λx hx=>jdZ (S _ hx rfl);refine⟨λx c e=>?_,λx hx=>?_,λx c hx hc=>?_,λx y c e1 e2 hc=>?_⟩
 ·rw[look]at e;by_cases hx:(x,YaH)∈scope.names
  ·obtain⟨c',e'⟩:=own x hx;rw[e',YdN]at e;have e:c'=c:=Yar e;subst e;obtain⟨z1,z2⟩:=ok.empty x c' (YaA e');exact .inl ⟨hx,z2,z1⟩
  ·cases q:(Ybi (lo+1) scope.names []).lookup x with
   |some c'=>exact absurd (jaS _ _ (YaA q)) hx
   |none=>rw[q,YdO]at e;exact .inr ⟨hx,e⟩
 ·obtain⟨c,e⟩:=own x (YaA hx);exact⟨c,by rw[look,e,YdN],(ok.empty x c (YaA e)).2⟩
 ·rw[look];cases q:(Ybi (lo+1) scope.names []).lookup x with
  |some c'=>exact absurd (jaS _ _ (YaA q)) hx
  |none=>rw[YdO];exact hc
 ·rw[look]at e1 e2;have new:∀x,((Ybi (lo+1) scope.names []).lookup x).or (cl.lookup x)=some c->(Ybi (lo+1) scope.names []).lookup x=some c:=λx e=>by
   cases q:(Ybi (lo+1) scope.names []).lookup x with
   |some c'=>rw[q,YdN]at e;exact e
   |none=>
    rw[q,YdO]at e;exact absurd (Yau hc (hcl x c e)) (Ybf _)
  exact name_of_addr ok.apart (YaA (new x e1)) (YaA (new y e2))
theorem jbE {M:Model}{A:Around}{E:Value->Shared->Prop}{s:Shared}{scope:Scope}{globals:Addr}{cl:List (Str×Addr)}{qual:Str}{env:Env}{Q:Env->Shared->Prop}
  (hQ:Q (newEnv scope s.heap.objs.size globals (Ybi (s.heap.objs.size+1) scope.names cl) qual none .none (some env) Ydd) { s with heap:=Yep (s.heap.push { cls:=.type "dict",data:=.dict #[] }) scope.names }) :
  wpAny M A (Yey scope globals cl [] qual none .none (some env)) Q E s:=by
 have sz:(s.heap.push { cls:=.type "dict",data:=.dict #[] }).objs.size=s.heap.objs.size+1:=Ycy ..;unfold Yey;rw[if_pos (by rfl)]
 refine Yaf (wpAny_alloc (Yaf (wpAny_layCells _ (λx k c=>by by_cases e:(k==YaH)=true<;>simp[e]) _ _ _ _ ?_)))
 rw[show Heap.objs (Shared.heap _)=(s.heap.push { cls:=.type "dict",data:=.dict #[] }).objs from rfl,sz];exact Yaf (Yap (Yap hQ))

section
variable {X:Cx}{N:List Str}{scope:Scope}{cl:List (Str×Addr)}{C:Addr}{s₀:Shared}{H₀:Hp}{fp:List Addr}
theorem glc {x:Str}(h:scope.names.lookup x=some .globalImplicit):Gl (jam X N scope cl C s₀ H₀ fp) x:=jau (by decide) h
end

def PIfs (X:Cx)(ifs:List Expr)(t:TT):Prop:=
 ∀(pins:List (Addr×Obj)) (s:Shared) (σ:St) (H:Hp) (Q:Bool->Hp->Prop),Inv X pins σ H s->t σ H Q->
  wpAny (model X.prog X.w) X.A (jeS X.env ifs) (TP X pins σ Q) X.xe s
def jnY:TT:=λ_ H Q=>Q true H
theorem jjP {X:Cx}:PIfs X [] jnY:=λ_ _ _ H _ I h=>wpAny_tests_nil ⟨H,I,h⟩
theorem jjO {X:Cx}{c:Expr}{t:TT}(h:PT X c t):PIfs X [c] t:=λpins s σ H Q I q=>wpAny_tests_one (h pins s σ H Q I q)

abbrev TEm:=St->List V->Hp->(St->List V->Hp->Prop)->Prop
def jhH (J:It)(g:TG)(tt:TT)(tem:TEm)(QQ:St->List V->Hp->Prop)(τ0:St)(ys0:List V)(H1:Hp):Prop:=∃W:Nat->Nat->St->List V->Hp->Prop,
 (∃m,W 0 m τ0 ys0 H1)/\∀i m τ ys H,W i m τ ys H->
  (J.stop i H/\QQ τ ys H)\/(J.go i H/\∀x H',J.yld i H x H'->g x τ H' λτ2 H2=>tt τ2 H2 λb H3=>if b=true then tem τ2 ys H3 λτ3 ys' H4=>∃m',m'<m/\W (i+1) m' τ3 ys' H4
   else ∃m',m'<m/\W (i+1) m' τ2 ys H3)
def emA (te:TE)(D:Addr):TEm:=λτ ys H Q=>te τ H λv H4=>H4 D=some (.lst ys)/\ys.length<Yah/\Q τ (ys++[v]) (upd H4 D (.lst (ys++[v])))
def LcGG (J:It)(g:TG)(tt:TT)(tem:Addr->TEm)(D:Addr)(τ0:St)(Q:VK)(H1:Hp):Prop:=jhH J g tt (tem D) (λ_ _ H=>Q (.ref D) H) τ0 [] (upd H1 D (.lst []))
def PEm (Y:Cx)(em:Sem Unit)(tem:TEm):Prop:=∀(pins:List (Addr×Obj)) (s:Shared) (τ:St) (ys:List V) (H:Hp) (Q:St->List V->Hp->Prop),Inv Y pins τ H s->tem τ ys H Q->
 wpAny (model Y.prog Y.w) Y.A em (λ_ s'=>∃τ' ys' H',Inv Y pins τ' H' s'/\Q τ' ys' H') Y.xe s
def tLcG (pick:List (Option Nat))(wi:TI)(g:TG)(tt:TT)(tem:Addr->TEm):TE:=λσ H Q=>wi σ H λJ H1=>∀D,H1 D=none->LcGG J g tt tem D (pick.map λo=>o.bind λj=>(σ[j]?).join) Q H1
abbrev tLc (pick:List (Option Nat))(wi:TI)(g:TG)(tt:TT)(te:TE):TE:=tLcG pick wi g tt (emA te)
section
variable {X:Cx}{N:List Str}{pick:List (Option Nat)}{scope:Scope}{pins:List (Addr×Obj)}{σ:St}{s s3:Shared}{H H3:Hp}

theorem jgi {cl cs:List (Str×Addr)}{fp:List Addr}{h₁:Heap}{tk:Nat}{mB:Str->Option Value}(S:CScope X N pick scope)(I3:Inv X pins σ H3 s3)(hf:∀b∈fp,FpOk X pins H3 b)(hlt:∀b∈fp,b<s3.heap.objs.size)
  (c1:∀x c,cl.lookup x=some c->X.env.cells.lookup x=some c) (c2:∀y∈scope.names,y.2=.free->∃c,cl.lookup y.1=some c) (B:BCells scope cl cs s3.heap.objs.size h₁)
  (hns:h₁.Ns s3.heap.objs.size mB) (hk:∀b o,s3.heap.get? b=some o->h₁.get? b=some o) :
  Inv (jam X N scope cs s3.heap.objs.size s3 H3 fp) [] (pick.map λo=>o.bind λj=>(σ[j]?).join) H3 { s3 with heap:=h₁,toks:=tk }:=by
 have fsub:∀b∈frs X.stack,b∈X.env.locals::X.fs:=I3.stkSub;have oc:∀x c,cs.lookup x=some c->X.env.cells.lookup x=some c\/s3.heap.objs.size<c:=λx c e=>by
  rcases B.lk x c e with⟨_,z,_⟩|⟨_,z⟩
  ·exact .inr z
  ·exact .inl (c1 x c z)
 have has:∀x,((x,YaI)∈scope.names\/(x,YaH)∈scope.names)->∃c,cs.lookup x=some c:=λx hx=>by
  by_cases hc:(x,YaH)∈scope.names
  ·obtain⟨c,e,_⟩:=B.own x (S.cells _ hc rfl);exact⟨c,e⟩
  ·rcases hx with hx|hx
   ·obtain⟨c,e⟩:=c2 _ hx rfl;exact⟨c,B.old x c hc e⟩
   ·exact absurd hx hc
 refine⟨⟨I3.ok.mod,S.kind,I3.ok.glob,I3.ok.blt,Yag _,λx y c e1 e2=>?_,λx hx=>has x (jbh hx),λx c z e=>?_,I3.ok.hd,I3.ok.frames,.inl rfl,λb hb=>⟨Yax (hlt b hb),λx c e=>?_⟩,
   I3.bs,Yal I3.ok.bsz I3.sz,λb o e hb=>?_,λb hb hm=>?_,I3.stack,I3.stkFree⟩,
  rfl,I3.bare,Un.kept hk,⟨_,hns,λi x v e1 e2 e3=>?_⟩,λx c e=>?_,I3.hok.fresh (Yag _),λx c e=>?_,λp hp=>absurd (show p∈([]:List (Addr×Obj))from hp) (by simp),I3.hok.kept hk,?_⟩
 ·by_cases hc:s3.heap.objs.size<c
  ·exact B.inj x y c e1 e2 hc
  ·exact I3.ok.inj x y c ((oc x c e1).resolve_right hc) ((oc y c e2).resolve_right hc)
 ·have z':scope.names.lookup x=some .cell:=eq_of_beq z;rcases B.lk x c e with⟨_,y,_⟩|⟨y,_⟩
  ·exact Yb0 y
  ·exact absurd (YaA z') y
 ·rcases oc x c e with z|z
  ·exact(hf b hb).2.2.2.2.1 x c z
  ·intro q;rw[q]at z;exact absurd (Ydw z (hlt b hb)) (Ybf _)
 ·rcases(hf b hb).2.2.2.1 with z|z
  ·exact I3.ok.noex b o e z
  ·exact absurd (Yau (Yao e) (Yal I3.ok.bsz z)) (Ybf _)
 ·rcases YaO.mp (fsub b hm)with z|z
  ·exact(hf b hb).2.1 z
  ·exact(hf b hb).2.2.1 z
 ·-- a captured name
  have e2':∃j,pick[i]?=some (some j)/\σ[j]?=some (some v):=by
   rw[Yan]at e2;cases q:pick[i]? with
   |none=>rw[q]at e2;cases e2
   |some o=>
    rw[q]at e2;cases o with
    |none=>simp at e2
    |some j=>
     simp at e2;refine⟨j,rfl,?_⟩;cases q2:σ[j]? with
     |none=>rw[q2]at e2;cases e2
     |some w'=>rw[q2]at e2;simp at e2;rw[e2]
  obtain⟨j,ej,ev⟩:=e2';obtain⟨hN,hfr⟩:=S.caps i j x e1 ej;have hmem:(x,YaI)∈scope.names:=YaA hfr;have hnc:(x,YaH)∉scope.names:=λz=>by
   have:=S.cells _ z rfl;rw[hfr]at this;cases this
  obtain⟨_,hkind⟩:=S.fre _ hmem rfl;obtain⟨m,hn,hl⟩:=I3.loc;obtain⟨u,r,l⟩:=hl j x v hN ev (hkind.elim (λz=>.inr (.inl z)) λz=>.inr (.inr z));refine⟨u,r,.inr ⟨?_,?_⟩⟩
  ·exact jaT (env:=X.env) hfr
  ·obtain⟨c,hc⟩:=c2 _ hmem rfl;have hc':=c1 _ _ hc;rcases l with⟨z,_⟩|⟨_,c',e,o,ho,hd⟩
   ·rcases hkind with y|y
    ·rw[y]at z;cases z
    ·rw[y]at z;cases z
   ·have:c'=c:=by rw[hc']at e;exact(Yar e).symm
    subst this;exact⟨c',B.old x c' hnc hc,o,hk _ _ ho,hd⟩
 ·rcases B.lk x c e with⟨_,_,z⟩|⟨_,z⟩
  ·exact⟨none,z⟩
  ·obtain⟨v,o,ho,hd⟩:=I3.cell x c (c1 x c z);exact⟨v,o,hk _ _ ho,hd⟩
 ·rcases oc x c e with z|z
  ·exact I3.freeC x c z
  ·exact I3.hok.fresh (Yb0 z)
 ·rw[Yac];exact S.len

theorem jiw {cl:List (Str×Addr)}{fp:List Addr}{C:Addr}{τ:St}{H':Hp}{s':Shared}{pins':List (Addr×Obj)}(I3:Inv X pins σ H3 s3)(hf:∀b∈fp,FpOk X pins H3 b)(J:Inv (jam X N scope cl C s3 H3 fp) pins' τ H' s') :
  Inv X pins σ H' s':=I3.call' J.os J.base J.hok J.bare λb hb=>⟨(hf b hb).2.2.2.1,(hf b hb).2.1,(hf b hb).2.2.2.2.1,(hf b hb).2.2.2.2.2⟩

theorem jkm {Y:Cx}{elt tg:Expr}{gens:List YbB}{pos ip:Pos}{ifs:List Expr}{dp:Nat}{acc:Value}{em:Sem Unit}{g:TG}{tt:TT}{tem:TEm}{J:It}{fp:List Addr}{it:Addr}{tn:Nat->Heap->Prop}{QQ:St->List V->Hp->Prop}{τ0:St}{ys0:List V}
  (yc:Y.calm=true) (yxe:Y.xe=λ_ _=>False)
  (hct:Yec (.ListComp elt gens scope pos) dp (.ref it) acc Y.env=jcX ip tg ifs (.ref it) Y.env em (.compLoop (.ListComp elt gens scope pos) dp (.ref it) acc Y.env))
  (yg:PG Y tg g) (yi:PIfs Y ifs tt) (ym:PEm Y em tem) (J0:Inv Y pins τ0 H s) (T:Turn Y.prog Y.w Y.K tg J fp it tn) (t0:tn 0 s.heap) (f0:∀b∈fp,FpOk Y pins H b) (hW:jhH J g tt tem QQ τ0 ys0 H) :
  codeAny (model Y.prog Y.w) Y.A (.compLoop (.ListComp elt gens scope pos) dp (.ref it) acc Y.env) (λr s'=>r=.ok .next/\∃τ' ys' H',Inv Y pins τ' H' s'/\QQ τ' ys' H') s:=by
 obtain⟨W,⟨m0,w0⟩,turn⟩:=hW;have stat:∀{H':Hp},(∀b∈fp,H' b=none)->∀b∈fp,FpOk Y pins H' b:=λhn b hb=>⟨hn b hb,(f0 b hb).2⟩;refine jeD (λn s'=>∃i τ ys H',Inv Y pins τ H' s'/\tn i s'.heap/\(∀b∈fp,H' b=none)/\W i n τ ys H') hct ?_ m0 ⟨0,_,ys0,_,J0,t0,λb hb=>(f0 b hb).1,w0⟩;rintro n s4 ⟨i,τ,ys,H4,J4,t4,fr4,w4⟩;rcases turn i n τ ys H4 w4 with⟨stop,q⟩|⟨go,step⟩
 ·refine Ybh (T.done Y rfl rfl rfl yc i pins s4 τ H4 (λ_ _=>False) J4 (stat fr4) t4 stop) (λr s5 ⟨hr,J5⟩=>?_) λ_ _ f=>f;subst hr;exact⟨rfl,τ,ys,H4,J5,q⟩
 ·refine Ybh (T.item Y rfl rfl rfl yc i pins s4 τ H4 (λ_ _=>False) J4 (stat fr4) t4 go) (λr s5 ⟨u,hr,h5⟩=>?_) λ_ _ f=>f;subst hr;refine Ybh h5 (λ_ s6 ⟨x,H6,J6,r6,y6,t6,fr6⟩=>?_) λ_ _ f=>f;have J6':=J6.pinned (stat fr6) (T.obj _ _ t6);have ag:=yg _ s6 τ H6 x u _ J6' r6 (step x H6 y6);rw[yxe]at ag;refine Ybh ag (λ_ s7 ⟨τ7,H7,J7,q7⟩=>?_) λ_ _ f=>f;have ai:=yi _ s7 τ7 H7 _ J7 q7;rw[yxe]at ai;refine Ybh ai (λok s8 ⟨H8,J8,q8⟩=>?_) λ_ _ f=>f;have again:∀{τ9:St} {H9:Hp} {s9:Shared} {zs:List V},Inv Y (pins++jee fp s6.heap) τ9 H9 s9->(∃m',m'<n/\W (i+1) m' τ9 zs H9)->∃m,m<n/\∃i τ ys H',Inv Y pins τ H' s9/\tn i s9.heap/\(∀b∈fp,H' b=none)/\W i m τ ys H':=λ{τ9 H9 s9 zs} J9 ⟨m',hm,w9⟩=>by
   refine⟨m',hm,i+1,τ9,zs,H9,J9.unpinned,T.keep _ _ _ t6 λb hb o e=>(J9.pin (b,o) (Yas _ (Yas _ (jbr hb e)))).1,λb hb=>?_,w9⟩;obtain⟨o,e,d⟩:=T.obj _ _ t6 b hb;exact(J9.pin (b,o) (Yas _ (Yas _ (jbr hb e)))).2.1
  cases ok with
  |false=>exact again J8 q8
  |true=>
   have am:=ym _ s8 τ7 ys H8 _ J8 q8;rw[yxe]at am;exact Ybh am (λ_ s9 ⟨τ9,zs,H9,J9,q9⟩=>again J9 q9) λ_ _ f=>f
theorem ji7 {Y:Cx}{elt:Expr}{te:TE}{D:Addr}(yxe:Y.xe=λ_ _=>False)(he:PE Y elt te):PEm Y (do let _ <- call (.builtin "list.append") [.ref D,<- eval elt Y.env]) (emA te D):=by
 intro pins s τ ys H Q J q;have ae:=he _ s τ H _ J q;refine Yaf (Ybh ae (λv s9 ⟨z,H9,J9,r9,hD9,hz9,q9⟩=>?_) λ_ _ f=>f);have aa:=jek (X:=Y) _ s9 τ H9 (.ref D) [z] (.ref D) [v] (λx H'=>H'=upd H9 D (.lst (ys++[z]))) J9 rfl (.cons r9 .nil) ⟨_,ys,z,rfl,rfl,hD9,hz9,rfl⟩;refine Yaf (Ybh aa (λ_ s10 ⟨_,H10,J10,_,e10⟩=>?_) λ_ _ f=>f);subst e10;exact Yap ⟨τ,_,_,J10,q9⟩
section
variable {tg iter elt:Expr}{ifs:List Expr}
theorem jfB {rest:List YbB}{pos:Pos}{g:TG}{tt:TT}{tem:Addr->TEm}{em:Addr->Env->Sem Unit}{J:It}{fp:List Addr}{it:Addr}{tn:Nat->Heap->Prop}{cl:List (Str×Addr)}{Q:VK}{E:Value->Shared->Prop}{RR:Value->Addr->Result->Shared->Prop}
  (hc:X.calm=true) (S:CScope X N pick scope) (c1:∀x c,cl.lookup x=some c->X.env.cells.lookup x=some c) (c2:∀y∈scope.names,y.2=.free->∃c,cl.lookup y.1=some c)
  (hg:∀cl C s₀ H₀ fp,PG (jam X N scope cl C s₀ H₀ fp) tg g) (hi:∀cl C s₀ H₀ fp,PIfs (jam X N scope cl C s₀ H₀ fp) ifs tt) (he:∀D cl C s₀ H₀ fp,PEm (jam X N scope cl C s₀ H₀ fp) (em D (jam X N scope cl C s₀ H₀ fp).env) (tem D))
  (hct:∀(it:Value) (D:Addr) (env:Env),Yec (.ListComp elt (⟨tg,iter,ifs,0⟩::rest) scope pos) 0 it (.ref D) env=jcX iter.pos tg ifs it env (em D env) (.compLoop (.ListComp elt (⟨tg,iter,ifs,0⟩::rest) scope pos) 0 it (.ref D) env))
  (I2:Inv X pins σ H s) (T:Turn X.prog X.w X.K tg J fp it tn) (st:tn 0 s.heap) (hf:∀b∈fp,FpOk X pins H b)
  (hW:∀D,H D=none->LcGG J g tt tem D (pick.map λo=>o.bind λj=>(σ[j]?).join) Q H)
  (hRR:∀D C H' s',Inv X pins σ H' s'->(∃m,s'.heap.Ns C m)->FpOk X pins H' C->Q (.ref D) H'->RR (.ref D) C (.ok .next) s') :
  wpAny (model X.prog X.w) X.A (newList []) (λacc s₃=>wpAny (model X.prog X.w) X.A (Yey scope X.env.globals cl [] X.env.qual none .none (some X.env)) (λcenv s₄=>
   codeAny (model X.prog X.w) X.A (.compStart (.ListComp elt (⟨tg,iter,ifs,0⟩::rest) scope pos) 0 (.ref it) acc { cenv with scope:=relabel scope X.env }) (RR acc cenv.locals) s₄) E s₃) E s:=by
 have hD:H s.heap.objs.size=none:=I2.hok.fresh (Yag _);have hlt:∀b∈fp,b<s.heap.objs.size:=λb hb=>let ⟨o,e,_⟩:=T.obj _ _ st b hb;Yao e
 refine Ya3 (jbE ?_);have I3:Inv X pins σ (upd H s.heap.objs.size (.lst [])) { s with heap:=s.heap.push { cls:=.type "list",dict:=none,data:=.seq ([]:List Value).toArray } }:=
  I2.laid (t':=s.toks) (λb u e=>Yad _ e) (Yag _) ⟨Ybj _,[],0,.nil,Yaq _ rfl⟩
 generalize hs3:({ s with heap:=s.heap.push { cls:=.type "list",dict:=none,data:=.seq ([]:List Value).toArray } }:Shared)=s3 at I3 ⊢
 have hsz:s3.heap.objs.size=s.heap.objs.size+1:=by rw[<- hs3];exact Ycy ..
 have hf3:∀b∈fp,FpOk X pins (upd H s.heap.objs.size (.lst [])) b:=λb hb=>⟨by rw[jac (Yax (hlt b hb))];exact(hf b hb).1,(hf b hb).2⟩
 have hsz':(s3.heap.push { cls:=.type "dict",data:=.dict #[] }).objs.size=s3.heap.objs.size+1:=Ycy ..;have hk:∀b o,s3.heap.get? b=some o->(Yep (s3.heap.push { cls:=.type "dict",data:=.dict #[] }) scope.names).get? b=some o:=λb o e=>pushCells_keeps _ _ b o (Yad _ e);have hns₁:(Yep (s3.heap.push { cls:=.type "dict",data:=.dict #[] }) scope.names).Ns s3.heap.objs.size λ_=>none:=(Heap.Ns.new s3.heap (.type "dict")).keeps (pushCells_keeps _ _);have B:=jhE (cl:=cl) hsz' S.cells λx c e=>by
  obtain⟨v,z⟩:=I3.cell x c (c1 x c e);exact Yb0 z.lt
 generalize Yep (s3.heap.push { cls:=.type "dict",data:=.dict #[] }) scope.names=h₁ at hk hns₁ B ⊢;generalize Ybi (s3.heap.objs.size+1) scope.names cl=cs at B ⊢;have c1':∀x c,cs.lookup x=some c->X.env.cells.lookup x=some c\/s3.heap.objs.size<c:=λx c e=>by
  rcases B.lk x c e with⟨_,z,_⟩|⟨_,z⟩
  ·exact .inr z
  ·exact .inl (c1 x c z)
 have st1:tn 0 h₁:=T.keep _ _ _ st λb _ o e=>hk b o (by rw[<- hs3];exact Yad _ e)
 have IY:Inv (jam X N scope cs s3.heap.objs.size s3 (upd H s.heap.objs.size (.lst [])) fp) [] (pick.map λo=>o.bind λj=>(σ[j]?).join) (upd H s.heap.objs.size (.lst [])) { s3 with heap:=h₁ }:=
  jgi (tk:=s3.toks) S I3 hf3 (λb hb=>Yau (hlt b hb) (by omega)) c1 c2 B hns₁ hk
 generalize hY:jam X N scope cs s3.heap.objs.size s3 (upd H s.heap.objs.size (.lst [])) fp=Y at IY;have yg:PG Y tg g:=hY ▸ hg _ _ _ _ _;have yi:PIfs Y ifs tt:=hY ▸ hi _ _ _ _ _;have ye:PEm Y (em s.heap.objs.size Y.env) (tem s.heap.objs.size):=hY ▸ he _ _ _ _ _ _;have yprog:Y.prog=X.prog:=by rw[<- hY];rfl
 have yw:Y.w=X.w:=by rw[<- hY];rfl
 have yK:Y.K=X.K:=by rw[<- hY];rfl
 have yA:Y.A=X.A:=by rw[<- hY];rfl
 have yc:Y.calm=true:=by rw[<- hY];exact hc
 have yenv:Y.env=compEnvC scope cs s3.heap.objs.size X.env:=by rw[<- hY];rfl
 have yex:∀b,b∈Y.ex↔b∈fp:=λb=>by rw[<- hY];rfl
 have yxe:Y.xe=λ_ _=>False:=by rw[<- hY];rfl
 have ypn:Y.pn=[]:=by rw[<- hY];rfl
 have yfs:∀b,b∈Y.fs->b∈X.env.locals::X.fs:=λb hb=>I3.stkSub b (by rw[<- hY]at hb;exact hb)
 have stat:∀{H':Hp},(∀b∈fp,H' b=none)->∀b∈fp,FpOk Y [] H' b:=λhn b hb=>by
  refine⟨hn b hb,?_,λhm=>?_,.inl ((yex b).mpr hb),λx c e=>?_,λp hp=>?_⟩
  ·rw[yenv];show b≠s3.heap.objs.size;exact Yax (Yau (hlt b hb) (by omega))
  ·rcases YaO.mp (yfs b hm)with z|z
   ·exact(hf b hb).2.1 z
   ·exact(hf b hb).2.2.1 z
  ·rw[yenv]at e;rcases c1' x c e with z|z
   ·exact(hf b hb).2.2.2.2.1 x c z
   ·intro q;rw[q]at z;exact absurd (Ydw z (Yau (hlt b hb) (by omega))) (Ybf _)
  ·rw[ypn]at hp;simp at hp
 have fin:∀{τ:St} {H':Hp} {s':Shared},Inv Y [] τ H' s'->Q (.ref s.heap.objs.size) H'->RR (.ref s.heap.objs.size) s3.heap.objs.size (.ok .next) s':=λ{τ H' s'} J q=>by
  have fr:H' s3.heap.objs.size=none:=by have:=J.free;rw[yenv]at this;exact this
  obtain⟨m,hn,_⟩:=J.loc;rw[yenv]at hn;exact hRR _ _ H' s' (jiw I3 hf3 (hY ▸ J)) ⟨m,hn⟩ (I3.fpOk (Yag _) fr) q
 have hn:∀b∈fp,upd H s.heap.objs.size (.lst []) b=none:=λb hb=>(hf3 b hb).1;have lp:=jkm (pins:=[]) (s:={ s3 with heap:=h₁ }) (acc:=.ref s.heap.objs.size) (ifs:=ifs) (em:=em s.heap.objs.size Y.env) yc yxe (hct (.ref it) s.heap.objs.size Y.env) yg yi ye IY (by rw[yprog,yw,yK];exact T) st1 (stat hn) (hW _ hD)
 rw[yprog,yw,yA,yenv]at lp;have lp:=Yd4 lp (R':=RR (.ref s.heap.objs.size) s3.heap.objs.size) λr s' ⟨hr,τ',ys',H',I',q'⟩=>by subst hr;exact fin I' q'
 show codeAny (model X.prog X.w) X.A (.compStart (.ListComp elt (⟨tg,iter,ifs,0⟩::rest) scope pos) 0 (.ref it) (.ref s.heap.objs.size) (compEnvC scope cs s3.heap.objs.size X.env)) (RR (.ref s.heap.objs.size) s3.heap.objs.size) _;exact codeAny_compStart_list lp (T.self _ 0 _ _ _ st1 lp)

theorem jlX {pos:Pos}{wi:TI}{g:TG}{tt:TT}{rest:List YbB}{tem:Addr->TEm}{em:Addr->Env->Sem Unit}(hc:X.calm=true)(S:CScope X N pick scope)(hw:PI X tg iter wi)
  (hg:∀cl C s₀ H₀ fp,PG (jam X N scope cl C s₀ H₀ fp) tg g) (hi:∀cl C s₀ H₀ fp,PIfs (jam X N scope cl C s₀ H₀ fp) ifs tt) (he:∀D cl C s₀ H₀ fp,PEm (jam X N scope cl C s₀ H₀ fp) (em D (jam X N scope cl C s₀ H₀ fp).env) (tem D))
  (hct:∀(it:Value) (D:Addr) (env:Env),Yec (.ListComp elt (⟨tg,iter,ifs,0⟩::rest) scope pos) 0 it (.ref D) env=jcX iter.pos tg ifs it env (em D env) (.compLoop (.ListComp elt (⟨tg,iter,ifs,0⟩::rest) scope pos) 0 it (.ref D) env))
  (hs:∀x,Ya4 iter X.env x=pure x:=by intro _;rfl):PE X (.ListComp elt (⟨tg,iter,ifs,0⟩::rest) scope pos) (tLcG pick wi g tt tem):=by
 intro pins s σ H Q I h;obtain⟨cl,hclos,c1,c2⟩:=jdH (scope:=scope) (env:=X.env) λy hy hf=>I.ok.has _ (S.fre y hy hf).2;rw[eval_ListComp];refine YeM (use:=none) rfl hs hclos S.kind S.names (thn (hw pins s σ H _ I h) λv s1 h1=>thn h1 λitv s2 h2=>?_);obtain⟨it,fp,tn,J,H2,e,I2,T,st2,f2,hW⟩:=h2;subst e;refine jfB (RR:=λacc C=>compPost (model X.prog X.w) X.A X.xe none (EP X pins σ Q) acc C) hc S c1 c2 hg hi he hct I2 T st2 f2 hW λD C H' s' J' ⟨m,hn⟩ fC q=>?_;refine⟨m,hn,λh' hs'=>⟨.ref D,H',?_,rfl,q⟩⟩;exact J'.turned (t':=s'.toks) (it:=C) (λb o hb e=>hs'.extBut b o hb e) fC.1 fC.2.1 fC.2.2.2.1 fC.2.2.2.2.1 fC.2.2.2.2.2

theorem jlI {pos py spos:Pos}{wi:TI}{g:TG}{tt:TT}{rest:List YbB}{tem:Addr->TEm}{em:Addr->Env->Sem Unit}{i:Nat}{y:Str}(hN:X.N.Nodup)(hi':X.N[i]?=some y)(hy:X.env.scope.names.lookup y=some .local)(hc:X.calm=true)(S:CScope X N pick scope)(hw:PI X tg iter wi)
  (hg:∀cl C s₀ H₀ fp,PG (jam X N scope cl C s₀ H₀ fp) tg g) (hi:∀cl C s₀ H₀ fp,PIfs (jam X N scope cl C s₀ H₀ fp) ifs tt) (he:∀D cl C s₀ H₀ fp,PEm (jam X N scope cl C s₀ H₀ fp) (em D (jam X N scope cl C s₀ H₀ fp).env) (tem D))
  (hct:∀(it:Value) (D:Addr) (env:Env),Yec (.ListComp elt (⟨tg,iter,ifs,0⟩::rest) scope pos) 0 it (.ref D) env=jcX iter.pos tg ifs it env (em D env) (.compLoop (.ListComp elt (⟨tg,iter,ifs,0⟩::rest) scope pos) 0 it (.ref D) env))
  (hsw:YcP (.ListComp elt (⟨tg,iter,ifs,0⟩::rest) scope pos) (some (.Name y py)) spos.line X.env=pure true) (hs:∀x,Ya4 iter X.env x=pure x:=by intro _;rfl) :
  PS X (.Assign [.Name y py] (.ListComp elt (⟨tg,iter,ifs,0⟩::rest) scope pos) spos) (tAsg (tLcG pick wi g tt tem) (jir i)):=by
 intro pins s σ H D0 I h;obtain⟨cl,hclos,c1,c2⟩:=jdH (scope:=scope) (env:=X.env) λy hy hf=>I.ok.has _ (S.fre y hy hf).2;rw[exec_Assign_Name_used _ _ _ _ hsw];refine Yaf (YcY (Yaf ?_));show wpAny _ _ (do let _ <- comprehension (.ListComp elt (⟨tg,iter,ifs,0⟩::rest) scope pos) scope X.env _ (newList []) false (eval iter X.env) (some (assign (.Name y py) X.env))) _ _ s
 refine Yaf (thn (YeM (use:=some (assign (.Name y py) X.env)) (Q:=λ_ s'=>SP X pins D0 .next s') rfl hs hclos S.kind S.names
  (thn (hw pins s σ H _ I h) λv s1 h1=>thn h1 λitv s2 h2=>?_)) λ_ s' hq=>Yap (Yap hq))
 obtain⟨it,fp,tn,J,H2,e,I2,T,st2,f2,hW⟩:=h2;subst e;refine jfB (Q:=λx H1=>jir i x σ H1 D0.nx) (RR:=λacc C=>compPost (model X.prog X.w) X.A X.xe (some (assign (.Name y py) X.env)) (λ_ s'=>SP X pins D0 .next s') acc C) hc S c1 c2 hg hi he hct I2 T st2 f2 hW λD C H' s' J' ⟨m,hn⟩ fC q=>?_
 show wpAny _ _ (assign (.Name y py) X.env (.ref D)) _ _ _;refine wpAny_assign_Name (jd8 (v:=.ref D) J' hN hi' (.inl hy) rfl (λs'' J'' ⟨a,sb,ha⟩=>?_) (.inr hy));have hne:C≠a:=by
  rcases ha with z|z
  ·rw[z];exact fC.2.1
  ·exact λe=>fC.2.2.2.2.1 y a z e.symm
 refine⟨m,hn.sameBut sb hne,λh' hs'=>?_⟩;refine⟨_,H',J''.turned (t':=s''.toks) (it:=C) (λb o hb e=>hs'.extBut b o hb e) fC.1 fC.2.1 fC.2.2.2.1 fC.2.2.2.2.1 fC.2.2.2.2.2,q⟩
theorem jor {pos:Pos}{wi:TI}{g:TG}{tt:TT}{te:TE}(hc:X.calm=true)(S:CScope X N pick scope)(hw:PI X tg iter wi)
  (hg:∀cl C s₀ H₀ fp,PG (jam X N scope cl C s₀ H₀ fp) tg g) (hi:∀cl C s₀ H₀ fp,PIfs (jam X N scope cl C s₀ H₀ fp) ifs tt) (he:∀cl C s₀ H₀ fp,PE (jam X N scope cl C s₀ H₀ fp) elt te)
  (hs:∀x,Ya4 iter X.env x=pure x:=by intro _;rfl):PE X (.ListComp elt [⟨tg,iter,ifs,0⟩] scope pos) (tLc pick wi g tt te):=
 jlX (em:=λD env=>do let _ <- call (.builtin "list.append") [.ref D,<- eval elt env]) (rest:=[]) hc S hw hg hi (λD cl C s₀ H₀ fp=>ji7 rfl (he cl C s₀ H₀ fp)) (λ_ _ _=>rfl) hs
theorem jok {pos:Pos}{wi:TI}{g:TG}{tt:TT}{te:TE}{py spos:Pos}{i:Nat}{y:Str}(hN:X.N.Nodup)(hi':X.N[i]?=some y)(hy:X.env.scope.names.lookup y=some .local)(hc:X.calm=true)(S:CScope X N pick scope)(hw:PI X tg iter wi)
  (hg:∀cl C s₀ H₀ fp,PG (jam X N scope cl C s₀ H₀ fp) tg g) (hi:∀cl C s₀ H₀ fp,PIfs (jam X N scope cl C s₀ H₀ fp) ifs tt) (he:∀cl C s₀ H₀ fp,PE (jam X N scope cl C s₀ H₀ fp) elt te)
  (hsw:YcP (.ListComp elt [⟨tg,iter,ifs,0⟩] scope pos) (some (.Name y py)) spos.line X.env=pure true) (hs:∀x,Ya4 iter X.env x=pure x:=by intro _;rfl):PS X (.Assign [.Name y py] (.ListComp elt [⟨tg,iter,ifs,0⟩] scope pos) spos) (tAsg (tLc pick wi g tt te) (jir i)):=
 jlI (em:=λD env=>do let _ <- call (.builtin "list.append") [.ref D,<- eval elt env]) (rest:=[]) hN hi' hy hc S hw hg hi (λD cl C s₀ H₀ fp=>ji7 rfl (he cl C s₀ H₀ fp)) (λ_ _ _=>rfl) hsw hs
end
end

mutual
inductive DV (K:Yab)(H:Hp):V->PyData->Prop
 |non:DV K H .non .none
 |bl (b:Bool):DV K H (.bl b) (.bool b)
 |int (i:Int):DV K H (.int i) (.int i)
 |str (x:Str):DV K H (.str x) (.str x)
 |tup {a:Addr} {xs:List V} {ds:List PyData}:SqT K H a xs->DVs K H xs ds->DV K H (.ref a) (.tuple ds)
 |lst {a:Addr} {xs:List V} {ds:List PyData}:Rd H a (.lst xs)->DVs K H xs ds->DV K H (.ref a) (.list ds)
 |dic {a:Addr}:H a=some (.dK [])->DV K H (.ref a) (.dict [])
inductive DVs (K:Yab)(H:Hp):List V->List PyData->Prop
 |nil:DVs K H [] []
 |cons {x:V} {d:PyData} {xs:List V} {ds:List PyData}:DV K H x d->DVs K H xs ds->DVs K H (x::xs) (d::ds)
end
section
variable {K:Yab}{H H':Hp}
end
mutual
noncomputable def noL:PyData->Bool
 |.list _=>false
 |.tuple xs=>noLs xs
 |.dict _=>false
 |.none|.bool _|.int _|.str _=>true
noncomputable def noLs:List PyData->Bool
 |[]=>true
 |x::r=>noL x&&noLs r
end
section
variable {K:Yab}{H H':Hp}
def TK (H H':Hp):Prop:=∀b xs,H b=some (.tup xs)->H' b=some (.tup xs)
end

theorem Inv.noSys {X:Cx}{pins:List (Addr×Obj)}{σ:St}{H:Hp}{s:Shared}(I:Inv X pins σ H s){a:Addr}{o:Obj}(h:s.heap.get? a=some o)(c:o.cls=.type "list"):YaV≠a:=λe=>by
 obtain⟨o',l,c'⟩:=I.mod.sys;have:=I.kIn _ _ l;rw[e,h]at this;cases this;rw[c]at c';exact absurd c' (by decide)
mutual
theorem DV.reads2 {X:Cx}{pins:List (Addr×Obj)}{σ:St}{H:Hp}{s:Shared}(I:Inv X pins σ H s):∀{x:V} {d:PyData} {u:Value},DV X.K H x d->RelV x u->∃as,Reads s.heap u d as/\YaV∉as
 |_,_,_,.non,r=>by cases r;exact⟨_,.none,by simp⟩
 |_,_,_,.bl b,r=>by cases r;exact⟨_,.bool b,by simp⟩
 |_,_,_,.int i,r=>by obtain⟨t,rfl⟩:=r;exact⟨_,.int i t,by simp⟩
 |_,_,_,.str x,r=>by obtain⟨t,rfl⟩:=r;exact⟨_,.str x t,by simp⟩
 |_,_,_,.tup e h,r=>by
  cases r
  obtain⟨its,rv,⟨o,ho,hc,n,hd⟩,_⟩:=I.tuple e
  obtain⟨as,q,z⟩:=DVs.reads2 I h rv
  exact⟨_,.tuple ho hc hd q,z⟩
 |_,_,_,@DV.lst _ _ a _ _ e h,r=>by
  cases r
  obtain⟨its,rv,⟨o,n,ho,hc,_,hd⟩,_⟩:=I.list (.inl e)
  obtain⟨as,q,z⟩:=DVs.reads2 I h rv
  refine⟨_,.list ho hc hd q,λhm=>?_⟩
  rcases YaO.mp hm with hm|hm
  ·exact I.noSys ho hc hm
  ·exact z hm
 |_,_,_,@DV.dic _ _ a e,r=>by
  cases r
  obtain⟨_,hS,vs,kv,o,es,ep,ho,hx,hd,_,hp,_⟩:([]:List (Key×V)).length<=Yah/\(a==YaV)=false/\∃vs,KV [] vs/\s.heap.DictOf (jai X.prog X.w) a vs:=I.hok a _ e
  have e0:es.toList=[]:=by
   cases kv
   revert hp
   cases es.toList with
   |nil=>exact λ_=>rfl
   |cons x r=>exact λhp=>(nomatch hp)
  refine⟨_,.dict (kvs:=[]) (as:=[]) (bs:=[]) ho hx.1 hd (by rw[e0];exact .nil) (by rw[e0];exact .nil),λhm=>?_⟩
  have:YaV=a:=by simpa using hm
  rw[<- this]at hS
  exact absurd hS (by simp)
theorem DVs.reads2 {X:Cx}{pins:List (Addr×Obj)}{σ:St}{H:Hp}{s:Shared}(I:Inv X pins σ H s):∀{xs:List V} {ds:List PyData} {us:List Value},DVs X.K H xs ds->Vals xs us->∃as,ReadsAll s.heap us ds as/\YaV∉as
 |_,_,_,.nil,r=>by cases r;exact⟨_,.nil,by simp⟩
 |_,_,_,.cons a b,r=>by
  cases r with
  |cons r rr=>
   obtain⟨as,q,z⟩:=DV.reads2 I a r
   obtain⟨bs,q',z'⟩:=DVs.reads2 I b rr
   exact⟨_,.cons q q',by rw[List.mem_append,not_or];exact⟨z,z'⟩⟩
end
section
variable {X:Cx}{pins:List (Addr×Obj)}{σ:St}{H:Hp}{s:Shared}
theorem DV.reads (I:Inv X pins σ H s){x:V}{d:PyData}{u:Value}(h:DV X.K H x d)(r:RelV x u):∃as,Reads s.heap u d as:=let ⟨as,q,_⟩:=DV.reads2 I h r;⟨as,q⟩
theorem DVs.reads (I:Inv X pins σ H s){xs:List V}{ds:List PyData}{us:List Value}(h:DVs X.K H xs ds)(r:Vals xs us):∃as,ReadsAll s.heap us ds as:=let ⟨as,q,_⟩:=DVs.reads2 I h r;⟨as,q⟩

end
structure Fits (n k:Nat)(d:PyData):Prop where
 sh:d.showable=true
 ln:d.shown.length<=n
 dp:d.depth<=k
section
variable {X:Cx}{k:Nat}{x:Str}{ps:List Str}{sp:Sp}{e:Expr}{es:List Expr}{t:TA}{p pos:Pos}
end
def Sm (f:Addr)(H H':Hp):Prop:=∀b o,b≠f->H b=some o->H' b=some o
def LcW (n k:Nat)(caps:St)(Pv:Nat->List V->Hp->Prop):Nat->Nat->St->List V->Hp->Prop:=λi m τ ys H=>m=n-i/\i<=n/\(∃os:St,os.length=k/\τ=os++caps)/\Pv i ys H
def LcN (D:Addr)(n k:Nat)(caps:St)(Pv:Nat->List V->Hp->Prop)(i:Nat)(ys:List V)(τ:St)(v:V)(H:Hp):Prop:=
 H D=some (.lst ys)/\ys.length<Yah/\∃m',m'<n-i/\LcW n k caps Pv (i+1) m' τ (ys++[v]) (upd H D (.lst (ys++[v])))
def LcS (n k:Nat)(caps:St)(Pv:Nat->List V->Hp->Prop)(i:Nat)(ys:List V)(τ:St)(H:Hp):Prop:=∃m',m'<n-i/\LcW n k caps Pv (i+1) m' τ ys H
section
variable {g:TG}{tt:TT}{te:TE}{Q:VK}{τ0:St}{H:Hp}{D:Addr}
end
section
variable {X:Cx}
end
section
variable {X:Cx}{es:List Expr}{te:TE}{t:TA}
end
section
variable {X:Cx}{N:List Str}{scope:Scope}{cl:List (Str×Addr)}{C:Addr}{s₀:Shared}{H₀:Hp}{fp:List Addr}
end
theorem jbF:∀{ns:List Int} {us:List Value},Vals (ns.map V.int) us->∃ys:List (Int×Tok),us=(ys.map λp=>YdG p.1 p.2)/\ys.map (·.1)=ns
 |[],us,r=>by cases r;exact⟨[],rfl,rfl⟩
 |n::ns,us,r=>by
  cases r with
  |cons h r=>
   obtain⟨t,rfl⟩:=h;obtain⟨ys,rfl,e⟩:=jbF r;exact⟨(n,t)::ys,rfl,by simp[e]⟩
section
variable {X:Cx}
theorem jix (hc:X.calm=true):ja5 X (.builtin "sum") (λxs H Q=>∃(p:Addr) (ns:List Int),xs=[.ref p]/\SqL X.K H p (ns.map V.int)/\Q (.int ns.sum) H):=by
 intro pins s σ H xs us Q I r h;obtain⟨p,ns,rfl,hq,q⟩:=h;obtain⟨u,rfl,rx⟩:=jcO r;cases rx;obtain⟨its,r',pl,hz⟩:=I.list hq;obtain⟨ys,rfl,e⟩:=jbF r';have hl:s.heap.IsList p (intItems ys.toArray):=by
  have:=pl.isList;simpa[intItems]using this
 refine sum_intListG (I.ok.hd hc) hl λh' tk t' k=>⟨.int ns.sum,H,I.kept k,⟨t',?_⟩,q⟩;rw[preSum_eq,YcL (by simp),<- e]
end
section
variable {X:Cx}{N:List Str}{scope:Scope}{cl:List (Str×Addr)}{C:Addr}{s₀:Shared}{H₀:Hp}{fp:List Addr}
end
theorem fm_rev (xs:List Value):∀n,n<=xs.length->(YaX n).filterMap (λk=>xs[xs.length-1-k]?)=(xs.drop (xs.length-n)).reverse
 |0,_=>by simp
 |n+1,h=>by
  rw[List.range_succ,List.filterMap_append,fm_rev xs n (by omega)]
  have hk:xs.length-1-n<xs.length:=by omega
  have:xs.drop (xs.length-(n+1))=xs[xs.length-1-n]::xs.drop (xs.length-n):=by
   rw[show xs.length-(n+1)=xs.length-1-n by omega,YaU hk,show xs.length-1-n+1=xs.length-n by omega]
  rw[this,YbL];simp[Yaa hk]
theorem jhQ (xs:List Value):YdB xs.toArray none none (some (-1))=xs.reverse.toArray:=by
 have e:sliceRange ((xs.length:Int)-1) (-1) (-1)=(YaX xs.length).map λk=>xs.length-1-k:=by
  unfold sliceRange;have hc:(if (-1:Int)>0 then (if (xs.length:Int)-1 < -1 then (-1-((xs.length:Int)-1) + -1-1) / -1 else 0) else (if (xs.length:Int)-1 > -1 then ((xs.length:Int)-1 - -1 - -1-1)/(- -1) else 0)).toNat=xs.length:=by
   rw[if_neg (by omega),show(- -1:Int)=1 from rfl,YeL]
   split<;>omega
  simp only[hc];refine YeS λk hk=>?_;have:=List.mem_range.mp hk;omega
 have b:Yb2 none none (some (-1)) xs.toArray.size=((xs.length:Int)-1,-1,-1):=by
  simp[Yb2]
 unfold YdB;rw[b];simp only;rw[e,Yfe];have:=fm_rev xs xs.length (Yag _);rw[YeI,Yc3]at this;rw[<- this];congr 1;refine congrArg (λf=>List.filterMap f (YaX xs.length)) (funext λk=>?_);simp
theorem jiA (xs:List Value):YdB xs.toArray none none (some 1)=xs.toArray:=by
 have:=slicePick_all xs.toArray;unfold YdB at this ⊢;exact this
theorem Vals.rev {xs:List V}{us:List Value}(r:Vals xs us):Vals xs.reverse us.reverse:=by
 induction r with
 |nil=>exact .nil
 |cons h r ih=>rw[YbL,YbL];exact ih.append (.cons h .nil)
section
variable {X:Cx}{e st:Expr}{te tst:TE}{pos p2:Pos}
end
end L2
namespace HT
open PySem PySem.Spec PyProof.Rows
section
variable {prog:Program}{w:World}{A:Around}{E:Value->Shared->Prop}{s:Shared}
theorem getItem_tuple_all {t sl:Addr}{items:Array Value}{vl vu:Value}{lo hi:Option Int}{Q:Value->Shared->Prop}(ht:IsTup s.heap t items)(hs:s.heap.IsSliceOf sl vl vu .none)(pl:IsPart vl lo)(pu:IsPart vu hi)
  (hw:sIx items.size 0 lo=0/\sIx items.size items.size hi=items.size) (h:Q (.ref t) s):wpAny (model prog w) A (getItem (.ref t) (.ref sl)) Q E s:=by
 obtain⟨os,hos,hcs,hds⟩:=id hs;have hTs:s.TypeIs (.ref sl) "slice" := ⟨os,hos,hcs⟩;unfold getItem
 try with_reducible refine Ybb ?_
 first|refine Yaf (Yap ?_)|skip
 refine Yaf (YdT ht.typeIs (by decide) ?_)
 refine Yaf (Yb8 (name:=YbH "__getitem__") ht.typeIs YaW
  (Ycr YaW ht.typeIs Ydm ?_ (YdF _ _)))
 show wpAny _ _ (Yci (.ref t) >>= _) _ _ s;refine Yaf (YeZ ht ?_);refine Yaf (Yd3 hTs ?_);rw[if_pos (by decide)]
 refine Yaf (jbb hs pl pu ?_);have hyes:((((sIx items.size 0 lo:Nat):Int)==0&&(1:Int)==1&&(sIx items.size items.size hi-sIx items.size 0 lo)==items.size)=true):=by
  rw[hw.1,hw.2];simp
 show wpAny _ _ (if (((sIx items.size 0 lo:Nat):Int)==0&&(1:Int)==1&&(sIx items.size items.size hi-sIx items.size 0 lo)==items.size)=true then _ else _) _ _ s
 rw[if_pos hyes];refine Yaf (m:=Yc8 (.ref t)) ?_;unfold Yc8;refine Yaf (Yd3 ht.typeIs (Yap ?_));rw[if_pos (by decide)]
 exact Yaf (wpAny_rule (Yap ⟨_,rfl,Yap h⟩))
end
end HT
namespace L2
open PySem PySem.Spec PyProof.Rows
section
variable {X:Cx}
def rSlW (K:Yab):V->Option Int->Option Int->Hp->VK->Prop:=λx lo hi H Q=>∃a xs,x=.ref a/\SqT K H a xs/\
 (HT.sIx xs.length 0 lo=0/\HT.sIx xs.length xs.length hi=xs.length)/\Q (.ref a) H
theorem jjv:SlR X (rSlW X.K):=by
 intro pins s σ H x v vl vu lo hi sl Q I rx hs pl pu h;obtain⟨a,xs,rfl,hx,hw,q⟩:=h;cases rx;obtain⟨its,r,ht,hz⟩:=I.tuple hx;have hlen:its.toArray.size=xs.length:=by rw[Yai];exact r.length.symm
 refine⟨"tuple",_,YaW.lookup,ht.typeIs,?_⟩;exact HT.getItem_tuple_all ht hs pl pu (by rw[hlen];exact hw) ⟨.ref a,H,I,rfl,q⟩
theorem jjw:SlR X (λx lo hi H Q=>rSlT X.K x lo hi H Q\/rSlW X.K x lo hi H Q):=SlR.or jln jjv
end
end L2
namespace HT
open PySem PySem.Spec PyProof.Rows
section
variable {prog:Program}{w:World}{A:Around}{E:Value->Shared->Prop}{s:Shared}
theorem jcE {sl:Addr}{t:Tok}{n:Nat}{Q:Int×Int×Nat->Shared->Prop}(hs:s.heap.IsSliceOf sl .none .none (.int (-1) t))(h:Q ((n:Int)-1,-1,n) s):wpAny (model prog w) A (Yby (.ref sl) (pure (n:Int))) Q E s:=by
 obtain⟨os,hos,hcs,hds⟩:=id hs;unfold Yby Ydc;refine Yaf (Yaf (YbR hos hds (x:=.none) rfl (Yaf (YbR hos hds (x:=.none) rfl (Yaf (YbR hos hds (x:=.int (-1) t) rfl (Yap ?_)))))));refine Yaf (jaY (.int (-1) t) ?_);show wpAny _ _ (if ((-1:Int)==0)=true then _ else _) _ _ s
 rw[if_neg (by decide)]
 refine Yaf (jaY .none (Yaf (jaY .none (Yaf (Yap ?_)))));have e1:Ybk none none (-1) (n:Int)=((n:Int)-1,-1):=rfl;have e2:YaR ((n:Int)-1) (-1) (-1)=n:=by
  unfold YaR;rw[if_neg (by omega),show(- -1:Int)=1 from rfl,YeL]
  split<;>omega
 show wpAny _ _ (match Ybk none none (-1) (n:Int)with|(lo,hi)=>pure (lo,(-1:Int),YaR lo hi (-1))) _ _ s
 rw[e1];show wpAny _ _ (pure ((n:Int)-1,(-1:Int),YaR ((n:Int)-1) (-1) (-1))) _ _ s;rw[e2];exact Yap h
theorem jhZ (xs:List Value):((YaX xs.length).filterMap λ(k:Nat)=>xs.toArray[((xs.length:Int)-1+(k:Int)*(-1)).toNat]?).toArray=xs.reverse.toArray:=by
 have:=L2.fm_rev xs xs.length (Yag _);rw[YeI,Yc3]at this;rw[<- this];congr 1;refine congrArg (λf=>List.filterMap f (YaX xs.length)) (funext λk=>?_);rw[show((xs.length:Int)-1+(k:Int)*(-1)).toNat=xs.length-1-k by omega]
 simp
theorem getItem_tuple_rev {t sl:Addr}{its:List Value}{tk:Tok}{Q:Value->Shared->Prop}(ht:IsTup s.heap t its.toArray)(hs:s.heap.IsSliceOf sl .none .none (.int (-1) tk))
  (h:Q (.ref s.heap.objs.size) { s with heap:=s.heap.push { cls:=.type "tuple",data:=.seq its.reverse.toArray } }) (hsz:its.length<=Yah):wpAny (model prog w) A (getItem (.ref t) (.ref sl)) Q E s:=by
 have htake:sizeOk (.seq its.reverse.toArray):=by
  show its.reverse.toArray.size<=Yah;rw[Yai,Yc6];exact hsz
 obtain⟨os,hos,hcs,hds⟩:=id hs;have hTs:s.TypeIs (.ref sl) "slice" := ⟨os,hos,hcs⟩;unfold getItem
 try with_reducible refine Ybb ?_
 first|refine Yaf (Yap ?_)|skip
 refine Yaf (YdT ht.typeIs (by decide) ?_)
 refine Yaf (Yb8 (name:=YbH "__getitem__") ht.typeIs YaW
  (Ycr YaW ht.typeIs Ydm ?_ (YdF _ _)))
 show wpAny _ _ (Yci (.ref t) >>= _) _ _ s;refine Yaf (YeZ ht ?_);refine Yaf (Yd3 hTs ?_);rw[if_pos (by decide)]
 refine Yaf (jcE (n:=its.length) hs ?_);have hno:¬((((its.length:Int)-1)==0&&(-1:Int)==1&&its.length==its.toArray.size)=true):=by simp
 show wpAny _ _ (if (((its.length:Int)-1)==0&&(-1:Int)==1&&its.length==its.toArray.size)=true then _ else _) _ _ s
 rw[if_neg hno,jhZ]
 first
  |exact Yaf (m:=YaS _) (Ya3 (Yap ⟨_,rfl,Yap h⟩) htake)
  |exact Yaf (m:=YaS _) (Ya3 (Yaf (Yap (Yap ⟨_,rfl,Yap h⟩))) htake)
  |exact Yaf (Yaf (m:=YaS _) (Ya3 (Yap (Yap ⟨_,rfl,Yap h⟩)) htake))
  |exact Yaf (Yaf (m:=YaS _) (Ya3 (Yap ⟨_,rfl,Yap h⟩) htake))
end
end HT
namespace L2
open PySem PySem.Spec PyProof.Rows
section
variable {X:Cx}{e st:Expr}{te tst:TE}{pos p2:Pos}
end
section
variable {X:Cx}{N:List Str}{scope:Scope}{cl:List (Str×Addr)}{C:Addr}{s₀:Shared}{H₀:Hp}{fp:List Addr}
end
end L2

namespace L2
open PySem PySem.Spec PyProof.Rows
section
variable {X:Cx}{pos:Pos}
def joj (K:Yab):R2:=λx y H Q=>∃a b xs ys,x=.ref a/\y=.ref b/\SqT K H a xs/\SqT K H b ys/\xs.length+ys.length<=Yah/\
 (xs=[]->Q (.ref b) H)/\(xs≠[]->ys=[]->Q (.ref a) H)/\(xs≠[]->ys≠[]->∀p,H p=none->Q (.ref p) (upd H p (.tup (xs++ys))))
theorem jj5:OpR X (Ybd .Add) (joj X.K):=by
 intro pins s σ H x y v u Q I rx ry h;obtain⟨a,b,xs,ys,rfl,rfl,ha,hb,hz,q0,q1,q2⟩:=h;by_cases hx:xs=[]
 ·cases rx;cases ry;obtain⟨its,r1,p1,_⟩:=I.tuple ha;obtain⟨its2,r2,p2,_⟩:=I.tuple hb;have hv:its=[]:=r1.nil_iff.mpr hx;subst hv;obtain⟨⟨cls,dd,data,sl⟩,ho,hc,n,hd⟩:=id p1;obtain⟨⟨cls2,dd2,data2,sl2⟩,ho2,hc2,n2,hd2⟩:=id p2;simp only at hc hd hc2 hd2;subst hc hd hc2 hd2;exact YfE ⟨_,ho,rfl⟩ ⟨_,ho2,rfl⟩ Yd8 Ye0 YcE YcC (Ycu _ _)
   (tuple_addW0 a b _ its2.toArray n n2 dd dd2 sl sl2 rfl) ⟨ho,ho2,⟨.ref b,H,I,rfl,q0 hx⟩⟩
 ·exact jj4 pins s σ H _ _ _ _ Q I rx ry ⟨a,b,xs,ys,rfl,rfl,ha,hb,hx,hz,q1 hx,q2 hx⟩
theorem jf5 {k:Nat}(hr:Room k X.A):OpR X (YaN .Eq) (λx y H Q=>∃a b xs,x=.ref a/\y=.ref b/\SqT X.K H a xs/\SqT X.K H b []/\Q (.bl xs.isEmpty) H):=by
 intro pins s σ H x y v u Q I rx ry h;obtain⟨a,b,xs,rfl,rfl,ha,hb,q⟩:=h;cases rx;cases ry;obtain⟨its,rv,pa,_⟩:=I.tuple ha;obtain⟨its2,rv2,pb,_⟩:=I.tuple hb;cases rv2;have hu:X.A.units<cLine:=hr.units0;have e:((YaX (min its.toArray.size ([]:List Value).toArray.size)).all (λ_=>true)&&its.toArray.size==([]:List Value).toArray.size)=xs.isEmpty:=by
  cases rv<;>simp
 refine EqBoolInt.of_rc (SeqAt.RcAt.tuples (e:=λ_=>true) (show s.heap.IsTuple a its.toArray from pa) (show s.heap.IsTuple b ([]:List Value).toArray from pb) hu λj _ h2=>?_) ?_
 ·simp at h2
 ·rw[e];exact⟨.bl xs.isEmpty,H,I,rfl,q⟩
end
section
variable {X:Cx}{N:List Str}{scope:Scope}{cl:List (Str×Addr)}{C:Addr}{s₀:Shared}{H₀:Hp}{fp:List Addr}
end
section
variable {X:Cx}
end
section
variable {X:Cx}{N:List Str}{scope:Scope}{cl:List (Str×Addr)}{C:Addr}{s₀:Shared}{H₀:Hp}{fp:List Addr}
end
section
variable {X:Cx}
def jlC (K:Yab)(neg:Bool):R2:=λx y H Q=>∃d e,DV K H x d/\DV K H y e/\d.canLay0=true/\e.canLay0=true/\d.depth<=100/\Q (.bl (if neg then !PyData.eqv d e else YaD d e)) H
theorem jma {k:Nat}(hr:Room k X.A):OpR X (YaN .NotEq) (jlC X.K true):=by
 intro pins s σ H x y v u Q I rx ry h;obtain⟨d,e,hd,he,c1,c2,hk,q⟩:=h;obtain⟨as,ra⟩:=hd.reads I rx;obtain⟨bs,rb⟩:=he.reads I ry;exact SeqAt.compareNe_reads ra rb c1 c2 (by have:=hr.un;omega) ⟨.bl _,H,I,rfl,q⟩
theorem jmf {k:Nat}(hr:Room k X.A):OpR X (YaN .Eq) (jlC X.K false):=by
 intro pins s σ H x y v u Q I rx ry h;obtain⟨d,e,hd,he,c1,c2,hk,q⟩:=h;obtain⟨as,ra⟩:=hd.reads I rx;obtain⟨bs,rb⟩:=he.reads I ry;exact SeqAt.compareEq_reads ra rb c1 c2 (by have:=hr.un;omega) ⟨.bl _,H,I,rfl,q⟩
end
section
variable {X:Cx}{N:List Str}{scope:Scope}{cl:List (Str×Addr)}{C:Addr}{s₀:Shared}{H₀:Hp}{fp:List Addr}
end
mutual
noncomputable def noB:PyData->Bool
 |.none=>true
 |.bool _=>false
 |.int _=>true
 |.str _=>true
 |.list ds=>noBs ds
 |.tuple ds=>noBs ds
 |.dict _=>false
noncomputable def noBs:List PyData->Bool
 |[]=>true
 |d::r=>noB d&&noBs r
end
mutual
theorem ji4:∀{d e:PyData},noB d=true->noB e=true->YaD d e=true->d=e
 |.none,.none,_,_,_=>rfl
 |.int i,.int j,_,_,h=>by rw[YaD]at h;rw[eq_of_beq h]
 |.str i,.str j,_,_,h=>by rw[YaD]at h;rw[eq_of_beq h]
 |.list xs,.list ys,h1,h2,h=>by rw[YaD]at h;rw[noB]at h1 h2;rw[je3 h1 h2 h]
 |.tuple xs,.tuple ys,h1,h2,h=>by rw[YaD]at h;rw[noB]at h1 h2;rw[je3 h1 h2 h]
 |.bool _,_,h,_,_=>by rw[noB]at h;cases h
 |.dict _,_,h,_,_=>by rw[noB]at h;cases h
 |.none,.bool _,_,h,_|.int _,.bool _,_,h,_|.str _,.bool _,_,h,_|.list _,.bool _,_,h,_|.tuple _,.bool _,_,h,_=>by rw[noB]at h;cases h
 |.none,.dict _,_,h,_|.int _,.dict _,_,h,_|.str _,.dict _,_,h,_|.list _,.dict _,_,h,_|.tuple _,.dict _,_,h,_=>by rw[noB]at h;cases h
 |.none,.int _,_,_,h|.none,.str _,_,_,h|.none,.list _,_,_,h|.none,.tuple _,_,_,h=>by rw[YaD]at h;cases h
 |.int _,.none,_,_,h|.int _,.str _,_,_,h|.int _,.list _,_,_,h|.int _,.tuple _,_,_,h=>by rw[YaD]at h;cases h
 |.str _,.none,_,_,h|.str _,.int _,_,_,h|.str _,.list _,_,_,h|.str _,.tuple _,_,_,h=>by rw[YaD]at h;cases h
 |.list _,.none,_,_,h|.list _,.int _,_,_,h|.list _,.str _,_,_,h|.list _,.tuple _,_,_,h=>by rw[YaD]at h;cases h
 |.tuple _,.none,_,_,h|.tuple _,.int _,_,_,h|.tuple _,.str _,_,_,h|.tuple _,.list _,_,_,h=>by rw[YaD]at h;cases h
theorem je3:∀{ds es:List PyData},noBs ds=true->noBs es=true->Ycm ds es=true->ds=es
 |[],[],_,_,_=>rfl
 |d::r,e::q,h1,h2,h=>by
  rw[noBs,Yay]at h1 h2
  rw[Ycm,Yay]at h
  rw[ji4 h1.1 h2.1 h.1,je3 h1.2 h2.2 h.2]
 |[],_::_,_,_,h=>by rw[Ycm]at h;cases h
 |_::_,[],_,_,h=>by rw[Ycm]at h;cases h
end
section
variable {X:Cx}
end
section
variable {X:Cx}{N:List Str}{scope:Scope}{cl:List (Str×Addr)}{C:Addr}{s₀:Shared}{H₀:Hp}{fp:List Addr}
end
theorem jcF:fillsNumberSlot (.type "tuple") "mul" = pure false:=
 PySem.fillsNumberSlot_seq (id := "tuple.__mul__") (r:=some (.builtin "tuple.__rmul__")) Yd2.lookup (by decide +kernel) F.slot_tuple_rmul.lookup (by decide +kernel)
theorem jec:seqRepeat? (.type "tuple")=pure (some (.builtin "tuple.__mul__")):=by
 unfold seqRepeat?;rw[Yfo (T := "tuple") (name := "__mul__") (id := "tuple.__mul__") Yd2.lookup (by decide +kernel),Yfo (T := "tuple") (name := "__rmul__") (id := "tuple.__rmul__") F.slot_tuple_rmul.lookup (by decide +kernel)]
 rfl
theorem jdn (a:Int)(t:Tok)(l:Addr)(items:Array Value)(n:Nat)(dd:Option Addr)(sl:Array (Option Value)) :
  Meets (Builtin.«int.__rmul__» ⟨[.int a t,.ref l],[]⟩) (λ_ R s=>s.heap.get? l=some { cls:=.type "tuple",dict:=dd,data:=.seq items n,slots:=sl }/\R (.ok (.ret Value.notImplemented)) s):=
 .of_wp λprog w A R s h=>by obtain⟨hp,g,d,tk,os⟩:=s;obtain⟨hl,h⟩:=h;wp_walk;exact⟨_,rfl,h⟩
theorem jf0 (l:Addr)(items:Array Value)(n:Nat)(dd:Option Addr)(sl:Array (Option Value))(x:Int)(t:Tok)(hx:2<=x)(hx2:x<2 ^ 62)(h0:items.isEmpty=false)(hsz:items.size*x.toNat<=Yah) :
  Meets (Builtin.«tuple.__mul__» ⟨[.ref l,.int x t],[]⟩)
   (λA R s=>s.heap.get? l=some { cls:=.type "tuple",dict:=dd,data:=.seq items n,slots:=sl }/\R (.ok (.ret (.ref s.heap.objs.size))) { s with heap:=s.heap.push { cls:=.type "tuple",data:=.seq ((Yae x.toNat items).foldl (·++·) #[]) } }):=
 .of_wp λprog w A R s h=>by
  obtain⟨hp,g,d,tk,os⟩:=s;obtain⟨hl,h⟩:=h;have c1:(decide (x < -2 ^ 63)||decide (x ≥ 2 ^ 63))=false:=by simp;omega
  have c2:(items.isEmpty||x==1)=false:=by rw[h0];simp;omega
  have c3:(decide (x<=0)||items.isEmpty)=false:=by rw[h0];simp;omega
  have hz:(items.size:Int)*x=((items.size*x.toNat:Nat):Int):=by rw[Int.natCast_mul,Int.toNat_of_nonneg (by omega)]
  have h63:(Yah:Nat)<=(2 ^ 63-1)/8:=by decide
  wp_walk using wpAny_loadPart' hl
  simp only[c1,Ybo,if_false]
  wp_walk using wpAny_loadPart' hl
  simp only[c2,c3,Ybo,if_false];rw[if_neg (by rw[hz];omega)]
  have c4:Yc7 ((items.size:Int)*x)=false:=by
   rw[hz];unfold Yc7;exact decide_eq_false (by omega)
  simp only[c4,Ybo,if_false];have hs:(Ydh (λx1 x2=>x1++x2) #[] (Yae x.toNat items)).size<=Yah:=by
   rw[AutoListH.size_joined];simp only[Yai,YcU,Ycx];rw[Ydv];exact hsz
  revert hs h;generalize Ydh (λx1 x2=>x1++x2) #[] (Yae x.toNat items)=G;intro h hs
  wp_walk
  exact⟨_,rfl,h⟩
theorem jf2 (l:Addr)(items:Array Value)(n:Nat)(dd:Option Addr)(sl:Array (Option Value))(t:Tok)(h0:items.isEmpty=false) :
  Meets (Builtin.«tuple.__mul__» ⟨[.ref l,.int 0 t],[]⟩)
   (λA R s=>s.heap.get? l=some { cls:=.type "tuple",dict:=dd,data:=.seq items n,slots:=sl }/\R (.ok (.ret (.ref s.heap.objs.size))) { s with heap:=s.heap.push { cls:=.type "tuple",data:=.seq #[] } }):=
 .of_wp λprog w A R s h=>by
  obtain⟨hp,g,d,tk,os⟩:=s;obtain⟨hl,h⟩:=h;have c2:(items.isEmpty||(0:Int)==1)=false:=by rw[h0];rfl
  wp_walk using wpAny_loadPart' hl
  exact⟨_,rfl,h⟩
theorem jf1 (l:Addr)(items:Array Value)(n:Nat)(dd:Option Addr)(sl:Array (Option Value))(t:Tok) :
  Meets (Builtin.«tuple.__mul__» ⟨[.ref l,.int 1 t],[]⟩)
   (λA R s=>s.heap.get? l=some { cls:=.type "tuple",dict:=dd,data:=.seq items n,slots:=sl }/\R (.ok (.ret (.ref l))) s):=
 .of_wp λprog w A R s h=>by
  obtain⟨hp,g,d,tk,os⟩:=s;obtain⟨hl,h⟩:=h;have c1:(decide ((1:Int) < -2 ^ 63)||decide ((1:Int) ≥ 2 ^ 63))=false:=by decide
  have c2:(items.isEmpty||(1:Int)==1)=true:=by simp
  wp_walk using wpAny_loadPart' hl
  exact⟨_,rfl,h⟩
section
variable {X:Cx}
def jog (K:Yab):R2:=λx y H Q=>∃l k xs,x=.ref l/\y=.int k/\SqT K H l xs/\xs≠[]/\0<=k/\k<2 ^ 62/\xs.length*k.toNat<=Yah/\(k=1->Q (.ref l) H)/\(k≠1->∀p,H p=none->Q (.ref p) (upd H p (.tup (Yae k.toNat xs).flatten)))
theorem jj1:OpR X (Ybd .Mult) (jog X.K):=by
 intro pins s σ H x y v u Q I rx ry h;obtain⟨l,k,xs,rfl,rfl,hH,h0,h1,h2,hz,q1,q2⟩:=h;cases rx;obtain⟨t,rfl⟩:=ry;obtain⟨its,r,pl,_⟩:=I.tuple hH;have hl:=r.length;obtain⟨⟨cls,dd,data,sl⟩,e,hc,n,hd⟩:=id pl;simp only at hc hd;subst hc hd;have hne:its≠[]:=λz=>h0 (r.nil_iff.mp z);refine Yex (T := "tuple") (U := "int") (by decide) ⟨_,e,rfl⟩ (λs'=>YdW s' k t) jcF F.fills_int_mul Yc4 jec F.slot_int_index.lookup
  (Ybv Yc4 (YdW s k t) F.entry_int_rmul (F.args_int_rmul_2 _ _) (jdn k t l its.toArray n dd sl) ⟨e,rfl,⟨_,e,rfl⟩,?_⟩)
 by_cases hk:k=1
 ·subst hk;exact Ybv Yd2 ⟨_,e,rfl⟩ YdK (Ydt _ _) (jf1 l its.toArray n dd sl t) ⟨e,⟨.ref l,H,I,rfl,q1 rfl⟩⟩
 ·by_cases hk0:k=0
  ·subst hk0;refine Ybv Yd2 ⟨_,e,rfl⟩ YdK (Ydt _ _) (jf2 l its.toArray n dd sl t (by simpa using hne)) ⟨e,?_⟩
   refine⟨.ref s.heap.objs.size,_,I.laid (t':=s.toks) (o:=.tup []) (λb ob q=>Yad _ q) (Yag _) ?_,rfl,q2 hk _ (I.hok.fresh (Yag _))⟩;exact⟨Ybj _,[],.nil,TupD.new _ _⟩
  refine Ybv Yd2 ⟨_,e,rfl⟩ YdK (Ydt _ _) (jf0 l its.toArray n dd sl k t (by omega) h2 (by simpa using hne) (by rw[Yai,<- hl];exact hz)) ⟨e,?_⟩
  have f0:=jc9 its k.toNat [];rw[Ya6]at f0;rw[f0];refine⟨.ref s.heap.objs.size,_,I.laid (t':=s.toks) (o:=.tup (Yae k.toNat xs).flatten) (λb ob q=>Yad _ q) (Yag _) ?_,rfl,q2 hk _ (I.hok.fresh (Yag _))⟩;exact⟨by rw[jeX,Ydv];exact hz,_,r.rep k.toNat,TupD.new _ _⟩
noncomputable def repS (x:Str)(k:Nat):Str:=⟨(Yae k x.cps.toList).flatten.toArray⟩
def joh:R2:=λx y H Q=>∃z k,x=.str z/\y=.int k/\0<=k/\k<1000/\z.length<=1000/\Q (.str (repS z k.toNat)) H
theorem jfN (x:Array Nat):∀(k:Nat) (a:List Nat),((Yae k x).foldl (·++·) a.toArray)=(a++(Yae k x.toList).flatten).toArray
 |0,a=>by simp
 |k+1,a=>by
  rw[Ya8,YdR,show a.toArray++x=(a++x.toList).toArray by simp,jfN x k]
  simp[Ya8]
theorem jj2:OpR X (Ybd .Mult) joh:=by
 intro pins s σ H x y v u Q I rx ry h;obtain⟨z,k,rfl,rfl,h0,h1,hz,q⟩:=h;obtain⟨t,rfl⟩:=rx;obtain⟨t',rfl⟩:=ry;have hl:z.length*k.toNat<=1000000:=Yal (Nat.mul_le_mul hz (show k.toNat<=1000 by omega)) (by decide)
 refine P.mul_str (by simp;omega) (λh2 _=>?_) (λh2 _=>?_) ?_
 ·have:((2:Int) ^ 63-1)/k ≥ 1000:=by
   refine(Int.le_ediv_iff_mul_le (by omega)).mpr ?_
   omega
  omega
 ·exact decide_eq_false (by
   have:(1000000:Nat)<=Yah:=by decide
   omega)
 ·split
  ·have e:repS z k.toNat=YeA:=by rw[show k.toNat=0 by omega];rfl
   rw[e]at q;exact⟨by decide,.str _,H,I.tok _,⟨_,rfl⟩,q⟩
  ·split
   ·rename_i h2 h3;have e:repS z k.toNat=z:=by
     rw[Ycq,beq_iff_eq,beq_iff_eq]at h3;unfold repS;rcases h3 with h3|h3
     ·subst h3;simp
     ·have:z.cps.toList=[]:=by
       have:z.cps.size=0:=h3;simpa using this
      obtain⟨c⟩:=z;simp only at this ⊢;have hc:c=#[]:=by simpa using this
      subst hc;simp
    rw[e]at q;exact⟨.str _,H,I,⟨_,rfl⟩,q⟩
   ·have e:(Yae k.toNat z.cps).foldl (·++·) #[]=(Yae k.toNat z.cps.toList).flatten.toArray:=by
     have:=jfN z.cps k.toNat [];simpa using this
    refine⟨?_,.str _,H,I.tok _,⟨_,rfl⟩,?_⟩
    ·rw[e];show(Yae k.toNat z.cps.toList).flatten.toArray.size<=Yah;rw[Yai,jeX,Ydv];exact Yal hl (by decide)
    ·rw[e];exact q
theorem jeu {prog:Program}{w:World}{A:Around}{E:Value->Shared->Prop}{s:Shared}{v:Value}{Q:Value->Shared->Prop}
  (h:wpAny (model prog w) A.in1 (collect v) (λvs s1=>wpAny (model prog w) A.in1 (newList vs) (λl s2=>wpAny (model prog w) A.in1 (call (.builtin "list.sort") [l]) (λ_ s3=>Q l s3) E s2) E s1) E s) :
  wpAny (model prog w) A (call (.builtin "sorted") [v]) Q E s:=by
 have one:∀Z:Unit->Shared->Prop,Z () s->wpAny (model prog w) A.in1 (checkCount "sorted" 1 1 [v].length) Z E s:=λZ z=>Yap z;refine Calls.call_function_entry kind_sorted plain_sorted entry_sorted (args_sorted1 v) (Yaf (one _ (Yaf (thn h λvs s1 h1=>Yaf (thn h1 λl s2 h2=>?_)))));exact Yaf (Ybb (thn h2 λ_ s3 q=>Yap ⟨_,rfl,q⟩))
theorem jcj:∀{us:List Value} {ns:List Int},IntsAre us ns->Vals (ns.map V.int) us
 |_,_,.nil=>.nil
 |_,_,.cons n t r=>.cons ⟨t,rfl⟩ (jcj r)
theorem jg2:∀{kvs:List (Key×V)} {vs:List (Key×Value)},KV kvs vs->vs.map (·.1)=kvs.map (·.1)
 |_,_,.nil=>rfl
 |_,_,.cons a r=>by
  rw[YaB,YaB,jg2 r,a.1]
theorem jha {P:Program}{w:World}:∀{ns:List Int} {acc:List Value} {vs:List (Key×Value)},vs.map (·.1)=ns.map (λz=>(.inl z:Key))->acc.length=ns.length->(∀(j:Nat) (v:Value),acc[j]?=some v->∃k x,vs[j]?=some (k,x)/\(jai P w).is k v=true)->IntsAre acc ns
 |[],[],_,_,_,_=>.nil
 |z::ns,v::acc,(k,x)::vs,e,hl,h=>by
  obtain⟨k',x',h1,h2⟩:=h 0 v rfl;have e1:(k,x)=(k',x'):=Yar h1;injection e1 with e1 e2
  subst e1;rw[YaB,YaB]at e;injection e with ek er
  have ek:k=.inl z:=ek;subst ek;obtain⟨t,rfl⟩:∃t,v=.int z t:=by
   have h2:jeZ (.inl z) v=true:=h2;rcases jal h2 with⟨i,t,e,rfl⟩|⟨y,t,e,_⟩
   ·injection e with e;rw[e];exact⟨t,rfl⟩
   ·exact nomatch e
  exact .cons z t (jha er (by simpa using hl) λj v hj=>h (j+1) v hj)
 |z::ns,v::acc,[],e,_,_=>by cases e
 |z::ns,[],_,_,hl,_=>by cases hl
 |[],v::acc,_,_,hl,_=>by cases hl
end
end L2

namespace L2
open PySem PySem.Spec PyProof.Rows
open Sem (wp)
open AutoSeq1 (wpAny_loadPart')
section
variable {prog:Program}{w:World}{A:Around}{E:Value->Shared->Prop}{s:Shared}
theorem jfd {it t:Addr}{i:Nat}{items:Array Value}{Q:Value->Shared->Prop}(hh:A.handled=none)(hit:s.heap.IsTupleIter it t i)(ht:s.heap.IsTuple t items)
  (more:∀x h',items[i]?=some x->h'.IsTupleIter it t (i+1)->Ycv it s.heap h'->Q x { s with heap:=h' })
  (stop:items[i]?=none->∀h' e,Heap.ExtBut it s.heap h'->(∃o,h'.get? e=some o/\o.cls=.type "StopIteration")->E (.ref e) { s with heap:=h' }) :
  wpAny (model prog w) A (Yfy (.ref it)) Q E s:=by
 have ty:=hit.typeIs;rcases hit with⟨⟨c,dc,dt,sl⟩,ho,e1,e2⟩;rcases ht with⟨⟨c',dc',dt',sl'⟩,hl,-,n,e4⟩;dsimp only at e1 e2 e4;subst e1 e2 e4;have up:∀f:Array Value->Array Value,Ycv it s.heap (s.heap.update it (Ybx f)):=λf=>Ycv.update ..;have got:∀f:Array Value->Array Value,(s.heap.update it (Ybx f)).get? it=some ⟨.type "tuple_iterator",dc,.fields (f #[.ref t,.int i 0]),sl⟩:=λf=>YcW _ ho rfl;refine Yaf (Yb8 (name:=YbH "__next__") ty Yel (Ycr Yel ty F.entry_tuple_iterator_next ?_ (F.args_tuple_iterator_next_1 _)))
 wp_walk using YdL ho,YdL hl
 rw[Yds];cases hx:items[i]? with
 |some x=>exact Yaf (YcJ ho rfl (Nat.lt_succ_self 1) (Yap ⟨x,rfl,Yap (more x _ hx ⟨_,got _,rfl,rfl⟩ (up _))⟩))
 |none=>
  refine Yaf (wpAny_rule (Yaf (YcJ ho rfl (Nat.zero_lt_succ 1) ?_)));unfold Yfx
  wp_walk
  exact wpAny_raiseNew_none hh (stop hx _ _ (((up _).extBut.push _).push _) ⟨_,Yaq _ rfl,rfl⟩)
theorem jev {prog:Program}{w:World}{A:Around}(hh:A.handled=none)(it t:Addr)(hne:t≠it)(items:Array Value) :
  Draws prog w A it [it,t] items.size (λi v=>items[i]?=some v) (λi h=>h.IsTupleIter it t i/\h.IsTuple t items):=by
 refine⟨λi h st=>?_,λi h h' st hk=>?_,λi s Q E hi st hQ=>?_,λs Q E st hE=>?_⟩
 ·rcases st.1 with⟨o,ho,-⟩;exact⟨o,ho⟩
 ·rcases st with⟨⟨o,ho,r⟩,⟨u,hu,q⟩⟩;exact⟨⟨o,hk it (by simp) o ho,r⟩,⟨u,hk t (by simp) u hu,q⟩⟩
 ·refine jfd hh st.1 st.2 (λx h' e hit sb=>hQ x h' s.toks e ⟨hit,st.2.extBut sb.extBut hne⟩ sb) λz=>?_;exact absurd (Array.getElem?_eq_none_iff.mp z) (by omega)
 ·refine jfd hh st.1 st.2 (λx h' e=>?_) λ_=>hE;exact absurd (Array.getElem?_eq_some_iff.mp e).1 (Ybf _)
theorem jhT {α:Type}{M:Model}{x:α}{Q:α->Shared->Prop}(h:∀y,Q y s):wpAny M A (pure x) Q E s:=Yap (h x)
theorem jbU (v:Value)(ob:Obj) :
  Meets (Builtin.«enumerate.__new__» ⟨[.type "enumerate",v],[]⟩) (λ_ R s=>(∀(prog:Program) (w:World) (A:Around) (Q E:Value->Shared->Prop),Q (.ref s.heap.objs.size) { s with heap:=s.heap.push ob }->wpAny (model prog w) A (pyIter v) Q E s)/\
   R (.ok (.ret (.ref (s.heap.push ob).objs.size))) { s with heap:=(s.heap.push ob).push ⟨.type "enumerate",none,.fields #[.none,.bool false,.ref s.heap.objs.size,rawInt 0,.none,.none],#[]⟩ }):=
 .of_wp λprog w A R s h=>by
  rcases s with⟨hp,g,d,tk,os⟩;rcases h with⟨hi,h⟩;have hsub:=sub_enumerate
  wp_walk
  refine wpAny_stack_any λst=>jhT λb=>?_;cases b<;>(wp_walk using hi prog w;exact⟨_,rfl,h⟩)
theorem jd2 {l:Addr}{items:Array Value}{Q:Value->Shared->Prop}(hL:s.heap.IsTuple l items)
  (h:∀h',IsEnum h' (s.heap.objs.size+1) s.heap.objs.size 0 .none->h'.IsTupleIter s.heap.objs.size l 0->(∀b o,s.heap.get? b=some o->h'.get? b=some o)->Q (.ref (s.heap.objs.size+1)) { s with heap:=h' }) :
  wpAny (model prog w) A (call (.type "enumerate") [.ref l]) Q E s:=by
 have at2:∀(p:Heap) (n:Nat) (o:Obj),p.objs.size=n->o.isFreed=false->(p.push o).get? n=some o:=λp n o e f=>by
  subst e;exact Yaq p f
 have sz:=λo=>Ycy s.heap o;refine callType_new F.called_enumerate (by decide) (YeW _) (Yfi _) (λobj=>Yfw obj _) Yfj (jbU (.ref l) _) ⟨λ_ _ _ _ _ q=>wpAny_pyIter_tuple hL q,?_⟩
 rw[sz];have he:=at2 _ _ ⟨.type "enumerate",none,.fields #[.none,.bool false,.ref s.heap.objs.size,rawInt 0,.none,.none],#[]⟩ (sz ⟨.type "tuple_iterator",none,.fields #[.ref l,.int 0 0],#[]⟩) rfl;exact⟨⟨_,he,rfl⟩,h _ he ⟨_,Yad _ (at2 _ _ _ rfl rfl),rfl,rfl⟩ λb o x=>Yad _ (Yad _ x)⟩
end
section
variable {X:Cx}{pins:List (Addr×Obj)}{σ:St}{H:Hp}{s:Shared}{h':Heap}
theorem jgr {t':Nat}{e it:Addr}(I:Inv X pins σ H s)(k:∀b o,b≠e->b≠it->s.heap.get? b=some o->h'.get? b=some o)(fe:FpOk X pins H e)(fi:FpOk X pins H it):Inv X pins σ H { s with heap:=h',toks:=t' }:=by
 obtain⟨e0,e1,_,e3,e4,e5⟩:=fe;obtain⟨i0,i1,_,i3,i4,i5⟩:=fi;have ne:∀b u,H b=some u->b≠e:=λb u q z=>by rw[z,e0]at q;cases q
 have ni:∀b u,H b=some u->b≠it:=λb u q z=>by rw[z,i0]at q;cases q
 have kk:∀b o,b∉[e,it]->s.heap.get? b=some o->h'.get? b=some o:=λb o hc q=>k b o (λz=>hc (by simp[z])) (λz=>hc (by simp[z])) q
 refine I.step (g':=s.gens) (d':=s.drawn) (ch:=[e,it]) (λb hb=>?_) (λb o _ _ hc q _=>kk b o hc q) (λb o _ _ hc q _=>⟨o.slots,kk b o hc q⟩) (λ_ _ _ _ n=>n)
  (λb o hc q=>⟨o,kk b o hc q⟩) (λ_ _ q=>q) (λ_ _ _ q=>q) (λb ps q=>⟨#[],by rw[q];simp⟩) (λm hm=>?_) (λb u q=>?_) I.bare
 ·simp only[YaO,Yav,or_false]at hb;rcases hb with rfl|rfl
  ·exact⟨e3,e1,e4,e5⟩
  ·exact⟨i3,i1,i4,i5⟩
 ·obtain⟨o,es,ep,ho,r⟩:=hm;exact⟨o,es,ep,k _ o (Ne.symm e1) (Ne.symm i1) ho,r⟩
 ·refine(I.hok b u q).stay (λc v hc y=>k c v ?_ ?_ y) (λ_ y=>y) λ_ _ y=>y
  ·rcases hc with z|z
   ·rw[z];exact ne b u q
   ·exact ne c _ z
  ·rcases hc with z|z
   ·rw[z];exact ni b u q
   ·exact ni c _ z
noncomputable def Ite (_K:Yab)(a:Addr):It:=
 ⟨λi H=>∃xs x,H a=some (.tup xs)/\xs[i]?=some x,λi H y H'=>∃xs x p,H a=some (.tup xs)/\xs[i]?=some x/\y=.ref p/\H p=none/\H'=upd H p (.tup [.int (i:Int),x]),λi H=>∃xs,H a=some (.tup xs)/\xs.length=i⟩
theorem jgt {P:Program}{w:World}{K:Yab}{elts:List Expr}{x1}{pos:Pos}(a e it:Addr)(hei:e≠it)(hae:a≠e)(hai:a≠it) :
  Turn P w K (.Tuple elts x1 pos) (Ite K a) [e,it] e (λi h=>(∃old,IsEnum h e it (i:Int) old)/\h.IsTupleIter it a i) where
 mem:=by simp
 obj:=λi h st b hb=>by
  obtain⟨⟨old,he⟩,o,ho,c,d⟩:=st;simp only[YaO,Yav,or_false]at hb;rcases hb with rfl|rfl
  ·exact⟨_,he,λv z=>nomatch z⟩
  ·exact⟨o,ho,λv z=>by rw[d]at z;cases z⟩
 keep:=λi h h' st k=>by
  obtain⟨⟨old,he⟩,o,ho,r⟩:=st;exact⟨⟨old,k e (by simp) _ he⟩,o,k it (by simp) _ ho,r⟩
 item:=by
  intro X hP hw hK hc i pins s σ H E I hf st hg;subst hP hw hK;obtain⟨xs,x,hq,hx⟩:=hg;obtain⟨its,rv,p,hz⟩:=I.tuple (SqT.of hq);obtain⟨u,hu,ru⟩:=rv.get hx;obtain⟨⟨old,he⟩,hit⟩:=st;have hlt:i<its.toArray.size:=by
   have:=(List.getElem?_eq_some_iff.mp hu).1;simpa using this
  refine YeX (jev (A:=X.A.in1) (I.ok.hd hc) it a hai its.toArray) he ⟨hit,p⟩ hlt hei (by simp;exact⟨hei,Ne.symm hae⟩) λx' h' tk hP ho hs' hT hsz hk=>?_
  refine⟨_,rfl,Yeu ho λh2 he2 hs2=>?_⟩;have ex:x'=u:=by
   have:its.toArray[i]?=some u:=by simpa using hu
   exact Yar (hP.symm.trans this)
  subst ex;have hfr:H s.heap.objs.size=none:=I.hok.fresh (Yag _);have hen:e≠s.heap.objs.size:=Yax (Yao he);have hin:it≠s.heap.objs.size:=by obtain⟨o,ho',_⟩:=hit;exact Yax (Yao ho')
  have I1:Inv X pins σ (upd H s.heap.objs.size (.tup [.int (i:Int),x])) { s with heap:=s.heap.push { cls:=.type "tuple",data:=.seq #[.int i tk,x'] },toks:=tk+1 }:=by
   refine I.laid (λb o y=>Yad _ y) (Yag _) ⟨by show 2<=Yah;decide,[.int i tk,x'],.cons ⟨tk,rfl⟩ (.cons ru .nil),TupD.new _ _⟩
  have fpU:∀b,b≠s.heap.objs.size->FpOk X pins H b->FpOk X pins (upd H s.heap.objs.size (.tup [.int (i:Int),x])) b:=λb hb f=>⟨by rw[jac hb];exact f.1,f.2⟩
  have kk:∀b o,b≠e->b≠it->(s.heap.push { cls:=.type "tuple",data:=.seq #[.int i tk,x'] }).get? b=some o->h2.get? b=some o:=λb o be bi y=>by
   have step:h'.get? b=some o:=by
    by_cases hb:b=s.heap.objs.size
    ·subst hb;rw[hT];exact(Yaq s.heap (o:={ cls:=.type "tuple",data:=.seq #[.int i tk,x'] }) rfl).symm.trans y
    ·rw[Ydk _ _ _ hb]at y;exact hk b o be bi y
   exact(hs2.2 b be).trans step
  have I2:Inv X pins σ (upd H s.heap.objs.size (.tup [.int (i:Int),x])) { s with heap:=h2,toks:=tk+1 }:=
   jgr (s:={ s with heap:=s.heap.push { cls:=.type "tuple",data:=.seq #[.int i tk,x'] },toks:=tk+1 }) (h':=h2) (t':=tk+1) (e:=e) (it:=it) I1 kk (fpU e hen (hf e (by simp))) (fpU it hin (hf it (by simp)))
  refine⟨.ref s.heap.objs.size,_,I2,rfl,⟨xs,x,_,hq,hx,rfl,hfr,rfl⟩,⟨⟨_,by simpa using he2⟩,?_⟩,λb hb=>?_⟩
  ·obtain⟨o,ho',r⟩:=hs'.1;exact⟨o,(hs2.2 it (Ne.symm hei)).trans ho',r⟩
  ·simp only[YaO,Yav,or_false]at hb;rcases hb with rfl|rfl
   ·rw[jac hen];exact(hf _ (by simp)).1
   ·rw[jac hin];exact(hf _ (by simp)).1
 done:=by
  intro X hP hw hK hc i pins s σ H E I hf st hg;subst hP hw hK;obtain⟨xs,hq,hx⟩:=hg;obtain⟨its,rv,p,hz⟩:=I.tuple (SqT.of hq);obtain⟨⟨old,he⟩,hit⟩:=st;have hl:its.toArray.size=i:=by rw[Yai,<- rv.length];exact hx
  refine Yfl (jev (A:=X.A.in1) (I.ok.hd hc) it a hai its.toArray) he ⟨by rw[hl];exact hit,p⟩ λh' eb=>⟨rfl,?_⟩
  obtain⟨f0,f1,f2,f3,f4,f5⟩:=hf it (by simp)
  exact I.turned (t':=s.toks) (λb o hb y=>eb b o hb y) f0 f1 f3 f4 f5
 self:=λA i s Q E st h=>by
  obtain⟨⟨old,he⟩,_⟩:=st;exact YcN he h
end
section
variable {X:Cx}
end
end L2

namespace L2
open PySem PySem.Spec PyProof.Rows
section
variable {X:Cx}
theorem je7:ja5 X (.builtin "isinstance") (λxs H Q=>∃(x:V) (c:String) (t:Value) (b:Bool),xs=[x,.ty c]/\TyOf X.K H x t/\YcQ X.K t (.type c)=some b/\Q (.bl b) H):=by
 intro pins s σ H xs us Q I r h;obtain⟨x,c,t,b,rfl,ty,e,q⟩:=h;obtain⟨u,v,rfl,ru,rv⟩:=Vals.two r;cases rv;exact jg7 I ru ty e λtk=>⟨.bl b,H,I.tok tk,rfl,q⟩
end
section
variable {prog:Program}{w:World}{A:Around}{R:Result->Shared->Prop}{I:Addr}{fp wr:List Addr}{n:Nat}{P:Nat->Value->Prop}{St:Nat->Heap->Prop}
end
section
variable {prog:Program}{w:World}{A:Around}{E:Value->Shared->Prop}{s:Shared}
end

noncomputable def jm4 (ks:List (List Int)):Nat:=argBest (λi j=>HT.lexLt (ks.getD i []) (ks.getD j [])) (ks.length-1)
def KeyI (H:Hp)(v:V)(k:List Int):Prop:=∃n,v=.int n/\k=[n]
def KeyT (K:Yab)(H:Hp)(v:V)(k:List Int):Prop:=∃t,v=.ref t/\SqT K H t (k.map V.int)
section
variable {X:Cx}
theorem jfb {vs:List V}{us:List Value}(r:Vals vs us){i:Nat}{u:Value}(h:us[i]?=some u):∃v,vs[i]?=some v/\RelV v u:=by
 induction r generalizing i with
 |nil=>cases h
 |cons a r ih=>
  cases i with
  |zero=>exact⟨_,rfl,by cases h;exact a⟩
  |succ i=>exact ih h
theorem jfI {ns:List Int}{us:List Value}(r:Vals (ns.map V.int) us):IntsAre us ns:=by
 induction ns generalizing us with
 |nil=>cases r;exact .nil
 |cons n ns ih=>
  cases r with
  |cons a r=>
   obtain⟨t,rfl⟩:=a;exact .cons n t (ih r)
end
end L2

namespace L2
open PySem PySem.Spec PyProof.Rows PySem.W
section
variable {n:Nat}{lt:Nat->Nat->Bool}{cmp:Nat->Nat->(Bool->Shared->Prop)->Shared->Prop}{s:Shared}
structure Asks (n:Nat)(lt:Nat->Nat->Bool)(cmp:Nat->Nat->(Bool->Shared->Prop)->Shared->Prop)(s:Shared):Prop where
 ask:∀i j C,i<n->j<n->C (lt i j) s->cmp i j C s
 tr:∀i j k,i<n->j<n->k<n->lt i j=true->lt j k=true->lt i k=true
 tot:∀i j,i<n->j<n->i≠j->lt i j=true\/lt j i=true
 ir:∀i,i<n->lt i i=false
noncomputable def gD (p:Array Nat)(k:Nat):Nat:=p.getD k 0
structure Arr (n:Nat)(p:Array Nat):Prop where
 z:p.size=n
 b:∀i,i<n->gD p i<n
 inj:∀i j,i<n->j<n->gD p i=gD p j->i=j
 pm:p.toList.Perm (YaX n)
def Asc (lt:Nat->Nat->Bool)(p:Array Nat)(m:Nat):Prop:=∀i,i+1<m->lt (gD p i) (gD p (i+1))=true
theorem Asks.no (a:Asks n lt cmp s){p:Array Nat}(r:Arr n p){i j:Nat}(hi:i<n)(hj:j<n)(hne:i≠j)(h:lt (gD p i) (gD p j)=false):lt (gD p j) (gD p i)=true:=by
 rcases a.tot _ _ (r.b i hi) (r.b j hj) (λz=>hne (r.inj i j hi hj z))with z|z
 ·rw[h]at z;cases z
 ·exact z
theorem Asc.less (a:Asks n lt cmp s){p:Array Nat}(r:Arr n p){m:Nat}(hm:m<=n)(h:Asc lt p m):∀d i,i+d+1<m->lt (gD p i) (gD p (i+d+1))=true
 |0,i,hi=>h i hi
 |d+1,i,hi=>a.tr _ _ _ (r.b _ (by omega)) (r.b _ (by omega)) (r.b _ (by omega)) (Asc.less a r hm h d i (by omega)) (h (i+d+1) hi)
theorem jhG (a:Asks n lt cmp s){p:Array Nat}(r:Arr n p){Q:Nat->Shared->Prop}{m:Nat}(hm:m<=n):∀(f k:Nat),1<=k->k+f=m->Asc lt p k->(∀k',k<=k'->k'<=m->Asc lt p k'->(k'<m->lt (gD p k') (gD p (k'-1))=true)->Q k' s)->(kas_asc p f k).kasWp cmp Q s
 |0,k,_,e,h,q=>q k (Yag _) (by omega) h λz=>by omega
 |f+1,k,h1,e,h,q=>by
  refine a.ask _ _ _ (r.b k (by omega)) (r.b (k-1) (by omega)) ?_
  show(if lt (gD p k) (gD p (k-1))=true then Yfg k else kas_asc p f (k+1)).kasWp cmp Q s
  by_cases c:lt (gD p k) (gD p (k-1))=true
  ·rw[if_pos c];exact q k (Yag _) (by omega) h λ_=>c
  ·rw[if_neg c];have c:lt (gD p (k-1)) (gD p k)=true:=a.no r (by omega) (by omega) (by omega) (by simpa using c)
   refine jhG a r hm f (k+1) (by omega) (by omega) (λi hi=>?_) λk' h2 h3 h4 h5=>q k' (by omega) h3 h4 h5
   by_cases z:i+1=k
   ·have:i=k-1:=by omega
    rw[z,this];exact c
   ·exact h i (by omega)
theorem jhr (a:Asks n lt cmp s){p:Array Nat}(r:Arr n p){Q:Array Nat×Nat×Nat->Shared->Prop}{m:Nat}(hm:m<=n):∀(f k:Nat),1<=k->k+f=m->(∀i,i+1<k->lt (gD p (i+1)) (gD p i)=true)->(∀k',k<=k'->k'<=m->(∀i,i+1<k'->lt (gD p (i+1)) (gD p i)=true)->Q (p,k',0) s)->(kas_desc f p k 0).kasWp cmp Q s
 |0,k,_,e,h,q=>q k (Yag _) (by omega) h
 |f+1,k,h1,e,h,q=>by
  refine a.ask _ _ _ (r.b k (by omega)) (r.b (k-1) (by omega)) ?_
  show(if lt (gD p k) (gD p (k-1))=true then (if 0>0 then kas_desc f (kas_rev p (k-(0+1)) k) (k+1) 0 else kas_desc f p (k+1) 0)
   else KasT.ask (gD p (k-1)) (gD p k) λd=>if d=true then Yfg (p,k,0) else kas_desc f p (k+1) (0+1)).kasWp cmp Q s
  by_cases c:lt (gD p k) (gD p (k-1))=true
  ·rw[if_pos c,if_neg (by decide)]
   refine jhr a r hm f (k+1) (by omega) (by omega) (λi hi=>?_) λk' h2 h3 h4=>q k' (by omega) h3 h4
   by_cases z:i+1=k
   ·have:i=k-1:=by omega
    rw[z,this];exact c
   ·exact h i (by omega)
  ·rw[if_neg c];have c:lt (gD p (k-1)) (gD p k)=true:=a.no r (by omega) (by omega) (by omega) (by simpa using c)
   refine a.ask _ _ _ (r.b (k-1) (by omega)) (r.b k (by omega)) ?_
   dsimp only;rw[if_pos c];exact q k (Yag _) (by omega) h
theorem jhj {p q:Array Nat}{i j:Nat}(h:p[i]?=q[j]?):gD p i=gD q j:=by
 unfold gD;rw[YbG,YbG,h]
theorem jeQ {p:Array Nat}{m:Nat}(hm:m<=p.size)(k:Nat):gD (kas_rev p 0 m) k=if k<m then gD p (m-1-k) else gD p k:=by
 have:=getElem?_mirror_all (xs:=p) (i:=0) hm k;split
 ·rename_i h;refine jhj ?_;show(mirror p 0 m ((m-0)/2))[k]?=_;rw[this,if_pos ⟨Ybj _,h⟩];congr 1;omega
 ·rename_i h;refine jhj ?_;show(mirror p 0 m ((m-0)/2))[k]?=_;rw[this,if_neg (λz=>h z.2)]
theorem Arr.rev {p:Array Nat}(r:Arr n p){m:Nat}(hm:m<=n):Arr n (kas_rev p 0 m):=by
 have g:=λk=>jeQ (p:=p) (m:=m) (by rw[r.z];exact hm) k
 refine⟨by rw[kas_rev_size,r.z],λi hi=>?_,λi j hi hj e=>?_,(Array.perm_iff_toList_perm.mp (mirror_perm p 0 m ((m-0)/2))).trans r.pm⟩
 ·rw[g];split
  ·exact r.b _ (by omega)
  ·exact r.b _ hi
 ·rw[g,g]at e;split at e<;>split at e
  ·have:=r.inj _ _ (by omega) (by omega) e;omega
  ·have:=r.inj _ _ (by omega) (by omega) e;omega
  ·have:=r.inj _ _ (by omega) (by omega) e;omega
  ·exact r.inj _ _ hi hj e
theorem jiv (a:Asks n lt cmp s){p:Array Nat}(r:Arr n p){Q:Nat×Array Nat->Shared->Prop}(h2:2<=n)(q:∀k p',1<=k->k<=n->Arr n p'->Asc lt p' k->Q (k,p') s):(kas_count n p).kasWp cmp Q s:=by
 unfold kas_count;rw[Ycp];refine jhG a r (m:=n) (Yag _) (n-1) 1 (Yag _) (by omega) (λi hi=>by omega) λk h1 h3 h4 h5=>?_
 by_cases e:k=n
 ·rw[if_pos (by simpa using e)]
  exact q k p h1 h3 r h4
 ·rw[if_neg (by simpa using e)]
  by_cases hk:k>1
  ·rw[if_pos hk];refine a.ask _ _ _ (r.b 0 (by omega)) (r.b (k-1) (by omega)) ?_
   have c:lt (p.getD 0 0) (p.getD (k-1) 0)=true:=by
    have:=Asc.less a r h3 h4 (k-2) 0 (by omega)
    rw[show 0+(k-2)+1=k-1 by omega]at this
    exact this
   dsimp only;rw[if_pos c];exact q k p h1 h3 r h4
  ·rw[if_neg hk];have k1:k=1:=by omega
   subst k1;unfold kas_descPart;rw[Ycp];refine jhr a r (m:=n) (Yag _) (n-(1+1)) (1+1) (by omega) (by omega) (λi hi=>?_) λk' h6 h7 h8=>?_
   ·have:i=0:=by omega
    subst this;exact h5 (by omega)
   ·rw[if_neg (by show ¬(0>0);omega)]
    show(kas_tail3 k' n p).kasWp cmp Q s;unfold kas_tail3;rw[Ycp];have rr:=r.rev h7;refine jhG a rr (m:=n) (Yag _) (n-k') k' (by omega) (by omega) (λi hi=>?_) λk2 h9 ha hb hc=>?_
    ·rw[jeQ (by rw[r.z];exact h7),jeQ (by rw[r.z];exact h7),if_pos (by omega),if_pos hi]
     have:=h8 (k'-1-(i+1)) (by omega)
     rw[show k'-1-(i+1)+1=k'-1-i by omega]at this
     exact this
    ·exact q k2 _ (by omega) ha rr hb
theorem jdQ (a:Asks n lt cmp s){p:Array Nat}(r:Arr n p){Q:Nat->Shared->Prop}{k:Nat}(hk:k<n)(hs:Asc lt p k):∀(f l u:Nat),l<=u->u<=k->u-l<=f->(∀i,i<l->lt (gD p i) (gD p k)=true)->(∀i,u<=i->i<k->lt (gD p k) (gD p i)=true)->
  (∀l',l'<=k->(∀i,i<l'->lt (gD p i) (gD p k)=true)->(∀i,l'<=i->i<k->lt (gD p k) (gD p i)=true)->Q l' s)->(YfD p k f l u).kasWp cmp Q s
 |0,l,u,h1,h2,h3,h4,h5,q=>q l (by omega) h4 λi hi=>h5 i (by omega)
 |f+1,l,u,h1,h2,h3,h4,h5,q=>by
  show(if l ≥ u then Yfg l else KasT.ask (gD p k) (gD p ((l+u)/2)) λc=>if c=true then YfD p k f l ((l+u)/2) else YfD p k f ((l+u)/2+1) u).kasWp cmp Q s
  by_cases e:l ≥ u
  ·rw[if_pos e];exact q l (by omega) h4 λi hi=>h5 i (by omega)
  ·rw[if_neg e];obtain⟨m,hm⟩:∃m,m=(l+u)/2:=⟨_,rfl⟩;rw[<- hm];have m1:l<=m:=by omega
   have m2:m<u:=by omega
   refine a.ask _ _ _ (r.b k hk) (r.b m (by omega)) ?_
   dsimp only;by_cases c:lt (gD p k) (gD p m)=true
   ·rw[if_pos c];refine jdQ a r hk hs f l m m1 (by omega) (by omega) h4 (λi hi1 hi2=>?_) q
    by_cases z:i=m
    ·rw[z];exact c
    ·have:=Asc.less a r (Yb0 hk) hs (i-m-1) m (by omega)
     rw[show m+(i-m-1)+1=i by omega]at this
     exact a.tr _ _ _ (r.b _ hk) (r.b _ (by omega)) (r.b _ (by omega)) c this
   ·rw[if_neg c];have c:lt (gD p m) (gD p k)=true:=a.no r hk (by omega) (by omega) (by simpa using c)
    refine jdQ a r hk hs f (m+1) u (by omega) h2 (by omega) (λi hi=>?_) h5 q
    by_cases z:i=m
    ·rw[z];exact c
    ·have:=Asc.less a r (Yb0 hk) hs (m-i-1) i (by omega)
     rw[show i+(m-i-1)+1=m by omega]at this
     exact a.tr _ _ _ (r.b _ (by omega)) (r.b _ (by omega)) (r.b _ hk) this c
theorem jkV {p:Array Nat}{k l:Nat}(hk:k<p.size)(hl:l<=k)(i:Nat):gD (bubble p k (k-l)) i=if i=l then gD p k else if l<i/\i<=k then gD p (i-1) else gD p i:=by
 have:=getElem?_bubble (xs:=p) hk (k-l) (by omega) i
 rw[show k-(k-l)=l by omega]at this
 split
 ·rename_i h;refine jhj ?_;rw[this,if_pos h]
 ·rename_i h;rw[if_neg h]at this;split
  ·rename_i h';refine jhj ?_;rw[this,if_pos h']
  ·rename_i h';refine jhj ?_;rw[this,if_neg h']
theorem jjb (a:Asks n lt cmp s){Q:Array Nat->Shared->Prop}(q:∀p,Arr n p->Asc lt p n->Q p s):∀(f:Nat) (p:Array Nat) (k:Nat),Arr n p->k+f=n->Asc lt p k->(kas_bin f p k).kasWp cmp Q s
 |0,p,k,r,e,h=>by
  have:k=n:=by omega
  subst this;exact q p r h
 |f+1,p,k,r,e,h=>by
  show((YfD p k k 0 k).bind λl=>kas_bin f (bubble p k (k-l)) (k+1)).kasWp cmp Q s;rw[Ycp];refine jdQ a r (by omega) h k 0 k (Ybj _) (Yag _) (by omega) (λi hi=>by omega) (λi h1 h2=>by omega) λl hl h1 h2=>?_
  have g:=λi=>jkV (p:=p) (k:=k) (l:=l) (by rw[r.z];omega) hl i
  refine jjb a q f _ (k+1) ⟨by rw[bubble_size,r.z],λi hi=>?_,λi j hi hj e'=>?_,(Array.perm_iff_toList_perm.mp (bubble_perm p k (k-l))).trans r.pm⟩ (by omega) λi hi=>?_
  ·rw[g];split
   ·exact r.b _ (by omega)
   ·split
    ·exact r.b _ (by omega)
    ·exact r.b _ hi
  ·have g2:∀i,gD (bubble p k (k-l)) i=gD p (if i=l then k else if l<i/\i<=k then i-1 else i):=λi=>by
    rw[g];split
    ·rfl
    ·split<;>rfl
   rw[g2,g2]at e';have bd:∀i,i<n->(if i=l then k else if l<i/\i<=k then i-1 else i)<n:=λi hi=>by
    split
    ·omega
    ·split<;>omega
   have e2:=r.inj _ _ (bd i hi) (bd j hj) e';by_cases x1:i=l
   ·rw[if_pos x1]at e2;by_cases y1:j=l
    ·omega
    ·rw[if_neg y1]at e2;by_cases y2:l<j/\j<=k
     ·rw[if_pos y2]at e2;omega
     ·rw[if_neg y2]at e2;omega
   ·rw[if_neg x1]at e2;by_cases y1:j=l
    ·rw[if_pos y1]at e2;by_cases x2:l<i/\i<=k
     ·rw[if_pos x2]at e2;omega
     ·rw[if_neg x2]at e2;omega
    ·rw[if_neg y1]at e2;by_cases x2:l<i/\i<=k
     ·rw[if_pos x2]at e2;by_cases y2:l<j/\j<=k
      ·rw[if_pos y2]at e2;omega
      ·rw[if_neg y2]at e2;omega
     ·rw[if_neg x2]at e2;by_cases y2:l<j/\j<=k
      ·rw[if_pos y2]at e2;omega
      ·rw[if_neg y2]at e2;omega
  ·rw[g,g];by_cases c1:i+1<l
   ·rw[if_neg (by omega),if_neg (by omega),if_neg (by omega),if_neg (by omega)]
    exact h i (by omega)
   ·by_cases c2:i+1=l
    ·rw[if_neg (by omega),if_neg (by omega),if_pos c2]
     exact h1 i (by omega)
    ·by_cases c3:i=l
     ·rw[if_pos c3,if_neg (by omega),if_pos (by omega)]
      rw[show i+1-1=l by omega]
      exact h2 l (Yag _) (by omega)
     ·rw[if_neg c3,if_pos (by omega),if_neg (by omega),if_pos (by omega)]
      have:=h (i-1) (by omega)
      rw[show i-1+1=i+1-1 by omega]at this
      exact this
theorem jju (a:Asks n lt cmp s){Q:Array Nat->Shared->Prop}(h2:2<=n)(q:∀p,Arr n p->Asc lt p n->Q p s):(kas_sort n).kasWp cmp Q s:=by
 unfold kas_sort;rw[Ycp];have r0:Arr n (YcR (YaX n)):=by
  have g:∀i,i<n->gD (YcR (YaX n)) i=i:=λi hi=>by unfold gD;simp[Array.getD,hi]
  exact⟨by simp,λi hi=>by rw[g i hi];exact hi,λi j hi hj e=>by rw[g i hi,g j hj]at e;exact e,by simp⟩
 refine jiv a r0 h2 λk p' h1 h3 r h4=>?_;show(if k<n then kas_bin (n-max k 1) p' (max k 1) else Yfg p').kasWp cmp Q s
 by_cases c:k<n
 ·rw[if_pos c,Nat.max_eq_left h1];exact jjb a q (n-k) p' k r (by omega) h4
 ·rw[if_neg c];have:k=n:=by omega
  subst this;exact q p' r h4
end
end L2

namespace L2
open PySem PySem.Spec PyProof.Rows PySem.W
open PySem.AutoSeq1 (wpAny_loadPart')
open PySem.MeetsSeq PySem.MeetsSeq2 PySem.MeetsSeq3
theorem jfH {us:List Value}{ns:List Int}(r:IntsAre us ns){i:Nat}{u:Value}(h:us[i]?=some u):∃z t,ns[i]?=some z/\u=.int z t:=by
 induction r generalizing i with
 |nil=>cases h
 |cons z t r ih=>
  cases i with
  |zero=>cases h;exact⟨z,t,rfl,rfl⟩
  |succ i=>exact ih h
section
variable {ns ms:List Int}{i:Nat}
theorem jin {a c:Int}(h1:ns[i]?=some a)(h2:ms[i]?=some c):HT.lexLt (ns.drop i) (ms.drop i)=if a=c then HT.lexLt (ns.drop (i+1)) (ms.drop (i+1)) else decide (a<c):=by
 obtain⟨g1,e1⟩:=List.getElem?_eq_some_iff.mp h1;obtain⟨g2,e2⟩:=List.getElem?_eq_some_iff.mp h2;rw[YaU g1,YaU g2,HT.lexLt_cons,e1,e2]
theorem jko (h:i=ns.length\/i=ms.length)(h1:i<=ns.length)(h2:i<=ms.length):HT.lexLt (ns.drop i) (ms.drop i)=decide (ns.length<ms.length):=by
 by_cases e1:i=ns.length
 ·rw[Ybz (l:=ns) (by omega)]
  by_cases e2:i=ms.length
  ·rw[Ybz (by omega),HT.lexLt_nil_nil];exact(decide_eq_false (by omega)).symm
  ·rw[YaU (l:=ms) (by omega),HT.lexLt_nil_cons];exact(decide_eq_true (by omega)).symm
 ·rw[YaU (l:=ns) (by omega),Ybz (l:=ms) (by omega),HT.lexLt_cons_nil];exact(decide_eq_false (by omega)).symm
end
theorem jkl (l b : Addr)(xs ys : Array Value)(n m : Nat)(dd de : Option Addr)(sl sm : Array (Option Value))(ns ms : List Int)(hi : IntsAre xs.toList ns)(hj : IntsAre ys.toList ms)(k : Nat) :
    ∀ i : Nat, ns.length - i = k -> i <= ns.length -> i <= ms.length -> Meets (Builtin.«list.__eq__.loop» ⟨[.ref l, .ref b, rawInt i, rawInt 0], []⟩)
      (λ_ R s => s.heap.get? l = some { cls := .type "list", dict := dd, data := .seq xs n, slots := sl } /\ s.heap.get? b = some { cls := .type "list", dict := de, data := .seq ys m, slots := sm } /\ R (.ok (.ret (.bool (HT.lexLt (ns.drop i) (ms.drop i))))) s) := by
  have z1 : xs.size = ns.length := by rw [<- hi.length]; simp
  have z2 : ys.size = ms.length := by rw [<- hj.length]; simp
  have stop : ∀ i : Nat, i <= ns.length -> i <= ms.length -> (i = ns.length \/ i = ms.length) -> Meets (Builtin.«list.__eq__.loop» ⟨[.ref l, .ref b, rawInt i, rawInt 0], []⟩)
      (λ_ R s => s.heap.get? l = some { cls := .type "list", dict := dd, data := .seq xs n, slots := sl } /\ s.heap.get? b = some { cls := .type "list", dict := de, data := .seq ys m, slots := sm } /\ R (.ok (.ret (.bool (HT.lexLt (ns.drop i) (ms.drop i))))) s) := by
    intro i h1 h2 h3 prog w A R s h
    obtain ⟨hp, g, d, tk, os⟩ := s; obtain ⟨gl, gb, h⟩ := h
    rw [jko h3 h1 h2, <- z1, <- z2] at h
    wp_walk using wpAny_loadPart' gl, wpAny_loadPart' gb
    rcases h3 with e | e
    · have q1 : xs[((i : Nat) : Int).toNat]? = none := by simp; omega
      rw [q1]
      wp_walk using wpAny_loadPart' gl, wpAny_loadPart' gb
      exact h
    · have q2 : ys[((i : Nat) : Int).toNat]? = none := by simp; omega
      rw [q2]
      cases q1 : xs[((i : Nat) : Int).toNat]? with
      | none => wp_walk using wpAny_loadPart' gl, wpAny_loadPart' gb
                exact h
      | some v => wp_walk using wpAny_loadPart' gl, wpAny_loadPart' gb
                  exact h
  induction k with
  | zero => exact λi hk h1 h2 => stop i h1 h2 (.inl (by omega))
  | succ k ih =>
    intro i hk h1 h2
    by_cases e : i = ms.length
    · exact stop i h1 h2 (.inr e)
    · intro prog w A R s h
      obtain ⟨hp, g, d, tk, os⟩ := s; obtain ⟨gl, gb, h⟩ := h
      wp_walk using wpAny_loadPart' gl, wpAny_loadPart' gb
      have l1 : i < xs.size := by omega
      have l2 : i < ys.size := by omega
      have q1 : xs[((i : Nat) : Int).toNat]? = some xs[i] := by simp [l1]
      have q2 : ys[((i : Nat) : Int).toNat]? = some ys[i] := by simp [l2]
      have hc : ((i : Int) + 1) = ((i + 1 : Nat) : Int) := by push_cast; rfl
      obtain ⟨a, t, ea, va⟩ := jfH hi (i := i) (u := xs[i]) (by simp [l1])
      obtain ⟨c, u, ec, vc⟩ := jfH hj (i := i) (u := ys[i]) (by simp [l2])
      rw [jin ea ec] at h
      rw [q1, q2, va, vc]
      obtain ⟨e, he, hiff⟩ := HT.eqAt_int A.in1 ⟨hp, g, d, tk, os⟩ a t c u
      refine Yaf (he prog w _ _ ?_)
      cases e with
      | true =>
        rw [if_pos (hiff.mp rfl)] at h
        wp_walk
        rw [hc]
        exact ⟨plainId_quiet plain_eq_loop _, codeAny_builtin entry_eq_loop (by rw [Yet plain_eq_loop _]; exact ih (i + 1) (by omega) (by omega) (by omega) prog w A R _ ⟨gl, gb, h⟩)⟩
      | false =>
        rw [if_neg (λq => absurd (hiff.mpr q) Yak)] at h
        wp_walk using wpAny_loadPart' gl, wpAny_loadPart' gb
        rw [q1, q2, va, vc]
        have hri := HT.rcLt_int A.in1 ⟨hp, g, d, tk, os⟩ a t c u prog w
        wp_walk using hri
        exact h
theorem jkn (l b:Addr)(xs ys:Array Value)(n m:Nat)(dd de:Option Addr)(sl sm:Array (Option Value))(ns ms:List Int)(hi:IntsAre xs.toList ns)(hj:IntsAre ys.toList ms):Meets (Builtin.«list.__lt__» ⟨[.ref l,.ref b],[]⟩)
   (λ_ R s=>s.heap.get? l=some { cls:=.type "list",dict:=dd,data:=.seq xs n,slots:=sl }/\s.heap.get? b=some { cls:=.type "list",dict:=de,data:=.seq ys m,slots:=sm }/\R (.ok (.ret (.bool (HT.lexLt ns ms)))) s):=by
 intro prog w A R s h;obtain⟨hp,g,d,tk,os⟩:=s;obtain⟨gl,gb,h⟩:=h;have f3:=AutoSeq1.sub_list_list
 wp_walk using wpAny_loadPart' gl,wpAny_loadPart' gb
 exact⟨plainId_quiet plain_eq_loop _,codeAny_builtin entry_eq_loop (by rw[Yet plain_eq_loop _];exact jkl l b xs ys n m dd de sl sm ns ms hi hj _ 0 rfl (Ybj _) (Ybj _) prog w A R _ ⟨gl,gb,h⟩)⟩
end L2

namespace L2
open PySem PySem.Spec PyProof.Rows PySem.W
noncomputable def jcf:Nat:=64
section
variable {prog:Program}{w:World}{A:Around}{E:Value->Shared->Prop}{s:Shared}
theorem jf7 {a b:Addr}{xs ys:Array Value}{ns ms:List Int}{Q:Bool->Shared->Prop}(hu:A.units<cLine)(ga:PlainL s.heap a xs)(gb:PlainL s.heap b ys)(hi:IntsAre xs.toList ns)(hj:IntsAre ys.toList ms)(h:Q (HT.lexLt ns ms) s) :
  wpAny (model prog w) A (oneLt' true (.ref a) (.ref b)) Q E s:=by
 obtain⟨⟨c1,d1,dt1,sl1⟩,n1,e1,p1,q1,r1⟩:=ga;obtain⟨⟨c2,d2,dt2,sl2⟩,n2,e2,p2,q2,r2⟩:=gb;simp only at p1 q1 r1 p2 q2 r2;subst p1 q1 r1 p2 q2 r2;rw[oneLt'_eq];simp only[if_true];refine Yaf (wpAny_cRoomFor hu (Yaf (wpAny_callSpecialIfBound?_slot ⟨_,e1,rfl⟩ Yee (Ybv Yee ⟨_,e1,rfl⟩ PySem.F.entry_list_lt (PySem.F.args_list_lt_2 _ _) (jkn a b xs ys n1 n2 none none sl1 sl2 ns ms hi hj) ⟨e1,e2,?_⟩))));exact YbV h
theorem jnA {α β γ:Type}{M:Model}{c:Prop}[Decidable c]{m n:Sem α}{g:α->Sem β}{f:β->Sem γ}{Q:γ->Shared->Prop}(mid:β->Shared->Prop)(h1:c->wpAny M A m (λa s1=>wpAny M A (g a) mid E s1) E s)(h2:¬c->wpAny M A n (λa s1=>wpAny M A (g a) mid E s1) E s)(h3:∀b s2,mid b s2->wpAny M A (f b) Q E s2) :
  wpAny M A (if c then m >>= λa=>g a >>= f else n >>= λa=>g a >>= f) Q E s:=by
 have on:∀{m:Sem α},wpAny M A m (λa s1=>wpAny M A (g a) mid E s1) E s->wpAny M A (m >>= λa=>g a >>= f) Q E s:=λh=>Yaf (thn h λa s1 h=>Yaf (thn h h3));by_cases hc:c
 ·rw[if_pos hc];exact on (h1 hc)
 ·rw[if_neg hc];exact on (h2 hc)
theorem jeP {κ:SortKind}{a:Addr}{vs:List Value}{n:Nat}{P:Fin->Shared->Prop}(ho:s.heap.get? a=some (seqObj "list" vs.toArray n))(h64:vs.length<jcf)(nd:vs.Nodup)(lt:Nat->Nat->Bool)
  (hk:∀h':Heap,(∀b o,b≠a->s.heap.get? b=some o->h'.get? b=some o)->2<=vs.length->∀R:SortKind->Shared->Prop,R κ { s with heap:=h' }->wpAny (model prog w) A (keyKind' vs.toArray) R E { s with heap:=h' })
  (as:∀h':Heap,(∀b o,b≠a->s.heap.get? b=some o->h'.get? b=some o)->Asks vs.length lt (kas_ask prog w A κ vs) { s with heap:=h' })
  (q:∀π:List Nat,π.Perm (YaX vs.length)->(∀i,i+1<vs.length->lt (π.getD i 0) (π.getD (i+1) 0)=true)->P (.done (.ret .none)) { s with heap:=sortedHeap s.heap a vs (YcR (π.map λi=>vs.getD i YaM)) }) :
  wpAny (model prog w) A (Builtin.«list.sort» ⟨[.ref a],[]⟩) P E s:=by
 rw[list_sort_plain];have hz:vs.toArray.size=vs.length:=by simp
 have big:vs.length<=Yah:=by rw[Ycn];unfold jcf at h64;omega
 have at1:=get?_update_seq ho λ_=>(#[]:Array Value);generalize eh1:s.heap.update a (Yco λ_=>(#[]:Array Value))=h1 at at1;obtain⟨e1,ho1⟩:∃e1,h1.get? a=some (seqObj "list" #[] e1):=⟨_,at1⟩;refine Yaf (listItems_at ho rfl (Yaf (listUpdate_at ho rfl ?_ (hz ▸ big) (Ybj _))));rw[eh1];refine Yaf (seqEpoch_at ho1 rfl (Yaf (wpAny_newTuple (Yaf (wpAny_newList (Ybb ?_) (Ybj _))) big)));obtain⟨h3,eh3⟩:∃h3,h3=(h1.push (seqObj "tuple" vs.toArray 0)).push (seqObj "list" #[] 0):=⟨_,rfl⟩;refine(?_:wpAny (model prog w) A _ P E { s with heap:=(h1.push (seqObj "tuple" vs.toArray 0)).push (seqObj "list" #[] 0) })
 have kp:∀b o,b≠a->s.heap.get? b=some o->h3.get? b=some o:=λb o hb e=>by
  rw[eh3];exact Yad _ (Yad _ (by rw[<- eh1,YeV _ _ _ _ hb];exact e))
 have ho6:h3.get? a=some (seqObj "list" #[] e1):=by rw[eh3];exact Yad _ (Yad _ ho1)
 have fin:∀out:Array Value,sortedHeap s.heap a vs out=h3.update a (Yco λ_=>out):=λout=>by rw[eh3,<- eh1];rfl
 rw[<- eh3];dsimp only;refine jnA (λ(r:PUnit×SortSt) s'=>s'={ s with heap:=h3 }/\∃π:List Nat,π.Perm (YaX vs.length)/\(∀i,i+1<vs.length->lt (π.getD i 0) (π.getD (i+1) 0)=true)/\(arrOf r.2).map (·.2)=YcR (π.map λi=>vs.getD i YaM)/\failedOf r.2=none) (λh2=>?_) (λh2=>?_) ?_
 rotate_right
 ·rintro⟨⟨⟩,st⟩ s' ⟨rfl,π,hp,hs,hout,hf⟩;refine Yaf (seqEpoch_at ho6 rfl (Yaf (listUpdate_at ho6 rfl ?_ (Ybj _) (by rw[hout,Yai,Yac,hp.length_eq,Ydg];exact Nat.le_succ_of_le big))))
  dsimp only;rw[hf,bne_self_eq_false];refine Yap ?_;rw[hout,<- fin];exact q π hp hs
 ·rw[if_pos h2];refine Yap (Yap ⟨rfl,YaX vs.length,.refl _,λi hi=>by rw[hz]at h2;omega,?_,rfl⟩)
  refine(?_:(vs.toArray.zip vs.toArray).map (·.2)=_);apply Array.toList_inj.mp;refine YfI (by simp) λi g1 g2=>?_
  have hi:i<vs.length:=by simpa using g1
  simp[Ybg,hi]
 ·rw[if_neg h2];rw[hz]at h2;refine hk h3 kp (Nat.not_lt.mp h2) _ ?_;refine Ybh (kat_run (s:={ s with heap:=h3 }) (κ:=κ) (Q:=λst' s'=>s'={ s with heap:=h3 }/\∃p:Array Nat,Arr vs.length p/\Asc lt p vs.length/\arrOf st'=p.map (kas_item (vs.toArray.zip vs.toArray))/\failedOf st'=none)
   (G:=λp s'=>s'={ s with heap:=h3 }/\Arr vs.length p/\Asc lt p vs.length) (ks:=vs) (vs:=vs) rfl (by omega) h64 (λp st' s' a1 a2 a3 a4=>⟨a4.1,p,a4.2.1,a4.2.2,a2,a3⟩) (jju (as h3 kp) (by omega) λp r1 r2=>⟨rfl,r1,r2⟩)) ?_ λ_ _ e=>e
  rintro⟨⟨⟩,st⟩ s' ⟨rfl,p,r1,r2,ar,hf⟩;refine⟨rfl,p.toList,r1.pm,λi hi=>?_,kat_snds rfl ar,hf⟩;have:=r2 i hi;unfold gD at this;rw[YbG,YbG]at this;rw[YaF,YaF,YbE,YbE];exact this
end

theorem jkk:∀a:List Int,HT.lexLt a a=false
 |[]=>rfl
 |x::a=>by rw[HT.lexLt_cons,if_pos rfl];exact jkk a
theorem jkj:∀a b c:List Int,HT.lexLt a b=true->HT.lexLt b c=true->HT.lexLt a c=true
 |[],[],_,h,_=>by cases h
 |[],_::_,[],_,h=>by rw[HT.lexLt_cons_nil]at h;cases h
 |[],_::_,_::_,_,_=>rfl
 |_::_,[],_,h,_=>by rw[HT.lexLt_cons_nil]at h;cases h
 |_::_,_::_,[],_,h=>by rw[HT.lexLt_cons_nil]at h;cases h
 |x::a,y::b,z::c,h1,h2=>by
  rw[HT.lexLt_cons]at h1 h2 ⊢;by_cases e1:x=y
  ·rw[if_pos e1]at h1;by_cases e2:y=z
   ·rw[if_pos e2]at h2;rw[if_pos (e1.trans e2)];exact jkj a b c h1 h2
   ·rw[if_neg e2]at h2;rw[if_neg (λq=>e2 (e1.symm.trans q)),e1];exact h2
  ·rw[if_neg e1]at h1;by_cases e2:y=z
   ·rw[if_pos e2]at h2;rw[if_neg (λq=>e1 (q.trans e2.symm)),<- e2];exact h1
   ·rw[if_neg e2]at h2;have g1:=of_decide_eq_true h1;have g2:=of_decide_eq_true h2;rw[if_neg (by omega)];exact decide_eq_true (by omega)
theorem jiT:∀a b:List Int,a≠b->HT.lexLt a b=true\/HT.lexLt b a=true
 |[],[],h=>absurd rfl h
 |[],_::_,_=>.inl rfl
 |_::_,[],_=>.inr rfl
 |x::a,y::b,h=>by
  rw[HT.lexLt_cons,HT.lexLt_cons];by_cases e:x=y
  ·rw[if_pos e,if_pos e.symm];exact jiT a b λz=>h (by rw[e,z])
  ·rw[if_neg e,if_neg (Ne.symm e)];by_cases z:x<y
   ·exact .inl (decide_eq_true z)
   ·exact .inr (decide_eq_true (by omega))
def KeyL (K:Yab)(H:Hp)(v:V)(k:List Int):Prop:=∃t,v=.ref t/\SqL K H t (k.map V.int)
theorem jim {prog:Program}{w:World}{A:Around}{s:Shared}{Q:Bool->Shared->Prop}{k k':List Int}{ia ib:List Value}(ra:Vals (k.map V.int) ia)(rb:Vals (k'.map V.int) ib)(i:Nat)(h:Q (HT.lexLt k k') s):KatLex prog w A true (decide (ia.toArray.size<ib.toArray.size)) Q (ia.toArray.toList.zip ib.toArray.toList) i s:=by
 have go:∀(k:List Int) {k':List Int} {ia ib:List Value} (fin:Bool),Vals (k.map V.int) ia->Vals (k'.map V.int) ib->fin=decide (ia.length<ib.length)->∀(i:Nat),Q (HT.lexLt k k') s->KatLex prog w A true fin Q (ia.zip ib) i s:=λk=>by
  induction k with
  |nil=>
   intro k' ia ib fin ra rb hf i h;cases ra;subst hf;cases k' with
   |nil=>cases rb;exact kat_nil (by rw[HT.lexLt_nil_nil]at h;simpa using h)
   |cons y k'=>
    cases rb with
    |cons b rb=>
     refine kat_nil ?_;rw[show HT.lexLt [] (y::k')=true from rfl]at h;simpa using h
  |cons x k ih=>
   intro k' ia ib fin ra rb hf i h;cases ra with
   |cons a ra=>
    cases k' with
    |nil=>cases rb;subst hf;exact kat_nil (by rw[HT.lexLt_cons_nil]at h;simpa using h)
    |cons y k'=>
     cases rb with
     |cons b rb=>
      obtain⟨t,rfl⟩:=a;obtain⟨u,rfl⟩:=b;rw[HT.lexLt_cons]at h;refine kat_cons (wpAny_eqBool_int ?_);refine kat_go (λe=>kat_yes ?_) λe=>kat_no ?_
      ·have e:x=y:=by simpa using e
       rw[if_pos e]at h;exact ih fin ra rb (by rw[hf];simp) (i+1) h
      ·have e:¬x=y:=by simpa using e
       rw[if_neg e]at h;cases i with
       |zero=>exact oneLt_int h
       |succ i=>
        rw[show(true&&(i+1==0))=false by simp]
        exact kat_one _ _ (wpAny_lt_int h)
 exact go k _ ra rb (by simp) i h
section
variable {X:Cx}
def jn6 (X:Cx)(xs:List V)(H:Hp)(Q:VK):Prop:=∃(p:Addr) (vs:List V) (ks:List (List Int)),xs=[.ref p]/\SqL X.K H p vs/\vs.length=ks.length/\ks.Nodup/\vs.length<jcf/\
 ((∀(i:Nat) v k,vs[i]?=some v->ks[i]?=some k->KeyI H v k)\/(∀(i:Nat) v k,vs[i]?=some v->ks[i]?=some k->KeyL X.K H v k)\/∀(i:Nat) v k,vs[i]?=some v->ks[i]?=some k->KeyT X.K H v k/\k≠[])/\
 ∀(l:Addr) (π:List Nat),H l=none->π.Perm (YaX vs.length)->(∀i,i+1<vs.length->HT.lexLt (ks.getD (π.getD i 0) []) (ks.getD (π.getD (i+1) 0) [])=true)->Q (.ref l) (upd H l (.lst (π.map λi=>vs.getD i .non)))
theorem jmk {α:Type}{l:List α}(h:l.Nodup){i j:Nat}(hi:i<l.length)(hj:j<l.length)(hne:i≠j):l[i]≠l[j]:=by
 have h:=List.pairwise_iff_getElem.mp h;rcases Nat.lt_or_gt_of_ne hne with z|z
 ·exact h i j hi hj z
 ·exact λe=>h j i hj hi z e.symm
theorem jeE (hc:X.calm=true)(hu:X.A.units+2<cLine):ja5 X (.builtin "sorted") (jn6 X):=by
 intro pins s σ H xs us Q I r h;obtain⟨p,vs,ks,rfl,hq,hl,hnd,h64,hk,q⟩:=h;obtain⟨u,rfl,rx⟩:=jcO r;cases rx;obtain⟨its,rv,pl,hz⟩:=I.list hq;have il:=rv.length;have hL:=pl.isList;have key:∀{i:Nat} {u:Value},its[i]?=some u->∃v k,vs[i]?=some v/\ks[i]?=some k/\RelV v u:=λ{i u} e=>by
  obtain⟨v,ev,r1⟩:=jfb rv e;have:i<ks.length:=by rw[<- hl];exact(List.getElem?_eq_some_iff.mp ev).1
  exact⟨v,ks[i],ev,Yaa this,r1⟩
 have nd:its.Nodup:=by
  refine List.pairwise_iff_getElem.mpr λi j hi hj hij e=>?_;obtain⟨x,k,ex,ek,r1⟩:=key (Yaa hi);obtain⟨y,k',ey,ek',r2⟩:=key (Yaa hj);have kne:k≠k':=λz=>by
   obtain⟨h1,q1⟩:=List.getElem?_eq_some_iff.mp ek;obtain⟨h2,q2⟩:=List.getElem?_eq_some_iff.mp ek';exact jmk hnd h1 h2 (by omega) (by rw[q1,q2];exact z)
  rcases hk with hk|hk|hk
  ·obtain⟨z,rfl,e1⟩:=hk i x k ex ek;obtain⟨z',rfl,e2⟩:=hk j y k' ey ek';obtain⟨t1,g1⟩:=r1;obtain⟨t2,g2⟩:=r2;rw[g1,g2]at e;injection e with e3 _
   exact kne (by rw[e1,e2,e3])
  ·obtain⟨a,rfl,ha⟩:=hk i x k ex ek;obtain⟨b,rfl,hb⟩:=hk j y k' ey ek';have g1:its[i]=.ref a:=r1;have g2:its[j]=.ref b:=r2;rw[g1,g2]at e;injection e with e3
   subst e3;exact kne (Yfc (λ_ _ h=>by injection h) |>.mp (I.list_inj ha hb))
  ·obtain⟨⟨a,rfl,ha⟩,_⟩:=hk i x k ex ek;obtain⟨⟨b,rfl,hb⟩,_⟩:=hk j y k' ey ek';have g1:its[i]=.ref a:=r1;have g2:its[j]=.ref b:=r2;rw[g1,g2]at e;injection e with e3
   subst e3;exact kne (Yfc (λ_ _ h=>by injection h) |>.mp (I.tuple_inj ha hb))
 have big:its.length<=Yah:=by rw[Ycn];unfold jcf at h64;omega
 refine jeu (collect_list hL (wpAny_newList ?_ big) big);obtain⟨h1,eh1⟩:∃h1,h1=(s.heap.push (seqObj "list" #[] 0)).update s.heap.objs.size (Yco (·++its.toArray)):=⟨_,rfl⟩;rw[<- eh1];have k1:∀b o,s.heap.get? b=some o->h1.get? b=some o:=λb o e=>by
  rw[eh1,YeV _ _ _ _ (Yax (Yao e))];exact Yad _ e
 have hsz:s.heap.objs.size<=h1.objs.size:=by rw[eh1,Heap.size_update,size_push'];exact Yd0 _
 have hoL:(h1.push { cls:=.type "list",data:=.seq its.toArray }).get? h1.objs.size=some (seqObj "list" its.toArray 0):=Yaq _ rfl;have up:∀(h':Heap),(∀b o,b≠h1.objs.size->(h1.push { cls:=.type "list",data:=.seq its.toArray }).get? b=some o->h'.get? b=some o)->∀b o,s.heap.get? b=some o->h'.get? b=some o:=λh' k b o e=>
  k b o (Yax (Yao (k1 b o e))) (Yad _ (k1 b o e))
 obtain⟨κ,hkind,hask⟩:∃κ:SortKind,(∀h':Heap,(∀b o,s.heap.get? b=some o->h'.get? b=some o)->2<=its.length->∀(R:SortKind->Shared->Prop) (E:Value->Shared->Prop),R κ { s with heap:=h' }->wpAny (model X.prog X.w) X.A.in1.in1 (keyKind' its.toArray) R E { s with heap:=h' })/\
   ∀(h':Heap),(∀b o,s.heap.get? b=some o->h'.get? b=some o)->∀(i j:Nat) (C:Bool->Shared->Prop),i<its.length->j<its.length->C (HT.lexLt (ks.getD i []) (ks.getD j [])) { s with heap:=h' }->kas_ask X.prog X.w X.A.in1.in1 κ its i j C { s with heap:=h' }:=by
  have pre:∀{i j:Nat} {C:Bool->Shared->Prop} {h':Heap},∀(hi:i<its.length) (hj:j<its.length),C (HT.lexLt (ks.getD i []) (ks.getD j [])) { s with heap:=h' }->∃x k y k',vs[i]?=some x/\ks[i]?=some k/\RelV x (its.getD i YaM)/\vs[j]?=some y/\ks[j]?=some k'/\RelV y (its.getD j YaM)/\C (HT.lexLt k k') { s with heap:=h' }:=λ{i j C h'} hi hj hC=>by
   have ei:its.getD i YaM=its[i]:=by simp[Ybg,hi]
   have ej:its.getD j YaM=its[j]:=by simp[Ybg,hj]
   obtain⟨x,k,ex,ek,rx⟩:=key (Yaa hi);obtain⟨y,k',ey,ek',ry⟩:=key (Yaa hj);have di:ks.getD i []=k:=by rw[YaF,ek];rfl
   have dj:ks.getD j []=k':=by rw[YaF,ek'];rfl
   rw[di,dj]at hC;exact⟨x,k,y,k',ex,ek,by rw[ei];exact rx,ey,ek',by rw[ej];exact ry,hC⟩
  rcases hk with hk|hk|hk
  ·refine⟨oneType',λh' up h2 R E hR=>kas_kind (M:=model X.prog X.w) (s:={ s with heap:=h' }) (T:=.type "int") (by omega) (λv hv=>?_) (by decide) (by decide) hR,λh' up i j C hi hj hC=>?_⟩
   ·obtain⟨i,hi,rfl⟩:=YaE hv;obtain⟨x,k,ex,ek,r1⟩:=key (Yaa hi);obtain⟨z,rfl,_⟩:=hk i x k ex ek;obtain⟨t,e⟩:=r1;rw[e];exact Looks.of_pure rfl
   ·obtain⟨x,k,y,k',ex,ek,rx,ey,ek',ry,hC⟩:=pre hi hj hC;unfold kas_ask;rw[keyLt'_oneType];obtain⟨z,rfl,e1⟩:=hk i x k ex ek;obtain⟨z',rfl,e2⟩:=hk j y k' ey ek';obtain⟨t1,g1⟩:=rx;obtain⟨t2,g2⟩:=ry;rw[g1,g2];rw[e1,e2]at hC;refine oneLt_int ?_;have e:HT.lexLt [z] [z']=decide (z<z'):=by
     rw[HT.lexLt_cons];split
     ·rename_i q;rw[q,HT.lexLt_nil_nil];simp
     ·rfl
    rw[e]at hC;exact hC
  ·refine⟨oneType',λh' up h2 R E hR=>kas_kind (M:=model X.prog X.w) (s:={ s with heap:=h' }) (T:=.type "list") (by omega) (λv hv=>?_) (by decide) (by decide) hR,λh' up i j C hi hj hC=>?_⟩
   ·obtain⟨i,hi,rfl⟩:=YaE hv;obtain⟨x,k,ex,ek,r1⟩:=key (Yaa hi);obtain⟨t,rfl,ht⟩:=hk i x k ex ek;obtain⟨js,rj,⟨o,m,eo,ec,_,_⟩,_⟩:=I.list ht;have r1:its[i]=.ref t:=r1;rw[r1];have:Looks (model X.prog X.w) h' (typeOf (.ref t)) o.cls:=(Looks.ld (up _ _ eo)).andThen .now;rw[ec]at this;exact this
   ·obtain⟨x,k,y,k',ex,ek,rx,ey,ek',ry,hC⟩:=pre hi hj hC;unfold kas_ask;rw[keyLt'_oneType];obtain⟨a,rfl,ha⟩:=hk i x k ex ek;obtain⟨b,rfl,hb⟩:=hk j y k' ey ek';obtain⟨ia,ra,pa,_⟩:=I.list ha;obtain⟨ib,rb,pb,_⟩:=I.list hb;have g1:its.getD i YaM=.ref a:=rx;have g2:its.getD j YaM=.ref b:=ry;rw[g1,g2];have upP:∀{t:Addr} {z:Array Value},PlainL s.heap t z->PlainL h' t z:=λ⟨o,n,e,q1,q2,q3⟩=>⟨o,n,up _ _ e,q1,q2,q3⟩;exact jf7 (A:=X.A.in1.in1) (by rw[YbU,YbU];omega) (upP pa) (upP pb) (jfI (by simpa using ra)) (jfI (by simpa using rb)) hC
  ·refine⟨tuples' true,λh' up h2 R E hR=>?_,λh' up i j C hi hj hC=>?_⟩
   ·have go:∀l:List Value,(∀v∈l,v∈its)->∃fs,KatTups h' l fs/\fs.length=l.length/\∀f∈fs,Looks (model X.prog X.w) h' (typeOf f) (.type "int"):=λl=>by
     induction l with
     |nil=>intro _;exact⟨[],.nil,rfl,λ_ h=>(nomatch h)⟩
     |cons v l ih=>
      intro hv;obtain⟨fs,h1,h2,h3⟩:=ih λw hw=>hv w (Yaj _ hw);obtain⟨i,hi,rfl⟩:=YaE (hv v Yat);obtain⟨x,k,ex,ek,r1⟩:=key (Yaa hi);obtain⟨⟨t,rfl,ht⟩,kn⟩:=hk i x k ex ek;obtain⟨js,rj,⟨o,eo,ec,m,ed⟩,_⟩:=I.tuple ht;have r1:its[i]=.ref t:=r1;rw[r1];cases k with
      |nil=>exact absurd rfl kn
      |cons z k=>
       cases rj with
       |@cons v' u' _ us' r0 rr=>
        obtain⟨tk,rfl⟩:=r0;exact⟨_::fs,.cons (up _ _ eo) ec ed rfl h1,by rw[Yaz,Yaz,h2],λf hf=>by
         rcases YaO.mp hf with rfl|hf
         ·exact Looks.of_pure rfl
         ·exact h3 f hf⟩
    obtain⟨fs,h1,h3,h4⟩:=go its λ_ h=>h;exact kat_kind (M:=model X.prog X.w) (s:={ s with heap:=h' }) h1 (by omega) h4 (by decide) hR
   ·obtain⟨x,k,y,k',ex,ek,rx,ey,ek',ry,hC⟩:=pre hi hj hC;unfold kas_ask;obtain⟨⟨a,rfl,ha⟩,_⟩:=hk i x k ex ek;obtain⟨⟨b,rfl,hb⟩,_⟩:=hk j y k' ey ek';obtain⟨ia,ra,⟨o1,q1,_,m1,d1⟩,_⟩:=I.tuple ha;obtain⟨ib,rb,⟨o2,q2,_,m2,d2⟩,_⟩:=I.tuple hb;have g1:its.getD i YaM=.ref a:=rx;have g2:its.getD j YaM=.ref b:=ry;rw[g1,g2];refine kat_lt (s:={ s with heap:=h' }) (up _ _ q1) d1 (up _ _ q2) d2 ?_
    exact jim ra rb 0 hC
 refine Ycr slot_list_sort ⟨_,hoL,rfl⟩ entry_list_sort (jeP (κ:=κ) (s:={ s with heap:=h1.push { cls:=.type "list",data:=.seq its.toArray } }) hoL (by omega) nd (λi j=>HT.lexLt (ks.getD i []) (ks.getD j [])) (λh' kp h2 R hR=>hkind h' (up h' kp) h2 R _ hR) (λh' kp=>⟨λi j C hi hj hC=>hask h' (up h' kp) i j C hi hj hC,λi j k hi hj hk' h1 h2=>jkj _ _ _ h1 h2,λi j hi hj hne=>jiT _ _ ?_,λi _=>jkk _⟩) λπ hp hs=>⟨_,rfl,?_⟩) (args_list_sort _)
 ·have hi':i<ks.length:=by omega
  have hj':j<ks.length:=by omega
  have di:ks.getD i []=ks[i]:=by simp[Ybg,hi']
  have dj:ks.getD j []=ks[j]:=by simp[Ybg,hj']
  rw[di,dj];exact jmk hnd hi' hj' hne
 ·obtain⟨e,he⟩:=sortedHeap_at (out:=YcR (π.map λi=>its.getD i YaM)) hoL;rw[<- il]at hp hs;have hfl:∀i∈π,i<vs.length:=λi hi=>List.mem_range.mp (hp.mem_iff.mp hi);refine⟨.ref h1.objs.size,_,I.laid (o:=.lst (π.map λi=>vs.getD i .non)) (λb ob y=>?_) hsz ?_,rfl,q _ π (I.hok.fresh hsz) hp hs⟩
  ·have hb:=k1 b ob y;have hlt:=Yao hb;rw[sortedHeap_old (Yax hlt) (by rw[size_push'];exact Ydr hlt)]
   exact Yad _ hb
  ·refine⟨by rw[Yac,hp.length_eq,Ydg,Ycn];unfold jcf at h64;omega,π.map λi=>its.getD i YaM,e,?_,?_⟩
   ·have:∀l:List Nat,(∀i∈l,i<vs.length)->Vals (l.map λi=>vs.getD i .non) (l.map λi=>its.getD i YaM):=λl=>by
     induction l with
     |nil=>intro _;exact .nil
     |cons i l ih=>
      intro hl';have hi:=hl' i (by simp)
      have hi2:i<its.length:=by omega
      obtain⟨v,ev,r1⟩:=jfb rv (Yaa hi2);refine .cons ?_ (ih λj hj=>hl' j (Yaj _ hj));refine(?_:RelV (vs.getD i .non) (its.getD i YaM));rw[YaF,ev,YaF,Yaa hi2];exact r1
    exact this π hfl
   ·rw[he]
theorem jgk (hc:X.calm=true):ja5 X (.type "list") (λxs H Q=>∃(a:Addr) (kvs:List (Key×V)) (ns:List Int),xs=[.ref a]/\H a=some (.dK kvs)/\kvs.map (·.1)=ns.map (λz=>(.inl z:Key))/\∀l,H l=none->Q (.ref l) (upd H l (.lst (ns.map V.int)))):=by
 intro pins s σ H xs us Q I r h;obtain⟨a,kvs,ns,rfl,ha,hk,q⟩:=h;obtain⟨u,rfl,rx⟩:=jcO r;cases rx;obtain⟨hz,hS,vs,rv,m⟩:kvs.length<=Yah/\(a==YaV)=false/\∃vs,KV kvs vs/\s.heap.DictOf (jai X.prog X.w) a vs:=I.hok a _ ha;obtain⟨ep,hat⟩:=m.dictAt;have hkv:vs.map (·.1)=kvs.map (·.1):=jg2 rv;have hvl:vs.length=ns.length:=by simpa using congrArg YeT (hkv.trans hk)
 have hkl:kvs.length=ns.length:=by simpa using congrArg YeT hk
 refine kdl_call (A:=X.A) (kdl_dict (knd:=jai X.prog X.w) (kvs:=vs) (ep:=ep) hS) (I.ok.hd hc) hat (by omega) λh' tk acc c' hk' hS' hacc=>?_
 have hl:acc.toList.length=ns.length:=by rw[Ybt,hacc.1,hvl]
 have hI:IntsAre acc.toList ns:=jha (hkv.trans hk) hl λj v e=>hacc.2 j v (by rw[<- YbE];exact e)
 refine⟨.ref s.heap.objs.size,_,I.laid (t':=tk) (o:=.lst (ns.map V.int)) (λb o e=>hk' b o e) (Yag _) ⟨by rw[Yac];omega,acc.toList,c',jcj hI,by simpa using hS'⟩,rfl,q _ (I.hok.fresh (Yag _))⟩
theorem jbl:∀r:List Int,Ycw (r.map .int)=true/\YbC (r.map .int)=0/\noBs (r.map .int)=true
 |[]=>⟨rfl,rfl,rfl⟩
 |i::r=>by
  obtain⟨h1,h2,h3⟩:=jbl r;refine⟨?_,?_,?_⟩
  ·show((YdZ i).canLay0&&Ycw (r.map .int))=true;rw[h1];rfl
  ·show max (YdZ i).depth (YbC (r.map .int))=0;rw[h2];rfl
  ·show(noB (.int i)&&noBs (r.map .int))=true;rw[h3];rfl
theorem jfL:∀{l l':List Int},l.map YdZ=l'.map YdZ->l=l'
 |[],[],_=>rfl
 |[],_::_,h=>by cases h
 |_::_,[],h=>by cases h
 |a::l,b::l',h=>by
  have h:=Yff h;rw[YdZ.inj h.1,jfL h.2]
theorem jhm (k k':List Int):YaD (.list (k.map .int)) (.list (k'.map .int))=decide (k=k'):=by
 by_cases h:k=k'
 ·rw[h,YcD (.list (k'.map .int)) (jbl k').1];simp
 ·cases e:YaD (.list (k.map .int)) (.list (k'.map .int))with
  |false=>simp[h]
  |true=>
   have e:=PyData.list.inj (ji4 (d:=.list (k.map .int)) (e:=.list (k'.map .int)) (jbl k).2.2 (jbl k').2.2 e);exact absurd (jfL e) h

def rInD (X:Cx)(neg:Bool):R2:=λx y H Q=>∃(p:Addr) (vs:List V) (d:PyData) (ds:List PyData),y=.ref p/\(SqL X.K H p vs\/SqT X.K H p vs)/\DV X.K H x d/\DVs X.K H vs ds/\d.canLay0=true/\d.depth<=100/\(∀e∈ds,e.canLay0=true)/\Q (.bl (if neg then !(ds.any λe=>YaD e d) else ds.any λe=>YaD e d)) H
open Classical in
noncomputable def eD (h:Heap)(d:PyData)(w:Value):Bool:=decide (∃e as,e.canLay0=true/\Reads h w e as/\YaD e d=true)
open Classical in
theorem jmU {h:Heap}{d e:PyData}{w:Value}{as:List Addr}(r:Reads h w e as)(c:e.canLay0=true):eD h d w=YaD e d:=by
 unfold eD;cases q:YaD e d with
 |true=>exact decide_eq_true ⟨e,as,c,r,q⟩
 |false=>
  refine decide_eq_false λ⟨e',as',c',r',q'⟩=>?_;rw[SeqAt.Reads.unique e' e w as' as c' r' r,q]at q';cases q'
theorem jhb {h:Heap}{d:PyData}:∀{us:List Value} {ds:List PyData} {as:List Addr},ReadsAll h us ds as->(∀e∈ds,e.canLay0=true)->us.any (eD h d)=(ds.any λe=>YaD e d)/\∀w∈us,∃e as,e.canLay0=true/\Reads h w e as
 |_,_,_,.nil,_=>⟨rfl,λw hw=>by simp at hw⟩
 |_,_,_,.cons r rs,c=>by
  obtain⟨h1,h2⟩:=jhb (d:=d) rs λe he=>c e (Yaj _ he);refine⟨by rw[Yba,Yba,h1,jmU r (c _ Yat)],λw hw=>?_⟩
  rcases YaO.mp hw with rfl|hw
  ·exact⟨_,_,c _ Yat,r⟩
  ·exact h2 w hw
theorem jfK {pins:List (Addr×Obj)}{σ:St}{H:Hp}{s:Shared}{A:Around}{x:V}{u:Value}{d:PyData}{vs:List V}{ds:List PyData}{its:List Value}(hu:A.units+100<cLine)(I:Inv X pins σ H s)(rx:RelV x u)(hd:DV X.K H x d)(c:d.canLay0=true)(hp:d.depth<=100)(r:Vals vs its)(hv:DVs X.K H vs ds)(cs:∀e∈ds,e.canLay0=true) :
  (∀w,w∈its->Yd5 A s w u (eD s.heap d w))/\its.any (eD s.heap d)=ds.any λe=>YaD e d:=by
 obtain⟨as,ra⟩:=DVs.reads I hv r;obtain⟨bs,rb⟩:=DV.reads I hd rx;obtain⟨h1,h2⟩:=jhb (d:=d) ra cs;refine⟨λw hw=>?_,h1⟩;obtain⟨e,as',ce,re⟩:=h2 w hw;rw[jmU re ce];exact SeqAt.eqAt_reads _ _ A s _ _ _ _ re rb ce c (YaL (Ye9 (Yal (Nat.min_le_right _ _) hp) _) hu)
theorem jme {k:Nat}(hr:Room k X.A):OpR X (YaN .In) (rInD X false):=by
 intro pins s σ H x y v u Q I rx ry h;obtain⟨p,vs,d,ds,rfl,hq,hd,hv,c,hp,cs,q⟩:=h;cases ry;rcases hq with hq|hq
 ·obtain⟨its,r,pl,hz⟩:=I.list hq;obtain⟨h1,h2⟩:=jfK (A:=X.A.in1) (by have:=hr.un;rw[YbU];omega) I rx hd c hp r hv cs
  refine YfF (eD s.heap d) pl.isList (λw hw=>h1 w (by simpa using hw)) ⟨.bl _,H,I,rfl,?_⟩
  rw[show its.toArray.any (eD s.heap d)=its.any (eD s.heap d) by simp,h2]
  exact q
 ·obtain⟨its,r,pl,hz⟩:=I.tuple hq;obtain⟨h1,h2⟩:=jfK (A:=X.A.in1) (by have:=hr.un;rw[YbU];omega) I rx hd c hp r hv cs
  refine Yfn (eD s.heap d) pl (λw hw=>h1 w (by simpa using hw)) ⟨.bl _,H,I,rfl,?_⟩
  rw[show its.toArray.any (eD s.heap d)=its.any (eD s.heap d) by simp,h2]
  exact q
theorem jgJ {k:Nat}(hr:Room k X.A):OpR X (YaN .NotIn) (rInD X true):=by
 intro pins s σ H x y v u Q I rx ry h;obtain⟨p,vs,d,ds,rfl,hq,hd,hv,c,hp,cs,q⟩:=h;cases ry;rcases hq with hq|hq
 ·obtain⟨its,r,pl,hz⟩:=I.list hq;obtain⟨h1,h2⟩:=jfK (A:=X.A.in1) (by have:=hr.un;rw[YbU];omega) I rx hd c hp r hv cs
  refine YeN (eD s.heap d) pl.isList (λw hw=>h1 w (by simpa using hw)) ⟨.bl _,H,I,rfl,?_⟩
  rw[show its.toArray.any (eD s.heap d)=its.any (eD s.heap d) by simp,h2]
  exact q
 ·obtain⟨its,r,pl,hz⟩:=I.tuple hq;obtain⟨h1,h2⟩:=jfK (A:=X.A.in1) (by have:=hr.un;rw[YbU];omega) I rx hd c hp r hv cs
  refine YeB (eD s.heap d) pl (λw hw=>h1 w (by simpa using hw)) ⟨.bl _,H,I,rfl,?_⟩
  rw[show its.toArray.any (eD s.heap d)=its.any (eD s.heap d) by simp,h2]
  exact q
end
section
variable {X:Cx}
end
end L2

namespace L2
open PySem PySem.Spec PyProof.Rows
section
variable {prog:Program}{w:World}{A:Around}{R:Result->Shared->Prop}{I:Addr}{fp wr:List Addr}{n:Nat}{P:Nat->Value->Prop}{St:Nat->Heap->Prop}
end
section
variable {prog:Program}{w:World}{A:Around}{E:Value->Shared->Prop}{s:Shared}
end

section
variable {X:Cx}
end
end L2

namespace L2
open PySem PySem.Spec PyProof.Rows PySem.SeqAt PySem.MeetsSeq
theorem jbt (l:Addr)(es:Array Ych)(n:Nat)(dd:Option Addr)(sl:Array (Option Value))(b:Str)(u:Tok) :
  Meets (Builtin.«dict.__eq__» ⟨[.ref l,.str b u],[]⟩) (λ_ R s=>s.heap.get? l=some { cls:=.type "dict",dict:=dd,data:=.dict es n,slots:=sl }/\R (.ok (.ret .notImplemented)) s):=
 .of_wp λprog w A R s h=>by obtain⟨hp,g,d,tk,os⟩:=s;obtain⟨hl,h⟩:=h;have f1:=F.sub_str_dict;wp_walk using wpAny_loadPart' hl;exact⟨_,rfl,h⟩
theorem jbs (b:Str)(u:Tok)(l:Addr)(es:Array Ych)(n:Nat)(dd:Option Addr)(sl:Array (Option Value)) :
  Meets (Builtin.«str.__eq__» ⟨[.str b u,.ref l],[]⟩) (λ_ R s=>s.heap.get? l=some { cls:=.type "dict",dict:=dd,data:=.dict es n,slots:=sl }/\R (.ok (.ret .notImplemented)) s):=
 .of_wp λprog w A R s h=>by obtain⟨hp,g,d,tk,os⟩:=s;obtain⟨hl,h⟩:=h;wp_walk using wpAny_loadPart' hl,wpAny_load hl;exact⟨_,rfl,h⟩
section
variable {X:Cx}
theorem jeR {A:Around}{s:Shared}{l:Addr}{o:Obj}{es:Array Ych}{n:Nat}(b:Str)(u:Tok)(ho:s.heap.get? l=some o)(hc:o.cls=.type "dict")(hd:o.data=.dict es n)(hu:A.units<cLine):RcAt A s (.ref l) (.str b u) false:=λprog w E Q h=>by
 obtain⟨cls,dd,data,sl⟩:=o;simp only at hc hd;subst hc hd;exact rc_eq_decline_or (k:=false) ⟨_,ho,rfl⟩ (YdV s b u) (by decide) F.sub_str_dict F.slot_dict_eq F.slot_str_eq_refl
  (λ_ hq=>Ybv F.slot_dict_eq ⟨_,ho,rfl⟩ F.entry_dict_eq (F.args_dict_eq_2 _ _) (jbt l es n dd sl b u) ⟨ho,hq⟩)
  (λ_ hq=>Ybv F.slot_str_eq_refl (YdV s b u) F.entry_str_eq (F.args_str_eq_2 _ _) (jbs b u l es n dd sl) ⟨ho,hq⟩)
  (λ_ hq=>wpAny_of_eq (rfl:isSame (.ref l) (.str b u)=pure false) hq) (.inr hu) h
def jhS:R2:=λx y H Q=>∃a z kvs,x=.ref a/\y=.str z/\H a=some (.dK kvs)/\Q (.bl false) H
theorem jdR {k:Nat}(hr:Room k X.A):OpR X (YaN .Eq) jhS:=by
 intro pins s σ H x y v u Q I rx ry h;obtain⟨a,z,kvs,rfl,rfl,ha,q⟩:=h;cases rx;obtain⟨t,rfl⟩:=ry;obtain⟨_,_,vs,_,o,es,ep,ho,hx,hd,_⟩:kvs.length<=Yah/\(a==YaV)=false/\∃vs,KV kvs vs/\s.heap.DictOf (jai X.prog X.w) a vs:=I.hok a _ ha;exact jeR z t ho hx.1 hd (by have:=hr.un;omega) X.prog X.w X.xe _ ⟨.bl false,H,I,rfl,q⟩
end
def rSlS:V->Option Int->Option Int->Hp->VK->Prop:=λx lo hi H Q=>∃z,x=.str z/\z.length<=Yah/\Q (.str (Yez z lo hi)) H
section
variable {X:Cx}
theorem jlo:SlR X rSlS:=by
 intro pins s σ H x v vl vu lo hi sl Q I rx hs pl pu h;obtain⟨z,rfl,hz,q⟩:=h;obtain⟨t,rfl⟩:=rx;refine⟨"str",_,F.slot_str_getitem.lookup,YdV _ _ _,?_⟩;obtain⟨o,ho,hc,hd⟩:=hs;have fin:∀t' k,EP X pins σ Q (.str (Yez z lo hi) t') { s with toks:=k }:=λt' k=>⟨.str _,H,I.tok _,⟨_,rfl⟩,q⟩
 cases pl with
 |none=>
  cases pu with
  |none=>exact Yb7 (l:=none) (u:=none) (st:=none) ⟨o,ho,hc,hd⟩ rfl (Yda ⟨Yal (Ydu z _ _) hz,fin⟩)
  |int j uj=>exact Yb7 (l:=none) (u:=some (j,uj)) (st:=none) ⟨o,ho,hc,hd⟩ rfl (Yda ⟨Yal (Ydu z _ _) hz,fin⟩)
 |int i ui=>
  cases pu with
  |none=>exact Yb7 (l:=some (i,ui)) (u:=none) (st:=none) ⟨o,ho,hc,hd⟩ rfl (Yda ⟨Yal (Ydu z _ _) hz,fin⟩)
  |int j uj=>exact Yb7 (l:=some (i,ui)) (u:=some (j,uj)) (st:=none) ⟨o,ho,hc,hd⟩ rfl (Yda ⟨Yal (Ydu z _ _) hz,fin⟩)
theorem jj6:OpR X (Ybd .Add) (λx y H Q=>∃b j,x=.bl b/\y=.int j/\Q (.int ((if b=true then (1:Int) else 0)+j)) H):=by
 intro pins s σ H x y v u Q I rx ry h;obtain⟨b,j,rfl,rfl,q⟩:=h;cases rx;obtain⟨t,rfl⟩:=ry;exact PySem.IntBool.add_bool_int ⟨.int _,H,I.tok _,⟨_,rfl⟩,q⟩
theorem jj0:OpR X (Ybd .Sub) (λx y H Q=>(∃b j,x=.bl b/\y=.int j/\Q (.int ((if b=true then (1:Int) else 0)-j)) H)\/∃i b,x=.int i/\y=.bl b/\Q (.int (i-if b=true then (1:Int) else 0)) H):=by
 intro pins s σ H x y v u Q I rx ry h;rcases h with⟨b,j,rfl,rfl,q⟩|⟨i,b,rfl,rfl,q⟩
 ·cases rx;obtain⟨t,rfl⟩:=ry;exact PySem.IntBool.sub_bool_int ⟨.int _,H,I.tok _,⟨_,rfl⟩,q⟩
 ·cases ry;obtain⟨t,rfl⟩:=rx;exact PySem.IntBool.sub_int_bool ⟨.int _,H,I.tok _,⟨_,rfl⟩,q⟩
def jjB (K:Yab):R2:=λx y H Q=>∃a z xs,x=.ref a/\y=.str z/\(SqT K H a xs\/SqL K H a xs)/\Q (.bl false) H
theorem jeh {k:Nat}(hr:Room k X.A):OpR X (YaN .Eq) (jjB X.K):=by
 intro pins s σ H x y v u Q I rx ry h;obtain⟨a,z,xs,rfl,rfl,ha,q⟩:=h;cases rx;obtain⟨t,rfl⟩:=ry;have hu:X.A.units<cLine:=hr.units0;rcases ha with ha|ha
 ·obtain⟨its,rv,pa,_⟩:=I.tuple ha;exact SeqAt.RcAt.tuple_str z t (show s.heap.IsTuple a its.toArray from pa) hu X.prog X.w X.xe _ ⟨.bl false,H,I,rfl,q⟩
 ·obtain⟨its,rv,pa,_⟩:=I.list ha;exact SeqAt.RcAt.list_str z t pa.isList hu X.prog X.w X.xe _ ⟨.bl false,H,I,rfl,q⟩
end
end L2

namespace L2
open PySem PySem.Spec PyProof.Rows
open AutoSeq1 (wpAny_loadPart')
section
variable {prog:Program}{w:World}{A:Around}{E:Value->Shared->Prop}{s:Shared}
end
section
variable {X:Cx}
end
end L2

namespace L2
open PySem PySem.Spec PyProof.Rows PySem.W
structure Lies (lo:Nat)(pn:List (Addr×Obj))(H:Hp)(h:Heap)(e:Addr)(cls:Value)(dx:Option Addr):Prop where
 ob:∃oe vs,h.get? e=some oe/\oe.cls=cls/\oe.dict=dx/\oe.data=.fields vs/\
  (vs[1]?=some .none\/∃T oT ts,vs[1]?=some (.ref T)/\T≠e/\h.get? T=some oT/\oT.data=.fields ts/\ts[3]?=some .none/\H T=none/\lo<=T/\∀p∈pn,p.1≠T)
 hn:H e=none
 le:lo<=e
 pn:∀p∈pn,p.1≠e
section
variable {M:Model}{A:Around}{E:Value->Shared->Prop}{s:Shared}
theorem jcV {h:Heap}{a:Addr}{o:Obj}{vs:Array Value}(i:Nat)(x:Value)(ho:h.get? a=some o)(hd:o.data=.fields vs) :
  (∃o',(h.update a (Ybx (·.setIfInBounds i x))).get? a=some o'/\o'.cls=o.cls/\o'.dict=o.dict/\o'.data=.fields (vs.setIfInBounds i x))/\∀b,b≠a->(h.update a (Ybx (·.setIfInBounds i x))).get? b=h.get? b:=by
 have z:=Obj.data_mapFields hd (·.setIfInBounds i x);refine⟨⟨_,YcW _ ho (YeH z),Obj.cls_mapFields _ _,?_,z⟩,λb hb=>YcM _ _ (Ne.symm hb)⟩;unfold Ybx;split<;>rfl
theorem jfP {base:Heap}{env:Env}{outer:List Env}{L e:Addr}{oe:Obj}{vs:Array Value}{head:Value}{had:Bool}{Q:Unit->Shared->Prop}
  (hfr:A.frames=some (env::outer)) (hl:s.heap.FunFrames base (env::outer)) (hf:env.frame=some L) (he:s.heap.get? e=some oe) (hd:oe.data=.fields vs) (hsz:1<vs.size)
  (h:∀(h':Heap) (T:Addr) (oe' oT:Obj) (vs' ts:Array Value),(∀b o,b∉frs (env::outer)->b≠e->s.heap.get? b=some o->h'.get? b=some o)->(∀b o,b∈frs (env::outer)->b≠e->s.heap.get? b=some o->∃sl,h'.get? b=some { o with slots:=sl })->
   s.heap.objs.size<=T->h'.get? e=some oe'->oe'.cls=oe.cls->oe'.dict=oe.dict->oe'.data=.fields vs'->vs'[1]?=some (.ref T)->h'.get? T=some oT->oT.data=.fields ts->ts[3]?=some .none->Q () { s with heap:=h' }) :
  wpAny M A (do let a <- frameOf env;let pl <- entryPlaceOf L had;let b <- EntryCells.newEntry head a .none (rawInt L) .none pl;setField (.ref e) 1 b) (λ_ s'=>wpAny M A (setFlight (.ref e) none) Q E s') E s:=by
 have out:e∉frs (env::outer):=λm=>by
  rcases hl.mem m with⟨-,o,ho,no⟩;exact no vs (by rw[<- hd,Yar (he.symm.trans ho)])
 refine Yaf (wpAny_frameOf_fun hfr hl hf λh1 fs=>Yaf (wpAny_entryPlaceOf λpl hpl=>Yaf (Ya3 ?_ (hpl.sizeOk5 _ _ _ _ _))));have n3:3<([head,.ref L,.none,rawInt L,.none]++(if pl.isEmpty then Yae 6 YaM else pl)).toArray.size:=by
  rw[Yai,YaQ];exact Nat.lt_add_right _ (Nat.lt_of_sub_pos (Nat.zero_lt_succ 1))
 generalize eot:(⟨.type "traceback",none,.fields ([head,.ref L,.none,rawInt L,.none]++(if pl.isEmpty then Yae 6 YaM else pl)).toArray,#[]⟩:Obj)=ot
 have dt:ot.data=.fields ([head,.ref L,.none,rawInt L,.none]++(if pl.isEmpty then Yae 6 YaM else pl)).toArray:=by rw[<- eot]
 have g1:h1.get? e=some oe:=by rw[fs.2.1 e out,he]
 have new:=Yaq h1 (YeH dt);have ne:h1.objs.size≠e:=λz=>Ybf _ (z ▸ Yao g1);obtain⟨⟨o2,g2,c2,d2,v2⟩,r2⟩:=jcV 1 (.ref h1.objs.size) (Yad ot g1) hd;have g2':=(r2 _ ne).trans new;obtain⟨⟨o3,g3,c3,d3,v3⟩,r3⟩:=jcV 3 .none g2' dt;refine YcJ (Yad ot g1) hd hsz (Yaf (YbR g2 v2 (YbF hsz) ?_));rw[if_pos (by rfl)]
 refine YcJ g2' dt n3 ?_;have keep:∀b o,b≠e->h1.get? b=some o->_:=λb o hb g=>(r3 b (Yax (Yao g))).trans ((r2 b hb).trans (Yad ot g));refine h _ h1.objs.size o2 o3 _ _ (λb o hb hbe g=>keep b o hbe (by rw[fs.2.1 b hb,g])) (λb o _ hbe g=>?_) (YeJ fs.1.symm) ((r3 e (Ne.symm ne)).trans g2) c2 d2 v2 (YbF hsz) g3 v3 (YbF n3)
 rcases fs.2.2 b o g with⟨sl,q⟩;exact⟨sl,keep b _ hbe q⟩
end
section
variable {X:Cx}{pins:List (Addr×Obj)}{σ:St}{H:Hp}{s:Shared}
theorem Inv.left {h':Heap}{ch:List Addr}(I:Inv X pins σ H s)(hH:∀b∈ch,H b=none)(hlo:∀b∈ch,X.s₀.heap.objs.size<=b)(hd:∀b∈ch,∃o vs,s.heap.get? b=some o/\o.data=.fields vs)(hp:∀b∈ch,∀p∈X.pn++pins,p.1≠b)
  (k:∀b o,b∉frs X.stack->b∉ch->s.heap.get? b=some o->h'.get? b=some o) (sl:∀b o,b∈frs X.stack->b∉ch->s.heap.get? b=some o->∃t,h'.get? b=some { o with slots:=t }):Inv X pins σ H { s with heap:=h' }:=by
 have u:Un (frs X.stack) ch H H s.heap h':=by
  refine⟨λb o e _ hb hc=>k b o hb hc e,λb o e _ hb hc=>sl b o hb hc e,λ_ _ _ n _=>n,λb o e hc=>?_,λ_ _ e=>e,λ_ _ _ e=>e,λb ps e=>⟨#[],by rw[e];simp⟩⟩
  by_cases hb:b∈frs X.stack
  ·obtain⟨t,q⟩:=sl b o hb hc e;exact⟨_,q⟩
  ·exact⟨o,k b o hb hc e⟩
 have tr:∀b u,H b=some u->b∉frs X.stack/\b∉ch:=λb u e=>⟨λz=>(by rw[I.stkFree b z]at e;cases e),λz=>(by rw[hH b z]at e;cases e)⟩
 have hok:HOk X.prog X.w H h':=λa o e=>(I.hok a o e).stay (λb v hb q=>by
  rcases hb with z|z
  ·subst z;exact k b v (tr b _ e).1 (tr b _ e).2 q
  ·exact k b v (tr b _ z).1 (tr b _ z).2 q) (λ_ q=>q) λ_ _ q=>q
 refine I.call (g':=s.gens) (d':=s.drawn) (t':=s.toks) u hok I.bare λb hb=>⟨.inr (hlo b hb),λz=>?_,λx c e z=>?_,hp b hb⟩
 ·obtain⟨o,vs,g,d⟩:=hd b hb;obtain⟨m,⟨o',_,_,ho,r⟩,_⟩:=I.loc;rw[z,ho]at g;cases g;have:=r.1;rw[this]at d;cases d
 ·obtain⟨o,vs,g,d⟩:=hd b hb;obtain⟨v,o',ho,hc⟩:=I.cell x c e;rw[z,g]at ho;cases ho;rw[d]at hc;cases hc
theorem jmt {M:Model}{E:Value->Shared->Prop}{ea:Addr}{cls:Value}{dx:Option Addr}{Q:Unit->Shared->Prop}(I:Inv X [] σ H s)(hst:X.stack=X.env::X.outer)(hf:X.env.frame=some X.env.locals)
  (l:Lies X.s₀.heap.objs.size X.pn H s.heap ea cls dx) (q:∀h',Inv X [] σ H { s with heap:=h' }->Lies X.s₀.heap.objs.size X.pn H h' ea cls dx->Q () { s with heap:=h' }):wpAny M X.A (noteFrame (.ref ea) X.env) (λ_ s'=>wpAny M X.A (setFlight (.ref ea) none) Q E s') E s:=by
 obtain⟨oe,vs,he,hc,hdx,hd,ht⟩:=l.ob;have hfr:X.A.frames=some (X.env::X.outer):=by rw[<- hst];exact I.ok.frames
 have hl:s.heap.FunFrames X.base (X.env::X.outer):=by rw[<- hst];exact I.stack
 have pe:∀p∈X.pn++[],p.1≠ea:=λp hp=>l.pn p (by simpa using hp)
 unfold noteFrame;simp only[hf];rcases ht with h1|⟨T,oT,ts,h1,hTe,hT,hdT,h3,nT,lT,pT⟩
 ·refine Yaf (YbR he hd h1 ?_);rw[if_neg (by decide)]
  refine jfP hfr hl hf he hd (Array.getElem?_eq_some_iff.mp h1).1 λh' T' oe' oT' vs' ts' k sl zT g1 c1 c2 c3 c4 g2 c5 c6=>?_;rw[<- hst]at k sl;have J:Inv X [] σ H { s with heap:=h' }:=I.left (ch:=[ea]) (λb hb=>by rw[List.mem_singleton.mp hb];exact l.hn) (λb hb=>by rw[List.mem_singleton.mp hb];exact l.le) (λb hb=>by rw[List.mem_singleton.mp hb];exact⟨oe,vs,he,hd⟩) (λb hb=>by rw[List.mem_singleton.mp hb];exact pe)
   (λb o hb hc e=>k b o hb (λz=>hc (by simp[z])) e) λb o hb hc e=>sl b o hb (λz=>hc (by simp[z])) e
  refine q h' J ⟨⟨oe',vs',g1,c1.trans hc,c2.trans hdx,c3,.inr ⟨T',oT',ts',c4,?_,g2,c5,c6,I.hok.fresh zT,Yal I.sz zT,λp hp z=>?_⟩⟩,l.hn,l.le,l.pn⟩
  ·exact λz=>absurd (Yao he) (Nat.not_lt.mpr (z ▸ zT))
  ·exact absurd (Yao (I.pin p (by simpa using hp)).1) (Nat.not_lt.mpr (z ▸ zT))
 ·have old:(YaM==rawInt X.env.locals)=false:=rfl;refine Yaf (YbR he hd h1 ?_);rw[if_pos (by rfl)]
  refine Yaf (YbR hT hdT h3 ?_);rw[old,if_neg Yak];refine Yaf (YcJ hT hdT (Array.getElem?_eq_some_iff.mp h3).1 ?_);have other:=(jcV 3 .none hT hdT).2;have I1:Inv X [] σ H { s with heap:=s.heap.update T (Ybx (·.setIfInBounds 3 YaM)) }:=I.left (ch:=[T]) (λb hb=>by rw[List.mem_singleton.mp hb];exact nT) (λb hb=>by rw[List.mem_singleton.mp hb];exact lT) (λb hb=>by rw[List.mem_singleton.mp hb];exact⟨oT,ts,hT,hdT⟩) (λb hb p hp=>by rw[List.mem_singleton.mp hb];exact pT p (by simpa using hp))
   (λb o _ hc e=>(other b (by simpa using hc)).trans e) λb o _ hc e=>⟨o.slots,(other b (by simpa using hc)).trans e⟩
  have he1:=(other ea (Ne.symm hTe)).trans he;have hl1:(s.heap.update T (Ybx (·.setIfInBounds 3 YaM))).FunFrames X.base (X.env::X.outer):=by rw[<- hst];exact I1.stack
  refine jfP (s:={ s with heap:=s.heap.update T (Ybx (·.setIfInBounds 3 YaM)) }) hfr hl1 hf he1 hd (Array.getElem?_eq_some_iff.mp h1).1 λh' T' oe' oT' vs' ts' k sl zT g1 c1 c2 c3 c4 g2 c5 c6=>?_
  rw[<- hst]at k sl;have J:Inv X [] σ H { s with heap:=h' }:=Inv.left (s:={ s with heap:=s.heap.update T (Ybx (·.setIfInBounds 3 YaM)) }) (ch:=[ea]) I1 (λb hb=>by rw[List.mem_singleton.mp hb];exact l.hn) (λb hb=>by rw[List.mem_singleton.mp hb];exact l.le) (λb hb=>by rw[List.mem_singleton.mp hb];exact⟨oe,vs,he1,hd⟩) (λb hb=>by rw[List.mem_singleton.mp hb];exact pe)
   (λb o hb hc e=>k b o hb (λz=>hc (by simp[z])) e) λb o hb hc e=>sl b o hb (λz=>hc (by simp[z])) e
  refine q h' J ⟨⟨oe',vs',g1,c1.trans hc,c2.trans hdx,c3,.inr ⟨T',oT',ts',c4,?_,g2,c5,c6,I1.hok.fresh zT,Yal I1.sz zT,λp hp z=>?_⟩⟩,l.hn,l.le,l.pn⟩
  ·exact λz=>absurd (Yao he1) (Nat.not_lt.mpr (z ▸ zT))
  ·exact absurd (Yao (I1.pin p (by simpa using hp)).1) (Nat.not_lt.mpr (z ▸ zT))
end
def CX1 (P:Program)(w:World):CXT:=λouter H s E e s'=>∃(ea:Addr) (H':Hp) (cls:Value) (dx:Option Addr),e=.ref ea/\s'.os=s.os/\AllBare s'.gens/\Un (frs outer) [] H H' s.heap s'.heap/\HOk P w H' s'.heap/\Lies s.heap.objs.size [] H' s'.heap ea cls dx/\E cls dx H'
section
variable {X:Cx}{pins:List (Addr×Obj)}{σ:St}{H:Hp}{s s':Shared}{e:Value}{E:XK}
theorem CX1.back (I:Inv X pins σ H s)(h:CX1 X.prog X.w X.stack H s E e s'):∃(ea:Addr) (H':Hp) (cls:Value) (dx:Option Addr),e=.ref ea/\Inv X pins σ H' s'/\Lies X.s₀.heap.objs.size X.pn H' s'.heap ea cls dx/\E cls dx H':=by
 obtain⟨ea,H',cls,dx,rfl,os,bare,un,hok,l,q⟩:=h;have pn:∀b,s.heap.objs.size<=b->∀p∈X.pn,p.1≠b:=λb hb p hp z=>absurd (Yao (I.pin p (Yaw _ hp)).1) (Nat.not_lt.mpr (z ▸ hb));refine⟨ea,H',cls,dx,rfl,I.call' (ch:=[]) os un hok bare (λb z=>absurd z (by simp)),⟨?_,l.hn,Yal I.sz l.le,pn ea l.le⟩,q⟩
 obtain⟨oe,vs,he,hc,hdx,hd,ht⟩:=l.ob;refine⟨oe,vs,he,hc,hdx,hd,ht.imp id ?_⟩;rintro⟨T,oT,ts,h1,h2,h3,h4,h5,h6,h7,_⟩;exact⟨T,oT,ts,h1,h2,h3,h4,h5,h6,Yal I.sz h7,pn T h7⟩
end
end L2

namespace L2
open PySem PySem.Spec PyProof.Rows PySem.W
open Builtin Builtin.ObjectAttr
section
variable {M:Model}{A:Around}{E:Value->Shared->Prop}{h:Heap}{g:Array YdJ}{d:Drawn}{t:Nat}{os:OsState}
variable {nm q:Str}{C N D:Addr}{bs bmB:List Value}{hdct:Bool}{sn:List Str}{sub:List Value}{ab:Bool}{col:Option Bool}{dd:Option Addr}{k0 k1 k2 k3 k5:Option Value}{B newId:String}{mN mD:Str->Option Value}{name:Str}
structure Two (h:Heap)(C N D:Addr)(mN mD:Str->Option Value)(bmB:List Value)(newId:String):Prop where
 cls:∃nm q bs sn sub ab col dd k0 k1 k2 k3 k5,h.get? C=some (excClassObj nm q C N bs (.ref D::bmB) true sn sub ab col dd k0 k1 k2 k3 k5 newId)
 ns:h.Ns N mN
 low:∃c0 dd cd sl,h.get? D=some { cls:=c0,dict:=dd,data:=.cls cd,slots:=sl }/\h.Ns cd.ns mD
end
section
variable {prog:Program}{w:World}{A:Around}{E:Value->Shared->Prop}{h:Heap}{g:Array YdJ}{d:Drawn}{t:Nat}{os:OsState}
variable {C N D x:Addr}{bmB:List Value}{B newId sa owner:String}{mN mD mA:Str->Option Value}{name:Str}{v:Value}
structure Reads (B:String)(bmB:List Value):Prop where
 ga:Slot B "__getattribute__" "BaseException.__getattribute__"
 mro:mroOf (.type B)=pure bmB
 no:typeLookup (.type B) "__getattr__" = pure none
 has:bmB.contains (.type "BaseException")=true
end
section
variable {X:Cx}{pins:List (Addr×Obj)}{σ:St}{H:Hp}{s:Shared}
end
section
variable {X:Cx}{H:Hp}{s:Shared}{C N D fI:Addr}{bmB:List Value}{B newId sa owner:String}{mN mD:Str->Option Value}{qual self f a f2 a2:Str}{scope:Scope}{cdv:Value}{p1 p2 p3 pos q1 q2 q3 qos:Pos}{v v2:V}
end
section
variable {M:Model}{A:Around}{E:Value->Shared->Prop}{env:Env}{C N D:Addr}{bmB:List Value}{newId:String}{mN mD:Str->Option Value}
end
end L2

namespace L2
open PySem PySem.Spec PyProof.Rows PySem.W
section
variable {M:Model}{A:Around}{E:Value->Shared->Prop}{h:Heap}{g:Array YdJ}{d:Drawn}{t:Nat}{os:OsState}
variable {nm q nm' q':Str}{C N D ND e:Addr}{bs bm bs' bm':List Value}{hdct hdct':Bool}{sn sn':List Str}{sub sub':List Value}{ab ab':Bool}{col col':Option Bool}{dd dd':Option Addr}{k0 k1 k2 k3 k5 l0 l1 l2 l3 l5:Option Value}{newId newId':String}{oe:Obj}
end
section
variable {X:Cx}{pins:List (Addr×Obj)}{σ:St}{H:Hp}{s:Shared}
end
def XL (M:Model)(A:Around)(env:Env)(R:Value->Shared->Prop):Value->Shared->Prop:=λe s'=>wpAny M A (noteFrame e env) (λ_ s''=>wpAny M A (setFlight e none) (λ_ s3=>R e s3) R s'') R s'
theorem jom {M:Model}{A:Around}{env:Env}{R:Value->Shared->Prop}:YdI M A env (XL M A env R):=YdI.looking
section
variable {P:Program}{w:World}{K:Yab}{mg:Str->Option Value}{base:Heap}
noncomputable abbrev cx1 (P:Program)(w:World)(K:Yab)(mg:Str->Option Value)(base:Heap)(N:List Str)(qual:Str)(scope:Scope)(f:Addr)(cd:Value)(A:Around)(outer:List Env)(s:Shared)(H:Hp)(E:XK):Cx:=
 (cxOf (CX1 P w) P w K mg base N qual scope f cd A outer s H E).wish (XL (model P w) (A.deeper (envOfC qual scope s.heap.objs.size f cd)) (envOfC qual scope s.heap.objs.size f cd) λe s'=>CX1 P w outer H s E e s')
theorem Fun.okX {x qual:Str}{st:Stmt}{f:Addr}{fd:Ybn}{N ps:List Str}{k:Nat}{sp:Sp}(F:Fun K x qual st f fd)(S:FnScope N ps (jag st))(len:∀vs H Q E,sp vs H Q E->vs.length=ps.length)
  (hbody:∀(cdv:Value) (A:Around) (outer:List Env) (s:Shared) (H:Hp) (vs:List V) (Q:VK) (E:XK),Room k (A.deeper (envOfC qual (jag st) s.heap.objs.size f cdv))->sp vs H Q E->
   ∃t,PSs (cx1 P w K mg base N qual (jag st) f cdv A outer s H E) (jap st) t/\t { nx:=λ_ H'=>Q .non H',rt:=Q } (start N vs) H):FnOk P w K mg base (CX1 P w) (k+1) f fd ps sp:=by
 obtain⟨oc,od,kV,doc,pm,an,cdv,ct,osl,rfl,lk,hcd⟩:=F.ex;refine joP lk hcd S len λA outer s H vs Q E hr hsp=>?_;obtain⟨t,h,q⟩:=hbody cdv A outer s H vs Q E hr hsp;refine⟨t,λpins s1 σ H1 D I hw=>?_,q⟩;refine Ybh (h pins s1 σ H1 D (I.wish _) hw) (λ_ _ q=>q.unwish) λe s' z=>?_;show wpAny _ _ (leaving _ e) _ _ s';unfold leaving;exact Yaf z
theorem CX1.out1 {N:List Str}{qual:Str}{scope:Scope}{f:Addr}{cd:Value}{A:Around}{outer:List Env}{s s':Shared}{H H':Hp}{E:XK}{pins:List (Addr×Obj)}{σ:St}{ea:Addr}{cls:Value}{dx:Option Addr}
  (I:Inv (cx1 P w K mg base N qual scope f cd A outer s H E) pins σ H' s') (l:Lies s.heap.objs.size [] H' s'.heap ea cls dx) (q:E cls dx H'):(cx1 P w K mg base N qual scope f cd A outer s H E).xe (.ref ea) s':=by
 have I0:Inv (cxOf (CX1 P w) P w K mg base N qual scope f cd A outer s H E) [] σ H' s':=I.unwish.pins_of λp hp=>absurd hp (by simp)
 refine jmt (X:=cxOf (CX1 P w) P w K mg base N qual scope f cd A outer s H E) (E:=λe s'=>CX1 P w outer H s E e s') I0 rfl rfl l λh' J l'=>?_;exact⟨ea,H',cls,dx,rfl,J.os,J.bare,J.base,J.hok,l',q⟩
end
end L2

namespace L2
open PySem PySem.Spec PyProof.Rows PySem.W
open Builtin Builtin.ObjectAttr
noncomputable abbrev bmV:List Value:=[.type "ValueError",.type "Exception",.type "BaseException",.type "object"]
section
variable {prog:Program}{w:World}{A:Around}{E:Value->Shared->Prop}{h:Heap}{g:Array YdJ}{d:Drawn}{t:Nat}{os:OsState}
variable {C N D x:Addr}{bmB:List Value}{B newId sa owner:String}{mN mD mA:Str->Option Value}{name:Str}{v:Value}
end
noncomputable def offN:List Str:=["__setattr__", "__getattribute__", "__getattr__", "__class__", "word", "at", "row"]
structure XBase (K:Frag)(mg:Str->Option Value)(D:Addr)(mD:Str->Option Value):Prop where
 m:mg "PlanError" = some (.ref D)
 kp:keepIn K (.ref D)=true
 lk:∃q ND bs hd sn sub ab col dd k0 k1 k2 k3 k5 nid,K.lookup D=some (excClassObj "PlanError" q D ND bs bmV hd sn sub ab col dd k0 k1 k2 k3 k5 nid)/\∀h,K.In h->h.Ns ND mD
 no:∀y∈offN,mD y=none
 ni:mD "__init__" = none
structure XCls (K:Frag)(mg:Str->Option Value)(x:Str)(fs:List Str)(C:Addr):Prop where
 m:mg x=some (.ref C)
 kp:keepIn K (.ref C)=true
 ex:∃(D N fI:Addr) (mN mD:Str->Option Value),XBase K mg D mD/\(∃q bs sn sub ab col dd k0 k1 k2 k3 k5,K.lookup C=some (excClassObj x q C N bs (.ref D::bmV) true sn sub ab col dd k0 k1 k2 k3 k5 "ValueError.__new__"))/\(∀h,K.In h->h.Ns N mN)/\(∀y∈offN,mN y=none)/\
  mN "__init__" = some (.ref fI)/\∃(st:Stmt) (qual:Str) (fd:Ybn),L2.Fun K "__init__" qual st fI fd/\(∃od osl,K.lookup fI=some ⟨.type "function",od,.func fd,osl⟩)/\FnScope ("self" :: fs) ("self" :: fs) (jag st)/\Binds K fd ("self" :: fs) []/\(∀y∈(("self" : Str)::fs),(jag st).names.lookup y=some .local)/\
  ((∃f p1 p2 p3 pos,fs=[f]/\jap st=[.Assign [.Attribute (.Name "self" p1) f p2] (.Name f p3) pos])\/∃f f2 p1 p2 p3 pos q1 q2 q3 qos,fs=[f,f2]/\f≠f2/\jap st=[.Assign [.Attribute (.Name "self" p1) f p2] (.Name f p3) pos,.Assign [.Attribute (.Name "self" q1) f2 q2] (.Name f2 q3) qos])
section
variable {K:Frag}{mg:Str->Option Value}{x:Str}{fs:List Str}{C:Addr}
end
noncomputable def fldN:List Str:=["word", "at", "row"]
section
variable {K:Frag}{mg:Str->Option Value}{x:Str}{fs:List Str}{C:Addr}
structure XPin (X:Cx)(ea C dx:Addr):Prop where
 ex:∃oe vs,(ea,oe)∈X.pn/\oe.cls=.ref C/\oe.dict=some dx/\oe.data=.fields vs
end
section
variable {X:Cx}{mg:Str->Option Value}{x:Str}{fs:List Str}{C ea dx:Addr}
inductive XMany (X:Cx)(mg:Str->Option Value):List Str->List Addr->Prop
 |nil:XMany X mg [] []
 |cons {x:Str} {fs:List Str} {C:Addr} {xs:List Str} {Cs:List Addr}:XCls X.K mg x fs C->x ≠ "PlanError" -> XMany X mg xs Cs->XMany X mg (x::xs) (C::Cs)
end
end L2

namespace L2
open PySem PySem.Spec PyProof.Rows
section
variable {prog:Program}{w:World}{A:Around}{E:Value->Shared->Prop}{s:Shared}{d it:Addr}{o:Obj}{es:Array Ych}{ep i:Nat}
end
end L2

namespace L2
open PySem PySem.Spec PyProof.Rows
section
variable {X:Cx}
end
end L2

namespace L2
open PySem PySem.Spec PyProof.Rows PySem.W
structure CloScope (N P:List Str)(sc:Scope):Prop where
 kind:sc.kind=.function
 co:sc.isCoroutine=false
 gen:sc.isGenerator=false
 nd:N.Nodup
 pre:N.take P.length=P
 par:∀x∈P,sc.names.lookup x=some .local
 nocell:∀y∈sc.names,y.2≠.cell
 frees:∀x,(x,YaI)∈sc.names->sc.names.lookup x=some .free
section
variable {P:Program}{w:World}{K:Yab}{mg:Str->Option Value}{base:Heap}
end
def jp2 (o:Obj)(q:Str):Prop:=∃vs t,o.data=.fields vs/\vs[1]?=some (.str q t)
noncomputable abbrev frzC (o:Obj):HO:=.frz o (.ext λ_=>True)
def jne (H:Hp)(P:Addr)(pos:Pos)(q:Str):Prop:=
 H P=some (.tbl #[])\/∃c oc,H P=some (.tbl #[rawInt pos.line,rawInt pos.col,.ref c])/\H c=some (frzC oc)/\jp2 oc q
def BmAt (mg:Str->Option Value)(base:Heap):Prop:=∃bm ob,mg "__builtins__" = some (.ref bm)/\bm≠Ydd/\base.get? bm=some ob/\ob.cls=.type "module" /\ ob.dict=some Ydd/\ob.data=.plain
section
variable {X:Cx}{pins:List (Addr×Obj)}{σ:St}{H:Hp}{s:Shared}
end
def jiB (tb:List Addr)(H:Hp):Prop:=∀b,if b∈tb then H b=some (.tbl #[]) else H b=none\/∃o xs,H b=some (.frz o (.lst xs))
theorem law_callT {P:Program}{w:World}{K:Yab}{mg mb:Str->Option Value}{CX:CXT}{k:Nat}{fa a:Addr}{fd:Ybn}{x:Str}{sp:Sp}{s₁:Shared}{vs:List Value}{ns:List Int}{tb:List Addr}
  (hKl:(K.all λp=>p.2.cls != .type "list")=true) (htb:∀b∈tb,s₁.heap.get? b=some (tabObj #[])/\isCodeTable s₁.heap b/\K.lookup b=none) (hbm:BmAt mg s₁.heap)
  (KX:K.In s₁.heap) (hsys:∃o,K.lookup YaV=some o/\o.cls=.type "dict") (hns:s₁.heap.Ns YaK mg) (hb:s₁.heap.Ns Ydd mb) (hbb:∀x:Str,x ≠ "__name__" -> mb x=YbS x) (hlim:s₁.heap.NoLimit) (hg:s₁.gens=#[])
  (ha:s₁.heap.get? a=some { cls:=.type "list",data:=.seq vs.toArray }) (hi:IntsAre vs ns) (hl:ns.length<=Yah) (hr:Room k callerA)
  (F:∀base:Heap,K.In base->base.Ns YaK mg->BmAt mg base->FnOk P w K mg base CX k fa fd [x] sp) (hbind:∀(s:Shared) (u:Value),BindsTo s fd ⟨[u],[]⟩ [(x,u)])
  (hsp:∀(H:Hp) (o:Obj),jiB tb H->H a=some (.frz o (.lst (ns.map V.int)))->sp [.ref a] H (λv _=>v=.bl true) λ_ _ _=>False)
  (hCX:∀H e s',CX [] H s₁ (λ_ _ _=>False) e s'->False) :
  codeAny (model P w) callerA (.call (.ref fa) ⟨[.ref a],[]⟩) (λr s'=>r=.ok (.ret (.bool true))/\OldK s₁.heap s'.heap/\s'.os=s₁.os/\AllBare s'.gens) s₁:=by
 have ka:K.lookup a=none:=by
  cases hk:K.lookup a with
  |none=>rfl
  |some o=>
   have e:=KX a o hk;rw[ha]at e;cases e;have:=List.all_eq_true.mp hKl (a,_) (mem_of_lookupK hk);simp at this
 let oa:Obj:={ cls:=.type "list",data:=.seq vs.toArray }
 have hat:a∉tb:=λz=>by
  have e:=(htb a z).1;rw[ha]at e;cases e
 obtain⟨H,hH⟩:∃H:Hp,H=λb=>if b∈tb then some (.tbl #[]) else if b=a then some (.frz oa (.lst (ns.map V.int))) else none:=⟨_,rfl⟩
 have H1:∀{b},b∈tb->H b=some (.tbl #[]):=λhb=>by rw[hH];exact if_pos hb
 have H2:H a=some (.frz oa (.lst (ns.map V.int))):=by
  rw[hH];show(if a∈tb then _ else if a=a then _ else _)=_
  rw[if_neg hat,if_pos rfl]
 have H3:∀{b},b∉tb->b≠a->H b=none:=λ{b} h1 h2=>by
  rw[hH];show(if b∈tb then _ else if b=a then _ else _)=_
  rw[if_neg h1,if_neg h2]
 clear hH;have free:∀{b:Addr} {o:Obj},s₁.heap.get? b=some o->o.cls≠.none->(∀xs n,o.data≠.seq xs n)->H b=none:=λ{b o} e h1 h2=>by
  refine H3 (λz=>?_) λz=>?_
  ·have e2:=(htb b z).1;rw[e]at e2;cases e2;exact h1 rfl
  ·rw[z,ha]at e;cases e;exact h2 _ _ rfl
 have hok:HOk P w H s₁.heap:=λb u e=>by
  by_cases h1:b∈tb
  ·rw[H1 h1]at e;cases e;exact(htb b h1).1
  ·by_cases h2:b=a
   ·subst h2;rw[H2]at e;cases e;exact⟨ha,by rw[Yac];exact hl,vs,_,jd5 hi,ha⟩
   ·rw[H3 h1 h2]at e;cases e
 have nsK:∀{b:Addr} {m:Str->Option Value},s₁.heap.Ns b m->(hidT s₁.heap H).Ns b m:=λ{b m} ⟨o,es,ep,e,d,r⟩=>by
  refine⟨o,es,ep,jdU e (H3 (λz=>?_) λz=>?_),d,r⟩
  ·have e2:=(htb b z).1;rw[e]at e2;cases e2;cases d
  ·rw[z,ha]at e;cases e;cases d
 have hKb:K.In (hidT s₁.heap H):=λb o e=>jdU (KX b o e) (H3 (λz=>by rw[(htb b z).2.2]at e;cases e) λz=>by rw[z,ka]at e;cases e)
 have hM:Mod K mg (hidT s₁.heap H):=⟨hKb,nsK hns,⟨mb,nsK hb,hbb⟩,let ⟨mc,h1,h2⟩:=hlim;⟨mc,nsK h1,h2⟩,hsys⟩
 have hBb:BmAt mg (hidT s₁.heap H):=by
  obtain⟨bm,ob,b1,b2,b3,b4,b5,b6⟩:=hbm;exact⟨bm,ob,b1,b2,jdU b3 (free b3 (by rw[b4];nofun) (by rw[b6];nofun)),b4,b5,b6⟩
 have e0:Env0 P w K mg (hidT s₁.heap H) callerA [] s₁ H:=⟨rfl,hM,λb o e=>jke e,YeJ (jhe _ _),trivial,λb hb=>(nomatch hb),hok,.of_eq hg⟩;have only:jiB tb H:=λb=>by
  by_cases h1:b∈tb
  ·rw[if_pos h1];exact H1 h1
  ·rw[if_neg h1];by_cases h2:b=a
   ·subst h2;exact .inr ⟨_,_,H2⟩
   ·exact .inl (H3 h1 h2)
 refine Yd4 ((F _ hKb (nsK hns) hBb).run callerA [] s₁ H ⟨[.ref a],[]⟩ [.ref a] [.ref a] _ _ hr e0 (hbind s₁ (.ref a)) (.cons rfl .nil) (hsp H oa only H2)) λr s' h=>?_
 match r,h with
 |.error e,h=>exact(hCX H e s' h).elim
 |.ok (.ret u),h=>
  obtain⟨v,H',os,bare,un,hok',r',q⟩:=h;have q':v=.bl true:=q;subst q';obtain rfl:u=Ye4 true:=r';refine⟨rfl,⟨λb o e=>?_,λb o e=>un.there b o e (by simp)⟩,os,bare⟩
  by_cases h1:b∈tb
  ·obtain⟨e1,ht,_⟩:=htb b h1;rw[e]at e1;cases e1;obtain⟨more,e2⟩:=un.tbls b _ (H1 h1);exact .inr (.inl ⟨ht,rfl,#[],more,rfl,hok' b _ e2⟩)
  ·by_cases h2:b=a
   ·subst h2;obtain⟨e2,_⟩:=hok' b _ (un.frzs b _ _ H2);rw[ha]at e;cases e;exact .inl e2
   ·exact .inl (un.keep b o e (H3 h1 h2) (by intro z;exact(nomatch z)) (by simp))
theorem walk_ofT {l:Ydo}{n k:Nat}{q:Program}{loose:List Str}{XP:(Str->Option Value)->Heap->Prop}{YP:World->Heap->Prop}{d:DefRec}{K:Params->Yab}{CX:World->CXT}{sp:World->Sp}{x:Str}{tbs:List (Str×Addr×Addr)}
  (hKl:∀w:World,((K w.params).all λp=>p.2.cls != .type "list")=true) (htb:∀(w:World),∀t∈tbs,(∃dr,(recsOf q).find? (λe=>e.name==t.1)=some dr)/\tabIn (K w.params) t.1=some (t.2.1,t.2.2)/\(K w.params).lookup t.2.2=none)
  (hn:l.most=some n) (hn2:n<=Yah) (hdf:d.params.defaults=[]) (hr:Room k callerA)
  (hY:∀(w:World) (h:Heap),YP w h->(K w.params).In h) (hsy:∀w:World,∃o,(K w.params).lookup YaV=some o/\o.cls=.type "dict")
  (F:∀(w:World) (mg:Str->Option Value) (fa:Addr) (h:Heap),(K w.params).In h->h.Ns YaK mg->mg d.name=some (.ref fa)->
   ∃fd:Ybn,(∀(s:Shared) (u:Value),BindsTo s fd ⟨[u],[]⟩ [(x,u)])/\
    ∀base:Heap,(K w.params).In base->base.Ns YaK mg->BmAt mg base->FnOk l.prog w (K w.params) mg base (CX w) k fa fd [x] (sp w))
  (hsp:∀(w:World) (H:Hp) (o:Obj) (a:Addr) (ns:List Int),ns.length<=n->jiB (tbs.map (·.2.2)) H->H a=some (.frz o (.lst (ns.map V.int)))->sp w [.ref a] H (λv _=>v=.bl true) λ_ _ _=>False)
  (hCX:∀(w:World) (H:Hp) (s:Shared) (e:Value) (s':Shared),CX w [] H s (λ_ _ _=>False) e s'->False) :
  YfG q loose XP YP l.row.toRowW d [] (λf vs=>Ye5 f vs):=by
 refine Att.attach_call hn hdf λw s₀ s₁ mg mb fa o pm cd doc a vs ns G Y ho hd hcd hmg hobj hints hlen hg=>?_;have kx:=hY w _ Y;obtain⟨fd,hb,hF⟩:=F w mg fa _ kx G.T.g hmg;refine law_callT (tb:=tbs.map (·.2.2)) (hKl w) (λb hb=>?_) ?_ kx (hsy w) G.T.g G.T.b G.T.builtins G.T.nolimit hg hobj hints (Yal hlen hn2) hr hF hb (λH o hO hS=>hsp w H o a ns hlen hO hS) λH e s'=>hCX w H s₁ e s'
 ·obtain⟨t,ht,rfl⟩:=List.mem_map.mp hb;obtain⟨⟨dr,h1⟩,h2,h3⟩:=htb w t ht;obtain⟨c1,c2⟩:=tab_of G.T kx h1 h2;exact⟨c2,(c1.tab c2).isCodeTable,h3⟩
 ·obtain⟨bm,ob,b1,b2,b3,b4,b5,b6⟩:=G.T.bmain;exact⟨bm,ob,b1,b2,b3,b4,b5,b6⟩
end L2

namespace L2
open PySem PySem.Spec PyProof.Rows
open Sem (wp)
open AutoSeq1 (wpAny_loadPart')
section
variable {prog:Program}{w:World}{A:Around}{E:Value->Shared->Prop}{s:Shared}
theorem jd3 {l:Addr}{items:Array Value}{Q:Value->Shared->Prop}(hL:s.heap.IsList l items)
  (h:∀h',IsEnum h' (s.heap.objs.size+1) s.heap.objs.size 0 .none->h'.IsListIter s.heap.objs.size l 0->(∀b o,s.heap.get? b=some o->h'.get? b=some o)->Q (.ref (s.heap.objs.size+1)) { s with heap:=h' }) :
  wpAny (model prog w) A (call (.type "enumerate") [.ref l]) Q E s:=by
 have at2:∀(p:Heap) (n:Nat) (o:Obj),p.objs.size=n->o.isFreed=false->(p.push o).get? n=some o:=λp n o e f=>by
  subst e;exact Yaq p f
 have sz:=λo=>Ycy s.heap o;refine callType_new F.called_enumerate (by decide) (YeW _) (Yfi _) (λobj=>Yfw obj _) Yfj (jbU (.ref l) _) ⟨λ_ _ _ _ _ q=>YdU hL q,?_⟩
 rw[sz];have he:=at2 _ _ ⟨.type "enumerate",none,.fields #[.none,.bool false,.ref s.heap.objs.size,rawInt 0,.none,.none],#[]⟩ (sz ⟨.type "list_iterator",none,.fields #[.ref l,.int 0 0],#[]⟩) rfl;exact⟨⟨_,he,rfl⟩,h _ he ⟨_,Yad _ (at2 _ _ _ rfl rfl),rfl,rfl⟩ λb o x=>Yad _ (Yad _ x)⟩
end
section
variable {X:Cx}{pins:List (Addr×Obj)}{σ:St}{H:Hp}{s:Shared}{h':Heap}
noncomputable def Itf (K:Yab)(a:Addr):It:=
 ⟨λi H=>∃xs x,SqL K H a xs/\xs[i]?=some x,λi H y H'=>∃x p,(∀xs,SqL K H a xs->xs[i]?=some x)/\y=.ref p/\H p=none/\H'=upd H p (.tup [.int (i:Int),x]),λi H=>∃xs,SqL K H a xs/\xs.length=i⟩
theorem jfZ {P:Program}{w:World}{K:Yab}{elts:List Expr}{x1}{pos:Pos}(a e it:Addr)(hei:e≠it)(hae:a≠e)(hai:a≠it) :
  Turn P w K (.Tuple elts x1 pos) (Itf K a) [e,it] e (λi h=>(∃old,IsEnum h e it (i:Int) old)/\h.IsListIter it a i) where
 mem:=by simp
 obj:=λi h st b hb=>by
  obtain⟨⟨old,he⟩,o,ho,c,d⟩:=st;simp only[YaO,Yav,or_false]at hb;rcases hb with rfl|rfl
  ·exact⟨_,he,λv z=>nomatch z⟩
  ·exact⟨o,ho,λv z=>by rw[d]at z;cases z⟩
 keep:=λi h h' st k=>by
  obtain⟨⟨old,he⟩,o,ho,r⟩:=st;exact⟨⟨old,k e (by simp) _ he⟩,o,k it (by simp) _ ho,r⟩
 item:=by
  intro X hP hw hK hc i pins s σ H E I hf st hg;subst hP hw hK;obtain⟨xs,x,hq,hx⟩:=hg;obtain⟨its,rv,p,hz⟩:=I.list hq;obtain⟨u,hu,ru⟩:=rv.get hx;obtain⟨⟨old,he⟩,hit⟩:=st;have hlt:i<its.toArray.size:=by
   have:=(List.getElem?_eq_some_iff.mp hu).1;simpa using this
  refine YeX (Yef (A:=X.A.in1) (I.ok.hd hc) it a hai its.toArray) he ⟨hit,p.isList⟩ hlt hei (by simp;exact⟨hei,Ne.symm hae⟩) λx' h' tk hP ho hs' hT hsz hk=>?_
  refine⟨_,rfl,Yeu ho λh2 he2 hs2=>?_⟩;have ex:x'=u:=by
   have:its.toArray[i]?=some u:=by simpa using hu
   exact Yar (hP.symm.trans this)
  subst ex;have hfr:H s.heap.objs.size=none:=I.hok.fresh (Yag _);have hen:e≠s.heap.objs.size:=Yax (Yao he);have hin:it≠s.heap.objs.size:=by obtain⟨o,ho',_⟩:=hit;exact Yax (Yao ho')
  have I1:Inv X pins σ (upd H s.heap.objs.size (.tup [.int (i:Int),x])) { s with heap:=s.heap.push { cls:=.type "tuple",data:=.seq #[.int i tk,x'] },toks:=tk+1 }:=by
   refine I.laid (λb o y=>Yad _ y) (Yag _) ⟨by show 2<=Yah;decide,[.int i tk,x'],.cons ⟨tk,rfl⟩ (.cons ru .nil),TupD.new _ _⟩
  have fpU:∀b,b≠s.heap.objs.size->FpOk X pins H b->FpOk X pins (upd H s.heap.objs.size (.tup [.int (i:Int),x])) b:=λb hb f=>⟨by rw[jac hb];exact f.1,f.2⟩
  have kk:∀b o,b≠e->b≠it->(s.heap.push { cls:=.type "tuple",data:=.seq #[.int i tk,x'] }).get? b=some o->h2.get? b=some o:=λb o be bi y=>by
   have step:h'.get? b=some o:=by
    by_cases hb:b=s.heap.objs.size
    ·subst hb;rw[hT];exact(Yaq s.heap (o:={ cls:=.type "tuple",data:=.seq #[.int i tk,x'] }) rfl).symm.trans y
    ·rw[Ydk _ _ _ hb]at y;exact hk b o be bi y
   exact(hs2.2 b be).trans step
  have I2:Inv X pins σ (upd H s.heap.objs.size (.tup [.int (i:Int),x])) { s with heap:=h2,toks:=tk+1 }:=
   jgr (s:={ s with heap:=s.heap.push { cls:=.type "tuple",data:=.seq #[.int i tk,x'] },toks:=tk+1 }) (h':=h2) (t':=tk+1) (e:=e) (it:=it) I1 kk (fpU e hen (hf e (by simp))) (fpU it hin (hf it (by simp)))
  refine⟨.ref s.heap.objs.size,_,I2,rfl,⟨x,_,λys hy=>by rw[I.list_inj hy hq];exact hx,rfl,hfr,rfl⟩,⟨⟨_,by simpa using he2⟩,?_⟩,λb hb=>?_⟩
  ·obtain⟨o,ho',r⟩:=hs'.1;exact⟨o,(hs2.2 it (Ne.symm hei)).trans ho',r⟩
  ·simp only[YaO,Yav,or_false]at hb;rcases hb with rfl|rfl
   ·rw[jac hen];exact(hf _ (by simp)).1
   ·rw[jac hin];exact(hf _ (by simp)).1
 done:=by
  intro X hP hw hK hc i pins s σ H E I hf st hg;subst hP hw hK;obtain⟨xs,hq,hx⟩:=hg;obtain⟨its,rv,p,hz⟩:=I.list hq;obtain⟨⟨old,he⟩,hit⟩:=st;have hl:its.toArray.size=i:=by rw[Yai,<- rv.length];exact hx
  refine Yfl (Yef (A:=X.A.in1) (I.ok.hd hc) it a hai its.toArray) he ⟨by rw[hl];exact hit,p.isList⟩ λh' eb=>⟨rfl,?_⟩
  obtain⟨f0,f1,f2,f3,f4,f5⟩:=hf it (by simp)
  exact I.turned (t':=s.toks) (λb o hb y=>eb b o hb y) f0 f1 f3 f4 f5
 self:=λA i s Q E st h=>by
  obtain⟨⟨old,he⟩,_⟩:=st;exact YcN he h
end
section
variable {X:Cx}
def jmL (K:Yab)(ta:TA):TI:=λσ H R=>ta σ H λvs H1=>∃a,vs=[.ref a]/\(((∃xs,H1 a=some (.tup xs))/\R (Ite K a) H1)\/((∃xs,SqL K H1 a xs)/\R (Itf K a) H1))
theorem jh1 {l:Expr}{ta:TA}{p pos tpos:Pos}{elts:List Expr}{x1}(hg:Gl X "enumerate")(hm:X.mg "enumerate" = none)(ha:PA X [l] ta)(hs:YaG [l] X.env=[(false,eval l X.env)]:=by rfl) :
  PI X (.Tuple elts x1 tpos) (.Call (.Name "enumerate" p) [l] [] pos) (jmL X.K ta):=by
 intro pins s σ H R I h;refine Call_ (jen I hg hm boot_enumerate (Yb6 (thn (ha pos pins s σ H _ I h) λus s1 ⟨vs,H1,I1,r1,q1⟩=>?_) hs rfl));obtain⟨a,e,q⟩:=q1;subst e;obtain⟨u,rfl,rx⟩:=jcO r1;cases rx;have fp:∀b∈[s1.heap.objs.size+1,s1.heap.objs.size],FpOk X pins H1 b:=λb hb=>by
  simp only[YaO,Yav,or_false]at hb;rcases hb with rfl|rfl
  ·exact I1.fpOk (Yd0 _) (I1.hok.fresh (Yd0 _))
  ·exact I1.fpOk (Yag _) (I1.hok.fresh (Yag _))
 rcases q with⟨⟨xs,hq⟩,q⟩|⟨⟨xs,hq⟩,q⟩
 ·obtain⟨its,rv,t,hz⟩:=I1.tuple (SqT.of hq);have hlt:a<s1.heap.objs.size:=by obtain⟨o,ho,_⟩:=t;exact Yao ho
  exact jd2 (items:=its.toArray) t λh' he hit hk=>YcN he ⟨_,_,_,_,H1,rfl,I1.kept (t':=s1.toks) hk,jgt a _ _ (Nat.succ_ne_self _) (Yax (Ydr hlt)) (Yax hlt),⟨⟨_,he⟩,hit⟩,fp,q⟩
 ·obtain⟨its,rv,t,hz⟩:=I1.list hq;have hlt:a<s1.heap.objs.size:=by obtain⟨o,ho,_⟩:=t.isList;exact Yao ho
  exact jd3 (items:=its.toArray) t.isList λh' he hit hk=>YcN he ⟨_,_,_,_,H1,rfl,I1.kept (t':=s1.toks) hk,jfZ a _ _ (Nat.succ_ne_self _) (Yax (Ydr hlt)) (Yax hlt),⟨⟨_,he⟩,hit⟩,fp,q⟩
end
end L2

namespace L2
open PySem PySem.Spec PyProof.Rows
section
variable {X:Cx}
theorem jgK:OpR X (YaN .LtE) (λx y H Q=>∃i j,x=.str i/\y=.str j/\Q (.bl (!decide (j.cps.toList<i.cps.toList))) H):=by
 intro pins s σ H x y v u Q I rx ry h;obtain⟨i,j,rfl,rfl,q⟩:=h;obtain⟨t,rfl⟩:=rx;obtain⟨t',rfl⟩:=ry;exact PySem.P.le_str (jaj I q rfl)
theorem jd1:ja5 X (.type "int") (λxs H Q=>∃z n,xs=[.str z]/\PySem.intText? z=some n/\z.length<=640/\Q (.int n) H):=by
 intro pins s σ H xs us Q I r h;obtain⟨z,n,rfl,h1,h2,q⟩:=h;obtain⟨u,rfl,rx⟩:=jcO r;obtain⟨t,rfl⟩:=rx;exact PySem.W.KIN.call_text h1 h2 ⟨.int n,H,I.tok _,⟨_,rfl⟩,q⟩
noncomputable def Its (x:Str):It:=⟨λi _=>i<x.cps.size,λi H y H'=>H'=H/\∃c,x.cps[i]?=some c/\y=.str ⟨#[c]⟩,λi _=>x.cps.size<=i⟩
theorem jhI {P:Program}{w:World}{K:Yab}{tg:Expr}(x:Str)(t:Tok)(it:Addr):Turn P w K tg (Its x) [it] it (λi h=>h.IsStrIter it "str_ascii_iterator" x t i) where
 mem:=by simp
 obj:=λi h st b hb=>by
  obtain rfl:b=it:=by simpa using hb
  obtain⟨o,e,c,d⟩:=st;exact⟨o,e,λv z=>by rw[d]at z;cases z⟩
 keep:=λi h h' st k=>let ⟨o,e,r⟩:=st;⟨o,k it (by simp) o e,r⟩
 item:=by
  intro X hP hw hK hc i pins s σ H E I hf st hg;subst hP hw hK;obtain⟨f0,f1,f2,f3,f4,f5⟩:=hf it (by simp)
  have hg:i<x.cps.size:=hg;have hx:x.cps[i]?=some x.cps[i]:=by simp[hg]
  refine wpAny_pyNext_ascii_item st hx λh' st' sb=>?_;have I1:Inv X pins σ H { s with heap:=h',toks:=s.toks+1 }:=I.turned (t':=s.toks+1) (λb o hb e=>(sb.2 b hb).trans e) f0 f1 f3 f4 f5
  obtain⟨o,e,c,d⟩:=id st';exact⟨_,rfl,jhh (s:={ s with heap:=h',toks:=s.toks+1 }) e c d (by decide) ⟨.str ⟨#[x.cps[i]]⟩,H,I1,⟨_,rfl⟩,⟨rfl,_,hx,rfl⟩,st',λb hb=>(hf b hb).1⟩⟩
 done:=by
  intro X hP hw hK hc i pins s σ H E I hf st hg;subst hP hw hK;obtain⟨f0,f1,f2,f3,f4,f5⟩:=hf it (by simp)
  have hg:x.cps.size<=i:=hg;exact wpAny_pyNext_ascii_end (I.ok.hd hc) st (by simpa using hg) λh' eb=>⟨rfl,I.turned (t':=s.toks) (λb o hb e=>eb b o hb e) f0 f1 f3 f4 f5⟩
 self:=λ_ _ _ _ _ st h=>wpAny_pyIter_striter_ascii st h
def iStr (tl:TE):TI:=λσ H R=>tl σ H λx H1=>∃z:Str,x=.str z/\z.cps.all (·< 128)=true/\R (Its z) H1
theorem jlM {tg l:Expr}{tl:TE}(hl:PE X l tl):PI X tg l (iStr tl):=by
 intro pins s σ H R I h;refine thn (hl pins s σ H _ I h) λv s1 ⟨x,H1,I1,r1,z,e,ha,q⟩=>?_;subst e;obtain⟨t,rfl⟩:=r1;refine wpAny_pyIter_ascii ha ?_;refine⟨s1.heap.objs.size,[s1.heap.objs.size],_,_,H1,rfl,I1.kept (t':=s1.toks) λb o e=>Yad _ e,jhI z t _,⟨_,Yaq _ rfl,rfl,rfl⟩,λb hb=>?_,q⟩;obtain rfl:b=s1.heap.objs.size:=by simpa using hb
 exact I1.fpOk (Yag _) (I1.hok.fresh (Yag _))
abbrev TF:=St->Hp->(List Str->Hp->Prop)->Prop
noncomputable def cats (out:Str)(ys:List Str):Str:=ys.foldl (·++·) out
def PJ (X:Cx)(vs:List Expr)(t:TF):Prop:=
 ∀(out:Str) (pins:List (Addr×Obj)) (s:Shared) (σ:St) (H:Hp) (Q:VK),out.length+10000*vs.length<=Yah->Inv X pins σ H s->t σ H (λys H1=>Q (.str (cats out ys)) H1)->wpAny (model X.prog X.w) X.A (joinParts out (evalEach vs X.env)) (EP X pins σ Q) X.xe s
theorem jfQ {prog:Program}{w:World}{A:Around}{E:Value->Shared->Prop}{it a:Addr}{its:Array Value}(hne:a≠it):∀(m i:Nat) (s:Shared) (Q:List Value->Shared->Prop),s.heap.IsListIter it a i->s.heap.IsList a its->i+m<=its.size->
  (∀h',h'.IsListIter it a (i+m)->Ycv it s.heap h'->Q ((its.toList.drop i).take m) { s with heap:=h' })->wpAny (model prog w) A (draw (.ref it) m) Q E s
 |0,i,s,Q,hit,_,_,q=>Yap (by simpa using q s.heap hit (Ycv.refl ..))
 |m+1,i,s,Q,hit,hl,hle,q=>by
  have hi:i<its.size:=by omega
  show wpAny _ _ (pyNext (.ref it) >>= _) Q E s;refine Yaf (Yfk hit hl (x:=its[i]) (by simp[hi]) λh1 hit1 sb1=>?_)
  refine Yaf (Ybb (jfQ hne m (i+1) _ _ hit1 (hl.extBut sb1.extBut hne) (by omega) λh2 hit2 sb2=>Yap ?_))
  have e:its.toList.drop i=its[i]::its.toList.drop (i+1):=by simp[YaU,hi]
  have r:=q h2 (by rw[show i+(m+1)=i+1+m by omega];exact hit2) (sb1.trans sb2)
  rw[e,List.take_succ_cons]at r;exact r
def gLst (K:Yab)(n:Nat)(t:TGs):TG:=λv σ H Q=>∃a xs,v=.ref a/\SqL K H a xs/\xs.length=n/\t xs σ H Q
theorem jlQ {es:List Expr}{k n:Nat}{pos:Pos}{t:TGs}(hc:X.calm=true)(h:PGs X es t)
  (hn:(YaZ es X.env).length=n:=by rfl) (hst:(YaZ es X.env).findIdx? (·.1)=none:=by rfl):PG X (.Tuple es k pos) (gLst X.K n t):=by
 intro pins s σ H v u Q I r hw;obtain⟨a,xs,rfl,hq,hl,hw⟩:=hw;cases r;obtain⟨its,rv,hp,hz⟩:=I.list hq;have hL:=hp.isList;have hlt:a≠s.heap.objs.size:=by obtain⟨o,ho,_⟩:=hL;exact Yax (Yao ho)
 have sz:its.toArray.size=n:=by rw[Yai,<- rv.length];exact hl
 rw[assign_Tuple];refine Yaf (YcY ?_);unfold unpack;rw[hn,hst];refine Yaf (Ybb ?_);unfold unpackItems;refine Yaf ?_;unfold notIterableAtAll;refine Yaf (wpAny_specialOf hL.typeIs slot_list_iter.lookup ?_);refine Yap ?_;simp only[Ybo,if_false];refine Yaf (Ybb (YdU hL ?_));refine Yaf (Ybb (jfQ hlt n 0 _ _ ⟨_,Yaq _ rfl,rfl,rfl⟩ (hL.push _) (by omega) λh1 hit1 sb1=>?_))
 have hall:List.take n (List.drop 0 its.toArray.toList)=its:=by
  rw[Yc3];exact YcL (by simp;rw[<- rv.length];omega)
 rw[hall];have hil:its.length=n:=by rw[<- rv.length];exact hl
 rw[if_neg (by omega)]
 have hL1:h1.IsList a its.toArray:=(hL.push _).extBut sb1.extBut hlt;refine Yaf (Ybb (Yfz (I.ok.hd hc) hit1 hL1 (by simp;omega) λh2 eb=>?_))
 simp only[Option.isSome_none,Ybo,if_false];refine Yap ?_;have I1:Inv X pins σ H { s with heap:=h2 }:=I.kept (t':=s.toks) λb o e=>eb b o (Yax (Yao e)) (sb1.extBut b o (Yax (Yao e)) (Yad _ e))
 exact h pins _ σ H xs _ Q I1 rv hw
end
end L2

namespace L2
open PySem PySem.Spec PyProof.Rows Builtin Builtin.Str
section
variable {X:Cx}
end
end L2

namespace L2
open PySem PySem.Spec PyProof.Rows
section
variable {prog:Program}{w:World}{K:Type}[DecidableEq K]{knd:KeyKind prog w K}{A:Around}{E:Value->Shared->Prop}{s:Shared}
end
section
variable {X:Cx}
end
section
variable {P:Program}{w:World}{H:Hp}{h:Heap}{a:Addr}{o:Obj}{es:Array Ych}{ep:Nat}{kvs:List (Key×V)}
theorem jfM (x:jaC P w H h a (.frz o (.dK kvs)))(hd:o.data=.dict es ep):es.size=kvs.length/\∃vs,KV kvs vs/\h.DictAt (jai P w) a vs ep:=by
 obtain⟨ho,_,_,vs,r,o',es',ep',h1,h2,h3,h4,h5,h6⟩:=x;rw[ho]at h1;cases h1;rw[hd]at h3;cases h3;have e:=h5.length;rw[Ybt]at e;exact⟨e.trans r.length.symm,vs,r,o,es,ho,h2,hd,h4,h5,h6⟩
theorem KV.at {κ:Type}{kvs:List (κ×V)}{vs:List (κ×Value)}(r:KV kvs vs):∀{i:Nat} {p:κ×V},kvs[i]?=some p->∃v,vs[i]?=some (p.1,v)/\RelV p.2 v:=by
 induction r with
 |nil=>intro i p h;simp at h
 |@cons p q ps qs h t ih=>
  intro i p' e;cases i with
  |zero=>simp at e;subst e;exact⟨q.2,by rw[h.1];rfl,h.2⟩
  |succ j=>simp at e;simpa using ih e
noncomputable def Itv (a:Addr)(o:Obj):It:=
 ⟨λi H=>∃kvs,H a=some (.frz o (.dK kvs))/\i<kvs.length,λi H x H'=>H'=H/\∃kvs k,H a=some (.frz o (.dK kvs))/\kvs[i]?=some (k,x),λi H=>∃kvs,H a=some (.frz o (.dK kvs))/\kvs.length<=i⟩
noncomputable def Iti (a:Addr)(o:Obj):It:=
 ⟨λi H=>∃kvs,H a=some (.frz o (.dK kvs))/\i<kvs.length,λi H y H'=>∃kvs k x p,H a=some (.frz o (.dK kvs))/\kvs[i]?=some (k,x)/\y=.ref p/\H p=none/\H'=upd H p (.tup [kV k,x]),λi H=>∃kvs,H a=some (.frz o (.dK kvs))/\kvs.length<=i⟩
theorem jjo {K:Yab}{tg:Expr}(a it:Addr)(o:Obj)(es:Array Ych)(ep:Nat)(hd:o.data=.dict es ep) :
  Turn P w K tg (Itv a o) [it] it (λi h=>h.IsValIter it a i es.size ep) where
 mem:=by simp
 obj:=λi h st b hb=>by
  cases List.mem_singleton.mp hb;obtain⟨u,e,_,d⟩:=st;exact⟨u,e,λv z=>by rw[d]at z;cases z⟩
 keep:=λi h h' st k=>st.at λu e=>k it (by simp) u e
 item:=by
  intro X hP hw hK hc i pins s σ H E I hf st hg;subst hP hw hK;obtain⟨kvs,hq,hl⟩:=hg;obtain⟨hs,vs,r,da⟩:=jfM (I.hok a _ hq) hd;obtain⟨f0,f1,f2,f3,f4,f5⟩:=hf it (by simp)
  rw[hs.trans r.length]at st;have ek:kvs[i]?=some kvs[i]:=Yaa hl;obtain⟨v,ev,rv⟩:=r.at ek;refine wpAny_pyNext_values_item st da ev λh' st' sb=>?_;obtain⟨u,eu,cu,du⟩:=id st';rw[<- r.length,<- hs]at st';exact⟨_,rfl,jhh (s:={ s with heap:=h' }) eu cu du (by decide) ⟨_,H,I.turned (t':=s.toks) (λb o hb e=>(sb.2 b hb).trans e) f0 f1 f3 f4 f5,rv,⟨rfl,kvs,_,hq,ek⟩,st',λb hb=>(hf b hb).1⟩⟩
 done:=by
  intro X hP hw hK hc i pins s σ H E I hf st hg;subst hP hw hK;obtain⟨kvs,hq,hl⟩:=hg;obtain⟨hs,vs,r,da⟩:=jfM (I.hok a _ hq) hd;obtain⟨f0,f1,f2,f3,f4,f5⟩:=hf it (by simp)
  rw[hs.trans r.length]at st;exact wpAny_pyNext_values_end (I.ok.hd hc) st da (Ycj (by rw[<- r.length];exact hl)) λh' eb=>⟨rfl,I.turned (t':=s.toks) (λb o hb e=>eb b o hb e) f0 f1 f3 f4 f5⟩
 self:=λ_ _ _ _ _ st q=>wpAny_pyIter_valiter st q
theorem jkt {k:Key}{u:Value}(e:(jai P w).is k u=true):RelV (kV k) u:=by
 rcases jal e with⟨i,t,rfl,rfl⟩|⟨x,t,rfl,rfl⟩
 ·exact⟨t,rfl⟩
 ·exact⟨t,rfl⟩
theorem jjp {K:Yab}{elts:List Expr}{x1}{pos:Pos}(a it:Addr)(o:Obj)(es:Array Ych)(ep:Nat)(hd:o.data=.dict es ep) :
  Turn P w K (.Tuple elts x1 pos) (Iti a o) [it] it (λi h=>∃u v,IsItemIter h it a i es.size ep u v) where
 mem:=by simp
 obj:=λi h st b hb=>by
  cases List.mem_singleton.mp hb;obtain⟨u,v,e⟩:=st;exact⟨_,e,λv z=>nomatch z⟩
 keep:=λi h h' st k=>let ⟨u,v,e⟩:=st;⟨u,v,k it (by simp) _ e⟩
 item:=by
  intro X hP hw hK hc i pins s σ H E I hf st hg;subst hP hw hK;obtain⟨kvs,hq,hl⟩:=hg;obtain⟨hs,vs,r,da⟩:=jfM (I.hok a _ hq) hd;have fi:=hf it (by simp)
  obtain⟨u0,v0,st⟩:=st;rw[hs.trans r.length]at st;have ek:kvs[i]?=some kvs[i]:=Yaa hl;obtain⟨v,ev,rv⟩:=r.at ek;refine wpAny_pyNext_items_item st da ev λkey h' hk out tp sz kp=>⟨_,rfl,wpAny_letOwnedTupleGo_items out λh2 st2 sb=>?_⟩;rw[<- r.length,<- hs]at st2;have hfr:H s.heap.objs.size=none:=I.hok.fresh (Yag _);have hin:it≠s.heap.objs.size:=Yax (Yao st);have I1:Inv X pins σ (upd H s.heap.objs.size (.tup [kV kvs[i].1,kvs[i].2])) { s with heap:=s.heap.push { cls:=.type "tuple",data:=.seq #[key,v] },toks:=s.toks }:=by
   refine I.laid (λb o y=>Yad _ y) (Yag _) ⟨by show 2<=Yah;decide,[key,v],.cons (jkt hk) (.cons rv .nil),TupD.new _ _⟩
  have kk:∀b o,b≠it->(s.heap.push { cls:=.type "tuple",data:=.seq #[key,v] }).get? b=some o->h2.get? b=some o:=λb o bi y=>by
   refine(sb.2 b bi).trans ?_;by_cases hb:b=s.heap.objs.size
   ·subst hb;rw[Yaq _ rfl]at y;exact tp.trans y
   ·rw[Ydk _ _ _ hb]at y;exact kp b o bi y
  obtain⟨f0,f1,f2,f3,f4,f5⟩:=fi;have f0':upd H s.heap.objs.size (.tup [kV kvs[i].1,kvs[i].2]) it=none:=by rw[jac hin];exact f0
  refine⟨.ref s.heap.objs.size,_,I1.turned (h':=h2) (t':=s.toks) kk f0' f1 f3 f4 f5,rfl,⟨kvs,_,_,_,hq,ek,rfl,hfr,rfl⟩,⟨_,_,st2⟩,λb hb=>?_⟩;cases List.mem_singleton.mp hb;exact f0'
 done:=by
  intro X hP hw hK hc i pins s σ H E I hf st hg;subst hP hw hK;obtain⟨kvs,hq,hl⟩:=hg;obtain⟨hs,vs,r,da⟩:=jfM (I.hok a _ hq) hd;obtain⟨f0,f1,f2,f3,f4,f5⟩:=hf it (by simp)
  obtain⟨u0,v0,st⟩:=st;rw[hs.trans r.length]at st;exact wpAny_pyNext_items_end (I.ok.hd hc) st da (Ycj (by rw[<- r.length];exact hl)) λh' eb=>⟨rfl,I.turned (t':=s.toks) (λb o hb e=>eb b o hb e) f0 f1 f3 f4 f5⟩
 self:=λA i s Q E st q=>by
  obtain⟨u,v,st⟩:=st;exact PySem.W.kcp_self st q
end
section
variable {X:Cx}{tg d:Expr}{tl:TE}{apos cpos:Pos}
def Held (H:Hp)(a:Addr)(kvs:List (Key×V))(R:Obj->Hp->Prop):Prop:=Rd H a (.dK kvs)/\∀o,(∀u,H a=some (.frz u (.dK kvs))->u=o)->R o (upd H a (.frz o (.dK kvs)))
theorem jhg {pins:List (Addr×Obj)}{s:Shared}{σ:St}{H:Hp}{a:Addr}{kvs:List (Key×V)}{R:Obj->Hp->Prop}(I:Inv X pins σ H s)(q:Held H a kvs R) :
  ∃o es ep vs,o.data=.dict es ep/\es.size=vs.length/\(a==YaV)=false/\s.heap.DictAt (jai X.prog X.w) a vs ep/\R o (upd H a (.frz o (.dK kvs)))/\Inv X pins σ (upd H a (.frz o (.dK kvs))) s:=by
 obtain⟨z,y,vs,r,o,es,ep,h1,h2,h3,h4,h5,h6⟩:=jew I.hok q.1;have e:=h5.length;rw[Ybt]at e;have at0:s.heap.DictAt (jai X.prog X.w) a vs ep:=⟨o,es,h1,h2,h3,h4,h5,h6⟩;rcases q.1 with g|⟨u,g⟩
 ·refine⟨o,es,ep,vs,h3,e,y,at0,q.2 o (λu z=>by rw[g]at z;cases z),?_⟩
  exact I.write (h':=s.heap) (t':=s.toks) (x:=a) (e:=a) (by rw[g];trivial) (.inl rfl) (λb u _ e=>e) ⟨o,h1⟩ ⟨h1,z,y,vs,r,o,es,ep,h1,h2,h3,h4,h5,h6⟩
 ·have hu:=(show jaC X.prog X.w H s.heap a (.frz u (.dK kvs))from I.hok a _ g).1;rw[h1]at hu;cases hu;have same:upd H a (.frz o (.dK kvs))=H:=by
   funext b;unfold upd;split
   ·rename_i z;rw[z,g]
   ·rfl
  refine⟨o,es,ep,vs,h3,e,y,at0,q.2 o (λu z=>by rw[g]at z;cases z;rfl),?_⟩
  rw[same];exact I
def iDV (tl:TE):TI:=λσ H R=>tl σ H λx H1=>∃a kvs,x=.ref a/\Held H1 a kvs λo H'=>R (Itv a o) H'
def iDI (tl:TE):TI:=λσ H R=>tl σ H λx H1=>∃a kvs,x=.ref a/\Held H1 a kvs λo H'=>R (Iti a o) H'
theorem jon (hd:PE X d tl)(hbase:Ybq d "values" X.env (eval d X.env)=eval d X.env:=by rfl)(hline:(apos.endLine==cpos.line)=true:=by rfl):PI X tg (.Call (.Attribute d "values" apos) [] [] cpos) (iDV tl):=by
 intro pins s σ H R I h;refine YeY hbase hline (thn (hd pins s σ H _ I h) λv s1 ⟨x,H1,I1,r1,a,kvs,ex,q⟩=>?_);subst ex;cases r1;obtain⟨t1,t2,_⟩:=jiZ I1 (.inl ⟨kvs,q.1⟩);obtain⟨o,es,ep,vs,hd,hs,y,at0,q,I2⟩:=jhg I1 q;refine⟨"dict", "dict.values",YdY,YdM,PySem.F.type_dict_values,t1,t2,Yb4 rfl (Yc2 ?_)⟩;refine call_meetsIn YdM t1 PySem.F.entry_dict_values (PySem.F.args_dict_values_1 _) (meets_dict_values (jai X.prog X.w) a y) ⟨⟨vs,at0.dictOf⟩,?_⟩;have I3:Inv X pins σ (upd H1 a (.frz o (.dK kvs))) { s1 with heap:=s1.heap.push { cls:=.type "dict_values",data:=.fields #[.ref a] } }:=I2.kept (t':=s1.toks) λb o e=>Yad _ e
 refine wpAny_pyIter_values (s:={ s1 with heap:=s1.heap.push { cls:=.type "dict_values",data:=.fields #[.ref a] } }) ⟨_,Yaq _ rfl,rfl,rfl⟩ (at0.at' λo e=>Yad _ e) ?_
 rw[<- hs];refine⟨_,[_],_,_,_,rfl,I3.kept (t':=s1.toks) λb o e=>Yad _ e,jjo a _ o es ep hd,⟨_,Yaq _ rfl,rfl,rfl⟩,λb hb=>?_,q⟩;cases List.mem_singleton.mp hb;exact I3.fpOk (Yag _) (I3.hok.fresh (Yag _))
theorem joo {elts:List Expr}{x1}{tpos:Pos}(hd:PE X d tl)(hbase:Ybq d "items" X.env (eval d X.env)=eval d X.env:=by rfl)(hline:(apos.endLine==cpos.line)=true:=by rfl):PI X (.Tuple elts x1 tpos) (.Call (.Attribute d "items" apos) [] [] cpos) (iDI tl):=by
 intro pins s σ H R I h;refine YeY hbase hline (thn (hd pins s σ H _ I h) λv s1 ⟨x,H1,I1,r1,a,kvs,ex,q⟩=>?_);subst ex;cases r1;obtain⟨t1,t2,_⟩:=jiZ I1 (.inl ⟨kvs,q.1⟩);obtain⟨o,es,ep,vs,hd,hs,y,at0,q,I2⟩:=jhg I1 q;refine⟨"dict", "dict.items",YdY,YdX,PySem.F.type_dict_items,t1,t2,Yb4 rfl (Yc2 ?_)⟩;refine call_meetsIn YdX t1 PySem.F.entry_dict_items (PySem.F.args_dict_items_1 _) (meets_dict_items (jai X.prog X.w) a y) ⟨⟨vs,at0.dictOf⟩,?_⟩;have I3:Inv X pins σ (upd H1 a (.frz o (.dK kvs))) { s1 with heap:=s1.heap.push { cls:=.type "dict_items",data:=.fields #[.ref a] } }:=I2.kept (t':=s1.toks) λb o e=>Yad _ e
 refine wpAny_pyIter_items (s:={ s1 with heap:=s1.heap.push { cls:=.type "dict_items",data:=.fields #[.ref a] } }) ⟨_,Yaq _ rfl,rfl,rfl⟩ (at0.at' λo e=>Yad _ e) ?_
 rw[<- hs];refine⟨_,[_],_,_,_,rfl,I3.kept (t':=s1.toks) λb o e=>Yad _ e,jjp a _ o es ep hd,⟨_,_,Yaq _ rfl⟩,λb hb=>?_,q⟩;cases List.mem_singleton.mp hb;exact I3.fpOk (Yag _) (I3.hok.fresh (Yag _))
end
end L2

namespace L2
open PySem PySem.Spec PyProof.Rows
open Sem (wp)
structure Zs (h:Heap)(n a1 a2 k:Nat)(f0:Value):Prop where
 z:IsZip h (n+4) (n+2) (n+3) f0
 i:IsPair h (n+2) (.ref n) (.ref (n+1))
 o:∃p q,IsPair h (n+3) p q
 i1:h.IsTupleIter n a1 k
 i2:h.IsTupleIter (n+1) a2 k
section
variable {prog:Program}{w:World}{A:Around}{E:Value->Shared->Prop}{s:Shared}
end
section
variable {X:Cx}{pins:List (Addr×Obj)}{σ:St}{H:Hp}{s:Shared}{h':Heap}
end
end L2

namespace Z
open PySem L2
inductive U where
 |non|bl (b:Bool)|int (i:Int)|str (x:Str)|tup (xs:List U)|loc (a:Addr)|fn (n:Nat)|ty (n:String)
 |exc (c:Nat) (fs:List U)|own (n:Nat)|clo (n:Nat) (cs:List U)
inductive MO where
 |lst (xs:List U)|fro (xs:List U)|dK (kvs:List (Key×U))|dT (kvs:List (List Key×U))|frd (o:Obj) (kvs:List (List Key×U))|frk (o:Obj) (kvs:List (Key×U))
abbrev Gp:=Addr->Option MO
noncomputable def gup (G:Gp)(a:Addr)(o:MO):Gp:=λb=>if b=a then some o else G b
structure New (G:Gp)(p:Addr)(o:MO)(G':Gp):Prop where
 no:G p=none
 eq:G'=gup G p o
structure Put (G:Gp)(a:Addr)(o:MO)(G':Gp):Prop where
 eq:G'=gup G a o
structure XV where
 c:Nat
 fs:List U
abbrev Sg:=List (Option U)
abbrev K1:=U->Gp->Prop
abbrev KX:=XV->Gp->Prop
def newO (G:Gp)(o:MO)(Q:K1):Prop:=∀p G',New G p o G'->Q (.loc p) G'
def putO (G:Gp)(a:Addr)(o:MO)(Q:Gp->Prop):Prop:=∀G',Put G a o G'->Q G'
theorem newO.at {G:Gp}{o:MO}{Q:K1}(h:newO G o Q):∀p,G p=none->Q (.loc p) (gup G p o):=λp hp=>h p _ ⟨hp,rfl⟩
theorem putO.at {G:Gp}{a:Addr}{o:MO}{Q:Gp->Prop}(h:putO G a o Q):Q (gup G a o):=h _ ⟨rfl⟩
structure En where
 nx:Sg->Gp->Prop
 rt:K1
 ex:XV->Sg->Gp->Prop
noncomputable def lsG (G:Gp)(a:Addr):Option (List U):=match G a with
 |some (.lst xs)=>some xs
 |some (.fro xs)=>some xs
 |_=>none
noncomputable def kU:U->Option Key
 |.int i=>some (.inl i)
 |.str x=>some (.inr x)
 |_=>none
noncomputable def kUs:List U->Option (List Key)
 |[]=>some []
 |u::r=>match kU u,kUs r with
  |some k,some ks=>some (k::ks)
  |_,_=>none
noncomputable def Ku:Key->U
 |.inl i=>.int i
 |.inr x=>.str x
section
variable {κ α:Type}[DecidableEq κ]
noncomputable def dGet (kvs:List (κ×α))(k:κ):Option α:=(kvs.find? λkv=>decide (kv.1=k)).map (·.2)
noncomputable def dPut (kvs:List (κ×α))(k:κ)(v:α):List (κ×α):=
 if (kvs.any λkv=>decide (kv.1=k))=true then kvs.map (λkv=>if kv.1=k then (kv.1,v) else kv) else kvs++[(k,v)]
noncomputable def jdi (more:List (κ×α)):List (κ×α):=more.foldl (λacc kv=>dPut acc kv.1 kv.2) []
end
noncomputable def cut {α:Type}(xs:List α)(lo hi:Option Int):List α:=(xs.drop (HT.sIx xs.length 0 lo)).take (HT.sIx xs.length xs.length hi-HT.sIx xs.length 0 lo)
mutual
inductive DU (G:Gp):U->PyData->Prop
 |non:DU G .non .none
 |bl (b:Bool):DU G (.bl b) (.bool b)
 |int (i:Int):DU G (.int i) (.int i)
 |str (x:Str):DU G (.str x) (.str x)
 |tup {us:List U} {ds:List PyData}:DUs G us ds->DU G (.tup us) (.tuple ds)
 |lst {a:Addr} {us:List U} {ds:List PyData}:lsG G a=some us->DUs G us ds->DU G (.loc a) (.list ds)
 |dic {a:Addr}:G a=some (.dK [])->DU G (.loc a) (.dict [])
inductive DUs (G:Gp):List U->List PyData->Prop
 |nil:DUs G [] []
 |cons {u:U} {d:PyData} {us:List U} {ds:List PyData}:DU G u d->DUs G us ds->DUs G (u::us) (d::ds)
end
def addU:U->U->Gp->K1->Prop
 |.int i,.int j,G,Q=>Q (.int (i+j)) G
 |.str x,.str y,G,Q=>x.length+y.length<=Yah/\Q (.str (x++y)) G
 |.tup xs,.tup ys,G,Q=>xs.length+ys.length<=Yah/\Q (.tup (xs++ys)) G
 |.loc a,.loc b,G,Q=>∃xs ys,G a=some (.lst xs)/\G b=some (.lst ys)/\xs.length+ys.length<=Yah/\newO G (.lst (xs++ys)) Q
 |.bl b,.int j,G,Q=>Q (.int ((if b=true then (1:Int) else 0)+j)) G
 |_,_,_,_=>False
def subU:U->U->Gp->K1->Prop
 |.int i,.int j,G,Q=>Q (.int (i-j)) G
 |.bl b,.int j,G,Q=>Q (.int ((if b=true then (1:Int) else 0)-j)) G
 |.int i,.bl b,G,Q=>Q (.int (i-if b=true then (1:Int) else 0)) G
 |_,_,_,_=>False
def mulU:U->U->Gp->K1->Prop
 |.int i,.int j,G,Q=>CMul i j/\Q (.int (i*j)) G
 |.loc a,.int k,G,Q=>∃xs,G a=some (.lst xs)/\-(2 ^ 63)<=k/\k<2 ^ 63/\xs.length*k.toNat<=Yah/\newO G (.lst (Yae k.toNat xs).flatten) Q
 |.tup xs,.int k,G,Q=>xs≠[]/\0<=k/\k<2 ^ 62/\xs.length*k.toNat<=Yah/\Q (.tup (Yae k.toNat xs).flatten) G
 |.str z,.int k,G,Q=>0<=k/\k<1000/\z.length<=1000/\Q (.str (repS z k.toNat)) G
 |_,_,_,_=>False
def jkN:U->U->Gp->K1->Prop
 |.int i,.int j,G,Q=>0<j/\j<1073741824/\Q (.int (i/j)) G
 |_,_,_,_=>False
def modU:U->U->Gp->K1->Prop
 |.int i,.int j,G,Q=>0<j/\Q (.int (i%j)) G
 |_,_,_,_=>False
def powU:U->U->Gp->K1->Prop
 |.int i,.int j,G,Q=>CPow i j/\Q (.int (i ^ j.toNat)) G
 |_,_,_,_=>False
def binU:YbK->U->U->Gp->K1->Prop
 |.Add=>addU
 |.Sub=>subU
 |.Mult=>mulU
 |.FloorDiv=>jkN
 |.Mod=>modU
 |.Pow=>powU
 |_=>λ_ _ _ _=>False
def jhd:YbK->U->U->Gp->K1->Prop
 |.Add,.int i,.int j,G,Q=>Q (.int (i+j)) G
 |.Add,.str x,.str y,G,Q=>x.length+y.length<=Yah/\Q (.str (x++y)) G
 |.Sub,.int i,.int j,G,Q=>Q (.int (i-j)) G
 |.Mult,.int i,.int j,G,Q=>CMul i j/\Q (.int (i*j)) G
 |_,_,_,_,_=>False
def negU:U->Gp->K1->Prop
 |.int i,G,Q=>Q (.int (-i)) G
 |_,_,_=>False
def Small (d:PyData):Prop:=d.canLay0=true/\d.depth<=100
noncomputable def eqU:U->U->Gp->(Bool->Prop)->Prop
 |.non,.non,_,k=>k true
 |.non,.bl _,_,k=>k false
 |.non,.int _,_,k=>k false
 |.non,.str _,_,k=>k false
 |.bl _,.non,_,k=>k false
 |.bl a,.bl b,_,k=>k (decide (a=b))
 |.bl _,.str _,_,k=>k false
 |.int _,.non,_,k=>k false
 |.int i,.int j,_,k=>k (decide (i=j))
 |.int _,.str _,_,k=>k false
 |.str _,.non,_,k=>k false
 |.str _,.bl _,_,k=>k false
 |.str _,.int _,_,k=>k false
 |.str x,.str y,_,k=>k (decide (x=y))
 |x,y,G,k=>∃d e,DU G x d/\DU G y e/\Small d/\Small e/\k (YaD d e)
def eqQ:U->U->Gp->(Bool->Prop)->Prop
 |.loc a,.str y,G,k=>(∃kvs,G a=some (.dK kvs)/\k false)\/(∃xs,G a=some (.lst xs)/\k false)\/eqU (.loc a) (.str y) G k
 |.tup xs,.tup [],_,k=>k xs.isEmpty
 |.tup _,.str _,_,k=>k false
 |x,y,G,k=>eqU x y G k
def isU:U->U->(Bool->Prop)->Prop
 |.non,.non,k=>k true
 |.bl a,.bl b,k=>k (decide (a=b))
 |.non,.bl _,k|.non,.int _,k|.non,.str _,k|.non,.tup _,k|.non,.loc _,k=>k false
 |.bl _,.non,k|.int _,.non,k|.str _,.non,k|.tup _,.non,k|.loc _,.non,k=>k false
 |.int _,.bl _,k|.str _,.bl _,k|.tup _,.bl _,k|.loc _,.bl _,k=>k false
 |_,_,_=>False
noncomputable def flat:U->Bool
 |.non|.bl _|.int _|.str _=>true
 |_=>false
noncomputable def eqF:U->U->Bool
 |.non,.non=>true
 |.bl a,.bl b=>a==b
 |.bl a,.int b=>(if a then 1 else 0)==b
 |.int a,.bl b=>a==(if b then 1 else 0)
 |.int a,.int b=>a==b
 |.str a,.str b=>a==b
 |_,_=>false
def inU:U->U->Gp->(Bool->Prop)->Prop
 |.str x,.str y,_,k=>k (!(YbT y x 0 y.length 1).isEmpty)
 |.tup xs,.tup ys,G,k=>∃d ds,DU G (.tup xs) d/\DUs G ys ds/\Small d/\(∀e∈ds,Small e)/\k (ds.any λe=>YaD e d)
 |x,.tup ys,_,k=>flat x=true/\ys.all flat=true/\k (ys.any λy=>eqF y x)
 |x,.loc a,G,k=>match G a with
  |some (.lst ys)=>(flat x=true/\ys.all flat=true/\k (ys.any λy=>eqF y x))\/
    ∃d ds,DU G x d/\DUs G ys ds/\Small d/\(∀e∈ds,Small e)/\k (ds.any λe=>YaD e d)
  |some (.fro ys)=>flat x=true/\ys.all flat=true/\k (ys.any λy=>eqF y x)
  |some (.dK kvs)=>match kU x with
   |some y=>k (dGet kvs y).isSome
   |none=>False
  |some (.dT kvs)=>match x with
   |.tup xs=>match kUs xs with
    |some y=>k (dGet kvs y).isSome
    |none=>False
   |_=>False
  |some (.frk _ kvs)=>match kU x with
   |some y=>k (dGet kvs y).isSome
   |none=>False
  |_=>False
 |_,_,_,_=>False
def ordU:CmpOp->U->U->(Bool->Prop)->Prop
 |.Lt,.int i,.int j,k=>k (decide (i<j))
 |.LtE,.int i,.int j,k=>k (decide (i<=j))
 |.LtE,.str x,.str y,k=>k (!decide (y.cps.toList<x.cps.toList))
 |.Gt,.int i,.int j,k=>k (decide (j<i))
 |_,_,_,_=>False
def cmpU:CmpOp->U->U->Gp->(Bool->Prop)->Prop
 |.Eq,x,y,G,k=>eqQ x y G k
 |.NotEq,x,y,G,k=>eqU x y G λb=>k (!b)
 |.Is,x,y,_,k=>isU x y k
 |.IsNot,x,y,_,k=>isU x y λb=>k (!b)
 |.In,x,y,G,k=>inU x y G k
 |.NotIn,x,y,G,k=>inU x y G λb=>k (!b)
 |o,x,y,_,k=>ordU o x y k
def truU:U->Gp->(Bool->Prop)->Prop
 |.non,_,k=>k false
 |.bl b,_,k=>k b
 |.int i,_,k=>k (i != 0)
 |.str x,_,k=>x.length<=Yah/\k ((x.length:Int) != 0)
 |.tup xs,_,k=>k (!xs.isEmpty)
 |.loc a,G,k=>match G a with
  |some (.lst xs)=>k (!xs.isEmpty)
  |some (.fro xs)=>k (!xs.isEmpty)
  |some (.dK kvs)=>k (!kvs.isEmpty)
  |_=>False
 |_,_,_=>False
def ixU:U->U->Gp->K1->Prop
 |.tup xs,.int i,G,Q=>match atI xs i with
  |some u=>Q u G
  |none=>False
 |.str x,.int i,G,Q=>x.length<=Yah/\match atI x.cps.toList i with
  |some c=>Q (.str ⟨#[c]⟩) G
  |none=>False
 |.loc a,y,G,Q=>match G a with
  |some (.lst xs)=>(match y with|.int i=>(match atI xs i with|some u=>Q u G|none=>False)|_=>False)
  |some (.fro xs)=>(match y with|.int i=>(match atI xs i with|some u=>Q u G|none=>False)|_=>False)
  |some (.dK kvs)=>(match kU y with|some k=>(match dGet kvs k with|some u=>Q u G|none=>False)|none=>False)
  |some (.dT kvs)=>(match y with|.tup ys=>(match kUs ys with|some k=>(match dGet kvs k with|some u=>Q u G|none=>False)|none=>False)|_=>False)
  |some (.frk _ kvs)=>(match kU y with|some k=>(match dGet kvs k with|some u=>Q u G|none=>False)|none=>False)
  |_=>False
 |_,_,_,_=>False
def slU:U->Option Int->Option Int->Gp->K1->Prop
 |.tup xs,lo,hi,G,Q=>Q (.tup (cut xs lo hi)) G
 |.str x,lo,hi,G,Q=>x.length<=Yah/\Q (.str (Yez x lo hi)) G
 |.loc a,lo,hi,G,Q=>match lsG G a with
  |some xs=>newO G (.lst (cut xs lo hi)) Q
  |none=>False
 |_,_,_,_,_=>False
def revU:U->U->Gp->K1->Prop
 |.tup xs,.int i,G,Q=>i=-1/\Q (.tup xs.reverse) G
 |.loc a,.int i,G,Q=>match lsG G a with
  |some xs=>(i=1\/i=-1)/\newO G (.lst (if i=1 then xs else xs.reverse)) Q
  |none=>False
 |_,_,_,_=>False
def joH:U->U->Gp->K1->Prop
 |.loc a,.int i,G,Q=>(match G a with
  |some (.lst xs)=>0<=i/\(match xs[i.toNat]? with|some u=>Q u G|none=>False)
  |_=>False)
 |_,_,_,_=>False
def setU:U->U->U->Gp->(Gp->Prop)->Prop
 |.loc a,y,v,G,Q=>match G a with
  |some (.lst xs)=>(match y with|.int i=>(match ixN xs.length i with|some j=>putO G a (.lst (xs.set j v)) Q|none=>False)|_=>False)
  |some (.dK kvs)=>(match kU y with|some k=>kvs.length<Yah/\putO G a (.dK (dPut kvs k v)) Q|none=>False)
  |some (.dT kvs)=>(match y with|.tup ys=>(match kUs ys with|some k=>kvs.length<Yah/\putO G a (.dT (dPut kvs k v)) Q|none=>False)|_=>False)
  |_=>False
 |_,_,_,_,_=>False
inductive Blt|len|repr|min|max|sum|all|any|sorted|int|str|isi
 deriving DecidableEq
inductive Mth|append|extend|insert|pop|reverse|index|join|get|split|setd
 deriving DecidableEq
noncomputable def jer:List U->Option (List Int)
 |[]=>some []
 |.int i::r=>(match jer r with|some l=>some (i::l)|none=>none)
 |_=>none
noncomputable def jn3:List U->Option (List Str)
 |[]=>some []
 |.str x::r=>(match jn3 r with|some l=>some (x::l)|none=>none)
 |_=>none
noncomputable def tyN:U->Gp->Option String
 |.non,_=>some "NoneType"
 |.bl _,_=>some "bool"
 |.int _,_=>some "int"
 |.str _,_=>some "str"
 |.tup _,_=>some "tuple"
 |.loc a,G=>match G a with
  |some (.lst _)=>some "list"
  |some (.dK _)=>some "dict"
  |some (.dT _)=>some "dict"
  |_=>none
 |_,_=>none
noncomputable def isiU (x:U)(G:Gp)(t:String):Option Bool:=match tyN x G with
 |some n=>if t∈["bool", "int", "str", "list", "tuple", "dict"] then some (n==t||(n == "bool" && t == "int")) else none
 |none=>none
def lenU:List U->Gp->K1->Prop
 |[.tup xs],G,Q=>Q (.int xs.length) G
 |[.str x],G,Q=>x.length<=Yah/\Q (.int x.length) G
 |[.loc a],G,Q=>(match G a with
  |some (.lst xs)=>Q (.int xs.length) G
  |some (.fro xs)=>Q (.int xs.length) G
  |some (.dK kvs)=>Q (.int kvs.length) G
  |_=>False)
 |_,_,_=>False
def minU:List U->Gp->K1->Prop
 |[.int i,.int j],G,Q=>Q (.int (if j<i then j else i)) G
 |_,_,_=>False
def jmo (xs:List U)(G:Gp)(Q:K1):Prop:=match jer xs with
 |some ns=>ns≠[]/\∀z∈ns,(∀y∈ns,y<=z)->Q (.int z) G
 |none=>False
def maxU:List U->Gp->K1->Prop
 |[.int i,.int j],G,Q=>Q (.int (if j>i then j else i)) G
 |[.loc a],G,Q=>(match G a with
  |some (.lst xs)=>jmo xs G Q
  |_=>False)
 |[.tup xs],G,Q=>jmo xs G Q
 |_,_,_=>False
def sumU:List U->Gp->K1->Prop
 |[.loc a],G,Q=>(match G a with
  |some (.lst xs)=>(match jer xs with|some ns=>Q (.int ns.sum) G|none=>False)
  |_=>False)
 |_,_,_=>False
def intU:List U->Gp->K1->Prop
 |[.int i],G,Q=>Q (.int i) G
 |[.bl b],G,Q=>Q (.int (if b then 1 else 0)) G
 |[.str z],G,Q=>∃n,PySem.intText? z=some n/\z.length<=640/\Q (.int n) G
 |_,_,_=>False
def jeq:List U->Gp->K1->Prop
 |[x,.ty t],G,Q=>(match isiU x G t with|some b=>Q (.bl b) G|none=>False)
 |_,_,_=>False
def jce:List U->Gp->K1->Prop
 |[.loc a],G,Q=>(match G a with
  |some (.lst us)=>∃ks:List (List Int),ks.Nodup/\us.length<jcf/\us.length=ks.length/\((∃ns:List Int,us=ns.map .int/\ks=ns.map λn=>[n])\/(∃as:List Addr,us=as.map .loc/\∀(i:Nat) a k,as[i]?=some a->ks[i]?=some k->G a=some (.lst (k.map .int)))\/us=ks.map (λk=>.tup (k.map .int))/\∀k∈ks,k≠[])/\
    ∀π:List Nat,π.Perm (YaX us.length)->(∀i,i+1<us.length->HT.lexLt (ks.getD (π.getD i 0) []) (ks.getD (π.getD (i+1) 0) [])=true)->newO G (.lst (π.map λi=>us.getD i .non)) Q
  |_=>False)
 |_,_,_=>False
def mkDU:U->Gp->K1->Prop
 |.loc a,G,Q=>(match G a with
  |some (.dK kvs)=>∃ns:List Int,kvs.map (·.1)=ns.map (λz=>(Sum.inl z:Key))/\newO G (.lst (ns.map .int)) Q
  |_=>False)
 |_,_,_=>False
def jn4:U->Gp->K1->Prop
 |.tup us,G,Q=>∃ns:List Int,us=ns.map .int/\ns.length<64/\∀ms:List Int,ms.Pairwise (·< ·)->(∀z,z∈ms↔z∈ns)->newO G (.lst (ms.map .int)) Q
 |_,_,_=>False
def joD:U->Gp->K1->Prop
 |.loc a,G,Q=>(match G a with
  |some (.lst us)=>∃ks:List (List Int),(us=ks.map (λk=>U.tup (k.map .int))\/∃ns:List Int,us=ns.map .int/\ks=ns.map λn=>[n])/\(us=[]->Q .non G)/\∀u,us[jm4 ks]?=some u->Q u G
  |_=>False)
 |_,_,_=>False
def joE:U->Gp->K1->Prop
 |.loc a,G,Q=>(match G a with
  |some (.lst us)=>∃ns:List Int,us=ns.map .int/\(ns=[]->Q (.int 0) G)/\∀z∈ns,(∀y∈ns,y<=z)->Q (.int z) G
  |_=>False)
 |_,_,_=>False
def bltU:Blt->List U->Gp->K1->Prop
 |.len=>lenU
 |.repr=>λ_ _ _=>False
 |.min=>minU
 |.max=>λ_ _ _=>False
 |.sum=>sumU
 |.all=>λ_ _ _=>False
 |.any=>λ_ _ _=>False
 |.sorted=>jce
 |.int=>intU
 |.str=>λ_ _ _=>False
 |.isi=>jeq
def je9:U->List U->Gp->K1->Prop
 |.loc a,[v],G,Q=>(match G a with
  |some (.lst xs)=>xs.length<Yah/\putO G a (.lst (xs++[v])) (Q .non)
  |_=>False)
 |_,_,_,_=>False
def je2:U->List U->Gp->K1->Prop
 |.loc a,[.loc b],G,Q=>(match G a,G b with
  |some (.lst xs),some (.lst ys)=>xs.length+ys.length<=Yah/\putO G a (.lst (xs++ys)) (Q .non)
  |_,_=>False)
 |_,_,_,_=>False
def popU:U->List U->Gp->K1->Prop
 |.loc a,[],G,Q=>(match G a with
  |some (.lst xs)=>(match xs[xs.length-1]? with|some v=>putO G a (.lst xs.dropLast) (Q v)|none=>False)
  |_=>False)
 |.loc a,[.int i],G,Q=>(match G a with
  |some (.lst xs)=>-(2 ^ 63)<=i/\i<2 ^ 63/\(match YfB i xs.length with
   |some k=>(match xs[k]? with|some v=>putO G a (.lst (xs.eraseIdx k)) (Q v)|none=>False)
   |none=>False)
  |_=>False)
 |_,_,_,_=>False
def jaU:Mth->U->List U->Gp->K1->Prop
 |.append=>je9
 |.extend=>je2
 |.insert=>λ_ _ _ _=>False
 |.pop=>popU
 |.reverse=>λ_ _ _ _=>False
 |.index=>λ_ _ _ _=>False
 |.join=>λ_ _ _ _=>False
 |.get=>λ_ _ _ _=>False
 |.split=>λ_ _ _ _=>False
 |.setd=>λ_ _ _ _=>False
noncomputable def mtU:Mth->U->Gp->Option (String×String)
 |.append,x,G=>(match x with|.loc a=>(match G a with|some (.lst _)=>some ("list", "list.append")|_=>none)|_=>none)
 |.extend,x,G=>(match x with|.loc a=>(match G a with|some (.lst _)=>some ("list", "list.extend")|_=>none)|_=>none)
 |.insert,_,_=>none
 |.pop,x,G=>(match x with|.loc a=>(match G a with|some (.lst _)=>some ("list", "list.pop")|_=>none)|_=>none)
 |.reverse,_,_=>none
 |.index,_,_=>none
 |.join,_,_=>none
 |.get,_,_=>none
 |.split,_,_=>none
 |.setd,_,_=>none
noncomputable def clsA:List (Str×List Str):=[("PlanError",[]),("NoPaper",["word", "at"]),("TooMany",["word"]),("NoRing",["word"]),("NoText",["row", "word"]),("NoRow",["row"])]
noncomputable def clsN (c:Nat):Str:=(clsA.getD c ("",[])).1
noncomputable def clsF (c:Nat):List Str:=(clsA.getD c ("",[])).2
inductive HL where
 |is1 (c:Nat)|isi (cs:List Nat)|isiV|v (i:Nat)
inductive HA where
 |str (x:Str)|att (f:Str)
inductive HV where
 |cond (k:Bool) (a:Bool×HL) (as:List (Bool×HL))|one (a:HA)|bl (b:Bool)|tup (as:List HA)|lst (as:List HA)
inductive HS where
 |asg (i:Nat) (e:HV)|ifa (k:Bool) (a:Bool×HL) (as:List (Bool×HL)) (i:Nat) (e:HV)
section
variable (x:XV)
noncomputable def litH (ς:Sg):HL->Option Bool
 |.is1 c=>some (decide (x.c=c))
 |.isi cs=>some (cs.contains x.c)
 |.isiV=>some true
 |.v i=>match ς[i]? with
  |some (some (.bl b))=>some b
  |_=>none
noncomputable def lit1 (ς:Sg)(p:Bool×HL):Option Bool:=match litH x ς p.2 with
 |some b=>some (if p.1=true then !b else b)
 |none=>none
noncomputable def jkT (ς:Sg)(k:Bool):Bool×HL->List (Bool×HL)->Option Bool
 |a,[]=>lit1 x ς a
 |a,b::r=>match lit1 x ς a with
  |some t=>if t=k then jkT ς k b r else some t
  |none=>none
noncomputable def atH:HA->Option U
 |.str y=>some (.str y)
 |.att f=>((clsF x.c).zip x.fs).lookup f
noncomputable def atsH:List HA->Option (List U)
 |[]=>some []
 |a::r=>match atH x a,atsH r with
  |some u,some us=>some (u::us)
  |_,_=>none
def hvH (ς:Sg):HV->Gp->K1->Prop
 |.cond k a as,G,Q=>match jkT x ς k a as with
  |some b=>Q (.bl b) G
  |none=>False
 |.one a,G,Q=>match atH x a with
  |some u=>Q u G
  |none=>False
 |.bl b,G,Q=>Q (.bl b) G
 |.tup as,G,Q=>match atsH x as with
  |some us=>Q (.tup us) G
  |none=>False
 |.lst as,G,Q=>match atsH x as with
  |some us=>newO G (.lst us) Q
  |none=>False
def hsH:List HS->Sg->Gp->(Sg->Gp->Prop)->Prop
 |[],ς,G,k=>k ς G
 |.asg i e::r,ς,G,k=>hvH x ς e G λu G1=>hsH r (ς.set i (some u)) G1 k
 |.ifa q a as i e::r,ς,G,k=>match jkT x ς q a as with
  |some true=>hvH x ς e G λu G1=>hsH r (ς.set i (some u)) G1 k
  |some false=>hsH r ς G k
  |none=>False
end
mutual
inductive E where
 |v (i:Nat)|non|bl (b:Bool)|int (i:Int)|str (x:Str)|g (n:Nat)
 |bin (o:YbK) (a b:E)|neg (a:E)|not (a:E)|bop (k:Bool) (a:E) (es:Es)
 |cmp (o:CmpOp) (a b:E)|cmp2 (o p:CmpOp) (a b c:E)|ife (c a b:E)
 |tup (es:Es)|lst (es:Es)|dic (es:Es)|dicT
 |ix (a b:E)|sl (a:E) (lo hi:Eo)|rev (a st:E)
 |call (n:Nat) (es:Es)|app (i:Nat) (es:Es)|blt (b:Blt) (es:Es)|meth (m:Mth) (o:E) (es:Es)
 |ty (n:String)
 |lc (pick:List (Option Nat)) (t:Tg) (it:It) (ifs:Es) (e:E)|lc2 (pick:List (Option Nat)) (t:Tg) (it:It) (ifs:Es) (t2:Tg) (it2:It) (ifs2:Es) (e:E)|mkL (e:E)|mkT (e:E)|rngL (a:E)|rngT (a:E)|rngL2 (a b:E)|minD (e:E)|maxD (e:E)|mkD (e:E)|sset (e:E)|fst (es:Es)|lrp (e:E) (i:Nat) (y a b:Str) (es:Es)
inductive Eo where
 |no|so (e:E)
inductive Es where
 |nil|cons (e:E) (es:Es)
inductive Tg where
 |n (i:Nat)|t (ts:Tgs)
inductive Tgs where
 |nil|cons (t:Tg) (ts:Tgs)
inductive It where
 |e (e:E)|r1 (e:E)|r2 (a b:E)|enum (e:E)|dk (e:E)|s (e:E)|dv (e:E)|di (e:E)|zp (a b:E)
end
mutual
inductive S where
 |pass|expr (e:E)|asg (t:Tg) (e:E)|asgC (i:Nat) (e:E)|unp (ts:Tgs) (e:E)|setS (o i e:E)|par (is:List Nat) (es:Es)|aug (i:Nat) (o:YbK) (e:E)|augS (o i:E) (p:YbK) (e:E)
 |ite (c:E) (a b:Ss)|fr (t:Tg) (it:It) (b:Ss)|wh (c:E) (b:Ss)|ret (e:E)|retN
 |never|raise (c:Nat) (es:Es)|tr (b:Ss) (c:Nat) (n:Nat) (h:List HS)
inductive Ss where
 |nil|cons (s:S) (ss:Ss)
end
mutual
noncomputable def tgU:Tg->U->Sg->(Sg->Prop)->Prop
 |.n i,u,ς,k=>k (ς.set i (some u))
 |.t ts,u,ς,k=>match u with
  |.tup us=>tgsU ts us ς k
  |_=>False
noncomputable def tgsU:Tgs->List U->Sg->(Sg->Prop)->Prop
 |.nil,us,ς,k=>us=[]/\k ς
 |.cons t ts,us,ς,k=>match us with
  |[]=>False
  |u::r=>tgU t u ς λς'=>tgsU ts r ς' k
end
abbrev Cl:=Nat->List U->Gp->K1->KX->Prop
def slot (ς:Sg)(i:Nat)(k:U->Prop):Prop:=match ς[i]? with
 |some (some u)=>k u
 |_=>False
noncomputable def jbz (pick:List (Option Nat))(ς:Sg):Sg:=pick.map λo=>o.bind λj=>(ς[j]?).join
def jdk (ok:Gp->Prop)(b:U->Gp->(Option U->Gp->Prop)->Prop):List U->List U->Gp->(List U->Gp->Prop)->Prop
 |[],acc,G,k=>ok G/\k acc G
 |x::xs,acc,G,k=>ok G/\b x G λo G'=>jdk ok b xs (match o with|some u=>acc++[u]|none=>acc) G' k
def jkU (ok:Gp->Prop)(b:U->List U->Gp->(List U->Gp->Prop)->Prop):List U->List U->Gp->(List U->Gp->Prop)->Prop
 |[],acc,G,k=>ok G/\k acc G
 |x::xs,acc,G,k=>ok G/\b x acc G λacc' G'=>jkU ok b xs acc' G' k
def forL (ok:Gp->Prop)(b:U->Sg->Gp->(Sg->Gp->Prop)->Prop):List U->Sg->Gp->(Sg->Gp->Prop)->Prop
 |[],ς,G,k=>ok G/\k ς G
 |x::xs,ς,G,k=>ok G/\b x ς G λς' G'=>forL ok b xs ς' G' k
noncomputable def rngU (i:Int)(n:Nat):List U:=(YaX n).map λk:Nat=>.int (i+k)
noncomputable def jdX:Nat->List U->List U
 |_,[]=>[]
 |n,u::r=>.tup [.int n,u]::jdX (n+1) r
def itU:U->Gp->(List U->(Gp->Prop)->Prop)->Prop
 |.tup xs,_,k=>k xs λ_=>True
 |.loc a,G,k=>match lsG G a with
  |some xs=>k xs λG'=>lsG G' a=some xs
  |none=>False
 |_,_,_=>False
def enI:U->Gp->(List U->(Gp->Prop)->Prop)->Prop
 |.tup xs,_,k=>k (jdX 0 xs) λ_=>True
 |.loc a,G,k=>match lsG G a with
  |some xs=>k (jdX 0 xs) λG'=>lsG G' a=some xs
  |none=>False
 |_,_,_=>False
def jk0:U->Gp->(List U->(Gp->Prop)->Gp->Prop)->Prop
 |.loc a,G,Q=>match G a with
  |some (.dT kvs)=>∀o G',Put G a (.frd o kvs) G'->Q (kvs.map λp=>.tup (p.1.map Ku)) (λG'=>G' a=some (.frd o kvs)) G'
  |_=>False
 |_,_,_=>False
def jcG (f:List (Key×U)->List U):U->Gp->(List U->(Gp->Prop)->Gp->Prop)->Prop
 |.loc a,G,Q=>match G a with
  |some (.dK kvs)=>∀o G',Put G a (.frk o kvs) G'->Q (f kvs) (λG'=>G' a=some (.frk o kvs)) G'
  |some (.frk o kvs)=>Q (f kvs) (λG'=>G' a=some (.frk o kvs)) G
  |_=>False
 |_,_,_=>False
noncomputable def jcN (kvs:List (Key×U)):List U:=kvs.map (·.2)
noncomputable def jcx (kvs:List (Key×U)):List U:=kvs.map λp=>.tup [Ku p.1,p.2]
def zipU:U->U->(List U->Prop)->Prop
 |.tup xs,.tup ys,k=>k ((xs.zip ys).map λp=>.tup [p.1,p.2])
 |_,_,_=>False
def sgU:U->(List U->Prop)->Prop
 |.str z,k=>z.cps.all (·< 128)=true/\k (z.cps.toList.map λc=>.str ⟨#[c]⟩)
 |_,_=>False
def fpU:U->(Str->Prop)->Prop
 |.str z,k=>z.length<=10000/\k z
 |.int i,k=>i.natAbs.log2<1920/\k (toString i:String)
 |_,_=>False
def repU (y b:Str):U->(Str->Str->Prop)->Prop
 |.str z,k=>y.length+z.length<=Yah/\z.length+b.length<=Yah/\∀w:Str,w.length<=z.length+b.length->(∀c∈w.cps.toList,c∈z.cps.toList\/c∈b.cps.toList)->k (y++z) w
 |_,_=>False
def unpU (ts:Tgs):U->Gp->Sg->(Sg->Prop)->Prop
 |.loc a,G,ς,k=>match lsG G a with
  |some us=>tgsU ts us ς k
  |none=>False
 |_,_,_,_=>False
def glU (gs:List U)(n:Nat)(k:U->Prop):Prop:=match gs[n]? with
 |some u=>k u
 |none=>False
abbrev UE:=Sg->Gp->K1->KX->Prop
abbrev UT:=Sg->Gp->(Bool->Gp->Prop)->KX->Prop
abbrev UA:=Sg->Gp->(List U->Gp->Prop)->KX->Prop
def truT (t:UE):UT:=λς G Q X=>t ς G (λx G1=>truU x G1 λb=>Q b G1) X
noncomputable abbrev tp (t:UE):UE×UT:=(t,truT t)
noncomputable def comb:Bool->UE×UT->UE×UT->UE×UT
 |true,p,q=>(λς G Q X=>p.1 ς G (λx G1=>truU x G1 λc=>if c=true then q.1 ς G1 Q X else Q x G1) X,λς G Q X=>p.2 ς G (λc G1=>if c=true then q.2 ς G1 Q X else Q false G1) X)
 |false,p,q=>(λς G Q X=>p.1 ς G (λx G1=>truU x G1 λc=>if c=true then Q x G1 else q.1 ς G1 Q X) X,λς G Q X=>p.2 ς G (λc G1=>if c=true then Q true G1 else q.2 ς G1 Q X) X)
section
variable (gs:List U)(Δ:Cl)
mutual
noncomputable def den:E->UE×UT
 |.v i=>tp λς G Q _=>slot ς i λu=>Q u G
 |.non=>tp λ_ G Q _=>Q .non G
 |.bl b=>tp λ_ G Q _=>Q (.bl b) G
 |.int i=>tp λ_ G Q _=>Q (.int i) G
 |.str x=>tp λ_ G Q _=>Q (.str x) G
 |.g n=>tp λ_ G Q _=>glU gs n λu=>Q u G
 |.bin o a b=>tp λς G Q X=>(den a).1 ς G (λx G1=>(den b).1 ς G1 (λy G2=>binU o x y G2 Q) X) X
 |.neg a=>tp λς G Q X=>(den a).1 ς G (λx G1=>negU x G1 Q) X
 |.not a=>(λς G Q X=>(den a).1 ς G (λx G1=>truU x G1 λb=>Q (.bl (!b)) G1) X,
   λς G Q X=>(den a).2 ς G (λb G1=>Q (!b) G1) X)
 |.bop k a es=>denB k (den a) es
 |.cmp o a b=>tp λς G Q X=>(den a).1 ς G (λx G1=>(den b).1 ς G1 (λy G2=>cmpU o x y G2 λc=>Q (.bl c) G2) X) X
 |.cmp2 o p a b c=>tp λς G Q X=>(den a).1 ς G (λx G1=>(den b).1 ς G1 (λy G2=>cmpU o x y G2 λt=>if t=true then (den c).1 ς G2 (λz G3=>cmpU p y z G3 λt'=>Q (.bl t') G3) X else Q (.bl false) G2) X) X
 |.ife c a b=>(λς G Q X=>(den c).2 ς G (λt G1=>if t=true then (den a).1 ς G1 Q X else (den b).1 ς G1 Q X) X,
   λς G Q X=>(den c).2 ς G (λt G1=>if t=true then (den a).2 ς G1 Q X else (den b).2 ς G1 Q X) X)
 |.tup es=>tp λς G Q X=>jaO es ς G (λus G1=>us.length<=Yah/\Q (.tup us) G1) X
 |.lst es=>tp λς G Q X=>jaO es ς G (λus G1=>us.length<=Yah/\newO G1 (.lst us) Q) X
 |.dic es=>tp λς G Q X=>denD es ς G (λkvs G1=>kvs.length<=15/\newO G1 (.dK (jdi kvs)) Q) X
 |.dicT=>tp λ_ G Q _=>newO G (.dT []) Q
 |.ix a b=>tp λς G Q X=>(den a).1 ς G (λx G1=>(den b).1 ς G1 (λy G2=>ixU x y G2 Q) X) X
 |.sl a lo hi=>tp λς G Q X=>(den a).1 ς G (λx G1=>denO lo ς G1 (λl G2=>denO hi ς G2 (λh G3=>slU x l h G3 Q) X) X) X
 |.rev a b=>tp λς G Q X=>(den a).1 ς G (λx G1=>(den b).1 ς G1 (λy G2=>revU x y G2 Q) X) X
 |.call n es=>tp λς G Q X=>jaO es ς G (λus G1=>Δ n us G1 Q X) X
 |.app _ _=>tp λ_ _ _ _=>False
 |.blt b es=>tp λς G Q X=>jaO es ς G (λus G1=>bltU b us G1 Q) X
 |.meth m o es=>tp λς G Q X=>(den o).1 ς G (λx G1=>match mtU m x G1 with
   |some _=>jaO es ς G1 (λus G2=>jaU m x us G2 Q) X
   |none=>False) X
 |.ty n=>tp λ_ G Q _=>Q (.ty n) G
 |.lc pick t it ifs e=>tp λς G Q X=>denI it ς G (λxs ok G1=>xs.length<=Yah/\jdk ok (λx G2 k=>tgU t x (jbz pick ς) λτ=>denC ifs τ G2 (λb G3=>if b=true then (den e).1 τ G3 (λu G4=>k (some u) G4) (λ_ _=>False) else k none G3)) xs [] G1
   λus G5=>newO G5 (.lst us) Q) X
 |.lc2 pick t it ifs t2 it2 ifs2 e=>tp λς G Q X=>denI it ς G (λxs ok G1=>jkU ok (λx acc G2 k=>tgU t x (jbz pick ς) λτ=>denC ifs τ G2 (λb G3=>if b=true then denI it2 τ G3 (λys ok2 G4=>acc.length+ys.length<=Yah/\jdk ok2 (λy G5 k5=>tgU t2 y τ λτ'=>denC ifs2 τ' G5 (λb2 G6=>if b2=true then (den e).1 τ' G6 (λu G7=>k5 (some u) G7) (λ_ _=>False) else k5 none G6)) ys acc G4 k) (λ_ _=>False) else k acc G3)) xs [] G1
   λus G5=>newO G5 (.lst us) Q) X
 |.sset e=>tp λς G Q X=>(den e).1 ς G (λx G1=>jn4 x G1 Q) X
 |.fst es=>tp λς G Q X=>denF es ς G (λzs G1=>Q (.str (L2.cats YeA zs)) G1) X
 |.lrp e i y _ b es=>tp λς G Q X=>(den e).1 ς G (λx G1=>slot ς i λu=>repU y b u λz w=>jaO es ς G1 (λus G2=>(x::.str z::.str w::us).length<=Yah/\newO G2 (.lst (x::.str z::.str w::us)) Q) X) X
 |.mkD e=>tp λς G Q X=>(den e).1 ς G (λx G1=>mkDU x G1 Q) X
 |.maxD e=>tp λς G Q X=>(den e).1 ς G (λx G1=>joE x G1 Q) X
 |.minD e=>tp λς G Q X=>(den e).1 ς G (λx G1=>joD x G1 Q) X
 |.mkL e=>tp λς G Q X=>(den e).1 ς G (λx G1=>itU x G1 λxs _=>newO G1 (.lst xs) Q) X
 |.mkT e=>tp λς G Q X=>(den e).1 ς G (λx G1=>itU x G1 λxs _=>Q (.tup xs) G1) X
 |.rngL e=>tp λς G Q X=>(den e).1 ς G (λx G1=>match x with
   |.int j=>0<=j/\j<=1000000/\newO G1 (.lst (rngU 0 j.toNat)) Q
   |_=>False) X
 |.rngT e=>tp λς G Q X=>(den e).1 ς G (λx G1=>match x with
   |.int j=>0<=j/\j<=1000000/\Q (.tup (rngU 0 j.toNat)) G1
   |_=>False) X
 |.rngL2 a b=>tp λς G Q X=>(den a).1 ς G (λx G1=>(den b).1 ς G1 (λy G2=>match x,y with
   |.int i,.int j=>0<=i/\i<=j/\j<=1000000000/\j-i<=1000000/\newO G2 (.lst (rngU i (j-i).toNat)) Q
   |_,_=>False) X) X
noncomputable def denB (k:Bool)(p:UE×UT):Es->UE×UT
 |.nil=>p
 |.cons e es=>comb k p (denB k (den e) es)
noncomputable def denC:Es->Sg->Gp->(Bool->Gp->Prop)->Prop
 |.nil,_,G,Q=>Q true G
 |.cons e es,ς,G,Q=>(den e).2 ς G (λb G1=>if b=true then denC es ς G1 Q else Q false G1) (λ_ _=>False)
noncomputable def denO:Eo->Sg->Gp->(Option Int->Gp->Prop)->KX->Prop
 |.no,_,G,Q,_=>Q none G
 |.so e,ς,G,Q,X=>(den e).1 ς G (λx G1=>match x with|.int i=>Q (some i) G1|_=>False) X
noncomputable def jaO:Es->Sg->Gp->(List U->Gp->Prop)->KX->Prop
 |.nil,_,G,Q,_=>Q [] G
 |.cons e es,ς,G,Q,X=>(den e).1 ς G (λx G1=>jaO es ς G1 (λxs G2=>Q (x::xs) G2) X) X
noncomputable def denF:Es->Sg->Gp->(List Str->Gp->Prop)->KX->Prop
 |.nil,_,G,Q,_=>Q [] G
 |.cons e es,ς,G,Q,X=>(den e).1 ς G (λx G1=>fpU x λz=>denF es ς G1 (λzs G2=>Q (z::zs) G2) X) X
noncomputable def denD:Es->Sg->Gp->(List (Key×U)->Gp->Prop)->KX->Prop
 |.nil,_,G,Q,_=>Q [] G
 |.cons e (.cons f es),ς,G,Q,X=>(den e).1 ς G (λx G1=>(den f).1 ς G1 (λy G2=>match kU x with
   |some k=>denD es ς G2 (λkvs G3=>Q ((k,y)::kvs) G3) X
   |none=>False) X) X
 |.cons _ .nil,_,_,_,_=>False
noncomputable def denI:It->Sg->Gp->(List U->(Gp->Prop)->Gp->Prop)->KX->Prop
 |.e e,ς,G,Q,X=>(den e).1 ς G (λx G1=>itU x G1 λxs ok=>Q xs ok G1) X
 |.r1 e,ς,G,Q,X=>(den e).1 ς G (λx G1=>match x with
   |.int j=>-(2 ^ 62)<=j/\j<2 ^ 62/\Q (rngU 0 j.toNat) (λ_=>True) G1
   |_=>False) X
 |.r2 a b,ς,G,Q,X=>(den a).1 ς G (λx G1=>(den b).1 ς G1 (λy G2=>match x,y with
   |.int i,.int j=>-(2 ^ 62)<=i/\i<2 ^ 62/\-(2 ^ 62)<=j/\j<2 ^ 62/\Q (rngU i (j-i).toNat) (λ_=>True) G2
   |_,_=>False) X) X
 |.enum e,ς,G,Q,X=>(den e).1 ς G (λx G1=>enI x G1 λxs ok=>Q xs ok G1) X
 |.dk e,ς,G,Q,X=>(den e).1 ς G (λx G1=>jk0 x G1 Q) X
 |.s e,ς,G,Q,X=>(den e).1 ς G (λx G1=>sgU x λxs=>Q xs (λ_=>True) G1) X
 |.dv e,ς,G,Q,X=>(den e).1 ς G (λx G1=>jcG jcN x G1 Q) X
 |.di e,ς,G,Q,X=>(den e).1 ς G (λx G1=>jcG jcx x G1 Q) X
 |.zp a b,ς,G,Q,X=>(den a).1 ς G (λx G1=>(den b).1 ς G1 (λy G2=>zipU x y λxs=>Q xs (λ_=>True) G2) X) X
end
def denE (e:E):UE:=(den gs Δ e).1
def denT (e:E):UT:=(den gs Δ e).2
mutual
noncomputable def denS:S->En->Sg->Gp->Prop
 |.pass,D,ς,G=>D.nx ς G
 |.expr e,D,ς,G=>denE gs Δ e ς G (λ_ G1=>D.nx ς G1) λx G1=>D.ex x ς G1
 |.asg t e,D,ς,G=>denE gs Δ e ς G (λu G1=>tgU t u ς λς'=>D.nx ς' G1) λx G1=>D.ex x ς G1
 |.asgC i e,D,ς,G=>denE gs Δ e ς G (λu G1=>D.nx (ς.set i (some u)) G1) λx G1=>D.ex x ς G1
 |.unp ts e,D,ς,G=>denE gs Δ e ς G (λu G1=>unpU ts u G1 ς λς'=>D.nx ς' G1) λx G1=>D.ex x ς G1
 |.setS o i e,D,ς,G=>denE gs Δ e ς G (λv G1=>denE gs Δ o ς G1 (λx G2=>denE gs Δ i ς G2 (λy G3=>setU x y v G3 λG4=>D.nx ς G4) λx G1=>D.ex x ς G1) λx G1=>D.ex x ς G1) λx G1=>D.ex x ς G1
 |.par is es,D,ς,G=>jaO gs Δ es ς G (λus G1=>us.length=is.length/\D.nx ((is.zip us).foldl (λs p=>s.set p.1 (some p.2)) ς) G1) λx G1=>D.ex x ς G1
 |.aug i o e,D,ς,G=>slot ς i λx=>denE gs Δ e ς G (λy G1=>jhd o x y G1 λz G2=>D.nx (ς.set i (some z)) G2) λx G1=>D.ex x ς G1
 |.augS o i p e,D,ς,G=>denE gs Δ o ς G (λx G1=>denE gs Δ i ς G1 (λy G2=>joH x y G2 λa G3=>denE gs Δ e ς G3 (λb G4=>jhd p a b G4 λz G5=>setU x y z G5 λG6=>D.nx ς G6) λx G1=>D.ex x ς G1) λx G1=>D.ex x ς G1) λx G1=>D.ex x ς G1
 |.ite c a b,D,ς,G=>denT gs Δ c ς G (λt G1=>if t=true then jaN a D ς G1 else jaN b D ς G1) λx G1=>D.ex x ς G1
 |.fr t it b,D,ς,G=>denI gs Δ it ς G (λxs ok G1=>forL ok (λx ς1 G2 k=>tgU t x ς1 λς2=>jaN b { D with nx:=k } ς2 G2) xs ς G1 D.nx) λx G1=>D.ex x ς G1
 |.wh c b,D,ς,G=>∃W:Nat->Sg->Gp->Prop,(∃m,W m ς G)/\∀m ς1 G1,W m ς1 G1->
   denT gs Δ c ς1 G1 (λt G2=>if t=true then jaN b { D with nx:=λς' G'=>∃m',m'<m/\W m' ς' G' } ς1 G2 else D.nx ς1 G2) λx G1=>D.ex x ς1 G1
 |.ret e,D,ς,G=>denE gs Δ e ς G D.rt λx G1=>D.ex x ς G1
 |.retN,D,_,G=>D.rt .non G
 |.never,_,_,_=>False
 |.raise c es,D,ς,G=>jaO gs Δ es ς G (λus G1=>us.length=(clsF c).length/\D.ex ⟨c,us⟩ ς G1) λx G1=>D.ex x ς G1
 |.tr b c n h,D,ς,G=>jaN b { D with ex:=λx ς1 G1=>(c=0\/x.c=c)/\hsH x h (ς1.set n none) G1 λς2 G2=>D.nx (ς2.set n none) G2 } ς G
noncomputable def jaN:Ss->En->Sg->Gp->Prop
 |.nil,D,ς,G=>D.nx ς G
 |.cons s ss,D,ς,G=>denS s { D with nx:=λς' G'=>jaN ss D ς' G' } ς G
end
end
structure Fun where
 name:Str
 ps:List Str
 N:List Str
 body:Ss
structure Nst where
 P:Addr
 ff:Nat
 vi:Nat
 fi:Nat
 caps:List Nat
 wi:Nat
 fni:Nat
 least:Int
 wn:Str
 fn:Str
 at':Str
structure Tab where
 funs:List Fun
 gs:List U
 gn:List Str:=[]
 cs:List Nat:=[]
 vf:List Fun:=[]
 ns:List (Nat×Nst):=[]
noncomputable def jad (n:Nat)(us:List U):Sg:=us.map some++Yae (n-us.length) none
def jaa (T:Tab):Nat->Cl
 |0,_,_,_,_,_=>False
 |k+1,n,us,G,Q,X=>match (T.funs++T.vf)[n]? with
  |some d=>us.length=d.ps.length/\jaN T.gs (jaa T k) d.body ⟨λ_ G'=>Q .non G',Q,λx _ G'=>X x G'⟩ (jad d.N.length us) G
  |none=>False
mutual
noncomputable def RU (K:Yab)(H:Hp):U->V->Prop
 |.non,v=>v=.non
 |.bl b,v=>v=.bl b
 |.int i,v=>v=.int i
 |.str x,v=>v=.str x
 |.tup xs,v=>∃a vs,v=.ref a/\H a=some (.tup vs)/\RUs K H xs vs
 |.loc a,v=>v=.ref a
 |.fn _,_=>False
 |.ty n,v=>v=.ty n
 |.exc _ _,_=>False
 |.own _,_=>False
 |.clo _ _,_=>False
noncomputable def RUs (K:Yab)(H:Hp):List U->List V->Prop
 |[],vs=>vs=[]
 |u::us,vs=>∃v vr,vs=v::vr/\RU K H u v/\RUs K H us vr
end
def RKs {κ:Type}(K:Yab)(H:Hp):List (κ×U)->List (κ×V)->Prop
 |[],l=>l=[]
 |(k,u)::r,l=>∃v l',l=(k,v)::l'/\RU K H u v/\RKs K H r l'
def MOk (K:Yab)(H:Hp)(a:Addr):MO->Prop
 |.lst us=>∃vs,H a=some (.lst vs)/\RUs K H us vs
 |.fro us=>∃o vs,H a=some (.frz o (.lst vs))/\RUs K H us vs
 |.dK kvs=>∃l,H a=some (.dK l)/\RKs K H kvs l
 |.dT kvs=>∃l,H a=some (.dT l)/\RKs K H kvs l
 |.frd o kvs=>∃l,H a=some (.frz o (.dT l))/\RKs K H kvs l
 |.frk o kvs=>∃l,H a=some (.frz o (.dK l))/\RKs K H kvs l
noncomputable def tabs:List (Addr×Pos×Str):=[]
def jeM (H:Hp):Prop:=∀t∈tabs,jne H t.1 t.2.1 t.2.2
structure HR (K:Yab)(H:Hp)(G:Gp):Prop where
 mo:∀a o,G a=some o->MOk K H a o
 tab:jeM H
instance {K:Yab} {H:Hp} {G:Gp}:CoeFun (HR K H G) λ_=>∀a o,G a=some o->MOk K H a o:=⟨HR.mo⟩
noncomputable def noTb:HO->Bool
 |.tbl _=>false
 |_=>true
structure Fr (H:Hp)(G:Gp)(H':Hp)(G':Gp):Prop where
 go:∀a o,H a=some o->G a=none->(nt:noTb o=true:=by rfl)->H' a=some o/\G' a=none
instance {H H':Hp} {G G':Gp}:CoeFun (Fr H G H' G') λ_=>∀a o,H a=some o->G a=none->(nt:noTb o=true:=by rfl)->H' a=some o/\G' a=none:=⟨@Fr.go H G H' G'⟩
def SR (K:Yab)(H:Hp)(ς:Sg)(σ:St):Prop:=ς.length=σ.length/\∀(i:Nat) (u:U),ς[i]?=some (some u)->∃v,σ[i]?=some (some v)/\RU K H u v
section
variable {K:Yab}{H H' H1 H2:Hp}{G G' G1 G2:Gp}
theorem Fr.refl (H:Hp)(G:Gp):Fr H G H G:=⟨λ_ _ h g _=>⟨h,g⟩⟩
theorem Fr.trans (a:Fr H G H1 G1)(b:Fr H1 G1 H2 G2):Fr H G H2 G2:=⟨λc o h g nt=>let ⟨h1,g1⟩:=a c o h g nt;b c o h1 g1 nt⟩
structure TS (H H':Hp):Prop where
 tup:∀a xs,H a=some (.tup xs)->H' a=some (.tup xs)
 cod:∀a o,H a=some (frzC o)->H' a=some (frzC o)
instance:CoeFun (TS H H') λ_=>∀a xs,H a=some (.tup xs)->H' a=some (.tup xs):=⟨TS.tup⟩
theorem TS.trans (a:TS H H1)(b:TS H1 H2):TS H H2:=⟨λc xs h=>b.tup c xs (a.tup c xs h),λc o h=>b.cod c o (a.cod c o h)⟩
mutual
theorem RU.ts (t:TS H H'):∀{u:U} {v:V},RU K H u v->RU K H' u v
 |.non,_,h=>h
 |.bl _,_,h=>h
 |.int _,_,h=>h
 |.str _,_,h=>h
 |.tup xs,_,h=>by
  obtain⟨a,vs,e,q,r⟩:=h
  exact⟨a,vs,e,t _ _ q,RUs.ts t r⟩
 |.loc _,_,h=>h
 |.fn _,_,h=>h
 |.ty _,_,h=>h
 |.exc _ _,_,h=>h
 |.own _,_,h=>h
 |.clo _ _,_,h=>h
theorem RUs.ts (t:TS H H'):∀{us:List U} {vs:List V},RUs K H us vs->RUs K H' us vs
 |[],_,h=>h
 |_::_,_,h=>by
  obtain⟨v,vr,e,r,rs⟩:=h
  exact⟨v,vr,e,RU.ts t r,RUs.ts t rs⟩
end
theorem RKs.ts {κ:Type}(t:TS H H'):∀{kvs:List (κ×U)} {l:List (κ×V)},RKs K H kvs l->RKs K H' kvs l
 |[],_,h=>h
 |(_,_)::_,_,h=>by
  obtain⟨v,l',e,r,rs⟩:=h;exact⟨v,l',e,r.ts t,RKs.ts t rs⟩
theorem SR.ts {ς:Sg}{σ:St}(t:TS H H')(h:SR K H ς σ):SR K H' ς σ:=⟨h.1,λi u e=>let ⟨v,e1,r⟩:=h.2 i u e;⟨v,e1,r.ts t⟩⟩
theorem HR.tupNone (h:HR K H G){a:Addr}{xs:List V}(e:H a=some (.tup xs)):G a=none:=by
 cases q:G a with
 |none=>rfl
 |some o=>
  have m:=h a o q;cases o with
  |lst us=>obtain⟨_,e2,_⟩:=m;rw[e]at e2;cases e2
  |fro us=>obtain⟨_,_,e2,_⟩:=m;rw[e]at e2;cases e2
  |dK us=>obtain⟨_,e2,_⟩:=m;rw[e]at e2;cases e2
  |dT us=>obtain⟨_,e2,_⟩:=m;rw[e]at e2;cases e2
  |frd _ us=>obtain⟨_,e2,_⟩:=m;rw[e]at e2;cases e2
  |frk _ us=>obtain⟨_,e2,_⟩:=m;rw[e]at e2;cases e2
theorem HR.codNone (h:HR K H G){a:Addr}{ob:Obj}(e:H a=some (frzC ob)):G a=none:=by
 cases q:G a with
 |none=>rfl
 |some o=>
  have m:=h a o q;cases o with
  |lst us=>obtain⟨_,e2,_⟩:=m;rw[e]at e2;cases e2
  |fro us=>obtain⟨_,_,e2,_⟩:=m;rw[e]at e2;cases e2
  |dK us=>obtain⟨_,e2,_⟩:=m;rw[e]at e2;cases e2
  |dT us=>obtain⟨_,e2,_⟩:=m;rw[e]at e2;cases e2
  |frd _ us=>obtain⟨_,e2,_⟩:=m;rw[e]at e2;cases e2
  |frk _ us=>obtain⟨_,e2,_⟩:=m;rw[e]at e2;cases e2
theorem HR.tblNone (h:HR K H G){a:Addr}{ps:Array Value}(e:H a=some (.tbl ps)):G a=none:=by
 cases q:G a with
 |none=>rfl
 |some o=>
  have m:=h a o q;cases o with
  |lst us=>obtain⟨_,e2,_⟩:=m;rw[e]at e2;cases e2
  |fro us=>obtain⟨_,_,e2,_⟩:=m;rw[e]at e2;cases e2
  |dK us=>obtain⟨_,e2,_⟩:=m;rw[e]at e2;cases e2
  |dT us=>obtain⟨_,e2,_⟩:=m;rw[e]at e2;cases e2
  |frd _ us=>obtain⟨_,e2,_⟩:=m;rw[e]at e2;cases e2
  |frk _ us=>obtain⟨_,e2,_⟩:=m;rw[e]at e2;cases e2
theorem Fr.ts (f:Fr H G H' G')(h:HR K H G):TS H H':=⟨λa xs e=>(f a _ e (h.tupNone e)).1,λa o e=>(f a _ e (h.codNone e)).1⟩
theorem jeM.upd (h:jeM H){p:Addr}{o:HO}(h1:∀ps,H p≠some (.tbl ps))(h2:∀ob,H p≠some (frzC ob)):jeM (L2.upd H p o):=λt ht=>by
 rcases h t ht with e|⟨c,oc,e1,e2,q⟩
 ·exact .inl (by rw[jac (λz=>h1 _ (z ▸ e))];exact e)
 ·exact .inr ⟨c,oc,by rw[jac (λz=>h1 _ (z ▸ e1))];exact e1,by rw[jac (λz=>h2 _ (z ▸ e2))];exact e2,q⟩
theorem jeM.new (h:jeM H){p:Addr}{o:HO}(e:H p=none):jeM (L2.upd H p o):=h.upd (λps z=>by rw[e]at z;cases z) λob z=>by rw[e]at z;cases z
theorem HR.tabW (h:HR K H G){p:Addr}{o:HO}{mo:MO}(g:G p=some mo):jeM (L2.upd H p o):=h.tab.upd (λps z=>by rw[h.tblNone z]at g;cases g) λob z=>by rw[h.codNone z]at g;cases g
theorem MOk.there {a:Addr}{o:MO}(m:MOk K H a o):∃ho,H a=some ho:=by
 cases o with
 |lst _=>obtain⟨_,e,_⟩:=m;exact⟨_,e⟩
 |fro _=>obtain⟨_,_,e,_⟩:=m;exact⟨_,e⟩
 |dK _=>obtain⟨_,e,_⟩:=m;exact⟨_,e⟩
 |dT _=>obtain⟨_,e,_⟩:=m;exact⟨_,e⟩
 |frd _ _=>obtain⟨_,e,_⟩:=m;exact⟨_,e⟩
 |frk _ _=>obtain⟨_,e,_⟩:=m;exact⟨_,e⟩
theorem MOk.keep {a:Addr}{o:MO}(m:MOk K H a o)(e:H' a=H a)(t:TS H H'):MOk K H' a o:=by
 cases o with
 |lst _=>obtain⟨vs,q,r⟩:=m;exact⟨vs,e.trans q,r.ts t⟩
 |fro _=>obtain⟨ob,vs,q,r⟩:=m;exact⟨ob,vs,e.trans q,r.ts t⟩
 |dK _=>obtain⟨l,q,r⟩:=m;exact⟨l,e.trans q,r.ts t⟩
 |dT _=>obtain⟨l,q,r⟩:=m;exact⟨l,e.trans q,r.ts t⟩
 |frd _ _=>obtain⟨l,q,r⟩:=m;exact⟨l,e.trans q,r.ts t⟩
 |frk _ _=>obtain⟨l,q,r⟩:=m;exact⟨l,e.trans q,r.ts t⟩
theorem HR.nope (h:HR K H G){a:Addr}(e:H a=none):G a=none:=by
 cases q:G a with
 |none=>rfl
 |some o=>
  obtain⟨_,e2⟩:=(h a o q).there;rw[e]at e2;cases e2
theorem jaf {a:Addr}{o:MO}:gup G a o a=some o:=by unfold gup;rw[if_pos rfl]
theorem jbc {a b:Addr}{o:MO}(h:b≠a):gup G a o b=G b:=by unfold gup;rw[if_neg h]
theorem TS.new {p:Addr}{o:HO}(e:H p=none):TS H (upd H p o):=⟨λa xs h=>by rw[jac (jah h e)];exact h,λa ob h=>by rw[jac (jah h e)];exact h⟩
theorem HR.newT (h:HR K H G){p:Addr}{xs:List V}(e:H p=none):HR K (upd H p (.tup xs)) G:=⟨λa o q=>by
 have m:=h a o q;obtain⟨ho,e2⟩:=m.there;exact m.keep (jac (jah e2 e)) (TS.new e),h.tab.new e⟩
theorem Fr.new {p:Addr}{o:HO}(e:H p=none):Fr H G (upd H p o) G:=⟨λa ob h g _=>⟨by rw[jac (jah h e)];exact h,g⟩⟩
theorem HR.newO (h:HR K H G){p:Addr}{o:HO}{mo:MO}(e:H p=none)(m:MOk K (upd H p o) p mo):HR K (upd H p o) (gup G p mo):=⟨λa ob q=>by
 by_cases z:a=p
 ·subst z;rw[jaf]at q;cases q;exact m
 ·rw[jbc z]at q;exact(h a ob q).keep (jac z) (TS.new e),h.tab.new e⟩
theorem Fr.newO {p:Addr}{o:HO}{mo:MO}(e:H p=none):Fr H G (upd H p o) (gup G p mo):=⟨λa ob h g _=>by
 have z:a≠p:=jah h e;exact⟨by rw[jac z];exact h,by rw[jbc z];exact g⟩⟩
theorem TS.write (h:HR K H G){p:Addr}{o:HO}{mo:MO}(g:G p=some mo):TS H (upd H p o):=⟨λa xs e=>by
 have z:a≠p:=λz=>by subst z;rw[h.tupNone e]at g;cases g
 rw[jac z];exact e,λa ob e=>by
 have z:a≠p:=λz=>by subst z;rw[h.codNone e]at g;cases g
 rw[jac z];exact e⟩
theorem HR.write (h:HR K H G){p:Addr}{o:HO}{mo mo':MO}(g:G p=some mo)(m:MOk K (upd H p o) p mo'):HR K (upd H p o) (gup G p mo'):=⟨λa ob q=>by
 by_cases z:a=p
 ·subst z;rw[jaf]at q;cases q;exact m
 ·rw[jbc z]at q;exact(h a ob q).keep (jac z) (TS.write h g),h.tabW g⟩
theorem Fr.write {p:Addr}{o:HO}{mo mo':MO}(g:G p=some mo):Fr H G (upd H p o) (gup G p mo'):=⟨λa ob h n _=>by
 have z:a≠p:=λz=>by subst z;rw[n]at g;cases g
 exact⟨by rw[jac z];exact h,by rw[jbc z];exact n⟩⟩
theorem RUs.length:∀{us:List U} {vs:List V},RUs K H us vs->us.length=vs.length
 |[],_,h=>by cases h;rfl
 |_::_,_,h=>by
  obtain⟨v,vr,rfl,_,rs⟩:=h;simp[rs.length]
theorem RUs.append:∀{us ws:List U} {vs xs:List V},RUs K H us vs->RUs K H ws xs->RUs K H (us++ws) (vs++xs)
 |[],_,_,_,h,h'=>by cases h;exact h'
 |_::_,_,_,_,h,h'=>by
  obtain⟨v,vr,rfl,r,rs⟩:=h;exact⟨v,vr++_,rfl,r,rs.append h'⟩
theorem RUs.get:∀{us:List U} {vs:List V} {i:Nat} {u:U},RUs K H us vs->us[i]?=some u->∃v,vs[i]?=some v/\RU K H u v
 |[],_,_,_,_,e=>by simp at e
 |_::_,_,0,_,h,e=>by
  obtain⟨v,vr,rfl,r,_⟩:=h;simp at e;subst e;exact⟨v,rfl,r⟩
 |_::_,_,i+1,_,h,e=>by
  obtain⟨v,vr,rfl,_,rs⟩:=h;obtain⟨w,h1,h2⟩:=rs.get (i:=i) (by simpa using e)
  exact⟨w,by simpa using h1,h2⟩
theorem RUs.take:∀{us:List U} {vs:List V} (n:Nat),RUs K H us vs->RUs K H (us.take n) (vs.take n)
 |_,_,0,_=>rfl
 |[],_,_+1,h=>by cases h;rfl
 |_::_,_,n+1,h=>by
  obtain⟨v,vr,rfl,r,rs⟩:=h;exact⟨v,vr.take n,rfl,r,rs.take n⟩
theorem RUs.drop:∀{us:List U} {vs:List V} (n:Nat),RUs K H us vs->RUs K H (us.drop n) (vs.drop n)
 |_,_,0,h=>h
 |[],_,_+1,h=>by cases h;rfl
 |_::_,_,n+1,h=>by
  obtain⟨v,vr,rfl,_,rs⟩:=h;exact rs.drop n
theorem RUs.set {u:U}{v:V}(r:RU K H u v):∀{us:List U} {vs:List V} (i:Nat),RUs K H us vs->RUs K H (us.set i u) (vs.set i v)
 |[],_,_,h=>by cases h;rfl
 |_::_,_,0,h=>by
  obtain⟨w,vr,rfl,_,rs⟩:=h;exact⟨v,vr,rfl,r,rs⟩
 |_::_,_,i+1,h=>by
  obtain⟨w,vr,rfl,q,rs⟩:=h;exact⟨w,vr.set i v,rfl,q,rs.set r i⟩
theorem RUs.reverse:∀{us:List U} {vs:List V},RUs K H us vs->RUs K H us.reverse vs.reverse
 |[],_,h=>by cases h;rfl
 |_::_,_,h=>by
  obtain⟨v,vr,rfl,r,rs⟩:=h;rw[YbL,YbL];exact rs.reverse.append ⟨v,[],rfl,r,rfl⟩
theorem RUs.rep {us:List U}{vs:List V}(h:RUs K H us vs):∀k:Nat,RUs K H (Yae k us).flatten (Yae k vs).flatten
 |0=>rfl
 |k+1=>by
  rw[Ya8,Ya8,YbM,YbM];exact h.append (h.rep k)
theorem RUs.erase:∀{us:List U} {vs:List V} (i:Nat),RUs K H us vs->RUs K H (us.eraseIdx i) (vs.eraseIdx i)
 |[],_,_,h=>by cases h;rfl
 |_::_,_,0,h=>by
  obtain⟨v,vr,rfl,_,rs⟩:=h;exact rs
 |_::_,_,i+1,h=>by
  obtain⟨v,vr,rfl,r,rs⟩:=h;exact⟨v,_,rfl,r,rs.erase i⟩
section
variable {us:List U}{vs:List V}
theorem RUs.dropLast (h:RUs K H us vs):RUs K H us.dropLast vs.dropLast:=by
 rw[Yev,Yev,h.length];exact h.take _
theorem RUs.atI {i:Int}{u:U}(h:RUs K H us vs)(e:atI us i=some u):∃v,L2.atI vs i=some v/\RU K H u v:=by
 unfold L2.atI at e ⊢;rw[h.length]at e;cases q:ixN vs.length i with
 |none=>rw[q]at e;cases e
 |some j=>
  rw[q]at e;exact h.get e
theorem RUs.cut (h:RUs K H us vs)(lo hi:Option Int):RUs K H (Z.cut us lo hi) (cutV vs lo hi):=by
 unfold Z.cut cutV;rw[h.length];exact(h.drop _).take _
theorem RUs.isEmpty (h:RUs K H us vs):us.isEmpty=vs.isEmpty:=by
 cases us with
 |nil=>cases h;rfl
 |cons u us=>obtain⟨v,vr,rfl,_⟩:=h;rfl
end
theorem RUs.ints:∀{us:List U} {vs:List V} {ns:List Int},RUs K H us vs->jer us=some ns->vs=ns.map V.int
 |[],_,_,h,e=>by cases h;cases e;rfl
 |u::us,_,ns,h,e=>by
  obtain⟨v,vr,rfl,r,rs⟩:=h;cases u with
  |int i=>
   cases r;rw[jer]at e;cases q:jer us with
   |none=>rw[q]at e;cases e
   |some l=>rw[q]at e;cases e;rw[rs.ints q];rfl
  |_=>cases e
theorem HR.lst (h:HR K H G){a:Addr}{us:List U}(e:G a=some (.lst us)):∃vs,H a=some (.lst vs)/\RUs K H us vs:=h a _ e
theorem HR.ls (h:HR K H G){a:Addr}{us:List U}(e:lsG G a=some us):∃vs,SqL K H a vs/\RUs K H us vs:=by
 unfold lsG at e;split at e
 ·rename_i xs q;cases e;obtain⟨vs,q2,r⟩:=h a _ q;exact⟨vs,.inl (.inl q2),r⟩
 ·rename_i xs q;cases e;obtain⟨o,vs,q2,r⟩:=h a _ q;exact⟨vs,.inl (.inr ⟨o,q2⟩),r⟩
 ·cases e
theorem HR.rd (h:HR K H G){a:Addr}{us:List U}(e:lsG G a=some us):∃vs,Rd H a (.lst vs)/\RUs K H us vs:=by
 unfold lsG at e;split at e
 ·rename_i xs q;cases e;obtain⟨vs,q2,r⟩:=h a _ q;exact⟨vs,.inl q2,r⟩
 ·rename_i xs q;cases e;obtain⟨o,vs,q2,r⟩:=h a _ q;exact⟨vs,.inr ⟨o,q2⟩,r⟩
 ·cases e
end
mutual
theorem DU.dv {K:Yab}{H:Hp}{G:Gp}(h:HR K H G):∀{u:U} {d:PyData} {v:V},DU G u d->RU K H u v->DV K H v d
 |_,_,_,.non,r=>by cases r;exact .non
 |_,_,_,.bl b,r=>by cases r;exact .bl b
 |_,_,_,.int i,r=>by cases r;exact .int i
 |_,_,_,.str x,r=>by cases r;exact .str x
 |_,_,_,.tup q,r=>by
  obtain⟨a,vs,rfl,s,rs⟩:=r
  exact .tup (.of s) (DUs.dv h q rs)
 |_,_,_,.lst e q,r=>by
  cases r
  obtain⟨vs,s,rs⟩:=h.rd e
  exact .lst s (DUs.dv h q rs)
 |_,_,_,.dic e,r=>by
  cases r
  obtain⟨l,q,rs⟩:=h _ _ e
  cases rs
  exact .dic q
theorem DUs.dv {K:Yab}{H:Hp}{G:Gp}(h:HR K H G):∀{us:List U} {ds:List PyData} {vs:List V},DUs G us ds->RUs K H us vs->DVs K H vs ds
 |_,_,_,.nil,r=>by cases r;exact .nil
 |_,_,_,.cons a b,r=>by
  obtain⟨v,vr,rfl,r1,rs⟩:=r
  exact .cons (DU.dv h a r1) (DUs.dv h b rs)
end
end Z

namespace L2
open PySem
section
variable {X:Cx}
theorem PE.imp {e:Expr}{t t':TE}(h:PE X e t)(i:∀σ H Q,t' σ H Q->t σ H Q):PE X e t':=λpins s σ H Q I q=>h pins s σ H Q I (i σ H Q q)
theorem PT.imp {e:Expr}{t t':TT}(h:PT X e t)(i:∀σ H Q,t' σ H Q->t σ H Q):PT X e t':=λpins s σ H Q I q=>h pins s σ H Q I (i σ H Q q)
theorem PW.imp {e:Expr}{t t':TT}(h:PW X e t)(i:∀σ H Q,t' σ H Q->t σ H Q):PW X e t':=λw pins s σ H Q I q=>h w pins s σ H Q I (i σ H Q q)
theorem PA.imp {e:List Expr}{t t':TA}(h:PA X e t)(i:∀σ H Q,t' σ H Q->t σ H Q):PA X e t':=λpos pins s σ H Q I q=>h pos pins s σ H Q I (i σ H Q q)
theorem PO.imp {e:Option Expr}{t t':TO}(h:PO X e t)(i:∀σ H Q,t' σ H Q->t σ H Q):PO X e t':=λpins s σ H Q I q=>h pins s σ H Q I (i σ H Q q)
theorem PS.imp {e:Stmt}{t t':L2.TS}(h:PS X e t)(i:∀D σ H,t' D σ H->t D σ H):PS X e t':=λpins s σ H D I q=>h pins s σ H D I (i D σ H q)
theorem PSs.imp {e:List Stmt}{t t':L2.TS}(h:PSs X e t)(i:∀D σ H,t' D σ H->t D σ H):PSs X e t':=λpins s σ H D I q=>h pins s σ H D I (i D σ H q)
end
end L2
namespace Z
open PySem L2
noncomputable def gK (K:Yab):Str->Option Value:=λx=>(Yb5 K YaK x).join
def XD (K:Yab)(H:Hp)(C dx:Addr)(x:XV):Prop:=1<=x.c/\x.c<6/\XCls K (gK K) (clsN x.c) (clsF x.c) C/\∃l,H dx=some (.xd l)/\l.map (·.1)=clsF x.c/\RUs K H x.fs (l.map (·.2))
def XAt (X:Cx)(H:Hp)(s:Shared)(e:Value)(x:XV):Prop:=∃ea C dx,e=.ref ea/\Lies X.s₀.heap.objs.size X.pn H s.heap ea (.ref C) (some dx)/\XD X.K H C dx x
section
variable (X:Cx)
def LX (σ:St)(H:Hp)(G:Gp)(E:KX):Prop:=∀(pins:List (Addr×Obj)) (e:Value) (s':Shared) (x:XV) (G':Gp) (H':Hp),Inv X pins σ H' s'->XAt X H' s' e x->HR X.K H' G'->Fr H G H' G'->E x G'->X.xe e s'
def LV (H:Hp)(G:Gp)(Q:K1)(Q0:VK):Prop:=∀w v G' H',RU X.K H' w v->HR X.K H' G'->Fr H G H' G'->Q w G'->Q0 v H'
def lE (t:UE):TE:=λσ H Q0=>∃ς G Q E,SR X.K H ς σ/\HR X.K H G/\t ς G Q E/\LV X H G Q Q0/\LX X σ H G E
def lT (t:UT):TT:=λσ H Q0=>∃ς G Q E,SR X.K H ς σ/\HR X.K H G/\t ς G Q E/\(∀b G' H',HR X.K H' G'->Fr H G H' G'->Q b G'->Q0 b H')/\LX X σ H G E
def lA (t:UA):TA:=λσ H Q0=>∃ς G Q E,SR X.K H ς σ/\HR X.K H G/\t ς G Q E/\(∀ws vs G' H',RUs X.K H' ws vs->HR X.K H' G'->Fr H G H' G'->Q ws G'->Q0 vs H')/\LX X σ H G E
def lO (t:Sg->Gp->(Option Int->Gp->Prop)->KX->Prop):TO:=λσ H Q0=>∃ς G Q E,SR X.K H ς σ/\HR X.K H G/\t ς G Q E/\(∀o G' H',HR X.K H' G'->Fr H G H' G'->Q o G'->Q0 o H')/\LX X σ H G E
end
section
variable {X:Cx}{σ:St}{H H1 H2:Hp}{G G1 G2:Gp}
theorem LX.fr {E:KX}(h:LX X σ H G E)(f:Fr H G H1 G1):LX X σ H1 G1 E:=λpins e s' x G' H' I a hr f' q=>h pins e s' x G' H' I a hr (f.trans f') q
section
variable {Q:K1}{Q0:VK}
theorem LV.fr (h:LV X H G Q Q0)(f:Fr H G H1 G1):LV X H1 G1 Q Q0:=λw v G' H' r hr f' q=>h w v G' H' r hr (f.trans f') q
theorem LV.here (h:LV X H G Q Q0){w:U}{v:V}(r:RU X.K H w v)(hr:HR X.K H G)(q:Q w G):Q0 v H:=h w v G H r hr (Fr.refl _ _) q
theorem LV.bl (h:LV X H G Q Q0){b:Bool}(hr:HR X.K H G)(q:Q (.bl b) G):Q0 (.bl b) H:=h.here (w:=.bl b) rfl hr q
theorem LV.int (h:LV X H G Q Q0){b:Int}(hr:HR X.K H G)(q:Q (.int b) G):Q0 (.int b) H:=h.here (w:=.int b) rfl hr q
theorem LV.str (h:LV X H G Q Q0){b:Str}(hr:HR X.K H G)(q:Q (.str b) G):Q0 (.str b) H:=h.here (w:=.str b) rfl hr q
theorem LV.tup (h:LV X H G Q Q0){p:Addr}{us:List U}{vs:List V}(e:H p=none)(r:RUs X.K H us vs)(hr:HR X.K H G)(q:Q (.tup us) G):Q0 (.ref p) (upd H p (.tup vs)):=
 h (.tup us) (.ref p) G _ ⟨p,vs,rfl,jao,r.ts (TS.new e)⟩ (hr.newT e) (Fr.new e) q
theorem LV.lst (h:LV X H G Q Q0){p:Addr}{us:List U}{vs:List V}(e:H p=none)(r:RUs X.K H us vs)(hr:HR X.K H G)(q:newO G (.lst us) Q):Q0 (.ref p) (upd H p (.lst vs)):=
 h (.loc p) (.ref p) _ _ rfl (hr.newO (mo:=.lst us) e ⟨vs,jao,r.ts (TS.new e)⟩) (Fr.newO e) (q.at p (hr.nope e))
theorem LV.wl (h:LV X H G Q Q0){p:Addr}{us:List U}{vs:List V}{mo:MO}(g:G p=some mo)(r:RUs X.K H us vs)(hr:HR X.K H G){w:U}{v:V}(rw':RU X.K H w v)(q:putO G p (.lst us) (Q w)):Q0 v (upd H p (.lst vs)):=
 h w v _ _ (rw'.ts (TS.write hr g)) (hr.write (mo':=.lst us) g ⟨vs,jao,r.ts (TS.write hr g)⟩) (Fr.write g) q.at
end
end
section
variable {X:Cx}{σ:St}{H:Hp}{Q0:VK}{ta tb:UE}
theorem lE.two {R:V->V->Hp->Prop}{k:U->U->Gp->K1->Prop}(h:lE X (λς G Q E=>ta ς G (λx G1=>tb ς G1 (λy G2=>k x y G2 Q) E) E) σ H Q0)
  (f:∀x y v v' G H' Q,RU X.K H' x v->RU X.K H' y v'->HR X.K H' G->k x y G Q->LV X H' G Q Q0->R v v' H'):lE X ta σ H λv H1=>lE X tb σ H1 λv' H2=>R v v' H2:=by
 obtain⟨ς,G,Q,E,hς,hG,h,lv,lx⟩:=h;refine⟨ς,G,_,E,hς,hG,h,λx v G1 H1 rx hG1 f1 h1=>?_,lx⟩;refine⟨ς,G1,_,E,hς.ts (f1.ts hG),hG1,h1,λy v' G2 H2 ry hG2 f2 h2=>?_,lx.fr f1⟩;exact f x y v v' G2 H2 Q (rx.ts (f2.ts hG1)) ry hG2 h2 (lv.fr (f1.trans f2))
theorem lE.one {R:V->Hp->Prop}{k:U->Gp->K1->Prop}(h:lE X (λς G Q E=>ta ς G (λx G1=>k x G1 Q) E) σ H Q0)
  (f:∀x v G H' Q,RU X.K H' x v->HR X.K H' G->k x G Q->LV X H' G Q Q0->R v H'):lE X ta σ H R:=by
 obtain⟨ς,G,Q,E,hς,hG,h,lv,lx⟩:=h;exact⟨ς,G,_,E,hς,hG,h,λx v G1 H1 rx hG1 f1 h1=>f x v G1 H1 Q rx hG1 h1 (lv.fr f1),lx⟩
theorem lE.many {ta:UA}{R:List V->Hp->Prop}{k:List U->Gp->K1->Prop}(h:lE X (λς G Q E=>ta ς G (λx G1=>k x G1 Q) E) σ H Q0)
  (f:∀x v G H' Q,RUs X.K H' x v->HR X.K H' G->k x G Q->LV X H' G Q Q0->R v H'):lA X ta σ H R:=by
 obtain⟨ς,G,Q,E,hς,hG,h,lv,lx⟩:=h;exact⟨ς,G,_,E,hς,hG,h,λx v G1 H1 rx hG1 f1 h1=>f x v G1 H1 Q rx hG1 h1 (lv.fr f1),lx⟩
end
section
variable {X:Cx}{pos:Pos}
theorem jnD {i:Nat}{x:Str}(hN:X.N[i]?=some x)(hv:Vis X.env.scope x)(hd:(x==("__debug__" : Str))=false)(hcd:(x==("__classdict__" : Str))=false):PE X (.Name x pos) (lE X λς G Q _=>slot ς i λu=>Q u G):=by
 refine(jlR hN hv hd hcd).imp λσ H Q0 h=>?_;obtain⟨ς,G,Q,E,hς,hG,h,lv,_⟩:=h;unfold slot at h;split at h
 ·rename_i u e;obtain⟨v,e1,r⟩:=hς.2 i u e;exact⟨v,e1,lv.here r hG h⟩
 ·exact h.elim
theorem jb9 {e:Expr}{u:U}{v:V}(h:PE X e (tC v))(r:∀H,RU X.K H u v):PE X e (lE X λ_ G Q _=>Q u G):=
 h.imp λ_ _ _ ⟨_,_,_,_,_,hG,q,lv,_⟩=>lv.here (r _) hG q
end
def OpU (X:Cx)(f:Value->Value->Sem Value)(b:U->U->Gp->K1->Prop):Prop:=
 ∃r:R2,OpR X f r/\∀x y v v' G H Q Q0,RU X.K H x v->RU X.K H y v'->HR X.K H G->b x y G Q->LV X H G Q Q0->r v v' H Q0
section
variable {X:Cx}{pos:Pos}{a b c:Expr}{ta tb tc:UE}
theorem jnU {o:YbK}{k:U->U->Gp->K1->Prop}(ho:OpU X (Ybd o) k)(ha:PE X a (lE X ta))(hb:PE X b (lE X tb)) :
  PE X (.BinOp a o b pos) (lE X λς G Q E=>ta ς G (λx G1=>tb ς G1 (λy G2=>k x y G2 Q) E) E):=by
 obtain⟨r,h1,h2⟩:=ho;exact(joq h1 ha hb).imp λσ H Q0 h=>lE.two h λx y v v' G H' Q rx ry hG q lv=>h2 x y v v' G H' Q Q0 rx ry hG q lv
theorem jl6:OpU X (Ybd .Add) addU:=by
 refine⟨_,jmi.or (jf6.or ((jj5 (X:=X)).or (jmh.or jj6))),?_⟩;intro x y v v' G H Q Q0 rx ry hG h lv;cases x<;>try exact h.elim
 ·cases y<;>try exact h.elim
  cases rx;cases ry;exact .inr (.inr (.inr (.inr ⟨_,_,rfl,rfl,lv.int hG h⟩)))
 ·cases y<;>try exact h.elim
  cases rx;cases ry;exact .inl ⟨_,_,rfl,rfl,lv.int hG h⟩
 ·cases y<;>try exact h.elim
  cases rx;cases ry;exact .inr (.inl ⟨_,_,rfl,rfl,h.1,lv.str hG h.2⟩)
 ·cases y<;>try exact h.elim
  rename_i xs ys;obtain⟨a,vs,rfl,s1,r1⟩:=rx;obtain⟨b,ws,rfl,s2,r2⟩:=ry;obtain⟨hl,q⟩:=h;refine .inr (.inr (.inl ⟨a,b,vs,ws,rfl,rfl,.of s1,.of s2,by rw[<- r1.length,<- r2.length];exact hl,λz=>?_,λ_ z=>?_,λ_ _ p hp=>?_⟩))
  ·have:xs=[]:=by have:=r1.length;rw[z]at this;simpa using this
   subst this;exact lv.here (w:=.tup ys) ⟨b,ws,rfl,s2,r2⟩ hG q
  ·have:ys=[]:=by have:=r2.length;rw[z]at this;simpa using this
   subst this;rw[YcV]at q;exact lv.here (w:=.tup xs) ⟨a,vs,rfl,s1,r1⟩ hG q
  ·exact lv.tup hp (r1.append r2) hG q
 ·cases y<;>try exact h.elim
  cases rx;cases ry;obtain⟨xs,ys,g1,g2,hl,q⟩:=h;obtain⟨vs,e1,r1⟩:=hG.lst g1;obtain⟨ws,e2,r2⟩:=hG.lst g2;exact .inr (.inr (.inr (.inl ⟨_,_,vs,ws,rfl,rfl,e1,e2,by rw[<- r1.length,<- r2.length];exact hl,λp hp=>lv.lst hp (r1.append r2) hG q⟩)))
theorem jl1:OpU X (Ybd .Sub) subU:=by
 refine⟨_,jl7.or (jj0 (X:=X)),?_⟩;intro x y v v' G H Q Q0 rx ry hG h lv;unfold subU at h;split at h
 ·cases rx;cases ry;exact .inl ⟨_,_,rfl,rfl,lv.int hG h⟩
 ·cases rx;cases ry;exact .inr (.inl ⟨_,_,rfl,rfl,lv.int hG h⟩)
 ·cases rx;cases ry;exact .inr (.inr ⟨_,_,rfl,rfl,lv.int hG h⟩)
 ·exact h.elim
theorem jl3:OpU X (Ybd .Mult) mulU:=by
 refine⟨_,jmb.or (jl8.or ((jj1 (X:=X)).or jj2)),?_⟩;intro x y v v' G H Q Q0 rx ry hG h lv;unfold mulU at h;split at h
 ·cases rx;cases ry;exact .inl ⟨_,_,rfl,rfl,h.1,lv.int hG h.2⟩
 ·cases rx;cases ry;obtain⟨xs,g1,h1,h2,hl,q⟩:=h;obtain⟨vs,e1,r1⟩:=hG.lst g1;exact .inr (.inl ⟨_,_,vs,rfl,rfl,e1,h1,h2,by rw[<- r1.length];exact hl,λp hp=>lv.lst hp (r1.rep _) hG q⟩)
 ·rename_i xs k;obtain⟨a,vs,rfl,s1,r1⟩:=rx;cases ry;obtain⟨h0,h1,h2,hl,q⟩:=h;refine .inr (.inr (.inl ⟨a,k,vs,rfl,rfl,.of s1,?_,h1,h2,by rw[<- r1.length];exact hl,λz=>?_,λ_ p hp=>lv.tup hp (r1.rep _) hG q⟩))
  ·intro z;subst z;exact h0 (by have:=r1.length;simpa using this)
  ·subst z;have e:(Yae (Int.toNat 1) xs).flatten=xs:=by simp
   rw[e]at q;exact lv.here (w:=.tup xs) ⟨a,vs,rfl,s1,r1⟩ hG q
 ·cases rx;cases ry;exact .inr (.inr (.inr ⟨_,_,rfl,rfl,h.1,h.2.1,h.2.2.1,lv.str hG h.2.2.2⟩))
 ·exact h.elim
theorem jjZ:OpU X (Ybd .FloorDiv) jkN:=by
 refine⟨_,jj3,?_⟩;intro x y v v' G H Q Q0 rx ry hG h lv;unfold jkN at h;split at h
 ·cases rx;cases ry;exact⟨_,_,rfl,rfl,⟨h.1,h.2.1⟩,lv.int hG h.2.2⟩
 ·exact h.elim
theorem jl4:OpU X (Ybd .Mod) modU:=by
 refine⟨_,jmc,?_⟩;intro x y v v' G H Q Q0 rx ry hG h lv;unfold modU at h;split at h
 ·cases rx;cases ry;exact⟨_,_,rfl,rfl,h.1,lv.int hG h.2⟩
 ·exact h.elim
theorem jl2:OpU X (Ybd .Pow) powU:=by
 refine⟨_,jl9,?_⟩;intro x y v v' G H Q Q0 rx ry hG h lv;unfold powU at h;split at h
 ·cases rx;cases ry;exact⟨_,_,rfl,rfl,h.1,lv.int hG h.2⟩
 ·exact h.elim
theorem jl5 (o:YbK):OpU X (Ybd o) (binU o):=by
 cases o with
 |Add=>exact jl6
 |Sub=>exact jl1
 |Mult=>exact jl3
 |FloorDiv=>exact jjZ
 |Mod=>exact jl4
 |Pow=>exact jl2
 |_=>exact⟨λ_ _ _ _=>False,λ_ _ _ _ _ _ _ _ _ _ _ _ h=>h.elim,λ_ _ _ _ _ _ _ _ _ _ _ h _=>h⟩
theorem jnL (ha:PE X a (lE X ta)):PE X (.UnaryOp .USub a pos) (lE X λς G Q E=>ta ς G (λx G1=>negU x G1 Q) E):=by
 refine(jop jk1 ha).imp λσ H Q0 h=>lE.one h λx v G H' Q rx hG q lv=>?_;unfold negU at q;split at q
 ·cases rx;exact⟨_,rfl,lv.int hG q⟩
 ·exact q.elim
end
def CmU (X:Cx)(o:CmpOp):Prop:=
 ∃r:R2,OpR X (YaN o) r/\∀x y v v' G H (k:Bool->Prop) (Q0:VK),RU X.K H x v->RU X.K H y v'->HR X.K H G->cmpU o x y G k->(∀c,k c->Q0 (.bl c) H)->r v v' H Q0
section
variable {X:Cx}
def rIs (neg:Bool):R2:=λx y H Q=>((x=.non\/∃b,x=.bl b)\/(y=.non\/∃b,y=.bl b))/\Q (.bl (if neg then !decide (x=y) else decide (x=y))) H
theorem jfs {x y:V}{v u:Value}(rx:RelV x v)(ry:RelV y u)(h:(x=.non\/∃b,x=.bl b)\/(y=.non\/∃b,y=.bl b)):plainIs v u=true/\(v==u)=decide (x=y):=by
 rcases h with(rfl|⟨b,rfl⟩)|(rfl|⟨b,rfl⟩)
 ·cases rx;cases y with
  |non=>cases ry;exact⟨rfl,by simp⟩
  |bl c=>cases ry;exact⟨rfl,by simp⟩
  |int _=>obtain⟨t,rfl⟩:=ry;exact⟨rfl,by simp⟩
  |str _=>obtain⟨t,rfl⟩:=ry;exact⟨rfl,by simp⟩
  |byt _=>obtain⟨t,rfl⟩:=ry;exact⟨rfl,by simp⟩
  |flt _=>obtain⟨t,rfl⟩:=ry;exact⟨rfl,by simp⟩
  |ref _=>cases ry;exact⟨rfl,by simp⟩
  |ty _=>cases ry;exact⟨rfl,by simp⟩
 ·cases rx;cases y with
  |non=>cases ry;exact⟨rfl,by simp⟩
  |bl c=>cases ry;exact⟨rfl,by cases b<;>cases c<;>rfl⟩
  |int _=>obtain⟨t,rfl⟩:=ry;exact⟨rfl,by simp⟩
  |str _=>obtain⟨t,rfl⟩:=ry;exact⟨rfl,by simp⟩
  |byt _=>obtain⟨t,rfl⟩:=ry;exact⟨rfl,by simp⟩
  |flt _=>obtain⟨t,rfl⟩:=ry;exact⟨rfl,by simp⟩
  |ref _=>cases ry;exact⟨rfl,by simp⟩
  |ty _=>cases ry;exact⟨rfl,by simp⟩
 ·cases ry;cases x with
  |non=>cases rx;exact⟨rfl,by simp⟩
  |bl c=>cases rx;exact⟨rfl,by simp⟩
  |int _=>obtain⟨t,rfl⟩:=rx;exact⟨rfl,by simp⟩
  |str _=>obtain⟨t,rfl⟩:=rx;exact⟨rfl,by simp⟩
  |byt _=>obtain⟨t,rfl⟩:=rx;exact⟨rfl,by simp⟩
  |flt _=>obtain⟨t,rfl⟩:=rx;exact⟨rfl,by simp⟩
  |ref _=>cases rx;exact⟨rfl,by simp⟩
  |ty _=>cases rx;exact⟨rfl,by simp⟩
 ·cases ry;cases x with
  |non=>cases rx;exact⟨rfl,by simp⟩
  |bl c=>cases rx;exact⟨rfl,by cases b<;>cases c<;>rfl⟩
  |int _=>obtain⟨t,rfl⟩:=rx;exact⟨rfl,by simp⟩
  |str _=>obtain⟨t,rfl⟩:=rx;exact⟨rfl,by simp⟩
  |byt _=>obtain⟨t,rfl⟩:=rx;exact⟨rfl,by simp⟩
  |flt _=>obtain⟨t,rfl⟩:=rx;exact⟨rfl,by simp⟩
  |ref _=>cases rx;exact⟨rfl,by simp⟩
  |ty _=>cases rx;exact⟨rfl,by simp⟩
theorem jmd:OpR X (YaN .Is) (rIs false):=by
 intro pins s σ H x y v u Q I rx ry h;obtain⟨c,q⟩:=h;obtain⟨h1,h2⟩:=jfs rx ry c;refine wpAny_is_plain h1 ⟨.bl _,H,I,?_,q⟩;rw[h2];rfl
theorem jgL:OpR X (YaN .IsNot) (rIs true):=by
 intro pins s σ H x y v u Q I rx ry h;obtain⟨c,q⟩:=h;obtain⟨h1,h2⟩:=jfs rx ry c;refine wpAny_isNot_plain h1 ⟨.bl _,H,I,?_,q⟩;rw[h2];rfl
theorem jiY {K:Yab}{H:Hp}{x y:U}{v v':V}{k:Bool->Prop}(rx:RU K H x v)(ry:RU K H y v')(h:isU x y k):((v=.non\/∃b,v=.bl b)\/(v'=.non\/∃b,v'=.bl b))/\k (decide (v=v')):=by
 have e:∀{a b:V},a≠b->k false->k (decide (a=b)):=λn q=>by rw[decide_eq_false n];exact q
 cases x<;>try exact h.elim
 ·cases y
  case non=>have h':k true:=h;cases rx;cases ry;exact⟨.inl (.inl rfl),by simpa using h'⟩
  all_goals first
   |exact h.elim
   |(cases rx;obtain⟨a,vs,rfl,_⟩:=ry;exact⟨.inl (.inl rfl),e (λz=>nomatch z) h⟩)
   |(cases rx;cases ry;exact⟨.inl (.inl rfl),e (λz=>nomatch z) h⟩)
 ·cases y<;>first
   |exact h.elim
   |(cases rx;cases ry;exact⟨.inr (.inl rfl),e (λz=>nomatch z) h⟩)
   |(cases rx;cases ry;rename_i b c;exact⟨.inl (.inr ⟨_,rfl⟩),by rw[decide_eq_decide.mpr (⟨λz=>V.bl.inj z,λz=>z ▸ rfl⟩:V.bl b=.bl c↔b=c)];exact h⟩)
 ·cases y<;>first
   |exact h.elim
   |(cases rx;cases ry;exact⟨.inr (.inl rfl),e (λz=>nomatch z) h⟩)
   |(cases rx;cases ry;exact⟨.inr (.inr ⟨_,rfl⟩),e (λz=>nomatch z) h⟩)
 ·cases y<;>first
   |exact h.elim
   |(cases rx;cases ry;exact⟨.inr (.inl rfl),e (λz=>nomatch z) h⟩)
   |(cases rx;cases ry;exact⟨.inr (.inr ⟨_,rfl⟩),e (λz=>nomatch z) h⟩)
 ·cases y<;>first
   |exact h.elim
   |(cases ry;obtain⟨a,vs,rfl,_⟩:=rx;exact⟨.inr (.inl rfl),e (λz=>nomatch z) h⟩)
   |(cases ry;obtain⟨a,vs,rfl,_⟩:=rx;exact⟨.inr (.inr ⟨_,rfl⟩),e (λz=>nomatch z) h⟩)
 ·cases y<;>first
   |exact h.elim
   |(cases rx;cases ry;exact⟨.inr (.inl rfl),e (λz=>nomatch z) h⟩)
   |(cases rx;cases ry;exact⟨.inr (.inr ⟨_,rfl⟩),e (λz=>nomatch z) h⟩)
theorem ji5 {H:Hp}{G:Gp}{x y:U}{v v':V}{k:Bool->Prop}(rx:RU X.K H x v)(ry:RU X.K H y v')(hG:HR X.K H G)(h:eqU x y G k) :
  (scal v v'=true/\k (decide (v=v')))\/∃d e,DV X.K H v d/\DV X.K H v' e/\d.canLay0=true/\e.canLay0=true/\d.depth<=100/\k (YaD d e):=by
 have g:(∃d e,DU G x d/\DU G y e/\Small d/\Small e/\k (YaD d e))->(scal v v'=true/\k (decide (v=v')))\/∃d e,DV X.K H v d/\DV X.K H v' e/\d.canLay0=true/\e.canLay0=true/\d.depth<=100/\k (YaD d e):=
  λ⟨d,e,h1,h2,⟨s1,s2⟩,⟨s3,_⟩,q⟩=>.inr ⟨d,e,h1.dv hG rx,h2.dv hG ry,s1,s3,s2,q⟩
 have e:∀{p:Prop} [Decidable p],¬p->k false->k (decide p):=λn q=>by rw[decide_eq_false n];exact q
 cases x<;>try exact g h
 all_goals
  cases y<;>first
   |exact g h
   |(cases rx;cases ry;exact .inl ⟨rfl,e (λz=>V.noConfusion z) h⟩)
   |(cases rx;cases ry;exact .inl ⟨rfl,by simp only[V.bl.injEq,V.int.injEq,V.str.injEq];exact h⟩)
theorem jgA {K:Yab}{H:Hp}{us:List U}{vs:List V}(r:RUs K H us vs):vs.isEmpty=us.isEmpty:=by
 have:=r.length;cases us<;>cases vs<;>first|rfl|cases this
theorem jkP {H:Hp}{G:Gp}{x y:U}{v v':V}{k:Bool->Prop}(rx:RU X.K H x v)(ry:RU X.K H y v')(hG:HR X.K H G)(h:eqQ x y G k):eqU x y G k\/(∃a z kvs,v=.ref a/\v'=.str z/\H a=some (.dK kvs)/\k false)\/(∃a b xs,v=.ref a/\v'=.ref b/\SqT X.K H a xs/\SqT X.K H b []/\k xs.isEmpty)\/∃a z xs,v=.ref a/\v'=.str z/\(SqT X.K H a xs\/SqL X.K H a xs)/\k false:=by
 unfold eqQ at h;split at h
 ·rcases h with⟨kvs,g,q⟩|⟨xs,g,q⟩|h
  ·cases rx;cases ry;obtain⟨l,e,rs⟩:=hG _ _ g;exact .inr (.inl ⟨_,_,l,rfl,rfl,e,q⟩)
  ·cases rx;cases ry;obtain⟨vs,e,rs⟩:=hG.lst g;exact .inr (.inr (.inr ⟨_,_,vs,rfl,rfl,.inr (.of e),q⟩))
  ·exact .inl h
 ·obtain⟨a,vs,rfl,s1,r1⟩:=rx;obtain⟨b,ws,rfl,s2,r2⟩:=ry;cases r2;refine .inr (.inr (.inl ⟨a,b,vs,rfl,rfl,.of s1,.of s2,?_⟩));rw[jgA r1];exact h
 ·obtain⟨a,vs,rfl,s1,r1⟩:=rx;cases ry;exact .inr (.inr (.inr ⟨a,_,vs,rfl,rfl,.inl (.of s1),h⟩))
 ·exact .inl h
section
variable {K:Yab}{H:Hp}
theorem je0 {x:U}{v:V}{k:Key}(r:RU K H x v)(e:kU x=some k):v=kV k:=by
 cases x with
 |int i=>cases r;cases e;rfl
 |str i=>cases r;cases e;rfl
 |_=>cases e
theorem jfC:∀{xs:List U} {vs:List V} {ks:List Key},RUs K H xs vs->kUs xs=some ks->vs=ks.map kV
 |[],_,_,r,e=>by cases r;cases e;rfl
 |x::xs,_,ks,r,e=>by
  obtain⟨v,vr,rfl,r1,rs⟩:=r;rw[kUs]at e;cases h1:kU x with
  |none=>rw[h1]at e;cases e
  |some k=>
   cases h2:kUs xs with
   |none=>rw[h1,h2]at e;cases e
   |some l=>
    rw[h1,h2]at e;cases e;rw[je0 r1 h1,jfC rs h2];rfl
theorem jdV {x:U}{v:V}(r:RU K H x v)(e:flat x=true):jcH v=true:=by
 cases x<;>first|(cases r;rfl)|exact absurd (show false=true from e) (by decide)
theorem jcM:∀{xs:List U} {vs:List V},RUs K H xs vs->xs.all flat=true->vs.all jcH=true
 |[],_,r,_=>by cases r;rfl
 |x::xs,_,r,e=>by
  obtain⟨v,vr,rfl,r1,rs⟩:=r;rw[YcI,Yay]at e;rw[YcI,jdV r1 e.1,jcM rs e.2];rfl
theorem jmP {x y:U}{v v':V}(r:RU K H x v)(r':RU K H y v')(e:flat x=true)(e':flat y=true):eqV v v'=eqF x y:=by
 cases x<;>first|(exact absurd (show false=true from e) (by decide))|(cases y<;>first|(exact absurd (show false=true from e') (by decide))|(cases r;cases r';rfl))
theorem jfV {x:U}{v:V}(r:RU K H x v)(e:flat x=true):∀{xs:List U} {vs:List V},RUs K H xs vs->xs.all flat=true->inV v vs=xs.any λy=>eqF y x
 |[],_,rs,_=>by cases rs;rfl
 |y::xs,_,rs,e'=>by
  obtain⟨v',vr,rfl,r1,rs⟩:=rs;rw[YcI,Yay]at e';have ih:=jfV r e rs e'.2;unfold inV at ih ⊢;rw[Yba,Yba,jmP r1 r e'.1 e,ih]
end
theorem jcP {κ:Type}[DecidableEq κ]{K:Yab}{H:Hp}(k:κ):∀{kvs:List (κ×U)} {l:List (κ×V)},RKs K H kvs l->match dGet kvs k with|some u=>∃v,valV l k=some v/\RU K H u v|none=>valV l k=none
 |[],_,r=>by cases r;exact rfl
 |(k',u)::kvs,_,r=>by
  obtain⟨v,l',rfl,r1,rs⟩:=r;by_cases e:k'=k
  ·subst e;have:dGet ((k',u)::kvs) k'=some u:=by simp[dGet,Ybr]
   rw[this];exact⟨v,jcJ rfl,r1⟩
  ·have:dGet ((k',u)::kvs) k=dGet kvs k:=by simp[dGet,Ybr,e]
   rw[this,jcK (p:=(k',v)) e];exact jcP k rs
theorem jc7 {κ:Type}[DecidableEq κ]{K:Yab}{H:Hp}(k:κ){kvs:List (κ×U)}{l:List (κ×V)}(r:RKs K H kvs l):(valV l k).isSome=(dGet kvs k).isSome:=by
 have:=jcP k r;cases e:dGet kvs k with
 |none=>rw[e]at this;rw[show valV l k=none from this];rfl
 |some u=>rw[e]at this;obtain⟨v,h,_⟩:=this;rw[h];rfl
def rDIn (neg:Bool):R2:=λx y H Q=>∃a o,y=.ref a/\DGet H a x o/\Q (.bl (if neg then !o.isSome else o.isSome)) H
theorem jmg (hu:X.A.units+1<cLine):OpR X (YaN .In) (rDIn false):=by
 intro pins s σ H x y v u Q I rx ry h;obtain⟨a,o,rfl,g,q⟩:=h;cases ry;exact d_in hu I g rx λs' I'=>⟨.bl o.isSome,H,I',rfl,q⟩
theorem jgO (hu:X.A.units+1<cLine):OpR X (YaN .NotIn) (rDIn true):=by
 intro pins s σ H x y v u Q I rx ry h;obtain⟨a,o,rfl,g,q⟩:=h;cases ry;exact jkR hu I g rx λs' I'=>⟨.bl (!o.isSome),H,I',rfl,q⟩
theorem jdT {K:Yab}{H:Hp}:∀{ns:List Int} {vs:List V},RUs K H (ns.map .int) vs->vs=ns.map V.int
 |[],_,h=>h
 |n::ns,_,h=>by
  obtain⟨v,vr,rfl,h1,h2⟩:=h;rw[jdT h2];have h1:v=.int n:=h1;rw[h1];rfl
theorem ji0 {H:Hp}{G:Gp}{x y:U}{v v':V}{k:Bool->Prop}(rx:RU X.K H x v)(ry:RU X.K H y v')(hG:HR X.K H G)(h:inU x y G k) :
  (∃i j,v=.str i/\v'=.str j/\k (!(YbT j i 0 j.length 1).isEmpty))\/(∃p xs,v'=.ref p/\(SqL X.K H p xs\/SqT X.K H p xs)/\jcH v=true/\xs.all jcH=true/\k (inV v xs))\/
   (∃a o,v'=.ref a/\DGet H a v o/\k o.isSome)\/∃(p:Addr) (vs:List V) (d:PyData) (ds:List PyData),v'=.ref p/\(SqL X.K H p vs\/SqT X.K H p vs)/\DV X.K H v d/\DVs X.K H vs ds/\d.canLay0=true/\d.depth<=100/\(∀e∈ds,e.canLay0=true)/\k (ds.any λe=>YaD e d):=by
 unfold inU at h;split at h
 ·cases rx;cases ry;exact .inl ⟨_,_,rfl,rfl,h⟩
 ·obtain⟨a,vs,rfl,e,rs⟩:=ry;obtain⟨d,ds,hd,hds,sd,sds,q⟩:=h;exact .inr (.inr (.inr ⟨a,vs,d,ds,rfl,.inr (.of e),hd.dv hG rx,hds.dv hG rs,sd.1,sd.2,λe he=>(sds e he).1,q⟩))
 ·obtain⟨a,vs,rfl,e,rs⟩:=ry;obtain⟨f1,f2,q⟩:=h;exact .inr (.inl ⟨a,vs,rfl,.inr (.of e),jdV rx f1,jcM rs f2,by rw[jfV rx f1 rs f2];exact q⟩)
 ·cases ry;rename_i a;split at h
  ·rename_i ys g;obtain⟨vs,e,rs⟩:=hG.lst g;rcases h with⟨f1,f2,q⟩|⟨d,ds,hd,hds,sd,sds,q⟩
   ·exact .inr (.inl ⟨a,vs,rfl,.inl (.of e),jdV rx f1,jcM rs f2,by rw[jfV rx f1 rs f2];exact q⟩)
   ·exact .inr (.inr (.inr ⟨a,vs,d,ds,rfl,.inl (.of e),hd.dv hG rx,hds.dv hG rs,sd.1,sd.2,λe he=>(sds e he).1,q⟩))
  ·rename_i ys g;obtain⟨ob,vs,e,rs⟩:=hG a _ g;obtain⟨f1,f2,q⟩:=h;exact .inr (.inl ⟨a,vs,rfl,.inl (.inl (.inr ⟨ob,e⟩)),jdV rx f1,jcM rs f2,by rw[jfV rx f1 rs f2];exact q⟩)
  ·rename_i kvs g;obtain⟨l,e,rs⟩:=hG a _ g;split at h
   ·rename_i y ek;have:=je0 rx ek;subst this;exact .inr (.inr (.inl ⟨a,_,rfl,DGet.k e,by rw[jc7 y rs];exact h⟩))
   ·exact h.elim
  ·rename_i kvs g;obtain⟨l,e,rs⟩:=hG a _ g;split at h
   ·rename_i xs;obtain⟨b,vs,rfl,eb,rb⟩:=rx;split at h
    ·rename_i y ek;have:=jfC rb ek;subst this;exact .inr (.inr (.inl ⟨a,_,rfl,DGet.t e eb,by rw[jc7 y rs];exact h⟩))
    ·exact h.elim
   ·exact h.elim
  ·rename_i o kvs g;obtain⟨l,e,rs⟩:=hG a _ g;split at h
   ·rename_i y ek;have:=je0 rx ek;subst this;exact .inr (.inr (.inl ⟨a,_,rfl,.inl ⟨l,y,.inr ⟨o,e⟩,rfl,rfl⟩,by rw[jc7 y rs];exact h⟩))
   ·exact h.elim
  ·exact h.elim
 ·exact h.elim
theorem jeT {o:CmpOp}{x y:U}{k:Bool->Prop}(h:ordU o x y k):(∃i j,x=.int i/\y=.int j)\/(o=.LtE/\∃i j,x=.str i/\y=.str j):=by
 unfold ordU at h;split at h<;>first|exact .inl ⟨_,_,rfl,rfl⟩|exact .inr ⟨rfl,_,_,rfl,rfl⟩|exact h.elim
theorem jdG {k:Nat}(hr:Room k X.A)(o:CmpOp):CmU X o:=by
 have hu:X.A.units+1<cLine:=by have:=hr.un;omega
 cases o with
 |Eq=>
  refine⟨_,joy.or ((jmf hr).or ((jdR hr).or ((jf5 hr).or (jeh hr)))),λx y v v' G H k Q0 rx ry hG h q=>?_⟩;rcases jkP rx ry hG h with h|⟨a,z,kvs,h1,h2,h3,h4⟩|⟨a,b,xs,h1,h2,h3,h4,h5⟩|⟨a,z,xs,h1,h2,h3,h4⟩
  ·rcases ji5 rx ry hG h with⟨h1,h2⟩|⟨d,e,h1,h2,h3,h4,h5,h6⟩
   ·exact .inl ⟨h1,q _ h2⟩
   ·exact .inr (.inl ⟨d,e,h1,h2,h3,h4,h5,q _ h6⟩)
  ·exact .inr (.inr (.inl ⟨a,z,kvs,h1,h2,h3,q _ h4⟩))
  ·exact .inr (.inr (.inr (.inl ⟨a,b,xs,h1,h2,h3,h4,q _ h5⟩)))
  ·exact .inr (.inr (.inr (.inr ⟨a,z,xs,h1,h2,h3,q _ h4⟩)))
 |NotEq=>
  refine⟨_,jou.or (jma hr),λx y v v' G H k Q0 rx ry hG h q=>?_⟩;rcases ji5 rx ry hG h with⟨h1,h2⟩|⟨d,e,h1,h2,h3,h4,h5,h6⟩
  ·exact .inl ⟨h1,q _ h2⟩
  ·exact .inr ⟨d,e,h1,h2,h3,h4,h5,q _ h6⟩
 |Is=>
  refine⟨_,jmd,λx y v v' G H k Q0 rx ry hG h q=>?_⟩;obtain⟨h1,h2⟩:=jiY rx ry h;exact⟨h1,q _ h2⟩
 |IsNot=>
  refine⟨_,jgL,λx y v v' G H k Q0 rx ry hG h q=>?_⟩;obtain⟨h1,h2⟩:=jiY rx ry h;exact⟨h1,q _ h2⟩
 |In=>
  refine⟨_,jgM.or ((jgN (X:=X)).or ((jmg hu).or (jme hr))),λx y v v' G H k Q0 rx ry hG h q=>?_⟩;rcases ji0 rx ry hG h with⟨i,j,h1,h2,h3⟩|⟨p,xs,h1,h2,h3,h4,h5⟩|⟨a,o,h1,h2,h3⟩|⟨p,vs,d,ds,h1,h2,h3,h4,h5,h6,h7,h8⟩
  ·exact .inl ⟨i,j,h1,h2,q _ h3⟩
  ·exact .inr (.inl ⟨p,xs,h1,h2,h3,h4,q _ h5⟩)
  ·exact .inr (.inr (.inl ⟨a,o,h1,h2,q _ h3⟩))
  ·exact .inr (.inr (.inr ⟨p,vs,d,ds,h1,h2,h3,h4,h5,h6,h7,q _ h8⟩))
 |NotIn=>
  refine⟨_,jef.or ((jeg (X:=X)).or ((jgO hu).or (jgJ hr))),λx y v v' G H k Q0 rx ry hG h q=>?_⟩;rcases ji0 rx ry hG h with⟨i,j,h1,h2,h3⟩|⟨p,xs,h1,h2,h3,h4,h5⟩|⟨a,o,h1,h2,h3⟩|⟨p,vs,d,ds,h1,h2,h3,h4,h5,h6,h7,h8⟩
  ·exact .inl ⟨i,j,h1,h2,q _ h3⟩
  ·exact .inr (.inl ⟨p,xs,h1,h2,h3,h4,q _ h5⟩)
  ·exact .inr (.inr (.inl ⟨a,o,h1,h2,q _ h3⟩))
  ·exact .inr (.inr (.inr ⟨p,vs,d,ds,h1,h2,h3,h4,h5,h6,h7,q _ h8⟩))
 |Lt=>
  refine⟨_,jov,λx y v v' G H k Q0 rx ry hG h q=>?_⟩;obtain⟨i,j,rfl,rfl⟩|⟨z,_⟩:=jeT h
  rotate_left
  ·cases z
  cases rx;cases ry;exact⟨_,_,rfl,rfl,q _ h⟩
 |LtE=>
  refine⟨_,jow.or jgK,λx y v v' G H k Q0 rx ry hG h q=>?_⟩;obtain⟨i,j,rfl,rfl⟩|⟨_,i,j,rfl,rfl⟩:=jeT h
  ·cases rx;cases ry;exact .inl ⟨_,_,rfl,rfl,q _ h⟩
  ·cases rx;cases ry;exact .inr ⟨_,_,rfl,rfl,q _ h⟩
 |Gt=>
  refine⟨_,jox,λx y v v' G H k Q0 rx ry hG h q=>?_⟩;obtain⟨i,j,rfl,rfl⟩|⟨z,_⟩:=jeT h
  rotate_left
  ·cases z
  cases rx;cases ry;exact⟨_,_,rfl,rfl,q _ h⟩
 |GtE=>exact⟨λ_ _ _ _=>False,λ_ _ _ _ _ _ _ _ _ _ _ _ h=>h.elim,λ_ _ _ _ _ _ _ _ _ _ _ h _=>h.elim⟩
variable {pos:Pos}{a b c:Expr}{ta tb tc:UE}{tA tB:UT}
theorem jnS {o:CmpOp}(ho:CmU X o)(ha:PE X a (lE X ta))(hb:PE X b (lE X tb))(hm:YdD o b=false) :
  PE X (.Compare a [o] [b] pos) (lE X λς G Q E=>ta ς G (λx G1=>tb ς G1 (λy G2=>cmpU o x y G2 λc=>Q (.bl c) G2) E) E):=by
 obtain⟨r,h1,h2⟩:=ho;exact(jjV h1 ha hb hm).imp λσ H Q0 h=>lE.two h λx y v v' G H' Q rx ry hG q lv=>h2 x y v v' G H' _ Q0 rx ry hG q λc q=>lv.bl hG q
theorem jla {o o':CmpOp}(ho:CmU X o)(ho':CmU X o')(ha:PE X a (lE X ta))(hb:PE X b (lE X tb))(hc:PE X c (lE X tc))(hm:YfC [o,o'] [b,c]=false) :
  PE X (.Compare a [o,o'] [b,c] pos) (lE X λς G Q E=>ta ς G (λx G1=>tb ς G1 (λy G2=>cmpU o x y G2 λt=>if t=true then tc ς G2 (λz G3=>cmpU o' y z G3 λt'=>Q (.bl t') G3) E else Q (.bl false) G2) E) E):=by
 obtain⟨r,h1,h2⟩:=ho;obtain⟨r',h1',h2'⟩:=ho';refine(jh6 h1 h1' ha hb hc hm).imp λσ H Q0 h=>?_;obtain⟨ς,G,Q,E,hς,hG,h,lv,lx⟩:=h;refine⟨ς,G,_,E,hς,hG,h,λx v G1 H1 rx hG1 f1 h1=>?_,lx⟩;refine⟨ς,G1,_,E,hς.ts (f1.ts hG),hG1,h1,λy v' G2 H2 ry hG2 f2 h3=>?_,lx.fr f1⟩;refine h2 x y v v' G2 H2 _ _ (rx.ts (f2.ts hG1)) ry hG2 h3 λt q=>⟨t,rfl,?_⟩;cases t with
 |false=>
  rw[if_neg Yak]at q ⊢;exact(lv.fr (f1.trans f2)).bl hG2 q
 |true=>
  rw[if_pos rfl]at q ⊢;refine⟨ς,G2,_,E,(hς.ts (f1.ts hG)).ts (f2.ts hG1),hG2,q,λz v3 G3 H3 rz hG3 f3 h4=>?_,lx.fr (f1.trans f2)⟩;exact h2' y z v' v3 G3 H3 _ Q0 (ry.ts (f3.ts hG2)) rz hG3 h4 λc q=>(lv.fr ((f1.trans f2).trans f3)).bl hG3 q
theorem jdK {H:Hp}{G:Gp}{x:U}{v:V}{k:Bool->Prop}(rx:RU X.K H x v)(hG:HR X.K H G)(h:truU x G k):∃b,TruV X.K v H b/\k b:=by
 unfold truU at h;split at h
 ·cases rx;exact⟨_,rfl,h⟩
 ·cases rx;exact⟨_,rfl,h⟩
 ·cases rx;exact⟨_,rfl,h⟩
 ·cases rx;exact⟨_,⟨h.1,rfl⟩,h.2⟩
 ·obtain⟨a,vs,rfl,e,rs⟩:=rx;exact⟨_,.inr (.inl ⟨vs,.of e,rfl⟩),by rw[<- rs.isEmpty];exact h⟩
 ·cases rx;split at h
  ·rename_i g;obtain⟨vs,e,rs⟩:=hG.lst g;exact⟨_,.inl ⟨vs,.of e,rfl⟩,by rw[<- rs.isEmpty];exact h⟩
  ·rename_i g;obtain⟨ob,vs,e,rs⟩:=hG _ _ g;exact⟨_,.inl ⟨vs,.inl (.inr ⟨ob,e⟩),rfl⟩,by rw[<- rs.isEmpty];exact h⟩
  ·rename_i kvs g;obtain⟨l,e,rs⟩:=hG _ _ g;refine⟨_,.inr (.inr ⟨l,e,rfl⟩),?_⟩;cases kvs with
   |nil=>cases rs;exact h
   |cons p r=>obtain⟨v,l',rfl,_⟩:=rs;exact h
  ·exact h.elim
 ·exact h.elim
theorem jnH (ha:PE X a (lE X ta))(he:∀whole,isTrue a X.env whole=(do let v <- whole;standAt a.pos;holding [v] (truthy v))):PT X a (lT X λς G Q E=>ta ς G (λx G1=>truU x G1 λb=>Q b G1) E):=by
 refine(jhU ha he).imp λσ H Q0 h=>?_;obtain⟨ς,G,Q,E,hς,hG,h,lv,lx⟩:=h;refine⟨ς,G,_,E,hς,hG,h,λx v G1 H1 rx hG1 f1 h1=>?_,lx⟩;obtain⟨b,h2,h3⟩:=jdK rx hG1 h1;exact⟨b,h2,lv b G1 H1 hG1 f1 h3⟩
theorem jk9 {o:CmpOp}(ho:CmU X o)(ha:PE X a (lE X ta))(hb:PE X b (lE X tb))(hm:YdD o b=false) :
  PT X (.Compare a [o] [b] pos) (lT X λς G Q E=>ta ς G (λx G1=>tb ς G1 (λy G2=>cmpU o x y G2 λc=>truU (.bl c) G2 λc=>Q c G2) E) E):=by
 obtain⟨r,h1,h2⟩:=ho;refine(jjF h1 ha hb hm).imp λσ H Q0 h=>?_;obtain⟨ς,G,Q,E,hς,hG,h,lv,lx⟩:=h;refine⟨ς,G,_,E,hς,hG,h,λx v G1 H1 rx hG1 f1 h1=>?_,lx⟩;refine⟨ς,G1,_,E,hς.ts (f1.ts hG),hG1,h1,λy v' G2 H2 ry hG2 f2 h3=>?_,lx.fr f1⟩;exact h2 x y v v' G2 H2 _ _ (rx.ts (f2.ts hG1)) ry hG2 h3 λt q=>⟨t,rfl,lv t G2 H2 hG2 (f1.trans f2) q⟩
theorem jjk {o o':CmpOp}(ho:CmU X o)(ho':CmU X o')(ha:PE X a (lE X ta))(hb:PE X b (lE X tb))(hc:PE X c (lE X tc))(hm:YfC [o,o'] [b,c]=false) :
  PT X (.Compare a [o,o'] [b,c] pos) (lT X λς G Q E=>ta ς G (λx G1=>tb ς G1 (λy G2=>cmpU o x y G2 λt=>if t=true then tc ς G2 (λz G3=>cmpU o' y z G3 λt'=>truU (.bl t') G3 λc=>Q c G3) E else truU (.bl false) G2 λc=>Q c G2) E) E):=by
 obtain⟨r,h1,h2⟩:=ho;obtain⟨r',h1',h2'⟩:=ho';refine(jhV h1 h1' ha hb hc hm).imp λσ H Q0 h=>?_;obtain⟨ς,G,Q,E,hς,hG,h,lv,lx⟩:=h;refine⟨ς,G,_,E,hς,hG,h,λx v G1 H1 rx hG1 f1 h1=>?_,lx⟩;refine⟨ς,G1,_,E,hς.ts (f1.ts hG),hG1,h1,λy v' G2 H2 ry hG2 f2 h3=>?_,lx.fr f1⟩;refine h2 x y v v' G2 H2 _ _ (rx.ts (f2.ts hG1)) ry hG2 h3 λt q=>⟨t,rfl,?_⟩;cases t with
 |false=>
  rw[if_neg Yak]at q ⊢;exact⟨false,rfl,lv false G2 H2 hG2 (f1.trans f2) q⟩
 |true=>
  rw[if_pos rfl]at q ⊢;refine⟨ς,G2,_,E,(hς.ts (f1.ts hG)).ts (f2.ts hG1),hG2,q,λz v3 G3 H3 rz hG3 f3 h4=>?_,lx.fr (f1.trans f2)⟩;exact h2' y z v' v3 G3 H3 _ _ (ry.ts (f3.ts hG2)) rz hG3 h4 λc q=>⟨c,rfl,lv c G3 H3 hG3 ((f1.trans f2).trans f3) q⟩
section
variable {rest:List Expr}
theorem jjX {sa sb:TE}(ha:PE X a sa)(hb:PE X (.BoolOp .And (b::rest) pos) sb):PE X (.BoolOp .And (a::b::rest) pos) (λσ H Q=>sa σ H λx H1=>∃k,TruV X.K x H1 k/\if k=true then sb σ H1 Q else Q x H1):=by
 intro pins s σ H Q I h;refine PyProof.Rows.BoolOp_and (thn (ha pins s σ H _ I h) λv s1 ⟨x,H1,I1,r1,k,hk,q1⟩=>?_);refine thn (jfe pins s1 σ H1 x v (λc H2=>c=k/\H2=H1) I1 r1 ⟨k,hk,rfl,rfl⟩) λc s2 ⟨H2,I2,e1,e2⟩=>?_;subst e1 e2;cases c with
 |true=>exact hb pins s2 σ H2 Q I2 q1
 |false=>exact⟨x,H2,I2,r1,q1⟩
theorem jlU {sa sb:TE}(ha:PE X a sa)(hb:PE X (.BoolOp .Or (b::rest) pos) sb):PE X (.BoolOp .Or (a::b::rest) pos) (λσ H Q=>sa σ H λx H1=>∃k,TruV X.K x H1 k/\if k=true then Q x H1 else sb σ H1 Q):=by
 intro pins s σ H Q I h;refine PyProof.Rows.BoolOp_or (thn (ha pins s σ H _ I h) λv s1 ⟨x,H1,I1,r1,k,hk,q1⟩=>?_);refine thn (jfe pins s1 σ H1 x v (λc H2=>c=k/\H2=H1) I1 r1 ⟨k,hk,rfl,rfl⟩) λc s2 ⟨H2,I2,e1,e2⟩=>?_;subst e1 e2;cases c with
 |true=>exact⟨x,H2,I2,r1,q1⟩
 |false=>exact hb pins s2 σ H2 Q I2 q1
theorem jnV (ha:PE X a (lE X ta))(hb:PE X (.BoolOp .And (b::rest) pos) (lE X tb)):PE X (.BoolOp .And (a::b::rest) pos) (lE X λς G Q E=>ta ς G (λx G1=>truU x G1 λc=>if c=true then tb ς G1 Q E else Q x G1) E):=by
 refine(jjX ha hb).imp λσ H Q0 h=>?_;obtain⟨ς,G,Q,E,hς,hG,h,lv,lx⟩:=h;refine⟨ς,G,_,E,hς,hG,h,λx v G1 H1 rx hG1 f1 h1=>?_,lx⟩;obtain⟨k,h2,h3⟩:=jdK rx hG1 h1;refine⟨k,h2,?_⟩;cases k with
 |true=>rw[if_pos rfl]at h3 ⊢;exact⟨ς,G1,Q,E,hς.ts (f1.ts hG),hG1,h3,lv.fr f1,lx.fr f1⟩
 |false=>rw[if_neg Yak]at h3 ⊢;exact(lv.fr f1).here rx hG1 h3
theorem u_or (ha:PE X a (lE X ta))(hb:PE X (.BoolOp .Or (b::rest) pos) (lE X tb)):PE X (.BoolOp .Or (a::b::rest) pos) (lE X λς G Q E=>ta ς G (λx G1=>truU x G1 λc=>if c=true then Q x G1 else tb ς G1 Q E) E):=by
 refine(jlU ha hb).imp λσ H Q0 h=>?_;obtain⟨ς,G,Q,E,hς,hG,h,lv,lx⟩:=h;refine⟨ς,G,_,E,hς,hG,h,λx v G1 H1 rx hG1 f1 h1=>?_,lx⟩;obtain⟨k,h2,h3⟩:=jdK rx hG1 h1;refine⟨k,h2,?_⟩;cases k with
 |true=>rw[if_pos rfl]at h3 ⊢;exact(lv.fr f1).here rx hG1 h3
 |false=>rw[if_neg Yak]at h3 ⊢;exact⟨ς,G1,Q,E,hς.ts (f1.ts hG),hG1,h3,lv.fr f1,lx.fr f1⟩
end
theorem jnK (ha:PE X a (lE X ta)):PE X (.UnaryOp .Not a pos) (lE X λς G Q E=>ta ς G (λx G1=>truU x G1 λb=>Q (.bl (!b)) G1) E):=by
 intro pins s σ H Q0 I h;obtain⟨ς,G,Q,E,hς,hG,h,lv,lx⟩:=h;refine PyProof.Rows.UnaryOp_ (thn (ha pins s σ H (λv H1=>∃k,TruV X.K v H1 k/\Q0 (.bl (!k)) H1) I ⟨ς,G,_,E,hς,hG,h,λx v G1 H1 rx hG1 f1 h1=>?_,lx⟩) λv s1 ⟨x,H1,I1,r1,k,hk,q1⟩=>?_)
 ·obtain⟨k,h2,h3⟩:=jdK rx hG1 h1;exact⟨k,h2,(lv.fr f1).bl hG1 h3⟩
 ·refine PyProof.Rows.not_of (thn (jfe pins s1 σ H1 x v (λc H2=>c=k/\H2=H1) I1 r1 ⟨k,hk,rfl,rfl⟩) λc s2 ⟨H2,I2,e1,e2⟩=>?_);subst e1 e2;exact⟨.bl (!c),H2,I2,rfl,q1⟩
theorem jk6 (hc:PT X c (lT X tA)){tC:UT}(ha:PT X a (lT X tB))(hb:PT X b (lT X tC)):PT X (.IfExp c a b pos) (lT X λς G Q E=>tA ς G (λt G1=>if t=true then tB ς G1 Q E else tC ς G1 Q E) E):=by
 intro pins s σ H Q0 I h;obtain⟨ς,G,Q,E,hς,hG,h,lv,lx⟩:=h;show wpAny _ _ (do if <- isTrue c X.env (eval c X.env) then isTrue a X.env (eval a X.env) else isTrue b X.env (eval b X.env)) _ _ s
 refine Yaf (thn (hc pins s σ H (λt H1=>∃G1,HR X.K H1 G1/\Fr H G H1 G1/\if t=true then tB ς G1 Q E else tC ς G1 Q E) I ⟨ς,G,_,E,hς,hG,h,λt G1 H1 hG1 f1 h1=>⟨G1,hG1,f1,h1⟩,lx⟩) λt s1 ⟨H1,I1,G1,hG1,f1,h1⟩=>?_)
 cases t with
 |true=>exact ha pins s1 σ H1 Q0 I1 ⟨ς,G1,Q,E,hς.ts (f1.ts hG),hG1,h1,λb G2 H2 hG2 f2 h2=>lv b G2 H2 hG2 (f1.trans f2) h2,lx.fr f1⟩
 |false=>exact hb pins s1 σ H1 Q0 I1 ⟨ς,G1,Q,E,hς.ts (f1.ts hG),hG1,h1,λb G2 H2 hG2 f2 h2=>lv b G2 H2 hG2 (f1.trans f2) h2,lx.fr f1⟩
theorem jk4 (ha:PT X a (lT X tA)):PT X (.UnaryOp .Not a pos) (lT X λς G Q E=>tA ς G (λb G1=>Q (!b) G1) E):=by
 refine(jlD ha).imp λσ H Q0 h=>?_;obtain⟨ς,G,Q,E,hς,hG,h,lv,lx⟩:=h;exact⟨ς,G,_,E,hς,hG,h,λb G1 H1 hG1 f1 h1=>lv (!b) G1 H1 hG1 f1 h1,lx⟩
theorem jlc {rest:List Expr}(ha:PT X a (lT X tA))(hb:PW X (.BoolOp .And (b::rest) pos) (lT X tB)):PW X (.BoolOp .And (a::b::rest) pos) (lT X λς G Q E=>tA ς G (λc G1=>if c=true then tB ς G1 Q E else Q false G1) E):=by
 refine(pw_and ha hb).imp λσ H Q0 h=>?_;obtain⟨ς,G,Q,E,hς,hG,h,lv,lx⟩:=h;refine⟨ς,G,_,E,hς,hG,h,λc G1 H1 hG1 f1 h1=>?_,lx⟩;cases c with
 |false=>rw[if_neg Yak]at h1 ⊢;exact lv false G1 H1 hG1 f1 h1
 |true=>rw[if_pos rfl]at h1 ⊢;exact⟨ς,G1,Q,E,hς.ts (f1.ts hG),hG1,h1,λb G2 H2 hG2 f2 h2=>lv b G2 H2 hG2 (f1.trans f2) h2,lx.fr f1⟩
theorem jnJ {rest:List Expr}(ha:PT X a (lT X tA))(hb:PW X (.BoolOp .Or (b::rest) pos) (lT X tB)):PW X (.BoolOp .Or (a::b::rest) pos) (lT X λς G Q E=>tA ς G (λc G1=>if c=true then Q true G1 else tB ς G1 Q E) E):=by
 refine(pw_or ha hb).imp λσ H Q0 h=>?_;obtain⟨ς,G,Q,E,hς,hG,h,lv,lx⟩:=h;refine⟨ς,G,_,E,hς,hG,h,λc G1 H1 hG1 f1 h1=>?_,lx⟩;cases c with
 |true=>rw[if_pos rfl]at h1 ⊢;exact lv true G1 H1 hG1 f1 h1
 |false=>rw[if_neg Yak]at h1 ⊢;exact⟨ς,G1,Q,E,hς.ts (f1.ts hG),hG1,h1,λb G2 H2 hG2 f2 h2=>lv b G2 H2 hG2 (f1.trans f2) h2,lx.fr f1⟩
theorem jnQ (hc:PT X c (lT X tA))(ha:PE X a (lE X ta))(hb:PE X b (lE X tb)):PE X (.IfExp c a b pos) (lE X λς G Q E=>tA ς G (λt G1=>if t=true then ta ς G1 Q E else tb ς G1 Q E) E):=by
 refine(jh4 hc ha hb).imp λσ H Q0 h=>?_;obtain⟨ς,G,Q,E,hς,hG,h,lv,lx⟩:=h;refine⟨ς,G,_,E,hς,hG,h,λc G1 H1 hG1 f1 h1=>?_,lx⟩;cases c with
 |true=>rw[if_pos rfl]at h1 ⊢;exact⟨ς,G1,Q,E,hς.ts (f1.ts hG),hG1,h1,lv.fr f1,lx.fr f1⟩
 |false=>rw[if_neg Yak]at h1 ⊢;exact⟨ς,G1,Q,E,hς.ts (f1.ts hG),hG1,h1,lv.fr f1,lx.fr f1⟩
end
end Z

namespace L2
open PySem PySem.Spec PyProof.Rows
section
variable {X:Cx}{e st:Expr}{te tst:TE}{pos p2:Pos}
def jnW (K:Yab)(te tst:TE):TE:=λσ H Q=>te σ H λx H1=>tst σ H1 λy H2=>(∃a xs,x=.ref a/\SqL K H2 a xs/\
 ((y=.int 1/\∀p,H2 p=none->Q (.ref p) (upd H2 p (.lst xs)))\/(y=.int (-1)/\∀p,H2 p=none->Q (.ref p) (upd H2 p (.lst xs.reverse)))))\/
 ∃a xs,x=.ref a/\SqT K H2 a xs/\y=.int (-1)/\∀p,H2 p=none->Q (.ref p) (upd H2 p (.tup xs.reverse))
theorem jjS (he:PE X e te)(hs:PE X st tst):PE X (.Subscript e (.Slice none none (some st) p2) pos) (jnW X.K te tst):=by
 intro pins s σ H Q I h;refine Subscript_ (thn (he pins s σ H _ I h) λv s1 ⟨x,H1,I1,r1,q1⟩=>?_);refine wpAny_Slice ?_;rw[Ye2,evalPart_some];refine Yap (Yap ?_);refine thn (hs pins s1 σ H1 _ I1 q1) λu s3 ⟨y,H3,I3,r3,q3⟩=>?_;have I4:Inv X pins σ H3 { s3 with heap:=s3.heap.push { cls:=.type "slice",data:=.fields #[.none,.none,u] } }:=I3.kept (t':=s3.toks) λb ob q=>Yad _ q
 rcases q3 with⟨a,xs,rfl,hx,q3⟩|⟨a,xs,rfl,hx,rfl,q⟩
 ·cases r1;obtain⟨its,r,ht,hz⟩:=I4.list hx;have hlen:=r.length;show wpAny (model X.prog X.w) X.A (YdA e (.Slice none none (some st) p2) (.ref a) (.ref s3.heap.objs.size)) (EP X pins σ Q) X.xe { s3 with heap:=s3.heap.push { cls:=.type "slice",data:=.fields #[.none,.none,u] } }
  refine tail_any (ops:=[.ref a,.ref s3.heap.objs.size]) ht.isList.typeIs slot_list_getitem.lookup ?_ (by with_unfolding_all rfl)
  rcases q3 with⟨rfl,q⟩|⟨rfl,q⟩
  ·obtain⟨t,rfl⟩:=r3;refine YcO ht.isList (Heap.IsSliceOf.new ..) .none .none (.int 1 t) (by decide) ?_ (by rw[Yai]<;>omega)
   rw[jiA];refine⟨.ref _,_,I4.laid (t':=s3.toks) (o:=.lst xs) (λb ob q=>Yad _ q) (Yag _) ?_,rfl,q _ (I4.hok.fresh (Yag _))⟩;exact⟨hz,_,0,r,Yaq _ rfl⟩
  ·obtain⟨t,rfl⟩:=r3;refine YcO ht.isList (Heap.IsSliceOf.new ..) .none .none (.int (-1) t) (by decide) ?_ (by rw[Yai]<;>omega)
   rw[jhQ];refine⟨.ref _,_,I4.laid (t':=s3.toks) (o:=.lst xs.reverse) (λb ob q=>Yad _ q) (Yag _) ?_,rfl,q _ (I4.hok.fresh (Yag _))⟩;exact⟨by rw[Yc6];exact hz,_,0,r.rev,Yaq _ rfl⟩
 ·cases r1;obtain⟨t,rfl⟩:=r3;obtain⟨its,r,ht,hz⟩:=I4.tuple hx;have hlen:=r.length;show wpAny (model X.prog X.w) X.A (YdA e (.Slice none none (some st) p2) (.ref a) (.ref s3.heap.objs.size)) (EP X pins σ Q) X.xe { s3 with heap:=s3.heap.push { cls:=.type "slice",data:=.fields #[.none,.none,.int (-1) t] } }
  refine tail_any (ops:=[.ref a,.ref s3.heap.objs.size]) ht.typeIs YaW.lookup ?_ (by with_unfolding_all rfl)
  refine HT.getItem_tuple_rev ht (Heap.IsSliceOf.new ..) ?_ (by rw[<- hlen];exact hz)
  refine⟨.ref _,_,I4.laid (t':=s3.toks) (o:=.tup xs.reverse) (λb ob q=>Yad _ q) (Yag _) ?_,rfl,q _ (I4.hok.fresh (Yag _))⟩;exact⟨by rw[Yc6];exact hz,_,r.rev,TupD.new _ _⟩
end
end L2
namespace Z
open PySem L2
section
variable {X:Cx}{pos:Pos}{a b e:Expr}{es:List Expr}{ta tb te:UE}{ts:UA}
theorem jfW:PA X [] (lA X λ_ G Q _=>Q [] G):=by
 refine jlZ.imp λσ H Q0 h=>?_;obtain⟨ς,G,Q,E,hς,hG,h,lv,lx⟩:=h;exact lv [] [] G H rfl hG (Fr.refl _ _) h
theorem jdo (ha:PE X e (lE X te))(hr:PA X es (lA X ts))(hs:YaG (e::es) X.env=(false,eval e X.env)::YaG es X.env):PA X (e::es) (lA X λς G Q E=>te ς G (λx G1=>ts ς G1 (λxs G2=>Q (x::xs) G2) E) E):=by
 refine(jjY ha hr hs).imp λσ H Q0 h=>?_;obtain⟨ς,G,Q,E,hς,hG,h,lv,lx⟩:=h;refine⟨ς,G,_,E,hς,hG,h,λx v G1 H1 rx hG1 f1 h1=>?_,lx⟩;refine⟨ς,G1,_,E,hς.ts (f1.ts hG),hG1,h1,λxs vs G2 H2 rxs hG2 f2 h2=>?_,lx.fr f1⟩;exact lv (x::xs) (v::vs) G2 H2 ⟨v,vs,rfl,rx.ts (f2.ts hG1),rxs⟩ hG2 (f1.trans f2) h2
theorem jnE {k}(h:PA X es (lA X ts)):PE X (.Tuple es k pos) (lE X λς G Q E=>ts ς G (λus G1=>us.length<=Yah/\Q (.tup us) G1) E):=
 (jlS h).imp λσ H Q0 h=>lE.many h λus vs G H' Q r hG q lv=>⟨by rw[<- r.length];exact q.1,λp hp=>lv.tup hp r hG q.2⟩
theorem jnP (h:PA X es (lA X ts)):PE X (.List es pos) (lE X λς G Q E=>ts ς G (λus G1=>us.length<=Yah/\newO G1 (.lst us) Q) E):=
 (jlW h).imp λσ H Q0 h=>lE.many h λus vs G H' Q r hG q lv=>⟨by rw[<- r.length];exact q.1,λp hp=>lv.lst hp r hG q.2⟩
def rDix:R2:=λx y H Q=>∃a v,x=.ref a/\DGet H a y (some v)/\Q v H
theorem jkx (hu:X.A.units+1<cLine):IxR X rDix:=by
 intro value slice pins s σ H x y v u Q I rx ry h hs;obtain⟨a,w,rfl,g,q⟩:=h;cases rx;exact PyProof.Rows.tail_any (je4 I g) PySem.F.slot_dict_getitem.lookup (jhw hu I g ry λw' s3 I3 rw'=>⟨w,H,I3,rw',q⟩) hs
theorem jiW {H:Hp}{G:Gp}{y:U}{v':V}{Q:K1}{Q0:VK}{a:Addr}{xs:List U}{vs:List V}(h:match y with|.int i=>(match atI xs i with|some u=>Q u G|none=>False)|_=>False)
  (ry:RU X.K H y v') (hG:HR X.K H G) (lv:LV X H G Q Q0) (sq:SqL X.K H a vs) (rs:RUs X.K H xs vs):rIx X.K (.ref a) v' H Q0:=by
 cases y with
 |int i=>
  cases ry;dsimp only at h;split at h
  ·rename_i u e;obtain⟨w,e2,r⟩:=rs.atI e;exact .inl ⟨_,vs,_,w,rfl,rfl,sq,e2,lv.here r hG h⟩
  ·exact h.elim
 |_=>exact h.elim
theorem jmG {H:Hp}{G:Gp}{x y:U}{v v':V}{Q:K1}{Q0:VK}(rx:RU X.K H x v)(ry:RU X.K H y v')(hG:HR X.K H G)(h:ixU x y G Q)(lv:LV X H G Q Q0):rIx X.K v v' H Q0\/rDix v v' H Q0:=by
 unfold ixU at h;split at h
 ·obtain⟨a,vs,rfl,e,rs⟩:=rx;cases ry;split at h
  ·rename_i u e1;obtain⟨w,e2,r⟩:=rs.atI e1;exact .inl (.inr (.inl ⟨a,vs,_,w,rfl,rfl,.of e,e2,lv.here r hG h⟩))
  ·exact h.elim
 ·cases rx;cases ry;obtain⟨h1,h⟩:=h;split at h
  ·rename_i c e1;exact .inl (.inr (.inr ⟨_,_,c,rfl,rfl,h1,e1,lv.str hG h⟩))
  ·exact h.elim
 ·cases rx;split at h
  ·rename_i g;obtain⟨vs,e,rs⟩:=hG.lst g;exact .inl (jiW h ry hG lv (.of e) rs)
  ·rename_i g;obtain⟨ob,vs,e,rs⟩:=hG _ _ g;exact .inl (jiW h ry hG lv (.inl (.inr ⟨ob,e⟩)) rs)
  ·rename_i kvs g;obtain⟨l,e,rs⟩:=hG _ _ g;split at h
   ·rename_i k ek;have:=je0 ry ek;subst this;split at h
    ·rename_i u eu;have:=jcP k rs;rw[eu]at this;obtain⟨w,e2,r⟩:=this;exact .inr ⟨_,w,rfl,by rw[<- e2];exact DGet.k e,lv.here r hG h⟩
    ·exact h.elim
   ·exact h.elim
  ·rename_i kvs g;obtain⟨l,e,rs⟩:=hG _ _ g;split at h
   ·rename_i ys;obtain⟨b,bs,rfl,eb,rb⟩:=ry;split at h
    ·rename_i k ek;have:=jfC rb ek;subst this;split at h
     ·rename_i u eu;have:=jcP k rs;rw[eu]at this;obtain⟨w,e2,r⟩:=this;exact .inr ⟨_,w,rfl,by rw[<- e2];exact DGet.t e eb,lv.here r hG h⟩
     ·exact h.elim
    ·exact h.elim
   ·exact h.elim
  ·rename_i o kvs g;obtain⟨l,e,rs⟩:=hG _ _ g;split at h
   ·rename_i k ek;have:=je0 ry ek;subst this;split at h
    ·rename_i u eu;have:=jcP k rs;rw[eu]at this;obtain⟨w,e2,r⟩:=this;exact .inr ⟨_,w,rfl,by rw[<- e2];exact .inl ⟨l,k,.inr ⟨o,e⟩,rfl,rfl⟩,lv.here r hG h⟩
    ·exact h.elim
   ·exact h.elim
  ·exact h.elim
 ·exact h.elim
theorem u_ix (hu:X.A.units+1<cLine)(ha:PE X a (lE X ta))(hb:PE X b (lE X tb))(hs:jfa b):PE X (.Subscript a b pos) (lE X λς G Q E=>ta ς G (λx G1=>tb ς G1 (λy G2=>ixU x y G2 Q) E) E):=
 (jos ((jmF (X:=X)).or (jkx hu)) ha hb hs).imp λσ H Q0 h=>lE.two h λx y v v' G H' Q rx ry hG q lv=>jmG rx ry hG q lv
theorem u_no:PO X none (lO X λ_ G Q _=>Q none G):=jjL.imp λσ H Q0 h=>by
 obtain⟨ς,G,Q,E,hς,hG,h,lv,lx⟩:=h;exact lv none G H hG (Fr.refl _ _) h
theorem u_so (ha:PE X e (lE X te)):PO X (some e) (lO X λς G Q E=>te ς G (λx G1=>match x with|.int i=>Q (some i) G1|_=>False) E):=(jjK ha).imp λσ H Q0 h=>by
 obtain⟨ς,G,Q,E,hς,hG,h,lv,lx⟩:=h;refine⟨ς,G,_,E,hς,hG,h,λx v G1 H1 rx hG1 f1 h1=>?_,lx⟩;dsimp only at h1;split at h1
 ·cases rx;exact⟨_,rfl,lv _ G1 H1 hG1 f1 h1⟩
 ·exact h1.elim
theorem u_sl {lo hi:Option Expr}{p2:Pos}{tl th:Sg->Gp->(Option Int->Gp->Prop)->KX->Prop}(ha:PE X e (lE X te))(hl:PO X lo (lO X tl))(hh:PO X hi (lO X th)) :
  PE X (.Subscript e (.Slice lo hi none p2) pos) (lE X λς G Q E=>te ς G (λx G1=>tl ς G1 (λl G2=>th ς G2 (λh G3=>slU x l h G3 Q) E) E) E):=by
 refine(jh3 (SlR.or (jjw (X:=X)) (SlR.or jjx jlo)) ha hl hh).imp λσ H Q0 h=>?_;obtain⟨ς,G,Q,E,hς,hG,h,lv,lx⟩:=h;refine⟨ς,G,_,E,hς,hG,h,λx v G1 H1 rx hG1 f1 h1=>?_,lx⟩;refine⟨ς,G1,_,E,hς.ts (f1.ts hG),hG1,h1,λl G2 H2 hG2 f2 h2=>?_,lx.fr f1⟩;refine⟨ς,G2,_,E,(hς.ts (f1.ts hG)).ts (f2.ts hG1),hG2,h2,λu G3 H3 hG3 f3 h3=>?_,lx.fr (f1.trans f2)⟩;have lv3:=lv.fr ((f1.trans f2).trans f3);have rx3:=rx.ts ((f2.ts hG1).trans (f3.ts hG2));unfold slU at h3;split at h3
 ·obtain⟨a,vs,rfl,ea,rs⟩:=rx3;by_cases z:HT.sIx vs.length 0 l=0/\HT.sIx vs.length vs.length u=vs.length
  ·refine .inl (.inr ⟨a,vs,rfl,.of ea,z,?_⟩);refine lv3.here (w:=.tup _) ⟨a,vs,rfl,ea,?_⟩ hG3 h3;have e2:cutV vs l u=vs:=by unfold cutV;rw[z.1,z.2];simp
   have:=rs.cut l u;rw[e2]at this;exact this
  ·exact .inl (.inl ⟨a,vs,rfl,.of ea,z,λp hp=>lv3.tup hp (rs.cut l u) hG3 h3⟩)
 ·cases rx3;exact .inr (.inr ⟨_,rfl,h3.1,lv3.str hG3 h3.2⟩)
 ·cases rx3;split at h3
  ·rename_i us eu;obtain⟨vs,sq,rs⟩:=hG3.ls eu;exact .inr (.inl ⟨_,vs,rfl,sq,λp hp=>lv3.lst hp (rs.cut l u) hG3 h3⟩)
  ·exact h3.elim
 ·exact h3.elim
theorem jnI {st:Expr}{p2:Pos}(ha:PE X a (lE X ta))(hb:PE X st (lE X tb)):PE X (.Subscript a (.Slice none none (some st) p2) pos) (lE X λς G Q E=>ta ς G (λx G1=>tb ς G1 (λy G2=>revU x y G2 Q) E) E):=by
 refine(jjS ha hb).imp λσ H Q0 h=>lE.two h λx y v v' G H' Q rx ry hG q lv=>?_;unfold revU at q;split at q
 ·obtain⟨a,vs,rfl,ea,rs⟩:=rx;cases ry;obtain⟨rfl,q⟩:=q;exact .inr ⟨a,vs,rfl,.of ea,rfl,λp hp=>lv.tup hp rs.reverse hG q⟩
 ·cases rx;cases ry;split at q
  ·rename_i us eu;obtain⟨vs,sq,rs⟩:=hG.ls eu;obtain⟨hi,q⟩:=q;rcases hi with rfl|rfl
   ·exact .inl ⟨_,vs,rfl,sq,.inl ⟨rfl,λp hp=>lv.lst hp rs hG q⟩⟩
   ·exact .inl ⟨_,vs,rfl,sq,.inr ⟨rfl,λp hp=>lv.lst hp rs.reverse hG q⟩⟩
  ·exact q.elim
 ·exact q.elim
end
end Z

namespace L2
open PySem PySem.Spec PyProof.Rows
section
variable {X:Cx}
end
end L2
namespace Z
open PySem L2
noncomputable def bltN:Blt->Str
 |.len => "len" |.repr => "repr" |.min => "min" |.max => "max" |.sum => "sum" |.all => "all" |.any => "any" |.sorted => "sorted" |.int => "int" |.str => "str" |.isi => "isinstance"
noncomputable def bltV:Blt->Value
 |.len=>.builtin "len" |.repr=>.builtin "repr" |.min=>.builtin "min" |.max=>.builtin "max" |.sum=>.builtin "sum" |.all=>.builtin "all" |.any=>.builtin "any" |.sorted=>.builtin "sorted" |.int=>.type "int" |.str=>.type "str" |.isi=>.builtin "isinstance"
section
variable {X:Cx}
theorem RUs.one {K:Yab}{H:Hp}{u:U}{vs:List V}(r:RUs K H [u] vs):∃v,vs=[v]/\RU K H u v:=by
 obtain⟨v,vr,rfl,r1,rs⟩:=r;cases rs;exact⟨v,rfl,r1⟩
theorem RUs.two {K:Yab}{H:Hp}{u w:U}{vs:List V}(r:RUs K H [u,w] vs):∃v v',vs=[v,v']/\RU K H u v/\RU K H w v':=by
 obtain⟨v,vr,rfl,r1,rs⟩:=r;obtain⟨v',rfl,r2⟩:=rs.one;exact⟨v,v',rfl,r1,r2⟩
theorem jks (K:Yab):∀t∈["NoneType", "bool", "int", "str", "list", "tuple", "dict"],∀c∈["bool", "int", "str", "list", "tuple", "dict"],YcQ K (.type t) (.type c)=some (t==c||(t == "bool" && c == "int")):=by
 simp only[List.forall_mem_cons,Yav,false_implies,implies_true,and_true];refine⟨?_,?_,?_,?_,?_,?_,?_⟩<;>refine⟨?_,?_,?_,?_,?_,?_⟩<;>rfl
theorem jjm {x:U}{G:Gp}{n:String}(h:tyN x G=some n):n∈["NoneType", "bool", "int", "str", "list", "tuple", "dict"]:=by
 unfold tyN at h;split at h<;>first|(cases h;decide)|(split at h<;>first|(cases h;decide)|cases h)|cases h
theorem jkz {H:Hp}{G:Gp}{x:U}{v:V}{t:String}{b:Bool}(r:RU X.K H x v)(hG:HR X.K H G)(h:isiU x G t=some b):∃tv,TyOf X.K H v tv/\YcQ X.K tv (.type t)=some b:=by
 unfold isiU at h;split at h
 ·rename_i n en;split at h
  ·rename_i ht;cases h;refine⟨.type n,?_,jks X.K n (jjm en) t ht⟩;unfold tyN at en;split at en
   ·cases en;cases r;exact .non
   ·cases en;cases r;exact .bl _
   ·cases en;cases r;exact .int _
   ·cases en;cases r;exact .str _
   ·cases en;obtain⟨a,ws,rfl,e,_⟩:=r;exact .tup e
   ·cases r;split at en
    ·rename_i g;cases en;obtain⟨ws,e,_⟩:=hG.lst g;exact .lst e
    ·rename_i g;cases en;obtain⟨ws,e,_⟩:=hG _ _ g;exact .dK e
    ·rename_i g;cases en;obtain⟨ws,e,_⟩:=hG _ _ g;exact .dT e
    ·cases en
   ·cases en
  ·cases h
 ·cases h
def BlU (X:Cx)(b:Blt):Prop:=∃r,ja5 X (bltV b) r/\∀us vs G H Q Q0,RUs X.K H us vs->HR X.K H G->bltU b us G Q->LV X H G Q Q0->r vs H Q0
theorem jm0 {k:Nat}(hr:Room k X.A)(hc:X.calm=true)(b:Blt):BlU X b:=by
 cases b with
 |len=>
  refine⟨_,ja5.or (jiy (X:=X)) jhA,λus vs G H Q Q0 r hG h lv=>?_⟩
  change lenU us G Q at h
  unfold lenU at h;split at h<;>first|exact h.elim|skip
  ·obtain⟨v,rfl,r1⟩:=r.one;obtain⟨a,ws,rfl,e,rs⟩:=r1;exact .inl ⟨_,_,rfl,.inr ⟨ws,.of e,rfl⟩,by rw[<- rs.length];exact lv.int hG h⟩
  ·obtain⟨v,rfl,r1⟩:=r.one;cases r1;exact .inl ⟨_,_,rfl,⟨h.1,rfl⟩,lv.int hG h.2⟩
  ·obtain⟨v,rfl,r1⟩:=r.one;cases r1;split at h
   ·rename_i g;obtain⟨ws,e,rs⟩:=hG.lst g;exact .inl ⟨_,_,rfl,.inl ⟨ws,.of e,rfl⟩,by rw[<- rs.length];exact lv.int hG h⟩
   ·rename_i g;obtain⟨ob,ws,e,rs⟩:=hG _ _ g;exact .inl ⟨_,_,rfl,.inl ⟨ws,.inl (.inr ⟨ob,e⟩),rfl⟩,by rw[<- rs.length];exact lv.int hG h⟩
   ·rename_i kvs g;obtain⟨l,e,rs⟩:=hG _ _ g;refine .inr ⟨_,l,rfl,e,?_⟩;have:∀{kvs:List (Key×U)} {l:List (Key×V)},RKs X.K H kvs l->kvs.length=l.length:=by
     intro kvs
     induction kvs with
     |nil=>intro l r;cases r;rfl
     |cons p q ih=>intro l r;obtain⟨v,l',rfl,_,rs⟩:=r;simp[ih rs]
    rw[<- this rs];exact lv.int hG h
   ·exact h.elim
 |repr=>exact⟨λ_ _ _=>False,λ_ _ _ _ _ _ _ _ _ h=>h.elim,λ_ _ _ _ _ _ _ _ h _=>h.elim⟩
 |min=>
  refine⟨_,jhz hc,λus vs G H Q Q0 r hG h lv=>?_⟩
  change minU us G Q at h
  unfold minU at h;split at h<;>first|exact h.elim|skip
  obtain⟨v,v',rfl,r1,r2⟩:=r.two;cases r1;cases r2;exact⟨_,_,rfl,lv.int hG h⟩
 |max=>exact⟨λ_ _ _=>False,λ_ _ _ _ _ _ _ _ _ h=>h.elim,λ_ _ _ _ _ _ _ _ h _=>h.elim⟩
 |sum=>
  refine⟨_,jix hc,λus vs G H Q Q0 r hG h lv=>?_⟩
  change sumU us G Q at h
  unfold sumU at h;split at h<;>first|exact h.elim|skip
  obtain⟨v,rfl,r1⟩:=r.one;cases r1;split at h
  ·rename_i g;obtain⟨ws,e,rs⟩:=hG.lst g;split at h
   ·rename_i ns en;have:=rs.ints en;subst this;exact⟨_,ns,rfl,.of e,lv.int hG h⟩
   ·exact h.elim
  ·exact h.elim
 |any=>exact⟨λ_ _ _=>False,λ_ _ _ _ _ _ _ _ _ h=>h.elim,λ_ _ _ _ _ _ _ _ h _=>h.elim⟩
 |all=>exact⟨λ_ _ _=>False,λ_ _ _ _ _ _ _ _ _ h=>h.elim,λ_ _ _ _ _ _ _ _ h _=>h.elim⟩
 |sorted=>
  refine⟨_,jeE hc (by have:=hr.un;omega),λus vs G H Q Q0 r hG h lv=>?_⟩
  change jce us G Q at h
  unfold jce at h;split at h<;>first|exact h.elim|skip
  obtain⟨v,rfl,r1⟩:=r.one;cases r1;split at h<;>first|exact h.elim|skip
  rename_i us g;obtain⟨ws,e,rs⟩:=hG.lst g;obtain⟨ks,hnd,h64,hl,hk,q⟩:=h;refine⟨_,ws,ks,rfl,.inl (.of e),by rw[<- rs.length];exact hl,hnd,by rw[<- rs.length];exact h64,?_,λl π hn hp hs=>?_⟩
  ·rcases hk with⟨ns,rfl,rfl⟩|⟨as,rfl,hk⟩|⟨rfl,hk⟩
   ·refine .inl λi v k e1 e2=>?_;rw[Yan]at e2;cases en:ns[i]? with
    |none=>rw[en]at e2;cases e2
    |some n=>
     rw[en]at e2;cases e2;obtain⟨v',e3,r3⟩:=rs.get (i:=i) (u:=.int n) (by rw[Yan,en];rfl)
     rw[e1]at e3;cases e3;exact⟨n,r3,rfl⟩
   ·refine .inr (.inl λi v k e1 e2=>?_);have hi:i<as.length:=by
     have:=(List.getElem?_eq_some_iff.mp e1).1;rw[<- rs.length,Yac]at this;exact this
    obtain⟨v',e3,r3⟩:=rs.get (i:=i) (u:=.loc as[i]) (by rw[Yan,Yaa hi];rfl)
    rw[e1]at e3;cases e3;obtain⟨ws2,e4,r4⟩:=hG.lst (hk i _ k (Yaa hi) e2);rw[jdT r4]at e4;exact⟨as[i],r3,.inl (.of e4)⟩
   ·refine .inr (.inr λi v k e1 e2=>⟨?_,hk k (Yam e2)⟩);obtain⟨v',e3,r3⟩:=rs.get (i:=i) (u:=.tup (k.map .int)) (by rw[Yan,e2];rfl)
    rw[e1]at e3;cases e3;obtain⟨t,ws2,rfl,et,rt⟩:=r3;rw[jdT rt]at et;exact⟨t,rfl,.of et⟩
  ·rw[<- rs.length]at hp hs;refine lv.lst hn ?_ hG (q π hp hs);have:∀l:List Nat,(∀i∈l,i<us.length)->RUs X.K H (l.map λi=>us.getD i .non) (l.map λi=>ws.getD i .non):=λl=>by
    induction l with
    |nil=>intro _;rfl
    |cons i l ih=>
     intro hl';have hi:=hl' i (by simp)
     obtain⟨v',e3,r3⟩:=rs.get (Yaa hi);refine⟨_,_,rfl,?_,ih λj hj=>hl' j (Yaj _ hj)⟩;refine(?_:RU X.K H (us.getD i .non) (ws.getD i .non));rw[YaF,Yaa hi,YaF,e3];exact r3
   exact this π λi hi=>List.mem_range.mp (hp.mem_iff.mp hi)
 |int=>
  refine⟨_,jhB.or jd1,λus vs G H Q Q0 r hG h lv=>?_⟩
  change intU us G Q at h
  unfold intU at h;split at h<;>first|exact h.elim|skip
  ·obtain⟨v,rfl,r1⟩:=r.one;cases r1;exact .inl (.inl ⟨_,rfl,lv.int hG h⟩)
  ·obtain⟨v,rfl,r1⟩:=r.one;cases r1;exact .inl (.inr ⟨_,rfl,lv.int hG h⟩)
  ·obtain⟨v,rfl,r1⟩:=r.one;cases r1;obtain⟨n,h1,h2,h⟩:=h;exact .inr ⟨_,n,rfl,h1,h2,lv.int hG h⟩
 |str=>exact⟨λ_ _ _=>False,λ_ _ _ _ _ _ _ _ _ h=>h.elim,λ_ _ _ _ _ _ _ _ h _=>h.elim⟩
 |isi=>
  refine⟨_,je7,λus vs G H Q Q0 r hG h lv=>?_⟩
  change jeq us G Q at h
  unfold jeq at h;split at h<;>first|exact h.elim|skip
  rename_i t;obtain⟨v,v',rfl,r1,r2⟩:=r.two;cases r2;split at h
  ·rename_i b eb;obtain⟨tv,h1,h2⟩:=jkz r1 hG eb;exact⟨v,t,tv,b,rfl,h1,h2,lv.bl hG h⟩
  ·exact h.elim
theorem jiz (b:Blt):YbS (bltN b)=some (bltV b):=by
 cases b with
 |len=>exact PySem.boot_len
 |repr=>exact(by with_unfolding_all rfl)
 |min=>exact PyProof.Rows.boot_min
 |max=>exact PyProof.Rows.boot_max
 |sum=>exact PyProof.Rows.boot_sum
 |any=>exact PyProof.Rows.boot_any
 |all=>exact PyProof.Rows.boot_all
 |sorted=>exact PyProof.Rows.boot_sorted
 |int=>exact PyProof.Rows.boot_int
 |str=>exact PyProof.Rows.boot_str
 |isi=>exact PyProof.Rows.boot_isinstance
theorem jm2 (b:Blt):bltN b ≠ "__name__" /\ (bltN b==("__debug__" : Str))=false:=by cases b<;>decide
theorem jnT {b:Blt}{e:Expr}{es:List Expr}{ts:UA}{p pos:Pos}(hb:BlU X b)(hg:Gl X (bltN b))(hm:X.mg (bltN b)=none)(ha:PA X (e::es) (lA X ts))
  (he:YaG (e::es) X.env=(false,eval e X.env)::YaG es X.env) (hpl:(backTo pos (YaG es X.env)).any (·.1)=false) :
  PE X (.Call (.Name (bltN b) p) (e::es) [] pos) (lE X λς G Q E=>ts ς G (λus G1=>bltU b us G1 Q) E):=by
 obtain⟨r,h1,h2⟩:=hb;have fin:∀σ H Q0,lE X (λς G Q E=>ts ς G (λus G1=>bltU b us G1 Q) E) σ H Q0->tCB r (lA X ts) σ H Q0:=λσ H Q0 h=>lE.many h λus vs G H' Q rs hG q lv=>h2 us vs G H' Q Q0 rs hG q lv;have hv:=jiz b;obtain⟨n1,n2⟩:=jm2 b;cases b
 all_goals first
  |exact(jh7 h1 hg hm hv ha n1 n2 he hpl).imp fin
  |exact(jbN h1 hg hm hv ha n1 n2 he hpl).imp fin
end
noncomputable def mthN:Mth->Str
 |.append => "append" |.extend => "extend" |.insert => "insert" |.pop => "pop" |.reverse => "reverse" |.index => "index" |.join => "join" |.get => "get" |.split => "split" |.setd => "setdefault"
section
variable {X:Cx}
theorem RUs.mk {K:Yab}{H:Hp}{u:U}{v:V}{us:List U}{vs:List V}(r:RU K H u v)(rs:RUs K H us vs):RUs K H (u::us) (v::vs):=⟨v,vs,rfl,r,rs⟩
structure MtK (X:Cx)(m:Mth)(T id:String):Prop where
 pa:PlainAttrs T
 sl:Slot T (mthN m) id
 ty:typeOf (.builtin id)=pure (.type "method_descriptor")
def MtU (X:Cx)(m:Mth):Prop:=∀x G1 T id,mtU m x G1=some (T,id)->MtK X m T id/\(∀v H1,RU X.K H1 x v->HR X.K H1 G1->tyV X.K T v H1)/\
 ∃r,MtR X id r/\∀us v vs G H Q Q0,RU X.K H x v->RUs X.K H us vs->HR X.K H G->jaU m x us G Q->LV X H G Q Q0->r v vs H Q0
theorem jgp {a:Addr}{G:Gp}{us:List U}(g:G a=some (.lst us)):∀v H1,RU X.K H1 (.loc a) v->HR X.K H1 G->tyV X.K "list" v H1:=λv H1 r hG=>by
 cases r;obtain⟨vs,e,_⟩:=hG.lst g;exact .inl ⟨rfl,vs,.of e⟩
theorem jgZ:MtU X .append:=by
 intro x G1 T id h;dsimp only[mtU]at h;split at h<;>first|contradiction|skip
 split at h
 ·rename_i g;cases h;refine⟨⟨YcB,PySem.F.slot_list_append,PySem.F.type_list_append⟩,jgp g,_,jek,λus v vs G H Q Q0 rx rs hG h lv=>?_⟩;cases rx;dsimp only[jaU]at h;unfold je9 at h;split at h<;>first|exact h.elim|skip
  rename_i e2;cases e2;split at h
  ·rename_i g2;obtain⟨ws,e,r⟩:=hG.lst g2;obtain⟨y,rfl,ry⟩:=rs.one;refine⟨_,ws,y,rfl,rfl,e,by rw[<- r.length];exact h.1,?_⟩
   exact lv.wl g2 (r.append (RUs.mk (us:=[]) (vs:=[]) ry rfl)) hG (w:=.non) rfl h.2
  ·exact h.elim
 ·cases h
theorem jgY:MtU X .extend:=by
 intro x G1 T id h;dsimp only[mtU]at h;split at h<;>first|contradiction|skip
 split at h
 ·rename_i g;cases h;refine⟨⟨YcB,PySem.F.slot_list_extend,PySem.F.type_list_extend⟩,jgp g,_,jg0,λus v vs G H Q Q0 rx rs hG h lv=>?_⟩;cases rx;dsimp only[jaU]at h;unfold je2 at h;split at h<;>first|exact h.elim|skip
  rename_i e2;cases e2;split at h
  ·rename_i g2 g3;obtain⟨ws,e,r⟩:=hG.lst g2;obtain⟨zs,e',r'⟩:=hG.lst g3;obtain⟨y,rfl,ry⟩:=rs.one;cases ry;refine⟨_,_,ws,zs,rfl,rfl,e,e',by rw[<- r.length,<- r'.length];exact h.1,?_⟩
   exact lv.wl g2 (r.append r') hG (w:=.non) rfl h.2
  ·exact h.elim
 ·cases h
theorem jml:MtU X .pop:=by
 intro x G1 T id h;dsimp only[mtU]at h;split at h<;>first|contradiction|skip
 split at h
 ·rename_i g;cases h;refine⟨⟨YcB,PySem.F.slot_list_pop,PySem.F.type_list_pop⟩,jgp g,_,MtR.or (mt_pop (X:=X)) jil,λus v vs G H Q Q0 rx rs hG h lv=>?_⟩;cases rx;dsimp only[jaU]at h;unfold popU at h;split at h<;>first|exact h.elim|skip
  ·rename_i e2;cases e2;split at h
   ·rename_i g2;obtain⟨ws,e,r⟩:=hG.lst g2;cases rs;split at h
    ·rename_i u eu;obtain⟨y,ey,ry⟩:=r.get eu;rw[r.length]at ey;exact .inl ⟨_,ws,y,rfl,rfl,e,ey,lv.wl g2 r.dropLast hG ry h⟩
    ·exact h.elim
   ·exact h.elim
  ·rename_i e2;cases e2;split at h
   ·rename_i g2;obtain⟨ws,e,r⟩:=hG.lst g2;obtain⟨y,rfl,ry⟩:=rs.one;cases ry;obtain⟨h1,h2,h⟩:=h;split at h
    ·rename_i k ek;split at h
     ·rename_i u eu;obtain⟨y,ey,ry⟩:=r.get eu;exact .inr ⟨_,ws,_,k,y,rfl,rfl,e,h1,h2,by rw[<- r.length];exact ek,ey,lv.wl g2 (r.erase k) hG ry h⟩
     ·exact h.elim
    ·exact h.elim
   ·exact h.elim
 ·cases h
theorem RKs.put {κ:Type}[DecidableEq κ]{K:Yab}{H:Hp}{k:κ}{u:U}{v:V}(r:RU K H u v):∀{kvs:List (κ×U)} {l:List (κ×V)},RKs K H kvs l->RKs K H (dPut kvs k u) (putK l k v):=by
 intro kvs l h;have any:∀{kvs:List (κ×U)} {l:List (κ×V)},RKs K H kvs l->(kvs.any λkv=>decide (kv.1=k))=l.any λkv=>decide (kv.1=k):=by
  intro kvs
  induction kvs with
  |nil=>intro l h;cases h;rfl
  |cons p q ih=>intro l h;obtain⟨w,l',rfl,_,rs⟩:=h;simp only[Yba];rw[ih rs]
 have repl:∀{kvs:List (κ×U)} {l:List (κ×V)},RKs K H kvs l->RKs K H (kvs.map λkv=>if kv.1=k then (kv.1,u) else kv) (l.map λkv=>if kv.1=k then (kv.1,v) else kv):=by
  intro kvs
  induction kvs with
  |nil=>intro l h;cases h;rfl
  |cons p q ih=>
   intro l h;obtain⟨k',u'⟩:=p;obtain⟨w,l',rfl,rw',rs⟩:=h;simp only[YaB];by_cases e:k'=k
   ·rw[if_pos e,if_pos e];exact⟨v,_,rfl,r,ih rs⟩
   ·rw[if_neg e,if_neg e];exact⟨w,_,rfl,rw',ih rs⟩
 have snoc:∀{kvs:List (κ×U)} {l:List (κ×V)},RKs K H kvs l->RKs K H (kvs++[(k,u)]) (l++[(k,v)]):=by
  intro kvs
  induction kvs with
  |nil=>intro l h;cases h;exact⟨v,[],rfl,r,rfl⟩
  |cons p q ih=>intro l h;obtain⟨k',u'⟩:=p;obtain⟨w,l',rfl,rw',rs⟩:=h;exact⟨w,_,rfl,rw',ih rs⟩
 unfold dPut putK;rw[any h];split
 ·exact repl h
 ·exact snoc h
theorem RKs.length {κ:Type}{K:Yab}{H:Hp}:∀{kvs:List (κ×U)} {l:List (κ×V)},RKs K H kvs l->kvs.length=l.length
 |[],_,h=>by cases h;rfl
 |(_,_)::_,_,h=>by obtain⟨v,l',rfl,_,rs⟩:=h;simp[rs.length]
theorem jiS (m:Mth):MtU X m:=by
 cases m with
 |append=>exact jgZ
 |extend=>exact jgY
 |insert=>intro x G1 T id h;cases h
 |pop=>exact jml
 |reverse=>intro x G1 T id h;cases h
 |index=>intro x G1 T id h;cases h
 |join=>intro x G1 T id h;cases h
 |split=>intro x G1 T id h;cases h
 |setd=>intro x G1 T id h;cases h
 |get=>intro x G1 T id h;unfold mtU at h;split at h<;>contradiction
variable {m:Mth}{o e:Expr}{es:List Expr}{to:UE}{ts:UA}{apos cpos:Pos}
theorem jk5 (hm:MtU X m)(ho:PE X o (lE X to))(ha:PA X (e::es) (lA X ts))(hbase:Ybq o (mthN m) X.env (eval o X.env)=eval o X.env)
  (hfew:((backTo cpos (YaG (e::es) X.env)).all (λx=>!x.1)&&(backToKw cpos (Yeq [] X.env)).all (λx=>x.1.isSome)
   && decide ((e::es).length+([]:List Keyword).length+(if ([]:List Keyword).isEmpty then 0 else 1)<30))=true)
  (hline:(apos.endLine==cpos.line)=true) (hs:YaG (e::es) X.env=(false,eval e X.env)::YaG es X.env) (hplain:(backTo cpos (YaG es X.env)).any (·.1)=false) :
  PE X (.Call (.Attribute o (mthN m) apos) (e::es) [] cpos) (lE X λς G Q E=>to ς G (λx G1=>match mtU m x G1 with|some _=>ts ς G1 (λus G2=>jaU m x us G2 Q) E|none=>False) E):=by
 intro pins s σ H Q0 I h;obtain⟨ς,G,Q,E,hς,hG,h,lv,lx⟩:=h;refine PySem.wpAny_Call_method_late hbase hfew hline rfl (thn (ho pins s σ H (λv H1=>∃x G1 T id,RU X.K H1 x v/\HR X.K H1 G1/\Fr H G H1 G1/\mtU m x G1=some (T,id)/\ts ς G1 (λus G2=>jaU m x us G2 Q) E) I
  ⟨ς,G,_,E,hς,hG,h,λx v G1 H1 rx hG1 f1 h1=>?_,lx⟩) λv s1 ⟨xv,H1,I1,r1,x,G1,T,id,rx,hG1,f1,em,h1⟩=>?_)
 ·dsimp only at h1;split at h1
  ·rename_i p ep;exact⟨x,G1,p.1,p.2,rx,hG1,f1,ep,h1⟩
  ·exact h1.elim
 ·obtain⟨k,hty,r,hr1,hr2⟩:=hm x G1 T id em;obtain⟨t1,t2⟩:=jiI I1 r1 (hty xv H1 rx hG1);refine⟨T,id,k.pa,k.sl,k.ty,t1,t2,?_⟩;have hA:=ha cpos pins s1 σ H1 (λvs H2=>∃us G2,RUs X.K H2 us vs/\HR X.K H2 G2/\Fr H1 G1 H2 G2/\jaU m x us G2 Q) I1 ⟨ς,G1,_,E,hς.ts (f1.ts hG),hG1,h1,λus vs G2 H2 rs hG2 f2 h2=>⟨us,G2,rs,hG2,f2,h2⟩,lx.fr f1⟩;rw[hs]at hA ⊢;refine Yb4 (by show(false||(backTo cpos (YaG es X.env)).any (·.1))=false;rw[hplain]<;>rfl) (Calls.evalArgs_plain ?_)
  exact thn hA λus s2 ⟨vs,H2,I2,r2,ws,G2,rs,hG2,f2,h2⟩=>hr1 pins s2 σ H2 xv vs v us Q0 I2 r1 r2 (hr2 ws xv vs G2 H2 Q Q0 (rx.ts (f2.ts hG1)) rs hG2 h2 (lv.fr (f1.trans f2)))
theorem jjj (hm:MtU X m)(ho:PE X o (lE X to))(hbase:Ybq o (mthN m) X.env (eval o X.env)=eval o X.env)(hline:(apos.endLine==cpos.line)=true) :
  PE X (.Call (.Attribute o (mthN m) apos) [] [] cpos) (lE X λς G Q E=>to ς G (λx G1=>match mtU m x G1 with|some _=>jaU m x [] G1 Q|none=>False) E):=by
 intro pins s σ H Q0 I h;obtain⟨ς,G,Q,E,hς,hG,h,lv,lx⟩:=h;refine PySem.wpAny_Call_method0_late hbase hline (thn (ho pins s σ H (λv H1=>∃x G1 T id,RU X.K H1 x v/\HR X.K H1 G1/\Fr H G H1 G1/\mtU m x G1=some (T,id)/\jaU m x [] G1 Q) I
  ⟨ς,G,_,E,hς,hG,h,λx v G1 H1 rx hG1 f1 h1=>?_,lx⟩) λv s1 ⟨xv,H1,I1,r1,x,G1,T,id,rx,hG1,f1,em,h1⟩=>?_)
 ·dsimp only at h1;split at h1
  ·rename_i p ep;exact⟨x,G1,p.1,p.2,rx,hG1,f1,ep,h1⟩
  ·exact h1.elim
 ·obtain⟨k,hty,r,hr1,hr2⟩:=hm x G1 T id em;obtain⟨t1,t2⟩:=jiI I1 r1 (hty xv H1 rx hG1);exact⟨T,id,k.pa,k.sl,k.ty,t1,t2,Yb4 rfl (Yc2 (hr1 pins s1 σ H1 xv [] v [] Q0 I1 r1 .nil (hr2 [] xv [] G1 H1 Q Q0 rx rfl hG1 h1 (lv.fr f1))))⟩
end
end Z

namespace L2
open PySem PySem.Spec PyProof.Rows
section
variable {X:Cx}{tg:Expr}
def iSeq (K:Yab)(tl:TE):TI:=λσ H R=>tl σ H λx H1=>∃a,x=.ref a/\(((∃xs,SqL K H1 a xs)/\R (Itl K a) H1)\/((∃xs,SqT K H1 a xs)/\R (Itt K a) H1))
theorem jlN {l:Expr}{tl:TE}(hl:PE X l tl):PI X tg l (iSeq X.K tl):=by
 intro pins s σ H R I h;refine thn (hl pins s σ H _ I h) λv s1 ⟨x,H1,I1,r1,q1⟩=>?_;obtain⟨a,e,⟨⟨xs,hq⟩,q⟩|⟨⟨xs,hq⟩,q⟩⟩:=q1
 ·subst e;cases r1;obtain⟨its,rv,p,hz⟩:=I1.list hq;refine YdU p.isList ?_;refine⟨s1.heap.objs.size,[s1.heap.objs.size],_,_,H1,rfl,I1.kept (t':=s1.toks) λb o e=>Yad _ e,jgs a _,⟨_,Yaq _ rfl,rfl,rfl⟩,λb hb=>?_,q⟩;have e:b=s1.heap.objs.size:=by simpa using hb
  subst e;exact I1.fpOk (Yag _) (I1.hok.fresh (Yag _))
 ·subst e;cases r1;obtain⟨its,rv,p,hz⟩:=I1.tuple hq;refine wpAny_pyIter_tuple (show s1.heap.IsTuple a its.toArray from p) ?_;refine⟨s1.heap.objs.size,[s1.heap.objs.size],_,_,H1,rfl,I1.kept (t':=s1.toks) λb o e=>Yad _ e,jfX a _,⟨_,Yaq _ rfl,rfl,rfl⟩,λb hb=>?_,q⟩;have e:b=s1.heap.objs.size:=by simpa using hb
  subst e;exact I1.fpOk (Yag _) (I1.hok.fresh (Yag _))
theorem PI.imp {iter:Expr}{t t':TI}(h:PI X tg iter t)(i:∀σ H R,t' σ H R->t σ H R):PI X tg iter t':=λpins s σ H R I q=>h pins s σ H R I (i σ H R q)
theorem PG.imp {target:Expr}{t t':TG}(h:PG X target t)(i:∀v σ H Q,t' v σ H Q->t v σ H Q):PG X target t':=λpins s σ H v u Q I r q=>h pins s σ H v u Q I r (i v σ H Q q)
theorem PGs.imp {ts:List Expr}{t t':TGs}(h:PGs X ts t)(i:∀v σ H Q,t' v σ H Q->t v σ H Q):PGs X ts t':=λpins s σ H v u Q I r q=>h pins s σ H v u Q I r (i v σ H Q q)
theorem PIfs.imp {ifs:List Expr}{t t':TT}(h:PIfs X ifs t)(i:∀σ H Q,t' σ H Q->t σ H Q):PIfs X ifs t':=λpins s σ H Q I q=>h pins s σ H Q I (i σ H Q q)
end
end L2
namespace Z
open PySem L2
abbrev UI:=Sg->Gp->(List U->(Gp->Prop)->Gp->Prop)->KX->Prop
def jeL (K:Yab)(J:L2.It)(H:Hp)(G:Gp)(xs:List U)(ok:Gp->Prop):Prop:=∀i H' G',TS H H'->HR K H' G'->ok G'->
 (∀u,xs[i]?=some u->J.go i H'/\∀v H'',J.yld i H' v H''->RU K H'' u v/\HR K H'' G'/\Fr H' G' H'' G')/\(i=xs.length->J.stop i H')
theorem jeL.mono {K:Yab}{J:L2.It}{H H2:Hp}{G G2:Gp}{xs:List U}{ok:Gp->Prop}(h:jeL K J H G xs ok)(t:TS H H2):jeL K J H2 G2 xs ok:=λi H' G' t'=>h i H' G' (t.trans t')
section
variable (X:Cx)
def lI (t:UI):TI:=λσ H R=>∃ς G Q E,SR X.K H ς σ/\HR X.K H G/\t ς G Q E/\(∀xs ok G' H' J,HR X.K H' G'->Fr H G H' G'->jeL X.K J H' G' xs ok->Q xs ok G'->R J H')/\LX X σ H G E
def lG (K:Yab)(t:U->Sg->(Sg->Prop)->Prop):TG:=λv σ H Q0=>∃u ς k,RU K H u v/\SR K H ς σ/\t u ς k/\∀ς' σ',SR K H ς' σ'->k ς'->Q0 σ' H
def lGs (K:Yab)(t:List U->Sg->(Sg->Prop)->Prop):TGs:=λvs σ H Q0=>∃us ς k,RUs K H us vs/\SR K H ς σ/\t us ς k/\∀ς' σ',SR K H ς' σ'->k ς'->Q0 σ' H
end
section
variable {X:Cx}{tg:Expr}{pos:Pos}{te ta tb:UE}
theorem u_ie {l:Expr}(hl:PE X l (lE X te)):PI X tg l (lI X λς G Q E=>te ς G (λx G1=>itU x G1 λxs ok=>Q xs ok G1) E):=by
 refine(jlN hl).imp λσ H R h=>?_;obtain⟨ς,G,Q,E,hς,hG,h,lv,lx⟩:=h;refine⟨ς,G,_,E,hς,hG,h,λx v G1 H1 rx hG1 f1 h1=>?_,lx⟩;dsimp only at h1;unfold itU at h1;split at h1
 ·obtain⟨a,vs,rfl,ea,rs⟩:=rx;refine⟨a,rfl,.inr ⟨⟨vs,.of ea⟩,lv _ _ _ H1 _ hG1 f1 (λi H' G' f hr _=>?_) h1⟩⟩;have e':H' a=some (.tup vs):=f a _ ea;refine⟨λu eu=>?_,λe=>⟨vs,.of e',by rw[e,rs.length];exact Yag _⟩⟩
  obtain⟨w,ew,rw'⟩:=rs.get eu;refine⟨⟨vs,w,.of e',ew⟩,λv H'' y=>?_⟩;obtain⟨rfl,y⟩:=y;have:=y vs (.of e');rw[ew]at this;cases this;exact⟨rw'.ts f,hr,Fr.refl _ _⟩
 ·cases rx;rename_i a;split at h1
  ·rename_i us eu;obtain⟨vs,sq,rs⟩:=hG1.ls eu;refine⟨_,rfl,.inl ⟨⟨vs,sq⟩,lv _ _ _ H1 _ hG1 f1 (λi H' G' f hr ok=>?_) h1⟩⟩;obtain⟨vs',sq',rs'⟩:=hr.ls ok;refine⟨λu eu=>?_,λe=>⟨vs',sq',by rw[e,rs'.length];exact Yag _⟩⟩
   obtain⟨w,ew,rw'⟩:=rs'.get eu;refine⟨⟨vs',w,sq',ew⟩,λv H'' y=>?_⟩;obtain⟨rfl,y⟩:=y;have:=y vs' sq';rw[ew]at this;cases this;exact⟨rw',hr,Fr.refl _ _⟩
  ·exact h1.elim
 ·exact h1.elim
theorem jhO {K:Yab}{H:Hp}{G:Gp}(lo:Int)(n:Nat):jeL K (Itr lo n) H G (rngU lo n) λ_=>True:=by
 intro i H' G' f hr _;have hl:(rngU lo n).length=n:=by simp[rngU]
 refine⟨λu eu=>?_,λe=>by rw[hl]at e;exact YeJ e.symm⟩
 have hi:i<n:=by have:=(List.getElem?_eq_some_iff.mp eu).1;omega
 refine⟨hi,λv H'' y=>?_⟩;obtain⟨rfl,rfl⟩:=y;have:(rngU lo n)[i]?=some (.int (lo+i)):=by simp[rngU,Yan,YeU hi]
 rw[this]at eu;cases eu;exact⟨rfl,hr,Fr.refl _ _⟩
theorem u_r1 {a:Expr}{p:Pos}(hg:Gl X "range")(hm:X.mg "range" = none)(ha:PE X a (lE X ta))(hs:YaG [a] X.env=[(false,eval a X.env)]):PI X tg (.Call (.Name "range" p) [a] [] pos) (lI X λς G Q E=>ta ς G (λx G1=>match x with
   |.int j=>-(2 ^ 62)<=j/\j<2 ^ 62/\Q (rngU 0 j.toNat) (λ_=>True) G1
   |_=>False) E):=by
 refine(jgG hg hm (jdo ha jfW hs) hs).imp λσ H R h=>?_;obtain⟨ς,G,Q,E,hς,hG,h,lv,lx⟩:=h;refine⟨ς,G,λus G1=>match us with|[x]=>(match x with|.int j=>-(2 ^ 62)<=j/\j<2 ^ 62/\Q (rngU 0 j.toNat) (λ_=>True) G1|_=>False)|_=>False,E,hς,hG,h,λus vs G1 H1 rs hG1 f1 h1=>?_,lx⟩
 dsimp only at h1;split at h1
 ·obtain⟨v,rfl,r⟩:=rs.one;split at h1
  ·cases r;exact⟨_,rfl,h1.1,h1.2.1,lv _ _ G1 H1 _ hG1 f1 (jhO 0 _) h1.2.2⟩
  ·exact h1.elim
 ·exact h1.elim
theorem jb1:∀{n i:Nat} {xs:List U} {u:U},(jdX n xs)[i]?=some u->∃x,xs[i]?=some x/\u=.tup [.int ((n+i:Nat):Int),x]
 |_,_,[],_,h=>by simp[jdX]at h
 |n,0,x::xs,_,h=>by
  simp[jdX]at h;exact⟨x,rfl,h.symm⟩
 |n,i+1,_::xs,_,h=>by
  obtain⟨x,e1,e2⟩:=jb1 (n:=n+1) (i:=i) (xs:=xs) (by simpa[jdX]using h)
  exact⟨x,by simpa using e1,by rw[e2];congr 3;omega⟩
theorem jb0:∀(n:Nat) (xs:List U),(jdX n xs).length=xs.length
 |_,[]=>rfl
 |n,_::xs=>by simp[jdX,jb0 (n+1) xs]
theorem jk7 {l:Expr}{p tpos:Pos}{elts:List Expr}{x1}(hg:Gl X "enumerate")(hm:X.mg "enumerate" = none)(ha:PE X l (lE X ta))(hs:YaG [l] X.env=[(false,eval l X.env)]) :
  PI X (.Tuple elts x1 tpos) (.Call (.Name "enumerate" p) [l] [] pos) (lI X λς G Q E=>ta ς G (λx G1=>enI x G1 λxs ok=>Q xs ok G1) E):=by
 refine(jh1 hg hm (jdo ha jfW hs) hs).imp λσ H R h=>?_;obtain⟨ς,G,Q,E,hς,hG,h,lv,lx⟩:=h;refine⟨ς,G,λus G1=>match us with|[x]=>enI x G1 λxs ok=>Q xs ok G1|_=>False,E,hς,hG,h,λus vs G1 H1 rs hG1 f1 h1=>?_,lx⟩
 dsimp only at h1;split at h1
 ·obtain⟨v,rfl,r⟩:=rs.one;unfold enI at h1;split at h1
  ·obtain⟨a,ws,rfl,ea,rr⟩:=r;refine⟨a,rfl,.inl ⟨⟨ws,ea⟩,lv _ _ _ H1 _ hG1 f1 (λi H' G' f hr _=>?_) h1⟩⟩;have e':H' a=some (.tup ws):=f a _ ea;refine⟨λu eu=>?_,λe=>⟨ws,e',by rw[e,jb0,rr.length]⟩⟩
   obtain⟨x,ex,rfl⟩:=jb1 eu;obtain⟨w,ew,rw'⟩:=rr.get ex;refine⟨⟨ws,w,e',ew⟩,λv H'' y=>?_⟩;obtain⟨ys,z,q,hq,hz,rfl,hn,rfl⟩:=y;rw[e']at hq;cases hq;rw[ew]at hz;cases hz;refine⟨⟨q,_,rfl,jao,⟨_,_,rfl,by rw[Ycx];rfl,⟨_,_,rfl,(rw'.ts f).ts (TS.new hn),rfl⟩⟩⟩,hr.newT hn,Fr.new hn⟩
  ·cases r;split at h1
   ·rename_i us eu;obtain⟨vs,sq,rs⟩:=hG1.ls eu;refine⟨_,rfl,.inr ⟨⟨vs,sq⟩,lv _ _ _ H1 _ hG1 f1 (λi H' G' f hr ok=>?_) h1⟩⟩;obtain⟨vs',sq',rr⟩:=hr.ls ok;refine⟨λu eu=>?_,λe=>⟨vs',sq',by rw[e,jb0,rr.length]⟩⟩
    obtain⟨x,ex,rfl⟩:=jb1 eu;obtain⟨w,ew,rw'⟩:=rr.get ex;refine⟨⟨vs',w,sq',ew⟩,λv H'' y=>?_⟩;obtain⟨z,q,hz,rfl,hn,rfl⟩:=y;have hz:=hz vs' sq';rw[ew]at hz;cases hz;refine⟨⟨q,_,rfl,jao,⟨_,_,rfl,by rw[Ycx];rfl,⟨_,_,rfl,rw'.ts (TS.new hn),rfl⟩⟩⟩,hr.newT hn,Fr.new hn⟩
   ·exact h1.elim
  ·exact h1.elim
 ·exact h1.elim
theorem u_is {l:Expr}(hl:PE X l (lE X te)):PI X tg l (lI X λς G Q E=>te ς G (λx G1=>sgU x λxs=>Q xs (λ_=>True) G1) E):=by
 refine(jlM hl).imp λσ H R h=>?_;obtain⟨ς,G,Q,E,hς,hG,h,lv,lx⟩:=h;refine⟨ς,G,_,E,hς,hG,h,λx v G1 H1 rx hG1 f1 h1=>?_,lx⟩;cases x with
 |str z=>
  cases rx;obtain⟨ha,h1⟩:=h1;refine⟨z,rfl,ha,lv _ _ _ H1 _ hG1 f1 (λi H' G' f hr _=>⟨λu eu=>?_,λe=>?_⟩) h1⟩
  ·rw[Yan]at eu;cases ec:z.cps.toList[i]? with
   |none=>rw[ec]at eu;cases eu
   |some c=>
    rw[ec]at eu;cases eu;have ec':z.cps[i]?=some c:=by simpa using ec
    refine⟨(Array.getElem?_eq_some_iff.mp ec').1,λv H'' y=>?_⟩;obtain⟨rfl,d,ed,rfl⟩:=y;rw[ec']at ed;cases ed;exact⟨rfl,hr,Fr.refl _ _⟩
  ·rw[e];simp[Its]
 |_=>exact h1.elim
section
variable {κ:Type}{K:Yab}{H:Hp}
theorem RKs.len:∀{kvs:List (κ×U)} {l:List (κ×V)},RKs K H kvs l->kvs.length=l.length
 |[],_,h=>by cases h;rfl
 |(_,_)::_,_,h=>by
  obtain⟨v,l',rfl,_,rs⟩:=h;simp[RKs.len rs]
theorem RKs.val:∀{kvs:List (κ×U)} {l:List (κ×V)} {i:Nat} {p:κ×V},RKs K H kvs l->l[i]?=some p->∃u,kvs[i]?=some (p.1,u)/\RU K H u p.2
 |[],_,_,_,h,e=>by cases h;simp at e
 |(_,_)::_,_,0,_,h,e=>by
  obtain⟨v,l',rfl,r,_⟩:=h;simp at e;subst e;exact⟨_,rfl,r⟩
 |(_,_)::_,_,i+1,_,h,e=>by
  obtain⟨v,l',rfl,_,rs⟩:=h;simp at e;simpa using RKs.val rs e
end
theorem jiH {f:List (Key×U)->List U}{J:Addr->Obj->L2.It}{l:Expr}{ti:TI}(hl:PI X tg l ti)(hti:ti=λσ H R=>lE X te σ H λx H1=>∃a kvs,x=.ref a/\Held H1 a kvs λo H'=>R (J a o) H')
  (hw:∀{a o kvs} {H':Hp} {G':Gp},HR X.K H' G'->G' a=some (.frk o kvs)->jeL X.K (J a o) H' G' (f kvs) λG'=>G' a=some (.frk o kvs)):PI X tg l (lI X λς G Q E=>te ς G (λx G1=>jcG f x G1 Q) E):=by
 subst hti;refine hl.imp λσ H R h=>?_;obtain⟨ς,G,Q,E,hς,hG,h,lv,lx⟩:=h;refine⟨ς,G,_,E,hς,hG,h,λx v G1 H1 rx hG1 f1 h1=>?_,lx⟩;dsimp only at h1;unfold jcG at h1;split at h1
 ·cases rx;rename_i a;split at h1
  ·rename_i kvs g;obtain⟨l,e,rk⟩:=hG1 _ _ g;refine⟨a,l,rfl,.inl e,λo _=>?_⟩;have hG2:HR X.K (upd H1 a (.frz o (.dK l))) (gup G1 a (.frk o kvs)):=hG1.write g ⟨l,jao,rk.ts (TS.write hG1 g)⟩;exact lv _ _ _ _ _ hG2 (f1.trans (Fr.write g)) (hw hG2 jaf) (h1 o _ ⟨rfl⟩)
  ·rename_i o kvs g;obtain⟨l,e,rk⟩:=hG1 _ _ g;refine⟨a,l,rfl,.inr ⟨o,e⟩,λo' ho=>?_⟩;cases ho o e;have same:upd H1 a (.frz o (.dK l))=H1:=by
    funext b;unfold upd;split
    ·rename_i z;rw[z,e]
    ·rfl
   rw[same];exact lv _ _ _ _ _ hG1 f1 (hw hG1 g) h1
  ·exact h1.elim
 ·exact h1.elim
theorem u_dv {d:Expr}{apos:Pos}(hd:PE X d (lE X te))(hb:Ybq d "values" X.env (eval d X.env)=eval d X.env)(hl:(apos.endLine==pos.line)=true):PI X tg (.Call (.Attribute d "values" apos) [] [] pos) (lI X λς G Q E=>te ς G (λx G1=>jcG jcN x G1 Q) E):=by
 refine jiH (J:=Itv) (jon hd hb hl) rfl λ{a o kvs H' G'} _ _=>λi H2 G2 f hr ok=>?_;obtain⟨l',e',rk'⟩:=hr _ _ ok;refine⟨λu eu=>?_,λz=>⟨l',e',by rw[z,jcN,Yac,rk'.len];exact Yag _⟩⟩
 have hi:i<l'.length:=by
  have:=(List.getElem?_eq_some_iff.mp eu).1;rw[jcN,Yac,rk'.len]at this;exact this
 refine⟨⟨l',e',hi⟩,λv H'' y=>?_⟩;obtain⟨rfl,l2,k,e2,ek⟩:=y;rw[e']at e2;cases e2;obtain⟨u2,eu2,ru⟩:=rk'.val ek;rw[jcN,Yan,eu2]at eu;cases eu;exact⟨ru,hr,Fr.refl _ _⟩
theorem u_di {d:Expr}{apos tpos:Pos}{elts:List Expr}{x1}(hd:PE X d (lE X te))(hb:Ybq d "items" X.env (eval d X.env)=eval d X.env)(hl:(apos.endLine==pos.line)=true):PI X (.Tuple elts x1 tpos) (.Call (.Attribute d "items" apos) [] [] pos) (lI X λς G Q E=>te ς G (λx G1=>jcG jcx x G1 Q) E):=by
 refine jiH (J:=Iti) (joo hd hb hl) rfl λ{a o kvs H' G'} _ _=>λi H2 G2 f hr ok=>?_;obtain⟨l',e',rk'⟩:=hr _ _ ok;refine⟨λu eu=>?_,λz=>⟨l',e',by rw[z,jcx,Yac,rk'.len];exact Yag _⟩⟩
 have hi:i<l'.length:=by
  have:=(List.getElem?_eq_some_iff.mp eu).1;rw[jcx,Yac,rk'.len]at this;exact this
 refine⟨⟨l',e',hi⟩,λv H'' y=>?_⟩;obtain⟨l2,k,x,p,e2,ek,rfl,hn,rfl⟩:=y;rw[e']at e2;cases e2;obtain⟨u2,eu2,ru⟩:=rk'.val ek;rw[jcx,Yan,eu2]at eu;cases eu;exact⟨⟨p,_,rfl,jao,⟨_,_,rfl,by cases k<;>rfl,⟨_,_,rfl,ru.ts (TS.new hn),rfl⟩⟩⟩,hr.newT hn,Fr.new hn⟩
theorem SR.set {K:Yab}{H:Hp}{ς:Sg}{σ:St}{u:U}{v:V}(h:SR K H ς σ)(r:RU K H u v)(i:Nat):SR K H (ς.set i (some u)) (σ.set i (some v)):=by
 refine⟨by simp[h.1],λj w e=>?_⟩
 by_cases hj:j=i
 ·subst hj;by_cases hl:j<ς.length
  ·rw[Ybe hl]at e;cases e;exact⟨v,Ybe (by rw[<- h.1];exact hl),r⟩
  ·rw[Ycj (by simp;omega)]at e
   cases e
 ·rw[Ya2 (Ne.symm hj)]at e ⊢;exact h.2 j w e
theorem u_tn {i:Nat}{x:Str}(hN:X.N.Nodup)(hi:X.N[i]?=some x)(hx:Loc X.env.scope x)(hf:X.fn x=true\/X.env.scope.names.lookup x=some .local):PG X (.Name x pos) (lG X.K (tgU (.n i))):=by
 refine(jjR hN hi hx hf).imp λv σ H Q h=>?_;obtain⟨u,ς,k,r,hς,h,q⟩:=h;exact q _ _ (hς.set r i) h
theorem u_tt {es:List Expr}{k n:Nat}{ts:Tgs}(hc:X.calm=true)(h:PGs X es (lGs X.K (tgsU ts)))(hn:(YaZ es X.env).length=n)(hst:(YaZ es X.env).findIdx? (·.1)=none)(hl:∀us ς k,tgsU ts us ς k->us.length=n) :
  PG X (.Tuple es k pos) (lG X.K (tgU (.t ts))):=by
 refine(jlO hc h hn hst).imp λv σ H Q h=>?_;obtain⟨u,ς,k,r,hς,h,q⟩:=h;cases u with
 |tup us=>
  obtain⟨a,vs,rfl,e,rs⟩:=r;have h':tgsU ts us ς k:=h;exact⟨a,vs,rfl,.of e,by rw[<- rs.length];exact hl _ _ _ h',us,ς,k,rs,hς,h',q⟩
 |_=>exact h.elim
theorem jnF:PGs X [] (lGs X.K (tgsU .nil)):=by
 refine jjQ.imp λvs σ H Q h=>?_;obtain⟨us,ς,k,r,hς,h,q⟩:=h;obtain⟨rfl,h⟩:=h;cases r;exact⟨rfl,q _ _ hς h⟩
theorem jnG {e:Expr}{es:List Expr}{t:Tg}{ts:Tgs}(h1:PG X e (lG X.K (tgU t)))(h2:PGs X es (lGs X.K (tgsU ts)))(hs:(YaZ (e::es) X.env).map (·.2)=assign e X.env::(YaZ es X.env).map (·.2)) :
  PGs X (e::es) (lGs X.K (tgsU (.cons t ts))):=by
 refine(jh2 h1 h2 hs).imp λvs σ H Q h=>?_;obtain⟨us,ς,k,r,hς,h,q⟩:=h;cases us with
 |nil=>exact h.elim
 |cons u us=>
  obtain⟨v,vr,rfl,r1,rs⟩:=r;exact⟨v,vr,rfl,u,ς,_,r1,hς,h,λς' σ' hs' h'=>⟨us,ς',k,rs,hs',h',q⟩⟩
end
theorem jfF {K:Yab}{H:Hp}:∀ns:List Int,RUs K H (ns.map .int) (ns.map V.int)
 |[]=>rfl
 |_::r=>⟨_,_,rfl,rfl,jfF r⟩
theorem jgC {κ:Type}{K:Yab}{H:Hp}:∀{kvs:List (κ×U)} {l:List (κ×V)},RKs K H kvs l->kvs.map (·.1)=l.map (·.1)
 |[],_,h=>by cases h;rfl
 |(k,u)::r,_,h=>by
  obtain⟨v,l',rfl,_,rs⟩:=h;rw[YaB,YaB,jgC rs]
def lE0 (K:Yab)(t:UE):TE:=λτ H Q0=>∃ς G Q,SR K H ς τ/\HR K H G/\t ς G Q (λ_ _=>False)/\∀w v G' H',RU K H' w v->HR K H' G'->Fr H G H' G'->Q w G'->Q0 v H'
def lT0 (K:Yab)(t:Sg->Gp->(Bool->Gp->Prop)->Prop):TT:=λτ H Q0=>∃ς G Q,SR K H ς τ/\HR K H G/\t ς G Q/\∀b G' H',HR K H' G'->Fr H G H' G'->Q b G'->Q0 b H'
theorem LX.no {X:Cx}{σ:St}{H:Hp}{G:Gp}:LX X σ H G λ_ _=>False:=λ_ _ _ _ _ _ _ _ _ _ h=>h.elim
theorem lE0.of {X:Cx}{e:Expr}{t:UE}(h:PE X e (lE X t)):PE X e (lE0 X.K t):=h.imp λσ H Q0 ⟨ς,G,Q,h1,h2,h3,h4⟩=>⟨ς,G,Q,_,h1,h2,h3,h4,LX.no⟩
theorem lT0.of {X:Cx}{e:Expr}{t:UT}(h:PT X e (lT X t)):PT X e (lT0 X.K λς G Q=>t ς G Q λ_ _=>False):=h.imp λσ H Q0 ⟨ς,G,Q,h1,h2,h3,h4⟩=>⟨ς,G,Q,_,h1,h2,h3,h4,LX.no⟩
mutual
noncomputable def tgS:Tg->List Nat
 |.n i=>[i]
 |.t ts=>tgsS ts
noncomputable def tgsS:Tgs->List Nat
 |.nil=>[]
 |.cons t ts=>tgS t++tgsS ts
end
def Ext (ς0 ς:Sg):Prop:=ς0.length=ς.length/\∀(j:Nat) (w:U),ς0[j]?=some (some w)->ς[j]?=some (some w)
mutual
theorem jiJ {ς0:Sg}:∀{t:Tg} {u:U} {ς:Sg} {k:Sg->Prop},(∀i∈tgS t,∀w,ς0[i]?≠some (some w))->Ext ς0 ς->tgU t u ς k->tgU t u ς λς'=>k ς'/\Ext ς0 ς'
 |.n i,u,ς,k,hf,he,h=>by
  refine⟨h,by simp[he.1],λj w e=>?_⟩
  have hj:j≠i:=λz=>hf i (by simp[tgS]) w (z ▸ e)
  rw[Ya2 (Ne.symm hj)]
  exact he.2 j w e
 |.t ts,u,ς,k,hf,he,h=>by
  cases u with
  |tup us=>exact jgu (ts:=ts) (us:=us) (λi hi=>hf i hi) he h
  |_=>exact h
theorem jgu {ς0:Sg}:∀{ts:Tgs} {us:List U} {ς:Sg} {k:Sg->Prop},(∀i∈tgsS ts,∀w,ς0[i]?≠some (some w))->Ext ς0 ς->tgsU ts us ς k->tgsU ts us ς λς'=>k ς'/\Ext ς0 ς'
 |.nil,us,ς,k,_,he,h=>⟨h.1,h.2,he⟩
 |.cons t ts,us,ς,k,hf,he,h=>by
  cases us with
  |nil=>exact h
  |cons u r=>
   have:=jiJ (t:=t) (u:=u) (λi hi=>hf i (by simp[tgsS,hi])) he h
   refine jcS this λς' ⟨h1,h2⟩=>jgu (λi hi=>hf i (by simp[tgsS,hi])) h2 h1
theorem jcS:∀{t:Tg} {u:U} {ς:Sg} {k k':Sg->Prop},tgU t u ς k->(∀ς,k ς->k' ς)->tgU t u ς k'
 |.n _,_,_,_,_,h,i=>i _ h
 |.t ts,u,ς,_,_,h,i=>by
  cases u with
  |tup us=>exact jff (ts:=ts) (us:=us) h i
  |_=>exact h
theorem jff:∀{ts:Tgs} {us:List U} {ς:Sg} {k k':Sg->Prop},tgsU ts us ς k->(∀ς,k ς->k' ς)->tgsU ts us ς k'
 |.nil,_,_,_,_,h,i=>⟨h.1,i _ h.2⟩
 |.cons t ts,us,ς,_,_,h,i=>by
  cases us with
  |nil=>exact h
  |cons u r=>exact jcS (t:=t) h λς' h'=>jff h' i
end
theorem SR.ext {K:Yab}{H:Hp}{ς0 ς:Sg}{σ:St}(h:SR K H ς σ)(e:Ext ς0 ς):SR K H ς0 σ:=⟨e.1.trans h.1,λi u q=>h.2 i u (e.2 i u q)⟩
theorem SR.pick {K:Yab}{H:Hp}{ς:Sg}{σ:St}(h:SR K H ς σ)(pick:List (Option Nat)):SR K H (jbz pick ς) (pick.map λo=>o.bind λj=>(σ[j]?).join):=by
 refine⟨by simp[jbz],λi u e=>?_⟩
 unfold jbz at e;rw[Yan]at e ⊢;cases q:pick[i]? with
 |none=>rw[q]at e;cases e
 |some o=>
  rw[q]at e;cases o with
  |none=>simp at e
  |some j=>
   simp only[Yfq,Option.bind_some,Option.some.injEq]at e ⊢;have e':ς[j]?=some (some u):=by
    cases z:ς[j]? with
    |none=>rw[z]at e;cases e
    |some w=>rw[z]at e;simp at e;rw[e]
   obtain⟨v,ev,r⟩:=h.2 j u e';exact⟨v,by rw[ev];rfl,r⟩
section
variable {K:Yab}{H:Hp}{G:Gp}
theorem HR.newH (h:HR K H G){p:Addr}{o:HO}(e:H p=none):HR K (upd H p o) G:=⟨λa ob q=>by
 have m:=h a ob q;obtain⟨ho,e2⟩:=m.there;exact m.keep (jac (jah e2 e)) (TS.new e),h.tab.new e⟩
theorem TS.hid {p:Addr}{ys:List V}{o:HO}(e:H p=some (.lst ys)):TS H (upd H p o):=⟨λa xs h=>by
 have:a≠p:=λz=>by subst z;rw[e]at h;cases h
 rw[jac this];exact h,λa ob h=>by
 have:a≠p:=λz=>by subst z;rw[e]at h;cases h
 rw[jac this];exact h⟩
theorem HR.hid (h:HR K H G){p:Addr}{ys:List V}{o:HO}(e:H p=some (.lst ys))(g:G p=none):HR K (upd H p o) G:=⟨λa ob q=>by
 have:a≠p:=λz=>by subst z;rw[g]at q;cases q
 exact(h a ob q).keep (jac this) (TS.hid e),h.tab.upd (λps z=>by rw[e]at z;cases z) λob z=>by rw[e]at z;cases z⟩
theorem HR.know (h:HR K H G){p:Addr}{ys:List V}{us:List U}(e:H p=some (.lst ys))(r:RUs K H us ys):HR K H (gup G p (.lst us)):=⟨λa ob q=>by
 by_cases z:a=p
 ·subst z;rw[jaf]at q;cases q;exact⟨ys,e,r⟩
 ·rw[jbc z]at q;exact h a ob q,h.tab⟩
end
section
variable {X:Cx}{pick:List (Option Nat)}{ti:UI}{t:Tg}{tc:Sg->Gp->(Bool->Gp->Prop)->Prop}{te:UE}{σ:St}{H:Hp}{Q0:VK}
abbrev lcD (pick:List (Option Nat))(ti:UI)(t:Tg)(tc:Sg->Gp->(Bool->Gp->Prop)->Prop)(te:UE):UE:=λς G Q E=>ti ς G (λxs ok G1=>xs.length<=Yah/\jdk ok (λx G2 k=>tgU t x (jbz pick ς) λτ=>tc τ G2 (λb G3=>if b=true then te τ G3 (λu G4=>k (some u) G4) (λ_ _=>False) else k none G3)) xs [] G1
   λus G5=>newO G5 (.lst us) Q) E
structure FrX (D:Addr)(H:Hp)(G:Gp)(H':Hp)(G':Gp):Prop where
 go:∀a o,a≠D->H a=some o->G a=none->(nt:noTb o=true:=by rfl)->H' a=some o/\G' a=none
instance {D:Addr} {H H':Hp} {G G':Gp}:CoeFun (FrX D H G H' G') λ_=>∀a o,a≠D->H a=some o->G a=none->(nt:noTb o=true:=by rfl)->H' a=some o/\G' a=none:=⟨@FrX.go D H G H' G'⟩
theorem jmr {xs:List U}{ok:Gp->Prop}{G1:Gp}{H1:Hp}{J:L2.It}{τu:Sg}{τ0:St}{D:Addr}{acc0:List U}{ys0:List V}{kk:List U->Gp->Prop}{QQ:St->List V->Hp->Prop}
  (free:∀i∈tgS t,∀w,τu[i]?≠some (some w)) (wk:jeL X.K J H1 G1 xs ok) (hG1:HR X.K H1 G1) (eD1:H1 D=some (.lst ys0)) (gD1:G1 D=none) (ra1:RUs X.K H1 acc0 ys0) (sr1:SR X.K H1 τu τ0) (hl:acc0.length+xs.length<=Yah)
  (h1:jdk ok (λx G2 k=>tgU t x τu λτ=>tc τ G2 (λb G3=>if b=true then te τ G3 (λu G4=>k (some u) G4) (λ_ _=>False) else k none G3)) xs acc0 G1 kk)
  (fin:∀τ' acc' ys' G' H',SR X.K H' τu τ'->HR X.K H' G'->FrX D H1 G1 H' G'->H' D=some (.lst ys')->G' D=none->RUs X.K H' acc' ys'->kk acc' G'->QQ τ' ys' H') :
  jhH J (lG X.K (tgU t)) (lT0 X.K tc) (emA (lE0 X.K te) D) QQ τ0 ys0 H1:=by
 refine⟨λi m τ ys H'=>m=xs.length-i/\i<=xs.length/\∃acc G',SR X.K H' τu τ/\HR X.K H' G'/\FrX D H1 G1 H' G'/\H' D=some (.lst ys)/\G' D=none/\RUs X.K H' acc ys/\acc.length<=acc0.length+i/\
  jdk ok (λx G2 k=>tgU t x τu λτ=>tc τ G2 (λb G3=>if b=true then te τ G3 (λu G4=>k (some u) G4) (λ_ _=>False) else k none G3)) (xs.drop i) acc G' kk,⟨xs.length,by simp,Ybj _,acc0,G1,sr1,hG1,⟨λ_ _ _ a b _=>⟨a,b⟩⟩,eD1,gD1,ra1,by omega,by simpa using h1⟩,?_⟩
 rintro i m τ ys H' ⟨rfl,hi,acc,G',sr,hr,f,eD,gD',ra,hal,hc⟩;have ts:TS H1 H':=⟨λa zs e=>(f a _ (λz=>by rw[z,eD1]at e;cases e) e (hG1.tupNone e)).1,λa zs e=>(f a _ (λz=>by rw[z,eD1]at e;cases e) e (hG1.codNone e)).1⟩
 by_cases hlt:i<xs.length
 ·rw[YaU hlt]at hc;obtain⟨hok,hb⟩:=hc;obtain⟨w1,_⟩:=wk i H' G' ts hr hok;obtain⟨go,yl⟩:=w1 xs[i] (by simp[hlt])
  refine .inr ⟨go,λv H'' y=>?_⟩;obtain⟨rx,hr2,f2⟩:=yl v H'' y;have sr2:=sr.ts (f2.ts hr);refine⟨xs[i],τu,_,rx,sr2,jiJ free ⟨rfl,λ_ _ e=>e⟩ hb,λτv σ' hs' ⟨hk,he⟩=>?_⟩;refine⟨τv,G',_,hs',hr2,hk,λb G3 H3 hr3 f3 h3=>?_⟩;have f13:FrX D H1 G1 H3 G3:=⟨λa o n h g nt=>let ⟨a1,a2⟩:=f a o n h g nt;let ⟨b1,b2⟩:=f2 a o a1 a2 nt;f3 a o b1 b2 nt⟩
  have hs3:SR X.K H3 τu σ':=(hs'.ext he).ts (f3.ts hr2);obtain⟨eD2,gD2⟩:=f2 D _ eD gD';obtain⟨eD3,gD3⟩:=f3 D _ eD2 gD2;have ra3:=(ra.ts (f2.ts hr)).ts (f3.ts hr2);cases b with
  |false=>
   rw[if_neg Yak]at h3;dsimp only;rw[if_neg Yak];exact⟨xs.length-(i+1),by omega,rfl,hlt,acc,G3,hs3,hr3,f13,eD3,gD3,ra3,by omega,h3⟩
  |true=>
   rw[if_pos rfl]at h3;dsimp only;rw[if_pos rfl];refine⟨τv,G3,_,hs'.ts (f3.ts hr2),hr3,h3,λu v G4 H4 ru hr4 f4 h4=>?_⟩;obtain⟨eD4,gD4⟩:=f4 D _ eD3 gD3;have ra4:=ra3.ts (f4.ts hr3);have tsn:=TS.hid (o:=.lst (ys++[v])) eD4;refine⟨eD4,by rw[<- ra.length];omega,xs.length-(i+1),by omega,rfl,hlt,acc++[u],G4,(hs3.ts (f4.ts hr3)).ts tsn,hr4.hid eD4 gD4,?_,jao,gD4,(ra4.append (RUs.mk (us:=[]) (vs:=[]) ru rfl)).ts tsn,by simp;omega,h4⟩
   refine⟨λa o n ha ga nt=>?_⟩;obtain⟨x1,x2⟩:=f13 a o n ha ga nt;obtain⟨y1,y2⟩:=f4 a o x1 x2 nt;exact⟨by rw[jac n];exact y1,y2⟩
 ·have e:i=xs.length:=by omega
  subst e;rw[YfJ]at hc;obtain⟨hok,q⟩:=hc;obtain⟨_,w2⟩:=wk xs.length H' G' ts hr hok;exact .inl ⟨w2 rfl,fin τ acc ys G' H' sr hr f eD gD' ra q⟩
theorem jgF {is:List Nat}(hp:is.all (λi=>(pick[i]?).join.isNone)=true)(ς:Sg):∀i∈is,∀w,(jbz pick ς)[i]?≠some (some w):=λi hi w e=>by
 have:=List.all_eq_true.mp hp i hi;unfold jbz at e;rw[Yan]at e;cases q:pick[i]? with
 |none=>rw[q]at e;cases e
 |some o=>
  rw[q]at e this;cases o with
  |none=>simp at e
  |some j=>simp at this
theorem jiU (hp:(tgS t).all (λi=>(pick[i]?).join.isNone)=true)(h:lE X (lcD pick ti t tc te) σ H Q0):tLc pick (lI X ti) (lG X.K (tgU t)) (lT0 X.K tc) (lE0 X.K te) σ H Q0:=by
 obtain⟨ς,G,Q,E,hς,hG,h,lv,lx⟩:=h;refine⟨ς,G,_,E,hς,hG,h,λxs ok G1 H1 J hG1 f1 wk h1=>?_,lx⟩;obtain⟨hl,h1⟩:=h1;intro D hD;refine jmr (acc0:=[]) (jgF hp ς) (wk.mono (TS.new hD)) (hG1.newH hD) jao (hG1.nope hD) rfl (((hς.ts (f1.ts hG)).ts (TS.new hD)).pick pick) (by simpa using hl) h1 λτ' acc' ys' G' H' sr hr f eD gD' ra q=>?_
 refine lv (.loc D) (.ref D) _ H' rfl (hr.know eD ra) ?_ (q.at D gD');refine⟨λa o ha ga nt=>?_⟩;obtain⟨x1,x2⟩:=f1 a o ha ga nt;obtain⟨y1,y2⟩:=f a o (jah x1 hD) (by rw[jac (jah x1 hD)];exact x1) x2 nt
 exact⟨y1,by rw[jbc (jah x1 hD)];exact y2⟩
def lI0 (K:Yab)(t:UI):TI:=λσ H R=>∃ς G Q,SR K H ς σ/\HR K H G/\t ς G Q (λ_ _=>False)/\∀xs ok G' H' J,HR K H' G'->Fr H G H' G'->jeL K J H' G' xs ok->Q xs ok G'->R J H'
mutual
theorem jjr {is:List Nat}:∀{t:Tg} {u:U} {ς:Sg} {k:Sg->Prop},(∀i∈is,i∉tgS t)->(∀i∈is,∀w,ς[i]?≠some (some w))->tgU t u ς k->tgU t u ς λς'=>k ς'/\∀i∈is,∀w,ς'[i]?≠some (some w)
 |.n j,u,ς,k,hf,he,h=>by
  refine⟨h,λi hi w e=>?_⟩
  have hj:i≠j:=λz=>hf i hi (by simp[tgS,z])
  rw[Ya2 (Ne.symm hj)]at e
  exact he i hi w e
 |.t ts,u,ς,k,hf,he,h=>by
  cases u with
  |tup us=>exact jfg (ts:=ts) (us:=us) (λi hi=>hf i hi) he h
  |_=>exact h
theorem jfg {is:List Nat}:∀{ts:Tgs} {us:List U} {ς:Sg} {k:Sg->Prop},(∀i∈is,i∉tgsS ts)->(∀i∈is,∀w,ς[i]?≠some (some w))->tgsU ts us ς k->tgsU ts us ς λς'=>k ς'/\∀i∈is,∀w,ς'[i]?≠some (some w)
 |.nil,us,ς,k,_,he,h=>⟨h.1,h.2,he⟩
 |.cons t ts,us,ς,k,hf,he,h=>by
  cases us with
  |nil=>exact h
  |cons u r=>
   have:=jjr (t:=t) (u:=u) (λi hi z=>hf i hi (by simp[tgsS,z])) he h
   refine jcS this λς' ⟨h1,h2⟩=>jfg (λi hi z=>hf i hi (by simp[tgsS,z])) h2 h1
end
variable {tg iter elt:Expr}{ifs:List Expr}{pos:Pos}{N:List Str}{scope:Scope}
theorem u_lc (hc:X.calm=true)(S:CScope X N pick scope)(hw:PI X tg iter (lI X ti))(hp:(tgS t).all (λi=>(pick[i]?).join.isNone)=true)
  (hg:∀cl C s₀ H₀ fp,PG (jam X N scope cl C s₀ H₀ fp) tg (lG X.K (tgU t))) (hi:∀cl C s₀ H₀ fp,PIfs (jam X N scope cl C s₀ H₀ fp) ifs (lT0 X.K tc)) (he:∀cl C s₀ H₀ fp,PE (jam X N scope cl C s₀ H₀ fp) elt (lE0 X.K te))
  (hs:∀x,Ya4 iter X.env x=pure x):PE X (.ListComp elt [⟨tg,iter,ifs,0⟩] scope pos) (lE X (lcD pick ti t tc te)):=
 (jor hc S hw hg hi he hs).imp λ_ _ _ h=>jiU hp h
end
section
variable {X:Cx}{e:Expr}{te ta tb:UE}{p pos:Pos}
theorem jnO (hc:X.calm=true)(hg:Gl X "list")(hm:X.mg "list" = none)(ha:PE X e (lE X te))(he:YaG [e] X.env=[(false,eval e X.env)]) :
  PE X (.Call (.Name "list" p) [e] [] pos) (lE X λς G Q E=>te ς G (λx G1=>mkDU x G1 Q) E):=by
 refine(jbN (jgk hc) hg hm Ydp (jdo ha jfW he) (by decide) (by decide) he rfl).imp λσ H Q0 h=>?_
 obtain⟨ς,G,Q,E,hς,hG,h,lv,lx⟩:=h;refine⟨ς,G,λus G1=>match us with|[x]=>mkDU x G1 Q|_=>False,E,hς,hG,h,λus vs G1 H1 rs hG1 f1 h1=>?_,lx⟩
 dsimp only at h1;split at h1
 ·obtain⟨v,rfl,r⟩:=rs.one;unfold mkDU at h1;split at h1
  ·cases r;split at h1
   ·rename_i kvs g;obtain⟨ns,hk,q⟩:=h1;obtain⟨l,e,rk⟩:=hG1 _ _ g;refine⟨_,l,ns,rfl,e,?_,λp hp=>(lv.fr f1).lst hp (jfF _) hG1 q⟩;rw[<- jgC rk];exact hk
   ·exact h1.elim
  ·exact h1.elim
 ·exact h1.elim
theorem jnN (hg:Gl X "list")(hm:X.mg "list" = none)(ha:PE X e (lE X te))(he:YaG [e] X.env=[(false,eval e X.env)]) :
  PE X (.Call (.Name "list" p) [e] [] pos) (lE X λς G Q E=>te ς G (λx G1=>itU x G1 λxs _=>newO G1 (.lst xs) Q) E):=by
 refine(jbN (jeF (X:=X)) hg hm Ydp (jdo ha jfW he) (by decide) (by decide) he rfl).imp λσ H Q0 h=>?_
 obtain⟨ς,G,Q,E,hς,hG,h,lv,lx⟩:=h;refine⟨ς,G,λus G1=>match us with|[x]=>(itU x G1 λxs _=>newO G1 (.lst xs) Q)|_=>False,E,hς,hG,h,λus vs G1 H1 rs hG1 f1 h1=>?_,lx⟩
 dsimp only at h1;split at h1
 ·obtain⟨v,rfl,r⟩:=rs.one;unfold itU at h1;split at h1
  ·obtain⟨a,ws,rfl,ea,rr⟩:=r;exact⟨a,ws,rfl,.inr (.of ea),λl hl=>(lv.fr f1).lst hl rr hG1 h1⟩
  ·cases r;split at h1
   ·rename_i us eu;obtain⟨ws,sq,rr⟩:=hG1.ls eu;exact⟨_,ws,rfl,.inl sq,λl hl=>(lv.fr f1).lst hl rr hG1 h1⟩
   ·exact h1.elim
  ·exact h1.elim
 ·exact h1.elim
theorem jnM (hg:Gl X "tuple")(hm:X.mg "tuple" = none)(ha:PE X e (lE X te))(he:YaG [e] X.env=[(false,eval e X.env)]) :
  PE X (.Call (.Name "tuple" p) [e] [] pos) (lE X λς G Q E=>te ς G (λx G1=>itU x G1 λxs _=>Q (.tup xs) G1) E):=by
 refine(jbN (jd0 (X:=X)) hg hm PyProof.Rows.boot_tuple (jdo ha jfW he) (by decide) (by decide) he rfl).imp λσ H Q0 h=>?_
 obtain⟨ς,G,Q,E,hς,hG,h,lv,lx⟩:=h;refine⟨ς,G,λus G1=>match us with|[x]=>(itU x G1 λxs _=>Q (.tup xs) G1)|_=>False,E,hς,hG,h,λus vs G1 H1 rs hG1 f1 h1=>?_,lx⟩
 dsimp only at h1;split at h1
 ·obtain⟨v,rfl,r⟩:=rs.one;unfold itU at h1;split at h1
  ·obtain⟨a,ws,rfl,ea,rr⟩:=r;exact⟨a,ws,rfl,.inr ⟨.of ea,(lv.fr f1).here (w:=.tup _) ⟨a,ws,rfl,ea,rr⟩ hG1 h1⟩⟩
  ·cases r;split at h1
   ·rename_i us eu;obtain⟨ws,sq,rr⟩:=hG1.ls eu;exact⟨_,ws,rfl,.inl ⟨sq,λl hl=>(lv.fr f1).tup hl rr hG1 h1⟩⟩
   ·exact h1.elim
  ·exact h1.elim
 ·exact h1.elim
theorem u_ty {x:Str}{n:String}(hg:Gl X x)(hm:X.mg x=none)(hv:YbS x=some (.type n))(hn:x ≠ "__name__")(hd:(x==("__debug__" : Str))=false):PE X (.Name x pos) (lE X λ_ G Q _=>Q (.ty n) G):=
 jb9 (u:=.ty n) (jjW (v:=.ty n) hg hm hv rfl hn hd) λ_=>rfl
theorem u_gl {x:Str}{u:U}{v:V}{w:Value}(hg:Gl X x)(hm:X.mg x=some w)(r:RelV v w)(hr:∀H,RU X.K H u v)(hd:(x==("__debug__" : Str))=false):PE X (.Name x pos) (lE X λ_ G Q _=>Q u G):=
 jb9 (jjT hg hm r hd) hr
theorem jk8:PE X (.Dict [] [] pos) (lE X λ_ G Q _=>newO G (.dK []) Q):=by
 refine jh5.imp λσ H Q0 h p hp=>?_;obtain⟨ς,G,Q,E,hς,hG,h,lv,lx⟩:=h;exact lv (.loc p) (.ref p) _ _ rfl (hG.newO (mo:=.dK []) hp ⟨[],jao,rfl⟩) (Fr.newO hp) (h.at p (hG.nope hp))
theorem RKs.merge {K:Yab}{H:Hp}:∀{more:List (Key×U)} {m:List (Key×V)},RKs K H more m->∀{kvs:List (Key×U)} {l:List (Key×V)},RKs K H kvs l->RKs K H (more.foldl (λacc kv=>dPut acc kv.1 kv.2) kvs) (jc6 l m)
 |[],_,h,_,_,h'=>by cases h;exact h'
 |(k,u)::more,_,h,_,_,h'=>by
  obtain⟨v,l',rfl,r,rs⟩:=h;exact RKs.merge rs (h'.put r)
def lD (X:Cx)(t:Sg->Gp->(List (Key×U)->Gp->Prop)->KX->Prop)(trs:List (TE×TE)):Prop:=
 ∀σ H ς G Q E (Q0:List (V×V)->Hp->Prop),SR X.K H ς σ->HR X.K H G->t ς G Q E->LX X σ H G E->
  (∀kvs (l:List (Key×V)) G' H',RKs X.K H' kvs l->HR X.K H' G'->Fr H G H' G'->Q kvs G'->Q0 (l.map λkv=>(kV kv.1,kv.2)) H')->jfm trs σ H Q0
theorem jnR {keys:List (Option Expr)}{values:List Expr}{trs:List (TE×TE)}{t:Sg->Gp->(List (Key×U)->Gp->Prop)->KX->Prop}(hp:PPs X pos keys values trs)(hd:lD X t trs)(hall:keys.all (·.isSome)=true)(hl:keys.length=values.length)(h0:keys≠[])
  (h15:keys.length<=15):PE X (.Dict keys values pos) (lE X λς G Q E=>t ς G (λkvs G1=>kvs.length<=15/\newO G1 (.dK (jdi kvs)) Q) E):=by
 refine(jjU hp hall hl h0 h15).imp λσ H Q0 h p hp=>?_;obtain⟨ς,G,Q,E,hς,hG,h,lv,lx⟩:=h;have gp:=hG.nope hp;refine hd σ _ ς G _ E _ (hς.ts (TS.new hp)) (hG.newH hp) h (lx.fr (Fr.new hp)) λkvs l G' H' r hG' f q=>?_;obtain⟨e,g⟩:=f p _ jao gp;refine⟨e,l,rfl,by rw[<- r.length];exact q.1,?_⟩
 have ts:TS H' (upd H' p (.dK (jc6 [] l))):=⟨λa xs h=>by
  have:a≠p:=λz=>by subst z;rw[e]at h;cases h
  rw[jac this];exact h,λa xs h=>by
  have:a≠p:=λz=>by subst z;rw[e]at h;cases h
  rw[jac this];exact h⟩
 refine lv (.loc p) (.ref p) (gup G' p (.dK (jdi kvs))) _ rfl ⟨λa ob z=>?_,hG'.tab.upd (λps z=>by rw[e]at z;cases z) λob z=>by rw[e]at z;cases z⟩ ⟨λa o ha ga nt=>?_⟩ (q.2.at p g)
 ·by_cases ea:a=p
  ·subst ea;rw[jaf]at z;cases z;exact⟨_,jao,(RKs.merge r (kvs:=[]) (l:=[]) rfl).ts ts⟩
  ·rw[jbc ea]at z;exact(hG' a ob z).keep (jac ea) ts
 ·have ea:a≠p:=jah ha hp;obtain⟨x1,x2⟩:=f a o (by rw[jac ea];exact ha) ga nt
  exact⟨by rw[jac ea];exact x1,by rw[jbc ea];exact x2⟩
theorem jmu:lD X (λ_ G Q _=>Q [] G) []:=λσ H ς G Q E Q0 hς hG h lx q=>q [] [] G H rfl hG (Fr.refl _ _) h
theorem jkp {tk tv:UE}{t:Sg->Gp->(List (Key×U)->Gp->Prop)->KX->Prop}{trs:List (TE×TE)}(hr:lD X t trs):lD X (λς G Q E=>tk ς G (λx G1=>tv ς G1 (λy G2=>match kU x with
   |some k=>t ς G2 (λkvs G3=>Q ((k,y)::kvs) G3) E
   |none=>False) E) E) ((lE X tk,lE X tv)::trs):=by
 intro σ H ς G Q E Q0 hς hG h lx q;refine⟨ς,G,_,E,hς,hG,h,λx v G1 H1 rx hG1 f1 h1=>?_,lx⟩;refine⟨ς,G1,_,E,hς.ts (f1.ts hG),hG1,h1,λy v' G2 H2 ry hG2 f2 h2=>?_,lx.fr f1⟩;dsimp only at h2;split at h2
 ·rename_i k ek;have:=je0 rx ek;subst this;refine hr σ H2 ς G2 _ E _ ((hς.ts (f1.ts hG)).ts (f2.ts hG1)) hG2 h2 (lx.fr (f1.trans f2)) λkvs l G3 H3 r hG3 f3 h3=>?_;exact q ((k,y)::kvs) ((k,v')::l) G3 H3 ⟨v',l,rfl,ry.ts (f3.ts hG2),r⟩ hG3 ((f1.trans f2).trans f3) h3
 ·exact h2.elim
end
end Z

namespace L2
open PySem
end L2
namespace Z
open PySem L2
structure LD (X:Cx)(H:Hp)(G:Gp)(De:En)(D:Ends):Prop where
 nx:∀ς' σ' G' H',SR X.K H' ς' σ'->HR X.K H' G'->Fr H G H' G'->De.nx ς' G'->D.nx σ' H'
 rt:∀w v G' H',RU X.K H' w v->HR X.K H' G'->Fr H G H' G'->De.rt w G'->D.rt v H'
 ex:∀(pins:List (Addr×Obj)) (e:Value) (s':Shared) (x:XV) ς' σ' G' H',Inv X pins σ' H' s'->SR X.K H' ς' σ'->XAt X H' s' e x->HR X.K H' G'->Fr H G H' G'->De.ex x ς' G'->X.xe e s'
abbrev US:=En->Sg->Gp->Prop
def lS (X:Cx)(t:US):L2.TS:=λD σ H=>∃De ς G,SR X.K H ς σ/\HR X.K H G/\t De ς G/\LD X H G De D
section
variable {X:Cx}{H H1:Hp}{G G1:Gp}{De:En}{D:Ends}{ς:Sg}{σ:St}
theorem LD.fr (h:LD X H G De D)(f:Fr H G H1 G1):LD X H1 G1 De D:=
 ⟨λς' σ' G' H' a b c=>h.nx ς' σ' G' H' a b (f.trans c),λw v G' H' a b c=>h.rt w v G' H' a b (f.trans c),λpins e s' x ς' σ' G' H' i a b c d=>h.ex pins e s' x ς' σ' G' H' i a b c (f.trans d)⟩
theorem LD.lx (h:LD X H G De D)(hς:SR X.K H ς σ)(hG:HR X.K H G):LX X σ H G λx G1=>De.ex x ς G1:=λpins e s' x G' H' I a hr f q=>h.ex pins e s' x ς σ G' H' I (hς.ts (f.ts hG)) a hr f q
theorem LD.here (h:LD X H G De D)(hς:SR X.K H ς σ)(hG:HR X.K H G)(q:De.nx ς G):D.nx σ H:=h.nx ς σ G H hς hG (Fr.refl _ _) q
theorem LD.with {k:Sg->Gp->Prop}{D':Ends}(h:LD X H G De D)(hn:∀ς' σ' G' H',SR X.K H' ς' σ'->HR X.K H' G'->Fr H G H' G'->k ς' G'->D'.nx σ' H')(hr:D'.rt=D.rt):LD X H G { De with nx:=k } D':=
 ⟨hn,λw v G' H' a b c d=>by rw[hr];exact h.rt w v G' H' a b c d,h.ex⟩
end
section
variable {X:Cx}{st:Stmt}{rest:List Stmt}{pos:Pos}{e:Expr}{te:UE}{t u:US}
theorem s_nil:PSs X [] (lS X λD ς G=>D.nx ς G):=jjG.imp λD σ H ⟨De,ς,G,hς,hG,h,ld⟩=>ld.here hς hG h
theorem s_cons (h1:PS X st (lS X t))(h2:PSs X rest (lS X u)):PSs X (st::rest) (lS X λD ς G=>t { D with nx:=λς' G'=>u D ς' G' } ς G):=by
 refine(jhW h1 h2).imp λD σ H ⟨De,ς,G,hς,hG,h,ld⟩=>?_;exact⟨_,ς,G,hς,hG,h,ld.with (λς' σ' G' H' a b c d=>⟨De,ς',G',a,b,d,ld.fr c⟩) rfl⟩
theorem s_expr (he:PE X e (lE X te))(hs:YcP e none pos.line X.env=pure false):PS X (.Expr e pos) (lS X λD ς G=>te ς G (λ_ G1=>D.nx ς G1) λx G1=>D.ex x ς G1):=
 (jjH he hs).imp λD σ H ⟨De,ς,G,hς,hG,h,ld⟩=>⟨ς,G,_,_,hς,hG,h,λw v G' H' _ hr f q=>ld.nx ς σ G' H' (hς.ts (f.ts hG)) hr f q,ld.lx hς hG⟩
theorem s_ret (he:PE X e (lE X te)):PS X (.Return (some e) pos) (lS X λD ς G=>te ς G D.rt λx G1=>D.ex x ς G1):=
 (jlF he).imp λD σ H ⟨De,ς,G,hς,hG,h,ld⟩=>⟨ς,G,_,_,hς,hG,h,λw v G' H' r hr f q=>ld.rt w v G' H' r hr f q,ld.lx hς hG⟩
theorem s_if {c:Expr}{a b:List Stmt}{tc:UT}(hc:PT X c (lT X tc))(ha:PSs X a (lS X t))(hb:PSs X b (lS X u)):PS X (.If c a b pos) (lS X λD ς G=>tc ς G (λx G1=>if x=true then t D ς G1 else u D ς G1) λx G1=>D.ex x ς G1):=by
 refine(jol hc ha hb).imp λD σ H ⟨De,ς,G,hς,hG,h,ld⟩=>⟨ς,G,_,_,hς,hG,h,λb G' H' hr f q=>?_,ld.lx hς hG⟩;cases b with
 |true=>rw[if_pos rfl]at q ⊢;exact⟨De,ς,G',hς.ts (f.ts hG),hr,q,ld.fr f⟩
 |false=>rw[if_neg Yak]at q ⊢;exact⟨De,ς,G',hς.ts (f.ts hG),hr,q,ld.fr f⟩
theorem jkW {g:Tg}{D:Ends}{σ:St}{H:Hp}(h:lS X (λD ς G=>te ς G (λu G1=>tgU g u ς λς'=>D.nx ς' G1) λx G1=>D.ex x ς G1) D σ H) :
  lE X te σ H λx H1=>lG X.K (tgU g) x σ H1 D.nx:=by
 obtain⟨De,ς,G,hς,hG,h,ld⟩:=h;exact⟨ς,G,_,_,hς,hG,h,λw v G' H' r hr f q=>⟨w,ς,_,r,hς.ts (f.ts hG),q,λς' σ' hs hk=>ld.nx ς' σ' G' H' hs hr f hk⟩,ld.lx hς hG⟩
theorem s_unp {ts:Tgs}{es:List Expr}{k n:Nat}{p:Pos}(hc:X.calm=true)(he:PE X e (lE X te))(hg:PGs X es (lGs X.K (tgsU ts)))(hn:(YaZ es X.env).length=n)(hst:(YaZ es X.env).findIdx? (·.1)=none)(hl:∀us ς k,tgsU ts us ς k->us.length=n)
  (hs:Ybm [.Tuple es k p] e pos.line X.env=pure false) (hw:Ybc [.Tuple es k p] e X.env=pure none) (h1:(YaZ [.Tuple es k p] X.env).map (·.2)=[assign (.Tuple es k p) X.env]) :
  PS X (.Assign [.Tuple es k p] e pos) (lS X λD ς G=>te ς G (λu G1=>unpU ts u G1 ς λς'=>D.nx ς' G1) λx G1=>D.ex x ς G1):=by
 refine(jgD he (jlQ hc hg hn hst) hs hw h1).imp λD σ H h=>?_;obtain⟨De,ς,G,hς,hG,h,ld⟩:=h;refine⟨ς,G,_,_,hς,hG,h,λw v G' H' r hr f q=>?_,ld.lx hς hG⟩;cases w with
 |loc a=>
  cases r;unfold unpU at q;dsimp only at q;split at q
  ·rename_i us eu;obtain⟨vs,sq,rs⟩:=hr.ls eu;exact⟨a,vs,rfl,sq,by rw[<- rs.length];exact hl _ _ _ q,us,ς,_,rs,hς.ts (f.ts hG),q,λς' σ' hs hk=>ld.nx ς' σ' G' H' hs hr f hk⟩
  ·exact q.elim
 |_=>exact q.elim
theorem s_asg {tg:Expr}{g:Tg}(he:PE X e (lE X te))(hg:PG X tg (lG X.K (tgU g)))(hs:Ybm [tg] e pos.line X.env=pure false)(hw:Ybc [tg] e X.env=pure none)
  (h1:(YaZ [tg] X.env).map (·.2)=[assign tg X.env]):PS X (.Assign [tg] e pos) (lS X λD ς G=>te ς G (λu G1=>tgU g u ς λς'=>D.nx ς' G1) λx G1=>D.ex x ς G1):=
 (jgD he hg hs hw h1).imp λ_ _ _ h=>jkW h
theorem s_lc {i:Nat}{y:Str}{py spos:Pos}{tg iter elt:Expr}{ifs:List Expr}{pick:List (Option Nat)}{N:List Str}{scope:Scope}{ti:UI}{g:Tg}{tc:Sg->Gp->(Bool->Gp->Prop)->Prop}
  (hN:X.N.Nodup) (hi':X.N[i]?=some y) (hy:X.env.scope.names.lookup y=some .local) (hc:X.calm=true) (S:CScope X N pick scope) (hw:PI X tg iter (lI X ti)) (hp:(tgS g).all (λi=>(pick[i]?).join.isNone)=true)
  (hg:∀cl C s₀ H₀ fp,PG (jam X N scope cl C s₀ H₀ fp) tg (lG X.K (tgU g))) (hi:∀cl C s₀ H₀ fp,PIfs (jam X N scope cl C s₀ H₀ fp) ifs (lT0 X.K tc)) (he:∀cl C s₀ H₀ fp,PE (jam X N scope cl C s₀ H₀ fp) elt (lE0 X.K te))
  (hsw:YcP (.ListComp elt [⟨tg,iter,ifs,0⟩] scope pos) (some (.Name y py)) spos.line X.env=pure true) (hs:∀x,Ya4 iter X.env x=pure x) :
  PS X (.Assign [.Name y py] (.ListComp elt [⟨tg,iter,ifs,0⟩] scope pos) spos) (lS X λD ς G=>lcD pick ti g tc te ς G (λu G1=>tgU (.n i) u ς λς'=>D.nx ς' G1) λx G1=>D.ex x ς G1):=by
 refine(jok hN hi' hy hc S hw hg hi he hsw hs).imp λD σ H h=>?_;obtain⟨De,ς,G,hς,hG,h,ld⟩:=h;exact jiU hp ⟨ς,G,_,_,hς,hG,h,λw v G' H' r hr f q=>ld.nx _ _ G' H' ((hς.ts (f.ts hG)).set r i) hr f q,ld.lx hς hG⟩
def jlA:TSet:=λo i v H Q=>∃a H',o=.ref a/\DPut H a i v H'/\Q H'
theorem jhM (hu:X.A.units+1<cLine):PSet X jlA:=by
 intro pins s σ H o i v ov iv u Q I ro ri rv h;obtain⟨a,H',rfl,g,q⟩:=h;cases ro;exact jhv hu I g ri rv λs' I'=>⟨H',I',q⟩
theorem _root_.L2.PSet.or {t t':TSet}(h:PSet X t)(h':PSet X t'):PSet X λo i v H Q=>t o i v H Q\/t' o i v H Q:=by
 intro pins s σ H o i v ov iv u Q I ro ri rv q;rcases q with q|q
 ·exact h pins s σ H o i v ov iv u Q I ro ri rv q
 ·exact h' pins s σ H o i v ov iv u Q I ro ri rv q
theorem jjy {H:Hp}{G:Gp}{x y w:U}{v v' v'':V}{k:Gp->Prop}{Q0:Hp->Prop}(rx:RU X.K H x v)(ry:RU X.K H y v')(rw':RU X.K H w v'')(hG:HR X.K H G)(h:setU x y w G k)
  (q:∀G' H',HR X.K H' G'->Fr H G H' G'->k G'->Q0 H'):jlz v v' v'' H Q0\/jlA v v' v'' H Q0:=by
 cases x with
 |loc a=>
  cases rx;unfold setU at h;dsimp only at h;split at h
  ·rename_i xs g;obtain⟨vs,e,rs⟩:=hG.lst g;cases y with
   |int i=>
    cases ry;dsimp only at h;split at h
    ·rename_i j ej;refine .inl ⟨a,vs,i,j,rfl,rfl,e,by rw[<- rs.length];exact ej,?_⟩
     exact q _ _ (hG.write (mo':=.lst (xs.set j w)) g ⟨_,jao,(rs.set rw' j).ts (TS.write hG g)⟩) (Fr.write g) h.at
    ·exact h.elim
   |_=>exact h.elim
  ·rename_i kvs g;obtain⟨l,e,rs⟩:=hG a _ g;split at h
   ·rename_i k' ek;have:=je0 ry ek;subst this;refine .inr ⟨a,_,rfl,DPut.k e (by rw[<- rs.length];exact h.1),?_⟩
    exact q _ _ (hG.write (mo':=.dK (dPut kvs k' w)) g ⟨_,jao,(rs.put rw').ts (TS.write hG g)⟩) (Fr.write g) h.2.at
   ·exact h.elim
  ·rename_i kvs g;obtain⟨l,e,rs⟩:=hG a _ g;cases y with
   |tup ys=>
    obtain⟨b,ws,rfl,eb,rb⟩:=ry;dsimp only at h;split at h
    ·rename_i k' ek;have:=jfC rb ek;subst this;refine .inr ⟨a,_,rfl,DPut.t e eb (by rw[<- rs.length];exact h.1),?_⟩
     exact q _ _ (hG.write (mo':=.dT (dPut kvs k' w)) g ⟨_,jao,(rs.put rw').ts (TS.write hG g)⟩) (Fr.write g) h.2.at
    ·exact h.elim
   |_=>exact h.elim
  ·exact h.elim
 |_=>exact h.elim
theorem s_set {o i:Expr}{to ti:UE}{tpos:Pos}(hu:X.A.units+1<cLine)(he:PE X e (lE X te))(ho:PE X o (lE X to))(hi:PE X i (lE X ti))(hs:Ybm [.Subscript o i tpos] e pos.line X.env=pure false)(hw:Ybc [.Subscript o i tpos] e X.env=pure none)
  (h1:(YaZ [.Subscript o i tpos] X.env).map (·.2)=[assign (.Subscript o i tpos) X.env]) (ha:∀v,assign (.Subscript o i tpos) X.env v=(do
   let ov <- holding [v] (eval o X.env)
   let iv <- holding [v,ov] (eval i X.env)
   standAt tpos
   holding [v,ov,iv] (setItem ov iv v)
   release [v,ov,iv] [])):PS X (.Assign [.Subscript o i tpos] e pos) (lS X λD ς G=>te ς G (λv G1=>to ς G1 (λx G2=>ti ς G2 (λy G3=>setU x y v G3 λG4=>D.nx ς G4) λx G1=>D.ex x ς G1) λx G1=>D.ex x ς G1) λx G1=>D.ex x ς G1):=by
 refine(jgD he (jlP ho hi (PSet.or jhL (jhM hu)) ha) hs hw h1).imp λD σ H ⟨De,ς,G,hς,hG,h,ld⟩=>?_;refine⟨ς,G,_,_,hς,hG,h,λw v G1 H1 rw' hG1 f1 h1=>?_,ld.lx hς hG⟩;have hς1:=hς.ts (f1.ts hG);refine⟨ς,G1,_,_,hς1,hG1,h1,λx vx G2 H2 rx hG2 f2 h2=>?_,(ld.fr f1).lx hς1 hG1⟩;have hς2:=hς1.ts (f2.ts hG1);refine⟨ς,G2,_,_,hς2,hG2,h2,λy vy G3 H3 ry hG3 f3 h3=>?_,(ld.fr (f1.trans f2)).lx hς2 hG2⟩;have hς3:=hς2.ts (f3.ts hG2);exact jjy (rx.ts (f3.ts hG2)) ry ((rw'.ts (f2.ts hG1)).ts (f3.ts hG2)) hG3 h3 λG' H' hr f q=>ld.nx ς σ G' H' (hς3.ts (f.ts hG3)) hr (((f1.trans f2).trans f3).trans f) q
def IpU (X:Cx)(o:YbK):Prop:=∃r:TIp,PIp X o r/\∀x y v v' G H Q Q0,RU X.K H x v->RU X.K H y v'->HR X.K H G->jhd o x y G Q->LV X H G Q Q0->r v v' H Q0
theorem jmK (o:YbK):IpU X o:=by
 cases o with
 |Add=>
  refine⟨_,(OpR.or (jkC (X:=X)) je1),λx y v v' G H Q Q0 rx ry hG h lv=>?_⟩;cases x<;>try exact h.elim
  ·cases y<;>try exact h.elim
   cases rx;cases ry;exact .inl ⟨_,_,rfl,rfl,lv.int hG h⟩
  ·cases y<;>try exact h.elim
   cases rx;cases ry;exact .inr ⟨_,_,rfl,rfl,h.1,lv.str hG h.2⟩
 |Sub=>
  refine⟨_,jkA (X:=X),λx y v v' G H Q Q0 rx ry hG h lv=>?_⟩;cases x<;>try exact h.elim
  cases y<;>try exact h.elim
  cases rx;cases ry;exact⟨_,_,rfl,rfl,lv.int hG h⟩
 |Mult=>
  refine⟨_,jkB (X:=X),λx y v v' G H Q Q0 rx ry hG h lv=>?_⟩;cases x<;>try exact h.elim
  cases y<;>try exact h.elim
  cases rx;cases ry;exact⟨_,_,rfl,rfl,h.1,lv.int hG h.2⟩
 |_=>exact⟨λ_ _ _ _=>False,λ_ _ _ _ _ _ _ _ _ _ _ _ h=>h.elim,λ_ _ _ _ _ _ _ _ _ _ _ h _=>h.elim⟩
theorem s_aug {i:Nat}{x:Str}{o:YbK}{pos':Pos}(hN:X.N.Nodup)(hi:X.N[i]?=some x)(hx:Loc X.env.scope x)(hf:X.fn x=true\/X.env.scope.names.lookup x=some .local)(he:PE X e (lE X te)) :
  PS X (.AugAssign (.Name x pos') o e pos) (lS X λD ς G=>slot ς i λx=>te ς G (λy G1=>jhd o x y G1 λz G2=>D.nx (ς.set i (some z)) G2) λx G1=>D.ex x ς G1):=by
 obtain⟨r,h1,h2⟩:=jmK (X:=X) o;refine(jlK hN hi hx he h1 hf).imp λD σ H ⟨De,ς,G,hς,hG,h,ld⟩=>?_;dsimp only at h;unfold slot at h;split at h
 ·rename_i u eu;obtain⟨v,ev,ru⟩:=hς.2 i u eu;refine⟨v,ev,ς,G,_,_,hς,hG,h,λy vy G1 H1 ry hG1 f1 h1=>?_,ld.lx hς hG⟩;exact h2 u y v vy G1 H1 _ _ (ru.ts (f1.ts hG)) ry hG1 h1 λw vw G2 H2 rw' hr2 f2 q=>ld.nx _ _ G2 H2 (((hς.ts (f1.ts hG)).ts (f2.ts hG1)).set rw' i) hr2 (f1.trans f2) q
 ·exact h.elim
theorem _root_.L2.PGet.or {t t':V->V->Hp->VK->Prop}(h:PGet X t)(h':PGet X t'):PGet X λo i H Q=>t o i H Q\/t' o i H Q:=by
 intro pins s σ H o i ov iv Q I ro ri q;rcases q with q|q
 ·exact h pins s σ H o i ov iv Q I ro ri q
 ·exact h' pins s σ H o i ov iv Q I ro ri q
theorem s_par2 {i j:Nat}{x y:Str}{a b:Expr}{ts:UA}{px py pt:Pos}{kt k2 pt2}(hc:X.calm=true)(hN:X.N.Nodup)(hi:X.N[i]?=some x)(hj:X.N[j]?=some y)(hij:i≠j)
  (hx:X.env.scope.names.lookup x=some .local) (hy:X.env.scope.names.lookup y=some .local) (ha:PA X [a,b] (lA X ts))
  (hw:Ybc [.Tuple [.Name x px,.Name y py] kt pt] (.Tuple [a,b] k2 pt2) X.env=pure (some [x,y])) (hs:Ybm [.Tuple [.Name x px,.Name y py] kt pt] (.Tuple [a,b] k2 pt2) pos.line X.env=pure false) :
  PS X (.Assign [.Tuple [.Name x px,.Name y py] kt pt] (.Tuple [a,b] k2 pt2) pos) (lS X λD ς G=>ts ς G (λus G1=>us.length=[i,j].length/\D.nx (([i,j].zip us).foldl (λs p=>s.set p.1 (some p.2)) ς) G1) λx G1=>D.ex x ς G1):=by
 refine(jlG hc hN hi hj hij hx hy ha hw hs).imp λD σ H ⟨De,ς,G,hς,hG,h,ld⟩=>?_;refine⟨ς,G,_,_,hς,hG,h,λus vs G1 H1 rs hG1 f1 h1=>?_,ld.lx hς hG⟩;obtain⟨h1,h2⟩:=h1
 match us,h1,h2,rs with
 |[u,w],_,h2,rs=>
  obtain⟨v,v',rfl,r1,r2⟩:=rs.two;exact⟨v,v',rfl,ld.nx _ _ G1 H1 (((hς.ts (f1.ts hG)).set r1 i).set r2 j) hG1 f1 h2⟩
theorem s_for {tg iter:Expr}{body:List Stmt}{ti:UI}{g:Tg}{tb:US}(hp:YdI (model X.prog X.w) X.A X.env X.xe)(hc:X.calm=true)(hi:PI X tg iter (lI X ti))(hg:PG X tg (lG X.K (tgU g)))(hb:PSs X body (lS X tb))
  (hs:∀x,Ya4 iter X.env x=pure x):PS X (.For tg iter body [] pos) (lS X λD ς G=>ti ς G (λxs ok G1=>forL ok (λx ς1 G2 k=>tgU g x ς1 λς2=>tb { D with nx:=k } ς2 G2) xs ς G1 D.nx) λx G1=>D.ex x ς G1):=by
 refine(jlJ hp hc hi hg hb hs).imp λD σ H ⟨De,ς,G,hς,hG,h,ld⟩=>?_;refine⟨ς,G,_,_,hς,hG,h,λxs ok G1 H1 J hG1 f1 wk h1=>?_,ld.lx hς hG⟩;refine⟨λi m σ' H'=>m=xs.length-i/\i<=xs.length/\∃ς' G',SR X.K H' ς' σ'/\HR X.K H' G'/\Fr H1 G1 H' G'/\forL ok (λx ς1 G2 k=>tgU g x ς1 λς2=>tb { De with nx:=k } ς2 G2) (xs.drop i) ς' G' De.nx,⟨xs.length,by simp,Ybj _,ς,G1,hς.ts (f1.ts hG),hG1,Fr.refl _ _,by simpa using h1⟩,?_⟩
 rintro i m σ' H' ⟨rfl,hi',ς',G',sr,hr,f,hc'⟩;by_cases hlt:i<xs.length
 ·rw[YaU hlt]at hc';obtain⟨hok,hb'⟩:=hc';obtain⟨w1,_⟩:=wk i H' G' (f.ts hG1) hr hok;obtain⟨go,yl⟩:=w1 xs[i] (by simp[hlt])
  refine .inr ⟨go,λσ2 H2=>∃ς2 G2,SR X.K H2 ς2 σ2/\HR X.K H2 G2/\Fr H1 G1 H2 G2/\forL ok (λx ς1 G2 k=>tgU g x ς1 λς2=>tb { De with nx:=k } ς2 G2) (xs.drop (i+1)) ς2 G2 De.nx,λσ2 H2 q=>⟨xs.length-(i+1),by omega,rfl,hlt,q⟩,λv H'' y=>?_⟩
  obtain⟨rx,hr2,f2⟩:=yl v H'' y;refine⟨xs[i],ς',_,rx,sr.ts (f2.ts hr),hb',λς2 σ2 hs2 hk=>?_⟩;have f3:=(f1.trans f).trans f2;refine⟨_,ς2,G',hs2,hr2,hk,(ld.fr f3).with (λς3 σ3 G3 H3 a b c d=>⟨ς3,G3,a,b,(f.trans f2).trans c,d⟩) rfl⟩
 ·have e:i=xs.length:=by omega
  subst e;rw[YfJ]at hc';obtain⟨hok,q⟩:=hc';exact .inl ⟨(wk xs.length H' G' (f.ts hG1) hr hok).2 rfl,ld.nx ς' σ' G' H' sr hr (f1.trans f) q⟩
theorem s_wh {c:Expr}{body:List Stmt}{tc:UT}{tb:US}(hp:YdI (model X.prog X.w) X.A X.env X.xe)(hc:PT X c (lT X tc))(hb:PSs X body (lS X tb)) :
  PS X (.While c body [] pos) (lS X λD ς G=>∃W:Nat->Sg->Gp->Prop,(∃m,W m ς G)/\∀m ς1 G1,W m ς1 G1->
   tc ς1 G1 (λt G2=>if t=true then tb { D with nx:=λς' G'=>∃m',m'<m/\W m' ς' G' } ς1 G2 else D.nx ς1 G2) λx G1=>D.ex x ς1 G1):=by
 refine(jhX hp hc hb).imp λD σ H ⟨De,ς,G,hς,hG,h,ld⟩=>?_;obtain⟨W,⟨m0,w0⟩,turn⟩:=h;refine⟨λm σ' H'=>∃ς' G',SR X.K H' ς' σ'/\HR X.K H' G'/\Fr H G H' G'/\W m ς' G',⟨m0,ς,G,hς,hG,Fr.refl _ _,w0⟩,?_⟩;rintro m σ' H' ⟨ς',G',sr,hr,f,w⟩;refine⟨ς',G',_,_,sr,hr,turn m ς' G' w,λb G2 H2 hr2 f2 q=>?_,(ld.fr f).lx sr hr⟩;cases b with
 |true=>
  rw[if_pos rfl]at q ⊢;refine⟨λσ3 H3=>∃ς3 G3,SR X.K H3 ς3 σ3/\HR X.K H3 G3/\Fr H G H3 G3/\∃m',m'<m/\W m' ς3 G3,λσ3 H3 ⟨ς3,G3,a,b,c,m',hm,w'⟩=>⟨m',hm,ς3,G3,a,b,c,w'⟩,?_⟩;exact⟨_,ς',G2,sr.ts (f2.ts hr),hr2,q,(ld.fr (f.trans f2)).with (λς3 σ3 G3 H3 a b c d=>⟨ς3,G3,a,b,(f.trans f2).trans c,d⟩) rfl⟩
 |false=>
  rw[if_neg Yak]at q ⊢;exact ld.nx ς' σ' G2 H2 (sr.ts (f2.ts hr)) hr2 (f.trans f2) q
end
structure Ctx where
 N:List Str
 sc:List (Str×Ybu)
noncomputable def kd (c:Ctx)(x:Str)(k:Ybu):Bool:=c.sc.lookup x==some k
noncomputable def glo (c:Ctx)(x:Str):Bool:=kd c x .globalImplicit && !(x==("__debug__" : Str))
noncomputable def nm1:Expr->List Str
 |.Name x _=>[x]
 |_=>[]
noncomputable def nm2:Expr->List Str
 |.Tuple es _ _=>es.flatMap nm1
 |e=>nm1 e
noncomputable def jeO:Expr->List Str
 |.Tuple es _ _=>es.flatMap nm2
 |e=>nm1 e
noncomputable def jgq:List String:=["bool", "int", "str", "list", "tuple", "dict"]
noncomputable def cOkS (c:Ctx)(N:List Str)(pick:List (Option Nat))(scope:Scope):Bool:=
 decide (scope.kind=.function)&&scope.names.all (λy=>y.2 != .cell||scope.names.lookup y.1==some .cell)&&scope.names.all (λy=>y.2 != .local||scope.names.lookup y.1==some .local)
  && scope.names.all (λy=>y.2 != .free||(scope.names.lookup y.1==some .free&&(kd c y.1 .cell||kd c y.1 .free)))
  && pick.length==N.length&&(N.zip pick).all (λp=>match p.2 with|none=>true|some j=>c.N[j]?==some p.1&&scope.names.lookup p.1==some .free)&&decide N.Nodup
noncomputable def jfx:Expr->Bool
 |.Call (.Name _ _) [] [] _=>false
 |_=>true
noncomputable def e0:Expr:=.Name "" ⟨0,0,0,0⟩
noncomputable def hd:List Expr->Expr
 |[]=>e0
 |e::_=>e
noncomputable def c0:Expr->Expr
 |.BinOp l _ _ _=>l
 |.UnaryOp _ x _=>x
 |.IfExp t _ _ _=>t
 |.Compare l _ _ _=>l
 |.Subscript v _ _=>v
 |.Attribute v _ _=>v
 |.Call f _ _ _=>f
 |.ListComp e _ _ _=>e
 |.FormattedValue v _ _ _=>v
 |_=>e0
noncomputable def c1:Expr->Expr
 |.BinOp _ _ r _=>r
 |.IfExp _ b _ _=>b
 |.Subscript _ s _=>s
 |_=>e0
noncomputable def c2:Expr->Expr
 |.IfExp _ _ b _=>b
 |_=>e0
noncomputable def cl:Expr->List Expr
 |.BoolOp _ vs _=>vs
 |.Compare _ _ vs _=>vs
 |.Call _ vs _ _=>vs
 |.List vs _=>vs
 |.Tuple vs _ _=>vs
 |.Dict _ vs _=>vs
 |.JoinedStr vs _=>vs
 |_=>[]
noncomputable def kw0:Expr->Keyword
 |.Call _ _ (k::_) _=>k
 |_=>⟨none,e0,⟨0,0,0,0⟩⟩
noncomputable def kk:Expr->Nat
 |.Constant _ k _=>k
 |.Tuple _ k _=>k
 |_=>0
noncomputable def oe:Option Expr->Expr
 |some e=>e
 |none=>e0
noncomputable def dk:Expr->List Expr
 |.Dict ks _ _=>ks.map oe
 |_=>[]
noncomputable def gen1:Expr->YbB
 |.ListComp _ (g::_) _ _=>g
 |_=>⟨e0,e0,[],0⟩
noncomputable def gen2:Expr->YbB
 |.ListComp _ (_::g::_) _ _=>g
 |_=>⟨e0,e0,[],0⟩
noncomputable def scp:Expr->Scope
 |.ListComp _ _ s _=>s
 |_=>⟨.module,[],false,false,[]⟩
noncomputable def s0:Expr->Expr
 |.Slice (some e) _ _ _=>e
 |_=>e0
noncomputable def s1:Expr->Expr
 |.Slice _ (some e) _ _=>e
 |_=>e0
noncomputable def s2:Expr->Expr
 |.Slice _ _ (some e) _=>e
 |_=>e0
noncomputable def nmA (c:Ctx)(i:Nat):Str:=c.N.getD i ""
noncomputable def boU:Bool->PySem.BoolOp
 |true=>.And
 |false=>.Or
noncomputable def lh1 (h:Expr):Expr:=hd (cl h).tail
noncomputable def lh2 (h:Expr):Expr:=hd (cl h).tail.tail
noncomputable def jbX:Es->Nat
 |.nil=>0
 |.cons _ es=>jbX es+1
noncomputable def jd6:Tgs->Nat
 |.nil=>0
 |.cons _ ts=>jd6 ts+1
noncomputable def isT:Tg->Bool
 |.t _=>true
 |.n _=>false
noncomputable def isLc:E->Bool
 |.lc ..=>true
 |.lc2 ..=>true
 |_=>false
noncomputable def cc (c:Ctx)(pick:List (Option Nat))(h:Expr):Ctx:=⟨jeO (gen1 h).target++(pick.filterMap id).filterMap (λj=>c.N[j]?),(scp h).names⟩
noncomputable def cc2 (c:Ctx)(pick:List (Option Nat))(h:Expr):Ctx:=⟨jeO (gen1 h).target++jeO (gen2 h).target++(pick.filterMap id).filterMap (λj=>c.N[j]?),(scp h).names⟩
mutual
noncomputable def unTg (c:Ctx):Tg->Expr->Expr
 |.n i,h=>.Name (nmA c i) h.pos
 |.t ts,h=>.Tuple (jdJ c ts (cl h)) (kk h) h.pos
noncomputable def jdJ (c:Ctx):Tgs->List Expr->List Expr
 |.nil,_=>[]
 |.cons t ts,hs=>unTg c t (hd hs)::jdJ c ts hs.tail
end
noncomputable def okN (c:Ctx)(i:Nat):Bool:=decide (i<c.N.length)&&(kd c (nmA c i) .local||kd c (nmA c i) .cell)
mutual
noncomputable def okTg (c:Ctx):Tg->Bool
 |.n i=>okN c i
 |.t ts=>jik c ts
noncomputable def jik (c:Ctx):Tgs->Bool
 |.nil=>true
 |.cons t ts=>okTg c t&&jik c ts
end
section
variable (T:Tab)
noncomputable def fnN (n:Nat):Str:=match T.funs[n]? with
 |some d=>d.name
 |none => ""
mutual
noncomputable def unE (c:Ctx):E->Expr->Expr
 |.v i,h=>.Name (nmA c i) h.pos
 |.non,h=>.Constant .none (kk h) h.pos
 |.bl b,h=>.Constant (.bool b) (kk h) h.pos
 |.int i,h=>.Constant (.int i) (kk h) h.pos
 |.str x,h=>.Constant (.str x) (kk h) h.pos
 |.g n,h=>.Name (T.gn.getD n "") h.pos
 |.ty n,h=>.Name (YbH n) h.pos
 |.bin o a b,h=>.BinOp (unE c a (c0 h)) o (unE c b (c1 h)) h.pos
 |.neg a,h=>.UnaryOp .USub (unE c a (c0 h)) h.pos
 |.not a,h=>.UnaryOp .Not (unE c a (c0 h)) h.pos
 |.bop k a es,h=>.BoolOp (boU k) (unE c a (hd (cl h))::unEs c es (cl h).tail) h.pos
 |.cmp o a b,h=>.Compare (unE c a (c0 h)) [o] [unE c b (hd (cl h))] h.pos
 |.cmp2 o p a b d,h=>.Compare (unE c a (c0 h)) [o,p] [unE c b (hd (cl h)),unE c d (hd (cl h).tail)] h.pos
 |.ife t a b,h=>.IfExp (unE c t (c0 h)) (unE c a (c1 h)) (unE c b (c2 h)) h.pos
 |.tup es,h=>.Tuple (unEs c es (cl h)) (kk h) h.pos
 |.lst es,h=>.List (unEs c es (cl h)) h.pos
 |.dic es,h=>.Dict (unK c es (dk h)) (unV c es (cl h)) h.pos
 |.dicT,h=>.Dict [] [] h.pos
 |.ix a b,h=>.Subscript (unE c a (c0 h)) (unE c b (c1 h)) h.pos
 |.sl a lo hi,h=>.Subscript (unE c a (c0 h)) (.Slice (unO c lo (s0 (c1 h))) (unO c hi (s1 (c1 h))) none (c1 h).pos) h.pos
 |.rev a b,h=>.Subscript (unE c a (c0 h)) (.Slice none none (some (unE c b (s2 (c1 h)))) (c1 h).pos) h.pos
 |.call n es,h=>.Call (.Name (fnN T n) (c0 h).pos) (unEs c es (cl h)) [] h.pos
 |.app i es,h=>.Call (.Name (nmA c i) (c0 h).pos) (unEs c es (cl h)) [] h.pos
 |.blt b es,h=>.Call (.Name (bltN b) (c0 h).pos) (unEs c es (cl h)) [] h.pos
 |.meth m o es,h=>.Call (.Attribute (unE c o (c0 (c0 h))) (mthN m) (c0 h).pos) (unEs c es (cl h)) [] h.pos
 |.lc pick t it ifs d,h=>.ListComp (unE (cc c pick h) d (c0 h)) [⟨unTg (cc c pick h) t (gen1 h).target,unI c it (gen1 h).iter,unEs (cc c pick h) ifs (gen1 h).ifs,0⟩] (scp h) h.pos
 |.lc2 pick t it ifs t2 it2 ifs2 d,h=>.ListComp (unE (cc2 c pick h) d (c0 h)) [⟨unTg (cc2 c pick h) t (gen1 h).target,unI c it (gen1 h).iter,unEs (cc2 c pick h) ifs (gen1 h).ifs,0⟩,⟨unTg (cc2 c pick h) t2 (gen2 h).target,unI (cc2 c pick h) it2 (gen2 h).iter,unEs (cc2 c pick h) ifs2 (gen2 h).ifs,0⟩] (scp h) h.pos
 |.fst es,h=>.JoinedStr (unF c es (cl h)) h.pos
 |.lrp d i y a b es,h=>.List (unE c d (hd (cl h))::.BinOp (.Constant (.str y) (kk (c0 (lh1 h))) (c0 (lh1 h)).pos) .Add (.Name (nmA c i) (c1 (lh1 h)).pos) (lh1 h).pos::
   .Call (.Attribute (.Name (nmA c i) (c0 (c0 (lh2 h))).pos) "replace" (c0 (lh2 h)).pos) [.Constant (.str a) (kk (hd (cl (lh2 h)))) (hd (cl (lh2 h))).pos,.Constant (.str b) (kk (lh1 (lh2 h))) (lh1 (lh2 h)).pos,.Constant (.int 1) (kk (lh2 (lh2 h))) (lh2 (lh2 h)).pos] [] (lh2 h).pos::unEs c es (cl h).tail.tail.tail) h.pos
 |.sset d,h=>.Call (.Name "sorted" (c0 h).pos) [.Call (.Name "set" (c0 (hd (cl h))).pos) [unE c d (hd (cl (hd (cl h))))] [] (hd (cl h)).pos] [] h.pos
 |.mkD d,h=>.Call (.Name "list" (c0 h).pos) [unE c d (hd (cl h))] [] h.pos
 |.maxD d,h=>.Call (.Name "max" (c0 h).pos) [unE c d (hd (cl h))] [⟨some "default",.Constant (.int 0) (kk (kw0 h).value) (kw0 h).value.pos,(kw0 h).pos⟩] h.pos
 |.minD d,h=>.Call (.Name "min" (c0 h).pos) [unE c d (hd (cl h))] [⟨some "default",.Constant .none (kk (kw0 h).value) (kw0 h).value.pos,(kw0 h).pos⟩] h.pos
 |.mkL d,h=>.Call (.Name "list" (c0 h).pos) [unE c d (hd (cl h))] [] h.pos
 |.mkT d,h=>.Call (.Name "tuple" (c0 h).pos) [unE c d (hd (cl h))] [] h.pos
 |.rngL d,h=>.Call (.Name "list" (c0 h).pos) [.Call (.Name "range" (c0 (hd (cl h))).pos) [unE c d (hd (cl (hd (cl h))))] [] (hd (cl h)).pos] [] h.pos
 |.rngT d,h=>.Call (.Name "tuple" (c0 h).pos) [.Call (.Name "range" (c0 (hd (cl h))).pos) [unE c d (hd (cl (hd (cl h))))] [] (hd (cl h)).pos] [] h.pos
 |.rngL2 _ _,_=>e0
noncomputable def unO (c:Ctx):Eo->Expr->Option Expr
 |.no,_=>none
 |.so d,h=>some (unE c d h)
noncomputable def unEs (c:Ctx):Es->List Expr->List Expr
 |.nil,_=>[]
 |.cons d es,hs=>unE c d (hd hs)::unEs c es hs.tail
noncomputable def unK (c:Ctx):Es->List Expr->List (Option Expr)
 |.cons d (.cons _ es),hs=>some (unE c d (hd hs))::unK c es hs.tail
 |_,_=>[]
noncomputable def unV (c:Ctx):Es->List Expr->List Expr
 |.cons _ (.cons d es),hs=>unE c d (hd hs)::unV c es hs.tail
 |_,_=>[]
noncomputable def unF (c:Ctx):Es->List Expr->List Expr
 |.nil,_=>[]
 |.cons d es,hs=>(match d with
  |.str x=>.Constant (.str x) (kk (hd hs)) (hd hs).pos
  |d=>.FormattedValue (unE c d (c0 (hd hs))) (-1) none (hd hs).pos)::unF c es hs.tail
noncomputable def unI (c:Ctx):It->Expr->Expr
 |.e d,h=>unE c d h
 |.r1 d,h=>.Call (.Name "range" (c0 h).pos) [unE c d (hd (cl h))] [] h.pos
 |.r2 a b,h=>.Call (.Name "range" (c0 h).pos) [unE c a (hd (cl h)),unE c b (hd (cl h).tail)] [] h.pos
 |.enum d,h=>.Call (.Name "enumerate" (c0 h).pos) [unE c d (hd (cl h))] [] h.pos
 |.dk d,h=>unE c d h
 |.s d,h=>unE c d h
 |.dv d,h=>.Call (.Attribute (unE c d (c0 (c0 h))) "values" (c0 h).pos) [] [] h.pos
 |.di d,h=>.Call (.Attribute (unE c d (c0 (c0 h))) "items" (c0 h).pos) [] [] h.pos
 |.zp a b,h=>.Call (.Name "zip" (c0 h).pos) [unE c a (hd (cl h)),unE c b (hd (cl h).tail)] [] h.pos
end
mutual
noncomputable def okE (c:Ctx):E->Expr->Bool
 |.v i,_=>decide (i<c.N.length)&&(kd c (nmA c i) .local||kd c (nmA c i) .cell||kd c (nmA c i) .free) && !(nmA c i==("__debug__" : Str)) && !(nmA c i==("__classdict__" : Str))
 |.non,_=>true
 |.bl _,_=>true
 |.int _,_=>true
 |.str _,_=>true
 |.g n,_=>decide (n<T.gs.length)&&decide (n<T.gn.length)&&glo c (T.gn.getD n "")
 |.ty n,_=>jgq.contains n&&glo c (YbH n)
 |.bin _ a b,h=>okE c a (c0 h)&&okE c b (c1 h)
 |.neg a,h=>okE c a (c0 h)
 |.not a,h=>okE c a (c0 h)
 |.bop _ a es,h=>okE c a (hd (cl h))&&okEs c es (cl h).tail
 |.cmp o a b,h=>okE c a (c0 h)&&okE c b (hd (cl h)) && !behindInMarks o (unE T c b (hd (cl h)))
 |.cmp2 o p a b d,h=>okE c a (c0 h)&&okE c b (hd (cl h))&&okE c d (hd (cl h).tail) && !lastMarks [o,p] [unE T c b (hd (cl h)),unE T c d (hd (cl h).tail)]
 |.ife t a b,h=>okE c t (c0 h)&&okE c a (c1 h)&&okE c b (c2 h)
 |.tup es,h=>okEs c es (cl h)
 |.lst es,h=>okEs c es (cl h)
 |.dic es,h=>okD c es (dk h) (cl h)&&decide (jbX es<=30)
 |.dicT,_=>false
 |.ix a b,h=>okE c a (c0 h)&&okE c b (c1 h)
 |.sl a lo hi,h=>okE c a (c0 h)&&okO c lo (s0 (c1 h))&&okO c hi (s1 (c1 h))
 |.rev a b,h=>okE c a (c0 h)&&okE c b (s2 (c1 h))
 |.call n es,h=>decide (n<T.funs.length)&&glo c (fnN T n)&&okEs c es (cl h)
 |.app i es,h=>decide (i<c.N.length)&&(kd c (nmA c i) .local||kd c (nmA c i) .cell||kd c (nmA c i) .free) && !(nmA c i==("__debug__" : Str)) && !(nmA c i==("__classdict__" : Str))&&okEs c es (cl h)
 |.blt b es,h=>decide (0<jbX es)&&glo c (bltN b)&&okEs c es (cl h)
 |.meth _ o es,h=>okE c o (c0 (c0 h))&&okEs c es (cl h)&&((c0 h).pos.endLine==h.pos.line)&&decide (jbX es<30)&&jfx (unE T c o (c0 (c0 h)))
 |.lc pick t it ifs d,h=>cOkS c (cc c pick h).N pick (scp h)&&(tgS t).all (λi=>(pick[i]?).join.isNone)&&okTg (cc c pick h) t&&okI c t it (gen1 h).iter&&okEs (cc c pick h) ifs (gen1 h).ifs&&decide (jbX ifs<=1)&&okE (cc c pick h) d (c0 h)
 |.lc2 _ _ _ _ _ _ _ _,_=>false
 |.fst _,_=>false
 |.lrp _ _ _ _ _ _,_=>false
 |.sset _,_=>false
 |.mkD d,h=>glo c "list" && okE c d (hd (cl h))
 |.maxD _,_=>false
 |.minD _,_=>false
 |.mkL d,h=>glo c "list" && okE c d (hd (cl h))
 |.mkT d,h=>glo c "tuple" && okE c d (hd (cl h))
 |.rngL _,_=>false
 |.rngT _,_=>false
 |.rngL2 _ _,_=>false
noncomputable def okO (c:Ctx):Eo->Expr->Bool
 |.no,_=>true
 |.so d,h=>okE c d h
noncomputable def okEs (c:Ctx):Es->List Expr->Bool
 |.nil,_=>true
 |.cons d es,hs=>okE c d (hd hs)&&okEs c es hs.tail
noncomputable def okD (c:Ctx):Es->List Expr->List Expr->Bool
 |.nil,_,_=>true
 |.cons d (.cons f es),hs,gs=>okE c d (hd hs)&&okE c f (hd gs)&&okD c es hs.tail gs.tail
 |.cons _ .nil,_,_=>false
noncomputable def okF (c:Ctx):Es->List Expr->Bool
 |.nil,_=>true
 |.cons d es,hs=>(match d with
  |.str x=>decide (x.length<=10000)
  |d=>okE c d (c0 (hd hs)))&&okF c es hs.tail
noncomputable def okI (c:Ctx)(t:Tg):It->Expr->Bool
 |.e d,h=>okE c d h
 |.r1 d,h=>glo c "range" && okE c d (hd (cl h))
 |.r2 _ _,_=>false
 |.enum d,h=>isT t&&glo c "enumerate" && okE c d (hd (cl h))
 |.dk _,_=>false
 |.s d,h=>okE c d h
 |.dv d,h=>okE c d (c0 (c0 h))&&((c0 h).pos.endLine==h.pos.line)&&jfx (unE T c d (c0 (c0 h)))
 |.di d,h=>isT t&&okE c d (c0 (c0 h))&&((c0 h).pos.endLine==h.pos.line)&&jfx (unE T c d (c0 (c0 h)))
 |.zp _ _,_=>false
end
noncomputable def jiL (ts:List Expr):Nat:=(ts.head?.map (·.pos.line)).getD 0
noncomputable def jak (c:Ctx)(ts:List Expr):List Str:=ts.filterMap fun
  |.Name id pos=>if c.sc.lookup id==some .local&&pos.line==jiL ts then some id else none
  |_=>none
noncomputable def jfE:Expr->Bool
 |.Starred ..=>true
 |_=>false
noncomputable def swapped (c:Ctx)(ts vs:List Expr):Bool:=
 (ts.length==2||ts.length==3)&&vs.length==ts.length && !(vs.any jfE)&&(jak c ts).length==ts.length&&(jak c ts).eraseDups.length==(jak c ts).length && !(vs.all (Ye1 8)) && !(vs.all (constantsAlone 8))
noncomputable def jch (c:Ctx)(ts vs:List Expr):Bool:=
 !(ts.length==2||ts.length==3)||vs.length != ts.length||(!(vs.any jfE)&&((jak c ts).length != ts.length||(jak c ts).eraseDups.length != (jak c ts).length||vs.all (Ye1 8)))
noncomputable def lcSw (c:Ctx)(y:Str)(py p:Pos)(s:Scope):Bool:=c.sc.lookup y==some .local&&py.line==p.line && !(s.names.any λ(n,k)=>n==y&&(k == .local||k == .cell))
noncomputable def q0:Stmt->Expr
 |.Expr e _=>e
 |.Assign _ e _=>e
 |.Return (some e) _=>e
 |.AugAssign _ _ e _=>e
 |.If e _ _ _=>e
 |.While e _ _ _=>e
 |.For _ e _ _ _=>e
 |_=>e0
noncomputable def q1:Stmt->Expr
 |.Assign (t::_) _ _=>t
 |.AugAssign t _ _ _=>t
 |.For t _ _ _ _=>t
 |_=>e0
noncomputable def qr:Stmt->Expr
 |.Raise (some e) _ _=>e
 |_=>e0
noncomputable def hTy:Stmt->Expr
 |.Try _ (.ExceptHandler (some t) _ _ _::_) _ _ _=>t
 |_=>e0
noncomputable def hBd:Stmt->List Stmt
 |.Try _ (.ExceptHandler _ _ b _::_) _ _ _=>b
 |_=>[]
noncomputable def hPs:Stmt->Pos
 |.Try _ (.ExceptHandler _ _ _ p::_) _ _ _=>p
 |_=>⟨0,0,0,0⟩
noncomputable def qa:Stmt->List Stmt
 |.Try a _ _ _ _=>a
 |.If _ a _ _=>a
 |.While _ a _ _=>a
 |.For _ _ a _ _=>a
 |_=>[]
noncomputable def qb:Stmt->List Stmt
 |.If _ _ b _=>b
 |_=>[]
noncomputable def qh:List Stmt->Stmt
 |[]=>.Pass ⟨0,0,0,0⟩
 |s::_=>s
noncomputable def unNs (c:Ctx):List Nat->List Expr->List Expr
 |[],_=>[]
 |i::is,hs=>.Name (nmA c i) (hd hs).pos::unNs c is hs.tail
noncomputable def unCs:List Nat->List Expr->List Expr
 |[],_=>[]
 |k::ks,hs=>.Name (clsN k) (hd hs).pos::unCs ks hs.tail
section
variable (c:Ctx)(n:Nat)
noncomputable def unHL:HL->Expr->Expr
 |.v i,h=>.Name (nmA c i) h.pos
 |.isiV,h=>.Call (.Name "isinstance" (c0 h).pos) [.Name (nmA c n) (hd (cl h)).pos,.Name "ValueError" (hd (cl h).tail).pos] [] h.pos
 |.is1 k,h=>.Call (.Name "isinstance" (c0 h).pos) [.Name (nmA c n) (hd (cl h)).pos,.Name (clsN k) (hd (cl h).tail).pos] [] h.pos
 |.isi ks,h=>.Call (.Name "isinstance" (c0 h).pos) [.Name (nmA c n) (hd (cl h)).pos,.Tuple (unCs ks (cl (hd (cl h).tail))) (kk (hd (cl h).tail)) (hd (cl h).tail).pos] [] h.pos
noncomputable def jjh:Bool×HL->Expr->Expr
 |(true,l),h=>.UnaryOp .Not (unHL c n l (c0 h)) h.pos
 |(false,l),h=>unHL c n l h
noncomputable def jiF:List (Bool×HL)->List Expr->List Expr
 |[],_=>[]
 |a::r,hs=>jjh c n a (hd hs)::jiF r hs.tail
noncomputable def jiG (k:Bool)(a:Bool×HL):List (Bool×HL)->Expr->Expr
 |[],h=>jjh c n a h
 |b::r,h=>.BoolOp (boU k) (jjh c n a (hd (cl h))::jiF c n (b::r) (cl h).tail) h.pos
noncomputable def unHA:HA->Expr->Expr
 |.str x,h=>.Constant (.str x) (kk h) h.pos
 |.att f,h=>.Attribute (.Name (nmA c n) (c0 h).pos) f h.pos
noncomputable def jji:List HA->List Expr->List Expr
 |[],_=>[]
 |a::r,hs=>unHA c n a (hd hs)::jji r hs.tail
noncomputable def unHV:HV->Expr->Expr
 |.cond k a as,h=>jiG c n k a as h
 |.one a,h=>unHA c n a h
 |.bl b,h=>.Constant (.bool b) (kk h) h.pos
 |.tup as,h=>.Tuple (jji c n as (cl h)) (kk h) h.pos
 |.lst as,h=>.List (jji c n as (cl h)) h.pos
noncomputable def jk3 (i:Nat)(e:HV)(h:Stmt):Stmt:=.Assign [.Name (nmA c i) (q1 h).pos] (unHV c n e (q0 h)) h.pos
noncomputable def unHS:HS->Stmt->Stmt
 |.asg i e,h=>jk3 c n i e h
 |.ifa k a as i e,h=>.If (jiG c n k a as (q0 h)) [jk3 c n i e (qh (qa h))] [] h.pos
noncomputable def jk2:List HS->List Stmt->List Stmt
 |[],_=>[]
 |s::r,hs=>unHS c n s (qh hs)::jk2 r hs.tail
end
section
variable (cs:List Nat)(c:Ctx)
noncomputable def okC (k:Nat):Bool:=decide (1<=k)&&decide (k<6)&&cs.contains k&&glo c (clsN k)
noncomputable def okHL:HL->Bool
 |.v i=>decide (i<c.N.length)&&(kd c (nmA c i) .local||kd c (nmA c i) .cell||kd c (nmA c i) .free) && !(nmA c i==("__debug__" : Str)) && !(nmA c i==("__classdict__" : Str))
 |.isiV=>glo c "isinstance" && glo c "ValueError"
 |.is1 k=>glo c "isinstance" && okC cs c k
 |.isi ks=>glo c "isinstance" && ks.all (okC cs c)&&decide (ks.length<=8)
noncomputable def jiP (as:List (Bool×HL)):Bool:=as.all λp=>okHL cs c p.2
noncomputable def okHA:HA->Bool
 |.str _=>true
 |.att f=>fldN.contains f
noncomputable def okHV:HV->Bool
 |.cond _ a as=>okHL cs c a.2&&jiP cs c as
 |.one a=>okHA a
 |.bl _=>true
 |.tup as=>as.all okHA&&decide (as.length<=8)
 |.lst as=>as.all okHA&&decide (as.length<=8)
noncomputable def okHS (n:Nat):HS->Bool
 |.asg i e=>okN c i&&decide (i≠n)&&okHV cs c e
 |.ifa _ a as i e=>okHL cs c a.2&&jiP cs c as&&okN c i&&decide (i≠n)&&okHV cs c e
end
mutual
noncomputable def unS (c:Ctx):S->Stmt->Stmt
 |.pass,h=>.Pass h.pos
 |.expr d,h=>.Expr (unE T c d (q0 h)) h.pos
 |.asg t d,h=>.Assign [unTg c t (q1 h)] (unE T c d (q0 h)) h.pos
 |.unp ts d,h=>.Assign [.Tuple (jdJ c ts (cl (q1 h))) (kk (q1 h)) (q1 h).pos] (unE T c d (q0 h)) h.pos
 |.asgC i d,h=>.Assign [.Name (nmA c i) (q1 h).pos] (unE T c d (q0 h)) h.pos
 |.setS o i d,h=>.Assign [.Subscript (unE T c o (c0 (q1 h))) (unE T c i (c1 (q1 h))) (q1 h).pos] (unE T c d (q0 h)) h.pos
 |.par is es,h=>.Assign [.Tuple (unNs c is (cl (q1 h))) (kk (q1 h)) (q1 h).pos] (.Tuple (unEs T c es (cl (q0 h))) (kk (q0 h)) (q0 h).pos) h.pos
 |.aug i o d,h=>.AugAssign (.Name (nmA c i) (q1 h).pos) o (unE T c d (q0 h)) h.pos
 |.augS a i o d,h=>.AugAssign (.Subscript (unE T c a (c0 (q1 h))) (unE T c i (c1 (q1 h))) (q1 h).pos) o (unE T c d (q0 h)) h.pos
 |.ite t a b,h=>.If (unE T c t (q0 h)) (unSs c a (qa h)) (unSs c b (qb h)) h.pos
 |.fr t it b,h=>.For (unTg c t (q1 h)) (unI T c it (q0 h)) (unSs c b (qa h)) [] h.pos
 |.wh t b,h=>.While (unE T c t (q0 h)) (unSs c b (qa h)) [] h.pos
 |.ret d,h=>.Return (some (unE T c d (q0 h))) h.pos
 |.retN,h=>.Return none h.pos
 |.never,h=>h
 |.raise k es,h=>.Raise (some (.Call (.Name (clsN k) (c0 (qr h)).pos) (unEs T c es (cl (qr h))) [] (qr h).pos)) none h.pos
 |.tr b k n hs,h=>.Try (unSs c b (qa h)) [.ExceptHandler (some (.Name (clsN k) (hTy h).pos)) (some (nmA c n)) (jk2 c n hs (hBd h)) (hPs h)] [] [] h.pos
noncomputable def unSs (c:Ctx):Ss->List Stmt->List Stmt
 |.nil,_=>[]
 |.cons s r,hs=>unS c s (qh hs)::unSs c r hs.tail
end
noncomputable def okA (c:Ctx):Tg->E->Stmt->Bool
 |.n i,.lc ..,_=>!(kd c (nmA c i) .local)
 |.n i,.lc2 ..,_=>!(kd c (nmA c i) .local)
 |.t _,.lc ..,_=>false
 |.t _,.lc2 ..,_=>false
 |.t ts,.tup es,h=>jch c (jdJ c ts (cl (q1 h))) (unEs T c es (cl (q0 h)))
 |_,_,_=>true
noncomputable def okNs (c:Ctx):List Nat->Bool
 |[]=>true
 |i::is=>decide (i<c.N.length)&&kd c (nmA c i) .local && !(is.contains i)&&okNs c is
mutual
noncomputable def okS (c:Ctx):S->Stmt->Bool
 |.pass,_=>false
 |.expr d,h=>okE T c d (q0 h) && !isLc d
 |.asg t d,h=>okE T c d (q0 h)&&okTg c t&&okA T c t d h
 |.unp ts d,h=>okE T c d (q0 h)&&jik c ts&&okA T c (.t ts) d h
 |.asgC i d,h=>isLc d&&okE T c d (q0 h)&&decide (i<c.N.length)&&lcSw c (nmA c i) (q1 h).pos (q0 h).pos (scp (q0 h))
 |.setS o i d,h=>okE T c d (q0 h)&&okE T c o (c0 (q1 h))&&okE T c i (c1 (q1 h))
 |.par is es,h=>okEs T c es (cl (q0 h))&&okNs c is&&swapped c (unNs c is (cl (q1 h))) (unEs T c es (cl (q0 h)))&&decide (is.length=2)
 |.aug i _ d,h=>okN c i&&okE T c d (q0 h)
 |.augS _ _ _ _,_=>false
 |.ite t a b,h=>okE T c t (q0 h)&&okSs c a (qa h)&&okSs c b (qb h)
 |.fr t it b,h=>okTg c t&&okI T c t it (q0 h)&&okSs c b (qa h)
 |.wh t b,h=>okE T c t (q0 h)&&okSs c b (qa h)
 |.ret d,h=>okE T c d (q0 h)
 |.retN,_=>false
 |.never,_=>true
 |.raise _ _,_=>false
 |.tr _ _ _ _,_=>false
noncomputable def okSs (c:Ctx):Ss->List Stmt->Bool
 |.nil,_=>true
 |.cons s r,hs=>okS c s (qh hs)&&okSs c r hs.tail
end
end
def lSp (K:Yab)(t:List U->Gp->K1->KX->Prop):Sp:=λvs H Q0 E0=>∃us G Q E,RUs K H us vs/\HR K H G/\t us G Q E/\(∀w v G' H',RU K H' w v->HR K H' G'->Fr H G H' G'->Q w G'->Q0 v H')/\
 ∀x G' H' C dx,XD K H' C dx x->HR K H' G'->Fr H G H' G'->E x G'->E0 (.ref C) (some dx) H'
def FnU (P:Program)(w:World)(K:Yab)(mg:Str->Option Value)(base:Heap)(k:Nat)(d:Fun)(t:List U->Gp->K1->KX->Prop):Prop:=
 ∃(f:Addr) (fd:Ybn),FnOk P w K mg base (CX1 P w) (k+2) f fd d.ps (lSp K t)/\mg d.name=some (.ref f)/\YbN K (.ref f)=true/\Binds K fd d.ps []
noncomputable def jb8:List Str:=["len", "repr", "min", "max", "sum", "all", "any", "sorted", "int", "str", "isinstance", "range", "enumerate", "list", "tuple", "bool", "dict", "ValueError", "set", "zip"]
structure Cok (T:Tab)(k:Nat)(X:Cx)(c:Ctx):Prop where
 hN:X.N=c.N
 nd:c.N.Nodup
 loc:∀x,kd c x .local=true->X.env.scope.names.lookup x=some .local
 cel:∀x,kd c x .cell=true->X.env.scope.names.lookup x=some .cell/\X.fn x=true
 fre:∀x,kd c x .free=true->X.env.scope.names.lookup x=some .cell\/X.env.scope.names.lookup x=some .free
 glb:∀x,kd c x .globalImplicit=true->Gl X x
 room:Room k X.A
 calm:X.calm=true
 po:YdI (model X.prog X.w) X.A X.env X.xe
 blt:∀x∈jb8,X.mg x=none
 fns:∀(n:Nat) (d:Fun),T.funs[n]?=some d->FnU X.prog X.w X.K X.mg X.base k d (jaa T k n)
 gls:∀(n:Nat) (x:Str) (u:U),T.gn[n]?=some x->T.gs[n]?=some u->∃v w,X.mg x=some w/\RelV v w/\∀H,RU X.K H u v
 room2:Room (k+2) X.A
 cls:∀n∈T.cs,1<=n->∃C,XCls X.K (gK X.K) (clsN n) (clsF n) C
 mgK:∀x v,gK X.K x=some v->X.mg x=some v
structure Cos (T:Tab)(k:Nat)(X:Cx)(c:Ctx):Prop extends Cok T k X c where
 sc:X.env.scope.names=c.sc
 kind:X.env.scope.kind=.function
 stk:X.stack=X.env::X.outer/\X.env.frame=some X.env.locals
section
variable {T:Tab}{k:Nat}{X:Cx}{c:Ctx}
theorem Cok.hu (h:Cok T k X c):X.A.units+1<cLine:=joK h.room
theorem Cok.vis (h:Cok T k X c){x:Str}(v:(kd c x .local||kd c x .cell||kd c x .free)=true):Vis X.env.scope x:=by
 simp only[Ycq]at v;rcases v with(v|v)|v
 ·exact .inl (h.loc x v)
 ·exact .inr (.inl (h.cel x v).1)
 ·rcases h.fre x v with z|z
  ·exact .inr (.inl z)
  ·exact .inr (.inr z)
theorem Cok.store (h:Cok T k X c){x:Str}(v:(kd c x .local||kd c x .cell)=true):Loc X.env.scope x/\(X.fn x=true\/X.env.scope.names.lookup x=some .local):=by
 simp only[Ycq]at v;rcases v with v|v
 ·exact⟨.inl (h.loc x v),.inr (h.loc x v)⟩
 ·exact⟨.inr (h.cel x v).1,.inl (h.cel x v).2⟩
theorem Cok.gl (h:Cok T k X c){x:Str}(v:glo c x=true):Gl X x/\(x==("__debug__" : Str))=false:=by
 unfold glo at v;rw[Yay]at v;exact⟨h.glb x v.1,by simpa using v.2⟩
end
noncomputable def jet:Expr->Bool
 |.BoolOp ..|.BinOp ..|.UnaryOp ..|.IfExp ..|.Dict ..|.ListComp ..|.Compare ..|.Call ..|.Constant ..|.Subscript ..|.Name ..|.List ..|.Tuple ..|.JoinedStr ..=>true
 |_=>false
section
variable {T:Tab}{c:Ctx}
theorem jas (ir:E)(h:Expr):jet (unE T c ir h)=true:=by cases ir<;>rfl
theorem jav {e:Expr}(h:jet e=true)(es:List Expr)(env:Env):YaG (e::es) env=(false,eval e env)::YaG es env:=by
 cases e<;>first|rfl|cases h
theorem jkF {e:Expr}(h:jet e=true):jfa e:=by
 intro o i;cases e<;>first|rfl|cases h
theorem jbm {e:Expr}(h:jet e=true)(env:Env):∀x,Ya4 e env x=pure x:=by
 intro x;cases e<;>first|rfl|cases h
theorem jjf (it:It)(h:Expr)(env:Env):∀x,Ya4 (unI T c it h) env x=pure x:=by
 cases it with
 |e d=>exact jbm (jas d _) env
 |dk d=>exact jbm (jas d _) env
 |s d=>exact jbm (jas d _) env
 |_=>exact λ_=>rfl
theorem jip {o i:Expr}(h:jet i=true)(env:Env)(tpos:Pos):∀v,assign (.Subscript o i tpos) env v=(holding [v] (eval o env) >>= λa=>holding [v,a] (eval i env) >>= λb=>standAt tpos >>= λ_=>holding [v,a,b] (setItem a b v) >>= λ_=>release [v,a,b] []):=by
 intro v;cases i<;>first|rfl|cases h
theorem jjg {ir:E}(q:isLc ir=false)(h:Expr)(env:Env)(l:Nat):YcP (unE T c ir h) none l env=pure false:=by
 cases ir<;>first|rfl|cases q
theorem jje {ir:E}(q:isLc ir=false)(h tg:Expr)(env:Env)(l:Nat):Ybm [tg] (unE T c ir h) l env=pure false:=by
 cases ir<;>first|rfl|cases q
theorem jiE (ir:E)(h x y:Expr)(p:Pos)(env:Env)(l:Nat):Ybm [.Subscript x y p] (unE T c ir h) l env=pure false/\Ybc [.Subscript x y p] (unE T c ir h) env=pure none:=by
 cases ir<;>exact⟨rfl,rfl⟩
theorem jnC (ir:E)(h:Expr)(x:Str)(p:Pos)(env:Env):Ybc [.Name x p] (unE T c ir h) env=pure none:=by
 cases ir<;>rfl
theorem jgo (t:Tg)(h:Expr)(env:Env):(YaZ [unTg c t h] env).map (·.2)=[assign (unTg c t h) env]:=by
 cases t<;>rfl
theorem jd4 {o:Expr}(h:jfx o=true)(m:Str)(env:Env)(w:Sem Value):Ybq o m env w=w:=by
 unfold Ybq;split
 ·cases h
 ·rfl
theorem jcQ:∀(es:Es) (hs:List Expr) (env:Env) (pos:Pos),(backTo pos (YaG (unEs T c es hs) env)).any (·.1)=false/\(backTo pos (YaG (unEs T c es hs) env)).all (λx=>!x.1)=true
 |.nil,_,_,_=>⟨rfl,rfl⟩
 |.cons d es,hs,env,pos=>by
  obtain⟨h1,h2⟩:=jcQ es hs.tail env pos;show(backTo pos (YaG (unE T c d (hd hs)::unEs T c es hs.tail) env)).any (·.1)=false/\(backTo pos (YaG (unE T c d (hd hs)::unEs T c es hs.tail) env)).all (λx=>!x.1)=true;rw[jav (jas d _)];exact⟨by show(false||(backTo pos (YaG (unEs T c es hs.tail) env)).any (·.1))=false;rw[h1];rfl,by show(!false&&(backTo pos (YaG (unEs T c es hs.tail) env)).all (λx=>!x.1))=true;rw[h2];rfl⟩
theorem jgn:∀(es:Es) (hs:List Expr),(unEs T c es hs).length=jbX es
 |.nil,_=>rfl
 |.cons _ es,hs=>congrArg (·+ 1) (jgn es hs.tail)
theorem ba {a b:Bool}(h:(a&&b)=true):a=true/\b=true:=by simpa using h
theorem bn {a:Bool}(h:(!a)=true):a=false:=by simpa using h
theorem joA {i:Nat}(h:decide (i<c.N.length)=true):c.N[i]?=some (nmA c i):=by
 unfold nmA;rw[YaF,Yaa (of_decide_eq_true h)];rfl
end
theorem jeN:∀{ts:Tgs} {us:List U} {ς:Sg} {k:Sg->Prop},tgsU ts us ς k->us.length=jd6 ts
 |.nil,us,ς,k,h=>by rw[h.1];rfl
 |.cons t ts,us,ς,k,h=>by
  cases us with
  |nil=>exact h.elim
  |cons u r=>
   have:∃ς',tgsU ts r ς' k:=tg_some h;obtain⟨ς',h'⟩:=this;show r.length+1=jd6 ts+1;rw[jeN h']
where
 tg_some {t:Tg} {u:U} {ς:Sg} {P:Sg->Prop} (h:tgU t u ς P):∃ς',P ς':=by
  have:=jcS (k':=λ_=>∃ς',P ς') h λς' h'=>⟨ς',h'⟩;exact tg_const this
 tg_const:∀{t:Tg} {u:U} {ς:Sg} {P:Prop},tgU t u ς (λ_=>P)->P
  |.n _,_,_,_,h=>h
  |.t ts,u,ς,P,h=>by
   cases u with
   |tup us=>exact tgs_const (ts:=ts) (us:=us) h
   |_=>exact h.elim
 tgs_const:∀{ts:Tgs} {us:List U} {ς:Sg} {P:Prop},tgsU ts us ς (λ_=>P)->P
  |.nil,_,_,_,h=>h.2
  |.cons t ts,us,ς,P,h=>by
   cases us with
   |nil=>exact h.elim
   |cons u r=>exact tg_const (jcS (t:=t) h λς' h'=>tgs_const h')
section
variable {T:Tab}{k:Nat}{X:Cx}{c:Ctx}
theorem jcR:∀(ts:Tgs) (hs:List Expr) (env:Env),(YaZ (jdJ c ts hs) env).length=jd6 ts/\(YaZ (jdJ c ts hs) env).findIdx? (·.1)=none
 |.nil,_,_=>⟨rfl,rfl⟩
 |.cons t ts,hs,env=>by
  obtain⟨h1,h2⟩:=jcR ts hs.tail env;have e:YaZ (jdJ c (.cons t ts) hs) env=(false,assign (unTg c t (hd hs)) env)::YaZ (jdJ c ts hs.tail) env:=by cases t<;>rfl
  rw[e];exact⟨by simp[h1,jd6],by simp[List.findIdx?_cons,h2]⟩
theorem Cok.nm {i:Nat}(C:Cok T k X c)(h:decide (i<c.N.length)=true):X.N[i]?=some (nmA c i):=by rw[C.hN];exact joA h
mutual
theorem sTg (C:Cok T k X c):∀(t:Tg) (h:Expr),okTg c t=true->PG X (unTg c t h) (lG X.K (tgU t))
 |.n _,_,q=>let s:=C.store (ba q).2;u_tn (by rw[C.hN];exact C.nd) (C.nm (ba q).1) s.1 s.2
 |.t ts,h,q=>u_tt C.calm (sTgs C ts (cl h) q) (jcR ts _ X.env).1 (jcR ts _ X.env).2 λus ς k q=>jeN q
theorem sTgs (C:Cok T k X c):∀(ts:Tgs) (hs:List Expr),jik c ts=true->PGs X (jdJ c ts hs) (lGs X.K (tgsU ts))
 |.nil,_,_=>jnF
 |.cons t ts,hs,q=>jnG (sTg C t (hd hs) (ba q).1) (sTgs C ts hs.tail (ba q).2) (by cases t<;>rfl)
end
def EB (X:Cx)(σ:St):XK:=λcls dx H'=>∀(pins:List (Addr×Obj)) (ea:Addr) (s':Shared),Inv X pins σ H' s'->Lies X.s₀.heap.objs.size X.pn H' s'.heap ea cls dx->X.xe (.ref ea) s'
theorem jgB {j:Nat}{f:Addr}{fd:Ybn}{ps:List Str}{sp:Sp}{pins:List (Addr×Obj)}{σ:St}{H:Hp}{s:Shared}{Q:VK}{us:List Value}{vs:List V}(F:FnOk X.prog X.w X.K X.mg X.base (CX1 X.prog X.w) j f fd ps sp)(hr:Room j X.A)(hb:Binds X.K fd ps [])
  (I:Inv X pins σ H s) (r:Vals vs us) (h:sp vs H Q (EB X σ)):wpAny (model X.prog X.w) X.A (call (.ref f) us) (EP X pins σ Q) X.xe s:=by
 have hl:(us++[]).length=ps.length:=by rw[YcV,<- r.length];exact F.len _ _ _ _ h
 have hbs:=hb s us I.kIn hl;rw[YcV]at hbs;refine wpAny_call (Yd4 (F.run X.A X.stack s H ⟨us,[]⟩ us vs Q (EB X σ) hr I.env0 hbs r h) λr s' hq=>?_);cases r with
 |error e=>
  obtain⟨ea,H',cls,dx,rfl,I',l,q⟩:=CX1.back I hq;exact q pins ea s' I' l
 |ok fl=>
  cases fl with
  |ret u=>exact I.after hq
  |next=>exact YcX hq
  |brk=>exact YcX hq
  |cont=>exact YcX hq
theorem jgy {n:Nat}{σ:St}{H:Hp}{G:Gp}{us:List U}{vs:List V}{Q:K1}{E:KX}{Q0:VK}(r:RUs X.K H us vs)(hG:HR X.K H G)(h:jaa T k n us G Q E)(lv:LV X H G Q Q0)(lx:LX X σ H G E):lSp X.K (jaa T k n) vs H Q0 (EB X σ):=
 ⟨us,G,Q,E,r,hG,h,lv,λx G' H' C dx xd hr f q pins ea s' I' l=>lx pins (.ref ea) s' x G' H' I' ⟨ea,C,dx,rfl,l,xd⟩ hr f q⟩
theorem jlb {n:Nat}{d:Fun}{x:Str}{e:Expr}{es:List Expr}{ts:UA}{p pos:Pos}(C:Cok T k X c)(hd:T.funs[n]?=some d)(hx:d.name=x)(hg:glo c x=true)(ha:PA X (e::es) (lA X ts))
  (he:YaG (e::es) X.env=(false,eval e X.env)::YaG es X.env) (hpl:(backTo pos (YaG es X.env)).any (·.1)=false) :
  PE X (.Call (.Name x p) (e::es) [] pos) (lE X λς G Q E=>ts ς G (λus G1=>jaa T k n us G1 Q E) E):=by
 obtain⟨f,fd,F,hm,hk,hb⟩:=C.fns n d hd;obtain⟨g1,g2⟩:=C.gl hg;rw[hx]at hm;intro pins s σ H Q0 I ⟨ς,G,Q,E,hς,hG,h,lv,lx⟩;refine YcF (jeY I g1 hm ?_ g2);have h':lA X ts σ H λvs H1=>lSp X.K (jaa T k n) vs H1 Q0 (EB X σ):=⟨ς,G,_,E,hς,hG,h,λus vs G1 H1 rs hG1 f1 h1=>jgy rs hG1 h1 (lv.fr f1) (lx.fr f1),lx⟩;refine PySem.W.callWith_K (h₀:=X.base) I.ok.mod.kin hk (thn (ha pos pins s σ H _ I h') λus s1 ⟨vs,H1,I1,r,q⟩=>⟨I1.kIn,?_⟩) he hpl;exact jgB F C.room2 hb I1 r q
theorem jjl {n:Nat}{d:Fun}{x:Str}{p pos:Pos}(C:Cok T k X c)(hd:T.funs[n]?=some d)(hx:d.name=x)(hg:glo c x=true) :
  PE X (.Call (.Name x p) [] [] pos) (lE X λ_ G Q E=>jaa T k n [] G Q E):=by
 obtain⟨f,fd,F,hm,hk,hb⟩:=C.fns n d hd;obtain⟨g1,g2⟩:=C.gl hg;rw[hx]at hm;intro pins s σ H Q0 I ⟨ς,G,Q,E,hς,hG,h,lv,lx⟩;refine YcF (jeY I g1 hm ?_ g2);exact PySem.W.callWith_K0 I.kIn hk (jgB (us:=[]) (vs:=[]) F C.room2 hb I .nil (jgy (show RUs X.K H [] []from rfl) hG h lv lx))
theorem Cok.comp {pick:List (Option Nat)}{scope:Scope}{N:List Str}(C:Cok T k X c)(h:cOkS c N pick scope=true):CScope X N pick scope/\∀cl A s₀ H₀ fp,Cok T k (jam X N scope cl A s₀ H₀ fp) ⟨N,scope.names⟩:=by
 unfold cOkS at h;simp only[Yay,decide_eq_true_eq]at h;obtain⟨⟨⟨⟨⟨⟨h1,h2⟩,h3⟩,h4⟩,h5⟩,h6⟩,h7⟩:=h;have cells:∀y∈scope.names,y.2=.cell->scope.names.lookup y.1=some .cell:=λy hy hc=>by
  have:=List.all_eq_true.mp h2 y hy;rw[hc]at this;simpa using this
 refine⟨⟨h1,cells,λy hy hl=>?_,λy hy hf=>?_,by simpa using h5,λi j x e1 e2=>?_⟩,λcl A s₀ H₀ fp=>?_⟩
 ·have:=List.all_eq_true.mp h3 y hy;rw[hl]at this;simpa using this
 ·have:=List.all_eq_true.mp h4 y hy;rw[hf]at this;simp only[bne_self_eq_false,Yem,Yay,Ycq,beq_iff_eq]at this;refine⟨this.1,?_⟩;rcases this.2 with z|z
  ·exact .inl (C.cel _ z).1
  ·exact C.fre _ z
 ·have hz:(N.zip pick)[i]?=some (x,some j):=by rw[List.getElem?_zip_eq_some];exact⟨e1,e2⟩
  have:=List.all_eq_true.mp h6 _ (Yam hz);rw[C.hN];simpa using this
 ·refine⟨rfl,h7,λx z=>?_,λx z=>?_,λx z=>?_,λx z=>?_,C.room,C.calm,YdI.never,C.blt,C.fns,C.gls,C.room2,C.cls,C.mgK⟩
  ·exact jau (by decide) (eq_of_beq z)
  ·exact⟨jau (by decide) (eq_of_beq z),z⟩
  ·exact jaT (eq_of_beq z)
  ·exact glc (eq_of_beq z)
end
end Z

namespace Z
open PySem L2
section
variable {K:Yab}{H H':Hp}{G G':Gp}
end
section
variable {T:Tab}{k:Nat}{X:Cx}{c:Ctx}
end
structure HC (T:Tab)(X:Cx)(c:Ctx)(n:Nat)(ea C dx:Addr)(x:XV):Prop where
 hN:X.N=c.N
 nd:c.N.Nodup
 loc:∀y,kd c y .local=true->X.env.scope.names.lookup y=some .local
 cel:∀y,kd c y .cell=true->X.env.scope.names.lookup y=some .cell/\X.fn y=true
 fre:∀y,kd c y .free=true->X.env.scope.names.lookup y=some .cell\/X.env.scope.names.lookup y=some .free
 glb:∀y,kd c y .globalImplicit=true->Gl X y
 blt:∀y∈jb8,X.mg y=none
 cls:∀n∈T.cs,1<=n->∃C,XCls X.K (gK X.K) (clsN n) (clsF n) C
 me:XCls X.K (gK X.K) (clsN x.c) (clsF x.c) C
 lo:1<=x.c
 hi:x.c<6
 pin:XPin X ea C dx
 mgK:∀y v,gK X.K y=some v->X.mg y=some v
 en:n<c.N.length/\kd c (nmA c n) .local=true/\(nmA c n==("__debug__" : Str))=false/\(nmA c n==("__classdict__" : Str))=false
structure HSt (X:Cx)(n:Nat)(ea C dx:Addr)(x:XV)(σ:St)(H:Hp)(ς:Sg)(G:Gp):Prop where
 sr:SR X.K H ς σ
 hr:HR X.K H G
 en:σ[n]?=some (some (.ref ea))
 xd:XD X.K H C dx x
def hB (X:Cx)(n:Nat)(ea C dx:Addr)(x:XV)(f:Sg->Option Bool):TE:=λσ H Q=>∃ς G b,HSt X n ea C dx x σ H ς G/\f ς=some b/\∀H',HR X.K H' G->Fr H G H' G->Q (.bl b) H'
def hT (X:Cx)(n:Nat)(ea C dx:Addr)(x:XV)(f:Sg->Option Bool):TT:=λσ H Q=>∃ς G b,HSt X n ea C dx x σ H ς G/\f ς=some b/\∀H',HR X.K H' G->Fr H G H' G->Q b H'
section
variable {T:Tab}{X:Cx}{c:Ctx}{n:Nat}{ea C dx:Addr}{x:XV}
def hV (X:Cx)(n:Nat)(ea C dx:Addr)(x:XV)(f:Sg->Gp->K1->Prop):TE:=λσ H Q0=>∃ς G Q,HSt X n ea C dx x σ H ς G/\f ς G Q/\LV X H G Q Q0
def hS (X:Cx)(n:Nat)(ea C dx:Addr)(x:XV)(hs:List HS):L2.TS:=λD σ H=>∃ς G k,HSt X n ea C dx x σ H ς G/\hsH x hs ς G k/\∀ς' σ' G' H',HSt X n ea C dx x σ' H' ς' G'->Fr H G H' G'->k ς' G'->D.nx σ' H'
end
section
variable {T:Tab}{k:Nat}{X:Cx}{c:Ctx}
end
section
variable {T:Tab}{k:Nat}
theorem jki (b:Blt):bltN b∈jb8:=by cases b<;>decide
theorem jld:∀n∈jgq,YbS (YbH n)=some (.type n)/\YbH n∈jb8/\YbH n ≠ "__name__" := by decide +kernel
abbrev SE (T:Tab)(k:Nat)(X:Cx)(c:Ctx)(ir:E)(h:Expr):Prop:=PE X (unE T c ir h) (lE X (den T.gs (jaa T k) ir).1)/\PT X (unE T c ir h) (lT X (den T.gs (jaa T k) ir).2)
section
variable {X:Cx}{c:Ctx}
theorem tru {e:Expr}{t:UE}(h:PE X e (lE X t))(hp:∀whole,isTrue e X.env whole=(do let v <- whole;standAt e.pos;holding [v] (truthy v))):PE X e (lE X t)/\PT X e (lT X (truT t)):=⟨h,jnH h hp⟩
section
variable {a b:Expr}{rest:List Expr}{pos:Pos}{p q:UE×UT}
theorem jlv (ha:PE X a (lE X p.1)/\PT X a (lT X p.2))(hb:PE X (.BoolOp .And (b::rest) pos) (lE X q.1)/\PW X (.BoolOp .And (b::rest) pos) (lT X q.2)) :
  PE X (.BoolOp .And (a::b::rest) pos) (lE X (comb true p q).1)/\PW X (.BoolOp .And (a::b::rest) pos) (lT X (comb true p q).2):=⟨jnV ha.1 hb.1,jlc ha.2 hb.2⟩
theorem joa (ha:PE X a (lE X p.1)/\PT X a (lT X p.2))(hb:PE X (.BoolOp .Or (b::rest) pos) (lE X q.1)/\PW X (.BoolOp .Or (b::rest) pos) (lT X q.2)) :
  PE X (.BoolOp .Or (a::b::rest) pos) (lE X (comb false p q).1)/\PW X (.BoolOp .Or (a::b::rest) pos) (lT X (comb false p q).2):=⟨u_or ha.1 hb.1,jnJ ha.2 hb.2⟩
end
theorem se_v {i:Nat}{h:Expr}(C:Cok T k X c)(q:okE T c (.v i) h=true):SE T k X c (.v i) h:=tru (jnD (C.nm (ba (ba (ba q).1).1).1) (C.vis (ba (ba (ba q).1).1).2) (bn (ba (ba q).1).2) (bn (ba q).2)) λ_=>rfl
theorem se_g {n:Nat}{h:Expr}(C:Cok T k X c)(q:okE T c (.g n) h=true):SE T k X c (.g n) h:=by
 have h1:=of_decide_eq_true (ba (ba q).1).1;have h2:=of_decide_eq_true (ba (ba q).1).2;have hn:T.gn[n]?=some (T.gn.getD n ""):=by rw[YaF,Yaa h2];rfl
 obtain⟨v,w,m,r,ru⟩:=C.gls n _ T.gs[n] hn (by simp[h1])
 obtain⟨g1,g2⟩:=C.gl (ba q).2;refine tru (PE.imp (u_gl (u:=T.gs[n]) g1 m r ru g2) λσ H Q0 ⟨ς,G,Q,E,hς,hG,h,lv,lx⟩=>⟨ς,G,Q,E,hς,hG,?_,lv,lx⟩) λ_=>rfl;have h':glU T.gs n λu=>Q u G:=h;unfold glU at h';rw[Yaa h1]at h';exact h'
theorem jn9 {n:String}{h:Expr}(C:Cok T k X c)(q:okE T c (.ty n) h=true):SE T k X c (.ty n) h:=by
 obtain⟨g1,g2⟩:=C.gl (ba q).2;obtain⟨t1,t2,t3⟩:=jld n (by simpa using (ba q).1)
 exact tru (u_ty g1 (C.blt _ t2) t1 t3 g2) λ_=>rfl
theorem jlq {es:Es}{h:Expr}{trs:List (TE×TE)}(h1:PPs X h.pos (unK T c es (dk h)) (unV T c es (cl h)) trs)(h2:lD X (denD T.gs (jaa T k) es) trs)(h3:(unK T c es (dk h)).all (·.isSome)=true)(h4:(unK T c es (dk h)).length=(unV T c es (cl h)).length)
  (h5:(unK T c es (dk h)).length<=15):SE T k X c (.dic es) h:=by
 refine tru ?_ λ_=>rfl
 match es,h1,h2,h3,h4,h5 with
 |.nil,_,_,_,_,_=>exact PE.imp jk8 λσ H Q0 ⟨ς,G,Q,E,hς,hG,h,lv,lx⟩=>⟨ς,G,Q,E,hς,hG,(show([]:List (Key×U)).length<=15/\newO G (.dK (jdi [])) Q from h).2,lv,lx⟩
 |.cons _ .nil,_,_,_,_,_=>exact λpins s σ H Q0 I ⟨ς,G,Q,E,hς,hG,h,lv,lx⟩=>(show False from h).elim
 |.cons d (.cons f es),h1,h2,h3,h4,h5=>exact jnR h1 h2 h3 h4 (λz=>nomatch z) h5
theorem jjA {n:Nat}{es:Es}{h:Expr}(C:Cok T k X c)(q:okE T c (.call n es) h=true)(ha:PA X (unEs T c es (cl h)) (lA X (jaO T.gs (jaa T k) es))):SE T k X c (.call n es) h:=by
 refine tru ?_ λ_=>rfl;have hn:=of_decide_eq_true (ba (ba q).1).1;have hd':T.funs[n]?=some T.funs[n]:=by simp[hn]
 have hx:T.funs[n].name=fnN T n:=by unfold fnN;rw[hd']
 match es,ha with
 |.nil,_=>exact jjl C hd' hx (ba (ba q).1).2
 |.cons d es,ha=>exact jlb C hd' hx (ba (ba q).1).2 ha (jav (jas d _) _ _) (jcQ es _ _ _).1
theorem jlr {b:Blt}{es:Es}{h:Expr}(C:Cok T k X c)(q:okE T c (.blt b es) h=true)(ha:PA X (unEs T c es (cl h)) (lA X (jaO T.gs (jaa T k) es))):SE T k X c (.blt b es) h:=by
 refine tru ?_ λ_=>rfl;obtain⟨g1,g2⟩:=C.gl (ba (ba q).1).2
 match es,ha,q with
 |.nil,_,q=>exact absurd (of_decide_eq_true (ba (ba q).1).1) (Ybf 0)
 |.cons d es,ha,_=>exact jnT (jm0 C.room C.calm b) g1 (C.blt _ (jki b)) ha (jav (jas d _) _ _) (jcQ es _ _ _).1
theorem jjz {m:Mth}{o:E}{es:Es}{h:Expr}(q:okE T c (.meth m o es) h=true)(ho:PE X (unE T c o (c0 (c0 h))) (lE X (den T.gs (jaa T k) o).1))(ha:PA X (unEs T c es (cl h)) (lA X (jaO T.gs (jaa T k) es))):SE T k X c (.meth m o es) h:=by
 refine tru ?_ λ_=>rfl;have h6:=(ba q).2;have h5:=of_decide_eq_true (ba (ba q).1).2;have h4:=(ba (ba (ba q).1).1).2
 match es,ha,h5 with
 |.nil,_,_=>exact jjj (jiS m) ho (jd4 h6 _ _ _) h4
 |.cons d es,ha,h5=>
  refine jk5 (jiS m) ho ha (jd4 h6 _ _ _) ?_ h4 (jav (jas d _) _ _) (jcQ es _ _ _).1;have e:=(jcQ (T:=T) (c:=c) (.cons d es) (cl h) X.env h.pos).2;show((backTo h.pos (YaG (unEs T c (.cons d es) (cl h)) X.env)).all (λx=>!x.1)&&_&&decide ((unEs T c (.cons d es) (cl h)).length+0+0<30))=true;rw[e,jgn];exact decide_eq_true h5
theorem jls {d:E}{e:Expr}(h:PT X e (lT X (den T.gs (jaa T k) d).2)):PIfs X [e] (lT0 X.K (denC T.gs (jaa T k) (.cons d .nil))):=by
 refine PIfs.imp (jjO (lT0.of h)) λσ H Q0 ⟨ς,G,Q,h1,h2,h3,h4⟩=>⟨ς,G,λb G'=>Q b G',h1,h2,?_,h4⟩;have h3':(den T.gs (jaa T k) d).2 ς G (λb G1=>if b=true then Q true G1 else Q false G1) (λ_ _=>False):=h3
 have e:(λ(b:Bool) (G1:Gp)=>if b=true then Q true G1 else Q false G1)=λb G'=>Q b G':=by
  funext b G1;cases b<;>simp
 rw[e]at h3';exact h3'
theorem jlu:PIfs X [] (lT0 X.K (denC T.gs (jaa T k) .nil)):=PIfs.imp jjP λσ H Q0 ⟨ς,G,Q,h1,h2,h3,h4⟩=>h4 true G H h2 (Fr.refl _ _) h3
theorem jmC:∀(es:Es) (hs:List Expr),2*(unK T c es hs).length<=jbX es
 |.nil,_=>Yag _
 |.cons _ .nil,_=>Ybj _
 |.cons _ (.cons _ es),hs=>by
  have:=jmC es hs.tail;show 2*((unK T c es hs.tail).length+1)<=jbX es+1+1;omega
theorem k_le {es:Es}{hs:List Expr}(h:jbX es<=30):(unK T c es hs).length<=15:=by
 have:=jmC (T:=T) (c:=c) es hs;omega
end
mutual
theorem sE:∀(ir:E) {X:Cx} {c:Ctx} {h:Expr},Cok T k X c->okE T c ir h=true->SE T k X c ir h
 |.v _,_,_,_,C,q=>se_v C q
 |.non,_,_,_,_,_=>tru (jb9 (u:=.non) jlV λ_=>rfl) λ_=>rfl
 |.bl b,_,_,_,_,_=>tru (jb9 (u:=.bl b) jot λ_=>rfl) λ_=>rfl
 |.int i,_,_,_,_,_=>tru (jb9 (u:=.int i) jlY λ_=>rfl) λ_=>rfl
 |.str x,_,_,_,_,_=>tru (jb9 (u:=.str x) jlT λ_=>rfl) λ_=>rfl
 |.g _,_,_,_,C,q=>se_g C q
 |.ty _,_,_,_,C,q=>jn9 C q
 |.bin o a b,_,_,_,C,q=>tru (jnU (jl5 o) (sE a C (ba q).1).1 (sE b C (ba q).2).1) λ_=>rfl
 |.neg a,_,_,_,C,q=>tru (jnL (sE a C q).1) λ_=>rfl
 |.not a,_,_,_,C,q=>⟨jnK (sE a C q).1,jk4 (sE a C q).2⟩
 |.bop k a es,_,_,h,C,q=>let r:=sB es k C (sE a C (ba q).1) (ba q).2 h.pos;⟨r.1,r.2.pt⟩
 |.cmp o a b,_,_,_,C,q=>⟨jnS (jdG C.room o) (sE a C (ba (ba q).1).1).1 (sE b C (ba (ba q).1).2).1 (bn (ba q).2),jk9 (jdG C.room o) (sE a C (ba (ba q).1).1).1 (sE b C (ba (ba q).1).2).1 (bn (ba q).2)⟩
 |.cmp2 o p a b d,_,_,_,C,q=>⟨jla (jdG C.room o) (jdG C.room p) (sE a C (ba (ba (ba q).1).1).1).1 (sE b C (ba (ba (ba q).1).1).2).1 (sE d C (ba (ba q).1).2).1 (bn (ba q).2),
   PT.imp (jjk (jdG C.room o) (jdG C.room p) (sE a C (ba (ba (ba q).1).1).1).1 (sE b C (ba (ba (ba q).1).1).2).1 (sE d C (ba (ba q).1).2).1 (bn (ba q).2)) λ_ _ _ ⟨ς,G,Q,E,hς,hG,h,lv,lx⟩=>⟨ς,G,Q,E,hς,hG,h,lv,lx⟩⟩
 |.ife t a b,_,_,_,C,q=>⟨jnQ (sE t C (ba (ba q).1).1).2 (sE a C (ba (ba q).1).2).1 (sE b C (ba q).2).1,jk6 (sE t C (ba (ba q).1).1).2 (sE a C (ba (ba q).1).2).2 (sE b C (ba q).2).2⟩
 |.tup es,_,_,_,C,q=>tru (jnE (sEs es C q)) λ_=>rfl
 |.lst es,_,_,_,C,q=>tru (jnP (sEs es C q)) λ_=>rfl
 |.dic es,_,_,h,C,q=>let ⟨_,h1,h2,h3,h4⟩:=sD es C h.pos (ba q).1;jlq h1 h2 h3 h4 (k_le (of_decide_eq_true (ba q).2))
 |.dicT,_,_,_,_,q=>nomatch q
 |.ix a b,_,_,_,C,q=>tru (u_ix C.hu (sE a C (ba q).1).1 (sE b C (ba q).2).1 (jkF (jas b _))) λ_=>rfl
 |.sl a lo hi,_,_,_,C,q=>tru (u_sl (sE a C (ba (ba q).1).1).1 (sO lo C (ba (ba q).1).2) (sO hi C (ba q).2)) λ_=>rfl
 |.rev a b,_,_,_,C,q=>tru (jnI (sE a C (ba q).1).1 (sE b C (ba q).2).1) λ_=>rfl
 |.call _ es,_,_,_,C,q=>jjA C q (sEs es C (ba q).2)
 |.app _ _,_,_,_,_,_=>⟨λ_ _ _ _ _ _ ⟨_,_,_,_,_,_,h,_⟩=>(show False from h).elim,λ_ _ _ _ _ _ ⟨_,_,_,_,_,_,h,_⟩=>(show False from h).elim⟩
 |.blt _ es,_,_,_,C,q=>jlr C q (sEs es C (ba q).2)
 |.meth _ o es,_,_,_,C,q=>jjz q (sE o C (ba (ba (ba (ba q).1).1).1).1).1 (sEs es C (ba (ba (ba (ba q).1).1).1).2)
 |.lc _ t it ifs d,_,_,_,C,q=>let S:=C.comp (ba (ba (ba (ba (ba (ba q).1).1).1).1).1).1
   tru (u_lc C.calm S.1 (sI it t _ _ C (ba (ba (ba (ba q).1).1).1).2).1 (ba (ba (ba (ba (ba (ba q).1).1).1).1).1).2 (λcl A s₀ H₀ fp=>sTg (S.2 cl A s₀ H₀ fp) t _ (ba (ba (ba (ba (ba q).1).1).1).1).2)
    (λcl A s₀ H₀ fp=>sC ifs (S.2 cl A s₀ H₀ fp) (of_decide_eq_true (ba (ba q).1).2) (ba (ba (ba q).1).1).2) (λcl A s₀ H₀ fp=>lE0.of (sE d (S.2 cl A s₀ H₀ fp) (ba q).2).1) (sI it t ⟨[],[]⟩ e0 C (ba (ba (ba (ba q).1).1).1).2).2) λ_=>rfl
 |.lc2 _ _ _ _ _ _ _ _,_,_,_,_,q=>nomatch q
 |.fst _,_,_,_,_,q=>nomatch q
 |.lrp _ _ _ _ _ _,_,_,_,_,q=>nomatch q
 |.sset _,_,_,_,_,q=>nomatch q
 |.mkD d,_,_,_,C,q=>tru (jnO C.calm (C.gl (ba q).1).1 (C.blt _ (by decide)) (sE d C (ba q).2).1 (jav (jas d _) _ _)) λ_=>rfl
 |.maxD _,_,_,_,_,q=>nomatch q
 |.minD _,_,_,_,_,q=>nomatch q
 |.mkL d,_,_,_,C,q=>tru (jnN (C.gl (ba q).1).1 (C.blt _ (by decide)) (sE d C (ba q).2).1 (jav (jas d _) _ _)) λ_=>rfl
 |.mkT d,_,_,_,C,q=>tru (jnM (C.gl (ba q).1).1 (C.blt _ (by decide)) (sE d C (ba q).2).1 (jav (jas d _) _ _)) λ_=>rfl
 |.rngL _,_,_,_,_,q=>nomatch q
 |.rngT _,_,_,_,_,q=>nomatch q
 |.rngL2 _ _,_,_,_,_,q=>nomatch q
theorem sO:∀(ir:Eo) {X:Cx} {c:Ctx} {h:Expr},Cok T k X c->okO T c ir h=true->PO X (unO T c ir h) (lO X (denO T.gs (jaa T k) ir))
 |.no,_,_,_,_,_=>u_no
 |.so d,_,_,_,C,q=>u_so (sE d C q).1
theorem sEs:∀(ir:Es) {X:Cx} {c:Ctx} {hs:List Expr},Cok T k X c->okEs T c ir hs=true->PA X (unEs T c ir hs) (lA X (jaO T.gs (jaa T k) ir))
 |.nil,_,_,_,_,_=>jfW
 |.cons d ir,_,_,_,C,q=>jdo (sE d C (ba q).1).1 (sEs ir C (ba q).2) (jav (jas d _) _ _)
theorem sB:∀(ir:Es) (b:Bool) {X:Cx} {c:Ctx} {hs:List Expr} {a:Expr} {p:UE×UT},Cok T k X c->PE X a (lE X p.1)/\PT X a (lT X p.2)->okEs T c ir hs=true->∀pos:Pos,
  PE X (.BoolOp (boU b) (a::unEs T c ir hs) pos) (lE X (denB T.gs (jaa T k) b p ir).1)/\PW X (.BoolOp (boU b) (a::unEs T c ir hs) pos) (lT X (denB T.gs (jaa T k) b p ir).2)
 |.nil,true,_,_,_,_,_,_,ha,_,_=>⟨jiM ha.1,pw_and1 ha.2⟩
 |.nil,false,_,_,_,_,_,_,ha,_,_=>⟨jiM ha.1,pw_or1 ha.2⟩
 |.cons d ir,true,_,_,_,_,_,C,ha,q,pos=>jlv ha (sB ir true C (sE d C (ba q).1) (ba q).2 pos)
 |.cons d ir,false,_,_,_,_,_,C,ha,q,pos=>joa ha (sB ir false C (sE d C (ba q).1) (ba q).2 pos)
theorem sC:∀(ir:Es) {X:Cx} {c:Ctx} {hs:List Expr},Cok T k X c->jbX ir<=1->okEs T c ir hs=true->PIfs X (unEs T c ir hs) (lT0 X.K (denC T.gs (jaa T k) ir))
 |.nil,_,_,_,_,_,_=>jlu
 |.cons d .nil,_,_,_,C,_,q=>jls (sE d C (ba q).1).2
 |.cons _ (.cons _ es),_,_,_,_,l,_=>absurd l (by show ¬(jbX es+1+1<=1);omega)
theorem sD:∀(ir:Es) {X:Cx} {c:Ctx} {hs gs:List Expr},Cok T k X c->(p:Pos)->okD T c ir hs gs=true->∃trs,PPs X p (unK T c ir hs) (unV T c ir gs) trs/\lD X (denD T.gs (jaa T k) ir) trs/\(unK T c ir hs).all (·.isSome)=true/\(unK T c ir hs).length=(unV T c ir gs).length
 |.nil,_,_,_,_,_,_,_=>⟨[],jjJ,jmu,rfl,rfl⟩
 |.cons d (.cons f ir),_,_,_,_,C,p,q=>let ⟨_,h1,h2,h3,h4⟩:=sD ir C p (ba q).2;⟨_,jhY (sE d C (ba (ba q).1).1).1 (sE f C (ba (ba q).1).2).1 h1,jkp h2,h3,congrArg (·+ 1) h4⟩
 |.cons _ .nil,_,_,_,_,_,_,q=>nomatch q
theorem sI:∀(ir:It) (t:Tg) (ct:Ctx) (ht:Expr) {X:Cx} {c:Ctx} {h:Expr},Cok T k X c->okI T c t ir h=true->PI X (unTg ct t ht) (unI T c ir h) (lI X (denI T.gs (jaa T k) ir))/\∀x,Ya4 (unI T c ir h) X.env x=pure x
 |.e d,_,_,_,_,_,_,C,q=>⟨u_ie (sE d C q).1,jbm (jas d _) _⟩
 |.r1 d,_,_,_,_,_,_,C,q=>⟨u_r1 (C.gl (ba q).1).1 (C.blt _ (by decide)) (sE d C (ba q).2).1 (jav (jas d _) _ _),λ_=>rfl⟩
 |.r2 _ _,_,_,_,_,_,_,_,q=>nomatch q
 |.enum d,.t _,_,_,_,_,_,C,q=>⟨jk7 (C.gl (ba (ba q).1).2).1 (C.blt _ (by decide)) (sE d C (ba q).2).1 (jav (jas d _) _ _),λ_=>rfl⟩
 |.enum _,.n _,_,_,_,_,_,_,q=>nomatch q
 |.dk _,_,_,_,_,_,_,_,q=>nomatch q
 |.s d,_,_,_,_,_,_,C,q=>⟨u_is (sE d C q).1,jbm (jas d _) _⟩
 |.dv d,_,_,_,_,_,_,C,q=>⟨u_dv (sE d C (ba (ba q).1).1).1 (jd4 (ba q).2 _ _ _) (ba (ba q).1).2,λ_=>rfl⟩
 |.di d,.t _,_,_,_,_,_,C,q=>⟨u_di (sE d C (ba (ba (ba q).1).1).2).1 (jd4 (ba q).2 _ _ _) (ba (ba q).1).2,λ_=>rfl⟩
 |.di _,.n _,_,_,_,_,_,_,q=>nomatch q
 |.zp _ _,_,_,_,_,_,_,_,q=>nomatch q
end
end
section
variable {c:Ctx}{env:Env}
noncomputable def swF (sb:Bool)(names:List Str)(bk:ScopeKind)(ts vs:List Expr):Sem (Option (List Str)):=
 if (!(ts.length==2||ts.length==3)||vs.length != ts.length||bk != .function)=true then pure none
 else if sb=true then pure none
 else if (names.length != ts.length||names.eraseDups.length != names.length)=true then pure none
 else if vs.all (Ye1 8)=true then pure none
 else if vs.all (constantsAlone 8)=true then do unsupported "assign.tuple-of-constant-expressions:order-of-the-stores";pure (some names)
 else pure (some names)
noncomputable def jdM (env:Env)(ts:List Expr):List Str:=ts.filterMap fun
  |.Name id pos=>if env.kindOf id==some .local&&pos.line==jiL ts then some id else none
  |_=>none
theorem jlh {ts vs:List Expr}{a b:Nat}{p q:Pos}:Ybc [.Tuple ts a p] (.Tuple vs b q) env=swF (vs.any jfE) (jdM env ts) env.blockKind ts vs:=by
 have e1:jfE=fun|.Starred ..=>true|_=>false:=by funext e;cases e<;>rfl
 with_unfolding_all rfl
theorem jfo (hk:∀x,env.kindOf x=c.sc.lookup x)(ts:List Expr):jdM env ts=jak c ts:=by
 unfold jak jdM;congr 1;funext e;cases e<;>first|rfl|(dsimp only;rw[hk])
theorem jd7 (hk:∀x,env.kindOf x=c.sc.lookup x)(hb:env.blockKind=.function){ts vs:List Expr}{a b:Nat}{p q:Pos}(h:jch c ts vs=true):Ybc [.Tuple ts a p] (.Tuple vs b q) env=pure none:=by
 rw[jlh,jfo hk,hb];unfold swF;unfold jch at h;by_cases h1:(!(ts.length==2||ts.length==3)||vs.length != ts.length)=true
 ·rw[if_pos (by rw[h1];rfl)]
 ·have h1':(!(ts.length==2||ts.length==3)||vs.length != ts.length)=false:=by simpa using h1
  rw[h1']at h;rw[if_neg (by rw[h1'];decide)]
  simp only[Yem,Yay,Ydl]at h;obtain⟨h2,h3⟩:=h;rw[if_neg (by rw[h2];decide)]
  by_cases h4:((jak c ts).length != ts.length||(jak c ts).eraseDups.length != (jak c ts).length)=true
  ·rw[if_pos h4]
  ·rw[if_neg h4];have h4':((jak c ts).length != ts.length||(jak c ts).eraseDups.length != (jak c ts).length)=false:=by simpa using h4
   rw[h4']at h3;rw[if_pos (by simpa using h3)]
theorem jgw (hk:∀x,env.kindOf x=c.sc.lookup x)(hb:env.blockKind=.function){ts vs:List Expr}{a b:Nat}{p q:Pos}(h:swapped c ts vs=true):Ybc [.Tuple ts a p] (.Tuple vs b q) env=pure (some (jak c ts)):=by
 rw[jlh,jfo hk,hb];unfold swF;unfold swapped at h;simp only[Yay,Ydl]at h;obtain⟨⟨⟨⟨⟨⟨h1,h2⟩,h3⟩,h4⟩,h5⟩,h6⟩,h7⟩:=h;have e1:(!(ts.length==2||ts.length==3)||vs.length != ts.length||(Yed != Yed))=false:=by
  have:(vs.length != ts.length)=false:=by simpa using h2
  rw[h1,this];rfl
 rw[if_neg (by rw[e1];decide),if_neg (by rw[h3];decide)]
 have e2:((jak c ts).length != ts.length||(jak c ts).eraseDups.length != (jak c ts).length)=false:=by
  have z1:((jak c ts).length != ts.length)=false:=by simpa using h4
  have z2:((jak c ts).eraseDups.length != (jak c ts).length)=false:=by simpa using h5
  rw[z1,z2];rfl
 rw[if_neg (by rw[e2];decide),if_neg (by rw[h6];decide),if_neg (by rw[h7];decide)]
theorem jhK (hk:∀x,env.kindOf x=c.sc.lookup x)(hb:env.blockKind=.function){elt:Expr}{gs:List YbB}{s:Scope}{p py:Pos}{y:Str}{l:Nat}(h:lcSw c y py p s=true) :
  YcP (.ListComp elt gs s p) (some (.Name y py)) l env=pure true:=by
 unfold lcSw at h;simp only[Yay]at h;unfold YcP;dsimp only;show(pure (env.blockKind == .function&&env.kindOf y==some .local&&py.line==p.line && !(s.names.any λ(n,k)=>n==y&&(k == .local||k == .cell))):Sem Bool)=pure true;rw[hb,hk,h.1.1,h.1.2,h.2];rfl
theorem jfn (hk:∀x,env.kindOf x=c.sc.lookup x){elt:Expr}{gs:List YbB}{s:Scope}{p py:Pos}{y:Str}{l:Nat}(h:(c.sc.lookup y==some .local)=false) :
  Ybm [.Name y py] (.ListComp elt gs s p) l env=pure false:=by
 show(pure (env.blockKind == .function&&env.kindOf y==some .local&&py.line==p.line && !(s.names.any λ(n,k)=>n==y&&(k == .local||k == .cell))):Sem Bool)=pure false;rw[hk,h];simp
end
section
variable {T:Tab}{k:Nat}
theorem Cos.kindOf {X:Cx}{c:Ctx}(C:Cos T k X c):∀x,X.env.kindOf x=c.sc.lookup x:=λx=>by
 unfold Env.kindOf;rw[C.sc]
theorem Cos.block {X:Cx}{c:Ctx}(C:Cos T k X c):X.env.blockKind=.function:=by
 unfold Env.blockKind;rw[C.kind];rfl
theorem jiQ {c:Ctx}:∀(is:List Nat) (hs:List Expr),(unNs c is hs).length=is.length
 |[],_=>rfl
 |_::is,hs=>congrArg (·+ 1) (jiQ is hs.tail)
theorem sw2 {c:Ctx}{x y:Str}{p q:Pos}(h:(jak c [.Name x p,.Name y q]).length=2):jak c [.Name x p,.Name y q]=[x,y]:=by
 unfold jak at h ⊢;simp only[YbY,List.filterMap_nil]at h ⊢;split at h<;>split at h<;>simp_all
section
variable {X:Cx}{c:Ctx}
theorem jlm {t:Tg}{d:E}{h:Stmt}(C:Cos T k X c)(q:okS T c (.asg t d) h=true)(hs:PE X (unE T c d (q0 h)) (lE X (den T.gs (jaa T k) d).1)):PS X (unS T c (.asg t d) h) (lS X (denS T.gs (jaa T k) (.asg t d))):=by
 have hg:=sTg C.toCok t (q1 h) (ba (ba q).1).2;have q3:=(ba q).2;have fin:Ybm [unTg c t (q1 h)] (unE T c d (q0 h)) h.pos.line X.env=pure false/\Ybc [unTg c t (q1 h)] (unE T c d (q0 h)) X.env=pure none:=by
  cases t with
  |n i=>
   refine⟨?_,jnC d _ _ _ _⟩;by_cases hl:isLc d=true
   ·cases d with
    |lc=>exact jfn C.kindOf (bn q3)
    |lc2=>exact jfn C.kindOf (bn q3)
    |_=>cases hl
   ·exact jje (by simpa using hl) _ _ _ _
  |t ts=>
   cases d with
   |lc=>cases q3
   |lc2=>cases q3
   |tup es=>exact⟨rfl,jd7 C.kindOf C.block q3⟩
   |_=>exact⟨rfl,rfl⟩
 exact s_asg hs hg fin.1 fin.2 (jgo t _ _)
theorem jlk {ts:Tgs}{d:E}{h:Stmt}(C:Cos T k X c)(q:okS T c (.unp ts d) h=true)(hs:PE X (unE T c d (q0 h)) (lE X (den T.gs (jaa T k) d).1)):PS X (unS T c (.unp ts d) h) (lS X (denS T.gs (jaa T k) (.unp ts d))):=by
 have hg:=sTgs C.toCok ts (cl (q1 h)) (ba (ba q).1).2;have q3:=(ba q).2;have fin:Ybm [unTg c (.t ts) (q1 h)] (unE T c d (q0 h)) h.pos.line X.env=pure false/\Ybc [unTg c (.t ts) (q1 h)] (unE T c d (q0 h)) X.env=pure none:=by
  cases d with
  |lc=>cases q3
  |lc2=>cases q3
  |tup es=>exact⟨rfl,jd7 C.kindOf C.block q3⟩
  |_=>exact⟨rfl,rfl⟩
 exact s_unp C.calm hs hg (jcR ts _ X.env).1 (jcR ts _ X.env).2 (λus ς k q=>jeN q) fin.1 fin.2 (jgo (.t ts) (q1 h) _)
theorem jll {is:List Nat}{es:Es}{h:Stmt}(C:Cos T k X c)(q:okS T c (.par is es) h=true)(ha:PA X (unEs T c es (cl (q0 h))) (lA X (jaO T.gs (jaa T k) es))):PS X (unS T c (.par is es) h) (lS X (denS T.gs (jaa T k) (.par is es))):=by
 have h3:=(ba (ba q).1).2;have h2:=(ba (ba (ba q).1).1).2;have hsw:=jgw (a:=kk (q1 h)) (b:=kk (q0 h)) (p:=(q1 h).pos) (q:=(q0 h).pos) C.kindOf C.block h3;unfold swapped at h3;simp only[Yay,Ycq,beq_iff_eq]at h3;obtain⟨⟨⟨⟨⟨⟨_,l2⟩,_⟩,l4⟩,_⟩,_⟩,_⟩:=h3;rw[jgn,jiQ]at l2;have l1:is.length=2:=of_decide_eq_true (ba q).2;have nd:X.N.Nodup:=by rw[C.hN];exact C.nd
 match is,es,l1,l2,l4,hsw,h2,ha with
 |[i,j],.cons a (.cons b .nil),_,_,l4,hsw,h2,ha=>
  have u1:=ba h2;have u2:=ba u1.2;refine s_par2 C.calm nd (C.nm (ba (ba u1.1).1).1) (C.nm (ba (ba u2.1).1).1) (by intro z;subst z;have:=(ba u1.1).2;simp at this) (C.loc _ (ba (ba u1.1).1).2) (C.loc _ (ba (ba u2.1).1).2) ha ?_ rfl
  rw[<- sw2 l4];exact hsw
 |[],_,l1,_,_,_,_,_=>exact absurd l1 (by simp)
 |[_],_,l1,_,_,_,_,_=>exact absurd l1 (by simp)
 |_::_::_::_,_,l1,_,_,_,_,_=>exact absurd l1 (by simp)
 |[_,_],.nil,_,l2,_,_,_,_=>exact absurd l2 (by simp[jbX])
 |[_,_],.cons _ .nil,_,l2,_,_,_,_=>exact absurd l2 (by simp[jbX])
 |[_,_],.cons _ (.cons _ (.cons _ _)),_,l2,_,_,_,_=>exact absurd l2 (by simp[jbX])
theorem jjt {i:Nat}{d:E}{h:Stmt}(C:Cos T k X c)(q:okS T c (.asgC i d) h=true):PS X (unS T c (.asgC i d) h) (lS X (denS T.gs (jaa T k) (.asgC i d))):=by
 have qd:=(ba (ba (ba q).1).1);have hl:=(ba q).2;have hi:=C.nm (ba (ba q).1).2;have hy:=eq_of_beq (ba (ba hl).1).1;cases d with
 |lc pick t it ifs d=>
  have q1':=qd.2;have S:=C.toCok.comp (ba (ba (ba (ba (ba (ba q1').1).1).1).1).1).1;exact s_lc (by rw[C.hN];exact C.nd) hi (by rw[C.sc];exact hy) C.calm S.1 (sI it t _ _ C.toCok (ba (ba (ba (ba q1').1).1).1).2).1 (ba (ba (ba (ba (ba (ba q1').1).1).1).1).1).2
   (λcl A s₀ H₀ fp=>sTg (S.2 cl A s₀ H₀ fp) t _ (ba (ba (ba (ba (ba q1').1).1).1).1).2) (λcl A s₀ H₀ fp=>sC ifs (S.2 cl A s₀ H₀ fp) (of_decide_eq_true (ba (ba q1').1).2) (ba (ba (ba q1').1).1).2)
   (λcl A s₀ H₀ fp=>lE0.of (sE d (S.2 cl A s₀ H₀ fp) (ba q1').2).1) (jhK C.kindOf C.block hl) (jjf it _ _)
 |lc2 pick t it ifs t2 it2 ifs2 d=>exact Bool.noConfusion (show false=true from qd.2)
 |_=>cases qd.1
end
mutual
theorem sS:∀(ir:S) {X:Cx} {c:Ctx} {h:Stmt},Cos T k X c->okS T c ir h=true->PS X (unS T c ir h) (lS X (denS T.gs (jaa T k) ir))
 |.pass,_,_,_,_,q=>nomatch q
 |.expr d,_,_,_,C,q=>s_expr (sE d C.toCok (ba q).1).1 (jjg (bn (ba q).2) _ _ _)
 |.asg _ d,_,_,_,C,q=>jlm C q (sE d C.toCok (ba (ba q).1).1).1
 |.asgC _ _,_,_,_,C,q=>jjt C q
 |.unp _ d,_,_,_,C,q=>jlk C q (sE d C.toCok (ba (ba q).1).1).1
 |.setS o i d,_,_,_,C,q=>s_set C.toCok.hu (sE d C.toCok (ba (ba q).1).1).1 (sE o C.toCok (ba (ba q).1).2).1 (sE i C.toCok (ba q).2).1 (jiE d _ _ _ _ _ _).1 (jiE d _ _ _ _ _ 0).2 rfl (jip (jas i _) _ _)
 |.par _ es,_,_,_,C,q=>jll C q (sEs es C.toCok (ba (ba (ba q).1).1).1)
 |.aug _ _ d,_,_,_,C,q=>let s:=C.toCok.store (ba (ba q).1).2;s_aug (by rw[C.hN];exact C.nd) (C.nm (ba (ba q).1).1) s.1 s.2 (sE d C.toCok (ba q).2).1
 |.augS _ _ _ _,_,_,_,_,q=>nomatch q
 |.ite t a b,_,_,_,C,q=>s_if (sE t C.toCok (ba (ba q).1).1).2 (sSs a C (ba (ba q).1).2) (sSs b C (ba q).2)
 |.fr t it b,_,_,_,C,q=>s_for C.po C.calm (sI it t _ _ C.toCok (ba (ba q).1).2).1 (sTg C.toCok t _ (ba (ba q).1).1) (sSs b C (ba q).2) (sI it t ⟨[],[]⟩ e0 C.toCok (ba (ba q).1).2).2
 |.wh t b,_,_,_,C,q=>s_wh C.po (sE t C.toCok (ba q).1).2 (sSs b C (ba q).2)
 |.ret d,_,_,_,C,q=>s_ret (sE d C.toCok q).1
 |.retN,_,_,_,_,q=>nomatch q
 |.never,_,_,_,_,_=>λ_ _ _ _ _ _ ⟨_,_,_,_,_,q,_⟩=>(show False from q).elim
 |.raise _ _,_,_,_,_,q=>nomatch q
 |.tr _ _ _ _,_,_,_,_,q=>nomatch q
theorem sSs:∀(ir:Ss) {X:Cx} {c:Ctx} {hs:List Stmt},Cos T k X c->okSs T c ir hs=true->PSs X (unSs T c ir hs) (lS X (jaN T.gs (jaa T k) ir))
 |.nil,_,_,_,_,_=>s_nil
 |.cons s r,_,_,_,C,q=>s_cons (t:=denS T.gs (jaa T k) s) (u:=jaN T.gs (jaa T k) r) (sS s C (ba q).1) (sSs r C (ba q).2)
end
end
theorem ji3 {T:Tab}{n:Nat}{d:Fun}(h:T.funs[n]?=some d):(T.funs++T.vf)[n]?=some d:=by
 rw[YaT (List.getElem?_eq_some_iff.mp h).1];exact h
theorem jhy {T:Tab}{k n:Nat}{d:Fun}(hd:(T.funs++T.vf)[n]?=some d){us:List U}{G:Gp}{Q:K1}{E:KX}(h:jaa T (k+1) n us G Q E) :
  us.length=d.ps.length/\jaN T.gs (jaa T k) d.body ⟨λ_ G'=>Q .non G',Q,λx _ G'=>E x G'⟩ (jad d.N.length us) G:=by
 have h':(match (T.funs++T.vf)[n]? with|some d=>us.length=d.ps.length/\jaN T.gs (jaa T k) d.body ⟨λ_ G'=>Q .non G',Q,λx _ G'=>E x G'⟩ (jad d.N.length us) G|none=>False):=h
 rw[hd]at h';exact h'
theorem jlE {X:Cx}{a b:List Stmt}{t:L2.TS}(e:a=b)(h:PSs X a t):PSs X b t:=e ▸ h
theorem jgx {K:Yab}{H:Hp}{N:List Str}{us:List U}{vs:List V}(r:RUs K H us vs):SR K H (jad N.length us) (L2.start N vs):=by
 unfold jad L2.start;refine⟨by simp[r.length],λi u e=>?_⟩
 by_cases hi:i<us.length
 ·rw[YaT (by simpa using hi),Yan]at e
  cases q:us[i]? with
  |none=>rw[q]at e;cases e
  |some w=>
   rw[q]at e;have:w=u:=by simpa using e
   subst this;obtain⟨v,ev,rv⟩:=r.get q;have hv:i<vs.length:=by rw[<- r.length];exact hi
   exact⟨v,by rw[YaT (by simpa using hv),Yan,ev];rfl,rv⟩
 ·rw[YbO (by simpa using hi),Yek]at e
  split at e<;>cases e
structure PF (T:Tab)(P:Program)(w:World)(K:Yab)(mg:Str->Option Value)(base:Heap)(k:Nat):Prop where
 blt:∀x∈jb8,mg x=none
 fns:∀(n:Nat) (d:Fun),T.funs[n]?=some d->FnU P w K mg base k d (jaa T k n)
 gls:∀(n:Nat) (x:Str) (u:U),T.gn[n]?=some x->T.gs[n]?=some u->∃v w,mg x=some w/\RelV v w/\∀H,RU K H u v
 cls:∀n∈T.cs,1<=n->∃C,XCls K (gK K) (clsN n) (clsF n) C
 mgK:∀x v,gK K x=some v->mg x=some v
noncomputable def scB (N ps:List Str)(sc:Scope):Bool:=
 decide (sc.kind=.function) && !sc.isCoroutine && !sc.isGenerator&&decide N.Nodup&&(N.take ps.length==ps)&&ps.all (λx=>sc.names.lookup x==some .local||sc.names.lookup x==some .cell)&&sc.names.all (λy=>y.2 != .free)
theorem jlt {N ps:List Str}{sc:Scope}(h:scB N ps sc=true):FnScope N ps sc:=by
 unfold scB at h;simp only[Yay,decide_eq_true_eq,Ydl]at h;obtain⟨⟨⟨⟨⟨⟨h1,h2⟩,h3⟩,h4⟩,h5⟩,h6⟩,h7⟩:=h;refine⟨h1,h2,h3,h4,eq_of_beq h5,λx hx=>?_,λy hy=>?_⟩
 ·have:=List.all_eq_true.mp h6 x hx;simpa using this
 ·simpa using List.all_eq_true.mp h7 y hy
noncomputable def jdP (T:Tab):Nat->List Fun->List Stmt->Bool
 |_,[],[]=>true
 |i,d::ds,st::sts=>scB d.N d.ps (jag st)&&((T.ns.lookup i).isSome||okSs T ⟨d.N,(jag st).names⟩ d.body (jap st))&&jdP T (i+1) ds sts
 |_,_,_=>false
def jed (T:Tab)(all:List Stmt):Nat->List Fun->List Stmt->Prop
 |_,[],_=>True
 |i,d::ds,st::sts=>(match T.ns.lookup i with
  |none=>unSs T ⟨d.N,(jag st).names⟩ d.body (jap st)=jap st
  |some _=>False)/\jed T all (i+1) ds sts
 |_,_::_,[]=>False
theorem jcW {T:Tab}{all:List Stmt}:∀{i:Nat} {ds:List Fun} {sts:List Stmt},jdP T i ds sts=true->jed T all i ds sts->∀{n:Nat} {d:Fun},ds[n]?=some d->∃st,sts[n]?=some st/\scB d.N d.ps (jag st)=true/\(match T.ns.lookup (i+n)with
  |none=>okSs T ⟨d.N,(jag st).names⟩ d.body (jap st)=true/\unSs T ⟨d.N,(jag st).names⟩ d.body (jap st)=jap st
  |some _=>False)
 |_,[],_,_,_,_,_,e=>by simp at e
 |_,_::_,[],h,_,_,_,_=>by unfold jdP at h;cases h
 |i,d::ds,st::sts,h,g,n,d',e=>by
  unfold jdP at h;unfold jed at g;simp only[Yay]at h;cases n with
  |zero=>
   simp at e;subst e;refine⟨st,rfl,h.1.1,?_⟩;have g1:=g.1;have h1:=h.1.2;rw[Nat.add_zero];cases q:T.ns.lookup i with
   |none=>rw[q]at g1 h1;exact⟨by simpa using h1,g1⟩
   |some z=>rw[q]at g1;exact g1
  |succ n=>
   obtain⟨st',e',q⟩:=jcW h.2 g.2 (n:=n) (by simpa using e)
   rw[show i+1+n=i+(n+1) by omega]at q
   exact⟨st',by simpa using e',q⟩
noncomputable def je6 (K:Yab)(v:Value)(P:Addr):Bool:=match v with
 |.ref c=>(match K.lookup c with
  |some ⟨.type t,_,.fields vs,_⟩=>t == "code" && (match (vs[11]?:Option Value)with|some (.ref Q)=>Q==P|_=>false)&&(match vs.getD 18 .none with|.str _ _=>true|_=>false)&&(match vs.getD 7 .none with|.int _ _=>true|_=>false)
   && (match vs.getD 9 .none with|.bool _=>true|_=>false)&&(match vs.getD 10 .none with|.int _ _=>true|_=>false)&&c != P
  |_=>false)
 |_=>false
section
variable {T:Tab}{P:Program}{w:World}{K:Yab}{mg:Str->Option Value}{base:Heap}
theorem jgm {j n:Nat}{f:Addr}{fd:Ybn}{ps:List Str}{t:List U->Gp->K1->KX->Prop}(hz:∀us G Q E,¬t us G Q E):FnOk P w K mg base (CX1 P w) j f fd ps (lSp K t):=
 ⟨λvs H Q E ⟨_,_,_,_,_,_,h,_⟩=>(hz _ _ _ _ h).elim,λA outer s H args us vs Q E _ _ _ _ ⟨_,_,_,_,_,_,h,_⟩=>(hz _ _ _ _ h).elim⟩
theorem jfr {k n:Nat}{d:Fun}{st:Stmt}{f:Addr}{fd:Ybn}(F:L2.Fun K d.name d.name st f fd)(h1:scB d.N d.ps (jag st)=true)(h2:okSs T ⟨d.N,(jag st).names⟩ d.body (jap st)=true)(h3:unSs T ⟨d.N,(jag st).names⟩ d.body (jap st)=jap st)
  (pf:PF T P w K mg base k) (hd:T.funs[n]?=some d):FnOk P w K mg base (CX1 P w) (k+3) f fd d.ps (lSp K (jaa T (k+1) n)):=by
 have S:=jlt h1;refine F.okX S (λvs H Q E ⟨us,G,Q',E',r,hG,h,lv,lx⟩=>by rw[<- r.length];exact(jhy (ji3 hd) h).1) λcdv A outer s H vs Q E hr hsp=>?_
 obtain⟨us,G,Q',E',r,hG,h,lv,lx⟩:=hsp;obtain⟨hl,h⟩:=jhy (ji3 hd) h;refine⟨_,jlE h3 (sSs d.body (k:=k) (c:=⟨d.N,(jag st).names⟩) (hs:=jap st) ⟨⟨rfl,S.nd,λx z=>eq_of_beq z,λx z=>⟨eq_of_beq z,rfl⟩,λx z=>.inr (eq_of_beq z),λx z=>eq_of_beq z,hr.mono (by omega),rfl,jom,pf.blt,pf.fns,pf.gls,hr,pf.cls,pf.mgK⟩,rfl,S.kind,rfl,rfl⟩ h2),?_⟩
 exact⟨_,_,G,jgx r,hG,h,⟨λς' σ' G' H' a b c q=>lv .non .non G' H' rfl b c q,λw v G' H' a b c q=>lv w v G' H' a b c q,λpins e s' x ς' σ' G' H' I sr xat hr' f q=>by obtain⟨ea,C0,dx,rfl,l,xd⟩:=xat;exact CX1.out1 I l (lx x G' H' C0 dx xd hr' f q)⟩⟩
abbrev Dyn (T:Tab)(K:Yab)(mg:Str->Option Value)(sts:List Stmt):Prop:=∀(n:Nat) (d:Fun) (st:Stmt),T.funs[n]?=some d->sts[n]?=some st->∃(f:Addr) (fd:Ybn),L2.Fun K d.name d.name st f fd/\mg d.name=some (.ref f)/\Binds K fd d.ps []/\∀z,T.ns.lookup n=some z->je6 K fd.code z.P=true
theorem jjI {sts:List Stmt}(hst:jdP T 0 T.funs sts=true)(heq:jed T sts 0 T.funs sts)(dyn:Dyn T K mg sts)(hU:∀t∈tabs,∀t'∈tabs,t.1=t'.1->t=t')(hKb:K.In base)(hB:BmAt mg base)
  (hb:∀x∈jb8,mg x=none) (hg:∀(n:Nat) (x:Str) (u:U),T.gn[n]?=some x->T.gs[n]?=some u->∃v w,mg x=some w/\RelV v w/\∀H,RU K H u v) (hc:∀n∈T.cs,1<=n->∃C,XCls K (gK K) (clsN n) (clsF n) C) (hm:∀x v,gK K x=some v->mg x=some v) :
  ∀(k:Nat),PF T P w K mg base k:=by
 intro k
 induction k using Nat.strongRecOn with
 |ind k ih=>
  refine⟨hb,λn d hd=>?_,hg,hc,hm⟩;obtain⟨st,e,h1,h2⟩:=jcW hst heq hd;obtain⟨f,fd,F,m,b,hz⟩:=dyn n d st hd e;refine⟨f,fd,?_,m,F.kp,b⟩;rw[Ycx]at h2;cases q:T.ns.lookup n with
  |none=>
   rw[q]at h2;obtain _|k:=k
   ·exact jgm (n:=n) λ_ _ _ _ h=>h
   ·exact jfr F h1 h2.1 h2.2 (ih k (by omega)) hd
  |some z=>rw[q]at h2;exact h2.elim
noncomputable def G0 (a:Addr)(ns:List Int):Gp:=λb=>if b=a then some (.fro (ns.map .int)) else none
theorem jg9 {H:Hp}:∀ns:List Int,RUs K H (ns.map .int) (ns.map V.int)
 |[]=>rfl
 |_::r=>⟨_,_,rfl,rfl,jg9 r⟩
theorem law_sp {k n:Nat}{H:Hp}{o:Obj}{a:Addr}{ns:List Int}{tb:List Addr}(hT:∀t∈tabs,t.1∈tb)(hO:jiB tb H)(fr:H a=some (.frz o (.lst (ns.map V.int))))(h:jaa T k n [.loc a] (G0 a ns) (λu _=>u=.bl true) λ_ _=>False) :
  lSp K (jaa T k n) [.ref a] H (λv _=>v=.bl true) λ_ _ _=>False:=by
 refine⟨[.loc a],G0 a ns,_,_,⟨_,_,rfl,rfl,rfl⟩,⟨λb mo e=>?_,λt ht=>.inl ?_⟩,h,λw v G' H' r _ _ q=>?_,λ_ _ _ _ _ _ _ _ z=>z.elim⟩
 ·unfold G0 at e;split at e
  ·rename_i z;subst z;cases e;exact⟨o,_,fr,jg9 ns⟩
  ·cases e
 ·have:=hO t.1;rw[if_pos (hT t ht)]at this;exact this
 ·subst q;exact r
theorem jf3 {sts:List Stmt}{k n:Nat}{d:Fun}{st:Stmt}{f:Addr}{fd:Ybn}(F:L2.Fun K d.name d.name st f fd)(hst:jdP T 0 T.funs sts=true)(heq:jed T sts 0 T.funs sts)(dyn:Dyn T K mg sts)(hU:∀t∈tabs,∀t'∈tabs,t.1=t'.1->t=t')(hKb:K.In base)(hB:BmAt mg base)
  (hb:∀x∈jb8,mg x=none) (hg:∀(n:Nat) (x:Str) (u:U),T.gn[n]?=some x->T.gs[n]?=some u->∃v w,mg x=some w/\RelV v w/\∀H,RU K H u v) (hc:∀n∈T.cs,1<=n->∃C,XCls K (gK K) (clsN n) (clsF n) C) (hm:∀x v,gK K x=some v->mg x=some v) (hd:T.funs[n]?=some d) (hs:sts[n]?=some st) (hn:T.ns.lookup n=none) :
  FnOk P w K mg base (CX1 P w) (k+2) f fd d.ps (lSp K (jaa T k n)):=by
 cases k with
 |zero=>exact jgm (n:=n) λ_ _ _ _ h=>h
 |succ k=>
  obtain⟨st',e,h1,h2⟩:=jcW hst heq hd;rw[hs]at e;cases e;rw[Ycx,hn]at h2;exact jfr F h1 h2.1 h2.2 (jjI hst heq dyn hU hKb hB hb hg hc hm k) hd
end
section
variable {K:Yab}
theorem joL {x:Str}{v:Value}(h:gK K x=some v):Yb5 K YaK x=some (some v):=by
 unfold gK at h;cases q:Yb5 K YaK x with
 |none=>rw[q]at h;cases h
 |some o=>rw[q]at h;rw[show o=some v from h]
theorem jmn {h:Heap}{mg:Str->Option Value}(X:K.In h)(G:h.Ns YaK mg):∀x v,gK K x=some v->mg x=some v:=λ_ _ e=>YcA X G (joL e)
end
theorem jbC {G:Gp}{a:Addr}{o u:MO}:gup (gup G a o) a u=gup G a u:=by funext b;unfold gup;split<;>rfl
def Sm (f:Addr)(G G':Gp):Prop:=∀b o,b≠f->G b=some o->G' b=some o
def Sa (G G':Gp):Prop:=∀b o,G b=some o->G' b=some o
theorem Sa.refl {G:Gp}:Sa G G:=λ_ _ h=>h
theorem Sm.trans {f:Addr}{G G1 G2:Gp}(a:Sm f G G1)(b:Sm f G1 G2):Sm f G G2:=λc o n h=>b c o n (a c o n h)
theorem Sa.trans {G G1 G2:Gp}(a:Sa G G1)(b:Sa G1 G2):Sa G G2:=λc o h=>b c o (a c o h)
theorem Sa.sm {f:Addr}{G G':Gp}(a:Sa G G'):Sm f G G':=λc o _ h=>a c o h
theorem Sa.new {G:Gp}{p:Addr}{o:MO}(h:G p=none):Sa G (gup G p o):=λc u e=>by
 rw[jbc (λz=>by rw[z,h]at e;cases e)];exact e
theorem Sm.put {G:Gp}{f:Addr}{o:MO}:Sm f G (gup G f o):=λc u n e=>by rw[jbc n];exact e
theorem jbA {G:Gp}{a p:Addr}{o:MO}(h:G a=some o)(hp:G p=none):p≠a:=λz=>by rw[z,h]at hp;cases hp
section
variable {G G':Gp}{p:Addr}{o:MO}
theorem New.at (n:New G p o G'):G' p=some o:=by rw[n.eq];exact jaf
theorem New.sa (n:New G p o G'):Sa G G':=by rw[n.eq];exact Sa.new n.no
theorem Put.at (n:Put G p o G'):G' p=some o:=by rw[n.eq];exact jaf
theorem Put.sm (n:Put G p o G'):Sm p G G':=by rw[n.eq];exact Sm.put
end
mutual
noncomputable def pd:U->PyData
 |.non=>.none
 |.bl b=>.bool b
 |.int i=>.int i
 |.str x=>.str x
 |.tup us=>.tuple (pds us)
 |.loc _=>.none
 |.fn _=>.none
 |.ty _=>.none
 |.exc _ _=>.none
 |.own _=>.none
 |.clo _ _=>.none
noncomputable def pds:List U->List PyData
 |[]=>[]
 |u::us=>pd u::pds us
end
mutual
noncomputable def bare:U->Bool
 |.non=>true
 |.bl _=>true
 |.int _=>true
 |.str _=>true
 |.tup us=>bares us
 |.loc _=>false
 |.fn _=>false
 |.ty _=>false
 |.exc _ _=>false
 |.own _=>false
 |.clo _ _=>false
noncomputable def bares:List U->Bool
 |[]=>true
 |u::us=>bare u&&bares us
end
mutual
theorem joS {G:Gp}:∀{u:U},bare u=true->DU G u (pd u)
 |.non,_=>.non
 |.bl b,_=>.bl b
 |.int i,_=>.int i
 |.str x,_=>.str x
 |.tup _,h=>.tup (jho h)
 |.loc _,h=>nomatch h
 |.fn _,h=>nomatch h
 |.ty _,h=>nomatch h
 |.exc _ _,h=>nomatch h
 |.own _,h=>nomatch h
 |.clo _ _,h=>nomatch h
theorem jho {G:Gp}:∀{us:List U},bares us=true->DUs G us (pds us)
 |[],_=>.nil
 |_::_,h=>.cons (joS (ba h).1) (jho (ba h).2)
end
structure Sml (n:Nat)(u:U):Prop where
 b:bare u=true
 l:(pd u).canLay0=true
 d:(pd u).depth<=n
theorem Sml.mono {n m:Nat}{u:U}(h:Sml n u)(e:n<=m):Sml m u:=⟨h.b,h.l,Yal h.d e⟩
theorem Sml.int (i:Int):Sml 0 (.int i):=⟨rfl,rfl,Yag _⟩
theorem Sml.str {x:Str}(h:∀c∈x.cps.toList,c<128):Sml 0 (.str x):=⟨rfl,by
 show x.cps.all (λc=>decide (c<0x110000))=true;rw[<- Array.all_toList,List.all_eq_true];exact λc hc=>by simpa using Ydw (h c hc) (by decide),Yag _⟩
theorem smls {n:Nat}:∀{us:List U},(∀u∈us,Sml n u)->bares us=true/\Ycw (pds us)=true/\YbC (pds us)<=n
 |[],_=>⟨rfl,rfl,Ybj _⟩
 |u::us,h=>by
  obtain⟨h1,h2,h3⟩:=smls λv hv=>h v (Yaj _ hv);have hu:=h u Yat;refine⟨?_,?_,?_⟩
  ·show(bare u&&bares us)=true;rw[hu.b,h1];rfl
  ·show((pd u).canLay0&&Ycw (pds us))=true;rw[hu.l,h2];rfl
  ·show max (pd u).depth (YbC (pds us))<=n;exact Nat.max_le.mpr ⟨hu.d,h3⟩
theorem Sml.tup {n:Nat}{us:List U}(h:∀u∈us,Sml n u):Sml (n+1) (.tup us):=let ⟨h1,h2,h3⟩:=smls h;⟨h1,h2,Nat.succ_le_succ h3⟩
theorem Sml.small {n:Nat}{u:U}(h:Sml n u)(hn:n<=100):Small (pd u):=⟨h.l,Yal h.d hn⟩
structure Ft (n k:Nat)(u:U):Prop where
 b:bare u=true
 f:Fits n k (pd u)
section
variable {ok:Gp->Prop}
theorem jaB {b:U->Sg->Gp->(Sg->Gp->Prop)->Prop}{k:Sg->Gp->Prop}:∀{xs:List U} (I:Nat->Sg->Gp->Prop) (_:∀ς G,I xs.length ς G->ok G/\k ς G)
  (_:∀i x ς G (K:Sg->Gp->Prop),xs[i]?=some x->I i ς G->(∀ς' G',I (i+1) ς' G'->K ς' G')->ok G/\b x ς G K) {ς:Sg} {G:Gp} (_:I 0 ς G),forL ok b xs ς G k
 |[],_,h0,_,_,_,h=>h0 _ _ h
 |x::_,I,h0,h1,_,_,h=>h1 0 x _ _ _ rfl h λ_ _ h'=>jaB (λi=>I (i+1)) h0 (λi y ς G K e hi hk=>h1 (i+1) y ς G K e hi hk) h'
theorem jay {b:U->Gp->(Option U->Gp->Prop)->Prop}{k:List U->Gp->Prop}:∀{xs:List U} (I:Nat->List U->Gp->Prop) (_:∀acc G,I xs.length acc G->ok G/\k acc G)
  (_:∀i x acc G (K:Option U->Gp->Prop),xs[i]?=some x->I i acc G->(∀u G',I (i+1) (acc++[u]) G'->K (some u) G')->(∀G',I (i+1) acc G'->K none G')->ok G/\b x G K) {acc:List U} {G:Gp} (_:I 0 acc G),jdk ok b xs acc G k
 |[],_,h0,_,_,_,h=>h0 _ _ h
 |x::_,I,h0,h1,_,_,h=>h1 0 x _ _ _ rfl h (λ_ _ h'=>jay (λi=>I (i+1)) h0 (λi y a G K e hi hk hn=>h1 (i+1) y a G K e hi hk hn) h') (λ_ h'=>jay (λi=>I (i+1)) h0 (λi y a G K e hi hk hn=>h1 (i+1) y a G K e hi hk hn) h')
theorem jaw {b:U->Gp->(Option U->Gp->Prop)->Prop}{k:List U->Gp->Prop}{G:Gp}(f:U->U)(hok:ok G):∀{xs:List U} (_:∀x∈xs,∀K:Option U->Gp->Prop,K (some (f x)) G->b x G K) {acc:List U} (_:k (acc++xs.map f) G),jdk ok b xs acc G k
 |[],_,acc,q=>⟨hok,by simpa using q⟩
 |x::xs,hb,acc,q=>⟨hok,hb x Yat _ (jaw f hok (λy hy=>hb y (Yaj _ hy)) (by simpa using q))⟩
end
theorem jaz (i:Int)(n:Nat):(rngU i n).length=n:=by unfold rngU;simp
theorem ja0 {n i:Nat}{x:U}(h:(rngU 0 n)[i]?=some x):i<n/\x=.int i:=by
 unfold rngU at h;rw[Yan]at h;by_cases hi:i<n
 ·rw[YeU hi]at h;exact⟨hi,by simpa using h.symm⟩
 ·rw[Ycj (by simpa using hi)]at h
  cases h
theorem jbD {α β:Type}(f:α->β)(l:List α)(i:Int):atI (l.map f) i=(atI l i).map f:=by
 unfold atI;rw[Yac];cases ixN l.length i with
 |none=>rfl
 |some j=>simp
section
variable {α:Type}
theorem jaV (a:α)(l:List α):atI (a::l) 0=some a:=jdl (xs:=a::l) (j:=0) rfl
theorem jat (a b:α)(l:List α):atI (a::b::l) 1=some b:=jdl (xs:=a::b::l) (j:=1) rfl
theorem jm5 (a b c:α)(l:List α):atI (a::b::c::l) 2=some c:=jdl (xs:=a::b::c::l) (j:=2) rfl
theorem jeK {l:List α}{r:Int}(h0:0<=r)(h1:r<l.length):∃x,x∈l/\atI l r=some x:=by
 obtain⟨j,rfl⟩:=Ya0 h0;have hj:j<l.length:=by omega
 exact⟨l[j],YbX hj,jdl (Yaa hj)⟩
end
noncomputable def fdU (c:Addr)(a l t:Int):List (Key×U):=[(.inr "cells",.loc c),(.inr "at",.int a),(.inr "left",.int l),(.inr "turn",.int t)]
structure Fd (G:Gp)(f c:Addr):Prop where
 ex:∃(ns:List Int) (a l t:Int),G f=some (.dK (fdU c a l t))/\G c=some (.lst (ns.map .int))/\ns≠[]
section
theorem k_ca:¬((Sum.inr ("cells" : Str):Key)=Sum.inr ("at" : Str)):=by decide +kernel
theorem k_cl:¬((Sum.inr ("cells" : Str):Key)=Sum.inr ("left" : Str)):=by decide +kernel
theorem k_ct:¬((Sum.inr ("cells" : Str):Key)=Sum.inr ("turn" : Str)):=by decide +kernel
theorem k_al:¬((Sum.inr ("at" : Str):Key)=Sum.inr ("left" : Str)):=by decide +kernel
theorem k_at:¬((Sum.inr ("at" : Str):Key)=Sum.inr ("turn" : Str)):=by decide +kernel
theorem k_lt:¬((Sum.inr ("left" : Str):Key)=Sum.inr ("turn" : Str)):=by decide +kernel
variable {c:Addr}{a l t:Int}
theorem jkG:dGet (fdU c a l t) (.inr "cells")=some (.loc c):=by simp[dGet,fdU]
theorem g_at:dGet (fdU c a l t) (.inr "at")=some (.int a):=by simp[dGet,fdU,k_ca,-YbZ]
theorem jmN:dGet (fdU c a l t) (.inr "left")=some (.int l):=by simp[dGet,fdU,k_cl,k_al,-YbZ]
theorem ji1:dGet (fdU c a l t) (.inr "turn")=some (.int t):=by simp[dGet,fdU,k_ct,k_at,k_lt,-YbZ]
theorem jiN (x:Int):dPut (fdU c a l t) (.inr "turn") (.int x)=fdU c a l x:=by simp[dPut,fdU,k_ct,k_at,k_lt,-YbZ]
theorem p_at (x:Int):dPut (fdU c a l t) (.inr "at") (.int x)=fdU c x l t:=by simp[dPut,fdU,k_ca,Ne.symm k_al,Ne.symm k_at,-YbZ]
theorem jl0 (x:Int):dPut (fdU c a l t) (.inr "left") (.int x)=fdU c a x t:=by simp[dPut,fdU,k_cl,k_al,Ne.symm k_lt,-YbZ]
theorem jmp {p:Addr}:jdi [((Sum.inr ("cells" : Str):Key),U.loc p),(.inr "at",.int 0),(.inr "left",.int 0),(.inr "turn",.int 0)]=fdU p 0 0 0:=by
 simp[jdi,dPut,fdU,k_ca,k_cl,k_ct,k_al,k_at,k_lt,-YbZ]
theorem jfO:(fdU c a l t).length<Yah:=by show 4<Yah;decide
section
variable {G G':Gp}
theorem Fd.put {f c:Addr}{ns:List Int}{kvs:List (Key×U)}{a l t:Int}(p:Put G f (.dK (fdU c a l t)) G')(h:G f=some (.dK kvs))(hc:G c=some (.lst (ns.map .int)))(hn:ns≠[]):Fd G' f c:=
 ⟨ns,a,l,t,p.at,p.sm _ _ (λz=>by rw[z,h]at hc;cases hc) hc,hn⟩
theorem Fd.sa {f c:Addr}(h:Fd G f c)(s:Sa G G'):Fd G' f c:=let ⟨ns,a,l,t,h1,h2,h3⟩:=h.ex;⟨ns,a,l,t,s _ _ h1,s _ _ h2,h3⟩
theorem Fd.new {f c p:Addr}{o:MO}(h:Fd G f c)(n:New G p o G'):Fd G' f c:=h.sa n.sa
theorem Fd.away {f c p:Addr}{o:MO}(h:Fd G f c)(n:New G p o G'):p≠f/\p≠c:=by
 obtain⟨ns,a,l,t,h1,h2,_⟩:=h.ex;exact⟨jbA h1 n.no,jbA h2 n.no⟩
theorem Fd.off {f c p:Addr}{o:MO}(h:Fd G f c)(hp:p≠f/\p≠c)(w:Put G p o G'):Fd G' f c:=let ⟨ns,a,l,t,h1,h2,h3⟩:=h.ex;⟨ns,a,l,t,w.sm _ _ (Ne.symm hp.1) h1,w.sm _ _ (Ne.symm hp.2) h2,h3⟩
end
theorem Sm.wr {f p:Addr}{G G1 G2 G3:Gp}{o:MO}(s1:Sm f G G1)(n:G1 p=none)(s2:Sm f G G2)(w:Put G2 p o G3):Sm f G G3:=λb u hb e=>w.sm b u (λz=>by
 have:=s1 _ _ hb e;rw[z,n]at this;cases this) (s2 b u hb e)
theorem Sm.nw {f p:Addr}{G G1 G2:Gp}{o:MO}(s:Sm f G G1)(n:New G1 p o G2):Sm f G G2:=s.trans n.sa.sm
end
section
variable {gs:List U}{Δ:Cl}
theorem D_v {ς:Sg}{G:Gp}{Q:K1}{X:KX}(i:Nat):(den gs Δ (.v i)).1 ς G Q X=(slot ς i λu=>Q u G):=rfl
theorem T_v {ς:Sg}{G:Gp}{R:Bool->Gp->Prop}{X:KX}(i:Nat):(den gs Δ (.v i)).2 ς G R X=(den gs Δ (.v i)).1 ς G (λx G1=>truU x G1 λb=>R b G1) X:=rfl
theorem jpM {ς:Sg}{G:Gp}{Q:K1}{X:KX}: (den gs Δ (.non)).1 ς G Q X=(Q .non G):=rfl
theorem D_bl {ς:Sg}{G:Gp}{Q:K1}{X:KX}(b:Bool):(den gs Δ (.bl b)).1 ς G Q X=(Q (.bl b) G):=rfl
theorem jpU {ς:Sg}{G:Gp}{Q:K1}{X:KX}(i:Int):(den gs Δ (.int i)).1 ς G Q X=(Q (.int i) G):=rfl
theorem jpJ {ς:Sg}{G:Gp}{Q:K1}{X:KX}(x:Str):(den gs Δ (.str x)).1 ς G Q X=(Q (.str x) G):=rfl
theorem D_g {ς:Sg}{G:Gp}{Q:K1}{X:KX}(n:Nat):(den gs Δ (.g n)).1 ς G Q X=(glU gs n λu=>Q u G):=rfl
theorem T_g {ς:Sg}{G:Gp}{R:Bool->Gp->Prop}{X:KX}(n:Nat):(den gs Δ (.g n)).2 ς G R X=(den gs Δ (.g n)).1 ς G (λx G1=>truU x G1 λb=>R b G1) X:=rfl
theorem D_ty {ς:Sg}{G:Gp}{Q:K1}{X:KX}(n:String):(den gs Δ (.ty n)).1 ς G Q X=(Q (.ty n) G):=rfl
theorem T_ty {ς:Sg}{G:Gp}{R:Bool->Gp->Prop}{X:KX}(n:String):(den gs Δ (.ty n)).2 ς G R X=(den gs Δ (.ty n)).1 ς G (λx G1=>truU x G1 λb=>R b G1) X:=rfl
theorem jp0 {ς:Sg}{G:Gp}{Q:K1}{X:KX}(o:YbK)(a b:E):(den gs Δ (.bin o a b)).1 ς G Q X=((den gs Δ a).1 ς G (λx G1=>(den gs Δ b).1 ς G1 (λy G2=>binU o x y G2 Q) X) X):=rfl
theorem jpp {ς:Sg}{G:Gp}{R:Bool->Gp->Prop}{X:KX}(o:YbK)(a b:E):(den gs Δ (.bin o a b)).2 ς G R X=(den gs Δ (.bin o a b)).1 ς G (λx G1=>truU x G1 λb=>R b G1) X:=rfl
theorem jpN {ς:Sg}{G:Gp}{Q:K1}{X:KX}(a:E):(den gs Δ (.neg a)).1 ς G Q X=((den gs Δ a).1 ς G (λx G1=>negU x G1 Q) X):=rfl
theorem jpY {ς:Sg}{G:Gp}{Q:K1}{X:KX}(o:CmpOp)(a b:E):(den gs Δ (.cmp o a b)).1 ς G Q X=((den gs Δ a).1 ς G (λx G1=>(den gs Δ b).1 ς G1 (λy G2=>cmpU o x y G2 λc=>Q (.bl c) G2) X) X):=rfl
theorem jpn {ς:Sg}{G:Gp}{R:Bool->Gp->Prop}{X:KX}(o:CmpOp)(a b:E):(den gs Δ (.cmp o a b)).2 ς G R X=(den gs Δ (.cmp o a b)).1 ς G (λx G1=>truU x G1 λb=>R b G1) X:=rfl
theorem jnu {ς:Sg}{G:Gp}{Q:K1}{X:KX}(o p:CmpOp)(a b c:E):(den gs Δ (.cmp2 o p a b c)).1 ς G Q X=((den gs Δ a).1 ς G (λx G1=>(den gs Δ b).1 ς G1 (λy G2=>cmpU o x y G2 λt=>if t=true then (den gs Δ c).1 ς G2 (λz G3=>cmpU p y z G3 λt'=>Q (.bl t') G3) X else Q (.bl false) G2) X) X):=rfl
theorem jnf {ς:Sg}{G:Gp}{R:Bool->Gp->Prop}{X:KX}(o p:CmpOp)(a b c:E):(den gs Δ (.cmp2 o p a b c)).2 ς G R X=(den gs Δ (.cmp2 o p a b c)).1 ς G (λx G1=>truU x G1 λb=>R b G1) X:=rfl
theorem jpI {ς:Sg}{G:Gp}{Q:K1}{X:KX}(es:Es):(den gs Δ (.tup es)).1 ς G Q X=(jaO gs Δ es ς G (λus G1=>us.length<=Yah/\Q (.tup us) G1) X):=rfl
theorem jpR {ς:Sg}{G:Gp}{Q:K1}{X:KX}(es:Es):(den gs Δ (.lst es)).1 ς G Q X=(jaO gs Δ es ς G (λus G1=>us.length<=Yah/\newO G1 (.lst us) Q) X):=rfl
theorem jpX {ς:Sg}{G:Gp}{Q:K1}{X:KX}(es:Es):(den gs Δ (.dic es)).1 ς G Q X=(denD gs Δ es ς G (λkvs G1=>kvs.length<=15/\newO G1 (.dK (jdi kvs)) Q) X):=rfl
theorem D_ix {ς:Sg}{G:Gp}{Q:K1}{X:KX}(a b:E):(den gs Δ (.ix a b)).1 ς G Q X=((den gs Δ a).1 ς G (λx G1=>(den gs Δ b).1 ς G1 (λy G2=>ixU x y G2 Q) X) X):=rfl
theorem T_ix {ς:Sg}{G:Gp}{R:Bool->Gp->Prop}{X:KX}(a b:E):(den gs Δ (.ix a b)).2 ς G R X=(den gs Δ (.ix a b)).1 ς G (λx G1=>truU x G1 λb=>R b G1) X:=rfl
theorem D_sl {ς:Sg}{G:Gp}{Q:K1}{X:KX}(a:E)(lo hi:Eo):(den gs Δ (.sl a lo hi)).1 ς G Q X=((den gs Δ a).1 ς G (λx G1=>denO gs Δ lo ς G1 (λl G2=>denO gs Δ hi ς G2 (λh G3=>slU x l h G3 Q) X) X) X):=rfl
theorem jpK {ς:Sg}{G:Gp}{Q:K1}{X:KX}(a b:E):(den gs Δ (.rev a b)).1 ς G Q X=((den gs Δ a).1 ς G (λx G1=>(den gs Δ b).1 ς G1 (λy G2=>revU x y G2 Q) X) X):=rfl
theorem jnv {ς:Sg}{G:Gp}{Q:K1}{X:KX}(n:Nat)(es:Es):(den gs Δ (.call n es)).1 ς G Q X=(jaO gs Δ es ς G (λus G1=>Δ n us G1 Q X) X):=rfl
theorem jng {ς:Sg}{G:Gp}{R:Bool->Gp->Prop}{X:KX}(n:Nat)(es:Es):(den gs Δ (.call n es)).2 ς G R X=(den gs Δ (.call n es)).1 ς G (λx G1=>truU x G1 λb=>R b G1) X:=rfl
theorem jpZ {ς:Sg}{G:Gp}{Q:K1}{X:KX}(b:Blt)(es:Es):(den gs Δ (.blt b es)).1 ς G Q X=(jaO gs Δ es ς G (λus G1=>bltU b us G1 Q) X):=rfl
theorem jpo {ς:Sg}{G:Gp}{R:Bool->Gp->Prop}{X:KX}(b:Blt)(es:Es):(den gs Δ (.blt b es)).2 ς G R X=(den gs Δ (.blt b es)).1 ς G (λx G1=>truU x G1 λb=>R b G1) X:=rfl
theorem jnt {ς:Sg}{G:Gp}{Q:K1}{X:KX}(m:Mth)(o:E)(es:Es):(den gs Δ (.meth m o es)).1 ς G Q X=((den gs Δ o).1 ς G (λx G1=>match mtU m x G1 with|some _=>jaO gs Δ es ς G1 (λus G2=>jaU m x us G2 Q) X|none=>False) X):=rfl
theorem D_lc {ς:Sg}{G:Gp}{Q:K1}{X:KX}(pick:List (Option Nat))(t:Tg)(it:It)(ifs:Es)(e:E):(den gs Δ (.lc pick t it ifs e)).1 ς G Q X=(denI gs Δ it ς G (λxs ok G1=>xs.length<=Yah/\jdk ok (λx G2 k=>tgU t x (jbz pick ς) λτ=>denC gs Δ ifs τ G2 (λb G3=>if b=true then (den gs Δ e).1 τ G3 (λu G4=>k (some u) G4) (λ_ _=>False) else k none G3)) xs [] G1 λus G5=>newO G5 (.lst us) Q) X):=rfl
theorem jpT {ς:Sg}{G:Gp}{Q:K1}{X:KX}(pick:List (Option Nat))(t:Tg)(it:It)(ifs:Es)(t2:Tg)(it2:It)(ifs2:Es)(e:E):(den gs Δ (.lc2 pick t it ifs t2 it2 ifs2 e)).1 ς G Q X=(denI gs Δ it ς G (λxs ok G1=>jkU ok (λx acc G2 k=>tgU t x (jbz pick ς) λτ=>denC gs Δ ifs τ G2 (λb G3=>if b=true then denI gs Δ it2 τ G3 (λys ok2 G4=>acc.length+ys.length<=Yah/\jdk ok2 (λy G5 k5=>tgU t2 y τ λτ'=>denC gs Δ ifs2 τ' G5 (λb2 G6=>if b2=true then (den gs Δ e).1 τ' G6 (λu G7=>k5 (some u) G7) (λ_ _=>False) else k5 none G6)) ys acc G4 k) (λ_ _=>False) else k acc G3)) xs [] G1 λus G5=>newO G5 (.lst us) Q) X):=rfl
theorem jpk {ς:Sg}{G:Gp}{R:Bool->Gp->Prop}{X:KX}(pick:List (Option Nat))(t:Tg)(it:It)(ifs:Es)(t2:Tg)(it2:It)(ifs2:Es)(e:E):(den gs Δ (.lc2 pick t it ifs t2 it2 ifs2 e)).2 ς G R X=(den gs Δ (.lc2 pick t it ifs t2 it2 ifs2 e)).1 ς G (λx G1=>truU x G1 λb=>R b G1) X:=rfl
theorem jpW {ς:Sg}{G:Gp}{Q:K1}{X:KX}(es:Es):(den gs Δ (.fst es)).1 ς G Q X=(denF gs Δ es ς G (λzs G1=>Q (.str (L2.cats YeA zs)) G1) X):=rfl
theorem jpm {ς:Sg}{G:Gp}{R:Bool->Gp->Prop}{X:KX}(es:Es):(den gs Δ (.fst es)).2 ς G R X=(den gs Δ (.fst es)).1 ς G (λx G1=>truU x G1 λb=>R b G1) X:=rfl
theorem jpS {ς:Sg}{G:Gp}{Q:K1}{X:KX}(e:E)(i:Nat)(y a b:Str)(es:Es):(den gs Δ (.lrp e i y a b es)).1 ς G Q X=((den gs Δ e).1 ς G (λx G1=>slot ς i λu=>repU y b u λz w=>jaO gs Δ es ς G1 (λus G2=>(x::.str z::.str w::us).length<=Yah/\newO G2 (.lst (x::.str z::.str w::us)) Q) X) X):=rfl
theorem jpj {ς:Sg}{G:Gp}{R:Bool->Gp->Prop}{X:KX}(e:E)(i:Nat)(y a b:Str)(es:Es):(den gs Δ (.lrp e i y a b es)).2 ς G R X=(den gs Δ (.lrp e i y a b es)).1 ς G (λx G1=>truU x G1 λb=>R b G1) X:=rfl
theorem jpQ {ς:Sg}{G:Gp}{Q:K1}{X:KX}(e:E):(den gs Δ (.mkD e)).1 ς G Q X=((den gs Δ e).1 ς G (λx G1=>mkDU x G1 Q) X):=rfl
theorem jpi {ς:Sg}{G:Gp}{R:Bool->Gp->Prop}{X:KX}(e:E):(den gs Δ (.mkD e)).2 ς G R X=(den gs Δ (.mkD e)).1 ς G (λx G1=>truU x G1 λb=>R b G1) X:=rfl
theorem jpP {ς:Sg}{G:Gp}{Q:K1}{X:KX}(e:E):(den gs Δ (.mkL e)).1 ς G Q X=((den gs Δ e).1 ς G (λx G1=>itU x G1 λxs _=>newO G1 (.lst xs) Q) X):=rfl
theorem jpO {ς:Sg}{G:Gp}{Q:K1}{X:KX}(e:E):(den gs Δ (.mkT e)).1 ς G Q X=((den gs Δ e).1 ς G (λx G1=>itU x G1 λxs _=>Q (.tup xs) G1) X):=rfl
theorem jpL {ς:Sg}{G:Gp}{Q:K1}{X:KX}(a:E):(den gs Δ (.not a)).1 ς G Q X=((den gs Δ a).1 ς G (λx G1=>truU x G1 λb=>Q (.bl (!b)) G1) X):=rfl
theorem jph {ς:Sg}{G:Gp}{R:Bool->Gp->Prop}{X:KX}(a:E):(den gs Δ (.not a)).2 ς G R X=((den gs Δ a).2 ς G (λb G1=>R (!b) G1) X):=rfl
theorem jpV {ς:Sg}{G:Gp}{Q:K1}{X:KX}(c a b:E):(den gs Δ (.ife c a b)).1 ς G Q X=((den gs Δ c).2 ς G (λt G1=>if t=true then (den gs Δ a).1 ς G1 Q X else (den gs Δ b).1 ς G1 Q X) X):=rfl
theorem jpl {ς:Sg}{G:Gp}{R:Bool->Gp->Prop}{X:KX}(c a b:E):(den gs Δ (.ife c a b)).2 ς G R X=((den gs Δ c).2 ς G (λt G1=>if t=true then (den gs Δ a).2 ς G1 R X else (den gs Δ b).2 ς G1 R X) X):=rfl
theorem jnw {k:Bool}{a:E}:den gs Δ (.bop k a .nil)=den gs Δ a:=rfl
theorem jp1 {ς:Sg}{G:Gp}{Q:K1}{X:KX}{a b:E}{es:Es}:(den gs Δ (.bop true a (.cons b es))).1 ς G Q X=(den gs Δ a).1 ς G (λx G1=>truU x G1 λc=>if c=true then (den gs Δ (.bop true b es)).1 ς G1 Q X else Q x G1) X:=rfl
theorem D_or {ς:Sg}{G:Gp}{Q:K1}{X:KX}{a b:E}{es:Es}:(den gs Δ (.bop false a (.cons b es))).1 ς G Q X=(den gs Δ a).1 ς G (λx G1=>truU x G1 λc=>if c=true then Q x G1 else (den gs Δ (.bop false b es)).1 ς G1 Q X) X:=rfl
theorem jpq {ς:Sg}{G:Gp}{R:Bool->Gp->Prop}{X:KX}{a b:E}{es:Es}:(den gs Δ (.bop true a (.cons b es))).2 ς G R X=(den gs Δ a).2 ς G (λc G1=>if c=true then (den gs Δ (.bop true b es)).2 ς G1 R X else R false G1) X:=rfl
theorem T_or {ς:Sg}{G:Gp}{R:Bool->Gp->Prop}{X:KX}{a b:E}{es:Es}:(den gs Δ (.bop false a (.cons b es))).2 ς G R X=(den gs Δ a).2 ς G (λc G1=>if c=true then R true G1 else (den gs Δ (.bop false b es)).2 ς G1 R X) X:=rfl
theorem O_no {ς:Sg}{G:Gp}{X:KX}{Q:Option Int->Gp->Prop}:denO gs Δ .no ς G Q X=Q none G:=rfl
theorem O_so {ς:Sg}{G:Gp}{X:KX}{Q:Option Int->Gp->Prop}{e:E}:denO gs Δ (.so e) ς G Q X=(den gs Δ e).1 ς G (λx G1=>match x with|.int i=>Q (some i) G1|_=>False) X:=rfl
theorem jp5 {ς:Sg}{G:Gp}{X:KX}{Q:List U->Gp->Prop}:jaO gs Δ .nil ς G Q X=Q [] G:=rfl
theorem jnz {ς:Sg}{G:Gp}{X:KX}{Q:List U->Gp->Prop}{e:E}{es:Es}:jaO gs Δ (.cons e es) ς G Q X=(den gs Δ e).1 ς G (λx G1=>jaO gs Δ es ς G1 (λxs G2=>Q (x::xs) G2) X) X:=rfl
theorem jp3 {ς:Sg}{G:Gp}{Q:Bool->Gp->Prop}:denC gs Δ .nil ς G Q=Q true G:=rfl
theorem jnx {ς:Sg}{G:Gp}{Q:Bool->Gp->Prop}{e:E}{es:Es}:denC gs Δ (.cons e es) ς G Q=(den gs Δ e).2 ς G (λb G1=>if b=true then denC gs Δ es ς G1 Q else Q false G1) (λ_ _=>False):=rfl
theorem jpx {ς:Sg}{G:Gp}{X:KX}{Q:List (Key×U)->Gp->Prop}:denD gs Δ .nil ς G Q X=Q [] G:=rfl
theorem jnk {ς:Sg}{G:Gp}{X:KX}{Q:List (Key×U)->Gp->Prop}{e f:E}{es:Es}:denD gs Δ (.cons e (.cons f es)) ς G Q X=(den gs Δ e).1 ς G (λx G1=>(den gs Δ f).1 ς G1 (λy G2=>match kU x with|some k=>denD gs Δ es ς G2 (λkvs G3=>Q ((k,y)::kvs) G3) X|none=>False) X) X:=rfl
theorem I_e {ς:Sg}{G:Gp}{X:KX}{Q:List U->(Gp->Prop)->Gp->Prop}{e:E}:denI gs Δ (.e e) ς G Q X=(den gs Δ e).1 ς G (λx G1=>itU x G1 λxs ok=>Q xs ok G1) X:=rfl
theorem I_r1 {ς:Sg}{G:Gp}{X:KX}{Q:List U->(Gp->Prop)->Gp->Prop}{e:E}:denI gs Δ (.r1 e) ς G Q X=(den gs Δ e).1 ς G (λx G1=>match x with|.int j=>-(2 ^ 62)<=j/\j<2 ^ 62/\Q (rngU 0 j.toNat) (λ_=>True) G1|_=>False) X:=rfl
theorem jnl {ς:Sg}{G:Gp}{X:KX}{Q:List U->(Gp->Prop)->Gp->Prop}{e:E}:denI gs Δ (.enum e) ς G Q X=(den gs Δ e).1 ς G (λx G1=>enI x G1 λxs ok=>Q xs ok G1) X:=rfl
theorem I_s {ς:Sg}{G:Gp}{X:KX}{Q:List U->(Gp->Prop)->Gp->Prop}{e:E}:denI gs Δ (.s e) ς G Q X=(den gs Δ e).1 ς G (λx G1=>sgU x λxs=>Q xs (λ_=>True) G1) X:=rfl
theorem jpD {ς:Sg}{G:Gp}{X:KX}{Q:List Str->Gp->Prop}:denF gs Δ .nil ς G Q X=Q [] G:=rfl
theorem jns {ς:Sg}{G:Gp}{X:KX}{Q:List Str->Gp->Prop}{e:E}{es:Es}:denF gs Δ (.cons e es) ς G Q X=(den gs Δ e).1 ς G (λx G1=>fpU x λz=>denF gs Δ es ς G1 (λzs G2=>Q (z::zs) G2) X) X:=rfl
theorem I_dv {ς:Sg}{G:Gp}{X:KX}{Q:List U->(Gp->Prop)->Gp->Prop}{e:E}:denI gs Δ (.dv e) ς G Q X=(den gs Δ e).1 ς G (λx G1=>jcG jcN x G1 Q) X:=rfl
theorem I_di {ς:Sg}{G:Gp}{X:KX}{Q:List U->(Gp->Prop)->Gp->Prop}{e:E}:denI gs Δ (.di e) ς G Q X=(den gs Δ e).1 ς G (λx G1=>jcG jcx x G1 Q) X:=rfl
theorem I_dk {ς:Sg}{G:Gp}{X:KX}{Q:List U->(Gp->Prop)->Gp->Prop}{e:E}:denI gs Δ (.dk e) ς G Q X=(den gs Δ e).1 ς G (λx G1=>jk0 x G1 Q) X:=rfl
theorem jpr {D:En}{ς:Sg}{G:Gp}{ts:Tgs}{e:E}:denS gs Δ (.unp ts e) D ς G=(den gs Δ e).1 ς G (λu G1=>unpU ts u G1 ς λς'=>D.nx ς' G1) λx G1=>D.ex x ς G1:=rfl
theorem jni {D:En}{ς:Sg}{G:Gp}{e:E}:denS gs Δ (.expr e) D ς G=(den gs Δ e).1 ς G (λ_ G1=>D.nx ς G1) λx G1=>D.ex x ς G1:=rfl
theorem jpw {D:En}{ς:Sg}{G:Gp}{t:Tg}{e:E}:denS gs Δ (.asg t e) D ς G=(den gs Δ e).1 ς G (λu G1=>tgU t u ς λς'=>D.nx ς' G1) λx G1=>D.ex x ς G1:=rfl
theorem jnj {D:En}{ς:Sg}{G:Gp}{i:Nat}{e:E}:denS gs Δ (.asgC i e) D ς G=(den gs Δ e).1 ς G (λu G1=>D.nx (ς.set i (some u)) G1) λx G1=>D.ex x ς G1:=rfl
theorem jnh {D:En}{ς:Sg}{G:Gp}{o i e:E}:denS gs Δ (.setS o i e) D ς G=(den gs Δ e).1 ς G (λv G1=>(den gs Δ o).1 ς G1 (λx G2=>(den gs Δ i).1 ς G2 (λy G3=>setU x y v G3 λG4=>D.nx ς G4) (λx G1=>D.ex x ς G1)) (λx G1=>D.ex x ς G1)) (λx G1=>D.ex x ς G1):=rfl
theorem jpt {D:En}{ς:Sg}{G:Gp}{is:List Nat}{es:Es}:denS gs Δ (.par is es) D ς G=jaO gs Δ es ς G (λus G1=>us.length=is.length/\D.nx ((is.zip us).foldl (λs p=>s.set p.1 (some p.2)) ς) G1) λx G1=>D.ex x ς G1:=rfl
theorem jpv {D:En}{ς:Sg}{G:Gp}{i:Nat}{o:YbK}{e:E}:denS gs Δ (.aug i o e) D ς G=slot ς i λx=>(den gs Δ e).1 ς G (λy G1=>jhd o x y G1 λz G2=>D.nx (ς.set i (some z)) G2) λx G1=>D.ex x ς G1:=rfl
theorem jpu {D:En}{ς:Sg}{G:Gp}{c:E}{a b:Ss}:denS gs Δ (.ite c a b) D ς G=(den gs Δ c).2 ς G (λt G1=>if t=true then jaN gs Δ a D ς G1 else jaN gs Δ b D ς G1) λx G1=>D.ex x ς G1:=rfl
theorem S_fr {D:En}{ς:Sg}{G:Gp}{t:Tg}{it:It}{b:Ss}:denS gs Δ (.fr t it b) D ς G=denI gs Δ it ς G (λxs ok G1=>forL ok (λx ς1 G2 k=>tgU t x ς1 λς2=>jaN gs Δ b { D with nx:=k } ς2 G2) xs ς G1 D.nx) λx G1=>D.ex x ς G1:=rfl
theorem jps {D:En}{ς:Sg}{G:Gp}{e:E}:denS gs Δ (.ret e) D ς G=(den gs Δ e).1 ς G D.rt λx G1=>D.ex x ς G1:=rfl
theorem jkY {D:En}{ς:Sg}{G:Gp}{c:Nat}{es:Es}:denS gs Δ (.raise c es) D ς G=jaO gs Δ es ς G (λus G1=>us.length=(clsF c).length/\D.ex ⟨c,us⟩ ς G1) λx G1=>D.ex x ς G1:=rfl
theorem S_tr {D:En}{ς:Sg}{G:Gp}{b:Ss}{c n:Nat}{h:List HS}:denS gs Δ (.tr b c n h) D ς G=jaN gs Δ b { D with ex:=λx ς1 G1=>(c=0\/x.c=c)/\hsH x h (ς1.set n none) G1 λς2 G2=>D.nx (ς2.set n none) G2 } ς G:=rfl
theorem jp4 {D:En}{ς:Sg}{G:Gp}:jaN gs Δ .nil D ς G=D.nx ς G:=rfl
theorem jny {D:En}{ς:Sg}{G:Gp}{s:S}{r:Ss}:jaN gs Δ (.cons s r) D ς G=denS gs Δ s { D with nx:=λς' G'=>jaN gs Δ r D ς' G' } ς G:=rfl
theorem S_wh {D:En}{ς:Sg}{G:Gp}{c:E}{b:Ss}:denS gs Δ (.wh c b) D ς G=∃W:Nat->Sg->Gp->Prop,(∃m,W m ς G)/\∀m ς1 G1,W m ς1 G1->(den gs Δ c).2 ς1 G1 (λt G2=>if t=true then jaN gs Δ b { D with nx:=λς' G'=>∃m',m'<m/\W m' ς' G' } ς1 G2 else D.nx ς1 G2) λx G1=>D.ex x ς1 G1:=rfl
end
section
variable {G:Gp}
theorem jpg {Q:K1}{i j:Int}:binU .Add (.int i) (.int j) G Q=Q (.int (i+j)) G:=rfl
theorem jpf {Q:K1}{xs ys:List U}:binU .Add (.tup xs) (.tup ys) G Q=(xs.length+ys.length<=Yah/\Q (.tup (xs++ys)) G):=rfl
theorem jnc {Q:K1}{a b:Addr}:binU .Add (.loc a) (.loc b) G Q=∃xs ys,G a=some (.lst xs)/\G b=some (.lst ys)/\xs.length+ys.length<=Yah/\newO G (.lst (xs++ys)) Q:=rfl
theorem jpa {Q:K1}{i j:Int}:binU .Sub (.int i) (.int j) G Q=Q (.int (i-j)) G:=rfl
theorem jpd {Q:K1}{i j:Int}:binU .Mult (.int i) (.int j) G Q=(CMul i j/\Q (.int (i*j)) G):=rfl
theorem jna {Q:K1}{a:Addr}{k:Int}:binU .Mult (.loc a) (.int k) G Q=∃xs,G a=some (.lst xs)/\-(2 ^ 63)<=k/\k<2 ^ 63/\xs.length*k.toNat<=Yah/\newO G (.lst (Yae k.toNat xs).flatten) Q:=rfl
theorem jm9 {Q:K1}{xs:List U}{k:Int}:binU .Mult (.tup xs) (.int k) G Q=(xs≠[]/\0<=k/\k<2 ^ 62/\xs.length*k.toNat<=Yah/\Q (.tup (Yae k.toNat xs).flatten) G):=rfl
theorem jnb {Q:K1}{i j:Int}:binU .FloorDiv (.int i) (.int j) G Q=(0<j/\j<1073741824/\Q (.int (i/j)) G):=rfl
theorem jpe {Q:K1}{i j:Int}:binU .Mod (.int i) (.int j) G Q=(0<j/\Q (.int (i%j)) G):=rfl
theorem jpb {Q:K1}{i j:Int}:binU .Pow (.int i) (.int j) G Q=(CPow i j/\Q (.int (i ^ j.toNat)) G):=rfl
theorem jpc {Q:K1}{i:Int}:negU (.int i) G Q=Q (.int (-i)) G:=rfl
theorem jo9 {k:Bool->Prop}{i j:Int}:cmpU .Eq (.int i) (.int j) G k=k (decide (i=j)):=rfl
theorem jo4 {k:Bool->Prop}{i j:Int}:cmpU .NotEq (.int i) (.int j) G k=k (!decide (i=j)):=rfl
theorem jo7 {k:Bool->Prop}{i j:Str}:cmpU .Eq (.str i) (.str j) G k=k (decide (i=j)):=rfl
theorem jo2 {k:Bool->Prop}{i j:Str}:cmpU .NotEq (.str i) (.str j) G k=k (!decide (i=j)):=rfl
theorem W_lt {k:Bool->Prop}{i j:Int}:cmpU .Lt (.int i) (.int j) G k=k (decide (i<j)):=rfl
theorem W_le {k:Bool->Prop}{i j:Int}:cmpU .LtE (.int i) (.int j) G k=k (decide (i<=j)):=rfl
theorem W_gt {k:Bool->Prop}{i j:Int}:cmpU .Gt (.int i) (.int j) G k=k (decide (j<i)):=rfl
theorem jo1 {k:Bool->Prop}{xs ys:List U}:cmpU .NotEq (.tup xs) (.tup ys) G k=eqU (.tup xs) (.tup ys) G λb=>k (!b):=rfl
theorem jo6 {k:Bool->Prop}{xs ys:List U}{y:U}:cmpU .Eq (.tup xs) (.tup (y::ys)) G k=eqU (.tup xs) (.tup (y::ys)) G k:=rfl
theorem jm6 {k:Bool->Prop}{xs:List U}:cmpU .Eq (.tup xs) (.tup []) G k=k xs.isEmpty:=rfl
theorem jo3 {k:Bool->Prop}{a b:Addr}:cmpU .NotEq (.loc a) (.loc b) G k=eqU (.loc a) (.loc b) G λb=>k (!b):=rfl
theorem jo8 {k:Bool->Prop}{a b:Addr}:cmpU .Eq (.loc a) (.loc b) G k=eqU (.loc a) (.loc b) G k:=rfl
theorem W_in {k:Bool->Prop}{x y:U}:cmpU .In x y G k=inU x y G k:=rfl
theorem jo0 {k:Bool->Prop}{x y:U}:cmpU .NotIn x y G k=inU x y G λb=>k (!b):=rfl
theorem W_is {k:Bool->Prop}{x y:U}:cmpU .Is x y G k=isU x y k:=rfl
theorem jo5 {k:Bool->Prop}{x y:U}:cmpU .IsNot x y G k=isU x y λb=>k (!b):=rfl
theorem Y_bl {k:Bool->Prop}{b:Bool}:truU (.bl b) G k=k b:=rfl
theorem joW {k:Bool->Prop}:truU .non G k=k false:=rfl
theorem joX {k:Bool->Prop}{i:Int}:truU (.int i) G k=k (i != 0):=rfl
theorem joV {k:Bool->Prop}{xs:List U}:truU (.tup xs) G k=k (!xs.isEmpty):=rfl
theorem jpA {k:List U->(Gp->Prop)->Prop}{xs:List U}:itU (.tup xs) G k=k xs λ_=>True:=rfl
theorem joY {Q:K1}{lo hi:Option Int}{xs:List U}:slU (.tup xs) lo hi G Q=Q (.tup (cut xs lo hi)) G:=rfl
end
section
variable {us:List U}{G:Gp}{Q:K1}
theorem jpF:bltU .len us G Q=lenU us G Q:=rfl
theorem jpE:bltU .min us G Q=minU us G Q:=rfl
theorem jpC:bltU .sum us G Q=sumU us G Q:=rfl
theorem jiC:bltU .sorted us G Q=jce us G Q:=rfl
theorem jpH:bltU .int us G Q=intU us G Q:=rfl
theorem jpG:bltU .isi us G Q=jeq us G Q:=rfl
end
section
variable {G:Gp}{Q:K1}
theorem joZ {lo hi:Option Int}{x:Str}:slU (.str x) lo hi G Q=(x.length<=Yah/\Q (.str (Yez x lo hi)) G):=rfl
theorem jnd {b:Bool}{j:Int}:binU .Add (.bl b) (.int j) G Q=Q (.int ((if b=true then (1:Int) else 0)+j)) G:=rfl
theorem jm8 {b:Bool}{j:Int}:binU .Sub (.bl b) (.int j) G Q=Q (.int ((if b=true then (1:Int) else 0)-j)) G:=rfl
theorem jm7 {b:Bool}{i:Int}:binU .Sub (.int i) (.bl b) G Q=Q (.int (i-if b=true then (1:Int) else 0)) G:=rfl
theorem jnp {xs:List U}:lenU [.tup xs] G Q=Q (.int xs.length) G:=rfl
theorem jnn {i j:Int}:minU [.int i,.int j] G Q=Q (.int (if j<i then j else i)) G:=rfl
theorem jno {i j:Int}:maxU [.int i,.int j] G Q=Q (.int (if j>i then j else i)) G:=rfl
theorem jnr {b:Bool}:intU [.bl b] G Q=Q (.int (if b then 1 else 0)) G:=rfl
theorem jnq {i:Int}:intU [.int i] G Q=Q (.int i) G:=rfl
end
theorem G_n {i:Nat}{u:U}{ς:Sg}{k:Sg->Prop}:tgU (.n i) u ς k=k (ς.set i (some u)):=rfl
theorem G_t {ts:Tgs}{us:List U}{ς:Sg}{k:Sg->Prop}:tgU (.t ts) (.tup us) ς k=tgsU ts us ς k:=rfl
theorem jpB {us:List U}{ς:Sg}{k:Sg->Prop}:tgsU .nil us ς k=(us=[]/\k ς):=rfl
theorem jnm {t:Tg}{ts:Tgs}{u:U}{r:List U}{ς:Sg}{k:Sg->Prop}:tgsU (.cons t ts) (u::r) ς k=tgU t u ς λς'=>tgsU ts r ς' k:=rfl
theorem sl_0 {u:U}{ς:Sg}{k:U->Prop}:slot (some u::ς) 0 k=k u:=rfl
theorem sl_s {o:Option U}{ς:Sg}{i:Nat}{k:U->Prop}:slot (o::ς) (i+1) k=slot ς i k:=rfl
theorem jbi {G:Gp}{a:Addr}{o:MO}{Q:Gp->Prop}:putO G a o Q=Q (gup G a o):=propext ⟨λh=>h.at,λh G1 p=>by rw[p.eq];exact h⟩
theorem ix_t {xs:List U}{i:Int}{u:U}{G:Gp}{Q:K1}(h:atI xs i=some u):ixU (.tup xs) (.int i) G Q=Q u G:=by unfold ixU;dsimp only;rw[h]
theorem ix_l {a:Addr}{xs:List U}{i:Int}{u:U}{G:Gp}{Q:K1}(g:G a=some (.lst xs))(h:atI xs i=some u):ixU (.loc a) (.int i) G Q=Q u G:=by unfold ixU;dsimp only;rw[g];dsimp only;rw[h]
theorem ix_d {a:Addr}{kvs:List (Key×U)}{x:Str}{u:U}{G:Gp}{Q:K1}(g:G a=some (.dK kvs))(h:dGet kvs (.inr x)=some u):ixU (.loc a) (.str x) G Q=Q u G:=by unfold ixU;dsimp only;rw[g];show(match dGet kvs (.inr x)with|some u=>Q u G|none=>False)=_;rw[h]
theorem jkv {a:Addr}{xs:List U}{r:Int}{G:Gp}{Q:K1}(g:G a=some (.lst xs))(h0:0<=r)(h1:r<xs.length)(q:∀u∈xs,Q u G):ixU (.loc a) (.int r) G Q:=by
 obtain⟨u,hu,e⟩:=jeK h0 h1;rw[ix_l g e];exact q u hu
theorem jdS (zs:List Int){a:Addr}{r:Int}{G:Gp}{Q:K1}(g:G a=some (.lst (zs.map .int)))(h0:0<=r)(h1:r<zs.length)(q:∀z∈zs,Q (.int z) G):ixU (.loc a) (.int r) G Q:=
 jkv g h0 (by rw[Yac];exact h1) λu hu=>by
  obtain⟨z,hz,rfl⟩:=List.mem_map.mp hu;exact q z hz
theorem jfG:∀zs:List Int,jer (zs.map .int)=some zs
 |[]=>rfl
 |x::r=>by show(match jer (r.map .int)with|some l=>some (x::l)|none=>none)=_;rw[jfG r]
section
variable {a:Addr}
theorem in_l {ys:List U}{x:U}{G:Gp}{k:Bool->Prop}(g:G a=some (.lst ys))(h1:flat x=true)(h2:ys.all flat=true)(q:k (ys.any λy=>eqF y x)):inU x (.loc a) G k:=by
 cases x<;>first|(cases h1;done)|(unfold inU;dsimp only;rw[g];exact .inl ⟨h1,h2,q⟩)
theorem jgd {xs:List U}{G:Gp}{Q:K1}(g:G a=some (.lst xs)):lenU [.loc a] G Q=Q (.int xs.length) G:=by unfold lenU;dsimp only;rw[g]
theorem joG {xs:List U}{G:Gp}{Q:K1}(g:G a=some (.fro xs)):lenU [.loc a] G Q=Q (.int xs.length) G:=by unfold lenU;dsimp only;rw[g]
theorem it_l {xs:List U}{G:Gp}{k:List U->(Gp->Prop)->Prop}(g:G a=some (.lst xs)):itU (.loc a) G k=k xs λG'=>lsG G' a=some xs:=by unfold itU;dsimp only;have e:lsG G a=some xs:=(by unfold lsG;rw[g]);rw[e]
theorem jcI {xs:List U}{v:U}{G:Gp}{Q:K1}(g:G a=some (.lst xs)):jaU .append (.loc a) [v] G Q=(xs.length<Yah/\putO G a (.lst (xs++[v])) (Q .non)):=by unfold jaU je9;dsimp only;rw[g]
theorem jaZ {xs:List U}{G:Gp}(g:G a=some (.lst xs)):mtU .append (.loc a) G=some ("list", "list.append"):=by unfold mtU;dsimp only;rw[g]
theorem jn8 {xs:List U}{i:Int}{j:Nat}{v:U}{G:Gp}{Q:Gp->Prop}(g:G a=some (.lst xs))(h:ixN xs.length i=some j):setU (.loc a) (.int i) v G Q=putO G a (.lst (xs.set j v)) Q:=by unfold setU;dsimp only;rw[g];dsimp only;rw[h]
theorem jhN {kvs:List (Key×U)}{x:Str}{v:U}{G:Gp}{Q:Gp->Prop}(g:G a=some (.dK kvs)):setU (.loc a) (.str x) v G Q=(kvs.length<Yah/\putO G a (.dK (dPut kvs (.inr x) v)) Q):=by unfold setU;dsimp only;rw[g];rfl
end
theorem jky {n j:Nat}(h:j<n):ixN n (j:Int)=some j:=by unfold ixN;rw[if_pos (Int.natCast_nonneg j),if_pos (by exact_mod_cast h)];simp
noncomputable def jiu:Nat->Ss->Ss
 |0,s=>s
 |_+1,.nil=>.nil
 |n+1,.cons _ r=>jiu n r
theorem dr_0 {s:Ss}:jiu 0 s=s:=rfl
theorem dr_s {n:Nat}{s:S}{r:Ss}:jiu (n+1) (.cons s r)=jiu n r:=rfl
theorem pk_nil {ς:Sg}:jbz [] ς=[]:=rfl
theorem jjN {ς:Sg}{r:List (Option Nat)}:jbz (none::r) ς=none::jbz r ς:=rfl
theorem jjM {ς:Sg}{j:Nat}{r:List (Option Nat)}:jbz (some j::r) ς=(ς[j]?).join::jbz r ς:=rfl
theorem jpy {x:Str}:kU (.str x)=some (.inr x):=rfl
theorem jpz {i:Int}:kU (.int i)=some (.inl i):=rfl
theorem sl_f {a:Addr}{xs:List U}{lo hi:Option Int}{G:Gp}{Q:K1}(g:G a=some (.fro xs)):slU (.loc a) lo hi G Q=newO G (.lst (cut xs lo hi)) Q:=by unfold slU;dsimp only;have e:lsG G a=some xs:=(by unfold lsG;rw[g]);rw[e]
theorem jkS {α β:Type}(f:α->β)(xs:List α)(lo hi:Option Int):cut (xs.map f) lo hi=(cut xs lo hi).map f:=by unfold cut;rw[Yac,<- Yej,<- Yei]
theorem jeC {α:Type}(xs:List α)(n:Nat):cut xs none (some (n:Int))=xs.take n:=by
 unfold cut;rw[HT.sIx_none,HT.sIx_nat,Yc3,Nat.sub_zero,List.take_eq_take_iff];omega
theorem jfU {α:Type}(xs:List α)(n:Nat):cut xs (some (n:Int)) none=xs.drop n:=by
 unfold cut;rw[HT.sIx_none,HT.sIx_nat];by_cases h:n<=xs.length
 ·rw[Nat.min_eq_left h,YcL (by simp)]
 ·rw[Nat.min_eq_right (by omega),Ybz (Yag _),Ybz (by omega),List.take_nil]
section
variable {G:Gp}{f c:Addr}{a l t:Int}{Q:K1}
theorem jis:ixU (.loc f) (.str "cells") (gup G f (.dK (fdU c a l t))) Q=Q (.loc c) (gup G f (.dK (fdU c a l t))):=ix_d jaf jkG
theorem joN:ixU (.loc f) (.str "at") (gup G f (.dK (fdU c a l t))) Q=Q (.int a) (gup G f (.dK (fdU c a l t))):=ix_d jaf g_at
theorem jkI:ixU (.loc f) (.str "left") (gup G f (.dK (fdU c a l t))) Q=Q (.int l) (gup G f (.dK (fdU c a l t))):=ix_d jaf jmN
theorem jkH:ixU (.loc f) (.str "turn") (gup G f (.dK (fdU c a l t))) Q=Q (.int t) (gup G f (.dK (fdU c a l t))):=ix_d jaf ji1
end
section
variable {G:Gp}{f c:Addr}{a l t x:Int}{Q:Gp->Prop}
theorem joO:setU (.loc f) (.str "at") (.int x) (gup G f (.dK (fdU c a l t))) Q=Q (gup G f (.dK (fdU c x l t))):=by rw[jhN jaf,p_at,jbi,jbC];exact propext ⟨λh=>h.2,λh=>⟨jfO,h⟩⟩
theorem jkL:setU (.loc f) (.str "left") (.int x) (gup G f (.dK (fdU c a l t))) Q=Q (gup G f (.dK (fdU c a x t))):=by rw[jhN jaf,jl0,jbi,jbC];exact propext ⟨λh=>h.2,λh=>⟨jfO,h⟩⟩
theorem jkK:setU (.loc f) (.str "turn") (.int x) (gup G f (.dK (fdU c a l t))) Q=Q (gup G f (.dK (fdU c a l x))):=by rw[jhN jaf,jiN,jbi,jbC];exact propext ⟨λh=>h.2,λh=>⟨jfO,h⟩⟩
end
end Z

namespace Y
open PySem L2
noncomputable def nO:Obj:=⟨.none,none,.fields ⟨[]⟩,⟨[]⟩⟩
noncomputable def tO (v:List Value):Obj:=⟨.type "tuple",none,.seq ⟨v⟩ 0,⟨[]⟩⟩
noncomputable def sO (c:Value)(v:List Value):Obj:=⟨c,none,.fields ⟨v⟩,⟨[]⟩⟩
noncomputable def rO (v:List (Option Value)):Obj:=⟨.type "frame",none,.plain,⟨v⟩⟩
noncomputable def gO (x q:Str)(s:Stmt):Obj:=⟨.none,none,.func { name:=x,qualname:=q,params:=ja4 s,body:=.stmts (jap s),scope:=jag s,globals:=0,closure:=[],defaults:=.none,kwdefaults:=.none },⟨[]⟩⟩
noncomputable def fO (x q:Str)(s:Stmt)(m:Value)(c:Nat):Obj:=⟨.type "function",none,.func (YbA x q (ja4 s) (jap s) (jag s) .none .none .none m none (.ref c) .none),⟨[]⟩⟩
noncomputable def kO (fi x q:Str)(t:Nat)(l a f:Int)(r:Nat)(b:Bool)(u v w:Value)(z:Nat):Obj:=⟨.type "code",none,.fields ⟨[.str x t,.str q (t+1),.str fi (t+2),.int l 0,.int a 0,.int 0 0,.int 0 0,.int f 0,.ref r,.bool b,.int 181 0,.ref (r+1),.none,u,v,w,.int z 0,.int l 0,.str fi (z+1)]⟩,⟨[]⟩⟩
noncomputable def dE (P:Params)(x:Str)(t:Nat)(v:Value):Ych:=⟨PyData.keyHash P x,.str x t,v⟩
noncomputable def dO (e:List Ych)(n:Nat):Obj:=⟨.type "dict",none,.dict ⟨e⟩ n,⟨[]⟩⟩
noncomputable def cO (x:Str)(b m:List Value)(n:Nat)(u:List Value)(s:List (Option Value)):Obj:=⟨.type "type",none,.cls { name:=x,bases:=b,mro:=m,ns:=n,qualname:=x,subclasses:=u },⟨s⟩⟩
noncomputable def tE:Obj:=tO []
noncomputable abbrev bE:Ycl:=.nil
noncomputable abbrev bN (o:Obj)(l r:Ycl):Ycl:=.node o l r
noncomputable abbrev bL (o:Obj):Ycl:=.node o .nil .nil
end Y
namespace Z
open PySem L2
noncomputable def argB (ps:List Str)(a:YfL):Bool:=a.posonlyargs.isEmpty&&(a.args.map (·.arg)==ps)&&a.vararg.isNone&&a.kwonlyargs.isEmpty&&a.kwarg.isNone
theorem jms:∀{ps:List Str} {us:List Value},us.length=ps.length->ps.Nodup->(ps.filterMap λn=>((ps.zip us).lookup n).map (n,·))=ps.zip us/\∀n∈ps,((ps.zip us).lookup n).isSome=true:=by
 have key:∀{l:List Str} {vs:List Value} {L:List (Str×Value)},vs.length=l.length->l.Nodup->(∀(i:Nat) n v,l[i]?=some n->vs[i]?=some v->L.lookup n=some v)->(l.filterMap λn=>(L.lookup n).map (n,·))=l.zip vs/\∀n∈l,(L.lookup n).isSome=true:=by
  intro l
  induction l with
  |nil=>intro vs L _ _ _;exact⟨rfl,λn h=>absurd h Yav⟩
  |cons x l ih=>
   intro vs L hl nd hL;obtain _|⟨v,vs⟩:=vs
   ·cases hl
   ·have h0:=hL 0 x v rfl rfl;obtain⟨e1,e2⟩:=ih (L:=L) (vs:=vs) (by simpa using hl) (List.nodup_cons.mp nd).2 λi n v a b=>hL (i+1) n v a b
    refine⟨?_,λn hn=>?_⟩
    ·rw[YbY,h0,Yfa,<- e1];rfl
    ·rcases YaO.mp hn with rfl|hn
     ·rw[h0];rfl
     ·exact e2 n hn
 intro ps us hl nd;refine key hl nd λi n v a b=>?_;have hz:(ps.zip us)[i]?=some (n,v):=List.getElem?_zip_eq_some.mpr ⟨a,b⟩;have:∀(l:List (Str×Value)),(l.map (·.1)).Nodup->(n,v)∈l->l.lookup n=some v:=by
  intro l
  induction l with
  |nil=>intro _ h;exact absurd h Yav
  |cons p l ih=>
   intro nd h;obtain⟨m,u⟩:=p;rw[Ya7];by_cases e:n=m
   ·subst e;rw[beq_self_eq_true];rcases YaO.mp h with h|h
    ·cases h;rfl
    ·exact absurd (List.mem_map.mpr ⟨_,h,rfl⟩) (List.nodup_cons.mp nd).1
   ·rw[beq_eq_false_iff_ne.mpr e];rcases YaO.mp h with h|h
    ·cases h;exact absurd rfl e
    ·exact ih (List.nodup_cons.mp nd).2 h
 exact this _ (by rw[List.map_fst_zip (by omega)];exact nd) (Yam hz)
theorem jhD {ps:List Str}{a:YfL}(h:argB ps a=true)(nd:ps.Nodup){x q:Str}{b:List Stmt}{sc:Scope}{kV doc pm:Value}{an:Option Addr}{cdv ct:Value}{us:List Value}(hl:us.length=ps.length) :
  bindArgs (YbA x q a b sc .none kV doc pm an cdv ct) ⟨us,[]⟩=pure (ps.zip us):=by
 obtain⟨po,as,va,ko,kd,ka,df⟩:=a;unfold argB at h;simp only[Yay,List.isEmpty_iff,Option.isNone_iff_eq_none,beq_iff_eq]at h;obtain⟨⟨⟨⟨rfl,rfl⟩,rfl⟩,rfl⟩,rfl⟩:=h;obtain⟨e1,e2⟩:=jms hl nd;have e3:(List.filter (λn=>(YdQ n ((as.map (·.arg)).zip us)).isNone) (as.map (·.arg)))=[]:=List.filter_eq_nil_iff.mpr λn hn=>by
  have:=e2 n hn;cases q:YdQ n ((as.map (·.arg)).zip us)with
  |none=>rw[q]at this;cases this
  |some _=>simp
 have e0:seqItems? YaM=pure none:=rfl;unfold bindArgs;dsimp only;rw[e0];generalize as.map (·.arg)=ns at *;have e4:ns.take (ns.length-0)=ns:=by rw[Nat.sub_zero,YaP]
 simp[hl,e1,e3,e4]

abbrev FL:=List (Addr×Addr×Value)
noncomputable def refB (v:Option (Option Value))(f:Addr):Bool:=match v with
 |some (some (.ref a))=>a==f
 |_=>false
theorem jlx {v:Option (Option Value)}{f:Addr}(h:refB v f=true):v=some (some (.ref f)):=by
 unfold refB at h;split at h
 ·rw[eq_of_beq h]
 ·cases h
noncomputable def dynB (T:Tab)(K:Yab):Nat->FL->List Fun->List Stmt->Bool
 |_,[],[],[]=>true
 |i,x::fs,d::ds,s::ss=>refB (Yb5 K YaK d.name) x.1&&Yct K (.ref x.2.1) d.name&&(match T.ns.lookup i with|none=>true|some z=>je6 K (.ref x.2.1) z.P)&&argB d.ps (ja4 s)&&dynB T K (i+1) fs ds ss
 |_,_,_,_=>false
noncomputable def lkR:FL->List Fun->List Stmt->List (Option Obj)
 |x::fs,d::ds,s::ss=>some (Y.fO d.name d.name s x.2.2 x.2.1)::lkR fs ds ss
 |_,_,_=>[]
theorem jhn {T:Tab}{K:Yab}:∀{i:Nat} {fs:FL} {ds:List Fun} {ss:List Stmt},dynB T K i fs ds ss=true->fs.map (λx=>K.lookup x.1)=lkR fs ds ss->∀{n:Nat} {d:Fun} {s:Stmt},ds[n]?=some d->ss[n]?=some s->
  ∃x:Addr×Addr×Value,Yb5 K YaK d.name=some (some (.ref x.1))/\K.lookup x.1=some (Y.fO d.name d.name s x.2.2 x.2.1)/\Yct K (.ref x.2.1) d.name=true/\(∀z,T.ns.lookup (i+n)=some z->je6 K (.ref x.2.1) z.P=true)/\argB d.ps (ja4 s)=true
 |_,_,[],_,_,_,_,_,_,e,_=>by simp at e
 |_,_,_::_,[],_,_,_,_,_,_,e=>by simp at e
 |_,[],_::_,_::_,h,_,_,_,_,_,_=>by unfold dynB at h;cases h
 |i,x::fs,d::ds,s::ss,h,g,n,d',s',e1,e2=>by
  unfold dynB at h;simp only[Yay]at h;obtain⟨⟨⟨⟨h1,h2⟩,h3⟩,h4⟩,h5⟩:=h;unfold lkR at g;rw[YaB]at g;injection g with g1 g2
  cases n with
  |zero=>
   cases(Yar e1:d=d');cases(Yar e2:s=s');exact⟨x,jlx h1,g1,h2,λz hz=>by rw[Nat.add_zero]at hz;rw[hz]at h3;exact h3,h4⟩
  |succ n=>
   obtain⟨y,q1,q2,q3,q4,q5⟩:=jhn h5 g2 (n:=n) e1 e2;exact⟨y,q1,q2,q3,λz hz=>q4 z (by rw[show i+1+n=i+(n+1) by omega];exact hz),q5⟩
theorem jlH {N ps:List Str}{sc:Scope}(h:scB N ps sc=true):ps.Nodup:=by
 have S:=jlt h;rw[<- S.pre];exact S.nd.sublist (Yfr _ _)
theorem jg5 {K:Yab}{f:Addr}{c:Value}{d:Option Addr}{fd:Ybn}{sl:Array (Option Value)}(h:K.lookup f=some ⟨c,d,.func fd,sl⟩):YbN K (.ref f)=true:=by
 unfold YbN;dsimp only;rw[h]
section
variable {T:Tab}{K:Yab}{h:Heap}{mg:Str->Option Value}
theorem jmV {fs:FL}{sts:List Stmt}(X:K.In h)(G:h.Ns YaK mg)(hst:jdP T 0 T.funs sts=true)(heq:jed T sts 0 T.funs sts)(hB:dynB T K 0 fs T.funs sts=true)(hL:fs.map (λx=>K.lookup x.1)=lkR fs T.funs sts):Dyn T K mg sts:=by
 intro n d st h1 h2;obtain⟨x,q1,q2,q3,q4,q5⟩:=jhn hB hL h1 h2;have F:=ji2 (st:=st) q2 q3 (jg5 q2);obtain⟨st',e,hs,_⟩:=jcW hst heq h1;cases h2.symm.trans e;exact⟨_,_,F,YcA X G q1,F.binds λ_ _ _ _ _ _ us hl=>jhD q5 (jlH hs) hl,λz hz=>q4 z (by rw[Ycx];exact hz)⟩
noncomputable def bltB (K:Yab):Bool:=jb8.all λx=>match Yb5 K YaK x with
 |some none=>true
 |_=>false
theorem jm3 (X:K.In h)(G:h.Ns YaK mg)(hb:bltB K=true):∀x∈jb8,mg x=none:=λx hx=>by
 have:=List.all_eq_true.mp hb x hx;refine PySem.W.mg_none_of X G ?_;split at this
 ·assumption
 ·cases this
noncomputable def gsB (K:Yab):List Str->List U->Bool
 |[],[]=>true
 |x::xs,u::us=>(match u,Yb5 K YaK x with
  |.int i,some (some (.int j _))=>i==j
  |.str i,some (some (.str j _))=>i==j
  |_,_=>false)&&gsB K xs us
 |_,_=>false
theorem jmM (X:K.In h)(G:h.Ns YaK mg):∀{xs:List Str} {us:List U},gsB K xs us=true->∀(n:Nat) (x:Str) (u:U),xs[n]?=some x->us[n]?=some u->∃v w,mg x=some w/\RelV v w/\∀H,RU K H u v
 |[],_,_,_,_,_,e,_=>by simp at e
 |_::_,[],_,_,_,_,_,e=>by simp at e
 |x::xs,u::us,hb,n,x',u',e1,e2=>by
  unfold gsB at hb;rw[Yay]at hb;cases n with
  |zero=>
   cases(Yar e1:x=x');cases(Yar e2:u=u');have h1:=hb.1;split at h1
   ·rename_i i j t q;cases eq_of_beq h1;exact⟨.int i,_,YcA X G q,⟨_,rfl⟩,λ_=>rfl⟩
   ·rename_i i j t q;cases eq_of_beq h1;exact⟨.str i,_,YcA X G q,⟨_,rfl⟩,λ_=>rfl⟩
   ·cases h1
  |succ n=>exact jmM X G hb.2 n x' u' e1 e2
def CsA (K:Yab):List Nat->Prop
 |[]=>True
 |n::r=>(∃C,XCls K (gK K) (clsN n) (clsF n) C)/\CsA K r
theorem jmZ:∀{l:List Nat},CsA K l->∀n∈l,1<=n->∃C,XCls K (gK K) (clsN n) (clsF n) C
 |[],_,_,hn,_=>absurd hn Yav
 |m::r,hc,n,hn,h1=>by
  unfold CsA at hc;rcases YaO.mp hn with rfl|hn
  ·exact hc.1
  ·exact jmZ hc.2 n hn h1
theorem all2 {l:Ydo}{w:World}{fa:Addr}{fs:FL}{sts:List Stmt}{k n:Nat}{d:Fun}{st:Stmt}(X:K.In h)(G:h.Ns YaK mg)(hfa:mg "law" = some (.ref fa))(hst:jdP T 0 T.funs sts=true)(heq:jed T sts 0 T.funs sts)
  (hU:∀t∈tabs,∀t'∈tabs,t.1=t'.1->t=t') (hB:dynB T K 0 fs T.funs sts=true) (hL:fs.map (λx=>K.lookup x.1)=lkR fs T.funs sts) (hb:bltB K=true) (hg:gsB K T.gn T.gs=true) (hc:CsA K T.cs)
  (hd:T.funs[n]?=some d) (hs:sts[n]?=some st) (hn:T.ns.lookup n=none) (hdn:d.name = "law") (hps:d.ps=[("_law_script" : Str)]) :
  ∃fd:Ybn,(∀(s:Shared) (v:Value),BindsTo s fd ⟨[v],[]⟩ [("_law_script",v)])/\∀base:Heap,K.In base->base.Ns YaK mg->BmAt mg base->FnOk l.prog w K mg base (CX1 l.prog w) (k+2) fa fd ["_law_script"] (lSp K (jaa T k n)):=by
 have dyn:=jmV X G hst heq hB hL;obtain⟨x,q1,q2,q3,q4,q5⟩:=jhn hB hL hd hs;obtain⟨st',e,hsc,_⟩:=jcW hst heq hd;cases hs.symm.trans e;have F:=ji2 (st:=st) q2 q3 (jg5 q2);rw[hdn]at q1;cases hfa.symm.trans (YcA X G q1);refine⟨YbA d.name d.name (ja4 st) (jap st) (jag st) .none .none .none x.2.2 none (.ref x.2.1) .none,λs v=>.of_eq ((jhD (us:=[v]) q5 (jlH hsc) (by rw[hps];rfl)).trans (by rw[hps];rfl)),λbase hKb _ hBm=>?_⟩
 rw[<- hps];exact jf3 F hst heq dyn hU hKb hBm (jm3 X G hb) (jmM X G hg) (jmZ hc) (jmn X G) hd hs hn
end
section
variable {K:Yab}
end
section
local macro_rules
 |`(#[])=>`(.nil)
 |`(#[$x])=>`(.cons $x .nil)
 |`(#[$x,$xs,*])=>`(.cons $x #[$xs,*])
noncomputable abbrev jfy:Nat:=0
noncomputable abbrev jeU:Nat:=1
noncomputable abbrev jcq:Nat:=2
noncomputable abbrev ja1:Nat:=3
noncomputable abbrev jc5:Nat:=4
noncomputable abbrev jcu:Nat:=5
noncomputable abbrev jei:Nat:=6
noncomputable abbrev jc0:Nat:=7
noncomputable abbrev jcv:Nat:=8
noncomputable abbrev jaR:Nat:=9
noncomputable abbrev jaX:Nat:=10
noncomputable abbrev jbv:Nat:=11
noncomputable abbrev jbk:Nat:=12
noncomputable abbrev jbS:Nat:=13
noncomputable abbrev jci:Nat:=14
noncomputable abbrev jcZ:Nat:=15
noncomputable abbrev jej:Nat:=16
noncomputable abbrev jbu:Nat:=17
noncomputable abbrev jct:Nat:=18
noncomputable abbrev jcs:Nat:=19
noncomputable abbrev jfA:Nat:=20
noncomputable abbrev jfz:Nat:=21
noncomputable abbrev jaP:Nat:=22
noncomputable abbrev jbj:Nat:=23
noncomputable abbrev jdu:Nat:=24
noncomputable abbrev jab:Nat:=25
noncomputable abbrev jc3:Nat:=26
noncomputable abbrev jcr:Nat:=27
noncomputable abbrev jbR:Nat:=28
noncomputable abbrev jc4:Nat:=29
noncomputable abbrev ja2:Nat:=30
noncomputable abbrev jbP:Nat:=31
noncomputable abbrev jaA:Nat:=32
noncomputable abbrev jdv:Nat:=33
noncomputable abbrev jbQ:Nat:=34
noncomputable abbrev jdt:Nat:=35
noncomputable abbrev jdw:Nat:=36
noncomputable abbrev jc1:Nat:=37
noncomputable abbrev jc2:Nat:=38
noncomputable abbrev jkg:Nat:=39
noncomputable def jfS:Fun:=⟨"top_of",["plan", "period", "s"],["plan", "period", "s", "word", "one", "other", "low", "high"],#[.asg (.t #[.n 3,.n 4,.n 5,.n 6,.n 7]) (.ix (.ix (.v 0) (.int 1)) (.v 2)),.ret (.ife (.cmp .Eq (.v 3) (.str "span")) (.v 7) (.bin .Sub (.v 1) (.v 7)))]⟩
noncomputable def jdb:Fun:=⟨"window_of",["plan", "period", "s"],["plan", "period", "s", "low"],#[.asg (.n 3) (.ix (.ix (.ix (.v 0) (.int 1)) (.v 2)) (.int 3)),(.ret (.tup #[.v 3,(.blt .min #[.call jfy #[.v 0,.v 1,.v 2],.bin .Sub (.bin .Add (.v 3) (.v 1)) (.int 1)])]))]⟩
noncomputable def jcy:Fun:=⟨"windows_of",["plan", "period"],["plan", "period"],#[.ret (.mkT (.lc [none,some 0,some 1] (.n 0) (.r1 (.blt .len #[.ix (.v 0) (.int 1)])) .nil (.call jeU #[.v 1,.v 2,.v 0])))]⟩
noncomputable def jb2:Fun:=⟨"with_window",["windows", "s", "window"],["windows", "s", "window"],#[.ret (.bin .Add (.bin .Add (.sl (.v 0) .no (.so (.v 1))) (.tup #[.v 2])) (.sl (.v 0) (.so (.bin .Add (.v 1) (.int 1))) .no))]⟩
noncomputable def jeB:Fun:=⟨"ends_of",["plan", "entry"],["plan", "entry", "s", "way", "word", "one", "other", "low", "high"],#[.ite (.cmp .Eq (.blt .len #[.v 1]) (.int 3)) #[.ret (.tup #[.ix (.v 1) (.int 1),.ix (.v 1) (.int 2)])] .nil,.asg (.t #[.n 2,.n 3]) (.v 1),.asg (.t #[.n 4,.n 5,.n 6,.n 7,.n 8]) (.ix (.ix (.v 0) (.int 1)) (.v 2)),.ret (.ife (.cmp .Eq (.v 3) (.int 1)) (.tup #[.v 5,.v 6]) (.tup #[.v 6,.v 5]))]⟩
noncomputable def jcC:Fun:=⟨"entry_sums",["beats", "windows", "entry"],["beats", "windows", "entry", "apart", "s", "way", "least", "most"],#[.ite (.cmp .Eq (.blt .len #[.v 2]) (.int 3)) #[.asg (.n 3) (.bin .Sub (.ix (.v 0) (.ix (.v 2) (.int 2))) (.ix (.v 0) (.ix (.v 2) (.int 1)))),.ret (.tup #[.v 3,.v 3])] .nil,.asg (.t #[.n 4,.n 5]) (.v 2),.asg (.t #[.n 6,.n 7]) (.ix (.v 1) (.v 4)),.ret (.ife (.cmp .Eq (.v 5) (.int 1)) (.tup #[.v 6,.v 7]) (.tup #[.neg (.v 7),.neg (.v 6)]))]⟩
noncomputable def jex:Fun:=⟨"sums_of",["plan", "period", "beats", "windows", "ring"],["plan", "period", "beats", "windows", "ring", "sums"],#[.asgC 5 (.lc [none,some 2,some 3] (.n 0) (.e (.v 4)) .nil (.call jcu #[.v 1,.v 2,.v 0])),(.ret (.tup #[.blt .sum #[.lc [none,none] (.t #[.n 0,.n 1]) (.e (.v 5)) .nil (.v 0)],.blt .sum #[.lc [none,none] (.t #[.n 0,.n 1]) (.e (.v 5)) .nil (.v 1)]]))]⟩
noncomputable def jdc:Fun:=⟨"ring_bars",["plan", "period", "beats", "windows", "ring"],["plan", "period", "beats", "windows", "ring", "least", "most"],#[.asg (.t #[.n 5,.n 6]) (.call jei #[.v 0,.v 1,.v 2,.v 3,.v 4]),.ret (.cmp .Lt (.bin .Mult (.bin .FloorDiv (.v 6) (.v 1)) (.v 1)) (.v 5))]⟩
noncomputable def jcD:Fun:=⟨"entries_to",["plan", "work"],["plan", "work", "found", "s", "word", "one", "other", "low", "high"],#[.asg (.n 2) (.lst .nil),(.fr (.t #[.n 3,.t #[.n 4,.n 5,.n 6,.n 7,.n 8]]) (.enum (.ix (.v 0) (.int 1))) #[.ite (.cmp .Eq (.v 6) (.v 1)) #[.expr (.meth .append (.v 2) #[.tup #[.v 3,.int 1,.v 5]])] .nil,.ite (.cmp .Eq (.v 5) (.v 1)) #[.expr (.meth .append (.v 2) #[.tup #[.v 3,.neg (.int 1),.v 6]])] .nil]),.ret (.v 2)]⟩
noncomputable def jbg:Ss:=#[(.wh (.cmp .Lt (.v 4) (.blt .len #[.v 3])) #[(.fr (.t #[.n 5,.n 6,.n 7]) (.e (.call jcv #[.v 0,.ix (.v 3) (.v 4)])) #[(.ite (.cmp .NotIn (.v 7) (.v 3)) #[.setS (.v 2) (.v 7) (.tup #[.v 5,.v 6]),.expr (.meth .append (.v 3) #[.v 7])] .nil)]),.aug 4 .Add (.int 1)]),.ret (.v 2)]
noncomputable def jb6:Fun:=⟨"forest_from",["plan", "roots"],["plan", "roots", "forest", "reached", "at", "s", "way", "start"],(.cons (.asg (.n 2) (.dic .nil)) (.cons (.asg (.n 3) (.mkL (.v 1))) (.cons (.asg (.n 4) (.int 0)) jbg)))⟩
noncomputable def ja6:Ss:=#[(.wh (.cmp .In (.v 2) (.v 1)) #[.expr (.meth .append (.v 3) #[.ix (.v 1) (.v 2)]),.asg (.n 2) (.ix (.call jc5 #[.v 0,.ix (.v 1) (.v 2)]) (.int 1))]),.ret (.tup #[.v 3,.v 2])]
noncomputable def jbx:Fun:=⟨"path_to_root",["plan", "forest", "work"],["plan", "forest", "work", "path"],(.cons (.asg (.n 3) (.lst .nil)) ja6)⟩
noncomputable def ja8:Ss:=#[.ret (.mkT (.bin .Add (.bin .Add (.bin .Add (.lst #[.tup #[.v 2,.int 1]]) (.v 8)) (.v 12)) (.lc [none,none] (.t #[.n 0,.n 1]) (.e (.rev (.v 10) (.neg (.int 1)))) .nil (.tup #[.v 0,.neg (.v 1)]))))]
noncomputable def jaM:Ss:=(.cons (.asg (.n 12) (.ife (.cmp .Eq (.v 9) (.v 11)) (.lst .nil) (.lst #[.tup #[.str "home",.v 9,.v 11]]))) ja8)
noncomputable def ja9:Ss:=(.cons (.wh (.bop true (.v 8) #[.v 10,.cmp .Eq (.ix (.v 8) (.neg (.int 1))) (.ix (.v 10) (.neg (.int 1)))]) #[.expr (.meth .pop (.v 8) .nil),.expr (.meth .pop (.v 10) .nil)]) jaM)
noncomputable def jba:Ss:=(.cons (.asg (.t #[.n 8,.n 9]) (.call jaX #[.v 0,.v 1,.v 5])) (.cons (.asg (.t #[.n 10,.n 11]) (.call jaX #[.v 0,.v 1,.v 4])) ja9))
noncomputable def jby:Fun:=⟨"closing_ring",["plan", "forest", "s"],["plan", "forest", "s", "word", "one", "other", "low", "high", "there", "there_root", "back", "back_root", "homes"],(.cons (.asg (.t #[.n 3,.n 4,.n 5,.n 6,.n 7]) (.ix (.ix (.v 0) (.int 1)) (.v 2))) jba)⟩
noncomputable def jbo:Fun:=⟨"closing_rings",["plan", "part", "forest"],["plan", "part", "forest", "used", "spans"],#[.asg (.n 3) (.lc [none,none] (.t #[.n 0,.n 1]) (.dv (.v 2)) .nil (.v 0)),.asgC 4 (.lc [none,some 0,some 1,some 3] (.n 0) (.r1 (.blt .len #[.ix (.v 0) (.int 1)])) #[.bop true (.cmp .In (.ix (.ix (.ix (.v 1) (.int 1)) (.v 0)) (.int 1)) (.v 2)) #[.cmp .NotIn (.v 0) (.v 3)]] (.v 0)),.ret (.lc [none,some 0,some 2] (.n 0) (.e (.v 4)) .nil (.call jbv #[.v 1,.v 2,.v 0]))]⟩
noncomputable def jb7:Fun:=⟨"beats_along",["plan", "period", "beats", "forest", "lengths"],["plan", "period", "beats", "forest", "lengths", "found", "work", "s", "way", "nearer"],#[.asg (.n 5) (.mkL (.v 2)),(.fr (.t #[.n 6,.t #[.n 7,.n 8]]) (.di (.v 3)) #[.asg (.n 9) (.ix (.call jc5 #[.v 0,.tup #[.v 7,.v 8]]) (.int 1)),.setS (.v 5) (.v 6) (.bin .Mod (.bin .Sub (.ix (.v 5) (.v 9)) (.bin .Mult (.v 8) (.ix (.v 4) (.v 7)))) (.v 1))]),.ret (.mkT (.v 5))]⟩
noncomputable def jck:Ss:=#[(.fr (.n 3) (.r1 (.blt .len #[.ix (.v 0) (.int 0)])) #[(.ite (.cmp .NotIn (.v 3) (.v 2)) #[.asg (.n 4) (.blt .sorted #[.bin .Add (.lst #[.v 3]) (.mkD (.call jaR #[.v 0,.lst #[.v 3]]))]),.expr (.meth .extend (.v 2) #[.v 4]),.expr (.meth .append (.v 1) #[.mkT (.v 4)])] .nil)]),.ret (.mkT (.v 1))]
noncomputable def jdA:Fun:=⟨"parts_of",["plan"],["plan", "parts", "placed", "work", "part"],(.cons (.asg (.n 1) (.lst .nil)) (.cons (.asg (.n 2) (.lst .nil)) jck))⟩
noncomputable def jey:Fun:=⟨"staying",["part", "stays"],["part", "stays"],#[.ret (.lc [none,some 1] (.n 0) (.e (.v 0)) #[.cmp .In (.v 0) (.v 1)] (.v 0))]⟩
noncomputable def jcT:Ss:=#[.fr (.n 5) (.r1 (.bin .Sub (.bin .Sub (.blt .len #[.ix (.v 0) (.int 0)]) (.blt .len #[.v 2])) (.blt .len #[.v 3]))) #[.aug 4 .Mult (.v 1)],.ret (.v 4)]
noncomputable def jcU:Ss:=(.cons (.asg (.n 4) (.int 1)) jcT)
noncomputable def jez:Fun:=⟨"size_of",["plan", "period", "stays"],["plan", "period", "stays", "free", "size", "turn"],(.cons (.asgC 3 (.lc [none,some 2] (.n 0) (.e (.call jci #[.v 0])) #[.not (.call jcZ #[.v 0,.v 1])] (.v 0))) jcU)⟩
noncomputable def jbw:Fun:=⟨"refuse_great",["plan", "period", "stays"],["plan", "period", "stays"],#[.ite (.cmp .Gt (.call jej #[.v 0,.v 1,.v 2]) (.g 0)) #[.never] .nil]⟩
noncomputable def jcB:Fun:=⟨"first_void",["windows"],["windows", "s", "least", "most"],#[.fr (.t #[.n 1,.t #[.n 2,.n 3]]) (.enum (.v 0)) #[.ite (.cmp .Lt (.v 3) (.v 2)) #[.ret (.v 1)] .nil],.ret .non]⟩
noncomputable def jcA:Fun:=⟨"first_wide",["forest", "windows"],["forest", "windows", "s", "way", "least", "most"],#[(.fr (.t #[.n 2,.n 3]) (.dv (.v 0)) #[.asg (.t #[.n 4,.n 5]) (.ix (.v 1) (.v 2)),.ite (.cmp .Lt (.v 4) (.v 5)) #[.ret (.v 2)] .nil]),.ret .non]⟩
noncomputable def jfT:Fun:=⟨"halved",["windows", "s"],["windows", "s", "least", "most", "cut"],#[.asg (.t #[.n 2,.n 3]) (.ix (.v 0) (.v 1)),.asg (.n 4) (.bin .FloorDiv (.bin .Add (.v 2) (.v 3)) (.int 2)),(.ret (.tup #[.v 4,(.tup #[.call ja1 #[.v 0,.v 1,.tup #[.v 2,.v 4]],.call ja1 #[.v 0,.v 1,.tup #[.bin .Add (.v 4) (.int 1),.v 3]]])]))]⟩
noncomputable def jfh:Ss:=#[.ret (.tup #[.str "none",.tup #[.str "split",.v 7,.v 8,.ix (.v 10) (.int 0),.ix (.v 10) (.int 1)]])]
noncomputable def jfi:Ss:=(.cons (.fr (.n 11) (.e (.v 9)) #[.asg (.t #[.n 12,.n 13]) (.call jfz #[.v 0,.v 1,.v 2,.v 3,.v 4,.v 11]),.ite (.cmp .Eq (.v 12) (.str "times")) #[.ret (.tup #[.str "times",.v 13])] .nil,.expr (.meth .append (.v 10) #[.v 13])]) jfh)
noncomputable def jfj:Ss:=(.cons (.asg (.n 10) (.lst .nil)) jfi)
noncomputable def jfk:Ss:=(.cons (.asg (.t #[.n 8,.n 9]) (.call jfA #[.v 5,.v 7])) jfj)
noncomputable def jdL:Ss:=(.cons (.ite (.cmp .Is (.v 7) .non) #[.ret (.tup #[.str "times",.v 5])] .nil) jfk)
noncomputable def jfl:Ss:=(.cons (.asg (.n 7) (.call jcs #[.v 3,.v 5])) jdL)
noncomputable def jja:Fun:=⟨"seek",["plan", "period", "beats", "forest", "rings", "windows"],["plan", "period", "beats", "forest", "rings", "windows", "ring", "s", "cut", "sides", "cases", "side", "word", "found"],(.cons (.fr (.n 6) (.e (.v 4)) #[.ite (.call jc0 #[.v 0,.v 1,.v 2,.v 5,.v 6]) #[.ret (.tup #[.str "none",.tup #[.str "ring",.v 6]])] .nil]) jfl)⟩
noncomputable def jaE:Ss:=#[.ret (.tup #[.str "times",.v 6])]
noncomputable def jaq:Ss:=(.cons (.fr (.n 7) (.e (.call jci #[.v 0])) #[.asg (.n 8) (.call jaR #[.v 0,.bop false (.call jcZ #[.v 7,.v 3]) #[.sl (.v 7) .no (.so (.int 1))]]),(.asg (.t #[.n 9,.n 10]) (.call jfz #[.v 0,.v 1,.v 6,.v 8,.call jbk #[.v 0,.v 7,.v 8],.v 4])),.ite (.cmp .Eq (.v 9) (.str "none")) #[.ret (.tup #[.str "none",.v 10])] .nil,.asg (.n 6) (.call jbS #[.v 0,.v 1,.v 6,.v 8,.lc [none,none] (.t #[.n 0,.n 1]) (.e (.v 10)) .nil (.v 0)])]) jaE)
noncomputable def jaF:Ss:=(.cons (.asg (.n 6) (.mkT (.lc [none,some 2,some 3] (.n 0) (.r1 (.blt .len #[.ix (.v 0) (.int 0)])) .nil (.ife (.cmp .In (.v 0) (.v 2)) (.ix (.v 1) (.v 0)) (.int 0))))) jaq)
noncomputable def jar:Ss:=(.cons (.ite (.cmp .IsNot (.v 5) .non) #[(.ret (.tup #[.str "none",(.tup #[.str "ring",(.tup #[.tup #[.v 5,.int 1],.tup #[.v 5,.neg (.int 1)]])])]))] .nil) jaF)
noncomputable def jaG:Ss:=(.cons (.asg (.n 5) (.call jct #[.v 4])) jar)
noncomputable def jaH:Ss:=(.cons (.asg (.n 4) (.call jcq #[.v 0,.v 1])) jaG)
noncomputable def jaQ:Fun:=⟨"times_or_none_with",["plan", "period", "beats", "stays"],["plan", "period", "beats", "stays", "windows", "void", "times", "part", "forest", "word", "found"],(.cons (.expr (.call jbu #[.v 0,.v 1,.v 3])) jaH)⟩
noncomputable def jbn:Fun:=⟨"times_or_none",["plan", "period"],["plan", "period"],#[.ret (.call jaP #[.v 0,.v 1,.tup .nil,.tup .nil])]⟩
noncomputable def jdC:Fun:=⟨"_law_feed",["_law_script"],["_law_script"],#[(.ret (.dic #[.str "cells",.bin .Add (.mkL (.sl (.v 0) .no (.so (.int 63)))) (.bin .Mult (.lst #[.int 0]) (.blt .int #[.cmp .Eq (.blt .len #[.v 0]) (.int 0)])),.str "at",.int 0,.str "left",.int 0,.str "turn",.int 0]))]⟩
noncomputable def jdE:Fun:=⟨"_law_draw",["_law_feed_here", "_law_many"],["_law_feed_here", "_law_many", "_law_cell", "_law_mixed", "_law_found"],#[.setS (.v 0) (.str "turn") (.bin .Add (.ix (.v 0) (.str "turn")) (.int 1)),(.ite (.cmp .Eq (.ix (.v 0) (.str "left")) (.int 0)) #[.asg (.n 2) (.ix (.ix (.v 0) (.str "cells")) (.bin .Mod (.ix (.v 0) (.str "at")) (.blt .len #[.ix (.v 0) (.str "cells")]))),.setS (.v 0) (.str "at") (.bin .Add (.ix (.v 0) (.str "at")) (.int 1)),.ite (.cmp .Lt (.v 2) (.bin .Pow (.int 10) (.int 18))) #[.asg (.n 3) (.bin .Mod (.bin .Mult (.bin .Add (.bin .Mod (.v 2) (.int 2147483629)) (.bin .Mult (.int 1019) (.ix (.v 0) (.str "turn")))) (.int 48271)) (.int 2147483647)),.asg (.n 3) (.bin .Mod (.bin .Mult (.bin .Add (.bin .FloorDiv (.v 3) (.int 13)) (.bin .Mult (.int 43) (.ix (.v 0) (.str "turn")))) (.int 69621)) (.int 2147483587)),.ret (.bin .Mod (.bin .FloorDiv (.v 3) (.int 11)) (.v 1))] .nil,.setS (.v 0) (.str "left") (.v 2)] .nil),.asg (.n 4) (.bin .Mod (.ix (.v 0) (.str "left")) (.v 1)),.setS (.v 0) (.str "left") (.bin .FloorDiv (.ix (.v 0) (.str "left")) (.v 1)),.ret (.v 4)]⟩
noncomputable def jdg:Fun:=⟨"_law_names",["_law_feed_here", "_law_many"],["_law_feed_here", "_law_many", "_law_some", "_law_first", "_law_step"],#[.asg (.n 2) (.lst #[.str "a",.str "ab",.str "abc",.str "b",.str "ba",.str "works",.str "span",.str "apart",.str "at",.str "none",.str "hold",.str "zzzzzzzz",.str "z",.str "o",.str "find"]),.asg (.n 2) (.bin .Add (.v 2) (.lst #[.str "late",.str "n"])),.asg (.n 3) (.call jab #[.v 0,.int 17]),.asg (.n 4) (.bin .Add (.int 1) (.call jab #[.v 0,.int 16])),.ret (.mkT (.lc [none,some 2,some 3,some 4] (.n 0) (.r1 (.v 1)) .nil (.ix (.v 1) (.bin .Mod (.bin .Add (.v 2) (.bin .Mult (.v 3) (.v 0))) (.int 17)))))]⟩
noncomputable def jcz:Fun:=⟨"_law_number",["_law_feed_here", "_law_cycle"],["_law_feed_here", "_law_cycle"],#[(.ret (.ix (.lst #[.int 0,.call jab #[.v 0,.v 1],.call jab #[.v 0,.v 1],.call jab #[.v 0,.bin .Add (.bin .Mult (.int 3) (.v 1)) (.int 1)]]) (.call jab #[.v 0,.int 4])))]⟩
noncomputable def jb5:Fun:=⟨"_law_fitting",["_law_feed_here", "_law_beats", "_law_cycle"],["_law_feed_here", "_law_beats", "_law_cycle", "_law_one", "_law_other", "_law_gap", "_law_low", "_law_length"],#[(.par [3,4] #[.call jab #[.v 0,.blt .len #[.v 1]],.call jab #[.v 0,.blt .len #[.v 1]]]),.asg (.n 5) (.bin .Mod (.bin .Sub (.ix (.v 1) (.v 4)) (.ix (.v 1) (.v 3))) (.v 2)),(.ite (.cmp .Eq (.call jab #[.v 0,.int 3]) (.int 0)) #[(.ret (.tup #[.str "apart",.v 3,.v 4,.call jab #[.v 0,.bin .Add (.v 5) (.int 1)],.call jab #[.v 0,.bin .Add (.bin .Sub (.v 2) (.v 5)) (.int 1)]]))] .nil),.asg (.n 6) (.call jcr #[.v 0,.v 2]),.asg (.n 7) (.bin .Add (.v 6) (.bin .Mod (.bin .Sub (.v 5) (.v 6)) (.v 2))),.ret (.tup #[.str "span",.v 3,.v 4,.v 6,.bin .Add (.v 7) (.ix (.lst #[.int 0,.int 0,.int 1,.call jab #[.v 0,.v 2]]) (.call jab #[.v 0,.int 4]))])]⟩
noncomputable def jeA:Fun:=⟨"_law_end",["_law_cycle", "_law_span"],["_law_cycle", "_law_span", "_law_top"],#[.asg (.n 2) (.ife (.cmp .Eq (.ix (.v 1) (.int 0)) (.str "span")) (.ix (.v 1) (.int 4)) (.bin .Sub (.v 0) (.ix (.v 1) (.int 4)))),.ret (.blt .min #[.v 2,.bin .Sub (.bin .Add (.ix (.v 1) (.int 3)) (.v 0)) (.int 1)])]⟩
noncomputable def jbL:Ss:=#[(.fr (.n 4) (.r1 (.blt .len #[.ix (.v 0) (.int 1)])) #[.asg (.t #[.n 5,.n 6,.n 7,.n 8,.n 9]) (.ix (.ix (.v 0) (.int 1)) (.v 4)),.asg (.n 10) (.bin .Mod (.bin .Sub (.bin .Sub (.ix (.v 2) (.v 7)) (.ix (.v 2) (.v 6))) (.v 8)) (.v 1)),.ite (.cmp .Gt (.bin .Add (.v 8) (.v 10)) (.call jc4 #[.v 1,.ix (.ix (.v 0) (.int 1)) (.v 4)])) #[.expr (.meth .append (.v 3) #[.v 4])] .nil]),.ret (.v 3)]
noncomputable def jdh:Fun:=⟨"_law_lacks",["_law_plan", "_law_cycle", "_law_beats"],["_law_plan", "_law_cycle", "_law_beats", "_law_found", "_law_s", "_law_word", "_law_one", "_law_other", "_law_low", "_law_high", "_law_gap"],(.cons (.asg (.n 3) (.lst .nil)) jbL)⟩
noncomputable def jb3:Fun:=⟨"_law_windows",["_law_plan", "_law_cycle"],["_law_plan", "_law_cycle"],#[.ret (.mkT (.lc [none,some 1] (.n 0) (.e (.ix (.v 0) (.int 1))) .nil (.tup #[.ix (.v 0) (.int 3),.call jc4 #[.v 1,.v 0]])))]⟩
noncomputable def jde:Fun:=⟨"_law_whole",["_law_thing", "_law_first", "_law_last"],["_law_thing", "_law_first", "_law_last"],#[(.ret (.bop true (.blt .isi #[.v 0,.ty "int"]) #[.not (.blt .isi #[.v 0,.ty "bool"]),.cmp2 .LtE .LtE (.v 1) (.v 0) (.v 2)]))]⟩
noncomputable def jcn:Ss:=#[.asg (.n 3) (.ix (.ix (.v 0) (.int 1)) (.ix (.v 2) (.int 0))),.ret (.ife (.cmp .Eq (.ix (.v 2) (.int 1)) (.int 1)) (.tup #[.ix (.v 3) (.int 1),.ix (.v 3) (.int 2)]) (.tup #[.ix (.v 3) (.int 2),.ix (.v 3) (.int 1)]))]
noncomputable def jco:Ss:=(.cons (.ite (.bop false (.not (.call jaA #[.ix (.v 2) (.int 0),.int 0,.bin .Sub (.blt .len #[.ix (.v 0) (.int 1)]) (.int 1)])) #[.not (.call jaA #[.ix (.v 2) (.int 1),.neg (.int 1),.int 1]),.cmp .Eq (.ix (.v 2) (.int 1)) (.int 0)]) #[.ret .non] .nil) jcn)
noncomputable def jcp:Ss:=(.cons (.ite (.cmp .Eq (.blt .len #[.v 2]) (.int 3)) #[.ite (.bop false (.not (.blt .isi #[.ix (.v 2) (.int 0),.ty "str"])) #[.cmp .NotEq (.ix (.v 2) (.int 0)) (.str "home")]) #[.ret .non] .nil,.ite (.cmp .In (.bl false) (.lc [none,some 1] (.n 0) (.e (.sl (.v 2) (.so (.int 1)) .no)) .nil (.bop true (.call jaA #[.v 0,.int 0,.int 7]) #[.cmp .In (.v 0) (.v 1)]))) #[.ret .non] .nil,.ret (.sl (.v 2) (.so (.int 1)) .no)] .nil) jco)
noncomputable def jdD:Fun:=⟨"_law_ends",["_law_plan", "_law_stays", "_law_entry"],["_law_plan", "_law_stays", "_law_entry", "_law_span"],(.cons (.ite (.bop false (.not (.blt .isi #[.v 2,.ty "tuple"])) #[.cmp .NotIn (.blt .len #[.v 2]) (.tup #[.int 2,.int 3])]) #[.ret .non] .nil) jcp)⟩
noncomputable def jbd:Ss:=#[.ret (.cmp .Eq (.lc [none,some 3] (.n 0) (.r1 (.blt .len #[.v 3])) #[.cmp .NotEq (.ix (.ix (.v 1) (.bin .Sub (.v 0) (.int 1))) (.int 1)) (.ix (.ix (.v 1) (.v 0)) (.int 0))] (.v 0)) (.lst .nil))]
noncomputable def jbe:Ss:=(.cons (.ite (.cmp .In .non (.v 3)) #[.ret (.bl false)] .nil) jbd)
noncomputable def jbf:Ss:=(.cons (.asg (.n 3) (.lc [none,some 0,some 1] (.n 0) (.e (.v 2)) .nil (.call jdv #[.v 1,.v 2,.v 0]))) jbe)
noncomputable def jb4:Fun:=⟨"_law_is_ring",["_law_plan", "_law_stays", "_law_thing"],["_law_plan", "_law_stays", "_law_thing", "_law_spots"],(.cons (.ite (.bop false (.not (.blt .isi #[.v 2,.ty "tuple"])) #[.not (.cmp2 .LtE .LtE (.int 1) (.blt .len #[.v 2]) (.int 60))]) #[.ret (.bl false)] .nil) jbf)⟩
noncomputable def jcl:Ss:=#[.ret (.tup #[.v 3,.v 4])]
noncomputable def jcm:Ss:=(.cons (.fr (.n 5) (.e (.v 2)) #[.ite (.cmp .Eq (.blt .len #[.v 5]) (.int 3)) #[.asg (.n 3) (.bin .Sub (.bin .Add (.v 3) (.ix (.v 0) (.ix (.v 5) (.int 2)))) (.ix (.v 0) (.ix (.v 5) (.int 1)))),.asg (.n 4) (.bin .Sub (.bin .Add (.v 4) (.ix (.v 0) (.ix (.v 5) (.int 2)))) (.ix (.v 0) (.ix (.v 5) (.int 1))))] #[.ite (.cmp .Eq (.ix (.v 5) (.int 1)) (.int 1)) #[.asg (.n 3) (.bin .Add (.v 3) (.ix (.ix (.v 1) (.ix (.v 5) (.int 0))) (.int 0))),.asg (.n 4) (.bin .Add (.v 4) (.ix (.ix (.v 1) (.ix (.v 5) (.int 0))) (.int 1)))] #[.asg (.n 3) (.bin .Sub (.v 3) (.ix (.ix (.v 1) (.ix (.v 5) (.int 0))) (.int 1))),.asg (.n 4) (.bin .Sub (.v 4) (.ix (.ix (.v 1) (.ix (.v 5) (.int 0))) (.int 0)))]]]) jcl)
noncomputable def jdB:Fun:=⟨"_law_sums",["_law_beats", "_law_windows_here", "_law_ring"],["_law_beats", "_law_windows_here", "_law_ring", "_law_least", "_law_most", "_law_entry"],(.cons (.asg (.n 3) (.int 0)) (.cons (.asg (.n 4) (.int 0)) jcm))⟩
noncomputable def jdF:Fun:=⟨"_law_bars",["_law_cycle", "_law_sums_here"],["_law_cycle", "_law_sums_here", "_law_least", "_law_most"],#[.asg (.t #[.n 2,.n 3]) (.v 1),.ret (.cmp .Lt (.bin .Mult (.bin .FloorDiv (.v 3) (.v 0)) (.v 0)) (.v 2))]⟩
noncomputable def jbG:Ss:=#[.ret .non]
noncomputable def jaI:Ss:=#[.asg (.n 6) (.bin .Add (.v 6) (.int 1))]
noncomputable def jaJ:Ss:=(.cons (.ite (.cmp .Eq (.ix (.v 7) (.int 0)) (.str "ring")) #[.ite (.not (.call jbQ #[.v 0,.v 3,.ix (.v 7) (.int 1)])) #[.ret (.tup #[.str "ring",.v 6])] .nil,.ite (.not (.call jdw #[.v 1,.call jdt #[.v 2,.v 8,.ix (.v 7) (.int 1)]])) #[.ret (.tup #[.str "bar",.v 6])] .nil] #[.par [9,10] #[.ix (.v 7) (.int 1),.ix (.v 7) (.int 2)],.ite (.not (.call jaA #[.v 9,.int 0,.bin .Sub (.blt .len #[.ix (.v 0) (.int 1)]) (.int 1)])) #[.ret (.tup #[.str "span",.v 6])] .nil,.asg (.t #[.n 11,.n 12]) (.ix (.v 8) (.v 9)),.ite (.not (.call jaA #[.v 10,.v 11,.bin .Sub (.v 12) (.int 1)])) #[.ret (.tup #[.str "cut",.v 6])] .nil,.expr (.meth .append (.v 5) #[.tup #[.ix (.v 7) (.int 4),.bin .Add (.bin .Add (.sl (.v 8) .no (.so (.v 9))) (.tup #[.tup #[.bin .Add (.v 10) (.int 1),.v 12]])) (.sl (.v 8) (.so (.bin .Add (.v 9) (.int 1))) .no)]]),.expr (.meth .append (.v 5) #[.tup #[.ix (.v 7) (.int 3),.bin .Add (.bin .Add (.sl (.v 8) .no (.so (.v 9))) (.tup #[.tup #[.v 11,.v 10]])) (.sl (.v 8) (.so (.bin .Add (.v 9) (.int 1))) .no)]])]) jaI)
noncomputable def jaK:Ss:=(.cons (.ite (.cmp .NotIn (.tup #[.ix (.v 7) (.int 0),.blt .len #[.v 7]]) (.tup #[.tup #[.str "ring",.int 2],.tup #[.str "split",.int 5]])) #[.ret (.tup #[.str "shape",.v 6])] .nil) jaJ)
noncomputable def jaL:Ss:=(.cons (.ite (.bop false (.not (.blt .isi #[.v 7,.ty "tuple"])) #[.cmp .Eq (.blt .len #[.v 7]) (.int 0),.not (.blt .isi #[.ix (.v 7) (.int 0),.ty "str"])]) #[.ret (.tup #[.str "shape",.v 6])] .nil) jaK)
noncomputable def ja7:Ss:=(.cons (.asg (.t #[.n 7,.n 8]) (.meth .pop (.v 5) .nil)) jaL)
noncomputable def jbH:Ss:=(.cons (.wh (.cmp .NotEq (.v 5) (.lst .nil)) ja7) jbG)
noncomputable def jdd:Fun:=⟨"_law_wrong",["_law_plan", "_law_cycle", "_law_beats", "_law_stays", "_law_thing"],["_law_plan", "_law_cycle", "_law_beats", "_law_stays", "_law_thing", "_law_line", "_law_at", "_law_node", "_law_windows_here", "_law_s", "_law_cut", "_law_least", "_law_most"],(.cons (.asg (.n 5) (.lst #[.tup #[.v 4,.call jbP #[.v 0,.v 1]]])) (.cons (.asg (.n 6) (.int 0)) jbH))⟩
noncomputable def jbI:Ss:=#[.ret (.mkT (.v 3))]
noncomputable def jbJ:Ss:=(.cons (.fr (.n 4) (.r1 (.bin .Add (.int 1) (.call jab #[.v 0,.int 4]))) #[(.ite (.cmp .Gt (.call jab #[.v 0,.int 3]) (.int 0)) #[.expr (.meth .append (.v 3) #[.call jbR #[.v 0,.v 2,.v 1]])] #[.asg (.n 5) (.call jab #[.v 0,.v 1]),.asg (.n 6) (.call jab #[.v 0,.int 2]),.expr (.meth .append (.v 3) #[.tup #[.str "span",.v 6,.bin .Sub (.int 1) (.v 6),.v 5,.bin .Add (.v 5) (.call jab #[.v 0,.int 60])]])])]) jbI)
noncomputable def jbK:Ss:=(.cons (.asg (.n 3) (.lst .nil)) jbJ)
noncomputable def jdf:Fun:=⟨"_law_spans",["_law_feed_here", "_law_cycle"],["_law_feed_here", "_law_cycle", "_law_beats", "_law_spans_here", "_law_k", "_law_low", "_law_one"],(.cons (.asg (.n 2) (.lst #[.call jab #[.v 0,.v 1],.call jab #[.v 0,.v 1]])) jbK)⟩
noncomputable def jca:Ss:=#[(.ite (.cmp .Eq (.ix (.v 7) (.int 0)) (.str "none")) #[(.ite (.cmp .IsNot (.call jc1 #[.v 4,.v 3,.tup #[.int 0,.int 0],.tup .nil,.ix (.v 7) (.int 1)]) .non) #[.ret (.bl false)] .nil)] #[.ite (.bop false (.cmp .NotEq (.call ja2 #[.v 4,.v 3,.ix (.v 7) (.int 1)]) (.lst .nil)) #[.cmp .In (.bl false) (.lc [none,some 3] (.n 0) (.e (.ix (.v 7) (.int 1))) .nil (.call jaA #[.v 0,.int 0,.bin .Sub (.v 1) (.int 1)]))]) #[.ret (.bl false)] .nil,.ite (.bop true (.v 5) #[.cmp .NotIn (.bin .Mod (.bin .Sub (.ix (.ix (.v 7) (.int 1)) (.int 1)) (.ix (.ix (.v 7) (.int 1)) (.int 0))) (.v 3)) (.v 6)]) #[.ret (.bl false)] .nil])]
noncomputable def jcb:Ss:=(.cons (.ite (.cmp .NotEq (.ix (.v 7) (.int 0)) (.ix (.lst #[.str "times",.str "none"]) (.blt .int #[.cmp .Eq (.v 6) (.lst .nil)]))) #[.ret (.bl false)] .nil) jca)
noncomputable def jbq:Ss:=(.cons (.asg (.n 7) (.call jbj #[.v 4,.v 3])) jcb)
noncomputable def jdp:Ss:=(.cons (.asgC 6 (.lc [none,some 3,some 4] (.n 0) (.r1 (.ife (.v 5) (.v 3) (.int 1))) #[.cmp .Eq (.call ja2 #[.v 2,.v 1,.tup #[.int 0,.v 0]]) (.lst .nil)] (.v 0))) jbq)
noncomputable def jcc:Ss:=(.cons (.asg (.n 5) (.cmp .NotEq (.lc [none] (.n 0) (.e (.ix (.v 4) (.int 1))) #[.cmp .NotEq (.ix (.v 0) (.int 1)) (.ix (.v 0) (.int 2))] (.v 0)) (.lst .nil))) jdp)
noncomputable def jdq:Ss:=(.cons (.asg (.n 4) (.tup #[.call jc3 #[.v 1,.int 2],.call jc2 #[.v 1,.v 3]])) jcc)
noncomputable def jcd:Ss:=(.cons (.asg (.n 3) (.ix (.lst #[.int 100,.int 120,.int 299,.int 300,.bin .Add (.int 100) (.call jab #[.v 1,.int 201])]) (.call jab #[.v 1,.int 5]))) jdq)
noncomputable def jgv:Ss:=#[.fr (.n 2) (.r1 (.int 2)) jcd,.ret (.bl true)]
noncomputable def jmX:Fun:=⟨"law",["_law_script"],["_law_script", "_law_feed_here", "_law_k", "_law_cycle", "_law_plan", "_law_joined", "_law_gaps", "_law_found"],(.cons (.asg (.n 1) (.call jdu #[.v 0])) jgv)⟩
noncomputable def T:Tab:=⟨[jfS,jdb,jcy,jb2,jeB,jcC,jex,jdc,jcD,jb6,jbx,jby,jbo,jb7,jdA,jey,jez,jbw,jcB,jcA,jfT,jja,jaQ,jbn,jdC,jdE,jdg,jcz,jb5,jeA,jdh,jb3,jde,jdD,jb4,jdB,jdF,jdd,jdf,jmX],[(.int 300)],["MOST_SIZE"],[],[],[]⟩
def top (i:Nat):Stmt:=PySem.Challenge.pw_beatplans_k23_great_rounds.main.body.getD i (.Pass ⟨0,0,0,0⟩)
noncomputable abbrev s_top_of:Stmt:=top 4
noncomputable abbrev s_window_of:Stmt:=top 5
noncomputable abbrev s_windows_of:Stmt:=top 6
noncomputable abbrev s_with_window:Stmt:=top 7
noncomputable abbrev s_ends_of:Stmt:=top 9
noncomputable abbrev s_entry_sums:Stmt:=top 10
noncomputable abbrev s_sums_of:Stmt:=top 11
noncomputable abbrev s_ring_bars:Stmt:=top 12
noncomputable abbrev s_entries_to:Stmt:=top 14
noncomputable abbrev s_forest_from:Stmt:=top 15
noncomputable abbrev s_path_to_root:Stmt:=top 16
noncomputable abbrev s_closing_ring:Stmt:=top 17
noncomputable abbrev s_closing_rings:Stmt:=top 18
noncomputable abbrev s_beats_along:Stmt:=top 19
noncomputable abbrev s_parts_of:Stmt:=top 21
noncomputable abbrev s_staying:Stmt:=top 24
noncomputable abbrev s_size_of:Stmt:=top 25
noncomputable abbrev s_refuse_great:Stmt:=top 26
noncomputable abbrev s_first_void:Stmt:=top 27
noncomputable abbrev s_first_wide:Stmt:=top 28
noncomputable abbrev s_halved:Stmt:=top 29
noncomputable abbrev s_seek:Stmt:=top 30
noncomputable abbrev s_times_or_none_with:Stmt:=top 31
noncomputable abbrev s_times_or_none:Stmt:=top 32
noncomputable abbrev s_law_feed:Stmt:=top 34
noncomputable abbrev s_law_draw:Stmt:=top 35
noncomputable abbrev s_law_names:Stmt:=top 36
noncomputable abbrev s_law_number:Stmt:=top 37
noncomputable abbrev s_law_fitting:Stmt:=top 38
noncomputable abbrev s_law_end:Stmt:=top 39
noncomputable abbrev s_law_lacks:Stmt:=top 40
noncomputable abbrev s_law_windows:Stmt:=top 41
noncomputable abbrev s_law_whole:Stmt:=top 42
noncomputable abbrev s_law_ends:Stmt:=top 43
noncomputable abbrev s_law_is_ring:Stmt:=top 44
noncomputable abbrev s_law_sums:Stmt:=top 45
noncomputable abbrev s_law_bars:Stmt:=top 46
noncomputable abbrev s_law_wrong:Stmt:=top 47
noncomputable abbrev s_law_spans:Stmt:=top 48
noncomputable abbrev s_law:Stmt:=top 49
end
local macro_rules
 |`(tactic| simp! only[$xs,*])=>`(tactic| try simp only[D_v,T_v,jpM,D_bl,jpU,jpJ,D_g,T_g,D_ty,T_ty,jp0,jpp,jpN,jpY,jpn,jnu,jnf,jpI,jpR,jpX,D_ix,T_ix,D_sl,jpK,jnv,jng,jpZ,jpo,jnt,D_lc,jpT,jpk,jpW,jpm,jpS,jpj,jpQ,jpi,jpP,jpO,jpL,jph,jpV,jpl,jnw,jp1,D_or,jpq,T_or,O_no,O_so,jp5,jnz,jp3,jnx,jpx,jnk,I_e,I_r1,jnl,I_s,jpD,jns,I_dv,I_di,I_dk,jpr,jni,jpw,jnj,jnh,jpt,jpv,jpu,S_fr,jps,jkY,S_tr,jp4,jny,jpg,jpf,jnc,jpa,jpd,jna,jm9,jnb,jpe,jpb,jpc,jo9,jo4,jo7,jo2,W_lt,W_le,W_gt,jo1,jo6,jm6,jo3,jo8,W_in,jo0,W_is,jo5,Y_bl,joW,joX,joV,jpA,joY,jpF,jpE,jpC,jiC,jpH,jpG,joZ,jnd,jm8,jm7,jnp,jnn,jno,jnr,jnq,G_n,G_t,jpB,jnm,sl_0,sl_s,dr_0,dr_s,pk_nil,jjN,jjM,jpy,jpz,jis,joN,jkI,jkH,joO,jkL,jkK,YaB,YcS,YfK,Ya6,Yaz,YcU,List.set_cons_zero,List.set_cons_succ,Yfa,List.zip_nil_right,List.zip_nil_left,YdR,List.foldl_nil,List.getElem?_cons_zero,List.getElem?_cons_succ,Option.join_some,ite_true,ite_false,Ybo,Yds,$xs,*])
section
variable {k:Nat}{G:Gp}{Q:K1}{X:KX}
theorem jan {f c:Addr}{m:Int}(hf:Fd G f c)(h0:0<m)(h1:m<1073741824)(q:∀(r:Int) (G':Gp),0<=r->r<m->Fd G' f c->Sm f G G'->Q (.int r) G'):jaa T (k+1) jab [.loc f,.int m] G Q X:=by
 obtain⟨ns,a,l,t,g1,g2,hn⟩:=hf.ex;have fin:∀(z a' l' t':Int),Q (.int (z%m)) (gup G f (.dK (fdU c a' l' t'))):=λz a' l' t'=>q _ _ (Ybs z (by omega)) (Ybp z h0) (Fd.put ⟨rfl⟩ g1 g2 hn) Sm.put
 have hlen:0<ns.length:=List.length_pos_iff.mpr hn;have gc:∀kvs,gup G f (.dK kvs) c=some (.lst (ns.map .int)):=λkvs=>by rw[jbc (λz=>by rw[z,g1]at g2;cases g2)];exact g2
 obtain⟨z,hz,ez⟩:=jeK (l:=ns) (r:=a%ns.length) (Ybs _ (by omega)) (Ybp _ (by omega))
 refine⟨rfl,?_⟩;simp! only[jdE,jad,Yae,ix_d g1 ji1,jhN g1,jbi,jiN,jfO,true_and,jgd (gc _),Yac,ix_l (gc _) ((jbD U.int ns _).trans (congrArg _ ez))];have cut:∀(l' a' t':Int),(0<m/\0<m/\m<1073741824/\Q (.int (l'%m)) (gup G f (.dK (fdU c a' (l'/m) t')))):=λl' a' t'=>⟨h0,h0,by omega,fin _ _ _ _⟩
 by_cases hl:l=0
 ·rw[if_pos (by simpa using hl)]
  refine⟨by omega,by constructor<;>decide,?_⟩
  by_cases hc:z<10 ^ Int.toNat 18
  ·rw[if_pos (by simpa using hc)]
   exact⟨by decide,.inl (by decide),.inr (by decide),by decide,by decide,by decide,.inl (by decide),.inr (by decide),by decide,by decide,by decide,h0,fin _ _ _ _⟩
  ·rw[if_neg (by simpa using hc)]
   exact cut _ _ _
 ·rw[if_neg (by simpa using hl)]
  exact cut _ _ _
theorem jkc {a:Addr}{ns:List Int}(ha:G a=some (.fro (ns.map .int)))(hl:ns.length<=63)(q:∀(f c:Addr) (G':Gp),Fd G' f c->Q (.loc f) G'):jaa T (k+1) jdu [.loc a] G Q X:=by
 have hcl:(cut ns none (some 63)).length<=63:=by rw[show(63:Int)=((63:Nat):Int)from rfl,jeC];simp;omega
 refine⟨rfl,?_⟩;simp! only[jdC,jad,Yae,sl_f ha,jkS];intro p1 G1 n1;rw[it_l n1.at];intro p2 G2 n2;refine⟨by decide,λp3 G3 n3=>?_⟩
 simp! only[joG (n3.sa _ _ (n2.sa _ _ (n1.sa _ _ ha)))];obtain⟨zs,ez,lz,hz⟩:∃zs:List Int,(Yae (Int.toNat (if decide (((ns.map U.int).length:Int)=0)=true then 1 else 0)) [U.int 0]).flatten=zs.map U.int/\zs.length<=1/\(ns=[]->zs≠[]):=by
  by_cases h:ns=[]
  ·subst h;exact⟨[0],rfl,by decide,λ_=>by simp⟩
  ·refine⟨[],?_,by decide,λz=>absurd z h⟩
   rw[if_neg (by simpa using h)]
   rfl
 refine⟨_,n3.at,by split<;>decide,by split<;>decide,by split<;>decide,λp4 G4 n4=>?_⟩
 rw[ez]at n4;refine⟨_,_,n4.sa _ _ (n3.sa _ _ n2.at),n4.at,?_,λp5 G5 n5=>⟨by decide,λp6 G6 n6=>?_⟩⟩
 ·rw[Yac,Yac];exact Yal (Nat.add_le_add hcl lz) (by decide:63+1<=Yah)
 rw[jmp]at n6;rw[<- YaJ]at n5;refine q _ p5 _ ⟨_,0,0,0,n6.at,n6.sa _ _ n5.at,λz=>?_⟩;obtain⟨z1,z2⟩:=List.append_eq_nil_iff.mp z;refine hz ?_ z2;rw[show(63:Int)=((63:Nat):Int)from rfl,jeC]at z1;cases ns with
 |nil=>rfl
 |cons _ _=>cases z1
end

structure Nm (x:Str):Prop where
 l8:x.length<=8
 ch:∀c∈x.cps.toList,c<128
structure Spn where
 w:Str
 o:Nat
 t:Nat
 lo:Int
 hi:Int
noncomputable def Spn.u (s:Spn):U:=.tup [.str s.w,.int s.o,.int s.t,.int s.lo,.int s.hi]
structure Spn.Ok (W:Nat)(s:Spn):Prop where
 w:s.w = "apart" \/ s.w = "span"
 o:s.o<W
 t:s.t<W
 lo:0<=s.lo/\s.lo<=9999
 hi:0<=s.hi/\s.hi<=9999
noncomputable def jaW (l:List Int):U:=.tup (l.map .int)
theorem jjd {x:Str}(h:x = "apart" \/ x = "span"):x.length<=8/\∀c∈x.cps.toList,c<128:=by
 rcases h with rfl|rfl
 ·exact⟨by decide +kernel,by decide +kernel⟩
 ·exact⟨by decide +kernel,by decide +kernel⟩
theorem Spn.Ok.sml {W:Nat}{s:Spn}(h:s.Ok W):Sml 1 s.u:=Sml.tup λu hu=>by
 simp only[YaO,Yav,or_false]at hu;rcases hu with rfl|rfl|rfl|rfl|rfl
 ·exact Sml.str (jjd h.w).2
 all_goals exact Sml.int _
noncomputable def menu:List Str:=["a", "ab", "abc", "b", "ba", "works", "span", "apart", "at", "none", "hold", "zzzzzzzz", "z", "o", "find", "late", "n"]
theorem jkh:∀x∈menu,Nm x:=by
 have h:∀x∈menu,x.length<=8/\∀c∈x.cps.toList,c<128:=by decide +kernel
 exact λx hx=>⟨(h x hx).1,(h x hx).2⟩
noncomputable def jae (xs:List Str)(ss:List Spn):U:=.tup [.tup (xs.map .str),.tup (ss.map Spn.u)]
section
variable {k:Nat}{G:Gp}{Q:K1}{X:KX}
theorem jic {f c:Addr}{m:Nat}(hf:Fd G f c)(h1:m<=8)(q:∀(xs:List Str) (G':Gp),xs.length=m->(∀x∈xs,Nm x)->Fd G' f c->Sm f G G'->Q (.tup (xs.map .str)) G'):jaa T (k+2) jc3 [.loc f,.int m] G Q X:=by
 refine⟨rfl,?_⟩;simp! only[jdg,jad,Yae];refine⟨by decide,λp G1 n1=>⟨by decide,λp2 G2 n2=>⟨_,_,n2.sa _ _ n1.at,n2.at,by decide,λp3 G3 n3=>?_⟩⟩⟩
 have f3:=((hf.new n1).new n2).new n3;have s3:Sm f G G3:=n1.sa.sm.trans (n2.sa.sm.trans n3.sa.sm);have hp:=((hf.new n1).new n2).away n3;have g3:G3 p3=some (.lst (menu.map .str)):=n3.at
 refine jan f3 (by decide) (by decide) λfirst G4 a4 b4 f4 s4=>jan f4 (by decide) (by decide) λr5 G5 a5 b5 f5 s5=>?_
 have g5:=s5 _ _ hp.1 (s4 _ _ hp.1 g3);simp! only[];refine⟨by omega,by omega,by rw[jaz];exact Yal (show((m:Int)).toNat<=8 by omega) (by decide),?_⟩
 refine jay (λi acc G'=>G'=G5/\∃xs:List Str,acc=xs.map .str/\xs.length=i/\∀x∈xs,Nm x) ?_ ?_ ⟨rfl,[],rfl,rfl,λ_ h=>nomatch h⟩
 ·rintro acc G' ⟨rfl,xs,rfl,hl,hx⟩;rw[jaz]at hl;refine⟨trivial,λp6 G6 n6=>?_⟩;simp! only[it_l n6.at];exact q xs G6 (by omega) hx (f5.new n6) ((s3.trans (s4.trans s5)).nw n6)
 ·rintro i x acc G' K hx ⟨rfl,xs,rfl,hl,hn⟩ hk _;obtain⟨hi,rfl⟩:=ja0 hx;simp! only[];obtain⟨y,hy,ey⟩:=jeK (l:=menu) (r:=(first+(1+r5)*(i:Int))%17) (Ybs _ (by decide)) (Ybp _ (by decide))
  refine⟨trivial,.inr (by constructor<;>omega),by decide,?_⟩
  rw[ix_l g5 ((jbD U.str menu _).trans (congrArg _ ey))];exact hk _ _ ⟨rfl,xs++[y],by simp,by simp[hl],λz hz=>by
   rcases List.mem_append.mp hz with z'|z'
   ·exact hn z z'
   ·rw[List.mem_singleton.mp z'];exact jkh y hy⟩
theorem jgS {f c:Addr}{P:Int}(hf:Fd G f c)(h1:1<=P)(h2:P<=600)(q:∀(z:Int) (G':Gp),0<=z->z<=1801->Fd G' f c->Sm f G G'->Q (.int z) G'):jaa T (k+2) jcr [.loc f,.int P] G Q X:=by
 refine⟨rfl,?_⟩;simp! only[jcz,jad,Yae];refine jan hf (by omega) (by omega) λr1 G1 a1 b1 f1 s1=>jan f1 (by omega) (by omega) λr2 G2 a2 b2 f2 s2=>⟨.inl (by decide),jan f2 (by omega) (by omega) λr3 G3 a3 b3 f3 s3=>⟨by decide,λp G4 n4=>jan (f3.new n4) (by decide) (by decide) λr5 G5 a5 b5 f5 s5=>?_⟩⟩
 refine jdS [0,r1,r2,r3] (s5 _ _ (f3.away n4).1 n4.at) a5 b5 λz hz=>?_;have:0<=z/\z<=1801:=by simp only[YaO,Yav,or_false]at hz;omega
 exact q z _ this.1 this.2 f5 (((s1.trans (s2.trans s3)).nw n4).trans s5)
theorem jga {f c pb:Addr}{P:Int}{W:Nat}{bs:List Int}(hf:Fd G f c)(h1:1<=P)(h2:P<=600)(gb:G pb=some (.lst (bs.map .int)))(hb:pb≠f)(bl:bs.length=W)(w0:0<W)(w8:W<=8)(q:∀(s:Spn) (G':Gp),s.Ok W->(s.w = "span" -> s.lo<=s.hi)->Fd G' f c->Sm f G G'->Q s.u G'):jaa T (k+3) jbR [.loc f,.loc pb,.int P] G Q X:=by
 refine⟨rfl,?_⟩;simp! only[jb5,jad,Yae,jgd gb,Yac,bl];refine jan hf (by omega) (by omega) λo' Ga aa ba fa sa=>?_
 have ga:=sa _ _ hb gb;simp! only[jgd ga,Yac,bl];refine jan fa (by omega) (by omega) λt' Gb ab bb fb sb=>?_
 have gb2:=sb _ _ hb ga;obtain⟨o,rfl⟩:=Ya0 aa;obtain⟨t,rfl⟩:=Ya0 ab;obtain⟨x,hx,ex⟩:=jeK (l:=bs) (r:=(t:Int)) ab (by omega)
 obtain⟨y,hy,ey⟩:=jeK (l:=bs) (r:=(o:Int)) aa (by omega)
 simp! only[ix_l gb2 ((jbD U.int bs _).trans (congrArg _ ex)),ix_l gb2 ((jbD U.int bs _).trans (congrArg _ ey))];refine⟨trivial,by omega,jan fb (by decide) (by decide) λr G2 a2 b2 f2 s2=>?_⟩
 have S2:=sa.trans (sb.trans s2);obtain⟨gap,hg⟩:∃gap,gap=(x-y)%P:=⟨_,rfl⟩;have g0:0<=gap:=by rw[hg];exact Ybs _ (by omega)
 have g1:gap<P:=by rw[hg];exact Ybp _ (by omega)
 rw[<- hg];simp! only[];by_cases hr:r=0
 ·rw[if_pos (by simpa using hr)]
  refine jan f2 (by omega) (by omega) λlo G3 a3 b3 f3 s3=>jan f3 (by omega) (by omega) λhi G4 a4 b4 f4 s4=>⟨by decide,?_⟩
  exact q ⟨"apart",o,t,lo,hi⟩ _ ⟨.inl rfl,by dsimp only;omega,by dsimp only;omega,by dsimp only;omega,by dsimp only;omega⟩ (λz=>absurd (show("apart" : Str) = "span" from z) (by decide +kernel)) f4 (S2.trans (s3.trans s4))
 ·rw[if_neg (by simpa using hr)]
  refine jgS f2 h1 h2 λlo G3 a3 b3 f3 s3=>⟨by omega,jan f3 (by omega) (by omega) λr4 G4 a4 b4 f4 s4=>⟨by decide,λp G5 n5=>jan (f4.new n5) (by decide) (by decide) λr6 G6 a6 b6 f6 s6=>?_⟩⟩
  refine jdS [0,0,1,r4] (s6 _ _ (f4.away n5).1 n5.at) a6 b6 λz hz=>?_;have hz':0<=z/\z<=700:=by simp only[YaO,Yav,or_false]at hz;omega
  have e0:0<=(gap-lo)%P:=Ybs _ (by omega)
  have e1:(gap-lo)%P<P:=Ybp _ (by omega)
  simp! only[];exact⟨by decide,q ⟨"span",o,t,lo,lo+(gap-lo)%P+z⟩ _ ⟨.inr rfl,by dsimp only;omega,by dsimp only;omega,by dsimp only;omega,by dsimp only;omega⟩ (λ_=>by dsimp only;omega) f6 ((S2.trans (s3.trans s4)).nw n5 |>.trans s6)⟩
end

inductive Con (es:List (Int×Int)):Int->Int->Prop
 |refl (x:Int):Con es x x
 |step {x a b:Int}:Con es x a->((a,b)∈es\/(b,a)∈es)->Con es x b
section
variable {es:List (Int×Int)}
theorem Con.trans {x y z:Int}(h:Con es x y)(g:Con es y z):Con es x z:=by
 induction g with
 |refl=>exact h
 |step _ e ih=>exact .step ih e
theorem Con.one {a b:Int}(e:(a,b)∈es\/(b,a)∈es):Con es a b:=.step (.refl a) e
theorem Con.symm {x y:Int}(h:Con es x y):Con es y x:=by
 induction h with
 |refl=>exact .refl _
 |step _ e ih=>exact(Con.one (Or.symm e)).trans ih
theorem Con.closed {S:Int->Prop}(hc:∀a b,S a->((a,b)∈es\/(b,a)∈es)->S b){x y:Int}(h:Con es x y)(hx:S x):S y:=by
 induction h with
 |refl=>exact hx
 |step _ e ih=>exact hc _ _ ih e
end
abbrev Sl:List Int->List Int->Prop:=λa b=>HT.lexLt a b=true
theorem pw_ext {α:Type}{r:α->α->Prop}(as:∀a b,r a b->r b a->False):∀{l l':List α},l.Pairwise r->l'.Pairwise r->(∀x,x∈l↔x∈l')->l=l'
 |[],[],_,_,_=>rfl
 |[],b::l',_,_,h=>absurd ((h b).mpr (by simp)) (by simp)
 |a::l,[],_,_,h=>absurd ((h a).mp (by simp)) (by simp)
 |a::l,b::l',h1,h2,h=>by
  obtain⟨p1,p2⟩:=List.pairwise_cons.mp h1;obtain⟨q1,q2⟩:=List.pairwise_cons.mp h2;have e:a=b:=by
   rcases YaO.mp ((h a).mp (by simp))with z|z
   ·exact z
   ·rcases YaO.mp ((h b).mpr (by simp))with y|y
    ·exact y.symm
    ·exact(as _ _ (p1 b y) (q1 a z)).elim
  subst e;rw[pw_ext as p2 q2 λx=>?_];constructor
  ·intro hx;rcases YaO.mp ((h x).mp (Yaj _ hx))with z|z
   ·subst z;exact(as _ _ (p1 x hx) (p1 x hx)).elim
   ·exact z
  ·intro hx;rcases YaO.mp ((h x).mpr (Yaj _ hx))with z|z
   ·subst z;exact(as _ _ (q1 x hx) (q1 x hx)).elim
   ·exact z
theorem joF (a b:Int)(h:a<b)(g:b<a):False:=by omega
theorem jn7 (a b:List Int)(h:Sl a b)(g:Sl b a):False:=by
 have:=jkj a b a h g;rw[jkk]at this;cases this
structure IsP (W:Nat)(es:List (Int×Int))(ps:List (List Int)):Prop where
 ne:∀p∈ps,p≠[]
 as:∀p∈ps,p.Pairwise (·< ·)
 bd:∀p∈ps,∀x∈p,0<=x/\x<W
 al:∀x:Int,0<=x->x<W->∃p∈ps,x∈p
 un:∀p∈ps,∀q∈ps,∀x,x∈p->x∈q->p=q
 nd:ps.Nodup
 ed:∀a b,(a,b)∈es->∃p∈ps,a∈p/\b∈p
 co:∀p∈ps,∀x∈p,∀y∈p,Con es x y
theorem IsP.part {W:Nat}{es:List (Int×Int)}{ps:List (List Int)}(h:IsP W es ps){p:List Int}(hp:p∈ps){x y:Int}(hx:x∈p)(g:Con es x y):y∈p:=by
 refine g.closed (S:=λz=>z∈p) (λa b ha e=>?_) hx;rcases e with e|e
 ·obtain⟨q,hq,h1,h2⟩:=h.ed a b e;rw[h.un p hp q hq a ha h1];exact h2
 ·obtain⟨q,hq,h1,h2⟩:=h.ed b a e;rw[h.un p hp q hq a ha h2];exact h1
theorem jjc {α:Type}{r:α->α->Prop}(tr:∀a b c,r a b->r b c->r a c):∀{l:List α},(∀i (h:i+1<l.length),r l[i] l[i+1])->l.Pairwise r
 |[],_=>.nil
 |[a],_=>Yeh _ _
 |a::b::l,h=>by
  have ih:=jjc tr (l:=b::l) λi hi=>h (i+1) (by simpa using hi)
  refine List.pairwise_cons.mpr ⟨λx hx=>?_,ih⟩;have h0:=h 0 (by simp)
  rcases YaO.mp hx with rfl|hx
  ·exact h0
  ·exact tr _ _ _ h0 ((List.pairwise_cons.mp ih).1 x hx)
theorem jgH {α:Type}(l:List α)(d:α){π:List Nat}(h:π.Perm (YaX l.length)):(π.map λi=>l.getD i d).Perm l:=by
 have:=h.map λi=>l.getD i d;have e:(YaX l.length).map (λi=>l.getD i d)=l:=by
  refine YfI (by simp) λi h1 h2=>?_
  simp[Ybg,h2]
 rw[e]at this;exact this
section
variable {G:Gp}{Q:K1}{a:Addr}
theorem jn5 {ns:List Int}(g:G a=some (.lst (ns.map .int)))(nd:ns.Nodup)(h64:ns.length<64)(q:∀zs:List Int,zs.Perm ns->zs.Pairwise (·< ·)->newO G (.lst (zs.map .int)) Q):jce [.loc a] G Q:=by
 unfold jce;dsimp only;rw[g];refine⟨ns.map λn=>[n],?_,by rw[Yac];exact Yau h64 (by decide),by rw[Yac,Yac],.inl ⟨ns,rfl,rfl⟩,λπ hp hs=>?_⟩
 ·exact List.pairwise_map.mpr (nd.imp λh z=>h (Yff z).1)
 ·rw[Yac]at hp hs;have hfl:∀i∈π,i<ns.length:=λi hi=>List.mem_range.mp (hp.mem_iff.mp hi);have pl:π.length=ns.length:=by rw[hp.length_eq,Ydg]
  have e:(π.map λi=>(ns.map U.int).getD i .non)=(π.map λi=>ns.getD i 0).map .int:=by
   rw[YaY];refine YeS λi hi=>?_;simp[Ybg,hfl i hi]
  rw[e];refine q _ (jgH ns 0 hp) (jjc (r:=λa b:Int=>a<b) (λ_ _ _ h g=>Int.lt_trans h g) λi hi=>?_);have hi:i+1<ns.length:=by simpa[pl]using hi
  have h1:i<π.length:=by omega
  have h2:i+1<π.length:=by omega
  have b1:=hfl _ (YbX h1);have b2:=hfl _ (YbX h2);have:=hs i hi;rw[show π.getD i 0=π[i] by simp[Ybg,h1],show π.getD (i+1) 0=π[i+1] by simp[Ybg,h2]]at this
  have k1:(ns.map λn=>[n]).getD π[i] []=[ns[π[i]]]:=by simp[Ybg,b1]
  have k2:(ns.map λn=>[n]).getD π[i+1] []=[ns[π[i+1]]]:=by simp[Ybg,b2]
  rw[k1,k2]at this;have l1:HT.lexLt [ns[π[i]]] [ns[π[i+1]]]=decide (ns[π[i]]<ns[π[i+1]]):=by
   rw[HT.lexLt_cons];split
   ·rename_i z;rw[z,HT.lexLt_nil_nil];simp
   ·rfl
  rw[l1]at this;simpa[Ybg,b1,b2]using of_decide_eq_true this
structure Ls (G:Gp)(p:Addr)(as:List Addr)(ks:List (List Int)):Prop where
 gp:G p=some (.lst (as.map .loc))
 l:as.length=ks.length
 ga:∀(i:Nat) a k,as[i]?=some a->ks[i]?=some k->G a=some (.lst (k.map .int))
end

theorem atM {α:Type}{f:α->U}{l:List α}{n:Nat}{a:α}(h:l[n]?=some a):atI (l.map f) (n:Int)=some (f a):=(jbD f l _).trans (congrArg _ (jdl h))
noncomputable def edg (ss:List Spn):List (Int×Int):=ss.map λs=>((s.o:Int),(s.t:Int))
theorem jiq {G:Gp}{a:Addr}{o:MO}(g:G a=some o):G=gup G a o:=by
 funext b;unfold gup;split
 ·rename_i z;rw[z];exact g
 ·rfl
theorem jax:∀(W:Nat) (l:List Int),l.Nodup->(∀x∈l,0<=x/\x<W)->l.length<=W
 |0,l,_,h=>by
  cases l with
  |nil=>exact Yag _
  |cons a l=>have:=h a (by simp);omega
 |W+1,l,nd,h=>by
  have ih:=jax W (l.erase (W:Int)) (nd.erase _) λx hx=>by
   obtain⟨h1,h2⟩:=nd.mem_erase_iff.mp hx;have:=h x h2;omega
  by_cases hm:(W:Int)∈l
  ·rw[List.length_erase_of_mem hm]at ih;omega
  ·rw[List.erase_of_not_mem hm]at ih;omega
abbrev Ent:=Nat×Int
noncomputable def eu (e:Ent):U:=.tup [.int e.1,.int e.2]
noncomputable def eS (ss:List Spn)(e:Ent):Int:=match ss[e.1]? with|some s=>if e.2=1 then s.o else s.t|none=>0
noncomputable def eD (ss:List Spn)(e:Ent):Int:=match ss[e.1]? with|some s=>if e.2=1 then s.t else s.o|none=>0
def EOk (ss:List Spn)(e:Ent):Prop:=e.1<ss.length/\(e.2=1\/e.2=-1)
noncomputable def trU (ss:List Spn)(e:Ent):U:=.tup [.int e.1,.int e.2,.int (eS ss e)]
section
variable {ss:List Spn}{s:Spn}{i:Nat}
theorem eS_1 (h:ss[i]?=some s):eS ss (i,1)=s.o:=by unfold eS;dsimp only;rw[h];rfl
theorem eS_m (h:ss[i]?=some s):eS ss (i,-1)=s.t:=by unfold eS;dsimp only;rw[h];rfl
theorem eD_1 (h:ss[i]?=some s):eD ss (i,1)=s.t:=by unfold eD;dsimp only;rw[h];rfl
theorem eD_m (h:ss[i]?=some s):eD ss (i,-1)=s.o:=by unfold eD;dsimp only;rw[h];rfl
theorem EOk.get {e:Ent}(h:EOk ss e):∃s,ss[e.1]?=some s/\((e=(e.1,1)/\eS ss e=s.o/\eD ss e=s.t)\/(e=(e.1,-1)/\eS ss e=s.t/\eD ss e=s.o)):=by
 obtain⟨j,w⟩:=e;refine⟨ss[j]'h.1,Yaa h.1,?_⟩;rcases h.2 with z|z
 ·have z:w=1:=z;subst z;exact .inl ⟨rfl,eS_1 (Yaa h.1),eD_1 (Yaa h.1)⟩
 ·have z:w=-1:=z;subst z;exact .inr ⟨rfl,eS_m (Yaa h.1),eD_m (Yaa h.1)⟩
theorem EOk.adj {e:Ent}(h:EOk ss e):(eS ss e,eD ss e)∈edg ss\/(eD ss e,eS ss e)∈edg ss:=by
 obtain⟨s,hs,z⟩:=h.get;have hm:((s.o:Int),(s.t:Int))∈edg ss:=List.mem_map.mpr ⟨s,Yam hs,rfl⟩;rcases z with⟨_,h1,h2⟩|⟨_,h1,h2⟩
 ·rw[h1,h2];exact .inl hm
 ·rw[h1,h2];exact .inr hm
end
section
variable {k:Nat}{G:Gp}{Q:K1}{X:KX}{xs:List Str}{ss:List Spn}{W:Nat}
theorem jgb {w:Nat}(sl:ss.length<=24)(q:∀(p:Addr) (tr:List Ent) (G':Gp),Sa G G'->G p=none->G' p=some (.lst (tr.map (trU ss)))->tr.length<=48->(∀e∈tr,EOk ss e/\eD ss e=w)->
  (∀j s,ss[j]?=some s->(s.t=w->(j,1)∈tr)/\(s.o=w->(j,-1)∈tr))->Q (.loc p) G'):jaa T (k+1) jcv [jae xs ss,.int w] G Q X:=by
 refine⟨rfl,?_⟩;simp! only[jcD,jad,Yae];refine⟨by decide,λp G1 n1=>?_⟩
 simp! only[jae,ix_t (jat _ _ _)];refine jaB (λi ς G'=>∃(tr:List Ent) (o3 o4 o5 o6 o7 o8:Option U),ς=[some (jae xs ss),some (.int w),some (.loc p),o3,o4,o5,o6,o7,o8]/\G'=gup G1 p (.lst (tr.map (trU ss)))/\tr.length<=2*i/\(∀e∈tr,EOk ss e/\eD ss e=w)/\∀j s,j<i->ss[j]?=some s->(s.t=w->(j,1)∈tr)/\(s.o=w->(j,-1)∈tr)) ?_ ?_ ⟨[],_,_,_,_,_,_,rfl,jiq n1.at,Yag _,λ_ h=>(nomatch h),λj s h=>by omega⟩
 ·rintro ς G2 ⟨tr,o3,o4,o5,o6,o7,o8,rfl,rfl,hl,he,hz⟩;rw[jb0,Yac]at hl hz;refine⟨trivial,?_⟩;simp! only[];refine q p tr _ (λb o hb=>?_) n1.no jaf (by omega) he λj s e=>hz j s (List.getElem?_eq_some_iff.mp e).1 e
  rw[jbc (λz=>by rw[z,n1.no]at hb;cases hb)]
  exact n1.sa _ _ hb
 ·rintro i x ς G2 K hx ⟨tr,o3,o4,o5,o6,o7,o8,rfl,rfl,hl,he,hz⟩ hk;obtain⟨u,hu,rfl⟩:=jb1 hx;rw[Yan]at hu;cases es:ss[i]? with
  |none=>rw[es]at hu;cases hu
  |some s=>
   rw[es]at hu;have hu:=(Yar hu).symm;subst hu;have il:i<ss.length:=(List.getElem?_eq_some_iff.mp es).1;refine⟨trivial,?_⟩;simp! only[Spn.u,jaZ jaf,jcI jaf,jbi,jbC];refine⟨trivial,trivial,?_⟩;have second:∀tr':List Ent,tr'.length<=2*i+1->(∀e∈tr',EOk ss e/\eD ss e=w)->(∀e∈tr,e∈tr')->(s.t=w->(i,1)∈tr')->(if decide ((s.o:Int)=(w:Int))=true then
     0+1+1+1<=Yah/\(match mtU .append (.loc p) (gup G1 p (.lst (tr'.map (trU ss))))with
      |some _=>jaU .append (.loc p) [U.tup [.int ((0+i:Nat):Int),.int (-1),.int s.t]] (gup G1 p (.lst (tr'.map (trU ss)))) λ_ G'=>K [some (jae xs ss),some (.int w),some (.loc p),some (.int ((0+i:Nat):Int)),some (.str s.w),some (.int s.o),some (.int s.t),some (.int s.lo),some (.int s.hi)] G'
      |none=>False)
     else K [some (jae xs ss),some (.int w),some (.loc p),some (.int ((0+i:Nat):Int)),some (.str s.w),some (.int s.o),some (.int s.t),some (.int s.lo),some (.int s.hi)] (gup G1 p (.lst (tr'.map (trU ss))))):=λtr' hl' he' hs' ht'=>by
    by_cases c:s.o=w
    ·rw[if_pos (by simp;omega),jaZ jaf,jcI jaf,jbi,jbC]
     refine⟨by decide,by rw[Yac];exact YaL (show tr'.length<=48 by omega) (by decide),hk _ _ ⟨tr'++[(i,-1)],_,_,_,_,_,_,rfl,by rw[YaJ];simp[trU,eS_m es],by simp;omega,λe h=>?_,λj s' hj ej=>?_⟩⟩
     ·rcases List.mem_append.mp h with h|h
      ·exact he' e h
      ·rw[List.mem_singleton.mp h,eD_m es];exact⟨⟨il,.inr rfl⟩,by omega⟩
     ·by_cases e:j=i
      ·subst e;rw[es]at ej;cases ej;exact⟨λh=>Yaw _ (ht' h),λ_=>Yas _ (List.mem_singleton.mpr rfl)⟩
      ·have:=hz j s' (by omega) ej
       exact⟨λh=>Yaw _ (hs' _ (this.1 h)),λh=>Yaw _ (hs' _ (this.2 h))⟩
    ·rw[if_neg (by simp;omega)]
     refine hk _ _ ⟨tr',_,_,_,_,_,_,rfl,rfl,by omega,he',λj s' hj ej=>?_⟩
     by_cases e:j=i
     ·subst e;rw[es]at ej;cases ej;exact⟨ht',λh=>absurd h c⟩
     ·have:=hz j s' (by omega) ej
      exact⟨λh=>hs' _ (this.1 h),λh=>hs' _ (this.2 h)⟩
   by_cases c:s.t=w
   ·rw[if_pos (by simp;omega)]
    refine⟨by decide,by rw[Yac];exact YaL (show tr.length<=48 by omega) (by decide),?_⟩
    have:=second (tr++[(i,1)]) (by simp;omega) (λe h=>by
     rcases List.mem_append.mp h with h|h
     ·exact he e h
     ·rw[List.mem_singleton.mp h,eD_1 es];exact⟨⟨il,.inl rfl⟩,by omega⟩) (λe h=>Yaw _ h) λ_=>Yas _ (List.mem_singleton.mpr rfl)
    rw[jaZ jaf,jcI jaf,jbi,jbC,YaJ]at this;simp only[YaB,YcS,trU,eS_1 es]at this ⊢;simpa using this
   ·rw[if_neg (by simp;omega)]
    have:=second tr (by omega) he (λ_ h=>h) λh=>absurd h c
    rw[jaZ jaf,jcI jaf,jbi,jbC]at this;exact this
end

theorem jlp {a:Addr}{kvs:List (Key×U)}{z:Int}{v:U}{G:Gp}{Q:Gp->Prop}(g:G a=some (.dK kvs)):setU (.loc a) (.int z) v G Q=(kvs.length<Yah/\putO G a (.dK (dPut kvs (.inl z) v)) Q):=by unfold setU;dsimp only;rw[g];rfl
theorem jes (z:Int)(l:List Int):((l.map U.int).any λy=>eqF y (.int z))=decide (z∈l):=by
 rw[Yb1,List.any_eq_true,decide_eq_true_eq];constructor
 ·rintro⟨y,hy,e⟩;obtain⟨x,hx,rfl⟩:=List.mem_map.mp hy;have:x=z:=by simpa[eqF]using e
  rw[<- this];exact hx
 ·intro h;exact⟨.int z,List.mem_map.mpr ⟨z,h,rfl⟩,by simp[eqF]⟩
theorem jbY (l:List Int):(l.map U.int).all flat=true:=by simp[flat]
structure Rch (W:Nat)(es:List (Int×Int))(w:Nat)(rs:List Int):Prop where
 nd:((w:Int)::rs).Nodup
 bd:∀x∈(w:Int)::rs,0<=x/\x<W
 co:∀x∈(w:Int)::rs,Con es w x
noncomputable def fkv (fs:List (Int×Ent)):List (Key×U):=fs.map λf=>(Sum.inl f.1,eu f.2)
noncomputable def fky (fs:List (Int×Ent)):List Int:=fs.map (·.1)
structure Fst (W:Nat)(ss:List Spn)(w:Nat)(fs:List (Int×Ent)):Prop where
 nd:((w:Int)::fky fs).Nodup
 bd:∀x∈(w:Int)::fky fs,0<=x/\x<W
 en:∀j f,fs[j]?=some f->EOk ss f.2/\eS ss f.2=f.1/\eD ss f.2∈(w:Int)::fky (fs.take j)
section
variable {W:Nat}{ss:List Spn}{w:Nat}{fs:List (Int×Ent)}
theorem jbZ {j:Nat}{x:Int}(h:x∈fky (fs.take j)):∃i f,i<j/\fs[i]?=some f/\f.1=x:=by
 obtain⟨f,hf,rfl⟩:=List.mem_map.mp h;obtain⟨i,hi,e⟩:=YaE hf;rw[YbW]at hi;refine⟨i,f,by omega,?_,rfl⟩
 rw[<- e,Yfs];exact Yaa (by omega)
theorem jda {j:Nat}{f:Int×Ent}(h:fs[j]?=some f):f.1∈fky fs:=List.mem_map.mpr ⟨f,Yam h,rfl⟩
theorem jhl {j:Nat}{x:Int}(h:x∈(w:Int)::fky (fs.take j)):x∈(w:Int)::fky fs:=by
 rcases YaO.mp h with z|z
 ·rw[z];simp
 ·obtain⟨i,f,_,e,rfl⟩:=jbZ z;exact Yaj _ (jda e)
theorem Fst.con (h:Fst W ss w fs):∀(n j:Nat) (f:Int×Ent),j<n->fs[j]?=some f->Con (edg ss) w f.1
 |0,_,_,hj,_=>by omega
 |n+1,j,f,hj,e=>by
  obtain⟨e1,e2,e3⟩:=h.en j f e;have:Con (edg ss) w (eD ss f.2):=by
   rcases YaO.mp e3 with z|z
   ·rw[z];exact .refl _
   ·obtain⟨i,g,hi,ei,eg⟩:=jbZ z;rw[<- eg];exact h.con n i g (by omega) ei
  rw[<- e2];exact .step this (Or.symm e1.adj)
theorem Fst.rch (h:Fst W ss w fs):Rch W (edg ss) w (fky fs):=⟨h.nd,h.bd,λx hx=>by
 rcases YaO.mp hx with z|z
 ·rw[z];exact .refl _
 ·obtain⟨f,hf,rfl⟩:=List.mem_map.mp z;obtain⟨j,hj,e⟩:=YaE hf;exact h.con (j+1) j f (by omega) (by rw[Yaa hj,e])⟩
theorem Fst.add (h:Fst W ss w fs){e:Ent}(he:EOk ss e)(hd:eD ss e∈(w:Int)::fky fs)(hs:0<=eS ss e/\eS ss e<W)(hn:eS ss e∉(w:Int)::fky fs):Fst W ss w (fs++[(eS ss e,e)]):=by
 have ek:(w:Int)::fky (fs++[(eS ss e,e)])=((w:Int)::fky fs)++[eS ss e]:=by simp[fky]
 refine⟨?_,λx hx=>?_,λj f ej=>?_⟩
 ·rw[ek];refine List.nodup_append.mpr ⟨h.nd,by simp,λa ha b hb=>?_⟩
  rw[List.mem_singleton.mp hb];exact λz=>hn (z ▸ ha)
 ·rw[ek]at hx;rcases List.mem_append.mp hx with z|z
  ·exact h.bd x z
  ·rw[List.mem_singleton.mp z];exact hs
 ·by_cases hj:j<fs.length
  ·rw[YaT hj]at ej;rw[Ydx (by omega)]
   exact h.en j f ej
  ·have hl:=(List.getElem?_eq_some_iff.mp ej).1;rw[YaQ,YcT]at hl;have:j=fs.length:=by omega
   subst this;rw[YbO (Yag _),YeI]at ej;cases ej;refine⟨he,rfl,?_⟩;rw[Ydx (Yag _),YaP];exact hd
theorem jkJ (hw:w<W):Fst W ss w []:=⟨by simp[fky],λx hx=>by rw[show((w:Int)::fky [])=[(w:Int)]from rfl]at hx;rw[List.mem_singleton.mp hx];omega,λj f e=>by simp at e⟩
theorem jjE {kvs:List (Key×U)}{z:Int}{v:U}(hn:∀kv∈kvs,kv.1≠Sum.inl z):dPut kvs (.inl z) v=kvs++[(.inl z,v)]:=by
 unfold dPut;rw[if_neg λh'=>?_];obtain⟨kv,hkv,e⟩:=List.any_eq_true.mp h';exact hn kv hkv (of_decide_eq_true e)
end
section
variable {k:Nat}{G:Gp}{Q:K1}{X:KX}{xs:List Str}{ss:List Spn}{W:Nat}
theorem jmS {W:Nat}(so:∀s∈ss,s.Ok W):∀a b,(a,b)∈edg ss->(0<=a/\a<W)/\0<=b/\b<W:=λa b h=>by
 obtain⟨s,hs,e⟩:=List.mem_map.mp h;have o:=so s hs;have o1:=o.o;have o2:=o.t;obtain⟨e1,e2⟩:=Ydq e;omega
def Clo (ss:List Spn)(w:Nat)(rs:List Int):Prop:=∀x y,x∈(w:Int)::rs->((x,y)∈edg ss\/(y,x)∈edg ss)->y∈(w:Int)::rs
theorem jds {w:Nat}{r:U}(so:∀s∈ss,s.Ok W)(sl:ss.length<=24)(hw:w<W)(w8:W<=8)(hr:∀G1,Sa G G1->∀k:List U->Prop,k [.int w]->itU r G1 λxs _=>k xs)
  (q:∀(pf:Addr) (fs:List (Int×Ent)) (G':Gp),Sa G G'->G pf=none->G' pf=some (.dK (fkv fs))->Fst W ss w fs->Clo ss w (fky fs)->Q (.loc pf) G') :
  jaa T (k+2) jaR [jae xs ss,r] G Q X:=by
 refine⟨rfl,?_⟩;simp! only[jb6,jad,Yae];refine⟨by decide,λpf G1 n1=>?_⟩
 simp! only[];refine hr G1 n1.sa _ ?_;intro pr G2 n2;simp! only[jbg];have hfr:pf≠pr:=Ne.symm (jbA n1.at n2.no);have frame:∀{Ga Gb:Gp} {p:Addr} {o:MO},(p=pf\/p=pr)->Sa G Ga->Put Ga p o Gb->Sa G Gb:=λ{Ga Gb p o} hp s w b u e=>w.sm _ _ (λz=>by
  rcases hp with rfl|rfl
  ·rw[z,n1.no]at e;cases e
  ·rw[z]at e;have:=n1.sa _ _ e;rw[n2.no]at this;cases this) (s b u e)
 rw[S_wh];refine⟨λn ς G'=>∃(fs:List (Int×Ent)) (i:Nat) (o5 o6 o7:Option U),ς=[some (jae xs ss),some r,some (.loc pf),some (.loc pr),some (.int i),o5,o6,o7]/\n=W-i/\Sa G G'/\G' pf=some (.dK (fkv fs))/\G' pr=some (.lst (((w:Int)::fky fs).map .int))/\Fst W ss w fs/\i<=fs.length+1/\
   ∀j x y,j<i->((w:Int)::fky fs)[j]?=some x->((x,y)∈edg ss\/(y,x)∈edg ss)->y∈(w:Int)::fky fs,⟨_,[],0,_,_,_,rfl,rfl,n1.sa.trans n2.sa,n2.sa _ _ n1.at,n2.at,jkJ hw,by simp,λj x y h=>by omega⟩,?_⟩
 rintro n ς G3 ⟨fs,i,o5,o6,o7,rfl,rfl,s3,gf,gr,rc,il,cl⟩;have rl:=jax W _ rc.nd rc.bd;simp only[fky,Yaz,Yac]at rl;have kl:(fky fs).length=fs.length:=Yac _;simp! only[jgd gr,Yac,Yaz,kl];by_cases c:(i:Int)<((fs.length+1:Nat):Int)
 ·rw[if_pos (by simpa using c)]
  have hi:i<((w:Int)::fky fs).length:=by rw[Yaz,kl];omega
  obtain⟨x,hx⟩:∃x,((w:Int)::fky fs)[i]?=some x:=⟨_,Yaa hi⟩;have bx:=rc.bd x (Yam hx);obtain⟨xn,rfl⟩:=Ya0 bx.1;rw[ix_l gr (show atI (((w:Int)::fky fs).map U.int) (i:Int)=some (.int (xn:Int))from atM hx)];refine jgb sl λpe tr G4 s4 ne g4 tl te tm=>?_;rw[it_l g4];have hpe1:pe≠pf:=λz=>by rw[z,gf]at ne;cases ne
  have hpe2:pe≠pr:=λz=>by rw[z,gr]at ne;cases ne
  refine jaB (λj ς G'=>∃(fs':List (Int×Ent)) (o5 o6 o7:Option U),ς=[some (jae xs ss),some r,some (.loc pf),some (.loc pr),some (.int i),o5,o6,o7]/\Sa G G'/\G' pe=some (.lst (tr.map (trU ss)))/\G' pf=some (.dK (fkv fs'))/\G' pr=some (.lst (((w:Int)::fky fs').map .int))/\Fst W ss w fs'/\(∃ext,fs'=fs++ext)/\∀e∈tr.take j,eS ss e∈(w:Int)::fky fs')
   ?_ ?_ ⟨fs,_,_,_,rfl,s3.trans s4,g4,s4 _ _ gf,s4 _ _ gr,rc,⟨[],by simp⟩,λe he=>by simp at he⟩
  ·rintro ς G5 ⟨fs',o5,o6,o7,rfl,s5,ge,gf',gr',rc',⟨ext,hext⟩,hm⟩;rw[Yac,YaP]at hm;refine⟨by unfold lsG;rw[ge],?_⟩
   simp! only[];have ll:fs'.length=fs.length+ext.length:=by rw[hext,YaQ]
   refine⟨W-(i+1),by omega,fs',i+1,_,_,_,rfl,rfl,s5,gf',gr',rc',by omega,λj x' y hj hx' e=>?_⟩
   have pre:((w:Int)::fky fs')[j]?=((w:Int)::fky fs)[j]?:=by
    rw[hext,show((w:Int)::fky (fs++ext))=((w:Int)::fky fs)++fky ext by simp[fky],YaT (by rw[Yaz,kl];omega)]
   rw[pre]at hx';have up:∀z,z∈(w:Int)::fky fs->z∈(w:Int)::fky fs':=λz hz=>by
    rw[hext,show((w:Int)::fky (fs++ext))=((w:Int)::fky fs)++fky ext by simp[fky]]
    exact Yaw _ hz
   by_cases ej:j=i
   ·subst ej;rw[hx]at hx';cases hx';rcases e with e|e
    ·obtain⟨s,hs,es⟩:=List.mem_map.mp e;obtain⟨e1,e2⟩:=Ydq es;obtain⟨jj,hjj,ejj⟩:=YaE hs;have hg:ss[jj]?=some s:=by rw[Yaa hjj,ejj]
     have:=hm _ ((tm jj s hg).2 (by omega))
     rw[eS_m hg,e2]at this;exact this
    ·obtain⟨s,hs,es⟩:=List.mem_map.mp e;obtain⟨e1,e2⟩:=Ydq es;obtain⟨jj,hjj,ejj⟩:=YaE hs;have hg:ss[jj]?=some s:=by rw[Yaa hjj,ejj]
     have:=hm _ ((tm jj s hg).1 (by omega))
     rw[eS_1 hg,e1]at this;exact this
   ·exact up _ (cl j x' y (by omega) hx' e)
  ·rintro j u ς G5 K hu ⟨fs',o5,o6,o7,rfl,s5,ge,gf',gr',rc',⟨ext,hext⟩,hm⟩ hk2;rw[Yan]at hu;cases et:tr[j]? with
   |none=>rw[et]at hu;cases hu
   |some e=>
    rw[et]at hu;have hu:=(Yar hu).symm;subst hu;refine⟨by unfold lsG;rw[ge],?_⟩
    obtain⟨oe,ed⟩:=te e (Yam et);have rl':=jax W _ rc'.nd rc'.bd;simp only[fky,Yaz,Yac]at rl';have hx':(xn:Int)∈(w:Int)::fky fs':=by
     rw[hext,show((w:Int)::fky (fs++ext))=((w:Int)::fky fs)++fky ext by simp[fky]]
     exact Yaw _ (Yam hx)
    simp! only[trU];refine⟨trivial,in_l gr' rfl (jbY _) ?_⟩;rw[jes];by_cases cz:eS ss e∈(w:Int)::fky fs'
    ·rw[if_neg (by rw[decide_eq_true cz];decide)]
     refine hk2 _ _ ⟨fs',_,_,_,rfl,s5,ge,gf',gr',rc',⟨ext,hext⟩,λe' he'=>?_⟩;rw[Ya5,et]at he';rcases List.mem_append.mp he' with z|z
     ·exact hm e' z
     ·rw[List.mem_singleton.mp z];exact cz
    ·rw[if_pos (by rw[decide_eq_false cz];decide),jlp gf']
     have fl:(fkv fs').length=fs'.length:=Yac _;refine⟨by decide,by rw[fl];exact YaL (show fs'.length<=8 by omega) (by decide),λG6 p6=>?_⟩
     have gr6:=p6.sm _ _ (Ne.symm hfr) gr';simp! only[jaZ gr6,jcI gr6];refine⟨YaL (show _<=9 by simp[fky];omega) (by decide),λG7 p7=>?_⟩
     have bz:0<=eS ss e/\eS ss e<(W:Int):=by
      rcases oe.adj with z|z
      ·exact(jmS so _ _ z).1
      ·exact(jmS so _ _ z).2
     have pn:dPut (fkv fs') (.inl (eS ss e)) (.tup [.int e.1,.int e.2])=fkv (fs'++[(eS ss e,e)]):=by
      rw[jjE λkv hkv z=>?_]
      ·simp[fkv,eu]
      ·obtain⟨f,hf,rfl⟩:=List.mem_map.mp hkv;have z:=Sum.inl.inj z;exact cz (Yaj _ (List.mem_map.mpr ⟨f,hf,z⟩))
     rw[pn]at p6;refine hk2 _ _ ⟨fs'++[(eS ss e,e)],_,_,_,rfl,frame (.inr rfl) (frame (.inl rfl) s5 p6) p7,p7.sm _ _ hpe2 (p6.sm _ _ hpe1 ge),p7.sm _ _ hfr p6.at,?_,rc'.add oe (by rw[ed];exact hx') bz cz,⟨ext++[(eS ss e,e)],by rw[hext,Ydj]⟩,λe' he'=>?_⟩
     ·have:=p7.at
      rw[this];simp[fky]
     ·rw[Ya5,et]at he';rw[show((w:Int)::fky (fs'++[(eS ss e,e)]))=((w:Int)::fky fs')++[eS ss e] by simp[fky]]
      rcases List.mem_append.mp he' with z|z
      ·exact Yaw _ (hm e' z)
      ·rw[List.mem_singleton.mp z];exact Yas _ (List.mem_singleton.mpr rfl)
 ·rw[if_neg (by simpa using c)]
  refine q pf fs G3 s3 n1.no gf rc λx y hx e=>?_;obtain⟨j,hj,ej⟩:=YaE hx;refine cl j x y ?_ (by rw[Yaa hj,ej]) e
  rw[Yaz,kl]at hj;omega
theorem jgU {w:Nat}{pr0:Addr}(so:∀s∈ss,s.Ok W)(sl:ss.length<=24)(hw:w<W)(w8:W<=8)(g0:G pr0=some (.lst [.int w]))
  (q:∀(pf:Addr) (kvs:List (Key×U)) (rs:List Int) (G':Gp),Sa G G'->G' pf=some (.dK kvs)->kvs.map (·.1)=rs.map (λx=>(Sum.inl x:Key))->Rch W (edg ss) w rs->(∀x y,x∈(w:Int)::rs->((x,y)∈edg ss\/(y,x)∈edg ss)->y∈(w:Int)::rs)->Q (.loc pf) G') :
  jaa T (k+2) jaR [jae xs ss,.loc pr0] G Q X:=
 jds so sl hw w8 (λG1 s1 k h=>by rw[it_l (s1 _ _ g0)];exact h) λpf fs G' s' _ g' f' c'=>q pf (fkv fs) (fky fs) G' s' g' (by simp[fkv,fky]) f'.rch c'
end

theorem jmm {a:Addr}{xs:List U}{G:Gp}(g:G a=some (.lst xs)):mtU .extend (.loc a) G=some ("list", "list.extend"):=by unfold mtU;dsimp only;rw[g]
theorem joQ {a b:Addr}{xs ys:List U}{G:Gp}{Q:K1}(g:G a=some (.lst xs))(g':G b=some (.lst ys)):jaU .extend (.loc a) [.loc b] G Q=(xs.length+ys.length<=Yah/\putO G a (.lst (xs++ys)) (Q .non)):=by unfold jaU je2;dsimp only;rw[g,g']
theorem joC {a:Addr}{kvs:List (Key×U)}{ns:List Int}{G:Gp}{Q:K1}(g:G a=some (.dK kvs))(h:kvs.map (·.1)=ns.map (λz=>(Sum.inl z:Key)))(q:newO G (.lst (ns.map .int)) Q):mkDU (.loc a) G Q:=by unfold mkDU;dsimp only;rw[g];exact⟨ns,h,q⟩
noncomputable def jgI (ps:List (List Int)):U:=.tup (ps.map jaW)
structure Pp (W:Nat)(es:List (Int×Int))(i:Nat)(ps:List (List Int))(pl:List Int):Prop where
 hd:∀p∈ps,∃h r,p=h::r/\h<(i:Int)
 as:∀p∈ps,p.Pairwise (·< ·)
 bd:∀p∈ps,∀x∈p,0<=x/\x<W
 co:∀p∈ps,∀x∈p,∀y∈p,Con es x y
 cl:∀p∈ps,∀x∈p,∀y,Con es x y->y∈p
 so:ps.Pairwise Sl
 me:∀x,x∈pl↔∃p∈ps,x∈p
 up:∀x:Int,0<=x->x<i->x∈pl
 l1:ps.length<=i
 l2:pl.length<=8*i
section
variable {W:Nat}{es:List (Int×Int)}
theorem Pp.nil:Pp W es 0 [] []:=⟨λ_ h=>(nomatch h),λ_ h=>(nomatch h),λ_ h=>(nomatch h),λ_ h=>(nomatch h),λ_ h=>(nomatch h),.nil,λx=>by simp,λx h1 h2=>by omega,Yag _,Yag _⟩
section
variable {i:Nat}{ps:List (List Int)}{pl:List Int}
theorem Pp.skip (h:Pp W es i ps pl)(hi:(i:Int)∈pl):Pp W es (i+1) ps pl:=by
 refine⟨λp hp=>?_,h.as,h.bd,h.co,h.cl,h.so,h.me,λx h1 h2=>?_,by have:=h.l1;omega,by have:=h.l2;omega⟩
 ·obtain⟨a,r,e,l⟩:=h.hd p hp;exact⟨a,r,e,by omega⟩
 ·by_cases e:x=i
  ·rw[e];exact hi
  ·exact h.up x h1 (by omega)
theorem Pp.add (h:Pp W es i ps pl)(hi:(i:Int)∉pl)(w8:W<=8){rs zs:List Int}(rc:Rch W es i rs)(cl:∀x y,x∈(i:Int)::rs->((x,y)∈es\/(y,x)∈es)->y∈(i:Int)::rs)
  (hp:zs.Perm ((i:Int)::rs)) (hs:zs.Pairwise (·< ·)):Pp W es (i+1) (ps++[zs]) (pl++zs):=by
 have mz:∀y,y∈zs↔y∈(i:Int)::rs:=λy=>hp.mem_iff;have zc:∀x∈zs,∀y,Con es x y->y∈zs:=λx hx y g=>(mz y).mpr (g.closed (S:=λz=>z∈(i:Int)::rs) (λa b ha e=>cl a b ha e) ((mz x).mp hx));have iz:(i:Int)∈zs:=(mz _).mpr (by simp)
 have low:∀y∈zs,(i:Int)<=y:=λy hy=>by
  by_cases c:(i:Int)<=y
  ·exact c
  ·have by0:=rc.bd y ((mz y).mp hy);obtain⟨p,hp',hyp⟩:=(h.me y).mp (h.up y by0.1 (by omega))
   exact absurd ((h.me _).mpr ⟨p,hp',h.cl p hp' y hyp i (rc.co y ((mz y).mp hy)).symm⟩) hi
 obtain⟨r,ez⟩:∃r,zs=(i:Int)::r:=by
  cases zs with
  |nil=>cases iz
  |cons a r=>
   refine⟨r,?_⟩;rcases YaO.mp iz with z|z
   ·rw[z]
   ·have:=(List.pairwise_cons.mp hs).1 _ z;have:=low a (by simp)
    omega
 have lz:zs.length<=8:=by
  rw[hp.length_eq];exact Yal (jax W _ rc.nd rc.bd) w8
 have one:∀{P:List Int->Prop},(∀p∈ps,P p)->P zs->∀p∈ps++[zs],P p:=λ{P} h1 h2 p hp=>by
  rcases List.mem_append.mp hp with z|z
  ·exact h1 p z
  ·rw[List.mem_singleton.mp z];exact h2
 refine⟨one (λp hp=>?_) ⟨_,r,ez,by omega⟩,one h.as hs,one h.bd λx hx=>rc.bd x ((mz x).mp hx),one h.co λx hx y hy=>(rc.co x ((mz x).mp hx)).symm.trans (rc.co y ((mz y).mp hy)),one h.cl zc,?_,λx=>?_,λx h1 h2=>?_,by have:=h.l1;simp;omega,by have:=h.l2;simp;omega⟩
 ·obtain⟨a,r,e,l⟩:=h.hd p hp;exact⟨a,r,e,by omega⟩
 ·refine List.pairwise_append.mpr ⟨h.so,Yeh _ _,λp hp z hz=>?_⟩;rw[List.mem_singleton.mp hz,ez];obtain⟨a,r',e,l⟩:=h.hd p hp;rw[e];show HT.lexLt _ _=true;rw[HT.lexLt_cons,if_neg (by omega)]
  exact decide_eq_true l
 ·rw[List.mem_append,h.me x];constructor
  ·rintro(⟨p,hp,hx⟩|hx)
   ·exact⟨p,Yaw _ hp,hx⟩
   ·exact⟨zs,Yas _ (List.mem_singleton.mpr rfl),hx⟩
  ·rintro⟨p,hp,hx⟩;rcases List.mem_append.mp hp with z|z
   ·exact .inl ⟨p,z,hx⟩
   ·rw[List.mem_singleton.mp z]at hx;exact .inr hx
 ·by_cases e:x=i
  ·rw[e];exact Yas _ iz
  ·exact Yaw _ (h.up x h1 (by omega))
end
theorem Pp.isP {ps:List (List Int)}{pl:List Int}(h:Pp W es W ps pl)(ebd:∀a b,(a,b)∈es->0<=a/\a<W):IsP W es ps:=by
 refine⟨λp hp=>?_,h.as,h.bd,λx h1 h2=>(h.me x).mp (h.up x h1 h2),λp hp q hq x h1 h2=>?_,?_,λa b e=>?_,h.co⟩
 ·obtain⟨a,r,e,_⟩:=h.hd p hp;rw[e];simp
 ·exact pw_ext joF (h.as p hp) (h.as q hq) λy=>⟨λhy=>h.cl q hq x h2 y (h.co p hp x h1 y hy),λhy=>h.cl p hp x h1 y (h.co q hq x h2 y hy)⟩
 ·exact h.so.imp λ{a b} g e=>by rw[e]at g;exact jn7 _ _ g g
 ·have b0:=ebd a b e;obtain⟨p,hp,ha⟩:=(h.me a).mp (h.up a b0.1 b0.2);exact⟨p,hp,ha,h.cl p hp a ha b (Con.one (.inl e))⟩
end
section
variable {k:Nat}{G:Gp}{Q:K1}{X:KX}{xs:List Str}{ss:List Spn}
theorem jmT {W:Nat}(so:∀s∈ss,s.Ok W):∀a b,(a,b)∈edg ss->(0<=a/\a<W)/\0<=b/\b<W:=λa b h=>by
 obtain⟨s,hs,e⟩:=List.mem_map.mp h;have o:=so s hs;have o1:=o.o;have o2:=o.t;obtain⟨e1,e2⟩:=Ydq e;omega
theorem jcY (so:∀s∈ss,s.Ok xs.length)(sl:ss.length<=24)(w8:xs.length<=8)(q:∀(ps:List (List Int)) (G':Gp),IsP xs.length (edg ss) ps->ps.Pairwise Sl->ps.length<=8->Sa G G'->Q (jgI ps) G'):jaa T (k+3) jci [jae xs ss] G Q X:=by
 refine⟨rfl,?_⟩;simp! only[jdA,jad,Yae];refine⟨by decide,λpp G1 n1=>?_⟩
 simp! only[];refine⟨by decide,λpl G2 n2=>?_⟩
 have hne:pl≠pp:=jbA n1.at n2.no;have frame:∀{Ga Gb:Gp} {p:Addr} {o:MO},(p=pp\/p=pl)->Sa G Ga->Put Ga p o Gb->Sa G Gb:=λ{Ga Gb p o} hp s w b u e=>w.sm _ _ (λz=>by
  rcases hp with rfl|rfl
  ·rw[z,n1.no]at e;cases e
  ·rw[z]at e;have:=n1.sa _ _ e;rw[n2.no]at this;cases this) (s b u e)
 simp! only[jck,jae,ix_t (jaV _ _),Yac];refine⟨by omega,by omega,?_⟩
 refine jaB (λi ς G'=>∃(ps:List (List Int)) (ls:List Int) (o3 o4:Option U),ς=[some (jae xs ss),some (.loc pp),some (.loc pl),o3,o4]/\Sa G G'/\G' pp=some (.lst (ps.map jaW))/\G' pl=some (.lst (ls.map .int))/\Pp xs.length (edg ss) i ps ls) ?_ ?_ ⟨[],[],_,_,rfl,n1.sa.trans n2.sa,n2.sa _ _ n1.at,n2.at,Pp.nil⟩
 ·rintro ς G3 ⟨ps,ls,o3,o4,rfl,s3,gp,gl,h⟩;rw[jaz]at h;refine⟨trivial,?_⟩;simp! only[it_l gp];exact q ps _ (h.isP λa b e=>(jmT so a b e).1) h.so (by have:=h.l1;omega) s3
 ·rintro i x ς G3 K hx ⟨ps,ls,o3,o4,rfl,s3,gp,gl,h⟩ hk;obtain⟨hi,rfl⟩:=ja0 hx;refine⟨trivial,?_⟩;simp! only[];refine in_l gl rfl (jbY _) ?_;rw[jes];by_cases c:(i:Int)∈ls
  ·rw[if_neg (by rw[decide_eq_true c];decide)]
   exact hk _ _ ⟨ps,ls,_,_,rfl,s3,gp,gl,h.skip c⟩
  ·rw[if_pos (by rw[decide_eq_false c];decide)]
   refine⟨by decide,λp4 G4 n4=>⟨by decide,λp5 G5 n5=>?_⟩⟩
   refine jgU so sl hi w8 n5.at λpf kvs rs G6 s6 gf hkv rc cl=>?_;refine joC gf hkv λp7 G7 n7=>?_;have g4:=n7.sa _ _ (s6 _ _ (n5.sa _ _ n4.at));have rl:=jax _ _ rc.nd rc.bd;simp only[Yaz]at rl;refine⟨_,_,g4,n7.at,Yal (show _<=9 by simp;omega) (by decide),λp8 G8 n8=>?_⟩
   have e8:[U.int (i:Int)]++rs.map .int=((i:Int)::rs).map .int:=rfl;rw[e8]at n8;simp! only[];refine jn5 n8.at rc.nd (by simp;omega) λzs hp hs p9 G9 n9=>?_
   have s8:Sa G3 G8:=(((n4.sa.trans n5.sa).trans s6).trans n7.sa).trans n8.sa;have s9:Sa G3 G9:=s8.trans n9.sa;have q1:p9≠pl:=jbA (s8 _ _ gl) n9.no;have q2:p9≠pp:=jbA (s8 _ _ gp) n9.no;have gp9:=s9 _ _ gp;have gl9:=s9 _ _ gl;have h':=h.add c w8 rc cl hp hs;have lz:zs.length<=8:=by rw[hp.length_eq];simp;omega
   have l2:=h.l2;have l1:=h.l1;simp! only[jmm gl9,joQ gl9 n9.at];refine⟨Yal (show _<=100 by simp;omega) (by decide),λGa pa=>?_⟩
   have gpa:=pa.sm _ _ (Ne.symm hne) gp9;have g9a:=pa.sm _ _ q1 n9.at
   simp! only[jaZ gpa,it_l g9a,jcI gpa];refine⟨by rw[Yac];exact YaL (show ps.length<=8 by omega) (by decide),λGb pb=>?_⟩
   refine hk _ _ ⟨ps++[zs],ls++zs,_,_,rfl,frame (.inl rfl) (frame (.inr rfl) (s3.trans s9) pa) pb,?_,?_,h'⟩
   ·rw[YaJ];exact pb.at
   ·rw[YaJ];exact pb.sm _ _ hne pa.at
end

theorem jdY {G:Gp}:∀l:List Int,DUs G (l.map .int) (l.map .int)
 |[]=>.nil
 |_::r=>.cons (.int _) (jdY r)
theorem jd9 (l:List Int):Small (.list (l.map .int)):=⟨(jbl l).1,by show YbC (l.map .int)+1<=100;rw[(jbl l).2.1];decide⟩
theorem jdO {G G':Gp}{p:Addr}(s:Sa G G')(h:G' p=none):G p=none:=by
 cases e:G p with
 |none=>rfl
 |some o=>rw[s _ _ e]at h;cases h

def Wk (ss:List Spn):List Ent->Int->Int->Prop
 |[],a,b=>a=b
 |e::r,a,b=>EOk ss e/\eS ss e=a/\Wk ss r (eD ss e) b
noncomputable def ja3 (e:Ent):Ent:=(e.1,-e.2)
section
variable {ss:List Spn}
theorem Wk.app:∀{r r':List Ent} {a m b:Int},Wk ss r a m->Wk ss r' m b->Wk ss (r++r') a b
 |[],_,_,_,_,h,g=>by rw[show _=_ from h];exact g
 |_::r,_,_,_,_,⟨h1,h2,h3⟩,g=>⟨h1,h2,Wk.app h3 g⟩
theorem Wk.last:∀{r:List Ent} {e:Ent} {a b:Int},Wk ss (r++[e]) a b->Wk ss r a (eS ss e)/\EOk ss e/\eD ss e=b
 |[],e,a,b,⟨h1,h2,h3⟩=>⟨h2.symm,h1,h3⟩
 |_::r,e,a,b,⟨h1,h2,h3⟩=>let ⟨g1,g2⟩:=Wk.last h3;⟨⟨h1,h2,g1⟩,g2⟩
theorem EOk.flip {e:Ent}(h:EOk ss e):EOk ss (ja3 e)/\eS ss (ja3 e)=eD ss e/\eD ss (ja3 e)=eS ss e:=by
 obtain⟨s,hs,z⟩:=h.get;rcases z with⟨z,h1,h2⟩|⟨z,h1,h2⟩
 ·rw[h1,h2,z];exact⟨⟨h.1,.inr rfl⟩,eS_m hs,eD_m hs⟩
 ·rw[h1,h2,z];exact⟨⟨h.1,.inl rfl⟩,eS_1 hs,eD_1 hs⟩
theorem Wk.rev:∀{r:List Ent} {a b:Int},Wk ss r a b->Wk ss (r.reverse.map ja3) b a
 |[],_,_,h=>Eq.symm h
 |e::r,a,b,⟨h1,h2,h3⟩=>by
  rw[YbL,YaJ];refine(Wk.rev h3).app ?_;obtain⟨f1,f2,f3⟩:=h1.flip;exact⟨f1,f2,f3.trans h2⟩
theorem Wk.all:∀{r:List Ent} {a b:Int},Wk ss r a b->∀e∈r,EOk ss e
 |_::_,_,_,⟨h1,_,h3⟩,e,he=>by
  rcases YaO.mp he with z|z
  ·rw[z];exact h1
  ·exact h3.all e z
section
variable {a:Addr}{o:Obj}{kvs:List (Key×U)}{z:Int}
theorem joI {G:Gp}{k:Bool->Prop}(g:G a=some (.frk o kvs))(q:k (dGet kvs (.inl z)).isSome):inU (.int z) (.loc a) G k:=by unfold inU;dsimp only;rw[g];exact q
theorem jmH {u:U}{G:Gp}{Q:K1}(g:G a=some (.frk o kvs))(h:dGet kvs (.inl z)=some u):ixU (.loc a) (.int z) G Q=Q u G:=by unfold ixU;dsimp only;rw[g];dsimp only[kU];rw[h]
end
section
variable {f:List (Key×U)->List U}{a:Addr}
theorem jkE {kvs:List (Key×U)}{G:Gp}{Q:List U->(Gp->Prop)->Gp->Prop}(g:G a=some (.dK kvs)):jcG f (.loc a) G Q=∀o G',Put G a (.frk o kvs) G'->Q (f kvs) (λG'=>G' a=some (.frk o kvs)) G':=by unfold jcG;dsimp only;rw[g]
theorem jhf {o:Obj}{kvs:List (Key×U)}{G:Gp}{Q:List U->(Gp->Prop)->Gp->Prop}(g:G a=some (.frk o kvs)):jcG f (.loc a) G Q=Q (f kvs) (λG'=>G' a=some (.frk o kvs)) G:=by unfold jcG;dsimp only;rw[g]
end
theorem jhq:∀{fs:List (Int×Ent)} {z:Int},z∉fky fs->dGet (fkv fs) (.inl z)=none
 |[],_,_=>rfl
 |f::fs,z,h=>by
  have h1:¬f.1=z:=λe=>h (by rw[<- e];simp[fky])
  have h2:z∉fky fs:=λe=>h (Yaj _ e);have:=jhq h2;unfold dGet fkv at this ⊢;rw[YaB,Yes (by simpa using h1)]
  exact this
theorem jhp:∀{fs:List (Int×Ent)} {j:Nat} {f:Int×Ent},(fky fs).Nodup->fs[j]?=some f->dGet (fkv fs) (.inl f.1)=some (eu f.2)
 |[],_,_,_,h=>by simp at h
 |g::fs,0,f,_,h=>by
  simp at h;subst h;unfold dGet fkv;rw[YaB,List.find?_cons_of_pos (by simp)];rfl
 |g::fs,j+1,f,nd,h=>by
  simp at h;have nd:=List.nodup_cons.mp (show(g.1::fky fs).Nodup from nd);have h1:¬g.1=f.1:=λe=>nd.1 (by rw[e];exact jda h)
  have:=jhp nd.2 h;unfold dGet fkv at this ⊢;rw[YaB,Yes (by simpa using h1)]
  exact this
theorem jkM {fs:List (Int×Ent)}{w:Nat}(nd:((w:Int)::fky fs).Nodup){n:Nat}{z:Int}(h:z∈(w:Int)::fky (fs.take n)) :
  (z=w/\dGet (fkv fs) (.inl z)=none)\/∃j f,j<n/\fs[j]?=some f/\f.1=z/\dGet (fkv fs) (.inl z)=some (eu f.2):=by
 have nd:=List.nodup_cons.mp nd;rcases YaO.mp h with z'|z'
 ·exact .inl ⟨z',by rw[z'];exact jhq nd.1⟩
 ·obtain⟨i,f,hi,e,rfl⟩:=jbZ z';exact .inr ⟨i,f,hi,e,rfl,jhp nd.2 e⟩
end
section
variable {k:Nat}{G:Gp}{Q:K1}{X:KX}{xs:List Str}{ss:List Spn}{W:Nat}
theorem jgV {e:Ent}(h:EOk ss e)(q:Q (.tup [.int (eS ss e),.int (eD ss e)]) G):jaa T (k+1) jc5 [jae xs ss,eu e] G Q X:=by
 obtain⟨s,hs,z⟩:=h.get;refine⟨rfl,?_⟩;simp! only[jeB,jad,Yae,eu,jae,ix_t (jat _ _ _),ix_t (atM hs),Spn.u];refine⟨trivial,trivial,?_⟩;rcases z with⟨z,h1,h2⟩|⟨z,h1,h2⟩
 ·rw[show e.2=1 by rw[z],if_pos (by decide)]
  rw[h1,h2]at q;exact⟨by decide,q⟩
 ·rw[show e.2=-1 by rw[z],if_neg (by decide)]
  rw[h1,h2]at q;exact⟨by decide,q⟩
theorem jgR {w:Nat}{fs:List (Int×Ent)}{pf:Addr}{o:Obj}{z:Int}(hF:Fst W ss w fs)(w8:W<=8)(gf:G pf=some (.frk o (fkv fs)))(hz:z∈(w:Int)::fky fs)
  (q:∀(p:Addr) (es:List Ent) (G':Gp),Sa G G'->G p=none->G' p=some (.lst (es.map eu))->Wk ss es z w->es.length<=fs.length->(∀e∈es,∃f∈fs,f.2=e)->Q (.tup [.loc p,.int w]) G') :
  jaa T (k+2) jaX [jae xs ss,.loc pf,.int z] G Q X:=by
 have rl:=jax W _ hF.nd hF.bd;simp only[fky,Yaz,Yac]at rl;refine⟨rfl,?_⟩;simp! only[jbx,jad,Yae];refine⟨by decide,λp G1 n1=>?_⟩
 simp! only[ja6];rw[S_wh];refine⟨λn ς G'=>∃(es:List Ent) (y:Int),ς=[some (jae xs ss),some (.loc pf),some (.int y),some (.loc p)]/\Sa G G'/\G' p=some (.lst (es.map eu))/\Wk ss es z y/\y∈(w:Int)::fky (fs.take n)/\n<=fs.length/\es.length+n<=fs.length/\∀e∈es,∃f∈fs,f.2=e,
  ⟨fs.length,[],z,rfl,n1.sa,n1.at,rfl,by rw[YaP];exact hz,Yag _,by simp,λ_ h=>(nomatch h)⟩,?_⟩
 rintro n ς G2 ⟨es,y,rfl,s2,gp,wk,hy,hn,hl,hm⟩;have gf2:=s2 _ _ gf;simp! only[];refine joI gf2 ?_;rcases jkM hF.nd hy with⟨rfl,e⟩|⟨j,f,hj,ef,rfl,e⟩
 ·rw[e,if_neg (by decide)]
  simp! only[];exact⟨by decide,q p es G2 s2 n1.no gp wk (by omega) hm⟩
 ·obtain⟨h1,h2,h3⟩:=hF.en j f ef;rw[e,if_pos (by rfl)]
  simp! only[jaZ gp,jmH gf2 e,jcI gp];refine⟨by rw[Yac];exact YaL (show es.length<=8 by omega) (by decide),λG3 p3=>?_⟩
  have hpf:pf≠p:=λz=>by rw[z,n1.no]at gf;cases gf
  have gf3:=p3.sm _ _ hpf gf2;simp! only[jmH gf3 e];refine jgV h1 ?_;rw[ix_t (jat _ _ _)];refine⟨j,hj,es++[f.2],eD ss f.2,rfl,λb u hb=>p3.sm _ _ (λz=>by rw[z,n1.no]at hb;cases hb) (s2 _ _ hb),by rw[YaJ];exact p3.at,wk.app ⟨h1,h2,rfl⟩,h3,by omega,by simp;omega,λe he=>?_⟩
  rcases List.mem_append.mp he with z|z
  ·exact hm e z
  ·rw[List.mem_singleton.mp z];exact⟨f,Yam ef,rfl⟩
end

theorem mt_pop {p:Addr}{us:List U}{G:Gp}(g:G p=some (.lst us)):mtU .pop (.loc p) G=some ("list", "list.pop"):=by unfold mtU;dsimp only;rw[g]
theorem jfq {p:Addr}{es:List Ent}{e:Ent}{G:Gp}{Q:K1}(g:G p=some (.lst ((es++[e]).map eu)))(q:∀G',Put G p (.lst (es.map eu)) G'->Q (eu e) G'):jaU .pop (.loc p) [] G Q:=by
 dsimp only[jaU];unfold popU;dsimp only;rw[g];dsimp only;have e1:((es++[e]).map eu)[((es++[e]).map eu).length-1]?=some (eu e):=by simp
 have e2:((es++[e]).map eu).dropLast=es.map eu:=by simp
 rw[e1,e2];exact λG' h=>q G' h
theorem jhF {es:List Ent}{e:Ent}:atI ((es++[e]).map eu) (-1)=some (eu e):=by
 refine(jbD eu _ _).trans ?_;unfold atI;rw[show ixN (es++[e]).length (-1)=some es.length by unfold ixN;simp;omega]
 simp
theorem joR {e e':Ent}{G:Gp}{k:Bool->Prop}(q:k (decide (e=e'))):cmpU .Eq (eu e) (eu e') G k:=by
 refine(?_:eqU (eu e) (eu e') G k);have d:∀x:Ent,DU G (eu x) (.tuple ([(x.1:Int),x.2].map .int)):=λx=>.tup (jdY [(x.1:Int),x.2]);have sm:∀l:List Int,Small (.tuple (l.map .int)):=λl=>⟨(jbl l).1,by show YbC (l.map .int)+1<=100;rw[(jbl l).2.1];decide⟩
 refine⟨_,_,d e,d e',sm _,sm _,?_⟩;have:YaD (.list ([(e.1:Int),e.2].map .int)) (.list ([(e'.1:Int),e'.2].map .int))=decide (e=e'):=by
  rw[jhm,Yb1,decide_eq_true_eq,decide_eq_true_eq];constructor
  ·intro h;injection h with h1 h2
   injection h2 with h2 _
   exact YcZ (by omega) h2
  ·intro h;rw[h]
 rw[show YaD (.tuple ([(e.1:Int),e.2].map .int)) (.tuple ([(e'.1:Int),e'.2].map .int))=decide (e=e')from this];exact q
section
variable {a:Addr}{us:List U}{G:Gp}
theorem jhJ {kk:Bool->Prop}(g:G a=some (.lst us)):truU (.loc a) G kk=kk (!us.isEmpty):=by unfold truU;dsimp only;rw[g]
theorem job {Q:K1}(g:G a=some (.lst us)):revU (.loc a) (.int (-1)) G Q=newO G (.lst us.reverse) Q:=by
 unfold revU lsG;dsimp only;rw[g];simp
end
def Tf (fs:List (Int×Ent))(e:Ent):Prop:=∃f∈fs,f.2=e\/f.2=ja3 e
structure CR (ss:List Spn)(fs:List (Int×Ent))(i:Nat)(s:Spn)(ring:List Ent):Prop where
 at':ss[i]?=some s
 wk:Wk ss ring s.o s.o
 l:ring.length<=1+2*fs.length
 tl:∃r,ring=(i,1)::r/\∀e∈r,Tf fs e
theorem snoc {α:Type}:∀l:List α,l=[]\/∃r e,l=r++[e]
 |[]=>.inl rfl
 |a::l=>.inr (by
  rcases snoc l with z|⟨r,e,z⟩
  ·exact⟨[],a,by rw[z];rfl⟩
  ·exact⟨a::r,e,by rw[z];rfl⟩)
section
variable {k:Nat}{G:Gp}{Q:K1}{X:KX}{xs:List Str}{ss:List Spn}{W:Nat}
theorem jii {w i:Nat}{s:Spn}{fs:List (Int×Ent)}{pf:Addr}{o:Obj}(hF:Fst W ss w fs)(w8:W<=8)(gf:G pf=some (.frk o (fkv fs)))(hs:ss[i]?=some s)(h1:(s.o:Int)∈(w:Int)::fky fs)(h2:(s.t:Int)∈(w:Int)::fky fs)
  (q:∀(ring:List Ent) (G':Gp),Sa G G'->CR ss fs i s ring->Q (.tup (ring.map eu)) G'):jaa T (k+3) jbv [jae xs ss,.loc pf,.int i] G Q X:=by
 have rl:=jax W _ hF.nd hF.bd;simp only[fky,Yaz,Yac]at rl;have il:=(List.getElem?_eq_some_iff.mp hs).1;refine⟨rfl,?_⟩;simp! only[jby,jad,Yae,jae,ix_t (jat _ _ _),ix_t (atM hs),Spn.u];refine⟨trivial,?_⟩;simp! only[jba];refine jgR (xs:=xs) hF w8 gf h2 λpt ts G1 s1 nt g1 wt lt mt=>?_;simp! only[];refine⟨trivial,?_⟩;refine jgR (xs:=xs) hF w8 (s1 _ _ gf) h1 λpb bs G2 s2 nb g2 wb lb mb=>?_;simp! only[ja9];refine⟨trivial,?_⟩;rw[S_wh];have hne:pt≠pb:=λz=>by rw[z]at g1;rw[nb]at g1;cases g1
 refine⟨λn ς G'=>∃(ts bs:List Ent) (m:Int),ς=[some (jae xs ss),some (.loc pf),some (.int i),some (.str s.w),some (.int s.o),some (.int s.t),some (.int s.lo),some (.int s.hi),some (.loc pt),some (.int w),some (.loc pb),some (.int w),none]/\n=ts.length/\Sa G G'/\G' pt=some (.lst (ts.map eu))/\G' pb=some (.lst (bs.map eu))/\Wk ss ts s.t m/\Wk ss bs s.o m/\ts.length<=fs.length/\bs.length<=fs.length/\(∀e∈ts,∃f∈fs,f.2=e)/\∀e∈bs,∃f∈fs,f.2=e,
  ⟨_,ts,bs,w,rfl,rfl,s1.trans s2,s2 _ _ g1,g2,wt,wb,lt,lb,mt,mb⟩,?_⟩
 have nb0:G pb=none:=jdO s1 nb;clear s1 g1 wt lt mt s2 g2 wb lb mb nb;rintro n ς G3 ⟨ts,bs,m,rfl,rfl,s3,gt,gb,wt,wb,lt,lb,mt,mb⟩;have done:jaN T.gs (jaa T (k+2)) jaM ⟨λ_ G'=>Q .non G',Q,λx _ G'=>X x G'⟩ [some (jae xs ss),some (.loc pf),some (.int i),some (.str s.w),some (.int s.o),some (.int s.t),some (.int s.lo),some (.int s.hi),some (.loc pt),some (.int w),some (.loc pb),some (.int w),none] G3:=by
  simp! only[jaM];rw[if_pos (by simp)]
  refine⟨by decide,λph G4 n4=>?_⟩
  simp! only[ja8];refine⟨by decide,by decide,λp5 G5 n5=>?_⟩
  refine⟨_,_,n5.at,n5.sa _ _ (n4.sa _ _ gt),Yal (show _<=20 by simp;omega) (by decide),λp6 G6 n6=>?_⟩
  refine⟨_,_,n6.at,n6.sa _ _ (n5.sa _ _ n4.at),Yal (show _<=20 by simp;omega) (by decide),λp7 G7 n7=>?_⟩
  have gb7:=n7.sa _ _ (n6.sa _ _ (n5.sa _ _ (n4.sa _ _ gb)));dsimp only;rw[job gb7];intro p8 G8 n8;rw[it_l n8.at];refine⟨Yal (show _<=20 by simp;omega) (by decide),?_⟩
  rw[<- YfH];refine jaw (λu=>match u with|.tup [.int a,.int b]=>.tup [.int a,.int (-b)]|u=>u) (by unfold lsG;rw[n8.at,YfH]) (λu hu K hK=>?_) ?_
  ·obtain⟨e,he,rfl⟩:=List.mem_map.mp hu;simp! only[eu];exact⟨trivial,by decide,hK⟩
  ·intro p9 G9 n9;have e9:[]++(bs.reverse.map eu).map (λu=>match u with|.tup [.int a,.int b]=>.tup [.int a,.int (-b)]|u=>u)=(bs.reverse.map ja3).map eu:=by
    rw[Ya6,YaY,YaY];rfl
   rw[e9]at n9;refine⟨_,_,n9.sa _ _ (n8.sa _ _ n7.at),n9.at,Yal (show _<=30 by simp;omega) (by decide),λpa Ga na=>?_⟩
   dsimp only;rw[it_l na.at];have e10:[U.tup [.int i,.int 1]]++ts.map eu++[]++(bs.reverse.map ja3).map eu=(((i,1)::(ts++bs.reverse.map ja3)):List Ent).map eu:=by simp[eu]
   rw[e10];have ok1:EOk ss (i,1):=⟨il,.inl rfl⟩;refine q _ Ga (s3.trans ((((((n4.sa.trans n5.sa).trans n6.sa).trans n7.sa).trans n8.sa).trans n9.sa).trans na.sa)) ⟨hs,⟨ok1,eS_1 hs,?_⟩,by simp;omega,_,rfl,λe he=>?_⟩
   ·rw[eD_1 hs];exact wt.app wb.rev
   ·rcases List.mem_append.mp he with z|z
    ·obtain⟨f,hf,rfl⟩:=mt e z;exact⟨f,hf,.inl rfl⟩
    ·obtain⟨e',he',rfl⟩:=List.mem_map.mp z;obtain⟨f,hf,rfl⟩:=mb e' (List.mem_reverse.mp he');exact⟨f,hf,.inr (by simp[ja3])⟩
 simp! only[];rw[jhJ gt];rcases snoc ts with rfl|⟨ts',et,rfl⟩
 ·rw[if_neg (by simp)];exact done
 rw[if_pos (by simp),jhJ gb]
 rcases snoc bs with rfl|⟨bs',eb,rfl⟩
 ·rw[if_neg (by simp)];exact done
 rw[if_pos (by simp),ix_l gt jhF,ix_l gb jhF]
 refine joR ?_;by_cases c:et=eb
 ·subst c;rw[if_pos (by simp),mt_pop gt]
  refine jfq gt λG4 p4=>?_;have gb4:=p4.sm _ _ (Ne.symm hne) gb;rw[mt_pop gb4];refine jfq gb4 λG5 p5=>?_;obtain⟨w1,w2,w3⟩:=wt.last;obtain⟨v1,v2,v3⟩:=wb.last;refine⟨ts'.length,by simp,ts',bs',eS ss et,trivial,rfl,λb u hb=>p5.sm _ _ (λz=>by rw[z,nb0]at hb;cases hb) (p4.sm _ _ (λz=>by rw[z,nt]at hb;cases hb) (s3 _ _ hb)),p5.sm _ _ hne p4.at,p5.at,w1,v1,by simp at lt;omega,by simp at lb;omega,λe he=>mt e (Yaw _ he),λe he=>mb e (Yaw _ he)⟩
 ·rw[if_neg (by simpa using c)];exact done
end

noncomputable def jcg (r:List Ent):U:=.tup (r.map eu)
section
variable {k:Nat}{G:Gp}{Q:K1}{X:KX}{xs:List Str}{ss:List Spn}{W:Nat}
theorem jgW {w:Nat}{fs:List (Int×Ent)}{pf:Addr}{ps:List Int}(hF:Fst W ss w fs)(w8:W<=8)(sl:ss.length<=24)(gf:G pf=some (.dK (fkv fs)))(hc:Clo ss w (fky fs))(hp:∀x∈ps,x∈(w:Int)::fky fs)
  (q:∀(p:Addr) (rs:List (List Ent)) (o:Obj) (G':Gp),Sm pf G G'->G p=none->G' p=some (.lst (rs.map jcg))->G' pf=some (.frk o (fkv fs))->(∀r∈rs,∃i s,CR ss fs i s r)->(∀i s,ss[i]?=some s->(s.o:Int)∈ps->(∃f∈fs,f.2.1=i)\/∃r∈rs,CR ss fs i s r)->rs.length<=24->Q (.loc p) G') :
  jaa T (k+4) jbk [jae xs ss,jaW ps,.loc pf] G Q X:=by
 have rl:=jax W _ hF.nd hF.bd;simp only[fky,Yaz,Yac]at rl;refine⟨rfl,?_⟩;simp! only[jbo,jad,Yae,jkE gf];intro o G1 p1;have ev:jcN (fkv fs)=fs.map λf=>eu f.2:=by unfold jcN fkv;rw[YaY];rfl
 refine⟨by rw[ev,Yac];exact Yal (show fs.length<=8 by omega) (by decide),?_⟩
 refine jaw (λu=>match u with|.tup (a::_)=>a|u=>u) p1.at (λu hu K hK=>?_) ?_
 ·rw[ev]at hu;obtain⟨f,hf,rfl⟩:=List.mem_map.mp hu;simp! only[eu];exact⟨trivial,hK⟩
 intro pu G2 n2;have eu2:[]++(jcN (fkv fs)).map (λu=>match u with|.tup (a::_)=>a|u=>u)=(fs.map λf=>((f.2.1:Nat):Int)).map U.int:=by
  rw[ev,Ya6,YaY,YaY];rfl
 rw[eu2]at n2;simp! only[jae,ix_t (jat _ _ _),Yac];refine⟨by omega,by omega,by rw[jaz];exact Yal (show((ss.length:Int)).toNat<=24 by omega) (by decide),?_⟩
 refine jay (λn acc G'=>G'=G2/\∃is:List Nat,acc=is.map (λ(i:Nat)=>U.int (i:Int))/\is.length<=n/\(∀i∈is,∃s,ss[i]?=some s/\(s.o:Int)∈ps)/\∀i s,i<n->ss[i]?=some s->(s.o:Int)∈ps->(∃f∈fs,f.2.1=i)\/i∈is) ?_ ?_ ⟨rfl,[],rfl,Yag _,λ_ h=>(nomatch h),λi s h=>by omega⟩
 ·rintro acc G' ⟨rfl,is,rfl,il,h1,h2⟩;rw[jaz]at il h2;refine⟨trivial,λp3 G3 n3=>?_⟩;simp! only[it_l n3.at];refine⟨by rw[Yac];exact Yal (show is.length<=24 by omega) (by decide),?_⟩
  have gf3:G3 pf=some (.frk o (fkv fs)):=n3.sa _ _ (n2.sa _ _ p1.at);refine jay (λn acc G'=>Sa G3 G'/\∃rs:List (List Ent),acc=rs.map jcg/\rs.length<=n/\(∀r∈rs,∃i s,CR ss fs i s r)/\∀i∈is.take n,∃s,∃r∈rs,CR ss fs i s r) ?_ ?_ ⟨Sa.refl,[],rfl,Yag _,λ_ h=>(nomatch h),λi h=>by simp at h⟩
  ·rintro acc G4 ⟨s4,rs,rfl,rl4,c1,c2⟩;rw[Yac]at rl4 c2;rw[YaP]at c2;refine⟨by unfold lsG;rw[s4 _ _ n3.at],λp5 G5 n5=>?_⟩
   have sm:Sm pf G G4:=λb u hb e=>s4 _ _ (n3.sa _ _ (n2.sa _ _ (p1.sm _ _ hb e)));refine q p5 rs o G5 (λb u hb e=>n5.sa _ _ (sm b u hb e)) ?_ n5.at (n5.sa _ _ (s4 _ _ gf3)) c1 (λi s es ho=>?_) (by omega)
   ·cases e:G p5 with
    |none=>rfl
    |some u=>
     by_cases z:p5=pf
     ·have:=s4 _ _ gf3;rw[<- z,n5.no]at this;cases this
     ·have:=sm _ _ z e;rw[n5.no]at this;cases this
   ·rcases h2 i s (by have:=(List.getElem?_eq_some_iff.mp es).1;omega) es ho with z|z
    ·exact .inl z
    ·obtain⟨s',r,hr,h⟩:=c2 i z;have:=h.at';rw[es]at this;cases this;exact .inr ⟨r,hr,h⟩
  ·rintro n x acc G4 K hx ⟨s4,rs,rfl,rl4,c1,c2⟩ hk _;rw[Yan]at hx;cases ei:is[n]? with
   |none=>rw[ei]at hx;cases hx
   |some i=>
    rw[ei]at hx;cases hx;obtain⟨s,es,ho⟩:=h1 i (Yam ei);have hin:=hp _ ho;have ht:=hc _ _ hin (.inl (List.mem_map.mpr ⟨s,Yam es,rfl⟩));refine⟨by unfold lsG;rw[s4 _ _ n3.at],?_⟩
    simp! only[];refine jii (xs:=xs) hF w8 (s4 _ _ gf3) es hin ht λr G5 s5 h5=>hk _ _ ⟨s4.trans s5,rs++[r],by rw[YaJ];rfl,by simp;omega,λr' hr'=>?_,λi' hi'=>?_⟩
    ·rcases List.mem_append.mp hr' with z|z
     ·exact c1 r' z
     ·rw[List.mem_singleton.mp z];exact⟨i,s,h5⟩
    ·rw[Ya5,ei]at hi';rcases List.mem_append.mp hi' with z|z
     ·obtain⟨s',r',hr',h⟩:=c2 i' z;exact⟨s',r',Yaw _ hr',h⟩
     ·rw[List.mem_singleton.mp z];exact⟨s,r,Yas _ (List.mem_singleton.mpr rfl),h5⟩
 ·rintro n x acc G' K hx ⟨rfl,is,rfl,il,h1,h2⟩ hk hn;obtain⟨hi,rfl⟩:=ja0 hx;obtain⟨s,es⟩:∃s,ss[n]?=some s:=⟨ss[n]'(by omega),Yaa _⟩
  refine⟨trivial,?_⟩;simp! only[ix_t (jat _ _ _),ix_t (atM es),Spn.u];refine⟨rfl,jbY _,?_⟩;rw[jes];dsimp only;by_cases c:(s.o:Int)∈ps
  ·rw[if_pos (by rw[decide_eq_true c])]
   refine in_l n2.at rfl (jbY _) ?_;rw[jes];by_cases d:((n:Nat):Int)∈fs.map λf=>((f.2.1:Nat):Int)
   ·rw[if_neg (by rw[decide_eq_true d];decide)]
    refine hn _ ⟨rfl,is,rfl,by omega,h1,λi s' hi' es' ho=>?_⟩
    by_cases e:i=n
    ·obtain⟨f,hf,ef⟩:=List.mem_map.mp d;exact .inl ⟨f,hf,by omega⟩
    ·exact h2 i s' (by omega) es' ho
   ·rw[if_pos (by rw[decide_eq_false d];decide)]
    refine hk _ _ ⟨rfl,is++[n],by simp,by simp;omega,λi hi'=>?_,λi s' hi' es' ho=>?_⟩
    ·rcases List.mem_append.mp hi' with z|z
     ·exact h1 i z
     ·rw[List.mem_singleton.mp z];exact⟨s,es,c⟩
    ·by_cases e:i=n
     ·exact .inr (Yas _ (List.mem_singleton.mpr e))
     ·rcases h2 i s' (by omega) es' ho with z|z
      ·exact .inl z
      ·exact .inr (Yaw _ z)
  ·rw[if_neg (by rw[decide_eq_false c];decide)]
   refine hn _ ⟨rfl,is,rfl,by omega,h1,λi s' hi' es' ho=>?_⟩
   by_cases e:i=n
   ·subst e;rw[es]at es';cases es';exact absurd ho c
   ·exact h2 i s' (by omega) es' ho
end

abbrev Wn:=List (Int×Int)
noncomputable def wu (w:Int×Int):U:=.tup [.int w.1,.int w.2]
noncomputable def wsU (ws:Wn):U:=.tup (ws.map wu)
noncomputable def wlo (ws:Wn)(e:Ent):Int:=if e.2=1 then (ws.getD e.1 (0,0)).1 else -(ws.getD e.1 (0,0)).2
noncomputable def whi (ws:Wn)(e:Ent):Int:=if e.2=1 then (ws.getD e.1 (0,0)).2 else -(ws.getD e.1 (0,0)).1
noncomputable def sLo (ws:Wn)(r:List Ent):Int:=(r.map (wlo ws)).sum
noncomputable def sHi (ws:Wn)(r:List Ent):Int:=(r.map (whi ws)).sum
def Bar (P:Int)(ws:Wn)(r:List Ent):Prop:=sHi ws r/P*P<sLo ws r
noncomputable instance {P:Int} {ws:Wn} {r:List Ent}:Decidable (Bar P ws r):=inferInstanceAs (Decidable (_<_))
theorem getW {ws:Wn}{i:Nat}{w:Int×Int}(h:ws[i]?=some w):ws.getD i (0,0)=w:=by simp[Ybg,h]
theorem jli {a:Addr}{l:List Int}{G:Gp}{Q:K1}(g:G a=some (.lst (l.map .int))):sumU [.loc a] G Q=Q (.int l.sum) G:=by
 unfold sumU;dsimp only;rw[g];dsimp only;rw[jfG]
section
variable {k:Nat}{G:Gp}{Q:K1}{X:KX}{xs:List Str}{ss:List Spn}{ws:Wn}{P:Int}{bu:U}
theorem jih {e:Ent}(wl:ws.length=ss.length)(he:EOk ss e)(q:Q (.tup [.int (wlo ws e),.int (whi ws e)]) G):jaa T (k+1) jcu [bu,wsU ws,eu e] G Q X:=by
 have il:e.1<ws.length:=by rw[wl];exact he.1
 have ew:ws[e.1]?=some ws[e.1]:=Yaa il;refine⟨rfl,?_⟩;simp! only[jcC,jad,Yae,eu,wsU,ix_t (atM ew),wu];refine⟨trivial,trivial,?_⟩;unfold wlo whi at q;rw[getW ew]at q;rcases he.2 with z|z
 ·rw[z,if_pos (by decide)]
  rw[if_pos z,if_pos z]at q;exact⟨by decide,q⟩
 ·rw[z,if_neg (by decide)]
  rw[if_neg (by omega),if_neg (by omega)]at q
  exact⟨by decide,q⟩
theorem jj9 {r:List Ent}(wl:ws.length=ss.length)(hr:∀e∈r,EOk ss e)(rl:r.length<=30)(q:∀G',Sa G G'->Q (.tup [.int (sLo ws r),.int (sHi ws r)]) G'):jaa T (k+2) jei [jae xs ss,.int P,bu,wsU ws,jcg r] G Q X:=by
 refine⟨rfl,?_⟩;simp! only[jex,jad,Yae,jcg];refine⟨by rw[Yac];exact Yal rl (by decide),?_⟩
 refine jaw (λu=>match u with|.tup [.int a,.int b]=>.tup [.int (wlo ws (a.toNat,b)),.int (whi ws (a.toNat,b))]|u=>u) trivial (λu hu K hK=>?_) ?_
 ·obtain⟨e,he,rfl⟩:=List.mem_map.mp hu;simp! only[];exact jih wl (hr e he) hK
 intro p1 G1 n1;have e1:[]++(r.map eu).map (λu=>match u with|.tup [.int a,.int b]=>U.tup [.int (wlo ws (a.toNat,b)),.int (whi ws (a.toNat,b))]|u=>u)=r.map λe=>U.tup [.int (wlo ws e),.int (whi ws e)]:=by
  rw[Ya6,YaY];rfl
 rw[e1]at n1;simp! only[it_l n1.at];refine⟨by rw[Yac];exact Yal rl (by decide),?_⟩
 refine jaw (λu=>match u with|.tup [a,_]=>a|u=>u) (by unfold lsG;rw[n1.at]) (λu hu K hK=>?_) ?_
 ·obtain⟨e,he,rfl⟩:=List.mem_map.mp hu;simp! only[];exact⟨trivial,hK⟩
 intro p2 G2 n2;have t1:[]++(r.map λe=>U.tup [.int (wlo ws e),.int (whi ws e)]).map (λu=>match u with|.tup [a,_]=>a|u=>u)=(r.map (wlo ws)).map .int:=by
  rw[Ya6,YaY,YaY];rfl
 rw[t1]at n2;rw[jli n2.at,it_l (n2.sa _ _ n1.at)];refine⟨by rw[Yac];exact Yal rl (by decide),?_⟩
 refine jaw (λu=>match u with|.tup [_,b]=>b|u=>u) (by unfold lsG;rw[n2.sa _ _ n1.at]) (λu hu K hK=>?_) ?_
 ·obtain⟨e,he,rfl⟩:=List.mem_map.mp hu;simp! only[];exact⟨trivial,hK⟩
 intro p3 G3 n3;have t2:[]++(r.map λe=>U.tup [.int (wlo ws e),.int (whi ws e)]).map (λu=>match u with|.tup [_,b]=>b|u=>u)=(r.map (whi ws)).map .int:=by
  rw[Ya6,YaY,YaY];rfl
 rw[t2]at n3;rw[jli n3.at];exact⟨by decide,q G3 ((n1.sa.trans n2.sa).trans n3.sa)⟩
theorem jkd {r:List Ent}(wl:ws.length=ss.length)(hr:∀e∈r,EOk ss e)(rl:r.length<=30)(p1:1<=P)(p2:P<=600)(q:∀G',Sa G G'->Q (.bl (decide (Bar P ws r))) G'):jaa T (k+3) jc0 [jae xs ss,.int P,bu,wsU ws,jcg r] G Q X:=by
 refine⟨rfl,?_⟩;simp! only[jdc,jad,Yae];refine jj9 wl hr rl λG1 s1=>?_;simp! only[];exact⟨trivial,by omega,by omega,.inr (by constructor<;>omega),q G1 s1⟩
end

noncomputable def eL (L:List Int)(e:Ent):Int:=e.2*L.getD e.1 0
noncomputable def sumL (L:List Int)(r:List Ent):Int:=(r.map (eL L)).sum
theorem eL_1 {L:List Int}{e:Ent}(h:e.2=1):eL L e=L.getD e.1 0:=by unfold eL;rw[h];omega
theorem eL_m {L:List Int}{e:Ent}(h:e.2=-1):eL L e=-L.getD e.1 0:=by unfold eL;rw[h];omega
theorem jkQ (L:List Int)(e:Ent):eL L (ja3 e)=-eL L e:=by unfold eL ja3;simp[Int.neg_mul]
theorem jhi {L:List Int}{i:Nat}{x:Int}(h:L[i]?=some x):L.getD i 0=x:=by simp[Ybg,h]
structure Wi (L:List Int)(ws:Wn):Prop where
 l:L.length=ws.length
 b:∀(i:Nat) (w:Int×Int),ws[i]?=some w->w.1<=L.getD i 0/\L.getD i 0<=w.2
section
variable {L:List Int}{ws:Wn}{ss:List Spn}
theorem Wi.ent (h:Wi L ws)(wl:ws.length=ss.length){e:Ent}(he:EOk ss e):wlo ws e<=eL L e/\eL L e<=whi ws e:=by
 have ew:ws[e.1]?=some (ws[e.1]'(by rw[wl];exact he.1)):=Yaa _
 have:=h.b _ _ ew;unfold wlo whi;rw[getW ew];rcases he.2 with z|z
 ·rw[if_pos z,if_pos z,eL_1 z];exact this
 ·rw[if_neg (by omega),if_neg (by omega),eL_m z];omega
theorem Wi.sum (h:Wi L ws)(wl:ws.length=ss.length):∀{r:List Ent},(∀e∈r,EOk ss e)->sLo ws r<=sumL L r/\sumL L r<=sHi ws r
 |[],_=>by simp[sLo,sHi,sumL]
 |e::r,hr=>by
  have h1:=h.ent wl (hr e Yat);have h2:=Wi.sum h wl (r:=r) λx hx=>hr x (Yaj _ hx);have a1:sLo ws (e::r)=wlo ws e+sLo ws r:=by simp[sLo]
  have a2:sHi ws (e::r)=whi ws e+sHi ws r:=by simp[sHi]
  have a3:sumL L (e::r)=eL L e+sumL L r:=by simp[sumL]
  rw[a1,a2,a3];omega
end
noncomputable def bt (bs:List Int)(x:Int):Int:=bs.getD x.toNat 0
theorem jhC {bs:List Int}{x:Int}(h0:0<=x)(h1:x<bs.length):atI (bs.map U.int) x=some (.int (bt bs x)):=by
 obtain⟨j,rfl⟩:=Ya0 h0;have hj:j<bs.length:=by omega
 have:bs[j]?=some (bt bs (j:Int)):=by unfold bt;simp[Ybg,hj]
 exact atM this
theorem jm1 {bs:List Int}{x y v:Int}(h0:0<=x)(h1:x<bs.length)(hy:0<=y):bt (bs.set x.toNat v) y=if y=x then v else bt bs y:=by
 unfold bt;by_cases e:y=x
 ·subst e;rw[if_pos rfl];simp[Ybg,show y.toNat<bs.length by omega]
 ·rw[if_neg e];simp only[Ybg];rw[Ya2 (by omega)]
def Kp (ss:List Spn)(L:List Int)(P:Int)(bs:List Int)(e:Ent):Prop:=P ∣ bt bs (eS ss e)+eL L e-bt bs (eD ss e)
def Lu (ss:List Spn)(G:Gp)(lu:U)(L:List Int):Prop:=L.length=ss.length/\((∃p,lu=.loc p/\G p=some (.lst (L.map .int)))\/lu=jaW L)
theorem Lu.sa {ss:List Spn}{G G':Gp}{lu:U}{L:List Int}(h:Lu ss G lu L)(s:Sa G G'):Lu ss G' lu L:=by
 obtain⟨h1,⟨p,e,g⟩|h2⟩:=h
 ·exact⟨h1,.inl ⟨p,e,s _ _ g⟩⟩
 ·exact⟨h1,.inr h2⟩
theorem Lu.ix {ss:List Spn}{G:Gp}{lu:U}{L:List Int}{e:Ent}{Q:K1}(h:Lu ss G lu L)(he:EOk ss e)(q:Q (.int (L.getD e.1 0)) G):ixU lu (.int e.1) G Q:=by
 have il:e.1<L.length:=by rw[h.1];exact he.1
 have e1:L[e.1]?=some (L.getD e.1 0):=by simp[Ybg,il]
 rcases h.2 with⟨p,rfl,g⟩|rfl
 ·rw[ix_l g (atM e1)];exact q
 ·rw[show jaW L=.tup (L.map .int)from rfl,ix_t (atM e1)];exact q
section
variable {k:Nat}{G:Gp}{Q:K1}{X:KX}{xs:List Str}{ss:List Spn}{W:Nat}{L:List Int}{P:Int}{lu:U}
theorem jij {w:Nat}{fs:List (Int×Ent)}{pf:Addr}{o:Obj}{bs:List Int}(hF:Fst W ss w fs)(w8:W<=8)(hlu:Lu ss G lu L)(p1:1<=P)(p2:P<=600)(bl:bs.length=W)(bb:∀b∈bs,0<=b/\b<P)(gf:G pf=some (.frk o (fkv fs)))
  (q:∀(bs':List Int) (G':Gp),Sa G G'->bs'.length=W->(∀b∈bs',0<=b/\b<P)->(∀x,0<=x->x∉fky fs->bt bs' x=bt bs x)->(∀f∈fs,Kp ss L P bs' f.2)->Q (jaW bs') G') :
  jaa T (k+2) jbS [jae xs ss,.int P,jaW bs,.loc pf,lu] G Q X:=by
 have rl:=jax W _ hF.nd hF.bd;simp only[fky,Yaz,Yac]at rl;refine⟨rfl,?_⟩;simp! only[jb7,jad,Yae,jaW];intro p1' G1 n1;simp! only[jhf (n1.sa _ _ gf)];have ei:jcx (fkv fs)=fs.map λf=>U.tup [.int f.1,eu f.2]:=by unfold jcx fkv;rw[YaY];rfl
 rw[ei];have hpf:pf≠p1':=λz=>by rw[z,n1.no]at gf;cases gf
 refine jaB (λj ς G'=>∃(bs':List Int) (o6 o7 o8 o9:Option U),ς=[some (jae xs ss),some (.int P),some (.tup (bs.map .int)),some (.loc pf),some lu,some (.loc p1'),o6,o7,o8,o9]/\Sa G G'/\G' p1'=some (.lst (bs'.map .int))/\bs'.length=W/\(∀b∈bs',0<=b/\b<P)/\(∀x,0<=x->x∉fky (fs.take j)->bt bs' x=bt bs x)/\∀i f,i<j->fs[i]?=some f->Kp ss L P bs' f.2) ?_ ?_
  ⟨bs,_,_,_,_,rfl,n1.sa,n1.at,bl,bb,λ_ _ _=>rfl,λi f h=>by omega⟩
 ·rintro ς G2 ⟨bs',o6,o7,o8,o9,rfl,s2,g2,l2,b2,k2,h2⟩;rw[Yac]at k2 h2;rw[YaP]at k2;refine⟨s2 _ _ gf,?_⟩;simp! only[it_l g2];exact q bs' G2 s2 l2 b2 k2 λf hf=>by
   obtain⟨i,hi,e⟩:=YaE hf;exact h2 i f hi (by rw[Yaa hi,e])
 ·rintro j u ς G2 K hu ⟨bs',o6,o7,o8,o9,rfl,s2,g2,l2,b2,k2,h2⟩ hk;rw[Yan]at hu;cases ef:fs[j]? with
  |none=>rw[ef]at hu;cases hu
  |some f=>
   rw[ef]at hu;cases hu;obtain⟨h1,hS,hD⟩:=hF.en j f ef;have bx:=hF.bd f.1 (Yaj _ (jda ef));have bD:=hF.bd _ (jhl hD);have nd:=List.nodup_cons.mp hF.nd;have new:∀y,y∈(w:Int)::fky (fs.take j)->y≠f.1:=λy hy z=>by
    rcases YaO.mp hy with z'|z'
    ·exact nd.1 (by rw[<- z',z];exact jda ef)
    ·obtain⟨i,f',hi,ei',e'⟩:=jbZ z';have a1:(fky fs)[i]?=some f.1:=by unfold fky;rw[Yan,ei',Yfq,e',z]
     have a2:(fky fs)[j]?=some f.1:=by unfold fky;rw[Yan,ef];rfl
     have:=(Yft (List.getElem?_eq_some_iff.mp a1).1 nd.2).mp (a1.trans a2.symm);omega
   refine⟨s2 _ _ gf,?_⟩;simp! only[eu];refine⟨trivial,trivial,by decide,?_⟩
   refine jgV (e:=f.2) h1 ?_;rw[ix_t (jat _ _ _)];simp! only[ix_l g2 (jhC bD.1 (show eD ss f.2<(bs'.length:Int) by omega))]
   refine(hlu.sa s2).ix h1 ?_;refine⟨.inl (by rcases h1.2 with z|z<;>rw[z]<;>constructor<;>omega),by omega,?_⟩
   obtain⟨xn,hxn⟩:=Ya0 bx.1;rw[hxn,jn8 g2 (jky (by rw[Yac];omega))]
   intro G3 p3;obtain⟨v,hv⟩:∃v,v=(bt bs' (eD ss f.2)-f.2.2*L.getD f.2.1 0)%P:=⟨_,rfl⟩;have v0:0<=v:=by rw[hv];exact Ybs _ (by omega)
   have v1:v<P:=by rw[hv];exact Ybp _ (by omega)
   rw[<- hv,<- List.map_set]at p3;have hset:∀y,0<=y->bt (bs'.set xn v) y=if y=f.1 then v else bt bs' y:=λy hy=>by
    have:=jm1 (bs:=bs') (v:=v) (y:=y) bx.1 (by omega) hy
    rw[show f.1.toNat=xn by omega]at this
    exact this
   refine hk _ _ ⟨bs'.set xn v,_,_,_,_,rfl,λb u' hb=>p3.sm _ _ (λz=>by rw[z,n1.no]at hb;cases hb) (s2 _ _ hb),p3.at,by simp[l2],λb hb=>?_,λy hy hn=>?_,λi f' hi ei'=>?_⟩
   ·rcases Yd7 hb with z|z
    ·exact b2 b z
    ·rw[z];exact⟨v0,v1⟩
   ·rw[Ya5,ef]at hn;have h1':y∉fky (fs.take j):=λz=>hn (by simp[fky]at z ⊢;exact .inl z)
    have h2':y≠f.1:=λz=>hn (by simp[fky,z])
    rw[hset y hy,if_neg h2',k2 y hy h1']
   ·by_cases e:i=j
    ·subst e;rw[ef]at ei';cases ei';unfold Kp;rw[hS,hset _ bx.1,if_pos rfl,hset _ bD.1,if_neg (new _ hD)];refine⟨-((bt bs' (eD ss f.2)-f.2.2*L.getD f.2.1 0)/P),?_⟩;have:=Yck (bt bs' (eD ss f.2)-f.2.2*L.getD f.2.1 0) P;rw[<- hv]at this;unfold eL;rw[Int.mul_neg];omega
    ·have hi':i<j:=by omega
     obtain⟨o1,oS,oD⟩:=hF.en i f' ei';have bS':=hF.bd f'.1 (Yaj _ (jda ei'));have bD':=hF.bd _ (jhl oD);have old:∀y,y∈(w:Int)::fky (fs.take i)->y∈(w:Int)::fky (fs.take j):=λy hy=>by
      rcases YaO.mp hy with z|z
      ·rw[z];simp
      ·obtain⟨i2,f2,hi2,e2,e3⟩:=jbZ z;refine Yaj _ (List.mem_map.mpr ⟨f2,?_,e3⟩);exact Yam (i:=i2) (by rw[Yfd,if_pos (by omega)];exact e2)
     have mS:f'.1∈(w:Int)::fky (fs.take j):=by
      refine Yaj _ (List.mem_map.mpr ⟨f',?_,rfl⟩);exact Yam (i:=i) (by rw[Yfd,if_pos hi'];exact ei')
     have:=h2 i f' hi' ei';unfold Kp at this ⊢;rw[oS]at this ⊢;rw[hset _ bS'.1,if_neg (new _ mS),hset _ bD'.1,if_neg (new _ (old _ oD))];exact this
end

section
variable {ss:List Spn}{L:List Int}{P:Int}{bs:List Int}
theorem tel:∀{r:List Ent} {a b:Int},(∀e∈r,Kp ss L P bs e)->Wk ss r a b->P ∣ bt bs a+sumL L r-bt bs b
 |[],a,b,_,h=>by
  rw[show a=b from h];exact⟨0,by simp[sumL]⟩
 |e::r,a,b,hk,⟨_,h2,h3⟩=>by
  have h1:=hk e Yat;have ih:=tel (λe' he=>hk e' (Yaj _ he)) h3;have:=Int.dvd_add h1 ih;rw[h2]at this;have es:sumL L (e::r)=eL L e+sumL L r:=by simp[sumL]
  rw[es];have e2:bt bs a+eL L e-bt bs (eD ss e)+(bt bs (eD ss e)+sumL L r-bt bs b)=bt bs a+(eL L e+sumL L r)-bt bs b:=by omega
  rw[e2]at this;exact this
theorem Kp.flip {e:Ent}(h:Kp ss L P bs e)(he:EOk ss e):Kp ss L P bs (ja3 e):=by
 obtain⟨_,f2,f3⟩:=he.flip;unfold Kp at h ⊢;rw[f2,f3,jkQ];have:=Int.dvd_neg.mpr h;rw[show -(bt bs (eS ss e)+eL L e-bt bs (eD ss e))=bt bs (eD ss e) + -eL L e-bt bs (eS ss e) by omega]at this
 exact this
theorem jhk (e:Ent):ja3 (ja3 e)=e:=by unfold ja3;simp
theorem Tf.kp {fs:List (Int×Ent)}{e:Ent}(h:Tf fs e)(he:EOk ss e)(hk:∀f∈fs,Kp ss L P bs f.2):Kp ss L P bs e:=by
 obtain⟨f,hf,z|z⟩:=h
 ·rw[<- z];exact hk f hf
 ·have:=hk f hf;rw[z]at this;have:=this.flip he.flip.1;rw[jhk]at this;exact this
theorem jgj {r:List Ent}{a:Int}(hk:∀i,i<ss.length->Kp ss L P bs (i,1))(hw:Wk ss r a a):P ∣ sumL L r:=by
 have all:∀e∈r,Kp ss L P bs e:=λe he=>?_
 ·have:=tel all hw;rw[show bt bs a+sumL L r-bt bs a=sumL L r by omega]at this
  exact this
 ·have ok:=hw.all e he;have k1:=hk e.1 ok.1;rcases ok.2 with z|z
  ·rw[show e=(e.1,1)from YcZ rfl z];exact k1
  ·have:=k1.flip (e:=(e.1,1)) ⟨ok.1,.inl rfl⟩;rw[show ja3 (e.1,1)=e from YcZ rfl (by simp[ja3,z])]at this
   exact this
end
theorem IsP.apart {W:Nat}{es:List (Int×Int)}{ps:List (List Int)}(h:IsP W es ps){n:Nat}{p p':List Int}(hp:ps[n]?=some p)(hp':p'∈ps.take n){x:Int}(h1:x∈p)(h2:x∈p'):False:=by
 have e:=h.un p (Yam hp) p' (YeK hp') x h1 h2;subst e;obtain⟨i,hi,ei⟩:=YaE hp';rw[YbW]at hi;rw[Yfs]at ei;have a1:ps[i]?=some p:=by rw[Yaa (by omega),ei]
 have:=(Yft (by omega) h.nd).mp (a1.trans hp.symm)
 omega

def Kw (ss:List Spn)(P:Int)(ws:Wn)(b:List Int)(i:Nat):Prop:=∃l,(ws.getD i (0,0)).1<=l/\l<=(ws.getD i (0,0)).2/\P ∣ bt b (eS ss (i,1))+l-bt b (eD ss (i,1))
inductive Cs (ss:List Spn)(P:Int):Nat->Nat->Wn->U->Prop
 |ring {n:Nat} {ws:Wn} {r:List Ent} {a:Int}:Wk ss r a a->r≠[]->r.length<=30->Bar P ws r->Cs ss P n 1 ws (.tup [.str "ring",jcg r])
 |split {n m1 m2:Nat} {ws:Wn} {s:Nat} {l h cut:Int} {c1 c2:U}:ws[s]?=some (l,h)->l<=cut->cut<h->Cs ss P n m1 (ws.set s (l,cut)) c1->Cs ss P n m2 (ws.set s (cut+1,h)) c2->Cs ss P (n+1) (m1+m2+1) ws (.tup [.str "split",.int s,.int cut,c1,c2])
section
variable {ss:List Spn}{P:Int}{ws:Wn}{b:List Int}
theorem jmO (wl:ws.length=ss.length)(h:∀i,i<ss.length->Kw ss P ws b i):∃L,Wi L ws/\∀i,i<ss.length->Kp ss L P b (i,1):=by
 have ex:∀i,∃l,i<ss.length->(ws.getD i (0,0)).1<=l/\l<=(ws.getD i (0,0)).2/\P ∣ bt b (eS ss (i,1))+l-bt b (eD ss (i,1)):=λi=>by
  by_cases hi:i<ss.length
  ·obtain⟨l,hl⟩:=h i hi;exact⟨l,λ_=>hl⟩
  ·exact⟨0,λz=>absurd z hi⟩
 obtain⟨f,hf⟩:∃f:Nat->Int,∀i,i<ss.length->(ws.getD i (0,0)).1<=f i/\f i<=(ws.getD i (0,0)).2/\P ∣ bt b (eS ss (i,1))+f i-bt b (eD ss (i,1)):=⟨λi=>Classical.choose (ex i),λi=>Classical.choose_spec (ex i)⟩;have hg:∀i,i<ss.length->((YaX ss.length).map f).getD i 0=f i:=λi hi=>by simp[Ybg,hi]
 refine⟨(YaX ss.length).map f,⟨by simp[wl],λi w e=>?_⟩,λi hi=>?_⟩
 ·have hi:i<ss.length:=by rw[<- wl];exact(List.getElem?_eq_some_iff.mp e).1
  have:=hf i hi;rw[hg i hi];rw[getW e]at this;exact⟨this.1,this.2.1⟩
 ·unfold Kp;rw[eL_1 rfl,hg i hi];exact(hf i hi).2.2
theorem Wi.set {L:List Int}{s:Nat}{w:Int×Int}(h:Wi L ws)(h1:w.1<=L.getD s 0)(h2:L.getD s 0<=w.2):Wi L (ws.set s w):=by
 refine⟨by rw[Ybl];exact h.l,λi w' e=>?_⟩
 by_cases c:i=s
 ·subst c;have hi:i<ws.length:=by
   have:=(List.getElem?_eq_some_iff.mp e).1
   rwa [Ybl]at this
  rw[Ybe hi]at e;cases e;exact⟨h1,h2⟩
 ·rw[Ya2 (λz=>c z.symm)]at e;exact h.b i w' e
theorem Cs.no {n m:Nat}{ws:Wn}{c:U}(h:Cs ss P n m ws c)(p1:1<=P):ws.length=ss.length->∀L,Wi L ws->(∀i,i<ss.length->Kp ss L P b (i,1))->False:=by
 induction h with
 |@ring n ws r a hw _ _ hb=>
  intro wl L hL hk;have s:=hL.sum wl hw.all;obtain⟨q,hq⟩:=jgj hk hw;unfold Bar at hb;have:q<=sHi ws r/P:=Int.le_ediv_of_mul_le (by omega) (by rw[Ydz,<- hq];exact s.2)
  have:=Int.mul_le_mul_of_nonneg_right this (show 0<=P by omega)
  rw[Ydz q P]at this;omega
 |@split n m1 m2 ws s l h cut c1 c2 es h1 h2 _ _ ih1 ih2=>
  intro wl L hL hk;have b:=hL.b s _ es;by_cases c:L.getD s 0<=cut
  ·exact ih1 (by rw[Ybl];exact wl) L (hL.set b.1 c) hk
  ·exact ih2 (by rw[Ybl];exact wl) L (hL.set (by show cut+1<=_;omega) b.2) hk
theorem jhP (r:List Ent):Sml 2 (jcg r):=Sml.tup λu hu=>by
 obtain⟨e,_,rfl⟩:=List.mem_map.mp hu;exact Sml.tup λv hv=>by
  simp only[YaO,Yav,or_false]at hv;rcases hv with rfl|rfl<;>exact Sml.int _
theorem Cs.sml {n m:Nat}{ws:Wn}{c:U}(h:Cs ss P n m ws c):Sml (n+3) c:=by
 induction h with
 |@ring n ws r a _ _ _ _=>
  refine(Sml.tup (n:=2) λu hu=>?_).mono (by omega)
  simp only[YaO,Yav,or_false]at hu;rcases hu with rfl|rfl
  ·exact(Sml.str (by decide +kernel)).mono (by decide)
  ·exact jhP r
 |@split n m1 m2 ws s l h cut c1 c2 _ _ _ _ _ ih1 ih2=>
  refine(Sml.tup (n:=n+3) λu hu=>?_).mono (by omega)
  simp only[YaO,Yav,or_false]at hu;rcases hu with rfl|rfl|rfl|rfl|rfl
  ·exact(Sml.str (by decide +kernel)).mono (by omega)
  ·exact(Sml.int _).mono (by omega)
  ·exact(Sml.int _).mono (by omega)
  ·exact ih1
  ·exact ih2
structure Tm (P:Int)(fs:List (Int×Ent))(rs:List (List Ent))(ws ws':Wn):Prop where
 l:ws'.length=ws.length
 sub:∀(i:Nat) (w w':Int×Int),ws[i]?=some w->ws'[i]?=some w'->w.1<=w'.1/\w'.1<=w'.2/\w'.2<=w.2
 pt:∀f∈fs,∀w',ws'[f.2.1]?=some w'->w'.1=w'.2
 nb:∀r∈rs,¬Bar P ws' r
theorem Tm.kw {fs:List (Int×Ent)}{rs:List (List Ent)}{ws':Wn}{i:Nat}{s:Spn}(h:Tm P fs rs ws ws')(wl:ws.length=ss.length)(p1:1<=P)(hk:∀f∈fs,EOk ss f.2/\Kp ss (ws'.map (·.1)) P b f.2)(es:ss[i]?=some s)
  (hr:(∃f∈fs,f.2.1=i)\/∃r∈rs,CR ss fs i s r):Kw ss P ws b i:=by
 have il:=(List.getElem?_eq_some_iff.mp es).1;have ew:ws[i]?=some (ws[i]'(by omega)):=Yaa _
 have ew':ws'[i]?=some (ws'[i]'(by rw[h.l];omega)):=Yaa _
 generalize ws[i]'(by omega)=w at ew
 generalize ws'[i]'(by rw[h.l];omega)=w' at ew'
 have sb:=h.sub i w w' ew ew';have lw:(ws'.map (·.1)).getD i 0=w'.1:=jhi (by rw[Yan,ew'];rfl)
 unfold Kw;rw[getW ew];rcases hr with⟨f,hf,rfl⟩|⟨r,hr,cr⟩
 ·obtain⟨ok,kf⟩:=hk f hf;have k1:Kp ss (ws'.map (·.1)) P b (f.2.1,1):=by
   rcases ok.2 with z|z
   ·rw[show(f.2.1,(1:Int))=f.2 from YcZ rfl z.symm];exact kf
   ·have:=kf.flip ok;rw[show ja3 f.2=(f.2.1,1)from YcZ rfl (by simp[ja3,z])]at this
    exact this
  unfold Kp at k1;rw[eL_1 rfl,lw]at k1;exact⟨w'.1,sb.1,by omega,k1⟩
 ·have nb:=h.nb r hr;obtain⟨tl,rfl,ht⟩:=cr.tl;obtain⟨_,_,w3⟩:=cr.wk;have t:=tel (λe he=>(ht e he).kp (w3.all e he) λf hf=>(hk f hf).2) w3;have pts:∀r:List Ent,(∀e∈r,Tf fs e)->(∀e∈r,EOk ss e)->sLo ws' r=sumL (ws'.map (·.1)) r/\sHi ws' r=sumL (ws'.map (·.1)) r:=λr=>by
   induction r with
   |nil=>intros;exact⟨rfl,rfl⟩
   |cons e r ih=>
    intro h1 h2;obtain⟨i1,i2⟩:=ih (λx hx=>h1 x (Yaj _ hx)) λx hx=>h2 x (Yaj _ hx);obtain⟨f,hf,z⟩:=h1 e Yat;have ok:=h2 e Yat;have ef:f.2.1=e.1:=by rcases z with z|z<;>rw[z]<;>rfl
    have ee:ws'[e.1]?=some (ws'[e.1]'(by rw[h.l,wl];exact ok.1)):=Yaa _
    generalize ws'[e.1]'(by rw[h.l,wl];exact ok.1)=v at ee
    have pv:=h.pt f hf v (by rw[ef];exact ee)
    have lv:(ws'.map (·.1)).getD e.1 0=v.1:=jhi (by rw[Yan,ee];rfl)
    have one:wlo ws' e=eL (ws'.map (·.1)) e/\whi ws' e=eL (ws'.map (·.1)) e:=by
     unfold wlo whi;rw[getW ee];rcases ok.2 with z|z
     ·rw[if_pos z,if_pos z,eL_1 z,lv];omega
     ·rw[if_neg (by omega),if_neg (by omega),eL_m z,lv];omega
    have a1:sLo ws' (e::r)=wlo ws' e+sLo ws' r:=by simp[sLo]
    have a2:sHi ws' (e::r)=whi ws' e+sHi ws' r:=by simp[sHi]
    have a3:sumL (ws'.map (·.1)) (e::r)=eL (ws'.map (·.1)) e+sumL (ws'.map (·.1)) r:=by simp[sumL]
    rw[a1,a2,a3,one.1,one.2,i1,i2];exact⟨rfl,rfl⟩
  obtain⟨q1,q2⟩:=pts tl ht w3.all;generalize sumL (ws'.map (·.1)) tl=S at t q1 q2;have b1:sLo ws' ((i,1)::tl)=w'.1+S:=by
   have a1:sLo ws' ((i,1)::tl)=wlo ws' (i,1)+sLo ws' tl:=by simp[sLo]
   rw[a1,q1];unfold wlo;rw[if_pos rfl,getW ew']
  have b2:sHi ws' ((i,1)::tl)=w'.2+S:=by
   have a2:sHi ws' ((i,1)::tl)=whi ws' (i,1)+sHi ws' tl:=by simp[sHi]
   rw[a2,q2];unfold whi;rw[if_pos rfl,getW ew']
  unfold Bar at nb;rw[b1,b2]at nb;have m1:=Int.ediv_mul_le (w'.2+S) (show P≠0 by omega)
  rw[eD_1 es]at t;refine⟨(w'.2+S)/P*P-S,by omega,by omega,?_⟩
  rw[eS_1 es,eD_1 es];have d1:P ∣ (w'.2+S)/P*P:=⟨(w'.2+S)/P,Ydz _ _⟩;have:=Int.dvd_sub d1 t;rw[show(w'.2+S)/P*P-(bt b s.t+S-bt b s.o)=bt b s.o+((w'.2+S)/P*P-S)-bt b s.t by omega]at this
  exact this
end

section
variable {k:Nat}{G:Gp}{Q:K1}{X:KX}{xs:List Str}{ss:List Spn}{ws:Wn}{P:Int}{bu:U}
theorem jj8 {W0:Wn}(hw:W0=ws)(q0:(∀w∈ws,w.1<=w.2)->Q .non G)(q1:∀(i:Nat) (w:Int×Int),ws[i]?=some w->w.2<w.1->Q (.int i) G):jaa T (k+1) jct [wsU W0] G Q X:=by
 subst hw;refine⟨rfl,?_⟩;simp! only[jcB,jad,Yae,wsU];refine jaB (λi ς G'=>∃o1 o2 o3:Option U,ς=[some (wsU W0),o1,o2,o3]/\G'=G/\∀j w,j<i->W0[j]?=some w->w.1<=w.2) ?_ ?_ ⟨_,_,_,rfl,rfl,λj w h=>by omega⟩
 ·rintro ς G' ⟨o1,o2,o3,rfl,rfl,h⟩;rw[jb0,Yac]at h;refine⟨trivial,?_⟩;simp! only[];exact q0 λw hw=>by
   obtain⟨j,hj,e⟩:=YaE hw;exact h j w hj (by rw[Yaa hj,e])
 ·rintro i x ς G' K hx ⟨o1,o2,o3,rfl,rfl,h⟩ hk;obtain⟨u,hu,rfl⟩:=jb1 hx;rw[Yan]at hu;cases ew:W0[i]? with
  |none=>rw[ew]at hu;cases hu
  |some w=>
   rw[ew]at hu;have hu:=(Yar hu).symm;subst hu;refine⟨trivial,?_⟩;simp! only[wu];refine⟨trivial,trivial,?_⟩;by_cases c:w.2<w.1
   ·rw[if_pos (by simpa using c)]
    rw[show((0+i:Nat):Int)=(i:Int) by omega]
    exact q1 i w ew c
   ·rw[if_neg (by simpa using c)]
    refine hk _ _ ⟨_,_,_,rfl,rfl,λj w' hj ej=>?_⟩;by_cases e:j=i
    ·subst e;rw[ew]at ej;cases ej;omega
    ·exact h j w' (by omega) ej
theorem jj7 {fs:List (Int×Ent)}{pf:Addr}{o:Obj}(gf:G pf=some (.frk o (fkv fs)))(wl:ws.length=ss.length)(hf:∀f∈fs,EOk ss f.2)(q0:(∀f∈fs,∀w,ws[f.2.1]?=some w->¬w.1<w.2)->Q .non G)
  (q1:∀f∈fs,∀w,ws[f.2.1]?=some w->w.1<w.2->Q (.int f.2.1) G):jaa T (k+1) jcs [.loc pf,wsU ws] G Q X:=by
 refine⟨rfl,?_⟩;simp! only[jcA,jad,Yae,jhf gf];have ev:jcN (fkv fs)=fs.map λf=>eu f.2:=by unfold jcN fkv;rw[YaY];rfl
 rw[ev];refine jaB (λi ς G'=>∃o2 o3 o4 o5:Option U,ς=[some (.loc pf),some (wsU ws),o2,o3,o4,o5]/\G'=G/\∀f∈fs.take i,∀w,ws[f.2.1]?=some w->¬w.1<w.2) ?_ ?_ ⟨_,_,_,_,rfl,rfl,λf h=>by simp at h⟩
 ·rintro ς G' ⟨o2,o3,o4,o5,rfl,rfl,h⟩;rw[Yac,YaP]at h;refine⟨gf,?_⟩;simp! only[];exact q0 h
 ·rintro i x ς G' K hx ⟨o2,o3,o4,o5,rfl,rfl,h⟩ hk;rw[Yan]at hx;cases ef:fs[i]? with
  |none=>rw[ef]at hx;cases hx
  |some f=>
   rw[ef]at hx;cases hx;have fm:=Yam ef;have il:f.2.1<ws.length:=by rw[wl];exact(hf f fm).1
   have ew:ws[f.2.1]?=some ws[f.2.1]:=Yaa il;generalize ws[f.2.1]=w at ew;refine⟨gf,?_⟩;simp! only[eu,wsU,ix_t (atM ew),wu];refine⟨trivial,trivial,?_⟩;by_cases c:w.1<w.2
   ·rw[if_pos (by simpa using c)]
    exact q1 f fm w ew c
   ·rw[if_neg (by simpa using c)]
    refine hk _ _ ⟨_,_,_,_,rfl,rfl,λf' hf' w' ew'=>?_⟩;rw[Ya5,ef]at hf';rcases List.mem_append.mp hf' with z|z
    ·exact h f' z w' ew'
    ·rw[List.mem_singleton.mp z,ew]at ew';cases ew';exact c
theorem jgP {s:Nat}{w:Int×Int}(hs:s<ws.length)(wl:ws.length<=24)(q:Q (wsU (ws.set s w)) G):jaa T (k+1) ja1 [wsU ws,.int s,wu w] G Q X:=by
 refine⟨rfl,?_⟩;simp! only[jb2,jad,Yae,wsU];have e1:cut (ws.map wu) none (some (s:Int))=(ws.take s).map wu:=by rw[jeC,Yei]
 have e2:cut (ws.map wu) (some ((s:Int)+1)) none=(ws.drop (s+1)).map wu:=by
  have:=jfU (ws.map wu) (s+1);rw[Yej];exact this
 rw[e1,e2];refine⟨by decide,Yal (show _<=30 by simp;omega) (by decide),Yal (show _<=60 by simp;omega) (by decide),?_⟩
 have e3:(ws.take s).map wu++[wu w]++(ws.drop (s+1)).map wu=(ws.set s w).map wu:=by
  rw[Ydf,if_pos hs];simp
 rw[e3];exact q
theorem jgT {s:Nat}{w:Int×Int}(hs:ws[s]?=some w)(wl:ws.length<=24)(q:Q (.tup [.int ((w.1+w.2)/2),.tup [wsU (ws.set s (w.1,(w.1+w.2)/2)),wsU (ws.set s ((w.1+w.2)/2+1,w.2))]]) G):jaa T (k+2) jfA [wsU ws,.int s] G Q X:=by
 have il:=(List.getElem?_eq_some_iff.mp hs).1;refine⟨rfl,?_⟩;simp! only[jfT,jad,Yae,wsU,ix_t (atM hs)];show tgU _ (.tup [.int w.1,.int w.2]) _ _;simp! only[];refine⟨trivial,by decide,by decide,by decide,?_⟩
 refine jgP (ws:=ws) (w:=(w.1,(w.1+w.2)/2)) il wl ?_
 simp! only[];refine⟨by decide,?_⟩
 refine jgP (ws:=ws) (w:=((w.1+w.2)/2+1,w.2)) il wl ?_
 exact⟨by decide,by decide,q⟩
end

theorem Tm.of {P:Int}{fs:List (Int×Ent)}{rs:List (List Ent)}{ws side ws':Wn}{s:Nat}{w v:Int×Int}(hs:ws[s]?=some w)(e:side=ws.set s v)(h1:w.1<=v.1)(h2:v.2<=w.2)(h:Tm P fs rs side ws'):Tm P fs rs ws ws':=by
 subst e;have il:=(List.getElem?_eq_some_iff.mp hs).1;refine⟨by rw[h.l,Ybl],λi a b ea eb=>?_,h.pt,h.nb⟩
 by_cases c:i=s
 ·subst c;rw[hs]at ea;cases ea;have:=h.sub i v b (Ybe il) eb;omega
 ·exact h.sub i a b (by rw[Ya2 (λz=>c z.symm)];exact ea) eb
theorem jjn (n:Nat):(2:Int) ^ (n+1)=2*2 ^ n:=by rw[Int.pow_succ,Ydz]
theorem jmq {l h:Int}{n:Nat}(h1:l<h)(h2:h-l<2 ^ n):∃m,n=m+1/\(l+h)/2-l<2 ^ m/\h-((l+h)/2+1)<2 ^ m:=by
 cases n with
 |zero=>exact absurd h2 (by have:(2:Int) ^ 0=1:=rfl;omega)
 |succ m=>
  refine⟨m,rfl,?_⟩;rw[jjn]at h2;generalize (2:Int) ^ m=x at h2;omega
noncomputable def jel (e:Nat->Nat)(s m i:Nat):Nat:=if i=s then m else e i
theorem jfp {e:Nat->Nat}{s m:Nat}(he:e s=m+1):∀{fs:List (Int×Ent)},(fs.map λf=>jel e s m f.2.1).sum<=(fs.map λf=>e f.2.1).sum/\((∃f∈fs,f.2.1=s)->(fs.map λf=>jel e s m f.2.1).sum<(fs.map λf=>e f.2.1).sum)
 |[]=>⟨Yag _,λ⟨_,h,_⟩=>(nomatch h)⟩
 |f::fs=>by
  obtain⟨h1,h2⟩:=jfp he (fs:=fs);simp only[YaB,List.sum_cons];by_cases c:f.2.1=s
  ·have e1:jel e s m f.2.1=m:=if_pos c;rw[e1,c,he];exact⟨by omega,λ_=>by omega⟩
  ·have e1:jel e s m f.2.1=e f.2.1:=if_neg c;rw[e1];refine⟨by omega,λ⟨f',hf',e'⟩=>?_⟩
   rcases YaO.mp hf' with z|z
   ·rw[z]at e';exact absurd e' c
   ·have:=h2 ⟨f',z,e'⟩;omega
def Sk (xs:List Str)(ss:List Spn)(P:Int)(fs:List (Int×Ent))(rs:List (List Ent))(pf pr:Addr)(o:Obj)(bu:U)(n:Nat):Prop:=
 ∀(k:Nat) (G:Gp) (Q:K1) (X:KX) (ws:Wn) (e:Nat->Nat),ws.length=ss.length->(∀w∈ws,w.1<=w.2)->(∀f∈fs,∀v,ws[f.2.1]?=some v->v.2-v.1<2 ^ (e f.2.1))->(fs.map λf=>e f.2.1).sum<=n->G pf=some (.frk o (fkv fs))->G pr=some (.lst (rs.map jcg))->
  (∀(c:U) (m:Nat) (G':Gp),Sa G G'->Cs ss P n m ws c->Q (.tup [.str "none",c]) G')->(∀(ws':Wn) (G':Gp),Sa G G'->Tm P fs rs ws ws'->Q (.tup [.str "times",wsU ws']) G')->jaa T (k+n+4) jfz [jae xs ss,.int P,bu,.loc pf,.loc pr,wsU ws] G Q X
section
variable {xs:List Str}{ss:List Spn}{P:Int}{fs:List (Int×Ent)}{rs:List (List Ent)}{pf pr:Addr}{o:Obj}{bu:U}{W w:Nat}
theorem jeb {n:Nat}(hF:Fst W ss w fs)(w8:W<=8)(sl:ss.length<=24)(p1:1<=P)(p2:P<=600)(hrs:∀r∈rs,∃i s,CR ss fs i s r)(ih:∀m,n=m+1->Sk xs ss P fs rs pf pr o bu m):Sk xs ss P fs rs pf pr o bu n:=by
 intro k G Q X ws e wl nv hm hs gf gr q1 q2;have hf:∀f∈fs,EOk ss f.2:=λf hf=>by
  obtain⟨j,hj,ej⟩:=YaE hf;exact(hF.en j f (by rw[Yaa hj,ej])).1
 have rl0:=jax _ _ hF.nd hF.bd;simp only[fky,Yaz,Yac]at rl0;refine⟨rfl,?_⟩;simp! only[jja,jad,Yae,it_l gr];refine jaB (λi ς G'=>∃o6:Option U,ς=[some (jae xs ss),some (.int P),some bu,some (.loc pf),some (.loc pr),some (wsU ws),o6,none,none,none,none,none,none,none]/\Sa G G'/\∀r∈rs.take i,¬Bar P ws r) ?_ ?_ ⟨_,rfl,Sa.refl,λr hr=>by simp at hr⟩
 ·rintro ς G1 ⟨o6,rfl,s1,nb⟩;rw[Yac,YaP]at nb;have gf1:=s1 _ _ gf;refine⟨by unfold lsG;rw[s1 _ _ gr],?_⟩
  simp! only[jfl];refine jj7 (ss:=ss) gf1 wl hf (λhn=>?_) λf fm v ev c=>?_
  ·have isn:∀kk:Bool->Prop,kk true->isU .non .non kk:=λ_ h=>h;simp! only[jdL];refine isn _ ?_;rw[if_pos rfl];refine⟨by decide,q2 ws G1 s1 ⟨rfl,λi a b ea eb=>?_,λf hf' v ev=>?_,nb⟩⟩
   ·rw[ea]at eb;cases eb;have:=nv a (Yam ea);omega
   ·have:=hn f hf' v ev;have:=nv v (Yam ev);omega
  ·have isn:∀kk:Bool->Prop,kk false->isU (.int (f.2.1:Int)) .non kk:=λ_ h=>h;simp! only[jdL];refine isn _ ?_;rw[if_neg (by decide)]
   obtain⟨m',hm',c1,c2⟩:=jmq c (hm f fm v ev);have dec:=(jfp (s:=f.2.1) hm' (fs:=fs)).2 ⟨f,fm,rfl⟩;obtain⟨m,rfl⟩:∃m,n=m+1:=⟨n-1,by omega⟩
   have il:=(List.getElem?_eq_some_iff.mp ev).1;generalize hcut:(v.1+v.2)/2=ct at c1 c2;have l1:v.1<=ct:=by omega
   have l2:ct<v.2:=by omega
   simp! only[jfk];refine jgT (ws:=ws) ev (by omega) ?_
   rw[hcut];simp! only[];refine⟨trivial,?_⟩;simp! only[jfj];refine⟨by decide,λpc G2 n2=>?_⟩
   simp! only[jfi];have side:∀(x:Int×Int),v.1<=x.1->x.1<=x.2->x.2<=v.2->x.2-x.1<2 ^ m'->(ws.set f.2.1 x).length=ss.length/\(∀y∈ws.set f.2.1 x,y.1<=y.2)/\∀f'∈fs,∀y,(ws.set f.2.1 x)[f'.2.1]?=some y->y.2-y.1<2 ^ (jel e f.2.1 m' f'.2.1):=λx x1 x2 x3 x4=>by
    refine⟨by rw[Ybl];exact wl,λy hy=>?_,λf' hf' y ey=>?_⟩
    ·rcases Yd7 hy with z|z
     ·exact nv y z
     ·rw[z];exact x2
    ·by_cases z:f'.2.1=f.2.1
     ·rw[z,Ybe il]at ey;cases ey;rw[show jel e f.2.1 m' f'.2.1=m' from if_pos z];exact x4
     ·rw[Ya2 (λy=>z y.symm)]at ey;rw[show jel e f.2.1 m' f'.2.1=e f'.2.1 from if_neg z];exact hm f' hf' y ey
   refine jaB (λj ς G'=>∃(cs:List U) (o11 o12 o13:Option U),ς=[some (jae xs ss),some (.int P),some bu,some (.loc pf),some (.loc pr),some (wsU ws),o6,some (.int f.2.1),some (.int ct),some (.tup [wsU (ws.set f.2.1 (v.1,ct)),wsU (ws.set f.2.1 (ct+1,v.2))]),some (.loc pc),o11,o12,o13]/\Sa G G'/\G' pc=some (.lst cs)/\cs.length=j/\(∀c,cs[0]?=some c->∃n,Cs ss P m n (ws.set f.2.1 (v.1,ct)) c)/\∀c,cs[1]?=some c->∃n,Cs ss P m n (ws.set f.2.1 (ct+1,v.2)) c) ?_ ?_ ⟨[],_,_,_,rfl,s1.trans n2.sa,n2.at,rfl,λc h=>by simp at h,λc h=>by simp at h⟩
   ·rintro ς G3 ⟨cs,o11,o12,o13,rfl,s3,g3,cl,h1,h2⟩;have cl:cs.length=2:=cl;refine⟨trivial,?_⟩;obtain⟨ca,cb,rfl⟩:∃a b,cs=[a,b]:=by
     match cs,cl with
     |[a,b],_=>exact⟨a,b,rfl⟩
    obtain⟨n1,k1⟩:=h1 ca rfl;obtain⟨n2',k2⟩:=h2 cb rfl;simp! only[jfh,ix_l g3 (jaV _ _),ix_l g3 (jat _ _ _)];exact⟨by decide,by decide,q1 _ _ G3 s3 (.split ev l1 l2 k1 k2)⟩
   ·rintro j x ς G3 K hx ⟨cs,o11,o12,o13,rfl,s3,g3,cl,h1,h2⟩ hk;have gf3:=s3 _ _ gf;have gr3:=s3 _ _ gr;have npc:G pc=none:=jdO s1 n2.no;have frm:∀{Ga Gb:Gp} {u:MO},Sa G Ga->Put Ga pc u Gb->Sa G Gb:=λ{Ga Gb u} s w b z e=>w.sm _ _ (λy=>by rw[y,npc]at e;cases e) (s b z e)
    refine⟨trivial,?_⟩;simp! only[];have go:∀(y:Int×Int),v.1<=y.1->y.1<=y.2->y.2<=v.2->y.2-y.1<2 ^ m'->(∀(c:U) (n:Nat),Cs ss P m n (ws.set f.2.1 y) c->∀G',Sa G G'->G' pc=some (.lst (cs++[c]))->∀o12 o13,K [some (jae xs ss),some (.int P),some bu,some (.loc pf),some (.loc pr),some (wsU ws),o6,some (.int f.2.1),some (.int ct),some (.tup [wsU (ws.set f.2.1 (v.1,ct)),wsU (ws.set f.2.1 (ct+1,v.2))]),some (.loc pc),some (wsU (ws.set f.2.1 y)),o12,o13] G')->
      jaa T (k+m+4) jfz [jae xs ss,.int P,bu,.loc pf,.loc pr,wsU (ws.set f.2.1 y)] G3 (λu G1=>tgU (.t (.cons (.n 12) (.cons (.n 13) .nil))) u [some (jae xs ss),some (.int P),some bu,some (.loc pf),some (.loc pr),some (wsU ws),o6,some (.int f.2.1),some (.int ct),some (.tup [wsU (ws.set f.2.1 (v.1,ct)),wsU (ws.set f.2.1 (ct+1,v.2))]),some (.loc pc),some (wsU (ws.set f.2.1 y)),o12,o13] λς'=>slot ς' 12 λu=>cmpU .Eq u (.str "times") G1 λb=>if b=true then slot ς' 13 λu=>0+1+1<=Yah/\Q (.tup [.str "times",u]) G1 else slot ς' 10 λu=>match mtU .append u G1 with
       |some _=>slot ς' 13 λu_1=>jaU .append u [u_1] G1 λ_ G1=>K ς' G1
       |none=>False) λx G1=>X x G1:=λy y1 y2 y3 y4 add=>by
     obtain⟨a1,a2,a3⟩:=side y y1 y2 y3 y4;refine ih m rfl k G3 _ _ _ (jel e f.2.1 m') a1 a2 a3 (by omega) gf3 gr3 (λc n' G4 s4 hc=>?_) λws' G4 s4 ht=>?_
     ·have g4:=s4 _ _ g3;simp! only[];refine⟨trivial,?_⟩;rw[if_neg (by decide +kernel)]
      simp! only[jaZ g4,jcI g4];refine⟨YaL (show cs.length<=2 by have:=(List.getElem?_eq_some_iff.mp hx).1;simp at this;omega) (by decide),λG5 p5=>?_⟩
      exact add c n' hc G5 (frm (s3.trans s4) p5) p5.at _ _
     ·simp! only[];refine⟨trivial,?_⟩;rw[if_pos (by decide +kernel)]
      simp! only[];exact⟨by decide,q2 ws' G4 (s3.trans s4) (Tm.of ev rfl y1 y3 ht)⟩
    rw[show k+(m+1)+3=k+m+4 by omega]
    match j,hx,cl with
    |0,hx,cl=>
     have hx:wsU (ws.set f.2.1 (v.1,ct))=x:=Yar hx;subst hx;have e0:cs=[]:=List.length_eq_zero_iff.mp cl;subst e0;refine go (v.1,ct) (Yfh _) l1 (by show ct<=v.2;omega) c1 λc n' hc G4 s4 g4 a b=>hk _ _ ⟨[c],_,_,_,rfl,s4,g4,rfl,λc' h=>?_,λc' h=>by simp at h⟩
     cases h;exact⟨n',hc⟩
    |1,hx,cl=>
     have hx:wsU (ws.set f.2.1 (ct+1,v.2))=x:=Yar hx;subst hx;obtain⟨c0,rfl⟩:∃c,cs=[c]:=by
      match cs,cl with
      |[c],_=>exact⟨c,rfl⟩
     refine go (ct+1,v.2) (by show v.1<=ct+1;omega) (by show ct+1<=v.2;omega) (Yfh _) c2 λc n' hc G4 s4 g4 a b=>hk _ _ ⟨[c0,c],_,_,_,rfl,s4,g4,rfl,λc' h=>?_,λc' h=>?_⟩
     ·cases h;exact h1 _ rfl
     ·cases h;exact⟨n',hc⟩
    |j+2,hx,cl=>simp at hx
 ·rintro i x ς G1 K hx ⟨o6,rfl,s1,nb⟩ hk;rw[Yan]at hx;cases er:rs[i]? with
  |none=>rw[er]at hx;cases hx
  |some r=>
   rw[er]at hx;cases hx;obtain⟨j,s,hr⟩:=hrs r (Yam er);have rl1:=hr.l;obtain⟨t,ht,_⟩:=hr.tl;refine⟨by unfold lsG;rw[s1 _ _ gr],?_⟩
   simp! only[];refine jkd (xs:=xs) (k:=k+n) wl hr.wk.all (by omega) p1 p2 λG2 s2=>?_
   simp! only[];by_cases c:Bar P ws r
   ·rw[if_pos (by simpa using c)]
    exact⟨by decide,by decide,q1 _ 1 G2 (s1.trans s2) (.ring hr.wk (by rw[ht];simp) (by omega) c)⟩
   ·rw[if_neg (by simpa using c)]
    refine hk _ _ ⟨_,rfl,s1.trans s2,λr' hr'=>?_⟩;rw[Ya5,er]at hr';rcases List.mem_append.mp hr' with z|z
    ·exact nb r' z
    ·rw[List.mem_singleton.mp z];exact c
theorem jka (n:Nat)(hF:Fst W ss w fs)(w8:W<=8)(sl:ss.length<=24)(p1:1<=P)(p2:P<=600)(hrs:∀r∈rs,∃i s,CR ss fs i s r):Sk xs ss P fs rs pf pr o bu n:=by
 induction n with
 |zero=>exact jeb hF w8 sl p1 p2 hrs λm h=>(nomatch h)
 |succ n ih=>exact jeb hF w8 sl p1 p2 hrs λm h=>by cases h;exact ih
end

theorem gs24:T.gs=[.int 300]:=rfl
section
variable {k:Nat}{G:Gp}{Q:K1}{X:KX}{xs:List Str}{ss:List Spn}{P:Int}{bs:List Int}{W:Nat}
theorem jdr {p:List Int}(pl:p.length<=8)(q:∀(a:Addr) (G':Gp),Sa G G'->G' a=some (.lst [])->Q (.loc a) G'):jaa T (k+1) jcZ [jaW p,.tup []] G Q X:=by
 refine⟨rfl,?_⟩;simp! only[jey,jad,Yae,jaW];refine⟨by rw[Yac];exact Yal pl (by decide),?_⟩
 refine jay (λi acc G'=>G'=G/\acc=[]) ?_ ?_ ⟨rfl,rfl⟩
 ·rintro acc G1 ⟨rfl,rfl⟩;exact⟨trivial,λa G2 n2=>q a G2 n2.sa n2.at⟩
 ·rintro i x acc G1 K hx ⟨rfl,rfl⟩ hk hn;rw[Yan]at hx;cases e:p[i]? with
  |none=>rw[e]at hx;cases hx
  |some z=>
   rw[e]at hx;have hx:=(Yar hx).symm;subst hx;refine⟨trivial,?_⟩;simp! only[];exact⟨rfl,rfl,hn _ ⟨rfl,rfl⟩⟩
section
variable {W:Nat}{es:List (Int×Int)}{ps:List (List Int)}
theorem jft (h:IsP W es ps)(w8:W<=8){p:List Int}(hp:p∈ps):p.length<=8:=
 Yal (jax W p ((h.as p hp).imp λ{a b} g e=>by omega) (h.bd p hp)) w8
theorem jh8 (h:IsP W es ps)(w0:0<W):1<=ps.length:=by
 obtain⟨p,hp,_⟩:=h.al 0 (by omega) (by omega)
 exact List.length_pos_of_mem hp
end
theorem jf9 (w0:0<xs.length)(w8:xs.length<=8)(so:∀s∈ss,s.Ok xs.length)(sl:ss.length<=24)(h1:1<=P)(h2:P<=300)(pw:P.toNat ^ (xs.length-1)<=300)
  (q:∀(z:Int) (G':Gp),z<=300->Sa G G'->Q (.int z) G'):jaa T (k+4) jej [jae xs ss,.int P,.tup []] G Q X:=by
 refine⟨rfl,?_⟩;simp! only[jez,jad,Yae];refine jcY so sl w8 λps G1 hP hs pl s1=>?_;have pn:=jh8 hP w0;simp! only[jgI];refine⟨by rw[Yac];exact Yal pl (by decide),?_⟩
 refine jay (λi acc G'=>Sa G1 G'/\acc=(ps.take i).map jaW) ?_ ?_ ⟨Sa.refl,rfl⟩
 ·rintro acc G2 ⟨s2,rfl⟩;rw[Yac,YaP];refine⟨trivial,λp3 G3 n3=>?_⟩;simp! only[jcU];simp! only[jcT,jae,ix_t (jaV _ _),Yac,jgd n3.at];refine⟨by omega,by omega,?_⟩
  refine jaB (λi ς G'=>G'=G3/\∃o5,ς=[some (jae xs ss),some (.int P),some (.tup []),some (.loc p3),some (.int ((P.toNat ^ i:Nat):Int)),o5]) ?_ ?_ ⟨rfl,_,rfl⟩
  ·rintro ς G4 ⟨rfl,o5,rfl⟩;rw[jaz];refine⟨trivial,?_⟩;simp! only[];refine q _ _ ?_ ((s1.trans s2).trans n3.sa);have:P.toNat ^ ((xs.length:Int)-((0:Nat):Int)-(ps.length:Int)).toNat<=300:=Yal (YeR (by omega) (by omega)) pw
   omega
  ·rintro i x ς G4 K hx ⟨rfl,o5,rfl⟩ hk;obtain⟨hi,rfl⟩:=ja0 hx;refine⟨trivial,?_⟩;simp! only[];have b1:P.toNat ^ i<=300:=Yal (YeR (by omega) (by omega)) pw
   generalize ez:P.toNat ^ i=z at b1;refine⟨.inr (by constructor<;>omega),hk _ _ ⟨rfl,some (.int (i:Int)),?_⟩⟩
   have e:((P.toNat ^ (i+1):Nat):Int)=(z:Int)*P:=by rw[Nat.pow_succ,ez,Int.natCast_mul];congr 1;omega
   rw[e]
 ·rintro i x acc G2 K hx ⟨s2,rfl⟩ hk hn;rw[Yan]at hx;cases e:ps[i]? with
  |none=>rw[e]at hx;cases hx
  |some z=>
   rw[e]at hx;have hx:=(Yar hx).symm;subst hx;refine⟨trivial,?_⟩;simp! only[];refine jdr (jft hP w8 (Yam e)) λa G3 s3 g3=>?_;rw[jhJ g3];rw[if_pos (by decide)]
   exact hk _ _ ⟨s2.trans s3,by rw[Ya5,e,YaJ];rfl⟩
theorem jgQ (w0:0<xs.length)(w8:xs.length<=8)(so:∀s∈ss,s.Ok xs.length)(sl:ss.length<=24)(h1:1<=P)(h2:P<=300)(pw:P.toNat ^ (xs.length-1)<=300)
  (q:∀(G':Gp),Sa G G'->Q .non G'):jaa T (k+5) jbu [jae xs ss,.int P,.tup []] G Q X:=by
 refine⟨rfl,?_⟩;simp! only[jbw,jad,Yae];refine jf9 w0 w8 so sl h1 h2 pw λz G1 hz s1=>?_;simp! only[gs24,glU];rw[if_neg (by simp;omega)]
 exact q _ s1
end

noncomputable def endZ (P:Int)(s:Spn):Int:=if s.lo+P-1<(if s.w = "span" then s.hi else P-s.hi) then s.lo+P-1 else if s.w = "span" then s.hi else P-s.hi
noncomputable def winO (P:Int)(ss:List Spn):Wn:=ss.map λs=>(s.lo,endZ P s)
theorem jmR {P:Int}{s:Spn}:endZ P s-s.lo<=P-1:=by unfold endZ;split<;>omega
section
variable {k:Nat}{G:Gp}{Q:K1}{X:KX}{xs:List Str}{ss:List Spn}{ws:Wn}{P:Int}{W:Nat}
theorem jmj {i:Nat}{s:Spn}(hs:ss[i]?=some s)(h:s.Ok W)(q:Q (.int (if s.w = "span" then s.hi else P-s.hi)) G):jaa T (k+1) jfy [jae xs ss,.int P,.int i] G Q X:=by
 refine⟨rfl,?_⟩;simp! only[jfS,jad,Yae,jae,ix_t (jat _ _ _),ix_t (atM hs),Spn.u];refine⟨trivial,?_⟩;rcases h.w with z|z
 ·rw[z,if_neg (by decide +kernel)]
  rw[z,if_neg (show ¬(("apart" : Str) = "span") by decide +kernel)]at q
  exact q
 ·rw[z,if_pos (by decide +kernel)]
  rw[z,if_pos rfl]at q;exact q
theorem jf8 (so:∀s∈ss,s.Ok W)(sl:ss.length<=24)(q:∀G',Sa G G'->Q (wsU (winO P ss)) G'):jaa T (k+3) jcq [jae xs ss,.int P] G Q X:=by
 refine⟨rfl,?_⟩;simp! only[jcy,jad,Yae,jae,ix_t (jat _ _ _),Yac];refine⟨by omega,by omega,by rw[jaz];exact Yal (show((ss.length:Int)).toNat<=24 by omega) (by decide),?_⟩
 refine jay (λi acc G'=>G'=G/\acc=(winO P (ss.take i)).map wu) ?_ ?_ ⟨rfl,rfl⟩
 ·rintro acc G' ⟨rfl,rfl⟩;rw[jaz,YaP];refine⟨trivial,λp G1 n1=>?_⟩;dsimp only;rw[it_l n1.at];exact q G1 n1.sa
 ·rintro i x acc G' K hx ⟨rfl,rfl⟩ hk _;obtain⟨hi,rfl⟩:=ja0 hx;have hi:i<ss.length:=by omega
  have es:ss[i]?=some ss[i]:=Yaa hi;refine⟨trivial,?_⟩;simp! only[];refine⟨rfl,?_⟩;simp! only[jdb,jad,Yae,jae,ix_t (jat _ _ _),ix_t (atM es)];show ixU (.tup [.str ss[i].w,.int ss[i].o,.int ss[i].t,.int ss[i].lo,.int ss[i].hi]) _ _ _;rw[ix_t (show atI [U.str ss[i].w,.int ss[i].o,.int ss[i].t,.int ss[i].lo,.int ss[i].hi] 3=some (.int ss[i].lo)from rfl)];simp! only[];refine jmj (xs:=xs) (P:=P) es (so _ (YbX hi)) ?_;simp! only[];refine⟨by decide,hk _ _ ⟨rfl,?_⟩⟩
  unfold winO;rw[Ya5,es,YaJ,YaJ];rfl
structure Pw (W:Nat)(ss:List Spn)(P:Int)(ws:Wn)(ps:List (List Int))(n:Nat)(bs:List Int):Prop where
 l:bs.length=W
 b:∀b∈bs,0<=b/\b<P
 k:∀i s,ss[i]?=some s->(∃p∈ps.take n,(s.o:Int)∈p)->Kw ss P ws bs i
theorem jkr {bs bs':List Int}{i:Nat}{s:Spn}(h:Kw ss P ws bs i)(hs:ss[i]?=some s)(h1:bt bs' s.o=bt bs s.o)(h2:bt bs' s.t=bt bs s.t):Kw ss P ws bs' i:=by
 unfold Kw at h ⊢;rw[eS_1 hs,eD_1 hs]at h ⊢;rw[h1,h2];exact h
theorem Pw.step {n w:Nat}{fs:List (Int×Ent)}{p:List Int}{ps:List (List Int)}{bs bs':List Int}(h:Pw W ss P ws ps n bs)(hP:IsP W (edg ss) ps)(hp:ps[n]?=some p)(he:∀x,x∈p↔x∈(w:Int)::fky fs)
  (l':bs'.length=W) (b':∀b∈bs',0<=b/\b<P) (s':∀x,0<=x->x∉fky fs->bt bs' x=bt bs x) (k':∀i s,ss[i]?=some s->(s.o:Int)∈p->Kw ss P ws bs' i):Pw W ss P ws ps (n+1) bs':=by
 have off:∀x,x∉p->x∉fky fs:=λx hx z=>hx ((he x).mpr (Yaj _ z));refine⟨l',b',λi s es ⟨p',hp',ho⟩=>?_⟩;rw[Ya5,hp]at hp';rcases List.mem_append.mp hp' with z|z
 ·have ht:(s.t:Int)∈p':=hP.part (YeK z) ho (.one (.inl (List.mem_map.mpr ⟨s,Yam es,rfl⟩)));exact jkr (h.k i s es ⟨p',z,ho⟩) es (s' _ (by omega) (off _ λz'=>hP.apart hp z z' ho)) (s' _ (by omega) (off _ λz'=>hP.apart hp z z' ht))
 ·rw[List.mem_singleton.mp z]at ho;exact k' i s es ho
theorem joz (so:∀s∈ss,s.Ok xs.length)(sl:ss.length<=24)(w0:0<xs.length)(w8:xs.length<=8)(p1:1<=P)(p2:P<=300)(pw:P.toNat ^ (xs.length-1)<=300)
  (q1:∀(c:U) (m:Nat) (G':Gp),Sa G G'->Cs ss P 70 m (winO P ss) c->Q (.tup [.str "none",c]) G')
  (q2:∀(bs:List Int) (G':Gp),Sa G G'->bs.length=xs.length->(∀b∈bs,0<=b/\b<P)->(∀i,i<ss.length->Kw ss P (winO P ss) bs i)->Q (.tup [.str "times",jaW bs]) G') :
  jaa T (k+75) jaP [jae xs ss,.int P,.tup [],.tup []] G Q X:=by
 have wl:(winO P ss).length=ss.length:=Yac _;refine⟨rfl,?_⟩;simp! only[jaQ,jad,Yae];refine jgQ (k:=k+69) w0 w8 so sl p1 p2 pw λG1 s1=>?_;simp! only[jaH];refine jf8 (k:=k+71) so sl λG2 s2=>?_;simp! only[jaG];refine jj8 (k:=k+73) (ws:=winO P ss) rfl (λnv=>?_) λi w ew c=>?_
 ·have isn:∀kk:Bool->Prop,kk true->isU .non .non kk:=λ_ h=>h;simp! only[jar];refine isn _ ?_;rw[if_neg (by decide)]
  simp! only[jaF,jae,ix_t (jaV _ _),Yac];refine⟨by omega,by omega,by rw[jaz];exact Yal (show((xs.length:Int)).toNat<=8 by omega) (by decide),?_⟩
  refine jaw (λ_=>.int 0) trivial (λu hu K hK=>?_) ?_
  ·obtain⟨i,_,rfl⟩:=List.mem_map.mp hu;simp! only[];exact⟨rfl,rfl,hK⟩
  intro p3 G3 n3;have e3:[]++(rngU 0 xs.length).map (λ_=>U.int 0)=(Yae xs.length (0:Int)).map .int:=by
   rw[Ya6,List.map_const',jaz,List.map_replicate]
  rw[e3]at n3;rw[it_l n3.at];refine(?_:jaN T.gs (jaa T (k+74)) jaq ⟨λ_ G'=>Q .non G',Q,λx _ G'=>X x G'⟩ [some (jae xs ss),some (.int P),some (.tup []),some (.tup []),some (wsU (winO P ss)),some .non,some (jaW (Yae xs.length 0)),none,none,none,none] G3)
  have s03:Sa G G3:=s1.trans (s2.trans n3.sa);simp! only[jaq];refine jcY (k:=k+71) (xs:=xs) so sl w8 λps G4 hP hS hl s4=>?_;simp! only[jgI];refine jaB (λn ς G'=>∃(bs:List Int) (o7 o8 o9 o10:Option U),ς=[some (jae xs ss),some (.int P),some (.tup []),some (.tup []),some (wsU (winO P ss)),some .non,some (jaW bs),o7,o8,o9,o10]/\Sa G G'/\Pw xs.length ss P (winO P ss) ps n bs) ?_ ?_
   ⟨Yae xs.length 0,_,_,_,_,rfl,s03.trans s4,by simp,λb hb=>by rw[List.eq_of_mem_replicate hb];omega,λi s _ ⟨p,hp,_⟩=>by simp at hp⟩
  ·rintro ς G5 ⟨bs,o7,o8,o9,o10,rfl,s5,pt⟩;rw[Yac]at pt;refine⟨trivial,?_⟩;simp! only[jaE];refine⟨by decide,q2 bs G5 s5 pt.l pt.b λi hi=>?_⟩
   have es:ss[i]?=some ss[i]:=Yaa hi;obtain⟨p,hp,hpo,_⟩:=hP.ed _ _ (List.mem_map.mpr ⟨ss[i],YbX hi,rfl⟩);exact pt.k i _ es ⟨p,by rw[YaP];exact hp,hpo⟩
  ·rintro n u ς G5 K hu ⟨bs,o7,o8,o9,o10,rfl,s5,pt⟩ hk;rw[Yan]at hu;cases ep:ps[n]? with
   |none=>rw[ep]at hu;cases hu
   |some p=>
    rw[ep]at hu;cases hu;have pm:=Yam ep;have pl:=jft hP w8 pm;obtain⟨x0,rest,rfl⟩:∃x r,p=x::r:=by
     cases p with
     |nil=>exact absurd rfl (hP.ne _ pm)
     |cons x r=>exact⟨x,r,rfl⟩
    have b0:=hP.bd _ pm x0 (by simp)
    obtain⟨w,rfl⟩:=Ya0 b0.1;refine⟨trivial,?_⟩;simp! only[];refine jdr (k:=k+73) pl λpa G6 s6 g6=>?_;rw[jhJ g6,if_neg (by simp)]
    simp! only[jaW];have ec:cut (U.int w::rest.map U.int) none (some 1)=[.int w]:=jeC (U.int w::rest.map U.int) 1;rw[ec];refine jds (k:=k+72) (r:=.tup [.int w]) (xs:=xs) so sl (show w<xs.length by omega) w8 (λ_ _ _ h=>h) λpf fs G7 s7 nf gf hF hC=>?_
    have mem:∀x,x∈(w:Int)::rest↔x∈(w:Int)::fky fs:=λx=>
     ⟨λhx=>(hP.co _ pm w (by simp) x hx).closed (S:=λz=>z∈(w:Int)::fky fs) (λa b ha e=>hC a b ha e) (by simp),λhx=>hP.part pm (by simp) (hF.rch.co x hx)⟩
    have rl0:=jax _ _ hF.nd hF.bd;simp only[fky,Yaz,Yac]at rl0;refine jgW (k:=k+70) (xs:=xs) (ps:=(w:Int)::rest) hF w8 sl gf hC (λx hx=>(mem x).mp hx) λpr rs o G8 s8 nr gr gf8 c1 c2 rl=>?_;have s68:Sa G6 G8:=λb u hb=>s8 _ _ (λz=>by rw[z,nf]at hb;cases hb) (s7 _ _ hb)
    have S8:Sa G G8:=(s5.trans s6).trans s68;have sk:=jka (xs:=xs) (rs:=rs) (pf:=pf) (pr:=pr) (o:=o) (bu:=jaW bs) 70 hF w8 sl p1 (show P<=600 by omega) c1
    refine sk k G8 _ _ (winO P ss) (λ_=>10) wl nv (λf hf v ev=>?_) ?_ gf8 gr (λc m G9 s9 hc=>?_) λws' G9 s9 ht=>?_
    ·obtain⟨s,hs,rfl⟩:=List.mem_map.mp (Yam ev);have:=jmR (P:=P) (s:=s);have e2:(2:Int) ^ 10=1024:=rfl;rw[e2];show endZ P s-s.lo<1024;omega
    ·have:∀l:List (Int×Ent),(l.map λ_=>10).sum=10*l.length:=λl=>by
      induction l with
      |nil=>rfl
      |cons a l ih=>rw[YaB,List.sum_cons,ih,Yaz];omega
     rw[this];omega
    ·simp! only[];refine⟨trivial,?_⟩;rw[if_pos (by decide +kernel)]
     exact⟨by decide,q1 c m G9 (S8.trans s9) hc⟩
    ·simp! only[];refine⟨trivial,?_⟩;rw[if_neg (by decide +kernel)]
     simp! only[wsU];refine⟨by rw[Yac,ht.l,wl];exact Yal sl (by decide),?_⟩
     refine jaw (λu=>match u with|.tup [a,_]=>a|u=>u) trivial (λu hu K hK=>?_) ?_
     ·obtain⟨v,_,rfl⟩:=List.mem_map.mp hu;show tgU _ (.tup [.int v.1,.int v.2]) _ _;simp! only[];exact⟨trivial,hK⟩
     intro pl' Ga na;have ea:[]++(ws'.map wu).map (λu=>match u with|.tup [a,_]=>a|u=>u)=(ws'.map (·.1)).map U.int:=by
      rw[Ya6,YaY,YaY];rfl
     rw[ea]at na;have lu:Lu ss Ga (.loc pl') (ws'.map (·.1)):=⟨by rw[Yac,ht.l,wl],.inl ⟨pl',rfl,na.at⟩⟩
     refine jij (k:=k+72) (xs:=xs) hF w8 lu p1 (show P<=600 by omega) pt.l pt.b (na.sa _ _ (s9 _ _ gf8)) λbs' Gb sb l7 b7 e7 k7=>?_
     simp! only[];refine hk _ _ ⟨bs',_,_,_,_,rfl,S8.trans (s9.trans (na.sa.trans sb)),pt.step hP ep mem l7 b7 e7 λi s es ho=>?_⟩;refine ht.kw wl p1 (λf hf=>⟨?_,k7 f hf⟩) es (c2 i s es ho);obtain⟨j,hj,ej⟩:=YaE hf;exact(hF.en j f (by rw[Yaa hj,ej])).1
 ·have isn:∀kk:Bool->Prop,kk false->isU (.int (i:Int)) .non kk:=λ_ h=>h;simp! only[jar];refine isn _ ?_;rw[if_pos (by decide)]
  have il:i<ss.length:=by rw[<- wl];exact(List.getElem?_eq_some_iff.mp ew).1
  have es:ss[i]?=some ss[i]:=Yaa il;refine⟨by decide,by decide,by decide,by decide,by decide,q1 (.tup [.str "ring",jcg [(i,1),(i,-1)]]) 1 G2 (s1.trans s2) (.ring (a:=(ss[i].o:Int)) ⟨⟨il,.inl rfl⟩,eS_1 es,⟨il,.inr rfl⟩,?_,eD_m es⟩ (by simp) (by simp) ?_)⟩
  ·rw[eS_m es,eD_1 es]
  ·have a1:sLo (winO P ss) [(i,1),(i,-1)]=w.1-w.2:=by
    have:sLo (winO P ss) [(i,1),(i,-1)]=wlo (winO P ss) (i,1)+(wlo (winO P ss) (i,-1)+0):=by simp[sLo]
    rw[this];unfold wlo;rw[if_pos rfl,if_neg (show ¬((-1:Int)=1) by decide),getW ew];omega
   have a2:sHi (winO P ss) [(i,1),(i,-1)]=w.2-w.1:=by
    have:sHi (winO P ss) [(i,1),(i,-1)]=whi (winO P ss) (i,1)+(whi (winO P ss) (i,-1)+0):=by simp[sHi]
    rw[this];unfold whi;rw[if_pos rfl,if_neg (show ¬((-1:Int)=1) by decide),getW ew];omega
   unfold Bar;rw[a1,a2];have:=Int.ediv_mul_le (w.2-w.1) (show P≠0 by omega)
   omega
theorem jia (so:∀s∈ss,s.Ok xs.length)(sl:ss.length<=24)(w0:0<xs.length)(w8:xs.length<=8)(p1:1<=P)(p2:P<=300)(pw:P.toNat ^ (xs.length-1)<=300)
  (q1:∀(c:U) (m:Nat) (G':Gp),Sa G G'->Cs ss P 70 m (winO P ss) c->Q (.tup [.str "none",c]) G')
  (q2:∀(bs:List Int) (G':Gp),Sa G G'->bs.length=xs.length->(∀b∈bs,0<=b/\b<P)->(∀i,i<ss.length->Kw ss P (winO P ss) bs i)->Q (.tup [.str "times",jaW bs]) G') :
  jaa T (k+76) jbj [jae xs ss,.int P] G Q X:=by
 refine⟨rfl,?_⟩;simp! only[jbn,jad,Yae];exact⟨by decide,by decide,joz (k:=k) so sl w0 w8 p1 p2 pw q1 q2⟩
end

theorem jmI {z:Int}{G:Gp}{Q:K1}:jeq [.int z,.ty "int"] G Q=Q (.bl true) G:=rfl
theorem jmJ {z:Int}{G:Gp}{Q:K1}:jeq [.int z,.ty "bool"] G Q=Q (.bl false) G:=rfl
theorem jfD {us:List U}{G:Gp}{Q:K1}:jeq [.tup us,.ty "tuple"] G Q=Q (.bl true) G:=rfl
section
variable {k:Nat}{G:Gp}{Q:K1}{X:KX}{xs:List Str}{ss:List Spn}{L:List Int}{P:Int}{W:Nat}
theorem jiO {s:Spn}(h:s.Ok W)(q:Q (.int (endZ P s)) G):jaa T (k+1) jc4 [.int P,s.u] G Q X:=by
 refine⟨rfl,?_⟩;simp! only[jeA,jad,Yae,Spn.u,ix_t (jaV _ _),ix_t (jat _ _ _)];unfold endZ at q;rcases h.w with z|z
 ·rw[z,if_neg (by decide +kernel)]
  rw[z,if_neg (show ¬(("apart" : Str) = "span") by decide +kernel)]at q
  exact q
 ·rw[z,if_pos (by decide +kernel)]
  rw[z,if_pos rfl]at q;exact q
theorem jbO {z a b:Int}(q:Q (.bl (decide (a<=z)&&decide (z<=b))) G):jaa T (k+1) jaA [.int z,.int a,.int b] G Q X:=by
 refine⟨rfl,?_⟩;simp! only[jde,jad,Yae,jmI,jmJ];by_cases c:a<=z
 ·rw[decide_eq_true c]at q ⊢;exact q
 ·rw[decide_eq_false c]at q ⊢;exact q
theorem jif {e:Ent}(h:EOk ss e)(q:Q (.tup [.int (eS ss e),.int (eD ss e)]) G):jaa T (k+2) jdv [jae xs ss,.tup [],eu e] G Q X:=by
 obtain⟨s,hs,z⟩:=h.get;have il:=h.1;refine⟨rfl,?_⟩;simp! only[jdD,jad,Yae,eu,jfD];refine⟨by decide,rfl,by decide,?_⟩
 simp! only[jcp,jco,jae,ix_t (jaV _ _),ix_t (jat _ _ _),Yac];refine jbO ?_;rw[decide_eq_true (show(0:Int)<=(e.1:Int) by omega),decide_eq_true (show(e.1:Int)<=(ss.length:Int)-1 by omega)]
 simp! only[];refine jbO ?_;rw[decide_eq_true (show(-1:Int)<=e.2 by have:=h.2;omega),decide_eq_true (show e.2<=(1:Int) by have:=h.2;omega)]
 simp! only[jcn,ix_t (jaV _ _),ix_t (jat _ _ _),ix_t (atM hs)];rw[if_neg (by decide),if_neg (by have:=h.2;simp;omega)]
 simp! only[Spn.u,ix_t (jat _ _ _)];rcases z with⟨z,h1,h2⟩|⟨z,h1,h2⟩
 ·rw[show e.2=1 by rw[z],if_pos (by decide)]
  rw[h1,h2]at q;exact⟨by decide,q⟩
 ·rw[show e.2=-1 by rw[z],if_neg (by decide)]
  rw[h1,h2]at q;exact⟨by decide,q⟩
theorem Wk.next:∀{r:List Ent} {a b:Int},Wk ss r a b->∀{i:Nat} {e e':Ent},r[i]?=some e->r[i+1]?=some e'->eD ss e=eS ss e'
 |[],_,_,_,i,e,_,h,_=>by simp at h
 |[x],_,_,_,0,e,e',_,h=>by simp at h
 |x::y::r,_,_,⟨_,_,_,h3,_⟩,0,e,e',he,he'=>by
  simp at he he';rw[<- he,<- he',h3]
 |x::r,_,_,⟨_,_,h⟩,i+1,e,e',he,he'=>Wk.next h (i:=i) (by simpa using he) (by simpa using he')
theorem Wk.first {r:List Ent}{a b:Int}(h:Wk ss r a b){e:Ent}(he:r[0]?=some e):eS ss e=a:=by
 cases r with
 |nil=>simp at he
 |cons x r=>simp at he;rw[<- he];exact h.2.1
theorem jkf {p:Addr}{r:List Ent}{kk:Bool->Prop}(g:G p=some (.lst (r.map λe=>U.tup [.int (eS ss e),.int (eD ss e)])))(q:kk false):inU .non (.loc p) G kk:=by
 unfold inU;dsimp only;rw[g];have du:∀r:List Ent,DUs G (r.map λe=>U.tup [.int (eS ss e),.int (eD ss e)]) (r.map λe=>Yeg [.int (eS ss e),.int (eD ss e)]):=λr=>by
  induction r with
  |nil=>exact .nil
  |cons e r ih=>exact .cons (.tup (.cons (.int _) (.cons (.int _) .nil))) ih
 refine .inr ⟨.none,_,.non,du r,⟨rfl,by decide⟩,λe he=>?_,?_⟩
 ·obtain⟨v,_,rfl⟩:=List.mem_map.mp he;exact⟨rfl,by show max 0 (max 0 0)+1<=100;decide⟩
 ·have:(r.map λe=>Yeg [.int (eS ss e),.int (eD ss e)]).any (λe=>YaD e .none)=false:=by
   rw[List.any_map,Yfu];intro e _ h;cases h
  rw[this];exact q
theorem jkO {p p':Addr}{kk:Bool->Prop}(g:G p=some (.lst []))(g':G p'=some (.lst []))(q:kk true):cmpU .Eq (.loc p) (.loc p') G kk:=by
 refine(?_:eqU (.loc p) (.loc p') G kk);exact⟨.list [],.list [],.lst (by unfold lsG;rw[g]) .nil,.lst (by unfold lsG;rw[g']) .nil,⟨rfl,by decide⟩,⟨rfl,by decide⟩,q⟩
theorem jie {r:List Ent}{a:Int}(hw:Wk ss r a a)(hn:r≠[])(rl:r.length<=30)(q:∀G',Sa G G'->Q (.bl true) G'):jaa T (k+3) jbQ [jae xs ss,.tup [],jcg r] G Q X:=by
 have r1:1<=r.length:=by cases r with|nil=>exact absurd rfl hn|cons _ _=>simp
 refine⟨rfl,?_⟩;simp! only[jb4,jad,Yae,jcg,jfD,Yac];rw[decide_eq_true (show(1:Int)<=(r.length:Int) by omega),decide_eq_true (show(r.length:Int)<=60 by omega)]
 simp! only[jbf];refine⟨by rw[Yac];exact Yal rl (by decide),?_⟩
 refine jaw (λu=>match u with|.tup [.int x,.int y]=>.tup [.int (eS ss (x.toNat,y)),.int (eD ss (x.toNat,y))]|u=>u) trivial (λu hu K hK=>?_) ?_
 ·obtain⟨e,he,rfl⟩:=List.mem_map.mp hu;simp! only[];exact jif (hw.all e he) hK
 intro p1 G1 n1;have e1:[]++(r.map eu).map (λu=>match u with|.tup [.int x,.int y]=>U.tup [.int (eS ss (x.toNat,y)),.int (eD ss (x.toNat,y))]|u=>u)=r.map λe=>U.tup [.int (eS ss e),.int (eD ss e)]:=by
  rw[Ya6,YaY];rfl
 rw[e1]at n1;simp! only[jbe];refine jkf n1.at ?_;rw[if_neg (by decide)]
 simp! only[jbd,jgd n1.at,Yac];refine⟨by omega,by omega,by rw[jaz];exact Yal (show((r.length:Int)).toNat<=30 by omega) (by decide),?_⟩
 refine jay (λ_ acc G'=>acc=[]/\G'=G1) ?_ ?_ ⟨rfl,rfl⟩
 ·rintro acc G' ⟨rfl,rfl⟩;refine⟨trivial,λp2 G2 n2=>⟨by decide,λp3 G3 n3=>?_⟩⟩
  exact jkO (n3.sa _ _ n2.at) n3.at (q G3 ((n1.sa.trans n2.sa).trans n3.sa))
 ·rintro i x acc G' K hx ⟨rfl,rfl⟩ _ hkn;obtain⟨hi,rfl⟩:=ja0 hx;have hi:i<r.length:=by omega
  obtain⟨e,he⟩:∃e,r[i]?=some e:=⟨_,Yaa hi⟩;obtain⟨e0,h0,hd⟩:∃e0,atI (r.map λe=>U.tup [.int (eS ss e),.int (eD ss e)]) ((i:Int)-1)=some (U.tup [.int (eS ss e0),.int (eD ss e0)])/\eD ss e0=eS ss e:=by
   cases i with
   |zero=>
    rcases snoc r with z|⟨r',e0,z⟩
    ·exact absurd z hn
    ·refine⟨e0,?_,?_⟩
     ·refine(jbD _ r _).trans ?_;rw[z];unfold atI;rw[show ixN (r'++[e0]).length (((0:Nat):Int)-1)=some r'.length by unfold ixN;simp;omega]
      simp
     ·rw[z]at hw;rw[hw.last.2.2];exact(hw.first (by rw[<- z];exact he)).symm
   |succ j=>
    have hj:j<r.length:=by omega
    refine⟨r[j],?_,hw.next (Yaa hj) he⟩
    rw[show((j+1:Nat):Int)-1=(j:Int) by omega]
    exact atM (f:=λe=>U.tup [.int (eS ss e),.int (eD ss e)]) (Yaa hj)
  refine⟨trivial,?_⟩;simp! only[ix_l n1.at h0,ix_t (jat _ _ _),ix_l n1.at (atM (f:=λe=>U.tup [.int (eS ss e),.int (eD ss e)]) he),ix_t (jaV _ _),hd];exact hkn _ ⟨rfl,rfl⟩
end

section
variable {k:Nat}{G:Gp}{Q:K1}{X:KX}{xs:List Str}{ss:List Spn}{ws:Wn}{P:Int}{W:Nat}{b:List Int}
theorem jmw {i:Nat}{s:Spn}(es:ss[i]?=some s)(p1:1<=P):Kw ss P (winO P ss) b i↔s.lo+(bt b s.t-bt b s.o-s.lo)%P<=endZ P s:=by
 have ew:(winO P ss)[i]?=some (s.lo,endZ P s):=by unfold winO;rw[Yan,es];rfl
 have dm:=Yck (bt b s.t-bt b s.o-s.lo) P;have g0:=Ybs (bt b s.t-bt b s.o-s.lo) (show P≠0 by omega)
 unfold Kw;rw[getW ew,eS_1 es,eD_1 es];dsimp only;constructor
 ·rintro⟨l,h1,h2,d⟩;have e:(l-s.lo)%P=(bt b s.t-bt b s.o-s.lo)%P:=by
   refine Int.emod_eq_emod_iff_emod_sub_eq_zero.mpr (Int.emod_eq_zero_of_dvd ?_);rw[show l-s.lo-(bt b s.t-bt b s.o-s.lo)=bt b s.o+l-bt b s.t by omega]
   exact d
  have m1:=Yck (l-s.lo) P;have m2:=Int.mul_nonneg (show 0<=P by omega) (Int.ediv_nonneg (show 0<=l-s.lo by omega) (show 0<=P by omega))
  rw[e]at m1;omega
 ·intro h;refine⟨_,by omega,h,-((bt b s.t-bt b s.o-s.lo)/P),?_⟩
  rw[Int.mul_neg];omega
theorem jfu (so:∀s∈ss,s.Ok W)(sl:ss.length<=24)(bl:b.length=W)(p1:1<=P)(q:∀(p:Addr) (l:List Int) (G':Gp),Sa G G'->G' p=some (.lst (l.map .int))->(l=[]↔∀i,i<ss.length->Kw ss P (winO P ss) b i)->Q (.loc p) G'):jaa T (k+2) ja2 [jae xs ss,.int P,jaW b] G Q X:=by
 refine⟨rfl,?_⟩;simp! only[jdh,jad,Yae];refine⟨by decide,λp G1 n1=>?_⟩
 simp! only[jbL,jae,ix_t (jat _ _ _),Yac];refine⟨by omega,by omega,?_⟩
 have frm:∀{Ga Gb:Gp} {u:MO},Sa G Ga->Put Ga p u Gb->Sa G Gb:=λ{Ga Gb u} s w b z e=>w.sm _ _ (λy=>by rw[y,n1.no]at e;cases e) (s b z e)
 refine jaB (λi ς G'=>∃(l:List Int) (o4 o5 o6 o7 o8 o9 o10:Option U),ς=[some (jae xs ss),some (.int P),some (jaW b),some (.loc p),o4,o5,o6,o7,o8,o9,o10]/\Sa G G'/\G' p=some (.lst (l.map .int))/\l.length<=i/\(l=[]↔∀j,j<i->Kw ss P (winO P ss) b j)) ?_ ?_ ⟨[],_,_,_,_,_,_,_,rfl,n1.sa,n1.at,Yag _,⟨λ_ j h=>by omega,λ_=>rfl⟩⟩
 ·rintro ς G2 ⟨l,o4,o5,o6,o7,o8,o9,o10,rfl,s2,g2,ll,h⟩;rw[jaz]at h;refine⟨trivial,?_⟩;simp! only[];exact q p l G2 s2 g2 h
 ·rintro i x ς G2 K hx ⟨l,o4,o5,o6,o7,o8,o9,o10,rfl,s2,g2,ll,h⟩ hk;obtain⟨hi,rfl⟩:=ja0 hx;have hi:i<ss.length:=by omega
  have es:ss[i]?=some ss[i]:=Yaa hi;have os:=so _ (YbX hi);generalize ss[i]=s at es os;have o1:=os.o;have o2:=os.t;have kw:=jmw (b:=b) es p1;refine⟨trivial,?_⟩;simp! only[jae,ix_t (jat _ _ _),ix_t (atM es)];show tgU _ (.tup [.str s.w,.int s.o,.int s.t,.int s.lo,.int s.hi]) _ _;simp! only[jaW,ix_t (jhC (bs:=b) (x:=(s.t:Int)) (by omega) (by omega)),ix_t (jhC (bs:=b) (x:=(s.o:Int)) (by omega) (by omega))]
  refine⟨trivial,by omega,?_⟩
  simp! only[ix_t (jat _ _ _),ix_t (atM es)];refine jiO (k:=k) os ?_;simp! only[];by_cases c:endZ P s<s.lo+(bt b s.t-bt b s.o-s.lo)%P
  ·rw[if_pos (by simpa using c)]
   simp! only[jaZ g2,jcI g2];refine⟨by rw[Yac];exact YaL (show l.length<=24 by omega) (by decide),λG3 p3=>?_⟩
   refine hk _ _ ⟨l++[(i:Int)],_,_,_,_,_,_,_,rfl,frm s2 p3,by rw[YaJ];exact p3.at,by simp;omega,⟨λz=>by simp at z,λz=>?_⟩⟩
   have:=kw.mp (z i (by omega))
   omega
  ·rw[if_neg (by simpa using c)]
   refine hk _ _ ⟨l,_,_,_,_,_,_,_,rfl,s2,g2,by omega,⟨λz j hj=>?_,λz=>h.mpr λj hj=>z j (by omega)⟩⟩
   by_cases e:j=i
   ·subst e;exact kw.mpr (by omega)
   ·exact h.mp z j (by omega)
theorem jkb (so:∀s∈ss,s.Ok W)(sl:ss.length<=24)(q:∀G',Sa G G'->Q (wsU (winO P ss)) G'):jaa T (k+2) jbP [jae xs ss,.int P] G Q X:=by
 refine⟨rfl,?_⟩;simp! only[jb3,jad,Yae,jae,ix_t (jat _ _ _)];refine⟨by rw[Yac];exact Yal sl (by decide),?_⟩
 refine jay (λi acc G'=>G'=G/\acc=(winO P (ss.take i)).map wu) ?_ ?_ ⟨rfl,rfl⟩
 ·rintro acc G' ⟨rfl,rfl⟩;rw[Yac,YaP];refine⟨trivial,λp G1 n1=>?_⟩;dsimp only;rw[it_l n1.at];exact q G1 n1.sa
 ·rintro i x acc G' K hx ⟨rfl,rfl⟩ hk _;rw[Yan]at hx;cases es:ss[i]? with
  |none=>rw[es]at hx;cases hx
  |some s=>
   rw[es]at hx;cases hx;refine⟨trivial,?_⟩;simp! only[];show ixU (.tup [.str s.w,.int s.o,.int s.t,.int s.lo,.int s.hi]) _ _ _;rw[ix_t (show atI [U.str s.w,.int s.o,.int s.t,.int s.lo,.int s.hi] 3=some (.int s.lo)from rfl)];refine jiO (k:=k) (so s (Yam es)) ⟨by decide,hk _ _ ⟨rfl,?_⟩⟩
   unfold winO;rw[Ya5,es,YaJ,YaJ];rfl
theorem jid {r:List Ent}{bu:U}(wl:ws.length=ss.length)(hr:∀e∈r,EOk ss e)(q:Q (.tup [.int (sLo ws r),.int (sHi ws r)]) G):jaa T (k+1) jdt [bu,wsU ws,jcg r] G Q X:=by
 refine⟨rfl,?_⟩;simp! only[jdB,jad,Yae,jcm,jcg];refine jaB (λi ς G'=>∃(o5:Option U),ς=[some bu,some (wsU ws),some (.tup (r.map eu)),some (.int (sLo ws (r.take i))),some (.int (sHi ws (r.take i))),o5]/\G'=G) ?_ ?_ ⟨_,rfl,rfl⟩
 ·rintro ς G' ⟨o5,rfl,rfl⟩;rw[Yac,YaP];refine⟨trivial,?_⟩;simp! only[jcl];exact⟨by decide,q⟩
 ·rintro i x ς G' K hx ⟨o5,rfl,rfl⟩ hk;rw[Yan]at hx;cases ee:r[i]? with
  |none=>rw[ee]at hx;cases hx
  |some e=>
   rw[ee]at hx;cases hx;have ok:=hr e (Yam ee);have il:e.1<ws.length:=by rw[wl];exact ok.1
   have ew:ws[e.1]?=some ws[e.1]:=Yaa il;generalize ws[e.1]=w at ew;have a1:sLo ws (r.take (i+1))=sLo ws (r.take i)+wlo ws e:=by unfold sLo;rw[Ya5,ee];simp
   have a2:sHi ws (r.take (i+1))=sHi ws (r.take i)+whi ws e:=by unfold sHi;rw[Ya5,ee];simp
   refine⟨trivial,?_⟩;simp! only[eu];rw[if_neg (by decide)]
   simp! only[ix_t (jaV _ _),ix_t (jat _ _ _)];rcases ok.2 with z|z
   ·rw[z,if_pos (by decide)]
    simp! only[ix_t (jaV _ _),wsU,ix_t (atM ew),wu,ix_t (jat _ _ _)];refine hk _ _ ⟨some (eu e),?_,rfl⟩;rw[a1,a2];unfold wlo whi;rw[if_pos z,if_pos z,getW ew,eu,z];rfl
   ·rw[z,if_neg (by decide)]
    simp! only[ix_t (jaV _ _),wsU,ix_t (atM ew),wu,ix_t (jat _ _ _)];refine hk _ _ ⟨some (eu e),?_,rfl⟩;rw[a1,a2];unfold wlo whi;rw[if_neg (by omega),if_neg (by omega),getW ew,eu,z,Yfv,Yfv];rfl
theorem jig {lo hi:Int}(p1:1<=P)(p2:P<=600)(q:Q (.bl (decide (hi/P*P<lo))) G):jaa T (k+1) jdw [.int P,.tup [.int lo,.int hi]] G Q X:=by
 refine⟨rfl,?_⟩;simp! only[jdF,jad,Yae];exact⟨trivial,by omega,by omega,.inr (by constructor<;>omega),q⟩
end

section
variable {k:Nat}{G:Gp}{Q:K1}{X:KX}{xs:List Str}{ss:List Spn}{ws:Wn}{P:Int}{W:Nat}
theorem jkZ (ws:Wn):Sml 2 (wsU ws):=Sml.tup λu hu=>by
 obtain⟨w,_,rfl⟩:=List.mem_map.mp hu;exact Sml.tup λv hv=>by
  simp only[YaO,Yav,or_false]at hv;rcases hv with rfl|rfl<;>exact Sml.int _
theorem jiR {p p':Addr}{us:List U}{n:Nat}{kk:Bool->Prop}(h:∀u∈us,Sml n u)(hn:n<=90)(g:G p=some (.lst us))(g':G p'=some (.lst []))(q:kk us.isEmpty):eqU (.loc p) (.loc p') G kk:=by
 obtain⟨h1,h2,h3⟩:=smls h;refine⟨.list (pds us),.list [],.lst (by unfold lsG;rw[g]) (jho h1),.lst (by unfold lsG;rw[g']) .nil,⟨h2,by show YbC (pds us)+1<=100;omega⟩,⟨rfl,by decide⟩,?_⟩
 have:YaD (.list (pds us)) (.list [])=us.isEmpty:=by
  cases us with
  |nil=>rfl
  |cons u r=>
   show Ycm (pd u::pds r) []=false;unfold Ycm;rfl
 rw[this];exact q
theorem jlL {p:Addr}{us:List U}{u:U}{Q:K1}(g:G p=some (.lst (us++[u])))(q:∀G',Put G p (.lst us) G'->Q u G'):jaU .pop (.loc p) [] G Q:=by
 dsimp only[jaU];unfold popU;dsimp only;rw[g];dsimp only;have e1:(us++[u])[(us++[u]).length-1]?=some u:=by simp
 have e2:(us++[u]).dropLast=us:=by simp
 rw[e1,e2];exact λG' h=>q G' h
theorem jiX {x:Str}{G:Gp}{Q:K1}:jeq [.str x,.ty "str"] G Q=Q (.bl true) G:=rfl
theorem jfJ {w:Str}{n:Int}{kk:Bool->Prop}(h:(w = "ring" /\ n=2)\/(w = "split" /\ n=5))(q:kk true):inU (.tup [.str w,.int n]) (.tup [.tup [.str "ring",.int 2],.tup [.str "split",.int 5]]) G kk:=by
 have du:∀(x:Str) (i:Int),DU G (.tup [.str x,.int i]) (.tuple [.str x,.int i]):=λx i=>.tup (.cons (.str x) (.cons (.int i) .nil));have sm:∀(x:Str) (i:Int),Sml 1 (.tup [.str x,.int i])->Small (.tuple [.str x,.int i]):=λx i h=>h.small (by decide)
 have s1:Sml 1 (.tup [.str "ring",.int 2]):=Sml.tup λv hv=>by
  simp only[YaO,Yav,or_false]at hv;rcases hv with rfl|rfl
  ·exact Sml.str (by decide +kernel)
  ·exact Sml.int _
 have s2:Sml 1 (.tup [.str "split",.int 5]):=Sml.tup λv hv=>by
  simp only[YaO,Yav,or_false]at hv;rcases hv with rfl|rfl
  ·exact Sml.str (by decide +kernel)
  ·exact Sml.int _
 have all:∀e∈[Yeg [.str "ring",.int 2],.tuple [.str "split",.int 5]],Small e:=λe he=>by
  simp only[YaO,Yav,or_false]at he;rcases he with rfl|rfl
  ·exact sm _ _ s1
  ·exact sm _ _ s2
 rcases h with⟨rfl,rfl⟩|⟨rfl,rfl⟩
 ·refine⟨_,_,du _ _,.cons (du _ _) (.cons (du _ _) .nil),sm _ _ s1,all,?_⟩;rw[Yba,YcD _ (sm _ _ s1).1,Yew];exact q
 ·refine⟨_,_,du _ _,.cons (du _ _) (.cons (du _ _) .nil),sm _ _ s2,all,?_⟩;rw[Yba,Yba,YcD _ (sm _ _ s2).1,Yew,Bool.or_true];exact q
abbrev En3:=U×Wn×Nat
noncomputable def stU (x:En3):U:=.tup [x.1,wsU x.2.1]
def StOk (ss:List Spn)(P:Int)(i:Nat)(x:En3):Prop:=x.2.1.length=ss.length/\∃n,n+i<=71/\Cs ss P n x.2.2 x.2.1 x.1
theorem jlj {i:Nat}{x:En3}(h:StOk ss P i x):Sml 75 (stU x):=Sml.tup (n:=74) λu hu=>by
 obtain⟨_,n,hn,hc⟩:=h;simp only[YaO,Yav,or_false]at hu;rcases hu with rfl|rfl
 ·exact hc.sml.mono (by omega)
 ·exact(jkZ _).mono (by decide)
theorem jiD {s:Nat}{w:Int×Int}(hs:s<ws.length):cut (ws.map wu) none (some (s:Int))++[wu w]++cut (ws.map wu) (some ((s:Int)+1)) none=(ws.set s w).map wu:=by
 have e1:cut (ws.map wu) none (some (s:Int))=(ws.take s).map wu:=by rw[jeC,Yei]
 have e2:cut (ws.map wu) (some ((s:Int)+1)) none=(ws.drop (s+1)).map wu:=by
  have:=jfU (ws.map wu) (s+1);rw[Yej];exact this
 rw[e1,e2,Ydf,if_pos hs];simp
theorem jmY {lo hi:Option Int}{us:List U}:(cut us lo hi).length<=us.length:=by
 unfold cut;rw[YbW,Ydy];omega
theorem jh9 {bu:U}{c:U}{m:Nat}(so:∀s∈ss,s.Ok W)(sl:ss.length<=24)(p1:1<=P)(p2:P<=600)(hc:Cs ss P 70 m (winO P ss) c)(q:∀G',Sa G G'->Q .non G'):jaa T (k+4) jc1 [jae xs ss,.int P,bu,.tup [],c] G Q X:=by
 refine⟨rfl,?_⟩;simp! only[jdd,jad,Yae];refine jkb (k:=k+1) so sl λG1 s1=>⟨by decide,by decide,λpl G2 n2=>?_⟩
 simp! only[jbH];rw[S_wh];have npl:G pl=none:=jdO s1 n2.no;have frm:∀{Ga Gb:Gp} {u:MO},Sa G Ga->Put Ga pl u Gb->Sa G Gb:=λ{Ga Gb u} s w b z e=>w.sm _ _ (λy=>by rw[y,npl]at e;cases e) (s b z e)
 refine⟨λn ς G'=>∃(st:List En3) (i:Int) (o7 o8 o9 o10 o11 o12:Option U),ς=[some (jae xs ss),some (.int P),some bu,some (.tup []),some c,some (.loc pl),some (.int i),o7,o8,o9,o10,o11,o12]/\n=(st.map (·.2.2)).sum/\Sa G G'/\G' pl=some (.lst (st.map stU))/\∀j x,st[j]?=some x->StOk ss P j x,
  ⟨_,[(c,winO P ss,m)],0,_,_,_,_,_,_,rfl,rfl,s1.trans n2.sa,n2.at,λj x hx=>?_⟩,?_⟩
 ·match j,hx with
  |0,hx=>cases hx;exact⟨Yac _,70,by decide,hc⟩
  |j+1,hx=>simp at hx
 rintro n ς G3 ⟨st,i,o7,o8,o9,o10,o11,o12,rfl,rfl,s3,g3,hst⟩;simp! only[];refine⟨by decide,λpn G4 n4=>?_⟩
 have g4:=n4.sa _ _ g3;have s4:=s3.trans n4.sa;simp! only[];refine jiR (n:=75) (λu hu=>?_) (by decide) g4 n4.at ?_
 ·obtain⟨x,hx,rfl⟩:=List.mem_map.mp hu;obtain⟨j,hj,ej⟩:=YaE hx;exact jlj (hst j x (by rw[Yaa hj,ej]))
 rcases snoc st with rfl|⟨st',x,rfl⟩
 ·rw[if_neg (by simp)]
  simp! only[jbG];exact q G4 s4
 ·rw[if_pos (by simp)]
  rw[YaJ]at g4;simp! only[ja7,mt_pop g4];refine jlL g4 λG5 p5=>?_;have g5:=p5.at
  have s5:=frm s4 p5;obtain⟨xl,n',hn',hcx⟩:=hst st'.length x (by simp)
  have hst':∀j y,st'[j]?=some y->StOk ss P j y:=λj y ej=>hst j y (by rw[YaT (List.getElem?_eq_some_iff.mp ej).1];exact ej)
  obtain⟨xc,xw,xm⟩:=x;dsimp only at xl hcx;have msum:((st'++[(xc,xw,xm)]).map (·.2.2)).sum=(st'.map (·.2.2)).sum+xm:=by simp
  rw[msum];show tgU _ (.tup [xc,wsU xw]) _ _;cases hcx with
  |@ring _ _ r a hw hn rl hb=>
   simp! only[];refine⟨trivial,?_⟩;simp! only[jaL,jfD,ix_t (jaV _ _),jiX];rw[if_neg (by decide),if_neg (by decide),if_neg (by decide)]
   simp! only[jaK,ix_t (jaV _ _)];refine⟨by decide,by decide,by decide,by decide,jfJ (.inl ⟨rfl,rfl⟩) ?_⟩
   rw[if_neg (by decide)]
   simp! only[jaJ,ix_t (jaV _ _)];rw[if_pos (by decide +kernel)]
   simp! only[];rw[ix_t (jat _ _ _)];refine jie (k:=k) (xs:=xs) hw hn rl λG6 s6=>?_;simp! only[];rw[ix_t (jat _ _ _)];refine jid (k:=k+2) (ss:=ss) xl hw.all ?_;refine jig (k:=k+2) p1 p2 ?_;rw[decide_eq_true (show sHi xw r/P*P<sLo xw r from hb)];simp! only[jaI];exact⟨(st'.map (·.2.2)).sum,by omega,st',_,_,_,_,_,_,_,rfl,rfl,s5.trans s6,s6 _ _ g5,hst'⟩
  |@split n1 m1 m2 _ s l h ct c1 c2 ew l1 l2 k1 k2=>
   have il:=(List.getElem?_eq_some_iff.mp ew).1;simp! only[];refine⟨trivial,?_⟩;simp! only[jaL,jfD,ix_t (jaV _ _),jiX];rw[if_neg (by decide),if_neg (by decide),if_neg (by decide)]
   simp! only[jaK,ix_t (jaV _ _)];refine⟨by decide,by decide,by decide,by decide,jfJ (.inr ⟨rfl,rfl⟩) ?_⟩
   rw[if_neg (by decide)]
   simp! only[jaJ,ix_t (jaV _ _)];rw[if_neg (by decide +kernel)]
   simp! only[];have i3:atI [U.str "split",.int s,.int ct,c1,c2] 3=some c1:=rfl;have i4:atI [U.str "split",.int s,.int ct,c1,c2] 4=some c2:=rfl;rw[ix_t (jat _ _ _),ix_t (jm5 _ _ _ _)];refine⟨trivial,?_⟩;simp! only[jae,ix_t (jat _ _ _),Yac];refine jbO (k:=k+2) ?_;rw[decide_eq_true (show(0:Int)<=(s:Int) by omega),decide_eq_true (show(s:Int)<=(ss.length:Int)-1 by omega)]
   simp! only[wsU,ix_t (atM ew)];show tgU _ (.tup [.int l,.int h]) _ _;simp! only[];refine⟨trivial,?_⟩;refine jbO (k:=k+2) ?_;rw[decide_eq_true l1,decide_eq_true (show ct<=h-1 by omega)]
   simp! only[jaZ g5];rw[ix_t i4,if_neg (by decide)]
   have wl:(xw.map wu).length<=24:=by rw[Yac,xl];exact sl
   have cl1:=jmY (us:=xw.map wu) (lo:=none) (hi:=some (s:Int));have cl2:=jmY (us:=xw.map wu) (lo:=some ((s:Int)+1)) (hi:=none);have b1:(cut (xw.map wu) none (some (s:Int))).length+(0+1)<=Yah:=Yal (show _<=30 by omega) (by decide)
   have b2:∀u:U,(cut (xw.map wu) none (some (s:Int))++[u]).length+(cut (xw.map wu) (some ((s:Int)+1)) none).length<=Yah:=λu=>Yal (show _<=60 by rw[YaQ,YcT];omega) (by decide)
   refine⟨by decide,by decide,b1,b2 _,by decide,?_⟩
   rw[show(U.tup [.int (ct+1),.int h])=wu (ct+1,h)from rfl,jiD il,jcI g5];refine⟨by rw[Yac];exact YaL (show st'.length<=71 by omega) (by decide),λG6 p6=>?_⟩
   have g6:=p6.at
   dsimp only;rw[jaZ g6];dsimp only;rw[ix_t i3];refine⟨by decide,by decide,b1,b2 _,by decide,?_⟩
   rw[show(U.tup [.int l,.int ct])=wu (l,ct)from rfl,jiD il,jcI g6];refine⟨by rw[YaQ,Yac];exact YaL (show _<=72 by simp;omega) (by decide),λG7 p7=>?_⟩
   simp! only[jaI];have n1':n1+1+st'.length<=71:=hn';have e7:(st'.map stU++[U.tup [c2,.tup ((xw.set s (ct+1,h)).map wu)]])++[U.tup [c1,.tup ((xw.set s (l,ct)).map wu)]]=(st'++[(c2,xw.set s (ct+1,h),m2),(c1,xw.set s (l,ct),m1)]).map stU:=by simp[stU,wsU]
   have g7:=p7.at
   rw[e7]at g7;refine⟨(st'.map (·.2.2)).sum+(m2+m1),by omega,st'++[(c2,xw.set s (ct+1,h),m2),(c1,xw.set s (l,ct),m1)],_,_,_,_,_,_,_,rfl,by simp,frm (frm s5 p6) p7,g7,λj y ej=>?_⟩
   by_cases hj:j<st'.length
   ·rw[YaT hj]at ej;exact hst' j y ej
   ·rw[YbO (by omega)]at ej
    obtain⟨d,hd⟩:∃d,j=st'.length+d:=⟨j-st'.length,by omega⟩
    rw[hd,Nat.add_sub_cancel_left]at ej
    match d,ej with
    |0,ej=>
     cases ej;exact⟨by show(xw.set s (ct+1,h)).length=_;rw[Ybl];exact xl,n1,by omega,k2⟩
    |1,ej=>
     cases ej;exact⟨by show(xw.set s (l,ct)).length=_;rw[Ybl];exact xl,n1,by omega,k1⟩
    |d+2,ej=>simp at ej
end

theorem jdW {p p':Addr}{l l':List Int}{G:Gp}{kk:Bool->Prop}(g:G p=some (.lst (l.map .int)))(g':G p'=some (.lst (l'.map .int)))(q:kk (decide (l=l'))):eqU (.loc p) (.loc p') G kk:=by
 refine⟨_,_,.lst (by unfold lsG;rw[g]) (jdY l),.lst (by unfold lsG;rw[g']) (jdY l'),jd9 l,jd9 l',?_⟩
 rw[jhm];exact q
theorem jit {G:Gp}{p:Addr}{n:Nat}{kk:Bool->Prop}(g:G p=some (.lst (Yae n (.bl true))))(q:kk false):inU (.bl false) (.loc p) G kk:=by
 refine in_l g rfl (by simp[List.all_replicate,flat]) ?_
 have:((Yae n (U.bl true)).any λy=>eqF y (.bl false))=false:=by simp[List.any_replicate,eqF]
 rw[this];exact q
section
variable {k:Nat}{G:Gp}{Q:K1}{X:KX}{xs:List Str}{ss:List Spn}{ws:Wn}{P:Int}{f c:Addr}
theorem jib (hf:Fd G f c)(p1:1<=P)(p2:P<=600)(q:∀(ss:List Spn) (G':Gp),ss.length<=4->(∀s∈ss,s.Ok 2)->Fd G' f c->Sm f G G'->Q (.tup (ss.map Spn.u)) G'):jaa T (k+4) jc2 [.loc f,.int P] G Q X:=by
 refine⟨rfl,?_⟩;simp! only[jdf,jad,Yae];refine jan hf (by omega) (by omega) λr1 G1 a1 b1 f1 s1=>jan f1 (by omega) (by omega) λr2 G2 a2 b2 f2 s2=>⟨by decide,λpb G3 n3=>?_⟩
 have hb:=f2.away n3;simp! only[jbK];refine⟨by decide,λps G4 n4=>?_⟩
 have hs:=(f2.new n3).away n4;have hsb:ps≠pb:=jbA n3.at n4.no;have S4:Sm f G G4:=((s1.trans s2).nw n3).nw n4;simp! only[jbJ];refine jan ((f2.new n3).new n4) (by decide) (by decide) λm G5 a5 b5 f5 s5=>?_
 simp! only[];refine⟨by omega,by omega,?_⟩
 refine jaB (λi ς G'=>∃(ss:List Spn) (o4 o5 o6:Option U),ς=[some (.loc f),some (.int P),some (.loc pb),some (.loc ps),o4,o5,o6]/\Fd G' f c/\Sm f G G'/\G' pb=some (.lst ([r1,r2].map .int))/\G' ps=some (.lst (ss.map Spn.u))/\ss.length=i/\∀s∈ss,s.Ok 2) ?_ ?_ ⟨[],_,_,_,rfl,f5,S4.trans s5,s5 _ _ hb.1 (n4.sa _ _ n3.at),s5 _ _ hs.1 n4.at,rfl,λ_ h=>(nomatch h)⟩
 ·rintro ς G6 ⟨ss,o4,o5,o6,rfl,f6,s6,gb,gs,l6,h6⟩;rw[jaz]at l6;refine⟨trivial,?_⟩;simp! only[jbI,it_l gs];exact q ss G6 (by omega) h6 f6 s6
 ·rintro i x ς G6 K hx ⟨ss,o4,o5,o6,rfl,f6,s6,gb,gs,l6,h6⟩ hk;obtain⟨hi,rfl⟩:=ja0 hx;have i4:i<4:=by omega
  refine⟨trivial,?_⟩;simp! only[];have add:∀(s:Spn) (G7:Gp) (o5 o6:Option U),s.Ok 2->Fd G7 f c->Sm f G6 G7->jaU .append (.loc ps) [s.u] G7 λ_ G1=>K [some (.loc f),some (.int P),some (.loc pb),some (.loc ps),some (.int i),o5,o6] G1:=λs G7 o5 o6 os f7 s7=>by
   have g7:=s7 _ _ hs.1 gs;rw[jcI g7];refine⟨by rw[Yac];exact YaL (show ss.length<=4 by omega) (by decide),λG8 p8=>?_⟩
   refine hk _ _ ⟨ss++[s],_,_,_,rfl,f7.off hs p8,Sm.wr ((s1.trans s2).nw n3) n4.no (s6.trans s7) p8,p8.sm _ _ (Ne.symm hsb) (s7 _ _ hb.1 gb),by rw[YaJ];exact p8.at,by simp[l6],λz hz=>?_⟩
   rcases List.mem_append.mp hz with z'|z'
   ·exact h6 z z'
   ·rw[List.mem_singleton.mp z'];exact os
  refine jan f6 (by decide) (by decide) λr G7 a7 b7 f7 s7=>?_
  have g7:=s7 _ _ hs.1 gs;simp! only[];by_cases hr:0<r
  ·rw[if_pos (by simpa using hr)]
   simp! only[jaZ g7];exact jga (W:=2) (bs:=[r1,r2]) f7 p1 p2 (s7 _ _ hb.1 gb) hb.1 rfl (by decide) (by decide) λs G8 os _ f8 s8=>add s G8 _ _ os f8 (s7.trans s8)
  ·rw[if_neg (by simpa using hr)]
   refine jan f7 (by omega) (by omega) λlo G8 a8 b8 f8 s8=>?_
   simp! only[];refine jan f8 (by decide) (by decide) λo' G9 a9 b9 f9 s9=>?_
   have g9:=s9 _ _ hs.1 (s8 _ _ hs.1 g7);simp! only[jaZ g9];refine jan f9 (by decide) (by decide) λw Ga aa ba fa sa=>?_
   simp! only[];refine⟨by decide,?_⟩
   obtain⟨o,rfl⟩:=Ya0 a9;obtain⟨t,ht⟩:∃t:Nat,1-(o:Int)=(t:Int):=⟨1-o,by omega⟩
   rw[ht];exact add ⟨"span",o,t,lo,lo+w⟩ Ga _ _ ⟨.inr rfl,by dsimp only;omega,by dsimp only;omega,by dsimp only;omega,by dsimp only;omega⟩ fa (s7.trans (s8.trans (s9.trans sa)))
theorem bt2 (a b:Int):bt [a,b] 0=a/\bt [a,b] 1=b:=⟨rfl,rfl⟩
theorem jmv {bs:List Int}{i:Nat}{s:Spn}(so:s.Ok 2)(es:ss[i]?=some s)(h:Kw ss P ws bs i):Kw ss P ws [0,(bt bs 1-bt bs 0)%P] i:=by
 obtain⟨l,h1,h2,d⟩:=h;refine⟨l,h1,h2,?_⟩;rw[eS_1 es,eD_1 es]at d ⊢;have dm:P ∣ (bt bs 1-bt bs 0)-(bt bs 1-bt bs 0)%P:=⟨(bt bs 1-bt bs 0)/P,by have:=Yck (bt bs 1-bt bs 0) P;omega⟩
 obtain⟨b0,b1⟩:=bt2 0 ((bt bs 1-bt bs 0)%P);generalize (bt bs 1-bt bs 0)%P=g at dm b0 b1;have o1:=so.o;have o2:=so.t;have co:s.o=0\/s.o=1:=by omega
 have ct:s.t=0\/s.t=1:=by omega
 rcases co with zo|zo<;>rcases ct with zt|zt<;>rw[zo,zt]at d ⊢
 ·rw[show bt [0,g] ((0:Nat):Int)+l-bt [0,g] ((0:Nat):Int)=bt bs ((0:Nat):Int)+l-bt bs ((0:Nat):Int) by omega];exact d
 ·have:=Int.dvd_add d dm;have e0:bt [0,g] ((0:Nat):Int)=0:=b0;have e1:bt [0,g] ((1:Nat):Int)=g:=b1;rw[e0,e1];rw[show bt bs ((0:Nat):Int)+l-bt bs ((1:Nat):Int)+(bt bs 1-bt bs 0-g)=0+l-g by
   have u0:bt bs ((0:Nat):Int)=bt bs 0:=rfl;have u1:bt bs ((1:Nat):Int)=bt bs 1:=rfl;omega]at this
  exact this
 ·have:=Int.dvd_sub d dm;have e0:bt [0,g] ((0:Nat):Int)=0:=b0;have e1:bt [0,g] ((1:Nat):Int)=g:=b1;rw[e0,e1];rw[show bt bs ((1:Nat):Int)+l-bt bs ((0:Nat):Int)-(bt bs 1-bt bs 0-g)=g+l-0 by
   have u0:bt bs ((0:Nat):Int)=bt bs 0:=rfl;have u1:bt bs ((1:Nat):Int)=bt bs 1:=rfl;omega]at this
  exact this
 ·rw[show bt [0,g] ((1:Nat):Int)+l-bt [0,g] ((1:Nat):Int)=bt bs ((1:Nat):Int)+l-bt bs ((1:Nat):Int) by omega];exact d
theorem jkq {bs bs':List Int}{i:Nat}{s:Spn}(e:s.o=s.t)(es:ss[i]?=some s)(h:Kw ss P ws bs i):Kw ss P ws bs' i:=by
 obtain⟨l,h1,h2,d⟩:=h;refine⟨l,h1,h2,?_⟩;rw[eS_1 es,eD_1 es,e]at d ⊢;rw[show bt bs' (s.t:Int)+l-bt bs' (s.t:Int)=bt bs (s.t:Int)+l-bt bs (s.t:Int) by omega];exact d
end

def Rest (a f:Addr)(ς:Sg):Prop:=∃o2 o3 o4 o5 o6 o7:Option U,ς=[some (.loc a),some (.loc f),o2,o3,o4,o5,o6,o7]
section
variable {k:Nat}{G:Gp}{Q:K1}{X:KX}{K:Sg->Gp->Prop}{xs:List Str}{ss:List Spn}{P:Int}{a f c:Addr}
structure Gs (ss:List Spn)(P:Int)(jn:Bool)(gs:List Int):Prop where
 jf:jn=false->∀s∈ss,s.o=s.t
 ok:∀g∈gs,∀i,i<ss.length->Kw ss P (winO P ss) [0,g] i
 al:∀g:Int,0<=g->g<(if jn=true then P else 1)->(∀i,i<ss.length->Kw ss P (winO P ss) [0,g] i)->g∈gs
 l:gs.length<=300
theorem jku {o2 o7:Option U}{jn:Bool}{gs:List Int}{pg:Addr}(xl:xs.length=2)(so:∀s∈ss,s.Ok 2)(sl:ss.length<=4)(p1:1<=P)(p2:P<=300)(hg:Gs ss P jn gs)(gg:G pg=some (.lst (gs.map .int)))(hf:Fd G f c)(kk:∀ς G',Rest a f ς->Fd G' f c->K ς G') :
  jaN T.gs (jaa T (k+76)) jbq ⟨K,Q,λx _ G'=>X x G'⟩ [some (.loc a),some (.loc f),o2,some (.int P),some (jae xs ss),some (.bl jn),some (.loc pg),o7] G:=by
 have so':∀s∈ss,s.Ok xs.length:=λs hs=>by rw[xl];exact so s hs
 have wl:(winO P ss).length=ss.length:=Yac _;simp! only[jbq];refine jia (k:=k) (xs:=xs) so' (by omega) (by omega) (by omega) p1 p2 (by rw[xl];simp;omega) (λcs m G1 s1 hc=>?_) λbs G1 s1 bl bb hk=>?_
 ·have e:gs=[]:=by
   cases gs with
   |nil=>rfl
   |cons g r=>
    obtain⟨L,hL,hK⟩:=jmO wl (hg.ok g Yat);exact(hc.no p1 wl L hL hK).elim
  subst e;simp! only[jcb,ix_t (jaV _ _)];refine⟨by decide,λp2' G2 n2=>⟨by decide,λp3 G3 n3=>?_⟩⟩
  simp! only[];refine jdW (l:=[]) (l':=[]) (n3.sa _ _ (n2.sa _ _ (s1 _ _ gg))) n3.at ?_;rw[decide_eq_true rfl];simp! only[];rw[ix_l (n3.sa _ _ n2.at) (show atI [U.str "times",U.str "none"] 1=some (U.str "none")from jat _ _ _)];simp! only[];rw[if_neg (by decide +kernel)]
  simp! only[jca,ix_t (jaV _ _)];rw[if_pos (by decide +kernel)]
  simp! only[];rw[ix_t (jat _ _ _)];refine⟨by decide,by decide,jh9 (k:=k+72) (xs:=xs) so' (by omega) p1 (by omega) hc λG4 s4=>?_⟩
  have isn:∀kk:Bool->Prop,kk true->isU .non .non kk:=λ_ h=>h;simp! only[];refine isn _ ?_;rw[if_neg (by decide)]
  exact kk _ _ ⟨_,_,_,_,_,_,rfl⟩ (((hf.sa s1).new n2).new n3 |>.sa s4)
 ·obtain⟨g0,hg0⟩:∃g,g=(bt bs 1-bt bs 0)%P:=⟨_,rfl⟩;have g00:0<=g0:=by rw[hg0];exact Ybs _ (by omega)
  have g01:g0<P:=by rw[hg0];exact Ybp _ (by omega)
  have es:∀i,i<ss.length->∃s,ss[i]?=some s:=λi hi=>⟨_,Yaa hi⟩;have mj:jn=true->g0∈gs:=λz=>hg.al g0 g00 (by rw[if_pos z];exact g01) λi hi=>by
   obtain⟨s,e⟩:=es i hi;rw[hg0];exact jmv (so s (Yam e)) e (hk i hi)
  have ne:gs≠[]:=by
   cases jn with
   |true=>exact Yfb (mj rfl)
   |false=>
    refine Yfb (hg.al 0 (Yfh _) (by rw[if_neg (by decide)];decide) λi hi=>?_)
    obtain⟨s,e⟩:=es i hi;exact jkq (hg.jf rfl s (Yam e)) e (hk i hi)
  simp! only[jcb,ix_t (jaV _ _)];refine⟨by decide,λp2' G2 n2=>⟨by decide,λp3 G3 n3=>?_⟩⟩
  simp! only[];refine jdW (l:=gs) (l':=[]) (n3.sa _ _ (n2.sa _ _ (s1 _ _ gg))) n3.at ?_;rw[decide_eq_false ne];simp! only[];rw[ix_l (n3.sa _ _ n2.at) (show atI [U.str "times",U.str "none"] 0=some (U.str "times")from jaV _ _)];simp! only[];rw[if_neg (by decide +kernel)]
  simp! only[jca,ix_t (jaV _ _)];rw[if_neg (by decide +kernel)]
  simp! only[];rw[ix_t (jat _ _ _)];refine jfu (k:=k+74) (xs:=xs) so' (by omega) bl p1 λp4 l G4 s4 g4 hl=>⟨by decide,λp5 G5 n5=>?_⟩
  have el:l=[]:=hl.mpr hk;subst el;simp! only[];refine jdW (l:=[]) (l':=[]) (n5.sa _ _ g4) n5.at ?_;rw[if_neg (by decide)]
  simp! only[];rw[ix_t (jat _ _ _)];simp! only[jaW];refine⟨by rw[Yac,bl];exact Yal (show xs.length<=8 by omega) (by decide),?_⟩
  refine jaw (λ_=>.bl true) trivial (λu hu K hK=>?_) ?_
  ·obtain⟨b,hb,rfl⟩:=List.mem_map.mp hu;simp! only[];refine jbO (k:=k+75) ?_;have:=bb b hb;rw[decide_eq_true this.1,decide_eq_true (show b<=P-1 by omega)]
   exact hK
  intro p6 G6 n6;have e6:[]++(bs.map U.int).map (λ_=>U.bl true)=Yae bs.length (.bl true):=by rw[Ya6,YaY];exact List.map_const' ..
  rw[e6]at n6;refine jit n6.at ?_;rw[if_neg (by decide)]
  have S6:Sa G G6:=s1.trans (n2.sa.trans (n3.sa.trans (s4.trans (n5.sa.trans n6.sa))));have fin:K [some (.loc a),some (.loc f),o2,some (.int P),some (jae xs ss),some (.bl jn),some (.loc pg),some (.tup [.str "times",.tup (bs.map .int)])] G6:=kk _ _ ⟨_,_,_,_,_,_,rfl⟩ (hf.sa S6);simp! only[];cases jn with
  |false=>
   rw[if_neg (by decide)]
   exact fin
  |true=>
   rw[if_pos rfl,ix_t (jat _ _ _)];simp! only[];rw[ix_t (jhC (bs:=bs) (x:=1) (by decide) (by omega)),ix_t (jat _ _ _)]
   simp! only[];rw[ix_t (jhC (bs:=bs) (x:=0) (by decide) (by omega))]
   simp! only[];refine⟨by omega,in_l (S6 _ _ gg) rfl (jbY _) ?_⟩
   rw[jes,<- hg0,decide_eq_true (mj rfl),if_neg (by decide)]
   exact fin
end

section
variable {k:Nat}{G:Gp}{Q:K1}{X:KX}{K:Sg->Gp->Prop}{xs:List Str}{ss:List Spn}{P:Int}{a f c:Addr}
theorem jio {o2 o3 o4 o5 o6 o7:Option U}(hf:Fd G f c)(kk:∀ς G',Rest a f ς->Fd G' f c->K ς G') :
  jaN T.gs (jaa T (k+76)) jcd ⟨K,Q,λx _ G'=>X x G'⟩ [some (.loc a),some (.loc f),o2,o3,o4,o5,o6,o7] G:=by
 simp! only[jcd];refine jan hf (by decide) (by decide) λr1 G1 a1 b1 f1 s1=>⟨by decide,λp2' G2 n2=>jan (f1.new n2) (by decide) (by decide) λr3 G3 a3 b3 f3 s3=>?_⟩
 refine jdS [100,120,299,300,100+r1] (s3 _ _ (f1.away n2).1 n2.at) a3 b3 λP hP=>?_;have hP:1<=P/\P<=300:=by simp only[YaO,Yav,or_false]at hP;omega
 simp! only[jdq];refine jic (k:=k+74) (m:=2) f3 (by decide) λxs G4 xl nm f4 s4=>?_
 refine jib (k:=k+72) f4 hP.1 (by omega) λss G5 sl so f5 s5=>⟨by decide,?_⟩
 refine(?_:jaN T.gs (jaa T (k+76)) jcc ⟨K,Q,λx _ G'=>X x G'⟩ [some (.loc a),some (.loc f),o2,some (.int P),some (jae xs ss),o5,o6,o7] G5);simp! only[jcc,jae,ix_t (jat _ _ _)];refine⟨by rw[Yac];exact Yal (show ss.length<=4 by omega) (by decide),?_⟩
 refine jay (λi acc G'=>G'=G5/\∃js:List Spn,acc=js.map Spn.u/\(∀s∈js,s∈ss)/\(js=[]->∀s∈ss.take i,s.o=s.t)) ?_ ?_ ⟨rfl,[],rfl,λ_ h=>(nomatch h),λ_ s h=>by simp at h⟩
 ·rintro acc G' ⟨rfl,js,rfl,hj1,hj2⟩;rw[Yac,YaP]at hj2;refine⟨trivial,λp6 G6 n6=>⟨by decide,λp7 G7 n7=>?_⟩⟩
  simp! only[];refine jiR (n:=1) (λu hu=>?_) (by decide) (n7.sa _ _ n6.at) n7.at ?_
  ·obtain⟨s,hs,rfl⟩:=List.mem_map.mp hu;exact(so s (hj1 s hs)).sml
  obtain⟨jn,hjn⟩:∃jn,jn = !(js.map Spn.u).isEmpty:=⟨_,rfl⟩;rw[<- hjn];have f7:=(f5.new n6).new n7;simp! only[jdp];have rng:∀N:Int,N=(if jn=true then P else 1)->(-(2 ^ 62)<=N/\N<2 ^ 62/\(rngU 0 N.toNat).length<=Yah/\jdk (λ_=>True) (λx G2 k_1=>0+1+1<=Yah/\jaa T (k+76) ja2 [jae xs ss,.int P,.tup [.int 0,x]] G2 (λy G3=>0<=Yah/\newO G3 (.lst []) λz G4=>cmpU .Eq y z G4 λb=>if b=true then k_1 (some x) G4 else k_1 none G4) λ_ _=>False) (rngU 0 N.toNat) [] G7 λus G5=>newO G5 (.lst us) λu G1=>jaN T.gs (jaa T (k+76)) jbq ⟨K,Q,λx _ G'=>X x G'⟩ [some (.loc a),some (.loc f),o2,some (.int P),some (jae xs ss),some (.bl jn),some u,o7] G1):=λN hN=>by
   have nb:1<=N/\N<=300:=by rw[hN];split<;>omega
   refine⟨by omega,by omega,by rw[jaz];exact Yal (show N.toNat<=300 by omega) (by decide),?_⟩
   refine jay (λi acc G'=>Sa G7 G'/\∃gs:List Int,acc=gs.map .int/\gs.length<=i/\(∀g∈gs,∀i,i<ss.length->Kw ss P (winO P ss) [0,g] i)/\∀g:Int,0<=g->g<i->(∀i,i<ss.length->Kw ss P (winO P ss) [0,g] i)->g∈gs) ?_ ?_ ⟨Sa.refl,[],rfl,Yag _,λ_ h=>(nomatch h),λg h1 h2=>absurd h2 (by show ¬g<((0:Nat):Int);omega)⟩
   ·rintro acc G8 ⟨s8,gs,rfl,gl,g1,g2⟩;rw[jaz]at gl g2;refine⟨trivial,λpg G9 n9=>?_⟩;refine jku (k:=k) xl so sl hP.1 hP.2 ⟨λz s hs=>hj2 ?_ s hs,g1,λg h1 h2 h3=>g2 g h1 (by omega) h3,by omega⟩ n9.at ((f7.sa s8).new n9) kk
    rw[hjn]at z;cases js with
    |nil=>rfl
    |cons s r=>cases z
   ·rintro i x acc G8 K' hx ⟨s8,gs,rfl,gl,g1,g2⟩ hk hkn;obtain⟨hi,rfl⟩:=ja0 hx;refine⟨trivial,by decide,?_⟩
    refine jfu (k:=k+74) (xs:=xs) (b:=[0,(i:Int)]) so (by omega) rfl hP.1 λp9 l G9 s9 g9 hl=>⟨by decide,λpa Ga na=>?_⟩
    refine(?_:eqU (.loc p9) (.loc pa) Ga λb=>if b=true then K' (some (.int i)) Ga else K' none Ga)
    refine jdW (l:=l) (l':=[]) (na.sa _ _ g9) na.at ?_;by_cases e:l=[]
    ·rw[if_pos (by simpa using e)]
     refine hk _ _ ⟨s8.trans (s9.trans na.sa),gs++[(i:Int)],by simp,by simp;omega,λg hg=>?_,λg h1 h2 h3=>?_⟩
     ·rcases List.mem_append.mp hg with z|z
      ·exact g1 g z
      ·rw[List.mem_singleton.mp z];exact hl.mp e
     ·by_cases ei:g=i
      ·rw[ei];exact Yas _ (List.mem_singleton.mpr rfl)
      ·exact Yaw _ (g2 g h1 (by omega) h3)
    ·rw[if_neg (by simpa using e)]
     refine hkn _ ⟨s8.trans (s9.trans na.sa),gs,rfl,by omega,g1,λg h1 h2 h3=>?_⟩
     by_cases ei:g=i
     ·exact absurd (hl.mpr (by rw[<- ei];exact h3)) e
     ·exact g2 g h1 (by omega) h3
  by_cases z:jn=true
  ·rw[if_pos z];exact rng P (by rw[if_pos z])
  ·rw[if_neg z];exact rng 1 (by rw[if_neg z])
 ·rintro i x acc G' K' hx ⟨rfl,js,rfl,hj1,hj2⟩ hk hkn;rw[Yan]at hx;cases es:ss[i]? with
  |none=>rw[es]at hx;cases hx
  |some s=>
   rw[es]at hx;cases hx;refine⟨trivial,?_⟩;simp! only[Spn.u,ix_t (jat _ _ _),ix_t (jm5 _ _ _ _)];by_cases e:s.o=s.t
   ·rw[if_neg (by simp;omega)]
    refine hkn _ ⟨rfl,js,rfl,hj1,λz s' hs'=>?_⟩;rw[Ya5,es]at hs';rcases List.mem_append.mp hs' with y|y
    ·exact hj2 z s' y
    ·rw[List.mem_singleton.mp y];exact e
   ·rw[if_pos (by simp;omega)]
    refine hk _ _ ⟨rfl,js++[s],by simp[Spn.u],λs' hs'=>?_,λz=>by simp at z⟩
    rcases List.mem_append.mp hs' with y|y
    ·exact hj1 s' y
    ·rw[List.mem_singleton.mp y];exact Yam es
end
theorem law_ir (a:Addr)(ns:List Int)(hl:ns.length<=63):jaa T 300 jkg [.loc a] (G0 a ns) (λu _=>u=.bl true) λ_ _=>False:=by
 refine⟨rfl,?_⟩;simp! only[jmX,jad,Yae,jgv];refine jkc (k:=298) (show G0 a ns a=some (.fro (ns.map .int))from if_pos rfl) hl λf c G1 f1=>?_;refine⟨by decide,by decide,?_⟩
 refine jaB (λ_ ς G'=>Rest a f ς/\Fd G' f c) ?_ ?_ ⟨⟨_,_,_,_,_,_,rfl⟩,f1⟩
 ·rintro ς G2 ⟨_,_⟩;exact⟨trivial,trivial⟩
 ·rintro i x ς G2 K hx ⟨⟨o2,o3,o4,o5,o6,o7,rfl⟩,f2⟩ hk;exact⟨trivial,jio (k:=223) f2 λς G' h1 h2=>hk _ _ ⟨h1,h2⟩⟩

noncomputable def sts:List Stmt:=[s_top_of,s_window_of,s_windows_of,s_with_window,s_ends_of,s_entry_sums,s_sums_of,s_ring_bars,s_entries_to,s_forest_from,s_path_to_root,s_closing_ring,s_closing_rings,s_beats_along,s_parts_of,s_staying,s_size_of,s_refuse_great,s_first_void,s_first_wide,s_halved,s_seek,s_times_or_none_with,s_times_or_none,s_law_feed,s_law_draw,s_law_names,s_law_number,s_law_fitting,s_law_end,s_law_lacks,s_law_windows,s_law_whole,s_law_ends,s_law_is_ring,s_law_sums,s_law_bars,s_law_wrong,s_law_spans,s_law]
theorem prog_rep:jdP T 0 T.funs sts=true:=by decide +kernel
theorem prog_eq:jed T sts 0 T.funs sts:=⟨rfl,rfl,rfl,rfl,rfl,rfl,rfl,rfl,rfl,rfl,rfl,rfl,rfl,rfl,rfl,rfl,rfl,rfl,rfl,rfl,rfl,rfl,rfl,rfl,rfl,rfl,rfl,rfl,rfl,rfl,rfl,rfl,rfl,rfl,rfl,rfl,rfl,rfl,rfl,rfl,trivial⟩
theorem tabsU:∀t∈tabs,∀t'∈tabs,t.1=t'.1->t=t':=λt h=>(nomatch (show t∈[]from h))
noncomputable def tbs:List (Str×Addr×Addr):=[]
theorem walk {l:Ydo}{q:Program}{loose:List Str}{XP:(Str->Option Value)->Heap->Prop}{YP:World->Heap->Prop}{d:DefRec}{K:Params->Yab}(hn:l.most=some 63)(hdf:d.params.defaults=[])
  (hY:∀(w:World) (h:Heap),YP w h->(K w.params).In h) (hK:∀w:World,((K w.params).all λp=>p.2.cls != .type "list")=true) (hsy:∀w:World,∃o,(K w.params).lookup YaV=some o/\o.cls=.type "dict")
  (hT:∀(w:World),∀t∈tbs,(∃dr,(PyProof.Rows.recsOf q).find? (λe=>e.name==t.1)=some dr)/\PySem.W.tabIn (K w.params) t.1=some (t.2.1,t.2.2)/\(K w.params).lookup t.2.2=none)
  (F:∀(w:World) (mg:Str->Option Value) (fa:Addr) (h:Heap),(K w.params).In h->h.Ns YaK mg->mg d.name=some (.ref fa)->
   ∃fd:Ybn,(∀(s:Shared) (u:Value),BindsTo s fd ⟨[u],[]⟩ [("_law_script",u)])/\∀base:Heap,(K w.params).In base->base.Ns YaK mg->BmAt mg base->FnOk l.prog w (K w.params) mg base (CX1 l.prog w) 302 fa fd ["_law_script"] (lSp (K w.params) (jaa T 300 jkg))) :
  YfG q loose XP YP l.row.toRowW d [] (λf vs=>Ye5 f vs):=
 L2.walk_ofT (n:=63) (k:=302) (x := "_law_script") (CX:=λw=>CX1 l.prog w) (sp:=λw=>lSp (K w.params) (jaa T 300 jkg)) hK hT hn (by decide) hdf ⟨rfl,by decide,by decide,rfl⟩ hY hsy F (λw _ _ a ns hl hO hS=>law_sp (by decide) hO hS (law_ir a ns hl)) λ_ _ _ _ _ ⟨_,_,_,_,_,_,_,_,_,_,z⟩=>z
end Z
namespace Y
open PySem L2
set_option maxHeartbeats 0
noncomputable def q0:Str := "/claim/cut.py"
noncomputable def q1:Str := "<module>"
noncomputable def q2:Str := "__main__"
noncomputable def q3:Str := "closing_rings"
noncomputable def q4:Str := "windows_of"
noncomputable def q5:Str := "parts_of"
noncomputable def q6:Str := "beatplans.joining"
noncomputable def q7:Str := "ends_of"
noncomputable def q8:Str := "beatplans.rings"
noncomputable def q9:Str := "forest_from"
noncomputable def q10:Str := "beats_along"
noncomputable def q11:Str := "with_window"
noncomputable def q12:Str := "entries_to"
noncomputable def q13:Str := "__init__"
noncomputable def q14:Str := "TooMany.__init__"
noncomputable def q15:Str := "path_to_root"
noncomputable def q16:Str := "beatplans.forests"
noncomputable def q17:Str := "__module__"
noncomputable def q18:Str := "beatplans.errors"
noncomputable def q19:Str := "__firstlineno__"
noncomputable def q20:Str := "__static_attributes__"
noncomputable def q21:Str := "__weakref__"
noncomputable def q22:Str := "__doc__"
noncomputable def q23:Str := "plan"
noncomputable def q24:Str := "forest"
noncomputable def q25:Str := "work"
noncomputable def q26:Str := "path"
noncomputable def q27:Str := "top_of"
noncomputable def q28:Str := "parts"
noncomputable def q29:Str := "placed"
noncomputable def q30:Str := "part"
noncomputable def q31:Str := "entry"
noncomputable def q32:Str := "s"
noncomputable def q33:Str := "way"
noncomputable def q34:Str := "word"
noncomputable def q35:Str := "one"
noncomputable def q36:Str := "other"
noncomputable def q37:Str := "low"
noncomputable def q38:Str := "high"
noncomputable def q39:Str := "sums_of"
noncomputable def q40:Str := "closing_ring"
noncomputable def q41:Str := "window_of"
noncomputable def q42:Str := "__name__"
noncomputable def q43:Str := "beatplans.finding"
noncomputable def q44:Str := "__package__"
noncomputable def q45:Str := "__loader__"
noncomputable def q46:Str := "__spec__"
noncomputable def q47:Str := "__annotations__"
noncomputable def q48:Str := "__builtins__"
noncomputable def q49:Str := "__file__"
noncomputable def q50:Str := "__cached__"
noncomputable def q51:Str := "PlanError"
noncomputable def q52:Str := "TooMany"
noncomputable def q53:Str := "entry_sums"
noncomputable def q54:Str := "ring_bars"
noncomputable def q55:Str := "MOST_SIZE"
noncomputable def q56:Str := "beatplans.plans"
noncomputable def q57:Str := "period"
noncomputable def q58:Str := "__qualname__"
noncomputable def q59:Str := "found"
noncomputable def q60:Str := "self"
noncomputable def q61:Str := "beats"
noncomputable def q62:Str := "lengths"
noncomputable def q63:Str := "nearer"
noncomputable def q64:Str := "windows"
noncomputable def q65:Str := "window"
noncomputable def q66:Str := "roots"
noncomputable def q67:Str := "reached"
noncomputable def q68:Str := "at"
noncomputable def q69:Str := "start"
noncomputable def q70:Str := "apart"
noncomputable def q71:Str := "least"
noncomputable def q72:Str := "most"
noncomputable def q73:Str := "ring"
noncomputable def q74:Str := "_law_thing"
noncomputable def q75:Str := "_law_first"
noncomputable def q76:Str := "_law_last"
noncomputable def q77:Str := "times_or_none_with"
noncomputable def q78:Str := "refuse_great"
noncomputable def q79:Str := "_law_feed"
noncomputable def q80:Str := "law_beatplans_k23_great_rounds"
noncomputable def q81:Str := "_law_end"
noncomputable def q82:Str := "_law_ends"
noncomputable def q83:Str := "times_or_none"
noncomputable def q84:Str := "_law_spans"
noncomputable def q85:Str := "first_void"
noncomputable def q86:Str := "_law_fitting"
noncomputable def q87:Str := "_law_cycle"
noncomputable def q88:Str := "_law_sums_here"
noncomputable def q89:Str := "_law_least"
noncomputable def q90:Str := "_law_most"
noncomputable def q91:Str := "size_of"
noncomputable def q92:Str := "_law_lacks"
noncomputable def q93:Str := "_law_whole"
noncomputable def q94:Str := "_law_sums"
noncomputable def q95:Str := "staying"
noncomputable def q96:Str := "halved"
noncomputable def q97:Str := "_law_plan"
noncomputable def q98:Str := "_law_beats"
noncomputable def q99:Str := "_law_found"
noncomputable def q100:Str := "_law_s"
noncomputable def q101:Str := "_law_word"
noncomputable def q102:Str := "_law_one"
noncomputable def q103:Str := "_law_other"
noncomputable def q104:Str := "_law_low"
noncomputable def q105:Str := "_law_high"
noncomputable def q106:Str := "_law_gap"
noncomputable def q107:Str := "_law_is_ring"
noncomputable def q108:Str := "_law_script"
noncomputable def q109:Str := "_law_bars"
noncomputable def q110:Str := "_law_names"
noncomputable def q111:Str := "seek"
noncomputable def q112:Str := "_law_windows"
noncomputable def q113:Str := "first_wide"
noncomputable def q114:Str := "_law_draw"
noncomputable def q115:Str := "_law_number"
noncomputable def q116:Str := "_law_wrong"
noncomputable def q117:Str := "law"
noncomputable def q118:Str := "cut"
noncomputable def q119:Str := "_law_feed_here"
noncomputable def q120:Str := "_law_spans_here"
noncomputable def q121:Str := "_law_k"
noncomputable def q122:Str := "_law_length"
noncomputable def q123:Str := "_law_windows_here"
noncomputable def q124:Str := "_law_ring"
noncomputable def q125:Str := "_law_entry"
noncomputable def q126:Str := "rings"
noncomputable def q127:Str := "sides"
noncomputable def q128:Str := "cases"
noncomputable def q129:Str := "side"
noncomputable def q130:Str := "_law_span"
noncomputable def q131:Str := "_law_top"
noncomputable def q132:Str := "stays"
noncomputable def q133:Str := "_law_many"
noncomputable def q134:Str := "_law_cell"
noncomputable def q135:Str := "_law_mixed"
noncomputable def q136:Str := "_law_stays"
noncomputable def q137:Str := "_law_line"
noncomputable def q138:Str := "_law_at"
noncomputable def q139:Str := "_law_node"
noncomputable def q140:Str := "_law_cut"
noncomputable def h0:List Value:=[]
noncomputable def o0:Obj:=sO .none h0
noncomputable def o1:Obj:=kO q0 q1 q1 182 1 0 0 11 false .none .none .none 185
noncomputable def o2:Obj:=rO [(some (.ref 13)),(some (.ref 3)),(some (.ref 3)),none,(some (.str q2 164)),none,(some (.ref 0))]
noncomputable def o3:Obj:=gO q3 q3 (Z.top 18)
noncomputable def o4:Obj:=gO q4 q4 (Z.top 6)
noncomputable def o5:Obj:=fO q5 q5 (Z.top 21) (.str q6 392) 142
noncomputable def o6:Obj:=fO q7 q7 (Z.top 9) (.str q8 273) 78
noncomputable def o7:Obj:=kO q0 q9 q9 340 48 2 3 106 true (.ref 108) (.ref 109) (.ref 110) 351
noncomputable def o8:Obj:=tO [(.type "ValueError")]
noncomputable def o9:Obj:=kO q0 q10 q10 376 78 5 3 130 true (.ref 132) (.ref 133) (.ref 134) 389
noncomputable def o10:Obj:=kO q0 q11 q11 264 17 3 3 66 true (.ref 68) (.ref 69) (.ref 70) 270
noncomputable def o11:Obj:=gO q12 q12 (Z.top 14)
noncomputable def o12:Obj:=gO q13 q14 (jhc (Z.top 2) 0)
noncomputable def o13:Obj:=fO q15 q15 (Z.top 16) (.str q16 323) 118
noncomputable def o14 (P:Params):Obj:=dO (dE P q17 196 (.str q18 187)::dE P q19 200 (.int 2 199)::dE P q20 201 (.ref 22)::dE P q21 203 (.ref 25)::dE P q22 204 .none::[]) 3
noncomputable def o15:Obj:=tO [(.str q23 357),(.str q24 358),(.str q25 359),(.str q26 360)]
noncomputable def o16:Obj:=gO q27 q27 (Z.top 4)
noncomputable def o17:Obj:=tO [(.str q23 397),(.str q28 398),(.str q29 399),(.str q25 400),(.str q30 401)]
noncomputable def o18:Obj:=tO [(.str q23 278),(.str q31 279),(.str q32 280),(.str q33 281),(.str q34 282),(.str q35 283),(.str q36 284),(.str q37 285),(.str q38 286)]
noncomputable def o19 (P:Params):Obj:=dO (dE P q17 214 (.str q18 187)::dE P q19 218 (.int 4 217)::dE P q13 226 (.ref 41)::dE P q20 228 (.ref 42)::dE P q22 229 .none::[]) 2
noncomputable def o20:Obj:=fO q39 q39 (Z.top 11) (.str q8 273) 90
noncomputable def o21:Obj:=kO q0 q40 q40 364 65 3 3 120 true .none .none (.ref 122) 367
noncomputable def o22:Obj:=kO q0 q41 q41 248 12 3 3 54 true (.ref 56) (.ref 57) (.ref 58) 255
noncomputable def o23:Obj:=sO (.type "builtin_function_or_method") [(.builtin "object.__init_subclass__"),(.ref 24)]
noncomputable def g25 (P:Params):List Ych:=dE P q22 166 .none::dE P q44 167 .none::dE P q45 168 (.builtin "__main__.__loader__#opaque")::dE P q46 169 .none::dE P q47 170 (.ref 6)::dE P q48 171 (.ref 4)::dE P q49 173 (.str q0 172)::dE P q50 174 .none::dE P q51 206 (.ref 24)::dE P q52 231 (.ref 44)::dE P q27 247 (.ref 53)::dE P q41 257 (.ref 60)::dE P q4 263 (.ref 65)::dE P q11 272 (.ref 72)::dE P q7 289 (.ref 79)::dE P q53 303 (.ref 86)::dE P q39 309 (.ref 91)::dE P q54 322 (.ref 98)::dE P q12 339 (.ref 105)::dE P q9 353 (.ref 112)::dE P q15 363 (.ref 119)::dE P q40 369 (.ref 124)::dE P q3 375 (.ref 129)::dE P q10 391 (.ref 136)::dE P q5 404 (.ref 143)::dE P q55 408 (.int 300 407)::[]
noncomputable def o24 (P:Params):Obj:=dO (dE P q42 165 (.str q43 405)::g25 P) 27
noncomputable def o25:Obj:=fO q3 q3 (Z.top 18) (.str q16 323) 128
noncomputable def o26:Obj:=fO q4 q4 (Z.top 6) (.str q56 232) 64
noncomputable def o27:Obj:=kO q0 q54 q54 310 36 5 3 92 true (.ref 94) (.ref 95) (.ref 96) 320
noncomputable def o28:Obj:=kO q0 q52 q52 209 4 0 0 31 false .none .none .none 212
noncomputable def o29:Obj:=tO [(.str q23 237),(.str q57 238),(.str q32 239),(.str q34 240),(.str q35 241),(.str q36 242),(.str q37 243),(.str q38 244)]
noncomputable def o30 (P:Params):Obj:=dO (dE P q17 196 (.str q18 187)::dE P q58 198 (.str q51 197)::dE P q19 200 (.int 2 199)::dE P q20 201 (.ref 22)::[]) 4
noncomputable def o31:Obj:=fO q12 q12 (Z.top 14) (.str q16 323) 104
noncomputable def o32:Obj:=fO q13 q14 (jhc (Z.top 2) 0) (.str q18 187) 40
noncomputable def o33:Obj:=gO q39 q39 (Z.top 11)
noncomputable def o34:Obj:=sO (.type "getset_descriptor") [(.str q21 202),(.ref 24),(.builtin "ExceptionGroup.__weakref__"),.none]
noncomputable def o35:Obj:=tO [(.str q23 328),(.str q25 329),(.str q59 330),(.str q32 331),(.str q34 332),(.str q35 333),(.str q36 334),(.str q37 335),(.str q38 336)]
noncomputable def o36:Obj:=tO [(.str q60 222),(.str q34 223)]
noncomputable def o37:Obj:=kO q0 q53 q53 290 26 3 3 80 true (.ref 82) (.ref 83) (.ref 84) 301
noncomputable def o38:Obj:=gO q15 q15 (Z.top 16)
noncomputable def o39:Obj:=fO q27 q27 (Z.top 4) (.str q56 232) 52
noncomputable def o40:Obj:=rO [(some (.ref 20)),(some (.ref 3)),(some (.ref 17)),none,(some (.str q18 187)),none,(some (.ref 0))]
noncomputable def o41:Obj:=gO q5 q5 (Z.top 21)
noncomputable def o42:Obj:=gO q7 q7 (Z.top 9)
noncomputable def o43:Obj:=sO (.type "super") [(.ref 44),(.ref 44),(.ref 44)]
noncomputable def o44:Obj:=sO (.type "builtin_function_or_method") [(.builtin "type.__prepare__"),(.type "type")]
noncomputable def o45:Obj:=kO q0 q3 q3 370 74 3 3 125 true .none .none (.ref 127) 373
noncomputable def o46:Obj:=kO q0 q4 q4 258 15 2 3 61 true .none .none (.ref 63) 261
noncomputable def o47:Obj:=gO q54 q54 (Z.top 12)
noncomputable def o48:Obj:=sO .none [(.int 6 0),(.int 4 0),(.ref 40)]
noncomputable def o49:Obj:=fO q9 q9 (Z.top 15) (.str q16 323) 111
noncomputable def o50:Obj:=fO q10 q10 (Z.top 19) (.str q16 323) 135
noncomputable def o51:Obj:=fO q11 q11 (Z.top 7) (.str q56 232) 71
noncomputable def o52:Obj:=kO q0 q12 q12 325 40 2 3 99 true (.ref 101) (.ref 102) (.ref 103) 337
noncomputable def o53:Obj:=kO q0 q13 q14 219 6 2 3 35 true (.ref 37) (.ref 38) (.ref 39) 224
noncomputable def o54:Obj:=tO [(.str q23 251),(.str q57 252),(.str q32 253),(.str q37 254)]
noncomputable def o55:Obj:=cO q51 [(.type "ValueError")] [(.ref 24),(.type "ValueError"),(.type "Exception"),(.type "BaseException"),(.type "object")] 23 [(.ref 44)] [(some (.ref 15)),none,(some (.str q51 189)),(some (.str q51 197)),(some (.builtin "ValueError.__new__")),(some (.bool true))]
noncomputable def o56:Obj:=tO [(.str q23 379),(.str q57 380),(.str q61 381),(.str q24 382),(.str q62 383),(.str q59 384),(.str q25 385),(.str q32 386),(.str q33 387),(.str q63 388)]
noncomputable def o57:Obj:=tO [(.str q64 267),(.str q32 268),(.str q65 269)]
noncomputable def o58:Obj:=gO q53 q53 (Z.top 10)
noncomputable def o59:Obj:=kO q0 q27 q27 234 9 3 3 47 true (.ref 49) (.ref 50) (.ref 51) 245
noncomputable def o60:Obj:=kO q0 q51 q51 191 2 0 0 18 false .none .none .none 194
noncomputable def o61:Obj:=tO [(.str q23 343),(.str q66 344),(.str q24 345),(.str q67 346),(.str q68 347),(.str q32 348),(.str q33 349),(.str q69 350)]
noncomputable def o62:Obj:=cO q52 [(.ref 24)] [(.ref 44),(.ref 24),(.type "ValueError"),(.type "Exception"),(.type "BaseException"),(.type "object")] 43 [] [(some (.ref 28)),none,(some (.str q52 207)),(some (.str q52 215)),(some (.builtin "ValueError.__new__")),(some (.bool true))]
noncomputable def o63:Obj:=fO q40 q40 (Z.top 17) (.str q16 323) 123
noncomputable def o64:Obj:=fO q41 q41 (Z.top 5) (.str q56 232) 59
noncomputable def o65:Obj:=tO [(.ref 24)]
noncomputable def h68:List Value:=h0++[(.int 2 0),(.int 0 0),(.ref 20),(.int 4 0),(.int 0 0),(.ref 33),(.int 9 0),(.int 0 0),(.ref 52),(.int 12 0),(.int 0 0),(.ref 59),(.int 15 0),(.int 0 0),(.ref 64),(.int 17 0),(.int 0 0),(.ref 71),(.int 20 0),(.int 0 0),(.ref 78),(.int 26 0),(.int 0 0),(.ref 85),(.int 33 0),(.int 0 0),(.ref 90),(.int 36 0),(.int 0 0),(.ref 97),(.int 40 0),(.int 0 0),(.ref 104),(.int 48 0),(.int 0 0),(.ref 111),(.int 59 0),(.int 0 0),(.ref 118),(.int 65 0),(.int 0 0),(.ref 123),(.int 74 0),(.int 0 0),(.ref 128),(.int 78 0),(.int 0 0),(.ref 135),(.int 85 0),(.int 0 0),(.ref 142)]
noncomputable def o66:Obj:=sO .none h68
noncomputable def o67:Obj:=fO q54 q54 (Z.top 12) (.str q8 273) 97
noncomputable def o68:Obj:=rO [(some (.ref 33)),(some (.ref 3)),(some (.ref 30)),none,(some (.str q18 187)),none,(some (.ref 0))]
noncomputable def o69:Obj:=tO [(.str q61 293),(.str q64 294),(.str q31 295),(.str q70 296),(.str q32 297),(.str q33 298),(.str q71 299),(.str q72 300)]
noncomputable def o70:Obj:=tO [(.str q34 227)]
noncomputable def o71:Obj:=kO q0 q39 q39 304 33 5 3 87 true .none .none (.ref 89) 307
noncomputable def o72:Obj:=gO q40 q40 (Z.top 17)
noncomputable def o73:Obj:=gO q41 q41 (Z.top 5)
noncomputable def o74:Obj:=sO (.type "super") [(.ref 24),(.ref 24),(.ref 24)]
noncomputable def o75:Obj:=gO q10 q10 (Z.top 19)
noncomputable def o76:Obj:=gO q11 q11 (Z.top 7)
noncomputable def o77:Obj:=fO q53 q53 (Z.top 10) (.str q8 273) 85
noncomputable def o78:Obj:=kO q0 q15 q15 354 59 3 3 113 true (.ref 115) (.ref 116) (.ref 117) 361
noncomputable def o79:Obj:=kO q0 q5 q5 394 85 1 3 137 true (.ref 139) (.ref 140) (.ref 141) 402
noncomputable def o80:Obj:=kO q0 q7 q7 275 20 2 3 73 true (.ref 75) (.ref 76) (.ref 77) 287
noncomputable def o81:Obj:=gO q9 q9 (Z.top 15)
noncomputable def o82:Obj:=sO (.type "builtin_function_or_method") [(.builtin "object.__init_subclass__"),(.ref 44)]
noncomputable def o83:Obj:=tO [(.str q23 313),(.str q57 314),(.str q61 315),(.str q64 316),(.str q73 317),(.str q71 318),(.str q72 319)]
noncomputable def o84 (P:Params):Obj:=dO (dE P q17 214 (.str q18 187)::dE P q58 216 (.str q52 215)::dE P q19 218 (.int 4 217)::dE P q13 226 (.ref 41)::dE P q20 228 (.ref 42)::[]) 5
noncomputable def o85:Obj:=tO [(.str q74 580),(.str q75 581),(.str q76 582)]
noncomputable def o86:Obj:=gO q77 q77 (Z.top 31)
noncomputable def o87:Obj:=kO q0 q78 q78 421 104 3 3 154 true (.ref 156) (.ref 157) (.ref 158) 427
noncomputable def o88:Obj:=fO q79 q79 (Z.top 34) (.str q80 497) 206
noncomputable def o89:Obj:=kO q0 q81 q81 545 185 2 3 234 true (.ref 236) (.ref 237) (.ref 238) 551
noncomputable def o90:Obj:=kO q0 q82 q82 586 200 3 3 260 true .none .none (.ref 262) 589
noncomputable def o91:Obj:=kO q0 q83 q83 489 151 2 3 194 true (.ref 196) (.ref 197) (.ref 198) 494
noncomputable def o92:Obj:=gO q84 q84 (Z.top 48)
noncomputable def o93:Obj:=fO q85 q85 (Z.top 27) (.str q43 405) 166
noncomputable def o94:Obj:=gO q86 q86 (Z.top 38)
noncomputable def o95:Obj:=tO [(.str q87 613),(.str q88 614),(.str q89 615),(.str q90 616)]
noncomputable def o96:Obj:=gO q91 q91 (Z.top 25)
noncomputable def o97:Obj:=fO q92 q92 (Z.top 40) (.str q80 497) 246
noncomputable def o98:Obj:=fO q93 q93 (Z.top 42) (.str q80 497) 258
noncomputable def o99:Obj:=tO [(.str q64 433),(.str q32 434),(.str q71 435),(.str q72 436)]
noncomputable def o100:Obj:=kO q0 q94 q94 598 220 3 3 270 true (.ref 272) (.ref 273) (.ref 274) 607
noncomputable def o101:Obj:=kO q0 q95 q95 409 96 2 3 144 true .none .none (.ref 146) 412
noncomputable def o102:Obj:=gO q96 q96 (Z.top 29)
noncomputable def o103:Obj:=tO [(.str q97 557),(.str q87 558),(.str q98 559),(.str q99 560),(.str q100 561),(.str q101 562),(.str q102 563),(.str q103 564),(.str q104 565),(.str q105 566),(.str q106 567)]
noncomputable def o104:Obj:=gO q107 q107 (Z.top 44)
noncomputable def o105:Obj:=tO [(.str q108 502)]
noncomputable def o106:Obj:=fO q109 q109 (Z.top 46) (.str q80 497) 282
noncomputable def o107:Obj:=fO q110 q110 (Z.top 36) (.str q80 497) 218
noncomputable def o108:Obj:=kO q0 q111 q111 463 122 6 3 182 true (.ref 184) (.ref 185) (.ref 186) 480
noncomputable def o109:Obj:=kO q0 q112 q112 571 196 2 3 248 true .none .none (.ref 250) 574
noncomputable def g113 (P:Params):List Ych:=g25 P++[dE P q95 414 (.ref 148),dE P q91 420 (.ref 153),dE P q78 429 (.ref 160),dE P q85 439 (.ref 167),dE P q113 451 (.ref 174),dE P q96 462 (.ref 181),dE P q111 482 (.ref 188),dE P q77 488 (.ref 193),dE P q83 496 (.ref 200),dE P q79 505 (.ref 207),dE P q114 516 (.ref 214),dE P q110 522 (.ref 219),dE P q115 530 (.ref 226),dE P q86 544 (.ref 233),dE P q81 553 (.ref 240),dE P q92 570 (.ref 247),dE P q112 576 (.ref 252),dE P q93 585 (.ref 259),dE P q82 591 (.ref 264),dE P q107 597 (.ref 269),dE P q94 609 (.ref 276),dE P q109 619 (.ref 283),dE P q116 638 (.ref 290),dE P q84 651 (.ref 297),dE P q117 657 (.ref 302)]
noncomputable def o110 (P:Params):Obj:=dO (dE P q42 165 (.str q80 497)::g113 P) 52
noncomputable def o111:Obj:=gO q93 q93 (Z.top 42)
noncomputable def o112:Obj:=fO q77 q77 (Z.top 31) (.str q43 405) 192
noncomputable def o113:Obj:=kO q0 q116 q116 620 237 5 3 284 true (.ref 286) (.ref 287) (.ref 288) 636
noncomputable def o114:Obj:=kO q0 q115 q115 523 175 2 3 220 true (.ref 222) (.ref 223) (.ref 224) 528
noncomputable def o115:Obj:=tO [(.str q64 455),(.str q32 456),(.str q71 457),(.str q72 458),(.str q118 459)]
noncomputable def o116:Obj:=fO q84 q84 (Z.top 48) (.str q80 497) 296
noncomputable def o117:Obj:=fO q86 q86 (Z.top 38) (.str q80 497) 232
noncomputable def o118:Obj:=gO q109 q109 (Z.top 46)
noncomputable def o119:Obj:=fO q91 q91 (Z.top 25) (.str q43 405) 152
noncomputable def o120:Obj:=gO q110 q110 (Z.top 36)
noncomputable def o121:Obj:=tO [(.str q119 642),(.str q87 643),(.str q98 644),(.str q120 645),(.str q121 646),(.str q104 647),(.str q102 648)]
noncomputable def o122:Obj:=gO q85 q85 (Z.top 27)
noncomputable def o123:Obj:=tO [(.str q119 534),(.str q98 535),(.str q87 536),(.str q102 537),(.str q103 538),(.str q106 539),(.str q104 540),(.str q122 541)]
noncomputable def o124:Obj:=kO q0 q114 q114 506 156 2 3 208 true (.ref 210) (.ref 211) (.ref 212) 514
noncomputable def o125:Obj:=fO q96 q96 (Z.top 29) (.str q43 405) 180
noncomputable def o126:Obj:=gO q92 q92 (Z.top 40)
noncomputable def o127:Obj:=fO q107 q107 (Z.top 44) (.str q80 497) 268
noncomputable def o128:Obj:=gO q79 q79 (Z.top 34)
noncomputable def o129:Obj:=kO q0 q117 q117 652 273 1 3 298 true .none .none (.ref 300) 655
noncomputable def o130:Obj:=kO q0 q113 q113 440 112 2 3 168 true (.ref 170) (.ref 171) (.ref 172) 449
noncomputable def o131:Obj:=kO q0 q77 q77 483 137 4 3 189 true .none .none (.ref 191) 486
noncomputable def o132:Obj:=gO q116 q116 (Z.top 47)
noncomputable def o133:Obj:=fO q78 q78 (Z.top 26) (.str q43 405) 159
noncomputable def o134:Obj:=gO q115 q115 (Z.top 37)
noncomputable def o135:Obj:=tO [(.str q98 601),(.str q123 602),(.str q124 603),(.str q89 604),(.str q90 605),(.str q125 606)]
noncomputable def o136:Obj:=fO q81 q81 (Z.top 39) (.str q80 497) 239
noncomputable def o137:Obj:=fO q82 q82 (Z.top 43) (.str q80 497) 263
noncomputable def o138:Obj:=fO q83 q83 (Z.top 32) (.str q43 405) 199
noncomputable def o139:Obj:=kO q0 q84 q84 639 262 2 3 291 true (.ref 293) (.ref 294) (.ref 295) 649
noncomputable def o140:Obj:=kO q0 q86 q86 531 177 3 3 227 true (.ref 229) (.ref 230) (.ref 231) 542
noncomputable def o141:Obj:=kO q0 q91 q91 415 98 3 3 149 true .none .none (.ref 151) 418
noncomputable def o142:Obj:=tO [(.str q23 466),(.str q57 467),(.str q61 468),(.str q24 469),(.str q126 470),(.str q64 471),(.str q73 472),(.str q32 473),(.str q118 474),(.str q127 475),(.str q128 476),(.str q129 477),(.str q34 478),(.str q59 479)]
noncomputable def o143:Obj:=tO [(.str q23 492),(.str q57 493)]
noncomputable def o144:Obj:=fO q94 q94 (Z.top 45) (.str q80 497) 275
noncomputable def o145:Obj:=fO q95 q95 (Z.top 24) (.str q43 405) 147
noncomputable def o146:Obj:=gO q114 q114 (Z.top 35)
noncomputable def o147:Obj:=kO q0 q96 q96 452 118 2 3 175 true (.ref 177) (.ref 178) (.ref 179) 460
noncomputable def o148:Obj:=kO q0 q107 q107 592 213 3 3 265 true .none .none (.ref 267) 595
noncomputable def o149:Obj:=gO q117 q117 (Z.top 49)
noncomputable def o150:Obj:=gO q113 q113 (Z.top 28)
noncomputable def o151:Obj:=tO [(.str q87 548),(.str q130 549),(.str q131 550)]
noncomputable def o152:Obj:=tO [(.str q23 424),(.str q57 425),(.str q132 426)]
noncomputable def o153:Obj:=fO q111 q111 (Z.top 30) (.str q43 405) 187
noncomputable def o154:Obj:=fO q112 q112 (Z.top 41) (.str q80 497) 251
noncomputable def h159:List Value:=h68++[(.int 96 0),(.int 0 0),(.ref 147),(.int 98 0),(.int 0 0),(.ref 152),(.int 104 0),(.int 0 0),(.ref 159),(.int 107 0),(.int 0 0),(.ref 166),(.int 112 0),(.int 0 0),(.ref 173),(.int 118 0),(.int 0 0),(.ref 180),(.int 122 0),(.int 0 0),(.ref 187),(.int 137 0),(.int 0 0),(.ref 192),(.int 151 0),(.int 0 0),(.ref 199),(.int 154 0),(.int 0 0),(.ref 206),(.int 156 0),(.int 0 0),(.ref 213),(.int 169 0),(.int 0 0),(.ref 218),(.int 175 0),(.int 0 0),(.ref 225),(.int 177 0),(.int 0 0),(.ref 232),(.int 185 0),(.int 0 0),(.ref 239),(.int 188 0),(.int 0 0),(.ref 246),(.int 196 0),(.int 0 0),(.ref 251),(.int 198 0),(.int 0 0),(.ref 258),(.int 200 0),(.int 0 0),(.ref 263),(.int 213 0),(.int 0 0),(.ref 268),(.int 220 0),(.int 0 0),(.ref 275),(.int 234 0),(.int 0 0),(.ref 282),(.int 237 0),(.int 0 0),(.ref 289),(.int 262 0),(.int 0 0),(.ref 296),(.int 273 0),(.int 0 0),(.ref 301)]
noncomputable def o155:Obj:=sO .none h159
noncomputable def o156:Obj:=kO q0 q93 q93 577 198 3 3 253 true (.ref 255) (.ref 256) (.ref 257) 583
noncomputable def o157:Obj:=fO q116 q116 (Z.top 47) (.str q80 497) 289
noncomputable def o158:Obj:=fO q115 q115 (Z.top 37) (.str q80 497) 225
noncomputable def o159:Obj:=gO q94 q94 (Z.top 45)
noncomputable def o160:Obj:=gO q95 q95 (Z.top 24)
noncomputable def o161:Obj:=tO [(.str q119 509),(.str q133 510),(.str q134 511),(.str q135 512),(.str q99 513)]
noncomputable def o162:Obj:=tO [(.str q24 443),(.str q64 444),(.str q32 445),(.str q33 446),(.str q71 447),(.str q72 448)]
noncomputable def o163:Obj:=kO q0 q109 q109 610 234 2 3 277 true (.ref 279) (.ref 280) (.ref 281) 617
noncomputable def o164:Obj:=kO q0 q110 q110 517 169 2 3 215 true .none .none (.ref 217) 520
noncomputable def o165:Obj:=gO q111 q111 (Z.top 30)
noncomputable def o166:Obj:=gO q112 q112 (Z.top 41)
noncomputable def o167:Obj:=gO q82 q82 (Z.top 43)
noncomputable def o168:Obj:=gO q83 q83 (Z.top 32)
noncomputable def o169:Obj:=kO q0 q85 q85 430 107 1 3 161 true (.ref 163) (.ref 164) (.ref 165) 437
noncomputable def o170:Obj:=fO q114 q114 (Z.top 35) (.str q80 497) 213
noncomputable def o171:Obj:=kO q0 q92 q92 554 188 3 3 241 true (.ref 243) (.ref 244) (.ref 245) 568
noncomputable def o172:Obj:=kO q0 q79 q79 499 154 1 3 201 true (.ref 203) (.ref 204) (.ref 205) 503
noncomputable def o173:Obj:=fO q117 q117 (Z.top 49) (.str q80 497) 301
noncomputable def o174:Obj:=fO q113 q113 (Z.top 28) (.str q43 405) 173
noncomputable def o175:Obj:=gO q81 q81 (Z.top 39)
noncomputable def o176:Obj:=tO [(.str q97 623),(.str q87 624),(.str q98 625),(.str q136 626),(.str q74 627),(.str q137 628),(.str q138 629),(.str q139 630),(.str q123 631),(.str q100 632),(.str q140 633),(.str q89 634),(.str q90 635)]
noncomputable def o177:Obj:=gO q78 q78 (Z.top 26)
noncomputable def o178:Obj:=tO [(.str q119 526),(.str q87 527)]
noncomputable def Ha (P:Params):Heap:=⟨⟨Ycg P::YbP P::Ycf P::YeQ P::Yce P::Ycd P::Ycc P::Ycb P::Yca P::Yb9 P::Yb3 P::tE::o0::o1::o2::[]⟩,{}⟩
noncomputable def t0 (P:Params):Ycl:=(bN (Ycg P) (bN (YbP P) (bN (YeQ P) (bL (Ycb P)) (bL tE)) (bN (Ycd P) (bL (Yb9 P)) (bL o1))) (bN (Ycf P) (bN (Yce P) (bL (Yca P)) (bL o0)) (bN (Ycc P) (bL (Yb3 P)) (bL o2))))
noncomputable def t1 (P:Params):Ycl:=(bN (Ycg P) (bN (YbP P) (bN (o24 P) (bN (Ycb P) (bN o8 (bN tE (bN o4 (bL o3) bE) (bL tE)) (bN tE (bN o6 (bL o5) bE) (bL o7))) (bN (o14 P) (bN o12 (bN o10 (bL o9) bE) (bL o11)) (bN nO (bL tE) (bL o13)))) (bN tE (bN nO (bN tE (bN nO (bL nO) bE) (bL tE)) (bN o16 (bL tE) (bL o15))) (bN o23 (bN (o19 P) (bN o18 (bL o17) bE) (bL nO)) (bN o22 (bL o20) (bL o21))))) (bN (Ycd P) (bN (Yb9 P) (bN (o30 P) (bN o28 (bN o26 (bL o25) bE) (bL o27)) (bN o29 (bL nO) (bL tE))) (bN o34 (bN o32 (bN tE (bL tE) bE) (bL o31)) (bN tE (bL o33) (bL nO)))) (bN o1 (bN o40 (bN o36 (bN tE (bL tE) bE) (bL o35)) (bN o39 (bL o37) (bL o38))) (bN o44 (bN o43 (bN o42 (bL o41) bE) (bL tE)) (bN tE (bL nO) (bL tE)))))) (bN (Ycf P) (bN (Yce P) (bN (Yca P) (bN o44 (bN o48 (bN o46 (bL o45) bE) (bL o47)) (bN nO (bL tE) (bL o49))) (bN o55 (bN o53 (bN o51 (bL o50) bE) (bL o52)) (bN o54 (bL nO) (bL tE)))) (bN o66 (bN o60 (bN nO (bN o57 (bL o56) bE) (bL nO)) (bN o59 (bL o58) (bL tE))) (bN o65 (bN o62 (bN tE (bL tE) bE) (bL o61)) (bN o64 (bL tE) (bL o63))))) (bN (Ycc P) (bN (Yb3 P) (bN tE (bN o68 (bN tE (bL tE) bE) (bL o67)) (bN tE (bL o69) (bL nO))) (bN o74 (bN o70 (bN nO (bL nO) bE) (bL tE)) (bN o73 (bL o71) (bL o72)))) (bN o2 (bN tE (bN tE (bN o76 (bL o75) bE) (bL tE)) (bN tE (bL o77) (bL o78))) (bN (o84 P) (bN o82 (bN o80 (bL o79) bE) (bL o81)) (bN nO (bL o83) (bL nO)))))))
noncomputable def t2 (P:Params):Ycl:=(bN (Ycg P) (bN (YbP P) (bN (o110 P) (bN (Ycb P) (bN o8 (bN tE (bN o4 (bN o3 (bL o85) bE) (bL o86)) (bN tE (bN o87 (bL tE) bE) (bL tE))) (bN tE (bN o6 (bN o5 (bL nO) bE) (bL o88)) (bN o7 (bL tE) (bL o89)))) (bN (o14 P) (bN o12 (bN o10 (bN o9 (bL o90) bE) (bL o91)) (bN o11 (bN o93 (bL o92) bE) (bL o94))) (bN nO (bN tE (bN o96 (bL o95) bE) (bL tE)) (bN o13 (bL nO) (bL o97))))) (bN tE (bN nO (bN tE (bN nO (bN nO (bL o98) bE) (bL nO)) (bN tE (bN o99 (bL tE) bE) (bL tE))) (bN o16 (bN tE (bN o101 (bL o100) bE) (bL tE)) (bN o15 (bL o102) (bL o103)))) (bN o23 (bN (o19 P) (bN o18 (bN o17 (bL o104) bE) (bL o105)) (bN nO (bN tE (bL nO) bE) (bL nO))) (bN o22 (bN o20 (bN nO (bL o106) bE) (bL o107)) (bN o21 (bL o108) (bL o109)))))) (bN (Ycd P) (bN (Yb9 P) (bN (o30 P) (bN o28 (bN o26 (bN o25 (bL o111) bE) (bL o112)) (bN o27 (bN tE (bL o113) bE) (bL o114))) (bN o29 (bN nO (bN nO (bL tE) bE) (bL nO)) (bN tE (bL o115) (bL tE)))) (bN o34 (bN o32 (bN tE (bN tE (bL tE) bE) (bL tE)) (bN o31 (bN nO (bL o116) bE) (bL o117))) (bN tE (bN o33 (bN o119 (bL o118) bE) (bL o120)) (bN nO (bL tE) (bL nO))))) (bN o1 (bN o40 (bN o36 (bN tE (bN tE (bL nO) bE) (bL tE)) (bN o35 (bN o122 (bL o121) bE) (bL o123))) (bN o39 (bN o37 (bN tE (bL tE) bE) (bL o124)) (bN o38 (bL o125) (bL o126)))) (bN o44 (bN o43 (bN o42 (bN o41 (bL o127) bE) (bL o128)) (bN tE (bN o130 (bL o129) bE) (bL tE))) (bN tE (bN nO (bN tE (bL nO) bE) (bL nO)) (bN tE (bL tE) (bL tE))))))) (bN (Ycf P) (bN (Yce P) (bN (Yca P) (bN o44 (bN o48 (bN o46 (bN o45 (bL tE) bE) (bL o131)) (bN o47 (bN o133 (bL o132) bE) (bL o134))) (bN nO (bN tE (bN tE (bL o135) bE) (bL tE)) (bN o49 (bL nO) (bL o136)))) (bN o55 (bN o53 (bN o51 (bN o50 (bL o137) bE) (bL o138)) (bN o52 (bN tE (bL o139) bE) (bL o140))) (bN o54 (bN nO (bN o141 (bL tE) bE) (bL nO)) (bN tE (bL o142) (bL tE))))) (bN o155 (bN o60 (bN nO (bN o57 (bN o56 (bL tE) bE) (bL o143)) (bN nO (bN tE (bL nO) bE) (bL nO))) (bN o59 (bN o58 (bN o145 (bL o144) bE) (bL o146)) (bN tE (bL o147) (bL tE)))) (bN o65 (bN o62 (bN tE (bN tE (bL o148) bE) (bL tE)) (bN o61 (bN o150 (bL o149) bE) (bL o151))) (bN o64 (bN tE (bN o152 (bL tE) bE) (bL tE)) (bN o63 (bL o153) (bL o154)))))) (bN (Ycc P) (bN (Yb3 P) (bN tE (bN o68 (bN tE (bN tE (bL o156) bE) (bL tE)) (bN o67 (bN nO (bL o157) bE) (bL o158))) (bN tE (bN o69 (bN o160 (bL o159) bE) (bL o161)) (bN nO (bL tE) (bL nO)))) (bN o74 (bN o70 (bN nO (bN nO (bL nO) bE) (bL nO)) (bN tE (bN o162 (bL tE) bE) (bL tE))) (bN o73 (bN o71 (bN tE (bL o163) bE) (bL o164)) (bN o72 (bL o165) (bL o166))))) (bN o2 (bN tE (bN tE (bN o76 (bN o75 (bL o167) bE) (bL o168)) (bN tE (bN o169 (bL tE) bE) (bL tE))) (bN tE (bN o77 (bN nO (bL nO) bE) (bL o170)) (bN o78 (bL tE) (bL o171)))) (bN (o84 P) (bN o82 (bN o80 (bN o79 (bL tE) bE) (bL o172)) (bN o81 (bN o174 (bL o173) bE) (bL o175))) (bN nO (bN o83 (bN o177 (bL o176) bE) (bL o178)) (bN nO (bL nO) (bL nO))))))))
noncomputable def Hz (P:Params):Heap:=⟨⟨Ycg P::YbP P::Ycf P::o110 P::Yce P::Ycd P::Ycc P::Ycb P::Yca P::Yb9 P::Yb3 P::tE::o155::o1::o2::o8::o44::o30 P::tE::nO::o60::o40::tE::o14 P::o55::o34::o74::o23::o65::o44::o84 P::tE::o48::o28::o68::tE::nO::o36::tE::o12::o53::o32::o70::o19 P::o62::o43::o82::tE::nO::o29::tE::o16::o59::o39::tE::nO::o54::tE::o73::o22::o64::tE::nO::o4::o46::o26::tE::nO::o57::tE::o76::o10::o51::tE::nO::o18::tE::o42::o80::o6::tE::nO::o69::tE::o58::o37::o77::tE::nO::o33::o71::o20::tE::nO::o83::tE::o47::o27::o67::tE::nO::o35::tE::o11::o52::o31::tE::nO::o61::tE::o81::o7::o49::tE::nO::o15::tE::o38::o78::o13::tE::nO::o72::o21::o63::tE::nO::o3::o45::o25::tE::nO::o56::tE::o75::o9::o50::tE::nO::o17::tE::o41::o79::o5::tE::nO::o160::o101::o145::tE::nO::o96::o141::o119::tE::nO::o152::tE::o177::o87::o133::tE::nO::o99::tE::o122::o169::o93::tE::nO::o162::tE::o150::o130::o174::tE::nO::o115::tE::o102::o147::o125::tE::nO::o142::tE::o165::o108::o153::tE::nO::o86::o131::o112::tE::nO::o143::tE::o168::o91::o138::tE::nO::o105::tE::o128::o172::o88::tE::nO::o161::tE::o146::o124::o170::tE::nO::o120::o164::o107::tE::nO::o178::tE::o134::o114::o158::tE::nO::o123::tE::o94::o140::o117::tE::nO::o151::tE::o175::o89::o136::tE::nO::o103::tE::o126::o171::o97::tE::nO::o166::o109::o154::tE::nO::o85::tE::o111::o156::o98::tE::nO::o167::o90::o137::tE::nO::o104::o148::o127::tE::nO::o135::tE::o159::o100::o144::tE::nO::o95::tE::o118::o163::o106::tE::nO::o176::tE::o132::o113::o157::tE::nO::o121::tE::o92::o139::o116::tE::nO::o149::o129::o173::[]⟩,{}⟩
noncomputable def st1:List Stmt:=[Z.top 0,Z.top 1,Z.top 2,Z.top 3,Z.top 4,Z.top 5,Z.top 6,Z.top 7,Z.top 8,Z.top 9,Z.top 10,Z.top 11,Z.top 12,Z.top 13,Z.top 14,Z.top 15,Z.top 16,Z.top 17,Z.top 18,Z.top 19,Z.top 20,Z.top 21,Z.top 22,Z.top 23]
noncomputable def st2:List Stmt:=[Z.top 24,Z.top 25,Z.top 26,Z.top 27,Z.top 28,Z.top 29,Z.top 30,Z.top 31,Z.top 32,Z.top 33,Z.top 34,Z.top 35,Z.top 36,Z.top 37,Z.top 38,Z.top 39,Z.top 40,Z.top 41,Z.top 42,Z.top 43,Z.top 44,Z.top 45,Z.top 46,Z.top 47,Z.top 48,Z.top 49]
noncomputable def bd:List Stmt:=st1++(st2++[])
noncomputable abbrev pw:Program:=PySem.Challenge.pw_beatplans_k23_great_rounds
noncomputable def qw:Program:={ pw with main:={ pw.main with body:=[Z.top 1,Z.top 2,Z.top 4,Z.top 5,Z.top 6,Z.top 7,Z.top 9,Z.top 10,Z.top 11,Z.top 12,Z.top 14,Z.top 15,Z.top 16,Z.top 17,Z.top 18,Z.top 19,Z.top 21,Z.top 23,Z.top 24,Z.top 25,Z.top 26,Z.top 27,Z.top 28,Z.top 29,Z.top 30,Z.top 31,Z.top 32,Z.top 34,Z.top 35,Z.top 36,Z.top 37,Z.top 38,Z.top 39,Z.top 40,Z.top 41,Z.top 42,Z.top 43,Z.top 44,Z.top 45,Z.top 46,Z.top 47,Z.top 48,Z.top 49] } }
noncomputable def en:Env:={ scope:=pw.main.scope,locals:=mainNs,globals:=mainNs,cells:=[],code:=.ref 13,frame:=some 14 }
noncomputable def cE:Code:=.body bd en
noncomputable abbrev pz:Pos:=⟨0,0,0,0⟩
noncomputable abbrev fz:List Frame:=[PySem.W.topFrame pz]
noncomputable abbrev s0 (w:World)(os:OsState):Shared:=⟨YbD w.params,⟨[]⟩,PySem.W.boot_drawn,PySem.W.boot_toks,os⟩
noncomputable abbrev sz (w:World)(os:OsState):Shared:=⟨Hz w.params,⟨[]⟩,{},658,os⟩
noncomputable def sT (t:Params->Ycl)(n k:Nat)(w:World)(os:OsState):PySem.W.SharedT:=⟨t w.params,n,{},⟨[]⟩,{},k,os⟩
section
variable (w:World)(os:OsState)
theorem jod:PySem.W.topGo Yc9 pw w 11 (some (.ref 6)) 12 (s0 w os) (Ye6 pw)=some (⟨Ha w.params,⟨[]⟩,{},187,os⟩,⟨denote Yc9 cE,cE,pz,fz⟩):=by
 rw[PySem.W.Fast.te15667345088766844465,Ya1,PySem.W.Fast.te11892475500146522536];kernel_rfl
theorem jof:PySem.W.segRun Yc9 pw w 11 (some (.ref 6)) 1 1 ⟨Ha w.params,⟨[]⟩,{},187,os⟩ (PySem.W.blockOf bd en cE pz fz)=some (.next,(sT t0 15 187 w os).abs,cE,pz):=by
 rw[PySem.W.Fast.te14374325043358763698,Ya1];kernel_rfl
theorem r1:Ye7 Yc9 pw w 11 (some (.ref 6)) 1 982 (sT t0 15 187 w os) (YeP st1 en cE pz fz)=some (.next,sT t1 144 409 w os,cE,⟨95,0,95,9⟩):=by
 rw[YcH,Ya1];kernel_rfl
theorem r2:Ye7 Yc9 pw w 11 (some (.ref 6)) 1 791 (sT t1 144 409 w os) (YeP st2 en cE ⟨95,0,95,9⟩ fz)=some (.next,sT t2 303 658 w os,cE,⟨273,0,291,15⟩):=by
 rw[YcH,Ya1];kernel_rfl
theorem joe:Yfp Yc9 pw w 11 (some (.ref 6)) 2 (sT t2 303 658 w os).abs ⟨PySem.W.doneF .next,cE,⟨273,0,291,15⟩,fz⟩=some (sz w os):=by
 rw[PySem.W.Fast.te14082659384304107361,Ya1];kernel_rfl
theorem joc:Yfp Yc9 pw w 11 (some (.ref 6)) (12+(1+(982+(791+(2))))) (s0 w os) (Ye6 pw)=some (sz w os):=
 PySem.W.go_top (jod w os) (PySem.W.piece_block (jof w os) (YeE (YeD (r1 w os)) (YeE (YeD (r2 w os)) (joe w os))))
end
noncomputable def KK:Params->Yab:=λP=>((1:Addr),YbP P)::((3:Addr),o110 P)::((52:Addr),o59)::((53:Addr),o39)::((59:Addr),o22)::((60:Addr),o64)::((64:Addr),o46)::((65:Addr),o26)::((71:Addr),o10)::((72:Addr),o51)::((78:Addr),o80)::((79:Addr),o6)::((85:Addr),o37)::((86:Addr),o77)::((90:Addr),o71)::((91:Addr),o20)::((97:Addr),o27)::((98:Addr),o67)::((104:Addr),o52)::((105:Addr),o31)::((111:Addr),o7)::((112:Addr),o49)::((118:Addr),o78)::((119:Addr),o13)::((123:Addr),o21)::((124:Addr),o63)::((128:Addr),o45)::((129:Addr),o25)::((135:Addr),o9)::((136:Addr),o50)::((142:Addr),o79)::((143:Addr),o5)::((147:Addr),o101)::((148:Addr),o145)::((152:Addr),o141)::((153:Addr),o119)::((159:Addr),o87)::((160:Addr),o133)::((166:Addr),o169)::((167:Addr),o93)::((173:Addr),o130)::((174:Addr),o174)::((180:Addr),o147)::((181:Addr),o125)::((187:Addr),o108)::((188:Addr),o153)::((192:Addr),o131)::((193:Addr),o112)::((199:Addr),o91)::((200:Addr),o138)::((206:Addr),o172)::((207:Addr),o88)::((213:Addr),o124)::((214:Addr),o170)::((218:Addr),o164)::((219:Addr),o107)::((225:Addr),o114)::((226:Addr),o158)::((232:Addr),o140)::((233:Addr),o117)::((239:Addr),o89)::((240:Addr),o136)::((246:Addr),o171)::((247:Addr),o97)::((251:Addr),o109)::((252:Addr),o154)::((258:Addr),o156)::((259:Addr),o98)::((263:Addr),o90)::((264:Addr),o137)::((268:Addr),o148)::((269:Addr),o127)::((275:Addr),o100)::((276:Addr),o144)::((282:Addr),o163)::((283:Addr),o106)::((289:Addr),o113)::((290:Addr),o157)::((296:Addr),o139)::((297:Addr),o116)::((301:Addr),o129)::((302:Addr),o173)::[]
noncomputable def KA:List Addr:=1::3::52::53::59::60::64::65::71::72::78::79::85::86::90::91::97::98::104::105::111::112::118::119::123::124::128::129::135::136::142::143::147::148::152::153::159::160::166::167::173::174::180::181::187::188::192::193::199::200::206::207::213::214::218::219::225::226::232::233::239::240::246::247::251::252::258::259::263::264::268::269::275::276::282::283::289::290::296::297::301::302::[]
noncomputable def fl:Z.FL:=(53,52,(.str q56 232))::(60,59,(.str q56 232))::(65,64,(.str q56 232))::(72,71,(.str q56 232))::(79,78,(.str q8 273))::(86,85,(.str q8 273))::(91,90,(.str q8 273))::(98,97,(.str q8 273))::(105,104,(.str q16 323))::(112,111,(.str q16 323))::(119,118,(.str q16 323))::(124,123,(.str q16 323))::(129,128,(.str q16 323))::(136,135,(.str q16 323))::(143,142,(.str q6 392))::(148,147,(.str q43 405))::(153,152,(.str q43 405))::(160,159,(.str q43 405))::(167,166,(.str q43 405))::(174,173,(.str q43 405))::(181,180,(.str q43 405))::(188,187,(.str q43 405))::(193,192,(.str q43 405))::(200,199,(.str q43 405))::(207,206,(.str q80 497))::(214,213,(.str q80 497))::(219,218,(.str q80 497))::(226,225,(.str q80 497))::(233,232,(.str q80 497))::(240,239,(.str q80 497))::(247,246,(.str q80 497))::(252,251,(.str q80 497))::(259,258,(.str q80 497))::(264,263,(.str q80 497))::(269,268,(.str q80 497))::(276,275,(.str q80 497))::(283,282,(.str q80 497))::(290,289,(.str q80 497))::(297,296,(.str q80 497))::(302,301,(.str q80 497))::[]
theorem k_dyn (P:Params):Z.dynB Z.T (KK P) 0 fl Z.T.funs Z.sts=true:=by kernel_rfl
theorem k_lk (P:Params):fl.map (λx=>(KK P).lookup x.1)=Z.lkR fl Z.T.funs Z.sts:=by kernel_rfl
theorem k_blt (P:Params):Z.bltB (KK P)=true:=by kernel_rfl
theorem k_gs (P:Params):Z.gsB (KK P) Z.T.gn Z.T.gs=true:=by kernel_rfl
theorem k_cs (P:Params):Z.CsA (KK P) Z.T.cs:=trivial
noncomputable abbrev rr:PySem.W.OpenRow:=PySem.Challenge.rw_beatplans_k23_great_rounds.row
noncomputable def Xt:Shared->Bool:=λs=>PySem.W.xlAt qw [] s&&PySem.W.recOk (PySem.W.RowW.records rr.toRowW) s
noncomputable abbrev hk:PySem.W.Hook:=PySem.W.kHook KK KA (λ_=>by kernel_rfl)
theorem jmB (w:World):((YbD w.params).isNs YaK&&(⟨[]⟩:Array YdJ).size==0,(YbD w.params).objs.size,(YbD w.params).nsMap YaK "__annotations__")=(true,11,some (Ybw 6)):=by
 rw[PySem.W.Fast.te8920871248978507458];kernel_rfl
theorem k_l1 (w:World)(os:OsState):(PySem.W.staticsOk (importedModules pw.main.body) (YbD w.params) (Hz w.params)&&PySem.W.namesBound pw (Hz w.params)&&PySem.W.gensDone (sz w os)&&PySem.W.laidKept (YbD w.params) (Hz w.params))=true:=by
 rw[YcK];kernel_rfl
theorem k_l2 (w:World)(os:OsState):PySem.W.openSeen qw [] (importedModules pw.main.body) Xt true (sz w os)=PySem.W.openGood qw []:=by
 rw[PySem.W.Fast.te4187177175401517315,YcK];kernel_rfl
theorem k_l3 (w:World)(os:OsState):Yc1 hk (sz w os)=Yc0 hk w:=by kernel_rfl
theorem k_hl:PySem.W.LeftO pw qw [] Xt (Yc1 hk) (Yc0 hk) 3668:=PySem.W.LeftO.of_pieces (PySem.W.boot_open (by kernel_rfl) (by decide) λ_=>by kernel_rfl) jmB joc (by decide) λw=>funext λos=>YcZ (k_l1 w os) (YcZ (k_l2 w os) (k_l3 w os))
end Y
set_option maxRecDepth 100000 in
set_option maxHeartbeats 0 in
theorem Z.wellS:PySem.Challenge.rw_beatplans_k23_great_rounds.wellSaid=true:=by decide +kernel
open PySem PySem.W PyProof.Rows
set_option maxRecDepth 100000 in
set_option maxHeartbeats 0 in
theorem PySem.Challenge.cw_beatplans_k23_great_rounds_holds : PySem.Challenge.rw_beatplans_k23_great_rounds.Holds := by
 refine PySem.W.holds_law Z.wellS λsaid=>?_
 refine PySem.W.holds_open (q:=Y.qw) (loose:=[]) (Xt:=Y.Xt) (XP:=PySem.W.XL Y.qw []) (Yf:=Yc1 Y.hk) (Ya:=Yc0 Y.hk) (YP:=PySem.W.Hook.says Y.hk) (N:=3668) Y.k_hl (PySem.W.Hook.of Y.hk) (PySem.W.Hook.keeps Y.hk) (λs e=>PySem.W.xl_of s (Bool.and_eq_true_iff.mp e).1) PySem.W.XL.keeps (by rfl) (by rfl) (by rfl) (λs e=>PySem.W.recFacts_of (Bool.and_eq_true_iff.mp e).2) (by rfl) said (by decide +kernel) ⟨rfl,rfl,rfl,rfl,rfl,by decide +kernel⟩ ?hw ?hc
 case hw=>w_witness2
 refine Z.walk (l:=PySem.Challenge.rw_beatplans_k23_great_rounds) rfl rfl (λw h Y=>PySem.W.kIn_of Y) ?K ?S ?B ?F
 case K=>intro w;rfl
 case S=>intro w;exact⟨_,rfl,rfl⟩
 case B=>exact λw t ht=>(nomatch (show t∈[]from ht))
 case F=>exact λw mg fa h X G hm=>Z.all2 X G hm Z.prog_rep Z.prog_eq Z.tabsU (Y.k_dyn _) (Y.k_lk _) (Y.k_blt _) (Y.k_gs _) (Y.k_cs _) rfl rfl rfl rfl rfl
