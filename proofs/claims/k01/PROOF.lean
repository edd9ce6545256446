import PyProof.Rows.All
import Wide.All
import OpenK.AllK
import Wide.FinOn
import Lean
import PyProof.EqAt
import PyProof.EqKinds
import PyProof.TupleCall
import PySem.Challenge.RW_beatplans_k01_what_plans_are
noncomputable section
set_option compiler.extract_closed false
set_option genSizeOf false
set_option genInjectivity false
set_option Elab.async false
set_option linter.all false
set_option maxRecDepth 100000
set_option maxHeartbeats 8000000
open Nat renaming add_le_add → YdT, add_le_add_left → YeH, add_le_add_right → YcN, le_add_right → YaK, le_of_eq → YcH, le_of_lt → Yb8, le_refl → Yaa, le_trans → Yag, lt_irrefl → Ybb, lt_of_le_of_lt → Ybq, lt_of_lt_of_le → Yam, lt_succ_of_lt → YeZ, lt_trans → Yek, mul_comm → Ydd, ne_of_lt → YaH, zero_add → Yej, zero_le → YaN
open List renaming all_cons → YbC, all_eq_true → YbU, all_map → YcA, any_cons → Yba, append_assoc → YeQ, append_nil → Ycz, cons_append → YbT, drop_eq_getElem_cons → Yca, drop_length → Ye1, drop_of_length_le → Yd7, drop_zero → YdL, eq_of_mem_replicate → Ycn, filterMap → YdK, filterMap_cons → Ybh, filterMap_map → YeI, filter_cons → Ye0, filter_eq_nil_iff → Yd6, find?_cons → Ybg, flatten_cons → Ya4, foldl → Yc1, foldl_cons → Ydt, getElem?_append_left → Yb9, getElem?_append_right → YdA, getElem?_eq_getElem → Ybf, getElem?_map → YaV, getElem?_range → Yev, getElem?_replicate → YdX, getElem?_set_ne → YbW, getElem?_set_self → YbJ, length_append → Yaq, length_cons → YaX, length_drop → Ya8, length_erase_of_mem → YdU, length_map → Yai, length_nil → YbB, length_pos_of_mem → Yd5, length_replicate → YbS, length_reverse → Yeu, length_singleton → Ycy, length_take → Ya7, length_take_le → YcS, lookup → Yet, lookup_cons → Ybk, map_append → Yb0, map_cons → YaI, map_map → Ya9, map_nil → Yda, mem_append → Yds, mem_append_left → YcL, mem_append_right → YaG, mem_cons → Yas, mem_cons_of_mem → Yal, mem_cons_self → Yaw, mem_erase_of_ne → Yel, mem_of_getElem? → YaL, mem_of_mem_take → YcK, nil_append → YaR, not_mem_nil → Yao, of_mem_zip → Ydr, range → Ybm, replicate → Yab, replicate_succ → Yay, reverse_cons → YbL, size_toArray → Yaj, take_add_one → YeP, take_append_drop → YbR, take_of_length_le → Yd4, take_sublist → YeO
open PySem.W renaming BT → Yb6, Frag → Yac, OpenLaw → Yc8, WalkO → YeX, boot_heap → Ybr, boot_o_0 → Ycm, boot_o_1 → YbP, boot_o_10 → Yb5, boot_o_2 → Ycl, boot_o_3 → Yer, boot_o_4 → Yck, boot_o_5 → Ycj, boot_o_6 → Yci, boot_o_7 → Ych, boot_o_8 → Ycg, boot_o_9 → Ycf, cellsFrom_some → YdI, codeIn → Yb3, findIn → YeN, fnOf → Ybp, instObj → Yc7, keepIn → Yb2, kia_one → YaW, kitOne → Ycx, kitx_dict → Yef, kitx_list → Yee, lookIn → Ydn, methodObj → YcX, mg_of → Ycd, nsIn → YbH, plainGet → Yeq, topRun → YeM, topStub → YeF
open PySem renaming Comprehension → Ydp, FuncData → YdY, NameKind → Ybe, PassesOwn → YeY, Spec → Yat, assignEach → YaZ, assignInOrder → YeD, attributeBase → Ydk, behindInMarks → Ydj, binaryOp → YaY, bootBuiltins → Ybw, builtinsNs → YcZ, call → YeE, call_meets → Ybc, cellsFrom → Ya1, codeAny_mono → Ycr, compTurn → YdV, compareOp → YaE, concat_meets → YeV, evalPart_none → YeC, foldedForSure → YeB, foldedSetIterable → YaP, lastMarks → YeU, letOwnedTupleGo → Ycc, mainGlobals → YaC, mem_of_lookup → Yav, newFunctionEnv → Yed, noFill_tuple_add → YdO, post_val_or_str → YcV, pushCells → Yd1, repr_of_reads' → Yec, scanBound → YeT, seqIndex_neg → YeS, seqSlot_of → YeL, seq_tuple_add → YeA, sizeLine → Yae, sizeLine_eq → Yc3, sliceBounds → YbE, slicePick → Ydi, starEach → Yaz, strKind → YcW, strLen_append → Yez, swappedStores → Ya6, swapsWith → Ycw, swapsWithSole → Ybo, sysModules → YaT, treeTable → Ydg, tupleKind → Ydf, tupleKind_room_in1 → YbO, typeIs_int → Ydw, typeIs_str → YbV, wpAny_Call_Name_kw → YbN, wpAny_binaryOp_repeat_ref → Yeb, wpAny_bind → Yad, wpAny_callSpecial?_slot → YcC, wpAny_call_entry → YdN, wpAny_comprehension_free → Yeo, wpAny_field → Ybv, wpAny_getItem_list_slice → Ycv, wpAny_getItem_str_slice → YbM, wpAny_holding → Ybn, wpAny_mono → Ya2, wpAny_newObj_type → YaO, wpAny_passesOwn → Ycb, wpAny_pure → Yak, wpAny_pyNext_tuple_end → YeJ, wpAny_pyNext_tuple_item → Yex, wpAny_sequenceKey → Ydv, wpAny_setField → Yea, wpAny_standAt → Yde, wpAny_truthy_bool → Ybi, wpAny_typeOf → YdE
open PySem.Heap renaming SameBut → Ydb, get?_push_of_some → Yaf, get?_push_size → Yar, get?_update_other → Ycu, get?_update_self → Yd9, lt_size → Yan, size_push → YdM
open Bool renaming and_eq_true → Yap, eq_iff_iff → Ybt, false_eq_true → YbD, false_ne_true → Yah, false_or → Yd0, not_eq_true' → Yc2, or_eq_true → Yb1, true_and → YaS
open Option.some renaming inj → Yau
open PySem.NameKind renaming cell → Yax, free → YaB
open PySem.PyData renaming canLayAll0 → Yes, depthAll → YbA, eqv → YaA, eqvAll → YcQ, showable → YbY, showableAll → Yeh, shown → Yby, shownAll → YbX, str → Ybx
open Int renaming ediv_one → Yem, emod_lt_of_pos → YbG, emod_nonneg → Yb4, eq_ofNat_of_zero_le → YaD, toNat_natCast → Ycq
open PySem.Builtin.Slice renaming sliceAdjust → Ya5, sliceApplied → Ybl, sliceFields → YcY, slicePlaces → YaF
open PySem.Builtin.Tuple renaming tupleExact → YaJ, tupleIsExact → YcU, tupleItemsOf → YbQ, tupleTooMany → YcT
open PyProof.Rows renaming args_tuple_getitem → Ydm, assignInOrder_cons → Ydl, callWith_builtin1 → YcG, callWith_type1 → YbK, entry_tuple_getitem → Yc4, slot_tuple_getitem → YaM, subscriptTail → Ydh, subscriptTail_builtinR → YeK, tupleItemsOf_ → Yey
open PySem.Unicode renaming upperOf → YaQ
open PySem.Builtin.Str renaming occurrences → YaU, tooLong → YcF
open PySem.W.Fast renaming te14364793385576792824 → Ya0, te5923862056798008813 → Yct
open PySem.Str renaming length → Yc5, ofString → Ya3
open PySem.Value renaming bool → YdG, int → Yd3, isStrOf → YdP, none → Ybj, ref → Ybd, str → Yd2, type → YdF
open Array renaming all_toList → Ycs, getElem?_setIfInBounds_self_of_lt → Ybs, length_toList → YcP
open True renaming intro → Ybu
open Sum.inr renaming injEq → Ybz
open PySem.Obj renaming isFreed_of_fields → Yei, mapFields → YbF, mapSeq → Yc9
open PySem.F renaming args_dict_get_3 → Ydz, args_tuple_add_2 → Yb7, args_tuple_mul_2 → Ydc, entry_dict_get → YdJ, entry_tuple_add → Yce, entry_tuple_mul → Ydo, plainAttrs_dict → Ydy, plainAttrs_list → Ydx, slot_dict_eq_refl → Ye2, slot_dict_get → YbI, slot_int_rmul → YcO, slot_tuple_add → Ycp, slot_tuple_mul → YdC, type_dict_get → YdS
open PySem.Builtin.List renaming listTooLong → YbZ
open PySem.Txt renaming slice → YcE, slice_le → YcD, upper → Yco, upper → Yeg
open False renaming elim → YcB
open PySem.W.Hook renaming obs → YcJ, val → YcI
open PySem.SeqAt renaming EqAt → YdH, in_listAt → YeW, in_tupleAt → Yc6, notIn_listAt → Yep, notIn_tupleAt → YcM
open PySem.Paired renaming length → YcR
open Option renaming getD_none → YeG, isSome_map → Yc0
open PySem.SeqAt.RcNeAt renaming tuples → Ydq
open PySem.Calls renaming Name_function_global → Ydu, callWith_builtin → YdZ, spliced_cons → Yew
open List.Pairwise renaming nil → YdB
open Classical renaming em → YdD
open PySem.SeqAt.EqAt renaming int_str → YdR, str_int → YdQ
open PySem.ScopeKind renaming function → YdW
open PySem.EqBoolInt renaming of_rcne → Yd8
open PyProof.Rows.F renaming plain_set_update_loop → Yen
open Lean.Parser.Tactic renaming simpLemma → YeR
open PySem.Builtin.Frozenset renaming newClass → Ye4, updateFrom → Ye3
namespace L2
open PySem PySem.Spec PyProof.Rows

abbrev Key:=Sum Int Str
noncomputable def jfM  : Key->Value->Bool
 |.inl k,v=>Value.isInt k v
 |.inr x,v=>YdP x v
noncomputable def keyH  (w:World):Key->Int
 |.inl k=>hashInt k
 |.inr x=>hashStr w x
def jat  : ∀{k } {v },jfM k v=true->(∃i t,k=Sum.inl i/\v=Yd3 i t)\/(∃x t,k=Sum.inr x/\v=Yd2 x t)
 |.inl i,v,h=>by
  obtain⟨t,e⟩:=Value.isInt_shape (k:=i) (v:=v) h;exact .inl ⟨i,t,rfl,e⟩
 |.inr x,v,h=>by
  obtain⟨t,e⟩:=Value.isStrOf_shape (x:=x) (v:=v) h;exact .inr ⟨x,t,rfl,e⟩
def jgB   i t:jfM (.inl i) (.int i t)=true:=by simp[jfM,Value.isInt]
def jgA   x t:jfM (.inr x) (.str x t)=true:=by simp[jfM,YdP]
def jlD   a b:decide ((Sum.inl a:Key)=Sum.inl b)=(a==b):=by
 by_cases e:a=b
 ·subst e;simp
 ·have h:¬(Sum.inl a:Key)=Sum.inl b:=λq=>e (Sum.inl.inj q);rw[decide_eq_false h];exact(beq_eq_false_iff_ne.mpr e).symm
def jlA   a b:decide ((Sum.inr a:Key)=Sum.inr b)=decide (a=b):=by
 by_cases e:a=b
 ·subst e;simp
 ·have h:¬(Sum.inr a:Key)=Sum.inr b:=λq=>e (Sum.inr.inj q);rw[decide_eq_false h,decide_eq_false e]
def jlC   a b:decide ((Sum.inl a:Key)=Sum.inr b)=false:=decide_eq_false (λq=>nomatch q)
def jlB   a b:decide ((Sum.inr a:Key)=Sum.inl b)=false:=decide_eq_false (λq=>nomatch q)

def jao   prog w:PySem.KeyKind prog w Key where
 is:=jfM
 hash:=keyH w
 inj:=λv a b ha hb=>by
  rcases jat ha with⟨i,t,rfl,rfl⟩|⟨x,t,rfl,rfl⟩
  ·rcases jat hb with⟨j,u,rfl,e⟩|⟨y,u,rfl,e⟩
   ·injection e with e1 _;rw[e1]
   ·exact nomatch e
  ·rcases jat hb with⟨j,u,rfl,e⟩|⟨y,u,rfl,e⟩
   ·exact nomatch e
   ·injection e with e1 _;rw[e1]
 byValue:=λk v h=>by
  rcases jat h with⟨i,t,rfl,rfl⟩|⟨x,t,rfl,rfl⟩<;>rfl
 pyHash:=λhv h=>by
  rcases jat hv with⟨i,t,rfl,rfl⟩|⟨x,t,rfl,rfl⟩
  ·exact wpAny_pyHash_int h
  ·exact wpAny_pyHash_str h
 eqBool:=λhu hv h=>by
  rcases jat hu with⟨i,t,rfl,rfl⟩|⟨x,t,rfl,rfl⟩
  ·rcases jat hv with⟨j,u,rfl,rfl⟩|⟨y,u,rfl,rfl⟩
   ·rw[jlD]at h;exact wpAny_eqBool_int h
   ·rw[jlC]at h;exact YdR i t y u _ _ _ _ h
  ·rcases jat hv with⟨j,u,rfl,rfl⟩|⟨y,u,rfl,rfl⟩
   ·rw[jlB]at h;exact YdQ x t j u _ _ _ _ h
   ·rw[jlA]at h;exact wpAny_eqBool_str h
 «strs»:=λk x t v h=>by
  rcases jat h with⟨i,u,rfl,e⟩|⟨y,u,rfl,e⟩
  ·exact nomatch e
  ·injection e with e1 _
   subst e1
   cases v<;>rfl

def jeN   prog w i t:(jao prog w).is (.inl i) (.int i t)=true:=jgB i t
def jeM   prog w x t:(jao prog w).is (.inr x) (.str x t)=true:=jgA x t

set_option genInjectivity true
inductive V where
 |non|bl (b:Bool)|int (i:Int)|str (x:Str)|byt (b:Array UInt8)|flt (b:UInt64)|ref (a:Addr)|ty (n:String)
 deriving DecidableEq

set_option genInjectivity false
def RelV  : V->Value->Prop
 |.non,u=>u=Ybj
 |.bl b,u=>u=YdG b
 |.int i,u=>∃t,u=Yd3 i t
 |.str x,u=>∃t,u=Yd2 x t
 |.byt b,u=>∃t,u=Value.bytes b t
 |.flt b,u=>∃t,u=Value.float b t
 |.ref a,u=>u=Ybd a
 |.ty n,u=>u=YdF n

abbrev Vals  : List V->List Value->Prop:=Paired RelV
def Vals.length    (r:Vals xs us):xs.length=us.length:=YcR r
theorem Vals.get  : ∀{xs } {us } {i:Nat} {x },Vals xs us->xs[i]?=some x->∃u,us[i]?=some u/\RelV x u
 |_,_,_,_,.nil,e=>by simp at e
 |_,_,0,_,.cons r _,e=>by simp at e;subst e;exact⟨_,rfl,r⟩
 |_,_,i+1,x,.cons _ t,e=>by
  obtain⟨u,h1,h2⟩:=Vals.get (i:=i) (x:=x) t (by simpa using e)
  exact⟨u,by simpa using h1,h2⟩
theorem Vals.set    (r:RelV x u):∀{xs } {us } i ,Vals xs us->Vals (xs.set i x) (us.set i u)
 |_,_,_,.nil=>.nil
 |_,_,0,.cons _ t=>.cons r t
 |_,_,i+1,.cons q t=>.cons q (Vals.set r i t)
theorem Vals.append  : ∀{xs ys } {us ws },Vals xs us->Vals ys ws->Vals (xs++ys) (us++ws)
 |_,_,_,_,.nil,s=>s
 |_,_,_,_,.cons r t,s=>.cons r (Vals.append t s)
theorem Vals.take  : ∀{xs } {us } n ,Vals xs us->Vals (xs.take n) (us.take n)
 |_,_,0,_=>.nil
 |_,_,_+1,.nil=>.nil
 |_,_,n+1,.cons r t=>.cons r (Vals.take n t)
theorem Vals.drop  : ∀{xs } {us } n ,Vals xs us->Vals (xs.drop n) (us.drop n)
 |_,_,0,r=>r
 |_,_,_+1,.nil=>.nil
 |_,_,n+1,.cons _ t=>Vals.drop n t
def RelO  : Option V->Option Value->Prop
 |some v,some u=>RelV v u
 |none,none=>True
 |_,_=>False
def KV  {κ:Type}:List (κ×V)->List (κ×Value)->Prop:=Paired λ(p:κ×V) (q:κ×Value)=>p.1=q.1/\RelV p.2 q.2

noncomputable def kV  : Key->V
 |.inl i=>.int i
 |.inr x=>.str x

set_option genInjectivity true
inductive HO where
 |lst (xs:List V)
 |tup (xs:List V)
 |dK (kvs:List (Key×V))|dT (kvs:List (List Key×V))
 |set (S:Int->Bool) (n:Nat)
 |ins (C dx:Addr) (fs:List (Str×V))
 |own (x:Addr)
 |xd (fs:List (Str×V))
 |met (f x:Addr)
 |rng (lo hi:Int)
 |frz (o:Obj) (u:HO)
 |tbl (ps:Array Value)
 |ext (φ:Heap->Prop)

set_option genInjectivity false
abbrev Hp:=Addr->Option HO
noncomputable def upd  (H:Hp)(a:Addr)(o:HO):Hp:=λb=>if b=a then some o else H b
def jau     : upd H a o a=some o:=by unfold upd;rw[if_pos rfl]
def jae     (h:b≠a):upd H a o b=H b:=by unfold upd;rw[if_neg h]
def jmW  {H:Hp}(h:H a=some o)(h':H b=some u)(d:o≠u):a≠b:=by
 intro e;subst e;rw[h]at h';exact d (Yau h')
def jai  {H:Hp}(h:H a=some o)(h':H b=none):a≠b:=by
 intro e;subst e;rw[h]at h';cases h'

def TupD  (h:Heap)(a:Addr)(items:Array Value):Prop:=∃o,h.get? a=some o/\o.cls=.type "tuple" /\ ∃n,o.data=.seq items n/\o.dict=none
def TupD.tup     (x:TupD h a items):IsTup h a items:=let ⟨o,e,c,n,d,_⟩:=x;⟨o,e,c,n,d⟩
def TupD.new  (h:Heap) items:TupD (h.push { cls:=.type "tuple",data:=.seq items }) h.objs.size items:=⟨_,Yar _ rfl,rfl,_,rfl,rfl⟩
section
variable (P:Program)(w:World)
def jaD (H:Hp)(h:Heap)(a:Addr):HO->Prop
 |.lst xs=>xs.length<=Yae/\∃(its:List Value) (n:Nat),Vals xs its/\h.get? a=some { cls:=.type "list",data:=.seq its.toArray n }
 |.tup xs=>xs.length<=Yae/\∃its:List Value,Vals xs its/\TupD h a its.toArray
 |.dK kvs=>kvs.length<=Yae/\(a==YaT)=false/\∃vs,KV kvs vs/\h.DictOf (jao P w) a vs
 |.dT kvs=>kvs.length<=Yae/\(a==YaT)=false/\∃xs:List (List Key×Addr×Value),
   Paired (λ(p:List Key×V) (q:List Key×Addr×Value)=>p.1=q.1/\H q.2.1=some (.tup (p.1.map kV))/\RelV p.2 q.2.2) kvs xs/\
   ∃o es ep,h.get? a=some o/\o.ExactDict/\o.data=.dict es ep/\es.toList=xs.map (entryOfKey (Ydf (jao P w)))/\(xs.map (·.1)).Nodup
 |.set S n=>h.SetOf (intKind P w) a S n
 |.ins C dx fs=>H dx=some (.own a)/\fs.length<=1000/\dx≠a/\h.get? a=some (Yc7 C dx)/\
   ∃mA,h.Ns1 dx mA/\(∀f,RelO (fs.lookup f) (mA f))/\PySem.Within mA (fs.map (·.1))
 |.own _=>∃o,h.get? a=some o
 |.xd fs=>∃mA,h.Ns1 a mA/\∀f,RelO (fs.lookup f) (mA f)
 |.rng lo hi=>∃t u v,h.get? a=some { cls:=.type "range",data:=.fields #[.int lo t,.int hi u,.int 1 v] }
 |.frz o u=>h.get? a=some o/\jaD H h a u
 |.tbl ps=>h.get? a=some { cls:=.none,data:=.fields ps }
 |.met f x=>h.get? a=some (YcX (.ref f) (.ref x))
 |.ext φ=>φ h/\(∃o,h.get? a=some o)/\∀h1 h2:Heap,φ h1->(∀o,h1.get? a=some o->h2.get? a=some o)->φ h2
def HOk (H:Hp)(h:Heap):Prop:=∀a o,H a=some o->jaD P w H h a o
end

section
variable {P:Program}{w:World}{H H':Hp}{h h':Heap}{a:Addr}{o:HO}
theorem jaD.lt  (x:jaD P w H h a o):a<h.objs.size:=by
 cases o with
 |lst xs=>obtain⟨_,_,_,_,e⟩:=x;exact Yan e
 |tup xs=>obtain⟨_,_,_,p⟩:=x;exact p.tup.lt
 |dK kvs=>obtain⟨_,_,_,_,o,_,_,e,_⟩:=x;exact Yan e
 |dT kvs=>obtain⟨_,_,_,_,o,_,_,e,_⟩:=x;exact Yan e
 |set S n=>obtain⟨o,_,_,_,e,_⟩:=x;exact Yan e
 |ins C dx fs=>obtain⟨_,_,_,e,_⟩:=x;exact Yan e
 |own y=>obtain⟨_,e⟩:=x;exact Yan e
 |xd fs=>obtain⟨_,⟨_,_,_,e,_⟩,_⟩:=x;exact Yan e
 |rng lo hi=>obtain⟨_,_,_,e⟩:=x;exact Yan e
 |frz ob u=>obtain⟨e,_⟩:=x;exact Yan e
 |tbl ps=>exact Yan (show h.get? a=some _ from x)
 |met f y=>exact Yan (show h.get? a=some _ from x)
 |ext φ=>obtain⟨_,⟨_,e⟩,_⟩:=x;exact Yan e
theorem Paired.mapP    : ∀{l₁ } {l₂ },Paired F l₁ l₂->(∀a b,F a b->G a b)->Paired G l₁ l₂
 |_,_,.nil,_=>.nil
 |_,_,.cons r t,f=>.cons (f _ _ r) (Paired.mapP t f)
def jaD.stay  (x:jaD P w H h a o)(k:∀b u,(b=a\/H b=some (.own a))->h.get? b=some u->h'.get? b=some u)
  (ho:∀b,H b=some (.own a)->H' b=some (.own a)) (ht:∀b xs,H b=some (.tup xs)->H' b=some (.tup xs)):jaD P w H' h' a o:=by
 induction o with
 |lst xs=>obtain⟨z,its,n,r,e⟩:=x;exact⟨z,its,n,r,k _ _ (.inl rfl) e⟩
 |tup xs=>obtain⟨z,its,r,ob,e,c⟩:=x;exact⟨z,its,r,ob,k _ _ (.inl rfl) e,c⟩
 |dK kvs=>obtain⟨z,y,vs,r,ob,es,ep,e,c⟩:=x;exact⟨z,y,vs,r,ob,es,ep,k _ _ (.inl rfl) e,c⟩
 |dT kvs=>
  obtain⟨z,y,xs,r,ob,es,ep,e,c⟩:=x;exact⟨z,y,xs,Paired.mapP r λp q z=>⟨z.1,ht _ _ z.2.1,z.2.2⟩,ob,es,ep,k _ _ (.inl rfl) e,c⟩
 |set S n=>obtain⟨ob,es,ep,t,e,c⟩:=x;exact⟨ob,es,ep,t,k _ _ (.inl rfl) e,c⟩
 |ins C dx fs=>
  obtain⟨d,z,ne,e,mA,⟨od,es,ep,e2,c⟩,r⟩:=x;exact⟨ho _ d,z,ne,k _ _ (.inl rfl) e,mA,⟨od,es,ep,k _ _ (.inr d) e2,c⟩,r⟩
 |own y=>obtain⟨ob,e⟩:=x;exact⟨ob,k _ _ (.inl rfl) e⟩
 |xd fs=>obtain⟨mA,⟨od,es,ep,e,c⟩,r⟩:=x;exact⟨mA,⟨od,es,ep,k _ _ (.inl rfl) e,c⟩,r⟩
 |rng lo hi=>obtain⟨t,u,v,e⟩:=x;exact⟨t,u,v,k _ _ (.inl rfl) e⟩
 |frz ob u ih=>obtain⟨e,q⟩:=x;exact⟨k _ _ (.inl rfl) e,ih q⟩
 |tbl ps=>
  have e:h.get? a=some { cls:=.none,data:=.fields ps }:=x;show h'.get? a=some { cls:=.none,data:=.fields ps };exact k a _ (.inl rfl) e
 |met f y=>
  have e:h.get? a=some (YcX (.ref f) (.ref y)):=x;show h'.get? a=some (YcX (.ref f) (.ref y));exact k a _ (.inl rfl) e
 |ext φ=>obtain⟨p,⟨o,e⟩,st⟩:=x;exact⟨st _ _ p λo q=>k _ _ (.inl rfl) q,⟨o,k _ _ (.inl rfl) e⟩,st⟩
def HOk.lt  (x:HOk P w H h)(e:H a=some o):a<h.objs.size:=(x a o e).lt
def HOk.fresh  (x:HOk P w H h)(e:h.objs.size<=a):H a=none:=by
 cases q:H a with
 |none=>rfl
 |some u=>exact absurd (Yam (x.lt q) e) (Ybb _)
def HOk.kept  (x:HOk P w H h)(k:∀b u,h.get? b=some u->h'.get? b=some u):HOk P w H h':=λa o e=>
 (x a o e).stay (λb u _ q=>k b u q) (λ_ q=>q) λ_ _ q=>q
def HOk.laid  (x:HOk P w H h)(k:∀b u,h.get? b=some u->h'.get? b=some u)(hp:h.objs.size<=a)(new:jaD P w (upd H a o) h' a o):HOk P w (upd H a o) h':=λb u e=>by
 have hn:=x.fresh hp;by_cases hb:b=a
 ·subst hb;rw[jau]at e;cases e;exact new
 ·rw[jae hb]at e;exact(x b u e).stay (λc v _ q=>k c v q) (λc q=>by rw[jae (jai q hn)];exact q) λc xs q=>by rw[jae (jai q hn)];exact q
end

def Rd  (H:Hp)(a:Addr)(u:HO):Prop:=H a=some u\/∃o,H a=some (.frz o u)
def Rd.ok        (r:Rd H a u)(x:HOk P w H h):jaD P w H h a u:=by
 rcases r with r|⟨o,r⟩
 ·exact x a u r
 ·obtain⟨_,q⟩:=x a _ r;exact q
def Mut  : Option HO->Prop
 |some (.lst _)=>True
 |some (.dK _)=>True
 |some (.dT _)=>True
 |some (.set _ _)=>True
 |some (.ins _ _ _)=>True
 |some (.ext _)=>True
 |_=>False

def HOk.write  (ok:HOk P w H h)(mu:Mut (H x))(he:e=x\/H e=some (.own x))(k:∀b u,b≠e->h.get? b=some u->h'.get? b=some u)(heo:∃u,h'.get? e=some u)
  (new:jaD P w (upd H x o') h' x o'):HOk P w (upd H x o') h':=λb u q=>by
 have nown:∀c y,H c=some (.own y)->c≠x:=λc y r z=>by subst z;rw[r]at mu;exact mu
 have ntup:∀c xs,H c=some (.tup xs)->c≠x:=λc xs r z=>by subst z;rw[r]at mu;exact mu
 by_cases hb:b=x
 ·subst hb;rw[jau]at q;cases q;exact new
 ·rw[jae hb]at q;by_cases hbe:b=e
  ·have q':H b=some (.own x):=by
    rcases he with z|z
    ·exact absurd (hbe.trans z) hb
    ·rw[hbe];exact z
   rw[q]at q';cases q';obtain⟨v,hv⟩:=heo;exact⟨v,by rw[hbe];exact hv⟩
  ·refine(ok b u q).stay (λc v hc r=>k c v ?_ r) (λc r=>by rw[jae (nown c b r)];exact r) λc xs r=>by rw[jae (ntup c xs r)];exact r
   rcases hc with rfl|hc
   ·exact hbe
   ·rintro rfl;rcases he with z|z
    ·exact nown c b hc z
    ·rw[hc]at z;cases z;exact hb rfl

structure Un (fs ex:List Addr)(H H':Hp)(h h':Heap):Prop where
 keep:∀b o,h.get? b=some o->H b=none->b∉fs->b∉ex->h'.get? b=some o
 slot:∀b o,h.get? b=some o->H b=none->b∈fs->b∉ex->∃sl,h'.get? b=some { o with slots:=sl }
 free:∀b o,h.get? b=some o->H b=none->b∉ex->H' b=none
 there:∀b o,h.get? b=some o->b∉ex->∃o',h'.get? b=some o'
 tups:∀b xs,H b=some (.tup xs)->H' b=some (.tup xs)
 frzs:∀b o u,H b=some (.frz o u)->H' b=some (.frz o u)
 tbls:∀b ps,H b=some (.tbl ps)->∃more,H' b=some (.tbl (ps++more))

def Un.any  (u:Un fs ex H H1 h h1)(q:h.get? b=some ob)(n:H b=none)(hx:b∉ex):∃sl,h1.get? b=some { ob with slots:=sl }:=by
 by_cases hb:b∈fs
 ·exact u.slot b ob q n hb hx
 ·exact⟨ob.slots,u.keep b ob q n hb hx⟩
def Un.kept  (k:∀b u,h.get? b=some u->h'.get? b=some u):Un fs ex H H h h':=
 ⟨λb ob q _ _ _=>k b ob q,λb ob q _ _ _=>⟨ob.slots,k b ob q⟩,λ_ _ _ n _=>n,λb ob q _=>⟨ob,k b ob q⟩,λ_ _ q=>q,λ_ _ _ q=>q,λ_ ps q=>⟨#[],by rw[q];simp⟩⟩
def Un.refl  : Un fs ex H H h h:=Un.kept λ_ _ q=>q
def Un.laid  {h: Heap}{a: Addr}(k:∀b u,h.get? b=some u->h'.get? b=some u)(hp:h.objs.size<=a)(hn:H a=none):Un fs ex H (upd H a o) h h' where
 keep:=λb u q _ _ _=>k b u q
 slot:=λb u q _ _ _=>⟨u.slots,k b u q⟩
 free:=λb u q n _=>by rw[jae (YaH (Yam (Yan q) hp))];exact n
 there:=λb u q _=>⟨u,k b u q⟩
 tups:=λb xs q=>by rw[jae (jai q hn)];exact q
 frzs:=λb u xs q=>by rw[jae (jai q hn)];exact q
 tbls:=λb ps q=>⟨#[],by rw[jae (jai q hn),q];simp⟩
def Un.write  (mu:Mut (H x))(he:e=x\/H e=some (.own x))(k:∀b u,b≠e->h.get? b=some u->h'.get? b=some u)(heo:∃u,h'.get? e=some u):Un fs ex H (upd H x o) h h':=by
 have hx:∀b,H b=none->b≠x:=λb n z=>by subst z;rw[n]at mu;exact mu
 have hb:∀b,H b=none->b≠e:=λb n z=>by
  subst z;rcases he with r|r
  ·exact hx b n r
  ·rw[n]at r;cases r
 have hm:∀b u,H b=some u->¬Mut (some u)->b≠x:=λb u q nm z=>by subst z;rw[q]at mu;exact nm mu
 refine⟨λb u q n _ _=>k b u (hb b n) q,λb u q n _ _=>⟨u.slots,k b u (hb b n) q⟩,λb u q n _=>by rw[jae (hx b n)];exact n,λb u q _=>?_,
  λb xs q=>by rw[jae (hm b _ q λz=>z)];exact q,λb u xs q=>by rw[jae (hm b _ q λz=>z)];exact q,λb ps q=>⟨#[],by rw[jae (hm b _ q λz=>z),q];simp⟩⟩
 by_cases hbe:b=e
 ·subst hbe;exact heo
 ·exact⟨u,k b u hbe q⟩

noncomputable def trk  (h:Heap)(H:Hp):List Addr:=(Ybm h.objs.size).filter λa=>(H a).isSome
def hidT  (h:Heap)(H:Hp):Heap:=PySem.W.hideAll h (trk h H)
def jgN  (h:Heap) H:(hidT h H).objs.size=h.objs.size:=PySem.W.hideAll_size _ _
def jdM      (e:h.get? b=some o)(n:H b=none):(hidT h H).get? b=some o:=
 PySem.W.hideAll_get _ e λhm=>by
  have q:(H b).isSome=true:=(List.mem_filter.mp hm).2;rw[n]at q;simp at q
def jjw      (e:(hidT h H).get? b=some o):h.get? b=some o/\H b=none:=by
 have e':h.get? b=some o:=PySem.W.of_hideAll (trk h H) e;refine⟨e',?_⟩;cases q:H b with
 |none=>rfl
 |some x=>
  have hm:b∈trk h H:=List.mem_filter.mpr ⟨List.mem_range.mpr (Yan e'),by simp[q]⟩
  have z:(hidT h H).get? b=none:=PySem.W.hideAll_none (trk h H) hm;rw[z]at e;cases e

noncomputable def jj2  (g h:Heap)(L:Addr):List (Addr×Obj):=(Ybm h.objs.size).filterMap λa=>if a=L\/(g.get? a).isSome=true then none else (h.get? a).map λo=>(a,o)
def rest  (g h:Heap)(L d:Addr):List (Addr×Obj):=(jj2 g h L).filter λp=>decide (p.1≠d)

structure Mod (K:Yac)(mg:Str->Option Value)(base:Heap):Prop where
 kin:K.In base
 glob:base.Ns YaC mg
 blt:∃mb,base.Ns YcZ mb/\∀x:Str,x ≠ "__name__" -> mb x=Ybw x
 nolimit:base.NoLimit
 sys:∃o,K.lookup YaT=some o/\o.cls=.type "dict"

structure Cx where
 prog:Program
 w:World
 K:Yac
 mg:Str->Option Value
 base:Heap
 A:Around
 N:List Str
 s₀:Shared
 H₀:Hp
 env:Env
 outer:List Env
 stack:List Env
 ex:List Addr
 fn:Str->Bool
 calm:Bool
 pn:List (Addr×Obj)
 xe:Value->Shared->Prop
noncomputable def frs  (l:List Env):List Addr:=l.filterMap (·.frame)
abbrev Cx.fs  (X:Cx):List Addr:=frs X.outer

def Vis  (sc:Scope)(x:Str):Prop:=sc.names.lookup x=some .local\/sc.names.lookup x=some .cell\/sc.names.lookup x=some .free
def Loc  (sc:Scope)(x:Str):Prop:=sc.names.lookup x=some .local\/sc.names.lookup x=some .cell
def Look  (env:Env)(h:Heap)(m:Str->Option Value)(x:Str)(u:Value):Prop:=
 (env.kindOf x=some .local/\m x=some u)\/((env.kindOf x=some .cell\/env.kindOf x=some .free)/\∃c,env.cells.lookup x=some c/\h.IsCell c (some u))

structure Cx.Ok (X:Cx):Prop where
 mod:Mod X.K X.mg X.base
 kind:X.env.scope.kind=.function
 glob:X.env.globals=YaC
 blt:X.env.builtins=YcZ
 above:X.s₀.heap.objs.size<=X.env.locals
 inj:∀x y c,X.env.cells.lookup x=some c->X.env.cells.lookup y=some c->x=y
 has:∀x,(X.env.kindOf x=some .cell\/X.env.kindOf x=some .free)->∃c,X.env.cells.lookup x=some c
 cab:∀x c,X.fn x=true->X.env.cells.lookup x=some c->X.s₀.heap.objs.size<=c
 hd:X.calm=true->X.A.handled=none
 frames:X.A.frames=some X.stack
 stk:X.stack=X.outer\/(X.stack=X.env::X.outer/\X.env.frame=some X.env.locals)
 exf:∀b∈X.ex,b≠X.env.locals/\∀x c,X.env.cells.lookup x=some c->c≠b
 bs:∀b o,X.base.get? b=some o->X.s₀.heap.get? b=some o/\X.H₀ b=none
 bsz:X.base.objs.size<=X.s₀.heap.objs.size
 noex:∀b o,X.base.get? b=some o->b∉X.ex
 exfs:∀b∈X.ex,b∉X.fs
 funs:X.s₀.heap.FunFrames X.base X.outer
 frf:∀b∈X.fs,X.H₀ b=none

structure Inv (X:Cx)(pins:List (Addr×Obj))(σ:List (Option V))(H:Hp)(s:Shared):Prop where
 ok:X.Ok
 os:s.os=X.s₀.os
 bare:AllBare s.gens
 base:Un X.fs X.ex X.H₀ H X.s₀.heap s.heap
 loc:∃m,s.heap.Ns X.env.locals m/\∀(i:Nat) (x:Str) (v:V),X.N[i]?=some x->σ[i]?=some (some v)->Vis X.env.scope x->∃u,RelV v u/\Look X.env s.heap m x u
 cell:∀x c,X.env.cells.lookup x=some c->∃v,s.heap.IsCell c v
 free:H X.env.locals=none
 freeC:∀x c,X.env.cells.lookup x=some c->H c=none
 pin:∀p∈X.pn++pins,s.heap.get? p.1=some p.2/\H p.1=none/\p.1≠X.env.locals/\p.1∉X.fs/\∀v,p.2.data≠.cell v
 hok:HOk X.prog X.w H s.heap
 len:σ.length=X.N.length

section
variable {X:Cx}{pins:List (Addr×Obj)}{σ:List (Option V)}{H H':Hp}{s:Shared}{h':Heap}

def Cx.Ok.nofr  (ok:X.Ok)(e:X.base.get? b=some o):b∉X.fs:=λhb=>by
 have:=(ok.funs.mem hb).1;rw[e]at this;cases this
def Inv.bs  (I:Inv X pins σ H s):∀b o,X.base.get? b=some o->s.heap.get? b=some o/\H b=none:=λb o e=>
 ⟨I.base.keep b o (I.ok.bs b o e).1 (I.ok.bs b o e).2 (I.ok.nofr e) (I.ok.noex b o e),I.base.free b o (I.ok.bs b o e).1 (I.ok.bs b o e).2 (I.ok.noex b o e)⟩
def Inv.bk  (I:Inv X pins σ H s):∀b o,X.base.get? b=some o->s.heap.get? b=some o:=λb o e=>(I.bs b o e).1
def Inv.mod  (I:Inv X pins σ H s):Mod X.K X.mg X.base:=I.ok.mod
def Inv.kIn  (I:Inv X pins σ H s):X.K.In s.heap:=I.ok.mod.kin.keeps I.bk
def Inv.lt  (I:Inv X pins σ H s):X.env.locals<s.heap.objs.size:=let ⟨_,hn,_⟩:=I.loc;hn.lt
def Inv.sz  (I:Inv X pins σ H s):X.s₀.heap.objs.size<=s.heap.objs.size:=Yag I.ok.above (Yb8 I.lt)
def Inv.nofs  (I:Inv X pins σ H s){a:Addr}(h:s.heap.objs.size<=a):a∉X.fs:=λhb=>by
 obtain⟨_,o,ho,_⟩:=I.ok.funs.mem hb;exact absurd (Yam (Yan ho) (Yag I.sz h)) (Ybb _)
def Inv.cne  (I:Inv X pins σ H s):∀x c,X.env.cells.lookup x=some c->c≠X.env.locals:=λx c e z=>by
 obtain⟨v,o,ho,hd⟩:=I.cell x c e;obtain⟨m,⟨o',es,ep,ho',hd',_⟩,_⟩:=I.loc;rw[z,ho']at ho;cases ho;rw[hd']at hd;cases hd
theorem Inv.funs  (I:Inv X pins σ H s):s.heap.FunFrames X.base X.outer:=by
 have all:∀(l:List Env),(∀b∈frs l,b∈X.fs)->X.s₀.heap.FunFrames X.base l->s.heap.FunFrames X.base l:=by
  intro l
  induction l with
  |nil=>intro _ _;trivial
  |cons env r ih=>
   intro hs hl;obtain⟨hk,⟨L,o,hf,hn,ho,hd⟩,hr⟩:=hl;have hL:L∈X.fs:=hs L (by unfold frs;rw[Ybh,hf];exact Yaw)
   obtain⟨sl,e⟩:=I.base.slot L o ho (I.ok.frf L hL) hL λz=>I.ok.exfs L z hL;exact⟨hk,⟨L,_,hf,hn,e,hd⟩,ih (λb hb=>hs b (by unfold frs;rw[Ybh,hf];exact Yal _ hb)) hr⟩
 exact all X.outer (λ_ hb=>hb) I.ok.funs

def Inv.stack  (I:Inv X pins σ H s):s.heap.FunFrames X.base X.stack:=by
 rcases I.ok.stk with e|⟨e,hf⟩
 ·rw[e];exact I.funs
 ·rw[e];obtain⟨m,hn,_⟩:=I.loc;refine .cons (by rw[I.ok.kind];decide) hf hn ?_ I.funs
  exact Heap.get?_none_of_le (Yag I.ok.bsz I.ok.above)
def Inv.stkSub  (I:Inv X pins σ H s):∀b∈frs X.stack,b∈X.env.locals::X.fs:=λb hb=>by
 rcases I.ok.stk with e|⟨e,hf⟩
 ·rw[e]at hb;exact Yal _ hb
 ·rw[e]at hb;unfold frs at hb;rw[Ybh,hf]at hb;exact hb
def Inv.stkFree  (I:Inv X pins σ H s):∀b∈frs X.stack,H b=none:=λb hb=>by
 rcases Yas.mp (I.stkSub b hb)with e|hb
 ·rw[e];exact I.free
 ·obtain⟨_,o,ho,_⟩:=I.ok.funs.mem hb;exact I.base.free b o ho (I.ok.frf b hb) λz=>I.ok.exfs b z hb

def Inv.step     {ch:List Addr}(I:Inv X pins σ H s)
  (hch:∀b∈ch,(b∈X.ex\/X.s₀.heap.objs.size<=b)/\b≠X.env.locals/\(∀x c,X.env.cells.lookup x=some c->c≠b)/\∀p∈X.pn++pins,p.1≠b)
  (keep:∀b o,b≠X.env.locals->b∉X.fs->b∉ch->s.heap.get? b=some o->H b=none->h'.get? b=some o)
  (slot:∀b o,b≠X.env.locals->b∈X.fs->b∉ch->s.heap.get? b=some o->H b=none->∃sl,h'.get? b=some { o with slots:=sl }) (free:∀b o,b∉ch->s.heap.get? b=some o->H b=none->H' b=none)
  (there:∀b o,b∉ch->s.heap.get? b=some o->∃o',h'.get? b=some o')
  (tups:∀b xs,H b=some (.tup xs)->H' b=some (.tup xs)) (frzs:∀b o u,H b=some (.frz o u)->H' b=some (.frz o u)) (tbls:∀b ps,H b=some (.tbl ps)->∃more,H' b=some (.tbl (ps++more)))
  (ns:∀m,s.heap.Ns X.env.locals m->h'.Ns X.env.locals m) (hok:HOk X.prog X.w H' h') (hg:AllBare g') :
  Inv X pins σ H' { s with heap:=h',gens:=g',drawn:=d',toks:=t' }:=by
 have neL:∀b o,X.s₀.heap.get? b=some o->b≠X.env.locals:=λb o e=>YaH (Yam (Yan e) I.ok.above);have neC:∀b o,X.s₀.heap.get? b=some o->b∉X.ex->b∉ch:=λb o e hx hb=>by
  rcases(hch b hb).1 with z|z
  ·exact hx z
  ·exact absurd (Yam (Yan e) z) (Ybb _)
 have cellK:∀x c,X.env.cells.lookup x=some c->∀v,s.heap.IsCell c v->h'.IsCell c v:=λx c e v ⟨o,ho,hd⟩=>by
  have nch:c∉ch:=λz=>(hch c z).2.2.1 x c e rfl;by_cases hc:c∈X.fs
  ·obtain⟨sl,q⟩:=slot c o (I.cne x c e) hc nch ho (I.freeC x c e);exact⟨_,q,hd⟩
  ·exact⟨o,keep c o (I.cne x c e) hc nch ho (I.freeC x c e),hd⟩
 refine⟨I.ok,I.os,hg,⟨λb o e n hb hx=>?_,λb o e n hb hx=>?_,λb o e n hx=>?_,λb o e hx=>?_,λb xs e=>tups b xs (I.base.tups b xs e),λb o xs e=>frzs b o xs (I.base.frzs b o xs e),λb ps e=>?_⟩,?_,λx c e=>?_,?_,λx c e=>?_,λp hp=>?_,hok,I.len⟩
 ·exact keep b o (neL b o e) hb (neC b o e hx) (I.base.keep b o e n hb hx) (I.base.free b o e n hx)
 ·obtain⟨sl,e1⟩:=I.base.slot b o e n hb hx;obtain⟨sl',e2⟩:=slot b _ (neL b o e) hb (neC b o e hx) e1 (I.base.free b o e n hx);exact⟨sl',e2⟩
 ·obtain⟨o',e1⟩:=I.base.there b o e hx;exact free b o' (neC b o e hx) e1 (I.base.free b o e n hx)
 ·obtain⟨o',e1⟩:=I.base.there b o e hx;exact there b o' (neC b o e hx) e1
 ·obtain⟨m1,e1⟩:=I.base.tbls b ps e;obtain⟨m2,e2⟩:=tbls b _ e1;exact⟨m1++m2,by rw[e2,Array.append_assoc]⟩
 ·obtain⟨m,hn,hl⟩:=I.loc;refine⟨m,ns m hn,λi x v e1 e2 e3=>?_⟩;obtain⟨u,r,l⟩:=hl i x v e1 e2 e3;refine⟨u,r,?_⟩;rcases l with l|⟨k,c,e,z⟩
  ·exact .inl l
  ·exact .inr ⟨k,c,e,cellK x c e _ z⟩
 ·obtain⟨v,z⟩:=I.cell x c e;exact⟨v,cellK x c e v z⟩
 ·obtain⟨m,⟨o,_,_,ho,_⟩,_⟩:=I.loc;exact free _ o (λz=>(hch _ z).2.1 rfl) ho I.free
 ·obtain⟨v,o,ho,hd⟩:=I.cell x c e;exact free c o (λz=>(hch c z).2.2.1 x c e rfl) ho (I.freeC x c e)
 ·obtain⟨e,n,ne,nf,d⟩:=I.pin p hp;have nch:p.1∉ch:=λz=>(hch p.1 z).2.2.2 p hp rfl;exact⟨keep p.1 p.2 ne nf nch e n,free p.1 p.2 nch e n,ne,nf,d⟩
def Inv.un   (I:Inv X pins σ H s)(u:Un X.fs [] H H' s.heap h')(hok:HOk X.prog X.w H' h'):Inv X pins σ H' { s with heap:=h',toks:=t' }:=by
 obtain⟨m,⟨o,es,ep,ho,r⟩,_⟩:=id I.loc;obtain⟨sl,hL⟩:=u.any ho I.free (by simp)
 exact I.step (g':=s.gens) (d':=s.drawn) (ch:=[]) (λ_ z=>nomatch z) (λb o _ hb _ e n=>u.keep b o e n hb (by simp)) (λb o _ hb _ e n=>u.slot b o e n hb (by simp)) (λb o _ e n=>u.free b o e n (by simp)) (λb o _ e=>u.there b o e (by simp)) u.tups u.frzs u.tbls (λm' hm=>by
  obtain⟨o',es',ep',ho',r'⟩:=hm;rw[ho]at ho';cases ho';exact⟨_,es',ep',hL,r'⟩) hok I.bare
def Inv.call      (I:Inv X pins σ H s)(u:Un (frs X.stack) ch H H' s.heap h')(hok:HOk X.prog X.w H' h')(hg:AllBare g')
  (hch:∀b∈ch,(b∈X.ex\/X.s₀.heap.objs.size<=b)/\b≠X.env.locals/\(∀x c,X.env.cells.lookup x=some c->c≠b)/\∀p∈X.pn++pins,p.1≠b) :
  Inv X pins σ H' { s with heap:=h',gens:=g',drawn:=d',toks:=t' }:=by
 obtain⟨m,⟨o,es,ep,ho,r⟩,_⟩:=id I.loc;obtain⟨sl,hL⟩:=u.any ho I.free λz=>(hch _ z).2.1 rfl;exact I.step (ch:=ch) hch (λb o hL hb hc e n=>u.keep b o e n (λz=>(Yas.mp (I.stkSub b z)).elim hL hb) hc) (λb o _ _ hc e n=>u.any e n hc) (λb o hc e n=>u.free b o e n hc) (λb o hc e=>u.there b o e hc) u.tups u.frzs u.tbls (λm' hm=>by
  obtain⟨o',es',ep',ho',r'⟩:=hm;rw[ho]at ho';cases ho';exact⟨_,es',ep',hL,r'⟩) hok hg
def Inv.turned    (I:Inv X pins σ H s)(k:∀b o,b≠it->s.heap.get? b=some o->h'.get? b=some o)(hn:H it=none)(hL:it≠X.env.locals)
  (h1:it∈X.ex\/X.s₀.heap.objs.size<=it) (h2:∀x c,X.env.cells.lookup x=some c->c≠it) (h3:∀p∈X.pn++pins,p.1≠it):Inv X pins σ H { s with heap:=h',toks:=t' }:=by
 have nit:∀b u,H b=some u->b≠it:=λb u e z=>by rw[z,hn]at e;cases e
 refine I.step (g':=s.gens) (d':=s.drawn) (ch:=[it]) (λb hb=>?_) (λb o _ _ hc e _=>k b o (λz=>hc (by simp[z])) e) (λb o _ _ hc e _=>⟨o.slots,k b o (λz=>hc (by simp[z])) e⟩) (λ_ _ _ _ n=>n)
  (λb o hc e=>⟨o,k b o (λz=>hc (by simp[z])) e⟩) (λ_ _ e=>e) (λ_ _ _ e=>e) (λb ps e=>⟨#[],by rw[e];simp⟩) (λm hm=>?_) (λb u e=>?_) I.bare
 ·have e:b=it:=by simpa using hb
  subst e;exact⟨h1,hL,h2,h3⟩
 ·obtain⟨o,es,ep,ho,r⟩:=hm;exact⟨o,es,ep,k _ o (Ne.symm hL) ho,r⟩
 ·refine(I.hok b u e).stay (λc v hc q=>k c v ?_ q) (λ_ q=>q) λ_ _ q=>q;rcases hc with z|z
  ·rw[z];exact nit b u e
  ·exact nit c _ z
def Inv.tok  (I:Inv X pins σ H s) t:Inv X pins σ H { s with toks:=t }:=I.un (h':=s.heap) (t':=t) Un.refl I.hok
def Inv.kept   (I:Inv X pins σ H s)(k:∀b u,s.heap.get? b=some u->h'.get? b=some u):Inv X pins σ H { s with heap:=h',toks:=t' }:=I.un (Un.kept k) (I.hok.kept k)
def Inv.laid  {a:Addr}(I:Inv X pins σ H s)(k:∀b u,s.heap.get? b=some u->h'.get? b=some u)(hp:s.heap.objs.size<=a)(new:jaD X.prog X.w (upd H a o) h' a o) :
  Inv X pins σ (upd H a o) { s with heap:=h',toks:=t' }:=I.un (Un.laid k hp (I.hok.fresh hp)) (I.hok.laid k hp new)
def Inv.write     (I:Inv X pins σ H s)(mu:Mut (H x))(he:e=x\/H e=some (.own x))(k:∀b u,b≠e->s.heap.get? b=some u->h'.get? b=some u)(heo:∃u,h'.get? e=some u)
  (new:jaD X.prog X.w (upd H x o) h' x o):Inv X pins σ (upd H x o) { s with heap:=h',toks:=t' }:=I.un (Un.write mu he k heo) (I.hok.write mu he k heo new)
def Inv.pins_of  {pins':List (Addr×Obj)}(I:Inv X pins σ H s)(h:∀p∈pins',s.heap.get? p.1=some p.2/\H p.1=none/\p.1≠X.env.locals/\p.1∉X.fs/\∀v,p.2.data≠.cell v):Inv X pins' σ H s:=
 ⟨I.ok,I.os,I.bare,I.base,I.loc,I.cell,I.free,I.freeC,λp hp=>(Yds.mp hp).elim (λz=>I.pin p (YcL _ z)) (h p),I.hok,I.len⟩

def jfh  {N:List Str}(hN:N.Nodup){i j:Nat}(a:N[i]?=some x)(b:N[j]?=some x):i=j:=by
 obtain⟨h1,e1⟩:=List.getElem?_eq_some_iff.mp a;obtain⟨h2,e2⟩:=List.getElem?_eq_some_iff.mp b;exact(List.getElem_inj hN).mp (e1.trans e2.symm)

section
variable {M:Model}{A:Around}{E:Value->Shared->Prop}{i:Nat}{x:Str}{v:V}{u:Value}{Q:Unit->Shared->Prop}
def jd1 (I:Inv X pins σ H s)(hN:X.N.Nodup)(hi:X.N[i]?=some x)(hx:Loc X.env.scope x)(r:RelV v u)
  (h:∀s',Inv X pins (σ.set i (some v)) H s'->(∃a,Ydb a s.heap s'.heap/\(a=X.env.locals\/X.env.cells.lookup x=some a))->Q () s') (hf:X.fn x=true\/X.env.scope.names.lookup x=some .local:=by first|exact .inl rfl|exact .inr rfl|assumption):wpAny M A (storeName X.env x u) Q E s:=by
 obtain⟨m,hn,hl⟩:=id I.loc;have hcls:(X.env.scope.kind == .class||(X.env.scope.kind == .module&&X.env.locals != X.env.globals))=false:=by rw[I.ok.kind];rfl
 have hiσ:i<σ.length:=by rw[I.len];exact(List.getElem?_eq_some_iff.mp hi).1
 have cne:=I.cne;have tracked:∀{a:Addr} {h':Heap},(∃o,s.heap.get? a=some o/\H a=none)->Ydb a s.heap h'->HOk X.prog X.w H h':=λ{a h'} ha hs b ob e=>by
  obtain⟨_,_,hfree⟩:=ha;refine(I.hok b ob e).stay (λc w' hc q=>(hs.2 c ?_).trans q) (λ_ q=>q) λ_ _ q=>q;rintro rfl;rcases hc with rfl|hc
  ·rw[hfree]at e;cases e
  ·rw[hfree]at hc;cases hc
 rcases hx with hk|hk
 ·refine wpAny_storeName_local hk hn (λh' hn' hs=>?_) hcls;obtain⟨oL,_,_,hoL,_⟩:=id hn;refine h _ ⟨I.ok,I.os,I.bare,⟨λb o e n hb hx=>?_,λb o e n hb hx=>?_,I.base.free,λb o e hx=>?_,I.base.tups,I.base.frzs,I.base.tbls⟩,⟨_,hn',λj y v' e1 e2 e3=>?_⟩,λy c e=>?_,I.free,I.freeC,λp hp=>?_,tracked ⟨oL,hoL,I.free⟩ hs,by simpa using I.len⟩ ⟨_,hs,.inl rfl⟩
  ·exact(hs.2 b (YaH (Yam (Yan e) I.ok.above))).trans (I.base.keep b o e n hb hx)
  ·obtain⟨sl,e1⟩:=I.base.slot b o e n hb hx;exact⟨sl,(hs.2 b (YaH (Yam (Yan e) I.ok.above))).trans e1⟩
  ·obtain⟨o',e1⟩:=I.base.there b o e hx;exact⟨o',(hs.2 b (YaH (Yam (Yan e) I.ok.above))).trans e1⟩
  ·by_cases hj:j=i
   ·subst hj;rw[hi]at e1;cases e1;rw[YbJ hiσ]at e2;cases e2;exact⟨u,r,.inl ⟨hk,by simp⟩⟩
   ·rw[YbW (Ne.symm hj)]at e2;obtain⟨u',r',q⟩:=hl j y v' e1 e2 e3;refine⟨u',r',?_⟩;rcases q with⟨k,e⟩|⟨k,c,e,z⟩
    ·refine .inl ⟨k,?_⟩;have:y≠x:=λe=>hj (jfh hN e1 (e ▸ hi));simp[this,e]
    ·exact .inr ⟨k,c,e,z.sameBut hs (cne y c e)⟩
  ·obtain⟨w',z⟩:=I.cell y c e;exact⟨w',z.sameBut hs (cne y c e)⟩
  ·obtain⟨e,n,ne,nf,d⟩:=I.pin p hp;exact⟨(hs.2 p.1 ne).trans e,n,ne,nf,d⟩
 ·have hfn:X.fn x=true:=by
   rcases hf with z|z
   ·exact z
   ·rw[z]at hk;cases hk
  obtain⟨c,hc⟩:=I.ok.has x (.inl hk);obtain⟨w',z⟩:=I.cell x c hc;refine wpAny_storeName_cell I.ok.kind hk hc z (λh' hc' hs=>?_);obtain⟨oc,hoc,hocd⟩:=id z;refine h { s with heap:=h' } ⟨I.ok,I.os,I.bare,⟨λb o e n hb hx=>?_,λb o e n hb hx=>?_,I.base.free,λb o e hx=>?_,I.base.tups,I.base.frzs,I.base.tbls⟩,⟨m,hn.sameBut hs (Ne.symm (cne x c hc)),λj y v' e1 e2 e3=>?_⟩,λy c' e=>?_,I.free,I.freeC,λp hp=>?_,tracked ⟨oc,hoc,I.freeC x c hc⟩ hs,by simpa using I.len⟩ ⟨c,hs,.inr hc⟩
  ·exact(hs.2 b (YaH (Yam (Yan e) (I.ok.cab x c hfn hc)))).trans (I.base.keep b o e n hb hx)
  ·obtain⟨sl,e1⟩:=I.base.slot b o e n hb hx;exact⟨sl,(hs.2 b (YaH (Yam (Yan e) (I.ok.cab x c hfn hc)))).trans e1⟩
  ·obtain⟨o',e1⟩:=I.base.there b o e hx;exact⟨o',(hs.2 b (YaH (Yam (Yan e) (I.ok.cab x c hfn hc)))).trans e1⟩
  ·by_cases hj:j=i
   ·subst hj;rw[hi]at e1;cases e1;rw[YbJ hiσ]at e2;cases e2;exact⟨u,r,.inr ⟨.inl hk,c,hc,hc'⟩⟩
   ·rw[YbW (Ne.symm hj)]at e2;obtain⟨u',r',q⟩:=hl j y v' e1 e2 e3;refine⟨u',r',?_⟩;rcases q with q|⟨k,c',e,z'⟩
    ·exact .inl q
    ·refine .inr ⟨k,c',e,z'.sameBut hs ?_⟩;rintro rfl;exact hj (jfh hN e1 (I.ok.inj _ _ _ e hc ▸ hi))
  ·by_cases hcc:c'=c
   ·subst hcc;exact⟨_,hc'⟩
   ·obtain⟨w2,z2⟩:=I.cell y c' e;exact⟨w2,z2.sameBut hs hcc⟩
  ·obtain⟨e,n,ne,nf,d⟩:=I.pin p hp;refine⟨(hs.2 p.1 ?_).trans e,n,ne,nf,d⟩;intro q;rw[q,hoc]at e;have q':oc=p.2:=Yau e;exact d w' (by rw[<- q'];exact hocd)
def jdH (I:Inv X pins σ H s)(hN:X.N.Nodup)(hi:X.N[i]?=some x)(hx:Loc X.env.scope x)(r:RelV v u)
  (h:∀s',Inv X pins (σ.set i (some v)) H s'->Q () s') (hf:X.fn x=true\/X.env.scope.names.lookup x=some .local:=by first|exact .inl rfl|exact .inr rfl|assumption):wpAny M A (storeName X.env x u) Q E s:=
 jd1 I hN hi hx r (λs' I' _=>h s' I') hf
end
def Inv.call'    (I:Inv X pins σ H s)(ho:s'.os=s.os)(u:Un (frs X.stack) ch H H' s.heap s'.heap)(hok:HOk X.prog X.w H' s'.heap)(hg:AllBare s'.gens)
  (hch:∀b∈ch,(b∈X.ex\/X.s₀.heap.objs.size<=b)/\b≠X.env.locals/\(∀x c,X.env.cells.lookup x=some c->c≠b)/\∀p∈X.pn++pins,p.1≠b):Inv X pins σ H' s':=by
 obtain⟨h',g',d',t',o'⟩:=s';have e:o'=s.os:=ho;subst e;exact I.call (g':=g') (t':=t') (d':=d') u hok hg hch
end

abbrev XK:=Value->Option Addr->Hp->Prop
abbrev St:=List (Option V)
abbrev VK:=V->Hp->Prop
abbrev TE:=St->Hp->VK->Prop
abbrev TT:=St->Hp->(Bool->Hp->Prop)->Prop
abbrev TA:=St->Hp->(List V->Hp->Prop)->Prop
structure Ends where
 nx:St->Hp->Prop
 rt:VK
 bk:St->Hp->Prop:=λ_ _=>False
 ct:St->Hp->Prop:=λ_ _=>False
abbrev TS:=Ends->St->Hp->Prop

def EP  (X:Cx)(pins:List (Addr×Obj))(σ:St)(Q:VK)(u:Value)(s':Shared):Prop:=∃v H',Inv X pins σ H' s'/\RelV v u/\Q v H'
def TP  (X:Cx)(pins:List (Addr×Obj))(σ:St)(Q:Bool->Hp->Prop)(b:Bool)(s':Shared):Prop:=∃H',Inv X pins σ H' s'/\Q b H'
def AP  (X:Cx)(pins:List (Addr×Obj))(σ:St)(Q:List V->Hp->Prop)(us:List Value)(s':Shared):Prop:=∃vs H',Inv X pins σ H' s'/\Vals vs us/\Q vs H'
def SP  (X:Cx)(pins:List (Addr×Obj))(D:Ends)(f:Flow)(s':Shared):Prop:=
 match f with
 |.next=>∃σ' H',Inv X pins σ' H' s'/\D.nx σ' H'
 |.brk=>∃σ' H',Inv X pins σ' H' s'/\D.bk σ' H'
 |.cont=>∃σ' H',Inv X pins σ' H' s'/\D.ct σ' H'
 |.ret u=>∃v σ' H',Inv X pins σ' H' s'/\RelV v u/\D.rt v H'

def PE  (X:Cx)(e:Expr)(t:TE):Prop:=
 ∀(pins:List (Addr×Obj)) (s:Shared) (σ:St) (H:Hp) (Q:VK),Inv X pins σ H s->t σ H Q->wpAny (model X.prog X.w) X.A (eval e X.env) (EP X pins σ Q) X.xe s
def PT  (X:Cx)(e:Expr)(t:TT):Prop:=
 ∀(pins:List (Addr×Obj)) (s:Shared) (σ:St) (H:Hp) (Q:Bool->Hp->Prop),Inv X pins σ H s->t σ H Q->wpAny (model X.prog X.w) X.A (isTrue e X.env (eval e X.env)) (TP X pins σ Q) X.xe s
def PW  (X:Cx)(e:Expr)(t:TT):Prop:=
 ∀(whole:Sem Value) (pins:List (Addr×Obj)) (s:Shared) (σ:St) (H:Hp) (Q:Bool->Hp->Prop),Inv X pins σ H s->t σ H Q->wpAny (model X.prog X.w) X.A (isTrue e X.env whole) (TP X pins σ Q) X.xe s
def PW.pt     (h:PW X e t):PT X e t:=h _
def PA  (X:Cx)(es:List Expr)(t:TA):Prop:=
 ∀(pos:Pos) (pins:List (Addr×Obj)) (s:Shared) (σ:St) (H:Hp) (Q:List V->Hp->Prop),Inv X pins σ H s->t σ H Q->wpAny (model X.prog X.w) X.A (spliced (backTo pos (Yaz es X.env))) (AP X pins σ Q) X.xe s
def PS  (X:Cx)(st:Stmt)(t:TS):Prop:=
 ∀(pins:List (Addr×Obj)) (s:Shared) (σ:St) (H:Hp) (D:Ends),Inv X pins σ H s->t D σ H->wpAny (model X.prog X.w) X.A (exec st X.env) (SP X pins D) X.xe s
def PSs  (X:Cx)(st:List Stmt)(t:TS):Prop:=
 ∀(pins:List (Addr×Obj)) (s:Shared) (σ:St) (H:Hp) (D:Ends),Inv X pins σ H s->t D σ H->wpAny (model X.prog X.w) X.A (execs st X.env) (SP X pins D) X.xe s
def thn    {Q Q':α->Shared->Prop}(h:wpAny M A t Q E s)(hQ:∀a s,Q a s->Q' a s):wpAny M A t Q' E s:=Ya2 h hQ λ_ _ x=>x
section
variable {X:Cx}

def tVar  (i:Nat):TE:=λσ H Q=>∃v,σ[i]?=some (some v)/\Q v H
def tC  (v:V):TE:=λ_ H Q=>Q v H
def jkR {i:Nat}{x:Str}{pos:Pos}(hN:X.N[i]?=some x)(hv:Vis X.env.scope x)(hd:(x==("__debug__" : Str))=false:=by decide)(hcd:(x==("__classdict__" : Str))=false:=by decide):PE X (.Name x pos) (tVar i):=by
 intro pins s σ H Q I h;obtain⟨v,e,h⟩:=h;obtain⟨m,hn,hl⟩:=I.loc;obtain⟨u,r,l⟩:=hl i x v hN e hv;have fin:EP X pins σ Q u s:=⟨v,H,I,r,h⟩;rcases l with⟨hk,hm⟩|⟨hk,c,hc,hcell⟩
 ·exact wpAny_Name (wpAny_loadName_local I.ok.kind hk hn hm fin) hd
 ·rcases hk with hk|hk
  ·exact wpAny_Name (wpAny_loadName_cell I.ok.kind hk hc hcell fin) hd
  ·exact wpAny_Name (wpAny_loadName_free I.ok.kind hk hc hcell fin hcd) hd
def jkY   : PE X (.Constant (.int i) j pos) (tC (.int i)):=λ_ _ _ H _ I h=>wpAny_Constant_int ⟨.int i,H,I.tok _,⟨_,rfl⟩,h⟩
def jmP   : PE X (.Constant (.bool b) j pos) (tC (.bl b)):=λ_ _ _ H _ I h=>Constant_bool ⟨.bl b,H,I,rfl,h⟩
def jkV   : PE X (.Constant .none j pos) (tC .non):=λ_ _ _ H _ I h=>Constant_none ⟨.non,H,I,rfl,h⟩
def jkT   : PE X (.Constant (.str x) j pos) (tC (.str x)):=λ_ _ _ H _ I h=>Calls.Constant_str ⟨.str x,H,I.tok _,⟨_,rfl⟩,h⟩

def Gl  (X:Cx)(x:Str):Prop:=X.env.kindOf x=some .globalImplicit
section
variable {E:Value->Shared->Prop}{pins:List (Addr×Obj)}{s:Shared}{σ:St}{H:Hp}{x:Str}{u:Value}{pos:Pos}{Q:Value->Shared->Prop}
def jeP (I:Inv X pins σ H s)(hg:Gl X x)(hm:X.mg x=some u)(h:Q u s)
  (hd:(x==("__debug__" : Str))=false:=by decide):wpAny (model X.prog X.w) X.A (eval (.Name x pos) X.env) Q E s:=
 Ydu I.ok.kind hg (Calls.loadGlobal_global (by rw[I.ok.glob];exact I.mod.glob.keeps I.bk) hm h) hd
def jdn (I:Inv X pins σ H s)(hg:Gl X x)(hm:X.mg x=none)(hv:Ybw x=some u)(h:Q u s)
  (hn:x ≠ "__name__" := by decide) (hd:(x==("__debug__" : Str))=false:=by decide):wpAny (model X.prog X.w) X.A (eval (.Name x pos) X.env) Q E s:=by
 obtain⟨mb,h1,h2⟩:=I.mod.blt;exact Ydu I.ok.kind hg (Calls.loadGlobal_builtin (by rw[I.ok.glob];exact I.mod.glob.keeps I.bk) hm (by rw[I.ok.blt];exact h1.keeps I.bk) ((h2 x hn).trans hv) h) hd
end
section
variable {x:Str}{v:V}{u:Value}{pos:Pos}
def jje (hg:Gl X x)(hm:X.mg x=some u)(r:RelV v u)(hd:(x==("__debug__" : Str))=false:=by decide):PE X (.Name x pos) (tC v):=
 λ_ _ _ H _ I h=>jeP I hg hm ⟨v,H,I,r,h⟩ hd
def jjh (hg:Gl X x)(hm:X.mg x=none)(hv:Ybw x=some u)(r:RelV v u)(hn:x ≠ "__name__" := by decide)(hd:(x==("__debug__" : Str))=false:=by decide):PE X (.Name x pos) (tC v):=
 λ_ _ _ H _ I h=>jdn I hg hm hv ⟨v,H,I,r,h⟩ hn hd

end
def tB  (t:TE):TT:=λσ H Q=>t σ H λx H1=>∃c,x=.bl c/\Q c H1

def tAnd  (t u:TT):TT:=λσ H Q=>t σ H λc H1=>if c=true then u σ H1 Q else Q false H1
def tOr  (t u:TT):TT:=λσ H Q=>t σ H λc H1=>if c=true then Q true H1 else u σ H1 Q
def tNot  (t:TT):TT:=λσ H Q=>t σ H λc H1=>Q (!c) H1
def pw_and1  (ha:PT X a tA):PW X (.BoolOp .And [a] pos) tA:=by
 intro wh pins s σ H Q I h;refine isTrue_and (thn (ha pins s σ H Q I h) λc s1 e=>?_);cases c with
 |true=>exact isTrue_and_nil e
 |false=>exact e
def pw_or1  (ha:PT X a tA):PW X (.BoolOp .Or [a] pos) tA:=by
 intro wh pins s σ H Q I h;refine isTrue_or (thn (ha pins s σ H Q I h) λc s1 e=>?_);cases c with
 |false=>exact isTrue_or_nil e
 |true=>exact e
def pw_and  {rest: List Expr}(ha:PT X a tA)(hb:PW X (.BoolOp .And (b::rest) pos) tB'):PW X (.BoolOp .And (a::b::rest) pos) (tAnd tA tB'):=by
 intro wh pins s σ H Q I h;refine isTrue_and (thn (ha pins s σ H _ I h) λc s1 ⟨H1,I1,q1⟩=>?_);cases c with
 |true=>exact hb wh pins s1 σ H1 Q I1 q1
 |false=>exact⟨H1,I1,q1⟩
def pw_or  {rest: List Expr}(ha:PT X a tA)(hb:PW X (.BoolOp .Or (b::rest) pos) tB'):PW X (.BoolOp .Or (a::b::rest) pos) (tOr tA tB'):=by
 intro wh pins s σ H Q I h;refine isTrue_or (thn (ha pins s σ H _ I h) λc s1 ⟨H1,I1,q1⟩=>?_);cases c with
 |true=>exact⟨H1,I1,q1⟩
 |false=>exact hb wh pins s1 σ H1 Q I1 q1
def jkG  (ha:PT X a tA):PT X (.UnaryOp .Not a pos) (tNot tA):=by
 intro pins s σ H Q I h;exact isTrue_not (ha pins s σ H (λc H1=>Q (!c) H1) I h)
def jh9    (h:PE X a t):PE X (.BoolOp op [a] pos) t:=λpins s σ H Q I hw=>BoolOp_one (h pins s σ H Q I hw)
end

def SqL  (K:Yac)(H:Hp)(a:Addr)(xs:List V):Prop:=
 Rd H a (.lst xs)\/
  ∃(o:Obj) (its:Array Value) (n:Nat),K.lookup a=some o/\o.cls=.type "list" /\ o.dict=none/\o.data=.seq its n/\its.size<=Yae/\Vals xs its.toList
def SqT  (K:Yac)(H:Hp)(a:Addr)(xs:List V):Prop:=
 Rd H a (.tup xs)\/
  ∃(o:Obj) (its:Array Value) (n:Nat),K.lookup a=some o/\o.cls=.type "tuple" /\ o.data=.seq its n/\its.size<=Yae/\Vals xs its.toList
noncomputable def absV  : Value->Option V
 |.none=>some .non
 |.bool b=>some (.bl b)
 |.int i _=>some (.int i)
 |.str x _=>some (.str x)
 |.bytes b _=>some (.byt b)
 |.float b _=>some (.flt b)
 |.ref a=>some (.ref a)
 |.type n=>some (.ty n)
 |_=>none
def RelV.abs    (r:RelV x u):absV u=some x:=by
 cases x with
 |non=>cases r;rfl
 |bl _=>cases r;rfl
 |int _=>obtain⟨t,rfl⟩:=r;rfl
 |str _=>obtain⟨t,rfl⟩:=r;rfl
 |byt _=>obtain⟨t,rfl⟩:=r;rfl
 |flt _=>obtain⟨t,rfl⟩:=r;rfl
 |ref _=>cases r;rfl
 |ty _=>cases r;rfl
def RelV.inj    (r:RelV x u)(q:RelV y u):x=y:=Yau (r.abs.symm.trans q.abs)
theorem Vals.inj  : ∀{xs ys } {us },Vals xs us->Vals ys us->xs=ys
 |_,_,_,.nil,.nil=>rfl
 |_,_,_,.cons r t,.cons r' t'=>by rw[r.inj r',Vals.inj t t']

def SqL.of  {K:Yac}(h:H a=some (.lst xs)):SqL K H a xs:=.inl (.inl h)
def SqT.of  {K:Yac}(h:H a=some (.tup xs)):SqT K H a xs:=.inl (.inl h)
def Inv.list  {σ: St}(I:Inv X pins σ H s)(h:SqL X.K H a xs):∃its ,Vals xs its/\PlainL s.heap a its.toArray/\xs.length<=Yae:=by
 rcases h with h|⟨o,its,n,hk,hc,hd,hs,hz,r⟩
 ·obtain⟨z,its,n,r,e⟩:=h.ok I.hok;exact⟨its,r,⟨_,n,e,rfl,rfl,rfl⟩,z⟩
 ·refine⟨its.toList,r,⟨o,n,I.kIn a o hk,hc,hd,by simpa using hs⟩,?_⟩
  have e:=r.length;simp only[YcP]at e
  lia
def Inv.tuple  {σ: St}(I:Inv X pins σ H s)(h:SqT X.K H a xs):∃its ,Vals xs its/\IsTup s.heap a its.toArray/\xs.length<=Yae:=by
 rcases h with h|⟨o,its,n,hk,hc,hs,hz,r⟩
 ·obtain⟨z,its,r,p⟩:=h.ok I.hok;exact⟨its,r,p.tup,z⟩
 ·refine⟨its.toList,r,⟨o,I.kIn a o hk,hc,n,by simpa using hs⟩,?_⟩
  have e:=r.length;simp only[YcP]at e
  lia
def Inv.list_inj  {σ: St}(I:Inv X pins σ H s)(h:SqL X.K H a xs)(h':SqL X.K H a ys):xs=ys:=by
 obtain⟨its,r,⟨o,n,e,_,_,d⟩,_⟩:=I.list h;obtain⟨its',r',⟨o',n',e',_,_,d'⟩,_⟩:=I.list h';rw[e]at e';cases e';rw[d]at d';injection d' with d1 _
 have:its=its':=by simpa using congrArg Array.toList d1
 subst this;exact r.inj r'
def Inv.tuple_inj  {σ: St}(I:Inv X pins σ H s)(h:SqT X.K H a xs)(h':SqT X.K H a ys):xs=ys:=by
 obtain⟨its,r,⟨o,e,_,n,d⟩,_⟩:=I.tuple h;obtain⟨its',r',⟨o',e',_,n',d'⟩,_⟩:=I.tuple h';rw[e]at e';cases e';rw[d]at d';injection d' with d1 _
 have:its=its':=by simpa using congrArg Array.toList d1
 subst this;exact r.inj r'

noncomputable abbrev Cx.wish  (X:Cx)(E:Value->Shared->Prop):Cx:={ X with xe:=E }
def Cx.Ok.wish  {X:Cx}(ok:X.Ok) E:(X.wish E).Ok:=
 ⟨ok.mod,ok.kind,ok.glob,ok.blt,ok.above,ok.inj,ok.has,ok.cab,ok.hd,ok.frames,ok.stk,ok.exf,ok.bs,ok.bsz,ok.noex,ok.exfs,ok.funs,ok.frf⟩
def Cx.Ok.unwish  {X:Cx}(ok:(X.wish E).Ok):X.Ok:=
 ⟨ok.mod,ok.kind,ok.glob,ok.blt,ok.above,ok.inj,ok.has,ok.cab,ok.hd,ok.frames,ok.stk,ok.exf,ok.bs,ok.bsz,ok.noex,ok.exfs,ok.funs,ok.frf⟩
section
variable {X:Cx}{pins:List (Addr×Obj)}{σ:St}{H:Hp}{s:Shared}{E:Value->Shared->Prop}
def Inv.wish  (I:Inv X pins σ H s) E:Inv (X.wish E) pins σ H s:=⟨I.ok.wish E,I.os,I.bare,I.base,I.loc,I.cell,I.free,I.freeC,I.pin,I.hok,I.len⟩
def Inv.unwish  (I:Inv (X.wish E) pins σ H s):Inv X pins σ H s:=⟨I.ok.unwish,I.os,I.bare,I.base,I.loc,I.cell,I.free,I.freeC,I.pin,I.hok,I.len⟩
theorem SP.unwish     (h:SP (X.wish E) pins D f s'):SP X pins D f s':=by
 cases f with
 |next=>obtain⟨σ',H',I,q⟩:=h;exact⟨σ',H',I.unwish,q⟩
 |brk=>obtain⟨σ',H',I,q⟩:=h;exact⟨σ',H',I.unwish,q⟩
 |cont=>obtain⟨σ',H',I,q⟩:=h;exact⟨σ',H',I.unwish,q⟩
 |ret u=>obtain⟨v,σ',H',I,r,q⟩:=h;exact⟨v,σ',H',I.unwish,r,q⟩
end

section
variable {X:Cx}{st:Stmt}{rest:List Stmt}{t u:TS}{e:Expr}{te:TE}{pos:Pos}
def jmr  : TS:=λD σ H=>D.nx σ H
def tSeq  (t u:TS):TS:=λD σ H=>t { D with nx:=u D } σ H
def ji2  : PSs X [] jmr:=λ_ _ σ H _ I h=>wpAny_execs_nil ⟨σ,H,I,h⟩
def jht  (h1:PS X st t)(h2:PSs X rest u):PSs X (st::rest) (tSeq t u):=by
 intro pins s σ H D I h;refine wpAny_execs_cons (thn (h1 pins s σ H { D with nx:=u D } I h) λf s1 q=>?_)
 cases f with
 |next=>
  obtain⟨σ',H',I',q⟩:=q;exact h2 pins s1 σ' H' D I' q
 |ret v=>exact q
 |brk=>exact q
 |cont=>exact q
def Inv.quiet   {σ:St}(I:Inv X pins σ H s):interactive X.env=false:=by simp[interactive,I.ok.kind]
def jms  (te:TE):TS:=λD σ H=>te σ H λ_ H1=>D.nx σ H1
def ji3 (he:PE X e te)(hs:Ycw e none pos.line X.env=pure false:=by rfl):PS X (.Expr e pos) (jms te):=by
 intro pins s σ H D I h;exact wpAny_Expr_any (thn (he pins s σ H _ I h) λv s1 ⟨x,H1,I1,r1,q1⟩=>⟨σ,H1,I1,q1⟩) I.quiet hs
def tRet  (te:TE):TS:=λD σ H=>te σ H D.rt
def jkI  (he:PE X e te):PS X (.Return (some e) pos) (tRet te):=by
 intro pins s σ H D I h;exact wpAny_Return_some (thn (he pins s σ H _ I h) λv s1 ⟨x,H1,I1,r1,q1⟩=>⟨x,σ,H1,I1,r1,q1⟩)
def tIfS  (c:TT)(t u:TS):TS:=λD σ H=>c σ H λb H1=>if b=true then t D σ H1 else u D σ H1
def jmJ     (hc:PT X c tc)(ha:PSs X a t)(hb:PSs X b u):PS X (.If c a b pos) (tIfS tc t u):=by
 intro pins s σ H D I h;refine wpAny_If (thn (hc pins s σ H _ I h) λd s1 ⟨H1,I1,q1⟩=>?_);cases d with
 |true=>exact ha pins s1 σ H1 D I1 q1
 |false=>exact hb pins s1 σ H1 D I1 q1
end

abbrev TG:=V->St->Hp->(St->Hp->Prop)->Prop
abbrev TGs:=List V->St->Hp->(St->Hp->Prop)->Prop
def PG  (X:Cx)(target:Expr)(t:TG):Prop:=
 ∀(pins:List (Addr×Obj)) (s:Shared) (σ:St) (H:Hp) (v:V) (u:Value) (Q:St->Hp->Prop),Inv X pins σ H s->RelV v u->t v σ H Q->
  wpAny (model X.prog X.w) X.A (assign target X.env u) (λ_ s'=>∃σ' H',Inv X pins σ' H' s'/\Q σ' H') X.xe s
def PGs  (X:Cx)(ts:List Expr)(t:TGs):Prop:=
 ∀(pins:List (Addr×Obj)) (s:Shared) (σ:St) (H:Hp) (vs:List V) (us:List Value) (Q:St->Hp->Prop),Inv X pins σ H s->Vals vs us->t vs σ H Q->
  wpAny (model X.prog X.w) X.A (YeD ((YaZ ts X.env).map (·.2)) us) (λ_ s'=>∃σ' H',Inv X pins σ' H' s'/\Q σ' H') X.xe s
abbrev TSet:=V->V->V->Hp->(Hp->Prop)->Prop
def PSet  (X:Cx)(t:TSet):Prop:=
 ∀(pins:List (Addr×Obj)) (s:Shared) (σ:St) (H:Hp) (o i v:V) (ov iv u:Value) (Q:Hp->Prop),Inv X pins σ H s->RelV o ov->RelV i iv->RelV v u->t o i v H Q->
  wpAny (model X.prog X.w) X.A (setItem ov iv u) (λ_ s'=>∃H',Inv X pins σ H' s'/\Q H') X.xe s
section
variable {X:Cx}{pos:Pos}
def jhN  (i:Nat):TG:=λv σ H Q=>Q (σ.set i (some v)) H
def jjb {i:Nat}{x:Str}(hN:X.N.Nodup)(hi:X.N[i]?=some x)(hx:Loc X.env.scope x)(hf:X.fn x=true\/X.env.scope.names.lookup x=some .local:=by first|exact .inl rfl|exact .inr rfl|assumption):PG X (.Name x pos) (jhN i):=by
 intro pins s σ H v u Q I r h;exact wpAny_assign_Name (jdH I hN hi hx r (λs' I'=>⟨_,H,I',h⟩) hf)
def gNil  : TGs:=λvs σ H Q=>vs=[]/\Q σ H
def jnb  (t:TG)(u:TGs):TGs:=λvs σ H Q=>∃v r,vs=v::r/\t v σ H λσ' H'=>u r σ' H' Q
def jja  : PGs X [] gNil:=by
 intro pins s σ H vs us Q I r h;obtain⟨e,h⟩:=h;subst e;cases r;exact assignInOrder_nil ⟨σ,H,I,h⟩
def jhx {e:Expr}{es:List Expr}{t:TG}{u:TGs}(h1:PG X e t)(h2:PGs X es u)
  (hs:(YaZ (e::es) X.env).map (·.2)=assign e X.env::(YaZ es X.env).map (·.2):=by rfl):PGs X (e::es) (jnb t u):=by
 intro pins s σ H vs us Q I r h;obtain⟨v,vr,e1,h⟩:=h;subst e1;cases r with
 |cons r rr=>
  rw[hs];refine Ydl (thn (h1 pins s σ H _ _ _ I r h) λ_ s1 ⟨σ1,H1,I1,q1⟩=>?_);exact h2 pins s1 σ1 H1 _ _ Q I1 rr q1
def gTup  (K:Yac)(n:Nat)(t:TGs):TG:=λv σ H Q=>∃a xs,v=.ref a/\SqT K H a xs/\xs.length=n/\t xs σ H Q
def jkP {es:List Expr}{k:Nat}{t:TGs}{n:Nat}(hc:X.calm=true)(h:PGs X es t)
  (hn:(YaZ es X.env).length=n:=by rfl) (hst:(YaZ es X.env).findIdx? (·.1)=none:=by rfl):PG X (.Tuple es k pos) (gTup X.K n t):=by
 intro pins s σ H v u Q I r hw;obtain⟨a,xs,e1,hq,hl,hw⟩:=hw;subst e1;cases r;obtain⟨its,rv,ht,hz⟩:=I.tuple hq;refine assign_Tuple_tuple (I.ok.hd hc) ht (by simp[hn,<- hl,rv.length]) hst λh' hx=>?_
 have I1:Inv X pins σ H { s with heap:=h' }:=I.kept (t':=s.toks) λb o e=>hx b o (YaH (Yan e)) e
 exact h pins _ σ H xs _ Q I1 (by simpa using rv) hw
def gSub  (to ti:TE)(t:TSet):TG:=λv σ H Q=>to σ H λo H1=>ti σ H1 λi H2=>t o i v H2 λH3=>Q σ H3
def jkQ {o i:Expr}{to ti:TE}{t:TSet}(ho:PE X o to)(hi:PE X i ti)(hs:PSet X t)
  (ha:∀v,assign (.Subscript o i pos) X.env v=(do
   let ov <- holding [v] (eval o X.env)
   let iv <- holding [v,ov] (eval i X.env)
   standAt pos
   holding [v,ov,iv] (setItem ov iv v)
   release [v,ov,iv] []):=by intro _;rfl):PG X (.Subscript o i pos) (gSub to ti t):=by
 intro pins s σ H v u Q I r h;rw[ha];refine Yad (Ybn (thn (ho pins s σ H _ I h) λov s1 ⟨x,H1,I1,r1,q1⟩=>?_));refine Yad (Ybn (thn (hi pins s1 σ H1 _ I1 q1) λiv s2 ⟨y,H2,I2,r2,q2⟩=>?_));refine Yad (Yde (Yad (Ybn (thn (hs pins s2 σ H2 x y v ov iv u _ I2 r1 r2 r q2) λ_ s3 ⟨H3,I3,q3⟩=>?_))));exact wpAny_release ⟨σ,H3,I3,q3⟩
def tAsg  (te:TE)(g:TG):TS:=λD σ H=>te σ H λx H1=>g x σ H1 D.nx
def jh7 {tg e:Expr}{te:TE}{g:TG}(he:PE X e te)(hg:PG X tg g)(hs:Ybo [tg] e pos.line X.env=pure false:=by rfl)(hw:Ya6 [tg] e X.env=pure none:=by rfl)
  (h1:(YaZ [tg] X.env).map (·.2)=[assign tg X.env]:=by rfl):PS X (.Assign [tg] e pos) (tAsg te g):=by
 intro pins s σ H D I h;refine wpAny_Assign_stores (thn (he pins s σ H _ I h) λv s1 ⟨x,H1,I1,r1,q1⟩=>?_) hs hw;rw[h1];exact thn (hg pins s1 σ H1 x v _ I1 r1 q1) λ_ s2 q=>q
def tPar  (i j:Nat)(ta:TA):TS:=λD σ H=>ta σ H λvs H1=>∃v w,vs=[v,w]/\D.nx ((σ.set i (some v)).set j (some w)) H1
def jkJ {i j:Nat}{x y:Str}{a b:Expr}{ta:TA}{px py pt:Pos}{kt k2 pt2}(hc:X.calm=true)(hN:X.N.Nodup)(hi:X.N[i]?=some x)(hj:X.N[j]?=some y)(hij:i≠j)
  (hx:X.env.scope.names.lookup x=some .local) (hy:X.env.scope.names.lookup y=some .local) (ha:PA X [a,b] ta)
  (hw:Ya6 [.Tuple [.Name x px,.Name y py] kt pt] (.Tuple [a,b] k2 pt2) X.env=pure (some [x,y]))
  (hs:Ybo [.Tuple [.Name x px,.Name y py] kt pt] (.Tuple [a,b] k2 pt2) pos.line X.env=pure false:=by rfl) :
  PS X (.Assign [.Tuple [.Name x px,.Name y py] kt pt] (.Tuple [a,b] k2 pt2) pos) (tPar i j ta):=by
 intro pins s σ H D I h;rw[exec_Assign_arm];refine Yad (Yde ?_);rw[hs];refine Yad (Yak ?_);rw[if_neg (by decide)]
 refine Yad (Tuple_ (thn (ha _ pins s σ H _ I h) λus s1 ⟨vs,H1,I1,r1,q1⟩=>?_));obtain⟨v,w,e1,q1⟩:=q1;subst e1;obtain⟨u1,u2,rfl,rv,rw'⟩:∃u1 u2,us=[u1,u2]/\RelV v u1/\RelV w u2:=by
  cases r1 with
  |cons p q=>
   cases q with
   |cons p' q'=>
    cases q';exact⟨_,_,rfl,p,p'⟩
 refine YaO ?_ (by show 2<=Yae;decide)
 have I2:Inv X pins σ H1 { s1 with heap:=s1.heap.push { cls:=.type "tuple",data:=.seq [u1,u2].toArray } }:=I1.kept (t':=s1.toks) λb o e=>Yaf _ e
 rw[hw];refine Yad (Yak ?_);show wpAny (model X.prog X.w) X.A (do rule "assign.swapped-stores";let items <- unpackItems (.ref s1.heap.objs.size) 2 none;YeD [λv=>bindName X.env y v,λv=>bindName X.env x v] items.reverse;pure Flow.next) _ _ _
 refine Yad (wpAny_rule (Yad (unpackItems_tuple (items:=#[u1,u2]) (I.ok.hd hc) (IsTup.new s1.heap _) λh' hx'=>?_)));have I3:=I2.kept (h':=h') (t':=s1.toks) λb o e=>hx' b o (YaH (Yan e)) e;show wpAny _ _ (YeD [λv=>bindName X.env y v,λv=>bindName X.env x v] [u2,u1] >>= λ_=>pure Flow.next) _ _ _
 refine Yad (Ydl (wpAny_bindName (jdH I3 hN hj (.inl hy) rw' (λs2 I4=>?_) (.inr hy))));refine Ydl (wpAny_bindName (jdH I4 hN hi (.inl hx) rv (λs3 I5=>assignInOrder_nil (Yak ?_)) (.inr hx)));rw[List.set_comm _ _ (Ne.symm hij)]at I5;exact⟨_,H1,I5,q1⟩
def PGet  (X:Cx)(t:V->V->Hp->VK->Prop):Prop:=
 ∀(pins:List (Addr×Obj)) (s:Shared) (σ:St) (H:Hp) (o i:V) (ov iv:Value) (Q:VK),Inv X pins σ H s->RelV o ov->RelV i iv->t o i H Q->
  wpAny (model X.prog X.w) X.A (getItem ov iv) (EP X pins σ Q) X.xe s
end



structure It where
 go:Nat->Hp->Prop
 yld:Nat->Hp->V->Hp->Prop
 stop:Nat->Hp->Prop
def FpOk  (X:Cx)(pins:List (Addr×Obj))(H:Hp)(b:Addr):Prop:=
 H b=none/\b≠X.env.locals/\b∉X.fs/\(b∈X.ex\/X.s₀.heap.objs.size<=b)/\(∀x c,X.env.cells.lookup x=some c->c≠b)/\∀p∈X.pn++pins,p.1≠b
def Inv.fpOk    {σ:St}{b:Addr}(I:Inv X pins σ H s)(hb:s.heap.objs.size<=b)(hn:H' b=none):FpOk X pins H' b:=by
 refine⟨hn,Nat.ne_of_gt (Yam I.lt hb),I.nofs hb,.inr (Yag I.sz hb),λx c e z=>?_,λp hp z=>?_⟩
 ·obtain⟨v,q⟩:=I.cell x c e;exact absurd (Yam q.lt (by rw[z];exact hb)) (Ybb _)
 ·exact absurd (Yam (Yan (I.pin p hp).1) (by rw[z];exact hb)) (Ybb _)
structure Turn (P:Program)(w:World)(K:Yac)(tg:Expr)(J:It)(fp:List Addr)(it:Addr)(tn:Nat->Heap->Prop):Prop where
 mem:it∈fp
 obj:∀i h,tn i h->∀b∈fp,∃o,h.get? b=some o/\∀v,o.data≠.cell v
 keep:∀i h h',tn i h->(∀b∈fp,∀o,h.get? b=some o->h'.get? b=some o)->tn i h'
 item:∀(X:Cx),X.prog=P->X.w=w->X.K=K->X.calm=true->∀(i:Nat) (pins:List (Addr×Obj)) (s:Shared) (σ:St) (H:Hp) (E:Value->Shared->Prop),Inv X pins σ H s->(∀b∈fp,FpOk X pins H b)->tn i s.heap->J.go i H->
  wpAny (model P w) X.A (pyNext (.ref it)) (λr s1=>∃u,r=some u/\
   wpAny (model P w) X.A (Ycc tg (.ref it) u) (λ_ s2=>∃x H',Inv X pins σ H' s2/\RelV x u/\J.yld i H x H'/\tn (i+1) s2.heap/\∀b∈fp,H' b=none) E s1) E s
 done:∀(X:Cx),X.prog=P->X.w=w->X.K=K->X.calm=true->∀(i:Nat) (pins:List (Addr×Obj)) (s:Shared) (σ:St) (H:Hp) (E:Value->Shared->Prop),Inv X pins σ H s->(∀b∈fp,FpOk X pins H b)->tn i s.heap->J.stop i H->
  wpAny (model P w) X.A (pyNext (.ref it)) (λr s1=>r=none/\Inv X pins σ H s1) E s
 self:∀(A:Around) (i:Nat) (s:Shared) (Q:Value->Shared->Prop) (E:Value->Shared->Prop),tn i s.heap->Q (.ref it) s->wpAny (model P w) A (pyIter (.ref it)) Q E s
abbrev TI:=St->Hp->(It->Hp->Prop)->Prop
def PIE  (X:Cx)(pins:List (Addr×Obj))(σ:St)(tg:Expr)(R:It->Hp->Prop)(itv:Value)(s2:Shared):Prop:=
 ∃(it:Addr) (fp:List Addr) (tn:Nat->Heap->Prop) (J:It) (H':Hp),itv=.ref it/\Inv X pins σ H' s2/\Turn X.prog X.w X.K tg J fp it tn/\tn 0 s2.heap/\(∀b∈fp,FpOk X pins H' b)/\R J H'
def PI  (X:Cx)(tg iter:Expr)(wi:TI):Prop:=
 ∀(pins:List (Addr×Obj)) (s:Shared) (σ:St) (H:Hp) (R:It->Hp->Prop),Inv X pins σ H s->wi σ H R->
  wpAny (model X.prog X.w) X.A (eval iter X.env) (λv s1=>wpAny (model X.prog X.w) X.A (pyIter v) (PIE X pins σ tg R) X.xe s1) X.xe s

def jhM             (ho : s.heap.get? it = some o)(hc : o.cls = .type n)(hd : o.data = .fields vs)
    (hn : ["enumerate", "zip", "dict_itemiterator", "dict_reverseitemiterator", "odict_iterator", "itertools.zip_longest", "itertools.pairwise"].contains n = false) (hQ : Q () s) : wpAny M A (Ycc tg (.ref it) u) Q E s := by
  unfold Ycc
  cases tg <;> first
    | exact Yak hQ
    | (cases u <;> first
        | exact Yak hQ
        | (refine Yad (wpAny_load ho ?_)
           rw [hc, hd]
           show wpAny M A (if (["enumerate", "zip", "dict_itemiterator", "dict_reverseitemiterator", "odict_iterator", "itertools.zip_longest", "itertools.pairwise"].contains n && vs[0]? == some (rawInt _)) = true then _ else _) Q E s
           rw [if_neg (by intro h; rw [hn, Bool.false_and] at h; cases h)]
           exact Yak hQ))

noncomputable def Itl  (K:Yac)(a:Addr):It:=
 ⟨λi H=>∃xs x,SqL K H a xs/\xs[i]?=some x,λi H x H'=>H'=H/\∀xs,SqL K H a xs->xs[i]?=some x,λi H=>∃xs,SqL K H a xs/\xs.length<=i⟩
noncomputable def Itt  (K:Yac)(a:Addr):It:=
 ⟨λi H=>∃xs x,SqT K H a xs/\xs[i]?=some x,λi H x H'=>H'=H/\∀xs,SqT K H a xs->xs[i]?=some x,λi H=>∃xs,SqT K H a xs/\xs.length<=i⟩
noncomputable def Itr  (lo:Int)(n:Nat):It:=⟨λi _=>i<n,λi H x H'=>H'=H/\x=.int (lo+i),λi _=>n<=i⟩
def jf0    {K:Yac} a it:Turn P w K tg (Itl K a) [it] it (λi h=>h.IsListIter it a i) where
 mem:=by simp
 obj:=λi h st b hb=>by
  have e:b=it:=by simpa using hb
  subst e;obtain⟨o,e,c,d⟩:=st;exact⟨o,e,λv z=>by rw[d]at z;cases z⟩
 keep:=λi h h' st k=>st.at λo e=>k it (by simp) o e
 item:=by
  intro X hP hw hK hc i pins s σ H E I hf st hg;subst hP hw hK;obtain⟨xs,x,hq,hx⟩:=hg;obtain⟨its,rv,p,hz⟩:=I.list hq;obtain⟨u,hu,ru⟩:=rv.get hx;obtain⟨f0,f1,f2,f3,f4,f5⟩:=hf it (by simp)
  refine wpAny_pyNext_list_item st p.isList (x:=u) (by simpa using hu) λh' st' sb=>?_
  have I1:Inv X pins σ H { s with heap:=h' }:=I.turned (t':=s.toks) (λb o hb e=>(sb.2 b hb).trans e) f0 f1 f3 f4 f5
  obtain⟨o,e,c,d⟩:=id st';exact⟨u,rfl,jhM (s:={ s with heap:=h' }) e c d (by decide) ⟨x,H,I1,ru,⟨rfl,λys hy=>by rw[I.list_inj hy hq];exact hx⟩,st',λb hb=>(hf b hb).1⟩⟩
 done:=by
  intro X hP hw hK hc i pins s σ H E I hf st hg;subst hP hw hK;obtain⟨xs,hq,hx⟩:=hg;obtain⟨its,rv,p,hz⟩:=I.list hq;obtain⟨f0,f1,f2,f3,f4,f5⟩:=hf it (by simp)
  have hl:=rv.length;exact wpAny_pyNext_list_end (I.ok.hd hc) st p.isList (by simp;lia) λh' eb=>⟨rfl,I.turned (t':=s.toks) (λb o hb e=>eb b o hb e) f0 f1 f3 f4 f5⟩
 self:=λ_ _ _ _ _ st h=>wpAny_pyIter_listiter st h
def jfu    {K:Yac} a it:Turn P w K tg (Itt K a) [it] it (λi h=>h.IsTupleIter it a i) where
 mem:=by simp
 obj:=λi h st b hb=>by
  have e:b=it:=by simpa using hb
  subst e;obtain⟨o,e,c,d⟩:=st;exact⟨o,e,λv z=>by rw[d]at z;cases z⟩
 keep:=λi h h' st k=>st.at λo e=>k it (by simp) o e
 item:=by
  intro X hP hw hK hc i pins s σ H E I hf st hg;subst hP hw hK;obtain⟨xs,x,hq,hx⟩:=hg;obtain⟨its,rv,p,hz⟩:=I.tuple hq;obtain⟨u,hu,ru⟩:=rv.get hx;obtain⟨f0,f1,f2,f3,f4,f5⟩:=hf it (by simp)
  refine Yex st (show s.heap.IsTuple a its.toArray from p) (x:=u) (by simpa using hu) λh' st' sb=>?_
  have I1:Inv X pins σ H { s with heap:=h' }:=I.turned (t':=s.toks) (λb o hb e=>(sb.2 b hb).trans e) f0 f1 f3 f4 f5
  obtain⟨o,e,c,d⟩:=id st';exact⟨u,rfl,jhM (s:={ s with heap:=h' }) e c d (by decide) ⟨x,H,I1,ru,⟨rfl,λys hy=>by rw[I.tuple_inj hy hq];exact hx⟩,st',λb hb=>(hf b hb).1⟩⟩
 done:=by
  intro X hP hw hK hc i pins s σ H E I hf st hg;subst hP hw hK;obtain⟨xs,hq,hx⟩:=hg;obtain⟨its,rv,p,hz⟩:=I.tuple hq;obtain⟨f0,f1,f2,f3,f4,f5⟩:=hf it (by simp)
  have hl:=rv.length;exact YeJ (I.ok.hd hc) st (show s.heap.IsTuple a its.toArray from p) (by simp;lia) λh' eb=>⟨rfl,I.turned (t':=s.toks) (λb o hb e=>eb b o hb e) f0 f1 f3 f4 f5⟩
 self:=λ_ _ _ _ _ st h=>wpAny_pyIter_tupleiter st h
def jfv    {K:Yac} it lo n:Turn P w K tg (Itr lo n) [it] it (λi h=>IsRangeIter h it (lo+(i:Nat)*1) ((n:Int)-(i:Nat)) 1) where
 mem:=by simp
 obj:=λi h st b hb=>by
  have e:b=it:=by simpa using hb
  subst e;exact⟨_,st,λv z=>by
   have z':Data.fields _=Data.cell v:=z;cases z'⟩
 keep:=λi h h' st k=>k it (by simp) _ st
 item:=by
  intro X hP hw hK hc i pins s σ H E I hf st hg;subst hP hw hK;obtain⟨f0,f1,f2,f3,f4,f5⟩:=hf it (by simp)
  have W:=Walks.range (prog:=X.prog) (w:=X.w) (I.ok.hd hc) it lo 1 n;refine W.item i s _ _ hg st λv h' tk hv st' kk=>?_;obtain⟨t,rfl⟩:=hv;have I1:Inv X pins σ H { s with heap:=h',toks:=tk }:=I.turned (λb o hb e=>kk b o (by simpa using hb) e) f0 f1 f3 f4 f5
  refine⟨_,rfl,jhM (s:={ s with heap:=h',toks:=tk }) (n := "range_iterator") st' rfl rfl (by decide) ⟨.int (lo+i),H,I1,⟨t,?_⟩,⟨rfl,rfl⟩,st',λb hb=>(hf b hb).1⟩⟩
  rw[Int.mul_one]
 done:=by
  intro X hP hw hK hc i pins s σ H E I hf st hg;subst hP hw hK;obtain⟨f0,f1,f2,f3,f4,f5⟩:=hf it (by simp)
  exact wpAny_pyNext_range_end (I.ok.hd hc) st (by have:n<=i:=hg;lia) λh' eb=>⟨rfl,I.turned (t':=s.toks) (λb o hb e=>eb b o hb e) f0 f1 f3 f4 f5⟩
 self:=λ_ _ _ _ _ st h=>wpAny_pyIter_rangeiter st h
section
variable {X:Cx}{tg:Expr}
def jhp   {σ:St}{lo hi:Int}(I:Inv X pins σ H s)(h1:-(2 ^ 62)<=lo)(h2:lo<2 ^ 62)(h3:-(2 ^ 62)<=hi)(h4:hi<2 ^ 62)
  (q:R (Itr lo (hi-lo).toNat) H):wpAny (model X.prog X.w) X.A (pyIter (.ref s.heap.objs.size)) (PIE X pins σ tg R) E { s with heap:=s.heap.push { cls:=.type "range",data:=.fields #[.int lo t,.int hi u,.int 1 v] },toks:=tk }:=by
 refine wpAny_pyIter_range (IsRange.new ..) (small_one h1 h2 h3 h4) ?_;have I1:Inv X pins σ H { s with heap:=s.heap.push { cls:=.type "range",data:=.fields #[.int lo t,.int hi u,.int 1 v] },toks:=tk }:=I.kept λb o e=>Yaf _ e
 refine⟨(s.heap.push { cls:=.type "range",data:=.fields #[.int lo t,.int hi u,.int 1 v] }).objs.size,[(s.heap.push { cls:=.type "range",data:=.fields #[.int lo t,.int hi u,.int 1 v] }).objs.size],_,_,H,rfl,
  I1.kept (t':=tk) λb o e=>Yaf _ e,jfv _ lo (hi-lo).toNat,?_,λb hb=>?_,q⟩
 ·have e1:lo+((0:Nat):Int)*1=lo:=by simp
  have e2:(((hi-lo).toNat:Nat):Int)-((0:Nat):Int)=Builtin.Range.rangeSize lo hi 1:=by rw[rangeSize_one];split<;>lia
  show IsRangeIter _ _ (lo+((0:Nat):Int)*1) ((((hi-lo).toNat:Nat):Int)-((0:Nat):Int)) 1;rw[e1,e2];exact Yar _ rfl
 ·have e:b=(s.heap.push { cls:=.type "range",data:=.fields #[.int lo t,.int hi u,.int 1 v] }).objs.size:=by simpa using hb
  subst e;exact I1.fpOk (Yaa _) (I1.hok.fresh (Yaa _))
def jm8  (ta:TA):TI:=λσ H R=>ta σ H λvs H1=>∃j:Int,vs=[.int j]/\-(2 ^ 62)<=j/\j<2 ^ 62/\R (Itr 0 j.toNat) H1
def jgi {a:Expr}{ta:TA}{p pos:Pos}(hg:Gl X "range")(hm:X.mg "range" = none)(ha:PA X [a] ta)(hs:Yaz [a] X.env=[(false,eval a X.env)]:=by rfl):PI X tg (.Call (.Name "range" p) [a] [] pos) (jm8 ta):=by
 intro pins s σ H R I h;refine Call_ (jdn I hg hm boot_range (YbK (thn (ha pos pins s σ H _ I h) λus s1 ⟨vs,H1,I1,r1,q1⟩=>?_) hs rfl));obtain⟨j,e,q1,q2,q⟩:=q1;subst e;cases r1 with
 |cons r rr=>
  cases rr;obtain⟨t,rfl⟩:=r;exact call_range_1 (jhp I1 (by lia) (by lia) q1 q2 (by simpa using q))
def tFor  (wi:TI)(g:TG)(tb:TS):TS:=λD σ H=>wi σ H λJ H1=>∃W:Nat->Nat->St->Hp->Prop,(∃m,W 0 m σ H1)/\∀i m σ H,W i m σ H->
 (J.stop i H/\D.nx σ H)\/(J.go i H/\∃N:St->Hp->Prop,(∀σ' H',N σ' H'->∃m',m'<m/\W (i+1) m' σ' H')/\∀x H',J.yld i H x H'->g x σ H' λσ2 H2=>tb { D with nx:=N,ct:=N,bk:=D.nx } σ2 H2)
noncomputable def jd6  (fp:List Addr)(h:Heap):List (Addr×Obj):=fp.filterMap λb=>(h.get? b).map λo=>(b,o)
def jbF      (hb:b∈fp)(e:h.get? b=some o):(b,o)∈jd6 fp h:=List.mem_filterMap.mpr ⟨b,hb,by rw[e];rfl⟩
def jgr     (hp:p∈jd6 fp h):p.1∈fp/\h.get? p.1=some p.2:=by
 obtain⟨b,hb,e⟩:=List.mem_filterMap.mp hp;cases q:h.get? b with
 |none=>rw[q]at e;cases e
 |some o=>
  rw[q]at e;have e':(b,o)=p:=Yau e;subst e';exact⟨hb,q⟩
def Inv.pinned   {σ:St}(I:Inv X pins σ H s)(hf:∀b∈fp,FpOk X pins H b)(ho:∀b∈fp,∃o,s.heap.get? b=some o/\∀v,o.data≠.cell v):Inv X (pins++jd6 fp s.heap) σ H s:=
 I.pins_of λp hp=>(Yds.mp hp).elim (λz=>I.pin p (YaG _ z)) λz=>by
  obtain⟨hb,e⟩:=jgr z;obtain⟨f0,f1,f2,_⟩:=hf p.1 hb;obtain⟨o,e',d⟩:=ho p.1 hb;rw[e]at e';cases e';exact⟨e,f0,f1,f2,d⟩
def Inv.unpinned   {σ:St}(I:Inv X (pins++pl) σ H s):Inv X pins σ H s:=I.pins_of λp hp=>I.pin p (YaG _ (YcL _ hp))
def jkM {iter:Expr}{body:List Stmt}{wi:TI}{g:TG}{tb:TS}{pos:Pos}(hp:YeY (model X.prog X.w) X.A X.env X.xe)(hc:X.calm=true)(hi:PI X tg iter wi)(hg:PG X tg g)(hb:PSs X body tb)
  (hs:∀x,YaP iter X.env x=pure x:=by intro _;rfl):PS X (.For tg iter body [] pos) (tFor wi g tb):=by
 intro pins s σ H D I h;refine wpAny_For (thn (hi pins s σ H _ I h) λv s1 h1=>thn h1 λitv s2 h2=>?_) hs;obtain⟨it,fp,tn,J,H2,e,I2,T,st2,f2,W,⟨m0,w0⟩,turn⟩:=h2;subst e;have stat:∀{H':Hp},(∀b∈fp,H' b=none)->∀b∈fp,FpOk X pins H' b:=λhn b hb=>⟨hn b hb,(f2 b hb).2⟩;refine codeAny_forLoop_any (λn s'=>∃i σ' H',Inv X pins σ' H' s'/\tn i s'.heap/\(∀b∈fp,H' b=none)/\W i n σ' H') ?_ m0 ⟨0,σ,H2,I2,st2,λb hb=>(f2 b hb).1,w0⟩;rintro n s3 ⟨i,σ3,H3,I3,st3,fr3,w3⟩;rcases turn i n σ3 H3 w3 with⟨stop,qn⟩|⟨go,N,hN,step⟩
 ·refine Ycb hp (thn (T.done X rfl rfl rfl hc i pins s3 σ3 H3 X.xe I3 (stat fr3) st3 stop) λr s4 ⟨hr,I4⟩=>?_);subst hr;exact wpAny_execs_nil ⟨σ3,H3,I4,qn⟩
 ·refine Ycb hp (thn (T.item X rfl rfl rfl hc i pins s3 σ3 H3 X.xe I3 (stat fr3) st3 go) λr s4 ⟨u,hr,h4⟩=>?_);subst hr;refine Ycb hp (thn h4 λ_ s5 ⟨x,H5,I5,r5,y5,st5,fr5⟩=>?_);have I5':=I5.pinned (stat fr5) (T.obj _ _ st5);refine Ycb hp (thn (hg _ s5 σ3 H5 x u _ I5' r5 (step x H5 y5)) λ_ s6 ⟨σ6,H6,I6,q6⟩=>?_);refine Ycb hp (thn (hb _ s6 σ6 H6 _ I6 q6) λf s7 q7=>?_);have again:∀{σ7:St} {H7:Hp},Inv X (pins++jd6 fp s5.heap) σ7 H7 s7->N σ7 H7->∃m,m<n/\∃i σ' H',Inv X pins σ' H' s7/\tn i s7.heap/\(∀b∈fp,H' b=none)/\W i m σ' H':=λ{σ7 H7} I7 n7=>by
   obtain⟨m',hm,w7⟩:=hN σ7 H7 n7;refine⟨m',hm,i+1,σ7,H7,I7.unpinned,T.keep _ _ _ st5 λb hb o e=>(I7.pin (b,o) (YaG _ (YaG _ (jbF hb e)))).1,λb hb=>?_,w7⟩;obtain⟨o,e,d⟩:=T.obj _ _ st5 b hb;exact(I7.pin (b,o) (YaG _ (YaG _ (jbF hb e)))).2.1
  cases f with
  |next=>obtain⟨σ7,H7,I7,n7⟩:=q7;exact again I7 n7
  |cont=>obtain⟨σ7,H7,I7,n7⟩:=q7;exact again I7 n7
  |brk=>obtain⟨σ7,H7,I7,q7⟩:=q7;exact⟨σ7,H7,I7.unpinned,q7⟩
  |ret v=>obtain⟨x7,σ7,H7,I7,r7,q7⟩:=q7;exact⟨x7,σ7,H7,I7.unpinned,r7,q7⟩
end


abbrev R2:=V->V->Hp->VK->Prop
def OpR  (X:Cx)(f:Value->Value->Sem Value)(r:R2):Prop:=
 ∀(pins:List (Addr×Obj)) (s:Shared) (σ:St) (H:Hp) (x y:V) (v u:Value) (Q:VK),Inv X pins σ H s->RelV x v->RelV y u->r x y H Q->
  wpAny (model X.prog X.w) X.A (f v u) (EP X pins σ Q) X.xe s
def UnR  (X:Cx)(f:Value->Sem Value)(r:V->Hp->VK->Prop):Prop:=
 ∀(pins:List (Addr×Obj)) (s:Shared) (σ:St) (H:Hp) (x:V) (v:Value) (Q:VK),Inv X pins σ H s->RelV x v->r x H Q->
  wpAny (model X.prog X.w) X.A (f v) (EP X pins σ Q) X.xe s
def jbl  (X:Cx)(f:Value)(r:List V->Hp->VK->Prop):Prop:=
 ∀(pins:List (Addr×Obj)) (s:Shared) (σ:St) (H:Hp) (xs:List V) (us:List Value) (Q:VK),Inv X pins σ H s->Vals xs us->r xs H Q->
  wpAny (model X.prog X.w) X.A (call f us) (EP X pins σ Q) X.xe s
def TruR  (X:Cx)(r:V->Hp->(Bool->Hp->Prop)->Prop):Prop:=
 ∀(pins:List (Addr×Obj)) (s:Shared) (σ:St) (H:Hp) (x:V) (v:Value) (Q:Bool->Hp->Prop),Inv X pins σ H s->RelV x v->r x H Q->
  wpAny (model X.prog X.w) X.A (truthy v) (TP X pins σ Q) X.xe s

def tOp  (r:R2)(ta tb:TE):TE:=λσ H Q=>ta σ H λx H1=>tb σ H1 λy H2=>r x y H2 Q
def tUn  (r:V->Hp->VK->Prop)(ta:TE):TE:=λσ H Q=>ta σ H λx H1=>r x H1 Q
def rI  (C:Int->Int->Prop)(g:Int->Int->V):R2:=λx y H Q=>∃i j,x=.int i/\y=.int j/\C i j/\Q (g i j) H
def rI0  (g:Int->Int->V):R2:=λx y H Q=>∃i j,x=.int i/\y=.int j/\Q (g i j) H
def rU  (g:Int->V):V->Hp->VK->Prop:=λx H Q=>∃i,x=.int i/\Q (g i) H


def binT  (ha:PE X a ta)(hb:PE X b tb){σ:St}{R:V->V->Hp->Prop}(I:Inv X pins σ H s)
  (h:ta σ H λx H1=>tb σ H1 λy H2=>R x y H2) {f:Value->Value->Sem Value}
  (hf:∀v u s2 x y H2,Inv X pins σ H2 s2->RelV x v->RelV y u->R x y H2->wpAny (model X.prog X.w) X.A (f v u) Q X.xe s2) :
  wpAny (model X.prog X.w) X.A (eval a X.env) (λv s₁=>wpAny (model X.prog X.w) X.A (eval b X.env) (λu s₂=>wpAny (model X.prog X.w) X.A (f v u) Q X.xe s₂) X.xe s₁) X.xe s:=by
 refine thn (ha pins s σ H _ I h) λv s1 ⟨x,H1,I1,r1,q1⟩=>?_;refine thn (hb pins s1 σ H1 _ I1 q1) λu s2 ⟨y,H2,I2,r2,q2⟩=>?_;exact hf v u s2 x y H2 I2 r1 r2 q2

def jmM    (ho:OpR X (YaY op) r)(ha:PE X a ta)(hb:PE X b tb):PE X (.BinOp a op b pos) (tOp r ta tb):=by
 intro pins s σ H Q I h;exact wpAny_BinOp (binT ha hb I h λv u s2 x y H2 I2 rx ry q=>ho pins s2 σ H2 x y v u Q I2 rx ry q)
def jmL    (ho:UnR X (unaryOp op) r)(ha:PE X a ta):PE X (.UnaryOp op a pos) (tUn r ta):=by
 intro pins s σ H Q I h;exact UnaryOp_ (thn (ha pins s σ H _ I h) λv s1 ⟨x,H1,I1,r1,q1⟩=>ho pins s1 σ H1 x v Q I1 r1 q1)
def opI    {g:Int->Int->Int}
  (rule:∀i j t u (s:Shared) Q E ,C i j->Q (.int (g i j) s.toks) { s with toks:=s.toks+1 }->wpAny (model X.prog X.w) X.A (f (.int i t) (.int j u)) Q E s) :
  OpR X f (rI C λi j=>.int (g i j)):=by
 intro pins s σ H x y v u Q I rx ry h;obtain⟨i,j,rfl,rfl,hc,q⟩:=h;obtain⟨t,rfl⟩:=rx;obtain⟨t',rfl⟩:=ry;exact rule i j t t' s _ _ hc ⟨.int (g i j),H,I.tok _,⟨_,rfl⟩,q⟩
def opI0   {g:Int->Int->Int}
  (rule:∀i j t u (s:Shared) Q E ,Q (.int (g i j) s.toks) { s with toks:=s.toks+1 }->wpAny (model X.prog X.w) X.A (f (.int i t) (.int j u)) Q E s) :
  OpR X f (rI0 λi j=>.int (g i j)):=by
 intro pins s σ H x y v u Q I rx ry h;obtain⟨i,j,rfl,rfl,q⟩:=h;obtain⟨t,rfl⟩:=rx;obtain⟨t',rfl⟩:=ry;exact rule i j t t' s _ _ ⟨.int (g i j),H,I.tok _,⟨_,rfl⟩,q⟩
def opB0   {g:Int->Int->Bool}
  (rule:∀i j t u s Q E ,Q (.bool (g i j)) s->wpAny (model X.prog X.w) X.A (f (.int i t) (.int j u)) Q E s) :
  OpR X f (rI0 λi j=>.bl (g i j)):=by
 intro pins s σ H x y v u Q I rx ry h;obtain⟨i,j,rfl,rfl,q⟩:=h;obtain⟨t,rfl⟩:=rx;obtain⟨t',rfl⟩:=ry;exact rule i j t t' s _ _ ⟨.bl (g i j),H,I,rfl,q⟩

def CDiv  (i j:Int):Prop:=0<j/\j<1073741824
def CPow  (i j:Int):Prop:=0<=j/\j<=1000000/\i.natAbs<2 ^ 64
def CMul  (i j:Int):Prop:=(-(2 ^ 64)<i/\i<2 ^ 64)\/(-(2 ^ 64)<j/\j<2 ^ 64)
def CMul.ok   (h:CMul i j):IntMulOk i j:=by
 rcases h with⟨h1,h2⟩|⟨h1,h2⟩
 ·exact .of_left (intBits_le_64 h1 h2)
 ·exact .of_right (intBits_le_64 h1 h2)
def jlj  : OpR X (YaY .Add) (rI0 λi j=>.int (i+j)):=opI0 λ_ _ _ _ _ _ _ q=>add_int q
def jk8  : OpR X (YaY .Sub) (rI0 λi j=>.int (i-j)):=opI0 λ_ _ _ _ _ _ _ q=>sub_int q
def jlc  : OpR X (YaY .Mult) (rI CMul λi j=>.int (i*j)):=opI λ_ _ _ _ _ _ _ hc q=>mul_int q hc.ok
def jjo  : OpR X (YaY .FloorDiv) (rI CDiv λi j=>.int (i/j)):=opI λi j _ _ _ _ _ hc q=>by
 have h1:(0:Int)<j:=hc.1;have h2:j<1073741824:=hc.2;exact floordiv_int (by lia) (by rw[Int.fdiv_eq_ediv_of_nonneg i (by lia)];exact q) (.inl (PyProof.noPylong_small (by lia)))
def jld  : OpR X (YaY .Mod) (rI (λ_ j=>0<j) λi j=>.int (i%j)):=opI λi j _ _ _ _ _ hc q=>by
 have h1:(0:Int)<j:=hc;exact mod_int' (by lia) (by rw[Int.fmod_eq_emod_of_nonneg i (by lia)];exact q)
def jla  : OpR X (YaY .Pow) (rI CPow λi j=>.int (i ^ j.toNat)):=opI λ_ _ _ _ _ _ _ hc q=>pow_int_small hc.1 hc.2.1 hc.2.2 q
def unI   {g:Int->Int}
  (rule:∀i t (s:Shared) Q E ,Q (.int (g i) s.toks) { s with toks:=s.toks+1 }->wpAny (model X.prog X.w) X.A (f (.int i t)) Q E s) :
  UnR X f (rU λi=>.int (g i)):=by
 intro pins s σ H x v Q I rx h;obtain⟨i,rfl,q⟩:=h;obtain⟨t,rfl⟩:=rx;exact rule i t s _ _ ⟨.int (g i),H,I.tok _,⟨_,rfl⟩,q⟩
def jj5  : UnR X (unaryOp .USub) (rU λi=>.int (-i)):=unI λ_ _ _ _ _ q=>neg_int q

noncomputable def scal  : V->V->Bool
 |.non,.non=>true|.non,.int _=>true|.int _,.non=>true|.non,.bl _=>true|.bl _,.non=>true|.non,.str _=>true|.str _,.non=>true
 |.int _,.int _=>true|.bl _,.bl _=>true|.str _,.str _=>true|.byt _,.byt _=>true
 |.int _,.str _=>true|.str _,.int _=>true|.bl _,.str _=>true|.str _,.bl _=>true
 |_,_=>false
def rEq  : R2:=λx y H Q=>scal x y=true/\Q (.bl (decide (x=y))) H
def rNe  : R2:=λx y H Q=>scal x y=true/\Q (.bl (!decide (x=y))) H

def jgW   : decide (V.int i=V.int j)=(i==j):=by
 rw[Ybt];simp
def jiw   : decide (V.bl i=V.bl j)=(i==j):=by
 rw[Ybt];simp
def jgV   : decide (V.str i=V.str j)=(i==j):=by
 rw[Ybt];simp
def jgX   : decide (V.byt i=V.byt j)=(i.toList==j.toList):=by
 rw[Ybt];cases i;cases j;simp

section
variable {X:Cx}{a b c:Expr}{ta tb tc:TE}{pos:Pos}
def jaj   {σ:St}(I:Inv X pins σ H s)(q:Q (.bl k) H)(e:k=k'):EP X pins σ Q (.bool k') s:=by
 subst e;exact⟨.bl k,H,I,rfl,q⟩
def jmU  : OpR X (YaE .Eq) rEq:=by
 intro pins s σ H x y v u Q I rx ry h;obtain⟨hs,q⟩:=h;cases x with
 |non=>
  cases rx;cases y with
  |non=>cases ry;exact PySem.EqNone.eq_none_none (jaj I q (by simp))
  |bl j=>cases ry;exact PySem.EqNone.eq_none_bool (jaj I q (by simp))
  |int j=>obtain⟨t',rfl⟩:=ry;exact PySem.EqNone.eq_none_int (jaj I q (by simp))
  |str j=>obtain⟨t',rfl⟩:=ry;exact PySem.EqNone.eq_none_str (jaj I q (by simp))
  |_=>exact absurd (show false=true from hs) Yah
 |bl i=>
  cases rx;cases y with
  |non=>cases ry;exact PySem.EqNone.eq_bool_none (jaj I q (by simp))
  |bl j=>cases ry;exact eq_bool (jaj I q jiw)
  |str j=>obtain⟨t',rfl⟩:=ry;exact PySem.EqMixed.eq_bool_str (jaj I q (by simp))
  |_=>exact absurd (show false=true from hs) Yah
 |int i=>
  obtain⟨t,rfl⟩:=rx;cases y with
  |non=>cases ry;exact PySem.EqNone.eq_int_none (jaj I q (by simp))
  |int j=>obtain⟨t',rfl⟩:=ry;exact eq_int (jaj I q jgW)
  |str j=>obtain⟨t',rfl⟩:=ry;exact PySem.EqMixed.eq_int_str (jaj I q (by simp))
  |_=>exact absurd (show false=true from hs) Yah
 |str i=>
  obtain⟨t,rfl⟩:=rx;cases y with
  |non=>cases ry;exact PySem.EqNone.eq_str_none (jaj I q (by simp))
  |bl j=>cases ry;exact PySem.EqMixed.eq_str_bool (jaj I q (by simp))
  |int j=>obtain⟨t',rfl⟩:=ry;exact PySem.EqMixed.eq_str_int (jaj I q (by simp))
  |str j=>obtain⟨t',rfl⟩:=ry;exact eq_str (jaj I q jgV)
  |_=>exact absurd (show false=true from hs) Yah
 |byt i=>
  obtain⟨t,rfl⟩:=rx;cases y with
  |byt j=>obtain⟨t',rfl⟩:=ry;exact PySem.W.eq_bytes (jaj I q jgX)
  |_=>exact absurd (show false=true from hs) Yah
 |_=>cases y<;>exact absurd (show false=true from hs) Yah
def jmQ  : OpR X (YaE .NotEq) rNe:=by
 intro pins s σ H x y v u Q I rx ry h;obtain⟨hs,q⟩:=h;cases x with
 |non=>
  cases rx;cases y with
  |non=>cases ry;exact PySem.EqNone.ne_none_none (jaj I q (by simp))
  |bl j=>cases ry;exact PySem.EqNone.ne_none_bool (jaj I q (by simp))
  |int j=>obtain⟨t',rfl⟩:=ry;exact PySem.EqNone.ne_none_int (jaj I q (by simp))
  |str j=>obtain⟨t',rfl⟩:=ry;exact PySem.EqNone.ne_none_str (jaj I q (by simp))
  |_=>exact absurd (show false=true from hs) Yah
 |bl i=>
  cases rx;cases y with
  |non=>cases ry;exact PySem.EqNone.ne_bool_none (jaj I q (by simp))
  |bl j=>cases ry;exact ne_bool (jaj I q (congrArg not jiw))
  |str j=>obtain⟨t',rfl⟩:=ry;exact PySem.EqMixed.ne_bool_str (jaj I q (by simp))
  |_=>exact absurd (show false=true from hs) Yah
 |int i=>
  obtain⟨t,rfl⟩:=rx;cases y with
  |non=>cases ry;exact PySem.EqNone.ne_int_none (jaj I q (by simp))
  |int j=>obtain⟨t',rfl⟩:=ry;exact ne_int (jaj I q (congrArg not jgW))
  |str j=>obtain⟨t',rfl⟩:=ry;exact PySem.EqMixed.ne_int_str (jaj I q (by simp))
  |_=>exact absurd (show false=true from hs) Yah
 |str i=>
  obtain⟨t,rfl⟩:=rx;cases y with
  |non=>cases ry;exact PySem.EqNone.ne_str_none (jaj I q (by simp))
  |bl j=>cases ry;exact PySem.EqMixed.ne_str_bool (jaj I q (by simp))
  |int j=>obtain⟨t',rfl⟩:=ry;exact PySem.EqMixed.ne_str_int (jaj I q (by simp))
  |str j=>obtain⟨t',rfl⟩:=ry;exact ne_str (jaj I q (congrArg not jgV))
  |_=>exact absurd (show false=true from hs) Yah
 |byt i=>
  obtain⟨t,rfl⟩:=rx;cases y with
  |byt j=>obtain⟨t',rfl⟩:=ry;exact PySem.W.ne_bytes (jaj I q (congrArg not jgX))
  |_=>exact absurd (show false=true from hs) Yah
 |_=>cases y<;>exact absurd (show false=true from hs) Yah

def jmR  : OpR X (YaE .Lt) (rI0 λi j=>.bl (decide (i<j))):=opB0 λ_ _ _ _ _ _ _ q=>lt_int q
def jmS  : OpR X (YaE .LtE) (rI0 λi j=>.bl (decide (i<=j))):=opB0 λ_ _ _ _ _ _ _ q=>le_int q
def jmT  : OpR X (YaE .Gt) (rI0 λi j=>.bl (decide (j<i))):=opB0 λ_ _ _ _ _ _ _ q=>gt_int q
def jgm  : OpR X (YaE .In) (λx y H Q=>∃i j,x=.str i/\y=.str j/\Q (.bl (!(YaU j i 0 j.length 1).isEmpty)) H):=by
 intro pins s σ H x y v u Q I rx ry h;obtain⟨i,j,rfl,rfl,q⟩:=h;obtain⟨t,rfl⟩:=rx;obtain⟨t',rfl⟩:=ry;exact in_str (jaj I q rfl)

def jd7  : OpR X (YaE .NotIn) (λx y H Q=>∃i j,x=.str i/\y=.str j/\Q (.bl (!(!(YaU j i 0 j.length 1).isEmpty))) H):=by
 intro pins s σ H x y v u Q I rx ry h;obtain⟨i,j,rfl,rfl,q⟩:=h;obtain⟨t,rfl⟩:=rx;obtain⟨t',rfl⟩:=ry;exact notIn_str (jaj I q rfl)
def OpR.or    (h:OpR X f r)(h':OpR X f r'):OpR X f (λx y H Q=>r x y H Q\/r' x y H Q):=by
 intro pins s σ H x y v u Q I rx ry q;rcases q with q|q
 ·exact h pins s σ H x y v u Q I rx ry q
 ·exact h' pins s σ H x y v u Q I rx ry q

def jjg    (ho:OpR X (YaE op) r)(ha:PE X a ta)(hb:PE X b tb)(hm:Ydj op b=false):PE X (.Compare a [op] [b] pos) (tOp r ta tb):=by
 intro pins s σ H Q I h;exact wpAny_Compare1 (binT ha hb I h λv u s2 x y H2 I2 rx ry q=>ho pins s2 σ H2 x y v u Q I2 rx ry q) hm
def jkg  (t:TE):TT:=λσ H Q=>t σ H λx H'=>∃k,x=.bl k/\Q k H'
def ji1    (ho:OpR X (YaE op) r)(ha:PE X a ta)(hb:PE X b tb)(hm:Ydj op b=false):PT X (.Compare a [op] [b] pos) (jkg (tOp r ta tb)):=by
 intro pins s σ H Q I h;refine wpAny_isTrue_Compare1 (thn (ha pins s σ H _ I h) λv s1 ⟨x,H1,I1,r1,q1⟩=>thn (hb pins s1 σ H1 _ I1 q1) λu s2 ⟨y,H2,I2,r2,q2⟩=>
  thn (ho pins s2 σ H2 x y v u _ I2 r1 r2 q2) λc s3 ⟨z,H3,I3,r3,k,e,q3⟩=>?_) hm
 subst e;cases r3;exact Ybi ⟨H3,I3,q3⟩
def jh5  (r r':R2)(ta tb tc:TE):TE:=λσ H Q=>ta σ H λx H1=>tb σ H1 λy H2=>r x y H2 λz H3=>∃k,z=.bl k/\
 (if k=true then tc σ H3 λw' H4=>r' y w' H4 Q else Q (.bl false) H3)
section
variable {op op':CmpOp}{r r':R2}
def jhA (ho:OpR X (YaE op) r)(ho':OpR X (YaE op') r')(ha:PE X a ta)(hb:PE X b tb)(hc:PE X c tc)
  (hm:YeU [op,op'] [b,c]=false:=by with_unfolding_all rfl):PE X (.Compare a [op,op'] [b,c] pos) (jh5 r r' ta tb tc):=by
 intro pins s σ H Q I h;refine Compare_chain (thn (ha pins s σ H _ I h) λv s1 ⟨x,H1,I1,r1,q1⟩=>chain_link (thn (hb pins s1 σ H1 _ I1 q1) λu s2 ⟨y,H2,I2,r2,q2⟩=>
  thn (ho pins s2 σ H2 x y v u _ I2 r1 r2 q2) λd s3 ⟨z,H3,I3,r3,k,e,q3⟩=>?_)) hm
 subst e;cases r3;refine Ybi ?_;cases k with
 |false=>exact ite_ff ⟨.bl false,H3,I3,rfl,q3⟩
 |true=>exact ite_tt (chain_last (thn (hc pins s3 σ H3 _ I3 q3) λw' s4 ⟨z',H4,I4,r4,q4⟩=>ho' pins s4 σ H4 y z' u w' Q I4 r2 r4 q4))
def jhs (ho:OpR X (YaE op) r)(ho':OpR X (YaE op') r')(ha:PE X a ta)(hb:PE X b tb)(hc:PE X c tc)
  (hm:YeU [op,op'] [b,c]=false:=by with_unfolding_all rfl):PT X (.Compare a [op,op'] [b,c] pos) (jkg (jh5 r r' ta tb tc)):=by
 intro pins s σ H Q I h;refine isTrue_chain (thn (ha pins s σ H _ I h) λv s1 ⟨x,H1,I1,r1,q1⟩=>test_link (thn (hb pins s1 σ H1 _ I1 q1) λu s2 ⟨y,H2,I2,r2,q2⟩=>
  thn (ho pins s2 σ H2 x y v u _ I2 r1 r2 q2) λd s3 ⟨z,H3,I3,r3,k,e,q3⟩=>?_)) hm
 subst e;cases r3;refine Ybi ?_;cases k with
 |false=>
  obtain⟨k',e',q'⟩:=q3;cases e';exact ite_ff ⟨H3,I3,q'⟩
 |true=>
  refine ite_tt (test_last (thn (hc pins s3 σ H3 _ I3 q3) λw' s4 ⟨z',H4,I4,r4,q4⟩=>thn (ho' pins s4 σ H4 y z' u w' _ I4 r2 r4 q4) λd' s5 ⟨z2,H5,I5,r5,k2,e2,q5⟩=>?_));subst e2;cases r5;exact Ybi ⟨H5,I5,q5⟩

end
def TruV  (K:Yac)(x:V)(H:Hp)(k:Bool):Prop:=
 match x with
 |.non=>k=false
 |.bl b=>k=b
 |.int i=>k=(i != 0)
 |.str y=>y.length<=Yae/\k=((y.length:Int) != 0)
 |.byt y=>y.size<=Yae/\k=((y.size:Int) != 0)
 |.ref p=>(∃xs,SqL K H p xs/\k = !xs.isEmpty)\/(∃xs,SqT K H p xs/\k = !xs.isEmpty)\/∃kvs,H p=some (.dK kvs)/\k = !kvs.isEmpty
 |_=>False
def jfN     (r:KV kvs vs):(!vs.isEmpty) = !kvs.isEmpty:=by
 cases r<;>rfl
def jdp    (r:Vals xs its):(!its.toArray.isEmpty) = !xs.isEmpty:=by
 cases r<;>simp
def jcR  : (Yae:Nat)<2 ^ 63:=by rw[Yc3];decide
def je9  : TruR X (λx H Q=>∃k,TruV X.K x H k/\Q k H):=by
 intro pins s σ H x v Q I rx h;obtain⟨k,e,q⟩:=h;have hl:=jcR;have hs:Yae=16777216:=Yc3;cases x with
 |non=>
  cases rx;have e':k=false:=e;subst e';exact truthy_none ⟨H,I,q⟩
 |bl b=>
  cases rx;have e':k=b:=e;subst e';exact Ybi ⟨H,I,q⟩
 |int i=>
  obtain⟨t,rfl⟩:=rx;have e':k=(i != 0):=e;subst e';exact PySem.P.truthy_int ⟨H,I,q⟩
 |str y=>
  obtain⟨t,rfl⟩:=rx;obtain⟨hy,e'⟩:y.length<=Yae/\k=((y.length:Int) != 0):=e;subst e';exact PySem.P.truthy_str (by lia) ⟨H,I.tok _,q⟩
 |byt y=>
  obtain⟨t,rfl⟩:=rx;obtain⟨hy,e'⟩:y.size<=Yae/\k=((y.size:Int) != 0):=e;subst e';exact PySem.W.truthy_bytes (by lia) ⟨H,I.tok _,q⟩
 |ref p=>
  cases rx;have e':(∃xs,SqL X.K H p xs/\k = !xs.isEmpty)\/(∃xs,SqT X.K H p xs/\k = !xs.isEmpty)\/∃kvs,H p=some (.dK kvs)/\k = !kvs.isEmpty:=e;rcases e' with⟨xs,hx,e'⟩|⟨xs,hx,e'⟩|⟨kvs,hx,e'⟩
  ·subst e';obtain⟨its,r,pl,hz⟩:=I.list hx;have hlen:=r.length;exact wpAny_truthy_list pl.isList (by simp only[Yaj];lia) ⟨H,I.tok _,by rw[jdp r];exact q⟩
  ·subst e';obtain⟨its,r,pl,hz⟩:=I.tuple hx;have hlen:=r.length;exact truthy_tuple pl (by simp only[Yaj];lia) ⟨H,I.tok _,by rw[jdp r];exact q⟩
  ·subst e';obtain⟨hz,hS,vs,r,m⟩:kvs.length<=Yae/\(p==YaT)=false/\∃vs,KV kvs vs/\s.heap.DictOf (jao X.prog X.w) p vs:=I.hok p _ hx;have hlen:kvs.length=vs.length:=YcR r;exact wpAny_truthy_dict hS m (by lia) ⟨H,I.tok _,by rw[jfN r];exact q⟩
 |_=>exact(show False from e).elim
def jhr  (ha:PE X a ta)(he:∀whole,isTrue a X.env whole=(do let v <- whole;standAt a.pos;holding [v] (truthy v))) :
  PT X a (λσ H Q=>ta σ H λx H'=>∃k,TruV X.K x H' k/\Q k H'):=by
 intro pins s σ H Q I h;exact isTrue_plain (thn (ha pins s σ H _ I h) λv s1 ⟨x,H1,I1,r1,q1⟩=>je9 pins s1 σ H1 x v Q I1 r1 q1) (he _)

def jfE  : OpR X (YaY .Add) (λx y H Q=>∃i j,x=.str i/\y=.str j/\i.length+j.length<=Yae/\Q (.str (i++j)) H):=by
 intro pins s σ H x y v u Q I rx ry h;obtain⟨i,j,rfl,rfl,hz,q⟩:=h;obtain⟨t,rfl⟩:=rx;obtain⟨t',rfl⟩:=ry;exact add_str (λt' tk=>⟨.str (i++j),H,I.tok _,⟨_,rfl⟩,q⟩) hz
def jcr    (r:Vals [x] us):∃u,us=[u]/\RelV x u:=by
 cases r with
 |cons r1 r2=>cases r2;exact⟨_,rfl,r1⟩
def jg5  : jbl X (.type "int") (λxs H Q=>(∃i,xs=[.int i]/\Q (.int i) H)\/∃k,xs=[.bl k]/\Q (.int (if k then 1 else 0)) H):=by
 intro pins s σ H xs us Q I r h;rcases h with⟨i,rfl,q⟩|⟨k,rfl,q⟩
 ·obtain⟨u,rfl,t,rfl⟩:=jcr r;exact call_int_int ⟨.int i,H,I,⟨_,rfl⟩,q⟩
 ·obtain⟨u,rfl,r1⟩:=jcr r;cases r1;exact call_int_bool ⟨.int (if k then 1 else 0),H,I.tok _,⟨_,rfl⟩,q⟩
def jeq  : jbl X (.type "str") (λxs H Q=>∃i,xs=[.int i]/\i.natAbs.log2<1920/\Q (.str (toString i)) H):=by
 intro pins s σ H xs us Q I r h;obtain⟨i,rfl,hz,q⟩:=h;obtain⟨u,rfl,t,rfl⟩:=jcr r;exact PySem.P.str_of_int hz ⟨.str _,H,I.tok _,⟨_,rfl⟩,q⟩
def LenV  (K:Yac)(x:V)(H:Hp)(n:Nat):Prop:=
 match x with
 |.str y=>y.length<=Yae/\n=y.length
 |.byt y=>y.size<=Yae/\n=y.size
 |.ref p=>(∃xs,SqL K H p xs/\n=xs.length)\/∃xs,SqT K H p xs/\n=xs.length
 |_=>False
def jhS  : jbl X (.builtin "len") (λxs H Q=>∃x n,xs=[x]/\LenV X.K x H n/\Q (.int n) H):=by
 intro pins s σ H xs us Q I r h;obtain⟨x,n,rfl,e,q⟩:=h;obtain⟨u,rfl,rx⟩:=jcr r;have hl:=jcR;have hs:Yae=16777216:=Yc3;cases x with
 |str y=>
  obtain⟨t,rfl⟩:=rx;obtain⟨hy,e'⟩:y.length<=Yae/\n=y.length:=e;subst e';exact len_str (by lia) ⟨.int _,H,I.tok _,⟨_,rfl⟩,q⟩
 |byt y=>
  obtain⟨t,rfl⟩:=rx;obtain⟨hy,e'⟩:y.size<=Yae/\n=y.size:=e;subst e';exact PySem.W.len_bytes (by lia) ⟨.int _,H,I.tok _,⟨_,rfl⟩,q⟩
 |ref p=>
  cases rx;have e':(∃xs,SqL X.K H p xs/\n=xs.length)\/∃xs,SqT X.K H p xs/\n=xs.length:=e;rcases e' with⟨xs,hx,e'⟩|⟨xs,hx,e'⟩
  ·subst e';obtain⟨its,r',pl,hz⟩:=I.list hx;have hlen:=r'.length;exact Calls.call_len_list pl.isList (by simp only[Yaj];lia) ⟨.int xs.length,H,I.tok _,⟨_,by simp only[Yaj];rw[hlen]⟩,q⟩
  ·subst e';obtain⟨its,r',pl,hz⟩:=I.tuple hx;have hlen:=r'.length;exact len_tuple pl (by simp only[Yaj];lia) ⟨.int xs.length,H,I.tok _,⟨_,by simp only[Yaj];rw[hlen]⟩,q⟩
 |_=>exact(show False from e).elim
end

structure ObjM (h:Heap)(x dx C:Addr)(mA:Str->Option Value):Prop where
 obj:h.get? x=some (Yc7 C dx)
 ns:h.Ns1 dx mA
 ne:dx≠x

def jgy  {h:Heap}(n:h.Ns1 dx mA):∃od,h.get? dx=some od/\∀name,Ydn name od=some (mA name):=by
 obtain⟨o,es,ep,ho,hd,hk,_,hm⟩:=n;refine⟨o,ho,λname=>?_⟩;have e:=hm name;unfold nsFind findBy at e;rw[<- Array.find?_toList]at e;unfold Ydn;rw[hd];dsimp only;split
 ·rename_i y q;rw[q]at e;exact congrArg some e
 ·rename_i q;rw[q]at e;have a:es.toList.any (·.refKey)=false:=by
   rw[List.any_eq_false];intro y hy;obtain⟨z,t,hkey⟩:=hk y (Array.mem_toList_iff.mp hy);simp[DictEntry.refKey,hkey]
  have a':¬es.toList.any (·.refKey)=true:=by rw[a];exact Yah
  rw[if_neg a'];exact congrArg some e

def ObjM.look     (I:ObjM h x dx C mA):∃od,PySem.W.InstAt h x (Yc7 C dx) C (some od)/\∀name,Ydn name od=some (mA name):=
 let ⟨od,ho,hl⟩:=jgy I.ns
 ⟨od,⟨I.obj,rfl,rfl,ho⟩,hl⟩



def RelO.some_of    (r:RelO (some v) o):∃u,o=some u/\RelV v u:=by
 cases o with
 |none=>exact(show False from r).elim
 |some u=>exact⟨u,rfl,r⟩

def jjM  (hok:HOk P w H h)(e:H a=some (.ins C dx fs)):∃mA,ObjM h a dx C mA/\(∀f,RelO (fs.lookup f) (mA f))/\PySem.Within mA (fs.map (·.1))/\fs.length<=1000/\H dx=some (.own a):=by
 obtain⟨d,z,ne,ob,mA,n,r,q⟩:=(show jaD P w H h a (.ins C dx fs)from hok a _ e);exact⟨mA,⟨ob,n,ne⟩,r,q,z,d⟩

structure Cls (K:Yac)(C:Addr):Prop where
 pg:Yeq K C Str.empty=true
 hd:PySem.W.hasDictIn K C=true
 po:PySem.W.plainOver K C=true
 sa:YeN K (.ref C) "__setattr__" = some (some (.builtin "object.__setattr__"))
def Cls.get  {K:Yac}(c:Cls K C) f:Yeq K C f=true:=c.pg




section
variable {X:Cx}{pins:List (Addr×Obj)}{σ:St}{H:Hp}{s:Shared}{A:Around}{E:Value->Shared->Prop}{Q:Value->Shared->Prop}{c:Value}{b:Bool}
inductive TyOf (K:Yac)(H:Hp):V->Value->Prop where
 |non:TyOf K H .non (.type "NoneType")
 |bl (x:Bool):TyOf K H (.bl x) (.type "bool")
 |int (i:Int):TyOf K H (.int i) (.type "int")
 |str (x:Str):TyOf K H (.str x) (.type "str")
 |flt (x:UInt64):TyOf K H (.flt x) (.type "float")
 |lst {a:Addr} {xs:List V} (e:H a=some (.lst xs)):TyOf K H (.ref a) (.type "list")
 |frz {a:Addr} {o:Obj} {xs:List V} (e:H a=some (.frz o (.lst xs))):TyOf K H (.ref a) (.type "list")
 |tup {a:Addr} {xs:List V} (e:H a=some (.tup xs)):TyOf K H (.ref a) (.type "tuple")
 |dK {a:Addr} {kvs:List (Key×V)} (e:H a=some (.dK kvs)):TyOf K H (.ref a) (.type "dict")
 |dT {a:Addr} {kvs:List (List Key×V)} (e:H a=some (.dT kvs)):TyOf K H (.ref a) (.type "dict")
 |ins {a C dx:Addr} {fs:List (Str×V)} (e:H a=some (.ins C dx fs)) (cl:Cls K C) (ha:YeN K (.ref C) "__class__" = some (some (.builtin "object.__class__")))
   (hn:PySem.W.specialIn K (.builtin "object.__class__") "__get__" = some (some (.builtin "getset_descriptor.__get__"))) (htk:PySem.W.takesIn K (.builtin "object.__class__")=some true)
   (hm:PySem.W.mroIn K C (.type "object")=some true):TyOf K H (.ref a) (.ref C)
def jgF    (I:Inv X pins σ H s)(rx:RelV x u)(ty:TyOf X.K H x t)(e:Ycx X.K t c=some b)(h:∀tk,Q (.bool b) { s with toks:=tk }) :
  wpAny (model X.prog X.w) A (call (.builtin "isinstance") [u,c]) Q E s:=by
 cases ty with
 |non=>cases(show u=Ybj from rx);exact YaW PySem.W.kitx_none I.kIn Ybu e (λz=>nomatch z) h
 |bl y=>cases(show u=YdG y from rx);exact YaW PySem.W.kitx_bool I.kIn Ybu e (λz=>nomatch z) h
 |int i=>obtain⟨t,q⟩:=(show ∃t,u=Yd3 i t from rx);cases q;exact YaW PySem.W.kitx_int I.kIn Ybu e (λz=>nomatch z) h
 |str y=>obtain⟨t,q⟩:=(show ∃t,u=Yd2 y t from rx);cases q;exact YaW PySem.W.kitx_str I.kIn Ybu e (λz=>nomatch z) h
 |flt y=>obtain⟨t,q⟩:=(show ∃t,u=Value.float y t from rx);cases q;exact YaW PySem.W.kitx_float I.kIn Ybu e (λz=>nomatch z) h
 |@lst a xs ea=>
  cases(show u=Ybd a from rx);obtain⟨_,_,n,_,h1⟩:=(show jaD X.prog X.w H s.heap a (.lst xs)from I.hok a _ ea);exact YaW Yee I.kIn ⟨_,h1,rfl⟩ e (λz=>nomatch z) h
 |@frz a ob xs ea=>
  cases(show u=Ybd a from rx);obtain⟨_,_,_,n,_,h1⟩:=(show jaD X.prog X.w H s.heap a (.frz ob (.lst xs))from I.hok a _ ea);exact YaW Yee I.kIn ⟨_,h1,rfl⟩ e (λz=>nomatch z) h
 |@tup a xs ea=>
  cases(show u=Ybd a from rx);obtain⟨_,_,_,p⟩:=(show jaD X.prog X.w H s.heap a (.tup xs)from I.hok a _ ea);obtain⟨o,h1,h2,_⟩:=p;exact YaW PySem.W.kitx_tuple I.kIn ⟨o,h1,h2⟩ e (λz=>nomatch z) h
 |@dK a kvs ea=>
  cases(show u=Ybd a from rx);obtain⟨_,_,vs,_,p⟩:=(show jaD X.prog X.w H s.heap a (.dK kvs)from I.hok a _ ea);obtain⟨o,es,ep,h1,h2,_⟩:=p;exact YaW Yef I.kIn ⟨o,h1,h2.1⟩ e (λz=>nomatch z) h
 |@dT a kvs ea=>
  cases(show u=Ybd a from rx);obtain⟨_,_,xs,_,o,es,ep,h1,h2,_⟩:=(show jaD X.prog X.w H s.heap a (.dT kvs)from I.hok a _ ea);exact YaW Yef I.kIn ⟨o,h1,h2.1⟩ e (λz=>nomatch z) h
 |@ins a C dx fs ea cl ha hn htk hm=>
  cases(show u=Ybd a from rx);obtain⟨mA,O,_⟩:=jjM I.hok ea;obtain⟨od,J,_⟩:=O.look;exact YaW (PySem.W.kitx_own (cl.get _) cl.hd ha hn htk hm) I.kIn J e (λz=>nomatch z) h
end

structure Room (k:Nat)(A:Around):Prop where
 hd:A.handled=none
 dp:A.depth+k+20<recursionLimit
 un:A.units+8*k+200<cLine
 gd:A.guards=some []
def Room.mono    (r:Room k A)(h:j<=k):Room j A:=⟨r.hd,by have:=r.dp;lia,by have:=r.un;lia,r.gd⟩
def Room.deeper    (r:Room (k+1) A) env:Room k (A.deeper env):=
 ⟨r.hd,by have:=r.dp;show A.depth+1+k+20<_;lia,by have:=r.un;show A.units+3+8*k+200<_;lia,r.gd⟩
def Room.depth    (r:Room k A):A.depth<recursionLimit:=by have:=r.dp;lia
def Room.units    (r:Room k A):A.units+64<cLine:=by have:=r.un;lia
def Room.units0    (r:Room k A):A.units<cLine:=by have:=r.un;lia

def tNil  : TA:=λ_ H Q=>Q [] H
def jmu  (ta:TE)(tr:TA):TA:=λσ H Q=>ta σ H λx H1=>tr σ H1 λxs H2=>Q (x::xs) H2
section
variable {X:Cx}{e:Expr}{es:List Expr}{te:TE}{t:TA}{pos:Pos}
def jkZ  : PA X [] tNil:=λ_ _ _ _ H Q I h=>Calls.spliced_nil ⟨[],H,I,.nil,h⟩
def jjj (ha:PE X e te)(hr:PA X es t)(hs:Yaz (e::es) X.env=(false,eval e X.env)::Yaz es X.env:=by rfl):PA X (e::es) (jmu te t):=by
 intro pos pins s σ H Q I h;rw[hs];show wpAny _ _ (spliced ((false,eval e X.env)::backTo pos (Yaz es X.env))) _ _ s;refine Yew (thn (ha pins s σ H _ I h) λu s1 ⟨x,H1,I1,r1,q1⟩=>?_);exact thn (hr pos pins s1 σ H1 _ I1 q1) λus s2 ⟨xs,H2,I2,r2,q2⟩=>⟨x::xs,H2,I2,.cons r1 r2,q2⟩

def tTup  (t:TA):TE:=λσ H Q=>t σ H λxs H1=>xs.length<=Yae/\∀p,H1 p=none->Q (.ref p) (upd H1 p (.tup xs))
def tLst  (t:TA):TE:=λσ H Q=>t σ H λxs H1=>xs.length<=Yae/\∀p,H1 p=none->Q (.ref p) (upd H1 p (.lst xs))
def jkS   (h:PA X es t):PE X (.Tuple es x1 pos) (tTup t):=by
 intro pins s σ H Q I hq;refine wpAny_Tuple_spliced (thn (h pos pins s σ H _ I hq) λus s1 ⟨xs,H1,I1,r,z,q⟩=>⟨by rw[<- r.length];exact z,?_⟩)
 have hf:H1 s1.heap.objs.size=none:=I1.hok.fresh (Yaa _);refine⟨.ref s1.heap.objs.size,upd H1 s1.heap.objs.size (.tup xs),I1.laid (t':=s1.toks) (λb u e=>Yaf _ e) (Yaa _) ?_,rfl,q _ hf⟩;exact⟨z,us,r,⟨_,Yar _ rfl,rfl,_,rfl,rfl⟩⟩
def jkW  (h:PA X es t):PE X (.List es pos) (tLst t):=by
 intro pins s σ H Q I hq;refine wpAny_List_spliced (thn (h pos pins s σ H _ I hq) λus s1 ⟨xs,H1,I1,r,z,q⟩=>⟨by rw[<- r.length];exact z,?_⟩)
 have hf:H1 s1.heap.objs.size=none:=I1.hok.fresh (Yaa _);refine⟨.ref s1.heap.objs.size,upd H1 s1.heap.objs.size (.lst xs),I1.laid (t':=s1.toks) (λb u e=>Yaf _ e) (Yaa _) ?_,rfl,q _ hf⟩;exact⟨z,us,0,r,Yar _ rfl⟩
end

abbrev Sp:=List V->Hp->VK->XK->Prop
abbrev CXT:=List Env->Hp->Shared->XK->Value->Shared->Prop

structure Env0 (P:Program)(w:World)(K:Yac)(mg:Str->Option Value)(base:Heap)(A:Around)(outer:List Env)(s:Shared)(H:Hp):Prop where
 frames:A.frames=some outer
 mod:Mod K mg base
 bs:∀b o,base.get? b=some o->s.heap.get? b=some o/\H b=none
 bsz:base.objs.size<=s.heap.objs.size
 funs:s.heap.FunFrames base outer
 frf:∀b∈frs outer,H b=none
 hok:HOk P w H s.heap
 bare:AllBare s.gens
def CE  (outer:List Env)(P:Program)(w:World)(H:Hp)(s:Shared)(Q:VK)(u:Value)(s':Shared):Prop:=
 ∃v H',s'.os=s.os/\AllBare s'.gens/\Un (frs outer) [] H H' s.heap s'.heap/\HOk P w H' s'.heap/\RelV v u/\Q v H'
def CR  (CX:CXT)(outer:List Env)(P:Program)(w:World)(H:Hp)(s:Shared)(Q:VK)(E:XK)(r:Result)(s':Shared):Prop:=
 match r with
 |.ok (.ret u)=>CE outer P w H s Q u s'
 |.ok _=>False
 |.error e=>CX outer H s E e s'
structure FnOk (P:Program)(w:World)(K:Yac)(mg:Str->Option Value)(base:Heap)(CX:CXT)(k:Nat)(f:Addr)(fd:YdY)(ps:List Str)(sp:Sp):Prop where
 len:∀vs H Q E,sp vs H Q E->vs.length=ps.length
 run:∀(A:Around) (outer:List Env) (s:Shared) (H:Hp) (args:Args) (us:List Value) (vs:List V) (Q:VK) (E:XK),Room k A->Env0 P w K mg base A outer s H->BindsTo s fd args (ps.zip us)->Vals vs us->sp vs H Q E->
  codeAny (model P w) A (.call (.ref f) args) (CR CX outer P w H s Q E) s

def Inv.env0  {σ: St}(I:Inv X pins σ H s):Env0 X.prog X.w X.K X.mg X.base X.A X.stack s H:=
 ⟨I.ok.frames,I.ok.mod,I.bs,Yag I.ok.bsz I.sz,I.stack,I.stkFree,I.hok,I.bare⟩
def Inv.after  {σ: St}(I:Inv X pins σ H s)(h:CE X.stack X.prog X.w H s Q u s'):EP X pins σ Q u s':=by
 obtain⟨v,H',os,bare,un,hok,r,q⟩:=h;obtain⟨hh,g,d,t,os'⟩:=s';obtain rfl:os'=s.os:=os;exact⟨v,H',I.call (h':=hh) (g':=g) (d':=d) (t':=t) (ch:=[]) un hok bare (λb z=>absurd z (by simp)),r,q⟩

def Binds  (K:Yac)(fd:YdY)(ps:List Str)(ds:List Value):Prop:=
 ∀(s:Shared) (us:List Value),K.In s.heap->(us++ds).length=ps.length->BindsTo s fd ⟨us,[]⟩ (ps.zip (us++ds))
def Binds.all  {K:Yac}(h:∀us ,us.length=ps.length->bindArgs fd ⟨us,[]⟩=pure (ps.zip us)):Binds K fd ps []:=λs us _ hl=>by
 rw[Ycz]at hl ⊢;exact .of_eq (h us hl)





structure FnScope (N P:List Str)(sc:Scope):Prop where
 kind:sc.kind=.function
 co:sc.isCoroutine=false
 gen:sc.isGenerator=false
 nd:N.Nodup
 pre:N.take P.length=P
 par:∀x∈P,sc.names.lookup x=some .local\/sc.names.lookup x=some .cell
 nofree:∀y∈sc.names,y.2≠.free

theorem jes  {kindOf:Str->Option Ybe}:∀{binds } {m },(∀v,(x,v)∉binds)->bindL kindOf binds m x=m x
 |[],_,_=>rfl
 |(n,v)::r,m,h=>by
  unfold bindL;rw[jes λw hw=>h w (Yal _ hw)];split
  ·have:x≠n:=by rintro rfl;exact h v Yaw
   simp[this]
  ·rfl
theorem jeu  {kindOf:Str->Option Ybe}:∀{binds } {m },(∀v,(x,v)∉binds)->bindC kindOf binds m x=m x
 |[],_,_=>rfl
 |(n,v)::r,m,h=>by
  unfold bindC;rw[jeu λw hw=>h w (Yal _ hw)];split
  ·rfl
  ·have:x≠n:=by rintro rfl;exact h v Yaw
   simp[this]
theorem jet  {kindOf:Str->Option Ybe}:∀{P:List Str} {vs } {i:Nat} {m },P.Nodup->P[i]?=some x->vs[i]?=some v->kindOf x=some .local->
  bindL kindOf (P.zip vs) m x=some v
 |[],_,_,_,_,h,_,_=>by simp at h
 |_::_,[],_,_,_,_,h,_=>by simp at h
 |p::P,w::vs,0,m,nd,h1,h2,hk=>by
  simp at h1 h2;subst h1;subst h2;show bindL kindOf ((p,w)::P.zip vs) m p=_;unfold bindL;rw[jes λv hv=>(List.nodup_cons.mp nd).1 (Ydr hv).1,if_pos hk];simp
 |p::P,w::vs,i+1,m,nd,h1,h2,hk=>by
  show bindL kindOf ((p,w)::P.zip vs) m x=_;unfold bindL;exact jet (i:=i) (List.nodup_cons.mp nd).2 (by simpa using h1) (by simpa using h2) hk
theorem jev  {kindOf:Str->Option Ybe}:∀{P:List Str} {vs } {i:Nat} {m },P.Nodup->P[i]?=some x->vs[i]?=some v->kindOf x≠some .local->
  bindC kindOf (P.zip vs) m x=some v
 |[],_,_,_,_,h,_,_=>by simp at h
 |_::_,[],_,_,_,_,h,_=>by simp at h
 |p::P,w::vs,0,m,nd,h1,h2,hk=>by
  simp at h1 h2;subst h1;subst h2;show bindC kindOf ((p,w)::P.zip vs) m p=_;unfold bindC;rw[jeu λv hv=>(List.nodup_cons.mp nd).1 (Ydr hv).1,if_neg hk];simp
 |p::P,w::vs,i+1,m,nd,h1,h2,hk=>by
  show bindC kindOf ((p,w)::P.zip vs) m x=_;unfold bindC;exact jev (i:=i) (List.nodup_cons.mp nd).2 (by simpa using h1) (by simpa using h2) hk

noncomputable def start  (N:List Str)(vs:List V):St:=vs.map some++Yab (N.length-vs.length) none

noncomputable def cxOf  (CX:CXT)(P:Program)(w:World)(K:Yac)(mg:Str->Option Value)(base:Heap)(N:List Str)(qual:Str)(scope:Scope)(f:Addr)(cd:Value)(A:Around)(outer:List Env)(s:Shared)(H:Hp)(E:XK):Cx where
 prog:=P
 w:=w
 K:=K
 mg:=mg
 base:=base
 A:=A.deeper (envOfC qual scope s.heap.objs.size f cd)
 N:=N
 s₀:=s
 H₀:=H
 env:=envOfC qual scope s.heap.objs.size f cd
 outer:=outer
 stack:=envOfC qual scope s.heap.objs.size f cd::outer
 ex:=[]
 calm:=true
 fn:=λ_=>true
 pn:=[]
 xe:=λe s'=>wpAny (model P w) (A.deeper (envOfC qual scope s.heap.objs.size f cd)) (leaving (envOfC qual scope s.heap.objs.size f cd) e) (λ_ s''=>CX outer H s E e s'') (λe' s''=>CX outer H s E e' s'') s'

def jdR  {sc:Scope}(h:sc.names.lookup x=some .cell):∃c,(Ya1 n sc.names []).lookup x=some c:=by
 have q:=YdI sc.names n [] (.inl h);exact Option.isSome_iff_exists.mp q

def jgH     {K:Yac} 
  (S:FnScope N ps scope) (hd:A.handled=none) (e0:Env0 P w K mg base A outer s H) (hl:vs.length=ps.length) (r:Vals vs us)
  (x:InCallC s s.heap.objs.size (bindL (envOfC qual scope s.heap.objs.size f cd).kindOf (ps.zip us) λ_=>none) (Ya1 (s.heap.objs.size+1) scope.names []) (bindC (envOfC qual scope s.heap.objs.size f cd).kindOf (ps.zip us) λ_=>none) s1) :
  Inv (cxOf CX P w K mg base N qual scope f cd A outer s H E) [] (start N vs) H s1:=by
 have hpl:ps.length<=N.length:=by have:=congrArg List.length S.pre;rw[Ya7]at this;lia
 obtain⟨h1,tk,rfl,hk⟩:=x.done;have noA:∀b:Addr,b∉(cxOf CX P w K mg base N qual scope f cd A outer s H E).ex:=λb z=>absurd (show b∈([]:List Addr)from z) (by simp)
 refine⟨⟨e0.mod,S.kind,rfl,rfl,Yaa _,λy z c h1 h2=>?_,λy hy=>?_,λy c _ h=>?_,λ_=>hd,Around.frames_deeper e0.frames,.inr ⟨rfl,rfl⟩,λb z=>absurd z (noA b),e0.bs,e0.bsz,λb _ _=>noA b,λb z=>absurd z (noA b),e0.funs,e0.frf⟩,
  rfl,e0.bare,Un.kept hk,⟨_,x.toInCall.ns,λi y v h1 h2 h3=>?_⟩,λy c h=>⟨_,x.cell y c h⟩,e0.hok.fresh (Yaa _),λy c h=>?_,λp hp=>absurd (show p∈([]:List (Addr×Obj))from hp) (by simp),e0.hok.kept hk,?_⟩
 ·exact name_of_addr x.apart (Yav h1) (Yav h2)
 ·have hy:scope.names.lookup y=some .cell\/scope.names.lookup y=some .free:=hy;rcases hy with hy|hy
  ·exact jdR hy
  ·exact absurd rfl (S.nofree _ (Yav hy))
 ·exact Yb8 (x.above y c (Yav h))
 ·have hi:i<vs.length:=by
   unfold start at h2;by_cases hi:i<vs.length
   ·exact hi
   ·rw[YdA (by simpa using hi)]at h2
    rw[YdX]at h2;split at h2<;>cases h2
  have ha:vs[i]?=some v:=by
   unfold start at h2;rw[Yb9 (by simpa using hi),YaV]at h2
   cases e:vs[i]? with
   |none=>rw[e]at h2;cases h2
   |some a=>rw[e]at h2;cases h2;rfl
  obtain⟨u,hu,rv⟩:=r.get ha;have hp:ps[i]?=some y:=by
   rw[<- S.pre,List.getElem?_take_of_lt (by lia)];exact h1
  have ndP:ps.Nodup:=by rw[<- S.pre];exact S.nd.sublist (YeO _ _)
  refine⟨u,rv,?_⟩;rcases S.par y (YaL hp)with k|k
  ·exact .inl ⟨k,jet ndP hp hu k⟩
  ·obtain⟨c,e⟩:=jdR (n:=s.heap.objs.size+1) k;refine .inr ⟨.inl k,c,e,?_⟩;have q:=x.cell y c e;rw[jev ndP hp hu (by show scope.names.lookup y≠_;rw[k];decide)]at q
   exact q
 ·exact e0.hok.fresh (Yb8 (x.above y c (Yav h)))
 ·unfold start;show _=N.length;rw[Yaq,Yai,YbS]
  lia

def jnc     {K : Yac}{dV kV doc pm cdv ct oc : Value} 
       (lk : K.lookup f = some ⟨oc, od, .func (Ybp name qual params body scope dV kV doc pm an cdv ct), osl⟩) (hcd : Yb3 K cdv qual = true) (S : FnScope N ps scope)
    (len : ∀ vs H Q E, sp vs H Q E -> vs.length = ps.length)
    (hbody : ∀ (A : Around) outer (s : Shared) H (vs : List V) Q E , Room k (A.deeper (envOfC qual scope s.heap.objs.size f cdv)) -> sp vs H Q E ->
      ∃ t, PSs (cxOf CX P w K mg base N qual scope f cdv A outer s H E) body t /\ t { nx := λ_ H' => Q .non H', rt := Q } (start N vs) H) :
    FnOk P w K mg base CX (k + 1) f (Ybp name qual params body scope dV kV doc pm an cdv ct) ps sp := by
  refine ⟨len, λA outer s H args us vs Q E hr e0 hb r hsp => ?_⟩
  have hl := len _ _ _ _ hsp
  have KX : K.In s.heap := e0.mod.kin.keeps λb o e => (e0.bs b o e).1
  have lim : s.heap.NoLimit := e0.mod.nolimit.keeps λb o e => (e0.bs b o e).1
  have hkind : ∀ y ∈ ps.zip us, scope.names.lookup y.1 = some .local \/ (scope.names.lookup y.1 = some .cell /\ ((Ya1 (s.heap.objs.size + 1) scope.names []).lookup y.1).isSome = true) := λ⟨n, v⟩ hy => by
    rcases S.par n (Ydr hy).1 with q | q
    · exact .inl q
    · exact .inr ⟨q, YdI _ _ _ (.inl q)⟩
  refine codeAny_call_function hr.depth (KX _ _ lk) rfl S.co S.gen rfl (PySem.W.codeRec_of KX hcd) (hb _ _ _ _ ?_)
  refine wpAny_newFunctionEnv_cells S.kind hkind λenv he s1 x => ?_
  subst he
  refine ⟨lim.keeps x.toInCall.keep, codeAny_func ?_⟩
  obtain ⟨t, ht, hq⟩ := hbody A outer s H vs Q E (hr.deeper _) hsp
  have I : Inv (cxOf CX P w K mg base N qual scope f cdv A outer s H E) [] (start N vs) H s1 := jgH S hr.hd e0 hl r x
  refine Ya2 (ht [] s1 (start N vs) H _ I hq) (λfl s' hs => ?_) λe s' hs => hs
  have fin : ∀ {σ' : St} {H' : Hp} {v : V} {u : Value}, Inv (cxOf CX P w K mg base N qual scope f cdv A outer s H E) [] σ' H' s' -> RelV v u -> Q v H' -> CE outer P w H s Q u s' :=
    λ{σ' H' v u} J rv q => ⟨v, H', J.os, J.bare, J.base, J.hok, rv, q⟩
  cases fl with
  | ret u =>
    obtain ⟨v, σ', H', J, rv, q⟩ := hs
    exact fin J rv q
  | next =>
    obtain ⟨σ', H', J, q⟩ := hs
    exact fin (v := V.non) (u := Ybj) J rfl q
  | brk =>
    obtain ⟨_, _, _, q⟩ := hs
    exact YcB q
  | cont =>
    obtain ⟨_, _, _, q⟩ := hs
    exact YcB q
section
variable {X:Cx}{x:Str}{p pos:Pos}{e:Expr}{es:List Expr}{t:TA}{id T:String}{r:List V->Hp->VK->Prop}

def tCB  (r:List V->Hp->VK->Prop)(t:TA):TE:=λσ H Q=>t σ H λvs H1=>r vs H1 Q
def jhB (hc:jbl X (.builtin id) r)(hg:Gl X x)(hm:X.mg x=none)(hv:Ybw x=some (.builtin id))(ha:PA X (e::es) t)(hn:x ≠ "__name__" := by decide)(hdb:(x==("__debug__" : Str))=false:=by decide)
  (he:Yaz (e::es) X.env=(false,eval e X.env)::Yaz es X.env:=by rfl) (hpl:(backTo pos (Yaz es X.env)).any (·.1)=false:=by rfl):PE X (.Call (.Name x p) (e::es) [] pos) (tCB r t):=by
 intro pins s σ H Q I h;refine YbN (jdn I hg hm hv ?_ hn hdb);exact YcG (thn (ha pos pins s σ H _ I h) λus s1 ⟨vs,H1,I1,r1,q1⟩=>hc pins s1 σ H1 vs us Q I1 r1 q1) he hpl
def jcK (hc:jbl X (.type T) r)(hg:Gl X x)(hm:X.mg x=none)(hv:Ybw x=some (.type T))(ha:PA X (e::es) t)(hn:x ≠ "__name__" := by decide)(hdb:(x==("__debug__" : Str))=false:=by decide)
  (he:Yaz (e::es) X.env=(false,eval e X.env)::Yaz es X.env:=by rfl) (hpl:(backTo pos (Yaz es X.env)).any (·.1)=false:=by rfl):PE X (.Call (.Name x p) (e::es) [] pos) (tCB r t):=by
 intro pins s σ H Q I h;refine YbN (jdn I hg hm hv ?_ hn hdb);exact YbK (thn (ha pos pins s σ H _ I h) λus s1 ⟨vs,H1,I1,r1,q1⟩=>hc pins s1 σ H1 vs us Q I1 r1 q1) he hpl
end
end L2

namespace HT
open PySem PyProof.Rows

section
open PySem.SeqAt
open PySem.AutoSeq1 (wpAny_loadPart')
open PySem.MeetsSeq PySem.MeetsSeq2 PySem.MeetsSeq3

end

section
variable {prog:Program}{w:World}{A:Around}{E:Value->Shared->Prop}{s:Shared}

def cat_tup     (ht:IsTup s.heap t vs.toArray)(hb:IsTup s.heap b ws.toArray)(hv:vs≠[])
  (h1:ws=[]->Q (.ref t) s) (h2:ws≠[]->Q (.ref s.heap.objs.size) { s with heap:=s.heap.push { cls:=.type "tuple",data:=.seq (vs++ws).toArray } })
  (hsz:vs.length+ws.length<=Yae):wpAny (model prog w) A (YaY .Add (.ref t) (.ref b)) Q E s:=by
 obtain⟨⟨cls,dd,data,sl⟩,ho,hc,n,hd⟩:=id ht;obtain⟨⟨cls2,dd2,data2,sl2⟩,ho2,hc2,n2,hd2⟩:=id hb;simp only at hc hd hc2 hd2;subst hc hd hc2 hd2;have e:vs.toArray++ws.toArray=(vs++ws).toArray:=by simp
 by_cases hw:ws=[]
 ·exact YeV ⟨_,ho,rfl⟩ ⟨_,ho2,rfl⟩ YdO YeA Ycp Yce (Yb7 _ _)
   (tuple_addW1 t b vs.toArray ws.toArray n n2 dd dd2 sl sl2 (by simpa using hv) (by simp[hw])) ⟨ho,ho2,h1 hw⟩
 ·refine YeV ⟨_,ho,rfl⟩ ⟨_,ho2,rfl⟩ YdO YeA Ycp Yce (Yb7 _ _)
   (tuple_addW2 t b vs.toArray ws.toArray n n2 dd dd2 sl sl2 (by simpa using hv) (by simpa using hw) (by rw[Yaj,Yaj];exact hsz)) ⟨ho,ho2,?_⟩
  rw[e];exact h2 hw

noncomputable def sIx  (n d:Nat):Option Int->Nat
 |none=>d
 |some v=>if v<0 then (v+(n:Int)).toNat else min v.toNat n
def sIx_none   n d:sIx n d none=d:=rfl
def sIx_nat  (n d k:Nat):sIx n d (some (k:Int))=min k n:=by
 show(if (k:Int)<0 then ((k:Int)+(n:Int)).toNat else min (k:Int).toNat n)=min k n
 rw[if_neg (by lia),Ycq]
def jkw   n d (hd:d<=n) o:sIx n d o<=n:=by
 cases o with
 |none=>exact hd
 |some v=>
  show(if v<0 then (v+(n:Int)).toNat else min v.toNat n)<=n
  by_cases hv:v<0
  ·rw[if_pos hv];lia
  ·rw[if_neg hv];exact Nat.min_le_right _ _
def jg1   v (n d:Nat):(if v<0 then max (v+(n:Int)) 0 else min v (n:Int))=((sIx n d (some v):Nat):Int):=by
 show(if v<0 then max (v+(n:Int)) 0 else min v (n:Int))=(((if v<0 then (v+(n:Int)).toNat else min v.toNat n):Nat):Int)
 by_cases hv:v<0
 ·simp only[if_pos hv];lia
 ·simp only[if_neg hv];lia
def jfT   lo hi (n:Nat):Ya5 lo hi 1 (n:Int)=(((sIx n 0 lo:Nat):Int),((sIx n n hi:Nat):Int)):=by
 have h1:¬((1:Int)<0):=by lia
 unfold Ya5;simp only[h1,if_false];refine Prod.ext ?_ ?_
 ·cases lo with
  |none=>rfl
  |some v=>exact jg1 v n 0
 ·cases hi with
  |none=>rfl
  |some v=>exact jg1 v n n
def jfB  (i j:Nat):YaF (i:Int) (j:Int) 1=j-i:=by
 unfold YaF;have h1:(1:Int)>0:=by lia
 simp only[h1,if_true,Yem];split<;>lia
def ja3     (p:IsPart v o)(h:Q o s):wpAny (model prog w) A (Builtin.Slice.slicePartIndex v) Q E s:=by
 cases p with
 |none=>exact slicePart_none h
 |int i t=>exact slicePart_int h
def jbp    {lo hi:Option Int}{n:Nat}(hs:s.heap.IsSliceOf sl vl vu .none)(pl:IsPart vl lo)(pu:IsPart vu hi)
  (h:Q (((sIx n 0 lo:Nat):Int),1,sIx n n hi-sIx n 0 lo) s):wpAny (model prog w) A (Ybl (.ref sl) (pure (n:Int))) Q E s:=by
 obtain⟨os,hos,hcs,hds⟩:=id hs;unfold Ybl YcY;refine Yad (Yad (Ybv hos hds (x:=vl) rfl (Yad (Ybv hos hds (x:=vu) rfl (Yad (Ybv hos hds (x:=.none) rfl (Yak ?_)))))));refine Yad (slicePart_none ?_);show wpAny _ _ (if ((1:Int)==0)=true then _ else _) _ _ s
 rw[if_neg (by decide)]
 refine Yad (ja3 pl (Yad (ja3 pu (Yad (Yak ?_)))));show wpAny _ _ (match Ya5 lo hi 1 (n:Int)with|(lo,hi)=>pure (lo,(1:Int),YaF lo hi 1)) _ _ s
 rw[jfT lo hi n];show wpAny _ _ (pure (((sIx n 0 lo:Nat):Int),(1:Int),YaF ((sIx n 0 lo:Nat):Int) ((sIx n n hi:Nat):Int) 1)) _ _ s;rw[jfB];exact Yak h
def jhw  (xs:Array Value)(i k:Nat):((Ybm k).filterMap λ(m:Nat)=>xs[((i:Int)+(m:Int)*1).toNat]?).toArray=((xs.toList.drop i).take k).toArray:=by
 have e:(λ(m:Nat)=>xs[((i:Int)+(m:Int)*1).toNat]?)=λm=>xs[i+m]?:=by
  funext m;have:((i:Int)+(m:Int)*1).toNat=i+m:=by lia
  rw[this]
 rw[e];have:=pick_run xs i k;rw[YeI]at this;have e2:((λx=>xs[x]?) ∘ λx=>i+x)=λm=>xs[i+m]?:=rfl;rw[e2]at this;rw[this]

def getItem_tuple_cut     {lo hi:Option Int}(ht:IsTup s.heap t items)(hs:s.heap.IsSliceOf sl vl vu .none)(pl:IsPart vl lo)(pu:IsPart vu hi)
  (hw:¬(sIx items.size 0 lo=0/\sIx items.size items.size hi=items.size))
  (h:Q (.ref s.heap.objs.size) { s with heap:=s.heap.push { cls:=.type "tuple",data:=.seq ((items.toList.drop (sIx items.size 0 lo)).take (sIx items.size items.size hi-sIx items.size 0 lo)).toArray } })
  (hsz:items.size<=Yae):wpAny (model prog w) A (getItem (.ref t) (.ref sl)) Q E s:=by
 have htake:sizeOk (.seq ((items.toList.drop (sIx items.size 0 lo)).take (sIx items.size items.size hi-sIx items.size 0 lo)).toArray):=by
  show((items.toList.drop (sIx items.size 0 lo)).take (sIx items.size items.size hi-sIx items.size 0 lo)).toArray.size<=Yae;rw[Yaj,Ya7,Ya8,YcP]
  lia
 have hj:sIx items.size items.size hi<=items.size:=jkw _ _ (Yaa _) hi;obtain⟨os,hos,hcs,hds⟩:=id hs;have hTs:s.TypeIs (.ref sl) "slice" := ⟨os,hos,hcs⟩;unfold getItem
 try with_reducible refine Ybn ?_
 first|refine Yad (Yak ?_)|skip
 refine Yad (Ydv ht.typeIs (by decide) ?_)
 refine Yad (YcC (name:=Ya3 "__getitem__") ht.typeIs YaM
  (YdN YaM ht.typeIs Yc4 ?_ (Ydm _ _)))
 show wpAny _ _ (YbQ (.ref t) >>= _) _ _ s;refine Yad (Yey ht ?_);refine Yad (YdE hTs ?_);rw[if_pos (by decide)]
 refine Yad (jbp hs pl pu ?_);have hno:¬((((sIx items.size 0 lo:Nat):Int)==0&&(1:Int)==1&&(sIx items.size items.size hi-sIx items.size 0 lo)==items.size)=true):=by
  intro q;rw[Yap,Yap]at q;have q1:((sIx items.size 0 lo:Nat):Int)=0:=eq_of_beq q.1.1;have q2:sIx items.size items.size hi-sIx items.size 0 lo=items.size:=eq_of_beq q.2;exact hw ⟨by lia,by lia⟩
 show wpAny _ _ (if (((sIx items.size 0 lo:Nat):Int)==0&&(1:Int)==1&&(sIx items.size items.size hi-sIx items.size 0 lo)==items.size)=true then _ else _) _ _ s
 rw[if_neg hno,jhw]
 first
  |exact Yad (m:=YaJ _) (YaO (Yak ⟨_,rfl,Yak h⟩) htake)
  |exact Yad (m:=YaJ _) (YaO (Yad (Yak (Yak ⟨_,rfl,Yak h⟩))) htake)
  |exact Yad (Yad (m:=YaJ _) (YaO (Yak (Yak ⟨_,rfl,Yak h⟩)) htake))
  |exact Yad (Yad (m:=YaJ _) (YaO (Yak ⟨_,rfl,Yak h⟩) htake))
end
end HT

namespace L2
open PySem PySem.Spec PyProof.Rows

abbrev TO:=St->Hp->(Option Int->Hp->Prop)->Prop
def PO  (X:Cx)(e:Option Expr)(t:TO):Prop:=
 ∀(pins:List (Addr×Obj)) (s:Shared) (σ:St) (H:Hp) (Q:Option Int->Hp->Prop),Inv X pins σ H s->t σ H Q->
  wpAny (model X.prog X.w) X.A (evalPart e X.env) (λu s'=>∃o H',Inv X pins σ H' s'/\IsPart u o/\Q o H') X.xe s
def jiM  : TO:=λ_ H Q=>Q none H
def jmo  (t:TE):TO:=λσ H Q=>t σ H λx H1=>∃i,x=.int i/\Q (some i) H1


def ji7  : PO X none jiM:=by
 intro pins s σ H Q I h;rw[YeC];exact Yak ⟨none,H,I,.none,h⟩
def ji6  (h:PE X e te):PO X (some e) (jmo te):=by
 intro pins s σ H Q I hw;rw[evalPart_some];refine thn (h pins s σ H _ I hw) λu s1 ⟨x,H1,I1,r1,q1⟩=>?_;obtain⟨i,rfl,q⟩:=q1;obtain⟨t,rfl⟩:=r1;exact⟨some i,H1,I1,.int i t,q⟩

def SlR  (X:Cx)(r:V->Option Int->Option Int->Hp->VK->Prop):Prop:=
 ∀(pins:List (Addr×Obj)) (s:Shared) (σ:St) (H:Hp) (x:V) (v vl vu:Value) (lo hi:Option Int) (sl:Addr) (Q:VK),Inv X pins σ H s->RelV x v->s.heap.IsSliceOf sl vl vu .none->IsPart vl lo->IsPart vu hi->r x lo hi H Q->
  ∃T id,typeLookup (.type T) "__getitem__" = pure (some (.builtin id))/\s.TypeIs v T/\wpAny (model X.prog X.w) X.A (getItem v (.ref sl)) (EP X pins σ Q) X.xe s
def SlR.or   (h:SlR X r)(h':SlR X r'):SlR X (λx lo hi H Q=>r x lo hi H Q\/r' x lo hi H Q):=by
 intro pins s σ H x v vl vu lo hi sl Q I rx hs pl pu q;rcases q with q|q
 ·exact h pins s σ H x v vl vu lo hi sl Q I rx hs pl pu q
 ·exact h' pins s σ H x v vl vu lo hi sl Q I rx hs pl pu q
def tSl  (r:V->Option Int->Option Int->Hp->VK->Prop)(te:TE)(tl th:TO):TE:=λσ H Q=>te σ H λx H1=>tl σ H1 λl H2=>th σ H2 λu H3=>r x l u H3 Q
def jhy  {lo: Option Expr}(hr:SlR X r)(he:PE X e te)(hl:PO X lo tl)(hu:PO X hi th):PE X (.Subscript e (.Slice lo hi none p2) pos) (tSl r te tl th):=by
 intro pins s σ H Q I h;refine Subscript_ (thn (he pins s σ H _ I h) λv s1 ⟨x,H1,I1,r1,q1⟩=>?_);refine wpAny_Slice (thn (hl pins s1 σ H1 _ I1 q1) λvl s2 ⟨l,H2,I2,pl,q2⟩=>thn (hu pins s2 σ H2 _ I2 q2) λvu s3 ⟨u,H3,I3,pu,q3⟩=>?_);rw[YeC];refine Yak ?_;have I4:Inv X pins σ H3 { s3 with heap:=s3.heap.push { cls:=.type "slice",data:=.fields #[vl,vu,.none] } }:=I3.kept (t':=s3.toks) λb ob q=>Yaf _ q
 obtain⟨T,id,hT,ht,hg⟩:=hr pins { s3 with heap:=s3.heap.push { cls:=.type "slice",data:=.fields #[vl,vu,.none] } } σ H3 x v vl vu l u s3.heap.objs.size Q I4 r1 (Heap.IsSliceOf.new ..) pl pu q3;show wpAny (model X.prog X.w) X.A (Ydh e (.Slice lo hi none p2) v (.ref s3.heap.objs.size)) (EP X pins σ Q) X.xe { s3 with heap:=s3.heap.push { cls:=.type "slice",data:=.fields #[vl,vu,.none] } }
 exact tail_any (ops:=[.ref s3.heap.objs.size,v]) ht hT hg (by with_unfolding_all rfl)

def cutV  (xs:List V)(lo hi:Option Int):List V:=(xs.drop (HT.sIx xs.length 0 lo)).take (HT.sIx xs.length xs.length hi-HT.sIx xs.length 0 lo)
def jc4  (xs:List V) lo hi:(cutV xs lo hi).length<=xs.length:=by
 unfold cutV;rw[Ya7,Ya8]
 lia
def rSlT  (K:Yac):V->Option Int->Option Int->Hp->VK->Prop:=λx lo hi H Q=>∃a xs,x=.ref a/\SqT K H a xs/\
 ¬(HT.sIx xs.length 0 lo=0/\HT.sIx xs.length xs.length hi=xs.length)/\∀p,H p=none->Q (.ref p) (upd H p (.tup (cutV xs lo hi)))
def jkn  : SlR X (rSlT X.K):=by
 intro pins s σ H x v vl vu lo hi sl Q I rx hs pl pu h;obtain⟨a,xs,rfl,hx,hw,q⟩:=h;cases rx;obtain⟨its,r,ht,hz⟩:=I.tuple hx;have hlen:its.toArray.size=xs.length:=by rw[Yaj];exact r.length.symm
 refine⟨"tuple",_,YaM.lookup,ht.typeIs,?_⟩;refine HT.getItem_tuple_cut ht hs pl pu (by rw[hlen];exact hw) ?_ (by rw[hlen];exact hz)
 rw[hlen];refine⟨.ref s.heap.objs.size,_,I.laid (t':=s.toks) (o:=.tup (cutV xs lo hi)) (λb ob q=>Yaf _ q) (Yaa _) ?_,rfl,q _ (I.hok.fresh (Yaa _))⟩;exact⟨Yag (jc4 xs lo hi) hz,_,(r.drop (HT.sIx xs.length 0 lo)).take (HT.sIx xs.length xs.length hi-HT.sIx xs.length 0 lo),TupD.new _ _⟩

def jmG  (K:Yac):R2:=λx y H Q=>∃a b xs ys,x=.ref a/\y=.ref b/\SqT K H a xs/\SqT K H b ys/\xs≠[]/\xs.length+ys.length<=Yae/\
 (ys=[]->Q (.ref a) H)/\(ys≠[]->∀p,H p=none->Q (.ref p) (upd H p (.tup (xs++ys))))
def Vals.nil_iff    (r:Vals xs us):us=[]↔xs=[]:=by
 cases r with
 |nil=>simp
 |cons _ _=>simp
def jjp  : OpR X (YaY .Add) (jmG X.K):=by
 intro pins s σ H x y v u Q I rx ry h;obtain⟨a,b,xs,ys,rfl,rfl,ha,hb,hx,hz,q1,q2⟩:=h;cases rx;cases ry;obtain⟨its,r1,p1,_⟩:=I.tuple ha;obtain⟨its2,r2,p2,_⟩:=I.tuple hb;refine HT.cat_tup p1 p2 (λz=>hx (r1.nil_iff.mp z)) (λz=>⟨.ref a,H,I,rfl,q1 (r2.nil_iff.mp z)⟩) (λz=>?_) (by rw[<- r1.length,<- r2.length];exact hz)
 refine⟨.ref s.heap.objs.size,_,I.laid (t':=s.toks) (o:=.tup (xs++ys)) (λb ob q=>Yaf _ q) (Yaa _) ?_,rfl,q2 (λw=>z (r2.nil_iff.mpr w)) _ (I.hok.fresh (Yaa _))⟩;exact⟨by rw[Yaq];exact hz,_,r1.append r2,TupD.new _ _⟩

noncomputable def ixN  (n:Nat)(i:Int):Option Nat:=if 0<=i then (if i<n then some i.toNat else none) else if -(n:Int)<=i then some (i+n).toNat else none
def atI  {α:Type}(xs:List α)(i:Int):Option α:=(ixN xs.length i).bind λj=>xs[j]?
def jgE     (h:ixN n i=some j):seqIndex? i n=some j/\j<n/\-(n:Int)<=i/\i<n:=by
 unfold ixN at h;by_cases h0:0<=i
 ·rw[if_pos h0]at h;by_cases h1:i<n
  ·rw[if_pos h1]at h;have e:i.toNat=j:=Yau h;exact⟨by rw[seqIndex_of h0 h1,e],by lia,by lia,h1⟩
  ·rw[if_neg h1]at h;cases h
 ·rw[if_neg h0]at h;by_cases h1:-(n:Int)<=i
  ·rw[if_pos h1]at h;have e:(i+n).toNat=j:=Yau h;exact⟨by rw[YeS (by lia) h1,e],by lia,h1,by lia⟩
  ·rw[if_neg h1]at h;cases h
def je3      (h:atI xs i=some v):∃j,seqIndex? i xs.length=some j/\xs[j]?=some v/\j<xs.length/\-(xs.length:Int)<=i/\i<xs.length:=by
 unfold atI at h;cases e:ixN xs.length i with
 |none=>rw[e]at h;cases h
 |some j=>
  rw[e]at h;obtain⟨h1,h2,h3,h4⟩:=jgE e;exact⟨j,h1,h,h2,h3,h4⟩
def jbN    {j:Nat}{v:α}(h:xs[j]?=some v):atI xs (j:Int)=some v:=by
 have hj:j<xs.length:=(List.getElem?_eq_some_iff.mp h).1;have e:ixN xs.length (j:Int)=some j:=by
  unfold ixN;rw[if_pos (by lia),if_pos (by lia)];simp
 unfold atI;rw[e];exact h
def je5  (b:Expr):Prop:=∀o i,subscripted b false o i=operate [o,i] (getItem o i)
def IxR  (X:Cx)(r:R2):Prop:=
 ∀(value slice:Expr) (pins:List (Addr×Obj)) (s:Shared) (σ:St) (H:Hp) (x y:V) (v u:Value) (Q:VK),Inv X pins σ H s->RelV x v->RelV y u->r x y H Q->
  subscripted slice false v u=operate [v,u] (getItem v u)->wpAny (model X.prog X.w) X.A (Ydh value slice v u) (EP X pins σ Q) X.xe s
def MtR  (X:Cx)(id:String)(r:V->List V->Hp->VK->Prop):Prop:=
 ∀(pins:List (Addr×Obj)) (s:Shared) (σ:St) (H:Hp) (x:V) (xs:List V) (v:Value) (us:List Value) (Q:VK),Inv X pins σ H s->RelV x v->Vals xs us->r x xs H Q->
  wpAny (model X.prog X.w) X.A (call (.builtin id) (v::us)) (EP X pins σ Q) X.xe s

def IxR.or   (h:IxR X r)(h':IxR X r'):IxR X (λx y H Q=>r x y H Q\/r' x y H Q):=by
 intro value slice pins s σ H x y v u Q I rx ry q hs;rcases q with q|q
 ·exact h value slice pins s σ H x y v u Q I rx ry q hs
 ·exact h' value slice pins s σ H x y v u Q I rx ry q hs
def jmO   (hr:IxR X r)(ha:PE X a ta)(hb:PE X b tb)(hs:je5 b):PE X (.Subscript a b pos) (tOp r ta tb):=by
 intro pins s σ H Q I h;exact Subscript_ (binT ha hb I h λv u s2 x y H2 I2 rx ry q=>hr a b pins s2 σ H2 x y v u Q I2 rx ry q (hs _ _))

def rIxL  (K:Yac):R2:=λx y H Q=>∃p xs i v,x=.ref p/\y=.int i/\SqL K H p xs/\atI xs i=some v/\Q v H
def rIxT  (K:Yac):R2:=λx y H Q=>∃p xs i v,x=.ref p/\y=.int i/\SqT K H p xs/\atI xs i=some v/\Q v H
def rIxS  : R2:=λx y H Q=>∃z i c,x=.str z/\y=.int i/\z.length<=Yae/\atI z.cps.toList i=some c/\Q (.str ⟨#[c]⟩) H
def jjI  : IxR X (rIxL X.K):=by
 intro value slice pins s σ H x y v u Q I rx ry h hs;obtain⟨p,xs,i,z,rfl,rfl,hq,he,q⟩:=h;cases rx;obtain⟨t,rfl⟩:=ry;obtain⟨its,r,pl,hz⟩:=I.list hq;obtain⟨j,h1,h2,h3,h4,h5⟩:=je3 he;obtain⟨w,ew,rw'⟩:=r.get h2;have hl:=r.length;have hn:=jcR;have fin:EP X pins σ Q w s:=⟨z,H,I,rw',q⟩;by_cases h0:0<=i
 ·have hj:i.toNat=j:=by
   rw[seqIndex_of h0 h5]at h1;exact Yau h1
  exact item_listR pl.isList h0 (by lia) (by rw[hj];simpa using ew) fin hs
 ·have hj:(i+(its.toArray.size:Int)).toNat=j:=by
   rw[YeS (by lia) h4]at h1
   rw[Yaj,<- hl];exact Yau h1
  exact YeK (x:=w) pl.isList.typeIs slot_list_getitem.lookup
   (wpAny_getItem_list_neg (Q:=λr s'=>r=w/\EP X pins σ Q r s') pl.isList (by lia) (by rw[Yaj]<;>lia) (by lia) (by rw[hj];simpa using ew) ⟨rfl,fin⟩) hs
def jlJ  : IxR X (rIxT X.K):=by
 intro value slice pins s σ H x y v u Q I rx ry h hs;obtain⟨p,xs,i,z,rfl,rfl,hq,he,q⟩:=h;cases rx;obtain⟨t,rfl⟩:=ry;obtain⟨its,r,pl,hz⟩:=I.tuple hq;obtain⟨j,h1,h2,h3,h4,h5⟩:=je3 he;obtain⟨w,ew,rw'⟩:=r.get h2;have hl:=r.length;have hn:=jcR;have fin:EP X pins σ Q w s:=⟨z,H,I,rw',q⟩;exact YeK (x:=w) pl.typeIs slot_tuple_getitem.lookup
  (getItem_tuple (j:=j) (Q:=λr s'=>r=w/\EP X pins σ Q r s') pl (by lia) (by lia) (by rw[Yaj,<- hl];exact h1) (by simpa using ew) ⟨rfl,fin⟩) hs
def jlK  : IxR X rIxS:=by
 intro value slice pins s σ H x y v u Q I rx ry h hs;obtain⟨z,i,c,rfl,rfl,hz,he,q⟩:=h;obtain⟨t,rfl⟩:=rx;obtain⟨t',rfl⟩:=ry;obtain⟨j,h1,h2,h3,h4,h5⟩:=je3 he;have hl:z.cps.toList.length=z.length:=by simp[Yc5]
 rw[hl]at h1 h4 h5;have hn:=jcR;exact tail_any (YbV s z t) slot_str_getitem.lookup (getItem_str (c:=c) (by
  have e1:decide (i < -(2 ^ 63:Int))=false:=decide_eq_false (by lia)
  have e2:decide (i ≥ 2 ^ 63)=false:=decide_eq_false (by lia)
  rw[e1,e2,Bool.or_false]) (by rw[h1];simpa using h2) ⟨.str ⟨#[c]⟩,H,I.tok _,⟨_,rfl⟩,q⟩) hs
def rIx  (K:Yac):R2:=λx y H Q=>rIxL K x y H Q\/rIxT K x y H Q\/rIxS x y H Q
def jlL  : IxR X (rIx X.K):=jjI.or (jlJ.or jlK)

def jfJ  (its:List Value)(n j:Nat) u:Yc9 (·.setIfInBounds j u) { cls:=.type "list",data:=.seq its.toArray n }={ cls:=.type "list",data:=.seq (its.set j u).toArray n }:=by
 simp[Yc9]
def Inv.lst   {σ:St}(I:Inv X pins σ H s)(h:H p=some (.lst xs)) :
  ∃(its:List Value) (n:Nat),Vals xs its/\s.heap.get? p=some { cls:=.type "list",data:=.seq its.toArray n }/\xs.length<=Yae:=by
 obtain⟨z,its,n,r,e⟩:=I.hok p _ h;exact⟨its,n,r,e,z⟩
def Inv.lstUpd   {σ:St}{its its':List Value}(I:Inv X pins σ H s)(h:H p=some (.lst xs))
  (ho:s.heap.get? p=some { cls:=.type "list",data:=.seq its.toArray n }) (hf:f { cls:=.type "list",data:=.seq its.toArray n }={ cls:=.type "list",data:=.seq its'.toArray n' }) (r:Vals ys its') (hz:ys.length<=Yae) t :
  Inv X pins σ (upd H p (.lst ys)) { s with heap:=s.heap.update p f,toks:=t }:=by
 have e:(s.heap.update p f).get? p=some { cls:=.type "list",data:=.seq its'.toArray n' }:=by
  rw[Yd9 f ho (by rw[hf]<;>rfl),hf]
 refine I.write (x:=p) (e:=p) (by rw[h];trivial) (.inl rfl) (λb u hb q=>(Ycu _ _ (Ne.symm hb)).trans q) ⟨_,e⟩ ?_
 exact⟨hz,its',n',r,e⟩
def jkD  : V->V->V->Hp->(Hp->Prop)->Prop:=λo i v H Q=>∃p xs k j,o=.ref p/\i=.int k/\H p=some (.lst xs)/\ixN xs.length k=some j/\Q (upd H p (.lst (xs.set j v)))
def jhj  : PSet X jkD:=by
 intro pins s σ H o i v ov iv u Q I ro ri rv h;obtain⟨p,xs,k,j,rfl,rfl,hp,hj,q⟩:=h;cases ro;obtain⟨t,rfl⟩:=ri;obtain⟨its,n,r,ho,hz⟩:=I.lst hp;obtain⟨h1,h2,h3,h4⟩:=jgE hj;have hl:=r.length;have hn:=jcR;have I':Inv X pins σ (upd H p (.lst (xs.set j v))) { s with heap:=s.heap.update p (Yc9 (·.setIfInBounds j u)) }:=
  I.lstUpd hp ho (jfJ its n j u) (r.set rv j) (by rw[List.length_set];exact hz) s.toks
 by_cases h0:0<=k
 ·have hk:k.toNat=j:=by
   rw[seqIndex_of h0 h4]at h1;exact Yau h1
  exact PySem.W.ki_setAt ho h0 (by lia) (by rw[Yaj,<- hl];exact h4) (by rw[hk];exact⟨_,I',q⟩)
 ·have hk:(k+(its.toArray.size:Int)).toNat=j:=by
   rw[YeS (by lia) h3]at h1
   rw[Yaj,<- hl];exact Yau h1
  exact PySem.W.ki_setBack ho (by lia) (by rw[Yaj,<- hl];exact h3) (by lia) (by rw[hk];exact⟨_,I',q⟩)

def jd2   lo hi n:(YbE lo hi none n).1=((HT.sIx n 0 lo:Nat):Int)/\(YbE lo hi none n).2.1=((HT.sIx n n hi:Nat):Int)/\(YbE lo hi none n).2.2=1:=by
 refine⟨?_,?_,rfl⟩
 ·cases lo with
  |none=>simp[YbE,HT.sIx]
  |some i=>
   simp only[YbE,HT.sIx,YeG,show(1:Int)>0 by decide,if_true]
   by_cases h:i<0
   ·simp only[h,if_true]<;>lia
   ·simp only[h,if_false]<;>lia
 ·cases hi with
  |none=>simp[YbE,HT.sIx]
  |some i=>
   simp only[YbE,HT.sIx,YeG,show(1:Int)>0 by decide,if_true]
   by_cases h:i<0
   ·simp only[h,if_true]<;>lia
   ·simp only[h,if_false]<;>lia
def jdI  (its:List Value) lo hi:Ydi its.toArray lo hi none=((its.drop (HT.sIx its.length 0 lo)).take (HT.sIx its.length its.length hi-HT.sIx its.length 0 lo)).toArray:=by
 obtain⟨h1,h2,h3⟩:=jd2 lo hi its.toArray.size;unfold Ydi;rw[h1,h2,h3];simp only[sliceRange_one,pick_run,Yaj]<;>rfl
def rSlL  (K:Yac):V->Option Int->Option Int->Hp->VK->Prop:=λx lo hi H Q=>∃a xs,x=.ref a/\SqL K H a xs/\∀p,H p=none->Q (.ref p) (upd H p (.lst (cutV xs lo hi)))
def jiR  : SlR X (rSlL X.K):=by
 intro pins s σ H x v vl vu lo hi sl Q I rx hs pl pu h;obtain⟨a,xs,rfl,hx,q⟩:=h;cases rx;obtain⟨its,r,ht,hz⟩:=I.list hx;have hlen:=r.length;refine⟨"list",_,slot_list_getitem.lookup,ht.isList.typeIs,?_⟩;refine Ycv ht.isList hs pl pu .none (by simp) ?_ (by rw[Yaj]<;>lia)
 rw[jdI,<- hlen];refine⟨.ref s.heap.objs.size,_,I.laid (t':=s.toks) (o:=.lst (cutV xs lo hi)) (λb ob q=>Yaf _ q) (Yaa _) ?_,rfl,q _ (I.hok.fresh (Yaa _))⟩;exact⟨Yag (jc4 xs lo hi) hz,_,0,(r.drop (HT.sIx xs.length 0 lo)).take (HT.sIx xs.length xs.length hi-HT.sIx xs.length 0 lo),Yar _ rfl⟩

noncomputable def flatV  : V->Bool
 |.non=>true
 |.bl _=>true
 |.int _=>true
 |.str _=>true
 |_=>false
noncomputable def eqV  : V->V->Bool
 |.non,.non=>true
 |.bl a,.bl b=>a==b
 |.bl a,.int b=>(if a then 1 else 0)==b
 |.int a,.bl b=>a==(if b then 1 else 0)
 |.int a,.int b=>a==b
 |.str a,.str b=>a==b
 |_,_=>false
def jlS      (ry:RelV y u)(rx:RelV x v)(fy:flatV y=true)(fx:flatV x=true):YdH A s u v (eqV y x):=by
 cases y with
 |non=>
  cases ry;cases x with
  |non=>cases rx;exact YdH.same _
  |bl b=>cases rx;exact YdH.none_bool b
  |int b=>obtain⟨t,rfl⟩:=rx;exact YdH.none_int b t
  |str b=>obtain⟨t,rfl⟩:=rx;exact YdH.none_str b t
  |_=>exact absurd (show false=true from fx) Yah
 |bl a=>
  cases ry;cases x with
  |non=>cases rx;exact YdH.bool_none a
  |bl b=>cases rx;exact YdH.bool_bool a b
  |int b=>obtain⟨t,rfl⟩:=rx;exact YdH.bool_int a b t
  |str b=>obtain⟨t,rfl⟩:=rx;exact YdH.bool_str a b t
  |_=>exact absurd (show false=true from fx) Yah
 |int a=>
  obtain⟨t',rfl⟩:=ry;cases x with
  |non=>cases rx;exact YdH.int_none a t'
  |bl b=>cases rx;exact YdH.int_bool a t' b
  |int b=>obtain⟨t,rfl⟩:=rx;exact YdH.int_int a t' b t
  |str b=>obtain⟨t,rfl⟩:=rx;exact YdR a t' b t
  |_=>exact absurd (show false=true from fx) Yah
 |str a=>
  obtain⟨t',rfl⟩:=ry;cases x with
  |non=>cases rx;exact YdH.str_none a t'
  |bl b=>cases rx;exact YdH.str_bool a t' b
  |int b=>obtain⟨t,rfl⟩:=rx;exact YdQ a t' b t
  |str b=>obtain⟨t,rfl⟩:=rx;exact YdH.str_str a t' b t
  |_=>exact absurd (show false=true from fx) Yah
 |_=>exact absurd (show false=true from fy) Yah
def eqU  (x:V)(u:Value):Bool:=match u with
 |.none=>eqV .non x
 |.bool b=>eqV (.bl b) x
 |.int i _=>eqV (.int i) x
 |.str z _=>eqV (.str z) x
 |_=>false
def jis    (r:RelV y u)(f:flatV y=true):eqU x u=eqV y x:=by
 cases y with
 |non=>cases r;rfl
 |bl b=>cases r;rfl
 |int i=>obtain⟨t,rfl⟩:=r;rfl
 |str z=>obtain⟨t,rfl⟩:=r;rfl
 |_=>exact absurd (show false=true from f) Yah
theorem jc7   : ∀{xs } {us },Vals xs us->xs.all flatV=true->us.any (eqU x)=xs.any λy=>eqV y x
 |_,_,.nil,_=>rfl
 |y::xs,u::us,.cons r t,f=>by
  rw[YbC,Yap]at f;rw[Yba,Yba,jis r f.1,jc7 t f.2]
theorem jbG      (rx:RelV x v)(fx:flatV x=true):∀{xs } {us },Vals xs us->xs.all flatV=true->∀u∈us,YdH A s u v (eqU x u)
 |_,_,.nil,_=>λu hu=>by cases hu
 |y::xs,u::us,.cons r t,f=>λu' hu=>by
  rw[YbC,Yap]at f;rcases Yas.mp hu with rfl|hu
  ·rw[jis r f.1];exact jlS r rx f.1 fx
  ·exact jbG rx fx t f.2 u' hu
def inV  (x:V)(xs:List V):Bool:=xs.any λy=>eqV y x
def rIn  (K:Yac)(neg:Bool):R2:=λx y H Q=>∃p xs,y=.ref p/\(SqL K H p xs\/SqT K H p xs)/\flatV x=true/\xs.all flatV=true/\Q (.bl (if neg then !inV x xs else inV x xs)) H
def jgn  : OpR X (YaE .In) (rIn X.K false):=by
 intro pins s σ H x y v u Q I rx ry h;obtain⟨p,xs,rfl,hq,fx,fs,q⟩:=h;cases ry;rcases hq with hq|hq
 ·obtain⟨its,r,pl,hz⟩:=I.list hq;refine YeW (eqU x) pl.isList (λw hw=>jbG rx fx r fs w (by simpa using hw)) ⟨.bl _,H,I,rfl,?_⟩
  rw[show its.toArray.any (eqU x)=its.any (eqU x) by simp,jc7 r fs]
  exact q
 ·obtain⟨its,r,pl,hz⟩:=I.tuple hq;refine Yc6 (eqU x) pl (λw hw=>jbG rx fx r fs w (by simpa using hw)) ⟨.bl _,H,I,rfl,?_⟩
  rw[show its.toArray.any (eqU x)=its.any (eqU x) by simp,jc7 r fs]
  exact q
def jd8  : OpR X (YaE .NotIn) (rIn X.K true):=by
 intro pins s σ H x y v u Q I rx ry h;obtain⟨p,xs,rfl,hq,fx,fs,q⟩:=h;cases ry;rcases hq with hq|hq
 ·obtain⟨its,r,pl,hz⟩:=I.list hq;refine Yep (eqU x) pl.isList (λw hw=>jbG rx fx r fs w (by simpa using hw)) ⟨.bl _,H,I,rfl,?_⟩
  rw[show its.toArray.any (eqU x)=its.any (eqU x) by simp,jc7 r fs]
  exact q
 ·obtain⟨its,r,pl,hz⟩:=I.tuple hq;refine YcM (eqU x) pl (λw hw=>jbG rx fx r fs w (by simpa using hw)) ⟨.bl _,H,I,rfl,?_⟩
  rw[show its.toArray.any (eqU x)=its.any (eqU x) by simp,jc7 r fs]
  exact q
def jbl.or    (h:jbl X f r)(h':jbl X f r'):jbl X f (λxs H Q=>r xs H Q\/r' xs H Q):=by
 intro pins s σ H xs us Q I rs q;rcases q with q|q
 ·exact h pins s σ H xs us Q I rs q
 ·exact h' pins s σ H xs us Q I rs q
def jer  : jbl X (.type "list") (λxs H Q=>∃p ys,xs=[.ref p]/\(SqL X.K H p ys\/SqT X.K H p ys)/\∀l,H l=none->Q (.ref l) (upd H l (.lst ys))):=by
 intro pins s σ H xs us Q I r h;obtain⟨p,ys,rfl,hq,q⟩:=h;obtain⟨u,rfl,rx⟩:=jcr r;cases rx;have fin:∀(its:List Value),Vals ys its->ys.length<=Yae->∀(h':Heap) (c':Nat),(∀b o',s.heap.get? b=some o'->h'.get? b=some o')->
   h'.get? s.heap.objs.size=some { cls:=.type "list",dict:=none,data:=.seq its.toArray c',slots:=#[] }->EP X pins σ Q (.ref s.heap.objs.size) { s with heap:=h' }:=λits r' hz h' c' kp e=>
  ⟨.ref s.heap.objs.size,_,I.laid (t':=s.toks) kp (Yaa _) (show jaD X.prog X.w _ h' _ (.lst ys)from⟨hz,its,c',r',e⟩),rfl,q _ (I.hok.fresh (Yaa _))⟩
 rcases hq with hq|hq
 ·obtain⟨its,r',pl,hz⟩:=I.list hq;have hlen:=r'.length;obtain⟨o,ho,hc,n,hd⟩:=pl.isList;exact call_list_seq p (.inl rfl) ho hc hd (λh' c' kp e=>fin its r' hz h' c' kp e) (by simp only[Yaj]<;>lia)
 ·obtain⟨its,r',pl,hz⟩:=I.tuple hq;have hlen:=r'.length;obtain⟨o,ho,hc,n,hd⟩:=pl;exact call_list_seq p (.inr rfl) ho hc hd (λh' c' kp e=>fin its r' hz h' c' kp e) (by simp only[Yaj]<;>lia)
def jdS  : jbl X (.type "tuple") (λxs H Q=>∃p ys,xs=[.ref p]/\((SqL X.K H p ys/\∀l,H l=none->Q (.ref l) (upd H l (.tup ys)))\/(SqT X.K H p ys/\Q (.ref p) H))):=by
 intro pins s σ H xs us Q I r h;obtain⟨p,ys,rfl,h⟩:=h;obtain⟨u,rfl,rx⟩:=jcr r;cases rx;rcases h with⟨hq,q⟩|⟨hq,q⟩
 ·obtain⟨its,r',pl,hz⟩:=I.list hq;have hlen:=r'.length;refine call_tuple_list pl.isList (λh' kp=>?_) (by simp only[Yaj]<;>lia)
  have I1:Inv X pins σ H { s with heap:=h' }:=I.kept (t':=s.toks) kp
  have I2:Inv X pins σ (upd H h'.objs.size (.tup ys)) { s with heap:=h'.push { cls:=.type "tuple",data:=.seq its.toArray } }:=
   I1.laid (t':=s.toks) (λb o e=>Yaf _ e) (Yaa _) (show jaD X.prog X.w _ _ _ (.tup ys)from⟨hz,its,r',TupD.new _ _⟩)
  exact⟨.ref h'.objs.size,_,I2,rfl,q _ (I1.hok.fresh (Yaa _))⟩
 ·obtain⟨its,r',pl,hz⟩:=I.tuple hq;exact call_tuple_same pl ⟨.ref p,H,I,rfl,q⟩

def tyV  (K:Yac)(T:String)(x:V)(H:Hp):Prop:=match x with
 |.str _=>T = "str"
 |.int _=>T = "int"
 |.ref p=>(T = "list" /\ ∃xs,SqL K H p xs)\/(T = "tuple" /\ ∃o,K.lookup p=some o/\o.cls=.type "tuple" /\ o.dict=none)\/
   (T = "dict" /\ ((∃kvs,H p=some (.dK kvs))\/∃kvs,H p=some (.dT kvs)))\/(T = "set" /\ ∃S n,H p=some (.set S n))\/(T = "tuple" /\ ∃xs,H p=some (.tup xs))
 |_=>False
def jh1   {σ:St}(I:Inv X pins σ H s)(r:RelV x v)(ty:tyV X.K T x H) :
  s.TypeIs v T/\∀a,v=.ref a->∃ob,s.heap.get? a=some ob/\ob.dict=none:=by
 cases x with
 |str z=>
  obtain⟨t,rfl⟩:=r;cases(show T = "str" from ty);exact⟨YbV s z t,λ_ e=>nomatch e⟩
 |int i=>
  obtain⟨t,rfl⟩:=r;cases(show T = "int" from ty);exact⟨Ydw s i t,λ_ e=>nomatch e⟩
 |ref p=>
  cases r;rcases ty with⟨rfl,xs,hq⟩|⟨rfl,o,hk,hc,hd⟩|⟨rfl,hk⟩|⟨rfl,S,n,hk⟩|⟨rfl,xs,hk⟩
  ·obtain⟨its,_,pl,_⟩:=I.list hq;refine⟨pl.isList.typeIs,λa e=>?_⟩;cases e;obtain⟨o,n,e,c,hd,_⟩:=pl;exact⟨o,e,hd⟩
  ·refine⟨⟨o,I.kIn p o hk,hc⟩,λa e=>?_⟩;cases e;exact⟨o,I.kIn _ o hk,hd⟩
  ·have z:∃o,s.heap.get? p=some o/\o.ExactDict:=by
    rcases hk with⟨kvs,hk⟩|⟨kvs,hk⟩
    ·obtain⟨_,_,_,_,o,_,_,e,ex,_⟩:=I.hok p _ hk;exact⟨o,e,ex⟩
    ·obtain⟨_,_,_,_,o,_,_,e,ex,_⟩:=I.hok p _ hk;exact⟨o,e,ex⟩
   obtain⟨o,e,ex⟩:=z;refine⟨⟨o,e,ex.1⟩,λa e2=>?_⟩;cases e2;exact⟨o,e,ex.2.1⟩
  ·obtain⟨o,_,_,_,e,ex,_⟩:=I.hok p _ hk;refine⟨⟨o,e,ex.1⟩,λa e2=>?_⟩;cases e2;exact⟨o,e,ex.2.1⟩
  ·obtain⟨_,its,r,o,e,c,n,d,hd⟩:=(show jaD X.prog X.w H s.heap p (.tup xs)from I.hok p _ hk);refine⟨⟨o,e,c⟩,λa e2=>?_⟩;cases e2;exact⟨o,e,hd⟩
 |_=>exact YcB ty


def MtM  (X:Cx)(id:String)(r:V->List V->Hp->VK->Prop):Prop:=
 ∀(pins:List (Addr×Obj)) (s:Shared) (σ:St) (H:Hp) (x:V) (xs:List V) (v:Value) (us:List Value) (Q:VK),Inv X pins σ H s->RelV x v->Vals xs us->r x xs H Q->
  wpAny (model X.prog X.w) X.A (call (.builtin id) (v::us)) (EP X pins σ Q) X.xe s

def Vals.one  : ∀{x } {us },Vals [x] us->∃u,us=[u]/\RelV x u
 |_,_,.cons r .nil=>⟨_,rfl,r⟩
def Vals.two  : ∀{x y } {us },Vals [x,y] us->∃u v,us=[u,v]/\RelV x u/\RelV y v
 |_,_,_,.cons r (.cons q .nil)=>⟨_,_,rfl,r,q⟩
theorem Vals.rep    (h:Vals xs us):∀k ,Vals (Yab k xs).flatten (Yab k us).flatten
 |0=>.nil
 |k+1=>by
  rw[Yay,Yay,Ya4,Ya4];exact Vals.append h (Vals.rep h k)
theorem jcU  (its:List Value):∀k (acc:List Value),
  Yc1 (λx1 x2=>x1++x2) acc.toArray (Yab k its.toArray)=(acc++(Yab k its).flatten).toArray
 |0,acc=>by simp
 |k+1,acc=>by
  have e:acc.toArray++its.toArray=(acc++its).toArray:=by simp
  have e2:(acc++its)++(Yab k its).flatten=acc++(Yab (k+1) its).flatten:=by
   rw[Yay,Ya4,YeQ]
  rw[<- e2,<- jcU its k (acc++its),<- e,Yay,Ydt]

section
variable {X:Cx}{pins:List (Addr×Obj)}{σ:St}{H:Hp}{s:Shared}{l b:Addr}{xs ys zs:List V}

def Inv.lset  {its its':List Value}(I:Inv X pins σ H s)(hH:H l=some (.lst xs))
  (e:s.heap.get? l=some { cls:=.type "list",data:=.seq its.toArray n }) (hf:f its.toArray=its'.toArray) (hv:Vals ys its') (hz:ys.length<=Yae) :
  Inv X pins σ (upd H l (.lst ys)) { s with heap:=s.heap.update l (Yc9 f),toks:=t' }:=by
 have q:=PySem.IsL.update e f;rw[hf]at q;refine I.write (x:=l) (e:=l) (by rw[hH];exact trivial) (.inl rfl) (λb' u hb hu=>(Ycu s.heap (Yc9 f) (Ne.symm hb)).trans hu) ⟨_,q⟩ ?_
 exact⟨hz,its',_,hv,q⟩
def Inv.lnew    (I:Inv X pins σ H s)(hv:Vals ys its)(hz:ys.length<=Yae) :
  Inv X pins σ (upd H s.heap.objs.size (.lst ys)) { s with heap:=s.heap.push { cls:=.type "list",data:=.seq its.toArray },toks:=t' }:=
 I.laid (λ_ _ q=>Yaf _ q) (Yaa _) ⟨hz,its,0,hv,Yar _ rfl⟩
def Inv.fresh  (I:Inv X pins σ H s):H s.heap.objs.size=none:=I.hok.fresh (Yaa _)
def Inv.lstM  (I:Inv X pins σ H s)(hH:H l=some (.lst xs)):xs.length<=Yae/\∃(its:List Value) (n:Nat),Vals xs its/\xs.length=its.length/\s.heap.get? l=some { cls:=.type "list",data:=.seq its.toArray n }:=by
 obtain⟨z,its,n,r,e⟩:=I.hok l _ hH;exact⟨z,its,n,r,r.length,e⟩

def jhF   (h:n<=Yae):YbZ n=false:=by
 unfold YbZ;exact decide_eq_false (by lia)
end


def ji0  : V->List V->Hp->VK->Prop:=λx vs H Q=>∃l xs y,x=.ref l/\vs=[y]/\H l=some (.lst xs)/\xs.length<Yae/\Q .non (upd H l (.lst (xs++[y])))
def jeg  : MtM X "list.append" ji0:=by
 intro pins s σ H x vs v us Q I rx rv h;obtain⟨l,xs,y,rfl,rfl,hH,hz,q⟩:=h;cases rx;obtain⟨u,rfl,ru⟩:=rv.one;obtain⟨z,its,n,r,hl,e⟩:=I.lstM hH;refine Ybc F.slot_list_append ⟨_,e,rfl⟩ F.entry_list_append (F.args_list_append_2 _ _) (PySem.list_append l its.toArray n u (by rw[Yaj];lia)) ⟨e,?_⟩
 refine⟨.non,_,I.lset (its':=its++[u]) hH e (by simp) (r.append (.cons ru .nil)) ?_,rfl,q⟩
 rw[Yaq,Ycy]
 lia

def rCat  : R2:=λx y H Q=>∃l b xs zs,x=.ref l/\y=.ref b/\H l=some (.lst xs)/\H b=some (.lst zs)/\xs.length+zs.length<=Yae/\∀p,H p=none->Q (.ref p) (upd H p (.lst (xs++zs)))
def jli  : OpR X (YaY .Add) rCat:=by
 intro pins s σ H x y v u Q I rx ry h;obtain⟨l,b,xs,zs,rfl,rfl,hH,hB,hz,q⟩:=h;cases rx;cases ry;obtain⟨z,its,n,r,hl,e⟩:=I.lstM hH;obtain⟨z2,its2,n2,r2,hl2,e2⟩:=I.lstM hB;refine PySem.P.add_list e e2 ?_ (by rw[Yaj,Yaj];lia)
 have ea:its.toArray++its2.toArray=(its++its2).toArray:=by simp
 rw[ea];exact⟨.ref _,_,I.lnew (t':=s.toks) (r.append r2) (by rw[Yaq];lia),rfl,q _ I.fresh⟩
def rRep  : R2:=λx y H Q=>∃l k xs,x=.ref l/\y=.int k/\H l=some (.lst xs)/\-(2 ^ 63)<=k/\k<2 ^ 63/\xs.length*k.toNat<=Yae/\
 ∀p,H p=none->Q (.ref p) (upd H p (.lst (Yab k.toNat xs).flatten))
def jeO  {α:Type}(xs:List α) k:(Yab k xs).flatten.length=k*xs.length:=by
 induction k with
 |zero=>simp
 |succ k ih=>rw[Yay,Ya4,Yaq,ih,Nat.succ_mul,Nat.add_comm]
def jk9  : OpR X (YaY .Mult) rRep:=by
 intro pins s σ H x y v u Q I rx ry h;obtain⟨l,k,xs,rfl,rfl,hH,h1,h2,hz,q⟩:=h;cases rx;obtain⟨t,rfl⟩:=ry;obtain⟨z,its,n,r,hl,e⟩:=I.lstM hH;have hlen:its.toArray.size*k.toNat<=Yae:=by rw[Yaj,<- hl];exact hz
 have hcap:¬its.toArray.size*k.toNat>(2 ^ 63-1)/8:=by
  have:(Yae:Nat)<=(2 ^ 63-1)/8:=by decide
  lia
 have hfit:¬(!Builtin.List.listFitsIndex k)=true:=by
  rw[fitsIndex_both h1 h2];exact Yah
 have hlong:¬YbZ (its.toArray.size*k.toNat)=true:=by
  rw[jhF hlen];exact Yah
 have hnew:Yc1 (λx1 x2=>x1++x2) #[] (Yab (if its.toArray.isEmpty=true then 0 else k.toNat) its.toArray)=(Yab k.toNat its).flatten.toArray:=by
  have f0:∀m:Nat,Yc1 (λx1 x2=>x1++x2) #[] (Yab m its.toArray)=(Yab m its).flatten.toArray:=λm=>by
   have:=jcU its m [];rw[YaR]at this;exact this
  rw[f0];cases its with
  |nil=>simp
  |cons a r'=>rw[if_neg (by simp)]
 refine Yeb (T := "list") (U := "int") (by decide) ⟨_,e,rfl⟩ (λs'=>Ydw s' k t) noFill_list_mul F.fills_int_mul YcO repeat_list F.slot_int_index.lookup
  (Ybc YcO (Ydw s k t) F.entry_int_rmul (F.args_int_rmul_2 _ _) (int___rmul___int_list k t l its.toArray n)
   ⟨e,rfl,⟨_,e,rfl⟩,Ybc F.slot_list_mul ⟨_,e,rfl⟩ F.entry_list_mul (F.args_list_mul_2 _ _) (AutoListH.list___mul___list_int_3 l its.toArray n k t hfit hcap hlong) ⟨e,?_⟩⟩)
 rw[hnew];exact⟨.ref _,_,I.lnew (t':=s.toks) (r.rep k.toNat) (by rw[jeO,Ydd];exact hz),rfl,q _ I.fresh⟩






section
variable {κ:Type}[DecidableEq κ]
noncomputable def valV (kvs:List (κ×V))(k:κ):Option V:=(kvs.find? λkv=>decide (kv.1=k)).map (·.2)
noncomputable def putK (kvs:List (κ×V))(k:κ)(v:V):List (κ×V):=
 if (kvs.any λkv=>decide (kv.1=k))=true then kvs.map (λkv=>if kv.1=k then (kv.1,v) else kv) else kvs++[(k,v)]
def jcu    {k:κ}(e:p.1=k):valV (p::r) k=some p.2:=by simp[valV,Ybg,e]
def jcv    {k:κ}(e:¬p.1=k):valV (p::r) k=valV r k:=by simp[valV,Ybg,e]
theorem je8  (k:κ):∀kvs ,(kvs.any λkv=>decide (kv.1=k))=(valV kvs k).isSome
 |[]=>rfl
 |p::r=>by
  rw[Yba];by_cases e:p.1=k
  ·simp only[jcu e,decide_eq_true e,Bool.true_or,Option.isSome_some]
  ·rw[jcv e,decide_eq_false e,Yd0];exact je8 k r
def jbL  (kvs:List (κ×V)) k v:(putK kvs k v).length<=kvs.length+1:=by
 unfold putK;split
 ·rw[Yai];lia
 ·rw[Yaq,YaX,YbB];lia
def RelO.isSome_eq    (r:RelO o u):o.isSome=u.isSome:=by
 cases o with
 |none=>cases u with
  |none=>rfl
  |some _=>exact(show False from r).elim
 |some _=>cases u with
  |none=>exact(show False from r).elim
  |some _=>rfl
theorem RelO.getD      (r:RelO o u)(rd:RelV d d'):RelV (o.getD d) (u.getD d'):=by
 cases o with
 |none=>cases u with
  |none=>exact rd
  |some _=>exact(show False from r).elim
 |some _=>cases u with
  |none=>exact(show False from r).elim
  |some _=>exact r

def KV.val    (r:KV kvs vs)(k:κ):RelO (valV kvs k) (valueAt vs k):=by
 unfold KV at r
 induction r with
 |nil=>exact Ybu
 |@cons p q ps qs h t ih=>
  obtain⟨h1,h2⟩:=h;by_cases e:p.1=k
  ·have e':q.1=k:=h1.symm.trans e;have b:valueAt (q::qs) k=some q.2:=by simp[valueAt,Ybg,e']
   rw[jcu e,b];exact h2
  ·have e':¬q.1=k:=λz=>e (h1.trans z);have b:valueAt (q::qs) k=valueAt qs k:=by simp[valueAt,Ybg,e']
   rw[jcv e,b];exact ih
theorem KV.any    (r:KV kvs vs)(k:κ):(kvs.any λkv=>decide (kv.1=k))=vs.any λkv=>decide (kv.1=k):=by
 unfold KV at r
 induction r with
 |nil=>rfl
 |cons h t ih=>rw[Yba,Yba,ih,h.1]
def KV.repl    (r:KV kvs vs)(k:κ)(ry:RelV y u) :
  KV (kvs.map λkv=>if kv.1=k then (kv.1,y) else kv) (vs.map λkv=>if kv.1=k then (kv.1,u) else kv):=by
 unfold KV at r ⊢
 induction r with
 |nil=>exact .nil
 |@cons p q ps qs h t ih=>
  rw[YaI,YaI];refine .cons ?_ ih;obtain⟨h1,h2⟩:=h;by_cases e:p.1=k
  ·rw[if_pos e,if_pos (h1.symm.trans e)];exact⟨h1,ry⟩
  ·rw[if_neg e,if_neg (λz=>e (h1.trans z))];exact⟨h1,h2⟩
def KV.put    (r:KV kvs vs)(k:κ)(ry:RelV y u):KV (putK kvs k y) (stored vs k u):=by
 unfold putK stored;rw[r.any k];by_cases e:(vs.any λkv=>decide (kv.1=k))=true
 ·rw[if_pos e,if_pos e];exact r.repl k ry
 ·rw[if_neg e,if_neg e];exact Paired.snoc r ⟨rfl,ry⟩
def KV.length {kvs:List (κ×V)}{vs:List (κ×Value)}(r:KV kvs vs):kvs.length=vs.length:=YcR r
end

def jeR      (r:RelV (kV k) u):(jao P w).is k u=true:=by
 cases k with
 |inl i=>obtain⟨t,e⟩:=(show ∃t,u=Yd3 i t from r);subst e;exact jeN P w i t
 |inr x=>obtain⟨t,e⟩:=(show ∃t,u=Yd2 x t from r);subst e;exact jeM P w x t
theorem jej    : ∀{ks } {us },Vals (ks.map kV) us->ItemsAre (jao P w) ks us
 |[],_,r=>by rw[Yda]at r;cases r;exact .nil
 |k::ks,_,r=>by
  rw[YaI]at r;cases r with
  |cons h t=>exact .cons (jeR h) (jej t)

abbrev KT  (H:Hp):List (List Key×V)->List (List Key×Addr×Value)->Prop:=Paired λp q=>p.1=q.1/\H q.2.1=some (.tup (p.1.map kV))/\RelV p.2 q.2.2
def KT.val     (r:KT H kvs xs) k:RelO (valV kvs k) ((atKey xs k).map (·.2)):=by
 induction r with
 |nil=>exact Ybu
 |@cons p q ps qs h t ih=>
  obtain⟨h1,_,h2⟩:=h;by_cases e:p.1=k
  ·have e':q.1=k:=h1.symm.trans e;have b:atKey (q::qs) k=some q.2:=by simp[atKey,Ybg,e']
   rw[jcu e,b];exact h2
  ·have e':¬q.1=k:=λz=>e (h1.trans z);have b:atKey (q::qs) k=atKey qs k:=by simp[atKey,Ybg,e']
   rw[jcv e,b];exact ih
def KT.repl     (r:KT H kvs xs) k (ry:RelV y u) :
  KT H (kvs.map λkv=>if kv.1=k then (kv.1,y) else kv) (xs.map (putAt k u)):=by
 induction r with
 |nil=>exact .nil
 |@cons p q ps qs h t ih=>
  rw[YaI,YaI];refine .cons ?_ ih;obtain⟨h1,h2,h3⟩:=h;unfold putAt;by_cases e:p.1=k
  ·rw[if_pos e,if_pos (h1.symm.trans e)];exact⟨h1,h2,ry⟩
  ·rw[if_neg e,if_neg (λz=>e (h1.trans z))];exact⟨h1,h2,h3⟩
def KT.put     (r:KT H kvs xs)(k:List Key)(hb:H b=some (.tup (k.map kV)))(ry:RelV y u) :
  KT H (putK kvs k y) (storedH xs k b u):=by
 have e:(kvs.any λkv=>decide (kv.1=k))=(atKey xs k).isSome:=by
  rw[je8,(r.val k).isSome_eq,Yc0]
 unfold putK storedH;rw[e];by_cases q:(atKey xs k).isSome=true
 ·rw[if_pos q,if_pos q];exact r.repl k ry
 ·rw[if_neg q,if_neg q];exact Paired.snoc r ⟨rfl,hb,ry⟩
def KT.keeps     (r:KT H kvs xs)(ht:∀b ys,H b=some (.tup ys)->H' b=some (.tup ys)):KT H' kvs xs:=
 Paired.mapP r λ_ _ z=>⟨z.1,ht _ _ z.2.1,z.2.2⟩


def jkB   (ok:HOk P w H h)(e:Rd H a u):jaD P w H h a u:=e.ok ok
def jeW   (ok:HOk P w H h)(e:Rd H a (.dK kvs)):kvs.length<=Yae/\(a==YaT)=false/\∃vs,KV kvs vs/\h.DictOf (jao P w) a vs:=
 show jaD P w H h a (.dK kvs)from jkB ok e
def jlV   (ok:HOk P w H h)(e:H a=some (.dK kvs)):kvs.length<=Yae/\(a==YaT)=false/\∃vs,KV kvs vs/\h.DictOf (jao P w) a vs:=jeW ok (.inl e)
def jdo   (ok:HOk P w H h)(e:H a=some (.tup (ks.map kV))):(Ydf (jao P w)).is h ks a:=by
 obtain⟨_,its,r,o,h1,h2,n,h3,_⟩:=(show jaD P w H h a (.tup (ks.map kV))from ok a _ e);exact⟨o,its.toArray,n,h1,h2,h3,by simpa using jej r⟩
def jfO   (ok:HOk P w H h)(e:Rd H a (.dT kvs)):kvs.length<=Yae/\(a==YaT)=false/\
  ∃xs,KT H kvs xs/\h.DictOfH (Ydf (jao P w)) a xs:=by
 obtain⟨z,y,xs,r,o,es,ep,h1,h2,h3,h4,h5⟩:=(show jaD P w H h a (.dT kvs)from jkB ok e);refine⟨z,y,xs,r,o,es,ep,h1,h2,h3,h4,λx hx=>?_,h5⟩;have all:∀{l:List (List Key×V)} {m:List (List Key×Addr×Value)},KT H l m->∀x∈m,(Ydf (jao P w)).is h x.1 x.2.1:=by
  intro l m q
  induction q with
  |nil=>intro x hx;exact nomatch hx
  |@cons p q ps qs hq t ih=>
   intro x hx;rcases Yas.mp hx with e|hx
   ·subst e;exact jdo ok (by rw[<- hq.1];exact hq.2.1)
   ·exact ih x hx
 exact all r x hx
def jne   (ok:HOk P w H h)(e:H a=some (.dT kvs)):kvs.length<=Yae/\(a==YaT)=false/\
  ∃xs,KT H kvs xs/\h.DictOfH (Ydf (jao P w)) a xs:=jfO ok (.inl e)

def DGet  (H:Hp)(a:Addr)(y:V)(r:Option V):Prop:=
 (∃kvs k,Rd H a (.dK kvs)/\y=kV k/\r=valV kvs k)\/∃kvs k b,Rd H a (.dT kvs)/\y=.ref b/\H b=some (.tup (k.map kV))/\r=valV kvs k
def DPut  (H:Hp)(a:Addr)(y v:V)(H':Hp):Prop:=
 (∃kvs k,H a=some (.dK kvs)/\y=kV k/\kvs.length<Yae/\H'=upd H a (.dK (putK kvs k v)))\/
 ∃kvs k b,H a=some (.dT kvs)/\y=.ref b/\H b=some (.tup (k.map kV))/\kvs.length<Yae/\H'=upd H a (.dT (putK kvs k v))
def DGet.k     {k:Key}(e:H a=some (.dK kvs)):DGet H a (kV k) (valV kvs k):=.inl ⟨kvs,k,.inl e,rfl,rfl⟩
def DGet.t     {k:List Key}(e:H a=some (.dT kvs))(eb:H b=some (.tup (k.map kV))):DGet H a (.ref b) (valV kvs k):=.inr ⟨kvs,k,b,.inl e,rfl,eb,rfl⟩
def DPut.k     {k:Key}(e:H a=some (.dK kvs))(hl:kvs.length<Yae):DPut H a (kV k) v (upd H a (.dK (putK kvs k v))):=.inl ⟨kvs,k,e,rfl,hl,rfl⟩
def DPut.t     {k:List Key}(e:H a=some (.dT kvs))(eb:H b=some (.tup (k.map kV)))(hl:kvs.length<Yae) :
  DPut H a (.ref b) v (upd H a (.dT (putK kvs k v))):=.inr ⟨kvs,k,b,e,rfl,eb,hl,rfl⟩


def Inv.big  {σ: St}(I:Inv X pins σ H s):YaT<s.heap.objs.size:=by
 have h:YaC<s.heap.objs.size:=(I.mod.glob.keeps I.bk).lt;exact Yek (by decide) h

def jgZ  {σ: St}(hu:A.units+1<cLine)(I:Inv X pins σ H s)(g:DGet H a y (some v))(ry:RelV y u)(h:∀w' s',Inv X pins σ H s'->RelV v w'->Q w' s') :
  wpAny (model X.prog X.w) A (getItem (.ref a) u) Q E s:=by
 rcases g with⟨kvs,k,e,ey,l⟩|⟨kvs,k,b,e,ey,eb,l⟩
 ·subst ey;obtain⟨z,hd,vs,rel,dd⟩:=jeW I.hok e;obtain⟨w',hw,rw'⟩:=RelO.some_of (v:=v) (o:=valueAt vs k) (by rw[l];exact rel.val k)
  exact wpAny_getItem_of (jeR ry) dd.mapOf hw (h w' _ (I.tok _) rw')
 ·subst ey;cases(show u=Ybd b from ry);obtain⟨z,hd,xs,rel,dd⟩:=jfO I.hok e;obtain⟨w',hw,rw'⟩:=RelO.some_of (v:=v) (o:=(atKey xs k).map (·.2)) (by rw[l];exact rel.val k)
  obtain⟨p,hp,hp2⟩:=Option.map_eq_some_iff.mp hw;refine wpAny_getItem_heap (YbO hu) (jdo I.hok eb) dd hp ?_;rw[hp2];exact h w' _ (I.tok _) rw'
def d_in  {σ: St}(hu:A.units+1<cLine)(I:Inv X pins σ H s)(g:DGet H a y o)(ry:RelV y u)(h:∀s',Inv X pins σ H s'->Q (.bool o.isSome) s') :
  wpAny (model X.prog X.w) A (YaE .In u (.ref a)) Q E s:=by
 rcases g with⟨kvs,k,e,ey,l⟩|⟨kvs,k,b,e,ey,eb,l⟩
 ·subst ey;obtain⟨z,hd,vs,rel,dd⟩:=jeW I.hok e;refine wpAny_in_of (jeR ry) hd dd.mapOf ?_;rw[<- (rel.val k).isSome_eq,<- l];exact h _ (I.tok _)
 ·subst ey;cases(show u=Ybd b from ry);obtain⟨z,hd,xs,rel,dd⟩:=jfO I.hok e;refine wpAny_in_heap (YbO hu) (jdo I.hok eb) hd dd ?_;have q:=(rel.val k).isSome_eq;rw[Yc0]at q;rw[<- q,<- l];exact h _ (I.tok _)
def jjS  {σ: St}(hu:A.units+1<cLine)(I:Inv X pins σ H s)(g:DGet H a y o)(ry:RelV y u)(h:∀s',Inv X pins σ H s'->Q (.bool (!o.isSome)) s') :
  wpAny (model X.prog X.w) A (YaE .NotIn u (.ref a)) Q E s:=by
 rcases g with⟨kvs,k,e,ey,l⟩|⟨kvs,k,b,e,ey,eb,l⟩
 ·subst ey;obtain⟨z,hd,vs,rel,dd⟩:=jeW I.hok e;refine wpAny_notIn_of (jeR ry) hd dd.mapOf ?_;rw[<- (rel.val k).isSome_eq,<- l];exact h _ (I.tok _)
 ·subst ey;cases(show u=Ybd b from ry);obtain⟨z,hd,xs,rel,dd⟩:=jfO I.hok e;refine wpAny_notIn_heap (YbO hu) (jdo I.hok eb) hd dd ?_;have q:=(rel.val k).isSome_eq;rw[Yc0]at q;rw[<- q,<- l];exact h _ (I.tok _)
def jeY  {σ: St}(I:Inv X pins σ H s)(mu:Mut (H a))(hs:Ydb a s.heap h')(he:∃q,h'.get? a=some q)(new:jaD X.prog X.w (upd H a ob) h' a ob) :
  Inv X pins σ (upd H a ob) { s with heap:=h',toks:=t' }:=
 I.write (x:=a) (e:=a) mu (.inl rfl) (λb q hb z=>(hs.2 b hb).trans z) he new
def jiv        (z:kvs.length<=Yae)(hd:(a==YaT)=false)(rel:KV kvs vs)(dd:h'.DictOf (jao P w) a vs) :
  jaD P w H' h' a (.dK kvs):=⟨z,hd,vs,rel,dd⟩
def jgY  {σ: St}(hu:A.units+1<cLine)(I:Inv X pins σ H s)(g:DPut H a y v H')(ry:RelV y u)(rv:RelV v r)(h:∀s',Inv X pins σ H' s'->Q () s') :
  wpAny (model X.prog X.w) A (setItem (.ref a) u r) Q E s:=by
 rcases g with⟨kvs,k,e,ey,l,eH⟩|⟨kvs,k,b,e,ey,eb,l,eH⟩
 ·subst ey eH;obtain⟨z,hd,vs,rel,dd⟩:=jlV I.hok e;have hz:vs.length<=Yae:=by rw[<- rel.length];exact z
  have hl:(putK kvs k v).length<=Yae:=by have:=jbL kvs k v;lia
  refine wpAny_setItem_pairs (hsz:=hz) (jeR ry) dd λh' dd' hs=>h _ ?_;have he:∃q,h'.get? a=some q:=let ⟨q,_,_,hq,_⟩:=dd';⟨q,hq⟩
  exact jeY I (by rw[e];exact Ybu) hs he (jiv hl hd (rel.put k rv) dd')
 ·subst ey eH;cases(show u=Ybd b from ry);obtain⟨z,hd,xs,rel,dd⟩:=jne I.hok e;have hz:xs.length<=Yae:=by rw[<- YcR rel];exact z
  have hl:(putK kvs k v).length<=Yae:=by have:=jbL kvs k v;lia
  refine wpAny_setItem_heap (hsz:=hz) (YbO hu) (jdo I.hok eb) dd λh' dd' hs=>h _ ?_;obtain⟨q,es,ep,hq,h2,h3,h4,_,h5⟩:=dd';refine jeY I (by rw[e];exact Ybu) hs ⟨q,hq⟩ ⟨hl,hd,_,(rel.put k eb rv).keeps λc ys ec=>?_,q,es,ep,hq,h2,h3,h4,h5⟩
  rw[jae (jmW ec e (λz=>nomatch z))];exact ec


def jnf  {σ: St}(I:Inv X pins σ H s)(e:Rd H a (.dK kvs))(h:∀t s',Inv X pins σ H s'->Q (.int kvs.length t) s'):wpAny (model X.prog X.w) A (call (.builtin "len") [.ref a]) Q E s:=by
 obtain⟨z,hd,vs,rel,dd⟩:=jeW I.hok e;refine call_len_dict hd dd (by rw[<- rel.length];rw[Yc3]at z;lia) ?_
 rw[<- rel.length];exact h _ _ (I.tok _)

def jeX    {σ:St}(I:Inv X pins σ H s)(g:DGet H a y o):s.TypeIs (.ref a) "dict" := by
 rcases g with⟨kvs,k,e,_,_⟩|⟨kvs,k,b,e,_,_,_⟩
 ·obtain⟨_,_,vs,_,dd⟩:=jeW I.hok e;exact dd.typeIs
 ·obtain⟨_,_,xs,_,dd⟩:=jfO I.hok e;exact dd.typeIs


def jfq     (h:Heap)(hb:YaT<h.objs.size):jaD P w H (h.push { cls:=.type "dict",data:=.dict #[] }) h.objs.size (.dK []):=
 ⟨YaN _,beq_eq_false_iff_ne.mpr (Ne.symm (YaH hb)),[],.nil,Heap.DictOf.new h⟩
def jkh  : TE:=λ_ H Q=>∀p,H p=none->Q (.ref p) (upd H p (.dK []))

def jhz  : PE X (.Dict [] [] pos) jkh:=λpins s σ H Q I h=>
 wpAny_Dict_empty ⟨.ref s.heap.objs.size,_,I.laid (a:=s.heap.objs.size) (o:=.dK []) (t':=s.toks) (λ_ _ q=>Yaf _ q) (Yaa _) (jfq s.heap I.big),rfl,h _ (I.hok.fresh (Yaa _))⟩

def jfb  : List (TE×TE)->St->Hp->(List (V×V)->Hp->Prop)->Prop
 |[],_,H,Q=>Q [] H
 |(tk,tv)::r,σ,H,Q=>tk σ H λx H1=>tv σ H1 λy H2=>jfb r σ H2 λps H3=>Q ((x,y)::ps) H3
abbrev VV  : List (V×V)->List (Value×Value)->Prop:=Paired λp q=>RelV p.1 q.1/\RelV p.2 q.2
def PPs  (X:Cx)(pos:Pos)(keys:List (Option Expr))(values:List Expr)(trs:List (TE×TE)):Prop:=
 ∀(pins:List (Addr×Obj)) (s:Shared) (σ:St) (H:Hp) (Q:List (V×V)->Hp->Prop),Inv X pins σ H s->jfb trs σ H Q->
  wpAny (model X.prog X.w) X.A (evalPairs (pairTrees keys values X.env pos)) (λvs s'=>∃ps H',Inv X pins σ H' s'/\VV ps vs/\Q ps H') X.xe s
def ji5    : PPs X pos [] [] []:=λpins s σ H Q I h=>pairTrees_nil_walk ⟨[],H,I,.nil,h⟩
def jhu         (hk:PE X k tk)(hv:PE X v tv)(hr:PPs X pos ks vs trs) :
  PPs X pos (some k::ks) (v::vs) ((tk,tv)::trs):=λpins s σ H Q I h=>
 pairTrees_cons_walk (thn (hk pins s σ H _ I h) λu s1 ⟨x,H1,I1,rx,q1⟩=>thn (hv pins s1 σ H1 _ I1 q1) λw2 s2 ⟨y,H2,I2,ry,q2⟩=>
  thn (hr pins s2 σ H2 _ I2 q2) λws s3 ⟨ps,H3,I3,rel,q3⟩=>⟨(x,y)::ps,H3,I3,.cons ⟨rx,ry⟩ rel,q3⟩)

def jcQ  (kvs more:List (Key×V)):List (Key×V):=more.foldl (λacc kv=>putK acc kv.1 kv.2) kvs
def KV.merge  : ∀{more } {rs } {kvs } {vs },KV more rs->KV kvs vs->KV (jcQ kvs more) (merged vs rs):=by
 intro more rs kvs vs r;unfold KV at r
 induction r generalizing kvs vs with
 |nil=>intro q;exact q
 |@cons p q ps qs h t ih=>
  intro r0;have e:KV (putK kvs p.1 p.2) (stored vs q.1 q.2):=by
   have:=r0.put p.1 h.2;rw[<- h.1];exact this
  exact ih e
theorem jb0  : ∀(more kvs:List (Key×V)),(jcQ kvs more).length<=kvs.length+more.length
 |[],kvs=>by show kvs.length<=kvs.length+0;lia
 |p::r,kvs=>by
  have h1:=jb0 r (putK kvs p.1 p.2);have h2:=jbL kvs p.1 p.2;show(jcQ (putK kvs p.1 p.2) r).length<=_;rw[YaX];lia
theorem jdA    : ∀{kvs } {ws },VV (kvs.map λkv=>(kV kv.1,kv.2)) ws->∃rs,Carries (jao P w) ws rs/\KV kvs rs
 |[],_,r=>by rw[Yda]at r;cases r;exact⟨[],Ybu,.nil⟩
 |p::kvs,_,r=>by
  rw[YaI]at r;cases r with
  |@cons a b as bs h t=>
   obtain⟨rs,c,q⟩:=jdA (P:=P) (w:=w) t;obtain⟨b1,b2⟩:=b;exact⟨(p.1,b2)::rs,⟨jeR h.1,rfl,c⟩,.cons ⟨rfl,h.2⟩ q⟩
def jmt  (trs:List (TE×TE)):TE:=λσ H Q=>∀p,H p=none->jfb trs σ (upd H p (.dK [])) λps H2=>H2 p=some (.dK [])/\∃kvs:List (Key×V),ps=kvs.map (λkv=>(kV kv.1,kv.2))/\kvs.length<=15/\Q (.ref p) (upd H2 p (.dK (jcQ [] kvs)))
def jjf       (h:PPs X pos keys values trs)(hall:keys.all (·.isSome)=true)(hl:keys.length=values.length)(h0:keys≠[])
  (h15:keys.length<=15):PE X (.Dict keys values pos) (jmt trs):=by
 intro pins s σ H Q I q;have hn:=I.hok.fresh (Yaa s.heap.objs.size);have I1:=I.laid (a:=s.heap.objs.size) (o:=.dK []) (h':=s.heap.push { cls:=.type "dict",data:=.dict #[] }) (t':=s.toks) (λ_ _ q=>Yaf _ q) (Yaa _) (jfq s.heap I.big);refine wpAny_Dict_walk (knd:=jao X.prog X.w) hall hl h0 h15 (thn (h pins _ σ _ _ I1 (q _ hn)) λws s2 ⟨ps,H2,I2,rel,e,kvs,ep,lk,q2⟩=>?_);subst ep;obtain⟨rs,c,rk⟩:=jdA (P:=X.prog) (w:=X.w) rel;obtain⟨z,hd,vs0,r0,dd⟩:=jlV I2.hok e;cases r0;refine⟨rs,c,dd,λh' dd' hs=>⟨.ref s.heap.objs.size,_,?_,rfl,q2⟩⟩;have hz:(jcQ [] kvs).length<=Yae:=by
  have h1:=jb0 kvs [];rw[YbB]at h1;rw[Yc3];lia
 have he:∃q,h'.get? s.heap.objs.size=some q:=let ⟨q,_,_,hq,_⟩:=dd';⟨q,hq⟩
 exact jeY I2 (by rw[e];exact Ybu) hs he (jiv hz hd (rk.merge .nil) dd')


def jlX  {σ: St}(hu:A.units+1<cLine)(I:Inv X pins σ H s)(g:DGet H a y o)(ry:RelV y u)(rd:RelV d r)(h:∀w' s',Inv X pins σ H s'->RelV (o.getD d) w'->Q w' s') :
  wpAny (model X.prog X.w) A (call (.builtin "dict.get") [.ref a,u,r]) Q E s:=by
 rcases g with⟨kvs,k,e,ey,l⟩|⟨kvs,k,b,e,ey,eb,l⟩
 ·subst ey;obtain⟨z,hd,vs,rel,dd⟩:=jeW I.hok e;refine call_meetsIn YbI dd.typeIs YdJ (Ydz _ _ _) (meets_dict_get_default (jao X.prog X.w) a (jeR ry) hd r) ⟨_,dd.mapOf,h _ _ (I.tok _) ?_⟩;rw[l];exact(rel.val k).getD rd
 ·subst ey;cases(show u=Ybd b from ry);obtain⟨z,hd,xs,rel,dd⟩:=jfO I.hok e;refine call_meetsIn YbI dd.typeIs YdJ (Ydz _ _ _) (meetsH_dict_get_default (Ydf (jao X.prog X.w)) a b hd r) ⟨YbO hu,k,xs,jdo I.hok eb,dd,h _ _ (I.tok _) ?_⟩;rw[l];exact(rel.val k).getD rd






end L2

namespace Att
open PySem PySem.W PySem.Calls PyProof.Rows

def jcT    : ∀(ns:List Int) vs ,WellAll P h vs (ns.map WData.int)->IntsAre vs ns:=by
 intro ns
 induction ns with
 |nil=>
  intro vs w;rw[Yda]at w;cases w;exact .nil
 |cons n ns ih=>
  intro vs w;rw[YaI]at w;cases w with
  |cons a b=>
   cases a;exact .cons _ _ (ih _ b)

def jgb  {l:OpenLaw}(hn:l.most=some n) 
  (hpre:l.row.toRowW.claim.pre args=true) (hwl:WellAll P h vals args) :
  ∃a vs ns,vals=[Ybd a]/\args=[WData.list (ns.map WData.int)]/\h.get? a=some { cls:=.type "list",data:=.seq vs.toArray }/\IntsAre vs ns/\ns.length<=n:=by
 have hsh:WShape.hasAll [] args [.list .int]=true:=(pre_splitW hpre).1;have hc:l.pre.holds [] { args:=args }=true:=(pre_splitW hpre).2;obtain⟨d,r,rfl,h1,h2⟩:=hasAllW_cons hsh;obtain rfl:=hasAllW_nil h2;obtain⟨xs,rfl,h3⟩:=hasW_list h1;obtain⟨ns,rfl⟩:=items_int h3;have hlen:ns.length<=n:=by
  unfold OpenLaw.pre at hc;have h4:(WTm.not (.lt (.lit (.int (n:Int))) (.len (.arg 0)))).holds [] { args:=[.list (ns.map .int)] }=true:=by
   have h4:=(holds_andW hc).1;rw[hn]at h4;exact h4
  have h5:=condW_of h4 (w_not (w_lt w_lit (w_len_list (w_arg rfl))));rw[Yai]at h5;refine Nat.le_of_not_lt λq=>?_;have q':(n:Int)<((ns.length:Nat):Int):=by lia
  first
   |(rw[decide_eq_true q']at h5;exact absurd h5 (by decide))
   |(simp at h5;lia)
 cases hwl with
 |cons w1 w2=>
  cases w2;cases w1 with
  |list ho hall=>exact⟨_,_,ns,rfl,rfl,ho,jcT ns _ hall,hlen⟩

def jgf  (l:OpenLaw) args:l.row.toRowW.claim.post args (.bool true) args=true:=
 postW_of (r:=l.row.toRowW) (X:=(true==true))
  (show WShape.has [] (.bool true) .bool=true by first|rfl|decide|simp[WShape.has,WShape.arms,WShape.armsAll])
  (show(WTm.eq .res (.lit (.bool true))).value [] { args:=args,res:=some (.bool true),after:=args }=some (.bool (true==true))from w_eq_bool (w_res rfl) w_lit) rfl

def attach_call  {l:OpenLaw} 
  (hn:l.most=some n) (hdf:d.params.defaults=[])
  (call:∀(w:World) (s₀ s₁:Shared) mg mb fa (o:Obj) pm cd doc a (vs:List Value) (ns:List Int),
   Ground q loose [] XP w s₀ mg mb s₁.heap->YP w s₁.heap->
   s₁.heap.get? fa=some o->o.data=.func (docDef d.name d.params d.body d.scope pm cd doc)->s₁.heap.CodeRec cd d.name->mg d.name=some (.ref fa)->
   s₁.heap.get? a=some { cls:=.type "list",data:=.seq vs.toArray }->IntsAre vs ns->ns.length<=n->s₁.gens=#[]->
   codeAny (model l.prog w) callerA (.call (.ref fa) ⟨[.ref a],[]⟩) (λr s'=>r=.ok (.ret (.bool true))/\OldK s₁.heap s'.heap/\s'.os=s₁.os/\AllBare s'.gens) s₁) :
  WalkO q loose XP YP l.row.toRowW d [] (λf vs=>YeE f vs):=by
 intro w s₀ s₁ mg mb G Y fa o pm cd doc dV kV ho hd hcd hD hmg hg args vals as hpre hlay hrd hwl hlo;obtain rfl:dV=.none:=Dflts.none hD hdf;obtain rfl:kV=.none:=Dflts.noKw hD;obtain⟨a,vs,ns,rfl,rfl,hobj,hints,hlen⟩:=jgb hn hpre hwl;refine enter_call (Ycr (call w s₀ s₁ mg mb fa o pm cd doc a vs ns G Y ho (fd_plain hd) hcd hmg hobj hints hlen hg) λr s' hq=>?_);obtain⟨rfl,h2,h3,h4⟩:=hq;exact⟨.inl ⟨.bool true,.bool true,[],rfl,λ_=>rfl,.bool true,jgf l _,λ_=>⟨YdB,λ_ hm=>(nomatch hm)⟩⟩,h2,h3,h4⟩


end Att

namespace L2
open PySem PySem.Spec PyProof.Rows

theorem jdW  : ∀{vs } {ns },IntsAre vs ns->Vals (ns.map V.int) vs
 |_,_,.nil=>.nil
 |_,_,.cons n t h=>.cons ⟨t,rfl⟩ (jdW h)



def jbj  (s:Stmt):Arguments:=match s with
 |.FunctionDef _ a _ _ _ _ _ _ _ _=>a
 |_=>{ posonlyargs:=[],args:=[],vararg:=none,kwonlyargs:=[],kw_defaults:=[],kwarg:=none,defaults:=[] }
def jar  (s:Stmt):List Stmt:=match s with
 |.FunctionDef _ _ b _ _ _ _ _ _ _=>b
 |_=>[]
def jah  (s:Stmt):Scope:=match s with
 |.FunctionDef _ _ _ _ _ _ sc _ _ _=>sc
 |_=>{ kind:=.function,names:=[],isGenerator:=false,isCoroutine:=false }

abbrev E0  : XK:=λ_ _ _=>False
structure Fun (K:Yac)(x qual:Str)(st:Stmt)(f:Addr)(fd:YdY):Prop where
 ex:∃(oc:Value) (od:Option Addr) (kV doc pm:Value) (an:Option Addr) (cdv ct:Value) (osl:Array (Option Value)),
  fd=Ybp x qual (jbj st) (jar st) (jah st) .none kV doc pm an cdv ct/\K.lookup f=some ⟨oc,od,.func fd,osl⟩/\Yb3 K cdv qual=true
 kp:Yb2 K (.ref f)=true

def Fun.binds  {K: Yac}{st:Stmt}(F:Fun K x qual st f fd)
  (h:∀kV doc pm an cdv ct (us:List Value),us.length=ps.length->bindArgs (Ybp x qual (jbj st) (jar st) (jah st) .none kV doc pm an cdv ct) ⟨us,[]⟩=pure (ps.zip us)):Binds K fd ps []:=by
 obtain⟨oc,od,kV,doc,pm,an,cdv,ct,osl,rfl,lk,hcd⟩:=F.ex;exact .all (h kV doc pm an cdv ct)
def jim  {K: Yac}{st:Stmt}{kV doc pm cdv ct:Value}(l:K.lookup f=some ⟨oc,od,.func (Ybp x qual (jbj st) (jar st) (jah st) .none kV doc pm an cdv ct),osl⟩)
  (c:Yb3 K cdv qual=true) (k:Yb2 K (.ref f)=true):Fun K x qual st f (Ybp x qual (jbj st) (jar st) (jah st) .none kV doc pm an cdv ct):=⟨⟨oc,od,kV,doc,pm,an,cdv,ct,osl,rfl,l,c⟩,k⟩
def jm9    (hr:Room k A):A.units+1<cLine:=Ybq (YeH (by decide:1<=64) _) hr.units



def jg4  : jbl X (.builtin "len") (λxs H Q=>∃a kvs,xs=[V.ref a]/\H a=some (.dK kvs)/\Q (.int kvs.length) H):=by
 intro pins s σ H xs us Q I r h;obtain⟨a,kvs,rfl,ha,q⟩:=h;obtain⟨u,rfl,ru⟩:=jcr r;cases ru;exact jnf I (.inl ha) λt s' I'=>⟨.int kvs.length,H,I',⟨t,rfl⟩,q⟩
section
variable {κ:Type}[DecidableEq κ]
end
end L2

namespace L2
open PySem PySem.Spec PyProof.Rows


noncomputable def jeD  (env:Env)(ifs:List Expr):Sem Bool:=forIn ifs true λc r=>ite (r=true) (isTrue c env (eval c env) >>= λb=>pure (.yield b)) (pure (.yield r))
def jcL  (ip:Pos)(tg:Expr)(ifs:List Expr)(it:Value)(env:Env)(em:Sem Unit)(next:Code):Sem Fin:=
 standAt ip >>= λ_=>pyNext it >>= λr=>match r with
  |none=>pure (.done .next)
  |some v=>Ycc tg it v >>= λ_=>assign tg env v >>= λ_=>jeD env ifs >>= λok=>ite (ok=true) (em >>= λ_=>again next) (again next)
def jiJ  (M:Model)(A:Around)(tg:Expr)(ifs:List Expr)(it:Value)(env:Env)(em:Sem Unit)(fin:Shared->Prop)(less:Shared->Prop):Option Value->Shared->Prop
 |none,s=>fin s
 |some v,s=>wpAny M A (Ycc tg it v) (λ_ s=>wpAny M A (assign tg env v) (λ_ s=>wpAny M A (jeD env ifs) (λok s=>if ok=true then wpAny M A em (λ_ s=>less s) (λ_ _=>False) s else less s) (λ_ _=>False) s) (λ_ _=>False) s) (λ_ _=>False) s
def jep             (I : Nat -> Shared -> Prop)
    (hct : YdV (.ListComp elt gens scope pos) dp it acc env = jcL ip target ifs it env em (.compLoop (.ListComp elt gens scope pos) dp it acc env))
    (turn : ∀ k t, I k t -> wpAny (model prog w) A (pyNext it) (jiJ (model prog w) A target ifs it env em (R (.ok .next)) λt => ∃ m, m < k /\ I m t) (λ_ _ => False) t)
     n (h : I n s) : codeAny (model prog w) A (.compLoop (.ListComp elt gens scope pos) dp it acc env) R s := by
  have no : ∀ {Z : Value -> Shared -> Prop} (e : Value) (t : Shared), False -> Z e t := λ_ _ f => f.elim
  refine codeAny_loop rfl I (λk t hk => wpAny_noted (m := YdV (.ListComp elt gens scope pos) dp it acc env) (hct ▸ ?_)) n h
  refine Yad (Yde (Yad (Ya2 (turn k t hk) (λr t1 p => ?_) no)))
  match r, p with
  | none, p => exact Yak p
  | some v, p =>
    refine Yad (Ya2 p (λ_ t2 p => Yad (Ya2 p (λ_ t3 p => Yad (Ya2 p (λok t4 p => ?_) no)) no)) no)
    match ok, p with
    | false, p => exact Yak ⟨rfl, p⟩
    | true, p => exact Yad (Ya2 p (λ_ t5 p => Yak ⟨rfl, p⟩) no)

theorem jbD  (env:Env):∀(names:List (Str×Ybe)) acc ,(∀y∈names,y.2=.free->∃c,env.cells.lookup y.1=some c)->
  ∃cl ,(forIn names acc (λ(y:Str×Ybe) cs=>(if (y.2==YaB)=true then (do let c <- cellOf env y.1;pure (ForInStep.yield ((y.1,c)::cs))) else pure (ForInStep.yield cs):Sem (ForInStep (List (Str×Addr))))):Sem (List (Str×Addr)))=pure cl/\
   (∀x c,(x,c)∈cl->(x,c)∈acc\/(env.cells.lookup x=some c/\(x,YaB)∈names))/\(∀p∈acc,p∈cl)/\(∀y∈names,y.2=.free->∃c,(y.1,c)∈cl)
 |[],acc,_=>⟨acc,rfl,λ_ _ h=>.inl h,λ_ h=>h,λ_ h=>nomatch h⟩
 |(n,k)::r,acc,h=>by
  by_cases hk:k=.free
  ·subst hk;obtain⟨c,hc⟩:=h (n,.free) Yaw rfl;obtain⟨cl,e,h1,h2,h3⟩:=jbD env r ((n,c)::acc) λy hy=>h y (Yal _ hy);refine⟨cl,?_,λx d hd=>?_,λp hp=>h2 p (Yal _ hp),λy hy hf=>?_⟩
   ·rw[List.forIn_cons];have:(cellOf env n:Sem Addr)=pure c:=by unfold cellOf;rw[hc]
    simp_all
   ·grind
   grind
  ·obtain⟨cl,e,h1,h2,h3⟩:=jbD env r acc λy hy=>h y (Yal _ hy);have hb:(k==YaB)=false:=by simpa using hk
   refine⟨cl,?_,λx d hd=>?_,h2,λy hy hf=>?_⟩
   ·rw[List.forIn_cons];simp only[hb,YbD,if_false,pure_bind];exact e
   ·rcases h1 x d hd with z|⟨z,z'⟩
    ·exact .inl z
    ·exact .inr ⟨z,Yal _ z'⟩
   ·rcases Yas.mp hy with z|z
    ·subst z;exact absurd hf hk
    ·exact h3 y z hf
theorem jbZ  {β:Type}:∀{l:List (Str×β)} {x } {c },(x,c)∈l->∃d,l.lookup x=some d/\(x,d)∈l
 |(n,k)::r,x,c,h=>by
  cases hx:x==n with
  |true=>
   simp_all
  |false=>
   rcases Yas.mp h with z|z
   ·lia
   ·obtain⟨d,e,m⟩:=jbZ z
    grind
def jdz    (h:∀y∈scope.names,y.2=.free->∃c,env.cells.lookup y.1=some c) :
  ∃cl ,closureFor scope env=pure cl/\(∀x c,cl.lookup x=some c->env.cells.lookup x=some c)/\(∀y∈scope.names,y.2=.free->∃c,cl.lookup y.1=some c):=by
 obtain⟨cl,e,h1,_,h3⟩:=jbD env scope.names [] h;refine⟨cl,?_,λx c hx=>?_,λy hy hf=>?_⟩
 ·unfold closureFor
  simp_all
 ·rcases h1 x c (Yav hx)with z|⟨z,_⟩
  ·simp_all
  lia
 ·obtain⟨c,hc⟩:=h3 y hy hf;obtain⟨d,e,_⟩:=jbZ hc
  simp_all

noncomputable def jam  (X:Cx)(N:List Str)(scope:Scope)(cl:List (Str×Addr))(C:Addr)(s₀:Shared)(H₀:Hp)(fp:List Addr):Cx where
 prog:=X.prog
 w:=X.w
 K:=X.K
 mg:=X.mg
 base:=X.base
 A:=X.A
 N:=N
 s₀:=s₀
 H₀:=H₀
 env:=compEnvC scope cl C X.env
 outer:=X.stack
 stack:=X.stack
 ex:=fp
 fn:=λx=>scope.names.lookup x==some .cell
 calm:=X.calm
 pn:=[]
 xe:=λ_ _=>False

noncomputable def cOk  (oN:List Str)(on:List (Str×Ybe))(N:List Str)(pick:List (Option Nat))(scope:Scope):Bool:=
 decide (scope.kind=.function)&&scope.names.all (λy=>y.2 != .cell||scope.names.lookup y.1==some .cell)&&scope.names.all (λy=>y.2 != .local||scope.names.lookup y.1==some .local)
  && scope.names.all (λy=>y.2 != .free||(scope.names.lookup y.1==some .free&&(on.lookup y.1==some .cell||on.lookup y.1==some .free)))
  && pick.length==N.length&&(N.zip pick).all (λp=>match p.2 with|none=>true|some j=>oN[j]?==some p.1&&scope.names.lookup p.1==some .free)

structure CScope (X:Cx)(N:List Str)(pick:List (Option Nat))(scope:Scope):Prop where
 kind:scope.kind=.function
 cells:∀y∈scope.names,y.2=.cell->scope.names.lookup y.1=some .cell
 names:∀y∈scope.names,y.2=.local->scope.names.lookup y.1=some .local
 fre:∀y∈scope.names,y.2=.free->scope.names.lookup y.1=some .free/\(X.env.kindOf y.1=some .cell\/X.env.kindOf y.1=some .free)
 len:pick.length=N.length
 caps:∀(i j:Nat) (x:Str),N[i]?=some x->pick[i]?=some (some j)->X.N[j]?=some x/\scope.names.lookup x=some .free
theorem jcn  (f:Str->Ybe->Ybe):∀(names:List (Str×Ybe)) x ,(names.map λy=>(y.1,f y.1 y.2)).lookup x=(names.lookup x).map (f x)
 |[],_=>rfl
 |(n,k)::r,x=>by
  rw[YaI,Ybk,Ybk,jcn f r x];by_cases e:x=n
  ·subst e;rw[beq_self_eq_true];rfl
  ·rw[beq_false_of_ne e]
noncomputable def jig  (env:Env)(n:Str)(k:Ybe):Ybe:=if (k==YaB&&env.scope.kind == .function&&env.kindOf n==some .cell) then .cell else k
def jbR (env:Env)(names:List (Str×Ybe))(x:Str) :
  (names.map λ(n,k)=>if (k==YaB&&env.scope.kind == .function&&env.kindOf n==some .cell) then (n,Yax) else (n,k)).lookup x=(names.lookup x).map (jig env x):=by
 rw[<- jcn (jig env)];congr 2;funext y;show ite _ _ _=(y.1,ite _ _ _)
 lia
def jaP {env:Env}{names:List (Str×Ybe)}{x:Str}(h:names.lookup x=some .free) :
  (names.map λ(n,k)=>if (k==YaB&&env.scope.kind == .function&&env.kindOf n==some .cell) then (n,Yax) else (n,k)).lookup x=some .cell\/
  (names.map λ(n,k)=>if (k==YaB&&env.scope.kind == .function&&env.kindOf n==some .cell) then (n,Yax) else (n,k)).lookup x=some .free:=by
 rw[jbR,h];show some (ite _ _ _)=_\/some (ite _ _ _)=_
 lia
def jav {env:Env}{q:Ybe}(hq:q≠.free){names:List (Str×Ybe)}{x:Str}(h:names.lookup x=some q) :
  (names.map λ(n,k)=>if (k==YaB&&env.scope.kind == .function&&env.kindOf n==some .cell) then (n,Yax) else (n,k)).lookup x=some q:=by
 rw[jbR,h];show some (ite _ _ _)=_
 lia
theorem jbv {env:Env}:∀{names:List (Str×Ybe)} {x:Str},
  ((names.map λ(n,k)=>if (k==YaB&&env.scope.kind == .function&&env.kindOf n==some .cell) then (n,Yax) else (n,k)).lookup x=some .cell\/
  (names.map λ(n,k)=>if (k==YaB&&env.scope.kind == .function&&env.kindOf n==some .cell) then (n,Yax) else (n,k)).lookup x=some .free)->(x,YaB)∈names\/(x,Yax)∈names
 |[],_,h=>by simp at h
 |(n,k)::r,x,h=>by
  have ih:_->_:=@jbv env r x;have h':Yet x ((if (k==YaB&&env.scope.kind == .function&&env.kindOf n==some .cell)=true then (n,Yax) else (n,k))::r.map λ(n,k)=>if (k==YaB&&env.scope.kind == .function&&env.kindOf n==some .cell) then (n,Yax) else (n,k))=some .cell\/Yet x ((if (k==YaB&&env.scope.kind == .function&&env.kindOf n==some .cell)=true then (n,Yax) else (n,k))::r.map λ(n,k)=>if (k==YaB&&env.scope.kind == .function&&env.kindOf n==some .cell) then (n,Yax) else (n,k))=some .free:=h
  by_cases hk:k=.free
  ·cases hx:x==n with
   |true=>simp_all
   |false=>
    refine(ih ?_).imp (Yal _) (Yal _);by_cases hcc:(k==YaB&&env.scope.kind == .function&&env.kindOf n==some .cell)=true
    ·rw[if_pos hcc]at h';simpa only[Ybk,hx]using h'
    ·rw[if_neg hcc]at h';simpa only[Ybk,hx]using h'
  ·have hb:(k==YaB)=false:=by simpa using hk
   rw[if_neg (by simp[hb])]at h'
   cases hx:x==n with
   |true=>
    simp only[Ybk,hx]at h';rcases h' with z|z
    ·rw[eq_of_beq hx,Yau z];exact .inr Yaw
    ·exact absurd (Yau z) hk
   |false=>exact(ih (by simpa only[Ybk,hx]using h')).imp (Yal _) (Yal _)

theorem jaC  : ∀names n acc ,Ya1 n names acc=Ya1 n names []++acc
 |[],_,_=>rfl
 |(x,k)::r,n,acc=>by
  unfold Ya1;split
  ·rw[jaC r (n+1) ((x,n)::acc),jaC r (n+1) [(x,n)],YeQ];rfl
  ·exact jaC r n acc
theorem jaK  : ∀names n {x } {c },(x,c)∈Ya1 n names []->(x,Yax)∈names
 |[],_,_,_,h=>nomatch h
 |(y,k)::r,n,x,c,h=>by
  unfold Ya1 at h;split at h
  ·rename_i hk;rw[jaC]at h;rcases Yds.mp h with h|h
   ·exact Yal _ (jaK r _ h)
   simp_all
  ·exact Yal _ (jaK r _ h)
def jfK  {β:Type}:∀(l m:List (Str×β)) x ,(l++m).lookup x=(l.lookup x).or (m.lookup x)
 |[],_,_=>by simp
 |(n,k)::r,m,x=>by
  grind
structure BCells (scope:Scope)(cl cs:List (Str×Addr))(lo:Nat)(h:Heap):Prop where
 lk:∀x c,cs.lookup x=some c->((x,Yax)∈scope.names/\lo<c/\h.IsCell c none)\/((x,Yax)∉scope.names/\cl.lookup x=some c)
 own:∀x,scope.names.lookup x=some .cell->∃c,cs.lookup x=some c/\lo<c
 old:∀x c,(x,Yax)∉scope.names->cl.lookup x=some c->cs.lookup x=some c
 inj:∀x y c,cs.lookup x=some c->cs.lookup y=some c->lo<c->x=y
def jg7   {cl:List (Str×Addr)}{lo:Nat}(hl:h.objs.size=lo+1)(S:∀y∈scope.names,y.2=.cell->scope.names.lookup y.1=some .cell)(hcl:∀x c,cl.lookup x=some c->c<=lo):BCells scope cl (Ya1 (lo+1) scope.names cl) lo (Yd1 h scope.names):=by
 have ok:=cellsFrom_ok scope.names h (lo+1) [] ⟨λ_ _ hm=>(nomatch hm),YdB⟩ (by lia)
 rw[hl]at ok;have look:∀x,(Ya1 (lo+1) scope.names cl).lookup x=((Ya1 (lo+1) scope.names []).lookup x).or (cl.lookup x):=λx=>by rw[jaC,jfK]
 have own:∀x,(x,Yax)∈scope.names->∃c,(Ya1 (lo+1) scope.names []).lookup x=some c:=λx hx=>jdR (S _ hx rfl);refine⟨λx c e=>?_,λx hx=>?_,λx c hx hc=>?_,λx y c e1 e2 hc=>?_⟩
 ·rw[look]at e;by_cases hx:(x,Yax)∈scope.names
  ·obtain⟨c',e'⟩:=own x hx;rw[e',Option.some_or]at e;have e:c'=c:=Yau e;subst e;obtain⟨z1,z2⟩:=ok.empty x c' (Yav e')
   lia
  ·cases q:(Ya1 (lo+1) scope.names []).lookup x with
   |some c'=>exact absurd (jaK _ _ (Yav q)) hx
   |none=>simp_all
 ·obtain⟨c,e⟩:=own x (Yav hx);exact⟨c,by simp_all,(ok.empty x c (Yav e)).2⟩
 ·rw[look];cases q:(Ya1 (lo+1) scope.names []).lookup x with
  |some c'=>exact absurd (jaK _ _ (Yav q)) hx
  |none=>simp_all
 ·rw[look]at e1 e2;have new:∀x,((Ya1 (lo+1) scope.names []).lookup x).or (cl.lookup x)=some c->(Ya1 (lo+1) scope.names []).lookup x=some c:=λx e=>by
   cases q:(Ya1 (lo+1) scope.names []).lookup x with
   |some c'=>simp_all
   |none=>
    grind
  exact name_of_addr ok.apart (Yav (new x e1)) (Yav (new y e2))
def jbO           
  (hQ:Q (newEnv scope s.heap.objs.size globals (Ya1 (s.heap.objs.size+1) scope.names cl) qual none .none (some env) YcZ) { s with heap:=Yd1 (s.heap.push { cls:=.type "dict",data:=.dict #[] }) scope.names }) :
  wpAny M A (Yed scope globals cl [] qual none .none (some env)) Q E s:=by
 have sz:(s.heap.push { cls:=.type "dict",data:=.dict #[] }).objs.size=s.heap.objs.size+1:=YdM ..;unfold Yed;rw[if_pos (by rfl)]
 refine Yad (wpAny_alloc (Yad (wpAny_layCells _ (λx k c=>by lia) _ _ _ _ ?_)))
 rw[show Heap.objs (Shared.heap _)=(s.heap.push { cls:=.type "dict",data:=.dict #[] }).objs from rfl,sz];exact Yad (Yak (Yak hQ))


def glc   (h:scope.names.lookup x=some .globalImplicit):Gl (jam X N scope cl C s₀ H₀ fp) x:=jav (by decide) h

def PIfs  (X:Cx)(ifs:List Expr)(t:TT):Prop:=
 ∀(pins:List (Addr×Obj)) (s:Shared) (σ:St) (H:Hp) (Q:Bool->Hp->Prop),Inv X pins σ H s->t σ H Q->
  wpAny (model X.prog X.w) X.A (jeD X.env ifs) (TP X pins σ Q) X.xe s
def jmq  : TT:=λ_ H Q=>Q true H
def ji9   : PIfs X [] jmq:=λ_ _ _ H _ I h=>wpAny_tests_nil ⟨H,I,h⟩
def ji8     (h:PT X c t):PIfs X [c] t:=λpins s σ H Q I q=>wpAny_tests_one (h pins s σ H Q I q)

abbrev TEm:=St->List V->Hp->(St->List V->Hp->Prop)->Prop
def jha  (J:It)(g:TG)(tt:TT)(tem:TEm)(QQ:St->List V->Hp->Prop)(τ0:St)(ys0:List V)(H1:Hp):Prop:=∃W:Nat->Nat->St->List V->Hp->Prop,
 (∃m,W 0 m τ0 ys0 H1)/\∀i m τ ys H,W i m τ ys H->
  (J.stop i H/\QQ τ ys H)\/(J.go i H/\∀x H',J.yld i H x H'->g x τ H' λτ2 H2=>tt τ2 H2 λb H3=>if b=true then tem τ2 ys H3 λτ3 ys' H4=>∃m',m'<m/\W (i+1) m' τ3 ys' H4
   else ∃m',m'<m/\W (i+1) m' τ2 ys H3)
def emA  (te:TE)(D:Addr):TEm:=λτ ys H Q=>te τ H λv H4=>H4 D=some (.lst ys)/\ys.length<Yae/\Q τ (ys++[v]) (upd H4 D (.lst (ys++[v])))
def LcGG  (J:It)(g:TG)(tt:TT)(tem:Addr->TEm)(D:Addr)(τ0:St)(Q:VK)(H1:Hp):Prop:=jha J g tt (tem D) (λ_ _ H=>Q (.ref D) H) τ0 [] (upd H1 D (.lst []))
def PEm  (Y:Cx)(em:Sem Unit)(tem:TEm):Prop:=∀(pins:List (Addr×Obj)) (s:Shared) (τ:St) (ys:List V) (H:Hp) (Q:St->List V->Hp->Prop),Inv Y pins τ H s->tem τ ys H Q->
 wpAny (model Y.prog Y.w) Y.A em (λ_ s'=>∃τ' ys' H',Inv Y pins τ' H' s'/\Q τ' ys' H') Y.xe s
def tLcG  (pick:List (Option Nat))(wi:TI)(g:TG)(tt:TT)(tem:Addr->TEm):TE:=λσ H Q=>wi σ H λJ H1=>∀D,H1 D=none->LcGG J g tt tem D (pick.map λo=>o.bind λj=>(σ[j]?).join) Q H1
abbrev tLc  (pick:List (Option Nat))(wi:TI)(g:TG)(tt:TT)(te:TE):TE:=tLcG pick wi g tt (emA te)
section
variable {X:Cx}{N:List Str}{pick:List (Option Nat)}{scope:Scope}{pins:List (Addr×Obj)}{σ:St}{s s3:Shared}{H H3:Hp}

def jfP  {cl cs:List (Str×Addr)}{fp:List Addr}(S:CScope X N pick scope)(I3:Inv X pins σ H3 s3)(hf:∀b∈fp,FpOk X pins H3 b)(hlt:∀b∈fp,b<s3.heap.objs.size)
  (c1:∀x c,cl.lookup x=some c->X.env.cells.lookup x=some c) (c2:∀y∈scope.names,y.2=.free->∃c,cl.lookup y.1=some c) (B:BCells scope cl cs s3.heap.objs.size h₁)
  (hns:h₁.Ns s3.heap.objs.size mB) (hk:∀b o,s3.heap.get? b=some o->h₁.get? b=some o) :
  Inv (jam X N scope cs s3.heap.objs.size s3 H3 fp) [] (pick.map λo=>o.bind λj=>(σ[j]?).join) H3 { s3 with heap:=h₁,toks:=tk }:=by
 have fsub:∀b∈frs X.stack,b∈X.env.locals::X.fs:=I3.stkSub;have oc:∀x c,cs.lookup x=some c->X.env.cells.lookup x=some c\/s3.heap.objs.size<c:=λx c e=>by
  rcases B.lk x c e with⟨_,z,_⟩|⟨_,z⟩
  ·lia
  simp_all
 have has:∀x,((x,YaB)∈scope.names\/(x,Yax)∈scope.names)->∃c,cs.lookup x=some c:=λx hx=>by
  by_cases hc:(x,Yax)∈scope.names
  ·obtain⟨c,e,_⟩:=B.own x (S.cells _ hc rfl)
   simp_all
  ·rcases hx with hx|hx
   ·obtain⟨c,e⟩:=c2 _ hx rfl;exact⟨c,B.old x c hc e⟩
   lia
 refine⟨⟨I3.ok.mod,S.kind,I3.ok.glob,I3.ok.blt,Yaa _,λx y c e1 e2=>?_,λx hx=>has x (jbv hx),λx c z e=>?_,I3.ok.hd,I3.ok.frames,.inl rfl,λb hb=>⟨YaH (hlt b hb),λx c e=>?_⟩,
   I3.bs,Yag I3.ok.bsz I3.sz,λb o e hb=>?_,λb hb hm=>?_,I3.stack,I3.stkFree⟩,
  rfl,I3.bare,Un.kept hk,⟨_,hns,λi x v e1 e2 e3=>?_⟩,λx c e=>?_,I3.hok.fresh (Yaa _),λx c e=>?_,λp hp=>absurd (show p∈([]:List (Addr×Obj))from hp) (by simp),I3.hok.kept hk,?_⟩
 ·by_cases hc:s3.heap.objs.size<c
  ·exact B.inj x y c e1 e2 hc
  ·exact I3.ok.inj x y c ((oc x c e1).resolve_right hc) ((oc y c e2).resolve_right hc)
 ·have z':scope.names.lookup x=some .cell:=eq_of_beq z;rcases B.lk x c e with⟨_,y,_⟩|⟨y,_⟩
  ·exact Yb8 y
  ·exact absurd (Yav z') y
 ·rcases oc x c e with z|z
  ·exact(hf b hb).2.2.2.2.1 x c z
  ·intro q;rw[q]at z;exact absurd (Yek z (hlt b hb)) (Ybb _)
 ·rcases(hf b hb).2.2.2.1 with z|z
  ·exact I3.ok.noex b o e z
  ·exact absurd (Yam (Yan e) (Yag I3.ok.bsz z)) (Ybb _)
 ·rcases Yas.mp (fsub b hm)with z|z
  ·exact(hf b hb).2.1 z
  ·exact(hf b hb).2.2.1 z
 ·-- a captured name
  have e2':∃j,pick[i]?=some (some j)/\σ[j]?=some (some v):=by
   rw[YaV]at e2;cases q:pick[i]? with
   |none=>simp_all
   |some o=>
    rw[q]at e2;cases o with
    |none=>simp at e2
    |some j=>
     grind
  obtain⟨j,ej,ev⟩:=e2';obtain⟨hN,hfr⟩:=S.caps i j x e1 ej;have hmem:(x,YaB)∈scope.names:=Yav hfr;have hnc:(x,Yax)∉scope.names:=λz=>by
   have:=S.cells _ z rfl
   lia
  obtain⟨_,hkind⟩:=S.fre _ hmem rfl;obtain⟨m,hn,hl⟩:=I3.loc;obtain⟨u,r,l⟩:=hl j x v hN ev (hkind.elim (λz=>.inr (.inl z)) λz=>.inr (.inr z));refine⟨u,r,.inr ⟨?_,?_⟩⟩
  ·exact jaP (env:=X.env) hfr
  ·obtain⟨c,hc⟩:=c2 _ hmem rfl;have hc':=c1 _ _ hc;rcases l with⟨z,_⟩|⟨_,c',e,o,ho,hd⟩
   ·lia
   ·have:c'=c:=by lia
    subst this;exact⟨c',B.old x c' hnc hc,o,hk _ _ ho,hd⟩
 ·rcases B.lk x c e with⟨_,_,z⟩|⟨_,z⟩
  ·grind
  ·obtain⟨v,o,ho,hd⟩:=I3.cell x c (c1 x c z);exact⟨v,o,hk _ _ ho,hd⟩
 ·rcases oc x c e with z|z
  ·exact I3.freeC x c z
  ·exact I3.hok.fresh (Yb8 z)
 ·rw[Yai];exact S.len

def jhR     {τ:St}(I3:Inv X pins σ H3 s3)(hf:∀b∈fp,FpOk X pins H3 b)(J:Inv (jam X N scope cl C s3 H3 fp) pins' τ H' s') :
  Inv X pins σ H' s':=I3.call' J.os J.base J.hok J.bare λb hb=>⟨(hf b hb).2.2.2.1,(hf b hb).2.1,(hf b hb).2.2.2.2.1,(hf b hb).2.2.2.2.2⟩

def jjC                  {τ0:St} 
  (yc:Y.calm=true) (yxe:Y.xe=λ_ _=>False)
  (hct:YdV (.ListComp elt gens scope pos) dp (.ref it) acc Y.env=jcL ip tg ifs (.ref it) Y.env em (.compLoop (.ListComp elt gens scope pos) dp (.ref it) acc Y.env))
  (yg:PG Y tg g) (yi:PIfs Y ifs tt) (ym:PEm Y em tem) (J0:Inv Y pins τ0 H s) (T:Turn Y.prog Y.w Y.K tg J fp it tn) (t0:tn 0 s.heap) (f0:∀b∈fp,FpOk Y pins H b) (hW:jha J g tt tem QQ τ0 ys0 H) :
  codeAny (model Y.prog Y.w) Y.A (.compLoop (.ListComp elt gens scope pos) dp (.ref it) acc Y.env) (λr s'=>r=.ok .next/\∃τ' ys' H',Inv Y pins τ' H' s'/\QQ τ' ys' H') s:=by
 obtain⟨W,⟨m0,w0⟩,turn⟩:=hW;have stat:∀{H':Hp},(∀b∈fp,H' b=none)->∀b∈fp,FpOk Y pins H' b:=λhn b hb=>⟨hn b hb,(f0 b hb).2⟩;refine jep (λn s'=>∃i τ ys H',Inv Y pins τ H' s'/\tn i s'.heap/\(∀b∈fp,H' b=none)/\W i n τ ys H') hct ?_ m0 ⟨0,_,ys0,_,J0,t0,λb hb=>(f0 b hb).1,w0⟩;rintro n s4 ⟨i,τ,ys,H4,J4,t4,fr4,w4⟩;rcases turn i n τ ys H4 w4 with⟨stop,q⟩|⟨go,step⟩
 ·refine Ya2 (T.done Y rfl rfl rfl yc i pins s4 τ H4 (λ_ _=>False) J4 (stat fr4) t4 stop) (λr s5 ⟨hr,J5⟩=>?_) λ_ _ f=>f;subst hr;exact⟨rfl,τ,ys,H4,J5,q⟩
 ·refine Ya2 (T.item Y rfl rfl rfl yc i pins s4 τ H4 (λ_ _=>False) J4 (stat fr4) t4 go) (λr s5 ⟨u,hr,h5⟩=>?_) λ_ _ f=>f;subst hr;refine Ya2 h5 (λ_ s6 ⟨x,H6,J6,r6,y6,t6,fr6⟩=>?_) λ_ _ f=>f;have J6':=J6.pinned (stat fr6) (T.obj _ _ t6);have ag:=yg _ s6 τ H6 x u _ J6' r6 (step x H6 y6);rw[yxe]at ag;refine Ya2 ag (λ_ s7 ⟨τ7,H7,J7,q7⟩=>?_) λ_ _ f=>f;have ai:=yi _ s7 τ7 H7 _ J7 q7;rw[yxe]at ai;refine Ya2 ai (λok s8 ⟨H8,J8,q8⟩=>?_) λ_ _ f=>f;have again:∀{τ9:St} {H9:Hp} {s9:Shared} {zs:List V},Inv Y (pins++jd6 fp s6.heap) τ9 H9 s9->(∃m',m'<n/\W (i+1) m' τ9 zs H9)->∃m,m<n/\∃i τ ys H',Inv Y pins τ H' s9/\tn i s9.heap/\(∀b∈fp,H' b=none)/\W i m τ ys H':=λ{τ9 H9 s9 zs} J9 ⟨m',hm,w9⟩=>by
   refine⟨m',hm,i+1,τ9,zs,H9,J9.unpinned,T.keep _ _ _ t6 λb hb o e=>(J9.pin (b,o) (YaG _ (YaG _ (jbF hb e)))).1,λb hb=>?_,w9⟩;obtain⟨o,e,d⟩:=T.obj _ _ t6 b hb;exact(J9.pin (b,o) (YaG _ (YaG _ (jbF hb e)))).2.1
  cases ok with
  |false=>exact again J8 q8
  |true=>
   have am:=ym _ s8 τ7 ys H8 _ J8 q8;rw[yxe]at am;exact Ya2 am (λ_ s9 ⟨τ9,zs,H9,J9,q9⟩=>again J9 q9) λ_ _ f=>f
def jiu      (yxe:Y.xe=λ_ _=>False)(he:PE Y elt te):PEm Y (do let _ <- call (.builtin "list.append") [.ref D,<- eval elt Y.env]) (emA te D):=by
 intro pins s τ ys H Q J q;have ae:=he _ s τ H _ J q;refine Yad (Ya2 ae (λv s9 ⟨z,H9,J9,r9,hD9,hz9,q9⟩=>?_) λ_ _ f=>f);have aa:=jeg (X:=Y) _ s9 τ H9 (.ref D) [z] (.ref D) [v] (λx H'=>H'=upd H9 D (.lst (ys++[z]))) J9 rfl (.cons r9 .nil) ⟨_,ys,z,rfl,rfl,hD9,hz9,rfl⟩;refine Yad (Ya2 aa (λ_ s10 ⟨_,H10,J10,_,e10⟩=>?_) λ_ _ f=>f);subst e10;exact Yak ⟨τ,_,_,J10,q9⟩
section
variable {tg iter elt:Expr}{ifs:List Expr}
def jfk {rest:List Ydp}{pos:Pos}{g:TG}{tt:TT}{tem:Addr->TEm}{em:Addr->Env->Sem Unit}{J:It}{fp:List Addr}{it:Addr}{tn:Nat->Heap->Prop}{cl:List (Str×Addr)}{Q:VK}{E:Value->Shared->Prop}{RR:Value->Addr->Result->Shared->Prop}
  (hc:X.calm=true) (S:CScope X N pick scope) (c1:∀x c,cl.lookup x=some c->X.env.cells.lookup x=some c) (c2:∀y∈scope.names,y.2=.free->∃c,cl.lookup y.1=some c)
  (hg:∀cl C s₀ H₀ fp,PG (jam X N scope cl C s₀ H₀ fp) tg g) (hi:∀cl C s₀ H₀ fp,PIfs (jam X N scope cl C s₀ H₀ fp) ifs tt) (he:∀D cl C s₀ H₀ fp,PEm (jam X N scope cl C s₀ H₀ fp) (em D (jam X N scope cl C s₀ H₀ fp).env) (tem D))
  (hct:∀(it:Value) (D:Addr) (env:Env),YdV (.ListComp elt (⟨tg,iter,ifs,0⟩::rest) scope pos) 0 it (.ref D) env=jcL iter.pos tg ifs it env (em D env) (.compLoop (.ListComp elt (⟨tg,iter,ifs,0⟩::rest) scope pos) 0 it (.ref D) env))
  (I2:Inv X pins σ H s) (T:Turn X.prog X.w X.K tg J fp it tn) (st:tn 0 s.heap) (hf:∀b∈fp,FpOk X pins H b)
  (hW:∀D,H D=none->LcGG J g tt tem D (pick.map λo=>o.bind λj=>(σ[j]?).join) Q H)
  (hRR:∀D C H' s',Inv X pins σ H' s'->(∃m,s'.heap.Ns C m)->FpOk X pins H' C->Q (.ref D) H'->RR (.ref D) C (.ok .next) s') :
  wpAny (model X.prog X.w) X.A (newList []) (λacc s₃=>wpAny (model X.prog X.w) X.A (Yed scope X.env.globals cl [] X.env.qual none .none (some X.env)) (λcenv s₄=>
   codeAny (model X.prog X.w) X.A (.compStart (.ListComp elt (⟨tg,iter,ifs,0⟩::rest) scope pos) 0 (.ref it) acc { cenv with scope:=relabel scope X.env }) (RR acc cenv.locals) s₄) E s₃) E s:=by
 have hD:H s.heap.objs.size=none:=I2.hok.fresh (Yaa _);have hlt:∀b∈fp,b<s.heap.objs.size:=λb hb=>let ⟨o,e,_⟩:=T.obj _ _ st b hb;Yan e
 refine YaO (jbO ?_);have I3:Inv X pins σ (upd H s.heap.objs.size (.lst [])) { s with heap:=s.heap.push { cls:=.type "list",dict:=none,data:=.seq ([]:List Value).toArray } }:=
  I2.laid (t':=s.toks) (λb u e=>Yaf _ e) (Yaa _) ⟨YaN _,[],0,.nil,Yar _ rfl⟩
 generalize hs3:({ s with heap:=s.heap.push { cls:=.type "list",dict:=none,data:=.seq ([]:List Value).toArray } }:Shared)=s3 at I3 ⊢
 have hsz:s3.heap.objs.size=s.heap.objs.size+1:=by rw[<- hs3];simp_all
 have hf3:∀b∈fp,FpOk X pins (upd H s.heap.objs.size (.lst [])) b:=λb hb=>⟨by rw[jae (YaH (hlt b hb))];exact(hf b hb).1,(hf b hb).2⟩
 have hsz':(s3.heap.push { cls:=.type "dict",data:=.dict #[] }).objs.size=s3.heap.objs.size+1:=YdM ..;have hk:∀b o,s3.heap.get? b=some o->(Yd1 (s3.heap.push { cls:=.type "dict",data:=.dict #[] }) scope.names).get? b=some o:=λb o e=>pushCells_keeps _ _ b o (Yaf _ e);have hns₁:(Yd1 (s3.heap.push { cls:=.type "dict",data:=.dict #[] }) scope.names).Ns s3.heap.objs.size λ_=>none:=(Heap.Ns.new s3.heap (.type "dict")).keeps (pushCells_keeps _ _);have B:=jg7 (cl:=cl) hsz' S.cells λx c e=>by
  obtain⟨v,z⟩:=I3.cell x c (c1 x c e);exact Yb8 z.lt
 generalize Yd1 (s3.heap.push { cls:=.type "dict",data:=.dict #[] }) scope.names=h₁ at hk hns₁ B ⊢;generalize Ya1 (s3.heap.objs.size+1) scope.names cl=cs at B ⊢;have c1':∀x c,cs.lookup x=some c->X.env.cells.lookup x=some c\/s3.heap.objs.size<c:=λx c e=>by
  rcases B.lk x c e with⟨_,z,_⟩|⟨_,z⟩
  ·lia
  simp_all
 have st1:tn 0 h₁:=T.keep _ _ _ st λb _ o e=>hk b o (by rw[<- hs3];exact Yaf _ e)
 have IY:Inv (jam X N scope cs s3.heap.objs.size s3 (upd H s.heap.objs.size (.lst [])) fp) [] (pick.map λo=>o.bind λj=>(σ[j]?).join) (upd H s.heap.objs.size (.lst [])) { s3 with heap:=h₁ }:=
  jfP (tk:=s3.toks) S I3 hf3 (λb hb=>Yam (hlt b hb) (by lia)) c1 c2 B hns₁ hk
 generalize hY:jam X N scope cs s3.heap.objs.size s3 (upd H s.heap.objs.size (.lst [])) fp=Y at IY;have yg:PG Y tg g:=hY ▸ hg _ _ _ _ _;have yi:PIfs Y ifs tt:=hY ▸ hi _ _ _ _ _;have ye:PEm Y (em s.heap.objs.size Y.env) (tem s.heap.objs.size):=hY ▸ he _ _ _ _ _ _;have yprog:Y.prog=X.prog:=by rw[<- hY];rfl
 have yw:Y.w=X.w:=by rw[<- hY];rfl
 have yK:Y.K=X.K:=by rw[<- hY];rfl
 have yA:Y.A=X.A:=by rw[<- hY];rfl
 have yc:Y.calm=true:=by rw[<- hY];exact hc
 have yenv:Y.env=compEnvC scope cs s3.heap.objs.size X.env:=by rw[<- hY];rfl
 have yex:∀b,b∈Y.ex↔b∈fp:=λb=>by rw[<- hY];rfl
 have yxe:Y.xe=λ_ _=>False:=by rw[<- hY];rfl
 have ypn:Y.pn=[]:=by rw[<- hY];rfl
 have yfs:∀b,b∈Y.fs->b∈X.env.locals::X.fs:=λb hb=>I3.stkSub b (by rw[<- hY]at hb;exact hb)
 have stat:∀{H':Hp},(∀b∈fp,H' b=none)->∀b∈fp,FpOk Y [] H' b:=λhn b hb=>by
  refine⟨hn b hb,?_,λhm=>?_,.inl ((yex b).mpr hb),λx c e=>?_,λp hp=>?_⟩
  ·rw[yenv];show b≠s3.heap.objs.size
   grind
  ·rcases Yas.mp (yfs b hm)with z|z
   ·exact(hf b hb).2.1 z
   ·exact(hf b hb).2.2.1 z
  ·rw[yenv]at e;rcases c1' x c e with z|z
   ·exact(hf b hb).2.2.2.2.1 x c z
   grind
  simp_all
 have fin:∀{τ:St} {H':Hp} {s':Shared},Inv Y [] τ H' s'->Q (.ref s.heap.objs.size) H'->RR (.ref s.heap.objs.size) s3.heap.objs.size (.ok .next) s':=λ{τ H' s'} J q=>by
  have fr:H' s3.heap.objs.size=none:=by have:=J.free;rw[yenv]at this;exact this
  obtain⟨m,hn,_⟩:=J.loc;rw[yenv]at hn;exact hRR _ _ H' s' (jhR I3 hf3 (hY ▸ J)) ⟨m,hn⟩ (I3.fpOk (Yaa _) fr) q
 have hn:∀b∈fp,upd H s.heap.objs.size (.lst []) b=none:=λb hb=>(hf3 b hb).1;have lp:=jjC (pins:=[]) (s:={ s3 with heap:=h₁ }) (acc:=.ref s.heap.objs.size) (ifs:=ifs) (em:=em s.heap.objs.size Y.env) yc yxe (hct (.ref it) s.heap.objs.size Y.env) yg yi ye IY (by lia) st1 (stat hn) (hW _ hD)
 rw[yprog,yw,yA,yenv]at lp;have lp:=Ycr lp (R':=RR (.ref s.heap.objs.size) s3.heap.objs.size) λr s' ⟨hr,τ',ys',H',I',q'⟩=>by grind
 show codeAny (model X.prog X.w) X.A (.compStart (.ListComp elt (⟨tg,iter,ifs,0⟩::rest) scope pos) 0 (.ref it) (.ref s.heap.objs.size) (compEnvC scope cs s3.heap.objs.size X.env)) (RR (.ref s.heap.objs.size) s3.heap.objs.size) _;exact codeAny_compStart_list lp (T.self _ 0 _ _ _ st1 lp)

def jkX {pos:Pos}{wi:TI}{g:TG}{tt:TT}{rest:List Ydp}{tem:Addr->TEm}{em:Addr->Env->Sem Unit}(hc:X.calm=true)(S:CScope X N pick scope)(hw:PI X tg iter wi)
  (hg:∀cl C s₀ H₀ fp,PG (jam X N scope cl C s₀ H₀ fp) tg g) (hi:∀cl C s₀ H₀ fp,PIfs (jam X N scope cl C s₀ H₀ fp) ifs tt) (he:∀D cl C s₀ H₀ fp,PEm (jam X N scope cl C s₀ H₀ fp) (em D (jam X N scope cl C s₀ H₀ fp).env) (tem D))
  (hct:∀(it:Value) (D:Addr) (env:Env),YdV (.ListComp elt (⟨tg,iter,ifs,0⟩::rest) scope pos) 0 it (.ref D) env=jcL iter.pos tg ifs it env (em D env) (.compLoop (.ListComp elt (⟨tg,iter,ifs,0⟩::rest) scope pos) 0 it (.ref D) env))
  (hs:∀x,YaP iter X.env x=pure x:=by intro _;rfl):PE X (.ListComp elt (⟨tg,iter,ifs,0⟩::rest) scope pos) (tLcG pick wi g tt tem):=by
 intro pins s σ H Q I h;obtain⟨cl,hclos,c1,c2⟩:=jdz (scope:=scope) (env:=X.env) λy hy hf=>I.ok.has _ (S.fre y hy hf).2;rw[eval_ListComp];refine Yeo (use:=none) rfl hs hclos S.kind S.names (thn (hw pins s σ H _ I h) λv s1 h1=>thn h1 λitv s2 h2=>?_);obtain⟨it,fp,tn,J,H2,e,I2,T,st2,f2,hW⟩:=h2;subst e;refine jfk (RR:=λacc C=>compPost (model X.prog X.w) X.A X.xe none (EP X pins σ Q) acc C) hc S c1 c2 hg hi he hct I2 T st2 f2 hW λD C H' s' J' ⟨m,hn⟩ fC q=>?_;refine⟨m,hn,λh' hs'=>⟨.ref D,H',?_,rfl,q⟩⟩;exact J'.turned (t':=s'.toks) (it:=C) (λb o hb e=>hs'.extBut b o hb e) fC.1 fC.2.1 fC.2.2.2.1 fC.2.2.2.2.1 fC.2.2.2.2.2

def jkL {pos py spos:Pos}{wi:TI}{g:TG}{tt:TT}{rest:List Ydp}{tem:Addr->TEm}{em:Addr->Env->Sem Unit}{i:Nat}{y:Str}(hN:X.N.Nodup)(hi':X.N[i]?=some y)(hy:X.env.scope.names.lookup y=some .local)(hc:X.calm=true)(S:CScope X N pick scope)(hw:PI X tg iter wi)
  (hg:∀cl C s₀ H₀ fp,PG (jam X N scope cl C s₀ H₀ fp) tg g) (hi:∀cl C s₀ H₀ fp,PIfs (jam X N scope cl C s₀ H₀ fp) ifs tt) (he:∀D cl C s₀ H₀ fp,PEm (jam X N scope cl C s₀ H₀ fp) (em D (jam X N scope cl C s₀ H₀ fp).env) (tem D))
  (hct:∀(it:Value) (D:Addr) (env:Env),YdV (.ListComp elt (⟨tg,iter,ifs,0⟩::rest) scope pos) 0 it (.ref D) env=jcL iter.pos tg ifs it env (em D env) (.compLoop (.ListComp elt (⟨tg,iter,ifs,0⟩::rest) scope pos) 0 it (.ref D) env))
  (hsw:Ycw (.ListComp elt (⟨tg,iter,ifs,0⟩::rest) scope pos) (some (.Name y py)) spos.line X.env=pure true) (hs:∀x,YaP iter X.env x=pure x:=by intro _;rfl) :
  PS X (.Assign [.Name y py] (.ListComp elt (⟨tg,iter,ifs,0⟩::rest) scope pos) spos) (tAsg (tLcG pick wi g tt tem) (jhN i)):=by
 intro pins s σ H D0 I h;obtain⟨cl,hclos,c1,c2⟩:=jdz (scope:=scope) (env:=X.env) λy hy hf=>I.ok.has _ (S.fre y hy hf).2;rw[exec_Assign_Name_used _ _ _ _ hsw];refine Yad (Yde (Yad ?_));show wpAny _ _ (do let _ <- comprehension (.ListComp elt (⟨tg,iter,ifs,0⟩::rest) scope pos) scope X.env _ (newList []) false (eval iter X.env) (some (assign (.Name y py) X.env))) _ _ s
 refine Yad (thn (Yeo (use:=some (assign (.Name y py) X.env)) (Q:=λ_ s'=>SP X pins D0 .next s') rfl hs hclos S.kind S.names
  (thn (hw pins s σ H _ I h) λv s1 h1=>thn h1 λitv s2 h2=>?_)) λ_ s' hq=>Yak (Yak hq))
 obtain⟨it,fp,tn,J,H2,e,I2,T,st2,f2,hW⟩:=h2;subst e;refine jfk (Q:=λx H1=>jhN i x σ H1 D0.nx) (RR:=λacc C=>compPost (model X.prog X.w) X.A X.xe (some (assign (.Name y py) X.env)) (λ_ s'=>SP X pins D0 .next s') acc C) hc S c1 c2 hg hi he hct I2 T st2 f2 hW λD C H' s' J' ⟨m,hn⟩ fC q=>?_
 show wpAny _ _ (assign (.Name y py) X.env (.ref D)) _ _ _;refine wpAny_assign_Name (jd1 (v:=.ref D) J' hN hi' (.inl hy) rfl (λs'' J'' ⟨a,sb,ha⟩=>?_) (.inr hy));have hne:C≠a:=by
  rcases ha with z|z
  ·rw[z];exact fC.2.1
  ·exact λe=>fC.2.2.2.2.1 y a z e.symm
 refine⟨m,hn.sameBut sb hne,λh' hs'=>?_⟩;refine⟨_,H',J''.turned (t':=s''.toks) (it:=C) (λb o hb e=>hs'.extBut b o hb e) fC.1 fC.2.1 fC.2.2.2.1 fC.2.2.2.2.1 fC.2.2.2.2.2,q⟩
def jmN {pos:Pos}{wi:TI}{g:TG}{tt:TT}{te:TE}(hc:X.calm=true)(S:CScope X N pick scope)(hw:PI X tg iter wi)
  (hg:∀cl C s₀ H₀ fp,PG (jam X N scope cl C s₀ H₀ fp) tg g) (hi:∀cl C s₀ H₀ fp,PIfs (jam X N scope cl C s₀ H₀ fp) ifs tt) (he:∀cl C s₀ H₀ fp,PE (jam X N scope cl C s₀ H₀ fp) elt te)
  (hs:∀x,YaP iter X.env x=pure x:=by intro _;rfl):PE X (.ListComp elt [⟨tg,iter,ifs,0⟩] scope pos) (tLc pick wi g tt te):=
 jkX (em:=λD env=>do let _ <- call (.builtin "list.append") [.ref D,<- eval elt env]) (rest:=[]) hc S hw hg hi (λD cl C s₀ H₀ fp=>jiu rfl (he cl C s₀ H₀ fp)) (λ_ _ _=>rfl) hs
def jmI {pos:Pos}{wi:TI}{g:TG}{tt:TT}{te:TE}{py spos:Pos}{i:Nat}{y:Str}(hN:X.N.Nodup)(hi':X.N[i]?=some y)(hy:X.env.scope.names.lookup y=some .local)(hc:X.calm=true)(S:CScope X N pick scope)(hw:PI X tg iter wi)
  (hg:∀cl C s₀ H₀ fp,PG (jam X N scope cl C s₀ H₀ fp) tg g) (hi:∀cl C s₀ H₀ fp,PIfs (jam X N scope cl C s₀ H₀ fp) ifs tt) (he:∀cl C s₀ H₀ fp,PE (jam X N scope cl C s₀ H₀ fp) elt te)
  (hsw:Ycw (.ListComp elt [⟨tg,iter,ifs,0⟩] scope pos) (some (.Name y py)) spos.line X.env=pure true) (hs:∀x,YaP iter X.env x=pure x:=by intro _;rfl):PS X (.Assign [.Name y py] (.ListComp elt [⟨tg,iter,ifs,0⟩] scope pos) spos) (tAsg (tLc pick wi g tt te) (jhN i)):=
 jkL (em:=λD env=>do let _ <- call (.builtin "list.append") [.ref D,<- eval elt env]) (rest:=[]) hN hi' hy hc S hw hg hi (λD cl C s₀ H₀ fp=>jiu rfl (he cl C s₀ H₀ fp)) (λ_ _ _=>rfl) hsw hs
end
end

mutual
inductive DV (K:Yac)(H:Hp):V->PyData->Prop
 |non:DV K H .non .none
 |bl (b:Bool):DV K H (.bl b) (.bool b)
 |int (i:Int):DV K H (.int i) (.int i)
 |str (x:Str):DV K H (.str x) (.str x)
 |tup {a:Addr} {xs:List V} {ds:List PyData}:SqT K H a xs->DVs K H xs ds->DV K H (.ref a) (.tuple ds)
 |lst {a:Addr} {xs:List V} {ds:List PyData}:Rd H a (.lst xs)->DVs K H xs ds->DV K H (.ref a) (.list ds)
 |dic {a:Addr}:H a=some (.dK [])->DV K H (.ref a) (.dict [])
inductive DVs (K:Yac)(H:Hp):List V->List PyData->Prop
 |nil:DVs K H [] []
 |cons {x:V} {d:PyData} {xs:List V} {ds:List PyData}:DV K H x d->DVs K H xs ds->DVs K H (x::xs) (d::ds)
end

mutual
noncomputable def noL:PyData->Bool
 |.list _=>false
 |.tuple xs=>noLs xs
 |.dict _=>false
 |.none|.bool _|.int _|.str _=>true
noncomputable def noLs:List PyData->Bool
 |[]=>true
 |x::r=>noL x&&noLs r
end


def Inv.noSys    {σ:St}(I:Inv X pins σ H s)(h:s.heap.get? a=some o)(c:o.cls=.type "list"):YaT≠a:=λe=>by
 obtain⟨o',l,c'⟩:=I.mod.sys;have:=I.kIn _ _ l
 lia
mutual
theorem DV.reads2 {X:Cx}{pins:List (Addr×Obj)}{σ:St}{H:Hp}{s:Shared}(I:Inv X pins σ H s):∀{x:V} {d:PyData} {u:Value},DV X.K H x d->RelV x u->∃as,Reads s.heap u d as/\YaT∉as
 |_,_,_,.non,r=>by cases r;exact⟨_,.none,by simp⟩
 |_,_,_,.bl b,r=>by cases r;exact⟨_,.bool b,by simp⟩
 |_,_,_,.int i,r=>by obtain⟨t,rfl⟩:=r;exact⟨_,.int i t,by simp⟩
 |_,_,_,.str x,r=>by obtain⟨t,rfl⟩:=r;exact⟨_,.str x t,by simp⟩
 |_,_,_,.tup e h,r=>by
  cases r
  obtain⟨its,rv,⟨o,ho,hc,n,hd⟩,_⟩:=I.tuple e
  obtain⟨as,q,z⟩:=DVs.reads2 I h rv
  exact⟨_,.tuple ho hc hd q,z⟩
 |_,_,_,@DV.lst _ _ a _ _ e h,r=>by
  cases r
  obtain⟨its,rv,⟨o,n,ho,hc,_,hd⟩,_⟩:=I.list (.inl e)
  obtain⟨as,q,z⟩:=DVs.reads2 I h rv
  refine⟨_,.list ho hc hd q,λhm=>?_⟩
  rcases Yas.mp hm with hm|hm
  ·exact I.noSys ho hc hm
  lia
 |_,_,_,@DV.dic _ _ a e,r=>by
  cases r
  obtain⟨_,hS,vs,kv,o,es,ep,ho,hx,hd,_,hp,_⟩:([]:List (Key×V)).length<=Yae/\(a==YaT)=false/\∃vs,KV [] vs/\s.heap.DictOf (jao X.prog X.w) a vs:=I.hok a _ e
  have e0:es.toList=[]:=by
   cases kv
   revert hp
   cases es.toList with
   |nil=>lia
   |cons x r=>exact λhp=>(nomatch hp)
  refine⟨_,.dict (kvs:=[]) (as:=[]) (bs:=[]) ho hx.1 hd (by rw[e0];exact .nil) (by rw[e0];exact .nil),λhm=>?_⟩
  simp_all
theorem DVs.reads2 {X:Cx}{pins:List (Addr×Obj)}{σ:St}{H:Hp}{s:Shared}(I:Inv X pins σ H s):∀{xs:List V} {ds:List PyData} {us:List Value},DVs X.K H xs ds->Vals xs us->∃as,ReadsAll s.heap us ds as/\YaT∉as
 |_,_,_,.nil,r=>by cases r;exact⟨_,.nil,by simp⟩
 |_,_,_,.cons a b,r=>by
  cases r with
  |cons r rr=>
   obtain⟨as,q,z⟩:=DV.reads2 I a r
   obtain⟨bs,q',z'⟩:=DVs.reads2 I b rr
   exact⟨_,.cons q q',by simp_all⟩
end
def DV.reads {X:Cx}{pins:List (Addr×Obj)}{σ:St}{H:Hp}{s:Shared}(I:Inv X pins σ H s){x:V}{d:PyData}{u:Value}(h:DV X.K H x d)(r:RelV x u):∃as,Reads s.heap u d as:=let ⟨as,q,_⟩:=DV.reads2 I h r;⟨as,q⟩
def DVs.reads    {σ:St}(I:Inv X pins σ H s)(h:DVs X.K H xs ds)(r:Vals xs us):∃as,ReadsAll s.heap us ds as:=let ⟨as,q,_⟩:=DVs.reads2 I h r;⟨as,q⟩

structure Fits (n k:Nat)(d:PyData):Prop where
 sh:d.showable=true
 ln:d.shown.length<=n
 dp:d.depth<=k
def jjH   ts:(Str.join ", " ts).length<=piled ts:=by
 rcases YdD (ts=[])with rfl|hz
 ·exact YaN _
 ·exact Nat.le_of_add_right_le (YcH (join_length_add ts hz))
theorem jcz  : ∀ts k (acc:Str),(textFrom k acc ts).length<=acc.length+piled ts
 |[],_,_=>Yaa _
 |t::r,k,acc=>by
  have two:(((if k>0 then ", " else "" : String):Str)).length<=2:=by split<;>decide
  have ih:=jcz r (k+1) (acc++(if k>0 then ", " else "" : String)++t)
  simp only[Yez]at ih;rw[piled_cons];exact Yag ih (by lia)
def jmD  (K:Yac):List V->Hp->VK->Prop:=λxs H Q=>∃x d,xs=[x]/\DV K H x d/\Fits 16000000 60 d/\Q (.str d.shown) H
def jfR    (hr:Room k X.A):jbl X (.builtin "repr") (jmD X.K):=by
 intro pins s σ H xs us Q I r h;obtain⟨x,d,rfl,dv,ft,q⟩:=h;obtain⟨u,rfl,ru⟩:=jcr r;have hu:=hr.un;have done:∀(h':Heap) (u':Tok) (tk:Nat),(∀b o,s.heap.get? b=some o->h'.get? b=some o)->EP X pins σ Q (.str d.shown u') { s with heap:=h',toks:=tk }:=λh' u' tk hk=>
  ⟨.str d.shown,H,I.kept (t':=tk) hk,⟨u',rfl⟩,q⟩
 have hz:d.shown.length<=Yae:=Yag ft.ln (by decide)
 cases dv with
 |non=>cases ru;exact P.repr_of_none (done _ _ _ λ_ _ e=>e)
 |bl b=>cases ru;exact P.repr_of_bool (by have:=done s.heap s.toks (s.toks+1) λ_ _ e=>e;simp only[Yby]at this;lia)
 |int i=>
  obtain⟨t,rfl⟩:=ru;refine P.repr_of_int (by simpa[YbY]using ft.sh) ?_
  have:=done s.heap s.toks (s.toks+1) λ_ _ e=>e;simp only[Yby]at this
  lia
 |str x=>
  obtain⟨t,rfl⟩:=ru;simp only[Yby]at hz;refine P.repr_of_str ?_ hz;have:=done s.heap s.toks (s.toks+1) λ_ _ e=>e;simp only[Yby]at this
  lia
 |@tup a xs ds e hd=>
  obtain⟨as,rd,hsy⟩:=DV.reads2 I (DV.tup e hd) ru;cases ru;exact Yec rd ft.sh (λ_=>hsy) hr.gd (by have:=ft.dp;lia) (λ_ _ e=>e) (λh' u' tk hk=>done h' u' tk hk) hz
 |@lst a xs ds e hd=>
  obtain⟨as,rd,hsy⟩:=DV.reads2 I (DV.lst e hd) ru;cases ru;exact Yec rd ft.sh (λ_=>hsy) hr.gd (by have:=ft.dp;lia) (λ_ _ e=>e) (λh' u' tk hk=>done h' u' tk hk) hz
 |@dic a e=>
  obtain⟨as,rd,hsy⟩:=DV.reads2 I (DV.dic e) ru;cases ru;exact Yec rd ft.sh (λ_=>hsy) hr.gd (by have:=ft.dp;lia) (λ_ _ e=>e) (λh' u' tk hk=>done h' u' tk hk) hz

def Sm  (f:Addr)(H H':Hp):Prop:=∀b o,b≠f->H b=some o->H' b=some o


def jiY  : V->List V->Hp->VK->Prop:=λx vs H Q=>∃l xs i y,x=.ref l/\vs=[.int i,y]/\H l=some (.lst xs)/\0<=i/\i<=xs.length/\xs.length<Yae/\Q .non (upd H l (.lst (xs.take i.toNat++y::xs.drop i.toNat)))
def Vals.ins      (r:Vals xs us)(ry:RelV y u) k:Vals (xs.take k++y::xs.drop k) (us.take k++u::us.drop k):=(Vals.take k r).append (.cons ry (Vals.drop k r))
def jgw  : MtM X "list.insert" jiY:=by
 intro pins s σ H x vs v us Q I rx rv h;obtain⟨l,xs,i,y,rfl,rfl,hH,h1,h2,h3,q⟩:=h;cases rx;obtain⟨u,u',rfl,ru,ru'⟩:=rv.two;obtain⟨t,rfl⟩:=ru;obtain⟨z,its,n,r,hl,e⟩:=I.lstM hH;have hz63:i<2 ^ 63:=by have:=jcR;lia
 refine Ybc F.slot_list_insert ⟨_,e,rfl⟩ F.entry_list_insert (F.args_list_insert_3 _ _ _)
  (AutoSeq1.list_insert_list_int_val_1 l its.toArray n i t u' (by simp[Builtin.List.listFitsIndex];lia) (by simp_all)) ⟨e,?_⟩
 refine⟨.non,_,I.lset (its':=its.take i.toNat++u'::its.drop i.toNat) hH e ?_ (Vals.ins r ru' _) ?_,rfl,q⟩
 ·have hk:(if i<0 then (i+(its.toArray.size:Int)).toNat else min i.toNat its.toArray.size)=i.toNat:=by
   grind
  grind
 ·rw[Yaq,YaX,Ya7,Ya8]
  lia




theorem fm_rev  (xs:List Value):∀n,n<=xs.length->(Ybm n).filterMap (λk=>xs[xs.length-1-k]?)=(xs.drop (xs.length-n)).reverse
 |0,_=>by simp
 |n+1,h=>by
  rw[List.range_succ,List.filterMap_append,fm_rev xs n (by lia)]
  have hk:xs.length-1-n<xs.length:=by lia
  have:xs.drop (xs.length-(n+1))=xs[xs.length-1-n]::xs.drop (xs.length-n):=by
   rw[show xs.length-(n+1)=xs.length-1-n by lia,Yca hk,show xs.length-1-n+1=xs.length-n by lia]
  simp_all
def jhn  (xs:List Value):Ydi xs.toArray none none (some (-1))=xs.reverse.toArray:=by
 have e:sliceRange ((xs.length:Int)-1) (-1) (-1)=(Ybm xs.length).map λk=>xs.length-1-k:=by
  unfold sliceRange;have hc:(if (-1:Int)>0 then (if (xs.length:Int)-1 < -1 then (-1-((xs.length:Int)-1) + -1-1) / -1 else 0) else (if (xs.length:Int)-1 > -1 then ((xs.length:Int)-1 - -1 - -1-1)/(- -1) else 0)).toNat=xs.length:=by
   rw[if_neg (by lia),show(- -1:Int)=1 from rfl,Yem]
   split<;>lia
  simp only[hc];refine List.map_congr_left λk hk=>?_;have:=List.mem_range.mp hk
  lia
 have b:YbE none none (some (-1)) xs.toArray.size=((xs.length:Int)-1,-1,-1):=by
  simp[YbE]
 unfold Ydi;rw[b];simp only;rw[e,YeI];have:=fm_rev xs xs.length (Yaa _);rw[Nat.sub_self,YdL]at this;rw[<- this];congr 1;refine congrArg (λf=>YdK f (Ybm xs.length)) (funext λk=>?_);simp
def jhX  (xs:List Value):Ydi xs.toArray none none (some 1)=xs.toArray:=by
 have:=slicePick_all xs.toArray;unfold Ydi at this ⊢;exact this
def Vals.rev    (r:Vals xs us):Vals xs.reverse us.reverse:=by
 induction r with
 |nil=>exact .nil
 |cons h r ih=>rw[YbL,YbL];exact ih.append (.cons h .nil)

end L2
namespace HT
open PySem PySem.Spec PyProof.Rows

def getItem_tuple_all     {lo hi:Option Int}(ht:IsTup s.heap t items)(hs:s.heap.IsSliceOf sl vl vu .none)(pl:IsPart vl lo)(pu:IsPart vu hi)
  (hw:sIx items.size 0 lo=0/\sIx items.size items.size hi=items.size) (h:Q (.ref t) s):wpAny (model prog w) A (getItem (.ref t) (.ref sl)) Q E s:=by
 obtain⟨os,hos,hcs,hds⟩:=id hs;have hTs:s.TypeIs (.ref sl) "slice" := ⟨os,hos,hcs⟩;unfold getItem
 try with_reducible refine Ybn ?_
 first|refine Yad (Yak ?_)|skip
 refine Yad (Ydv ht.typeIs (by decide) ?_)
 refine Yad (YcC (name:=Ya3 "__getitem__") ht.typeIs YaM
  (YdN YaM ht.typeIs Yc4 ?_ (Ydm _ _)))
 show wpAny _ _ (YbQ (.ref t) >>= _) _ _ s;refine Yad (Yey ht ?_);refine Yad (YdE hTs ?_);rw[if_pos (by decide)]
 refine Yad (jbp hs pl pu ?_);have hyes:((((sIx items.size 0 lo:Nat):Int)==0&&(1:Int)==1&&(sIx items.size items.size hi-sIx items.size 0 lo)==items.size)=true):=by
  simp_all
 show wpAny _ _ (if (((sIx items.size 0 lo:Nat):Int)==0&&(1:Int)==1&&(sIx items.size items.size hi-sIx items.size 0 lo)==items.size)=true then _ else _) _ _ s
 rw[if_pos hyes];refine Yad (m:=YcU (.ref t)) ?_;unfold YcU;refine Yad (YdE ht.typeIs (Yak ?_));rw[if_pos (by decide)]
 exact Yad (wpAny_rule (Yak ⟨_,rfl,Yak h⟩))
end HT
namespace L2
open PySem PySem.Spec PyProof.Rows

def rSlW  (K:Yac):V->Option Int->Option Int->Hp->VK->Prop:=λx lo hi H Q=>∃a xs,x=.ref a/\SqT K H a xs/\
 (HT.sIx xs.length 0 lo=0/\HT.sIx xs.length xs.length hi=xs.length)/\Q (.ref a) H
def jiP  : SlR X (rSlW X.K):=by
 intro pins s σ H x v vl vu lo hi sl Q I rx hs pl pu h;obtain⟨a,xs,rfl,hx,hw,q⟩:=h;cases rx;obtain⟨its,r,ht,hz⟩:=I.tuple hx;have hlen:its.toArray.size=xs.length:=by rw[Yaj];exact r.length.symm
 refine⟨"tuple",_,YaM.lookup,ht.typeIs,?_⟩;exact HT.getItem_tuple_all ht hs pl pu (by lia) ⟨.ref a,H,I,rfl,q⟩
def jiQ  : SlR X (λx lo hi H Q=>rSlT X.K x lo hi H Q\/rSlW X.K x lo hi H Q):=SlR.or jkn jiP

end L2
namespace HT
open PySem PySem.Spec PyProof.Rows

def jcs    {n:Nat}(hs:s.heap.IsSliceOf sl .none .none (.int (-1) t))(h:Q ((n:Int)-1,-1,n) s):wpAny (model prog w) A (Ybl (.ref sl) (pure (n:Int))) Q E s:=by
 obtain⟨os,hos,hcs,hds⟩:=id hs;unfold Ybl YcY;refine Yad (Yad (Ybv hos hds (x:=.none) rfl (Yad (Ybv hos hds (x:=.none) rfl (Yad (Ybv hos hds (x:=.int (-1) t) rfl (Yak ?_)))))));refine Yad (ja3 (.int (-1) t) ?_);show wpAny _ _ (if ((-1:Int)==0)=true then _ else _) _ _ s
 rw[if_neg (by decide)]
 refine Yad (ja3 .none (Yad (ja3 .none (Yad (Yak ?_)))));have e1:Ya5 none none (-1) (n:Int)=((n:Int)-1,-1):=rfl;have e2:YaF ((n:Int)-1) (-1) (-1)=n:=by
  unfold YaF;rw[if_neg (by lia),show(- -1:Int)=1 from rfl,Yem]
  split<;>lia
 show wpAny _ _ (match Ya5 none none (-1) (n:Int)with|(lo,hi)=>pure (lo,(-1:Int),YaF lo hi (-1))) _ _ s
 rw[e1];show wpAny _ _ (pure ((n:Int)-1,(-1:Int),YaF ((n:Int)-1) (-1) (-1))) _ _ s;rw[e2];exact Yak h
def jhv  (xs:List Value):((Ybm xs.length).filterMap λ(k:Nat)=>xs.toArray[((xs.length:Int)-1+(k:Int)*(-1)).toNat]?).toArray=xs.reverse.toArray:=by
 have:=L2.fm_rev xs xs.length (Yaa _);rw[Nat.sub_self,YdL]at this;rw[<- this];congr 1;refine congrArg (λf=>YdK f (Ybm xs.length)) (funext λk=>?_);rw[show((xs.length:Int)-1+(k:Int)*(-1)).toNat=xs.length-1-k by lia]
 simp
def getItem_tuple_rev   {its:List Value}(ht:IsTup s.heap t its.toArray)(hs:s.heap.IsSliceOf sl .none .none (.int (-1) tk))
  (h:Q (.ref s.heap.objs.size) { s with heap:=s.heap.push { cls:=.type "tuple",data:=.seq its.reverse.toArray } }) (hsz:its.length<=Yae):wpAny (model prog w) A (getItem (.ref t) (.ref sl)) Q E s:=by
 have htake:sizeOk (.seq its.reverse.toArray):=by
  show its.reverse.toArray.size<=Yae
  simp_all
 obtain⟨os,hos,hcs,hds⟩:=id hs;have hTs:s.TypeIs (.ref sl) "slice" := ⟨os,hos,hcs⟩;unfold getItem
 try with_reducible refine Ybn ?_
 first|refine Yad (Yak ?_)|skip
 refine Yad (Ydv ht.typeIs (by decide) ?_)
 refine Yad (YcC (name:=Ya3 "__getitem__") ht.typeIs YaM
  (YdN YaM ht.typeIs Yc4 ?_ (Ydm _ _)))
 show wpAny _ _ (YbQ (.ref t) >>= _) _ _ s;refine Yad (Yey ht ?_);refine Yad (YdE hTs ?_);rw[if_pos (by decide)]
 refine Yad (jcs (n:=its.length) hs ?_);have hno:¬((((its.length:Int)-1)==0&&(-1:Int)==1&&its.length==its.toArray.size)=true):=by simp
 show wpAny _ _ (if (((its.length:Int)-1)==0&&(-1:Int)==1&&its.length==its.toArray.size)=true then _ else _) _ _ s
 rw[if_neg hno,jhv]
 first
  |exact Yad (m:=YaJ _) (YaO (Yak ⟨_,rfl,Yak h⟩) htake)
  |exact Yad (m:=YaJ _) (YaO (Yad (Yak (Yak ⟨_,rfl,Yak h⟩))) htake)
  |exact Yad (Yad (m:=YaJ _) (YaO (Yak (Yak ⟨_,rfl,Yak h⟩)) htake))
  |exact Yad (Yad (m:=YaJ _) (YaO (Yak ⟨_,rfl,Yak h⟩) htake))
end HT
namespace L2
open PySem PySem.Spec PyProof.Rows


end L2

namespace L2
open PySem PySem.Spec PyProof.Rows

def jmH  (K:Yac):R2:=λx y H Q=>∃a b xs ys,x=.ref a/\y=.ref b/\SqT K H a xs/\SqT K H b ys/\xs.length+ys.length<=Yae/\
 (xs=[]->Q (.ref b) H)/\(xs≠[]->ys=[]->Q (.ref a) H)/\(xs≠[]->ys≠[]->∀p,H p=none->Q (.ref p) (upd H p (.tup (xs++ys))))
def jjq  : OpR X (YaY .Add) (jmH X.K):=by
 intro pins s σ H x y v u Q I rx ry h;obtain⟨a,b,xs,ys,rfl,rfl,ha,hb,hz,q0,q1,q2⟩:=h;by_cases hx:xs=[]
 ·cases rx;cases ry;obtain⟨its,r1,p1,_⟩:=I.tuple ha;obtain⟨its2,r2,p2,_⟩:=I.tuple hb;have hv:its=[]:=r1.nil_iff.mpr hx;subst hv;obtain⟨⟨cls,dd,data,sl⟩,ho,hc,n,hd⟩:=id p1;obtain⟨⟨cls2,dd2,data2,sl2⟩,ho2,hc2,n2,hd2⟩:=id p2;simp only at hc hd hc2 hd2;subst hc hd hc2 hd2;exact YeV ⟨_,ho,rfl⟩ ⟨_,ho2,rfl⟩ YdO YeA Ycp Yce (Yb7 _ _)
   (tuple_addW0 a b _ its2.toArray n n2 dd dd2 sl sl2 rfl) ⟨ho,ho2,⟨.ref b,H,I,rfl,q0 hx⟩⟩
 ·exact jjp pins s σ H _ _ _ _ Q I rx ry ⟨a,b,xs,ys,rfl,rfl,ha,hb,hx,hz,q1 hx,q2 hx⟩
def jfD   (hr:Room k X.A):OpR X (YaE .Eq) (λx y H Q=>∃a b xs,x=.ref a/\y=.ref b/\SqT X.K H a xs/\SqT X.K H b []/\Q (.bl xs.isEmpty) H):=by
 intro pins s σ H x y v u Q I rx ry h;obtain⟨a,b,xs,rfl,rfl,ha,hb,q⟩:=h;cases rx;cases ry;obtain⟨its,rv,pa,_⟩:=I.tuple ha;obtain⟨its2,rv2,pb,_⟩:=I.tuple hb;cases rv2;have hu:X.A.units<cLine:=hr.units0;have e:((Ybm (min its.toArray.size ([]:List Value).toArray.size)).all (λ_=>true)&&its.toArray.size==([]:List Value).toArray.size)=xs.isEmpty:=by
  cases rv<;>simp
 refine EqBoolInt.of_rc (SeqAt.RcAt.tuples (e:=λ_=>true) (show s.heap.IsTuple a its.toArray from pa) (show s.heap.IsTuple b ([]:List Value).toArray from pb) hu λj _ h2=>?_) ?_
 ·simp at h2
 ·rw[e];exact⟨.bl xs.isEmpty,H,I,rfl,q⟩
def jfC   (hr:Room k X.A):OpR X (YaE .NotEq) (λx y H Q=>∃a b xs,x=.ref a/\y=.ref b/\SqT X.K H a xs/\SqT X.K H b []/\Q (.bl (!xs.isEmpty)) H):=by
 intro pins s σ H x y v u Q I rx ry h;obtain⟨a,b,xs,rfl,rfl,ha,hb,q⟩:=h;cases rx;cases ry;obtain⟨its,rv,pa,_⟩:=I.tuple ha;obtain⟨its2,rv2,pb,_⟩:=I.tuple hb;cases rv2;have hu:X.A.units<cLine:=hr.units0;have pa':s.heap.IsTuple a its.toArray:=pa;have pb':s.heap.IsTuple b ([]:List Value).toArray:=pb;cases rv with
 |nil=>
  refine Yd8 (Ydq (e:=λ_=>true) pa' pb' hu λj h1 _=>?_) ⟨.bl false,H,I,rfl,q⟩;simp at h1
 |cons r rr=>
  refine Yd8 (Ydq (e:=λ_=>true) pa' pb' hu λj _ h2=>?_) ⟨.bl true,H,I,rfl,q⟩;simp at h2




def jkF  (K:Yac)(neg:Bool):R2:=λx y H Q=>∃d e,DV K H x d/\DV K H y e/\d.canLay0=true/\e.canLay0=true/\d.depth<=100/\Q (.bl (if neg then !PyData.eqv d e else YaA d e)) H
def jlb   (hr:Room k X.A):OpR X (YaE .NotEq) (jkF X.K true):=by
 intro pins s σ H x y v u Q I rx ry h;obtain⟨d,e,hd,he,c1,c2,hk,q⟩:=h;obtain⟨as,ra⟩:=hd.reads I rx;obtain⟨bs,rb⟩:=he.reads I ry;exact SeqAt.compareNe_reads ra rb c1 c2 (by have:=hr.un;lia) ⟨.bl _,H,I,rfl,q⟩
def jlg   (hr:Room k X.A):OpR X (YaE .Eq) (jkF X.K false):=by
 intro pins s σ H x y v u Q I rx ry h;obtain⟨d,e,hd,he,c1,c2,hk,q⟩:=h;obtain⟨as,ra⟩:=hd.reads I rx;obtain⟨bs,rb⟩:=he.reads I ry;exact SeqAt.compareEq_reads ra rb c1 c2 (by have:=hr.un;lia) ⟨.bl _,H,I,rfl,q⟩

mutual
noncomputable def noB:PyData->Bool
 |.none=>true
 |.bool _=>false
 |.int _=>true
 |.str _=>true
 |.list ds=>noBs ds
 |.tuple ds=>noBs ds
 |.dict _=>false
noncomputable def noBs:List PyData->Bool
 |[]=>true
 |d::r=>noB d&&noBs r
end
mutual
theorem jiq:∀{d e:PyData},noB d=true->noB e=true->YaA d e=true->d=e
 |.none,.none,_,_,_=>rfl
 |.int i,.int j,_,_,h=>by rw[YaA]at h;rw[eq_of_beq h]
 |.str i,.str j,_,_,h=>by rw[YaA]at h;rw[eq_of_beq h]
 |.list xs,.list ys,h1,h2,h=>by rw[YaA]at h;rw[noB]at h1 h2;rw[jeV h1 h2 h]
 |.tuple xs,.tuple ys,h1,h2,h=>by rw[YaA]at h;rw[noB]at h1 h2;rw[jeV h1 h2 h]
 |.bool _,_,h,_,_=>by rw[noB]at h;cases h
 |.dict _,_,h,_,_=>by rw[noB]at h;cases h
 |.none,.bool _,_,h,_|.int _,.bool _,_,h,_|.str _,.bool _,_,h,_|.list _,.bool _,_,h,_|.tuple _,.bool _,_,h,_=>by rw[noB]at h;cases h
 |.none,.dict _,_,h,_|.int _,.dict _,_,h,_|.str _,.dict _,_,h,_|.list _,.dict _,_,h,_|.tuple _,.dict _,_,h,_=>by rw[noB]at h;cases h
 |.none,.int _,_,_,h|.none,.str _,_,_,h|.none,.list _,_,_,h|.none,.tuple _,_,_,h=>by rw[YaA]at h;cases h
 |.int _,.none,_,_,h|.int _,.str _,_,_,h|.int _,.list _,_,_,h|.int _,.tuple _,_,_,h=>by rw[YaA]at h;cases h
 |.str _,.none,_,_,h|.str _,.int _,_,_,h|.str _,.list _,_,_,h|.str _,.tuple _,_,_,h=>by rw[YaA]at h;cases h
 |.list _,.none,_,_,h|.list _,.int _,_,_,h|.list _,.str _,_,_,h|.list _,.tuple _,_,_,h=>by rw[YaA]at h;cases h
 |.tuple _,.none,_,_,h|.tuple _,.int _,_,_,h|.tuple _,.str _,_,_,h|.tuple _,.list _,_,_,h=>by rw[YaA]at h;cases h
theorem jeV:∀{ds es:List PyData},noBs ds=true->noBs es=true->YcQ ds es=true->ds=es
 |[],[],_,_,_=>rfl
 |d::r,e::q,h1,h2,h=>by
  rw[noBs,Yap]at h1 h2
  rw[YcQ,Yap]at h
  rw[jiq h1.1 h2.1 h.1,jeV h1.2 h2.2 h.2]
 |[],_::_,_,_,h=>by rw[YcQ]at h;cases h
 |_::_,[],_,_,h=>by rw[YcQ]at h;cases h
end


def jct  : fillsNumberSlot (.type "tuple") "mul" = pure false:=
 PySem.fillsNumberSlot_seq (id := "tuple.__mul__") (r:=some (.builtin "tuple.__rmul__")) YdC.lookup (by decide +kernel) F.slot_tuple_rmul.lookup (by decide +kernel)
def jd4  : seqRepeat? (.type "tuple")=pure (some (.builtin "tuple.__mul__")):=by
 unfold seqRepeat?;rw[YeL (T := "tuple") (name := "__mul__") (id := "tuple.__mul__") YdC.lookup (by decide +kernel),YeL (T := "tuple") (name := "__rmul__") (id := "tuple.__rmul__") F.slot_tuple_rmul.lookup (by decide +kernel)]
 rfl
def jdd   a (t:Tok) l items (n:Nat) dd sl :
  Meets (Builtin.«int.__rmul__» ⟨[.int a t,.ref l],[]⟩) (λ_ R s=>s.heap.get? l=some { cls:=.type "tuple",dict:=dd,data:=.seq items n,slots:=sl }/\R (.ok (.ret Value.notImplemented)) s):=
 .of_wp λprog w A R s h=>by obtain⟨hp,g,d,tk,os⟩:=s;obtain⟨hl,h⟩:=h;wp_walk;exact⟨_,rfl,h⟩
def jfw   l (items:Array Value)(n:Nat) dd sl (x:Int)(t:Tok)(hx:2<=x)(hx2:x<2 ^ 62)(h0:items.isEmpty=false)(hsz:items.size*x.toNat<=Yae) :
  Meets (Builtin.«tuple.__mul__» ⟨[.ref l,.int x t],[]⟩)
   (λA R s=>s.heap.get? l=some { cls:=.type "tuple",dict:=dd,data:=.seq items n,slots:=sl }/\R (.ok (.ret (.ref s.heap.objs.size))) { s with heap:=s.heap.push { cls:=.type "tuple",data:=.seq ((Yab x.toNat items).foldl (·++·) #[]) } }):=
 .of_wp λprog w A R s h=>by
  obtain⟨hp,g,d,tk,os⟩:=s;obtain⟨hl,h⟩:=h;have c1:(decide (x < -2 ^ 63)||decide (x ≥ 2 ^ 63))=false:=by simp;lia
  have c2:(items.isEmpty||x==1)=false:=by rw[h0];simp;lia
  have c3:(decide (x<=0)||items.isEmpty)=false:=by rw[h0];simp;lia
  have hz:(items.size:Int)*x=((items.size*x.toNat:Nat):Int):=by rw[Int.natCast_mul,Int.toNat_of_nonneg (by lia)]
  have h63:(Yae:Nat)<=(2 ^ 63-1)/8:=by decide
  wp_walk using wpAny_loadPart' hl
  simp only[c1,YbD,if_false]
  wp_walk using wpAny_loadPart' hl
  simp only[c2,c3,YbD,if_false];rw[if_neg (by rw[hz];lia)]
  have c4:YcT ((items.size:Int)*x)=false:=by
   rw[hz];unfold YcT;exact decide_eq_false (by lia)
  simp only[c4,YbD,if_false];have hs:(Yc1 (λx1 x2=>x1++x2) #[] (Yab x.toNat items)).size<=Yae:=by
   rw[AutoListH.size_joined];simp only[Yaj,YbB,Yej];rw[Ydd];exact hsz
  revert hs h;generalize Yc1 (λx1 x2=>x1++x2) #[] (Yab x.toNat items)=G;intro h hs
  wp_walk
  exact⟨_,rfl,h⟩
def jfy   l (items:Array Value)(n:Nat) dd sl t (h0:items.isEmpty=false) :
  Meets (Builtin.«tuple.__mul__» ⟨[.ref l,.int 0 t],[]⟩)
   (λA R s=>s.heap.get? l=some { cls:=.type "tuple",dict:=dd,data:=.seq items n,slots:=sl }/\R (.ok (.ret (.ref s.heap.objs.size))) { s with heap:=s.heap.push { cls:=.type "tuple",data:=.seq #[] } }):=
 .of_wp λprog w A R s h=>by
  obtain⟨hp,g,d,tk,os⟩:=s;obtain⟨hl,h⟩:=h;have c2:(items.isEmpty||(0:Int)==1)=false:=by rw[h0];rfl
  wp_walk using wpAny_loadPart' hl
  exact⟨_,rfl,h⟩
def jfx   l items (n:Nat) dd sl t :
  Meets (Builtin.«tuple.__mul__» ⟨[.ref l,.int 1 t],[]⟩)
   (λA R s=>s.heap.get? l=some { cls:=.type "tuple",dict:=dd,data:=.seq items n,slots:=sl }/\R (.ok (.ret (.ref l))) s):=
 .of_wp λprog w A R s h=>by
  obtain⟨hp,g,d,tk,os⟩:=s;obtain⟨hl,h⟩:=h;have c1:(decide ((1:Int) < -2 ^ 63)||decide ((1:Int) ≥ 2 ^ 63))=false:=by decide
  have c2:(items.isEmpty||(1:Int)==1)=true:=by simp
  wp_walk using wpAny_loadPart' hl
  exact⟨_,rfl,h⟩

def jmE  (K:Yac):R2:=λx y H Q=>∃l k xs,x=.ref l/\y=.int k/\SqT K H l xs/\xs≠[]/\0<=k/\k<2 ^ 62/\xs.length*k.toNat<=Yae/\(k=1->Q (.ref l) H)/\(k≠1->∀p,H p=none->Q (.ref p) (upd H p (.tup (Yab k.toNat xs).flatten)))
def jjm  : OpR X (YaY .Mult) (jmE X.K):=by
 intro pins s σ H x y v u Q I rx ry h;obtain⟨l,k,xs,rfl,rfl,hH,h0,h1,h2,hz,q1,q2⟩:=h;cases rx;obtain⟨t,rfl⟩:=ry;obtain⟨its,r,pl,_⟩:=I.tuple hH;have hl:=r.length;obtain⟨⟨cls,dd,data,sl⟩,e,hc,n,hd⟩:=id pl;simp only at hc hd;subst hc hd;have hne:its≠[]:=λz=>h0 (r.nil_iff.mp z);refine Yeb (T := "tuple") (U := "int") (by decide) ⟨_,e,rfl⟩ (λs'=>Ydw s' k t) jct F.fills_int_mul YcO jd4 F.slot_int_index.lookup
  (Ybc YcO (Ydw s k t) F.entry_int_rmul (F.args_int_rmul_2 _ _) (jdd k t l its.toArray n dd sl) ⟨e,rfl,⟨_,e,rfl⟩,?_⟩)
 by_cases hk:k=1
 ·subst hk;exact Ybc YdC ⟨_,e,rfl⟩ Ydo (Ydc _ _) (jfx l its.toArray n dd sl t) ⟨e,⟨.ref l,H,I,rfl,q1 rfl⟩⟩
 ·by_cases hk0:k=0
  ·subst hk0;refine Ybc YdC ⟨_,e,rfl⟩ Ydo (Ydc _ _) (jfy l its.toArray n dd sl t (by simpa using hne)) ⟨e,?_⟩
   refine⟨.ref s.heap.objs.size,_,I.laid (t':=s.toks) (o:=.tup []) (λb ob q=>Yaf _ q) (Yaa _) ?_,rfl,q2 hk _ (I.hok.fresh (Yaa _))⟩;exact⟨YaN _,[],.nil,TupD.new _ _⟩
  refine Ybc YdC ⟨_,e,rfl⟩ Ydo (Ydc _ _) (jfw l its.toArray n dd sl k t (by lia) h2 (by simpa using hne) (by rw[Yaj,<- hl];exact hz)) ⟨e,?_⟩
  have f0:=jcU its k.toNat [];rw[YaR]at f0;rw[f0];refine⟨.ref s.heap.objs.size,_,I.laid (t':=s.toks) (o:=.tup (Yab k.toNat xs).flatten) (λb ob q=>Yaf _ q) (Yaa _) ?_,rfl,q2 hk _ (I.hok.fresh (Yaa _))⟩;exact⟨by rw[jeO,Ydd];exact hz,_,r.rep k.toNat,TupD.new _ _⟩
noncomputable def repS  (x:Str)(k:Nat):Str:=⟨(Yab k x.cps.toList).flatten.toArray⟩
def jmF  : R2:=λx y H Q=>∃z k,x=.str z/\y=.int k/\0<=k/\k<1000/\z.length<=1000/\Q (.str (repS z k.toNat)) H
theorem jfo  (x:Array Nat):∀k (a:List Nat),((Yab k x).foldl (·++·) a.toArray)=(a++(Yab k x.toList).flatten).toArray
 |0,a=>by simp
 |k+1,a=>by
  rw[Yay,Ydt,show a.toArray++x=(a++x.toList).toArray by simp,jfo x k]
  simp[Yay]
def jjn  : OpR X (YaY .Mult) jmF:=by
 intro pins s σ H x y v u Q I rx ry h;obtain⟨z,k,rfl,rfl,h0,h1,hz,q⟩:=h;obtain⟨t,rfl⟩:=rx;obtain⟨t',rfl⟩:=ry;have hl:z.length*k.toNat<=1000000:=Yag (Nat.mul_le_mul hz (show k.toNat<=1000 by lia)) (by decide)
 refine P.mul_str (by simp;lia) (λh2 _=>?_) (λh2 _=>?_) ?_
 ·have:((2:Int) ^ 63-1)/k ≥ 1000:=by
   refine(Int.le_ediv_iff_mul_le (by lia)).mpr ?_
   lia
  lia
 ·exact decide_eq_false (by
   have:(1000000:Nat)<=Yae:=by decide
   lia)
 ·split
  ·have e:repS z k.toNat=Str.empty:=by rw[show k.toNat=0 by lia];rfl
   rw[e]at q;exact⟨by decide,.str _,H,I.tok _,⟨_,rfl⟩,q⟩
  ·split
   ·rename_i h2 h3;have e:repS z k.toNat=z:=by
     rw[Yb1,beq_iff_eq,beq_iff_eq]at h3;unfold repS;rcases h3 with h3|h3
     ·subst h3;simp
     ·have:z.cps.toList=[]:=by
       have:z.cps.size=0:=h3;simpa using this
      obtain⟨c⟩:=z;simp only at this ⊢;have hc:c=#[]:=by simpa using this
      subst hc;simp
    rw[e]at q;exact⟨.str _,H,I,⟨_,rfl⟩,q⟩
   ·have e:(Yab k.toNat z.cps).foldl (·++·) #[]=(Yab k.toNat z.cps.toList).flatten.toArray:=by
     have:=jfo z.cps k.toNat [];simpa using this
    refine⟨?_,.str _,H,I.tok _,⟨_,rfl⟩,?_⟩
    ·rw[e];show(Yab k.toNat z.cps.toList).flatten.toArray.size<=Yae;rw[Yaj,jeO,Ydd];exact Yag hl (by decide)
    ·rw[e];exact q
theorem jdf  : ∀{bs:List Bool} {us } {i:Nat} {v },Vals (bs.map V.bl) us->us[i]?=some v->∃b,bs[i]?=some b/\v=.bool b
 |b::r,_,0,v,.cons e q,h=>by
  cases e;exact⟨b,rfl,(Yau h).symm⟩
 |b::r,_,i+1,v,.cons e q,h=>jdf (bs:=r) (i:=i) q (by simpa using h)
 |[],_,i,v,.nil,h=>by simp at h
def jfS    {σ:St}{bs:List Bool}(hc:X.calm=true)(I:Inv X pins σ H s)(hq:SqL X.K H p (bs.map V.bl)) d :
  ∃its fp wr P S,s.heap.IsList p its/\Walks X.prog X.w X.A.in1 s.heap.objs.size fp wr bs.length P S/\S 0 (s.heap.push ⟨.type "list_iterator",none,.fields #[.ref p,.int 0 0],#[]⟩)/\TruthOf X.prog X.w X.A.in1 P (λi=>(bs[i]?).getD d)/\
   ∀h':Heap,(∀b o,b∉wr->(s.heap.push ⟨.type "list_iterator",none,.fields #[.ref p,.int 0 0],#[]⟩).get? b=some o->h'.get? b=some o)->∀b o,s.heap.get? b=some o->h'.get? b=some o:=by
 obtain⟨its,r',pl,-⟩:=I.list hq;have n:its.toArray.size=bs.length:=by simpa using r'.length.symm
 obtain⟨o,ho,-⟩:=id pl.isList;have W:=Walks.list (prog:=X.prog) (w:=X.w) (A:=X.A.in1) (I.ok.hd hc) s.heap.objs.size p (YaH (Yan ho)) its.toArray;rw[n]at W;refine⟨its.toArray,_,_,_,_,pl.isList,W,⟨⟨_,Yar _ rfl,rfl,rfl⟩,pl.isList.push _⟩,λi v t Q E hP hQ=>?_,λh' hk b o e=>hk b o (λm=>?_) (Yaf _ e)⟩
 ·obtain⟨b,e,rfl⟩:=jdf (i:=i) (v:=v) r' (by simpa using hP)
  exact Ybi (by simpa only[e,Option.getD]using hQ)
 ·exact absurd (Yan e) (by rw[List.mem_singleton.mp m];exact Ybb _)

end L2

namespace L2
open PySem PySem.Spec PyProof.Rows
open Sem (wp)
open AutoSeq1 (wpAny_loadPart')



end L2

namespace L2
open PySem PySem.Spec PyProof.Rows

def je2  : jbl X (.builtin "isinstance") (λxs H Q=>∃(x:V) (c:String) (t:Value) (b:Bool),xs=[x,.ty c]/\TyOf X.K H x t/\Ycx X.K t (.type c)=some b/\Q (.bl b) H):=by
 intro pins s σ H xs us Q I r h;obtain⟨x,c,t,b,rfl,ty,e,q⟩:=h;obtain⟨u,v,rfl,ru,rv⟩:=Vals.two r;cases rv;exact jgF I ru ty e λtk=>⟨.bl b,H,I.tok tk,rfl,q⟩




def jhb    (r:Vals vs us){i:Nat}(h:us[i]?=some u):∃v,vs[i]?=some v/\RelV v u:=by
 induction r generalizing i with
 |nil=>cases h
 |cons a r ih=>
  cases i with
  |zero=>exact⟨_,rfl,by cases h;exact a⟩
  |succ i=>exact ih h
end L2

namespace L2
open PySem PySem.Spec PyProof.Rows PySem.W

noncomputable def gD  (p:Array Nat)(k:Nat):Nat:=p.getD k 0
def Asc  (lt:Nat->Nat->Bool)(p:Array Nat)(m:Nat):Prop:=∀i,i+1<m->lt (gD p i) (gD p (i+1))=true
end L2

namespace L2
open PySem PySem.Spec PyProof.Rows PySem.W
open PySem.AutoSeq1 (wpAny_loadPart')
open PySem.MeetsSeq PySem.MeetsSeq2 PySem.MeetsSeq3
end L2

namespace L2
open PySem PySem.Spec PyProof.Rows PySem.W



section
variable {X:Cx}
def rInD  (X:Cx)(neg:Bool):R2:=λx y H Q=>∃(p:Addr) (vs:List V) (d:PyData) (ds:List PyData),y=.ref p/\(SqL X.K H p vs\/SqT X.K H p vs)/\DV X.K H x d/\DVs X.K H vs ds/\d.canLay0=true/\d.depth<=100/\(∀e∈ds,e.canLay0=true)/\Q (.bl (if neg then !(ds.any λe=>YaA e d) else ds.any λe=>YaA e d)) H
open Classical in
noncomputable def eD (h:Heap)(d:PyData)(w:Value):Bool:=decide (∃e as,e.canLay0=true/\Reads h w e as/\YaA e d=true)
open Classical in
def jlT {h:Heap}{d e:PyData}{w:Value}{as:List Addr}(r:Reads h w e as)(c:e.canLay0=true):eD h d w=YaA e d:=by
 unfold eD;cases q:YaA e d with
 |true=>grind
 |false=>
  refine decide_eq_false λ⟨e',as',c',r',q'⟩=>?_;rw[SeqAt.Reads.unique e' e w as' as c' r' r,q]at q';cases q'
theorem jgM {h:Heap}{d:PyData}:∀{us:List Value} {ds:List PyData} {as:List Addr},ReadsAll h us ds as->(∀e∈ds,e.canLay0=true)->us.any (eD h d)=(ds.any λe=>YaA e d)/\∀w∈us,∃e as,e.canLay0=true/\Reads h w e as
 |_,_,_,.nil,_=>⟨rfl,λw hw=>by simp at hw⟩
 |_,_,_,.cons r rs,c=>by
  obtain⟨h1,h2⟩:=jgM (d:=d) rs λe he=>c e (Yal _ he);refine⟨by rw[Yba,Yba,h1,jlT r (c _ Yaw)],λw hw=>?_⟩
  rcases Yas.mp hw with rfl|hw
  ·exact⟨_,_,c _ Yaw,r⟩
  ·exact h2 w hw
def jfn   {σ:St}(hu:A.units+100<cLine)(I:Inv X pins σ H s)(rx:RelV x u)(hd:DV X.K H x d)(c:d.canLay0=true)(hp:d.depth<=100)(r:Vals vs its)(hv:DVs X.K H vs ds)(cs:∀e∈ds,e.canLay0=true) :
  (∀w,w∈its->YdH A s w u (eD s.heap d w))/\its.any (eD s.heap d)=ds.any λe=>YaA e d:=by
 obtain⟨as,ra⟩:=DVs.reads I hv r;obtain⟨bs,rb⟩:=DV.reads I hd rx;obtain⟨h1,h2⟩:=jgM (d:=d) ra cs;refine⟨λw hw=>?_,h1⟩;obtain⟨e,as',ce,re⟩:=h2 w hw;rw[jlT re ce];exact SeqAt.eqAt_reads _ _ A s _ _ _ _ re rb ce c (Ybq (YeH (Yag (Nat.min_le_right _ _) hp) _) hu)
def jlf   (hr:Room k X.A):OpR X (YaE .In) (rInD X false):=by
 intro pins s σ H x y v u Q I rx ry h;obtain⟨p,vs,d,ds,rfl,hq,hd,hv,c,hp,cs,q⟩:=h;cases ry;rcases hq with hq|hq
 ·obtain⟨its,r,pl,hz⟩:=I.list hq;obtain⟨h1,h2⟩:=jfn (A:=X.A.in1) (by have:=hr.un;lia) I rx hd c hp r hv cs
  refine YeW (eD s.heap d) pl.isList (λw hw=>h1 w (by simp_all)) ⟨.bl _,H,I,rfl,?_⟩
  rw[show its.toArray.any (eD s.heap d)=its.any (eD s.heap d) by simp,h2]
  exact q
 ·obtain⟨its,r,pl,hz⟩:=I.tuple hq;obtain⟨h1,h2⟩:=jfn (A:=X.A.in1) (by have:=hr.un;lia) I rx hd c hp r hv cs
  refine Yc6 (eD s.heap d) pl (λw hw=>h1 w (by simp_all)) ⟨.bl _,H,I,rfl,?_⟩
  rw[show its.toArray.any (eD s.heap d)=its.any (eD s.heap d) by simp,h2]
  exact q
def jgk   (hr:Room k X.A):OpR X (YaE .NotIn) (rInD X true):=by
 intro pins s σ H x y v u Q I rx ry h;obtain⟨p,vs,d,ds,rfl,hq,hd,hv,c,hp,cs,q⟩:=h;cases ry;rcases hq with hq|hq
 ·obtain⟨its,r,pl,hz⟩:=I.list hq;obtain⟨h1,h2⟩:=jfn (A:=X.A.in1) (by have:=hr.un;lia) I rx hd c hp r hv cs
  refine Yep (eD s.heap d) pl.isList (λw hw=>h1 w (by simp_all)) ⟨.bl _,H,I,rfl,?_⟩
  rw[show its.toArray.any (eD s.heap d)=its.any (eD s.heap d) by simp,h2]
  exact q
 ·obtain⟨its,r,pl,hz⟩:=I.tuple hq;obtain⟨h1,h2⟩:=jfn (A:=X.A.in1) (by have:=hr.un;lia) I rx hd c hp r hv cs
  refine YcM (eD s.heap d) pl (λw hw=>h1 w (by simp_all)) ⟨.bl _,H,I,rfl,?_⟩
  rw[show its.toArray.any (eD s.heap d)=its.any (eD s.heap d) by simp,h2]
  exact q
end

end L2

namespace L2
open PySem PySem.Spec PyProof.Rows




end L2

namespace L2
open PySem PySem.Spec PyProof.Rows PySem.SeqAt PySem.MeetsSeq
def jaJ   l es (n:Nat) dd sl b u :
  Meets (Builtin.«dict.__eq__» ⟨[.ref l,.str b u],[]⟩) (λ_ R s=>s.heap.get? l=some { cls:=.type "dict",dict:=dd,data:=.dict es n,slots:=sl }/\R (.ok (.ret .notImplemented)) s):=
 .of_wp λprog w A R s h=>by obtain⟨hp,g,d,tk,os⟩:=s;obtain⟨hl,h⟩:=h;have f1:=F.sub_str_dict;wp_walk using wpAny_loadPart' hl;exact⟨_,rfl,h⟩
def jaI   b u l es (n:Nat) dd sl :
  Meets (Builtin.«str.__eq__» ⟨[.str b u,.ref l],[]⟩) (λ_ R s=>s.heap.get? l=some { cls:=.type "dict",dict:=dd,data:=.dict es n,slots:=sl }/\R (.ok (.ret .notImplemented)) s):=
 .of_wp λprog w A R s h=>by obtain⟨hp,g,d,tk,os⟩:=s;obtain⟨hl,h⟩:=h;wp_walk using wpAny_loadPart' hl,wpAny_load hl;exact⟨_,rfl,h⟩

def jeB         b u (ho:s.heap.get? l=some o)(hc:o.cls=.type "dict")(hd:o.data=.dict es n)(hu:A.units<cLine):RcAt A s (.ref l) (.str b u) false:=λprog w E Q h=>by
 obtain⟨cls,dd,data,sl⟩:=o;simp only at hc hd;subst hc hd;exact rc_eq_decline_or (k:=false) ⟨_,ho,rfl⟩ (YbV s b u) (by decide) F.sub_str_dict F.slot_dict_eq F.slot_str_eq_refl
  (λ_ hq=>Ybc F.slot_dict_eq ⟨_,ho,rfl⟩ F.entry_dict_eq (F.args_dict_eq_2 _ _) (jaJ l es n dd sl b u) ⟨ho,hq⟩)
  (λ_ hq=>Ybc F.slot_str_eq_refl (YbV s b u) F.entry_str_eq (F.args_str_eq_2 _ _) (jaI b u l es n dd sl) ⟨ho,hq⟩)
  (λ_ hq=>wpAny_of_eq (rfl:isSame (.ref l) (.str b u)=pure false) hq) (.inr hu) h
def jhq  : R2:=λx y H Q=>∃a z kvs,x=.ref a/\y=.str z/\H a=some (.dK kvs)/\Q (.bl false) H
def jdK   (hr:Room k X.A):OpR X (YaE .Eq) jhq:=by
 intro pins s σ H x y v u Q I rx ry h;obtain⟨a,z,kvs,rfl,rfl,ha,q⟩:=h;cases rx;obtain⟨t,rfl⟩:=ry;obtain⟨_,_,vs,_,o,es,ep,ho,hx,hd,_⟩:kvs.length<=Yae/\(a==YaT)=false/\∃vs,KV kvs vs/\s.heap.DictOf (jao X.prog X.w) a vs:=I.hok a _ ha;exact jeB z t ho hx.1 hd (by have:=hr.un;lia) X.prog X.w X.xe _ ⟨.bl false,H,I,rfl,q⟩
def rSlS  : V->Option Int->Option Int->Hp->VK->Prop:=λx lo hi H Q=>∃z,x=.str z/\z.length<=Yae/\Q (.str (YcE z lo hi)) H

def jko  : SlR X rSlS:=by
 intro pins s σ H x v vl vu lo hi sl Q I rx hs pl pu h;obtain⟨z,rfl,hz,q⟩:=h;obtain⟨t,rfl⟩:=rx;refine⟨"str",_,F.slot_str_getitem.lookup,YbV _ _ _,?_⟩;obtain⟨o,ho,hc,hd⟩:=hs;have fin:∀t' k,EP X pins σ Q (.str (YcE z lo hi) t') { s with toks:=k }:=λt' k=>⟨.str _,H,I.tok _,⟨_,rfl⟩,q⟩
 cases pl with
 |none=>
  cases pu with
  |none=>exact YbM (l:=none) (u:=none) (st:=none) ⟨o,ho,hc,hd⟩ rfl (YcV ⟨Yag (YcD z _ _) hz,fin⟩)
  |int j uj=>exact YbM (l:=none) (u:=some (j,uj)) (st:=none) ⟨o,ho,hc,hd⟩ rfl (YcV ⟨Yag (YcD z _ _) hz,fin⟩)
 |int i ui=>
  cases pu with
  |none=>exact YbM (l:=some (i,ui)) (u:=none) (st:=none) ⟨o,ho,hc,hd⟩ rfl (YcV ⟨Yag (YcD z _ _) hz,fin⟩)
  |int j uj=>exact YbM (l:=some (i,ui)) (u:=some (j,uj)) (st:=none) ⟨o,ho,hc,hd⟩ rfl (YcV ⟨Yag (YcD z _ _) hz,fin⟩)
def jjr  : OpR X (YaY .Add) (λx y H Q=>∃b j,x=.bl b/\y=.int j/\Q (.int ((if b=true then (1:Int) else 0)+j)) H):=by
 intro pins s σ H x y v u Q I rx ry h;obtain⟨b,j,rfl,rfl,q⟩:=h;cases rx;obtain⟨t,rfl⟩:=ry;exact PySem.IntBool.add_bool_int ⟨.int _,H,I.tok _,⟨_,rfl⟩,q⟩
def jjl  : OpR X (YaY .Sub) (λx y H Q=>(∃b j,x=.bl b/\y=.int j/\Q (.int ((if b=true then (1:Int) else 0)-j)) H)\/∃i b,x=.int i/\y=.bl b/\Q (.int (i-if b=true then (1:Int) else 0)) H):=by
 intro pins s σ H x y v u Q I rx ry h;rcases h with⟨b,j,rfl,rfl,q⟩|⟨i,b,rfl,rfl,q⟩
 ·cases rx;obtain⟨t,rfl⟩:=ry;exact PySem.IntBool.sub_bool_int ⟨.int _,H,I.tok _,⟨_,rfl⟩,q⟩
 ·cases ry;obtain⟨t,rfl⟩:=rx;exact PySem.IntBool.sub_int_bool ⟨.int _,H,I.tok _,⟨_,rfl⟩,q⟩
def jey         (h:Q (.str (if b then "True" else "False") s.toks) { s with toks:=s.toks+1 }):wpAny (model prog w) A (call (.type "str") [.bool b]) Q E s:=
 callType_new F.called_str (by decide) (F.typeCall_str_1 _) (F.newCall_str_1 _) (λobj=>F.args_object_init_2 obj _) F.entry_str_new
  (meets_str_new (S:=λ_ R s=>R (.ok (.ret (.str (if b then "True" else "False") s.toks))) { s with toks:=s.toks+1 }) λ_ _ _ _ s hq=>
   wpAny_strOf_gives rfl (PySem.typeIs_bool s b) F.slot_bool_str F.slot_bool_repr F.entry_bool_repr (F.args_bool_repr_1 _) (gives_bool_repr b) hq (hsz:=by cases b<;>decide)) ⟨YbV _ _ _,h⟩
def jg3  : jbl X (.type "str") (λxs H Q=>∃b,xs=[.bl b]/\Q (.str (if b=true then "True" else "False")) H):=by
 intro pins s σ H xs us Q I r h;obtain⟨b,rfl,q⟩:=h;obtain⟨u,rfl,r1⟩:=jcr r;cases r1;exact jey ⟨.str _,H,I.tok _,⟨_,rfl⟩,q⟩
def jiX  (K:Yac):R2:=λx y H Q=>∃a z xs,x=.ref a/\y=.str z/\(SqT K H a xs\/SqL K H a xs)/\Q (.bl false) H
def jd9   (hr:Room k X.A):OpR X (YaE .Eq) (jiX X.K):=by
 intro pins s σ H x y v u Q I rx ry h;obtain⟨a,z,xs,rfl,rfl,ha,q⟩:=h;cases rx;obtain⟨t,rfl⟩:=ry;have hu:X.A.units<cLine:=hr.units0;rcases ha with ha|ha
 ·obtain⟨its,rv,pa,_⟩:=I.tuple ha;exact SeqAt.RcAt.tuple_str z t (show s.heap.IsTuple a its.toArray from pa) hu X.prog X.w X.xe _ ⟨.bl false,H,I,rfl,q⟩
 ·obtain⟨its,rv,pa,_⟩:=I.list ha;exact SeqAt.RcAt.list_str z t pa.isList hu X.prog X.w X.xe _ ⟨.bl false,H,I,rfl,q⟩
end L2

namespace L2
open PySem PySem.Spec PyProof.Rows
open AutoSeq1 (wpAny_loadPart')


end L2

namespace L2
open PySem PySem.Spec PyProof.Rows PySem.W
structure Lies (lo:Nat)(pn:List (Addr×Obj))(H:Hp)(h:Heap)(e:Addr)(cls:Value)(dx:Option Addr):Prop where
 ob:∃oe vs,h.get? e=some oe/\oe.cls=cls/\oe.dict=dx/\oe.data=.fields vs/\
  (vs[1]?=some .none\/∃T oT ts,vs[1]?=some (.ref T)/\T≠e/\h.get? T=some oT/\oT.data=.fields ts/\ts[3]?=some .none/\H T=none/\lo<=T/\∀p∈pn,p.1≠T)
 hn:H e=none
 le:lo<=e
 pn:∀p∈pn,p.1≠e

def jcI  {h:Heap} i x (ho:h.get? a=some o)(hd:o.data=.fields vs) :
  (∃o',(h.update a (YbF (·.setIfInBounds i x))).get? a=some o'/\o'.cls=o.cls/\o'.dict=o.dict/\o'.data=.fields (vs.setIfInBounds i x))/\∀b,b≠a->(h.update a (YbF (·.setIfInBounds i x))).get? b=h.get? b:=by
 have z:=Obj.data_mapFields hd (·.setIfInBounds i x);refine⟨⟨_,Yd9 _ ho (Yei z),Obj.cls_mapFields _ _,?_,z⟩,λb hb=>Ycu _ _ (Ne.symm hb)⟩;unfold YbF
 lia
def jfp  {s: Shared} 
  (hfr:A.frames=some (env::outer)) (hl:s.heap.FunFrames base (env::outer)) (hf:env.frame=some L) (he:s.heap.get? e=some oe) (hd:oe.data=.fields vs) (hsz:1<vs.size)
  (h:∀(h':Heap) (T:Addr) (oe' oT:Obj) vs' ts ,(∀b o,b∉frs (env::outer)->b≠e->s.heap.get? b=some o->h'.get? b=some o)->(∀b o,b∈frs (env::outer)->b≠e->s.heap.get? b=some o->∃sl,h'.get? b=some { o with slots:=sl })->
   s.heap.objs.size<=T->h'.get? e=some oe'->oe'.cls=oe.cls->oe'.dict=oe.dict->oe'.data=.fields vs'->vs'[1]?=some (.ref T)->h'.get? T=some oT->oT.data=.fields ts->ts[3]?=some .none->Q () { s with heap:=h' }) :
  wpAny M A (do let a <- frameOf env;let pl <- entryPlaceOf L had;let b <- EntryCells.newEntry head a .none (rawInt L) .none pl;setField (.ref e) 1 b) (λ_ s'=>wpAny M A (setFlight (.ref e) none) Q E s') E s:=by
 have out:e∉frs (env::outer):=λm=>by
  rcases hl.mem m with⟨-,o,ho,no⟩
  simp_all
 refine Yad (wpAny_frameOf_fun hfr hl hf λh1 fs=>Yad (wpAny_entryPlaceOf λpl hpl=>Yad (YaO ?_ (hpl.sizeOk5 _ _ _ _ _))));have n3:3<([head,.ref L,.none,rawInt L,.none]++(if pl.isEmpty then Yab 6 Ybj else pl)).toArray.size:=by
  simp_all
 generalize eot:(⟨.type "traceback",none,.fields ([head,.ref L,.none,rawInt L,.none]++(if pl.isEmpty then Yab 6 Ybj else pl)).toArray,#[]⟩:Obj)=ot
 have dt:ot.data=.fields ([head,.ref L,.none,rawInt L,.none]++(if pl.isEmpty then Yab 6 Ybj else pl)).toArray:=by lia
 have g1:h1.get? e=some oe:=by rw[fs.2.1 e out,he]
 have new:=Yar h1 (Yei dt);have ne:h1.objs.size≠e:=λz=>Ybb _ (z ▸ Yan g1);obtain⟨⟨o2,g2,c2,d2,v2⟩,r2⟩:=jcI 1 (.ref h1.objs.size) (Yaf ot g1) hd;have g2':=(r2 _ ne).trans new;obtain⟨⟨o3,g3,c3,d3,v3⟩,r3⟩:=jcI 3 .none g2' dt;refine Yea (Yaf ot g1) hd hsz (Yad (Ybv g2 v2 (Ybs hsz) ?_));rw[if_pos (by rfl)]
 refine Yea g2' dt n3 ?_;have keep:∀b o,b≠e->h1.get? b=some o->_:=λb o hb g=>(r3 b (YaH (Yan g))).trans ((r2 b hb).trans (Yaf ot g));refine h _ h1.objs.size o2 o3 _ _ (λb o hb hbe g=>keep b o hbe (by rw[fs.2.1 b hb,g])) (λb o _ hbe g=>?_) (YcH fs.1.symm) ((r3 e (Ne.symm ne)).trans g2) c2 d2 v2 (Ybs hsz) g3 v3 (Ybs n3)
 rcases fs.2.2 b o g with⟨sl,q⟩
 simp_all

def Inv.left  {σ: St}{ch:List Addr}(I:Inv X pins σ H s)(hH:∀b∈ch,H b=none)(hlo:∀b∈ch,X.s₀.heap.objs.size<=b)(hd:∀b∈ch,∃o vs,s.heap.get? b=some o/\o.data=.fields vs)(hp:∀b∈ch,∀p∈X.pn++pins,p.1≠b)
  (k:∀b o,b∉frs X.stack->b∉ch->s.heap.get? b=some o->h'.get? b=some o) (sl:∀b o,b∈frs X.stack->b∉ch->s.heap.get? b=some o->∃t,h'.get? b=some { o with slots:=t }):Inv X pins σ H { s with heap:=h' }:=by
 have u:Un (frs X.stack) ch H H s.heap h':=by
  refine⟨λb o e _ hb hc=>k b o hb hc e,λb o e _ hb hc=>sl b o hb hc e,λ_ _ _ n _=>n,λb o e hc=>?_,λ_ _ e=>e,λ_ _ _ e=>e,λb ps e=>⟨#[],by rw[e];simp⟩⟩
  grind
 have tr:∀b u,H b=some u->b∉frs X.stack/\b∉ch:=λb u e=>⟨λz=>(by rw[I.stkFree b z]at e;cases e),λz=>(by simp_all)⟩
 have hok:HOk X.prog X.w H h':=λa o e=>(I.hok a o e).stay (λb v hb q=>by
  grind) (λ_ q=>q) λ_ _ q=>q
 refine I.call (g':=s.gens) (d':=s.drawn) (t':=s.toks) u hok I.bare λb hb=>⟨.inr (hlo b hb),λz=>?_,λx c e z=>?_,hp b hb⟩
 ·obtain⟨o,vs,g,d⟩:=hd b hb;obtain⟨m,⟨o',_,_,ho,r⟩,_⟩:=I.loc
  lia
 ·obtain⟨o,vs,g,d⟩:=hd b hb;obtain⟨v,o',ho,hc⟩:=I.cell x c e
  lia
def jlx  {σ: St}(I:Inv X [] σ H s)(hst:X.stack=X.env::X.outer)(hf:X.env.frame=some X.env.locals)
  (l:Lies X.s₀.heap.objs.size X.pn H s.heap ea cls dx) (q:∀h',Inv X [] σ H { s with heap:=h' }->Lies X.s₀.heap.objs.size X.pn H h' ea cls dx->Q () { s with heap:=h' }):wpAny M X.A (noteFrame (.ref ea) X.env) (λ_ s'=>wpAny M X.A (setFlight (.ref ea) none) Q E s') E s:=by
 obtain⟨oe,vs,he,hc,hdx,hd,ht⟩:=l.ob;have hfr:X.A.frames=some (X.env::X.outer):=by rw[<- hst];exact I.ok.frames
 have hl:s.heap.FunFrames X.base (X.env::X.outer):=by rw[<- hst];exact I.stack
 have pe:∀p∈X.pn++[],p.1≠ea:=λp hp=>l.pn p (by simp_all)
 unfold noteFrame;simp only[hf];rcases ht with h1|⟨T,oT,ts,h1,hTe,hT,hdT,h3,nT,lT,pT⟩
 ·refine Yad (Ybv he hd h1 ?_);rw[if_neg (by decide)]
  refine jfp hfr hl hf he hd (Array.getElem?_eq_some_iff.mp h1).1 λh' T' oe' oT' vs' ts' k sl zT g1 c1 c2 c3 c4 g2 c5 c6=>?_;rw[<- hst]at k sl;have J:Inv X [] σ H { s with heap:=h' }:=I.left (ch:=[ea]) (λb hb=>by rw[List.mem_singleton.mp hb];exact l.hn) (λb hb=>by rw[List.mem_singleton.mp hb];exact l.le) (λb hb=>by simp_all) (λb hb=>by grind)
   (λb o hb hc e=>k b o hb (λz=>hc (by simp[z])) e) λb o hb hc e=>sl b o hb (λz=>hc (by simp[z])) e
  refine q h' J ⟨⟨oe',vs',g1,c1.trans hc,c2.trans hdx,c3,.inr ⟨T',oT',ts',c4,?_,g2,c5,c6,I.hok.fresh zT,Yag I.sz zT,λp hp z=>?_⟩⟩,l.hn,l.le,l.pn⟩
  ·exact λz=>absurd (Yan he) (Nat.not_lt.mpr (z ▸ zT))
  ·exact absurd (Yan (I.pin p (by simp_all)).1) (Nat.not_lt.mpr (z ▸ zT))
 ·have old:(Ybj==rawInt X.env.locals)=false:=rfl;refine Yad (Ybv he hd h1 ?_);rw[if_pos (by rfl)]
  refine Yad (Ybv hT hdT h3 ?_);rw[old,if_neg Yah];refine Yad (Yea hT hdT (Array.getElem?_eq_some_iff.mp h3).1 ?_);have other:=(jcI 3 .none hT hdT).2;have I1:Inv X [] σ H { s with heap:=s.heap.update T (YbF (·.setIfInBounds 3 Ybj)) }:=I.left (ch:=[T]) (λb hb=>by simp_all) (λb hb=>by simp_all) (λb hb=>by simp_all) (λb hb p hp=>by grind)
   (λb o _ hc e=>(other b (by simp_all)).trans e) λb o _ hc e=>⟨o.slots,(other b (by simp_all)).trans e⟩
  have he1:=(other ea (Ne.symm hTe)).trans he;have hl1:(s.heap.update T (YbF (·.setIfInBounds 3 Ybj))).FunFrames X.base (X.env::X.outer):=by rw[<- hst];exact I1.stack
  refine jfp (s:={ s with heap:=s.heap.update T (YbF (·.setIfInBounds 3 Ybj)) }) hfr hl1 hf he1 hd (Array.getElem?_eq_some_iff.mp h1).1 λh' T' oe' oT' vs' ts' k sl zT g1 c1 c2 c3 c4 g2 c5 c6=>?_
  rw[<- hst]at k sl;have J:Inv X [] σ H { s with heap:=h' }:=Inv.left (s:={ s with heap:=s.heap.update T (YbF (·.setIfInBounds 3 Ybj)) }) (ch:=[ea]) I1 (λb hb=>by rw[List.mem_singleton.mp hb];exact l.hn) (λb hb=>by rw[List.mem_singleton.mp hb];exact l.le) (λb hb=>by simp_all) (λb hb=>by grind)
   (λb o hb hc e=>k b o hb (λz=>hc (by simp[z])) e) λb o hb hc e=>sl b o hb (λz=>hc (by simp[z])) e
  refine q h' J ⟨⟨oe',vs',g1,c1.trans hc,c2.trans hdx,c3,.inr ⟨T',oT',ts',c4,?_,g2,c5,c6,I1.hok.fresh zT,Yag I1.sz zT,λp hp z=>?_⟩⟩,l.hn,l.le,l.pn⟩
  ·exact λz=>absurd (Yan he1) (Nat.not_lt.mpr (z ▸ zT))
  ·exact absurd (Yan (I1.pin p (by simp_all)).1) (Nat.not_lt.mpr (z ▸ zT))
def CX1  (P:Program)(w:World):CXT:=λouter H s E e s'=>∃(ea:Addr) (H':Hp) (cls:Value) (dx:Option Addr),e=.ref ea/\s'.os=s.os/\AllBare s'.gens/\Un (frs outer) [] H H' s.heap s'.heap/\HOk P w H' s'.heap/\Lies s.heap.objs.size [] H' s'.heap ea cls dx/\E cls dx H'

def CX1.back  {σ: St}(I:Inv X pins σ H s)(h:CX1 X.prog X.w X.stack H s E e s'):∃(ea:Addr) (H':Hp) (cls:Value) (dx:Option Addr),e=.ref ea/\Inv X pins σ H' s'/\Lies X.s₀.heap.objs.size X.pn H' s'.heap ea cls dx/\E cls dx H':=by
 obtain⟨ea,H',cls,dx,rfl,os,bare,un,hok,l,q⟩:=h;have pn:∀b,s.heap.objs.size<=b->∀p∈X.pn,p.1≠b:=λb hb p hp z=>absurd (Yan (I.pin p (YcL _ hp)).1) (Nat.not_lt.mpr (z ▸ hb));refine⟨ea,H',cls,dx,rfl,I.call' (ch:=[]) os un hok bare (λb z=>absurd z (by simp)),⟨?_,l.hn,Yag I.sz l.le,pn ea l.le⟩,q⟩
 obtain⟨oe,vs,he,hc,hdx,hd,ht⟩:=l.ob;refine⟨oe,vs,he,hc,hdx,hd,ht.imp id ?_⟩;rintro⟨T,oT,ts,h1,h2,h3,h4,h5,h6,h7,_⟩;exact⟨T,oT,ts,h1,h2,h3,h4,h5,h6,Yag I.sz h7,pn T h7⟩
end L2

namespace L2
open PySem PySem.Spec PyProof.Rows PySem.W
open Builtin Builtin.ObjectAttr

section
variable {prog:Program}{w:World}{A:Around}{E:Value->Shared->Prop}{h:Heap}{g:Array GenState}{d:Drawn}{t:Nat}{os:OsState}
variable {C N D x:Addr}{bmB:List Value}{B newId sa owner:String}{mN mD mA:Str->Option Value}{name:Str}{v:Value}
structure Reads (B:String)(bmB:List Value):Prop where
 ga:Slot B "__getattribute__" "BaseException.__getattribute__"
 mro:mroOf (.type B)=pure bmB
 no:typeLookup (.type B) "__getattr__" = pure none
 has:bmB.contains (.type "BaseException")=true
end




end L2

namespace L2
open PySem PySem.Spec PyProof.Rows PySem.W


def XL  (M:Model)(A:Around)(env:Env)(R:Value->Shared->Prop):Value->Shared->Prop:=λe s'=>wpAny M A (noteFrame e env) (λ_ s''=>wpAny M A (setFlight e none) (λ_ s3=>R e s3) R s'') R s'
def jmK      : YeY M A env (XL M A env R):=YeY.looking

abbrev cx1  (P:Program)(w:World)(K:Yac)(mg:Str->Option Value)(base:Heap)(N:List Str)(qual:Str)(scope:Scope)(f:Addr)(cd:Value)(A:Around)(outer:List Env)(s:Shared)(H:Hp)(E:XK):Cx:=
 (cxOf (CX1 P w) P w K mg base N qual scope f cd A outer s H E).wish (XL (model P w) (A.deeper (envOfC qual scope s.heap.objs.size f cd)) (envOfC qual scope s.heap.objs.size f cd) λe s'=>CX1 P w outer H s E e s')
def Fun.okX  {K: Yac}{st:Stmt}(F:Fun K x qual st f fd)(S:FnScope N ps (jah st))(len:∀vs H Q E,sp vs H Q E->vs.length=ps.length)
  (hbody:∀cdv (A:Around) outer (s:Shared) H (vs:List V) Q E ,Room k (A.deeper (envOfC qual (jah st) s.heap.objs.size f cdv))->sp vs H Q E->
   ∃t,PSs (cx1 P w K mg base N qual (jah st) f cdv A outer s H E) (jar st) t/\t { nx:=λ_ H'=>Q .non H',rt:=Q } (start N vs) H):FnOk P w K mg base (CX1 P w) (k+1) f fd ps sp:=by
 obtain⟨oc,od,kV,doc,pm,an,cdv,ct,osl,rfl,lk,hcd⟩:=F.ex;refine jnc lk hcd S len λA outer s H vs Q E hr hsp=>?_;obtain⟨t,h,q⟩:=hbody cdv A outer s H vs Q E hr hsp;refine⟨t,λpins s1 σ H1 D I hw=>?_,q⟩;refine Ya2 (h pins s1 σ H1 D (I.wish _) hw) (λ_ _ q=>q.unwish) λe s' z=>?_;show wpAny _ _ (leaving _ e) _ _ s';unfold leaving;exact Yad z
def CX1.out1  {K: Yac}{σ:St} 
  (I:Inv (cx1 P w K mg base N qual scope f cd A outer s H E) pins σ H' s') (l:Lies s.heap.objs.size [] H' s'.heap ea cls dx) (q:E cls dx H'):(cx1 P w K mg base N qual scope f cd A outer s H E).xe (.ref ea) s':=by
 have I0:Inv (cxOf (CX1 P w) P w K mg base N qual scope f cd A outer s H E) [] σ H' s':=I.unwish.pins_of λp hp=>absurd hp (by simp)
 refine jlx (X:=cxOf (CX1 P w) P w K mg base N qual scope f cd A outer s H E) (E:=λe s'=>CX1 P w outer H s E e s') I0 rfl rfl l λh' J l'=>?_;exact⟨ea,H',cls,dx,rfl,J.os,J.bare,J.base,J.hok,l',q⟩
end L2

namespace L2
open PySem PySem.Spec PyProof.Rows PySem.W
open Builtin Builtin.ObjectAttr
noncomputable abbrev bmV  : List Value:=[.type "ValueError",.type "Exception",.type "BaseException",.type "object"]

noncomputable def offN  : List Str:=["__setattr__", "__getattribute__", "__getattr__", "__class__", "word", "at", "row"]
structure XBase (K:Frag)(mg:Str->Option Value)(D:Addr)(mD:Str->Option Value):Prop where
 m:mg "PlanError" = some (.ref D)
 kp:keepIn K (.ref D)=true
 lk:∃q ND bs hd sn sub ab col dd k0 k1 k2 k3 k5 nid,K.lookup D=some (excClassObj "PlanError" q D ND bs bmV hd sn sub ab col dd k0 k1 k2 k3 k5 nid)/\∀h,K.In h->h.Ns ND mD
 no:∀y∈offN,mD y=none
 ni:mD "__init__" = none
structure XCls (K:Frag)(mg:Str->Option Value)(x:Str)(fs:List Str)(C:Addr):Prop where
 m:mg x=some (.ref C)
 kp:keepIn K (.ref C)=true
 ex:∃(D N fI:Addr) (mN mD:Str->Option Value),XBase K mg D mD/\(∃q bs sn sub ab col dd k0 k1 k2 k3 k5,K.lookup C=some (excClassObj x q C N bs (.ref D::bmV) true sn sub ab col dd k0 k1 k2 k3 k5 "ValueError.__new__"))/\(∀h,K.In h->h.Ns N mN)/\(∀y∈offN,mN y=none)/\
  mN "__init__" = some (.ref fI)/\∃(st:Stmt) (qual:Str) (fd:YdY),L2.Fun K "__init__" qual st fI fd/\(∃od osl,K.lookup fI=some ⟨.type "function",od,.func fd,osl⟩)/\FnScope ("self" :: fs) ("self" :: fs) (jah st)/\Binds K fd ("self" :: fs) []/\(∀y∈(("self" : Str)::fs),(jah st).names.lookup y=some .local)/\
  ((∃f p1 p2 p3 pos,fs=[f]/\jar st=[.Assign [.Attribute (.Name "self" p1) f p2] (.Name f p3) pos])\/∃f f2 p1 p2 p3 pos q1 q2 q3 qos,fs=[f,f2]/\f≠f2/\jar st=[.Assign [.Attribute (.Name "self" p1) f p2] (.Name f p3) pos,.Assign [.Attribute (.Name "self" q1) f2 q2] (.Name f2 q3) qos])



end L2

namespace L2
open PySem PySem.Spec PyProof.Rows

end L2

namespace L2
open PySem PySem.Spec PyProof.Rows

end L2

namespace L2
open PySem PySem.Spec PyProof.Rows PySem.W

def jnl  (o:Obj)(q:Str):Prop:=∃vs t,o.data=.fields vs/\vs[1]?=some (.str q t)
noncomputable abbrev frzC  (o:Obj):HO:=.frz o (.ext λ_=>True)
def jl2  (H:Hp)(P:Addr)(pos:Pos)(q:Str):Prop:=
 H P=some (.tbl #[])\/∃c oc,H P=some (.tbl #[rawInt pos.line,rawInt pos.col,.ref c])/\H c=some (frzC oc)/\jnl oc q
def BmAt  (mg:Str->Option Value)(base:Heap):Prop:=∃bm ob,mg "__builtins__" = some (.ref bm)/\bm≠YcZ/\base.get? bm=some ob/\ob.cls=.type "module" /\ ob.dict=some YcZ/\ob.data=.plain

def jhY  (tb:List Addr)(H:Hp):Prop:=∀b,if b∈tb then H b=some (.tbl #[]) else H b=none\/∃o xs,H b=some (.frz o (.lst xs))
def law_callT    {K:Yac}{CX:CXT}{k:Nat}{x:Str}{sp:Sp} 
  (hKl:(K.all λp=>p.2.cls != .type "list")=true) (htb:∀b∈tb,s₁.heap.get? b=some (tabObj #[])/\isCodeTable s₁.heap b/\K.lookup b=none) (hbm:BmAt mg s₁.heap)
  (KX:K.In s₁.heap) (hsys:∃o,K.lookup YaT=some o/\o.cls=.type "dict") (hns:s₁.heap.Ns YaC mg) (hb:s₁.heap.Ns YcZ mb) (hbb:∀x:Str,x ≠ "__name__" -> mb x=Ybw x) (hlim:s₁.heap.NoLimit) (hg:s₁.gens=#[])
  (ha:s₁.heap.get? a=some { cls:=.type "list",data:=.seq vs.toArray }) (hi:IntsAre vs ns) (hl:ns.length<=Yae) (hr:Room k callerA)
  (F:∀base ,K.In base->base.Ns YaC mg->BmAt mg base->FnOk P w K mg base CX k fa fd [x] sp) (hbind:∀(s:Shared) u ,BindsTo s fd ⟨[u],[]⟩ [(x,u)])
  (hsp:∀H (o:Obj),jhY tb H->H a=some (.frz o (.lst (ns.map V.int)))->sp [.ref a] H (λv _=>v=.bl true) λ_ _ _=>False)
  (hCX:∀H e s',CX [] H s₁ (λ_ _ _=>False) e s'->False) :
  codeAny (model P w) callerA (.call (.ref fa) ⟨[.ref a],[]⟩) (λr s'=>r=.ok (.ret (.bool true))/\OldK s₁.heap s'.heap/\s'.os=s₁.os/\AllBare s'.gens) s₁:=by
 have ka:K.lookup a=none:=by
  cases hk:K.lookup a with
  |none=>rfl
  |some o=>
   have e:=KX a o hk;rw[ha]at e;cases e;have:=YbU.mp hKl (a,_) (mem_of_lookupK hk)
   lia
 let oa:Obj:={ cls:=.type "list",data:=.seq vs.toArray }
 have hat:a∉tb:=λz=>by
  simp_all
 obtain⟨H,hH⟩:∃H:Hp,H=λb=>if b∈tb then some (.tbl #[]) else if b=a then some (.frz oa (.lst (ns.map V.int))) else none:=⟨_,rfl⟩
 have H1:∀{b},b∈tb->H b=some (.tbl #[]):=λhb=>by lia
 have H2:H a=some (.frz oa (.lst (ns.map V.int))):=by
  lia
 have H3:∀{b},b∉tb->b≠a->H b=none:=λ{b} h1 h2=>by
  lia
 clear hH;have free:∀{b:Addr} {o:Obj},s₁.heap.get? b=some o->o.cls≠.none->(∀xs n,o.data≠.seq xs n)->H b=none:=λ{b o} e h1 h2=>by
  refine H3 (λz=>?_) λz=>?_
  ·grind
  grind
 have hok:HOk P w H s₁.heap:=λb u e=>by
  by_cases h1:b∈tb
  ·rw[H1 h1]at e;cases e;exact(htb b h1).1
  ·by_cases h2:b=a
   ·subst h2;rw[H2]at e;cases e;exact⟨ha,by simp_all,vs,_,jdW hi,ha⟩
   simp_all
 have nsK:∀{b:Addr} {m:Str->Option Value},s₁.heap.Ns b m->(hidT s₁.heap H).Ns b m:=λ{b m} ⟨o,es,ep,e,d,r⟩=>by
  refine⟨o,es,ep,jdM e (H3 (λz=>?_) λz=>?_),d,r⟩
  ·grind
  lia
 have hKb:K.In (hidT s₁.heap H):=λb o e=>jdM (KX b o e) (H3 (λz=>by grind) λz=>by lia)
 have hM:Mod K mg (hidT s₁.heap H):=⟨hKb,nsK hns,⟨mb,nsK hb,hbb⟩,let ⟨mc,h1,h2⟩:=hlim;⟨mc,nsK h1,h2⟩,hsys⟩
 have hBb:BmAt mg (hidT s₁.heap H):=by
  obtain⟨bm,ob,b1,b2,b3,b4,b5,b6⟩:=hbm;exact⟨bm,ob,b1,b2,jdM b3 (free b3 (by lia) (by lia)),b4,b5,b6⟩
 have e0:Env0 P w K mg (hidT s₁.heap H) callerA [] s₁ H:=⟨rfl,hM,λb o e=>jjw e,YcH (jgN _ _),trivial,λb hb=>(nomatch hb),hok,.of_eq hg⟩;have only:jhY tb H:=λb=>by
  grind
 refine Ycr ((F _ hKb (nsK hns) hBb).run callerA [] s₁ H ⟨[.ref a],[]⟩ [.ref a] [.ref a] _ _ hr e0 (hbind s₁ (.ref a)) (.cons rfl .nil) (hsp H oa only H2)) λr s' h=>?_
 match r,h with
 |.error e,h=>exact(hCX H e s' h).elim
 |.ok (.ret u),h=>
  obtain⟨v,H',os,bare,un,hok',r',q⟩:=h;have q':v=.bl true:=q;subst q';obtain rfl:u=YdG true:=r';refine⟨rfl,⟨λb o e=>?_,λb o e=>un.there b o e (by simp)⟩,os,bare⟩
  by_cases h1:b∈tb
  ·obtain⟨e1,ht,_⟩:=htb b h1;rw[e]at e1;cases e1;obtain⟨more,e2⟩:=un.tbls b _ (H1 h1);exact .inr (.inl ⟨ht,rfl,#[],more,rfl,hok' b _ e2⟩)
  ·by_cases h2:b=a
   ·subst h2;obtain⟨e2,_⟩:=hok' b _ (un.frzs b _ _ H2);rw[ha]at e;cases e;exact .inl e2
   ·exact .inl (un.keep b o e (H3 h1 h2) (by intro z;exact(nomatch z)) (by simp))
def walk_ofT  {l:Yc8}{K:Params->Yac}{CX:World->CXT}{sp:World->Sp}{tbs:List (Str×Addr×Addr)}
  (hKl:∀w:World,((K w.params).all λp=>p.2.cls != .type "list")=true) (htb:∀(w:World),∀t∈tbs,(∃dr,(recsOf q).find? (λe=>e.name==t.1)=some dr)/\tabIn (K w.params) t.1=some (t.2.1,t.2.2)/\(K w.params).lookup t.2.2=none)
  (hn:l.most=some n) (hn2:n<=Yae) (hdf:d.params.defaults=[]) (hr:Room k callerA)
  (hY:∀(w:World) (h:Heap),YP w h->(K w.params).In h) (hsy:∀w:World,∃o,(K w.params).lookup YaT=some o/\o.cls=.type "dict")
  (F:∀(w:World) mg fa (h:Heap),(K w.params).In h->h.Ns YaC mg->mg d.name=some (.ref fa)->
   ∃fd ,(∀(s:Shared) u ,BindsTo s fd ⟨[u],[]⟩ [(x,u)])/\
    ∀base ,(K w.params).In base->base.Ns YaC mg->BmAt mg base->FnOk l.prog w (K w.params) mg base (CX w) k fa fd [x] (sp w))
  (hsp:∀(w:World) H (o:Obj) a (ns:List Int),ns.length<=n->jhY (tbs.map (·.2.2)) H->H a=some (.frz o (.lst (ns.map V.int)))->sp w [.ref a] H (λv _=>v=.bl true) λ_ _ _=>False)
  (hCX:∀(w:World) H (s:Shared) (e:Value) s' ,CX w [] H s (λ_ _ _=>False) e s'->False) :
  YeX q loose XP YP l.row.toRowW d [] (λf vs=>YeE f vs):=by
 refine Att.attach_call hn hdf λw s₀ s₁ mg mb fa o pm cd doc a vs ns G Y ho hd hcd hmg hobj hints hlen hg=>?_;have kx:=hY w _ Y;obtain⟨fd,hb,hF⟩:=F w mg fa _ kx G.T.g hmg;refine law_callT (tb:=tbs.map (·.2.2)) (hKl w) (λb hb=>?_) ?_ kx (hsy w) G.T.g G.T.b G.T.builtins G.T.nolimit hg hobj hints (Yag hlen hn2) hr hF hb (λH o hO hS=>hsp w H o a ns hlen hO hS) λH e s'=>hCX w H s₁ e s'
 ·obtain⟨t,ht,rfl⟩:=List.mem_map.mp hb;obtain⟨⟨dr,h1⟩,h2,h3⟩:=htb w t ht;obtain⟨c1,c2⟩:=tab_of G.T kx h1 h2;exact⟨c2,(c1.tab c2).isCodeTable,h3⟩
 ·obtain⟨bm,ob,b1,b2,b3,b4,b5,b6⟩:=G.T.bmain;exact⟨bm,ob,b1,b2,b3,b4,b5,b6⟩
end L2

namespace L2
open PySem PySem.Spec PyProof.Rows
open Sem (wp)
open AutoSeq1 (wpAny_loadPart')



end L2

namespace L2
open PySem PySem.Spec PyProof.Rows

def jgl  : OpR X (YaE .LtE) (λx y H Q=>∃i j,x=.str i/\y=.str j/\Q (.bl (!decide (j.cps.toList<i.cps.toList))) H):=by
 intro pins s σ H x y v u Q I rx ry h;obtain⟨i,j,rfl,rfl,q⟩:=h;obtain⟨t,rfl⟩:=rx;obtain⟨t',rfl⟩:=ry;exact PySem.P.le_str (jaj I q rfl)
def jdT  : jbl X (.type "int") (λxs H Q=>∃z n,xs=[.str z]/\PySem.intText? z=some n/\z.length<=640/\Q (.int n) H):=by
 intro pins s σ H xs us Q I r h;obtain⟨z,n,rfl,h1,h2,q⟩:=h;obtain⟨u,rfl,rx⟩:=jcr r;obtain⟨t,rfl⟩:=rx;exact PySem.W.KIN.call_text h1 h2 ⟨.int n,H,I.tok _,⟨_,rfl⟩,q⟩
noncomputable def Its  (x:Str):It:=⟨λi _=>i<x.cps.size,λi H y H'=>H'=H/\∃c,x.cps[i]?=some c/\y=.str ⟨#[c]⟩,λi _=>x.cps.size<=i⟩
def jhd    {K:Yac} x t it:Turn P w K tg (Its x) [it] it (λi h=>h.IsStrIter it "str_ascii_iterator" x t i) where
 mem:=by simp
 obj:=λi h st b hb=>by
  obtain rfl:b=it:=by simp_all
  obtain⟨o,e,c,d⟩:=st
  simp_all
 keep:=λi h h' st k=>let ⟨o,e,r⟩:=st;⟨o,k it (by simp) o e,r⟩
 item:=by
  intro X hP hw hK hc i pins s σ H E I hf st hg;subst hP hw hK;obtain⟨f0,f1,f2,f3,f4,f5⟩:=hf it (by simp)
  have hg:i<x.cps.size:=hg;have hx:x.cps[i]?=some x.cps[i]:=by simp[hg]
  refine wpAny_pyNext_ascii_item st hx λh' st' sb=>?_;have I1:Inv X pins σ H { s with heap:=h',toks:=s.toks+1 }:=I.turned (t':=s.toks+1) (λb o hb e=>(sb.2 b hb).trans e) f0 f1 f3 f4 f5
  obtain⟨o,e,c,d⟩:=id st';exact⟨_,rfl,jhM (s:={ s with heap:=h',toks:=s.toks+1 }) e c d (by decide) ⟨.str ⟨#[x.cps[i]]⟩,H,I1,⟨_,rfl⟩,⟨rfl,_,hx,rfl⟩,st',λb hb=>(hf b hb).1⟩⟩
 done:=by
  intro X hP hw hK hc i pins s σ H E I hf st hg;subst hP hw hK;obtain⟨f0,f1,f2,f3,f4,f5⟩:=hf it (by simp)
  have hg:x.cps.size<=i:=hg;exact wpAny_pyNext_ascii_end (I.ok.hd hc) st (by simp_all) λh' eb=>⟨rfl,I.turned (t':=s.toks) (λb o hb e=>eb b o hb e) f0 f1 f3 f4 f5⟩
 self:=λ_ _ _ _ _ st h=>wpAny_pyIter_striter_ascii st h
def iStr  (tl:TE):TI:=λσ H R=>tl σ H λx H1=>∃z:Str,x=.str z/\z.cps.all (·< 128)=true/\R (Its z) H1
def jkN    (hl:PE X l tl):PI X tg l (iStr tl):=by
 intro pins s σ H R I h;refine thn (hl pins s σ H _ I h) λv s1 ⟨x,H1,I1,r1,z,e,ha,q⟩=>?_;subst e;obtain⟨t,rfl⟩:=r1;refine wpAny_pyIter_ascii ha ?_;refine⟨s1.heap.objs.size,[s1.heap.objs.size],_,_,H1,rfl,I1.kept (t':=s1.toks) λb o e=>Yaf _ e,jhd z t _,⟨_,Yar _ rfl,rfl,rfl⟩,λb hb=>?_,q⟩;obtain rfl:b=s1.heap.objs.size:=by simp_all
 exact I1.fpOk (Yaa _) (I1.hok.fresh (Yaa _))
end L2

namespace L2
open PySem PySem.Spec PyProof.Rows Builtin Builtin.Str

end L2

namespace L2
open PySem PySem.Spec PyProof.Rows
section
variable {prog:Program}{w:World}{K:Type}[DecidableEq K]{knd:KeyKind prog w K}{A:Around}{E:Value->Shared->Prop}{s:Shared}
end



end L2

namespace L2
open PySem PySem.Spec PyProof.Rows
open Sem (wp)


end L2

namespace L2
open PySem PySem.Spec PyProof.Rows PySem.W


end L2

namespace L2
open PySem PySem.Spec PyProof.Rows





noncomputable abbrev setO  (es:Array (Int×Value))(ep:Nat)(t:SetTable):Obj:=⟨.type "set",none,.set es ep t,#[]⟩

section
variable {P:Program}{w:World}{A:Around}{E:Value->Shared->Prop}{s:Shared}
def je7     (h:wants Q E r s):(∃v,r=.ok (.ret v)/\Q v s)\/∃e,r=.error e/\E e s:=by
 cases r with
 |error e=>exact .inr ⟨e,rfl,h⟩
 |ok f=>cases f<;>first|exact .inl ⟨_,rfl,h⟩|exact h.elim
def jhl    (mk:codeAny (model P w) A.in1 (.call (.builtin "set.__new__") ⟨[.type "set",a],[]⟩) (wants Q1 E) s)
  (ini:∀o s1,Q1 o s1->s1.TypeIs o "set" /\ codeAny (model P w) A.in1 (.call (.builtin "set.__init__") ⟨[o,a],[]⟩) (wants (λr s2=>r=.none/\Q o s2) E) s1):wpAny (model P w) A (call (.type "set") [a]) Q E s:=by
 have f1:=F.called_set.notType;have f2:=F.called_set.canCreate;have f3:=F.called_set.made;have f4:=F.called_set.sub;have f5:=F.called_set.init.lookup;have f6:=F.typeCall_set_1 a;obtain⟨c,tl,f7⟩:=F.called_set.mro;have enter:∀{R:Result->Shared->Prop},wpAny (model P w) A.in1 (Builtin.«type.__call__» ⟨[.type "set",a],[]⟩) (λfin s'=>match fin with|.done f=>R (.ok f) s'|.again c'=>c'.quiet=true/\codeAny (model P w) A c' R s') (λe s'=>R (.error e) s') s->
   codeAny (model P w) A (.builtin "type.__call__" ⟨[.type "set",a],[]⟩) R s:=λz=>codeAny_builtin F.entry_type_call ((Around.under_plain (weight_type_call_type "set" [a] []) rfl).symm ▸ z)
 refine wpAny_call (codeAny_of_tree ?_)
 change wpAny _ _ (callAny (YdF "set") ⟨[a],[]⟩) _ _ _
 refine Yak ⟨Code.quiet_builtin _ (by decide +kernel),enter ?_⟩
 repeat (any_goals (first|assumption|wp_step))
 refine Ycr mk λr s1 hr=>?_;rcases je7 hr with⟨o,rfl,ho⟩|⟨e,rfl,he⟩
 ·obtain⟨ty,run⟩:=ini o s1 ho;have f8:=F.called_set.init.bind o
  repeat (any_goals (first|assumption|wp_step))
  refine Ycr run λr2 s2 hr2=>?_;rcases je7 hr2 with⟨v,rfl,rfl,q⟩|⟨e,rfl,he⟩
  ·repeat (any_goals (first|assumption|wp_step))
  ·exact he
 ·exact he
noncomputable abbrev jdU  (w:World):Bool:=w.params.followText "set-order"
def jiT    (h:Q1 (.ref s.heap.objs.size) { s with heap:=s.heap.push (setO #[] 0 (.fresh 0 0 (!jdU w))) }) :
  codeAny (model P w) A (.call (.builtin "set.__new__") ⟨[.type "set",a],[]⟩) (wants Q1 E) s:=by
 have sub:=sub_set_self;refine codeAny_call_builtin F.plain_set_new F.entry_set_new (wpAny_of_eq (F.newCall_set_1 a) ?_);rcases s with⟨hp,g,d,tk,os⟩;unfold Builtin.«set.__new__» Ye4
 wp_walk
 refine wpAny_askSetting (Yak (Yad (wpAny_alloc (Yak (Yak ?_)))));exact h
end
def SetT  (P:Program)(w:World)(h:Heap)(S:Addr)(xs:List Str):Prop:=
 ∃ds:List Str,ds.Nodup/\(∀x,x∈ds↔x∈xs)/\ds.length<=xs.length/\h.SetOf (YcW P w) S (λx=>decide (x∈ds)) ds.length
def jdV  (vs:List Value)(xs:List Str):Prop:=xs.length=vs.length/\∀(i:Nat) (v:Value),vs[i]?=some v->∃x t,v=.str x t/\xs[i]?=some x
section
variable {P:Program}{w:World}{A:Around}{E:Value->Shared->Prop}{s:Shared}
def SetT.at  {h h':Heap}(k:SetT P w h S xs)(e:∀o,h.get? S=some o->h'.get? S=some o):SetT P w h' S xs:=by
 obtain⟨ds,a,b,c,o,es,ep,t,ho,r⟩:=k;exact⟨ds,a,b,c,o,es,ep,t,e _ ho,r⟩
def SetT.fresh  (h:Heap):SetT P w (h.push (setO #[] 0 (.fresh 0 0 (!jdU w)))) h.objs.size []:=
 ⟨[],List.nodup_nil,λ_=>Iff.rfl,Yaa _,_,#[],0,_,Yar _ rfl,⟨rfl,rfl,rfl⟩,rfl,λe he=>absurd he (by simp),by simp,by decide,rfl,rfl⟩
def SetT.add       (k:SetT P w s.heap S xs)(hb:xs.length+1<YeT)(hq:∀b h' tk,SetT P w h' S (xs++[x])->Ydb S s.heap h'->Q b { s with heap:=h',toks:=tk }) :
  wpAny (model P w) A (setAdd S (.str x u)) Q E s:=by
 obtain⟨ds,nd,mem,sz,so⟩:=k;have hk:(YcW P w).is x (.str x u)=true:=by simp[YcW,YdP]
 unfold setAdd;refine Ybn (Yad ((YcW P w).pyHash hk ?_));refine wpAny_setAddHashed_of (s:={ s with toks:=s.toks+1 }) hk rfl so (by lia) λh' sb so'=>hq _ h' _ ?_ sb
 by_cases hx:x∈ds
 ·refine⟨ds,nd,λz=>?_,by rw[Yaq];lia,?_⟩
  ·rw[mem z,Yds,List.mem_singleton];exact⟨.inl,λh=>h.elim id λe=>(mem z).mp (e ▸ hx)⟩
  ·have e:(λk'=>decide (k'∈ds)||decide (k'=x))=λk'=>decide (k'∈ds):=funext λz=>by by_cases c:z=x<;>simp_all
   rw[e,if_pos (by simpa using hx)]at so'
   exact so'
 ·refine⟨ds++[x],List.nodup_append.mpr ⟨nd,by simp,λa ha b hb e=>hx (by simp_all)⟩,λz=>?_,by simp only[Yaq,Ycy];lia,?_⟩
  ·rw[Yds,Yds,mem z]
  ·have e:(λk'=>decide (k'∈ds)||decide (k'=x))=λk'=>decide (k'∈ds++[x]):=funext λz=>by simp
   rw[e,if_neg (by simpa using hx)]at so'
   rw[Yaq,Ycy];exact so'
theorem jel      (hh:A.handled=none)(hi:jdV items.toList xs)(hSi:S≠it)(hSa:S≠a)(hai:a≠it)(hb:items.size+1<YeT) :
  ∀n i (s:Shared),items.size-i=n->i<=items.size->s.heap.IsTupleIter it a i->s.heap.IsTuple a items->SetT P w s.heap S (xs.take i)->
   (∀h' tk,SetT P w h' S xs->(∀b o,b≠S->b≠it->s.heap.get? b=some o->h'.get? b=some o)->R (.ok (.ret .none)) { s with heap:=h',toks:=tk })->codeAny (model P w) A (.builtin "set.update.loop" ⟨[.ref S,.ref it],[]⟩) R s
 |n,i,s,hn,hle,st,tp,k,q=>by
  have nl:xs.length=items.size:=by simpa using hi.1
  refine codeAny_builtin F.entry_set_update_loop ((Around.under_plainId Yen _).symm ▸ Yad (m:=pyNext (.ref it)) ?_)
  match n,hn with
  |0,hn=>
   obtain rfl:i=items.size:=by lia
   refine YeJ hh st tp (by simp) λh' sb=>Yak ?_
   rw[Yd4 (by lia)]at k
   exact q h' s.toks (k.at λo g=>sb S o hSi g) λb o _ hbi g=>sb b o hbi g
  |n+1,hn=>
   have lt:i<items.size:=by lia
   obtain⟨z,t,ez,en⟩:=hi.2 i _ (Ybf (by simpa using lt))
   refine Yex st tp (Array.getElem?_eq_getElem lt) λh1 st1 sb1=>?_;have ez:items[i]=.str z t:=by simpa using ez
   rw[ez];have k1:SetT P w h1 S (xs.take i):=k.at λo g=>sb1.extBut S o hSi g;refine Yad (Ybn (SetT.add k1 (by rw[Ya7];lia) λb h2 tk2 k2 sb2=>Yak ⟨plainId_quiet Yen _,?_⟩))
   have tk:xs.take i++[z]=xs.take (i+1):=by rw[YeP,en];rfl
   rw[tk]at k2;exact jel hh hi hSi hSa hai hb n (i+1) _ (by lia) lt (st1.extBut sb2.extBut (Ne.symm hSi)) ((tp.extBut sb1.extBut hai).extBut sb2.extBut (Ne.symm hSa)) k2 λh' tk' k' kp=>q h' tk' k' λb o hb hbi g=>kp b o hb hbi (sb2.extBut b o hb (sb1.extBut b o hbi g))
def jfQ      (hh:A.handled=none)(ht:s.heap.IsTuple a items)(hi:jdV items.toList xs)(hb:items.size+1<YeT)
  (hq:∀h' tk,SetT P w h' s.heap.objs.size xs->(∀b o,s.heap.get? b=some o->h'.get? b=some o)->Q (.ref s.heap.objs.size) { s with heap:=h',toks:=tk }):wpAny (model P w) A (call (.type "set") [.ref a]) Q E s:=by
 have la:a<s.heap.objs.size:=by obtain⟨o,ho,_⟩:=ht;exact Yan ho
 refine jhl (Q1:=λv s1=>v=.ref s.heap.objs.size/\s1={ s with heap:=s.heap.push (setO #[] 0 (.fresh 0 0 (!jdU w))) }) (jiT ⟨rfl,rfl⟩) ?_
 rintro _ _ ⟨rfl,rfl⟩;have gS:(s.heap.push (setO #[] 0 (.fresh 0 0 (!jdU w)))).get? s.heap.objs.size=some (setO #[] 0 (.fresh 0 0 (!jdU w))):=Yar _ rfl;have ty:Shared.TypeIs { s with heap:=s.heap.push (setO #[] 0 (.fresh 0 0 (!jdU w))) } (.ref s.heap.objs.size) "set" := ⟨_,gS,rfl⟩
 refine⟨ty,codeAny_call_builtin F.called_set.init.plain F.entry_set_init (check_set_init_1 ty ?_)⟩;have tp:=ht.push (setO #[] 0 (.fresh 0 0 (!jdU w)));obtain⟨⟨c,dc,dt,sl⟩,ga,e1,n,e2⟩:=id tp;dsimp only at e1 e2;subst e1 e2;have sub1:isSubtype (.type "tuple") (.type "set")=pure false:=by rw[isSubtype_type];kernel_rfl
 have sub2:isSubtype (.type "tuple") (.type "frozenset")=pure false:=by rw[isSubtype_type];kernel_rfl
 have ne:(YdF "tuple" == YdF "dict")=false:=by decide
 unfold Builtin.«set.__init__» noKeywords Ye3;generalize hg:pyIter=it
 wp_walk
 subst hg;refine wpAny_pyIter_tuple tp ?_;have sz:(s.heap.push (setO #[] 0 (.fresh 0 0 (!jdU w)))).objs.size=s.heap.objs.size+1:=YdM ..;have st:=Yar (s.heap.push (setO #[] 0 (.fresh 0 0 (!jdU w)))) (o:=⟨.type "tuple_iterator",none,.fields #[.ref a,.int 0 0],#[]⟩) rfl;dsimp only;rw[sz]at st ⊢;refine Yad (wpAny_runValue (jel (A:=A.in1.in1) (xs:=xs) hh hi (YaH (Nat.lt_succ_self _)) (Nat.ne_of_gt la) (YaH (YeZ la)) hb items.size 0 _ rfl (YaN _) ⟨_,st,rfl,rfl⟩ (tp.push _) ((SetT.fresh s.heap).at λo g=>Yaf _ g) λh' tk k kp=>?_));refine Yak (Yak ⟨rfl,hq h' tk k λb o g=>?_⟩);have lb:=Yan g;exact kp b o (YaH lb) (YaH (YeZ lb)) (Yaf _ (Yaf _ g))
end
section
variable {X:Cx}
def jhc    (r:Vals (xs.map V.str) us):jdV us xs:=by
 refine⟨by simpa using r.length,λi v h=>?_⟩
 obtain⟨v',e,rv⟩:=jhb r h;rw[YaV]at e;cases c:xs[i]? with
 |none=>rw[c]at e;cases e
 |some x=>
  rw[c]at e;cases e;obtain⟨t,rfl⟩:=rv;exact⟨x,t,rfl,rfl⟩
def jmp  (K:Yac)(ta:TA):TE:=λσ H Q=>ta σ H λvs H1=>∃(t:Addr) (xs:List Str),vs=[.ref t]/\SqT K H1 t (xs.map V.str)/\xs.length<4000/\∀ds:List Str,ds.Nodup->(∀x,x∈ds↔x∈xs)->Q (.int ds.length) H1
def jjd {a:Expr}{ta:TA}{p p2 pos pos2:Pos}(hc:X.calm=true)(h1:Gl X "len")(m1:X.mg "len" = none)(h2:Gl X "set")(m2:X.mg "set" = none)(ha:PA X [a] ta)(hs:Yaz [a] X.env=[(false,eval a X.env)]:=by rfl)
  (hs2:Yaz [.Call (.Name "set" p2) [a] [] pos2] X.env=[(false,eval (.Call (.Name "set" p2) [a] [] pos2) X.env)]:=by rfl):PE X (.Call (.Name "len" p) [.Call (.Name "set" p2) [a] [] pos2] [] pos) (jmp X.K ta):=by
 intro pins s σ H Q I h;refine YbN (jdn I h1 m1 (u:=.builtin "len") (by decide +kernel) (YcG ?_ hs2 rfl) (by decide) (by decide))
 rw[hs2];refine Yew (rest:=[]) (Call_ (jdn I h2 m2 boot_set (YbK (thn (ha pos2 pins s σ H _ I h) λus s1 ⟨vs,H1,I1,r1,q1⟩=>?_) hs rfl)));obtain⟨t,xs,rfl,ht,h4k,q⟩:=q1;obtain⟨u,rfl,rx⟩:=jcr r1;cases rx;obtain⟨its,rv,tp,hz⟩:=I1.tuple ht;have hI:jdV its xs:=jhc rv;have il:=hI.1;refine jfQ (xs:=xs) (I1.ok.hd hc) tp (by simpa using hI) (by rw[Yaj,<- il];unfold YeT;lia) λh' tk k kp=>Yak ?_
 obtain⟨ds,nd,mem,sz,o,es,ep,tb,ho,hex,hd,hel,hm,hb,hf,hn⟩:=k;refine call_len_set (s:={ s1 with heap:=h',toks:=tk }) ho hex hd hf (by rw[hn];lia) ?_
 exact⟨.int ds.length,H1,I1.kept kp,⟨_,by rw[hn]⟩,q ds nd mem⟩
end

theorem jc5   : ∀{ys:List Str} {us },Vals (ys.map V.str) us->us.countP (eqU (.str n))=ys.count n
 |[],_,.nil=>rfl
 |y::r,_,.cons ⟨t,e⟩ q=>by
  subst e;rw[List.countP_cons,List.count_cons,jc5 q];rfl
def jiZ  (K:Yac):V->List V->Hp->VK->Prop:=λx vs H Q=>∃(p:Addr) (ys:List Str) (n:Str),x=.ref p/\vs=[.str n]/\SqT K H p (ys.map V.str)/\Q (.int (ys.count n:Nat)) H
def jgx  : MtR X "tuple.count" (jiZ X.K):=by
 intro pins s σ H x vs v us Q I rx rv h;obtain⟨p,ys,n,rfl,rfl,hq,q⟩:=h;cases rx;obtain⟨u,rfl,t,rfl⟩:=Vals.one rv;obtain⟨its,r,pl,hz⟩:=I.tuple hq;obtain⟨⟨cls,dd,data,sl⟩,ho,hc,m,hd⟩:=id pl;simp only at hc hd;subst hc hd;have fs:(ys.map V.str).all L2.flatV=true:=by rw[YbU];intro x hx;obtain⟨y,_,rfl⟩:=List.mem_map.mp hx;rfl
 refine Ybc F.slot_tuple_count ⟨_,ho,rfl⟩ F.entry_tuple_count (F.args_tuple_count_2 _ _)
  (SeqAt.tuple_countAt p its.toArray m dd sl (.str n t) (eqU (.str n))) ⟨ho,λy hy=>jbG (x:=.str n) ⟨t,rfl⟩ rfl r fs y (by simpa using hy),⟨.int _,H,I.tok _,⟨_,rfl⟩,(jc5 r).symm ▸ q⟩⟩

def jkC  : V->List V->Hp->VK->Prop:=λx vs H Q=>∃z:Str,x=.str z/\vs=[]/\YcF (Yco z).length=false/\Q (.str (Yco z)) H
def jhJ  : MtR X "str.upper" jkC:=by
 intro pins s σ H x vs v us Q I rx rv h;obtain⟨z,rfl,rfl,hz,q⟩:=h;obtain⟨t,rfl⟩:=rx;cases rv;exact Ybc F.slot_str_upper (YbV _ _ _) F.entry_str_upper (F.args_str_upper_1 _) (gives_str_upper z t hz).meets ⟨PySem.fit_le hz,⟨.str _,H,I.tok _,⟨_,rfl⟩,q⟩⟩
end L2

namespace L2
open PySem PySem.Spec PyProof.Rows PySem.SeqAt PySem.MeetsSeq

def jeA         b u (ho:s.heap.get? l=some o)(hc:o.cls=.type "dict")(hd:o.data=.dict es n)(hu:A.units<cLine):RcAt A s (.str b u) (.ref l) false:=λprog w E Q h=>by
 obtain⟨cls,dd,data,sl⟩:=o;simp only at hc hd;subst hc hd;exact rc_eq_decline_or (k:=false) (YbV s b u) ⟨_,ho,rfl⟩ (by decide) F.sub_dict_str F.slot_str_eq Ye2
  (λ_ hq=>Ybc F.slot_str_eq (YbV s b u) F.entry_str_eq (F.args_str_eq_2 _ _) (jaI b u l es n dd sl) ⟨ho,hq⟩)
  (λ_ hq=>Ybc Ye2 ⟨_,ho,rfl⟩ F.entry_dict_eq (F.args_dict_eq_2 _ _) (jaJ l es n dd sl b u) ⟨ho,hq⟩)
  (λ_ hq=>wpAny_of_eq (rfl:isSame (.str b u) (.ref l)=pure false) hq) (.inr hu) h
def EqAt.str_dict         b u (ho:s.heap.get? l=some o)(hc:o.cls=.type "dict")(hd:o.data=.dict es n)(hu:A.units<cLine):EqAt A s (.str b u) (.ref l) false:=λprog w E Q h=>by
 unfold eqBool;exact Ybn (wpAny_ite_split (λq=>absurd (eq_of_beq q) nofun) λ_=>Yad (jeA b u ho hc hd hu prog w E _ (Ybi h)))
def rInS  (K:Yac)(neg:Bool):R2:=λx y H Q=>∃(a p:Addr) (zs:List Str),x=.ref a/\((∃xs,SqT K H a xs\/SqL K H a xs)\/∃kvs,H a=some (.dK kvs))/\y=.ref p/\SqT K H p (zs.map V.str)/\Q (.bl neg) H
theorem jfe  : ∀{zs:List Str} {us } {w },Vals (zs.map V.str) us->w∈us->∃z t,w=.str z t
 |[],_,_,.nil,h=>nomatch h
 |_::_,_,_,.cons ⟨t,e⟩ q,h=>by
  rcases Yas.mp h with rfl|h
  ·exact⟨_,t,e⟩
  ·exact jfe q h
def jij   {σ:St}{zs:List Str}(hu:A.units<cLine)(I:Inv X pins σ H s)(ha:(∃xs,SqT X.K H a xs\/SqL X.K H a xs)\/∃kvs,H a=some (.dK kvs))(r:Vals (zs.map V.str) us):∀w,w∈us->YdH A s w (.ref a) false:=by
 intro w hw;obtain⟨z,t,rfl⟩:=jfe r hw;rcases ha with⟨xs,ha|ha⟩|⟨kvs,ha⟩
 ·obtain⟨its,rv,pa,_⟩:=I.tuple ha;exact .str_tuple z t (show s.heap.IsTuple a its.toArray from pa) hu
 ·obtain⟨its,rv,pa,_⟩:=I.list ha;exact .str_list z t pa.isList hu
 ·obtain⟨_,_,vs,_,o,es,ep,ho,hx,hd,_⟩:kvs.length<=Yae/\(a==YaT)=false/\∃vs,KV kvs vs/\s.heap.DictOf (jao X.prog X.w) a vs:=I.hok a _ ha;exact EqAt.str_dict z t ho hx.1 hd hu
def jle   (hr:Room k X.A):OpR X (YaE .In) (rInS X.K false):=by
 intro pins s σ H x y v u Q I rx ry h;obtain⟨a,p,zs,rfl,ha,rfl,hp,q⟩:=h;cases rx;cases ry;obtain⟨its,r,pl,_⟩:=I.tuple hp;have h1:=jij (A:=X.A.in1) (by have:=hr.un;simp only[Around.in1]at *;lia) I ha r
 refine Yc6 (λ_=>false) pl (λw hw=>h1 w (by simp_all)) ⟨.bl _,H,I,rfl,?_⟩
 rw[show its.toArray.any (λ_=>false)=false by simp]
 exact q
def jgj   (hr:Room k X.A):OpR X (YaE .NotIn) (rInS X.K true):=by
 intro pins s σ H x y v u Q I rx ry h;obtain⟨a,p,zs,rfl,ha,rfl,hp,q⟩:=h;cases rx;cases ry;obtain⟨its,r,pl,_⟩:=I.tuple hp;have h1:=jij (A:=X.A.in1) (by have:=hr.un;simp only[Around.in1]at *;lia) I ha r
 refine YcM (λ_=>false) pl (λw hw=>h1 w (by simp_all)) ⟨.bl _,H,I,rfl,?_⟩
 rw[show its.toArray.any (λ_=>false)=false by simp]
 exact q
end L2

namespace Z
open PySem L2
inductive U where
 |non|bl (b:Bool)|int (i:Int)|str (x:Str)|tup (xs:List U)|loc (a:Addr)|fn (n:Nat)|ty (n:String)
 |exc (c:Nat) (fs:List U)|own (n:Nat)|clo (n:Nat) (cs:List U)
inductive MO where
 |lst (xs:List U)|fro (xs:List U)|dK (kvs:List (Key×U))|dT (kvs:List (List Key×U))|frd (o:Obj) (kvs:List (List Key×U))|frk (o:Obj) (kvs:List (Key×U))
abbrev Gp:=Addr->Option MO
noncomputable def gup  (G:Gp)(a:Addr)(o:MO):Gp:=λb=>if b=a then some o else G b
structure New (G:Gp)(p:Addr)(o:MO)(G':Gp):Prop where
 no:G p=none
 eq:G'=gup G p o
structure Put (G:Gp)(a:Addr)(o:MO)(G':Gp):Prop where
 eq:G'=gup G a o
structure XV where
 c:Nat
 fs:List U
abbrev Sg:=List (Option U)
abbrev K1:=U->Gp->Prop
abbrev KX:=XV->Gp->Prop
def newO  (G:Gp)(o:MO)(Q:K1):Prop:=∀p G',New G p o G'->Q (.loc p) G'
def putO  (G:Gp)(a:Addr)(o:MO)(Q:Gp->Prop):Prop:=∀G',Put G a o G'->Q G'
def newO.at     (h:newO G o Q):∀p,G p=none->Q (.loc p) (gup G p o):=λp hp=>h p _ ⟨hp,rfl⟩
def putO.at      (h:putO G a o Q):Q (gup G a o):=h _ ⟨rfl⟩
structure En where
 nx:Sg->Gp->Prop
 rt:K1
 ex:XV->Sg->Gp->Prop
noncomputable def lsG  (G:Gp)(a:Addr):Option (List U):=match G a with
 |some (.lst xs)=>some xs
 |some (.fro xs)=>some xs
 |_=>none
noncomputable def kU  : U->Option Key
 |.int i=>some (.inl i)
 |.str x=>some (.inr x)
 |_=>none
noncomputable def kUs  : List U->Option (List Key)
 |[]=>some []
 |u::r=>match kU u,kUs r with
  |some k,some ks=>some (k::ks)
  |_,_=>none
noncomputable def Ku  : Key->U
 |.inl i=>.int i
 |.inr x=>.str x
section
variable {κ α:Type}[DecidableEq κ]
noncomputable def dGet (kvs:List (κ×α))(k:κ):Option α:=(kvs.find? λkv=>decide (kv.1=k)).map (·.2)
noncomputable def dPut (kvs:List (κ×α))(k:κ)(v:α):List (κ×α):=
 if (kvs.any λkv=>decide (kv.1=k))=true then kvs.map (λkv=>if kv.1=k then (kv.1,v) else kv) else kvs++[(k,v)]
def jc3 (more:List (κ×α)):List (κ×α):=more.foldl (λacc kv=>dPut acc kv.1 kv.2) []
end
def cut  {α:Type}(xs:List α)(lo hi:Option Int):List α:=(xs.drop (HT.sIx xs.length 0 lo)).take (HT.sIx xs.length xs.length hi-HT.sIx xs.length 0 lo)
mutual
inductive DU (G:Gp):U->PyData->Prop
 |non:DU G .non .none
 |bl (b:Bool):DU G (.bl b) (.bool b)
 |int (i:Int):DU G (.int i) (.int i)
 |str (x:Str):DU G (.str x) (.str x)
 |tup {us:List U} {ds:List PyData}:DUs G us ds->DU G (.tup us) (.tuple ds)
 |lst {a:Addr} {us:List U} {ds:List PyData}:lsG G a=some us->DUs G us ds->DU G (.loc a) (.list ds)
 |dic {a:Addr}:G a=some (.dK [])->DU G (.loc a) (.dict [])
inductive DUs (G:Gp):List U->List PyData->Prop
 |nil:DUs G [] []
 |cons {u:U} {d:PyData} {us:List U} {ds:List PyData}:DU G u d->DUs G us ds->DUs G (u::us) (d::ds)
end
def addU  : U->U->Gp->K1->Prop
 |.int i,.int j,G,Q=>Q (.int (i+j)) G
 |.str x,.str y,G,Q=>x.length+y.length<=Yae/\Q (.str (x++y)) G
 |.tup xs,.tup ys,G,Q=>xs.length+ys.length<=Yae/\Q (.tup (xs++ys)) G
 |.loc a,.loc b,G,Q=>∃xs ys,G a=some (.lst xs)/\G b=some (.lst ys)/\xs.length+ys.length<=Yae/\newO G (.lst (xs++ys)) Q
 |.bl b,.int j,G,Q=>Q (.int ((if b=true then (1:Int) else 0)+j)) G
 |_,_,_,_=>False
def subU  : U->U->Gp->K1->Prop
 |.int i,.int j,G,Q=>Q (.int (i-j)) G
 |.bl b,.int j,G,Q=>Q (.int ((if b=true then (1:Int) else 0)-j)) G
 |.int i,.bl b,G,Q=>Q (.int (i-if b=true then (1:Int) else 0)) G
 |_,_,_,_=>False
def mulU  : U->U->Gp->K1->Prop
 |.int i,.int j,G,Q=>CMul i j/\Q (.int (i*j)) G
 |.loc a,.int k,G,Q=>∃xs,G a=some (.lst xs)/\-(2 ^ 63)<=k/\k<2 ^ 63/\xs.length*k.toNat<=Yae/\newO G (.lst (Yab k.toNat xs).flatten) Q
 |.tup xs,.int k,G,Q=>xs≠[]/\0<=k/\k<2 ^ 62/\xs.length*k.toNat<=Yae/\Q (.tup (Yab k.toNat xs).flatten) G
 |.str z,.int k,G,Q=>0<=k/\k<1000/\z.length<=1000/\Q (.str (repS z k.toNat)) G
 |_,_,_,_=>False
def jlQ  : U->U->Gp->K1->Prop
 |.int i,.int j,G,Q=>0<j/\j<1073741824/\Q (.int (i/j)) G
 |_,_,_,_=>False
def modU  : U->U->Gp->K1->Prop
 |.int i,.int j,G,Q=>0<j/\Q (.int (i%j)) G
 |_,_,_,_=>False
def powU  : U->U->Gp->K1->Prop
 |.int i,.int j,G,Q=>CPow i j/\Q (.int (i ^ j.toNat)) G
 |_,_,_,_=>False
def binU  : Operator->U->U->Gp->K1->Prop
 |.Add=>addU
 |.Sub=>subU
 |.Mult=>mulU
 |.FloorDiv=>jlQ
 |.Mod=>modU
 |.Pow=>powU
 |_=>λ_ _ _ _=>False
def negU  : U->Gp->K1->Prop
 |.int i,G,Q=>Q (.int (-i)) G
 |_,_,_=>False
def Small  (d:PyData):Prop:=d.canLay0=true/\d.depth<=100
noncomputable def eqU  : U->U->Gp->(Bool->Prop)->Prop
 |.non,.non,_,k=>k true
 |.non,.bl _,_,k=>k false
 |.non,.int _,_,k=>k false
 |.non,.str _,_,k=>k false
 |.bl _,.non,_,k=>k false
 |.bl a,.bl b,_,k=>k (decide (a=b))
 |.bl _,.str _,_,k=>k false
 |.int _,.non,_,k=>k false
 |.int i,.int j,_,k=>k (decide (i=j))
 |.int _,.str _,_,k=>k false
 |.str _,.non,_,k=>k false
 |.str _,.bl _,_,k=>k false
 |.str _,.int _,_,k=>k false
 |.str x,.str y,_,k=>k (decide (x=y))
 |x,y,G,k=>∃d e,DU G x d/\DU G y e/\Small d/\Small e/\k (YaA d e)
def eqQ  : U->U->Gp->(Bool->Prop)->Prop
 |.loc a,.str y,G,k=>(∃kvs,G a=some (.dK kvs)/\k false)\/(∃xs,G a=some (.lst xs)/\k false)\/eqU (.loc a) (.str y) G k
 |.tup xs,.tup [],_,k=>k xs.isEmpty
 |.tup _,.str _,_,k=>k false
 |x,y,G,k=>eqU x y G k
def neQ  : U->U->Gp->(Bool->Prop)->Prop
 |.tup xs,.tup [],_,k=>k xs.isEmpty
 |x,y,G,k=>eqU x y G k
noncomputable def flat  : U->Bool
 |.non|.bl _|.int _|.str _=>true
 |_=>false
noncomputable def eqF  : U->U->Bool
 |.non,.non=>true
 |.bl a,.bl b=>a==b
 |.bl a,.int b=>(if a then 1 else 0)==b
 |.int a,.bl b=>a==(if b then 1 else 0)
 |.int a,.int b=>a==b
 |.str a,.str b=>a==b
 |_,_=>false
noncomputable def jc8  : List U->Option (List Str)
 |[]=>some []
 |.str x::r=>(match jc8 r with|some l=>some (x::l)|none=>none)
 |_=>none
def inU  : U->U->Gp->(Bool->Prop)->Prop
 |.str x,.str y,_,k=>k (!(YaU y x 0 y.length 1).isEmpty)
 |.tup xs,.tup ys,G,k=>((jc8 ys).isSome=true/\k false)\/∃d ds,DU G (.tup xs) d/\DUs G ys ds/\Small d/\(∀e∈ds,Small e)/\k (ds.any λe=>YaA e d)
 |.loc a,.tup ys,G,k=>(jc8 ys).isSome=true/\((∃xs,G a=some (.lst xs))\/∃kvs,G a=some (.dK kvs))/\k false
 |x,.tup ys,_,k=>flat x=true/\ys.all flat=true/\k (ys.any λy=>eqF y x)
 |x,.loc a,G,k=>match G a with
  |some (.lst ys)=>(flat x=true/\ys.all flat=true/\k (ys.any λy=>eqF y x))\/
    ∃d ds,DU G x d/\DUs G ys ds/\Small d/\(∀e∈ds,Small e)/\k (ds.any λe=>YaA e d)
  |some (.fro ys)=>flat x=true/\ys.all flat=true/\k (ys.any λy=>eqF y x)
  |some (.dK kvs)=>match kU x with
   |some y=>k (dGet kvs y).isSome
   |none=>False
  |some (.dT kvs)=>match x with
   |.tup xs=>match kUs xs with
    |some y=>k (dGet kvs y).isSome
    |none=>False
   |_=>False
  |some (.frk _ kvs)=>match kU x with
   |some y=>k (dGet kvs y).isSome
   |none=>False
  |_=>False
 |_,_,_,_=>False
def ordU  : CmpOp->U->U->(Bool->Prop)->Prop
 |.Lt,.int i,.int j,k=>k (decide (i<j))
 |.LtE,.int i,.int j,k=>k (decide (i<=j))
 |.LtE,.str x,.str y,k=>k (!decide (y.cps.toList<x.cps.toList))
 |.Gt,.int i,.int j,k=>k (decide (j<i))
 |_,_,_,_=>False
def cmpU  : CmpOp->U->U->Gp->(Bool->Prop)->Prop
 |.Eq,x,y,G,k=>eqQ x y G k
 |.NotEq,x,y,G,k=>neQ x y G λb=>k (!b)
 |.Is,_,_,_,_=>False
 |.IsNot,_,_,_,_=>False
 |.In,x,y,G,k=>inU x y G k
 |.NotIn,x,y,G,k=>inU x y G λb=>k (!b)
 |o,x,y,_,k=>ordU o x y k
def truU  : U->Gp->(Bool->Prop)->Prop
 |.non,_,k=>k false
 |.bl b,_,k=>k b
 |.int i,_,k=>k (i != 0)
 |.str x,_,k=>x.length<=Yae/\k ((x.length:Int) != 0)
 |.tup xs,_,k=>k (!xs.isEmpty)
 |.loc a,G,k=>match G a with
  |some (.lst xs)=>k (!xs.isEmpty)
  |some (.fro xs)=>k (!xs.isEmpty)
  |some (.dK kvs)=>k (!kvs.isEmpty)
  |_=>False
 |_,_,_=>False
def ixU  : U->U->Gp->K1->Prop
 |.tup xs,.int i,G,Q=>match atI xs i with
  |some u=>Q u G
  |none=>False
 |.str x,.int i,G,Q=>x.length<=Yae/\match atI x.cps.toList i with
  |some c=>Q (.str ⟨#[c]⟩) G
  |none=>False
 |.loc a,y,G,Q=>match G a with
  |some (.lst xs)=>(match y with|.int i=>(match atI xs i with|some u=>Q u G|none=>False)|_=>False)
  |some (.fro xs)=>(match y with|.int i=>(match atI xs i with|some u=>Q u G|none=>False)|_=>False)
  |some (.dK kvs)=>(match kU y with|some k=>(match dGet kvs k with|some u=>Q u G|none=>False)|none=>False)
  |some (.dT kvs)=>(match y with|.tup ys=>(match kUs ys with|some k=>(match dGet kvs k with|some u=>Q u G|none=>False)|none=>False)|_=>False)
  |some (.frk _ kvs)=>(match kU y with|some k=>(match dGet kvs k with|some u=>Q u G|none=>False)|none=>False)
  |_=>False
 |_,_,_,_=>False
def slU  : U->Option Int->Option Int->Gp->K1->Prop
 |.tup xs,lo,hi,G,Q=>Q (.tup (cut xs lo hi)) G
 |.str x,lo,hi,G,Q=>x.length<=Yae/\Q (.str (YcE x lo hi)) G
 |.loc a,lo,hi,G,Q=>match lsG G a with
  |some xs=>newO G (.lst (cut xs lo hi)) Q
  |none=>False
 |_,_,_,_,_=>False
def revU  : U->U->Gp->K1->Prop
 |.tup xs,.int i,G,Q=>i=-1/\Q (.tup xs.reverse) G
 |.loc a,.int i,G,Q=>match lsG G a with
  |some xs=>(i=1\/i=-1)/\newO G (.lst (if i=1 then xs else xs.reverse)) Q
  |none=>False
 |_,_,_,_=>False
def setU  : U->U->U->Gp->(Gp->Prop)->Prop
 |.loc a,y,v,G,Q=>match G a with
  |some (.lst xs)=>(match y with|.int i=>(match ixN xs.length i with|some j=>putO G a (.lst (xs.set j v)) Q|none=>False)|_=>False)
  |some (.dK kvs)=>(match kU y with|some k=>kvs.length<Yae/\putO G a (.dK (dPut kvs k v)) Q|none=>False)
  |some (.dT kvs)=>(match y with|.tup ys=>(match kUs ys with|some k=>kvs.length<Yae/\putO G a (.dT (dPut kvs k v)) Q|none=>False)|_=>False)
  |_=>False
 |_,_,_,_,_=>False
inductive Blt|len|repr|min|max|sum|all|any|sorted|int|str|isi
 deriving DecidableEq
inductive Mth|append|extend|insert|pop|reverse|index|join|get|split|setd|clear|count|upper
 deriving DecidableEq
noncomputable def jlN  : List U->Option (List Int)
 |[]=>some []
 |.int i::r=>(match jlN r with|some l=>some (i::l)|none=>none)
 |_=>none
noncomputable def jcp  : List U->Option (List Bool)
 |[]=>some []
 |.bl x::r=>(match jcp r with|some l=>some (x::l)|none=>none)
 |_=>none
noncomputable def tyN  : U->Gp->Option String
 |.non,_=>some "NoneType"
 |.bl _,_=>some "bool"
 |.int _,_=>some "int"
 |.str _,_=>some "str"
 |.tup _,_=>some "tuple"
 |.loc a,G=>match G a with
  |some (.lst _)=>some "list"
  |some (.dK _)=>some "dict"
  |some (.dT _)=>some "dict"
  |_=>none
 |_,_=>none
def isiU  (x:U)(G:Gp)(t:String):Option Bool:=match tyN x G with
 |some n=>if t∈["bool", "int", "str", "list", "tuple", "dict"] then some (n==t||(n == "bool" && t == "int")) else none
 |none=>none
def lenU  : List U->Gp->K1->Prop
 |[.tup xs],G,Q=>Q (.int xs.length) G
 |[.str x],G,Q=>x.length<=Yae/\Q (.int x.length) G
 |[.loc a],G,Q=>(match G a with
  |some (.lst xs)=>Q (.int xs.length) G
  |some (.fro xs)=>Q (.int xs.length) G
  |some (.dK kvs)=>Q (.int kvs.length) G
  |_=>False)
 |_,_,_=>False
def jge  : List U->Gp->K1->Prop
 |[u],G,Q=>∃d,DU G u d/\Fits 16000000 60 d/\Q (.str d.shown) G
 |_,_,_=>False
def minU  : List U->Gp->K1->Prop
 |[.int i,.int j],G,Q=>Q (.int (if j<i then j else i)) G
 |_,_,_=>False
def jlr  (xs:List U)(G:Gp)(Q:K1):Prop:=match jlN xs with
 |some ns=>ns≠[]/\∀z∈ns,(∀y∈ns,y<=z)->Q (.int z) G
 |none=>False
def maxU  : List U->Gp->K1->Prop
 |[.int i,.int j],G,Q=>Q (.int (if j>i then j else i)) G
 |[.loc a],G,Q=>(match G a with
  |some (.lst xs)=>jlr xs G Q
  |_=>False)
 |[.tup xs],G,Q=>jlr xs G Q
 |_,_,_=>False
def allU  : List U->Gp->K1->Prop
 |[.loc a],G,Q=>(match G a with
  |some (.lst xs)=>(match jcp xs with|some bs=>Q (.bl (bs.all id)) G|none=>False)
  |_=>False)
 |_,_,_=>False
def intU  : List U->Gp->K1->Prop
 |[.int i],G,Q=>Q (.int i) G
 |[.bl b],G,Q=>Q (.int (if b then 1 else 0)) G
 |[.str z],G,Q=>∃n,PySem.intText? z=some n/\z.length<=640/\Q (.int n) G
 |_,_,_=>False
def strU  : List U->Gp->K1->Prop
 |[.int i],G,Q=>i.natAbs.log2<1920/\Q (.str (toString i:String)) G
 |[.bl b],G,Q=>Q (.str (if b=true then ("True" : Str) else "False")) G
 |_,_,_=>False
def jeS  : List U->Gp->K1->Prop
 |[x,.ty t],G,Q=>(match isiU x G t with|some b=>Q (.bl b) G|none=>False)
 |_,_,_=>False
def jfI  : U->Gp->K1->Prop
 |.tup us,G,Q=>∃xs:List Str,us=xs.map .str/\xs.length<4000/\∀ds:List Str,ds.Nodup->(∀x,x∈ds↔x∈xs)->Q (.int ds.length) G
 |_,_,_=>False
def bltU  : Blt->List U->Gp->K1->Prop
 |.len=>lenU
 |.repr=>jge
 |.min=>λ_ _ _=>False
 |.max=>λ_ _ _=>False
 |.sum=>λ_ _ _=>False
 |.all=>allU
 |.any=>λ_ _ _=>False
 |.sorted=>λ_ _ _=>False
 |.int=>intU
 |.str=>strU
 |.isi=>jeS
def je4  : U->List U->Gp->K1->Prop
 |.loc a,[v],G,Q=>(match G a with
  |some (.lst xs)=>xs.length<Yae/\putO G a (.lst (xs++[v])) (Q .non)
  |_=>False)
 |_,_,_,_=>False
def jeT  : U->List U->Gp->K1->Prop
 |.loc a,[.int i,v],G,Q=>(match G a with
  |some (.lst xs)=>0<=i/\i<=xs.length/\xs.length<Yae/\putO G a (.lst (xs.take i.toNat++v::xs.drop i.toNat)) (Q .non)
  |_=>False)
 |_,_,_,_=>False
def getU  : U->List U->Gp->K1->Prop
 |.loc a,[y,d],G,Q=>(match G a with
  |some (.dK kvs)=>(match kU y with
   |some k=>Q ((dGet kvs k).getD d) G
   |none=>False)
  |some (.dT kvs)=>∃k:List Key,y=.tup (k.map Ku)/\Q ((dGet kvs k).getD d) G
  |_=>False)
 |_,_,_,_=>False
def jg0  : U->List U->Gp->K1->Prop
 |.tup xs,[.str n],G,Q=>(match jc8 xs with
  |some ys=>Q (.int (ys.count n:Nat)) G
  |none=>False)
 |_,_,_,_=>False
def jj4  : U->List U->Gp->K1->Prop
 |.str z,[],G,Q=>YcF (Yeg z).length=false/\Q (.str (Yeg z)) G
 |_,_,_,_=>False
def ja7  : Mth->U->List U->Gp->K1->Prop
 |.append=>je4
 |.extend=>λ_ _ _ _=>False
 |.insert=>jeT
 |.pop=>λ_ _ _ _=>False
 |.reverse=>λ_ _ _ _=>False
 |.index=>λ_ _ _ _=>False
 |.join=>λ_ _ _ _=>False
 |.get=>getU
 |.split=>λ_ _ _ _=>False
 |.setd=>λ_ _ _ _=>False
 |.clear=>λ_ _ _ _=>False
 |.count=>jg0
 |.upper=>jj4
noncomputable def mtU  : Mth->U->Gp->Option (String×String)
 |.append,x,G=>(match x with|.loc a=>(match G a with|some (.lst _)=>some ("list", "list.append")|_=>none)|_=>none)
 |.extend,_,_=>none
 |.insert,x,G=>(match x with|.loc a=>(match G a with|some (.lst _)=>some ("list", "list.insert")|_=>none)|_=>none)
 |.pop,_,_=>none
 |.reverse,_,_=>none
 |.index,_,_=>none
 |.join,_,_=>none
 |.get,x,G=>(match x with|.loc a=>(match G a with|some (.dK _)=>some ("dict", "dict.get")|some (.dT _)=>some ("dict", "dict.get")|_=>none)|_=>none)
 |.split,_,_=>none
 |.setd,_,_=>none
 |.clear,_,_=>none
 |.count,x,_=>(match x with|.tup _=>some ("tuple", "tuple.count")|_=>none)
 |.upper,x,_=>(match x with|.str _=>some ("str", "str.upper")|_=>none)
noncomputable def clsA  : List (Str×List Str):=[("PlanError",[]),("NoPaper",["word", "at"]),("TooMany",["word"]),("NoRing",["word"]),("NoText",["row", "word"]),("NoRow",["row"])]
def clsN  (c:Nat):Str:=(clsA.getD c ("",[])).1
def clsF  (c:Nat):List Str:=(clsA.getD c ("",[])).2
inductive HL where
 |is1 (c:Nat)|isi (cs:List Nat)|isiV|v (i:Nat)
inductive HA where
 |str (x:Str)|att (f:Str)
inductive HV where
 |cond (k:Bool) (a:Bool×HL) (as:List (Bool×HL))|one (a:HA)|bl (b:Bool)|tup (as:List HA)|lst (as:List HA)
inductive HS where
 |asg (i:Nat) (e:HV)|ifa (k:Bool) (a:Bool×HL) (as:List (Bool×HL)) (i:Nat) (e:HV)
section
variable (x:XV)
noncomputable def litH (ς:Sg):HL->Option Bool
 |.is1 c=>some (decide (x.c=c))
 |.isi cs=>some (cs.contains x.c)
 |.isiV=>some true
 |.v i=>match ς[i]? with
  |some (some (.bl b))=>some b
  |_=>none
def lit1 (ς:Sg)(p:Bool×HL):Option Bool:=match litH x ς p.2 with
 |some b=>some (if p.1=true then !b else b)
 |none=>none
noncomputable def jjU (ς:Sg)(k:Bool):Bool×HL->List (Bool×HL)->Option Bool
 |a,[]=>lit1 x ς a
 |a,b::r=>match lit1 x ς a with
  |some t=>if t=k then jjU ς k b r else some t
  |none=>none
def atH:HA->Option U
 |.str y=>some (.str y)
 |.att f=>((clsF x.c).zip x.fs).lookup f
noncomputable def atsH:List HA->Option (List U)
 |[]=>some []
 |a::r=>match atH x a,atsH r with
  |some u,some us=>some (u::us)
  |_,_=>none
def hvH (ς:Sg):HV->Gp->K1->Prop
 |.cond k a as,G,Q=>match jjU x ς k a as with
  |some b=>Q (.bl b) G
  |none=>False
 |.one a,G,Q=>match atH x a with
  |some u=>Q u G
  |none=>False
 |.bl b,G,Q=>Q (.bl b) G
 |.tup as,G,Q=>match atsH x as with
  |some us=>Q (.tup us) G
  |none=>False
 |.lst as,G,Q=>match atsH x as with
  |some us=>newO G (.lst us) Q
  |none=>False
def hsH:List HS->Sg->Gp->(Sg->Gp->Prop)->Prop
 |[],ς,G,k=>k ς G
 |.asg i e::r,ς,G,k=>hvH x ς e G λu G1=>hsH r (ς.set i (some u)) G1 k
 |.ifa q a as i e::r,ς,G,k=>match jjU x ς q a as with
  |some true=>hvH x ς e G λu G1=>hsH r (ς.set i (some u)) G1 k
  |some false=>hsH r ς G k
  |none=>False
end
mutual
inductive Tg where
 |n (i:Nat)|t (ts:Tgs)
inductive Tgs where
 |nil|cons (t:Tg) (ts:Tgs)
end
mutual
inductive E where
 |v (i:Nat)|non|bl (b:Bool)|int (i:Int)|str (x:Str)|g (n:Nat)|bin (o:Operator) (a b:E)|neg (a:E)|not (a:E)|bop (k:Bool) (a:E) (es:Es)|cmp (o:CmpOp) (a b:E)|cmp2 (o p:CmpOp) (a b c:E)|tup (es:Es)|lst (es:Es)|dic (es:Es)|ix (a b:E)|sl (a:E) (lo hi:Eo)|rev (a st:E)|call (n:Nat) (es:Es)|blt (b:Blt) (es:Es)|meth (m:Mth) (o:E) (es:Es)|ty (n:String)|lc (pick:List (Option Nat)) (t:Tg) (it:It) (ifs:Es) (e:E)|mkL (e:E)|mkT (e:E)|nset (e:E)
inductive Eo where
 |no|so (e:E)
inductive Es where
 |nil|cons (e:E) (es:Es)
inductive It where
 |e (e:E)|r1 (e:E)|s (e:E)
end
mutual
inductive S where
 |expr (e:E)|asg (t:Tg) (e:E)|asgC (i:Nat) (e:E)|setS (o i e:E)|par (is:List Nat) (es:Es)|ite (c:E) (a b:Ss)|fr (t:Tg) (it:It) (b:Ss)|ret (e:E)
inductive Ss where
 |nil|cons (s:S) (ss:Ss)
end
mutual
noncomputable def tgU:Tg->U->Sg->(Sg->Prop)->Prop
 |.n i,u,ς,k=>k (ς.set i (some u))
 |.t ts,u,ς,k=>match u with
  |.tup us=>tgsU ts us ς k
  |_=>False
noncomputable def tgsU:Tgs->List U->Sg->(Sg->Prop)->Prop
 |.nil,us,ς,k=>us=[]/\k ς
 |.cons t ts,us,ς,k=>match us with
  |[]=>False
  |u::r=>tgU t u ς λς'=>tgsU ts r ς' k
end
abbrev Cl:=Nat->List U->Gp->K1->KX->Prop
def slot  (ς:Sg)(i:Nat)(k:U->Prop):Prop:=match ς[i]? with
 |some (some u)=>k u
 |_=>False
noncomputable def jcg  (pick:List (Option Nat))(ς:Sg):Sg:=pick.map λo=>o.bind λj=>(ς[j]?).join
def jck  (ok:Gp->Prop)(b:U->Gp->(Option U->Gp->Prop)->Prop):List U->List U->Gp->(List U->Gp->Prop)->Prop
 |[],acc,G,k=>ok G/\k acc G
 |x::xs,acc,G,k=>ok G/\b x G λo G'=>jck ok b xs (match o with|some u=>acc++[u]|none=>acc) G' k
def forL  (ok:Gp->Prop)(b:U->Sg->Gp->(Sg->Gp->Prop)->Prop):List U->Sg->Gp->(Sg->Gp->Prop)->Prop
 |[],ς,G,k=>ok G/\k ς G
 |x::xs,ς,G,k=>ok G/\b x ς G λς' G'=>forL ok b xs ς' G' k
noncomputable def rngU  (i:Int)(n:Nat):List U:=(Ybm n).map λk:Nat=>.int (i+k)
def itU  : U->Gp->(List U->(Gp->Prop)->Prop)->Prop
 |.tup xs,_,k=>k xs λ_=>True
 |.loc a,G,k=>match lsG G a with
  |some xs=>k xs λG'=>lsG G' a=some xs
  |none=>False
 |_,_,_=>False
def sgU  : U->(List U->Prop)->Prop
 |.str z,k=>z.cps.all (·< 128)=true/\k (z.cps.toList.map λc=>.str ⟨#[c]⟩)
 |_,_=>False
def fpU  : U->(Str->Prop)->Prop
 |.str z,k=>z.length<=10000/\k z
 |.int i,k=>i.natAbs.log2<1920/\k (toString i:String)
 |_,_=>False
def glU  (gs:List U)(n:Nat)(k:U->Prop):Prop:=match gs[n]? with
 |some u=>k u
 |none=>False
abbrev UE:=Sg->Gp->K1->KX->Prop
abbrev UT:=Sg->Gp->(Bool->Gp->Prop)->KX->Prop
abbrev UA:=Sg->Gp->(List U->Gp->Prop)->KX->Prop
def truT  (t:UE):UT:=λς G Q X=>t ς G (λx G1=>truU x G1 λb=>Q b G1) X
noncomputable abbrev tp  (t:UE):UE×UT:=(t,truT t)
noncomputable def comb  : Bool->UE×UT->UE×UT->UE×UT
 |true,p,q=>(λς G Q X=>p.1 ς G (λx G1=>truU x G1 λc=>if c=true then q.1 ς G1 Q X else Q x G1) X,λς G Q X=>p.2 ς G (λc G1=>if c=true then q.2 ς G1 Q X else Q false G1) X)
 |false,p,q=>(λς G Q X=>p.1 ς G (λx G1=>truU x G1 λc=>if c=true then Q x G1 else q.1 ς G1 Q X) X,λς G Q X=>p.2 ς G (λc G1=>if c=true then Q true G1 else q.2 ς G1 Q X) X)
section
variable (gs:List U)(Δ:Cl)
mutual
noncomputable def den:E->UE×UT
 |.v i=>tp λς G Q _=>slot ς i λu=>Q u G
 |.non=>tp λ_ G Q _=>Q .non G
 |.bl b=>tp λ_ G Q _=>Q (.bl b) G
 |.int i=>tp λ_ G Q _=>Q (.int i) G
 |.str x=>tp λ_ G Q _=>Q (.str x) G
 |.g n=>tp λ_ G Q _=>glU gs n λu=>Q u G
 |.bin o a b=>tp λς G Q X=>(den a).1 ς G (λx G1=>(den b).1 ς G1 (λy G2=>binU o x y G2 Q) X) X
 |.neg a=>tp λς G Q X=>(den a).1 ς G (λx G1=>negU x G1 Q) X
 |.not a=>(λς G Q X=>(den a).1 ς G (λx G1=>truU x G1 λb=>Q (.bl (!b)) G1) X,
   λς G Q X=>(den a).2 ς G (λb G1=>Q (!b) G1) X)
 |.bop k a es=>denB k (den a) es
 |.cmp o a b=>tp λς G Q X=>(den a).1 ς G (λx G1=>(den b).1 ς G1 (λy G2=>cmpU o x y G2 λc=>Q (.bl c) G2) X) X
 |.cmp2 o p a b c=>tp λς G Q X=>(den a).1 ς G (λx G1=>(den b).1 ς G1 (λy G2=>cmpU o x y G2 λt=>if t=true then (den c).1 ς G2 (λz G3=>cmpU p y z G3 λt'=>Q (.bl t') G3) X else Q (.bl false) G2) X) X
 |.tup es=>tp λς G Q X=>jaY es ς G (λus G1=>us.length<=Yae/\Q (.tup us) G1) X
 |.lst es=>tp λς G Q X=>jaY es ς G (λus G1=>us.length<=Yae/\newO G1 (.lst us) Q) X
 |.dic es=>tp λς G Q X=>denD es ς G (λkvs G1=>kvs.length<=15/\newO G1 (.dK (jc3 kvs)) Q) X
 |.ix a b=>tp λς G Q X=>(den a).1 ς G (λx G1=>(den b).1 ς G1 (λy G2=>ixU x y G2 Q) X) X
 |.sl a lo hi=>tp λς G Q X=>(den a).1 ς G (λx G1=>denO lo ς G1 (λl G2=>denO hi ς G2 (λh G3=>slU x l h G3 Q) X) X) X
 |.rev a b=>tp λς G Q X=>(den a).1 ς G (λx G1=>(den b).1 ς G1 (λy G2=>revU x y G2 Q) X) X
 |.call n es=>tp λς G Q X=>jaY es ς G (λus G1=>Δ n us G1 Q X) X
 |.blt b es=>tp λς G Q X=>jaY es ς G (λus G1=>bltU b us G1 Q) X
 |.meth m o es=>tp λς G Q X=>(den o).1 ς G (λx G1=>match mtU m x G1 with
   |some _=>jaY es ς G1 (λus G2=>ja7 m x us G2 Q) X
   |none=>False) X
 |.ty n=>tp λ_ G Q _=>Q (.ty n) G
 |.lc pick t it ifs e=>tp λς G Q X=>denI it ς G (λxs ok G1=>xs.length<=Yae/\jck ok (λx G2 k=>tgU t x (jcg pick ς) λτ=>denC ifs τ G2 (λb G3=>if b=true then (den e).1 τ G3 (λu G4=>k (some u) G4) (λ_ _=>False) else k none G3)) xs [] G1
   λus G5=>newO G5 (.lst us) Q) X
 |.nset e=>tp λς G Q X=>(den e).1 ς G (λx G1=>jfI x G1 Q) X
 |.mkL e=>tp λς G Q X=>(den e).1 ς G (λx G1=>itU x G1 λxs _=>newO G1 (.lst xs) Q) X
 |.mkT e=>tp λς G Q X=>(den e).1 ς G (λx G1=>itU x G1 λxs _=>Q (.tup xs) G1) X
noncomputable def denB (k:Bool)(p:UE×UT):Es->UE×UT
 |.nil=>p
 |.cons e es=>comb k p (denB k (den e) es)
noncomputable def denC:Es->Sg->Gp->(Bool->Gp->Prop)->Prop
 |.nil,_,G,Q=>Q true G
 |.cons e es,ς,G,Q=>(den e).2 ς G (λb G1=>if b=true then denC es ς G1 Q else Q false G1) (λ_ _=>False)
noncomputable def denO:Eo->Sg->Gp->(Option Int->Gp->Prop)->KX->Prop
 |.no,_,G,Q,_=>Q none G
 |.so e,ς,G,Q,X=>(den e).1 ς G (λx G1=>match x with|.int i=>Q (some i) G1|_=>False) X
noncomputable def jaY:Es->Sg->Gp->(List U->Gp->Prop)->KX->Prop
 |.nil,_,G,Q,_=>Q [] G
 |.cons e es,ς,G,Q,X=>(den e).1 ς G (λx G1=>jaY es ς G1 (λxs G2=>Q (x::xs) G2) X) X
noncomputable def denF:Es->Sg->Gp->(List Str->Gp->Prop)->KX->Prop
 |.nil,_,G,Q,_=>Q [] G
 |.cons e es,ς,G,Q,X=>(den e).1 ς G (λx G1=>fpU x λz=>denF es ς G1 (λzs G2=>Q (z::zs) G2) X) X
noncomputable def denD:Es->Sg->Gp->(List (Key×U)->Gp->Prop)->KX->Prop
 |.nil,_,G,Q,_=>Q [] G
 |.cons e (.cons f es),ς,G,Q,X=>(den e).1 ς G (λx G1=>(den f).1 ς G1 (λy G2=>match kU x with
   |some k=>denD es ς G2 (λkvs G3=>Q ((k,y)::kvs) G3) X
   |none=>False) X) X
 |.cons _ .nil,_,_,_,_=>False
noncomputable def denI:It->Sg->Gp->(List U->(Gp->Prop)->Gp->Prop)->KX->Prop
 |.e e,ς,G,Q,X=>(den e).1 ς G (λx G1=>itU x G1 λxs ok=>Q xs ok G1) X
 |.r1 e,ς,G,Q,X=>(den e).1 ς G (λx G1=>match x with
   |.int j=>-(2 ^ 62)<=j/\j<2 ^ 62/\Q (rngU 0 j.toNat) (λ_=>True) G1
   |_=>False) X
 |.s e,ς,G,Q,X=>(den e).1 ς G (λx G1=>sgU x λxs=>Q xs (λ_=>True) G1) X
end
def denE (e:E):UE:=(den gs Δ e).1
def denT (e:E):UT:=(den gs Δ e).2
mutual
noncomputable def denS:S->En->Sg->Gp->Prop
 |.expr e,D,ς,G=>denE gs Δ e ς G (λ_ G1=>D.nx ς G1) λx G1=>D.ex x ς G1
 |.asg t e,D,ς,G=>denE gs Δ e ς G (λu G1=>tgU t u ς λς'=>D.nx ς' G1) λx G1=>D.ex x ς G1
 |.asgC i e,D,ς,G=>denE gs Δ e ς G (λu G1=>D.nx (ς.set i (some u)) G1) λx G1=>D.ex x ς G1
 |.setS o i e,D,ς,G=>denE gs Δ e ς G (λv G1=>denE gs Δ o ς G1 (λx G2=>denE gs Δ i ς G2 (λy G3=>setU x y v G3 λG4=>D.nx ς G4) λx G1=>D.ex x ς G1) λx G1=>D.ex x ς G1) λx G1=>D.ex x ς G1
 |.par is es,D,ς,G=>jaY gs Δ es ς G (λus G1=>us.length=is.length/\D.nx ((is.zip us).foldl (λs p=>s.set p.1 (some p.2)) ς) G1) λx G1=>D.ex x ς G1
 |.ite c a b,D,ς,G=>denT gs Δ c ς G (λt G1=>if t=true then jaq a D ς G1 else jaq b D ς G1) λx G1=>D.ex x ς G1
 |.fr t it b,D,ς,G=>denI gs Δ it ς G (λxs ok G1=>forL ok (λx ς1 G2 k=>tgU t x ς1 λς2=>jaq b { D with nx:=k } ς2 G2) xs ς G1 D.nx) λx G1=>D.ex x ς G1
 |.ret e,D,ς,G=>denE gs Δ e ς G D.rt λx G1=>D.ex x ς G1
noncomputable def jaq:Ss->En->Sg->Gp->Prop
 |.nil,D,ς,G=>D.nx ς G
 |.cons s ss,D,ς,G=>denS s { D with nx:=λς' G'=>jaq ss D ς' G' } ς G
end
end
structure Fun where
 name:Str
 ps:List Str
 N:List Str
 body:Ss
structure Nst where
 P:Addr
 ff:Nat
 vi:Nat
 fi:Nat
 caps:List Nat
 wi:Nat
 fni:Nat
 least:Int
 wn:Str
 fn:Str
 at':Str
structure Tab where
 funs:List Fun
 gs:List U
 gn:List Str:=[]
 cs:List Nat:=[]
 vf:List Fun:=[]
 ns:List (Nat×Nst):=[]
noncomputable def jad  (n:Nat)(us:List U):Sg:=us.map some++Yab (n-us.length) none
def jab  (T:Tab):Nat->Cl
 |0,_,_,_,_,_=>False
 |k+1,n,us,G,Q,X=>match (T.funs++T.vf)[n]? with
  |some d=>us.length=d.ps.length/\jaq T.gs (jab T k) d.body ⟨λ_ G'=>Q .non G',Q,λx _ G'=>X x G'⟩ (jad d.N.length us) G
  |none=>False
mutual
noncomputable def RU (K:Yac)(H:Hp):U->V->Prop
 |.non,v=>v=.non
 |.bl b,v=>v=.bl b
 |.int i,v=>v=.int i
 |.str x,v=>v=.str x
 |.tup xs,v=>∃a vs,v=.ref a/\H a=some (.tup vs)/\RUs K H xs vs
 |.loc a,v=>v=.ref a
 |.fn _,_=>False
 |.ty n,v=>v=.ty n
 |.exc _ _,_=>False
 |.own _,_=>False
 |.clo _ _,_=>False
noncomputable def RUs (K:Yac)(H:Hp):List U->List V->Prop
 |[],vs=>vs=[]
 |u::us,vs=>∃v vr,vs=v::vr/\RU K H u v/\RUs K H us vr
end
def RKs  {κ:Type}(K:Yac)(H:Hp):List (κ×U)->List (κ×V)->Prop
 |[],l=>l=[]
 |(k,u)::r,l=>∃v l',l=(k,v)::l'/\RU K H u v/\RKs K H r l'
def MOk  (K:Yac)(H:Hp)(a:Addr):MO->Prop
 |.lst us=>∃vs,H a=some (.lst vs)/\RUs K H us vs
 |.fro us=>∃o vs,H a=some (.frz o (.lst vs))/\RUs K H us vs
 |.dK kvs=>∃l,H a=some (.dK l)/\RKs K H kvs l
 |.dT kvs=>∃l,H a=some (.dT l)/\RKs K H kvs l
 |.frd o kvs=>∃l,H a=some (.frz o (.dT l))/\RKs K H kvs l
 |.frk o kvs=>∃l,H a=some (.frz o (.dK l))/\RKs K H kvs l
noncomputable def tabs  : List (Addr×Pos×Str):=[]
def jew  (H:Hp):Prop:=∀t∈tabs,jl2 H t.1 t.2.1 t.2.2
structure HR (K:Yac)(H:Hp)(G:Gp):Prop where
 mo:∀a o,G a=some o->MOk K H a o
 tab:jew H
instance {K:Yac} {H:Hp} {G:Gp}:CoeFun (HR K H G) λ_=>∀a o,G a=some o->MOk K H a o:=⟨HR.mo⟩
noncomputable def noTb  : HO->Bool
 |.tbl _=>false
 |_=>true
structure Fr (H:Hp)(G:Gp)(H':Hp)(G':Gp):Prop where
 go:∀a o,H a=some o->G a=none->(nt:noTb o=true:=by rfl)->H' a=some o/\G' a=none
instance {H H':Hp} {G G':Gp}:CoeFun (Fr H G H' G') λ_=>∀a o,H a=some o->G a=none->(nt:noTb o=true:=by rfl)->H' a=some o/\G' a=none:=⟨@Fr.go H G H' G'⟩
def SR  (K:Yac)(H:Hp)(ς:Sg)(σ:St):Prop:=ς.length=σ.length/\∀(i:Nat) (u:U),ς[i]?=some (some u)->∃v,σ[i]?=some (some v)/\RU K H u v
section
variable {K:Yac}{H H' H1 H2:Hp}{G G' G1 G2:Gp}
def Fr.refl   H G:Fr H G H G:=⟨λ_ _ h g _=>⟨h,g⟩⟩
def Fr.trans  (a:Fr H G H1 G1)(b:Fr H1 G1 H2 G2):Fr H G H2 G2:=⟨λc o h g nt=>let ⟨h1,g1⟩:=a c o h g nt;b c o h1 g1 nt⟩
structure TS (H H':Hp):Prop where
 tup:∀a xs,H a=some (.tup xs)->H' a=some (.tup xs)
 cod:∀a o,H a=some (frzC o)->H' a=some (frzC o)
instance:CoeFun (TS H H') λ_=>∀a xs,H a=some (.tup xs)->H' a=some (.tup xs):=⟨TS.tup⟩
def TS.trans  (a:TS H H1)(b:TS H1 H2):TS H H2:=⟨λc xs h=>b.tup c xs (a.tup c xs h),λc o h=>b.cod c o (a.cod c o h)⟩
mutual
theorem RU.ts (t:TS H H'):∀{u:U} {v:V},RU K H u v->RU K H' u v
 |.non,_,h=>h
 |.bl _,_,h=>h
 |.int _,_,h=>h
 |.str _,_,h=>h
 |.tup xs,_,h=>by
  obtain⟨a,vs,e,q,r⟩:=h
  exact⟨a,vs,e,t _ _ q,RUs.ts t r⟩
 |.loc _,_,h=>h
 |.fn _,_,h=>h
 |.ty _,_,h=>h
 |.exc _ _,_,h=>h
 |.own _,_,h=>h
 |.clo _ _,_,h=>h
theorem RUs.ts (t:TS H H'):∀{us:List U} {vs:List V},RUs K H us vs->RUs K H' us vs
 |[],_,h=>h
 |_::_,_,h=>by
  obtain⟨v,vr,e,r,rs⟩:=h
  exact⟨v,vr,e,RU.ts t r,RUs.ts t rs⟩
end
theorem RKs.ts   (t:TS H H'):∀{kvs:List (κ×U)} {l },RKs K H kvs l->RKs K H' kvs l
 |[],_,h=>h
 |(_,_)::_,_,h=>by
  obtain⟨v,l',e,r,rs⟩:=h;exact⟨v,l',e,r.ts t,RKs.ts t rs⟩
def SR.ts    (t:TS H H')(h:SR K H ς σ):SR K H' ς σ:=⟨h.1,λi u e=>let ⟨v,e1,r⟩:=h.2 i u e;⟨v,e1,r.ts t⟩⟩
def HR.tupNone  (h:HR K H G)(e:H a=some (.tup xs)):G a=none:=by
 cases q:G a with
 |none=>rfl
 |some o=>
  have m:=h a o q;cases o with
  |lst us=>obtain⟨_,e2,_⟩:=m;lia
  |fro us=>obtain⟨_,_,e2,_⟩:=m;lia
  |dK us=>obtain⟨_,e2,_⟩:=m;lia
  |dT us=>obtain⟨_,e2,_⟩:=m;lia
  |frd _ us=>obtain⟨_,e2,_⟩:=m;lia
  |frk _ us=>obtain⟨_,e2,_⟩:=m;lia
def HR.codNone  (h:HR K H G)(e:H a=some (frzC ob)):G a=none:=by
 cases q:G a with
 |none=>rfl
 |some o=>
  have m:=h a o q;cases o with
  |lst us=>obtain⟨_,e2,_⟩:=m;lia
  |fro us=>obtain⟨_,_,e2,_⟩:=m;lia
  |dK us=>obtain⟨_,e2,_⟩:=m;lia
  |dT us=>obtain⟨_,e2,_⟩:=m;lia
  |frd _ us=>obtain⟨_,e2,_⟩:=m;lia
  |frk _ us=>obtain⟨_,e2,_⟩:=m;lia
def HR.tblNone  (h:HR K H G)(e:H a=some (.tbl ps)):G a=none:=by
 cases q:G a with
 |none=>rfl
 |some o=>
  have m:=h a o q;cases o with
  |lst us=>obtain⟨_,e2,_⟩:=m;lia
  |fro us=>obtain⟨_,_,e2,_⟩:=m;lia
  |dK us=>obtain⟨_,e2,_⟩:=m;lia
  |dT us=>obtain⟨_,e2,_⟩:=m;lia
  |frd _ us=>obtain⟨_,e2,_⟩:=m;lia
  |frk _ us=>obtain⟨_,e2,_⟩:=m;lia
def Fr.ts  (f:Fr H G H' G')(h:HR K H G):TS H H':=⟨λa xs e=>(f a _ e (h.tupNone e)).1,λa o e=>(f a _ e (h.codNone e)).1⟩
def jew.upd  (h:jew H)(h1:∀ps,H p≠some (.tbl ps))(h2:∀ob,H p≠some (frzC ob)):jew (L2.upd H p o):=λt ht=>by
 rcases h t ht with e|⟨c,oc,e1,e2,q⟩
 ·exact .inl (by rw[jae (λz=>h1 _ (z ▸ e))];exact e)
 ·exact .inr ⟨c,oc,by rw[jae (λz=>h1 _ (z ▸ e1))];exact e1,by rw[jae (λz=>h2 _ (z ▸ e2))];exact e2,q⟩
def jew.new  (h:jew H)(e:H p=none):jew (L2.upd H p o):=h.upd (λps z=>by lia) λob z=>by lia
def HR.tabW  (h:HR K H G){mo:MO}(g:G p=some mo):jew (L2.upd H p o):=h.tab.upd (λps z=>by rw[h.tblNone z]at g;cases g) λob z=>by rw[h.codNone z]at g;cases g
def MOk.there    (m:MOk K H a o):∃ho,H a=some ho:=by
 cases o with
 |lst _=>obtain⟨_,e,_⟩:=m;simp_all
 |fro _=>obtain⟨_,_,e,_⟩:=m;simp_all
 |dK _=>obtain⟨_,e,_⟩:=m;simp_all
 |dT _=>obtain⟨_,e,_⟩:=m;simp_all
 |frd _ _=>obtain⟨_,e,_⟩:=m;simp_all
 |frk _ _=>obtain⟨_,e,_⟩:=m;simp_all
def MOk.keep    (m:MOk K H a o)(e:H' a=H a)(t:TS H H'):MOk K H' a o:=by
 cases o with
 |lst _=>obtain⟨vs,q,r⟩:=m;exact⟨vs,e.trans q,r.ts t⟩
 |fro _=>obtain⟨ob,vs,q,r⟩:=m;exact⟨ob,vs,e.trans q,r.ts t⟩
 |dK _=>obtain⟨l,q,r⟩:=m;exact⟨l,e.trans q,r.ts t⟩
 |dT _=>obtain⟨l,q,r⟩:=m;exact⟨l,e.trans q,r.ts t⟩
 |frd _ _=>obtain⟨l,q,r⟩:=m;exact⟨l,e.trans q,r.ts t⟩
 |frk _ _=>obtain⟨l,q,r⟩:=m;exact⟨l,e.trans q,r.ts t⟩
def HR.nope  (h:HR K H G)(e:H a=none):G a=none:=by
 cases q:G a with
 |none=>rfl
 |some o=>
  obtain⟨_,e2⟩:=(h a o q).there
  lia
def jay    : gup G a o a=some o:=by unfold gup;lia
def jbz    (h:b≠a):gup G a o b=G b:=by unfold gup;lia
def TS.new    (e:H p=none):TS H (upd H p o):=⟨λa xs h=>by rw[jae (jai h e)];exact h,λa ob h=>by rw[jae (jai h e)];exact h⟩
def HR.newT  (h:HR K H G)(e:H p=none):HR K (upd H p (.tup xs)) G:=⟨λa o q=>by
 have m:=h a o q;obtain⟨ho,e2⟩:=m.there;exact m.keep (jae (jai e2 e)) (TS.new e),h.tab.new e⟩
def Fr.new    (e:H p=none):Fr H G (upd H p o) G:=⟨λa ob h g _=>⟨by rw[jae (jai h e)];exact h,g⟩⟩
def HR.newO  (h:HR K H G){mo:MO}(e:H p=none)(m:MOk K (upd H p o) p mo):HR K (upd H p o) (gup G p mo):=⟨λa ob q=>by
 by_cases z:a=p
 ·subst z;rw[jay]at q
  lia
 ·rw[jbz z]at q;exact(h a ob q).keep (jae z) (TS.new e),h.tab.new e⟩
def Fr.newO     (e:H p=none):Fr H G (upd H p o) (gup G p mo):=⟨λa ob h g _=>by
 have z:a≠p:=jai h e;exact⟨by rw[jae z];exact h,by rw[jbz z];exact g⟩⟩
def TS.write  (h:HR K H G)(g:G p=some mo):TS H (upd H p o):=⟨λa xs e=>by
 have z:a≠p:=λz=>by subst z;rw[h.tupNone e]at g;cases g
 rw[jae z];exact e,λa ob e=>by
 have z:a≠p:=λz=>by subst z;rw[h.codNone e]at g;cases g
 rw[jae z];exact e⟩
def HR.write  (h:HR K H G){mo mo':MO}(g:G p=some mo)(m:MOk K (upd H p o) p mo'):HR K (upd H p o) (gup G p mo'):=⟨λa ob q=>by
 by_cases z:a=p
 ·subst z;rw[jay]at q
  lia
 ·rw[jbz z]at q;exact(h a ob q).keep (jae z) (TS.write h g),h.tabW g⟩
def Fr.write     (g:G p=some mo):Fr H G (upd H p o) (gup G p mo'):=⟨λa ob h n _=>by
 have z:a≠p:=λz=>by lia
 exact⟨by rw[jae z];exact h,by rw[jbz z];exact n⟩⟩
theorem RUs.length  : ∀{us } {vs },RUs K H us vs->us.length=vs.length
 |[],_,h=>by cases h;rfl
 |_::_,_,h=>by
  obtain⟨v,vr,rfl,_,rs⟩:=h;simp[rs.length]
theorem RUs.append  : ∀{us ws } {vs xs },RUs K H us vs->RUs K H ws xs->RUs K H (us++ws) (vs++xs)
 |[],_,_,_,h,h'=>by cases h;exact h'
 |_::_,_,_,_,h,h'=>by
  obtain⟨v,vr,rfl,r,rs⟩:=h;exact⟨v,vr++_,rfl,r,rs.append h'⟩
theorem RUs.get  : ∀{us } {vs } {i:Nat} {u },RUs K H us vs->us[i]?=some u->∃v,vs[i]?=some v/\RU K H u v
 |[],_,_,_,_,e=>by simp at e
 |_::_,_,0,_,h,e=>by
  obtain⟨v,vr,rfl,r,_⟩:=h
  simp_all
 |_::_,_,i+1,_,h,e=>by
  obtain⟨v,vr,rfl,_,rs⟩:=h;obtain⟨w,h1,h2⟩:=rs.get (i:=i) (by simpa using e)
  simp_all
theorem RUs.take  : ∀{us } {vs } n ,RUs K H us vs->RUs K H (us.take n) (vs.take n)
 |_,_,0,_=>rfl
 |[],_,_+1,h=>by cases h;rfl
 |_::_,_,n+1,h=>by
  obtain⟨v,vr,rfl,r,rs⟩:=h;exact⟨v,vr.take n,rfl,r,rs.take n⟩
theorem RUs.drop  : ∀{us } {vs } n ,RUs K H us vs->RUs K H (us.drop n) (vs.drop n)
 |_,_,0,h=>h
 |[],_,_+1,h=>by cases h;rfl
 |_::_,_,n+1,h=>by
  obtain⟨v,vr,rfl,_,rs⟩:=h;exact rs.drop n
theorem RUs.set    (r:RU K H u v):∀{us } {vs } i ,RUs K H us vs->RUs K H (us.set i u) (vs.set i v)
 |[],_,_,h=>by cases h;rfl
 |_::_,_,0,h=>by
  obtain⟨w,vr,rfl,_,rs⟩:=h;exact⟨v,vr,rfl,r,rs⟩
 |_::_,_,i+1,h=>by
  obtain⟨w,vr,rfl,q,rs⟩:=h;exact⟨w,vr.set i v,rfl,q,rs.set r i⟩
theorem RUs.reverse  : ∀{us } {vs },RUs K H us vs->RUs K H us.reverse vs.reverse
 |[],_,h=>by cases h;rfl
 |_::_,_,h=>by
  obtain⟨v,vr,rfl,r,rs⟩:=h;rw[YbL,YbL];exact rs.reverse.append ⟨v,[],rfl,r,rfl⟩
theorem RUs.rep    (h:RUs K H us vs):∀k ,RUs K H (Yab k us).flatten (Yab k vs).flatten
 |0=>rfl
 |k+1=>by
  rw[Yay,Yay,Ya4,Ya4];exact h.append (h.rep k)
theorem RUs.atI {us:List U}{vs:List V}{i:Int}{u:U}(h:RUs K H us vs)(e:atI us i=some u):∃v,L2.atI vs i=some v/\RU K H u v:=by
 unfold L2.atI at e ⊢;rw[h.length]at e;cases q:ixN vs.length i with
 |none=>simp_all
 |some j=>
  rw[q]at e;exact h.get e
def RUs.cut    (h:RUs K H us vs) lo hi:RUs K H (Z.cut us lo hi) (cutV vs lo hi):=by
 unfold Z.cut cutV;rw[h.length];exact(h.drop _).take _
theorem RUs.isEmpty    (h:RUs K H us vs):us.isEmpty=vs.isEmpty:=by
 cases us with
 |nil=>cases h;rfl
 |cons u us=>obtain⟨v,vr,rfl,_⟩:=h;rfl
theorem RUs.strs  : ∀{us } {vs } {ns },RUs K H us vs->jc8 us=some ns->vs=ns.map V.str
 |[],_,_,h,e=>by cases h;cases e;rfl
 |u::us,_,ns,h,e=>by
  obtain⟨v,vr,rfl,r,rs⟩:=h;cases u with
  |str i=>
   cases r;rw[jc8]at e;cases q:jc8 us with
   |none=>lia
   |some l=>rw[q]at e;cases e;rw[rs.strs q];rfl
  |_=>cases e
theorem RUs.bools  : ∀{us } {vs } {ns },RUs K H us vs->jcp us=some ns->vs=ns.map V.bl
 |[],_,_,h,e=>by cases h;cases e;rfl
 |u::us,_,ns,h,e=>by
  obtain⟨v,vr,rfl,r,rs⟩:=h;cases u with
  |bl i=>
   cases r;rw[jcp]at e;cases q:jcp us with
   |none=>lia
   |some l=>rw[q]at e;cases e;rw[rs.bools q];rfl
  |_=>cases e
def HR.lst  (h:HR K H G)(e:G a=some (.lst us)):∃vs,H a=some (.lst vs)/\RUs K H us vs:=h a _ e
def HR.ls  (h:HR K H G)(e:lsG G a=some us):∃vs,SqL K H a vs/\RUs K H us vs:=by
 unfold lsG at e;split at e
 ·rename_i xs q;cases e;obtain⟨vs,q2,r⟩:=h a _ q;exact⟨vs,.inl (.inl q2),r⟩
 ·rename_i xs q;cases e;obtain⟨o,vs,q2,r⟩:=h a _ q;exact⟨vs,.inl (.inr ⟨o,q2⟩),r⟩
 lia
def HR.rd  (h:HR K H G)(e:lsG G a=some us):∃vs,Rd H a (.lst vs)/\RUs K H us vs:=by
 unfold lsG at e;split at e
 ·rename_i xs q;cases e;obtain⟨vs,q2,r⟩:=h a _ q;exact⟨vs,.inl q2,r⟩
 ·rename_i xs q;cases e;obtain⟨o,vs,q2,r⟩:=h a _ q;exact⟨vs,.inr ⟨o,q2⟩,r⟩
 lia
end
mutual
theorem DU.dv {K:Yac}{H:Hp}{G:Gp}(h:HR K H G):∀{u:U} {d:PyData} {v:V},DU G u d->RU K H u v->DV K H v d
 |_,_,_,.non,r=>by cases r;exact .non
 |_,_,_,.bl b,r=>by cases r;exact .bl b
 |_,_,_,.int i,r=>by cases r;exact .int i
 |_,_,_,.str x,r=>by cases r;exact .str x
 |_,_,_,.tup q,r=>by
  obtain⟨a,vs,rfl,s,rs⟩:=r
  exact .tup (.of s) (DUs.dv h q rs)
 |_,_,_,.lst e q,r=>by
  cases r
  obtain⟨vs,s,rs⟩:=h.rd e
  exact .lst s (DUs.dv h q rs)
 |_,_,_,.dic e,r=>by
  cases r
  obtain⟨l,q,rs⟩:=h _ _ e
  cases rs
  exact .dic q
theorem DUs.dv {K:Yac}{H:Hp}{G:Gp}(h:HR K H G):∀{us:List U} {ds:List PyData} {vs:List V},DUs G us ds->RUs K H us vs->DVs K H vs ds
 |_,_,_,.nil,r=>by cases r;exact .nil
 |_,_,_,.cons a b,r=>by
  obtain⟨v,vr,rfl,r1,rs⟩:=r
  exact .cons (DU.dv h a r1) (DUs.dv h b rs)
end
end Z

namespace L2
open PySem
def PE.imp     (h:PE X e t)(i:∀σ H Q,t' σ H Q->t σ H Q):PE X e t':=λpins s σ H Q I q=>h pins s σ H Q I (i σ H Q q)
def PT.imp     (h:PT X e t)(i:∀σ H Q,t' σ H Q->t σ H Q):PT X e t':=λpins s σ H Q I q=>h pins s σ H Q I (i σ H Q q)
def PW.imp     (h:PW X e t)(i:∀σ H Q,t' σ H Q->t σ H Q):PW X e t':=λw pins s σ H Q I q=>h w pins s σ H Q I (i σ H Q q)
def PA.imp     (h:PA X e t)(i:∀σ H Q,t' σ H Q->t σ H Q):PA X e t':=λpos pins s σ H Q I q=>h pos pins s σ H Q I (i σ H Q q)
def PO.imp     (h:PO X e t)(i:∀σ H Q,t' σ H Q->t σ H Q):PO X e t':=λpins s σ H Q I q=>h pins s σ H Q I (i σ H Q q)
def PS.imp     (h:PS X e t)(i:∀D σ H,t' D σ H->t D σ H):PS X e t':=λpins s σ H D I q=>h pins s σ H D I (i D σ H q)
def PSs.imp     (h:PSs X e t)(i:∀D σ H,t' D σ H->t D σ H):PSs X e t':=λpins s σ H D I q=>h pins s σ H D I (i D σ H q)
end L2
namespace Z
open PySem L2
noncomputable def gK  (K:Yac):Str->Option Value:=λx=>(YbH K YaC x).join
def XD  (K:Yac)(H:Hp)(C dx:Addr)(x:XV):Prop:=1<=x.c/\x.c<6/\XCls K (gK K) (clsN x.c) (clsF x.c) C/\∃l,H dx=some (.xd l)/\l.map (·.1)=clsF x.c/\RUs K H x.fs (l.map (·.2))
def XAt  (X:Cx)(H:Hp)(s:Shared)(e:Value)(x:XV):Prop:=∃ea C dx,e=.ref ea/\Lies X.s₀.heap.objs.size X.pn H s.heap ea (.ref C) (some dx)/\XD X.K H C dx x
section
variable (X:Cx)
def LX (σ:St)(H:Hp)(G:Gp)(E:KX):Prop:=∀(pins:List (Addr×Obj)) (e:Value) (s':Shared) (x:XV) (G':Gp) (H':Hp),Inv X pins σ H' s'->XAt X H' s' e x->HR X.K H' G'->Fr H G H' G'->E x G'->X.xe e s'
def LV (H:Hp)(G:Gp)(Q:K1)(Q0:VK):Prop:=∀w v G' H',RU X.K H' w v->HR X.K H' G'->Fr H G H' G'->Q w G'->Q0 v H'
def lE (t:UE):TE:=λσ H Q0=>∃ς G Q E,SR X.K H ς σ/\HR X.K H G/\t ς G Q E/\LV X H G Q Q0/\LX X σ H G E
def lT (t:UT):TT:=λσ H Q0=>∃ς G Q E,SR X.K H ς σ/\HR X.K H G/\t ς G Q E/\(∀b G' H',HR X.K H' G'->Fr H G H' G'->Q b G'->Q0 b H')/\LX X σ H G E
def lA (t:UA):TA:=λσ H Q0=>∃ς G Q E,SR X.K H ς σ/\HR X.K H G/\t ς G Q E/\(∀ws vs G' H',RUs X.K H' ws vs->HR X.K H' G'->Fr H G H' G'->Q ws G'->Q0 vs H')/\LX X σ H G E
def lO (t:Sg->Gp->(Option Int->Gp->Prop)->KX->Prop):TO:=λσ H Q0=>∃ς G Q E,SR X.K H ς σ/\HR X.K H G/\t ς G Q E/\(∀o G' H',HR X.K H' G'->Fr H G H' G'->Q o G'->Q0 o H')/\LX X σ H G E
end
section
variable {X:Cx}{σ:St}{H H1 H2:Hp}{G G1 G2:Gp}
def LX.fr  {E:KX}(h:LX X σ H G E)(f:Fr H G H1 G1):LX X σ H1 G1 E:=λpins e s' x G' H' I a hr f' q=>h pins e s' x G' H' I a hr (f.trans f') q
def LV.fr    (h:LV X H G Q Q0)(f:Fr H G H1 G1):LV X H1 G1 Q Q0:=λw v G' H' r hr f' q=>h w v G' H' r hr (f.trans f') q
def LV.here    (h:LV X H G Q Q0)(r:RU X.K H w v)(hr:HR X.K H G)(q:Q w G):Q0 v H:=h w v G H r hr (Fr.refl _ _) q
def LV.bl    (h:LV X H G Q Q0)(hr:HR X.K H G)(q:Q (.bl b) G):Q0 (.bl b) H:=h.here (w:=.bl b) rfl hr q
def LV.int    (h:LV X H G Q Q0)(hr:HR X.K H G)(q:Q (.int b) G):Q0 (.int b) H:=h.here (w:=.int b) rfl hr q
def LV.str    (h:LV X H G Q Q0)(hr:HR X.K H G)(q:Q (.str b) G):Q0 (.str b) H:=h.here (w:=.str b) rfl hr q
def LV.tup    (h:LV X H G Q Q0)(e:H p=none)(r:RUs X.K H us vs)(hr:HR X.K H G)(q:Q (.tup us) G):Q0 (.ref p) (upd H p (.tup vs)):=
 h (.tup us) (.ref p) G _ ⟨p,vs,rfl,jau,r.ts (TS.new e)⟩ (hr.newT e) (Fr.new e) q
def LV.lst    (h:LV X H G Q Q0)(e:H p=none)(r:RUs X.K H us vs)(hr:HR X.K H G)(q:newO G (.lst us) Q):Q0 (.ref p) (upd H p (.lst vs)):=
 h (.loc p) (.ref p) _ _ rfl (hr.newO (mo:=.lst us) e ⟨vs,jau,r.ts (TS.new e)⟩) (Fr.newO e) (q.at p (hr.nope e))
def LV.wl    (h:LV X H G Q Q0)(g:G p=some mo)(r:RUs X.K H us vs)(hr:HR X.K H G)(rw':RU X.K H w v)(q:putO G p (.lst us) (Q w)):Q0 v (upd H p (.lst vs)):=
 h w v _ _ (rw'.ts (TS.write hr g)) (hr.write (mo':=.lst us) g ⟨vs,jau,r.ts (TS.write hr g)⟩) (Fr.write g) q.at
end

def lE.two  {R:V->V->Hp->Prop}{k:U->U->Gp->K1->Prop}(h:lE X (λς G Q E=>ta ς G (λx G1=>tb ς G1 (λy G2=>k x y G2 Q) E) E) σ H Q0)
  (f:∀x y v v' G H' Q,RU X.K H' x v->RU X.K H' y v'->HR X.K H' G->k x y G Q->LV X H' G Q Q0->R v v' H'):lE X ta σ H λv H1=>lE X tb σ H1 λv' H2=>R v v' H2:=by
 obtain⟨ς,G,Q,E,hς,hG,h,lv,lx⟩:=h;refine⟨ς,G,_,E,hς,hG,h,λx v G1 H1 rx hG1 f1 h1=>?_,lx⟩;refine⟨ς,G1,_,E,hς.ts (f1.ts hG),hG1,h1,λy v' G2 H2 ry hG2 f2 h2=>?_,lx.fr f1⟩;exact f x y v v' G2 H2 Q (rx.ts (f2.ts hG1)) ry hG2 h2 (lv.fr (f1.trans f2))
def lE.one  {R:V->Hp->Prop}{k:U->Gp->K1->Prop}(h:lE X (λς G Q E=>ta ς G (λx G1=>k x G1 Q) E) σ H Q0)
  (f:∀x v G H' Q,RU X.K H' x v->HR X.K H' G->k x G Q->LV X H' G Q Q0->R v H'):lE X ta σ H R:=by
 obtain⟨ς,G,Q,E,hς,hG,h,lv,lx⟩:=h;exact⟨ς,G,_,E,hς,hG,h,λx v G1 H1 rx hG1 f1 h1=>f x v G1 H1 Q rx hG1 h1 (lv.fr f1),lx⟩
def lE.many    {k:List U->Gp->K1->Prop}(h:lE X (λς G Q E=>ta ς G (λx G1=>k x G1 Q) E) σ H Q0)
  (f:∀x v G H' Q,RUs X.K H' x v->HR X.K H' G->k x G Q->LV X H' G Q Q0->R v H'):lA X ta σ H R:=by
 obtain⟨ς,G,Q,E,hς,hG,h,lv,lx⟩:=h;exact⟨ς,G,_,E,hς,hG,h,λx v G1 H1 rx hG1 f1 h1=>f x v G1 H1 Q rx hG1 h1 (lv.fr f1),lx⟩

def jl5    (hN:X.N[i]?=some x)(hv:Vis X.env.scope x)(hd:(x==("__debug__" : Str))=false)(hcd:(x==("__classdict__" : Str))=false):PE X (.Name x pos) (lE X λς G Q _=>slot ς i λu=>Q u G):=by
 refine(jkR hN hv hd hcd).imp λσ H Q0 h=>?_;obtain⟨ς,G,Q,E,hς,hG,h,lv,_⟩:=h;unfold slot at h;split at h
 ·rename_i u e;obtain⟨v,e1,r⟩:=hς.2 i u e;exact⟨v,e1,lv.here r hG h⟩
 lia
def jb8     (h:PE X e (tC v))(r:∀H,RU X.K H u v):PE X e (lE X λ_ G Q _=>Q u G):=
 h.imp λ_ _ _ ⟨_,_,_,_,_,hG,q,lv,_⟩=>lv.here (r _) hG q
def OpU  (X:Cx)(f:Value->Value->Sem Value)(b:U->U->Gp->K1->Prop):Prop:=
 ∃r:R2,OpR X f r/\∀x y v v' G H Q Q0,RU X.K H x v->RU X.K H y v'->HR X.K H G->b x y G Q->LV X H G Q Q0->r v v' H Q0

def jmk    (ho:OpU X (YaY o) k)(ha:PE X a (lE X ta))(hb:PE X b (lE X tb)) :
  PE X (.BinOp a o b pos) (lE X λς G Q E=>ta ς G (λx G1=>tb ς G1 (λy G2=>k x y G2 Q) E) E):=by
 obtain⟨r,h1,h2⟩:=ho;exact(jmM h1 ha hb).imp λσ H Q0 h=>lE.two h λx y v v' G H' Q rx ry hG q lv=>h2 x y v v' G H' Q Q0 rx ry hG q lv
def jk7  : OpU X (YaY .Add) addU:=by
 refine⟨_,jlj.or (jfE.or ((jjq (X:=X)).or (jli.or jjr))),?_⟩;intro x y v v' G H Q Q0 rx ry hG h lv;cases x<;>try exact h.elim
 ·cases y<;>try exact h.elim
  cases rx;cases ry;exact .inr (.inr (.inr (.inr ⟨_,_,rfl,rfl,lv.int hG h⟩)))
 ·cases y<;>try exact h.elim
  cases rx;cases ry;exact .inl ⟨_,_,rfl,rfl,lv.int hG h⟩
 ·cases y<;>try exact h.elim
  cases rx;cases ry;exact .inr (.inl ⟨_,_,rfl,rfl,h.1,lv.str hG h.2⟩)
 ·cases y<;>try exact h.elim
  rename_i xs ys;obtain⟨a,vs,rfl,s1,r1⟩:=rx;obtain⟨b,ws,rfl,s2,r2⟩:=ry;obtain⟨hl,q⟩:=h;refine .inr (.inr (.inl ⟨a,b,vs,ws,rfl,rfl,.of s1,.of s2,by rw[<- r1.length,<- r2.length];exact hl,λz=>?_,λ_ z=>?_,λ_ _ p hp=>?_⟩))
  ·have:xs=[]:=by have:=r1.length;simp_all
   subst this;exact lv.here (w:=.tup ys) ⟨b,ws,rfl,s2,r2⟩ hG q
  ·have:ys=[]:=by have:=r2.length;simp_all
   subst this;rw[Ycz]at q;exact lv.here (w:=.tup xs) ⟨a,vs,rfl,s1,r1⟩ hG q
  ·exact lv.tup hp (r1.append r2) hG q
 ·cases y<;>try exact h.elim
  cases rx;cases ry;obtain⟨xs,ys,g1,g2,hl,q⟩:=h;obtain⟨vs,e1,r1⟩:=hG.lst g1;obtain⟨ws,e2,r2⟩:=hG.lst g2;exact .inr (.inr (.inr (.inl ⟨_,_,vs,ws,rfl,rfl,e1,e2,by rw[<- r1.length,<- r2.length];exact hl,λp hp=>lv.lst hp (r1.append r2) hG q⟩)))
def jk2  : OpU X (YaY .Sub) subU:=by
 refine⟨_,jk8.or (jjl (X:=X)),?_⟩;intro x y v v' G H Q Q0 rx ry hG h lv;cases x<;>try exact h.elim
 all_goals cases y<;>try exact h.elim
 all_goals cases rx;cases ry
 ·exact .inr (.inl ⟨_,_,rfl,rfl,lv.int hG h⟩)
 ·exact .inr (.inr ⟨_,_,rfl,rfl,lv.int hG h⟩)
 ·exact .inl ⟨_,_,rfl,rfl,lv.int hG h⟩
def jk4  : OpU X (YaY .Mult) mulU:=by
 refine⟨_,jlc.or (jk9.or ((jjm (X:=X)).or jjn)),?_⟩;intro x y v v' G H Q Q0 rx ry hG h lv;cases x<;>try exact h.elim
 all_goals cases y<;>try exact h.elim
 ·cases rx;cases ry;exact .inl ⟨_,_,rfl,rfl,h.1,lv.int hG h.2⟩
 ·cases rx;cases ry;exact .inr (.inr (.inr ⟨_,_,rfl,rfl,h.1,h.2.1,h.2.2.1,lv.str hG h.2.2.2⟩))
 ·rename_i xs k;obtain⟨a,vs,rfl,s1,r1⟩:=rx;cases ry;obtain⟨h0,h1,h2,hl,q⟩:=h;refine .inr (.inr (.inl ⟨a,k,vs,rfl,rfl,.of s1,?_,h1,h2,by rw[<- r1.length];exact hl,λz=>?_,λ_ p hp=>lv.tup hp (r1.rep _) hG q⟩))
  ·intro z;subst z;exact h0 (by have:=r1.length;simp_all)
  ·subst z;have e:(Yab (Int.toNat 1) xs).flatten=xs:=by simp
   rw[e]at q;exact lv.here (w:=.tup xs) ⟨a,vs,rfl,s1,r1⟩ hG q
 ·cases rx;cases ry;obtain⟨xs,g1,h1,h2,hl,q⟩:=h;obtain⟨vs,e1,r1⟩:=hG.lst g1;exact .inr (.inl ⟨_,_,vs,rfl,rfl,e1,h1,h2,by rw[<- r1.length];exact hl,λp hp=>lv.lst hp (r1.rep _) hG q⟩)
def jjk  : OpU X (YaY .FloorDiv) jlQ:=by
 refine⟨_,jjo,?_⟩;intro x y v v' G H Q Q0 rx ry hG h lv;cases x<;>try exact h.elim
 cases y<;>try exact h.elim
 ·cases rx;cases ry;exact⟨_,_,rfl,rfl,⟨h.1,h.2.1⟩,lv.int hG h.2.2⟩
def jk5  : OpU X (YaY .Mod) modU:=by
 refine⟨_,jld,?_⟩;intro x y v v' G H Q Q0 rx ry hG h lv;cases x<;>try exact h.elim
 cases y<;>try exact h.elim
 ·cases rx;cases ry;exact⟨_,_,rfl,rfl,h.1,lv.int hG h.2⟩
def jk3  : OpU X (YaY .Pow) powU:=by
 refine⟨_,jla,?_⟩;intro x y v v' G H Q Q0 rx ry hG h lv;cases x<;>try exact h.elim
 cases y<;>try exact h.elim
 ·cases rx;cases ry;exact⟨_,_,rfl,rfl,h.1,lv.int hG h.2⟩
def jk6   o:OpU X (YaY o) (binU o):=by
 cases o with
 |Add=>exact jk7
 |Sub=>exact jk2
 |Mult=>exact jk4
 |FloorDiv=>exact jjk
 |Mod=>exact jk5
 |Pow=>exact jk3
 |_=>exact⟨λ_ _ _ _=>False,λ_ _ _ _ _ _ _ _ _ _ _ _ h=>h.elim,λ_ _ _ _ _ _ _ _ _ _ _ h _=>h⟩
def jmd  (ha:PE X a (lE X ta)):PE X (.UnaryOp .USub a pos) (lE X λς G Q E=>ta ς G (λx G1=>negU x G1 Q) E):=by
 refine(jmL jj5 ha).imp λσ H Q0 h=>lE.one h λx v G H' Q rx hG q lv=>?_;cases x<;>try exact q.elim
 cases rx;exact⟨_,rfl,lv.int hG q⟩
def CmU  (X:Cx)(o:CmpOp):Prop:=
 ∃r:R2,OpR X (YaE o) r/\∀x y v v' G H (k:Bool->Prop) (Q0:VK),RU X.K H x v->RU X.K H y v'->HR X.K H G->cmpU o x y G k->(∀c,k c->Q0 (.bl c) H)->r v v' H Q0

def jir  {X: Cx}(rx:RU X.K H x v)(ry:RU X.K H y v')(hG:HR X.K H G)(h:eqU x y G k) :
  (scal v v'=true/\k (decide (v=v')))\/∃d e,DV X.K H v d/\DV X.K H v' e/\d.canLay0=true/\e.canLay0=true/\d.depth<=100/\k (YaA d e):=by
 have g:(∃d e,DU G x d/\DU G y e/\Small d/\Small e/\k (YaA d e))->(scal v v'=true/\k (decide (v=v')))\/∃d e,DV X.K H v d/\DV X.K H v' e/\d.canLay0=true/\e.canLay0=true/\d.depth<=100/\k (YaA d e):=
  λ⟨d,e,h1,h2,⟨s1,s2⟩,⟨s3,_⟩,q⟩=>.inr ⟨d,e,h1.dv hG rx,h2.dv hG ry,s1,s3,s2,q⟩
 have e:∀{p:Prop} [Decidable p],¬p->k false->k (decide p):=λn q=>by lia
 cases x<;>try exact g h
 all_goals
  cases y<;>first
   |exact g h
   |(cases rx;cases ry;exact .inl ⟨rfl,e (λz=>V.noConfusion z) h⟩)
   |(cases rx;cases ry;exact .inl ⟨rfl,by simp only[V.bl.injEq,V.int.injEq,V.str.injEq];exact h⟩)
def jd3      (r:RUs K H us vs):vs.isEmpty=us.isEmpty:=by
 have:=r.length;cases us<;>cases vs<;>simp_all
def jjQ  {X: Cx}(rx:RU X.K H x v)(ry:RU X.K H y v')(hG:HR X.K H G)(h:eqQ x y G k):eqU x y G k\/(∃a z kvs,v=.ref a/\v'=.str z/\H a=some (.dK kvs)/\k false)\/(∃a b xs,v=.ref a/\v'=.ref b/\SqT X.K H a xs/\SqT X.K H b []/\k xs.isEmpty)\/∃a z xs,v=.ref a/\v'=.str z/\(SqT X.K H a xs\/SqL X.K H a xs)/\k false:=by
 cases x<;>try exact .inl h
 all_goals cases y<;>try exact .inl h
 ·obtain⟨a,vs,rfl,s1,r1⟩:=rx;cases ry;exact .inr (.inr (.inr ⟨a,_,vs,rfl,rfl,.inl (.of s1),h⟩))
 ·rename_i ys;cases ys<;>try exact .inl h
  obtain⟨a,vs,rfl,s1,r1⟩:=rx;obtain⟨b,ws,rfl,s2,r2⟩:=ry;cases r2;refine .inr (.inr (.inl ⟨a,b,vs,rfl,rfl,.of s1,.of s2,?_⟩));rw[jd3 r1];exact h
 ·rcases h with⟨kvs,g,q⟩|⟨xs,g,q⟩|h
  ·cases rx;cases ry;obtain⟨l,e,rs⟩:=hG _ _ g;exact .inr (.inl ⟨_,_,l,rfl,rfl,e,q⟩)
  ·cases rx;cases ry;obtain⟨vs,e,rs⟩:=hG.lst g;exact .inr (.inr (.inr ⟨_,_,vs,rfl,rfl,.inr (.of e),q⟩))
  ·exact .inl h
def jjy  {X: Cx}(rx:RU X.K H x v)(ry:RU X.K H y v')(h:HR X.K H G)(h:neQ x y G k):eqU x y G k\/∃a b xs,v=.ref a/\v'=.ref b/\SqT X.K H a xs/\SqT X.K H b []/\k xs.isEmpty:=by
 cases x<;>try exact .inl h
 cases y<;>try exact .inl h
 rename_i ys;cases ys<;>try exact .inl h
 obtain⟨a,vs,rfl,s1,r1⟩:=rx;obtain⟨b,ws,rfl,s2,r2⟩:=ry;cases r2;refine .inr ⟨a,b,vs,rfl,rfl,.of s1,.of s2,?_⟩;rw[jd3 r1];exact h
def jei       (r:RU K H x v)(e:kU x=some k):v=kV k:=by
 cases x with
 |int i=>cases r;cases e;rfl
 |str i=>cases r;cases e;rfl
 |_=>cases e
theorem jfl    : ∀{xs } {vs } {ks },RUs K H xs vs->kUs xs=some ks->vs=ks.map kV
 |[],_,_,r,e=>by cases r;cases e;rfl
 |x::xs,_,ks,r,e=>by
  obtain⟨v,vr,rfl,r1,rs⟩:=r;rw[kUs]at e;cases h1:kU x with
  |none=>lia
  |some k=>
   cases h2:kUs xs with
   |none=>lia
   |some l=>
    rw[h1,h2]at e;cases e;rw[jei r1 h1,jfl rs h2];rfl
def jdO      (r:RU K H x v)(e:flat x=true):flatV v=true:=by
 cases x<;>first|(cases r;rfl)|exact absurd (show false=true from e) (by decide)
theorem jcx    : ∀{xs } {vs },RUs K H xs vs->xs.all flat=true->vs.all flatV=true
 |[],_,r,_=>by cases r;rfl
 |x::xs,_,r,e=>by
  obtain⟨v,vr,rfl,r1,rs⟩:=r;rw[YbC,Yap]at e;rw[YbC,jdO r1 e.1,jcx rs e.2];rfl
def jlR      (r:RU K H x v)(r':RU K H y v')(e:flat x=true)(e':flat y=true):eqV v v'=eqF x y:=by
 cases x<;>first|(exact absurd (show false=true from e) (by decide))|(cases y<;>first|(exact absurd (show false=true from e') (by decide))|(cases r;cases r';rfl))
theorem jfs      (r:RU K H x v)(e:flat x=true):∀{xs } {vs },RUs K H xs vs->xs.all flat=true->inV v vs=xs.any λy=>eqF y x
 |[],_,rs,_=>by cases rs;rfl
 |y::xs,_,rs,e'=>by
  obtain⟨v',vr,rfl,r1,rs⟩:=rs;rw[YbC,Yap]at e';have ih:=jfs r e rs e'.2;unfold inV at ih ⊢;rw[Yba,Yba,jlR r1 r e'.1 e,ih]
theorem jb7 {κ:Type}[DecidableEq κ]{K:Yac}{H:Hp}(k:κ):∀{kvs:List (κ×U)} {l:List (κ×V)},RKs K H kvs l->match dGet kvs k with|some u=>∃v,valV l k=some v/\RU K H u v|none=>valV l k=none
 |[],_,r=>by cases r;exact rfl
 |(k',u)::kvs,_,r=>by
  obtain⟨v,l',rfl,r1,rs⟩:=r;by_cases e:k'=k
  ·subst e;have:dGet ((k',u)::kvs) k'=some u:=by simp[dGet,Ybg]
   rw[this];exact⟨v,jcu rfl,r1⟩
  ·have:dGet ((k',u)::kvs) k=dGet kvs k:=by simp[dGet,Ybg,e]
   rw[this,jcv (p:=(k',v)) e];exact jb7 k rs
def jcS   [DecidableEq κ](k:κ)(r:RKs K H kvs l):(valV l k).isSome=(dGet kvs k).isSome:=by
 have:=jb7 k r
 grind
def rDIn  (neg:Bool):R2:=λx y H Q=>∃a o,y=.ref a/\DGet H a x o/\Q (.bl (if neg then !o.isSome else o.isSome)) H
def jlh  (hu:X.A.units+1<cLine):OpR X (YaE .In) (rDIn false):=by
 intro pins s σ H x y v u Q I rx ry h;obtain⟨a,o,rfl,g,q⟩:=h;cases ry;exact d_in hu I g rx λs' I'=>⟨.bl o.isSome,H,I',rfl,q⟩
def jgo  (hu:X.A.units+1<cLine):OpR X (YaE .NotIn) (rDIn true):=by
 intro pins s σ H x y v u Q I rx ry h;obtain⟨a,o,rfl,g,q⟩:=h;cases ry;exact jjS hu I g rx λs' I'=>⟨.bl (!o.isSome),H,I',rfl,q⟩
def jii  {X: Cx}(rx:RU X.K H x v)(ry:RU X.K H y v')(hG:HR X.K H G)(h:inU x y G k) :
  (∃i j,v=.str i/\v'=.str j/\k (!(YaU j i 0 j.length 1).isEmpty))\/(∃p xs,v'=.ref p/\(SqL X.K H p xs\/SqT X.K H p xs)/\flatV v=true/\xs.all flatV=true/\k (inV v xs))\/
   (∃a o,v'=.ref a/\DGet H a v o/\k o.isSome)\/(∃(p:Addr) (vs:List V) (d:PyData) (ds:List PyData),v'=.ref p/\(SqL X.K H p vs\/SqT X.K H p vs)/\DV X.K H v d/\DVs X.K H vs ds/\d.canLay0=true/\d.depth<=100/\(∀e∈ds,e.canLay0=true)/\k (ds.any λe=>YaA e d))\/∃(a p:Addr) (zs:List Str),v=.ref a/\((∃xs,SqT X.K H a xs\/SqL X.K H a xs)\/∃kvs,H a=some (.dK kvs))/\v'=.ref p/\SqT X.K H p (zs.map V.str)/\k false:=by
 unfold inU at h;split at h
 ·cases rx;cases ry;exact .inl ⟨_,_,rfl,rfl,h⟩
 ·obtain⟨a,vs,rfl,e,rs⟩:=ry;rcases h with⟨hz,q⟩|⟨d,ds,hd,hds,sd,sds,q⟩
  ·obtain⟨zs,hz⟩:=Option.isSome_iff_exists.mp hz;obtain⟨b,ws,rfl,e2,_⟩:=rx;exact .inr (.inr (.inr (.inr ⟨b,a,zs,rfl,.inl ⟨ws,.inl (.of e2)⟩,rfl,rs.strs hz ▸ .of e,q⟩)))
  ·exact .inr (.inr (.inr (.inl ⟨a,vs,d,ds,rfl,.inr (.of e),hd.dv hG rx,hds.dv hG rs,sd.1,sd.2,λe he=>(sds e he).1,q⟩)))
 ·obtain⟨a,vs,rfl,e,rs⟩:=ry;obtain⟨hz,hl,q⟩:=h;obtain⟨zs,hz⟩:=Option.isSome_iff_exists.mp hz;cases rx;refine .inr (.inr (.inr (.inr ⟨_,a,zs,rfl,?_,rfl,rs.strs hz ▸ .of e,q⟩)));rcases hl with⟨xs,g⟩|⟨kvs,g⟩
  ·obtain⟨ws,e2,_⟩:=hG.lst g;exact .inl ⟨ws,.inr (.of e2)⟩
  ·obtain⟨l,e2,_⟩:=hG _ _ g;exact .inr ⟨l,e2⟩
 ·obtain⟨a,vs,rfl,e,rs⟩:=ry;obtain⟨f1,f2,q⟩:=h;exact .inr (.inl ⟨a,vs,rfl,.inr (.of e),jdO rx f1,jcx rs f2,by rw[jfs rx f1 rs f2];exact q⟩)
 ·cases ry;rename_i a;split at h
  ·rename_i ys g;obtain⟨vs,e,rs⟩:=hG.lst g;rcases h with⟨f1,f2,q⟩|⟨d,ds,hd,hds,sd,sds,q⟩
   ·exact .inr (.inl ⟨a,vs,rfl,.inl (.of e),jdO rx f1,jcx rs f2,by rw[jfs rx f1 rs f2];exact q⟩)
   ·exact .inr (.inr (.inr (.inl ⟨a,vs,d,ds,rfl,.inl (.of e),hd.dv hG rx,hds.dv hG rs,sd.1,sd.2,λe he=>(sds e he).1,q⟩)))
  ·rename_i ys g;obtain⟨ob,vs,e,rs⟩:=hG a _ g;obtain⟨f1,f2,q⟩:=h;exact .inr (.inl ⟨a,vs,rfl,.inl (.inl (.inr ⟨ob,e⟩)),jdO rx f1,jcx rs f2,by rw[jfs rx f1 rs f2];exact q⟩)
  ·rename_i kvs g;obtain⟨l,e,rs⟩:=hG a _ g;split at h
   ·rename_i y ek;have:=jei rx ek;subst this;exact .inr (.inr (.inl ⟨a,_,rfl,DGet.k e,by rw[jcS y rs];exact h⟩))
   lia
  ·rename_i kvs g;obtain⟨l,e,rs⟩:=hG a _ g;split at h
   ·rename_i xs;obtain⟨b,vs,rfl,eb,rb⟩:=rx;split at h
    ·rename_i y ek;have:=jfl rb ek;subst this;exact .inr (.inr (.inl ⟨a,_,rfl,DGet.t e eb,by rw[jcS y rs];exact h⟩))
    lia
   lia
  ·rename_i o kvs g;obtain⟨l,e,rs⟩:=hG a _ g;split at h
   ·rename_i y ek;have:=jei rx ek;subst this;exact .inr (.inr (.inl ⟨a,_,rfl,.inl ⟨l,y,.inr ⟨o,e⟩,rfl,rfl⟩,by rw[jcS y rs];exact h⟩))
   lia
  lia
 lia
def jeE     (h:ordU o x y k):(∃i j,x=.int i/\y=.int j)\/(o=.LtE/\∃i j,x=.str i/\y=.str j):=by
 cases o<;>try exact h.elim
 all_goals cases x<;>try exact h.elim
 all_goals cases y<;>try exact h.elim
 all_goals lia
def jdy   (hr:Room k X.A) o:CmU X o:=by
 have hu:X.A.units+1<cLine:=by have:=hr.un;lia
 cases o with
 |Eq=>
  refine⟨_,jmU.or ((jlg hr).or ((jdK hr).or ((jfD hr).or (jd9 hr)))),λx y v v' G H k Q0 rx ry hG h q=>?_⟩;rcases jjQ rx ry hG h with h|⟨a,z,kvs,h1,h2,h3,h4⟩|⟨a,b,xs,h1,h2,h3,h4,h5⟩|⟨a,z,xs,h1,h2,h3,h4⟩
  ·rcases jir rx ry hG h with⟨h1,h2⟩|⟨d,e,h1,h2,h3,h4,h5,h6⟩
   ·exact .inl ⟨h1,q _ h2⟩
   ·exact .inr (.inl ⟨d,e,h1,h2,h3,h4,h5,q _ h6⟩)
  ·exact .inr (.inr (.inl ⟨a,z,kvs,h1,h2,h3,q _ h4⟩))
  ·exact .inr (.inr (.inr (.inl ⟨a,b,xs,h1,h2,h3,h4,q _ h5⟩)))
  ·exact .inr (.inr (.inr (.inr ⟨a,z,xs,h1,h2,h3,q _ h4⟩)))
 |NotEq=>
  refine⟨_,jmQ.or ((jlb hr).or (jfC hr)),λx y v v' G H k Q0 rx ry hG h q=>?_⟩;rcases jjy rx ry hG h with h|⟨a,b,xs,h1,h2,h3,h4,h5⟩
  ·rcases jir rx ry hG h with⟨h1,h2⟩|⟨d,e,h1,h2,h3,h4,h5,h6⟩
   ·exact .inl ⟨h1,q _ h2⟩
   ·exact .inr (.inl ⟨d,e,h1,h2,h3,h4,h5,q _ h6⟩)
  ·exact .inr (.inr ⟨a,b,xs,h1,h2,h3,h4,q _ h5⟩)
 |Is=>exact⟨λ_ _ _ _=>False,λ_ _ _ _ _ _ _ _ _ _ _ _ h=>h.elim,λ_ _ _ _ _ _ _ _ _ _ _ h _=>h.elim⟩
 |IsNot=>exact⟨λ_ _ _ _=>False,λ_ _ _ _ _ _ _ _ _ _ _ _ h=>h.elim,λ_ _ _ _ _ _ _ _ _ _ _ h _=>h.elim⟩
 |In=>
  refine⟨_,jgm.or ((jgn (X:=X)).or ((jlh hu).or ((jlf hr).or (jle hr)))),λx y v v' G H k Q0 rx ry hG h q=>?_⟩;rcases jii rx ry hG h with⟨i,j,h1,h2,h3⟩|⟨p,xs,h1,h2,h3,h4,h5⟩|⟨a,o,h1,h2,h3⟩|⟨p,vs,d,ds,h1,h2,h3,h4,h5,h6,h7,h8⟩|⟨a,p,zs,h1,h2,h3,h4,h5⟩
  ·grind
  ·exact .inr (.inl ⟨p,xs,h1,h2,h3,h4,q _ h5⟩)
  ·exact .inr (.inr (.inl ⟨a,o,h1,h2,q _ h3⟩))
  ·exact .inr (.inr (.inr (.inl ⟨p,vs,d,ds,h1,h2,h3,h4,h5,h6,h7,q _ h8⟩)))
  ·exact .inr (.inr (.inr (.inr ⟨a,p,zs,h1,h2,h3,h4,q _ h5⟩)))
 |NotIn=>
  refine⟨_,jd7.or ((jd8 (X:=X)).or ((jgo hu).or ((jgk hr).or (jgj hr)))),λx y v v' G H k Q0 rx ry hG h q=>?_⟩;rcases jii rx ry hG h with⟨i,j,h1,h2,h3⟩|⟨p,xs,h1,h2,h3,h4,h5⟩|⟨a,o,h1,h2,h3⟩|⟨p,vs,d,ds,h1,h2,h3,h4,h5,h6,h7,h8⟩|⟨a,p,zs,h1,h2,h3,h4,h5⟩
  ·grind
  ·exact .inr (.inl ⟨p,xs,h1,h2,h3,h4,q _ h5⟩)
  ·exact .inr (.inr (.inl ⟨a,o,h1,h2,q _ h3⟩))
  ·exact .inr (.inr (.inr (.inl ⟨p,vs,d,ds,h1,h2,h3,h4,h5,h6,h7,q _ h8⟩)))
  ·exact .inr (.inr (.inr (.inr ⟨a,p,zs,h1,h2,h3,h4,q _ h5⟩)))
 |Lt=>
  refine⟨_,jmR,λx y v v' G H k Q0 rx ry hG h q=>?_⟩;obtain⟨i,j,rfl,rfl⟩|⟨z,_⟩:=jeE h
  rotate_left
  ·cases z
  cases rx;cases ry;exact⟨_,_,rfl,rfl,q _ h⟩
 |LtE=>
  refine⟨_,jmS.or jgl,λx y v v' G H k Q0 rx ry hG h q=>?_⟩;obtain⟨i,j,rfl,rfl⟩|⟨_,i,j,rfl,rfl⟩:=jeE h
  ·cases rx;cases ry;exact .inl ⟨_,_,rfl,rfl,q _ h⟩
  ·cases rx;cases ry;exact .inr ⟨_,_,rfl,rfl,q _ h⟩
 |Gt=>
  refine⟨_,jmT,λx y v v' G H k Q0 rx ry hG h q=>?_⟩;obtain⟨i,j,rfl,rfl⟩|⟨z,_⟩:=jeE h
  rotate_left
  ·cases z
  cases rx;cases ry;exact⟨_,_,rfl,rfl,q _ h⟩
 |GtE=>exact⟨λ_ _ _ _=>False,λ_ _ _ _ _ _ _ _ _ _ _ _ h=>h.elim,λ_ _ _ _ _ _ _ _ _ _ _ h _=>h.elim⟩

def jmi   (ho:CmU X o)(ha:PE X a (lE X ta))(hb:PE X b (lE X tb))(hm:Ydj o b=false) :
  PE X (.Compare a [o] [b] pos) (lE X λς G Q E=>ta ς G (λx G1=>tb ς G1 (λy G2=>cmpU o x y G2 λc=>Q (.bl c) G2) E) E):=by
 obtain⟨r,h1,h2⟩:=ho;exact(jjg h1 ha hb hm).imp λσ H Q0 h=>lE.two h λx y v v' G H' Q rx ry hG q lv=>h2 x y v v' G H' _ Q0 rx ry hG q λc q=>lv.bl hG q
def jkb   (ho:CmU X o)(ho':CmU X o')(ha:PE X a (lE X ta))(hb:PE X b (lE X tb))(hc:PE X c (lE X tc))(hm:YeU [o,o'] [b,c]=false) :
  PE X (.Compare a [o,o'] [b,c] pos) (lE X λς G Q E=>ta ς G (λx G1=>tb ς G1 (λy G2=>cmpU o x y G2 λt=>if t=true then tc ς G2 (λz G3=>cmpU o' y z G3 λt'=>Q (.bl t') G3) E else Q (.bl false) G2) E) E):=by
 obtain⟨r,h1,h2⟩:=ho;obtain⟨r',h1',h2'⟩:=ho';refine(jhA h1 h1' ha hb hc hm).imp λσ H Q0 h=>?_;obtain⟨ς,G,Q,E,hς,hG,h,lv,lx⟩:=h;refine⟨ς,G,_,E,hς,hG,h,λx v G1 H1 rx hG1 f1 h1=>?_,lx⟩;refine⟨ς,G1,_,E,hς.ts (f1.ts hG),hG1,h1,λy v' G2 H2 ry hG2 f2 h3=>?_,lx.fr f1⟩;refine h2 x y v v' G2 H2 _ _ (rx.ts (f2.ts hG1)) ry hG2 h3 λt q=>⟨t,rfl,?_⟩;cases t with
 |false=>
  rw[if_neg Yah]at q ⊢;exact(lv.fr (f1.trans f2)).bl hG2 q
 |true=>
  rw[if_pos rfl]at q ⊢;refine⟨ς,G2,_,E,(hς.ts (f1.ts hG)).ts (f2.ts hG1),hG2,q,λz v3 G3 H3 rz hG3 f3 h4=>?_,lx.fr (f1.trans f2)⟩;exact h2' y z v' v3 G3 H3 _ Q0 (ry.ts (f3.ts hG2)) rz hG3 h4 λc q=>(lv.fr ((f1.trans f2).trans f3)).bl hG3 q
def jdE  {X: Cx}(rx:RU X.K H x v)(hG:HR X.K H G)(h:truU x G k):∃b,TruV X.K v H b/\k b:=by
 cases x<;>try exact h.elim
 ·cases rx;exact⟨_,rfl,h⟩
 ·cases rx;exact⟨_,rfl,h⟩
 ·cases rx;exact⟨_,rfl,h⟩
 ·cases rx;exact⟨_,⟨h.1,rfl⟩,h.2⟩
 ·obtain⟨a,vs,rfl,e,rs⟩:=rx;exact⟨_,.inr (.inl ⟨vs,.of e,rfl⟩),by rw[<- rs.isEmpty];exact h⟩
 ·cases rx;unfold truU at h;dsimp only at h;split at h
  ·rename_i g;obtain⟨vs,e,rs⟩:=hG.lst g;exact⟨_,.inl ⟨vs,.of e,rfl⟩,by rw[<- rs.isEmpty];exact h⟩
  ·rename_i g;obtain⟨ob,vs,e,rs⟩:=hG _ _ g;exact⟨_,.inl ⟨vs,.inl (.inr ⟨ob,e⟩),rfl⟩,by rw[<- rs.isEmpty];exact h⟩
  ·rename_i kvs g;obtain⟨l,e,rs⟩:=hG _ _ g;refine⟨_,.inr (.inr ⟨l,e,rfl⟩),?_⟩;cases kvs with
   |nil=>cases rs;exact h
   |cons p r=>obtain⟨v,l',rfl,_⟩:=rs;exact h
  lia
def jl9  (ha:PE X a (lE X ta))(he:∀whole,isTrue a X.env whole=(do let v <- whole;standAt a.pos;holding [v] (truthy v))):PT X a (lT X λς G Q E=>ta ς G (λx G1=>truU x G1 λb=>Q b G1) E):=by
 refine(jhr ha he).imp λσ H Q0 h=>?_;obtain⟨ς,G,Q,E,hς,hG,h,lv,lx⟩:=h;refine⟨ς,G,_,E,hς,hG,h,λx v G1 H1 rx hG1 f1 h1=>?_,lx⟩;obtain⟨b,h2,h3⟩:=jdE rx hG1 h1
 grind
def jka   (ho:CmU X o)(ha:PE X a (lE X ta))(hb:PE X b (lE X tb))(hm:Ydj o b=false) :
  PT X (.Compare a [o] [b] pos) (lT X λς G Q E=>ta ς G (λx G1=>tb ς G1 (λy G2=>cmpU o x y G2 λc=>truU (.bl c) G2 λc=>Q c G2) E) E):=by
 obtain⟨r,h1,h2⟩:=ho;refine(ji1 h1 ha hb hm).imp λσ H Q0 h=>?_;obtain⟨ς,G,Q,E,hς,hG,h,lv,lx⟩:=h;refine⟨ς,G,_,E,hς,hG,h,λx v G1 H1 rx hG1 f1 h1=>?_,lx⟩;refine⟨ς,G1,_,E,hς.ts (f1.ts hG),hG1,h1,λy v' G2 H2 ry hG2 f2 h3=>?_,lx.fr f1⟩;exact h2 x y v v' G2 H2 _ _ (rx.ts (f2.ts hG1)) ry hG2 h3 λt q=>⟨t,rfl,lv t G2 H2 hG2 (f1.trans f2) q⟩
def jiG   (ho:CmU X o)(ho':CmU X o')(ha:PE X a (lE X ta))(hb:PE X b (lE X tb))(hc:PE X c (lE X tc))(hm:YeU [o,o'] [b,c]=false) :
  PT X (.Compare a [o,o'] [b,c] pos) (lT X λς G Q E=>ta ς G (λx G1=>tb ς G1 (λy G2=>cmpU o x y G2 λt=>if t=true then tc ς G2 (λz G3=>cmpU o' y z G3 λt'=>truU (.bl t') G3 λc=>Q c G3) E else truU (.bl false) G2 λc=>Q c G2) E) E):=by
 obtain⟨r,h1,h2⟩:=ho;obtain⟨r',h1',h2'⟩:=ho';refine(jhs h1 h1' ha hb hc hm).imp λσ H Q0 h=>?_;obtain⟨ς,G,Q,E,hς,hG,h,lv,lx⟩:=h;refine⟨ς,G,_,E,hς,hG,h,λx v G1 H1 rx hG1 f1 h1=>?_,lx⟩;refine⟨ς,G1,_,E,hς.ts (f1.ts hG),hG1,h1,λy v' G2 H2 ry hG2 f2 h3=>?_,lx.fr f1⟩;refine h2 x y v v' G2 H2 _ _ (rx.ts (f2.ts hG1)) ry hG2 h3 λt q=>⟨t,rfl,?_⟩;cases t with
 |false=>
  rw[if_neg Yah]at q ⊢;exact⟨false,rfl,lv false G2 H2 hG2 (f1.trans f2) q⟩
 |true=>
  rw[if_pos rfl]at q ⊢;refine⟨ς,G2,_,E,(hς.ts (f1.ts hG)).ts (f2.ts hG1),hG2,q,λz v3 G3 H3 rz hG3 f3 h4=>?_,lx.fr (f1.trans f2)⟩;exact h2' y z v' v3 G3 H3 _ _ (ry.ts (f3.ts hG2)) rz hG3 h4 λc q=>⟨c,rfl,lv c G3 H3 hG3 ((f1.trans f2).trans f3) q⟩
def jji  {rest:List Expr}(ha:PE X a sa)(hb:PE X (.BoolOp .And (b::rest) pos) sb):PE X (.BoolOp .And (a::b::rest) pos) (λσ H Q=>sa σ H λx H1=>∃k,TruV X.K x H1 k/\if k=true then sb σ H1 Q else Q x H1):=by
 intro pins s σ H Q I h;refine PyProof.Rows.BoolOp_and (thn (ha pins s σ H _ I h) λv s1 ⟨x,H1,I1,r1,k,hk,q1⟩=>?_);refine thn (je9 pins s1 σ H1 x v (λc H2=>c=k/\H2=H1) I1 r1 ⟨k,hk,rfl,rfl⟩) λc s2 ⟨H2,I2,e1,e2⟩=>?_;subst e1 e2;cases c with
 |true=>exact hb pins s2 σ H2 Q I2 q1
 |false=>exact⟨x,H2,I2,r1,q1⟩
def jkU  {rest:List Expr}(ha:PE X a sa)(hb:PE X (.BoolOp .Or (b::rest) pos) sb):PE X (.BoolOp .Or (a::b::rest) pos) (λσ H Q=>sa σ H λx H1=>∃k,TruV X.K x H1 k/\if k=true then Q x H1 else sb σ H1 Q):=by
 intro pins s σ H Q I h;refine PyProof.Rows.BoolOp_or (thn (ha pins s σ H _ I h) λv s1 ⟨x,H1,I1,r1,k,hk,q1⟩=>?_);refine thn (je9 pins s1 σ H1 x v (λc H2=>c=k/\H2=H1) I1 r1 ⟨k,hk,rfl,rfl⟩) λc s2 ⟨H2,I2,e1,e2⟩=>?_;subst e1 e2;cases c with
 |true=>exact⟨x,H2,I2,r1,q1⟩
 |false=>exact hb pins s2 σ H2 Q I2 q1
def jml  {rest:List Expr}(ha:PE X a (lE X ta))(hb:PE X (.BoolOp .And (b::rest) pos) (lE X tb)):PE X (.BoolOp .And (a::b::rest) pos) (lE X λς G Q E=>ta ς G (λx G1=>truU x G1 λc=>if c=true then tb ς G1 Q E else Q x G1) E):=by
 refine(jji ha hb).imp λσ H Q0 h=>?_;obtain⟨ς,G,Q,E,hς,hG,h,lv,lx⟩:=h;refine⟨ς,G,_,E,hς,hG,h,λx v G1 H1 rx hG1 f1 h1=>?_,lx⟩;obtain⟨k,h2,h3⟩:=jdE rx hG1 h1;refine⟨k,h2,?_⟩;cases k with
 |true=>rw[if_pos rfl]at h3 ⊢;exact⟨ς,G1,Q,E,hς.ts (f1.ts hG),hG1,h3,lv.fr f1,lx.fr f1⟩
 |false=>rw[if_neg Yah]at h3 ⊢;exact(lv.fr f1).here rx hG1 h3
def u_or  {rest:List Expr}(ha:PE X a (lE X ta))(hb:PE X (.BoolOp .Or (b::rest) pos) (lE X tb)):PE X (.BoolOp .Or (a::b::rest) pos) (lE X λς G Q E=>ta ς G (λx G1=>truU x G1 λc=>if c=true then Q x G1 else tb ς G1 Q E) E):=by
 refine(jkU ha hb).imp λσ H Q0 h=>?_;obtain⟨ς,G,Q,E,hς,hG,h,lv,lx⟩:=h;refine⟨ς,G,_,E,hς,hG,h,λx v G1 H1 rx hG1 f1 h1=>?_,lx⟩;obtain⟨k,h2,h3⟩:=jdE rx hG1 h1;refine⟨k,h2,?_⟩;cases k with
 |true=>rw[if_pos rfl]at h3 ⊢;exact(lv.fr f1).here rx hG1 h3
 |false=>rw[if_neg Yah]at h3 ⊢;exact⟨ς,G1,Q,E,hς.ts (f1.ts hG),hG1,h3,lv.fr f1,lx.fr f1⟩
def jmc  (ha:PE X a (lE X ta)):PE X (.UnaryOp .Not a pos) (lE X λς G Q E=>ta ς G (λx G1=>truU x G1 λb=>Q (.bl (!b)) G1) E):=by
 intro pins s σ H Q0 I h;obtain⟨ς,G,Q,E,hς,hG,h,lv,lx⟩:=h;refine PyProof.Rows.UnaryOp_ (thn (ha pins s σ H (λv H1=>∃k,TruV X.K v H1 k/\Q0 (.bl (!k)) H1) I ⟨ς,G,_,E,hς,hG,h,λx v G1 H1 rx hG1 f1 h1=>?_,lx⟩) λv s1 ⟨x,H1,I1,r1,k,hk,q1⟩=>?_)
 ·obtain⟨k,h2,h3⟩:=jdE rx hG1 h1;exact⟨k,h2,(lv.fr f1).bl hG1 h3⟩
 ·refine PyProof.Rows.not_of (thn (je9 pins s1 σ H1 x v (λc H2=>c=k/\H2=H1) I1 r1 ⟨k,hk,rfl,rfl⟩) λc s2 ⟨H2,I2,e1,e2⟩=>?_);subst e1 e2;exact⟨.bl (!c),H2,I2,rfl,q1⟩
def jj7  (ha:PT X a (lT X tA)):PT X (.UnaryOp .Not a pos) (lT X λς G Q E=>tA ς G (λb G1=>Q (!b) G1) E):=by
 refine(jkG ha).imp λσ H Q0 h=>?_;obtain⟨ς,G,Q,E,hς,hG,h,lv,lx⟩:=h;exact⟨ς,G,_,E,hς,hG,h,λb G1 H1 hG1 f1 h1=>lv (!b) G1 H1 hG1 f1 h1,lx⟩
def jkd  {tB: UT}{rest:List Expr}(ha:PT X a (lT X tA))(hb:PW X (.BoolOp .And (b::rest) pos) (lT X tB)):PW X (.BoolOp .And (a::b::rest) pos) (lT X λς G Q E=>tA ς G (λc G1=>if c=true then tB ς G1 Q E else Q false G1) E):=by
 refine(pw_and ha hb).imp λσ H Q0 h=>?_;obtain⟨ς,G,Q,E,hς,hG,h,lv,lx⟩:=h;refine⟨ς,G,_,E,hς,hG,h,λc G1 H1 hG1 f1 h1=>?_,lx⟩;cases c with
 |false=>grind
 |true=>rw[if_pos rfl]at h1 ⊢;exact⟨ς,G1,Q,E,hς.ts (f1.ts hG),hG1,h1,λb G2 H2 hG2 f2 h2=>lv b G2 H2 hG2 (f1.trans f2) h2,lx.fr f1⟩
def jmb  {tB: UT}{rest:List Expr}(ha:PT X a (lT X tA))(hb:PW X (.BoolOp .Or (b::rest) pos) (lT X tB)):PW X (.BoolOp .Or (a::b::rest) pos) (lT X λς G Q E=>tA ς G (λc G1=>if c=true then Q true G1 else tB ς G1 Q E) E):=by
 refine(pw_or ha hb).imp λσ H Q0 h=>?_;obtain⟨ς,G,Q,E,hς,hG,h,lv,lx⟩:=h;refine⟨ς,G,_,E,hς,hG,h,λc G1 H1 hG1 f1 h1=>?_,lx⟩;cases c with
 |true=>grind
 |false=>rw[if_neg Yah]at h1 ⊢;exact⟨ς,G1,Q,E,hς.ts (f1.ts hG),hG1,h1,λb G2 H2 hG2 f2 h2=>lv b G2 H2 hG2 (f1.trans f2) h2,lx.fr f1⟩
end Z

namespace L2
open PySem PySem.Spec PyProof.Rows

def jmn  (K:Yac)(te tst:TE):TE:=λσ H Q=>te σ H λx H1=>tst σ H1 λy H2=>(∃a xs,x=.ref a/\SqL K H2 a xs/\
 ((y=.int 1/\∀p,H2 p=none->Q (.ref p) (upd H2 p (.lst xs)))\/(y=.int (-1)/\∀p,H2 p=none->Q (.ref p) (upd H2 p (.lst xs.reverse)))))\/
 ∃a xs,x=.ref a/\SqT K H2 a xs/\y=.int (-1)/\∀p,H2 p=none->Q (.ref p) (upd H2 p (.tup xs.reverse))
def jjc  {st: Expr}(he:PE X e te)(hs:PE X st tst):PE X (.Subscript e (.Slice none none (some st) p2) pos) (jmn X.K te tst):=by
 intro pins s σ H Q I h;refine Subscript_ (thn (he pins s σ H _ I h) λv s1 ⟨x,H1,I1,r1,q1⟩=>?_);refine wpAny_Slice ?_;rw[YeC,evalPart_some];refine Yak (Yak ?_);refine thn (hs pins s1 σ H1 _ I1 q1) λu s3 ⟨y,H3,I3,r3,q3⟩=>?_;have I4:Inv X pins σ H3 { s3 with heap:=s3.heap.push { cls:=.type "slice",data:=.fields #[.none,.none,u] } }:=I3.kept (t':=s3.toks) λb ob q=>Yaf _ q
 rcases q3 with⟨a,xs,rfl,hx,q3⟩|⟨a,xs,rfl,hx,rfl,q⟩
 ·cases r1;obtain⟨its,r,ht,hz⟩:=I4.list hx;have hlen:=r.length;show wpAny (model X.prog X.w) X.A (Ydh e (.Slice none none (some st) p2) (.ref a) (.ref s3.heap.objs.size)) (EP X pins σ Q) X.xe { s3 with heap:=s3.heap.push { cls:=.type "slice",data:=.fields #[.none,.none,u] } }
  refine tail_any (ops:=[.ref a,.ref s3.heap.objs.size]) ht.isList.typeIs slot_list_getitem.lookup ?_ (by with_unfolding_all rfl)
  rcases q3 with⟨rfl,q⟩|⟨rfl,q⟩
  ·obtain⟨t,rfl⟩:=r3;refine Ycv ht.isList (Heap.IsSliceOf.new ..) .none .none (.int 1 t) (by decide) ?_ (by simp_all)
   rw[jhX];refine⟨.ref _,_,I4.laid (t':=s3.toks) (o:=.lst xs) (λb ob q=>Yaf _ q) (Yaa _) ?_,rfl,q _ (I4.hok.fresh (Yaa _))⟩;exact⟨hz,_,0,r,Yar _ rfl⟩
  ·obtain⟨t,rfl⟩:=r3;refine Ycv ht.isList (Heap.IsSliceOf.new ..) .none .none (.int (-1) t) (by decide) ?_ (by simp_all)
   rw[jhn];refine⟨.ref _,_,I4.laid (t':=s3.toks) (o:=.lst xs.reverse) (λb ob q=>Yaf _ q) (Yaa _) ?_,rfl,q _ (I4.hok.fresh (Yaa _))⟩;exact⟨by simp_all,_,0,r.rev,Yar _ rfl⟩
 ·cases r1;obtain⟨t,rfl⟩:=r3;obtain⟨its,r,ht,hz⟩:=I4.tuple hx;have hlen:=r.length;show wpAny (model X.prog X.w) X.A (Ydh e (.Slice none none (some st) p2) (.ref a) (.ref s3.heap.objs.size)) (EP X pins σ Q) X.xe { s3 with heap:=s3.heap.push { cls:=.type "slice",data:=.fields #[.none,.none,.int (-1) t] } }
  refine tail_any (ops:=[.ref a,.ref s3.heap.objs.size]) ht.typeIs YaM.lookup ?_ (by with_unfolding_all rfl)
  refine HT.getItem_tuple_rev ht (Heap.IsSliceOf.new ..) ?_ (by lia)
  refine⟨.ref _,_,I4.laid (t':=s3.toks) (o:=.tup xs.reverse) (λb ob q=>Yaf _ q) (Yaa _) ?_,rfl,q _ (I4.hok.fresh (Yaa _))⟩;exact⟨by simp_all,_,r.rev,TupD.new _ _⟩
end L2
namespace Z
open PySem L2
section
variable {X:Cx}{pos:Pos}{a b e:Expr}{es:List Expr}{ta tb te:UE}{ts:UA}
def jfY  : PA X [] (lA X λ_ G Q _=>Q [] G):=by
 refine jkZ.imp λσ H Q0 h=>?_;obtain⟨ς,G,Q,E,hς,hG,h,lv,lx⟩:=h;exact lv [] [] G H rfl hG (Fr.refl _ _) h
def jdY  (ha:PE X e (lE X te))(hr:PA X es (lA X ts))(hs:Yaz (e::es) X.env=(false,eval e X.env)::Yaz es X.env):PA X (e::es) (lA X λς G Q E=>te ς G (λx G1=>ts ς G1 (λxs G2=>Q (x::xs) G2) E) E):=by
 refine(jjj ha hr hs).imp λσ H Q0 h=>?_;obtain⟨ς,G,Q,E,hς,hG,h,lv,lx⟩:=h;refine⟨ς,G,_,E,hς,hG,h,λx v G1 H1 rx hG1 f1 h1=>?_,lx⟩;refine⟨ς,G1,_,E,hς.ts (f1.ts hG),hG1,h1,λxs vs G2 H2 rxs hG2 f2 h2=>?_,lx.fr f1⟩;exact lv (x::xs) (v::vs) G2 H2 ⟨v,vs,rfl,rx.ts (f2.ts hG1),rxs⟩ hG2 (f1.trans f2) h2
def jl6   (h:PA X es (lA X ts)):PE X (.Tuple es k pos) (lE X λς G Q E=>ts ς G (λus G1=>us.length<=Yae/\Q (.tup us) G1) E):=
 (jkS h).imp λσ H Q0 h=>lE.many h λus vs G H' Q r hG q lv=>⟨by rw[<- r.length];exact q.1,λp hp=>lv.tup hp r hG q.2⟩
def jmg  (h:PA X es (lA X ts)):PE X (.List es pos) (lE X λς G Q E=>ts ς G (λus G1=>us.length<=Yae/\newO G1 (.lst us) Q) E):=
 (jkW h).imp λσ H Q0 h=>lE.many h λus vs G H' Q r hG q lv=>⟨by rw[<- r.length];exact q.1,λp hp=>lv.lst hp r hG q.2⟩
def rDix  : R2:=λx y H Q=>∃a v,x=.ref a/\DGet H a y (some v)/\Q v H
def jjJ  (hu:X.A.units+1<cLine):IxR X rDix:=by
 intro value slice pins s σ H x y v u Q I rx ry h hs;obtain⟨a,w,rfl,g,q⟩:=h;cases rx;exact PyProof.Rows.tail_any (jeX I g) PySem.F.slot_dict_getitem.lookup (jgZ hu I g ry λw' s3 I3 rw'=>⟨w,H,I3,rw',q⟩) hs
def jih {H:Hp}{G:Gp}{y:U}{v':V}{Q:K1}{Q0:VK}{a:Addr}{xs:List U}{vs:List V}(h:match y with|.int i=>(match atI xs i with|some u=>Q u G|none=>False)|_=>False)
  (ry:RU X.K H y v') (hG:HR X.K H G) (lv:LV X H G Q Q0) (sq:SqL X.K H a vs) (rs:RUs X.K H xs vs):rIx X.K (.ref a) v' H Q0:=by
 cases y with
 |int i=>
  cases ry;dsimp only at h;split at h
  ·rename_i u e;obtain⟨w,e2,r⟩:=rs.atI e;exact .inl ⟨_,vs,_,w,rfl,rfl,sq,e2,lv.here r hG h⟩
  lia
 |_=>lia
def jlM        (rx:RU X.K H x v)(ry:RU X.K H y v')(hG:HR X.K H G)(h:ixU x y G Q)(lv:LV X H G Q Q0):rIx X.K v v' H Q0\/rDix v v' H Q0:=by
 cases x<;>try exact h.elim
 ·cases y<;>try exact h.elim
  cases rx;cases ry;obtain⟨h1,h⟩:=h;split at h
  ·rename_i c e1;exact .inl (.inr (.inr ⟨_,_,c,rfl,rfl,h1,e1,lv.str hG h⟩))
  lia
 ·cases y<;>try exact h.elim
  obtain⟨a,vs,rfl,e,rs⟩:=rx;cases ry;unfold ixU at h;dsimp only at h;split at h
  ·rename_i u e1;obtain⟨w,e2,r⟩:=rs.atI e1;exact .inl (.inr (.inl ⟨a,vs,_,w,rfl,rfl,.of e,e2,lv.here r hG h⟩))
  lia
 ·cases rx;unfold ixU at h;dsimp only at h;split at h
  ·rename_i g;obtain⟨vs,e,rs⟩:=hG.lst g;exact .inl (jih h ry hG lv (.of e) rs)
  ·rename_i g;obtain⟨ob,vs,e,rs⟩:=hG _ _ g;exact .inl (jih h ry hG lv (.inl (.inr ⟨ob,e⟩)) rs)
  ·rename_i kvs g;obtain⟨l,e,rs⟩:=hG _ _ g;split at h
   ·rename_i k ek;have:=jei ry ek;subst this;split at h
    ·rename_i u eu;have:=jb7 k rs;rw[eu]at this;obtain⟨w,e2,r⟩:=this;exact .inr ⟨_,w,rfl,by rw[<- e2];exact DGet.k e,lv.here r hG h⟩
    lia
   lia
  ·rename_i kvs g;obtain⟨l,e,rs⟩:=hG _ _ g;split at h
   ·rename_i ys;obtain⟨b,bs,rfl,eb,rb⟩:=ry;split at h
    ·rename_i k ek;have:=jfl rb ek;subst this;split at h
     ·rename_i u eu;have:=jb7 k rs;rw[eu]at this;obtain⟨w,e2,r⟩:=this;exact .inr ⟨_,w,rfl,by rw[<- e2];exact DGet.t e eb,lv.here r hG h⟩
     lia
    lia
   lia
  ·rename_i o kvs g;obtain⟨l,e,rs⟩:=hG _ _ g;split at h
   ·rename_i k ek;have:=jei ry ek;subst this;split at h
    ·rename_i u eu;have:=jb7 k rs;rw[eu]at this;obtain⟨w,e2,r⟩:=this;exact .inr ⟨_,w,rfl,by rw[<- e2];exact .inl ⟨l,k,.inr ⟨o,e⟩,rfl,rfl⟩,lv.here r hG h⟩
    lia
   lia
  lia
def u_ix  (hu:X.A.units+1<cLine)(ha:PE X a (lE X ta))(hb:PE X b (lE X tb))(hs:je5 b):PE X (.Subscript a b pos) (lE X λς G Q E=>ta ς G (λx G1=>tb ς G1 (λy G2=>ixU x y G2 Q) E) E):=
 (jmO ((jlL (X:=X)).or (jjJ hu)) ha hb hs).imp λσ H Q0 h=>lE.two h λx y v v' G H' Q rx ry hG q lv=>jlM rx ry hG q lv
def u_no  : PO X none (lO X λ_ G Q _=>Q none G):=ji7.imp λσ H Q0 h=>by
 obtain⟨ς,G,Q,E,hς,hG,h,lv,lx⟩:=h;exact lv none G H hG (Fr.refl _ _) h
def u_so (ha:PE X e (lE X te)):PO X (some e) (lO X λς G Q E=>te ς G (λx G1=>match x with|.int i=>Q (some i) G1|_=>False) E):=(ji6 ha).imp λσ H Q0 h=>by
 obtain⟨ς,G,Q,E,hς,hG,h,lv,lx⟩:=h;refine⟨ς,G,_,E,hς,hG,h,λx v G1 H1 rx hG1 f1 h1=>?_,lx⟩;dsimp only at h1;split at h1
 ·cases rx
  grind
 lia
def u_sl     (ha:PE X e (lE X te))(hl:PO X lo (lO X tl))(hh:PO X hi (lO X th)) :
  PE X (.Subscript e (.Slice lo hi none p2) pos) (lE X λς G Q E=>te ς G (λx G1=>tl ς G1 (λl G2=>th ς G2 (λh G3=>slU x l h G3 Q) E) E) E):=by
 refine(jhy (SlR.or (jiQ (X:=X)) (SlR.or jiR jko)) ha hl hh).imp λσ H Q0 h=>?_;obtain⟨ς,G,Q,E,hς,hG,h,lv,lx⟩:=h;refine⟨ς,G,_,E,hς,hG,h,λx v G1 H1 rx hG1 f1 h1=>?_,lx⟩;refine⟨ς,G1,_,E,hς.ts (f1.ts hG),hG1,h1,λl G2 H2 hG2 f2 h2=>?_,lx.fr f1⟩;refine⟨ς,G2,_,E,(hς.ts (f1.ts hG)).ts (f2.ts hG1),hG2,h2,λu G3 H3 hG3 f3 h3=>?_,lx.fr (f1.trans f2)⟩;have lv3:=lv.fr ((f1.trans f2).trans f3);have rx3:=rx.ts ((f2.ts hG1).trans (f3.ts hG2));cases x<;>try exact h3.elim
 ·cases rx3;exact .inr (.inr ⟨_,rfl,h3.1,lv3.str hG3 h3.2⟩)
 ·obtain⟨a,vs,rfl,ea,rs⟩:=rx3;by_cases z:HT.sIx vs.length 0 l=0/\HT.sIx vs.length vs.length u=vs.length
  ·refine .inl (.inr ⟨a,vs,rfl,.of ea,z,?_⟩);refine lv3.here (w:=.tup _) ⟨a,vs,rfl,ea,?_⟩ hG3 h3;have e2:cutV vs l u=vs:=by unfold cutV;simp_all
   have:=rs.cut l u
   lia
  ·exact .inl (.inl ⟨a,vs,rfl,.of ea,z,λp hp=>lv3.tup hp (rs.cut l u) hG3 h3⟩)
 ·cases rx3;unfold slU at h3;dsimp only at h3;split at h3
  ·rename_i us eu;obtain⟨vs,sq,rs⟩:=hG3.ls eu;exact .inr (.inl ⟨_,vs,rfl,sq,λp hp=>lv3.lst hp (rs.cut l u) hG3 h3⟩)
  lia
def jma    (ha:PE X a (lE X ta))(hb:PE X st (lE X tb)):PE X (.Subscript a (.Slice none none (some st) p2) pos) (lE X λς G Q E=>ta ς G (λx G1=>tb ς G1 (λy G2=>revU x y G2 Q) E) E):=by
 refine(jjc ha hb).imp λσ H Q0 h=>lE.two h λx y v v' G H' Q rx ry hG q lv=>?_;cases x<;>try exact q.elim
 all_goals cases y<;>try exact q.elim
 ·obtain⟨a,vs,rfl,ea,rs⟩:=rx;cases ry;obtain⟨rfl,q⟩:=q;exact .inr ⟨a,vs,rfl,.of ea,rfl,λp hp=>lv.tup hp rs.reverse hG q⟩
 ·cases rx;cases ry;unfold revU at q;dsimp only at q;split at q
  ·rename_i us eu;obtain⟨vs,sq,rs⟩:=hG.ls eu;obtain⟨hi,q⟩:=q;rcases hi with rfl|rfl
   ·exact .inl ⟨_,vs,rfl,sq,.inl ⟨rfl,λp hp=>lv.lst hp rs hG q⟩⟩
   ·exact .inl ⟨_,vs,rfl,sq,.inr ⟨rfl,λp hp=>lv.lst hp rs.reverse hG q⟩⟩
  lia
end
end Z

namespace L2
open PySem PySem.Spec PyProof.Rows
section
variable {X:Cx}
def jhT  (hc:X.calm=true):jbl X (.builtin "all") (λxs H Q=>∃(p:Addr) (bs:List Bool),xs=[.ref p]/\SqL X.K H p (bs.map V.bl)/\Q (.bl (bs.all id)) H):=by
 rintro pins s σ H xs us Q I r ⟨p,bs,rfl,hq,q⟩;obtain⟨u,rfl,rx⟩:=jcr r;cases rx;obtain⟨its,fp,wr,P,S,hl,W,st,tr,kp⟩:=jfS hc I hq true;exact call_all_walk (wpAny_pyIter_list hl ⟨_,fp,wr,_,P,S,_,rfl,W,st,tr,λh' tk hk=>⟨.bl _,H,I.kept (kp h' hk),congrArg YdG (LSm.range_all bs),q⟩⟩)
end
end L2
namespace Z
open PySem L2
noncomputable def bltN  : Blt->Str
 |.len => "len" |.repr => "repr" |.min => "min" |.max => "max" |.sum => "sum" |.all => "all" |.any => "any" |.sorted => "sorted" |.int => "int" |.str => "str" |.isi => "isinstance"
noncomputable def bltV  : Blt->Value
 |.len=>.builtin "len" |.repr=>.builtin "repr" |.min=>.builtin "min" |.max=>.builtin "max" |.sum=>.builtin "sum" |.all=>.builtin "all" |.any=>.builtin "any" |.sorted=>.builtin "sorted" |.int=>.type "int" |.str=>.type "str" |.isi=>.builtin "isinstance"

def RUs.one      (r:RUs K H [u] vs):∃v,vs=[v]/\RU K H u v:=by
 obtain⟨v,vr,rfl,r1,rs⟩:=r;cases rs
 lia
def RUs.two      (r:RUs K H [u,w] vs):∃v v',vs=[v,v']/\RU K H u v/\RU K H w v':=by
 obtain⟨v,vr,rfl,r1,rs⟩:=r;obtain⟨v',rfl,r2⟩:=rs.one
 lia
def jjF   K:∀t∈["NoneType", "bool", "int", "str", "list", "tuple", "dict"],∀c∈["bool", "int", "str", "list", "tuple", "dict"],Ycx K (.type t) (.type c)=some (t==c||(t == "bool" && c == "int")):=by
 simp only[List.forall_mem_cons,Yao,false_implies,implies_true,and_true];refine⟨?_,?_,?_,?_,?_,?_,?_⟩<;>refine⟨?_,?_,?_,?_,?_,?_⟩<;>rfl
def jiI     (h:tyN x G=some n):n∈["NoneType", "bool", "int", "str", "list", "tuple", "dict"]:=by
 unfold tyN at h;split at h<;>first|(cases h;decide)|(split at h<;>first|(cases h;decide)|cases h)|cases h
def jjK  {X: Cx}(r:RU X.K H x v)(hG:HR X.K H G)(h:isiU x G t=some b):∃tv,TyOf X.K H v tv/\Ycx X.K tv (.type t)=some b:=by
 unfold isiU at h;split at h
 ·rename_i n en;split at h
  ·rename_i ht;cases h;refine⟨.type n,?_,jjF X.K n (jiI en) t ht⟩;unfold tyN at en;split at en
   ·cases en;cases r;exact .non
   ·cases en;cases r;exact .bl _
   ·cases en;cases r;exact .int _
   ·cases en;cases r;exact .str _
   ·cases en;obtain⟨a,ws,rfl,e,_⟩:=r;exact .tup e
   ·cases r;split at en
    ·rename_i g;cases en;obtain⟨ws,e,_⟩:=hG.lst g;exact .lst e
    ·rename_i g;cases en;obtain⟨ws,e,_⟩:=hG _ _ g;exact .dK e
    ·rename_i g;cases en;obtain⟨ws,e,_⟩:=hG _ _ g;exact .dT e
    lia
   lia
  lia
 lia
def BlU  (X:Cx)(b:Blt):Prop:=∃r,jbl X (bltV b) r/\∀us vs G H Q Q0,RUs X.K H us vs->HR X.K H G->bltU b us G Q->LV X H G Q Q0->r vs H Q0
def jlZ   (hr:Room k X.A)(hc:X.calm=true) b:BlU X b:=by
 cases b with
 |len=>
  refine⟨_,jbl.or (jhS (X:=X)) jg4,λus vs G H Q Q0 r hG h lv=>?_⟩
  change lenU us G Q at h
  obtain _|⟨x,t⟩:=us<;>try exact h.elim
  cases x<;>try exact h.elim
  all_goals obtain _|⟨_,_⟩:=t<;>try exact h.elim
  all_goals obtain⟨v,rfl,r1⟩:=r.one
  ·cases r1;exact .inl ⟨_,_,rfl,⟨h.1,rfl⟩,lv.int hG h.2⟩
  ·obtain⟨a,ws,rfl,e,rs⟩:=r1;exact .inl ⟨_,_,rfl,.inr ⟨ws,.of e,rfl⟩,by rw[<- rs.length];exact lv.int hG h⟩
  ·cases r1;unfold lenU at h;dsimp only at h;split at h
   ·rename_i g;obtain⟨ws,e,rs⟩:=hG.lst g;exact .inl ⟨_,_,rfl,.inl ⟨ws,.of e,rfl⟩,by rw[<- rs.length];exact lv.int hG h⟩
   ·rename_i g;obtain⟨ob,ws,e,rs⟩:=hG _ _ g;exact .inl ⟨_,_,rfl,.inl ⟨ws,.inl (.inr ⟨ob,e⟩),rfl⟩,by rw[<- rs.length];exact lv.int hG h⟩
   ·rename_i kvs g;obtain⟨l,e,rs⟩:=hG _ _ g;refine .inr ⟨_,l,rfl,e,?_⟩;have:∀{kvs:List (Key×U)} {l:List (Key×V)},RKs X.K H kvs l->kvs.length=l.length:=by
     intro kvs
     induction kvs with
     |nil=>intro l r;cases r;rfl
     |cons p q ih=>intro l r;obtain⟨v,l',rfl,_,rs⟩:=r;simp[ih rs]
    rw[<- this rs];exact lv.int hG h
   ·exact h.elim
 |repr=>
  refine⟨_,jfR hr,λus vs G H Q Q0 r hG h lv=>?_⟩
  change jge us G Q at h
  obtain _|⟨x,_|⟨_,_⟩⟩:=us<;>try exact h.elim
  obtain⟨v,rfl,r1⟩:=r.one;obtain⟨d,h1,h2,h3⟩:=h;exact⟨v,d,rfl,h1.dv hG r1,h2,lv.str hG h3⟩
 |min=>exact⟨λ_ _ _=>False,λ_ _ _ _ _ _ _ _ _ h=>h.elim,λ_ _ _ _ _ _ _ _ h _=>h.elim⟩
 |max=>exact⟨λ_ _ _=>False,λ_ _ _ _ _ _ _ _ _ h=>h.elim,λ_ _ _ _ _ _ _ _ h _=>h.elim⟩
 |sum=>exact⟨λ_ _ _=>False,λ_ _ _ _ _ _ _ _ _ h=>h.elim,λ_ _ _ _ _ _ _ _ h _=>h.elim⟩
 |any=>exact⟨λ_ _ _=>False,λ_ _ _ _ _ _ _ _ _ h=>h.elim,λ_ _ _ _ _ _ _ _ h _=>h.elim⟩
 |all=>
  refine⟨_,jhT hc,λus vs G H Q Q0 r hG h lv=>?_⟩
  change allU us G Q at h
  obtain _|⟨x,t⟩:=us<;>try exact h.elim
  cases x<;>try exact h.elim
  all_goals obtain _|⟨_,_⟩:=t<;>try exact h.elim
  obtain⟨v,rfl,r1⟩:=r.one;cases r1;unfold allU at h;dsimp only at h;split at h
  ·rename_i g;obtain⟨ws,e,rs⟩:=hG.lst g;split at h
   ·rename_i ns en;have:=rs.bools en;subst this;exact⟨_,ns,rfl,.of e,lv.bl hG h⟩
   ·exact h.elim
  ·exact h.elim
 |sorted=>exact⟨λ_ _ _=>False,λ_ _ _ _ _ _ _ _ _ h=>h.elim,λ_ _ _ _ _ _ _ _ h _=>h.elim⟩
 |int=>
  refine⟨_,jg5.or jdT,λus vs G H Q Q0 r hG h lv=>?_⟩
  change intU us G Q at h
  obtain _|⟨x,t⟩:=us<;>try exact h.elim
  cases x<;>try exact h.elim
  all_goals obtain _|⟨_,_⟩:=t<;>try exact h.elim
  all_goals obtain⟨v,rfl,r1⟩:=r.one
  all_goals cases r1
  ·exact .inl (.inr ⟨_,rfl,lv.int hG h⟩)
  ·exact .inl (.inl ⟨_,rfl,lv.int hG h⟩)
  ·obtain⟨n,h1,h2,h⟩:=h;exact .inr ⟨_,n,rfl,h1,h2,lv.int hG h⟩
 |str=>
  refine⟨_,jeq.or (jg3 (X:=X)),λus vs G H Q Q0 r hG h lv=>?_⟩
  change strU us G Q at h
  obtain _|⟨x,t⟩:=us<;>try exact h.elim
  cases x<;>try exact h.elim
  all_goals obtain _|⟨_,_⟩:=t<;>try exact h.elim
  all_goals obtain⟨v,rfl,r1⟩:=r.one
  all_goals cases r1
  ·exact .inr ⟨_,rfl,lv.str hG h⟩
  ·exact .inl ⟨_,rfl,h.1,lv.str hG h.2⟩
 |isi=>
  refine⟨_,je2,λus vs G H Q Q0 r hG h lv=>?_⟩
  change jeS us G Q at h
  obtain _|⟨x,_|⟨y,t⟩⟩:=us<;>try exact h.elim
  cases y<;>try exact h.elim
  obtain _|⟨_,_⟩:=t<;>try exact h.elim
  rename_i t;obtain⟨v,v',rfl,r1,r2⟩:=r.two;cases r2;unfold jeS at h;dsimp only at h;split at h
  ·rename_i b eb;obtain⟨tv,h1,h2⟩:=jjK r1 hG eb;exact⟨v,t,tv,b,rfl,h1,h2,lv.bl hG h⟩
  ·exact h.elim
def jhU   b:Ybw (bltN b)=some (bltV b):=by
 cases b with
 |len=>exact PySem.boot_len
 |repr=>exact(by with_unfolding_all rfl)
 |min=>exact PyProof.Rows.boot_min
 |max=>exact PyProof.Rows.boot_max
 |sum=>exact PyProof.Rows.boot_sum
 |any=>exact PyProof.Rows.boot_any
 |all=>exact PyProof.Rows.boot_all
 |sorted=>exact PyProof.Rows.boot_sorted
 |int=>exact PyProof.Rows.boot_int
 |str=>exact PyProof.Rows.boot_str
 |isi=>exact PyProof.Rows.boot_isinstance
def jl0   b:bltN b ≠ "__name__" /\ (bltN b==("__debug__" : Str))=false:=by cases b<;>decide
def jmj       (hb:BlU X b)(hg:Gl X (bltN b))(hm:X.mg (bltN b)=none)(ha:PA X (e::es) (lA X ts))
  (he:Yaz (e::es) X.env=(false,eval e X.env)::Yaz es X.env) (hpl:(backTo pos (Yaz es X.env)).any (·.1)=false) :
  PE X (.Call (.Name (bltN b) p) (e::es) [] pos) (lE X λς G Q E=>ts ς G (λus G1=>bltU b us G1 Q) E):=by
 obtain⟨r,h1,h2⟩:=hb;have fin:∀σ H Q0,lE X (λς G Q E=>ts ς G (λus G1=>bltU b us G1 Q) E) σ H Q0->tCB r (lA X ts) σ H Q0:=λσ H Q0 h=>lE.many h λus vs G H' Q rs hG q lv=>h2 us vs G H' Q Q0 rs hG q lv;have hv:=jhU b;obtain⟨n1,n2⟩:=jl0 b;cases b
 all_goals first
  |exact(jhB h1 hg hm hv ha n1 n2 he hpl).imp fin
  |exact(jcK h1 hg hm hv ha n1 n2 he hpl).imp fin
noncomputable def mthN  : Mth->Str
 |.append => "append" |.extend => "extend" |.insert => "insert" |.pop => "pop" |.reverse => "reverse" |.index => "index" |.join => "join" |.get => "get" |.split => "split" |.setd => "setdefault" |.clear => "clear" |.count => "count" |.upper => "upper"
section
variable {X:Cx}
def RUs.mk        (r:RU K H u v)(rs:RUs K H us vs):RUs K H (u::us) (v::vs):=⟨v,vs,rfl,r,rs⟩
structure MtK (X:Cx)(m:Mth)(T id:String):Prop where
 pa:PlainAttrs T
 sl:Slot T (mthN m) id
 ty:typeOf (.builtin id)=pure (.type "method_descriptor")
def MtU  (X:Cx)(m:Mth):Prop:=∀x G1 T id,mtU m x G1=some (T,id)->MtK X m T id/\(∀v H1,RU X.K H1 x v->HR X.K H1 G1->tyV X.K T v H1)/\
 ∃r,MtR X id r/\∀us v vs G H Q Q0,RU X.K H x v->RUs X.K H us vs->HR X.K H G->ja7 m x us G Q->LV X H G Q Q0->r v vs H Q0
def jh0     (g:G a=some (.lst us)):∀v H1,RU X.K H1 (.loc a) v->HR X.K H1 G->tyV X.K "list" v H1:=λv H1 r hG=>by
 cases r;obtain⟨vs,e,_⟩:=hG.lst g;exact .inl ⟨rfl,vs,.of e⟩
def jgv  : MtU X .append:=by
 intro x G1 T id h;dsimp only[mtU]at h;cases x<;>try (cases h;done)
 dsimp only at h;split at h
 ·rename_i g;cases h;refine⟨⟨Ydx,PySem.F.slot_list_append,PySem.F.type_list_append⟩,jh0 g,_,jeg,λus v vs G H Q Q0 rx rs hG h lv=>?_⟩;cases rx;dsimp only[ja7]at h;obtain _|⟨_,_|⟨_,_⟩⟩:=us<;>try exact h.elim
  unfold je4 at h;dsimp only at h;split at h
  ·rename_i g2;obtain⟨ws,e,r⟩:=hG.lst g2;obtain⟨y,rfl,ry⟩:=rs.one;refine⟨_,ws,y,rfl,rfl,e,by rw[<- r.length];exact h.1,?_⟩
   exact lv.wl g2 (r.append (RUs.mk (us:=[]) (vs:=[]) ry rfl)) hG (w:=.non) rfl h.2
  ·exact h.elim
 ·cases h
def jgu  : MtU X .insert:=by
 intro x G1 T id h;dsimp only[mtU]at h;split at h<;>first|contradiction|skip
 split at h
 ·rename_i g;cases h;refine⟨⟨Ydx,PySem.F.slot_list_insert,PySem.F.type_list_insert⟩,jh0 g,_,jgw,λus v vs G H Q Q0 rx rs hG h lv=>?_⟩;cases rx;dsimp only[ja7]at h;unfold jeT at h;split at h<;>first|exact h.elim|skip
  rename_i e2;cases e2;split at h
  ·rename_i g2;obtain⟨ws,e,r⟩:=hG.lst g2;obtain⟨y,z,rfl,ry,rz⟩:=rs.two;cases ry;obtain⟨h1,h2,h3,h4⟩:=h;refine⟨_,ws,_,z,rfl,rfl,e,h1,by rw[<- r.length];exact h2,by rw[<- r.length];exact h3,?_⟩
   exact lv.wl g2 ((r.take _).append (RUs.mk rz (r.drop _))) hG (w:=.non) rfl h4
  ·exact h.elim
 ·cases h
def RKs.put   [DecidableEq κ](r:RU K H u v):∀{kvs } {l:List (κ×V)},RKs K H kvs l->RKs K H (dPut kvs k u) (putK l k v):=by
 intro kvs l h;have any:∀{kvs:List (κ×U)} {l:List (κ×V)},RKs K H kvs l->(kvs.any λkv=>decide (kv.1=k))=l.any λkv=>decide (kv.1=k):=by
  intro kvs
  induction kvs with
  |nil=>intro l h;cases h;rfl
  |cons p q ih=>intro l h;obtain⟨w,l',rfl,_,rs⟩:=h;grind
 have repl:∀{kvs:List (κ×U)} {l:List (κ×V)},RKs K H kvs l->RKs K H (kvs.map λkv=>if kv.1=k then (kv.1,u) else kv) (l.map λkv=>if kv.1=k then (kv.1,v) else kv):=by
  intro kvs
  induction kvs with
  |nil=>intro l h;cases h;rfl
  |cons p q ih=>
   intro l h;obtain⟨k',u'⟩:=p;obtain⟨w,l',rfl,rw',rs⟩:=h;simp only[YaI];by_cases e:k'=k
   ·rw[if_pos e,if_pos e];exact⟨v,_,rfl,r,ih rs⟩
   ·rw[if_neg e,if_neg e];exact⟨w,_,rfl,rw',ih rs⟩
 have snoc:∀{kvs:List (κ×U)} {l:List (κ×V)},RKs K H kvs l->RKs K H (kvs++[(k,u)]) (l++[(k,v)]):=by
  intro kvs
  induction kvs with
  |nil=>intro l h;cases h;exact⟨v,[],rfl,r,rfl⟩
  |cons p q ih=>intro l h;obtain⟨k',u'⟩:=p;obtain⟨w,l',rfl,rw',rs⟩:=h;exact⟨w,_,rfl,rw',ih rs⟩
 unfold dPut putK
 grind
theorem RKs.length     : ∀{kvs:List (κ×U)} {l },RKs K H kvs l->kvs.length=l.length
 |[],_,h=>by cases h;rfl
 |(_,_)::_,_,h=>by obtain⟨v,l',rfl,_,rs⟩:=h;simp[rs.length]
theorem jeQ    : ∀{k:List Key} {bs },RUs K H (k.map Ku) bs->bs=k.map kV
 |[],_,h=>h
 |.inl z::k,_,h=>by
  obtain⟨v,vr,rfl,r,rs⟩:=h;rw[show v=.int z from r,jeQ rs];rfl
 |.inr x::k,_,h=>by
  obtain⟨v,vr,rfl,r,rs⟩:=h;rw[show v=.str x from r,jeQ rs];rfl
def rGet  : V->List V->Hp->VK->Prop:=λx vs H Q=>∃a y d o,x=.ref a/\vs=[y,d]/\DGet H a y o/\Q (o.getD d) H
def jie  (hu:X.A.units+1<cLine):MtR X "dict.get" rGet:=by
 intro pins s σ H x vs v0 us Q I rx rv h;obtain⟨a,y,d,o,rfl,rfl,g,q⟩:=h;cases(show v0=Ybd a from rx);obtain⟨u,r,rfl,ru,rr⟩:=Vals.two rv;exact jlX hu I g ru rr λw' s' I' r'=>⟨_,_,I',r',q⟩
def jgd   [DecidableEq κ](k:κ)(rk:RKs K H kvs l)(rd:RU K H d w):RU K H ((dGet kvs k).getD d) ((valV l k).getD w):=by
 have hv:=jb7 k rk;cases e:dGet kvs k with
 |none=>rw[e]at hv;rw[show valV l k=none from hv];exact rd
 |some u=>rw[e]at hv;obtain⟨v,h1,h2⟩:=hv;rw[h1];exact h2
def jln  (hu:X.A.units+1<cLine):MtU X .get:=by
 intro x G1 T id h;dsimp only[mtU]at h;split at h<;>first|contradiction|skip
 have fin:∀(us:List U) (v:V) (vs:List V) (G:Gp) (H:Hp) (Q:K1) (Q0:VK) (a:Addr),RU X.K H (.loc a) v->RUs X.K H us vs->HR X.K H G->getU (.loc a) us G Q->LV X H G Q Q0->rGet v vs H Q0:=λus v vs G H Q Q0 a rx rs hG h lv=>by
  cases rx;obtain _|⟨y,_|⟨w,_|⟨_,_⟩⟩⟩:=us<;>try exact h.elim
  unfold getU at h;dsimp only at h;obtain⟨y',vs1,rfl,ry,rs1⟩:=rs;obtain⟨w',rfl,rw'⟩:=rs1.one;split at h<;>first|exact h.elim|skip
  ·rename_i kvs g2;split at h<;>first|exact h.elim|skip
   rename_i k ek;obtain⟨l,e,rk⟩:=hG _ _ g2;have:=jei ry ek;subst this;exact⟨_,_,_,_,rfl,rfl,.k e,lv.here (jgd k rk rw') hG h⟩
  ·rename_i kvs g2;obtain⟨k,rfl,h⟩:=h;obtain⟨l,e,rk⟩:=hG _ _ g2;obtain⟨b,bs,rfl,eb,rb⟩:=ry;rw[jeQ rb]at eb;exact⟨_,_,_,_,rfl,rfl,.t e eb,lv.here (jgd k rk rw') hG h⟩
 split at h<;>first|contradiction|skip
 ·rename_i g;cases h;refine⟨⟨Ydy,YbI,YdS⟩,λv H1 r hG=>?_,_,jie hu,λus v vs G H Q Q0 rx rs hG h lv=>fin us v vs G H Q Q0 _ rx rs hG h lv⟩;cases r;obtain⟨l,e,_⟩:=hG _ _ g;exact .inr (.inr (.inl ⟨rfl,.inl ⟨l,e⟩⟩))
 ·rename_i g;cases h;refine⟨⟨Ydy,YbI,YdS⟩,λv H1 r hG=>?_,_,jie hu,λus v vs G H Q Q0 rx rs hG h lv=>fin us v vs G H Q Q0 _ rx rs hG h lv⟩;cases r;obtain⟨l,e,_⟩:=hG _ _ g;exact .inr (.inr (.inl ⟨rfl,.inr ⟨l,e⟩⟩))
def jhI  : MtU X .count:=by
 intro x G1 T id h;dsimp only[mtU]at h;cases x<;>try (cases h;done)
 cases h;refine⟨⟨PySem.F.plainAttrs_tuple,PySem.F.slot_tuple_count,PySem.F.type_tuple_count⟩,λv H1 r hG=>?_,_,jgx,λus v vs G H Q Q0 rx rs hG h lv=>?_⟩
 ·obtain⟨a,ws,rfl,e,_⟩:=r;exact .inr (.inr (.inr (.inr ⟨rfl,ws,e⟩)))
 ·obtain⟨a,ws,rfl,e,r⟩:=rx;dsimp only[ja7]at h;unfold jg0 at h;split at h<;>first|exact h.elim|contradiction|skip
  rename_i e2;cases e2;obtain⟨y,rfl,ry⟩:=rs.one;cases ry;split at h
  ·rename_i ys ey;have:=r.strs ey;subst this;exact⟨_,ys,_,rfl,rfl,.of e,lv.int hG h⟩
  ·exact h.elim
def jhH  : MtU X .upper:=by
 intro x G1 T id h;dsimp only[mtU]at h;cases x<;>try (cases h;done)
 cases h;refine⟨⟨PySem.F.plainAttrs_str,PySem.F.slot_str_upper,PySem.F.type_str_upper⟩,λv H1 r hG=>by cases r;rfl,_,jhJ,λus v vs G H Q Q0 rx rs hG h lv=>?_⟩
 cases rx;dsimp only[ja7]at h;obtain _|⟨_,_⟩:=us<;>try exact h.elim
 cases rs;exact⟨_,rfl,rfl,h.1,lv.here (w:=.str _) rfl hG h.2⟩
def jid  (hu:X.A.units+1<cLine) m:MtU X m:=by
 cases m with
 |append=>exact jgv
 |extend=>intro x G1 T id h;cases h
 |insert=>exact jgu
 |pop=>intro x G1 T id h;cases h
 |reverse=>intro x G1 T id h;cases h
 |index=>intro x G1 T id h;cases h
 |join=>intro x G1 T id h;cases h
 |split=>intro x G1 T id h;cases h
 |setd=>intro x G1 T id h;cases h
 |clear=>intro x G1 T id h;cases h
 |count=>exact jhI
 |upper=>exact jhH
 |get=>exact jln hu
variable {m:Mth}{o e:Expr}{es:List Expr}{to:UE}{ts:UA}{apos cpos:Pos}
def jj8 (hm:MtU X m)(ho:PE X o (lE X to))(ha:PA X (e::es) (lA X ts))(hbase:Ydk o (mthN m) X.env (eval o X.env)=eval o X.env)
  (hfew:((backTo cpos (Yaz (e::es) X.env)).all (λx=>!x.1)&&(backToKw cpos (keywordEach [] X.env)).all (λx=>x.1.isSome)
   && decide ((e::es).length+([]:List Keyword).length+(if ([]:List Keyword).isEmpty then 0 else 1)<30))=true)
  (hline:(apos.endLine==cpos.line)=true) (hs:Yaz (e::es) X.env=(false,eval e X.env)::Yaz es X.env) (hplain:(backTo cpos (Yaz es X.env)).any (·.1)=false) :
  PE X (.Call (.Attribute o (mthN m) apos) (e::es) [] cpos) (lE X λς G Q E=>to ς G (λx G1=>match mtU m x G1 with|some _=>ts ς G1 (λus G2=>ja7 m x us G2 Q) E|none=>False) E):=by
 intro pins s σ H Q0 I h;obtain⟨ς,G,Q,E,hς,hG,h,lv,lx⟩:=h;refine PySem.wpAny_Call_method_late hbase hfew hline rfl (thn (ho pins s σ H (λv H1=>∃x G1 T id,RU X.K H1 x v/\HR X.K H1 G1/\Fr H G H1 G1/\mtU m x G1=some (T,id)/\ts ς G1 (λus G2=>ja7 m x us G2 Q) E) I
  ⟨ς,G,_,E,hς,hG,h,λx v G1 H1 rx hG1 f1 h1=>?_,lx⟩) λv s1 ⟨xv,H1,I1,r1,x,G1,T,id,rx,hG1,f1,em,h1⟩=>?_)
 ·dsimp only at h1;split at h1
  ·rename_i p ep;exact⟨x,G1,p.1,p.2,rx,hG1,f1,ep,h1⟩
  ·exact h1.elim
 ·obtain⟨k,hty,r,hr1,hr2⟩:=hm x G1 T id em;obtain⟨t1,t2⟩:=jh1 I1 r1 (hty xv H1 rx hG1);refine⟨T,id,k.pa,k.sl,k.ty,t1,t2,?_⟩;have hA:=ha cpos pins s1 σ H1 (λvs H2=>∃us G2,RUs X.K H2 us vs/\HR X.K H2 G2/\Fr H1 G1 H2 G2/\ja7 m x us G2 Q) I1 ⟨ς,G1,_,E,hς.ts (f1.ts hG),hG1,h1,λus vs G2 H2 rs hG2 f2 h2=>⟨us,G2,rs,hG2,f2,h2⟩,lx.fr f1⟩;rw[hs]at hA ⊢;refine YdZ (by simp_all) (Calls.evalArgs_plain ?_)
  exact thn hA λus s2 ⟨vs,H2,I2,r2,ws,G2,rs,hG2,f2,h2⟩=>hr1 pins s2 σ H2 xv vs v us Q0 I2 r1 r2 (hr2 ws xv vs G2 H2 Q Q0 (rx.ts (f2.ts hG1)) rs hG2 h2 (lv.fr (f1.trans f2)))
def jiF (hm:MtU X m)(ho:PE X o (lE X to))(hbase:Ydk o (mthN m) X.env (eval o X.env)=eval o X.env)(hline:(apos.endLine==cpos.line)=true) :
  PE X (.Call (.Attribute o (mthN m) apos) [] [] cpos) (lE X λς G Q E=>to ς G (λx G1=>match mtU m x G1 with|some _=>ja7 m x [] G1 Q|none=>False) E):=by
 intro pins s σ H Q0 I h;obtain⟨ς,G,Q,E,hς,hG,h,lv,lx⟩:=h;refine PySem.wpAny_Call_method0_late hbase hline (thn (ho pins s σ H (λv H1=>∃x G1 T id,RU X.K H1 x v/\HR X.K H1 G1/\Fr H G H1 G1/\mtU m x G1=some (T,id)/\ja7 m x [] G1 Q) I
  ⟨ς,G,_,E,hς,hG,h,λx v G1 H1 rx hG1 f1 h1=>?_,lx⟩) λv s1 ⟨xv,H1,I1,r1,x,G1,T,id,rx,hG1,f1,em,h1⟩=>?_)
 ·dsimp only at h1;split at h1
  ·rename_i p ep;exact⟨x,G1,p.1,p.2,rx,hG1,f1,ep,h1⟩
  ·exact h1.elim
 ·obtain⟨k,hty,r,hr1,hr2⟩:=hm x G1 T id em;obtain⟨t1,t2⟩:=jh1 I1 r1 (hty xv H1 rx hG1);exact⟨T,id,k.pa,k.sl,k.ty,t1,t2,YdZ rfl (PySem.evalArgs_none (hr1 pins s1 σ H1 xv [] v [] Q0 I1 r1 .nil (hr2 [] xv [] G1 H1 Q Q0 rx rfl hG1 h1 (lv.fr f1))))⟩
end
end Z

namespace L2
open PySem PySem.Spec PyProof.Rows

def iSeq  (K:Yac)(tl:TE):TI:=λσ H R=>tl σ H λx H1=>∃a,x=.ref a/\(((∃xs,SqL K H1 a xs)/\R (Itl K a) H1)\/((∃xs,SqT K H1 a xs)/\R (Itt K a) H1))
def jkO    (hl:PE X l tl):PI X tg l (iSeq X.K tl):=by
 intro pins s σ H R I h;refine thn (hl pins s σ H _ I h) λv s1 ⟨x,H1,I1,r1,q1⟩=>?_;obtain⟨a,e,⟨⟨xs,hq⟩,q⟩|⟨⟨xs,hq⟩,q⟩⟩:=q1
 ·subst e;cases r1;obtain⟨its,rv,p,hz⟩:=I1.list hq;refine wpAny_pyIter_list p.isList ?_;refine⟨s1.heap.objs.size,[s1.heap.objs.size],_,_,H1,rfl,I1.kept (t':=s1.toks) λb o e=>Yaf _ e,jf0 a _,⟨_,Yar _ rfl,rfl,rfl⟩,λb hb=>?_,q⟩;have e:b=s1.heap.objs.size:=by simp_all
  subst e;exact I1.fpOk (Yaa _) (I1.hok.fresh (Yaa _))
 ·subst e;cases r1;obtain⟨its,rv,p,hz⟩:=I1.tuple hq;refine wpAny_pyIter_tuple (show s1.heap.IsTuple a its.toArray from p) ?_;refine⟨s1.heap.objs.size,[s1.heap.objs.size],_,_,H1,rfl,I1.kept (t':=s1.toks) λb o e=>Yaf _ e,jfu a _,⟨_,Yar _ rfl,rfl,rfl⟩,λb hb=>?_,q⟩;have e:b=s1.heap.objs.size:=by simp_all
  subst e;exact I1.fpOk (Yaa _) (I1.hok.fresh (Yaa _))
def PI.imp    (h:PI X tg iter t)(i:∀σ H R,t' σ H R->t σ H R):PI X tg iter t':=λpins s σ H R I q=>h pins s σ H R I (i σ H R q)
def PG.imp    (h:PG X target t)(i:∀v σ H Q,t' v σ H Q->t v σ H Q):PG X target t':=λpins s σ H v u Q I r q=>h pins s σ H v u Q I r (i v σ H Q q)
def PGs.imp    (h:PGs X ts t)(i:∀v σ H Q,t' v σ H Q->t v σ H Q):PGs X ts t':=λpins s σ H v u Q I r q=>h pins s σ H v u Q I r (i v σ H Q q)
def PIfs.imp    (h:PIfs X ifs t)(i:∀σ H Q,t' σ H Q->t σ H Q):PIfs X ifs t':=λpins s σ H Q I q=>h pins s σ H Q I (i σ H Q q)
end L2
namespace Z
open PySem L2
abbrev UI:=Sg->Gp->(List U->(Gp->Prop)->Gp->Prop)->KX->Prop
def jfU  (K:Yac)(J:L2.It)(H:Hp)(G:Gp)(xs:List U)(ok:Gp->Prop):Prop:=∀i H' G',TS H H'->HR K H' G'->ok G'->
 (∀u,xs[i]?=some u->J.go i H'/\∀v H'',J.yld i H' v H''->RU K H'' u v/\HR K H'' G'/\Fr H' G' H'' G')/\(i=xs.length->J.stop i H')
def jfU.mono        (h:jfU K J H G xs ok)(t:TS H H2):jfU K J H2 G2 xs ok:=λi H' G' t'=>h i H' G' (t.trans t')
section
variable (X:Cx)
def lI (t:UI):TI:=λσ H R=>∃ς G Q E,SR X.K H ς σ/\HR X.K H G/\t ς G Q E/\(∀xs ok G' H' J,HR X.K H' G'->Fr H G H' G'->jfU X.K J H' G' xs ok->Q xs ok G'->R J H')/\LX X σ H G E
def lG  (K:Yac)(t:U->Sg->(Sg->Prop)->Prop):TG:=λv σ H Q0=>∃u ς k,RU K H u v/\SR K H ς σ/\t u ς k/\∀ς' σ',SR K H ς' σ'->k ς'->Q0 σ' H
def lGs  (K:Yac)(t:List U->Sg->(Sg->Prop)->Prop):TGs:=λvs σ H Q0=>∃us ς k,RUs K H us vs/\SR K H ς σ/\t us ς k/\∀ς' σ',SR K H ς' σ'->k ς'->Q0 σ' H
end
section
variable {X:Cx}{tg:Expr}{pos:Pos}{te ta tb:UE}
def u_ie   (hl:PE X l (lE X te)):PI X tg l (lI X λς G Q E=>te ς G (λx G1=>itU x G1 λxs ok=>Q xs ok G1) E):=by
 refine(jkO hl).imp λσ H R h=>?_;obtain⟨ς,G,Q,E,hς,hG,h,lv,lx⟩:=h;refine⟨ς,G,_,E,hς,hG,h,λx v G1 H1 rx hG1 f1 h1=>?_,lx⟩;dsimp only at h1;unfold itU at h1;split at h1
 ·obtain⟨a,vs,rfl,ea,rs⟩:=rx;refine⟨a,rfl,.inr ⟨⟨vs,.of ea⟩,lv _ _ _ H1 _ hG1 f1 (λi H' G' f hr _=>?_) h1⟩⟩;have e':H' a=some (.tup vs):=f a _ ea;refine⟨λu eu=>?_,λe=>⟨vs,.of e',by rw[e,rs.length];lia⟩⟩
  obtain⟨w,ew,rw'⟩:=rs.get eu;refine⟨⟨vs,w,.of e',ew⟩,λv H'' y=>?_⟩;obtain⟨rfl,y⟩:=y;have:=y vs (.of e');rw[ew]at this;cases this;exact⟨rw'.ts f,hr,Fr.refl _ _⟩
 ·cases rx;rename_i a;split at h1
  ·rename_i us eu;obtain⟨vs,sq,rs⟩:=hG1.ls eu;refine⟨_,rfl,.inl ⟨⟨vs,sq⟩,lv _ _ _ H1 _ hG1 f1 (λi H' G' f hr ok=>?_) h1⟩⟩;obtain⟨vs',sq',rs'⟩:=hr.ls ok;refine⟨λu eu=>?_,λe=>⟨vs',sq',by rw[e,rs'.length];lia⟩⟩
   obtain⟨w,ew,rw'⟩:=rs'.get eu;refine⟨⟨vs',w,sq',ew⟩,λv H'' y=>?_⟩;obtain⟨rfl,y⟩:=y;have:=y vs' sq';rw[ew]at this;cases this;exact⟨rw',hr,Fr.refl _ _⟩
  lia
 lia
def jhm      lo n:jfU K (Itr lo n) H G (rngU lo n) λ_=>True:=by
 intro i H' G' f hr _;have hl:(rngU lo n).length=n:=by simp[rngU]
 refine⟨λu eu=>?_,λe=>by rw[hl]at e;exact YcH e.symm⟩
 have hi:i<n:=by grind
 refine⟨hi,λv H'' y=>?_⟩;obtain⟨rfl,rfl⟩:=y;have:(rngU lo n)[i]?=some (.int (lo+i)):=by simp[rngU,YaV,Yev hi]
 rw[this]at eu;cases eu;exact⟨rfl,hr,Fr.refl _ _⟩
def u_r1 {a:Expr}{p:Pos}(hg:Gl X "range")(hm:X.mg "range" = none)(ha:PE X a (lE X ta))(hs:Yaz [a] X.env=[(false,eval a X.env)]):PI X tg (.Call (.Name "range" p) [a] [] pos) (lI X λς G Q E=>ta ς G (λx G1=>match x with
   |.int j=>-(2 ^ 62)<=j/\j<2 ^ 62/\Q (rngU 0 j.toNat) (λ_=>True) G1
   |_=>False) E):=by
 refine(jgi hg hm (jdY ha jfY hs) hs).imp λσ H R h=>?_;obtain⟨ς,G,Q,E,hς,hG,h,lv,lx⟩:=h;refine⟨ς,G,λus G1=>match us with|[x]=>(match x with|.int j=>-(2 ^ 62)<=j/\j<2 ^ 62/\Q (rngU 0 j.toNat) (λ_=>True) G1|_=>False)|_=>False,E,hς,hG,h,λus vs G1 H1 rs hG1 f1 h1=>?_,lx⟩
 dsimp only at h1;split at h1
 ·obtain⟨v,rfl,r⟩:=rs.one;split at h1
  ·cases r;exact⟨_,rfl,h1.1,h1.2.1,lv _ _ G1 H1 _ hG1 f1 (jhm 0 _) h1.2.2⟩
  lia
 lia
def u_is   (hl:PE X l (lE X te)):PI X tg l (lI X λς G Q E=>te ς G (λx G1=>sgU x λxs=>Q xs (λ_=>True) G1) E):=by
 refine(jkN hl).imp λσ H R h=>?_;obtain⟨ς,G,Q,E,hς,hG,h,lv,lx⟩:=h;refine⟨ς,G,_,E,hς,hG,h,λx v G1 H1 rx hG1 f1 h1=>?_,lx⟩;cases x with
 |str z=>
  cases rx;obtain⟨ha,h1⟩:=h1;refine⟨z,rfl,ha,lv _ _ _ H1 _ hG1 f1 (λi H' G' f hr _=>⟨λu eu=>?_,λe=>?_⟩) h1⟩
  ·rw[YaV]at eu;cases ec:z.cps.toList[i]? with
   |none=>simp_all
   |some c=>
    rw[ec]at eu;cases eu;have ec':z.cps[i]?=some c:=by simp_all
    refine⟨(Array.getElem?_eq_some_iff.mp ec').1,λv H'' y=>?_⟩;obtain⟨rfl,d,ed,rfl⟩:=y;rw[ec']at ed;cases ed;exact⟨rfl,hr,Fr.refl _ _⟩
  ·rw[e];simp[Its]
 |_=>exact h1.elim
def SR.set        (h:SR K H ς σ)(r:RU K H u v) i:SR K H (ς.set i (some u)) (σ.set i (some v)):=by
 refine⟨by simp[h.1],λj w e=>?_⟩
 by_cases hj:j=i
 ·subst hj;by_cases hl:j<ς.length
  ·rw[YbJ hl]at e;cases e;exact⟨v,YbJ (by rw[<- h.1];exact hl),r⟩
  simp_all
 ·rw[YbW (Ne.symm hj)]at e ⊢;exact h.2 j w e
def u_tn    (hN:X.N.Nodup)(hi:X.N[i]?=some x)(hx:Loc X.env.scope x)(hf:X.fn x=true\/X.env.scope.names.lookup x=some .local):PG X (.Name x pos) (lG X.K (tgU (.n i))):=by
 refine(jjb hN hi hx hf).imp λv σ H Q h=>?_;obtain⟨u,ς,k,r,hς,h,q⟩:=h;exact q _ _ (hς.set r i) h
def u_tt {es:List Expr}{k n:Nat}{ts:Tgs}(hc:X.calm=true)(h:PGs X es (lGs X.K (tgsU ts)))(hn:(YaZ es X.env).length=n)(hst:(YaZ es X.env).findIdx? (·.1)=none)(hl:∀us ς k,tgsU ts us ς k->us.length=n) :
  PG X (.Tuple es k pos) (lG X.K (tgU (.t ts))):=by
 refine(jkP hc h hn hst).imp λv σ H Q h=>?_;obtain⟨u,ς,k,r,hς,h,q⟩:=h;cases u with
 |tup us=>
  obtain⟨a,vs,rfl,e,rs⟩:=r;have h':tgsU ts us ς k:=h;exact⟨a,vs,rfl,.of e,by rw[<- rs.length];grind,us,ς,k,rs,hς,h',q⟩
 |_=>exact h.elim
def jl7  : PGs X [] (lGs X.K (tgsU .nil)):=by
 refine jja.imp λvs σ H Q h=>?_;obtain⟨us,ς,k,r,hς,h,q⟩:=h;obtain⟨rfl,h⟩:=h;cases r;exact⟨rfl,q _ _ hς h⟩
def jl8 {e:Expr}{es:List Expr}{t:Tg}{ts:Tgs}(h1:PG X e (lG X.K (tgU t)))(h2:PGs X es (lGs X.K (tgsU ts)))(hs:(YaZ (e::es) X.env).map (·.2)=assign e X.env::(YaZ es X.env).map (·.2)) :
  PGs X (e::es) (lGs X.K (tgsU (.cons t ts))):=by
 refine(jhx h1 h2 hs).imp λvs σ H Q h=>?_;obtain⟨us,ς,k,r,hς,h,q⟩:=h;cases us with
 |nil=>exact h.elim
 |cons u us=>
  obtain⟨v,vr,rfl,r1,rs⟩:=r;exact⟨v,vr,rfl,u,ς,_,r1,hς,h,λς' σ' hs' h'=>⟨us,ς',k,rs,hs',h',q⟩⟩
end
def lE0  (K:Yac)(t:UE):TE:=λτ H Q0=>∃ς G Q,SR K H ς τ/\HR K H G/\t ς G Q (λ_ _=>False)/\∀w v G' H',RU K H' w v->HR K H' G'->Fr H G H' G'->Q w G'->Q0 v H'
def lT0  (K:Yac)(t:Sg->Gp->(Bool->Gp->Prop)->Prop):TT:=λτ H Q0=>∃ς G Q,SR K H ς τ/\HR K H G/\t ς G Q/\∀b G' H',HR K H' G'->Fr H G H' G'->Q b G'->Q0 b H'
def LX.no      : LX X σ H G λ_ _=>False:=λ_ _ _ _ _ _ _ _ _ _ h=>h.elim
def lE0.of     (h:PE X e (lE X t)):PE X e (lE0 X.K t):=h.imp λσ H Q0 ⟨ς,G,Q,h1,h2,h3,h4⟩=>⟨ς,G,Q,_,h1,h2,h3,h4,LX.no⟩
def lT0.of     (h:PT X e (lT X t)):PT X e (lT0 X.K λς G Q=>t ς G Q λ_ _=>False):=h.imp λσ H Q0 ⟨ς,G,Q,h1,h2,h3,h4⟩=>⟨ς,G,Q,_,h1,h2,h3,h4,LX.no⟩
mutual
noncomputable def tgS:Tg->List Nat
 |.n i=>[i]
 |.t ts=>tgsS ts
noncomputable def tgsS:Tgs->List Nat
 |.nil=>[]
 |.cons t ts=>tgS t++tgsS ts
end
def Ext  (ς0 ς:Sg):Prop:=ς0.length=ς.length/\∀(j:Nat) (w:U),ς0[j]?=some (some w)->ς[j]?=some (some w)
mutual
theorem jh3 {ς0:Sg}:∀{t:Tg} {u:U} {ς:Sg} {k:Sg->Prop},(∀i∈tgS t,∀w,ς0[i]?≠some (some w))->Ext ς0 ς->tgU t u ς k->tgU t u ς λς'=>k ς'/\Ext ς0 ς'
 |.n i,u,ς,k,hf,he,h=>by
  refine⟨h,by simp[he.1],λj w e=>?_⟩
  have hj:j≠i:=λz=>hf i (by simp[tgS]) w (z ▸ e)
  rw[YbW (Ne.symm hj)]
  exact he.2 j w e
 |.t ts,u,ς,k,hf,he,h=>by
  cases u with
  |tup us=>exact jf2 (ts:=ts) (us:=us) (λi hi=>hf i hi) he h
  |_=>exact h
theorem jf2 {ς0:Sg}:∀{ts:Tgs} {us:List U} {ς:Sg} {k:Sg->Prop},(∀i∈tgsS ts,∀w,ς0[i]?≠some (some w))->Ext ς0 ς->tgsU ts us ς k->tgsU ts us ς λς'=>k ς'/\Ext ς0 ς'
 |.nil,us,ς,k,_,he,h=>⟨h.1,h.2,he⟩
 |.cons t ts,us,ς,k,hf,he,h=>by
  cases us with
  |nil=>exact h
  |cons u r=>
   have:=jh3 (t:=t) (u:=u) (λi hi=>hf i (by simp[tgsS,hi])) he h
   refine jdF this λς' ⟨h1,h2⟩=>jf2 (λi hi=>hf i (by simp[tgsS,hi])) h2 h1
theorem jdF:∀{t:Tg} {u:U} {ς:Sg} {k k':Sg->Prop},tgU t u ς k->(∀ς,k ς->k' ς)->tgU t u ς k'
 |.n _,_,_,_,_,h,i=>i _ h
 |.t ts,u,ς,_,_,h,i=>by
  cases u with
  |tup us=>exact jfa (ts:=ts) (us:=us) h i
  |_=>exact h
theorem jfa:∀{ts:Tgs} {us:List U} {ς:Sg} {k k':Sg->Prop},tgsU ts us ς k->(∀ς,k ς->k' ς)->tgsU ts us ς k'
 |.nil,_,_,_,_,h,i=>⟨h.1,i _ h.2⟩
 |.cons t ts,us,ς,_,_,h,i=>by
  cases us with
  |nil=>exact h
  |cons u r=>exact jdF (t:=t) h λς' h'=>jfa h' i
end
def SR.ext      (h:SR K H ς σ)(e:Ext ς0 ς):SR K H ς0 σ:=⟨e.1.trans h.1,λi u q=>h.2 i u (e.2 i u q)⟩
theorem SR.pick      (h:SR K H ς σ)(pick:List (Option Nat)):SR K H (jcg pick ς) (pick.map λo=>o.bind λj=>(σ[j]?).join):=by
 refine⟨by simp[jcg],λi u e=>?_⟩
 unfold jcg at e;rw[YaV]at e ⊢;cases q:pick[i]? with
 |none=>simp_all
 |some o=>
  rw[q]at e;cases o with
  |none=>simp at e
  |some j=>
   simp only[Option.map_some,Option.bind_some,Option.some.injEq]at e ⊢;have e':ς[j]?=some (some u):=by
    grind
   obtain⟨v,ev,r⟩:=h.2 j u e'
   simp_all
section
variable {K:Yac}{H:Hp}{G:Gp}
def HR.newH  (h:HR K H G)(e:H p=none):HR K (upd H p o) G:=⟨λa ob q=>by
 have m:=h a ob q;obtain⟨ho,e2⟩:=m.there;exact m.keep (jae (jai e2 e)) (TS.new e),h.tab.new e⟩
def TS.hid     (e:H p=some (.lst ys)):TS H (upd H p o):=⟨λa xs h=>by
 have:a≠p:=λz=>by lia
 rw[jae this];exact h,λa ob h=>by
 have:a≠p:=λz=>by lia
 rw[jae this];exact h⟩
def HR.hid  (h:HR K H G)(e:H p=some (.lst ys))(g:G p=none):HR K (upd H p o) G:=⟨λa ob q=>by
 have:a≠p:=λz=>by lia
 exact(h a ob q).keep (jae this) (TS.hid e),h.tab.upd (λps z=>by lia) λob z=>by lia⟩
def HR.know  (h:HR K H G)(e:H p=some (.lst ys))(r:RUs K H us ys):HR K H (gup G p (.lst us)):=⟨λa ob q=>by
 by_cases z:a=p
 ·subst z;rw[jay]at q;cases q;exact⟨ys,e,r⟩
 ·rw[jbz z]at q;exact h a ob q,h.tab⟩
end
section
variable {X:Cx}{pick:List (Option Nat)}{ti:UI}{t:Tg}{tc:Sg->Gp->(Bool->Gp->Prop)->Prop}{te:UE}{σ:St}{H:Hp}{Q0:VK}
abbrev lcD  (pick:List (Option Nat))(ti:UI)(t:Tg)(tc:Sg->Gp->(Bool->Gp->Prop)->Prop)(te:UE):UE:=λς G Q E=>ti ς G (λxs ok G1=>xs.length<=Yae/\jck ok (λx G2 k=>tgU t x (jcg pick ς) λτ=>tc τ G2 (λb G3=>if b=true then te τ G3 (λu G4=>k (some u) G4) (λ_ _=>False) else k none G3)) xs [] G1
   λus G5=>newO G5 (.lst us) Q) E
structure FrX (D:Addr)(H:Hp)(G:Gp)(H':Hp)(G':Gp):Prop where
 go:∀a o,a≠D->H a=some o->G a=none->(nt:noTb o=true:=by rfl)->H' a=some o/\G' a=none
instance {D:Addr} {H H':Hp} {G G':Gp}:CoeFun (FrX D H G H' G') λ_=>∀a o,a≠D->H a=some o->G a=none->(nt:noTb o=true:=by rfl)->H' a=some o/\G' a=none:=⟨@FrX.go D H G H' G'⟩
def jlt            {kk:List U->Gp->Prop}{QQ:St->List V->Hp->Prop}
  (free:∀i∈tgS t,∀w,τu[i]?≠some (some w)) (wk:jfU X.K J H1 G1 xs ok) (hG1:HR X.K H1 G1) (eD1:H1 D=some (.lst ys0)) (gD1:G1 D=none) (ra1:RUs X.K H1 acc0 ys0) (sr1:SR X.K H1 τu τ0) (hl:acc0.length+xs.length<=Yae)
  (h1:jck ok (λx G2 k=>tgU t x τu λτ=>tc τ G2 (λb G3=>if b=true then te τ G3 (λu G4=>k (some u) G4) (λ_ _=>False) else k none G3)) xs acc0 G1 kk)
  (fin:∀τ' acc' ys' G' H',SR X.K H' τu τ'->HR X.K H' G'->FrX D H1 G1 H' G'->H' D=some (.lst ys')->G' D=none->RUs X.K H' acc' ys'->kk acc' G'->QQ τ' ys' H') :
  jha J (lG X.K (tgU t)) (lT0 X.K tc) (emA (lE0 X.K te) D) QQ τ0 ys0 H1:=by
 refine⟨λi m τ ys H'=>m=xs.length-i/\i<=xs.length/\∃acc G',SR X.K H' τu τ/\HR X.K H' G'/\FrX D H1 G1 H' G'/\H' D=some (.lst ys)/\G' D=none/\RUs X.K H' acc ys/\acc.length<=acc0.length+i/\
  jck ok (λx G2 k=>tgU t x τu λτ=>tc τ G2 (λb G3=>if b=true then te τ G3 (λu G4=>k (some u) G4) (λ_ _=>False) else k none G3)) (xs.drop i) acc G' kk,⟨xs.length,by simp,YaN _,acc0,G1,sr1,hG1,⟨λ_ _ _ a b _=>⟨a,b⟩⟩,eD1,gD1,ra1,by lia,by simp_all⟩,?_⟩
 rintro i m τ ys H' ⟨rfl,hi,acc,G',sr,hr,f,eD,gD',ra,hal,hc⟩;have ts:TS H1 H':=⟨λa zs e=>(f a _ (λz=>by lia) e (hG1.tupNone e)).1,λa zs e=>(f a _ (λz=>by lia) e (hG1.codNone e)).1⟩
 by_cases hlt:i<xs.length
 ·rw[Yca hlt]at hc;obtain⟨hok,hb⟩:=hc;obtain⟨w1,_⟩:=wk i H' G' ts hr hok;obtain⟨go,yl⟩:=w1 xs[i] (by simp[hlt])
  refine .inr ⟨go,λv H'' y=>?_⟩;obtain⟨rx,hr2,f2⟩:=yl v H'' y;have sr2:=sr.ts (f2.ts hr);refine⟨xs[i],τu,_,rx,sr2,jh3 free ⟨rfl,λ_ _ e=>e⟩ hb,λτv σ' hs' ⟨hk,he⟩=>?_⟩;refine⟨τv,G',_,hs',hr2,hk,λb G3 H3 hr3 f3 h3=>?_⟩;have f13:FrX D H1 G1 H3 G3:=⟨λa o n h g nt=>let ⟨a1,a2⟩:=f a o n h g nt;let ⟨b1,b2⟩:=f2 a o a1 a2 nt;f3 a o b1 b2 nt⟩
  have hs3:SR X.K H3 τu σ':=(hs'.ext he).ts (f3.ts hr2);obtain⟨eD2,gD2⟩:=f2 D _ eD gD';obtain⟨eD3,gD3⟩:=f3 D _ eD2 gD2;have ra3:=(ra.ts (f2.ts hr)).ts (f3.ts hr2);cases b with
  |false=>
   rw[if_neg Yah]at h3;dsimp only;rw[if_neg Yah];exact⟨xs.length-(i+1),by lia,rfl,hlt,acc,G3,hs3,hr3,f13,eD3,gD3,ra3,by lia,h3⟩
  |true=>
   rw[if_pos rfl]at h3;dsimp only;rw[if_pos rfl];refine⟨τv,G3,_,hs'.ts (f3.ts hr2),hr3,h3,λu v G4 H4 ru hr4 f4 h4=>?_⟩;obtain⟨eD4,gD4⟩:=f4 D _ eD3 gD3;have ra4:=ra3.ts (f4.ts hr3);have tsn:=TS.hid (o:=.lst (ys++[v])) eD4;refine⟨eD4,by rw[<- ra.length];lia,xs.length-(i+1),by lia,rfl,hlt,acc++[u],G4,(hs3.ts (f4.ts hr3)).ts tsn,hr4.hid eD4 gD4,?_,jau,gD4,(ra4.append (RUs.mk (us:=[]) (vs:=[]) ru rfl)).ts tsn,by grind,h4⟩
   refine⟨λa o n ha ga nt=>?_⟩;obtain⟨x1,x2⟩:=f13 a o n ha ga nt;obtain⟨y1,y2⟩:=f4 a o x1 x2 nt;exact⟨by rw[jae n];exact y1,y2⟩
 ·have e:i=xs.length:=by lia
  subst e;rw[Ye1]at hc;obtain⟨hok,q⟩:=hc;obtain⟨_,w2⟩:=wk xs.length H' G' ts hr hok;exact .inl ⟨w2 rfl,fin τ acc ys G' H' sr hr f eD gD' ra q⟩
def jgh  {is:List Nat}(hp:is.all (λi=>(pick[i]?).join.isNone)=true) ς:∀i∈is,∀w,(jcg pick ς)[i]?≠some (some w):=λi hi w e=>by
 have:=YbU.mp hp i hi;unfold jcg at e;rw[YaV]at e;cases q:pick[i]? with
 |none=>simp_all
 |some o=>
  simp_all
def jif  (hp:(tgS t).all (λi=>(pick[i]?).join.isNone)=true)(h:lE X (lcD pick ti t tc te) σ H Q0):tLc pick (lI X ti) (lG X.K (tgU t)) (lT0 X.K tc) (lE0 X.K te) σ H Q0:=by
 obtain⟨ς,G,Q,E,hς,hG,h,lv,lx⟩:=h;refine⟨ς,G,_,E,hς,hG,h,λxs ok G1 H1 J hG1 f1 wk h1=>?_,lx⟩;obtain⟨hl,h1⟩:=h1;intro D hD;refine jlt (acc0:=[]) (jgh hp ς) (wk.mono (TS.new hD)) (hG1.newH hD) jau (hG1.nope hD) rfl (((hς.ts (f1.ts hG)).ts (TS.new hD)).pick pick) (by simp_all) h1 λτ' acc' ys' G' H' sr hr f eD gD' ra q=>?_
 refine lv (.loc D) (.ref D) _ H' rfl (hr.know eD ra) ?_ (q.at D gD');refine⟨λa o ha ga nt=>?_⟩;obtain⟨x1,x2⟩:=f1 a o ha ga nt;obtain⟨y1,y2⟩:=f a o (jai x1 hD) (by rw[jae (jai x1 hD)];exact x1) x2 nt
 exact⟨y1,by rw[jbz (jai x1 hD)];exact y2⟩

def u_lc  (hc:X.calm=true)(S:CScope X N pick scope)(hw:PI X tg iter (lI X ti))(hp:(tgS t).all (λi=>(pick[i]?).join.isNone)=true)
  (hg:∀cl C s₀ H₀ fp,PG (jam X N scope cl C s₀ H₀ fp) tg (lG X.K (tgU t))) (hi:∀cl C s₀ H₀ fp,PIfs (jam X N scope cl C s₀ H₀ fp) ifs (lT0 X.K tc)) (he:∀cl C s₀ H₀ fp,PE (jam X N scope cl C s₀ H₀ fp) elt (lE0 X.K te))
  (hs:∀x,YaP iter X.env x=pure x):PE X (.ListComp elt [⟨tg,iter,ifs,0⟩] scope pos) (lE X (lcD pick ti t tc te)):=
 (jmN hc S hw hg hi he hs).imp λ_ _ _ h=>jif hp h
end
section
variable {X:Cx}{e:Expr}{te ta tb:UE}{p pos:Pos}
def jmf  (hg:Gl X "list")(hm:X.mg "list" = none)(ha:PE X e (lE X te))(he:Yaz [e] X.env=[(false,eval e X.env)]) :
  PE X (.Call (.Name "list" p) [e] [] pos) (lE X λς G Q E=>te ς G (λx G1=>itU x G1 λxs _=>newO G1 (.lst xs) Q) E):=by
 refine(jcK (jer (X:=X)) hg hm PyProof.Rows.boot_list (jdY ha jfY he) (by decide) (by decide) he rfl).imp λσ H Q0 h=>?_
 obtain⟨ς,G,Q,E,hς,hG,h,lv,lx⟩:=h;refine⟨ς,G,λus G1=>match us with|[x]=>(itU x G1 λxs _=>newO G1 (.lst xs) Q)|_=>False,E,hς,hG,h,λus vs G1 H1 rs hG1 f1 h1=>?_,lx⟩
 dsimp only at h1;split at h1
 ·obtain⟨v,rfl,r⟩:=rs.one;unfold itU at h1;split at h1
  ·obtain⟨a,ws,rfl,ea,rr⟩:=r;exact⟨a,ws,rfl,.inr (.of ea),λl hl=>(lv.fr f1).lst hl rr hG1 h1⟩
  ·cases r;split at h1
   ·rename_i us eu;obtain⟨ws,sq,rr⟩:=hG1.ls eu;exact⟨_,ws,rfl,.inl sq,λl hl=>(lv.fr f1).lst hl rr hG1 h1⟩
   lia
  lia
 lia
def jme  (hg:Gl X "tuple")(hm:X.mg "tuple" = none)(ha:PE X e (lE X te))(he:Yaz [e] X.env=[(false,eval e X.env)]) :
  PE X (.Call (.Name "tuple" p) [e] [] pos) (lE X λς G Q E=>te ς G (λx G1=>itU x G1 λxs _=>Q (.tup xs) G1) E):=by
 refine(jcK (jdS (X:=X)) hg hm PyProof.Rows.boot_tuple (jdY ha jfY he) (by decide) (by decide) he rfl).imp λσ H Q0 h=>?_
 obtain⟨ς,G,Q,E,hς,hG,h,lv,lx⟩:=h;refine⟨ς,G,λus G1=>match us with|[x]=>(itU x G1 λxs _=>Q (.tup xs) G1)|_=>False,E,hς,hG,h,λus vs G1 H1 rs hG1 f1 h1=>?_,lx⟩
 dsimp only at h1;split at h1
 ·obtain⟨v,rfl,r⟩:=rs.one;unfold itU at h1;split at h1
  ·obtain⟨a,ws,rfl,ea,rr⟩:=r;exact⟨a,ws,rfl,.inr ⟨.of ea,(lv.fr f1).here (w:=.tup _) ⟨a,ws,rfl,ea,rr⟩ hG1 h1⟩⟩
  ·cases r;split at h1
   ·rename_i us eu;obtain⟨ws,sq,rr⟩:=hG1.ls eu;exact⟨_,ws,rfl,.inl ⟨sq,λl hl=>(lv.fr f1).tup hl rr hG1 h1⟩⟩
   lia
  lia
 lia
theorem jfd    : ∀{xs:List Str} {vs },RUs K H (xs.map .str) vs->vs=xs.map V.str
 |[],_,h=>h
 |x::xs,_,h=>by
  obtain⟨v,vr,rfl,h1,h2⟩:=h;rw[jfd h2];have h1:v=.str x:=h1;rw[h1];rfl
def jj6    (hc:X.calm=true)(h1:Gl X "len")(m1:X.mg "len" = none)(h2:Gl X "set")(m2:X.mg "set" = none)(ha:PE X a (lE X ta))(hs:Yaz [a] X.env=[(false,eval a X.env)])
  (hs2:Yaz [.Call (.Name "set" p2) [a] [] pos2] X.env=[(false,eval (.Call (.Name "set" p2) [a] [] pos2) X.env)]) :
  PE X (.Call (.Name "len" p) [.Call (.Name "set" p2) [a] [] pos2] [] pos) (lE X λς G Q E=>ta ς G (λx G1=>jfI x G1 Q) E):=by
 refine(jjd hc h1 m1 h2 m2 (jdY ha jfY hs) hs hs2).imp λσ H Q0 h=>?_;obtain⟨ς,G,Q,E,hς,hG,h,lv,lx⟩:=h;refine⟨ς,G,λus G1=>match us with|[x]=>jfI x G1 Q|_=>False,E,hς,hG,h,λus vs G1 H1 rs hG1 f1 h1=>?_,lx⟩
 dsimp only at h1;split at h1
 ·obtain⟨v,rfl,r⟩:=rs.one;unfold jfI at h1;split at h1
  ·obtain⟨xs,rfl,h4k,q⟩:=h1;obtain⟨b,ws,rfl,hb,rw_⟩:=r;rw[jfd rw_]at hb;exact⟨b,xs,rfl,SqT.of hb,h4k,λds nd mem=>(lv.fr f1).int hG1 (q ds nd mem)⟩
  ·exact h1.elim
 ·exact h1.elim
def u_ty    (hg:Gl X x)(hm:X.mg x=none)(hv:Ybw x=some (.type n))(hn:x ≠ "__name__")(hd:(x==("__debug__" : Str))=false):PE X (.Name x pos) (lE X λ_ G Q _=>Q (.ty n) G):=
 jb8 (u:=.ty n) (jjh (v:=.ty n) hg hm hv rfl hn hd) λ_=>rfl
def u_gl      (hg:Gl X x)(hm:X.mg x=some w)(r:RelV v w)(hr:∀H,RU X.K H u v)(hd:(x==("__debug__" : Str))=false):PE X (.Name x pos) (lE X λ_ G Q _=>Q u G):=
 jb8 (jje hg hm r hd) hr
def jj9  : PE X (.Dict [] [] pos) (lE X λ_ G Q _=>newO G (.dK []) Q):=by
 refine jhz.imp λσ H Q0 h p hp=>?_;obtain⟨ς,G,Q,E,hς,hG,h,lv,lx⟩:=h;exact lv (.loc p) (.ref p) _ _ rfl (hG.newO (mo:=.dK []) hp ⟨[],jau,rfl⟩) (Fr.newO hp) (h.at p (hG.nope hp))
theorem RKs.merge    : ∀{more } {m },RKs K H more m->∀{kvs } {l },RKs K H kvs l->RKs K H (more.foldl (λacc kv=>dPut acc kv.1 kv.2) kvs) (jcQ l m)
 |[],_,h,_,_,h'=>by cases h;exact h'
 |(k,u)::more,_,h,_,_,h'=>by
  obtain⟨v,l',rfl,r,rs⟩:=h;exact RKs.merge rs (h'.put r)
def lD  (X:Cx)(t:Sg->Gp->(List (Key×U)->Gp->Prop)->KX->Prop)(trs:List (TE×TE)):Prop:=
 ∀σ H ς G Q E (Q0:List (V×V)->Hp->Prop),SR X.K H ς σ->HR X.K H G->t ς G Q E->LX X σ H G E->
  (∀kvs (l:List (Key×V)) G' H',RKs X.K H' kvs l->HR X.K H' G'->Fr H G H' G'->Q kvs G'->Q0 (l.map λkv=>(kV kv.1,kv.2)) H')->jfb trs σ H Q0
def jmh      (hp:PPs X pos keys values trs)(hd:lD X t trs)(hall:keys.all (·.isSome)=true)(hl:keys.length=values.length)(h0:keys≠[])
  (h15:keys.length<=15):PE X (.Dict keys values pos) (lE X λς G Q E=>t ς G (λkvs G1=>kvs.length<=15/\newO G1 (.dK (jc3 kvs)) Q) E):=by
 refine(jjf hp hall hl h0 h15).imp λσ H Q0 h p hp=>?_;obtain⟨ς,G,Q,E,hς,hG,h,lv,lx⟩:=h;have gp:=hG.nope hp;refine hd σ _ ς G _ E _ (hς.ts (TS.new hp)) (hG.newH hp) h (lx.fr (Fr.new hp)) λkvs l G' H' r hG' f q=>?_;obtain⟨e,g⟩:=f p _ jau gp;refine⟨e,l,rfl,by rw[<- r.length];exact q.1,?_⟩
 have ts:TS H' (upd H' p (.dK (jcQ [] l))):=⟨λa xs h=>by
  have:a≠p:=λz=>by lia
  rw[jae this];exact h,λa xs h=>by
  have:a≠p:=λz=>by lia
  rw[jae this];exact h⟩
 refine lv (.loc p) (.ref p) (gup G' p (.dK (jc3 kvs))) _ rfl ⟨λa ob z=>?_,hG'.tab.upd (λps z=>by lia) λob z=>by lia⟩ ⟨λa o ha ga nt=>?_⟩ (q.2.at p g)
 ·by_cases ea:a=p
  ·subst ea;rw[jay]at z;cases z;exact⟨_,jau,(RKs.merge r (kvs:=[]) (l:=[]) rfl).ts ts⟩
  ·rw[jbz ea]at z;exact(hG' a ob z).keep (jae ea) ts
 ·have ea:a≠p:=jai ha hp;obtain⟨x1,x2⟩:=f a o (by rw[jae ea];exact ha) ga nt
  exact⟨by rw[jae ea];exact x1,by rw[jbz ea];exact x2⟩
def jlz  : lD X (λ_ G Q _=>Q [] G) []:=λσ H ς G Q E Q0 hς hG h lx q=>q [] [] G H rfl hG (Fr.refl _ _) h
def jjE {tk tv:UE}{t:Sg->Gp->(List (Key×U)->Gp->Prop)->KX->Prop}{trs:List (TE×TE)}(hr:lD X t trs):lD X (λς G Q E=>tk ς G (λx G1=>tv ς G1 (λy G2=>match kU x with
   |some k=>t ς G2 (λkvs G3=>Q ((k,y)::kvs) G3) E
   |none=>False) E) E) ((lE X tk,lE X tv)::trs):=by
 intro σ H ς G Q E Q0 hς hG h lx q;refine⟨ς,G,_,E,hς,hG,h,λx v G1 H1 rx hG1 f1 h1=>?_,lx⟩;refine⟨ς,G1,_,E,hς.ts (f1.ts hG),hG1,h1,λy v' G2 H2 ry hG2 f2 h2=>?_,lx.fr f1⟩;dsimp only at h2;split at h2
 ·rename_i k ek;have:=jei rx ek;subst this;refine hr σ H2 ς G2 _ E _ ((hς.ts (f1.ts hG)).ts (f2.ts hG1)) hG2 h2 (lx.fr (f1.trans f2)) λkvs l G3 H3 r hG3 f3 h3=>?_;exact q ((k,y)::kvs) ((k,v')::l) G3 H3 ⟨v',l,rfl,ry.ts (f3.ts hG2),r⟩ hG3 ((f1.trans f2).trans f3) h3
 lia
end
end Z

namespace L2
open PySem
end L2
namespace Z
open PySem L2
structure LD (X:Cx)(H:Hp)(G:Gp)(De:En)(D:Ends):Prop where
 nx:∀ς' σ' G' H',SR X.K H' ς' σ'->HR X.K H' G'->Fr H G H' G'->De.nx ς' G'->D.nx σ' H'
 rt:∀w v G' H',RU X.K H' w v->HR X.K H' G'->Fr H G H' G'->De.rt w G'->D.rt v H'
 ex:∀(pins:List (Addr×Obj)) (e:Value) (s':Shared) (x:XV) ς' σ' G' H',Inv X pins σ' H' s'->SR X.K H' ς' σ'->XAt X H' s' e x->HR X.K H' G'->Fr H G H' G'->De.ex x ς' G'->X.xe e s'
abbrev US:=En->Sg->Gp->Prop
def lS  (X:Cx)(t:US):L2.TS:=λD σ H=>∃De ς G,SR X.K H ς σ/\HR X.K H G/\t De ς G/\LD X H G De D

def LD.fr  (h:LD X H G De D)(f:Fr H G H1 G1):LD X H1 G1 De D:=
 ⟨λς' σ' G' H' a b c=>h.nx ς' σ' G' H' a b (f.trans c),λw v G' H' a b c=>h.rt w v G' H' a b (f.trans c),λpins e s' x ς' σ' G' H' i a b c d=>h.ex pins e s' x ς' σ' G' H' i a b c (f.trans d)⟩
def LD.lx  (h:LD X H G De D)(hς:SR X.K H ς σ)(hG:HR X.K H G):LX X σ H G λx G1=>De.ex x ς G1:=λpins e s' x G' H' I a hr f q=>h.ex pins e s' x ς σ G' H' I (hς.ts (f.ts hG)) a hr f q
def LD.here  (h:LD X H G De D)(hς:SR X.K H ς σ)(hG:HR X.K H G)(q:De.nx ς G):D.nx σ H:=h.nx ς σ G H hς hG (Fr.refl _ _) q
def LD.with    (h:LD X H G De D)(hn:∀ς' σ' G' H',SR X.K H' ς' σ'->HR X.K H' G'->Fr H G H' G'->k ς' G'->D'.nx σ' H')(hr:D'.rt=D.rt):LD X H G { De with nx:=k } D':=
 ⟨hn,λw v G' H' a b c d=>by rw[hr];exact h.rt w v G' H' a b c d,h.ex⟩
section
variable {X:Cx}{st:Stmt}{rest:List Stmt}{pos:Pos}{e:Expr}{te:UE}{t u:US}
def s_nil  : PSs X [] (lS X λD ς G=>D.nx ς G):=ji2.imp λD σ H ⟨De,ς,G,hς,hG,h,ld⟩=>ld.here hς hG h
def s_cons  (h1:PS X st (lS X t))(h2:PSs X rest (lS X u)):PSs X (st::rest) (lS X λD ς G=>t { D with nx:=λς' G'=>u D ς' G' } ς G):=by
 refine(jht h1 h2).imp λD σ H ⟨De,ς,G,hς,hG,h,ld⟩=>?_;exact⟨_,ς,G,hς,hG,h,ld.with (λς' σ' G' H' a b c d=>⟨De,ς',G',a,b,d,ld.fr c⟩) rfl⟩
def s_expr  (he:PE X e (lE X te))(hs:Ycw e none pos.line X.env=pure false):PS X (.Expr e pos) (lS X λD ς G=>te ς G (λ_ G1=>D.nx ς G1) λx G1=>D.ex x ς G1):=
 (ji3 he hs).imp λD σ H ⟨De,ς,G,hς,hG,h,ld⟩=>⟨ς,G,_,_,hς,hG,h,λw v G' H' _ hr f q=>ld.nx ς σ G' H' (hς.ts (f.ts hG)) hr f q,ld.lx hς hG⟩
def s_ret  (he:PE X e (lE X te)):PS X (.Return (some e) pos) (lS X λD ς G=>te ς G D.rt λx G1=>D.ex x ς G1):=
 (jkI he).imp λD σ H ⟨De,ς,G,hς,hG,h,ld⟩=>⟨ς,G,_,_,hς,hG,h,λw v G' H' r hr f q=>ld.rt w v G' H' r hr f q,ld.lx hς hG⟩
def s_if     (hc:PT X c (lT X tc))(ha:PSs X a (lS X t))(hb:PSs X b (lS X u)):PS X (.If c a b pos) (lS X λD ς G=>tc ς G (λx G1=>if x=true then t D ς G1 else u D ς G1) λx G1=>D.ex x ς G1):=by
 refine(jmJ hc ha hb).imp λD σ H ⟨De,ς,G,hς,hG,h,ld⟩=>⟨ς,G,_,_,hς,hG,h,λb G' H' hr f q=>?_,ld.lx hς hG⟩;cases b with
 |true=>rw[if_pos rfl]at q ⊢;exact⟨De,ς,G',hς.ts (f.ts hG),hr,q,ld.fr f⟩
 |false=>rw[if_neg Yah]at q ⊢;exact⟨De,ς,G',hς.ts (f.ts hG),hr,q,ld.fr f⟩
def jj0      (h:lS X (λD ς G=>te ς G (λu G1=>tgU g u ς λς'=>D.nx ς' G1) λx G1=>D.ex x ς G1) D σ H) :
  lE X te σ H λx H1=>lG X.K (tgU g) x σ H1 D.nx:=by
 obtain⟨De,ς,G,hς,hG,h,ld⟩:=h;exact⟨ς,G,_,_,hς,hG,h,λw v G' H' r hr f q=>⟨w,ς,_,r,hς.ts (f.ts hG),q,λς' σ' hs hk=>ld.nx ς' σ' G' H' hs hr f hk⟩,ld.lx hς hG⟩
def s_asg {tg:Expr}{g:Tg}(he:PE X e (lE X te))(hg:PG X tg (lG X.K (tgU g)))(hs:Ybo [tg] e pos.line X.env=pure false)(hw:Ya6 [tg] e X.env=pure none)
  (h1:(YaZ [tg] X.env).map (·.2)=[assign tg X.env]):PS X (.Assign [tg] e pos) (lS X λD ς G=>te ς G (λu G1=>tgU g u ς λς'=>D.nx ς' G1) λx G1=>D.ex x ς G1):=
 (jh7 he hg hs hw h1).imp λ_ _ _ h=>jj0 h
def s_lc            
  (hN:X.N.Nodup) (hi':X.N[i]?=some y) (hy:X.env.scope.names.lookup y=some .local) (hc:X.calm=true) (S:CScope X N pick scope) (hw:PI X tg iter (lI X ti)) (hp:(tgS g).all (λi=>(pick[i]?).join.isNone)=true)
  (hg:∀cl C s₀ H₀ fp,PG (jam X N scope cl C s₀ H₀ fp) tg (lG X.K (tgU g))) (hi:∀cl C s₀ H₀ fp,PIfs (jam X N scope cl C s₀ H₀ fp) ifs (lT0 X.K tc)) (he:∀cl C s₀ H₀ fp,PE (jam X N scope cl C s₀ H₀ fp) elt (lE0 X.K te))
  (hsw:Ycw (.ListComp elt [⟨tg,iter,ifs,0⟩] scope pos) (some (.Name y py)) spos.line X.env=pure true) (hs:∀x,YaP iter X.env x=pure x) :
  PS X (.Assign [.Name y py] (.ListComp elt [⟨tg,iter,ifs,0⟩] scope pos) spos) (lS X λD ς G=>lcD pick ti g tc te ς G (λu G1=>tgU (.n i) u ς λς'=>D.nx ς' G1) λx G1=>D.ex x ς G1):=by
 refine(jmI hN hi' hy hc S hw hg hi he hsw hs).imp λD σ H h=>?_;obtain⟨De,ς,G,hς,hG,h,ld⟩:=h;exact jif hp ⟨ς,G,_,_,hς,hG,h,λw v G' H' r hr f q=>ld.nx _ _ G' H' ((hς.ts (f.ts hG)).set r i) hr f q,ld.lx hς hG⟩
def jkE  : TSet:=λo i v H Q=>∃a H',o=.ref a/\DPut H a i v H'/\Q H'
def jhk  (hu:X.A.units+1<cLine):PSet X jkE:=by
 intro pins s σ H o i v ov iv u Q I ro ri rv h;obtain⟨a,H',rfl,g,q⟩:=h;cases ro;exact jgY hu I g ri rv λs' I'=>⟨H',I',q⟩
def _root_.L2.PSet.or {t t':TSet}(h:PSet X t)(h':PSet X t'):PSet X λo i v H Q=>t o i v H Q\/t' o i v H Q:=by
 intro pins s σ H o i v ov iv u Q I ro ri rv q;rcases q with q|q
 ·exact h pins s σ H o i v ov iv u Q I ro ri rv q
 ·exact h' pins s σ H o i v ov iv u Q I ro ri rv q
def jiS       {Q0:Hp->Prop}(rx:RU X.K H x v)(ry:RU X.K H y v')(rw':RU X.K H w v'')(hG:HR X.K H G)(h:setU x y w G k)
  (q:∀G' H',HR X.K H' G'->Fr H G H' G'->k G'->Q0 H'):jkD v v' v'' H Q0\/jkE v v' v'' H Q0:=by
 cases x with
 |loc a=>
  cases rx;unfold setU at h;dsimp only at h;split at h
  ·rename_i xs g;obtain⟨vs,e,rs⟩:=hG.lst g;cases y with
   |int i=>
    cases ry;dsimp only at h;split at h
    ·rename_i j ej;refine .inl ⟨a,vs,i,j,rfl,rfl,e,by rw[<- rs.length];exact ej,?_⟩
     exact q _ _ (hG.write (mo':=.lst (xs.set j w)) g ⟨_,jau,(rs.set rw' j).ts (TS.write hG g)⟩) (Fr.write g) h.at
    lia
   |_=>lia
  ·rename_i kvs g;obtain⟨l,e,rs⟩:=hG a _ g;split at h
   ·rename_i k' ek;have:=jei ry ek;subst this;refine .inr ⟨a,_,rfl,DPut.k e (by rw[<- rs.length];exact h.1),?_⟩
    exact q _ _ (hG.write (mo':=.dK (dPut kvs k' w)) g ⟨_,jau,(rs.put rw').ts (TS.write hG g)⟩) (Fr.write g) h.2.at
   lia
  ·rename_i kvs g;obtain⟨l,e,rs⟩:=hG a _ g;cases y with
   |tup ys=>
    obtain⟨b,ws,rfl,eb,rb⟩:=ry;dsimp only at h;split at h
    ·rename_i k' ek;have:=jfl rb ek;subst this;refine .inr ⟨a,_,rfl,DPut.t e eb (by rw[<- rs.length];exact h.1),?_⟩
     exact q _ _ (hG.write (mo':=.dT (dPut kvs k' w)) g ⟨_,jau,(rs.put rw').ts (TS.write hG g)⟩) (Fr.write g) h.2.at
    lia
   |_=>lia
  lia
 |_=>exact h.elim
def s_set {o i:Expr}{to ti:UE}{tpos:Pos}(hu:X.A.units+1<cLine)(he:PE X e (lE X te))(ho:PE X o (lE X to))(hi:PE X i (lE X ti))(hs:Ybo [.Subscript o i tpos] e pos.line X.env=pure false)(hw:Ya6 [.Subscript o i tpos] e X.env=pure none)
  (h1:(YaZ [.Subscript o i tpos] X.env).map (·.2)=[assign (.Subscript o i tpos) X.env]) (ha:∀v,assign (.Subscript o i tpos) X.env v=(do
   let ov <- holding [v] (eval o X.env)
   let iv <- holding [v,ov] (eval i X.env)
   standAt tpos
   holding [v,ov,iv] (setItem ov iv v)
   release [v,ov,iv] [])):PS X (.Assign [.Subscript o i tpos] e pos) (lS X λD ς G=>te ς G (λv G1=>to ς G1 (λx G2=>ti ς G2 (λy G3=>setU x y v G3 λG4=>D.nx ς G4) λx G1=>D.ex x ς G1) λx G1=>D.ex x ς G1) λx G1=>D.ex x ς G1):=by
 refine(jh7 he (jkQ ho hi (PSet.or jhj (jhk hu)) ha) hs hw h1).imp λD σ H ⟨De,ς,G,hς,hG,h,ld⟩=>?_;refine⟨ς,G,_,_,hς,hG,h,λw v G1 H1 rw' hG1 f1 h1=>?_,ld.lx hς hG⟩;have hς1:=hς.ts (f1.ts hG);refine⟨ς,G1,_,_,hς1,hG1,h1,λx vx G2 H2 rx hG2 f2 h2=>?_,(ld.fr f1).lx hς1 hG1⟩;have hς2:=hς1.ts (f2.ts hG1);refine⟨ς,G2,_,_,hς2,hG2,h2,λy vy G3 H3 ry hG3 f3 h3=>?_,(ld.fr (f1.trans f2)).lx hς2 hG2⟩;have hς3:=hς2.ts (f3.ts hG2);exact jiS (rx.ts (f3.ts hG2)) ry ((rw'.ts (f2.ts hG1)).ts (f3.ts hG2)) hG3 h3 λG' H' hr f q=>ld.nx ς σ G' H' (hς3.ts (f.ts hG3)) hr (((f1.trans f2).trans f3).trans f) q
def _root_.L2.PGet.or {t t':V->V->Hp->VK->Prop}(h:PGet X t)(h':PGet X t'):PGet X λo i H Q=>t o i H Q\/t' o i H Q:=by
 intro pins s σ H o i ov iv Q I ro ri q;rcases q with q|q
 ·exact h pins s σ H o i ov iv Q I ro ri q
 ·exact h' pins s σ H o i ov iv Q I ro ri q
def s_par2        (hc:X.calm=true)(hN:X.N.Nodup)(hi:X.N[i]?=some x)(hj:X.N[j]?=some y)(hij:i≠j)
  (hx:X.env.scope.names.lookup x=some .local) (hy:X.env.scope.names.lookup y=some .local) (ha:PA X [a,b] (lA X ts))
  (hw:Ya6 [.Tuple [.Name x px,.Name y py] kt pt] (.Tuple [a,b] k2 pt2) X.env=pure (some [x,y])) (hs:Ybo [.Tuple [.Name x px,.Name y py] kt pt] (.Tuple [a,b] k2 pt2) pos.line X.env=pure false) :
  PS X (.Assign [.Tuple [.Name x px,.Name y py] kt pt] (.Tuple [a,b] k2 pt2) pos) (lS X λD ς G=>ts ς G (λus G1=>us.length=[i,j].length/\D.nx (([i,j].zip us).foldl (λs p=>s.set p.1 (some p.2)) ς) G1) λx G1=>D.ex x ς G1):=by
 refine(jkJ hc hN hi hj hij hx hy ha hw hs).imp λD σ H ⟨De,ς,G,hς,hG,h,ld⟩=>?_;refine⟨ς,G,_,_,hς,hG,h,λus vs G1 H1 rs hG1 f1 h1=>?_,ld.lx hς hG⟩;obtain⟨h1,h2⟩:=h1
 match us,h1,h2,rs with
 |[u,w],_,h2,rs=>
  obtain⟨v,v',rfl,r1,r2⟩:=rs.two;exact⟨v,v',rfl,ld.nx _ _ G1 H1 (((hς.ts (f1.ts hG)).set r1 i).set r2 j) hG1 f1 h2⟩
def s_for       (hp:YeY (model X.prog X.w) X.A X.env X.xe)(hc:X.calm=true)(hi:PI X tg iter (lI X ti))(hg:PG X tg (lG X.K (tgU g)))(hb:PSs X body (lS X tb))
  (hs:∀x,YaP iter X.env x=pure x):PS X (.For tg iter body [] pos) (lS X λD ς G=>ti ς G (λxs ok G1=>forL ok (λx ς1 G2 k=>tgU g x ς1 λς2=>tb { D with nx:=k } ς2 G2) xs ς G1 D.nx) λx G1=>D.ex x ς G1):=by
 refine(jkM hp hc hi hg hb hs).imp λD σ H ⟨De,ς,G,hς,hG,h,ld⟩=>?_;refine⟨ς,G,_,_,hς,hG,h,λxs ok G1 H1 J hG1 f1 wk h1=>?_,ld.lx hς hG⟩;refine⟨λi m σ' H'=>m=xs.length-i/\i<=xs.length/\∃ς' G',SR X.K H' ς' σ'/\HR X.K H' G'/\Fr H1 G1 H' G'/\forL ok (λx ς1 G2 k=>tgU g x ς1 λς2=>tb { De with nx:=k } ς2 G2) (xs.drop i) ς' G' De.nx,⟨xs.length,by simp,YaN _,ς,G1,hς.ts (f1.ts hG),hG1,Fr.refl _ _,by simp_all⟩,?_⟩
 rintro i m σ' H' ⟨rfl,hi',ς',G',sr,hr,f,hc'⟩;by_cases hlt:i<xs.length
 ·rw[Yca hlt]at hc';obtain⟨hok,hb'⟩:=hc';obtain⟨w1,_⟩:=wk i H' G' (f.ts hG1) hr hok;obtain⟨go,yl⟩:=w1 xs[i] (by simp[hlt])
  refine .inr ⟨go,λσ2 H2=>∃ς2 G2,SR X.K H2 ς2 σ2/\HR X.K H2 G2/\Fr H1 G1 H2 G2/\forL ok (λx ς1 G2 k=>tgU g x ς1 λς2=>tb { De with nx:=k } ς2 G2) (xs.drop (i+1)) ς2 G2 De.nx,λσ2 H2 q=>⟨xs.length-(i+1),by lia,rfl,hlt,q⟩,λv H'' y=>?_⟩
  obtain⟨rx,hr2,f2⟩:=yl v H'' y;refine⟨xs[i],ς',_,rx,sr.ts (f2.ts hr),hb',λς2 σ2 hs2 hk=>?_⟩;have f3:=(f1.trans f).trans f2;refine⟨_,ς2,G',hs2,hr2,hk,(ld.fr f3).with (λς3 σ3 G3 H3 a b c d=>⟨ς3,G3,a,b,(f.trans f2).trans c,d⟩) rfl⟩
 ·have e:i=xs.length:=by lia
  subst e;rw[Ye1]at hc';obtain⟨hok,q⟩:=hc';exact .inl ⟨(wk xs.length H' G' (f.ts hG1) hr hok).2 rfl,ld.nx ς' σ' G' H' sr hr (f1.trans f) q⟩
end
structure Ctx where
 N:List Str
 sc:List (Str×Ybe)
noncomputable def kd  (c:Ctx)(x:Str)(k:Ybe):Bool:=c.sc.lookup x==some k
def glo  (c:Ctx)(x:Str):Bool:=kd c x .globalImplicit && !(x==("__debug__" : Str))
noncomputable def nm1  : Expr->List Str
 |.Name x _=>[x]
 |_=>[]
def nm2  : Expr->List Str
 |.Tuple es _ _=>es.flatMap nm1
 |e=>nm1 e
def jiK  : Expr->List Str
 |.Tuple es _ _=>es.flatMap nm2
 |e=>nm1 e
noncomputable def jfZ  : List String:=["bool", "int", "str", "list", "tuple", "dict"]
def cOkS  (c:Ctx)(N:List Str)(pick:List (Option Nat))(scope:Scope):Bool:=
 decide (scope.kind=.function)&&scope.names.all (λy=>y.2 != .cell||scope.names.lookup y.1==some .cell)&&scope.names.all (λy=>y.2 != .local||scope.names.lookup y.1==some .local)
  && scope.names.all (λy=>y.2 != .free||(scope.names.lookup y.1==some .free&&(kd c y.1 .cell||kd c y.1 .free)))
  && pick.length==N.length&&(N.zip pick).all (λp=>match p.2 with|none=>true|some j=>c.N[j]?==some p.1&&scope.names.lookup p.1==some .free)&&decide N.Nodup
noncomputable def jic  : Expr->Bool
 |.Call (.Name _ _) [] [] _=>false
 |_=>true
noncomputable def e0  : Expr:=.Name "" ⟨0,0,0,0⟩
def hd  : List Expr->Expr
 |[]=>e0
 |e::_=>e
def c0  : Expr->Expr
 |.BinOp l _ _ _=>l
 |.UnaryOp _ x _=>x
 |.IfExp t _ _ _=>t
 |.Compare l _ _ _=>l
 |.Subscript v _ _=>v
 |.Attribute v _ _=>v
 |.Call f _ _ _=>f
 |.ListComp e _ _ _=>e
 |.FormattedValue v _ _ _=>v
 |_=>e0
def c1  : Expr->Expr
 |.BinOp _ _ r _=>r
 |.IfExp _ b _ _=>b
 |.Subscript _ s _=>s
 |_=>e0
def c2  : Expr->Expr
 |.IfExp _ _ b _=>b
 |_=>e0
noncomputable def cl  : Expr->List Expr
 |.BoolOp _ vs _=>vs
 |.Compare _ _ vs _=>vs
 |.Call _ vs _ _=>vs
 |.List vs _=>vs
 |.Tuple vs _ _=>vs
 |.Dict _ vs _=>vs
 |.JoinedStr vs _=>vs
 |_=>[]
noncomputable def kk  : Expr->Nat
 |.Constant _ k _=>k
 |.Tuple _ k _=>k
 |_=>0
def oe  : Option Expr->Expr
 |some e=>e
 |none=>e0
def dk  : Expr->List Expr
 |.Dict ks _ _=>ks.map oe
 |_=>[]
def gen1  : Expr->Ydp
 |.ListComp _ (g::_) _ _=>g
 |_=>⟨e0,e0,[],0⟩
noncomputable def scp  : Expr->Scope
 |.ListComp _ _ s _=>s
 |_=>⟨.module,[],false,false,[]⟩
def s0  : Expr->Expr
 |.Slice (some e) _ _ _=>e
 |_=>e0
def s1  : Expr->Expr
 |.Slice _ (some e) _ _=>e
 |_=>e0
def s2  : Expr->Expr
 |.Slice _ _ (some e) _=>e
 |_=>e0
noncomputable def nmA  (c:Ctx)(i:Nat):Str:=c.N.getD i ""
noncomputable def boU  : Bool->PySem.BoolOp
 |true=>.And
 |false=>.Or
noncomputable def jb1  : Es->Nat
 |.nil=>0
 |.cons _ es=>jb1 es+1
noncomputable def jdZ  : Tgs->Nat
 |.nil=>0
 |.cons _ ts=>jdZ ts+1
noncomputable def isLc  : E->Bool
 |.lc ..=>true
 |_=>false
def cc  (c:Ctx)(pick:List (Option Nat))(h:Expr):Ctx:=⟨jiK (gen1 h).target++(pick.filterMap id).filterMap (λj=>c.N[j]?),(scp h).names⟩
mutual
noncomputable def unTg (c:Ctx):Tg->Expr->Expr
 |.n i,h=>.Name (nmA c i) h.pos
 |.t ts,h=>.Tuple (jdX c ts (cl h)) (kk h) h.pos
noncomputable def jdX (c:Ctx):Tgs->List Expr->List Expr
 |.nil,_=>[]
 |.cons t ts,hs=>unTg c t (hd hs)::jdX c ts hs.tail
end
def okN  (c:Ctx)(i:Nat):Bool:=decide (i<c.N.length)&&(kd c (nmA c i) .local||kd c (nmA c i) .cell)
mutual
noncomputable def okTg (c:Ctx):Tg->Bool
 |.n i=>okN c i
 |.t ts=>jjv c ts
noncomputable def jjv (c:Ctx):Tgs->Bool
 |.nil=>true
 |.cons t ts=>okTg c t&&jjv c ts
end
section
variable (T:Tab)
noncomputable def fnN (n:Nat):Str:=match T.funs[n]? with
 |some d=>d.name
 |none => ""
mutual
noncomputable def unE (c:Ctx):E->Expr->Expr
 |.v i,h=>.Name (nmA c i) h.pos
 |.non,h=>.Constant .none (kk h) h.pos
 |.bl b,h=>.Constant (.bool b) (kk h) h.pos
 |.int i,h=>.Constant (.int i) (kk h) h.pos
 |.str x,h=>.Constant (.str x) (kk h) h.pos
 |.g n,h=>.Name (T.gn.getD n "") h.pos
 |.ty n,h=>.Name (Ya3 n) h.pos
 |.bin o a b,h=>.BinOp (unE c a (c0 h)) o (unE c b (c1 h)) h.pos
 |.neg a,h=>.UnaryOp .USub (unE c a (c0 h)) h.pos
 |.not a,h=>.UnaryOp .Not (unE c a (c0 h)) h.pos
 |.bop k a es,h=>.BoolOp (boU k) (unE c a (hd (cl h))::unEs c es (cl h).tail) h.pos
 |.cmp o a b,h=>.Compare (unE c a (c0 h)) [o] [unE c b (hd (cl h))] h.pos
 |.cmp2 o p a b d,h=>.Compare (unE c a (c0 h)) [o,p] [unE c b (hd (cl h)),unE c d (hd (cl h).tail)] h.pos
 |.tup es,h=>.Tuple (unEs c es (cl h)) (kk h) h.pos
 |.lst es,h=>.List (unEs c es (cl h)) h.pos
 |.dic es,h=>.Dict (unK c es (dk h)) (unV c es (cl h)) h.pos
 |.ix a b,h=>.Subscript (unE c a (c0 h)) (unE c b (c1 h)) h.pos
 |.sl a lo hi,h=>.Subscript (unE c a (c0 h)) (.Slice (unO c lo (s0 (c1 h))) (unO c hi (s1 (c1 h))) none (c1 h).pos) h.pos
 |.rev a b,h=>.Subscript (unE c a (c0 h)) (.Slice none none (some (unE c b (s2 (c1 h)))) (c1 h).pos) h.pos
 |.call n es,h=>.Call (.Name (fnN T n) (c0 h).pos) (unEs c es (cl h)) [] h.pos
 |.blt b es,h=>.Call (.Name (bltN b) (c0 h).pos) (unEs c es (cl h)) [] h.pos
 |.meth m o es,h=>.Call (.Attribute (unE c o (c0 (c0 h))) (mthN m) (c0 h).pos) (unEs c es (cl h)) [] h.pos
 |.lc pick t it ifs d,h=>.ListComp (unE (cc c pick h) d (c0 h)) [⟨unTg (cc c pick h) t (gen1 h).target,unI c it (gen1 h).iter,unEs (cc c pick h) ifs (gen1 h).ifs,0⟩] (scp h) h.pos
 |.nset d,h=>.Call (.Name "len" (c0 h).pos) [.Call (.Name "set" (c0 (hd (cl h))).pos) [unE c d (hd (cl (hd (cl h))))] [] (hd (cl h)).pos] [] h.pos
 |.mkL d,h=>.Call (.Name "list" (c0 h).pos) [unE c d (hd (cl h))] [] h.pos
 |.mkT d,h=>.Call (.Name "tuple" (c0 h).pos) [unE c d (hd (cl h))] [] h.pos
noncomputable def unO (c:Ctx):Eo->Expr->Option Expr
 |.no,_=>none
 |.so d,h=>some (unE c d h)
noncomputable def unEs (c:Ctx):Es->List Expr->List Expr
 |.nil,_=>[]
 |.cons d es,hs=>unE c d (hd hs)::unEs c es hs.tail
noncomputable def unK (c:Ctx):Es->List Expr->List (Option Expr)
 |.cons d (.cons _ es),hs=>some (unE c d (hd hs))::unK c es hs.tail
 |_,_=>[]
noncomputable def unV (c:Ctx):Es->List Expr->List Expr
 |.cons _ (.cons d es),hs=>unE c d (hd hs)::unV c es hs.tail
 |_,_=>[]
noncomputable def unF (c:Ctx):Es->List Expr->List Expr
 |.nil,_=>[]
 |.cons d es,hs=>(match d with
  |.str x=>.Constant (.str x) (kk (hd hs)) (hd hs).pos
  |d=>.FormattedValue (unE c d (c0 (hd hs))) (-1) none (hd hs).pos)::unF c es hs.tail
noncomputable def unI (c:Ctx):It->Expr->Expr
 |.e d,h=>unE c d h
 |.r1 d,h=>.Call (.Name "range" (c0 h).pos) [unE c d (hd (cl h))] [] h.pos
 |.s d,h=>unE c d h
end
mutual
noncomputable def okE (c:Ctx):E->Expr->Bool
 |.v i,_=>decide (i<c.N.length)&&(kd c (nmA c i) .local||kd c (nmA c i) .cell||kd c (nmA c i) .free) && !(nmA c i==("__debug__" : Str)) && !(nmA c i==("__classdict__" : Str))
 |.non,_=>true
 |.bl _,_=>true
 |.int _,_=>true
 |.str _,_=>true
 |.g n,_=>decide (n<T.gs.length)&&decide (n<T.gn.length)&&glo c (T.gn.getD n "")
 |.ty n,_=>jfZ.contains n&&glo c (Ya3 n)
 |.bin _ a b,h=>okE c a (c0 h)&&okE c b (c1 h)
 |.neg a,h=>okE c a (c0 h)
 |.not a,h=>okE c a (c0 h)
 |.bop _ a es,h=>okE c a (hd (cl h))&&okEs c es (cl h).tail
 |.cmp o a b,h=>okE c a (c0 h)&&okE c b (hd (cl h)) && !behindInMarks o (unE T c b (hd (cl h)))
 |.cmp2 o p a b d,h=>okE c a (c0 h)&&okE c b (hd (cl h))&&okE c d (hd (cl h).tail) && !lastMarks [o,p] [unE T c b (hd (cl h)),unE T c d (hd (cl h).tail)]
 |.tup es,h=>okEs c es (cl h)
 |.lst es,h=>okEs c es (cl h)
 |.dic es,h=>okD c es (dk h) (cl h)&&decide (jb1 es<=30)
 |.ix a b,h=>okE c a (c0 h)&&okE c b (c1 h)
 |.sl a lo hi,h=>okE c a (c0 h)&&okO c lo (s0 (c1 h))&&okO c hi (s1 (c1 h))
 |.rev a b,h=>okE c a (c0 h)&&okE c b (s2 (c1 h))
 |.call n es,h=>decide (n<T.funs.length)&&glo c (fnN T n)&&okEs c es (cl h)
 |.blt b es,h=>decide (0<jb1 es)&&glo c (bltN b)&&okEs c es (cl h)
 |.meth _ o es,h=>okE c o (c0 (c0 h))&&okEs c es (cl h)&&((c0 h).pos.endLine==h.pos.line)&&decide (jb1 es<30)&&jic (unE T c o (c0 (c0 h)))
 |.lc pick t it ifs d,h=>cOkS c (cc c pick h).N pick (scp h)&&(tgS t).all (λi=>(pick[i]?).join.isNone)&&okTg (cc c pick h) t&&okI c t it (gen1 h).iter&&okEs (cc c pick h) ifs (gen1 h).ifs&&decide (jb1 ifs<=1)&&okE (cc c pick h) d (c0 h)
 |.nset d,h=>glo c "len" && glo c "set" && okE c d (hd (cl (hd (cl h))))
 |.mkL d,h=>glo c "list" && okE c d (hd (cl h))
 |.mkT d,h=>glo c "tuple" && okE c d (hd (cl h))
noncomputable def okO (c:Ctx):Eo->Expr->Bool
 |.no,_=>true
 |.so d,h=>okE c d h
noncomputable def okEs (c:Ctx):Es->List Expr->Bool
 |.nil,_=>true
 |.cons d es,hs=>okE c d (hd hs)&&okEs c es hs.tail
noncomputable def okD (c:Ctx):Es->List Expr->List Expr->Bool
 |.nil,_,_=>true
 |.cons d (.cons f es),hs,gs=>okE c d (hd hs)&&okE c f (hd gs)&&okD c es hs.tail gs.tail
 |.cons _ .nil,_,_=>false
noncomputable def okF (c:Ctx):Es->List Expr->Bool
 |.nil,_=>true
 |.cons d es,hs=>(match d with
  |.str x=>decide (x.length<=10000)
  |d=>okE c d (c0 (hd hs)))&&okF c es hs.tail
noncomputable def okI (c:Ctx)(t:Tg):It->Expr->Bool
 |.e d,h=>okE c d h
 |.r1 d,h=>glo c "range" && okE c d (hd (cl h))
 |.s d,h=>okE c d h
end
noncomputable def jh6  (ts:List Expr):Nat:=(ts.head?.map (·.pos.line)).getD 0
def jak  (c:Ctx)(ts:List Expr):List Str:=ts.filterMap fun
  |.Name id pos=>if c.sc.lookup id==some .local&&pos.line==jh6 ts then some id else none
  |_=>none
noncomputable def jfm  : Expr->Bool
 |.Starred ..=>true
 |_=>false
def swapped  (c:Ctx)(ts vs:List Expr):Bool:=
 (ts.length==2||ts.length==3)&&vs.length==ts.length && !(vs.any jfm)&&(jak c ts).length==ts.length&&(jak c ts).eraseDups.length==(jak c ts).length && !(vs.all (YeB 8)) && !(vs.all (constantsAlone 8))
def jcj  (c:Ctx)(ts vs:List Expr):Bool:=
 !(ts.length==2||ts.length==3)||vs.length != ts.length||(!(vs.any jfm)&&((jak c ts).length != ts.length||(jak c ts).eraseDups.length != (jak c ts).length||vs.all (YeB 8)))
noncomputable def lcSw  (c:Ctx)(y:Str)(py p:Pos)(s:Scope):Bool:=c.sc.lookup y==some .local&&py.line==p.line && !(s.names.any λ(n,k)=>n==y&&(k == .local||k == .cell))
def q0  : Stmt->Expr
 |.Expr e _=>e
 |.Assign _ e _=>e
 |.Return (some e) _=>e
 |.AugAssign _ _ e _=>e
 |.If e _ _ _=>e
 |.While e _ _ _=>e
 |.For _ e _ _ _=>e
 |_=>e0
def q1  : Stmt->Expr
 |.Assign (t::_) _ _=>t
 |.AugAssign t _ _ _=>t
 |.For t _ _ _ _=>t
 |_=>e0
noncomputable def qa  : Stmt->List Stmt
 |.Try a _ _ _ _=>a
 |.If _ a _ _=>a
 |.While _ a _ _=>a
 |.For _ _ a _ _=>a
 |_=>[]
noncomputable def qb  : Stmt->List Stmt
 |.If _ _ b _=>b
 |_=>[]
noncomputable def qh  : List Stmt->Stmt
 |[]=>.Pass ⟨0,0,0,0⟩
 |s::_=>s
noncomputable def unNs  (c:Ctx):List Nat->List Expr->List Expr
 |[],_=>[]
 |i::is,hs=>.Name (nmA c i) (hd hs).pos::unNs c is hs.tail
section
variable (c:Ctx)(n:Nat)
end
section
variable (cs:List Nat)(c:Ctx)
end
mutual
noncomputable def unS (c:Ctx):S->Stmt->Stmt
 |.expr d,h=>.Expr (unE T c d (q0 h)) h.pos
 |.asg t d,h=>.Assign [unTg c t (q1 h)] (unE T c d (q0 h)) h.pos
 |.asgC i d,h=>.Assign [.Name (nmA c i) (q1 h).pos] (unE T c d (q0 h)) h.pos
 |.setS o i d,h=>.Assign [.Subscript (unE T c o (c0 (q1 h))) (unE T c i (c1 (q1 h))) (q1 h).pos] (unE T c d (q0 h)) h.pos
 |.par is es,h=>.Assign [.Tuple (unNs c is (cl (q1 h))) (kk (q1 h)) (q1 h).pos] (.Tuple (unEs T c es (cl (q0 h))) (kk (q0 h)) (q0 h).pos) h.pos
 |.ite t a b,h=>.If (unE T c t (q0 h)) (unSs c a (qa h)) (unSs c b (qb h)) h.pos
 |.fr t it b,h=>.For (unTg c t (q1 h)) (unI T c it (q0 h)) (unSs c b (qa h)) [] h.pos
 |.ret d,h=>.Return (some (unE T c d (q0 h))) h.pos
noncomputable def unSs (c:Ctx):Ss->List Stmt->List Stmt
 |.nil,_=>[]
 |.cons s r,hs=>unS c s (qh hs)::unSs c r hs.tail
end
def okA (c:Ctx):Tg->E->Stmt->Bool
 |.n i,.lc ..,_=>!(kd c (nmA c i) .local)
 |.t _,.lc ..,_=>false
 |.t ts,.tup es,h=>jcj c (jdX c ts (cl (q1 h))) (unEs T c es (cl (q0 h)))
 |_,_,_=>true
noncomputable def okNs  (c:Ctx):List Nat->Bool
 |[]=>true
 |i::is=>decide (i<c.N.length)&&kd c (nmA c i) .local && !(is.contains i)&&okNs c is
mutual
noncomputable def okS (c:Ctx):S->Stmt->Bool
 |.expr d,h=>okE T c d (q0 h) && !isLc d
 |.asg t d,h=>okE T c d (q0 h)&&okTg c t&&okA T c t d h
 |.asgC i d,h=>isLc d&&okE T c d (q0 h)&&decide (i<c.N.length)&&lcSw c (nmA c i) (q1 h).pos (q0 h).pos (scp (q0 h))
 |.setS o i d,h=>okE T c d (q0 h)&&okE T c o (c0 (q1 h))&&okE T c i (c1 (q1 h))
 |.par is es,h=>okEs T c es (cl (q0 h))&&okNs c is&&swapped c (unNs c is (cl (q1 h))) (unEs T c es (cl (q0 h)))&&decide (is.length=2)
 |.ite t a b,h=>okE T c t (q0 h)&&okSs c a (qa h)&&okSs c b (qb h)
 |.fr t it b,h=>okTg c t&&okI T c t it (q0 h)&&okSs c b (qa h)
 |.ret d,h=>okE T c d (q0 h)
noncomputable def okSs (c:Ctx):Ss->List Stmt->Bool
 |.nil,_=>true
 |.cons s r,hs=>okS c s (qh hs)&&okSs c r hs.tail
end
end
def lSp  (K:Yac)(t:List U->Gp->K1->KX->Prop):Sp:=λvs H Q0 E0=>∃us G Q E,RUs K H us vs/\HR K H G/\t us G Q E/\(∀w v G' H',RU K H' w v->HR K H' G'->Fr H G H' G'->Q w G'->Q0 v H')/\
 ∀x G' H' C dx,XD K H' C dx x->HR K H' G'->Fr H G H' G'->E x G'->E0 (.ref C) (some dx) H'
def FnU  (P:Program)(w:World)(K:Yac)(mg:Str->Option Value)(base:Heap)(k:Nat)(d:Fun)(t:List U->Gp->K1->KX->Prop):Prop:=
 ∃(f:Addr) (fd:YdY),FnOk P w K mg base (CX1 P w) (k+2) f fd d.ps (lSp K t)/\mg d.name=some (.ref f)/\Yb2 K (.ref f)=true/\Binds K fd d.ps []
noncomputable def jcq  : List Str:=["len", "repr", "min", "max", "sum", "all", "any", "sorted", "int", "str", "isinstance", "range", "enumerate", "list", "tuple", "bool", "dict", "ValueError", "set", "zip"]
structure Cok (T:Tab)(k:Nat)(X:Cx)(c:Ctx):Prop where
 hN:X.N=c.N
 nd:c.N.Nodup
 loc:∀x,kd c x .local=true->X.env.scope.names.lookup x=some .local
 cel:∀x,kd c x .cell=true->X.env.scope.names.lookup x=some .cell/\X.fn x=true
 fre:∀x,kd c x .free=true->X.env.scope.names.lookup x=some .cell\/X.env.scope.names.lookup x=some .free
 glb:∀x,kd c x .globalImplicit=true->Gl X x
 room:Room k X.A
 calm:X.calm=true
 po:YeY (model X.prog X.w) X.A X.env X.xe
 blt:∀x∈jcq,X.mg x=none
 fns:∀(n:Nat) (d:Fun),T.funs[n]?=some d->FnU X.prog X.w X.K X.mg X.base k d (jab T k n)
 gls:∀(n:Nat) (x:Str) (u:U),T.gn[n]?=some x->T.gs[n]?=some u->∃v w,X.mg x=some w/\RelV v w/\∀H,RU X.K H u v
 room2:Room (k+2) X.A
 cls:∀n∈T.cs,1<=n->∃C,XCls X.K (gK X.K) (clsN n) (clsF n) C
 mgK:∀x v,gK X.K x=some v->X.mg x=some v
structure Cos (T:Tab)(k:Nat)(X:Cx)(c:Ctx):Prop extends Cok T k X c where
 sc:X.env.scope.names=c.sc
 kind:X.env.scope.kind=.function
 stk:X.stack=X.env::X.outer/\X.env.frame=some X.env.locals
section
variable {T:Tab}{k:Nat}{X:Cx}{c:Ctx}
def Cok.hu  (h:Cok T k X c):X.A.units+1<cLine:=jm9 h.room
def Cok.vis  (h:Cok T k X c)(v:(kd c x .local||kd c x .cell||kd c x .free)=true):Vis X.env.scope x:=by
 simp only[Yb1]at v;rcases v with(v|v)|v
 ·exact .inl (h.loc x v)
 ·exact .inr (.inl (h.cel x v).1)
 ·rcases h.fre x v with z|z
  ·exact .inr (.inl z)
  ·exact .inr (.inr z)
def Cok.store  (h:Cok T k X c)(v:(kd c x .local||kd c x .cell)=true):Loc X.env.scope x/\(X.fn x=true\/X.env.scope.names.lookup x=some .local):=by
 simp only[Yb1]at v;rcases v with v|v
 ·exact⟨.inl (h.loc x v),.inr (h.loc x v)⟩
 ·exact⟨.inr (h.cel x v).1,.inl (h.cel x v).2⟩
def Cok.gl  (h:Cok T k X c)(v:glo c x=true):Gl X x/\(x==("__debug__" : Str))=false:=by
 unfold glo at v;rw[Yap]at v;exact⟨h.glb x v.1,by lia⟩
end
noncomputable def jek  : Expr->Bool
 |.BoolOp ..|.BinOp ..|.UnaryOp ..|.IfExp ..|.Dict ..|.ListComp ..|.Compare ..|.Call ..|.Constant ..|.Subscript ..|.Name ..|.List ..|.Tuple ..|.JoinedStr ..=>true
 |_=>false
section
variable {T:Tab}{c:Ctx}
def jaz   ir h:jek (unE T c ir h)=true:=by cases ir<;>rfl
def jaB   (h:jek e=true) es env:Yaz (e::es) env=(false,eval e env)::Yaz es env:=by
 cases e<;>first|rfl|cases h
def jjN   (h:jek e=true):je5 e:=by
 intro o i;cases e<;>first|rfl|cases h
def jb2   (h:jek e=true) env:∀x,YaP e env x=pure x:=by
 intro x;cases e<;>first|rfl|cases h
def jiC   it h env:∀x,YaP (unI T c it h) env x=pure x:=by
 cases it with
 |e d=>exact jb2 (jaz d _) env
 |s d=>exact jb2 (jaz d _) env
 |_=>exact λ_=>rfl
def jhL   (h:jek i=true) env tpos:∀v,assign (.Subscript o i tpos) env v=(holding [v] (eval o env) >>= λa=>holding [v,a] (eval i env) >>= λb=>standAt tpos >>= λ_=>holding [v,a,b] (setItem a b v) >>= λ_=>release [v,a,b] []):=by
 intro v;cases i<;>first|rfl|cases h
def jiE   (q:isLc ir=false) h env l:Ycw (unE T c ir h) none l env=pure false:=by
 cases ir<;>first|rfl|cases q
def jiB   (q:isLc ir=false) h tg env l:Ybo [tg] (unE T c ir h) l env=pure false:=by
 cases ir<;>first|rfl|cases q
def jhZ   ir h x y p env l:Ybo [.Subscript x y p] (unE T c ir h) l env=pure false/\Ya6 [.Subscript x y p] (unE T c ir h) env=pure none:=by
 cases ir<;>exact⟨rfl,rfl⟩
def jl4   ir h x p env:Ya6 [.Name x p] (unE T c ir h) env=pure none:=by
 cases ir<;>rfl
def jiD   t h env:(YaZ [unTg c t h] env).map (·.2)=[assign (unTg c t h) env]:=by
 cases t<;>rfl
def jg8   (h:jic o=true) m env w:Ydk o m env w=w:=by
 unfold Ydk;split
 ·cases h
 ·rfl
theorem jcy  : ∀es hs env pos ,(backTo pos (Yaz (unEs T c es hs) env)).any (·.1)=false/\(backTo pos (Yaz (unEs T c es hs) env)).all (λx=>!x.1)=true
 |.nil,_,_,_=>⟨rfl,rfl⟩
 |.cons d es,hs,env,pos=>by
  obtain⟨h1,h2⟩:=jcy es hs.tail env pos;show(backTo pos (Yaz (unE T c d (hd hs)::unEs T c es hs.tail) env)).any (·.1)=false/\(backTo pos (Yaz (unE T c d (hd hs)::unEs T c es hs.tail) env)).all (λx=>!x.1)=true;rw[jaB (jaz d _)];exact⟨by show(false||(backTo pos (Yaz (unEs T c es hs.tail) env)).any (·.1))=false;lia,by show(!false&&(backTo pos (Yaz (unEs T c es hs.tail) env)).all (λx=>!x.1))=true;lia⟩
theorem jfX  : ∀es hs ,(unEs T c es hs).length=jb1 es
 |.nil,_=>rfl
 |.cons _ es,hs=>congrArg (·+ 1) (jfX es hs.tail)
def ba   (h:(a&&b)=true):a=true/\b=true:=by lia
def bn   (h:(!a)=true):a=false:=by lia
def jmV   (h:decide (i<c.N.length)=true):c.N[i]?=some (nmA c i):=by
 unfold nmA
 simp_all
end
theorem jf1  : ∀{ts } {us } {ς } {k },tgsU ts us ς k->us.length=jdZ ts
 |.nil,us,ς,k,h=>by rw[h.1];rfl
 |.cons t ts,us,ς,k,h=>by
  cases us with
  |nil=>exact h.elim
  |cons u r=>
   have:∃ς',tgsU ts r ς' k:=tg_some h;obtain⟨ς',h'⟩:=this;show r.length+1=jdZ ts+1;rw[jf1 h']
where
 tg_some {t:Tg} {u:U} {ς:Sg} {P:Sg->Prop} (h:tgU t u ς P):∃ς',P ς':=by
  have:=jdF (k':=λ_=>∃ς',P ς') h λς' h'=>⟨ς',h'⟩;exact tg_const this
 tg_const:∀{t:Tg} {u:U} {ς:Sg} {P:Prop},tgU t u ς (λ_=>P)->P
  |.n _,_,_,_,h=>h
  |.t ts,u,ς,P,h=>by
   cases u with
   |tup us=>exact tgs_const (ts:=ts) (us:=us) h
   |_=>exact h.elim
 tgs_const:∀{ts:Tgs} {us:List U} {ς:Sg} {P:Prop},tgsU ts us ς (λ_=>P)->P
  |.nil,_,_,_,h=>h.2
  |.cons t ts,us,ς,P,h=>by
   cases us with
   |nil=>exact h.elim
   |cons u r=>exact tg_const (jdF (t:=t) h λς' h'=>tgs_const h')
section
variable {T:Tab}{k:Nat}{X:Cx}{c:Ctx}
theorem jex  : ∀ts hs env ,(YaZ (jdX c ts hs) env).length=jdZ ts/\(YaZ (jdX c ts hs) env).findIdx? (·.1)=none
 |.nil,_,_=>⟨rfl,rfl⟩
 |.cons t ts,hs,env=>by
  obtain⟨h1,h2⟩:=jex ts hs.tail env;have e:YaZ (jdX c (.cons t ts) hs) env=(false,assign (unTg c t (hd hs)) env)::YaZ (jdX c ts hs.tail) env:=by cases t<;>rfl
  rw[e];exact⟨by simp[h1,jdZ],by simp_all⟩
def Cok.nm   (C:Cok T k X c)(h:decide (i<c.N.length)=true):X.N[i]?=some (nmA c i):=by rw[C.hN];exact jmV h
mutual
theorem sTg (C:Cok T k X c):∀(t:Tg) (h:Expr),okTg c t=true->PG X (unTg c t h) (lG X.K (tgU t))
 |.n _,_,q=>let s:=C.store (ba q).2;u_tn (by rw[C.hN];exact C.nd) (C.nm (ba q).1) s.1 s.2
 |.t ts,h,q=>u_tt C.calm (sTgs C ts (cl h) q) (jex ts _ X.env).1 (jex ts _ X.env).2 λus ς k q=>jf1 q
theorem sTgs (C:Cok T k X c):∀(ts:Tgs) (hs:List Expr),jjv c ts=true->PGs X (jdX c ts hs) (lGs X.K (tgsU ts))
 |.nil,_,_=>jl7
 |.cons t ts,hs,q=>jl8 (sTg C t (hd hs) (ba q).1) (sTgs C ts hs.tail (ba q).2) (by cases t<;>rfl)
end
def EB  (X:Cx)(σ:St):XK:=λcls dx H'=>∀(pins:List (Addr×Obj)) (ea:Addr) (s':Shared),Inv X pins σ H' s'->Lies X.s₀.heap.objs.size X.pn H' s'.heap ea cls dx->X.xe (.ref ea) s'
def jgc        {σ:St}(F:FnOk X.prog X.w X.K X.mg X.base (CX1 X.prog X.w) j f fd ps sp)(hr:Room j X.A)(hb:Binds X.K fd ps [])
  (I:Inv X pins σ H s) (r:Vals vs us) (h:sp vs H Q (EB X σ)):wpAny (model X.prog X.w) X.A (call (.ref f) us) (EP X pins σ Q) X.xe s:=by
 have hl:(us++[]).length=ps.length:=by rw[Ycz,<- r.length];exact F.len _ _ _ _ h
 have hbs:=hb s us I.kIn hl;rw[Ycz]at hbs;refine wpAny_call (Ycr (F.run X.A X.stack s H ⟨us,[]⟩ us vs Q (EB X σ) hr I.env0 hbs r h) λr s' hq=>?_);cases r with
 |error e=>
  obtain⟨ea,H',cls,dx,rfl,I',l,q⟩:=CX1.back I hq;exact q pins ea s' I' l
 |ok fl=>
  cases fl with
  |ret u=>exact I.after hq
  |next=>exact YcB hq
  |brk=>exact YcB hq
  |cont=>exact YcB hq
def jf9         {E:KX}(r:RUs X.K H us vs)(hG:HR X.K H G)(h:jab T k n us G Q E)(lv:LV X H G Q Q0)(lx:LX X σ H G E):lSp X.K (jab T k n) vs H Q0 (EB X σ):=
 ⟨us,G,Q,E,r,hG,h,lv,λx G' H' C dx xd hr f q pins ea s' I' l=>lx pins (.ref ea) s' x G' H' I' ⟨ea,C,dx,rfl,l,xd⟩ hr f q⟩
def jkc         (C:Cok T k X c)(hd:T.funs[n]?=some d)(hx:d.name=x)(hg:glo c x=true)(ha:PA X (e::es) (lA X ts))
  (he:Yaz (e::es) X.env=(false,eval e X.env)::Yaz es X.env) (hpl:(backTo pos (Yaz es X.env)).any (·.1)=false) :
  PE X (.Call (.Name x p) (e::es) [] pos) (lE X λς G Q E=>ts ς G (λus G1=>jab T k n us G1 Q E) E):=by
 obtain⟨f,fd,F,hm,hk,hb⟩:=C.fns n d hd;obtain⟨g1,g2⟩:=C.gl hg;rw[hx]at hm;intro pins s σ H Q0 I ⟨ς,G,Q,E,hς,hG,h,lv,lx⟩;refine YbN (jeP I g1 hm ?_ g2);have h':lA X ts σ H λvs H1=>lSp X.K (jab T k n) vs H1 Q0 (EB X σ):=⟨ς,G,_,E,hς,hG,h,λus vs G1 H1 rs hG1 f1 h1=>jf9 rs hG1 h1 (lv.fr f1) (lx.fr f1),lx⟩;refine PySem.W.callWith_K (h₀:=X.base) I.ok.mod.kin hk (thn (ha pos pins s σ H _ I h') λus s1 ⟨vs,H1,I1,r,q⟩=>⟨I1.kIn,?_⟩) he hpl;exact jgc F C.room2 hb I1 r q
def jiH      (C:Cok T k X c)(hd:T.funs[n]?=some d)(hx:d.name=x)(hg:glo c x=true) :
  PE X (.Call (.Name x p) [] [] pos) (lE X λ_ G Q E=>jab T k n [] G Q E):=by
 obtain⟨f,fd,F,hm,hk,hb⟩:=C.fns n d hd;obtain⟨g1,g2⟩:=C.gl hg;rw[hx]at hm;intro pins s σ H Q0 I ⟨ς,G,Q,E,hς,hG,h,lv,lx⟩;refine YbN (jeP I g1 hm ?_ g2);exact PySem.W.callWith_K0 I.kIn hk (jgc (us:=[]) (vs:=[]) F C.room2 hb I .nil (jf9 (show RUs X.K H [] []from rfl) hG h lv lx))
def Cok.comp     (C:Cok T k X c)(h:cOkS c N pick scope=true):CScope X N pick scope/\∀cl A s₀ H₀ fp,Cok T k (jam X N scope cl A s₀ H₀ fp) ⟨N,scope.names⟩:=by
 unfold cOkS at h;simp only[Yap,decide_eq_true_eq]at h;obtain⟨⟨⟨⟨⟨⟨h1,h2⟩,h3⟩,h4⟩,h5⟩,h6⟩,h7⟩:=h;have cells:∀y∈scope.names,y.2=.cell->scope.names.lookup y.1=some .cell:=λy hy hc=>by
  grind
 refine⟨⟨h1,cells,λy hy hl=>?_,λy hy hf=>?_,by lia,λi j x e1 e2=>?_⟩,λcl A s₀ H₀ fp=>?_⟩
 ·grind
 ·have:=YbU.mp h4 y hy;rw[hf]at this;simp only[bne_self_eq_false,Yd0,Yap,Yb1,beq_iff_eq]at this;refine⟨this.1,?_⟩;rcases this.2 with z|z
  ·exact .inl (C.cel _ z).1
  ·exact C.fre _ z
 ·have hz:(N.zip pick)[i]?=some (x,some j):=by rw[List.getElem?_zip_eq_some];exact⟨e1,e2⟩
  have:=YbU.mp h6 _ (YaL hz);rw[C.hN]
  lia
 ·refine⟨rfl,h7,λx z=>?_,λx z=>?_,λx z=>?_,λx z=>?_,C.room,C.calm,YeY.never,C.blt,C.fns,C.gls,C.room2,C.cls,C.mgK⟩
  ·exact jav (by decide) (eq_of_beq z)
  ·exact⟨jav (by decide) (eq_of_beq z),z⟩
  ·exact jaP (eq_of_beq z)
  ·exact glc (eq_of_beq z)
end
end Z

namespace Z
open PySem L2


structure HSt (X:Cx)(n:Nat)(ea C dx:Addr)(x:XV)(σ:St)(H:Hp)(ς:Sg)(G:Gp):Prop where
 sr:SR X.K H ς σ
 hr:HR X.K H G
 en:σ[n]?=some (some (.ref ea))
 xd:XD X.K H C dx x
def hB  (X:Cx)(n:Nat)(ea C dx:Addr)(x:XV)(f:Sg->Option Bool):TE:=λσ H Q=>∃ς G b,HSt X n ea C dx x σ H ς G/\f ς=some b/\∀H',HR X.K H' G->Fr H G H' G->Q (.bl b) H'
def hT  (X:Cx)(n:Nat)(ea C dx:Addr)(x:XV)(f:Sg->Option Bool):TT:=λσ H Q=>∃ς G b,HSt X n ea C dx x σ H ς G/\f ς=some b/\∀H',HR X.K H' G->Fr H G H' G->Q b H'

def hS  (X:Cx)(n:Nat)(ea C dx:Addr)(x:XV)(hs:List HS):L2.TS:=λD σ H=>∃ς G k,HSt X n ea C dx x σ H ς G/\hsH x hs ς G k/\∀ς' σ' G' H',HSt X n ea C dx x σ' H' ς' G'->Fr H G H' G'->k ς' G'->D.nx σ' H'

section
variable {T:Tab}{k:Nat}
def jjB   b:bltN b∈jcq:=by cases b<;>decide
def jke  : ∀n∈jfZ,Ybw (Ya3 n)=some (.type n)/\Ya3 n∈jcq/\Ya3 n ≠ "__name__" := by decide +kernel
abbrev SE  (T:Tab)(k:Nat)(X:Cx)(c:Ctx)(ir:E)(h:Expr):Prop:=PE X (unE T c ir h) (lE X (den T.gs (jab T k) ir).1)/\PT X (unE T c ir h) (lT X (den T.gs (jab T k) ir).2)
section
variable {X:Cx}{c:Ctx}
def tru    (h:PE X e (lE X t))(hp:∀whole,isTrue e X.env whole=(do let v <- whole;standAt e.pos;holding [v] (truthy v))):PE X e (lE X t)/\PT X e (lT X (truT t)):=⟨h,jl9 h hp⟩
def jkv   {rest:List Expr}(ha:PE X a (lE X p.1)/\PT X a (lT X p.2))(hb:PE X (.BoolOp .And (b::rest) pos) (lE X q.1)/\PW X (.BoolOp .And (b::rest) pos) (lT X q.2)) :
  PE X (.BoolOp .And (a::b::rest) pos) (lE X (comb true p q).1)/\PW X (.BoolOp .And (a::b::rest) pos) (lT X (comb true p q).2):=⟨jml ha.1 hb.1,jkd ha.2 hb.2⟩
def jmy   {rest:List Expr}(ha:PE X a (lE X p.1)/\PT X a (lT X p.2))(hb:PE X (.BoolOp .Or (b::rest) pos) (lE X q.1)/\PW X (.BoolOp .Or (b::rest) pos) (lT X q.2)) :
  PE X (.BoolOp .Or (a::b::rest) pos) (lE X (comb false p q).1)/\PW X (.BoolOp .Or (a::b::rest) pos) (lT X (comb false p q).2):=⟨u_or ha.1 hb.1,jmb ha.2 hb.2⟩
def se_v    (C:Cok T k X c)(q:okE T c (.v i) h=true):SE T k X c (.v i) h:=tru (jl5 (C.nm (ba (ba (ba q).1).1).1) (C.vis (ba (ba (ba q).1).1).2) (bn (ba (ba q).1).2) (bn (ba q).2)) λ_=>rfl
def se_g    (C:Cok T k X c)(q:okE T c (.g n) h=true):SE T k X c (.g n) h:=by
 have h1:=of_decide_eq_true (ba (ba q).1).1;have h2:=of_decide_eq_true (ba (ba q).1).2;have hn:T.gn[n]?=some (T.gn.getD n ""):=by simp_all
 obtain⟨v,w,m,r,ru⟩:=C.gls n _ T.gs[n] hn (by simp[h1])
 obtain⟨g1,g2⟩:=C.gl (ba q).2;refine tru (PE.imp (u_gl (u:=T.gs[n]) g1 m r ru g2) λσ H Q0 ⟨ς,G,Q,E,hς,hG,h,lv,lx⟩=>⟨ς,G,Q,E,hς,hG,?_,lv,lx⟩) λ_=>rfl;have h':glU T.gs n λu=>Q u G:=h;unfold glU at h'
 simp_all
def jmx    (C:Cok T k X c)(q:okE T c (.ty n) h=true):SE T k X c (.ty n) h:=by
 obtain⟨g1,g2⟩:=C.gl (ba q).2;obtain⟨t1,t2,t3⟩:=jke n (by simpa using (ba q).1)
 exact tru (u_ty g1 (C.blt _ t2) t1 t3 g2) λ_=>rfl
def jkq     (h1:PPs X h.pos (unK T c es (dk h)) (unV T c es (cl h)) trs)(h2:lD X (denD T.gs (jab T k) es) trs)(h3:(unK T c es (dk h)).all (·.isSome)=true)(h4:(unK T c es (dk h)).length=(unV T c es (cl h)).length)
  (h5:(unK T c es (dk h)).length<=15):SE T k X c (.dic es) h:=by
 refine tru ?_ λ_=>rfl
 match es,h1,h2,h3,h4,h5 with
 |.nil,_,_,_,_,_=>exact PE.imp jj9 λσ H Q0 ⟨ς,G,Q,E,hς,hG,h,lv,lx⟩=>⟨ς,G,Q,E,hς,hG,(show([]:List (Key×U)).length<=15/\newO G (.dK (jc3 [])) Q from h).2,lv,lx⟩
 |.cons _ .nil,_,_,_,_,_=>exact λpins s σ H Q0 I ⟨ς,G,Q,E,hς,hG,h,lv,lx⟩=>(show False from h).elim
 |.cons d (.cons f es),h1,h2,h3,h4,h5=>exact jmh h1 h2 h3 h4 (λz=>nomatch z) h5
def jiW     (C:Cok T k X c)(q:okE T c (.call n es) h=true)(ha:PA X (unEs T c es (cl h)) (lA X (jaY T.gs (jab T k) es))):SE T k X c (.call n es) h:=by
 refine tru ?_ λ_=>rfl;have hn:=of_decide_eq_true (ba (ba q).1).1;have hd':T.funs[n]?=some T.funs[n]:=by simp[hn]
 have hx:T.funs[n].name=fnN T n:=by unfold fnN;rw[hd']
 match es,ha with
 |.nil,_=>exact jiH C hd' hx (ba (ba q).1).2
 |.cons d es,ha=>exact jkc C hd' hx (ba (ba q).1).2 ha (jaB (jaz d _) _ _) (jcy es _ _ _).1
def jkr     (C:Cok T k X c)(q:okE T c (.blt b es) h=true)(ha:PA X (unEs T c es (cl h)) (lA X (jaY T.gs (jab T k) es))):SE T k X c (.blt b es) h:=by
 refine tru ?_ λ_=>rfl;obtain⟨g1,g2⟩:=C.gl (ba (ba q).1).2
 match es,ha,q with
 |.nil,_,q=>exact absurd (of_decide_eq_true (ba (ba q).1).1) (Ybb 0)
 |.cons d es,ha,_=>exact jmj (jlZ C.room C.calm b) g1 (C.blt _ (jjB b)) ha (jaB (jaz d _) _ _) (jcy es _ _ _).1
def jiV      (hu:X.A.units+1<cLine)(q:okE T c (.meth m o es) h=true)(ho:PE X (unE T c o (c0 (c0 h))) (lE X (den T.gs (jab T k) o).1))(ha:PA X (unEs T c es (cl h)) (lA X (jaY T.gs (jab T k) es))):SE T k X c (.meth m o es) h:=by
 refine tru ?_ λ_=>rfl;have h6:=(ba q).2;have h5:=of_decide_eq_true (ba (ba q).1).2;have h4:=(ba (ba (ba q).1).1).2
 match es,ha,h5 with
 |.nil,_,_=>exact jiF (jid hu m) ho (jg8 h6 _ _ _) h4
 |.cons d es,ha,h5=>
  refine jj8 (jid hu m) ho ha (jg8 h6 _ _ _) ?_ h4 (jaB (jaz d _) _ _) (jcy es _ _ _).1;have e:=(jcy (T:=T) (c:=c) (.cons d es) (cl h) X.env h.pos).2;show((backTo h.pos (Yaz (unEs T c (.cons d es) (cl h)) X.env)).all (λx=>!x.1)&&_&&decide ((unEs T c (.cons d es) (cl h)).length+0+0<30))=true;rw[e,jfX];exact decide_eq_true h5
def jks    (h:PT X e (lT X (den T.gs (jab T k) d).2)):PIfs X [e] (lT0 X.K (denC T.gs (jab T k) (.cons d .nil))):=by
 refine PIfs.imp (ji8 (lT0.of h)) λσ H Q0 ⟨ς,G,Q,h1,h2,h3,h4⟩=>⟨ς,G,λb G'=>Q b G',h1,h2,?_,h4⟩;have h3':(den T.gs (jab T k) d).2 ς G (λb G1=>if b=true then Q true G1 else Q false G1) (λ_ _=>False):=h3
 have e:(λ(b:Bool) (G1:Gp)=>if b=true then Q true G1 else Q false G1)=λb G'=>Q b G':=by
  grind
 lia
def jku  : PIfs X [] (lT0 X.K (denC T.gs (jab T k) .nil)):=PIfs.imp ji9 λσ H Q0 ⟨ς,G,Q,h1,h2,h3,h4⟩=>h4 true G H h2 (Fr.refl _ _) h3
theorem jlF  : ∀es hs ,2*(unK T c es hs).length<=jb1 es
 |.nil,_=>Yaa _
 |.cons _ .nil,_=>YaN _
 |.cons _ (.cons _ es),hs=>by
  have:=jlF es hs.tail;show 2*((unK T c es hs.tail).length+1)<=jb1 es+1+1
  lia
def k_le    (h:jb1 es<=30):(unK T c es hs).length<=15:=by
 have:=jlF (T:=T) (c:=c) es hs
 lia
end
mutual
theorem sE:∀(ir:E) {X:Cx} {c:Ctx} {h:Expr},Cok T k X c->okE T c ir h=true->SE T k X c ir h
 |.v _,_,_,_,C,q=>se_v C q
 |.non,_,_,_,_,_=>tru (jb8 (u:=.non) jkV λ_=>rfl) λ_=>rfl
 |.bl b,_,_,_,_,_=>tru (jb8 (u:=.bl b) jmP λ_=>rfl) λ_=>rfl
 |.int i,_,_,_,_,_=>tru (jb8 (u:=.int i) jkY λ_=>rfl) λ_=>rfl
 |.str x,_,_,_,_,_=>tru (jb8 (u:=.str x) jkT λ_=>rfl) λ_=>rfl
 |.g _,_,_,_,C,q=>se_g C q
 |.ty _,_,_,_,C,q=>jmx C q
 |.bin o a b,_,_,_,C,q=>tru (jmk (jk6 o) (sE a C (ba q).1).1 (sE b C (ba q).2).1) λ_=>rfl
 |.neg a,_,_,_,C,q=>tru (jmd (sE a C q).1) λ_=>rfl
 |.not a,_,_,_,C,q=>⟨jmc (sE a C q).1,jj7 (sE a C q).2⟩
 |.bop k a es,_,_,h,C,q=>let r:=sB es k C (sE a C (ba q).1) (ba q).2 h.pos;⟨r.1,r.2.pt⟩
 |.cmp o a b,_,_,_,C,q=>⟨jmi (jdy C.room o) (sE a C (ba (ba q).1).1).1 (sE b C (ba (ba q).1).2).1 (bn (ba q).2),jka (jdy C.room o) (sE a C (ba (ba q).1).1).1 (sE b C (ba (ba q).1).2).1 (bn (ba q).2)⟩
 |.cmp2 o p a b d,_,_,_,C,q=>⟨jkb (jdy C.room o) (jdy C.room p) (sE a C (ba (ba (ba q).1).1).1).1 (sE b C (ba (ba (ba q).1).1).2).1 (sE d C (ba (ba q).1).2).1 (bn (ba q).2),
   PT.imp (jiG (jdy C.room o) (jdy C.room p) (sE a C (ba (ba (ba q).1).1).1).1 (sE b C (ba (ba (ba q).1).1).2).1 (sE d C (ba (ba q).1).2).1 (bn (ba q).2)) λ_ _ _ ⟨ς,G,Q,E,hς,hG,h,lv,lx⟩=>⟨ς,G,Q,E,hς,hG,h,lv,lx⟩⟩
 |.tup es,_,_,_,C,q=>tru (jl6 (sEs es C q)) λ_=>rfl
 |.lst es,_,_,_,C,q=>tru (jmg (sEs es C q)) λ_=>rfl
 |.dic es,_,_,h,C,q=>let ⟨_,h1,h2,h3,h4⟩:=sD es C h.pos (ba q).1;jkq h1 h2 h3 h4 (k_le (of_decide_eq_true (ba q).2))
 |.ix a b,_,_,_,C,q=>tru (u_ix C.hu (sE a C (ba q).1).1 (sE b C (ba q).2).1 (jjN (jaz b _))) λ_=>rfl
 |.sl a lo hi,_,_,_,C,q=>tru (u_sl (sE a C (ba (ba q).1).1).1 (sO lo C (ba (ba q).1).2) (sO hi C (ba q).2)) λ_=>rfl
 |.rev a b,_,_,_,C,q=>tru (jma (sE a C (ba q).1).1 (sE b C (ba q).2).1) λ_=>rfl
 |.call _ es,_,_,_,C,q=>jiW C q (sEs es C (ba q).2)
 |.blt _ es,_,_,_,C,q=>jkr C q (sEs es C (ba q).2)
 |.meth _ o es,_,_,_,C,q=>jiV C.hu q (sE o C (ba (ba (ba (ba q).1).1).1).1).1 (sEs es C (ba (ba (ba (ba q).1).1).1).2)
 |.lc _ t it ifs d,_,_,_,C,q=>let S:=C.comp (ba (ba (ba (ba (ba (ba q).1).1).1).1).1).1
   tru (u_lc C.calm S.1 (sI it t _ _ C (ba (ba (ba (ba q).1).1).1).2).1 (ba (ba (ba (ba (ba (ba q).1).1).1).1).1).2 (λcl A s₀ H₀ fp=>sTg (S.2 cl A s₀ H₀ fp) t _ (ba (ba (ba (ba (ba q).1).1).1).1).2)
    (λcl A s₀ H₀ fp=>sC ifs (S.2 cl A s₀ H₀ fp) (of_decide_eq_true (ba (ba q).1).2) (ba (ba (ba q).1).1).2) (λcl A s₀ H₀ fp=>lE0.of (sE d (S.2 cl A s₀ H₀ fp) (ba q).2).1) (sI it t ⟨[],[]⟩ e0 C (ba (ba (ba (ba q).1).1).1).2).2) λ_=>rfl
 |.nset d,_,_,_,C,q=>tru (jj6 C.calm (C.gl (ba (ba q).1).1).1 (C.blt _ (by decide)) (C.gl (ba (ba q).1).2).1 (C.blt _ (by decide)) (sE d C (ba q).2).1 (jaB (jaz d _) _ _) rfl) λ_=>rfl
 |.mkL d,_,_,_,C,q=>tru (jmf (C.gl (ba q).1).1 (C.blt _ (by decide)) (sE d C (ba q).2).1 (jaB (jaz d _) _ _)) λ_=>rfl
 |.mkT d,_,_,_,C,q=>tru (jme (C.gl (ba q).1).1 (C.blt _ (by decide)) (sE d C (ba q).2).1 (jaB (jaz d _) _ _)) λ_=>rfl
theorem sO:∀(ir:Eo) {X:Cx} {c:Ctx} {h:Expr},Cok T k X c->okO T c ir h=true->PO X (unO T c ir h) (lO X (denO T.gs (jab T k) ir))
 |.no,_,_,_,_,_=>u_no
 |.so d,_,_,_,C,q=>u_so (sE d C q).1
theorem sEs:∀(ir:Es) {X:Cx} {c:Ctx} {hs:List Expr},Cok T k X c->okEs T c ir hs=true->PA X (unEs T c ir hs) (lA X (jaY T.gs (jab T k) ir))
 |.nil,_,_,_,_,_=>jfY
 |.cons d ir,_,_,_,C,q=>jdY (sE d C (ba q).1).1 (sEs ir C (ba q).2) (jaB (jaz d _) _ _)
theorem sB:∀(ir:Es) (b:Bool) {X:Cx} {c:Ctx} {hs:List Expr} {a:Expr} {p:UE×UT},Cok T k X c->PE X a (lE X p.1)/\PT X a (lT X p.2)->okEs T c ir hs=true->∀pos:Pos,
  PE X (.BoolOp (boU b) (a::unEs T c ir hs) pos) (lE X (denB T.gs (jab T k) b p ir).1)/\PW X (.BoolOp (boU b) (a::unEs T c ir hs) pos) (lT X (denB T.gs (jab T k) b p ir).2)
 |.nil,true,_,_,_,_,_,_,ha,_,_=>⟨jh9 ha.1,pw_and1 ha.2⟩
 |.nil,false,_,_,_,_,_,_,ha,_,_=>⟨jh9 ha.1,pw_or1 ha.2⟩
 |.cons d ir,true,_,_,_,_,_,C,ha,q,pos=>jkv ha (sB ir true C (sE d C (ba q).1) (ba q).2 pos)
 |.cons d ir,false,_,_,_,_,_,C,ha,q,pos=>jmy ha (sB ir false C (sE d C (ba q).1) (ba q).2 pos)
theorem sC:∀(ir:Es) {X:Cx} {c:Ctx} {hs:List Expr},Cok T k X c->jb1 ir<=1->okEs T c ir hs=true->PIfs X (unEs T c ir hs) (lT0 X.K (denC T.gs (jab T k) ir))
 |.nil,_,_,_,_,_,_=>jku
 |.cons d .nil,_,_,_,C,_,q=>jks (sE d C (ba q).1).2
 |.cons _ (.cons _ es),_,_,_,_,l,_=>absurd l (by show ¬(jb1 es+1+1<=1);lia)
theorem sD:∀(ir:Es) {X:Cx} {c:Ctx} {hs gs:List Expr},Cok T k X c->(p:Pos)->okD T c ir hs gs=true->∃trs,PPs X p (unK T c ir hs) (unV T c ir gs) trs/\lD X (denD T.gs (jab T k) ir) trs/\(unK T c ir hs).all (·.isSome)=true/\(unK T c ir hs).length=(unV T c ir gs).length
 |.nil,_,_,_,_,_,_,_=>⟨[],ji5,jlz,rfl,rfl⟩
 |.cons d (.cons f ir),_,_,_,_,C,p,q=>let ⟨_,h1,h2,h3,h4⟩:=sD ir C p (ba q).2;⟨_,jhu (sE d C (ba (ba q).1).1).1 (sE f C (ba (ba q).1).2).1 h1,jjE h2,h3,congrArg (·+ 1) h4⟩
 |.cons _ .nil,_,_,_,_,_,_,q=>nomatch q
theorem sI:∀(ir:It) (t:Tg) (ct:Ctx) (ht:Expr) {X:Cx} {c:Ctx} {h:Expr},Cok T k X c->okI T c t ir h=true->PI X (unTg ct t ht) (unI T c ir h) (lI X (denI T.gs (jab T k) ir))/\∀x,YaP (unI T c ir h) X.env x=pure x
 |.e d,_,_,_,_,_,_,C,q=>⟨u_ie (sE d C q).1,jb2 (jaz d _) _⟩
 |.r1 d,_,_,_,_,_,_,C,q=>⟨u_r1 (C.gl (ba q).1).1 (C.blt _ (by decide)) (sE d C (ba q).2).1 (jaB (jaz d _) _ _),λ_=>rfl⟩
 |.s d,_,_,_,_,_,_,C,q=>⟨u_is (sE d C q).1,jb2 (jaz d _) _⟩
end
end

noncomputable def swF  (sb:Bool)(names:List Str)(bk:ScopeKind)(ts vs:List Expr):Sem (Option (List Str)):=
 if (!(ts.length==2||ts.length==3)||vs.length != ts.length||bk != .function)=true then pure none
 else if sb=true then pure none
 else if (names.length != ts.length||names.eraseDups.length != names.length)=true then pure none
 else if vs.all (YeB 8)=true then pure none
 else if vs.all (constantsAlone 8)=true then do unsupported "assign.tuple-of-constant-expressions:order-of-the-stores";pure (some names)
 else pure (some names)
def jdG  (env:Env)(ts:List Expr):List Str:=ts.filterMap fun
  |.Name id pos=>if env.kindOf id==some .local&&pos.line==jh6 ts then some id else none
  |_=>none
def jkj     : Ya6 [.Tuple ts a p] (.Tuple vs b q) env=swF (vs.any jfm) (jdG env ts) env.blockKind ts vs:=by
 have e1:jfm=fun|.Starred ..=>true|_=>false:=by funext e;cases e<;>rfl
 with_unfolding_all rfl
def jfc  (hk:∀x,env.kindOf x=c.sc.lookup x) ts:jdG env ts=jak c ts:=by
 unfold jak jdG;congr 1;funext e;cases e<;>first|rfl|(dsimp only;rw[hk])
def jf7  (hk:∀x,env.kindOf x=c.sc.lookup x)(hb:env.blockKind=.function)(h:jcj c ts vs=true):Ya6 [.Tuple ts a p] (.Tuple vs b q) env=pure none:=by
 rw[jkj,jfc hk,hb];unfold swF;unfold jcj at h;by_cases h1:(!(ts.length==2||ts.length==3)||vs.length != ts.length)=true
 ·rw[if_pos (by rw[h1];rfl)]
 ·have h1':(!(ts.length==2||ts.length==3)||vs.length != ts.length)=false:=by simpa using h1
  rw[h1']at h;rw[if_neg (by rw[h1'];decide)]
  simp only[Yd0,Yap,Yc2]at h;obtain⟨h2,h3⟩:=h;rw[if_neg (by rw[h2];decide)]
  by_cases h4:((jak c ts).length != ts.length||(jak c ts).eraseDups.length != (jak c ts).length)=true
  ·rw[if_pos h4]
  ·rw[if_neg h4];have h4':((jak c ts).length != ts.length||(jak c ts).eraseDups.length != (jak c ts).length)=false:=by simpa using h4
   rw[h4']at h3;rw[if_pos (by simpa using h3)]
def jf6  (hk:∀x,env.kindOf x=c.sc.lookup x)(hb:env.blockKind=.function)(h:swapped c ts vs=true):Ya6 [.Tuple ts a p] (.Tuple vs b q) env=pure (some (jak c ts)):=by
 rw[jkj,jfc hk,hb];unfold swF;unfold swapped at h;simp only[Yap,Yc2]at h;obtain⟨⟨⟨⟨⟨⟨h1,h2⟩,h3⟩,h4⟩,h5⟩,h6⟩,h7⟩:=h;have e1:(!(ts.length==2||ts.length==3)||vs.length != ts.length||(YdW != YdW))=false:=by
  have:(vs.length != ts.length)=false:=by simpa using h2
  rw[h1,this];rfl
 rw[if_neg (by rw[e1];decide),if_neg (by rw[h3];decide)]
 have e2:((jak c ts).length != ts.length||(jak c ts).eraseDups.length != (jak c ts).length)=false:=by
  have z1:((jak c ts).length != ts.length)=false:=by simpa using h4
  have z2:((jak c ts).eraseDups.length != (jak c ts).length)=false:=by simpa using h5
  rw[z1,z2];rfl
 rw[if_neg (by rw[e2];decide),if_neg (by rw[h6];decide),if_neg (by rw[h7];decide)]
def jhf  (hk:∀x,env.kindOf x=c.sc.lookup x)(hb:env.blockKind=.function)(h:lcSw c y py p s=true) :
  Ycw (.ListComp elt gs s p) (some (.Name y py)) l env=pure true:=by
 unfold lcSw at h;simp only[Yap]at h;unfold Ycw;dsimp only;show(pure (env.blockKind == .function&&env.kindOf y==some .local&&py.line==p.line && !(s.names.any λ(n,k)=>n==y&&(k == .local||k == .cell))):Sem Bool)=pure true
 grind
def jhe  {c: Ctx}(hk:∀x,env.kindOf x=c.sc.lookup x)(h:(c.sc.lookup y==some .local)=false) :
  Ybo [.Name y py] (.ListComp elt gs s p) l env=pure false:=by
 show(pure (env.blockKind == .function&&env.kindOf y==some .local&&py.line==p.line && !(s.names.any λ(n,k)=>n==y&&(k == .local||k == .cell))):Sem Bool)=pure false
 grind
section
variable {T:Tab}{k:Nat}
def Cos.kindOf    (C:Cos T k X c):∀x,X.env.kindOf x=c.sc.lookup x:=λx=>by
 unfold Env.kindOf;rw[C.sc]
def Cos.block    (C:Cos T k X c):X.env.blockKind=.function:=by
 unfold Env.blockKind;rw[C.kind];rfl
theorem jib   : ∀(is:List Nat) hs ,(unNs c is hs).length=is.length
 |[],_=>rfl
 |_::is,hs=>congrArg (·+ 1) (jib is hs.tail)
def sw2     (h:(jak c [.Name x p,.Name y q]).length=2):jak c [.Name x p,.Name y q]=[x,y]:=by
 unfold jak at h ⊢;simp only[Ybh,List.filterMap_nil]at h ⊢;split at h<;>split at h<;>simp_all

def jkm     (C:Cos T k X c)(q:okS T c (.asg t d) h=true)(hs:PE X (unE T c d (q0 h)) (lE X (den T.gs (jab T k) d).1)):PS X (unS T c (.asg t d) h) (lS X (denS T.gs (jab T k) (.asg t d))):=by
 have hg:=sTg C.toCok t (q1 h) (ba (ba q).1).2;have q3:=(ba q).2;have fin:Ybo [unTg c t (q1 h)] (unE T c d (q0 h)) h.pos.line X.env=pure false/\Ya6 [unTg c t (q1 h)] (unE T c d (q0 h)) X.env=pure none:=by
  cases t with
  |n i=>
   refine⟨?_,jl4 d _ _ _ _⟩;by_cases hl:isLc d=true
   ·cases d with
    |lc=>exact jhe C.kindOf (bn q3)
    |_=>cases hl
   ·exact jiB (by lia) _ _ _ _
  |t ts=>
   cases d with
   |lc=>cases q3
   |tup es=>exact⟨rfl,jf7 C.kindOf C.block q3⟩
   |_=>exact⟨rfl,rfl⟩
 exact s_asg hs hg fin.1 fin.2 (jiD t _ _)
def jkl     (C:Cos T k X c)(q:okS T c (.par is es) h=true)(ha:PA X (unEs T c es (cl (q0 h))) (lA X (jaY T.gs (jab T k) es))):PS X (unS T c (.par is es) h) (lS X (denS T.gs (jab T k) (.par is es))):=by
 have h3:=(ba (ba q).1).2;have h2:=(ba (ba (ba q).1).1).2;have hsw:=jf6 (a:=kk (q1 h)) (b:=kk (q0 h)) (p:=(q1 h).pos) (q:=(q0 h).pos) C.kindOf C.block h3;unfold swapped at h3;simp only[Yap,Yb1,beq_iff_eq]at h3;obtain⟨⟨⟨⟨⟨⟨_,l2⟩,_⟩,l4⟩,_⟩,_⟩,_⟩:=h3;rw[jfX,jib]at l2;have l1:is.length=2:=of_decide_eq_true (ba q).2;have nd:X.N.Nodup:=by rw[C.hN];exact C.nd
 match is,es,l1,l2,l4,hsw,h2,ha with
 |[i,j],.cons a (.cons b .nil),_,_,l4,hsw,h2,ha=>
  have u1:=ba h2;have u2:=ba u1.2;refine s_par2 C.calm nd (C.nm (ba (ba u1.1).1).1) (C.nm (ba (ba u2.1).1).1) (by simp_all) (C.loc _ (ba (ba u1.1).1).2) (C.loc _ (ba (ba u2.1).1).2) ha ?_ rfl
  rw[<- sw2 l4];exact hsw
 |[],_,l1,_,_,_,_,_=>exact absurd l1 (by simp)
 |[_],_,l1,_,_,_,_,_=>exact absurd l1 (by simp)
 |_::_::_::_,_,l1,_,_,_,_,_=>exact absurd l1 (by simp)
 |[_,_],.nil,_,l2,_,_,_,_=>exact absurd l2 (by simp[jb1])
 |[_,_],.cons _ .nil,_,l2,_,_,_,_=>exact absurd l2 (by simp[jb1])
 |[_,_],.cons _ (.cons _ (.cons _ _)),_,l2,_,_,_,_=>exact absurd l2 (by simp[jb1])
def jiO     (C:Cos T k X c)(q:okS T c (.asgC i d) h=true):PS X (unS T c (.asgC i d) h) (lS X (denS T.gs (jab T k) (.asgC i d))):=by
 have qd:=(ba (ba (ba q).1).1);have hl:=(ba q).2;have hi:=C.nm (ba (ba q).1).2;have hy:=eq_of_beq (ba (ba hl).1).1;cases d with
 |lc pick t it ifs d=>
  have q1':=qd.2;have S:=C.toCok.comp (ba (ba (ba (ba (ba (ba q1').1).1).1).1).1).1;exact s_lc (by rw[C.hN];exact C.nd) hi (by rw[C.sc];exact hy) C.calm S.1 (sI it t _ _ C.toCok (ba (ba (ba (ba q1').1).1).1).2).1 (ba (ba (ba (ba (ba (ba q1').1).1).1).1).1).2
   (λcl A s₀ H₀ fp=>sTg (S.2 cl A s₀ H₀ fp) t _ (ba (ba (ba (ba (ba q1').1).1).1).1).2) (λcl A s₀ H₀ fp=>sC ifs (S.2 cl A s₀ H₀ fp) (of_decide_eq_true (ba (ba q1').1).2) (ba (ba (ba q1').1).1).2)
   (λcl A s₀ H₀ fp=>lE0.of (sE d (S.2 cl A s₀ H₀ fp) (ba q1').2).1) (jhf C.kindOf C.block hl) (jiC it _ _)
 |_=>cases qd.1
mutual
theorem sS:∀(ir:S) {X:Cx} {c:Ctx} {h:Stmt},Cos T k X c->okS T c ir h=true->PS X (unS T c ir h) (lS X (denS T.gs (jab T k) ir))
 |.expr d,_,_,_,C,q=>s_expr (sE d C.toCok (ba q).1).1 (jiE (bn (ba q).2) _ _ _)
 |.asg _ d,_,_,_,C,q=>jkm C q (sE d C.toCok (ba (ba q).1).1).1
 |.asgC _ _,_,_,_,C,q=>jiO C q
 |.setS o i d,_,_,_,C,q=>s_set C.toCok.hu (sE d C.toCok (ba (ba q).1).1).1 (sE o C.toCok (ba (ba q).1).2).1 (sE i C.toCok (ba q).2).1 (jhZ d _ _ _ _ _ _).1 (jhZ d _ _ _ _ _ 0).2 rfl (jhL (jaz i _) _ _)
 |.par _ es,_,_,_,C,q=>jkl C q (sEs es C.toCok (ba (ba (ba q).1).1).1)
 |.ite t a b,_,_,_,C,q=>s_if (sE t C.toCok (ba (ba q).1).1).2 (sSs a C (ba (ba q).1).2) (sSs b C (ba q).2)
 |.fr t it b,_,_,_,C,q=>s_for C.po C.calm (sI it t _ _ C.toCok (ba (ba q).1).2).1 (sTg C.toCok t _ (ba (ba q).1).1) (sSs b C (ba q).2) (sI it t ⟨[],[]⟩ e0 C.toCok (ba (ba q).1).2).2
 |.ret d,_,_,_,C,q=>s_ret (sE d C.toCok q).1
theorem sSs:∀(ir:Ss) {X:Cx} {c:Ctx} {hs:List Stmt},Cos T k X c->okSs T c ir hs=true->PSs X (unSs T c ir hs) (lS X (jaq T.gs (jab T k) ir))
 |.nil,_,_,_,_,_=>s_nil
 |.cons s r,_,_,_,C,q=>s_cons (t:=denS T.gs (jab T k) s) (u:=jaq T.gs (jab T k) r) (sS s C (ba q).1) (sSs r C (ba q).2)
end
end
def jin  {T:Tab}{n:Nat}(h:T.funs[n]?=some d):(T.funs++T.vf)[n]?=some d:=by
 grind
def jg2  {T:Tab}(hd:(T.funs++T.vf)[n]?=some d){E:KX}(h:jab T (k+1) n us G Q E) :
  us.length=d.ps.length/\jaq T.gs (jab T k) d.body ⟨λ_ G'=>Q .non G',Q,λx _ G'=>E x G'⟩ (jad d.N.length us) G:=by
 have h':(match (T.funs++T.vf)[n]? with|some d=>us.length=d.ps.length/\jaq T.gs (jab T k) d.body ⟨λ_ G'=>Q .non G',Q,λx _ G'=>E x G'⟩ (jad d.N.length us) G|none=>False):=h
 lia
def jkH     (e:a=b)(h:PSs X a t):PSs X b t:=e ▸ h
def jf8       (r:RUs K H us vs):SR K H (jad N.length us) (L2.start N vs):=by
 unfold jad L2.start;refine⟨by simp[r.length],λi u e=>?_⟩
 by_cases hi:i<us.length
 ·rw[Yb9 (by simp_all),YaV]at e
  cases q:us[i]? with
  |none=>simp_all
  |some w=>
   rw[q]at e;have:w=u:=by simpa using e
   subst this;obtain⟨v,ev,rv⟩:=r.get q;have hv:i<vs.length:=by rw[<- r.length];exact hi
   exact⟨v,by rw[Yb9 (by simpa using hv),YaV,ev];rfl,rv⟩
 ·rw[YdA (by simpa using hi),YdX]at e
  split at e<;>cases e
structure PF (T:Tab)(P:Program)(w:World)(K:Yac)(mg:Str->Option Value)(base:Heap)(k:Nat):Prop where
 blt:∀x∈jcq,mg x=none
 fns:∀(n:Nat) (d:Fun),T.funs[n]?=some d->FnU P w K mg base k d (jab T k n)
 gls:∀(n:Nat) (x:Str) (u:U),T.gn[n]?=some x->T.gs[n]?=some u->∃v w,mg x=some w/\RelV v w/\∀H,RU K H u v
 cls:∀n∈T.cs,1<=n->∃C,XCls K (gK K) (clsN n) (clsF n) C
 mgK:∀x v,gK K x=some v->mg x=some v
noncomputable def scB  (N ps:List Str)(sc:Scope):Bool:=
 decide (sc.kind=.function) && !sc.isCoroutine && !sc.isGenerator&&decide N.Nodup&&(N.take ps.length==ps)&&ps.all (λx=>sc.names.lookup x==some .local||sc.names.lookup x==some .cell)&&sc.names.all (λy=>y.2 != .free)
def jkt    (h:scB N ps sc=true):FnScope N ps sc:=by
 unfold scB at h;simp only[Yap,decide_eq_true_eq,Yc2]at h;obtain⟨⟨⟨⟨⟨⟨h1,h2⟩,h3⟩,h4⟩,h5⟩,h6⟩,h7⟩:=h;refine⟨h1,h2,h3,h4,eq_of_beq h5,λx hx=>?_,λy hy=>?_⟩
 ·simp_all
 grind
noncomputable def jdJ  (T:Tab):Nat->List Fun->List Stmt->Bool
 |_,[],[]=>true
 |i,d::ds,st::sts=>scB d.N d.ps (jah st)&&((T.ns.lookup i).isSome||okSs T ⟨d.N,(jah st).names⟩ d.body (jar st))&&jdJ T (i+1) ds sts
 |_,_,_=>false
def jd5  (T:Tab)(all:List Stmt):Nat->List Fun->List Stmt->Prop
 |_,[],_=>True
 |i,d::ds,st::sts=>(match T.ns.lookup i with
  |none=>unSs T ⟨d.N,(jah st).names⟩ d.body (jar st)=jar st
  |some _=>False)/\jd5 T all (i+1) ds sts
 |_,_::_,[]=>False
theorem jcJ {T:Tab}{all:List Stmt}:∀{i:Nat} {ds:List Fun} {sts:List Stmt},jdJ T i ds sts=true->jd5 T all i ds sts->∀{n:Nat} {d:Fun},ds[n]?=some d->∃st,sts[n]?=some st/\scB d.N d.ps (jah st)=true/\(match T.ns.lookup (i+n)with
  |none=>okSs T ⟨d.N,(jah st).names⟩ d.body (jar st)=true/\unSs T ⟨d.N,(jah st).names⟩ d.body (jar st)=jar st
  |some _=>False)
 |_,[],_,_,_,_,_,e=>by simp at e
 |_,_::_,[],h,_,_,_,_=>by unfold jdJ at h;cases h
 |i,d::ds,st::sts,h,g,n,d',e=>by
  unfold jdJ at h;unfold jd5 at g;simp only[Yap]at h;cases n with
  |zero=>
   simp at e;subst e;refine⟨st,rfl,h.1.1,?_⟩;have g1:=g.1;have h1:=h.1.2;rw[Nat.add_zero];cases q:T.ns.lookup i with
   |none=>rw[q]at g1 h1;exact⟨by simpa using h1,g1⟩
   |some z=>rw[q]at g1;exact g1
  |succ n=>
   obtain⟨st',e',q⟩:=jcJ h.2 g.2 (n:=n) (by simpa using e)
   rw[show i+1+n=i+(n+1) by lia]at q
   exact⟨st',by simpa using e',q⟩
noncomputable def je1  (K:Yac)(v:Value)(P:Addr):Bool:=match v with
 |.ref c=>(match K.lookup c with
  |some ⟨.type t,_,.fields vs,_⟩=>t == "code" && (match (vs[11]?:Option Value)with|some (.ref Q)=>Q==P|_=>false)&&(match vs.getD 18 .none with|.str _ _=>true|_=>false)&&(match vs.getD 7 .none with|.int _ _=>true|_=>false)
   && (match vs.getD 9 .none with|.bool _=>true|_=>false)&&(match vs.getD 10 .none with|.int _ _=>true|_=>false)&&c != P
  |_=>false)
 |_=>false
section
variable {T:Tab}{P:Program}{w:World}{K:Yac}{mg:Str->Option Value}{base:Heap}
def jfV  {j n:Nat}{t:List U->Gp->K1->KX->Prop}(hz:∀us G Q E,¬t us G Q E):FnOk P w K mg base (CX1 P w) j f fd ps (lSp K t):=
 ⟨λvs H Q E ⟨_,_,_,_,_,_,h,_⟩=>(hz _ _ _ _ h).elim,λA outer s H args us vs Q E _ _ _ _ ⟨_,_,_,_,_,_,h,_⟩=>(hz _ _ _ _ h).elim⟩
def jfg       (F:L2.Fun K d.name d.name st f fd)(h1:scB d.N d.ps (jah st)=true)(h2:okSs T ⟨d.N,(jah st).names⟩ d.body (jar st)=true)(h3:unSs T ⟨d.N,(jah st).names⟩ d.body (jar st)=jar st)
  (pf:PF T P w K mg base k) (hd:T.funs[n]?=some d):FnOk P w K mg base (CX1 P w) (k+3) f fd d.ps (lSp K (jab T (k+1) n)):=by
 have S:=jkt h1;refine F.okX S (λvs H Q E ⟨us,G,Q',E',r,hG,h,lv,lx⟩=>by rw[<- r.length];exact(jg2 (jin hd) h).1) λcdv A outer s H vs Q E hr hsp=>?_
 obtain⟨us,G,Q',E',r,hG,h,lv,lx⟩:=hsp;obtain⟨hl,h⟩:=jg2 (jin hd) h;refine⟨_,jkH h3 (sSs d.body (k:=k) (c:=⟨d.N,(jah st).names⟩) (hs:=jar st) ⟨⟨rfl,S.nd,λx z=>eq_of_beq z,λx z=>⟨eq_of_beq z,rfl⟩,λx z=>.inr (eq_of_beq z),λx z=>eq_of_beq z,hr.mono (by lia),rfl,jmK,pf.blt,pf.fns,pf.gls,hr,pf.cls,pf.mgK⟩,rfl,S.kind,rfl,rfl⟩ h2),?_⟩
 exact⟨_,_,G,jf8 r,hG,h,⟨λς' σ' G' H' a b c q=>lv .non .non G' H' rfl b c q,λw v G' H' a b c q=>lv w v G' H' a b c q,λpins e s' x ς' σ' G' H' I sr xat hr' f q=>by obtain⟨ea,C0,dx,rfl,l,xd⟩:=xat;exact CX1.out1 I l (lx x G' H' C0 dx xd hr' f q)⟩⟩
abbrev Dyn  (T:Tab)(K:Yac)(mg:Str->Option Value)(sts:List Stmt):Prop:=∀(n:Nat) (d:Fun) (st:Stmt),T.funs[n]?=some d->sts[n]?=some st->∃(f:Addr) (fd:YdY),L2.Fun K d.name d.name st f fd/\mg d.name=some (.ref f)/\Binds K fd d.ps []/\∀z,T.ns.lookup n=some z->je1 K fd.code z.P=true
def ji4  {sts:List Stmt}(hst:jdJ T 0 T.funs sts=true)(heq:jd5 T sts 0 T.funs sts)(dyn:Dyn T K mg sts)(hU:∀t∈tabs,∀t'∈tabs,t.1=t'.1->t=t')(hKb:K.In base)(hB:BmAt mg base)
  (hb:∀x∈jcq,mg x=none) (hg:∀(n:Nat) x u ,T.gn[n]?=some x->T.gs[n]?=some u->∃v w,mg x=some w/\RelV v w/\∀H,RU K H u v) (hc:∀n∈T.cs,1<=n->∃C,XCls K (gK K) (clsN n) (clsF n) C) (hm:∀x v,gK K x=some v->mg x=some v) :
  ∀k ,PF T P w K mg base k:=by
 intro k
 induction k using Nat.strongRecOn with
 |ind k ih=>
  refine⟨hb,λn d hd=>?_,hg,hc,hm⟩;obtain⟨st,e,h1,h2⟩:=jcJ hst heq hd;obtain⟨f,fd,F,m,b,hz⟩:=dyn n d st hd e;refine⟨f,fd,?_,m,F.kp,b⟩;rw[Yej]at h2;cases q:T.ns.lookup n with
  |none=>
   rw[q]at h2;obtain _|k:=k
   ·exact jfV (n:=n) λ_ _ _ _ h=>h
   ·exact jfg F h1 h2.1 h2.2 (ih k (by lia)) hd
  |some z=>rw[q]at h2;exact h2.elim
noncomputable def G0  (a:Addr)(ns:List Int):Gp:=λb=>if b=a then some (.fro (ns.map .int)) else none
theorem jgI   : ∀ns:List Int,RUs K H (ns.map .int) (ns.map V.int)
 |[]=>rfl
 |_::r=>⟨_,_,rfl,rfl,jgI r⟩
def law_sp        (hT:∀t∈tabs,t.1∈tb)(hO:jhY tb H)(fr:H a=some (.frz o (.lst (ns.map V.int))))(h:jab T k n [.loc a] (G0 a ns) (λu _=>u=.bl true) λ_ _=>False) :
  lSp K (jab T k n) [.ref a] H (λv _=>v=.bl true) λ_ _ _=>False:=by
 refine⟨[.loc a],G0 a ns,_,_,⟨_,_,rfl,rfl,rfl⟩,⟨λb mo e=>?_,λt ht=>.inl ?_⟩,h,λw v G' H' r _ _ q=>?_,λ_ _ _ _ _ _ _ _ z=>z.elim⟩
 ·unfold G0 at e;split at e
  ·rename_i z;subst z;cases e;exact⟨o,_,fr,jgI ns⟩
  lia
 ·have:=hO t.1
  grind
 ·subst q;exact r
end

def jfA  {T: Tab}{sts:List Stmt}(F:L2.Fun K d.name d.name st f fd)(hst:jdJ T 0 T.funs sts=true)(heq:jd5 T sts 0 T.funs sts)(dyn:Dyn T K mg sts)(hU:∀t∈tabs,∀t'∈tabs,t.1=t'.1->t=t')(hKb:K.In base)(hB:BmAt mg base)
  (hb:∀x∈jcq,mg x=none) (hg:∀(n:Nat) x u ,T.gn[n]?=some x->T.gs[n]?=some u->∃v w,mg x=some w/\RelV v w/\∀H,RU K H u v) (hc:∀n∈T.cs,1<=n->∃C,XCls K (gK K) (clsN n) (clsF n) C) (hm:∀x v,gK K x=some v->mg x=some v) (hd:T.funs[n]?=some d) (hs:sts[n]?=some st) (hn:T.ns.lookup n=none) :
  FnOk P w K mg base (CX1 P w) (k+2) f fd d.ps (lSp K (jab T k n)):=by
 cases k with
 |zero=>exact jfV (n:=n) λ_ _ _ _ h=>h
 |succ k=>
  obtain⟨st',e,h1,h2⟩:=jcJ hst heq hd;rw[hs]at e;cases e;rw[Yej,hn]at h2;exact jfg F h1 h2.1 h2.2 (ji4 hst heq dyn hU hKb hB hb hg hc hm k) hd

def jna    (h:gK K x=some v):YbH K YaC x=some (some v):=by
 unfold gK at h;cases q:YbH K YaC x with
 |none=>simp_all
 |some o=>simp_all
def jlq    (X:K.In h)(G:h.Ns YaC mg):∀x v,gK K x=some v->mg x=some v:=λ_ _ e=>Ycd X G (jna e)
def jgO     : gup (gup G a o) a u=gup G a u:=by funext b;unfold gup;lia
def Sm  (f:Addr)(G G':Gp):Prop:=∀b o,b≠f->G b=some o->G' b=some o
def Sa  (G G':Gp):Prop:=∀b o,G b=some o->G' b=some o
def Sm.refl    : Sm f G G:=λ_ _ _ h=>h
def Sa.refl   : Sa G G:=λ_ _ h=>h
def Sm.trans    (a:Sm f G G1)(b:Sm f G1 G2):Sm f G G2:=λc o n h=>b c o n (a c o n h)
def Sa.trans   (a:Sa G G1)(b:Sa G1 G2):Sa G G2:=λc o h=>b c o (a c o h)
def Sa.sm    (a:Sa G G'):Sm f G G':=λc o _ h=>a c o h
def Sa.new     (h:G p=none):Sa G (gup G p o):=λc u e=>by
 rw[jbz (λz=>by lia)];exact e
def Sm.put     : Sm f G (gup G f o):=λc u n e=>by rw[jbz n];exact e
def jeL  {G:Gp}(h:G a=some o)(hp:G p=none):p≠a:=λz=>by lia
def New.at     (n:New G p o G'):G' p=some o:=by rw[n.eq];exact jay
def New.sa     (n:New G p o G'):Sa G G':=by rw[n.eq];exact Sa.new n.no
def Put.at     (n:Put G p o G'):G' p=some o:=by rw[n.eq];exact jay
def Put.sm     (n:Put G p o G'):Sm p G G':=by rw[n.eq];exact Sm.put
mutual
noncomputable def pd:U->PyData
 |.non=>.none
 |.bl b=>.bool b
 |.int i=>.int i
 |.str x=>.str x
 |.tup us=>.tuple (pds us)
 |.loc _=>.none
 |.fn _=>.none
 |.ty _=>.none
 |.exc _ _=>.none
 |.own _=>.none
 |.clo _ _=>.none
noncomputable def pds:List U->List PyData
 |[]=>[]
 |u::us=>pd u::pds us
end
mutual
noncomputable def bare:U->Bool
 |.non=>true
 |.bl _=>true
 |.int _=>true
 |.str _=>true
 |.tup us=>bares us
 |.loc _=>false
 |.fn _=>false
 |.ty _=>false
 |.exc _ _=>false
 |.own _=>false
 |.clo _ _=>false
noncomputable def bares:List U->Bool
 |[]=>true
 |u::us=>bare u&&bares us
end
mutual
theorem jnd {G:Gp}:∀{u:U},bare u=true->DU G u (pd u)
 |.non,_=>.non
 |.bl b,_=>.bl b
 |.int i,_=>.int i
 |.str x,_=>.str x
 |.tup _,h=>.tup (jgT h)
 |.loc _,h=>nomatch h
 |.fn _,h=>nomatch h
 |.ty _,h=>nomatch h
 |.exc _ _,h=>nomatch h
 |.own _,h=>nomatch h
 |.clo _ _,h=>nomatch h
theorem jgT {G:Gp}:∀{us:List U},bares us=true->DUs G us (pds us)
 |[],_=>.nil
 |_::_,h=>.cons (jnd (ba h).1) (jgT (ba h).2)
end
theorem jia  : ∀us ,pds us=us.map pd
 |[]=>rfl
 |u::us=>by
  show pd u::pds us=_;rw[jia us];rfl
structure Sml (n:Nat)(u:U):Prop where
 b:bare u=true
 l:(pd u).canLay0=true
 d:(pd u).depth<=n
def Sml.str   (h:∀c∈x.cps.toList,c<128):Sml 0 (.str x):=⟨rfl,by
 show x.cps.all (λc=>decide (c<0x110000))=true;rw[<- Ycs,YbU]
 grind,Yaa _⟩
theorem smls   : ∀{us },(∀u∈us,Sml n u)->bares us=true/\Yes (pds us)=true/\YbA (pds us)<=n
 |[],_=>⟨rfl,rfl,YaN _⟩
 |u::us,h=>by
  obtain⟨h1,h2,h3⟩:=smls λv hv=>h v (Yal _ hv);have hu:=h u Yaw;refine⟨?_,?_,?_⟩
  ·show(bare u&&bares us)=true;rw[hu.b,h1];rfl
  ·show((pd u).canLay0&&Yes (pds us))=true;rw[hu.l,h2];rfl
  ·show max (pd u).depth (YbA (pds us))<=n;exact Nat.max_le.mpr ⟨hu.d,h3⟩
theorem jbi     : ∀{xs } (I:Nat->Sg->Gp->Prop) (_:∀ς G,I xs.length ς G->ok G/\k ς G)
  (_:∀i x ς G K ,xs[i]?=some x->I i ς G->(∀ς' G',I (i+1) ς' G'->K ς' G')->ok G/\b x ς G K) {ς } {G } (_:I 0 ς G),forL ok b xs ς G k
 |[],_,h0,_,_,_,h=>h0 _ _ h
 |x::_,I,h0,h1,_,_,h=>h1 0 x _ _ _ rfl h λ_ _ h'=>jbi (λi=>I (i+1)) h0 (λi y ς G K e hi hk=>h1 (i+1) y ς G K e hi hk) h'
theorem jaG     : ∀{xs } (I:Nat->List U->Gp->Prop) (_:∀acc G,I xs.length acc G->ok G/\k acc G)
  (_:∀i x acc G K ,xs[i]?=some x->I i acc G->(∀u G',I (i+1) (acc++[u]) G'->K (some u) G')->(∀G',I (i+1) acc G'->K none G')->ok G/\b x G K) {acc } {G } (_:I 0 acc G),jck ok b xs acc G k
 |[],_,h0,_,_,_,h=>h0 _ _ h
 |x::_,I,h0,h1,_,_,h=>h1 0 x _ _ _ rfl h (λ_ _ h'=>jaG (λi=>I (i+1)) h0 (λi y a G K e hi hk hn=>h1 (i+1) y a G K e hi hk hn) h') (λ_ h'=>jaG (λi=>I (i+1)) h0 (λi y a G K e hi hk hn=>h1 (i+1) y a G K e hi hk hn) h')
theorem jba       f (hok:ok G):∀{xs } (_:∀x∈xs,∀K ,K (some (f x)) G->b x G K) {acc } (_:k (acc++xs.map f) G),jck ok b xs acc G k
 |[],_,acc,q=>⟨hok,by simpa using q⟩
 |x::xs,hb,acc,q=>⟨hok,hb x Yaw _ (jba f hok (λy hy=>hb y (Yal _ hy)) (by simpa using q))⟩
theorem jbC       f (hok:ok G):∀{xs } (_:∀x∈xs,∀K ,K (f x) G->b x G K) {acc } (_:k (acc++xs.filterMap f) G),jck ok b xs acc G k
 |[],_,acc,q=>⟨hok,by simpa using q⟩
 |x::xs,hb,acc,q=>⟨hok,hb x Yaw _ (jbC f hok (λy hy=>hb y (Yal _ hy)) (by
   grind))⟩
def jaW   i n:(rngU i n).length=n:=by unfold rngU;simp
def jez    (h:(rngU 0 n)[i]?=some x):i<n/\x=.int i:=by
 unfold rngU at h;rw[YaV]at h;by_cases hi:i<n
 ·rw[Yev hi]at h;exact⟨hi,by simpa using h.symm⟩
 ·rw[List.getElem?_eq_none (by simpa using hi)]at h
  cases h
def jc6   (f:α->β)(l:List α) i:atI (l.map f) i=(atI l i).map f:=by
 unfold atI;rw[Yai];cases ixN l.length i with
 |none=>rfl
 |some j=>simp
def jde   (a:α) l:atI (a::l) 0=some a:=jbN (xs:=a::l) (j:=0) rfl
def jjZ   (a b:α) l:atI (a::b::l) 1=some b:=jbN (xs:=a::b::l) (j:=1) rfl
def jnk    a b c d (l:List α):atI (a::b::c::d::l) 3=some d:=jbN (xs:=a::b::c::d::l) (j:=3) rfl
def jdC   {l:List α}{r:Int}(h0:0<=r)(h1:r<l.length):∃x,x∈l/\atI l r=some x:=by
 obtain⟨j,rfl⟩:=YaD h0;have hj:j<l.length:=by lia
 exact⟨l[j],List.getElem_mem hj,jbN (Ybf hj)⟩
noncomputable def fdU  (c:Addr)(a l t:Int):List (Key×U):=[(.inr "cells",.loc c),(.inr "at",.int a),(.inr "left",.int l),(.inr "turn",.int t)]
structure Fd (G:Gp)(f c:Addr):Prop where
 ex:∃(ns:List Int) (a l t:Int),G f=some (.dK (fdU c a l t))/\G c=some (.lst (ns.map .int))/\ns≠[]
def k_ca  : ¬((Sum.inr ("cells" : Str):Key)=Sum.inr ("at" : Str)):=by decide +kernel
def k_cl  : ¬((Sum.inr ("cells" : Str):Key)=Sum.inr ("left" : Str)):=by decide +kernel
def k_ct  : ¬((Sum.inr ("cells" : Str):Key)=Sum.inr ("turn" : Str)):=by decide +kernel
def k_al  : ¬((Sum.inr ("at" : Str):Key)=Sum.inr ("left" : Str)):=by decide +kernel
def k_at  : ¬((Sum.inr ("at" : Str):Key)=Sum.inr ("turn" : Str)):=by decide +kernel
def k_lt  : ¬((Sum.inr ("left" : Str):Key)=Sum.inr ("turn" : Str)):=by decide +kernel

def jjO  : dGet (fdU c a l t) (.inr "cells")=some (.loc c):=by simp[dGet,fdU]
def g_at  : dGet (fdU c a l t) (.inr "at")=some (.int a):=by simp[dGet,fdU,k_ca,-Ybz]
def jlP  : dGet (fdU c a l t) (.inr "left")=some (.int l):=by simp[dGet,fdU,k_cl,k_al,-Ybz]
def jil  : dGet (fdU c a l t) (.inr "turn")=some (.int t):=by simp[dGet,fdU,k_ct,k_at,k_lt,-Ybz]
def jk0   x:dPut (fdU c a l t) (.inr "turn") (.int x)=fdU c a l x:=by simp[dPut,fdU,k_ct,k_at,k_lt,-Ybz]
def p_at   x:dPut (fdU c a l t) (.inr "at") (.int x)=fdU c x l t:=by simp[dPut,fdU,k_ca,Ne.symm k_al,Ne.symm k_at,-Ybz]
def jk1   x:dPut (fdU c a l t) (.inr "left") (.int x)=fdU c a x t:=by simp[dPut,fdU,k_cl,k_al,Ne.symm k_lt,-Ybz]
def jls   : jc3 [((Sum.inr ("cells" : Str):Key),U.loc p),(.inr "at",.int 0),(.inr "left",.int 0),(.inr "turn",.int 0)]=fdU p 0 0 0:=by
 simp[jc3,dPut,fdU,k_ca,k_cl,k_ct,k_al,k_at,k_lt,-Ybz]
def jgQ  : (fdU c a l t).length<Yae:=by show 4<Yae;decide
def Fd.put       (p:Put G f (.dK (fdU c a l t)) G')(h:G f=some (.dK kvs))(hc:G c=some (.lst (ns.map .int)))(hn:ns≠[]):Fd G' f c:=
 ⟨ns,a,l,t,p.at,p.sm _ _ (λz=>by lia) hc,hn⟩
def Fd.sa    (h:Fd G f c)(s:Sa G G'):Fd G' f c:=let ⟨ns,a,l,t,h1,h2,h3⟩:=h.ex;⟨ns,a,l,t,s _ _ h1,s _ _ h2,h3⟩
def Fd.new     (h:Fd G f c)(n:New G p o G'):Fd G' f c:=h.sa n.sa
def Fd.away     (h:Fd G f c)(n:New G p o G'):p≠f/\p≠c:=by
 obtain⟨ns,a,l,t,h1,h2,_⟩:=h.ex;exact⟨jeL h1 n.no,jeL h2 n.no⟩
def Fd.off     (h:Fd G f c)(hp:p≠f/\p≠c)(w:Put G p o G'):Fd G' f c:=let ⟨ns,a,l,t,h1,h2,h3⟩:=h.ex;⟨ns,a,l,t,w.sm _ _ (Ne.symm hp.1) h1,w.sm _ _ (Ne.symm hp.2) h2,h3⟩
def Sm.wr     (s1:Sm f G G1)(n:G1 p=none)(s2:Sm f G G2)(w:Put G2 p o G3):Sm f G G3:=λb u hb e=>w.sm b u (λz=>by
 have:=s1 _ _ hb e
 lia) (s2 b u hb e)
def Sm.nw     (s:Sm f G G1)(n:New G1 p o G2):Sm f G G2:=s.trans n.sa.sm
def D_v         i:(den gs Δ (.v i)).1 ς G Q X=(slot ς i λu=>Q u G):=rfl
def T_v         i:(den gs Δ (.v i)).2 ς G R X=(den gs Δ (.v i)).1 ς G (λx G1=>truU x G1 λb=>R b G1) X:=rfl
def D_non         : (den gs Δ (.non)).1 ς G Q X=(Q .non G):=rfl
def D_bl         b:(den gs Δ (.bl b)).1 ς G Q X=(Q (.bl b) G):=rfl
def D_int         i:(den gs Δ (.int i)).1 ς G Q X=(Q (.int i) G):=rfl
def D_str         x:(den gs Δ (.str x)).1 ς G Q X=(Q (.str x) G):=rfl
def D_g         n:(den gs Δ (.g n)).1 ς G Q X=(glU gs n λu=>Q u G):=rfl
def T_g         n:(den gs Δ (.g n)).2 ς G R X=(den gs Δ (.g n)).1 ς G (λx G1=>truU x G1 λb=>R b G1) X:=rfl
def D_ty         n:(den gs Δ (.ty n)).1 ς G Q X=(Q (.ty n) G):=rfl
def T_ty         n:(den gs Δ (.ty n)).2 ς G R X=(den gs Δ (.ty n)).1 ς G (λx G1=>truU x G1 λb=>R b G1) X:=rfl
def D_bin         o a b:(den gs Δ (.bin o a b)).1 ς G Q X=((den gs Δ a).1 ς G (λx G1=>(den gs Δ b).1 ς G1 (λy G2=>binU o x y G2 Q) X) X):=rfl
def T_bin         o a b:(den gs Δ (.bin o a b)).2 ς G R X=(den gs Δ (.bin o a b)).1 ς G (λx G1=>truU x G1 λb=>R b G1) X:=rfl
def D_neg         a:(den gs Δ (.neg a)).1 ς G Q X=((den gs Δ a).1 ς G (λx G1=>negU x G1 Q) X):=rfl
def D_cmp         o a b:(den gs Δ (.cmp o a b)).1 ς G Q X=((den gs Δ a).1 ς G (λx G1=>(den gs Δ b).1 ς G1 (λy G2=>cmpU o x y G2 λc=>Q (.bl c) G2) X) X):=rfl
def T_cmp         o a b:(den gs Δ (.cmp o a b)).2 ς G R X=(den gs Δ (.cmp o a b)).1 ς G (λx G1=>truU x G1 λb=>R b G1) X:=rfl
def D_cmp2         o p a b c:(den gs Δ (.cmp2 o p a b c)).1 ς G Q X=((den gs Δ a).1 ς G (λx G1=>(den gs Δ b).1 ς G1 (λy G2=>cmpU o x y G2 λt=>if t=true then (den gs Δ c).1 ς G2 (λz G3=>cmpU p y z G3 λt'=>Q (.bl t') G3) X else Q (.bl false) G2) X) X):=rfl
def T_cmp2         o p a b c:(den gs Δ (.cmp2 o p a b c)).2 ς G R X=(den gs Δ (.cmp2 o p a b c)).1 ς G (λx G1=>truU x G1 λb=>R b G1) X:=rfl
def D_tup         es:(den gs Δ (.tup es)).1 ς G Q X=(jaY gs Δ es ς G (λus G1=>us.length<=Yae/\Q (.tup us) G1) X):=rfl
def D_lst         es:(den gs Δ (.lst es)).1 ς G Q X=(jaY gs Δ es ς G (λus G1=>us.length<=Yae/\newO G1 (.lst us) Q) X):=rfl
def D_dic         es:(den gs Δ (.dic es)).1 ς G Q X=(denD gs Δ es ς G (λkvs G1=>kvs.length<=15/\newO G1 (.dK (jc3 kvs)) Q) X):=rfl
def D_ix         a b:(den gs Δ (.ix a b)).1 ς G Q X=((den gs Δ a).1 ς G (λx G1=>(den gs Δ b).1 ς G1 (λy G2=>ixU x y G2 Q) X) X):=rfl
def T_ix         a b:(den gs Δ (.ix a b)).2 ς G R X=(den gs Δ (.ix a b)).1 ς G (λx G1=>truU x G1 λb=>R b G1) X:=rfl
def D_sl         a lo hi:(den gs Δ (.sl a lo hi)).1 ς G Q X=((den gs Δ a).1 ς G (λx G1=>denO gs Δ lo ς G1 (λl G2=>denO gs Δ hi ς G2 (λh G3=>slU x l h G3 Q) X) X) X):=rfl
def D_rev         a b:(den gs Δ (.rev a b)).1 ς G Q X=((den gs Δ a).1 ς G (λx G1=>(den gs Δ b).1 ς G1 (λy G2=>revU x y G2 Q) X) X):=rfl
def D_call         n es:(den gs Δ (.call n es)).1 ς G Q X=(jaY gs Δ es ς G (λus G1=>Δ n us G1 Q X) X):=rfl
def T_call         n es:(den gs Δ (.call n es)).2 ς G R X=(den gs Δ (.call n es)).1 ς G (λx G1=>truU x G1 λb=>R b G1) X:=rfl
def D_blt         b es:(den gs Δ (.blt b es)).1 ς G Q X=(jaY gs Δ es ς G (λus G1=>bltU b us G1 Q) X):=rfl
def T_blt         b es:(den gs Δ (.blt b es)).2 ς G R X=(den gs Δ (.blt b es)).1 ς G (λx G1=>truU x G1 λb=>R b G1) X:=rfl
def D_meth {gs:List U}{Δ:Cl}{ς:Sg}{G:Gp}{Q:K1}{X:KX}(m:Mth)(o:E)(es:Es):(den gs Δ (.meth m o es)).1 ς G Q X=((den gs Δ o).1 ς G (λx G1=>match mtU m x G1 with|some _=>jaY gs Δ es ς G1 (λus G2=>ja7 m x us G2 Q) X|none=>False) X):=rfl
def D_lc         pick t it ifs e:(den gs Δ (.lc pick t it ifs e)).1 ς G Q X=(denI gs Δ it ς G (λxs ok G1=>xs.length<=Yae/\jck ok (λx G2 k=>tgU t x (jcg pick ς) λτ=>denC gs Δ ifs τ G2 (λb G3=>if b=true then (den gs Δ e).1 τ G3 (λu G4=>k (some u) G4) (λ_ _=>False) else k none G3)) xs [] G1 λus G5=>newO G5 (.lst us) Q) X):=rfl
def D_nset         e:(den gs Δ (.nset e)).1 ς G Q X=((den gs Δ e).1 ς G (λx G1=>jfI x G1 Q) X):=rfl
def T_nset         e:(den gs Δ (.nset e)).2 ς G R X=(den gs Δ (.nset e)).1 ς G (λx G1=>truU x G1 λb=>R b G1) X:=rfl
def D_mkL         e:(den gs Δ (.mkL e)).1 ς G Q X=((den gs Δ e).1 ς G (λx G1=>itU x G1 λxs _=>newO G1 (.lst xs) Q) X):=rfl
def D_mkT         e:(den gs Δ (.mkT e)).1 ς G Q X=((den gs Δ e).1 ς G (λx G1=>itU x G1 λxs _=>Q (.tup xs) G1) X):=rfl
def D_not         a:(den gs Δ (.not a)).1 ς G Q X=((den gs Δ a).1 ς G (λx G1=>truU x G1 λb=>Q (.bl (!b)) G1) X):=rfl
def T_not         a:(den gs Δ (.not a)).2 ς G R X=((den gs Δ a).2 ς G (λb G1=>R (!b) G1) X):=rfl
def D_bop0      : den gs Δ (.bop k a .nil)=den gs Δ a:=rfl
def D_and          : (den gs Δ (.bop true a (.cons b es))).1 ς G Q X=(den gs Δ a).1 ς G (λx G1=>truU x G1 λc=>if c=true then (den gs Δ (.bop true b es)).1 ς G1 Q X else Q x G1) X:=rfl
def D_or          : (den gs Δ (.bop false a (.cons b es))).1 ς G Q X=(den gs Δ a).1 ς G (λx G1=>truU x G1 λc=>if c=true then Q x G1 else (den gs Δ (.bop false b es)).1 ς G1 Q X) X:=rfl
def T_and          : (den gs Δ (.bop true a (.cons b es))).2 ς G R X=(den gs Δ a).2 ς G (λc G1=>if c=true then (den gs Δ (.bop true b es)).2 ς G1 R X else R false G1) X:=rfl
def T_or          : (den gs Δ (.bop false a (.cons b es))).2 ς G R X=(den gs Δ a).2 ς G (λc G1=>if c=true then R true G1 else (den gs Δ (.bop false b es)).2 ς G1 R X) X:=rfl
def O_no        : denO gs Δ .no ς G Q X=Q none G:=rfl
def O_so {gs:List U}{Δ:Cl}{ς:Sg}{G:Gp}{X:KX}{Q:Option Int->Gp->Prop}{e:E}:denO gs Δ (.so e) ς G Q X=(den gs Δ e).1 ς G (λx G1=>match x with|.int i=>Q (some i) G1|_=>False) X:=rfl
def A_nil        : jaY gs Δ .nil ς G Q X=Q [] G:=rfl
def A_cons          : jaY gs Δ (.cons e es) ς G Q X=(den gs Δ e).1 ς G (λx G1=>jaY gs Δ es ς G1 (λxs G2=>Q (x::xs) G2) X) X:=rfl
def C_nil       : denC gs Δ .nil ς G Q=Q true G:=rfl
def C_cons         : denC gs Δ (.cons e es) ς G Q=(den gs Δ e).2 ς G (λb G1=>if b=true then denC gs Δ es ς G1 Q else Q false G1) (λ_ _=>False):=rfl
def P_nil        : denD gs Δ .nil ς G Q X=Q [] G:=rfl
def P_cons {gs:List U}{Δ:Cl}{ς:Sg}{G:Gp}{X:KX}{Q:List (Key×U)->Gp->Prop}{e f:E}{es:Es}:denD gs Δ (.cons e (.cons f es)) ς G Q X=(den gs Δ e).1 ς G (λx G1=>(den gs Δ f).1 ς G1 (λy G2=>match kU x with|some k=>denD gs Δ es ς G2 (λkvs G3=>Q ((k,y)::kvs) G3) X|none=>False) X) X:=rfl
def I_e         : denI gs Δ (.e e) ς G Q X=(den gs Δ e).1 ς G (λx G1=>itU x G1 λxs ok=>Q xs ok G1) X:=rfl
def I_r1 {gs:List U}{Δ:Cl}{ς:Sg}{G:Gp}{X:KX}{Q:List U->(Gp->Prop)->Gp->Prop}{e:E}:denI gs Δ (.r1 e) ς G Q X=(den gs Δ e).1 ς G (λx G1=>match x with|.int j=>-(2 ^ 62)<=j/\j<2 ^ 62/\Q (rngU 0 j.toNat) (λ_=>True) G1|_=>False) X:=rfl
def I_s         : denI gs Δ (.s e) ς G Q X=(den gs Δ e).1 ς G (λx G1=>sgU x λxs=>Q xs (λ_=>True) G1) X:=rfl
def F_nil        : denF gs Δ .nil ς G Q X=Q [] G:=rfl
def F_cons          : denF gs Δ (.cons e es) ς G Q X=(den gs Δ e).1 ς G (λx G1=>fpU x λz=>denF gs Δ es ς G1 (λzs G2=>Q (z::zs) G2) X) X:=rfl
def S_expr        : denS gs Δ (.expr e) D ς G=(den gs Δ e).1 ς G (λ_ G1=>D.nx ς G1) λx G1=>D.ex x ς G1:=rfl
def S_asg         : denS gs Δ (.asg t e) D ς G=(den gs Δ e).1 ς G (λu G1=>tgU t u ς λς'=>D.nx ς' G1) λx G1=>D.ex x ς G1:=rfl
def S_asgC         : denS gs Δ (.asgC i e) D ς G=(den gs Δ e).1 ς G (λu G1=>D.nx (ς.set i (some u)) G1) λx G1=>D.ex x ς G1:=rfl
def S_setS        : denS gs Δ (.setS o i e) D ς G=(den gs Δ e).1 ς G (λv G1=>(den gs Δ o).1 ς G1 (λx G2=>(den gs Δ i).1 ς G2 (λy G3=>setU x y v G3 λG4=>D.nx ς G4) (λx G1=>D.ex x ς G1)) (λx G1=>D.ex x ς G1)) (λx G1=>D.ex x ς G1):=rfl
def S_par         : denS gs Δ (.par is es) D ς G=jaY gs Δ es ς G (λus G1=>us.length=is.length/\D.nx ((is.zip us).foldl (λs p=>s.set p.1 (some p.2)) ς) G1) λx G1=>D.ex x ς G1:=rfl
def S_ite         : denS gs Δ (.ite c a b) D ς G=(den gs Δ c).2 ς G (λt G1=>if t=true then jaq gs Δ a D ς G1 else jaq gs Δ b D ς G1) λx G1=>D.ex x ς G1:=rfl
def S_fr          : denS gs Δ (.fr t it b) D ς G=denI gs Δ it ς G (λxs ok G1=>forL ok (λx ς1 G2 k=>tgU t x ς1 λς2=>jaq gs Δ b { D with nx:=k } ς2 G2) xs ς G1 D.nx) λx G1=>D.ex x ς G1:=rfl
def S_ret        : denS gs Δ (.ret e) D ς G=(den gs Δ e).1 ς G D.rt λx G1=>D.ex x ς G1:=rfl
def B_nil       : jaq gs Δ .nil D ς G=D.nx ς G:=rfl
def B_cons         : jaq gs Δ (.cons s r) D ς G=denS gs Δ s { D with nx:=λς' G'=>jaq gs Δ r D ς' G' } ς G:=rfl
def V_add     : binU .Add (.int i) (.int j) G Q=Q (.int (i+j)) G:=rfl
def V_cat     : binU .Add (.tup xs) (.tup ys) G Q=(xs.length+ys.length<=Yae/\Q (.tup (xs++ys)) G):=rfl
def V_catL     : binU .Add (.loc a) (.loc b) G Q=∃xs ys,G a=some (.lst xs)/\G b=some (.lst ys)/\xs.length+ys.length<=Yae/\newO G (.lst (xs++ys)) Q:=rfl
def V_sub     : binU .Sub (.int i) (.int j) G Q=Q (.int (i-j)) G:=rfl
def V_mul     : binU .Mult (.int i) (.int j) G Q=(CMul i j/\Q (.int (i*j)) G):=rfl
def V_mulL      : binU .Mult (.loc a) (.int k) G Q=∃xs,G a=some (.lst xs)/\-(2 ^ 63)<=k/\k<2 ^ 63/\xs.length*k.toNat<=Yae/\newO G (.lst (Yab k.toNat xs).flatten) Q:=rfl
def V_mulT      : binU .Mult (.tup xs) (.int k) G Q=(xs≠[]/\0<=k/\k<2 ^ 62/\xs.length*k.toNat<=Yae/\Q (.tup (Yab k.toNat xs).flatten) G):=rfl
def V_fdiv     : binU .FloorDiv (.int i) (.int j) G Q=(0<j/\j<1073741824/\Q (.int (i/j)) G):=rfl
def V_mod     : binU .Mod (.int i) (.int j) G Q=(0<j/\Q (.int (i%j)) G):=rfl
def V_pow     : binU .Pow (.int i) (.int j) G Q=(CPow i j/\Q (.int (i ^ j.toNat)) G):=rfl
def V_neg     : negU (.int i) G Q=Q (.int (-i)) G:=rfl
def W_eqI     : cmpU .Eq (.int i) (.int j) G k=k (decide (i=j)):=rfl
def W_neI     : cmpU .NotEq (.int i) (.int j) G k=k (!decide (i=j)):=rfl
def W_eqS     : cmpU .Eq (.str i) (.str j) G k=k (decide (i=j)):=rfl
def W_neS     : cmpU .NotEq (.str i) (.str j) G k=k (!decide (i=j)):=rfl
def W_lt     : cmpU .Lt (.int i) (.int j) G k=k (decide (i<j)):=rfl
def W_le     : cmpU .LtE (.int i) (.int j) G k=k (decide (i<=j)):=rfl
def W_gt     : cmpU .Gt (.int i) (.int j) G k=k (decide (j<i)):=rfl
def W_neT     : cmpU .NotEq (.tup xs) (.tup []) G k=k (!xs.isEmpty):=rfl
def W_eqT      : cmpU .Eq (.tup xs) (.tup (y::ys)) G k=eqU (.tup xs) (.tup (y::ys)) G k:=rfl
def W_eqT0     : cmpU .Eq (.tup xs) (.tup []) G k=k xs.isEmpty:=rfl
def W_neL     : cmpU .NotEq (.loc a) (.loc b) G k=eqU (.loc a) (.loc b) G λb=>k (!b):=rfl
def W_eqL     : cmpU .Eq (.loc a) (.loc b) G k=eqU (.loc a) (.loc b) G k:=rfl
def W_in     : cmpU .In x y G k=inU x y G k:=rfl
def W_nin     : cmpU .NotIn x y G k=inU x y G λb=>k (!b):=rfl
def Y_bl     : truU (.bl b) G k=k b:=rfl
def Y_non    : truU .non G k=k false:=rfl
def Y_int     : truU (.int i) G k=k (i != 0):=rfl
def Y_tup     : truU (.tup xs) G k=k (!xs.isEmpty):=rfl
def J_tup     : itU (.tup xs) G k=k xs λ_=>True:=rfl
def X_tup      : slU (.tup xs) lo hi G Q=Q (.tup (cut xs lo hi)) G:=rfl
def F_len     : bltU .len us G Q=lenU us G Q:=rfl
def F_repr     : bltU .repr us G Q=jge us G Q:=rfl
def F_all     : bltU .all us G Q=allU us G Q:=rfl
def F_int     : bltU .int us G Q=intU us G Q:=rfl
def F_str     : bltU .str us G Q=strU us G Q:=rfl
def F_isi     : bltU .isi us G Q=jeS us G Q:=rfl
def X_str      : slU (.str x) lo hi G Q=(x.length<=Yae/\Q (.str (YcE x lo hi)) G):=rfl
def V_addB      : binU .Add (.bl b) (.int j) G Q=Q (.int ((if b=true then (1:Int) else 0)+j)) G:=rfl
def V_subB      : binU .Sub (.bl b) (.int j) G Q=Q (.int ((if b=true then (1:Int) else 0)-j)) G:=rfl
def V_subI      : binU .Sub (.int i) (.bl b) G Q=Q (.int (i-if b=true then (1:Int) else 0)) G:=rfl
def F_lenT     : lenU [.tup xs] G Q=Q (.int xs.length) G:=rfl
def F_min2     : minU [.int i,.int j] G Q=Q (.int (if j<i then j else i)) G:=rfl
def F_max2     : maxU [.int i,.int j] G Q=Q (.int (if j>i then j else i)) G:=rfl
def F_intB     : intU [.bl b] G Q=Q (.int (if b then 1 else 0)) G:=rfl
def F_intI     : intU [.int i] G Q=Q (.int i) G:=rfl
def G_n      : tgU (.n i) u ς k=k (ς.set i (some u)):=rfl
def G_t      : tgU (.t ts) (.tup us) ς k=tgsU ts us ς k:=rfl
def G_nil     : tgsU .nil us ς k=(us=[]/\k ς):=rfl
def G_cons        : tgsU (.cons t ts) (u::r) ς k=tgU t u ς λς'=>tgsU ts r ς' k:=rfl
def sl_0   {ς:Sg}:slot (some u::ς) 0 k=k u:=rfl
def sl_s   {ς:Sg}:slot (o::ς) (i+1) k=slot ς i k:=rfl
def jeC      : putO G a o Q=Q (gup G a o):=propext ⟨λh=>h.at,λh G1 p=>by rw[p.eq];exact h⟩
def ix_t       (h:atI xs i=some u):ixU (.tup xs) (.int i) G Q=Q u G:=by unfold ixU;lia
def ix_l        (g:G a=some (.lst xs))(h:atI xs i=some u):ixU (.loc a) (.int i) G Q=Q u G:=by unfold ixU;lia
def ix_d        (g:G a=some (.dK kvs))(h:dGet kvs (.inr x)=some u):ixU (.loc a) (.str x) G Q=Q u G:=by unfold ixU;dsimp only;rw[g];show(match dGet kvs (.inr x)with|some u=>Q u G|none=>False)=_;rw[h]
def jbh       (g:G a=some (.lst xs))(h0:0<=r)(h1:r<xs.length)(q:∀u∈xs,Q u G):ixU (.loc a) (.int r) G Q:=by
 obtain⟨u,hu,e⟩:=jdC h0 h1;rw[ix_l g e];exact q u hu
def jaS  (zs:List Int){r:Int}(g:G a=some (.lst (zs.map .int)))(h0:0<=r)(h1:r<zs.length)(q:∀z∈zs,Q (.int z) G):ixU (.loc a) (.int r) G Q:=
 jbh g h0 (by simp_all) λu hu=>by
  grind
theorem jcw  : ∀zs ,jc8 (zs.map .str)=some zs
 |[]=>rfl
 |x::r=>by show(match jc8 (r.map .str)with|some l=>some (x::l)|none=>none)=_;rw[jcw r]
def ix_s       (h1:x.length<=Yae)(h:atI x.cps.toList i=some c)(q:Q (.str ⟨#[c]⟩) G):ixU (.str x) (.int i) G Q:=by unfold ixU;lia
def in_l       (g:G a=some (.lst ys))(h1:flat x=true)(h2:ys.all flat=true)(q:k (ys.any λy=>eqF y x)):inU x (.loc a) G k:=by
 cases x<;>first|(cases h1;done)|(unfold inU;lia)
def jgz      (g:G a=some (.lst xs)):lenU [.loc a] G Q=Q (.int xs.length) G:=by unfold lenU;lia
def jmZ      (g:G a=some (.fro xs)):lenU [.loc a] G Q=Q (.int xs.length) G:=by unfold lenU;lia
def it_l      (g:G a=some (.lst xs)):itU (.loc a) G k=k xs λG'=>lsG G' a=some xs:=by unfold itU;dsimp only;have e:lsG G a=some xs:=(by unfold lsG;rw[g]);rw[e]
def jhW       (g:G a=some (.lst xs)):ja7 .append (.loc a) [v] G Q=(xs.length<Yae/\putO G a (.lst (xs++[v])) (Q .non)):=by unfold ja7 je4;dsimp only;rw[g]
def jeh     (g:G a=some (.lst xs)):mtU .append (.loc a) G=some ("list", "list.append"):=by unfold mtU;lia
def jiU        (g:G a=some (.dK kvs)):setU (.loc a) (.str x) v G Q=(kvs.length<Yae/\putO G a (.dK (dPut kvs (.inr x) v)) Q):=by unfold setU;dsimp only;rw[g];rfl
noncomputable def jhO  : Nat->Ss->Ss
 |0,s=>s
 |_+1,.nil=>.nil
 |n+1,.cons _ r=>jhO n r
def dr_0   : jhO 0 s=s:=rfl
def dr_s     : jhO (n+1) (.cons s r)=jhO n r:=rfl
def pk_nil   : jcg [] ς=[]:=rfl
def pk_none    : jcg (none::r) ς=none::jcg r ς:=rfl
def pk_some     : jcg (some j::r) ς=(ς[j]?).join::jcg r ς:=rfl
def K_str   : kU (.str x)=some (.inr x):=rfl
def K_int   : kU (.int i)=some (.inl i):=rfl
def sl_f       (g:G a=some (.fro xs)):slU (.loc a) lo hi G Q=newO G (.lst (cut xs lo hi)) Q:=by unfold slU;dsimp only;have e:lsG G a=some xs:=(by unfold lsG;rw[g]);rw[e]
def jjT   (f:α->β)(xs:List α) lo hi:cut (xs.map f) lo hi=(cut xs lo hi).map f:=by unfold cut;simp_all
def jfr   (xs:List α)(n:Nat):cut xs none (some (n:Int))=xs.take n:=by
 unfold cut;rw[HT.sIx_none,HT.sIx_nat,YdL,Nat.sub_zero,List.take_eq_take_iff]
 lia
def jdQ   (xs:List α)(n:Nat):cut xs (some (n:Int)) none=xs.drop n:=by
 unfold cut;rw[HT.sIx_none,HT.sIx_nat];by_cases h:n<=xs.length
 ·rw[Nat.min_eq_left h,Yd4 (by simp)]
 ·rw[Nat.min_eq_right (by lia),Yd7 (Yaa _),Yd7 (by lia),List.take_nil]
def fx_cells      : ixU (.loc f) (.str "cells") (gup G f (.dK (fdU c a l t))) Q=Q (.loc c) (gup G f (.dK (fdU c a l t))):=ix_d jay jjO
def fx_at      : ixU (.loc f) (.str "at") (gup G f (.dK (fdU c a l t))) Q=Q (.int a) (gup G f (.dK (fdU c a l t))):=ix_d jay g_at
def fx_left      : ixU (.loc f) (.str "left") (gup G f (.dK (fdU c a l t))) Q=Q (.int l) (gup G f (.dK (fdU c a l t))):=ix_d jay jlP
def fx_turn      : ixU (.loc f) (.str "turn") (gup G f (.dK (fdU c a l t))) Q=Q (.int t) (gup G f (.dK (fdU c a l t))):=ix_d jay jil
def fs_at      : setU (.loc f) (.str "at") (.int x) (gup G f (.dK (fdU c a l t))) Q=Q (gup G f (.dK (fdU c x l t))):=by rw[jiU jay,p_at,jeC,jgO];exact propext ⟨λh=>h.2,λh=>⟨jgQ,h⟩⟩
def fs_left      : setU (.loc f) (.str "left") (.int x) (gup G f (.dK (fdU c a l t))) Q=Q (gup G f (.dK (fdU c a x t))):=by rw[jiU jay,jk1,jeC,jgO];exact propext ⟨λh=>h.2,λh=>⟨jgQ,h⟩⟩
end Z

namespace Y
open PySem L2
noncomputable def nO  : Obj:=⟨.none,none,.fields ⟨[]⟩,⟨[]⟩⟩
noncomputable def tO  (v:List Value):Obj:=⟨.type "tuple",none,.seq ⟨v⟩ 0,⟨[]⟩⟩
noncomputable def sO  (c:Value)(v:List Value):Obj:=⟨c,none,.fields ⟨v⟩,⟨[]⟩⟩
noncomputable def rO  (v:List (Option Value)):Obj:=⟨.type "frame",none,.plain,⟨v⟩⟩
noncomputable def gO  (x q:Str)(s:Stmt):Obj:=⟨.none,none,.func { name:=x,qualname:=q,params:=jbj s,body:=.stmts (jar s),scope:=jah s,globals:=0,closure:=[],defaults:=.none,kwdefaults:=.none },⟨[]⟩⟩
noncomputable def fO  (x q:Str)(s:Stmt)(m:Value)(c:Nat):Obj:=⟨.type "function",none,.func (Ybp x q (jbj s) (jar s) (jah s) .none .none .none m none (.ref c) .none),⟨[]⟩⟩
noncomputable def kO  (fi x q:Str)(t:Nat)(l a f:Int)(r:Nat)(b:Bool)(u v w:Value)(z:Nat):Obj:=⟨.type "code",none,.fields ⟨[.str x t,.str q (t+1),.str fi (t+2),.int l 0,.int a 0,.int 0 0,.int 0 0,.int f 0,.ref r,.bool b,.int 181 0,.ref (r+1),.none,u,v,w,.int z 0,.int l 0,.str fi (z+1)]⟩,⟨[]⟩⟩
noncomputable def dE  (P:Params)(x:Str)(t:Nat)(v:Value):DictEntry:=⟨PyData.keyHash P x,.str x t,v⟩
noncomputable def dO  (e:List DictEntry)(n:Nat):Obj:=⟨.type "dict",none,.dict ⟨e⟩ n,⟨[]⟩⟩
def tE  : Obj:=tO []
noncomputable abbrev bE  : Yb6:=.nil
noncomputable abbrev bN  (o:Obj)(l r:Yb6):Yb6:=.node o l r
noncomputable abbrev bL  (o:Obj):Yb6:=.node o .nil .nil
end Y
namespace Z
open PySem L2
noncomputable def argB  (ps:List Str)(a:Arguments):Bool:=a.posonlyargs.isEmpty&&(a.args.map (·.arg)==ps)&&a.vararg.isNone&&a.kwonlyargs.isEmpty&&a.kwarg.isNone
def jlv  : ∀{ps:List Str} {us:List Value},us.length=ps.length->ps.Nodup->(ps.filterMap λn=>((ps.zip us).lookup n).map (n,·))=ps.zip us/\∀n∈ps,((ps.zip us).lookup n).isSome=true:=by
 have key:∀{l:List Str} {vs:List Value} {L:List (Str×Value)},vs.length=l.length->l.Nodup->(∀(i:Nat) n v,l[i]?=some n->vs[i]?=some v->L.lookup n=some v)->(l.filterMap λn=>(L.lookup n).map (n,·))=l.zip vs/\∀n∈l,(L.lookup n).isSome=true:=by
  intro l
  induction l with
  |nil=>simp_all
  |cons x l ih=>
   intro vs L hl nd hL;obtain _|⟨v,vs⟩:=vs
   ·cases hl
   ·have h0:=hL 0 x v rfl rfl;obtain⟨e1,e2⟩:=ih (L:=L) (vs:=vs) (by simp_all) (List.nodup_cons.mp nd).2 λi n v a b=>hL (i+1) n v a b
    refine⟨?_,λn hn=>?_⟩
    ·simp_all
    grind
 intro ps us hl nd;refine key hl nd λi n v a b=>?_;have hz:(ps.zip us)[i]?=some (n,v):=List.getElem?_zip_eq_some.mpr ⟨a,b⟩;have:∀(l:List (Str×Value)),(l.map (·.1)).Nodup->(n,v)∈l->l.lookup n=some v:=by
  intro l
  induction l with
  |nil=>simp_all
  |cons p l ih=>
   intro nd h;obtain⟨m,u⟩:=p;rw[Ybk];by_cases e:n=m
   ·subst e;rw[beq_self_eq_true];rcases Yas.mp h with h|h
    ·cases h;rfl
    ·exact absurd (List.mem_map.mpr ⟨_,h,rfl⟩) (List.nodup_cons.mp nd).1
   ·rw[beq_eq_false_iff_ne.mpr e];rcases Yas.mp h with h|h
    ·cases h;exact absurd rfl e
    ·exact ih (List.nodup_cons.mp nd).2 h
 exact this _ (by rw[List.map_fst_zip (by lia)];exact nd) (YaL hz)
def jg6    (h:argB ps a=true)(nd:ps.Nodup){kV doc pm:Value}(hl:us.length=ps.length) :
  bindArgs (Ybp x q a b sc .none kV doc pm an cdv ct) ⟨us,[]⟩=pure (ps.zip us):=by
 obtain⟨po,as,va,ko,kd,ka,df⟩:=a;unfold argB at h;simp only[Yap,List.isEmpty_iff,Option.isNone_iff_eq_none,beq_iff_eq]at h;obtain⟨⟨⟨⟨rfl,rfl⟩,rfl⟩,rfl⟩,rfl⟩:=h;obtain⟨e1,e2⟩:=jlv hl nd;have e3:(List.filter (λn=>(Yet n ((as.map (·.arg)).zip us)).isNone) (as.map (·.arg)))=[]:=Yd6.mpr λn hn=>by
  have:=e2 n hn
  simp_all
 have e0:seqItems? Ybj=pure none:=rfl;unfold bindArgs;dsimp only;rw[e0];generalize as.map (·.arg)=ns at *;have e4:ns.take (ns.length-0)=ns:=by simp_all
 simp[hl,e1,e3,e4]

abbrev FL:=List (Addr×Addr×Value)
noncomputable def refB  (v:Option (Option Value))(f:Addr):Bool:=match v with
 |some (some (.ref a))=>a==f
 |_=>false
def jkA    (h:refB v f=true):v=some (some (.ref f)):=by
 unfold refB at h
 lia
noncomputable def dynB  (T:Tab)(K:Yac):Nat->FL->List Fun->List Stmt->Bool
 |_,[],[],[]=>true
 |i,x::fs,d::ds,s::ss=>refB (YbH K YaC d.name) x.1&&Yb3 K (.ref x.2.1) d.name&&(match T.ns.lookup i with|none=>true|some z=>je1 K (.ref x.2.1) z.P)&&argB d.ps (jbj s)&&dynB T K (i+1) fs ds ss
 |_,_,_,_=>false
noncomputable def lkR  : FL->List Fun->List Stmt->List (Option Obj)
 |x::fs,d::ds,s::ss=>some (Y.fO d.name d.name s x.2.2 x.2.1)::lkR fs ds ss
 |_,_,_=>[]
theorem jgS  {T:Tab}:∀{i } {fs } {ds } {ss },dynB T K i fs ds ss=true->fs.map (λx=>K.lookup x.1)=lkR fs ds ss->∀{n } {d } {s },ds[n]?=some d->ss[n]?=some s->
  ∃x:Addr×Addr×Value,YbH K YaC d.name=some (some (.ref x.1))/\K.lookup x.1=some (Y.fO d.name d.name s x.2.2 x.2.1)/\Yb3 K (.ref x.2.1) d.name=true/\(∀z,T.ns.lookup (i+n)=some z->je1 K (.ref x.2.1) z.P=true)/\argB d.ps (jbj s)=true
 |_,_,[],_,_,_,_,_,_,e,_=>by simp at e
 |_,_,_::_,[],_,_,_,_,_,_,e=>by simp at e
 |_,[],_::_,_::_,h,_,_,_,_,_,_=>by unfold dynB at h;cases h
 |i,x::fs,d::ds,s::ss,h,g,n,d',s',e1,e2=>by
  unfold dynB at h;simp only[Yap]at h;obtain⟨⟨⟨⟨h1,h2⟩,h3⟩,h4⟩,h5⟩:=h;unfold lkR at g;rw[YaI]at g;injection g with g1 g2
  cases n with
  |zero=>
   cases(Yau e1:d=d');cases(Yau e2:s=s');exact⟨x,jkA h1,g1,h2,λz hz=>by lia,h4⟩
  |succ n=>
   obtain⟨y,q1,q2,q3,q4,q5⟩:=jgS h5 g2 (n:=n) e1 e2;exact⟨y,q1,q2,q3,λz hz=>q4 z (by rw[show i+1+n=i+(n+1) by lia];exact hz),q5⟩
def jkK    (h:scB N ps sc=true):ps.Nodup:=by
 have S:=jkt h;rw[<- S.pre];exact S.nd.sublist (YeO _ _)
def jgC        (h:K.lookup f=some ⟨c,d,.func fd,sl⟩):Yb2 K (.ref f)=true:=by
 unfold Yb2
 lia
section
variable {T:Tab}{K:Yac}{h:Heap}{mg:Str->Option Value}
def jlU   {sts:List Stmt}(X:K.In h)(G:h.Ns YaC mg)(hst:jdJ T 0 T.funs sts=true)(heq:jd5 T sts 0 T.funs sts)(hB:dynB T K 0 fs T.funs sts=true)(hL:fs.map (λx=>K.lookup x.1)=lkR fs T.funs sts):Dyn T K mg sts:=by
 intro n d st h1 h2;obtain⟨x,q1,q2,q3,q4,q5⟩:=jgS hB hL h1 h2;have F:=jim (st:=st) q2 q3 (jgC q2);obtain⟨st',e,hs,_⟩:=jcJ hst heq h1;cases h2.symm.trans e;exact⟨_,_,F,Ycd X G q1,F.binds λ_ _ _ _ _ _ us hl=>jg6 q5 (jkK hs) hl,λz hz=>q4 z (by lia)⟩
def bltB  (K:Yac):Bool:=jcq.all λx=>match YbH K YaC x with
 |some none=>true
 |_=>false
def jl1  (X:K.In h)(G:h.Ns YaC mg)(hb:bltB K=true):∀x∈jcq,mg x=none:=λx hx=>by
 have:=YbU.mp hb x hx;refine PySem.W.mg_none_of X G ?_
 lia
noncomputable def gsB  (K:Yac):List Str->List U->Bool
 |[],[]=>true
 |x::xs,u::us=>(match u,YbH K YaC x with
  |.int i,some (some (.int j _))=>i==j
  |.str i,some (some (.str j _))=>i==j
  |_,_=>false)&&gsB K xs us
 |_,_=>false
theorem jlO  (X:K.In h)(G:h.Ns YaC mg):∀{xs } {us },gsB K xs us=true->∀(n:Nat) x u ,xs[n]?=some x->us[n]?=some u->∃v w,mg x=some w/\RelV v w/\∀H,RU K H u v
 |[],_,_,_,_,_,e,_=>by simp at e
 |_::_,[],_,_,_,_,_,e=>by simp at e
 |x::xs,u::us,hb,n,x',u',e1,e2=>by
  unfold gsB at hb;rw[Yap]at hb;cases n with
  |zero=>
   cases(Yau e1:x=x');cases(Yau e2:u=u');have h1:=hb.1;split at h1
   ·rename_i i j t q;cases eq_of_beq h1;exact⟨.int i,_,Ycd X G q,⟨_,rfl⟩,λ_=>rfl⟩
   ·rename_i i j t q;cases eq_of_beq h1;exact⟨.str i,_,Ycd X G q,⟨_,rfl⟩,λ_=>rfl⟩
   lia
  |succ n=>exact jlO X G hb.2 n x' u' e1 e2
def CsA  (K:Yac):List Nat->Prop
 |[]=>True
 |n::r=>(∃C,XCls K (gK K) (clsN n) (clsF n) C)/\CsA K r
theorem jlY  : ∀{l },CsA K l->∀n∈l,1<=n->∃C,XCls K (gK K) (clsN n) (clsF n) C
 |[],_,_,hn,_=>absurd hn Yao
 |m::r,hc,n,hn,h1=>by
  unfold CsA at hc;rcases Yas.mp hn with rfl|hn
  ·exact hc.1
  ·exact jlY hc.2 n hn h1
def all2  {l:Yc8}{sts:List Stmt}{d:Fun}(X:K.In h)(G:h.Ns YaC mg)(hfa:mg "law" = some (.ref fa))(hst:jdJ T 0 T.funs sts=true)(heq:jd5 T sts 0 T.funs sts)
  (hU:∀t∈tabs,∀t'∈tabs,t.1=t'.1->t=t') (hB:dynB T K 0 fs T.funs sts=true) (hL:fs.map (λx=>K.lookup x.1)=lkR fs T.funs sts) (hb:bltB K=true) (hg:gsB K T.gn T.gs=true) (hc:CsA K T.cs)
  (hd:T.funs[n]?=some d) (hs:sts[n]?=some st) (hn:T.ns.lookup n=none) (hdn:d.name = "law") (hps:d.ps=[("_law_script" : Str)]) :
  ∃fd ,(∀(s:Shared) v ,BindsTo s fd ⟨[v],[]⟩ [("_law_script",v)])/\∀base ,K.In base->base.Ns YaC mg->BmAt mg base->FnOk l.prog w K mg base (CX1 l.prog w) (k+2) fa fd ["_law_script"] (lSp K (jab T k n)):=by
 have dyn:=jlU X G hst heq hB hL;obtain⟨x,q1,q2,q3,q4,q5⟩:=jgS hB hL hd hs;obtain⟨st',e,hsc,_⟩:=jcJ hst heq hd;cases hs.symm.trans e;have F:=jim (st:=st) q2 q3 (jgC q2);rw[hdn]at q1;cases hfa.symm.trans (Ycd X G q1);refine⟨Ybp d.name d.name (jbj st) (jar st) (jah st) .none .none .none x.2.2 none (.ref x.2.1) .none,λs v=>.of_eq ((jg6 (us:=[v]) q5 (jkK hsc) (by rw[hps];rfl)).trans (by rw[hps];rfl)),λbase hKb _ hBm=>?_⟩
 rw[<- hps];exact jfA F hst heq dyn hU hKb hBm (jl1 X G hb) (jlO X G hg) (jlY hc) (jlq X G) hd hs hn
end

section
local macro_rules
 |`(#[])=>`(.nil)
 |`(#[$x])=>`(.cons $x .nil)
 |`(#[$x,$xs,*])=>`(.cons $x #[$xs,*])
noncomputable abbrev jdl  : Nat:=0
noncomputable abbrev jas  : Nat:=1
noncomputable abbrev jbf  : Nat:=2
noncomputable abbrev jby  : Nat:=3
noncomputable abbrev jcO  : Nat:=4
noncomputable abbrev jee  : Nat:=5
noncomputable abbrev jef  : Nat:=6
noncomputable abbrev jdm  : Nat:=7
noncomputable abbrev jcP  : Nat:=8
noncomputable abbrev jbX  : Nat:=9
noncomputable abbrev jdk  : Nat:=10
noncomputable abbrev jaa  : Nat:=11
noncomputable abbrev jbK  : Nat:=12
noncomputable abbrev jbx  : Nat:=13
noncomputable abbrev jaR  : Nat:=14
noncomputable abbrev jdi  : Nat:=15
noncomputable abbrev jbW  : Nat:=16
noncomputable abbrev jdj  : Nat:=17
noncomputable abbrev jcN  : Nat:=18
noncomputable abbrev jaO  : Nat:=19
noncomputable abbrev ja6  : Nat:=20
noncomputable abbrev jal  : Nat:=21
noncomputable abbrev jaN  : Nat:=22
noncomputable abbrev jaA  : Nat:=23
noncomputable abbrev jbU  : Nat:=24
noncomputable abbrev jbV  : Nat:=25
noncomputable abbrev jaF  : Nat:=26
noncomputable abbrev jbw  : Nat:=27
noncomputable abbrev jaE  : Nat:=28
noncomputable abbrev ja5  : Nat:=29
noncomputable abbrev jjz  : Nat:=30
noncomputable def jdw  : Fun:=⟨"is_whole",["thing"],["thing"],#[.ret (.bop true (.blt .isi #[.v 0,.ty "int"]) #[.not (.blt .isi #[.v 0,.ty "bool"])])]⟩
def jcY  : Fun:=⟨"is_within",["thing", "least", "most"],["thing", "least", "most"],#[.ret (.bop true (.call jdl #[.v 0]) #[.cmp2 .LtE .LtE (.v 1) (.v 0) (.v 2)])]⟩
def jcZ  : Fun:=⟨"is_row_of",["thing", "many", "least", "most"],["thing", "many", "least", "most"],#[.ite (.not (.bop true (.blt .isi #[.v 0,.ty "tuple"]) #[.cmp .Eq (.blt .len #[.v 0]) (.v 1)])) #[.ret (.bl false)] .nil,.ret (.blt .all #[.lc [none,some 2,some 3] (.n 0) (.e (.v 0)) .nil (.call jas #[.v 0,.v 1,.v 2])])]⟩
noncomputable def jc0  : Fun:=⟨"is_name",["thing"],["thing"],#[.ite (.not (.bop true (.blt .isi #[.v 0,.ty "str"]) #[.cmp2 .LtE .LtE (.int 1) (.blt .len #[.v 0]) (.g 0)])) #[.ret (.bl false)] .nil,.ret (.blt .all #[.lc [none] (.n 0) (.s (.v 0)) .nil (.cmp2 .LtE .LtE (.str "a") (.v 0) (.str "z"))])]⟩
def jc1  : Fun:=⟨"are_names",["thing"],["thing"],#[.ite (.not (.bop true (.blt .isi #[.v 0,.ty "tuple"]) #[.cmp2 .LtE .LtE (.int 1) (.blt .len #[.v 0]) (.g 1)])) #[.ret (.bl false)] .nil,.ret (.bop true (.blt .all #[.lc [none] (.n 0) (.e (.v 0)) .nil (.call jby #[.v 0])]) #[.cmp .Eq (.nset (.v 0)) (.blt .len #[.v 0])])]⟩
def jcB  : Ss:=#[.ite (.not (.bop true (.call jas #[.v 5,.int 0,.g 2]) #[.call jas #[.v 6,.int 0,.g 2]])) #[.ret (.bl false)] .nil,.ret (.bop false (.cmp .Eq (.v 2) (.str "apart")) #[.cmp .LtE (.v 5) (.v 6)])]
def jcC  : Ss:=(.cons (.ite (.not (.bop true (.call jas #[.v 3,.int 0,.bin .Sub (.v 1) (.int 1)]) #[.call jas #[.v 4,.int 0,.bin .Sub (.v 1) (.int 1)]])) #[.ret (.bl false)] .nil) jcB)
def jcD  : Ss:=(.cons (.ite (.cmp .NotIn (.v 2) (.tup #[.str "span",.str "apart"])) #[.ret (.bl false)] .nil) jcC)
def jcE  : Ss:=(.cons (.asg (.t #[.n 2,.n 3,.n 4,.n 5,.n 6]) (.v 0)) jcD)
def jen  : Fun:=⟨"is_span",["thing", "works"],["thing", "works", "word", "one", "other", "low", "high"],(.cons (.ite (.not (.bop true (.blt .isi #[.v 0,.ty "tuple"]) #[.cmp .Eq (.blt .len #[.v 0]) (.int 5)])) #[.ret (.bl false)] .nil) jcE)⟩
def jcF  : Ss:=#[.ret (.blt .all #[.lc [none,some 1] (.n 0) (.e (.v 2)) .nil (.call jee #[.v 0,.blt .len #[.v 1]])])]
def jcG  : Ss:=(.cons (.ite (.not (.bop true (.call jcO #[.v 1]) #[.blt .isi #[.v 2,.ty "tuple"],.cmp .LtE (.blt .len #[.v 2]) (.g 3)])) #[.ret (.bl false)] .nil) jcF)
def jcH  : Ss:=(.cons (.asg (.t #[.n 1,.n 2]) (.v 0)) jcG)
def jeo  : Fun:=⟨"is_plan",["thing"],["thing", "names", "spans"],(.cons (.ite (.not (.bop true (.blt .isi #[.v 0,.ty "tuple"]) #[.cmp .Eq (.blt .len #[.v 0]) (.int 2)])) #[.ret (.bl false)] .nil) jcH)⟩
def jdx  : Fun:=⟨"is_round",["thing"],["thing"],#[.ret (.call jas #[.v 0,.int 1,.g 4])]⟩
def jc2  : Fun:=⟨"are_beats",["plan", "period", "thing"],["plan", "period", "thing"],#[(.ret (.call jbf #[.v 2,.blt .len #[.ix (.v 0) (.int 0)],.int 0,.bin .Sub (.v 1) (.int 1)]))]⟩
def jb6  : Fun:=⟨"are_weights",["plan", "thing"],["plan", "thing"],#[(.ret (.call jbf #[.v 1,.blt .len #[.ix (.v 0) (.int 1)],.int 0,.g 5]))]⟩
noncomputable def jdt  : Fun:=⟨"_law_feed",["_law_script"],["_law_script"],#[(.ret (.dic #[.str "cells",.bin .Add (.mkL (.sl (.v 0) .no (.so (.int 63)))) (.bin .Mult (.lst #[.int 0]) (.blt .int #[.cmp .Eq (.blt .len #[.v 0]) (.int 0)])),.str "at",.int 0,.str "left",.int 0,.str "turn",.int 0]))]⟩
noncomputable def jdu  : Fun:=⟨"_law_draw",["_law_feed_here", "_law_many"],["_law_feed_here", "_law_many", "_law_cell", "_law_mixed", "_law_found"],#[.setS (.v 0) (.str "turn") (.bin .Add (.ix (.v 0) (.str "turn")) (.int 1)),(.ite (.cmp .Eq (.ix (.v 0) (.str "left")) (.int 0)) #[.asg (.n 2) (.ix (.ix (.v 0) (.str "cells")) (.bin .Mod (.ix (.v 0) (.str "at")) (.blt .len #[.ix (.v 0) (.str "cells")]))),.setS (.v 0) (.str "at") (.bin .Add (.ix (.v 0) (.str "at")) (.int 1)),.ite (.cmp .Lt (.v 2) (.bin .Pow (.int 10) (.int 18))) #[.asg (.n 3) (.bin .Mod (.bin .Mult (.bin .Add (.bin .Mod (.v 2) (.int 2147483629)) (.bin .Mult (.int 1019) (.ix (.v 0) (.str "turn")))) (.int 48271)) (.int 2147483647)),.asg (.n 3) (.bin .Mod (.bin .Mult (.bin .Add (.bin .FloorDiv (.v 3) (.int 13)) (.bin .Mult (.int 43) (.ix (.v 0) (.str "turn")))) (.int 69621)) (.int 2147483587)),.ret (.bin .Mod (.bin .FloorDiv (.v 3) (.int 11)) (.v 1))] .nil,.setS (.v 0) (.str "left") (.v 2)] .nil),.asg (.n 4) (.bin .Mod (.ix (.v 0) (.str "left")) (.v 1)),.setS (.v 0) (.str "left") (.bin .FloorDiv (.ix (.v 0) (.str "left")) (.v 1)),.ret (.v 4)]⟩
def jcW  : Fun:=⟨"_law_names",["_law_feed_here", "_law_many"],["_law_feed_here", "_law_many", "_law_some", "_law_first", "_law_step"],#[.asg (.n 2) (.lst #[.str "a",.str "ab",.str "abc",.str "b",.str "ba",.str "works",.str "span",.str "apart",.str "at",.str "none",.str "hold",.str "zzzzzzzz",.str "z",.str "o",.str "find"]),.asg (.n 2) (.bin .Add (.v 2) (.lst #[.str "late",.str "n"])),.asg (.n 3) (.call jaa #[.v 0,.int 17]),.asg (.n 4) (.bin .Add (.int 1) (.call jaa #[.v 0,.int 16])),.ret (.mkT (.lc [none,some 2,some 3,some 4] (.n 0) (.r1 (.v 1)) .nil (.ix (.v 1) (.bin .Mod (.bin .Add (.v 2) (.bin .Mult (.v 3) (.v 0))) (.int 17)))))]⟩
def jbB  : Fun:=⟨"_law_any_cycle",["_law_feed_here"],["_law_feed_here"],#[(.ret (.ix (.lst #[.int 1,.int 2,.int 3,.int 5,.int 7,.int 12,.int 60,.int 600,.bin .Add (.int 1) (.call jaa #[.v 0,.int 600]),.bin .Add (.int 1) (.call jaa #[.v 0,.int 12])]) (.call jaa #[.v 0,.int 10])))]⟩
def jco  : Fun:=⟨"_law_number",["_law_feed_here", "_law_cycle"],["_law_feed_here", "_law_cycle"],#[(.ret (.ix (.lst #[.int 0,.call jaa #[.v 0,.v 1],.call jaa #[.v 0,.v 1],.call jaa #[.v 0,.bin .Add (.bin .Mult (.int 3) (.v 1)) (.int 1)]]) (.call jaa #[.v 0,.int 4])))]⟩
def jdr  : Fun:=⟨"_law_span",["_law_feed_here", "_law_works", "_law_cycle"],["_law_feed_here", "_law_works", "_law_cycle", "_law_one", "_law_other", "_law_low", "_law_wide"],#[(.par [3,4] #[.call jaa #[.v 0,.v 1],.call jaa #[.v 0,.v 1]]),.asg (.n 5) (.call jaR #[.v 0,.v 2]),.ite (.cmp .Eq (.call jaa #[.v 0,.int 3]) (.int 0)) #[.ret (.tup #[.str "apart",.v 3,.v 4,.v 5,.call jaR #[.v 0,.v 2]])] .nil,(.asg (.n 6) (.ix (.lst #[.int 0,.int 0,.int 1,.call jaa #[.v 0,.v 2],.bin .Sub (.v 2) (.int 1),.bin .Add (.v 2) (.call jaa #[.v 0,.int 5])]) (.call jaa #[.v 0,.int 6]))),.ret (.tup #[.str "span",.v 3,.v 4,.v 5,.bin .Add (.v 5) (.v 6)])]⟩
def jb5  : Fun:=⟨"_law_fitting",["_law_feed_here", "_law_beats_here", "_law_cycle"],["_law_feed_here", "_law_beats_here", "_law_cycle", "_law_one", "_law_other", "_law_gap", "_law_low", "_law_length"],#[(.par [3,4] #[.call jaa #[.v 0,.blt .len #[.v 1]],.call jaa #[.v 0,.blt .len #[.v 1]]]),.asg (.n 5) (.bin .Mod (.bin .Sub (.ix (.v 1) (.v 4)) (.ix (.v 1) (.v 3))) (.v 2)),(.ite (.cmp .Eq (.call jaa #[.v 0,.int 3]) (.int 0)) #[(.ret (.tup #[.str "apart",.v 3,.v 4,.call jaa #[.v 0,.bin .Add (.v 5) (.int 1)],.call jaa #[.v 0,.bin .Add (.bin .Sub (.v 2) (.v 5)) (.int 1)]]))] .nil),.asg (.n 6) (.call jaR #[.v 0,.v 2]),.asg (.n 7) (.bin .Add (.v 6) (.bin .Mod (.bin .Sub (.v 5) (.v 6)) (.v 2))),.ret (.tup #[.str "span",.v 3,.v 4,.v 6,.bin .Add (.v 7) (.ix (.lst #[.int 0,.int 0,.int 1,.call jaa #[.v 0,.v 2]]) (.call jaa #[.v 0,.int 4]))])]⟩
def jbq  : Ss:=#[(.ite (.bop true (.cmp2 .Lt .Lt (.int 0) (.blt .len #[.v 5]) (.int 24)) #[.cmp .Eq (.call jaa #[.v 0,.int 6]) (.int 0)]) #[(.expr (.meth .insert (.v 5) #[.call jaa #[.v 0,.bin .Add (.blt .len #[.v 5]) (.int 1)],.ix (.v 5) (.int 0)]))] .nil),(.ret (.tup #[.call jbK #[.v 0,.v 1],.mkT (.v 5)]))]
def jds  : Fun:=⟨"_law_plan",["_law_feed_here", "_law_works", "_law_most", "_law_cycle"],["_law_feed_here", "_law_works", "_law_most", "_law_cycle", "_law_beats_here", "_law_spans", "_law_k"],(.cons (.asgC 4 (.lc [none,some 0,some 3] (.n 0) (.r1 (.v 1)) .nil (.call jaa #[.v 1,.v 2]))) (.cons (.asg (.n 5) (.lst .nil)) (.cons (.fr (.n 6) (.r1 (.call jaa #[.v 0,.bin .Add (.v 2) (.int 1)])) #[.ite (.cmp .Gt (.call jaa #[.v 0,.int 5]) (.int 0)) #[.expr (.meth .append (.v 5) #[.call jbW #[.v 0,.v 4,.v 3]])] #[.expr (.meth .append (.v 5) #[.call jdi #[.v 0,.v 1,.v 3]])]]) jbq)))⟩
def jcX  : Fun:=⟨"_law_beats",["_law_feed_here", "_law_works", "_law_cycle"],["_law_feed_here", "_law_works", "_law_cycle"],#[.ret (.mkT (.lc [none,some 0,some 2] (.n 0) (.r1 (.v 1)) .nil (.call jaa #[.v 1,.v 2])))]⟩
def jem  : Fun:=⟨"_law_odd",["_law_feed_here"],["_law_feed_here", "_law_some"],#[.asg (.n 1) (.lst #[.non,.bl true,.bl false,.int 0,.int 1,.neg (.int 1),.int 2,.int 100,.int 600,.int 601,.int 9999,.int 10000,.bin .Pow (.int 10) (.int 30),.str "",.str "a",.str "abcdefgh",.str "abcdefghi",.str "A"]),(.asg (.n 1) (.bin .Add (.v 1) (.lst #[.str "a1",.str "span",.str "apart",.str "Span",.tup .nil,.lst .nil,.tup #[.str "a"],.lst #[.str "a"],.dic .nil,.tup #[.int 0],(.tup #[.tup #[.str "a"],.tup .nil])]))),.ret (.ix (.v 1) (.call jaa #[.v 0,.int 29]))]⟩
def jd0  : Ss:=#[.ret (.call jaO #[.v 0])]
def jaQ  : Ss:=(.cons (.ite (.bop true (.blt .isi #[.v 1,.ty "int"]) #[.not (.blt .isi #[.v 1,.ty "bool"])]) #[(.asg (.n 4) (.lst #[.bin .Add (.v 1) (.int 1),.bin .Sub (.v 1) (.int 1),.cmp .Eq (.v 1) (.int 1),.blt .str #[.v 1],.bin .Sub (.int 0) (.v 1),.non,.bin .Add (.v 1) (.int 10000)])),.ret (.ix (.v 4) (.call jaa #[.v 0,.int 7]))] .nil) jd0)
def jan  : Ss:=(.cons (.ite (.blt .isi #[.v 1,.ty "tuple"]) #[(.asg (.n 4) (.lst #[.mkL (.v 1),.bin .Add (.v 1) (.sl (.v 1) .no (.so (.int 1))),.sl (.v 1) (.so (.int 1)) .no,.sl (.v 1) .no (.so (.neg (.int 1))),.rev (.v 1) (.neg (.int 1)),.bin .Add (.v 1) (.tup #[.int 0]),.tup .nil])),.ret (.ix (.v 4) (.call jaa #[.v 0,.int 7]))] .nil) jaQ)
def jdv  : Fun:=⟨"_law_bent",["_law_feed_here", "_law_thing", "_law_deep"],["_law_feed_here", "_law_thing", "_law_deep", "_law_at", "_law_some"],(.cons (.ite (.bop true (.blt .isi #[.v 1,.ty "tuple"]) #[.cmp .NotEq (.v 1) (.tup .nil),.cmp .Gt (.v 2) (.int 0),.cmp .Gt (.call jaa #[.v 0,.int 5]) (.int 0)]) #[.asg (.n 3) (.call jaa #[.v 0,.blt .len #[.v 1]]),.ret (.bin .Add (.bin .Add (.sl (.v 1) .no (.so (.v 3))) (.tup #[.call ja6 #[.v 0,.ix (.v 1) (.v 3),.bin .Sub (.v 2) (.int 1)]])) (.sl (.v 1) (.so (.bin .Add (.v 3) (.int 1))) .no))] .nil) jan)⟩
def jbm  : Ss:=#[.expr (.meth .append (.v 5) #[.bin .Add (.bin .Add (.sl (.v 1) .no (.so (.v 3))) (.sl (.v 1) (.so (.v 3)) (.so (.bin .Add (.v 3) (.int 1))))) (.sl (.v 1) (.so (.v 3)) .no)]),.expr (.meth .append (.v 5) #[.bin .Add (.bin .Add (.sl (.v 1) .no (.so (.v 3))) (.rev (.sl (.v 1) (.so (.v 3)) (.so (.bin .Add (.v 3) (.int 2)))) (.neg (.int 1)))) (.sl (.v 1) (.so (.bin .Add (.v 3) (.int 2))) .no)]),.ret (.ix (.v 5) (.call jaa #[.v 0,.int 4]))]
def jaw  : Ss:=(.cons (.asg (.n 5) (.lst #[.bin .Add (.sl (.v 1) .no (.so (.v 3))) (.sl (.v 1) (.so (.bin .Add (.v 3) (.int 1))) .no),.mkL (.v 1)])) jbm)
def jbn  : Ss:=(.cons (.ite (.bop true (.cmp .Lt (.v 3) (.blt .len #[.v 1])) #[.cmp .Gt (.call jaa #[.v 0,.int 4]) (.int 0)]) #[.ret (.bin .Add (.bin .Add (.sl (.v 1) .no (.so (.v 3))) (.tup #[.call jal #[.v 0,.ix (.v 1) (.v 3)]])) (.sl (.v 1) (.so (.bin .Add (.v 3) (.int 1))) .no))] .nil) jaw)
def jbo  : Ss:=(.cons (.asg (.n 3) (.call jaa #[.v 0,.bin .Add (.blt .len #[.v 1]) (.int 1)])) jbn)
def jax  : Ss:=(.cons (.ite (.not (.blt .isi #[.v 1,.ty "tuple"])) #[.ret .non] .nil) jbo)
def jag  : Ss:=(.cons (.ite (.blt .isi #[.v 1,.ty "int"]) #[.ret (.ix (.lst #[.bin .Add (.v 1) (.int 1),.bin .Sub (.v 1) (.int 1),.bin .Sub (.bin .Sub (.int 0) (.v 1)) (.int 1),.cmp .Eq (.v 1) (.int 1),.blt .str #[.v 1]]) (.call jaa #[.v 0,.int 5]))] .nil) jax)
def jap  : Fun:=⟨"_law_one_step",["_law_feed_here", "_law_thing"],["_law_feed_here", "_law_thing", "_law_signs", "_law_at", "_law_sign", "_law_some"],(.cons (.ite (.blt .isi #[.v 1,.ty "str"]) #[.asg (.n 2) (.str " !\"#$&'()*+,-./0123456789:;<=>?@ABCDEFGHIJKLMNOPQRSTUVWXYZ[\\]^_`abcdefghijklmnopqrstuvwxyz{|}~"),.asg (.n 3) (.call jaa #[.v 0,.bin .Add (.blt .len #[.v 1]) (.int 1)]),.asg (.n 4) (.ix (.v 2) (.call jaa #[.v 0,.int 94])),.asg (.n 5) (.lst #[.bin .Add (.bin .Add (.sl (.v 1) .no (.so (.v 3))) (.v 4)) (.sl (.v 1) (.so (.v 3)) .no),.bin .Add (.sl (.v 1) .no (.so (.v 3))) (.sl (.v 1) (.so (.bin .Add (.v 3) (.int 1))) .no)]),.expr (.meth .append (.v 5) #[.bin .Add (.bin .Add (.sl (.v 1) .no (.so (.v 3))) (.v 4)) (.sl (.v 1) (.so (.bin .Add (.v 3) (.int 1))) .no)]),.ret (.ix (.v 5) (.call jaa #[.v 0,.int 3]))] .nil) jag)⟩
noncomputable def jcV  : Fun:=⟨"_law_whole",["_law_thing", "_law_first", "_law_last"],["_law_thing", "_law_first", "_law_last"],#[(.ret (.bop true (.blt .isi #[.v 0,.ty "int"]) #[.not (.blt .isi #[.v 0,.ty "bool"]),.cmp2 .LtE .LtE (.v 1) (.v 0) (.v 2)]))]⟩
noncomputable def jbk  : Fun:=⟨"_law_is_name",["_law_thing"],["_law_thing"],#[.ite (.bop false (.not (.blt .isi #[.v 0,.ty "str"])) #[.not (.cmp2 .LtE .LtE (.int 1) (.blt .len #[.v 0]) (.int 8))]) #[.ret (.bl false)] .nil,.ret (.cmp .Eq (.lc [none] (.n 0) (.s (.v 0)) #[.cmp .NotIn (.v 0) (.str "abcdefghijklmnopqrstuvwxyz")] (.v 0)) (.lst .nil))]⟩
def jbr  : Ss:=#[.ite (.cmp .In (.bl false) (.lc [none] (.n 0) (.e (.sl (.v 1) (.so (.int 3)) .no)) .nil (.call jaN #[.v 0,.int 0,.int 9999]))) #[.ret (.bl false)] .nil,.ret (.bop false (.cmp .Eq (.ix (.v 1) (.int 0)) (.str "apart")) #[.cmp .LtE (.ix (.v 1) (.int 3)) (.ix (.v 1) (.int 4))])]
def jaL  : Ss:=(.cons (.ite (.bop false (.cmp .NotIn (.ix (.v 1) (.int 0)) (.tup #[.str "span",.str "apart"])) #[.cmp .In (.bl false) (.lc [none,some 0] (.n 0) (.e (.sl (.v 1) (.so (.int 1)) (.so (.int 3)))) .nil (.call jaN #[.v 0,.int 0,.bin .Sub (.v 1) (.int 1)]))]) #[.ret (.bl false)] .nil) jbr)
def jb3  : Fun:=⟨"_law_is_span",["_law_works", "_law_thing"],["_law_works", "_law_thing"],(.cons (.ite (.bop false (.not (.blt .isi #[.v 1,.ty "tuple"])) #[.cmp .NotEq (.blt .len #[.v 1]) (.int 5),.not (.blt .isi #[.ix (.v 1) (.int 0),.ty "str"])]) #[.ret (.bl false)] .nil) jaL)⟩
def jaM  : Ss:=#[.ite (.bop false (.not (.blt .isi #[.v 2,.ty "tuple"])) #[.cmp .Gt (.blt .len #[.v 2]) (.int 24)]) #[.ret (.bl false)] .nil,(.ret (.cmp .NotIn (.bl false) (.lc [none,some 1] (.n 0) (.e (.v 2)) .nil (.call jbU #[.blt .len #[.v 1],.v 0]))))]
def jbs  : Ss:=(.cons (.ite (.cmp .NotEq (.lc [none,some 1] (.n 0) (.e (.v 1)) #[.cmp .Gt (.meth .count (.v 1) #[.v 0]) (.int 1)] (.v 0)) (.lst .nil)) #[.ret (.bl false)] .nil) jaM)
def jbt  : Ss:=(.cons (.ite (.bop false (.not (.cmp2 .LtE .LtE (.int 1) (.blt .len #[.v 1]) (.int 8))) #[.cmp .In (.bl false) (.lc [none] (.n 0) (.e (.v 1)) .nil (.call jaA #[.v 0]))]) #[.ret (.bl false)] .nil) jbs)
def jbu  : Ss:=(.cons (.asg (.t #[.n 1,.n 2]) (.v 0)) jbt)
def jb4  : Fun:=⟨"_law_is_plan",["_law_thing"],["_law_thing", "_law_names_here", "_law_spans"],(.cons (.ite (.bop false (.not (.blt .isi #[.v 0,.ty "tuple"])) #[.cmp .NotEq (.blt .len #[.v 0]) (.int 2),.not (.blt .isi #[.ix (.v 0) (.int 0),.ty "tuple"])]) #[.ret (.bl false)] .nil) jbu)⟩
def ja9  : Fun:=⟨"_law_are_numbers",["_law_thing", "_law_many", "_law_most"],["_law_thing", "_law_many", "_law_most"],#[.ite (.bop false (.not (.blt .isi #[.v 0,.ty "tuple"])) #[.cmp .NotEq (.blt .len #[.v 0]) (.v 1)]) #[.ret (.bl false)] .nil,.ret (.cmp .NotIn (.bl false) (.lc [none,some 2] (.n 0) (.e (.v 0)) .nil (.call jaN #[.v 0,.int 0,.v 1])))]⟩
def jaZ  : Ss:=#[.asg (.n 8) (.ix (.lst #[.int 9999,.int 10000,.int 0,.int 4,.int 5]) (.call jaa #[.v 0,.int 5])),.asg (.n 9) (.ix (.lst #[.str "span",.str "apart"]) (.call jaa #[.v 0,.int 2])),(.ret (.bin .Add (.v 6) (.lst #[(.tup #[.v 2,(.tup #[(.tup #[.v 9,.int 0,.bin .Sub (.blt .len #[.v 2]) (.int 1),.v 7,.v 8])])]),(.tup #[.v 2,(.tup #[(.tup #[.v 9,.blt .len #[.v 2],.int 0,.v 7,.v 8])])])])))]
def ja0  : Ss:=(.cons (.asg (.n 7) (.ix (.lst #[.int 9999,.int 10000,.int 0,.int 5]) (.call jaa #[.v 0,.int 4]))) jaZ)
def ja1  : Ss:=(.cons (.asg (.n 6) (.lst #[.tup #[.v 4,.v 3],(.tup #[.bin .Add (.v 4) (.tup #[.str "qq"]),.v 3]),.tup #[.v 2,.v 5],.tup #[.v 2,.bin .Add (.v 5) (.sl (.v 5) .no (.so (.int 1)))],.tup #[.tup .nil,.tup .nil]])) ja0)
def ja2  : Ss:=(.cons (.asg (.n 5) (.bin .Add (.v 3) (.bin .Mult (.tup #[.tup #[.str "span",.int 0,.int 0,.int 0,.int 9999]]) (.bin .Sub (.int 24) (.blt .len #[.v 3]))))) ja1)
def jbA  : Fun:=⟨"_law_at_bounds",["_law_feed_here", "_law_plan_here"],["_law_feed_here", "_law_plan_here", "_law_names_here", "_law_spans", "_law_eight", "_law_long", "_law_some", "_law_low", "_law_high", "_law_word"],(.cons (.asg (.t #[.n 2,.n 3]) (.v 1)) (.cons (.asg (.n 4) (.tup #[.str "a",.str "ab",.str "abc",.str "b",.str "ba",.str "bab",.str "zzzzzzzz",.str "q"])) ja2))⟩
noncomputable def jdq  : Fun:=⟨"_law_told",["_law_found", "_law_due"],["_law_found", "_law_due"],#[.ret (.bop true (.blt .isi #[.v 0,.ty "bool"]) #[.cmp .Eq (.v 0) (.v 1)])]⟩
def ja8  : Fun:=⟨"_law_names_right",["_law_feed_here", "_law_names_here"],["_law_feed_here", "_law_names_here", "_law_some", "_law_thing"],#[(.asg (.n 2) (.bin .Add (.mkL (.v 1)) (.lst #[.bin .Add (.ix (.v 1) (.int 0)) (.bin .Mult (.str "a") (.call jaa #[.v 0,.int 9])),.meth .upper (.ix (.v 1) (.int 0)) .nil,.bin .Add (.ix (.v 1) (.int 0)) (.str " ")]))),(.fr (.n 3) (.e (.bin .Add (.v 2) (.lc [none,some 0] (.n 0) (.e (.v 1)) .nil (.call jal #[.v 1,.v 0])))) #[(.ite (.not (.call jaE #[.call jby #[.v 3],.call jaA #[.v 3]])) #[.ret (.bl false)] .nil)]),.ret (.bl true)]⟩
noncomputable def jbb  : Ss:=#[.ite (.cmp .NotEq (.blt .repr #[.v 6]) (.v 9)) #[.ret (.bl false)] .nil]
def jaT  : Ss:=#[(.fr (.n 10) (.e (.bin .Add (.v 15) (.lst #[.bin .Mult (.tup #[.v 14]) (.blt .len #[.v 13]),.bin .Mult (.tup #[.bin .Add (.v 14) (.int 1)]) (.blt .len #[.v 13]),.call jaO #[.v 1]]))) #[(.ite (.not (.call jaE #[.call jcP #[.v 5,.v 4,.v 10],.call jaF #[.v 10,.v 3,.bin .Sub (.v 4) (.int 1)]])) #[.ret (.bl false)] .nil),(.ite (.not (.call jaE #[.call jbX #[.v 5,.v 10],(.call jaF #[.v 10,.blt .len #[.ix (.v 5) (.int 1)],.int 99])])) #[.ret (.bl false)] .nil)])]
def jaU  : Ss:=(.cons (.asg (.n 15) (.bin .Add (.v 15) (.lc [none,some 1,some 13] (.n 0) (.r1 (.int 4)) .nil (.call jal #[.v 1,.v 2])))) jaT)
def jaV  : Ss:=(.cons (.asg (.n 15) (.bin .Add (.lc [none,some 1,some 13] (.n 0) (.r1 (.int 6)) .nil (.call ja6 #[.v 1,.v 2,.int 2])) (.lst #[.v 13,.mkL (.v 13),.bin .Add (.v 13) (.tup #[.v 14])]))) jaU)
def jbc  : Ss:=(.cons (.fr (.t #[.n 13,.n 14]) (.e (.tup #[.tup #[.v 11,.bin .Sub (.v 4) (.int 1)],.tup #[.v 12,.int 99]])) jaV) jbb)
def jbI  : Ss:=(.cons (.asg (.n 12) (.mkT (.lc [none,some 1] (.n 0) (.e (.ix (.v 5) (.int 1))) .nil (.ix (.lst #[.int 0,.int 1,.int 99,.call jaa #[.v 1,.int 100]]) (.call jaa #[.v 1,.int 4]))))) jbc)
def jb9  : Ss:=(.cons (.asg (.n 11) (.call jcN #[.v 1,.v 3,.v 4])) jbI)
def jca  : Ss:=(.cons (.fr (.n 10) (.e (.lst #[.v 4,.int 0,.int 1,.int 600,.int 601,.neg (.int 1),.bl true,.str "1",.non,.call jaO #[.v 1]])) #[(.ite (.not (.call jaE #[.call jdm #[.v 10],.call jaN #[.v 10,.int 1,.int 600]])) #[.ret (.bl false)] .nil)]) jb9)
def jcb  : Ss:=(.cons (.ite (.not (.call ja5 #[.v 1,.ix (.v 5) (.int 0)])) #[.ret (.bl false)] .nil) jca)
def jcc  : Ss:=(.cons (.fr (.n 10) (.e (.v 6)) #[(.ite (.bop false (.not (.call jaE #[.call jef #[.v 10],.call jbV #[.v 10]])) #[(.not (.call jaE #[.call jby #[.v 10],.call jaA #[.v 10]]))]) #[.ret (.bl false)] .nil)]) jcb)
def jbE  : Ss:=(.cons (.asg (.n 9) (.blt .repr #[.v 6])) jcc)
def jcd  : Ss:=(.cons (.fr (.n 7) (.r1 (.int 7)) #[.asg (.n 8) (.call ja6 #[.v 1,.v 5,.int 4]),(.asg (.n 6) (.bin .Add (.v 6) (.lst #[.v 8,.call ja6 #[.v 1,.v 8,.int 4],.call jal #[.v 1,.v 5],.call jal #[.v 1,.v 8]])))]) jbE)
def jce  : Ss:=(.cons (.asg (.n 6) (.bin .Add (.lst #[.v 5,.call jaO #[.v 1],.call jaO #[.v 1]]) (.call jbw #[.v 1,.v 5]))) jcd)
def jcf  : Ss:=(.cons (.asg (.n 3) (.bin .Add (.int 1) (.call jaa #[.v 1,.int 8]))) (.cons (.asg (.n 4) (.call jbx #[.v 1])) (.cons (.asg (.n 5) (.call jdj #[.v 1,.v 3,.ix (.lst #[.int 4,.int 24]) (.call jaa #[.v 1,.int 2]),.v 4])) jce)))
def jf4  : Ss:=#[.fr (.n 2) (.r1 (.int 2)) jcf,.ret (.bl true)]
def jlW  : Fun:=⟨"law",["_law_script"],["_law_script", "_law_feed_here", "_law_k", "_law_works", "_law_cycle", "_law_plan_here", "_law_things", "_law_j", "_law_bent_here", "_law_kept", "_law_thing", "_law_beats_here", "_law_weights", "_law_row", "_law_bound", "_law_more"],(.cons (.asg (.n 1) (.call jdk #[.v 0])) jf4)⟩
def T  : Tab:=⟨[jdw,jcY,jcZ,jc0,jc1,jen,jeo,jdx,jc2,jb6,jdt,jdu,jcW,jbB,jco,jdr,jb5,jds,jcX,jem,jdv,jap,jcV,jbk,jb3,jb4,ja9,jbA,jdq,ja8,jlW],[(.int 8),(.int 8),(.int 9999),(.int 24),(.int 600),(.int 99)],["MOST_SIGNS", "MOST_NAMES", "MOST_BEATS", "MOST_SPANS", "MOST_ROUND", "MOST_WEIGHT"],[],[],[]⟩
def top  (i:Nat):Stmt:=PySem.Challenge.pw_beatplans_k01_what_plans_are.main.body.getD i (.Pass ⟨0,0,0,0⟩)
noncomputable abbrev s_is_whole  : Stmt:=top 7
noncomputable abbrev s_is_within  : Stmt:=top 8
noncomputable abbrev s_is_row_of  : Stmt:=top 9
noncomputable abbrev s_is_name  : Stmt:=top 10
noncomputable abbrev s_are_names  : Stmt:=top 11
noncomputable abbrev s_is_span  : Stmt:=top 12
noncomputable abbrev s_is_plan  : Stmt:=top 13
noncomputable abbrev s_is_round  : Stmt:=top 14
noncomputable abbrev s_are_beats  : Stmt:=top 15
noncomputable abbrev s_are_weights  : Stmt:=top 16
noncomputable abbrev s_law_feed  : Stmt:=top 18
noncomputable abbrev s_law_draw  : Stmt:=top 19
noncomputable abbrev s_law_names  : Stmt:=top 20
noncomputable abbrev s_law_any_cycle  : Stmt:=top 21
noncomputable abbrev s_law_number  : Stmt:=top 22
noncomputable abbrev s_law_span  : Stmt:=top 23
noncomputable abbrev s_law_fitting  : Stmt:=top 24
noncomputable abbrev s_law_plan  : Stmt:=top 25
noncomputable abbrev s_law_beats  : Stmt:=top 26
noncomputable abbrev s_law_odd  : Stmt:=top 27
noncomputable abbrev s_law_bent  : Stmt:=top 28
noncomputable abbrev s_law_one_step  : Stmt:=top 29
noncomputable abbrev s_law_whole  : Stmt:=top 30
noncomputable abbrev s_law_is_name  : Stmt:=top 31
noncomputable abbrev s_law_is_span  : Stmt:=top 32
noncomputable abbrev s_law_is_plan  : Stmt:=top 33
noncomputable abbrev s_law_are_numbers  : Stmt:=top 34
noncomputable abbrev s_law_at_bounds  : Stmt:=top 35
noncomputable abbrev s_law_told  : Stmt:=top 36
noncomputable abbrev s_law_names_right  : Stmt:=top 37
noncomputable abbrev s_law  : Stmt:=top 38
end
local macro_rules
 |`(tactic| simp! only[$xs,*])=>do
  let ys <- ("D_v T_v D_non D_bl D_int D_str D_g T_g D_ty T_ty D_bin T_bin D_neg D_cmp T_cmp D_cmp2 T_cmp2 D_tup D_lst D_dic D_ix T_ix D_sl D_rev D_call T_call D_blt T_blt D_meth D_lc D_nset T_nset D_mkL D_mkT D_not T_not D_bop0 D_and D_or T_and T_or O_no O_so A_nil A_cons C_nil C_cons P_nil P_cons I_e I_r1 I_s F_nil F_cons S_expr S_asg S_asgC S_setS S_par S_ite S_fr S_ret B_nil B_cons V_add V_cat V_catL V_sub V_mul V_mulL V_mulT V_fdiv V_mod V_pow V_neg W_eqI W_neI W_eqS W_neS W_lt W_le W_gt W_neT W_eqT W_eqT0 W_neL W_eqL W_in W_nin Y_bl Y_non Y_int Y_tup J_tup X_tup F_len F_repr F_all F_int F_str F_isi X_str V_addB V_subB V_subI F_lenT F_min2 F_max2 F_intB F_intI G_n G_t G_nil G_cons sl_0 sl_s dr_0 dr_s pk_nil pk_none pk_some K_str K_int fx_cells fx_at fx_left fx_turn fs_at fs_left".splitOn " ").toArray.mapM λs=>`(YeR| $(Lean.mkIdent s.toName):ident)
  `(tactic| try simp only[YaI,Yda,YbT,YaR,YaX,YbB,List.set_cons_zero,List.set_cons_succ,List.zip_cons_cons,List.zip_nil_right,List.zip_nil_left,Ydt,List.foldl_nil,List.getElem?_cons_zero,List.getElem?_cons_succ,Option.join_some,ite_true,ite_false,YbD,Ycq,$ys:simpLemma,*,$xs,*])

def jac    (hf:Fd G f c)(h0:0<m)(h1:m<1073741824)(q:∀r G' ,0<=r->r<m->Fd G' f c->Sm f G G'->Q (.int r) G'):jab T (k+1) jaa [.loc f,.int m] G Q X:=by
 obtain⟨ns,a,l,t,g1,g2,hn⟩:=hf.ex;have fin:∀(z a' l' t':Int),Q (.int (z%m)) (gup G f (.dK (fdU c a' l' t'))):=λz a' l' t'=>q _ _ (Yb4 z (by lia)) (YbG z h0) (Fd.put ⟨rfl⟩ g1 g2 hn) Sm.put
 have hlen:0<ns.length:=List.length_pos_iff.mpr hn;have gc:∀kvs,gup G f (.dK kvs) c=some (.lst (ns.map .int)):=λkvs=>by rw[jbz (λz=>by rw[z,g1]at g2;cases g2)];exact g2
 obtain⟨z,hz,ez⟩:=jdC (l:=ns) (r:=a%ns.length) (Yb4 _ (by lia)) (YbG _ (by lia))
 refine⟨rfl,?_⟩;simp! only[jdu,jad,Yab,ix_d g1 jil,jiU g1,jeC,jk0,jgQ,true_and,jgz (gc _),Yai,ix_l (gc _) ((jc6 U.int ns _).trans (congrArg _ ez))];have cut:∀(l' a' t':Int),(0<m/\0<m/\m<1073741824/\Q (.int (l'%m)) (gup G f (.dK (fdU c a' (l'/m) t')))):=λl' a' t'=>⟨h0,h0,by lia,fin _ _ _ _⟩
 by_cases hl:l=0
 ·rw[if_pos (by simpa using hl)]
  refine⟨by lia,by constructor<;>decide,?_⟩
  by_cases hc:z<10 ^ Int.toNat 18
  ·rw[if_pos (by simpa using hc)]
   exact⟨by decide,.inl (by decide),.inr (by decide),by decide,by decide,by decide,.inl (by decide),.inr (by decide),by decide,by decide,by decide,h0,fin _ _ _ _⟩
  ·rw[if_neg (by simpa using hc)]
   exact cut _ _ _
 ·rw[if_neg (by simpa using hl)]
  exact cut _ _ _
def jju   {ns:List Int}(ha:G a=some (.fro (ns.map .int)))(hl:ns.length<=63)(q:∀f c G' ,Fd G' f c->Q (.loc f) G'):jab T (k+1) jdk [.loc a] G Q X:=by
 have hcl:(cut ns none (some 63)).length<=63:=by rw[show(63:Int)=((63:Nat):Int)from rfl,jfr];simp;lia
 refine⟨rfl,?_⟩;simp! only[jdt,jad,Yab,sl_f ha,jjT];intro p1 G1 n1;rw[it_l n1.at];intro p2 G2 n2;refine⟨by decide,λp3 G3 n3=>?_⟩
 simp! only[jmZ (n3.sa _ _ (n2.sa _ _ (n1.sa _ _ ha)))];obtain⟨zs,ez,lz,hz⟩:∃zs:List Int,(Yab (Int.toNat (if decide (((ns.map U.int).length:Int)=0)=true then 1 else 0)) [U.int 0]).flatten=zs.map U.int/\zs.length<=1/\(ns=[]->zs≠[]):=by
  by_cases h:ns=[]
  ·subst h;exact⟨[0],rfl,by decide,λ_=>by simp⟩
  ·refine⟨[],?_,by decide,λz=>absurd z h⟩
   rw[if_neg (by simpa using h)]
   rfl
 refine⟨_,n3.at,by split<;>decide,by split<;>decide,by split<;>decide,λp4 G4 n4=>?_⟩
 rw[ez]at n4;refine⟨_,_,n4.sa _ _ (n3.sa _ _ n2.at),n4.at,?_,λp5 G5 n5=>⟨by decide,λp6 G6 n6=>?_⟩⟩
 ·rw[Yai,Yai];exact Yag (YdT hcl lz) (by decide:63+1<=Yae)
 rw[jls]at n6;rw[<- Yb0]at n5;refine q _ p5 _ ⟨_,0,0,0,n6.at,n6.sa _ _ n5.at,λz=>?_⟩;obtain⟨z1,z2⟩:=List.append_eq_nil_iff.mp z;refine hz ?_ z2;rw[show(63:Int)=((63:Nat):Int)from rfl,jfr]at z1;cases ns with
 |nil=>rfl
 |cons _ _=>cases z1

structure Nm (x:Str):Prop where
 l8:x.length<=8
 ch:∀c∈x.cps.toList,c<128
structure Spn where
 w:Str
 o:Nat
 t:Nat
 lo:Int
 hi:Int
noncomputable def Spn.u  (s:Spn):U:=.tup [.str s.w,.int s.o,.int s.t,.int s.lo,.int s.hi]
structure Spn.Ok (W:Nat)(s:Spn):Prop where
 w:s.w = "apart" \/ s.w = "span"
 o:s.o<W
 t:s.t<W
 lo:0<=s.lo/\s.lo<=9999
 hi:0<=s.hi/\s.hi<=9999
noncomputable def jaX  (l:List Int):U:=.tup (l.map .int)
def jiz  {x:Str}(h:x = "apart" \/ x = "span"):x.length<=8/\∀c∈x.cps.toList,c<128:=by
 rcases h with rfl|rfl
 ·exact⟨by decide +kernel,by decide +kernel⟩
 ·exact⟨by decide +kernel,by decide +kernel⟩
noncomputable def menu  : List Str:=["a", "ab", "abc", "b", "ba", "works", "span", "apart", "at", "none", "hold", "zzzzzzzz", "z", "o", "find", "late", "n"]
def jjA  : ∀x∈menu,Nm x:=by
 have h:∀x∈menu,x.length<=8/\∀c∈x.cps.toList,c<128:=by decide +kernel
 exact λx hx=>⟨(h x hx).1,(h x hx).2⟩
def jaH  (xs:List Str)(ss:List Spn):U:=.tup [.tup (xs.map .str),.tup (ss.map Spn.u)]
def jm6        (g:G a=some (.lst xs)):ja7 .insert (.loc a) [.int i,v] G Q=(0<=i/\i<=xs.length/\xs.length<Yae/\putO G a (.lst (xs.take i.toNat++v::xs.drop i.toNat)) (Q .non)):=by unfold ja7 jeT;dsimp only;rw[g]
def jlo     (g:G a=some (.lst xs)):mtU .insert (.loc a) G=some ("list", "list.insert"):=by unfold mtU;dsimp only;rw[g]

def jhD    (hf:Fd G f c)(h1:m<=8)(q:∀(xs:List Str) G' ,xs.length=m->(∀x∈xs,Nm x)->Fd G' f c->Sm f G G'->Q (.tup (xs.map .str)) G'):jab T (k+2) jbK [.loc f,.int m] G Q X:=by
 refine⟨rfl,?_⟩;simp! only[jcW,jad,Yab];refine⟨by decide,λp G1 n1=>⟨by decide,λp2 G2 n2=>⟨_,_,n2.sa _ _ n1.at,n2.at,by decide,λp3 G3 n3=>?_⟩⟩⟩
 have f3:=((hf.new n1).new n2).new n3;have s3:Sm f G G3:=n1.sa.sm.trans (n2.sa.sm.trans n3.sa.sm);have hp:=((hf.new n1).new n2).away n3;have g3:G3 p3=some (.lst (menu.map .str)):=n3.at
 refine jac f3 (by decide) (by decide) λfirst G4 a4 b4 f4 s4=>jac f4 (by decide) (by decide) λr5 G5 a5 b5 f5 s5=>?_
 have g5:=s5 _ _ hp.1 (s4 _ _ hp.1 g3);simp! only[];refine⟨by lia,by lia,by rw[jaW];exact Yag (show((m:Int)).toNat<=8 by lia) (by decide),?_⟩
 refine jaG (λi acc G'=>G'=G5/\∃xs:List Str,acc=xs.map .str/\xs.length=i/\∀x∈xs,Nm x) ?_ ?_ ⟨rfl,[],rfl,rfl,λ_ h=>nomatch h⟩
 ·rintro acc G' ⟨rfl,xs,rfl,hl,hx⟩;rw[jaW]at hl;refine⟨trivial,λp6 G6 n6=>?_⟩;simp! only[it_l n6.at];exact q xs G6 (by lia) hx (f5.new n6) ((s3.trans (s4.trans s5)).nw n6)
 ·rintro i x acc G' K hx ⟨rfl,xs,rfl,hl,hn⟩ hk _;obtain⟨hi,rfl⟩:=jez hx;simp! only[];obtain⟨y,hy,ey⟩:=jdC (l:=menu) (r:=(first+(1+r5)*(i:Int))%17) (Yb4 _ (by decide)) (YbG _ (by decide))
  refine⟨trivial,.inr (by constructor<;>lia),by decide,?_⟩
  rw[ix_l g5 ((jc6 U.str menu _).trans (congrArg _ ey))];exact hk _ _ ⟨rfl,xs++[y],by simp,by simp[hl],λz hz=>by
   rcases Yds.mp hz with z'|z'
   ·exact hn z z'
   ·rw[List.mem_singleton.mp z'];exact jjA y hy⟩
def jhE   (hf:Fd G f c)(q:∀P G' ,1<=P->P<=600->Fd G' f c->Sm f G G'->Q (.int P) G'):jab T (k+2) jbx [.loc f] G Q X:=by
 refine⟨rfl,?_⟩;simp! only[jbB,jad,Yab];refine jac hf (by decide) (by decide) λr1 G1 a1 b1 f1 s1=>jac f1 (by decide) (by decide) λr2 G2 a2 b2 f2 s2=>⟨by decide,λp G3 n3=>jac (f2.new n3) (by decide) (by decide) λr4 G4 a4 b4 f4 s4=>?_⟩
 refine jaS [1,2,3,5,7,12,60,600,1+r1,1+r2] (s4 _ _ (f2.away n3).1 n3.at) a4 b4 λz hz=>?_;have:1<=z/\z<=600:=by simp only[Yas,Yao,or_false]at hz;first|omega
 exact q z _ this.1 this.2 f4 (((s1.trans s2).nw n3).trans s4)
def jcM    (hf:Fd G f c)(h1:1<=P)(h2:P<=600)(q:∀z G' ,0<=z->z<=1801->Fd G' f c->Sm f G G'->Q (.int z) G'):jab T (k+2) jaR [.loc f,.int P] G Q X:=by
 refine⟨rfl,?_⟩;simp! only[jco,jad,Yab];refine jac hf (by lia) (by lia) λr1 G1 a1 b1 f1 s1=>jac f1 (by lia) (by lia) λr2 G2 a2 b2 f2 s2=>⟨.inl (by decide),jac f2 (by lia) (by lia) λr3 G3 a3 b3 f3 s3=>⟨by decide,λp G4 n4=>jac (f3.new n4) (by decide) (by decide) λr5 G5 a5 b5 f5 s5=>?_⟩⟩
 refine jaS [0,r1,r2,r3] (s5 _ _ (f3.away n4).1 n4.at) a5 b5 λz hz=>?_;have:0<=z/\z<=1801:=by simp only[Yas,Yao,or_false]at hz;lia
 exact q z _ this.1 this.2 f5 (((s1.trans (s2.trans s3)).nw n4).trans s5)
def jjs     (hf:Fd G f c)(h1:1<=P)(h2:P<=600)(w0:0<W)(w8:W<=8)(q:∀(s:Spn) G' ,s.Ok W->Fd G' f c->Sm f G G'->Q s.u G'):jab T (k+3) jdi [.loc f,.int W,.int P] G Q X:=by
 refine⟨rfl,?_⟩;simp! only[jdr,jad,Yab];refine jac hf (by lia) (by lia) λo' Ga aa ba fa sa=>jac fa (by lia) (by lia) λt' Gb ab bb fb sb=>?_
 obtain⟨o,rfl⟩:=YaD aa;obtain⟨t,rfl⟩:=YaD ab;refine⟨trivial,?_⟩;refine jcM fb h1 h2 λlo G1 a1 b1 f1 s1=>?_;refine jac f1 (by decide) (by decide) λr G2 a2 b2 f2 s2=>?_
 have S2:=sa.trans (sb.trans (s1.trans s2));simp! only[];by_cases hr:r=0
 ·rw[if_pos (by simpa using hr)]
  refine jcM f2 h1 h2 λhi G3 a3 b3 f3 s3=>⟨by decide,?_⟩
  exact q ⟨"apart",o,t,lo,hi⟩ _ ⟨.inl rfl,by dsimp only;lia,by dsimp only;lia,by dsimp only;lia,by dsimp only;lia⟩ f3 (S2.trans s3)
 ·rw[if_neg (by simpa using hr)]
  refine jac f2 (by lia) (by lia) λr3 G3 a3 b3 f3 s3=>jac f3 (by decide) (by decide) λr4 G4 a4 b4 f4 s4=>⟨by decide,λp G5 n5=>jac (f4.new n5) (by decide) (by decide) λr6 G6 a6 b6 f6 s6=>?_⟩
  refine jaS [0,0,1,r3,P-1,P+r4] (s6 _ _ (f4.away n5).1 n5.at) a6 b6 λz hz=>?_;have hz':0<=z/\z<=700:=by simp only[Yas,Yao,or_false]at hz;lia
  simp! only[];exact⟨by decide,q ⟨"span",o,t,lo,lo+z⟩ _ ⟨.inr rfl,by dsimp only;lia,by dsimp only;lia,by dsimp only;lia,by dsimp only;lia⟩ f6 ((S2.trans (s3.trans s4)).nw n5 |>.trans s6)⟩
def jfH     {bs:List Int}(hf:Fd G f c)(h1:1<=P)(h2:P<=600)(gb:G pb=some (.lst (bs.map .int)))(hb:pb≠f)(bl:bs.length=W)(w0:0<W)(w8:W<=8)(q:∀(s:Spn) G' ,s.Ok W->Fd G' f c->Sm f G G'->Q s.u G'):jab T (k+3) jbW [.loc f,.loc pb,.int P] G Q X:=by
 refine⟨rfl,?_⟩;simp! only[jb5,jad,Yab,jgz gb,Yai,bl];refine jac hf (by lia) (by lia) λo' Ga aa ba fa sa=>?_
 have ga:=sa _ _ hb gb;simp! only[jgz ga,Yai,bl];refine jac fa (by lia) (by lia) λt' Gb ab bb fb sb=>?_
 have gb2:=sb _ _ hb ga;obtain⟨o,rfl⟩:=YaD aa;obtain⟨t,rfl⟩:=YaD ab;obtain⟨x,hx,ex⟩:=jdC (l:=bs) (r:=(t:Int)) ab (by lia)
 obtain⟨y,hy,ey⟩:=jdC (l:=bs) (r:=(o:Int)) aa (by lia)
 simp! only[ix_l gb2 ((jc6 U.int bs _).trans (congrArg _ ex)),ix_l gb2 ((jc6 U.int bs _).trans (congrArg _ ey))];refine⟨trivial,by lia,jac fb (by decide) (by decide) λr G2 a2 b2 f2 s2=>?_⟩
 have S2:=sa.trans (sb.trans s2);obtain⟨gap,hg⟩:∃gap,gap=(x-y)%P:=⟨_,rfl⟩;have g0:0<=gap:=by rw[hg];exact Yb4 _ (by lia)
 have g1:gap<P:=by rw[hg];exact YbG _ (by lia)
 rw[<- hg];simp! only[];by_cases hr:r=0
 ·rw[if_pos (by simpa using hr)]
  refine jac f2 (by lia) (by lia) λlo G3 a3 b3 f3 s3=>jac f3 (by lia) (by lia) λhi G4 a4 b4 f4 s4=>⟨by decide,?_⟩
  exact q ⟨"apart",o,t,lo,hi⟩ _ ⟨.inl rfl,by dsimp only;lia,by dsimp only;lia,by dsimp only;lia,by dsimp only;lia⟩ f4 (S2.trans (s3.trans s4))
 ·rw[if_neg (by simpa using hr)]
  refine jcM f2 h1 h2 λlo G3 a3 b3 f3 s3=>⟨by lia,jac f3 (by lia) (by lia) λr4 G4 a4 b4 f4 s4=>⟨by decide,λp G5 n5=>jac (f4.new n5) (by decide) (by decide) λr6 G6 a6 b6 f6 s6=>?_⟩⟩
  refine jaS [0,0,1,r4] (s6 _ _ (f4.away n5).1 n5.at) a6 b6 λz hz=>?_;have hz':0<=z/\z<=700:=by simp only[Yas,Yao,or_false]at hz;lia
  have e0:0<=(gap-lo)%P:=Yb4 _ (by lia)
  have e1:(gap-lo)%P<P:=YbG _ (by lia)
  simp! only[];exact⟨by decide,q ⟨"span",o,t,lo,lo+(gap-lo)%P+z⟩ _ ⟨.inr rfl,by dsimp only;lia,by dsimp only;lia,by dsimp only;lia,by dsimp only;lia⟩ f6 ((S2.trans (s3.trans s4)).nw n5 |>.trans s6)⟩


def jgg  {X: KX}{ss:List Spn}{G0 G3:Gp}(s0:Sm f G G0)(n0:G0 p5=none)(hf:Fd G3 f c)(h5:p5≠f/\p5≠c)(g5:G3 p5=some (.lst (ss.map Spn.u)))(sl:ss.length<=24)(so:∀s∈ss,s.Ok W)(w8:W<=8)(s3:Sm f G G3)
  (q:∀(xs:List Str) (ss:List Spn) G' ,xs.length=W->(∀x∈xs,Nm x)->ss.length<=24->(∀s∈ss,s.Ok W)->Fd G' f c->Sm f G G'->Q (jaH xs ss) G') :
  jaq T.gs (jab T (k+3)) jbq ⟨λ_ G'=>Q .non G',Q,λx _ G'=>X x G'⟩ [some (.loc f),some (.int W),some (.int m),some (.int P),some (.loc pb),some (.loc p5),o6] G3:=by
 have fin:∀(ss:List Spn) (G4:Gp),G4 p5=some (.lst (ss.map Spn.u))->ss.length<=24->(∀s∈ss,s.Ok W)->Fd G4 f c->Sm f G G4->jab T (k+3) jbK [.loc f,.int W] G4 (λx G1=>itU (.loc p5) G1 λxs _=>0+1+1<=Yae/\Q (.tup [x,.tup xs]) G1) X:=λss G4 g4 l4 o4 f4 s4=>by
  refine jhD f4 w8 λxs G5 lx nx f5 s5=>?_;rw[it_l (s5 _ _ h5.1 g4)];exact⟨by decide,q xs ss _ lx nx l4 o4 f5 (s4.trans s5)⟩
 simp! only[jbq,jgz g5,Yai];by_cases z1:(0:Int)<ss.length
 ·rw[if_pos (by simpa using z1)]
  by_cases z2:(ss.length:Int)<24
  ·rw[if_pos (by simpa using z2)]
   refine jac hf (by decide) (by decide) λr G4 a4 b4 f4 s4=>?_
   have g4:=s4 _ _ h5.1 g5;simp! only[];by_cases hr:r=0
   ·rw[if_pos (by simpa using hr)]
    simp! only[jlo g4,jgz g4,Yai];refine jac f4 (by lia) (by lia) λr5 G5 a5 b5 f5 s5=>?_
    have g5':=s5 _ _ h5.1 g4;obtain⟨x,hx⟩:∃x,ss[0]?=some x:=⟨ss[0]'(by lia),Ybf _⟩
    have ox:=so x (YaL hx);rw[ix_l g5' (show atI (ss.map Spn.u) 0=some x.u from(jc6 Spn.u ss _).trans (congrArg _ (jbN (j:=0) hx))),jm6 g5'];obtain⟨j,rfl⟩:=YaD a5;refine⟨by lia,by rw[Yai];lia,by rw[Yai];exact Ybq sl (by decide),λG6 p6=>?_⟩
    have e:(ss.map Spn.u).take (j:Int).toNat++x.u::(ss.map Spn.u).drop (j:Int).toNat=(ss.take j++x::ss.drop j).map Spn.u:=by
     rw[Ycq,Yb0,List.map_take,YaI,List.map_drop]
    rw[e]at p6;refine fin (ss.take j++x::ss.drop j) G6 p6.at ?_ (λs hs=>?_) (f5.off h5 p6) (Sm.wr s0 n0 (s3.trans (s4.trans s5)) p6)
    ·simp;lia
    ·rcases Yds.mp hs with z|z
     ·exact so s (YcK z)
     ·rcases Yas.mp z with rfl|z
      ·exact ox
      ·exact so s (List.mem_of_mem_drop z)
   ·rw[if_neg (by simpa using hr)]
    exact fin ss G4 g4 sl so f4 (s3.trans s4)
  ·rw[if_neg (by simpa using z2)]
   exact fin ss G3 g5 sl so hf s3
 ·rw[if_neg (by simpa using z1)]
  exact fin ss G3 g5 sl so hf s3
def jjt     (hf:Fd G f c)(h1:1<=P)(h2:P<=600)(w0:0<W)(w8:W<=8)(m0:0<=m)(m1:m<=24)
  (q:∀(xs:List Str) (ss:List Spn) G' ,xs.length=W->(∀x∈xs,Nm x)->ss.length<=24->(∀s∈ss,s.Ok W)->Fd G' f c->Sm f G G'->Q (jaH xs ss) G'):jab T (k+4) jdj [.loc f,.int W,.int m,.int P] G Q X:=by
 refine⟨rfl,?_⟩;simp! only[jds,jad,Yab];refine⟨by lia,by lia,by rw[jaW];exact Yag w8 (by decide),?_⟩
 refine jaG (λi acc G'=>Fd G' f c/\Sm f G G'/\∃bs:List Int,acc=bs.map .int/\bs.length=i) ?_ ?_ ⟨hf,Sm.refl,[],rfl,rfl⟩
 ·rintro acc G1 ⟨f1,s1,bs,rfl,hl⟩;rw[jaW]at hl;refine⟨trivial,λpb G2 n2=>?_⟩;simp! only[];refine⟨by decide,λp5 G3 n3=>?_⟩
  have f2:=f1.new n2;have hb:=f1.away n2;have h5:=f2.away n3;have s2:=s1.nw n2;refine jac (f2.new n3) (by lia) (by lia) λm' G4 a4 b4 f4 s4=>?_
  have hb5:p5≠pb:=jeL n2.at n3.no;refine⟨by lia,by lia,?_⟩
  refine jbi (λi ς G'=>∃(ss:List Spn) (o6:Option U),ς=[some (.loc f),some (.int W),some (.int m),some (.int P),some (.loc pb),some (.loc p5),o6]/\Fd G' f c/\Sm f G G'/\G' pb=some (.lst (bs.map .int))/\G' p5=some (.lst (ss.map Spn.u))/\ss.length=i/\∀s∈ss,s.Ok W) ?_ ?_
   ⟨[],_,rfl,f4,(s2.nw n3).trans s4,s4 _ _ hb.1 (n3.sa _ _ n2.at),s4 _ _ h5.1 n3.at,rfl,λ_ h=>nomatch h⟩
  ·rintro ς G5 ⟨ss,o6,rfl,f5,s5,gb,g5,l5,o5⟩;rw[jaW]at l5;exact⟨trivial,jgg s2 n3.no f5 h5 g5 (by lia) o5 w8 s5 q⟩
  ·rintro i x ς G5 K hx ⟨ss,o6,rfl,f5,s5,gb,g5,l5,o5⟩ hk;obtain⟨hi,rfl⟩:=jez hx;refine⟨trivial,?_⟩;simp! only[];have add:∀(s:Spn) (G6:Gp),s.Ok W->Fd G6 f c->Sm f G5 G6->ja7 .append (.loc p5) [s.u] G6 λ_ G1=>K [some (.loc f),some (.int W),some (.int m),some (.int P),some (.loc pb),some (.loc p5),some (.int i)] G1:=λs G6 os f6 s6=>by
    have g6:=s6 _ _ h5.1 g5;rw[jhW g6];refine⟨by rw[Yai];exact Yam (show ss.length<25 by lia) (by decide),λG7 p7=>?_⟩
    refine hk _ _ ⟨ss++[s],_,rfl,f6.off h5 p7,Sm.wr s2 n3.no (s5.trans s6) p7,p7.sm _ _ (Ne.symm hb5) (s6 _ _ hb.1 gb),by rw[Yb0];exact p7.at,by simp[l5],λz hz=>?_⟩
    rcases Yds.mp hz with z'|z'
    ·exact o5 z z'
    ·rw[List.mem_singleton.mp z'];exact os
   refine jac f5 (by decide) (by decide) λr G6 a6 b6 f6 s6=>?_
   have g6:=s6 _ _ h5.1 g5;simp! only[];by_cases hr:0<r
   ·rw[if_pos (by simpa using hr)]
    simp! only[jeh g6];exact jfH f6 h1 h2 (s6 _ _ hb.1 gb) hb.1 hl w0 w8 λs G7 os f7 s7=>add s G7 os f7 (s6.trans s7)
   ·rw[if_neg (by simpa using hr)]
    simp! only[jeh g6];exact jjs f6 h1 h2 w0 w8 λs G7 os f7 s7=>add s G7 os f7 (s6.trans s7)
 ·rintro i x acc G1 K hx ⟨f1,s1,bs,rfl,hl⟩ hk _;exact⟨trivial,jac f1 (by lia) (by lia) λr G2 a2 b2 f2 s2=>hk _ _ ⟨f2,s1.trans s2,bs++[r],by simp,by simp[hl]⟩⟩

def jjx     (h:k false):cmpU .NotEq (.str x) (.str x) G k:=by
 show k (!decide (x=x));rw[decide_eq_true rfl];exact h

mutual
inductive Th (G:Gp):U->PyData->Prop
 |non:Th G .non .none
 |bl (b:Bool):Th G (.bl b) (.bool b)
 |int (i:Int):Th G (.int i) (.int i)
 |str (x:Str):Th G (.str x) (.str x)
 |tup {us:List U} {ds:List PyData}:Ths G us ds->Th G (.tup us) (.tuple ds)
 |lst {a:Addr} {us:List U} {ds:List PyData}:G a=some (.lst us)->Ths G us ds->Th G (.loc a) (.list ds)
 |dic {a:Addr}:G a=some (.dK [])->Th G (.loc a) (.dict [])
inductive Ths (G:Gp):List U->List PyData->Prop
 |nil:Ths G [] []
 |cons {u:U} {d:PyData} {us:List U} {ds:List PyData}:Th G u d->Ths G us ds->Ths G (u::us) (d::ds)
end
mutual
theorem Th.du {G:Gp}:∀{u:U} {d:PyData},Th G u d->DU G u d
 |_,_,.non=>.non
 |_,_,.bl b=>.bl b
 |_,_,.int i=>.int i
 |_,_,.str x=>.str x
 |_,_,.tup h=>.tup (Ths.dus h)
 |_,_,.lst g h=>.lst (by unfold lsG;rw[g]) (Ths.dus h)
 |_,_,.dic g=>.dic g
theorem Ths.dus {G:Gp}:∀{us:List U} {ds:List PyData},Ths G us ds->DUs G us ds
 |_,_,.nil=>.nil
 |_,_,.cons a b=>.cons (Th.du a) (Ths.dus b)
end
mutual
theorem Th.mono {G G':Gp}{f c:Addr}(hf:Fd G f c)(s:Sm f G G'):∀{u:U} {d:PyData},Th G u d->Th G' u d
 |_,_,.non=>.non
 |_,_,.bl b=>.bl b
 |_,_,.int i=>.int i
 |_,_,.str x=>.str x
 |_,_,.tup h=>.tup (Ths.mono hf s h)
 |_,_,.lst g h=>.lst (s _ _ (λe=>by obtain⟨ns,x,y,z,h1,_⟩:=hf.ex;rw[e,h1]at g;cases g) g) (Ths.mono hf s h)
 |_,_,.dic g=>.dic (s _ _ (λe=>by obtain⟨ns,x,y,z,h1,_⟩:=hf.ex;rw[e,h1]at g;cases g) g)
theorem Ths.mono {G G':Gp}{f c:Addr}(hf:Fd G f c)(s:Sm f G G'):∀{us:List U} {ds:List PyData},Ths G us ds->Ths G' us ds
 |_,_,.nil=>.nil
 |_,_,.cons a b=>.cons (Th.mono hf s a) (Ths.mono hf s b)
end
mutual
theorem Th.sa {G G':Gp}(s:Sa G G'):∀{u:U} {d:PyData},Th G u d->Th G' u d
 |_,_,.non=>.non
 |_,_,.bl b=>.bl b
 |_,_,.int i=>.int i
 |_,_,.str x=>.str x
 |_,_,.tup h=>.tup (Ths.sa s h)
 |_,_,.lst g h=>.lst (s _ _ g) (Ths.sa s h)
 |_,_,.dic g=>.dic (s _ _ g)
theorem Ths.sa {G G':Gp}(s:Sa G G'):∀{us:List U} {ds:List PyData},Ths G us ds->Ths G' us ds
 |_,_,.nil=>.nil
 |_,_,.cons a b=>.cons (Th.sa s a) (Ths.sa s b)
end
section
variable {G:Gp}
theorem Ths.get  : ∀{us } {ds } {i:Nat} {u },Ths G us ds->us[i]?=some u->∃d,ds[i]?=some d/\Th G u d
 |_,_,_,_,.nil,e=>by simp at e
 |_,_,0,_,.cons a _,e=>by simp at e;subst e;exact⟨_,rfl,a⟩
 |_,_,i+1,u,.cons _ b,e=>by
  obtain⟨d,e1,h⟩:=Ths.get (i:=i) (u:=u) b (by simpa using e)
  exact⟨d,by simpa using e1,h⟩
end
noncomputable def kdD  : PyData->String
 |.none => "NoneType"
 |.bool _ => "bool"
 |.int _ => "int"
 |.str _ => "str"
 |.tuple _ => "tuple"
 |.list _ => "list"
 |.dict _ => "dict"
def isD  (d:PyData)(t:String):Bool:=kdD d==t||(kdD d == "bool" && t == "int")
def jmm     (h:Th G u d):tyN u G=some (kdD d):=by
 cases h with
 |lst g _=>unfold tyN;dsimp only;rw[g];rfl
 |dic g=>unfold tyN;dsimp only;rw[g];rfl
 |_=>rfl
def jaf       (h:Th G u d)(ht:t∈["bool", "int", "str", "list", "tuple", "dict"]):jeS [u,.ty t] G Q=Q (.bl (isD d t)) G:=by
 unfold jeS isiU;dsimp only;rw[jmm h];dsimp only;rw[if_pos ht];rfl
noncomputable def isI  : U->Bool
 |.int _=>true
 |_=>false
noncomputable def inI  (lo hi:Int):U->Bool
 |.int i=>decide (lo<=i)&&decide (i<=hi)
 |_=>false

def jhC  (h:Th G u d)(q:Q (.bl (isI u)) G):jab T (k+1) jdl [u] G Q X:=by
 refine⟨rfl,?_⟩;simp! only[jdw,jad,Yab,jaf h (show "int" ∈ ["bool", "int", "str", "list", "tuple", "dict"] by decide),jaf h (show "bool" ∈ ["bool", "int", "str", "list", "tuple", "dict"] by decide)]
 cases h<;>exact q
def jbS   (h:Th G u d)(q:Q (.bl (inI lo hi u)) G):jab T (k+2) jas [u,.int lo,.int hi] G Q X:=by
 refine⟨rfl,?_⟩;simp! only[jcY,jad,Yab];refine jhC h ?_;simp! only[];cases h with
 |int i=>
  rw[show isI (.int i)=true from rfl,if_pos rfl];simp! only[];by_cases c:lo<=i
  ·rw[if_pos (decide_eq_true c)];have:inI lo hi (.int i)=decide (i<=hi):=by show(decide (lo<=i)&&_)=_;rw[decide_eq_true c];rfl
   rw[this]at q;exact q
  ·rw[if_neg (by simpa using c)]
   have:inI lo hi (.int i)=false:=by show(decide (lo<=i)&&_)=_;rw[decide_eq_false c];rfl
   rw[this]at q;exact q
 |_=>exact q

def rowI  (n:Int)(lo hi:Int):U->Bool
 |.tup us=>decide ((us.length:Int)=n)&&us.all (inI lo hi)
 |_=>false
section
variable {k:Nat}{G:Gp}{Q:K1}{X:KX}{u:U}{d:PyData}
def jbT   (h:Th G u d)(q:Q (.bl (inI lo hi u)) G):jab T (k+1) jaN [u,.int lo,.int hi] G Q X:=by
 refine⟨rfl,?_⟩;simp! only[jcV,jad,Yab,jaf h (show "int" ∈ ["bool", "int", "str", "list", "tuple", "dict"] by decide),jaf h (show "bool" ∈ ["bool", "int", "str", "list", "tuple", "dict"] by decide)]
 cases h with
 |int i=>
  rw[show isD (.int i) "int" = true from rfl,if_pos rfl,show isD (.int i) "bool" = false from rfl,if_pos (by decide)]
  simp! only[];by_cases c:lo<=i
  ·rw[if_pos (decide_eq_true c)];have:inI lo hi (.int i)=decide (i<=hi):=by show(decide (lo<=i)&&_)=_;rw[decide_eq_true c];rfl
   rw[this]at q;exact q
  ·rw[if_neg (by simpa using c)]
   have:inI lo hi (.int i)=false:=by show(decide (lo<=i)&&_)=_;rw[decide_eq_false c];rfl
   rw[this]at q;exact q
 |_=>exact q
theorem jdB  : ∀bs ,jcp (bs.map .bl)=some bs
 |[]=>rfl
 |b::r=>by
  show(match jcp (r.map .bl)with|some l=>some (b::l)|none=>none)=_
  rw[jdB r]
def jft   {bs:List Bool}(g:G p=some (.lst (bs.map .bl)))(q:Q (.bl (bs.all id)) G):allU [.loc p] G Q:=by
 unfold allU;dsimp only;rw[g];show(match jcp (bs.map .bl)with|some bs=>Q (.bl (bs.all id)) G|none=>False)
 rw[jdB];exact q
def Ths.mem    (h:Ths G us ds)(hx:x∈us):∃d,Th G x d:=by
 obtain⟨i,hi⟩:=List.getElem?_of_mem hx;obtain⟨d,_,t⟩:=h.get hi;exact⟨d,t⟩
def jea   (h:Th G u d)(hb:∀us,u=.tup us->us.length<=4000)(q:∀G',Sa G G'->Q (.bl (rowI n lo hi u)) G'):jab T (k+3) jbf [u,.int n,.int lo,.int hi] G Q X:=by
 refine⟨rfl,?_⟩;simp! only[jcZ,jad,Yab,jaf h (show "tuple" ∈ ["bool", "int", "str", "list", "tuple", "dict"] by decide)]
 cases h with
 |@tup us ds hs=>
  have l4:us.length<=Yae:=Yag (hb us rfl) (by decide)
  rw[show isD (.tuple ds) "tuple" = true from rfl,if_pos rfl];simp! only[];by_cases c:(us.length:Int)=n
  ·rw[if_neg (show ¬((!decide ((us.length:Int)=n))=true) by simp[c])]
   refine⟨l4,?_⟩;refine jba (λu=>.bl (inI lo hi u)) trivial (λx hx K hk=>?_) ?_
   ·obtain⟨d',t⟩:=hs.mem hx;exact jbS (k:=k) t hk
   ·intro p G1 n1;refine jft (bs:=us.map (inI lo hi)) (by rw[n1.at,Ya9];rfl) ?_
    have e:rowI n lo hi (.tup us)=(us.map (inI lo hi)).all id:=by
     show(decide _&&_)=_;rw[decide_eq_true c,YcA];rfl
    exact e ▸ q G1 n1.sa
  ·rw[if_pos (show(!decide ((us.length:Int)=n))=true by simp[c])]
   have e:rowI n lo hi (.tup us)=false:=by
    show(decide _&&_)=_;rw[decide_eq_false c];rfl
   exact e ▸ q G Sa.refl
 |_=>exact q G Sa.refl
end


theorem jiy  : ∀bs:List Bool,((bs.map U.bl).any λy=>eqF y (.bl false)) = !bs.all id
 |[]=>rfl
 |b::r=>by
  have h:=jiy r;rw[YaI,Yba,h,YbC];cases b<;>rfl
def jgK  {bs:List Bool}{kk:Bool->Prop}(g:G p=some (.lst (bs.map .bl)))(q:kk (!bs.all id)):inU (.bl false) (.loc p) G kk:=by
 refine in_l g rfl ?_ ?_
 ·rw[YcA];exact YbU.mpr λ_ _=>rfl
 ·rw[jiy];exact q
def jbH   (h:Th G u d)(hb:∀us,u=.tup us->us.length<=4000)(q:∀G',Sa G G'->Q (.bl (rowI n 0 hi u)) G'):jab T (k+3) jaF [u,.int n,.int hi] G Q X:=by
 refine⟨rfl,?_⟩;simp! only[ja9,jad,Yab,jaf h (show "tuple" ∈ ["bool", "int", "str", "list", "tuple", "dict"] by decide)]
 cases h with
 |@tup us ds hs=>
  have l4:us.length<=Yae:=Yag (hb us rfl) (by decide)
  rw[show isD (.tuple ds) "tuple" = true from rfl];simp! only[];rw[if_neg (by decide)]
  by_cases c:(us.length:Int)=n
  ·rw[if_neg (show ¬((!decide ((us.length:Int)=n))=true) by simp[c])]
   refine⟨l4,?_⟩;refine jba (λu=>.bl (inI 0 hi u)) trivial (λx hx K hk=>?_) ?_
   ·obtain⟨d',t⟩:=hs.mem hx;exact jbT (k:=k+1) t hk
   ·intro p G1 n1;refine jgK (bs:=us.map (inI 0 hi)) (by rw[n1.at,Ya9];rfl) ?_
    have e:rowI n 0 hi (.tup us)=(us.map (inI 0 hi)).all id:=by
     show(decide _&&_)=_;rw[decide_eq_true c,YcA];rfl
    rw[Bool.not_not];exact e ▸ q G1 n1.sa
  ·rw[if_pos (show(!decide ((us.length:Int)=n))=true by simp[c])]
   have e:rowI n 0 hi (.tup us)=false:=by
    show(decide _&&_)=_;rw[decide_eq_false c];rfl
   exact e ▸ q G Sa.refl
 |_=>exact q G Sa.refl


def jeG  (h:Th G u d)(q:Q (.bl (inI 1 600 u)) G):jab T (k+3) jdm [u] G Q X:=by
 refine⟨rfl,?_⟩;simp! only[jdx,jad,Yab];exact jbS (k:=k) h q
def jed   (h:Th G u d)(hb:∀us,u=.tup us->us.length<=4000)(q:∀G',Sa G G'->Q (.bl (rowI xs.length 0 (P-1) u)) G'):jab T (k+4) jcP [jaH xs ss,.int P,u] G Q X:=by
 refine⟨rfl,?_⟩;simp! only[jc2,jad,Yab,jaH,ix_t (jde _ _),Yai];exact jea (k:=k) h hb q
def jdc  (h:Th G u d)(hb:∀us,u=.tup us->us.length<=4000)(q:∀G',Sa G G'->Q (.bl (rowI ss.length 0 99 u)) G'):jab T (k+4) jbX [jaH xs ss,u] G Q X:=by
 refine⟨rfl,?_⟩;simp! only[jb6,jad,Yab,jaH,ix_t (jjZ _ _ _),Yai];show jab T (k+3) jbf [u,.int ss.length,.int 0,.int 99] G Q λx G1=>X x G1;exact jea (k:=k) h hb q

def jlw  : ∀c,c<128->(!(YaU "abcdefghijklmnopqrstuvwxyz" ⟨#[c]⟩ 0 ("abcdefghijklmnopqrstuvwxyz" : Str).length 1).isEmpty)=decide (97<=c/\c<=122):=by
 have h:∀d∈Ybm 128,(!(YaU "abcdefghijklmnopqrstuvwxyz" ⟨#[d]⟩ 0 ("abcdefghijklmnopqrstuvwxyz" : Str).length 1).isEmpty)=decide (97<=d/\d<=122):=by decide +kernel
 exact λc hc=>h c (List.mem_range.mpr hc)
def lex2  {a b:Nat}:decide ([a] < [b])=decide (a<b):=by
 refine decide_eq_decide.mpr ?_;rw[List.cons_lt_cons_iff];simp
def jj1  {l:List Nat}[DecidablePred P]:(l.map λc=>decide (P c)).all id=decide (∀c∈l,P c):=by
 rw[Ybt,YbU,decide_eq_true_iff];constructor
 ·exact λh c hc=>of_decide_eq_true (h _ (List.mem_map.mpr ⟨c,hc,rfl⟩))
 ·rintro h b hb;obtain⟨c,hc,rfl⟩:=List.mem_map.mp hb;exact decide_eq_true (h c hc)
theorem jip {f:Nat->Bool}:∀l:List Nat,(l.map λc=>U.str ⟨#[c]⟩).filterMap (λu=>match u with|.str s=>if f (s.cps.toList.headD 0)=true then some u else none|_=>none)=(l.filter f).map λc=>U.str ⟨#[c]⟩
 |[]=>rfl
 |c::r=>by
  rw[YaI,Ybh,jip r,Ye0];have e:f ((⟨#[c]⟩:Str).cps.toList.headD 0)=f c:=rfl;dsimp only;rw[e];cases f c<;>rfl
def jjP  {l:List Nat}[DecidablePred P]:(l.filter λc=>!decide (P c))=[]↔∀c∈l,P c:=by
 rw[Yd6];simp
def Na  (x:Str):Prop:=0<x.length/\x.length<=8/\∀c∈x.cps.toList,97<=c/\c<=122
instance (x:Str):Decidable (Na x):=by unfold Na;infer_instance

def g0   : glU T.gs 0 φ=φ (.int 8):=rfl
def jjD   : lenU [.str x] G Q=(x.length<=Yae/\Q (.int x.length) G):=rfl
def jfL    : cmpU .LtE (.int x) (.int y) G φ=φ (decide (x<=y)):=rfl
def jly    : cmpU .LtE (.str x) (.str y) G φ=φ (!decide (y.cps.toList<x.cps.toList)):=rfl
def jm7    : inU (.str x) (.str y) G φ=φ (!(YaU y x 0 y.length 1).isEmpty):=rfl
def sg_s    : sgU (.str z) φ=(z.cps.all (·< 128)=true/\φ (z.cps.toList.map λc=>.str ⟨#[c]⟩)):=rfl
def jkf    : truU (.bl b) G φ=φ b:=rfl
def jg9  {z:Str}(h:∀c∈z.cps.toList,c<128):z.cps.all (·< 128)=true:=by
 rw[<- Ycs];exact YbU.mpr λc hc=>decide_eq_true (h c hc)
def jgG   : jeS [.str x,.ty "str"] G Q=Q (.bl true) G:=rfl
def jjW  {z:Str}{kk:List U->Gp->Prop}(hb:∀c∈z.cps.toList,∀K ,K (some (.bl (f c))) G->b (.str ⟨#[c]⟩) G K)(q:kk ((z.cps.toList.map f).map .bl) G) :
  jck (λ_=>True) b (z.cps.toList.map λc=>.str ⟨#[c]⟩) [] G kk:=by
 refine jba (λu=>match u with|.str s=>.bl (f (s.cps.toList.headD 0))|_=>.non) trivial (λx hx K hk=>?_) ?_
 ·obtain⟨c,hc,rfl⟩:=List.mem_map.mp hx;exact hb c hc K hk
 ·rw[YaR,Ya9];rw[Ya9]at q;exact q
def jjV  {z:Str}{kk:List U->Gp->Prop}(hb:∀c∈z.cps.toList,∀K ,K (if f c=true then some (.str ⟨#[c]⟩) else none) G->b (.str ⟨#[c]⟩) G K)(q:kk ((z.cps.toList.filter f).map λc=>.str ⟨#[c]⟩) G) :
  jck (λ_=>True) b (z.cps.toList.map λc=>.str ⟨#[c]⟩) [] G kk:=by
 refine jbC (λu=>match u with|.str s=>if f (s.cps.toList.headD 0)=true then some u else none|_=>none) trivial (λx hx K hk=>?_) ?_
 ·obtain⟨c,hc,rfl⟩:=List.mem_map.mp hx;exact hb c hc K hk
 ·rw[YaR,jip];exact q
def jeH   (hx:x.length<=10000)(ha:∀c∈x.cps.toList,c<128)(q:∀G',Sa G G'->Q (.bl (decide (Na x))) G'):jab T (k+1) jby [.str x] G Q X:=by
 have hs:x.length<=Yae:=Yag hx (by decide)
 have hlen:x.cps.toList.length=x.length:=by simp[Yc5]
 refine⟨rfl,?_⟩;simp! only[jc0,jad,Yab,jjD,jfL,g0,sg_s,jgG,jkf];refine⟨hs,?_⟩;by_cases h1:1<=x.length
 ·rw[if_pos (by simp;lia)]
  by_cases h8:x.length<=8
  ·rw[if_neg (by simp;lia)]
   refine⟨jg9 ha,by rw[Yai,hlen];exact hs,?_⟩
   refine jjW (f:=λc=>decide (97<=c/\c<=122)) (λc hc K hk=>?_) λp G1 n1=>jft n1.at ?_
   ·have ea:("a" : Str).cps.toList=[97]:=by decide +kernel
    have ez:("z" : Str).cps.toList=[122]:=by decide +kernel
    rw[jly,ea,show(⟨#[c]⟩:Str).cps.toList=[c]from rfl,lex2];by_cases hc1:97<=c
    ·rw[if_pos (by simp;lia),jly,ez,show(⟨#[c]⟩:Str).cps.toList=[c]from rfl,lex2]
     have e:(!decide (122<c))=decide (97<=c/\c<=122):=by
      rw[Ybt];simp
      lia
     rw[e];exact hk
    ·rw[if_neg (by simp;lia)]
     rw[show decide (97<=c/\c<=122)=false from decide_eq_false λz=>hc1 z.1]at hk;exact hk
   ·rw[jj1];have e:decide (∀c∈x.cps.toList,97<=c/\c<=122)=decide (Na x):=decide_eq_decide.mpr ⟨λh=>⟨h1,h8,h⟩,λh=>h.2.2⟩;rw[e];exact q G1 n1.sa
  ·rw[if_pos (by simp;lia)]
   have:=q G λ_ _ h=>h;rw[decide_eq_false λh:Na x=>h8 h.2.1]at this;exact this
 ·rw[if_neg (by simp;lia)]
  have:=q G λ_ _ h=>h;rw[decide_eq_false λh:Na x=>h1 h.1]at this;exact this


theorem jdL  : ∀l:List Str,noBs (l.map Ybx)=true
 |[]=>rfl
 |_::r=>by
  show(noB (.str _)&&noBs (r.map Ybx))=true;rw[jdL r];rfl
def jhg  {l l':List Str}(h:l.map Ybx=l'.map Ybx):l=l':=by
 have:=congrArg (List.map λd:PyData=>match d with|.str x=>x|_ => "") h
 rw[Ya9,Ya9]at this;have e:((λd:PyData=>match d with|.str x=>x|_ => "") ∘ Ybx)=id:=rfl
 rw[e,List.map_id,List.map_id]at this;exact this
def jdh  {l:List Str}(h:∀x∈l,∀c∈x.cps.toList,c<128):Small (.list (l.map .str))/\DUs G (l.map .str) (l.map Ybx):=by
 have hs:∀u∈l.map U.str,Sml 0 u:=λu hu=>by
  obtain⟨x,hx,rfl⟩:=List.mem_map.mp hu;exact Sml.str (h x hx)
 obtain⟨h1,h2,h3⟩:=smls hs;have e:pds (l.map U.str)=l.map Ybx:=by rw[jia,Ya9];rfl
 rw[e]at h2 h3;refine⟨⟨h2,?_⟩,by have:=jgT (G:=G) h1;rw[e]at this;exact this⟩
 show YbA (l.map Ybx)+1<=100
 lia
def jgR   {l l':List Str}(ga:G a=some (.lst (l.map .str)))(gb:G b=some (.lst (l'.map .str)))(h:∀x∈l,∀c∈x.cps.toList,c<128)(h':∀x∈l',∀c∈x.cps.toList,c<128)(q:φ (decide (l=l'))):eqU (.loc a) (.loc b) G φ:=by
 obtain⟨s1,d1⟩:=jdh (G:=G) h;obtain⟨s2,d2⟩:=jdh (G:=G) h';refine⟨.list (l.map .str),.list (l'.map .str),.lst (by unfold lsG;rw[ga]) d1,.lst (by unfold lsG;rw[gb]) d2,s1,s2,?_⟩
 have e:YaA (.list (l.map .str)) (.list (l'.map .str))=decide (l=l'):=by
  by_cases hl:l=l'
  ·subst hl;rw[PySem.SeqAt.eqv_refl _ s1.1];simp
  ·rw[decide_eq_false hl];cases e:YaA (.list (l.map .str)) (.list (l'.map .str))with
   |false=>rfl
   |true=>
    have:=jiq (d:=.list (l.map .str)) (e:=.list (l'.map .str)) (jdL l) (jdL l') e;exact absurd (jhg (PyData.list.inj this)) hl
 rw[e];exact q
def jjX    : cmpU .NotEq (.loc a) (.loc b) G φ=eqU (.loc a) (.loc b) G λb=>φ (!b):=rfl


def jdb   (hx:x.length<=10000)(ha:∀c∈x.cps.toList,c<128)(q:∀G',Sa G G'->Q (.bl (decide (Na x))) G'):jab T (k+1) jaA [.str x] G Q X:=by
 have hs:x.length<=Yae:=Yag hx (by decide)
 have hlen:x.cps.toList.length=x.length:=by simp[Yc5]
 refine⟨rfl,?_⟩;simp! only[jbk,jad,Yab,jjD,jfL,sg_s,jgG,jkf];rw[if_neg (by decide)]
 refine⟨hs,?_⟩;by_cases h1:1<=x.length
 ·rw[if_pos (by simp;lia)]
  by_cases h8:x.length<=8
  ·rw[if_neg (by simp;lia)]
   refine⟨jg9 ha,by rw[Yai,hlen];exact hs,?_⟩
   refine jjV (f:=λc=>!decide (97<=c/\c<=122)) (λc hc K hk=>?_) λp G1 n1=>⟨by decide,λp2 G2 n2=>?_⟩
   ·show inU _ _ _ _;rw[jm7];have e:=jlw c (ha c hc);rw[show(Ya3 "abcdefghijklmnopqrstuvwxyz")=("abcdefghijklmnopqrstuvwxyz" : Str)from rfl,e];cases hd:decide (97<=c/\c<=122)<;>rw[hd]at hk<;>exact hk
   ·have g1:G2 p=some (.lst (((x.cps.toList.filter λc=>!decide (97<=c/\c<=122)).map λc=>(⟨#[c]⟩:Str)).map .str)):=by
     rw[n2.sa _ _ n1.at,Ya9];rfl
    refine(?_:eqU (.loc p) (.loc p2) G2 λb=>Q (.bl b) G2);refine jgR (l':=[]) g1 n2.at (λy hy c hc=>?_) (λ_ h=>nomatch h) ?_
    ·obtain⟨d,hd,rfl⟩:=List.mem_map.mp hy;rw[show c=d by simpa using hc]
     exact ha d (List.mem_filter.mp hd).1
    ·have e:decide (((x.cps.toList.filter λc=>!decide (97<=c/\c<=122)).map λc=>(⟨#[c]⟩:Str))=[])=decide (Na x):=by
      refine decide_eq_decide.mpr ?_;rw[List.map_eq_nil_iff,jjP];exact⟨λh=>⟨h1,h8,h⟩,λh=>h.2.2⟩
     rw[e];exact q G2 (n1.sa.trans n2.sa)
  ·rw[if_pos (by simp;lia)]
   have:=q G λ_ _ h=>h;rw[decide_eq_false λh:Na x=>h8 h.2.1]at this;exact this
 ·rw[if_neg (by simp;lia)]
  have:=q G λ_ _ h=>h;rw[decide_eq_false λh:Na x=>h1 h.1]at this;exact this

noncomputable def nmB  : U->Bool
 |.str x=>decide (Na x)
 |_=>false
def Asc  (x:Str):Prop:=x.length<=10000/\∀c∈x.cps.toList,c<128
section
variable {k n:Nat}{G:Gp}{Q:K1}{X:KX}{u:U}{d:PyData}
def jci  (h:Th G u d)(hx:∀x,u=.str x->Asc x)(q:∀G',Sa G G'->Q (.bl (nmB u)) G'):jab T (k+1) jby [u] G Q X:=by
 by_cases c:∃x,u=.str x
 ·obtain⟨x,rfl⟩:=c;exact jeH (hx x rfl).1 (hx x rfl).2 q
 ·refine⟨rfl,?_⟩;simp! only[jc0,jad,Yab,jaf h (show "str" ∈ ["bool", "int", "str", "list", "tuple", "dict"] by decide)]
  cases h with
  |str x=>exact absurd ⟨x,rfl⟩ c
  |_=>exact q G Sa.refl
def jbJ  (h:Th G u d)(hx:∀x,u=.str x->Asc x)(q:∀G',Sa G G'->Q (.bl (nmB u)) G'):jab T (k+1) jaA [u] G Q X:=by
 by_cases c:∃x,u=.str x
 ·obtain⟨x,rfl⟩:=c;exact jdb (hx x rfl).1 (hx x rfl).2 q
 ·refine⟨rfl,?_⟩;simp! only[jbk,jad,Yab,jaf h (show "str" ∈ ["bool", "int", "str", "list", "tuple", "dict"] by decide)]
  cases h with
  |str x=>exact absurd ⟨x,rfl⟩ c
  |_=>exact q G Sa.refl
end

mutual
noncomputable def gdD (B:Nat):PyData->Bool
 |.str x=>x.cps.all (·< 128)
 |.int i=>decide (i.natAbs<B)
 |.tuple ds=>gdDs B ds
 |.list ds=>gdDs B ds
 |.dict kvs=>kvs.isEmpty
 |_=>true
noncomputable def gdDs (B:Nat):List PyData->Bool
 |[]=>true
 |d::ds=>gdD B d&&gdDs B ds
end
mutual
theorem jik {B C:Nat}(h:B<=C):∀{d:PyData},gdD B d=true->gdD C d=true
 |.str _,q=>q
 |.int i,q=>decide_eq_true (Yam (of_decide_eq_true (show decide (i.natAbs<B)=true from q)) h)
 |.tuple _,q=>jdN h (show gdDs B _=true from q)
 |.list _,q=>jdN h (show gdDs B _=true from q)
 |.dict _,q=>q
 |.none,_=>rfl
 |.bool _,_=>rfl
theorem jdN {B C:Nat}(h:B<=C):∀{ds:List PyData},gdDs B ds=true->gdDs C ds=true
 |[],_=>rfl
 |d::ds,q=>by
  have q:(gdD B d&&gdDs B ds)=true:=q
  rw[Yap]at q
  show(gdD C d&&gdDs C ds)=true
  rw[jik h q.1,jdN h q.2];rfl
end
mutual
noncomputable def szD:PyData->Nat
 |.str x=>10*x.length+2
 |.int _=>50
 |.tuple ds=>szDs ds+3
 |.list ds=>szDs ds+3
 |_=>5
noncomputable def szDs:List PyData->Nat
 |[]=>0
 |d::ds=>szD d+2+szDs ds
end
def jgJ   (h:i.natAbs<10 ^ 40):(PyData.int i).showable=true/\(PyData.int i).shown.length<=50:=by
 have hl:i.natAbs.log2<1920:=by
  by_cases z:i.natAbs=0
  ·rw[z];decide
  ·exact Yam ((Nat.log2_lt z).mpr (Yam h (by decide:10 ^ 40<=2 ^ 140))) (by decide)
 refine⟨by simp[YbY,hl],?_⟩
 simp only[Yby];have:=int_text_length_le10 (a:=i) (k:=40) (by decide) h
 show(PySem.Str.ofString (toString i)).length<=50;rw[ofString_length]
 lia
mutual
theorem jki {B:Nat}(hB:B<=10 ^ 40):∀{d:PyData},gdD B d=true->d.showable=true/\d.shown.length<=szD d
 |.none,_=>⟨rfl,by decide +kernel⟩
 |.bool b,_=>⟨rfl,by cases b<;>decide +kernel⟩
 |.int i,h=>jgJ (Yam (of_decide_eq_true (show decide (i.natAbs<B)=true from h)) hB)
 |.str x,h=>by
  have h:x.cps.all (·< 128)=true:=h
  rw[<- Ycs,YbU]at h
  refine⟨rfl,?_⟩
  simp only[Yby]
  exact Yag (StrLaws.reprText_len x λc hc=>Yek (of_decide_eq_true (h c hc)) (by decide)) (by show _<=10*x.length+2;lia)
 |.tuple ds,h=>by
  obtain⟨h1,h2⟩:=jf5 hB (show gdDs B ds=true from h)
  refine⟨by simp only[YbY];exact h1,?_⟩
  simp only[Yby]
  have hp:=jjH (YbX ds)
  have z:∀b:Bool,((((if b=true then ",)" else ")"):String):Str)).length<=2:=by decide
  have z:=z ((YbX ds).length==1)
  have one:(("(" : String):Str).length=1:=rfl
  simp only[tupleText,Yez]at z ⊢
  show _<=szDs ds+3
  lia
 |.list ds,h=>by
  obtain⟨h1,h2⟩:=jf5 hB (show gdDs B ds=true from h)
  refine⟨by simp only[YbY];exact h1,?_⟩
  simp only[Yby]
  have hp:=jcz (YbX ds) 0 "["
  have one:(("[" : String):Str).length=1/\(("]" : String):Str).length=1:=⟨rfl,rfl⟩
  simp only[listText,Yez]
  show _<=szDs ds+3
  lia
 |.dict kvs,h=>by
  have:kvs=[]:=List.isEmpty_iff.mp (show kvs.isEmpty=true from h)
  subst this
  exact⟨rfl,by decide +kernel⟩
theorem jf5 {B:Nat}(hB:B<=10 ^ 40):∀{ds:List PyData},gdDs B ds=true->Yeh ds=true/\piled (YbX ds)<=szDs ds
 |[],_=>⟨rfl,Yaa _⟩
 |d::ds,h=>by
  have h:(gdD B d&&gdDs B ds)=true:=h
  rw[Yap]at h
  obtain⟨a1,a2⟩:=jki hB h.1
  obtain⟨b1,b2⟩:=jf5 hB h.2
  refine⟨?_,?_⟩
  ·show(d.showable&&Yeh ds)=true
   rw[a1,b1];rfl
  ·rw[YbX,piled_cons]
   show _<=szD d+2+szDs ds
   lia
end
structure Td (G:Gp)(B N n:Nat)(u:U):Prop where
 ex:∃d,Th G u d/\gdD B d=true/\d.depth<=n/\szD d<=N
structure Tds (G:Gp)(B S n:Nat)(us:List U):Prop where
 ex:∃ds,Ths G us ds/\gdDs B ds=true/\YbA ds<=n/\szDs ds<=S
section
variable {G G':Gp}{B B' N N' S S' n n':Nat}{u:U}{us vs:List U}{f c:Addr}
def Td.sa  (h:Td G B N n u)(s:Sa G G'):Td G' B N n u:=let ⟨d,a,b⟩:=h.ex;⟨d,a.sa s,b⟩
def Td.sm  (h:Td G B N n u)(hf:Fd G f c)(s:Sm f G G'):Td G' B N n u:=let ⟨d,a,b⟩:=h.ex;⟨d,a.mono hf s,b⟩
def Td.up  (h:Td G B N n u)(h1:B<=B')(h2:N<=N')(h3:n<=n'):Td G B' N' n' u:=let ⟨d,a,b,c,e⟩:=h.ex;⟨d,a,jik h1 b,Yag c h3,Yag e h2⟩
def Tds.sa  (h:Tds G B S n us)(s:Sa G G'):Tds G' B S n us:=let ⟨d,a,b⟩:=h.ex;⟨d,a.sa s,b⟩
def Tds.sm  (h:Tds G B S n us)(hf:Fd G f c)(s:Sm f G G'):Tds G' B S n us:=let ⟨d,a,b⟩:=h.ex;⟨d,a.mono hf s,b⟩
def Tds.up  (h:Tds G B S n us)(h1:B<=B')(h2:S<=S')(h3:n<=n'):Tds G B' S' n' us:=let ⟨d,a,b,c,e⟩:=h.ex;⟨d,a,jdN h1 b,Yag c h3,Yag e h2⟩
def Tds.nil  : Tds G B 0 n []:=⟨[],.nil,rfl,YaN _,Yaa _⟩
def Tds.cons  (h:Td G B N n u)(hs:Tds G B S n us):Tds G B (N+2+S) n (u::us):=by
 obtain⟨d,a1,a2,a3,a4⟩:=h.ex;obtain⟨ds,b1,b2,b3,b4⟩:=hs.ex;refine⟨d::ds,.cons a1 b1,?_,Nat.max_le.mpr ⟨a3,b3⟩,by show szD d+2+szDs ds<=_;lia⟩
 show(gdD B d&&gdDs B ds)=true;rw[a2,b2];rfl
def Tds.one  (h:Td G B N n u):Tds G B (N+2) n [u]:=h.ex.elim λ_ _=>Tds.cons h Tds.nil
def Tds.uncons  (h:Tds G B S n (u::us)):∃N S',Td G B N n u/\Tds G B S' n us/\N+2+S'<=S:=by
 obtain⟨ds,b1,b2,b3,b4⟩:=h.ex;cases b1 with
 |@cons _ d _ ds a b=>
  have b2:(gdD B d&&gdDs B ds)=true:=b2;rw[Yap]at b2;have b3:max d.depth (YbA ds)<=n:=b3;have b4:szD d+2+szDs ds<=S:=b4;exact⟨_,_,⟨d,a,b2.1,(Nat.max_le.mp b3).1,Yaa _⟩,⟨ds,b,b2.2,(Nat.max_le.mp b3).2,Yaa _⟩,b4⟩
theorem Tds.app  : ∀{us } {S S' },Tds G B S n us->Tds G B S' n vs->Tds G B (S+S') n (us++vs)
 |[],_,_,_,h=>h.up (Yaa _) (Nat.le_add_left _ _) (Yaa _)
 |u::us,S,S',h,h'=>by
  obtain⟨N,S1,a,b,e⟩:=h.uncons;exact(Tds.cons a (Tds.app b h')).up (Yaa _) (by lia) (Yaa _)
theorem Tds.split  : ∀{us } {S },Tds G B S n (us++vs)->∃S1 S2,Tds G B S1 n us/\Tds G B S2 n vs/\S1+S2<=S
 |[],S,h=>⟨0,S,.nil,h,by lia⟩
 |u::us,S,h=>by
  obtain⟨N,S1,a,b,e⟩:=Tds.uncons (us:=us++vs) h;obtain⟨S2,S3,b1,b2,e2⟩:=Tds.split b;exact⟨_,S3,.cons a b1,b2,by lia⟩
theorem Tds.rev  : ∀{us } {S },Tds G B S n us->Tds G B S n us.reverse
 |[],_,h=>h
 |u::us,S,h=>by
  obtain⟨N,S1,a,b,e⟩:=h.uncons;rw[YbL];exact((Tds.rev b).app (Tds.one a)).up (Yaa _) (by lia) (Yaa _)
theorem Tds.mem  : ∀{us } {S },Tds G B S n us->u∈us->Td G B S n u
 |v::us,S,h,q=>by
  obtain⟨N,S1,a,b,e⟩:=h.uncons;rcases Yas.mp q with rfl|q
  ·exact a.up (Yaa _) (by lia) (Yaa _)
  ·exact(Tds.mem b q).up (Yaa _) (by lia) (Yaa _)
theorem Tds.len  : ∀{us } {S },Tds G B S n us->us.length<=S
 |[],_,_=>YaN _
 |v::us,S,h=>by
  obtain⟨N,S1,a,b,e⟩:=h.uncons;have:=Tds.len b;rw[YaX];lia
def Tds.tup  (h:Tds G B S n us):Td G B (S+3) (n+1) (.tup us):=let ⟨ds,b1,b2,b3,b4⟩:=h.ex;⟨.tuple ds,.tup b1,b2,Nat.succ_le_succ b3,YcN b4 3⟩
def Tds.lst   (g:G a=some (.lst us))(h:Tds G B S n us):Td G B (S+3) (n+1) (.loc a):=let ⟨ds,b1,b2,b3,b4⟩:=h.ex;⟨.list ds,.lst g b1,b2,Nat.succ_le_succ b3,YcN b4 3⟩
def Td.untup  (h:Td G B N n (.tup us)):∃m S,n=m+1/\N=S+3/\Tds G B S m us:=by
 obtain⟨d,a,b,c,e⟩:=h.ex;cases a with
 |@tup _ ds a=>
  have c:YbA ds+1<=n:=c;have e:szDs ds+3<=N:=e;exact⟨n-1,N-3,by lia,by lia,ds,a,b,by lia,by lia⟩
def Td.non  (h:5<=N):Td G B N n .non:=⟨_,.non,rfl,YaN _,h⟩
def Td.bl   b (h:5<=N):Td G B N n (.bl b):=⟨_,.bl b,rfl,YaN _,h⟩
def Td.int   (h:i.natAbs<B)(hN:50<=N):Td G B N n (.int i):=⟨_,.int i,decide_eq_true h,YaN _,hN⟩
def Td.str  {x:Str}(h:∀c∈x.cps.toList,c<128)(hN:10*x.length+2<=N):Td G B N n (.str x):=⟨_,.str x,(by show x.cps.all (·< 128)=true;exact jg9 h),YaN _,hN⟩
def Td.unstr   (h:Td G B N n (.str x)):(∀c∈x.cps.toList,c<128)/\10*x.length+2<=N:=by
 obtain⟨d,a,b,c,e⟩:=h.ex;cases a;have b:x.cps.all (·< 128)=true:=b;rw[<- Ycs,YbU]at b;exact⟨λc hc=>of_decide_eq_true (b c hc),e⟩
def Td.unint   (h:Td G B N n (.int i)):i.natAbs<B/\50<=N:=by
 obtain⟨d,a,b,c,e⟩:=h.ex;cases a;exact⟨of_decide_eq_true b,e⟩
def Td.th  (h:Td G B N n u):∃d,Th G u d:=let ⟨d,a,_⟩:=h.ex;⟨d,a⟩
def Td.asc  (h:Td G B N n u)(hN:N<=100000):∀x,u=.str x->Asc x:=λx e=>by
 subst e;exact⟨by have:=h.unstr.2;lia,h.unstr.1⟩
end

noncomputable def jdD  : U->Bool
 |.str x=>decide (x = "span")||decide (x = "apart")
 |_=>false
noncomputable def apB  : U->Bool
 |.str x=>decide (x = "apart")
 |_=>false
noncomputable def leB  : U->U->Bool
 |.int a,.int b=>decide (a<=b)
 |_,_=>false
def spB  (W:Int):U->Bool
 |.tup [w,a,b,l,h]=>jdD w&&(inI 0 (W-1) a&&inI 0 (W-1) b&&(inI 0 9999 l&&inI 0 9999 h&&(apB w||leB l h)))
 |_=>false
def five  {us:List U}(h:us.length=5):∃a b c d e,us=[a,b,c,d,e]:=by
 match us,h with
 |[a,b,c,d,e],_=>exact⟨a,b,c,d,e,rfl⟩
def jga    (h:us.length≠5):spB W (.tup us)=false:=by
 match us,h with
 |[],_|[_],_|[_,_],_|[_,_,_],_|[_,_,_,_],_=>rfl
 |[_,_,_,_,_],h=>exact absurd rfl h
 |_::_::_::_::_::_::_,_=>rfl

def jj3   : (List.any [U.str a,.str b] λy=>eqF y (.str x))=(decide (x=a)||decide (x=b)):=by
 show((a==x)||((b==x)||false))=_;have s:∀y:Str,(y==x)=decide (x=y):=λy=>by
  rw[Ybt,beq_iff_eq,decide_eq_true_eq];exact eq_comm
 rw[s,s,Bool.or_false]
def jeU  {kk:Bool->Prop}(h:Th G u d)(q:kk (jdD u)):inU u (.tup [.str "span",.str "apart"]) G kk:=by
 cases h with
 |tup hs=>exact .inl ⟨rfl,q⟩
 |lst g hs=>exact⟨rfl,.inl ⟨_,g⟩,q⟩
 |dic g=>exact⟨rfl,.inr ⟨_,g⟩,q⟩
 |str x=>
  refine⟨rfl,rfl,?_⟩;have e:(List.any [U.str "span",.str "apart"] λy=>eqF y (.str x))=jdD (.str x):=jj3;rw[e];exact q
 |_=>exact⟨rfl,rfl,q⟩
def jgL   (h:inI lo hi u=true):∃i,u=.int i:=by
 cases u<;>first|exact⟨_,rfl⟩|cases h
def je6  (h:jdD u=true):∃x,u=.str x:=by
 cases u<;>first|exact⟨_,rfl⟩|cases h
def jh2   {K:Bool->Gp->Prop}(ha:Th G a da)(hb:Th G b db)(q:K (inI lo hi a&&inI lo hi b) G) :
  jab T (k+2) jas [a,.int lo,.int hi] G (λx G1=>truU x G1 λc=>if c=true then jab T (k+2) jas [b,.int lo,.int hi] G1 (λy G2=>truU y G2 λd=>K d G2) X else K false G1) X:=by
 refine jbS ha ?_
 simp! only[];cases c:inI lo hi a with
 |false=>rw[c]at q;exact q
 |true=>rw[c]at q;rw[if_pos rfl];exact jbS hb q
def jit   (hw:jdD w=true)(hl:inI 0 9999 l=true)(hh:inI 0 9999 h=true)(q:K (apB w||leB l h)) :
  cmpU .Eq w (.str "apart") G λb=>if b=true then K b else cmpU .LtE l h G K:=by
 obtain⟨x,rfl⟩:=je6 hw;obtain⟨i,rfl⟩:=jgL hl;obtain⟨j,rfl⟩:=jgL hh;show if decide (x = "apart")=true then K (decide (x = "apart")) else K (decide (i<=j))
 have e:(apB (.str x)||leB (.int i) (.int j))=(decide (x = "apart")||decide (i<=j)):=rfl;rw[e]at q;cases c:decide (x = "apart")<;>rw[c]at q<;>exact q
def jfF  (h:Th G u d)(q:Q (.bl (spB W u)) G):jab T (k+3) jee [u,.int W] G Q X:=by
 refine⟨rfl,?_⟩;simp! only[jen,jad,Yab,jaf h (show "tuple" ∈ ["bool", "int", "str", "list", "tuple", "dict"] by decide)]
 cases h with
 |@tup us ds hs=>
  rw[show isD (.tuple ds) "tuple" = true from rfl,if_pos rfl];simp! only[];by_cases c:us.length=5
  ·obtain⟨w,a,b,l,h,rfl⟩:=five c;rw[if_neg (by simp)]
   match ds,hs with
   |_,.cons hw (.cons ha (.cons hb (.cons hl (.cons hh .nil))))=>
   simp! only[jcE];refine⟨trivial,?_⟩;simp! only[jcD];refine⟨by decide,jeU hw ?_⟩
   have e:spB W (.tup [w,a,b,l,h])=(jdD w&&(inI 0 (W-1) a&&inI 0 (W-1) b&&(inI 0 9999 l&&inI 0 9999 h&&(apB w||leB l h)))):=rfl;rw[e]at q;cases c1:jdD w with
   |false=>rw[c1]at q;exact q
   |true=>
    rw[c1,YaS]at q;rw[if_neg (by decide)]
    simp! only[jcC];refine jh2 (k:=k) ha hb ?_;cases c2:(inI 0 (W-1) a&&inI 0 (W-1) b)with
    |false=>rw[c2]at q;exact q
    |true=>
     rw[c2,YaS]at q;simp! only[];rw[if_neg (by decide)]
     simp! only[jcB];refine jh2 (k:=k) (lo:=0) (hi:=9999) hl hh ?_;cases c3:(inI 0 9999 l&&inI 0 9999 h)with
     |false=>rw[c3]at q;exact q
     |true=>
      rw[c3,YaS]at q;simp! only[];rw[if_neg (by decide)]
      rw[Yap]at c3;simp! only[];exact jit (K:=λb=>Q (.bl b) G) c1 c3.1 c3.2 q
  ·rw[if_pos (by simp;lia)]
   rw[jga c]at q;exact q
 |_=>exact q
def lin   {G0:Gp}(l:List U)(h:∀x∈l,∃d,Th G0 x d)(q:K ((l.map (inI lo hi)).map .bl) G0)(hb:∀x d,Th G0 x d->∀K ,K (some (.bl (inI lo hi x))) G0->b x G0 K):jck (λ_=>True) b l [] G0 K:=by
 refine jba (λx=>.bl (inI lo hi x)) trivial (λx hx K hk=>?_) ?_
 ·obtain⟨d,t⟩:=h x hx;exact hb x d t K hk
 ·rw[YaR];rw[Ya9]at q;exact q
def jnh  (a b c d e:U):cut [a,b,c,d,e] (some 1) (some 3)=[b,c]:=rfl
def jng  (a b c d e:U):cut [a,b,c,d,e] (some 3) none=[d,e]:=rfl
def jda  (h:Th G u d)(q:∀G',Sa G G'->Q (.bl (spB W u)) G'):jab T (k+2) jbU [.int W,u] G Q X:=by
 refine⟨rfl,?_⟩;simp! only[jb3,jad,Yab,jaf h (show "tuple" ∈ ["bool", "int", "str", "list", "tuple", "dict"] by decide)]
 cases h with
 |@tup us ds hs=>
  rw[show isD (.tuple ds) "tuple" = true from rfl,if_neg (by decide)]
  simp! only[];by_cases c:us.length=5
  ·obtain⟨w,a,b,l,h,rfl⟩:=five c
   match ds,hs with
   |_,.cons hw (.cons ha (.cons hb (.cons hl (.cons hh .nil))))=>
   rw[if_neg (by simp)]
   simp! only[ix_t (jde _ _),jaf hw (show "str" ∈ ["bool", "int", "str", "list", "tuple", "dict"] by decide)]
   have e:spB W (.tup [w,a,b,l,h])=(jdD w&&(inI 0 (W-1) a&&inI 0 (W-1) b&&(inI 0 9999 l&&inI 0 9999 h&&(apB w||leB l h)))):=rfl;rw[e]at q;cases c0:jdD w with
   |false=>
    rw[c0]at q;cases hw with
    |str x=>
     rw[show isD (Ybx x) "str" = true from rfl,if_neg (by decide)]
     simp! only[jaL,ix_t (jde _ _)];refine⟨by decide,jeU (.str x) ?_⟩
     rw[c0];exact q G Sa.refl
    |_=>exact q G Sa.refl
   |true=>
    rw[c0,YaS]at q;obtain⟨x,rfl⟩:=je6 c0;cases hw;rw[show isD (Ybx x) "str" = true from rfl,if_neg (by decide)]
    simp! only[jaL,ix_t (jde _ _)];refine⟨by decide,jeU (.str x) ?_⟩
    rw[c0,if_neg (by decide)]
    simp! only[jnh];refine⟨by decide,lin (lo:=0) (hi:=W-1) _ (λy hy=>?_) ?_ λy d t K hk=>jbT (k:=k) t hk⟩
    ·simp only[Yas,Yao,or_false]at hy;rcases hy with rfl|rfl
     ·exact⟨_,ha⟩
     ·exact⟨_,hb⟩
    ·intro p1 G1 n1;refine jgK n1.at ?_;have e2:([a,b].map (inI 0 (W-1))).all id=(inI 0 (W-1) a&&inI 0 (W-1) b):=by simp
     rw[e2];cases c2:(inI 0 (W-1) a&&inI 0 (W-1) b)with
     |false=>rw[c2]at q;exact q G1 n1.sa
     |true=>
      rw[c2,YaS]at q;rw[if_neg (by decide)]
      simp! only[jbr,jng];refine⟨by decide,lin (lo:=0) (hi:=9999) _ (λy hy=>?_) ?_ λy d t K hk=>jbT (k:=k) t hk⟩
      ·simp only[Yas,Yao,or_false]at hy;rcases hy with rfl|rfl
       ·exact⟨_,hl.sa n1.sa⟩
       ·exact⟨_,hh.sa n1.sa⟩
      ·intro p2 G2 n2;refine jgK n2.at ?_;have e3:([l,h].map (inI 0 9999)).all id=(inI 0 9999 l&&inI 0 9999 h):=by simp
       rw[e3];cases c3:(inI 0 9999 l&&inI 0 9999 h)with
       |false=>rw[c3]at q;exact q G2 (n1.sa.trans n2.sa)
       |true=>
        rw[c3,YaS]at q;rw[if_neg (by decide)]
        rw[Yap]at c3;simp! only[ix_t (jde _ _),ix_t (jnk _ _ _ _ _),show atI [U.str x,a,b,l,h] 4=some h from rfl,ix_t (show atI [U.str x,a,b,l,h] 4=some h from rfl)];exact jit (K:=λb=>Q (.bl b) G2) c0 c3.1 c3.2 (q G2 (n1.sa.trans n2.sa))
  ·rw[if_pos (by simp;lia)]
   simp! only[];rw[jga c]at q;exact q G Sa.refl
 |_=>exact q G Sa.refl

theorem jhG  {α:Type}[BEq α][LawfulBEq α]:∀(ds xs:List α),ds.Nodup->(∀x∈ds,x∈xs)->ds.length<=xs.length
 |[],_,_,_=>YaN _
 |d::ds,xs,nd,h=>by
  obtain⟨n1,n2⟩:=List.nodup_cons.mp nd;have hd:=h d Yaw;have:=jhG ds (xs.erase d) n2 λx hx=>(Yel λe:x=d=>n1 (e ▸ hx)).mpr (h x (Yal _ hx));rw[YdU hd]at this;have:=Yd5 hd;rw[YaX]
  lia
theorem jfi  {α:Type}[BEq α][LawfulBEq α]:∀xs:List α,¬xs.Nodup->∃a∈xs,a∈xs.erase a
 |[],h=>absurd List.nodup_nil h
 |x::xs,h=>by
  rcases YdD (x∈xs)with hx|hx
  ·exact⟨x,Yaw,by rw[List.erase_cons_head];exact hx⟩
  ·obtain⟨a,h1,h2⟩:=jfi xs λz=>h (List.nodup_cons.mpr ⟨hx,z⟩);refine⟨a,Yal _ h1,?_⟩;rw[List.erase_cons_tail (by simpa using λe:x=a=>hx (e ▸ h1))]
   exact Yal _ h2
def jlm  {xs ds:List Str}(nd:ds.Nodup)(h:∀x,x∈ds↔x∈xs):ds.length=xs.length↔xs.Nodup:=by
 constructor
 ·intro e;refine Classical.byContradiction λz=>?_;obtain⟨a,h1,h2⟩:=jfi xs z;have:=jhG ds (xs.erase a) nd λx hx=>by
   by_cases c:x=a
   ·rw[c];exact h2
   ·exact(Yel c).mpr ((h x).mp hx)
  rw[YdU h1]at this;have:=Yd5 h1
  lia
 ·intro n2;exact Nat.le_antisymm (jhG ds xs nd λx=>(h x).mp) (jhG xs ds n2 λx=>(h x).mpr)
def jjR  {xs:List Str}:(xs.filter λx=>decide ((1:Int)<(xs.count x:Nat)))=[]↔xs.Nodup:=by
 rw[Yd6,List.nodup_iff_count];constructor
 ·intro h a;rcases YdD (a∈xs)with ha|ha
  ·have:=h a ha;simp at this
   lia
  ·rw[List.count_eq_zero_of_not_mem ha];lia
 ·intro h a _;have:=h a;simp
  lia
def dstB  (us:List U):Bool:=match jc8 us with
 |some xs=>decide xs.Nodup
 |none=>false
def jcm  : U->Bool
 |.tup us=>decide (1<=us.length/\us.length<=8)&&(us.all nmB&&dstB us)
 |_=>false
noncomputable def lenT  : U->Int
 |.tup us=>us.length
 |_=>0
def jdg  (W:Int):U->Bool
 |.tup us=>decide (us.length<=24)&&us.all (spB W)
 |_=>false
def plB  : U->Bool
 |.tup [a,b]=>jcm a&&jdg (lenT a) b
 |_=>false
theorem jeK  : ∀us ,us.all nmB=true->∃xs:List Str,us=xs.map .str
 |[],_=>⟨[],rfl⟩
 |u::us,h=>by
  rw[YbC,Yap]at h;obtain⟨xs,rfl⟩:=jeK us h.2;cases u with
  |str x=>exact⟨x::xs,rfl⟩
  |_=>exact nomatch h.1

def je0    {kk:List U->Gp->Prop}(hb:∀x∈us,∀G',Sa G G'->∀K ,(∀G'',Sa G G''->K (some (.bl (f x))) G'')->b x G' K)
  (q:∀G',Sa G G'->kk ((us.map f).map .bl) G'):jck (λ_=>True) b us [] G kk:=by
 refine jaG (λi acc G'=>acc=((us.take i).map f).map .bl/\Sa G G') ?_ ?_ ⟨rfl,Sa.refl⟩
 ·rintro acc G' ⟨rfl,s⟩;rw[List.take_length];exact⟨trivial,q G' s⟩
 ·rintro i x acc G' K hx ⟨rfl,s⟩ hk _;refine⟨trivial,hb x (YaL hx) G' s K λG'' s'=>hk _ _ ⟨?_,s'⟩⟩;rw[YeP,hx];simp
def g1'   : glU T.gs 1 φ=φ (.int 8):=rfl
def g3'   : glU T.gs 3 φ=φ (.int 24):=rfl
def jlk  {xs:List Str}(hl:xs.length<4000){φ:U->Gp->Prop}(q:∀i:Int,(decide (i=xs.length)=decide xs.Nodup)->φ (.int i) G):jfI (.tup (xs.map .str)) G φ:=
 ⟨xs,rfl,hl,λds nd h=>q _ (by
  have:=jlm nd h;exact decide_eq_decide.mpr ⟨λz=>this.mp (by lia),λz=>by have:=this.mpr z;lia⟩)⟩
def jec  (h:Td G B N n u)(hN:N<=100000)(q:∀G',Sa G G'->Q (.bl (jcm u)) G'):jab T (k+2) jcO [u] G Q X:=by
 obtain⟨d,t⟩:=h.th;refine⟨rfl,?_⟩;simp! only[jc1,jad,Yab,jaf t (show "tuple" ∈ ["bool", "int", "str", "list", "tuple", "dict"] by decide),jfL,g1']
 cases t with
 |@tup us ds hs=>
  rw[show isD (.tuple ds) "tuple" = true from rfl,if_pos rfl];simp! only[jfL,g1'];have e:jcm (.tup us)=(decide (1<=us.length/\us.length<=8)&&(us.all nmB&&dstB us)):=rfl;rw[e]at q;by_cases c1:(1:Int)<=us.length
  ·rw[if_pos (decide_eq_true c1)];by_cases c2:(us.length:Int)<=8
   ·rw[decide_eq_true (show 1<=us.length/\us.length<=8 by lia),YaS]at q
    rw[if_neg (by simp[c2])]
    refine⟨Yag (show us.length<=8 by lia) (by decide),?_⟩
    obtain⟨m,S,rfl,rfl,hu⟩:=h.untup;refine je0 (f:=nmB) (λx hx G' s K hk=>?_) λG1 s1 p G2 n2=>?_
    ·have tx:=(hu.mem hx).sa s;obtain⟨dx,tx'⟩:=tx.th;exact jci tx' (tx.asc (by lia)) λG'' s'=>hk G'' (s.trans s')
    ·refine jft n2.at ?_;have e2:(us.map nmB).all id=us.all nmB:=by rw[YcA];rfl
     rw[e2];simp! only[];cases c3:us.all nmB with
     |false=>rw[c3]at q;exact q G2 (s1.trans n2.sa)
     |true=>
      rw[c3,YaS]at q;obtain⟨xs,rfl⟩:=jeK us c3;rw[Yai]at c1 c2;rw[if_pos rfl];refine jlk (show xs.length<4000 by lia) λi hi=>?_
      simp! only[];rw[Yai,hi];have e3:dstB (xs.map .str)=decide xs.Nodup:=by unfold dstB;rw[jcw]
      rw[e3]at q;exact q G2 (s1.trans n2.sa)
   ·rw[decide_eq_false (show ¬(1<=us.length/\us.length<=8) by lia)]at q
    rw[if_pos (by simp[c2])]
    exact q G Sa.refl
  ·rw[decide_eq_false (show ¬(1<=us.length/\us.length<=8) by lia)]at q
   rw[if_neg (by simp;lia)]
   exact q G Sa.refl
 |_=>exact q G Sa.refl
def jcl  {us: List U}:(us.map f).all id=us.all f:=by rw[YcA];rfl
def jh8   (h:us.length≠2):plB (.tup us)=false:=by
 match us,h with
 |[],_|[_],_=>rfl
 |[_,_],h=>exact absurd rfl h
 |_::_::_::_,_=>rfl
def two  {us:List U}(h:us.length=2):∃a b,us=[a,b]:=by
 match us,h with
 |[a,b],_=>exact⟨a,b,rfl⟩
def jgt  (h:jcm u=true):∃us,u=.tup us:=by
 cases u<;>first|exact⟨_,rfl⟩|cases h
def jfG  (h:Td G B N n u)(hN:N<=100000)(q:∀G',Sa G G'->Q (.bl (plB u)) G'):jab T (k+4) jef [u] G Q X:=by
 obtain⟨d,t⟩:=h.th;refine⟨rfl,?_⟩;simp! only[jeo,jad,Yab,jaf t (show "tuple" ∈ ["bool", "int", "str", "list", "tuple", "dict"] by decide)]
 cases t with
 |@tup us ds hs=>
  rw[show isD (.tuple ds) "tuple" = true from rfl,if_pos rfl];simp! only[];by_cases c:us.length=2
  ·obtain⟨a,b,rfl⟩:=two c;obtain⟨m,S,rfl,rfl,hu⟩:=h.untup;have ha:=hu.mem (u:=a) (by simp)
   have hb:=hu.mem (u:=b) (by simp)
   have e:plB (.tup [a,b])=(jcm a&&jdg (lenT a) b):=rfl;rw[e]at q;rw[if_neg (by simp)]
   simp! only[jcH];refine⟨trivial,?_⟩;simp! only[jcG];refine jec ha (by lia) λG1 s1=>?_
   cases c1:jcm a with
   |false=>rw[c1]at q;exact q G1 s1
   |true=>
    rw[c1,YaS]at q;obtain⟨ns,rfl⟩:=jgt c1;obtain⟨db,tb⟩:=(hb.sa s1).th;simp! only[jaf tb (show "tuple" ∈ ["bool", "int", "str", "list", "tuple", "dict"] by decide)]
    cases tb with
    |@tup vs dv hv=>
     rw[show isD (.tuple dv) "tuple" = true from rfl,if_pos rfl];simp! only[jfL,g3'];have e2:jdg (lenT (.tup ns)) (.tup vs)=(decide (vs.length<=24)&&vs.all (spB ns.length)):=rfl;rw[e2]at q;by_cases c2:vs.length<=24
     ·rw[decide_eq_true c2,YaS]at q;rw[if_neg (by simp;lia)]
      simp! only[jcF];refine⟨Yag c2 (by decide),jba (λx=>.bl (spB ns.length x)) trivial (λx hx K hk=>?_) λp G2 n2=>?_⟩
      ·obtain⟨dx,tx⟩:=hv.mem hx;exact jfF tx hk
      ·refine jft (bs:=vs.map (spB ns.length)) (by rw[n2.at,YaR,Ya9];rfl) ?_
       rw[jcl];exact q G2 (s1.trans n2.sa)
     ·rw[decide_eq_false c2]at q;rw[if_pos (by simp;lia)]
      exact q G1 s1
    |_=>exact q G1 s1
  ·rw[if_pos (by simp;lia)]
   rw[jh8 c]at q;exact q G Sa.refl
 |_=>exact q G Sa.refl


theorem jgP {f:Str->Bool}:∀l:List Str,(l.map U.str).filterMap (λu=>match u with|.str s=>if f s=true then some u else none|_=>none)=(l.filter f).map U.str
 |[]=>rfl
 |c::r=>by
  rw[YaI,Ybh,jgP r,Ye0];dsimp only;cases f c<;>rfl
def jni  {xs:List Str}:ja7 .count (.tup (xs.map .str)) [.str y] G Q=Q (.int (xs.count y:Nat)) G:=by
 unfold ja7 jg0;dsimp only;rw[jcw]
def jlp  : mtU .count (.tup us) G=some ("tuple", "tuple.count"):=rfl
def jll  {xs:List Str}(h:(xs.map U.str).all nmB=true):∀x∈xs,∀c∈x.cps.toList,c<128:=λx hx c hc=>by
 have:=YbU.mp h _ (List.mem_map.mpr ⟨x,hx,rfl⟩);have:=(of_decide_eq_true (show decide (Na x)=true from this)).2.2 c hc
 lia
def law_spans  {X: KX}(hb:Td G B N n b)(q:∀G',Sa G G'->Q (.bl (jdg ns.length b)) G') :
  jaq T.gs (jab T (k+3)) jaM ⟨λ_ G'=>Q .non G',Q,λx _ G'=>X x G'⟩ [some a,some (.tup ns),some b] G:=by
 obtain⟨db,tb⟩:=hb.th;simp! only[jaM,jaf tb (show "tuple" ∈ ["bool", "int", "str", "list", "tuple", "dict"] by decide)]
 cases tb with
 |@tup vs dv hv=>
  rw[show isD (.tuple dv) "tuple" = true from rfl,if_neg (by decide)]
  simp! only[];have e2:jdg ns.length (.tup vs)=(decide (vs.length<=24)&&vs.all (spB ns.length)):=rfl;rw[e2]at q;by_cases c2:vs.length<=24
  ·rw[decide_eq_true c2,YaS]at q;rw[if_neg (by simp;lia)]
   refine⟨Yag c2 (by decide),je0 (f:=spB ns.length) (λx hx G' s K hk=>?_) λG1 s1 p G2 n2=>?_⟩
   ·obtain⟨dx,tx⟩:=hv.mem hx;exact jda (tx.sa s) λG'' s'=>hk G'' (s.trans s')
   ·refine jgK n2.at ?_;rw[Bool.not_not,jcl];exact q G2 (s1.trans n2.sa)
  ·rw[decide_eq_false c2]at q;rw[if_pos (by simp;lia)]
   exact q G Sa.refl
 |_=>exact q G Sa.refl
def jeF  (h:Td G B N n u)(hN:N<=100000)(q:∀G',Sa G G'->Q (.bl (plB u)) G'):jab T (k+4) jbV [u] G Q X:=by
 obtain⟨d,t⟩:=h.th;refine⟨rfl,?_⟩;simp! only[jb4,jad,Yab,jaf t (show "tuple" ∈ ["bool", "int", "str", "list", "tuple", "dict"] by decide)]
 cases t with
 |@tup us ds hs=>
  rw[show isD (.tuple ds) "tuple" = true from rfl,if_neg (by decide)]
  simp! only[];by_cases c:us.length=2
  ·obtain⟨a,b,rfl⟩:=two c;obtain⟨m,S,rfl,rfl,hu⟩:=h.untup;have ha:=hu.mem (u:=a) (by simp)
   have hb:=hu.mem (u:=b) (by simp)
   have e:plB (.tup [a,b])=(jcm a&&jdg (lenT a) b):=rfl;rw[e]at q;obtain⟨da,ta⟩:=ha.th;rw[if_neg (by simp)]
   simp! only[ix_t (jde _ _),jaf ta (show "tuple" ∈ ["bool", "int", "str", "list", "tuple", "dict"] by decide)]
   cases ta with
   |@tup ns dn hn=>
    rw[show isD (.tuple dn) "tuple" = true from rfl,if_neg (by decide)]
    simp! only[jbu];refine⟨trivial,?_⟩;simp! only[jbt,jfL];have e1:jcm (.tup ns)=(decide (1<=ns.length/\ns.length<=8)&&(ns.all nmB&&dstB ns)):=rfl;rw[e1]at q;by_cases c1:(1:Int)<=ns.length
    ·rw[if_pos (decide_eq_true c1)];by_cases c2:(ns.length:Int)<=8
     ·rw[decide_eq_true (show 1<=ns.length/\ns.length<=8 by lia),YaS]at q
      rw[if_neg (by simp[c2])]
      refine⟨Yag (show ns.length<=8 by lia) (by decide),?_⟩
      obtain⟨m2,S2,rfl,rfl,hu2⟩:=ha.untup;refine je0 (f:=nmB) (λx hx G' s K hk=>?_) λG1 s1 p G2 n2=>?_
      ·have tx:=(hu2.mem hx).sa s;obtain⟨dx,tx'⟩:=tx.th;exact jbJ tx' (tx.asc (by lia)) λG'' s'=>hk G'' (s.trans s')
      ·refine jgK n2.at ?_;rw[jcl];have s2:=s1.trans n2.sa;cases c3:ns.all nmB with
       |false=>rw[c3]at q;exact q G2 s2
       |true=>
        rw[c3,YaS]at q;rw[if_neg (by decide)]
        obtain⟨xs,rfl⟩:=jeK ns c3;have e3:dstB (xs.map .str)=decide xs.Nodup:=by unfold dstB;rw[jcw]
        rw[e3]at q;simp! only[jbs];refine⟨Yag (show(xs.map U.str).length<=8 by lia) (by decide),?_⟩
        refine jbC (λu=>match u with|.str s=>if (λs=>decide ((1:Int)<(xs.count s:Nat))) s=true then some u else none|_=>none) trivial (λx hx K hk=>?_) ?_
        ·obtain⟨y,hy,rfl⟩:=List.mem_map.mp hx;simp! only[jlp,jni];cases c4:decide ((1:Int)<(xs.count y:Nat))with
         |false=>rw[if_neg (by decide)];simpa[c4]using hk
         |true=>rw[if_pos rfl];simpa[c4]using hk
        ·rw[jgP,YaR];intro p3 G3 n3;refine⟨by decide,λp4 G4 n4=>?_⟩
         dsimp only;rw[jjX];have asc:=jll c3;refine jgR (l':=[]) (n4.sa _ _ n3.at) n4.at (λy hy=>asc y (List.mem_filter.mp hy).1) (λ_ h=>nomatch h) ?_;rw[decide_eq_decide.mpr jjR];have s4:=s2.trans (n3.sa.trans n4.sa);cases c5:decide xs.Nodup with
         |false=>rw[c5]at q;exact q G4 s4
         |true=>
          rw[c5,YaS]at q;rw[if_neg (by decide)]
          exact law_spans (hb.sa s4) λG5 s5=>q G5 (s4.trans s5)
     ·rw[decide_eq_false (show ¬(1<=ns.length/\ns.length<=8) by lia)]at q
      rw[if_pos (by simp[c2])]
      exact q G Sa.refl
    ·rw[decide_eq_false (show ¬(1<=ns.length/\ns.length<=8) by lia)]at q
     rw[if_neg (by simp;lia)]
     exact q G Sa.refl
   |_=>exact q G Sa.refl
  ·rw[if_pos (by simp;lia)]
   rw[jh8 c]at q;exact q G Sa.refl
 |_=>exact q G Sa.refl
def jch   (q:Q (.bl (decide (a=b))) G):jab T (k+1) jaE [.bl a,.bl b] G Q X:=by
 refine⟨rfl,?_⟩;simp! only[jdq,jad,Yab];exact q

section
variable {k:Nat}{G:Gp}{Q:K1}{X:KX}{u v:U}{us vs:List U}{d e:PyData}{W:Int}{B N n S:Nat}{f c:Addr}
def Tds.take  (h:Tds G B S n us) i:Tds G B S n (us.take i):=by
 rw[<- YbR i us]at h;obtain⟨S1,S2,h1,h2,h3⟩:=h.split;exact h1.up (Yaa _) (by lia) (Yaa _)
def Tds.drop  (h:Tds G B S n us) i:Tds G B S n (us.drop i):=by
 rw[<- YbR i us]at h;obtain⟨S1,S2,h1,h2,h3⟩:=h.split;exact h2.up (Yaa _) (by lia) (Yaa _)
def Tds.cut  (h:Tds G B S n us) lo hi:Tds G B S n (Z.cut us lo hi):=(h.drop _).take _
theorem Tds.all  : ∀{us },(∀u∈us,Td G B N n u)->Tds G B (us.length*(N+2)) n us
 |[],_=>Tds.nil.up (Yaa _) (YaN _) (Yaa _)
 |u::us,h=>(Tds.cons (h u Yaw) (Tds.all λv hv=>h v (Yal _ hv))).up (Yaa _) (by rw[YaX,Nat.add_mul];lia) (Yaa _)
def Td.some   (h:∀u∈us,Td G B N n u)(hl:us.length<=m)(hM:m*(N+2)+3<=M):Td G B M (n+1) (.tup us):=
 (Tds.all h).tup.up (Yaa _) (Yag (YcN (Nat.mul_le_mul_right _ hl) 3) hM) (Yaa _)
def Tds.nth   (h:Tds G B S n us)(e:us[i]?=some u):∃S1 S2 S3,Tds G B S1 n (us.take i)/\Td G B S2 n u/\Tds G B S3 n (us.drop (i+1))/\S1+(S2+2)+S3<=S:=by
 obtain⟨hi,e⟩:=List.getElem?_eq_some_iff.mp e;have h2:us=us.take i++(u::us.drop (i+1)):=by rw[<- e,List.getElem_cons_drop,YbR]
 rw[h2]at h;obtain⟨S1,S2,h1,h3,h4⟩:=h.split;obtain⟨N,S3,a,b,q⟩:=h3.uncons;exact⟨S1,N,S3,h1,a,b,by lia⟩
noncomputable def BB  : Nat:=10 ^ 30+1
def ja4  (hf:Fd G f c)(q:∀u G',Td G' BB 100 2 u->Fd G' f c->Sm f G G'->Q u G'):jab T (k+2) jaO [.loc f] G Q X:=by
 refine⟨rfl,?_⟩;simp! only[jem,jad,Yab];refine⟨⟨by decide,by decide,by decide⟩,by decide,λp1 G1 n1=>?_⟩
 simp! only[];refine⟨by decide,by decide,λp2 G2 n2=>⟨by decide,by decide,λp3 G3 n3=>⟨by decide,λp4 G4 n4=>⟨by decide,by decide,by decide,by decide,by decide,λp5 G5 n5=>?_⟩⟩⟩⟩
 refine⟨_,_,n5.sa _ _ (n4.sa _ _ (n3.sa _ _ (n2.sa _ _ n1.at))),n5.at,show 18+11<=Yae by decide,λp6 G6 n6=>?_⟩
 have f6:=(((((hf.new n1).new n2).new n3).new n4).new n5).new n6;have h6:=(((((hf.new n1).new n2).new n3).new n4).new n5).away n6;have s6:Sa G G6:=n1.sa.trans (n2.sa.trans (n3.sa.trans (n4.sa.trans (n5.sa.trans n6.sa))));simp! only[];refine jac f6 (by decide) (by decide) λz G7 a7 b7 f7 s7=>?_
 have h2:p2≠f:=((hf.new n1).away n2).1;have h3:p3≠f:=(((hf.new n1).new n2).away n3).1;have h4:p4≠f:=((((hf.new n1).new n2).new n3).away n4).1;have g2:G7 p2=some (.lst []):=s7 _ _ h2 (n6.sa _ _ (n5.sa _ _ (n4.sa _ _ (n3.sa _ _ n2.at))));have g3:G7 p3=some (.lst [.str "a"]):=s7 _ _ h3 (n6.sa _ _ (n5.sa _ _ (n4.sa _ _ n3.at)));have g4:G7 p4=some (.dK []):=s7 _ _ h4 (n6.sa _ _ (n5.sa _ _ n4.at));have S:∀(x:Str),(x.length<=9/\∀c∈x.cps.toList,c<128)->Td G7 BB 92 0 (.str x):=λx h=>Td.str h.2 (by lia)
 have I:∀(i:Int),i.natAbs<BB->Td G7 BB 92 0 (.int i):=λi h=>Td.int h (by decide)
 have A:Td G7 BB 12 0 (.str "a"):=Td.str (by decide +kernel) (by decide +kernel)
 have T1:Td G7 BB 17 1 (.tup [.str "a"]):=(Tds.one A).tup;have T0:Td G7 BB 3 1 (.tup []):=Tds.nil.tup;refine jbh (s7 _ _ h6.1 n6.at) a7 (by simpa using b7) λu hu=>q u G7 ?_ f7 (s6.sm.trans s7)
 simp only[YbT,YaR,Yas,Yao,or_false]at hu;have up:∀{N n:Nat} {u:U},Td G7 BB N n u->N<=100->n<=2->Td G7 BB 100 2 u:=λh h1 h2=>h.up (Yaa _) h1 h2;rcases hu with rfl|rfl|rfl|rfl|rfl|rfl|rfl|rfl|rfl|rfl|rfl|rfl|rfl|rfl|rfl|rfl|rfl|rfl|rfl|rfl|rfl|rfl|rfl|rfl|rfl|rfl|rfl|rfl|rfl
 ·exact Td.non (by decide)
 ·exact Td.bl _ (by decide)
 ·exact Td.bl _ (by decide)
 ·exact up (I _ (by decide)) (by decide) (by decide)
 ·exact up (I _ (by decide)) (by decide) (by decide)
 ·exact up (I _ (by decide)) (by decide) (by decide)
 ·exact up (I _ (by decide)) (by decide) (by decide)
 ·exact up (I _ (by decide)) (by decide) (by decide)
 ·exact up (I _ (by decide)) (by decide) (by decide)
 ·exact up (I _ (by decide)) (by decide) (by decide)
 ·exact up (I _ (by decide)) (by decide) (by decide)
 ·exact up (I _ (by decide)) (by decide) (by decide)
 ·exact up (I _ (by decide)) (by decide) (by decide)
 ·exact up (S _ (by decide +kernel)) (by decide) (by decide)
 ·exact up (S _ (by decide +kernel)) (by decide) (by decide)
 ·exact up (S _ (by decide +kernel)) (by decide) (by decide)
 ·exact up (S _ (by decide +kernel)) (by decide) (by decide)
 ·exact up (S _ (by decide +kernel)) (by decide) (by decide)
 ·exact up (S _ (by decide +kernel)) (by decide) (by decide)
 ·exact up (S _ (by decide +kernel)) (by decide) (by decide)
 ·exact up (S _ (by decide +kernel)) (by decide) (by decide)
 ·exact up (S _ (by decide +kernel)) (by decide) (by decide)
 ·exact up T0 (by decide) (by decide)
 ·exact up (Tds.lst g2 (n:=0) .nil) (by decide) (by decide)
 ·exact up T1 (by decide) (by decide)
 ·exact up (Tds.lst g3 (Tds.one A)) (by decide) (by decide)
 ·exact⟨.dict [],.dic g4,rfl,by decide,by decide⟩
 ·exact up (Tds.one (I 0 (by decide))).tup (by decide) (by decide)
 ·exact up (Tds.cons T1 (Tds.one T0)).tup (by decide) (by decide)
end

def jgU   m:∀c∈((Nat.toDigits 10 m).map Char.toNat),c<128:=λc hc=>by
 obtain⟨d,hd,rfl⟩:=List.mem_map.mp hc;have:=Nat.isDigit_of_mem_toDigits (by decide) (by decide) hd
 unfold Char.isDigit at this;rw[Yap]at this;have:=UInt32.le_iff_toNat_le.mp (of_decide_eq_true this.2);exact Ybq this (by decide)
def jjL  (i:Int):∀c∈((toString i:String):Str).cps.toList,c<128:=by
 cases i with
 |ofNat m=>
  rw[PyProof.Rows.text_ofNat m];exact jgU m
 |negSucc m=>
  have e:((toString (Int.negSucc m):String):Str).cps.toList=45::(Nat.toDigits 10 (m+1)).map Char.toNat:=by
   show(Ya3 ("-" ++ Nat.repr (m+1))).cps.toList=_;rw[Str.ofString_eq_toList];simp[Nat.repr]
  rw[e];intro c hc;rcases Yas.mp hc with rfl|hc
  ·decide
  ·exact jgU _ c hc
def jkx     : revU (.tup xs) (.int (-1)) G Q=Q (.tup xs.reverse) G:=by
 show((-1:Int)=-1/\Q (.tup xs.reverse) G)=_;simp
def jkk     : strU [.int i] G Q=(i.natAbs.log2<1920/\Q (.str (toString i:String)) G):=rfl
def jmv     : strU [.bl b] G Q=Q (.str (if b=true then ("True" : Str) else "False")) G:=rfl

def Td.istr  {i:Int}(h:i.natAbs<10 ^ 40)(hN:502<=N):Td G B N n (.str (toString i:String)):=by
 refine Td.str (jjL i) ?_;have:=int_text_length_le10 (a:=i) (k:=40) (by decide) h
 show 10*(Ya3 (toString i)).length+2<=_;rw[ofString_length]
 lia
def jlu  {i:Int}(h:i.natAbs<10 ^ 40):i.natAbs.log2<1920:=by simpa[YbY]using (jgJ h).1
def jeI  {X: KX}(h:Td G B N n (.tup us))(hB:BB<=B)(hf:Fd G f c)(hN:N<=100000)(q:∀u' G',Td G' (B+10000) (2*N+600) (n+2) u'->Fd G' f c->Sm f G G'->Q u' G') :
  jaq T.gs (jab T (k+2)) jan ⟨λ_ G'=>Q .non G',Q,λx _ G'=>X x G'⟩ [some (.loc f),some (.tup us),u2,o3,o4] G:=by
 obtain⟨m,S,rfl,rfl,hu⟩:=h.untup;obtain⟨d,t⟩:=h.th;have ul:=hu.len;have c1:(cut us none (some 1)).length<=us.length:=by unfold cut;rw[Ya7,Ya8];lia
 simp! only[jan,jaf t (show "tuple" ∈ ["bool", "int", "str", "list", "tuple", "dict"] by decide)]
 cases t with
 |@tup _ ds hs=>
  rw[show isD (.tuple ds) "tuple" = true from rfl,if_pos rfl];simp! only[jkx];intro p1 G1 n1;refine⟨Yag (show _<=200000 by lia) (by decide),by decide,Yag (show us.length+1<=200000 by lia) (by decide),by decide,by decide,λp2 G2 n2=>?_⟩
  have f2:=(hf.new n1).new n2;have h2:=(hf.new n1).away n2;refine jac f2 (by decide) (by decide) λr G3 a3 b3 f3 s3=>?_
  have s2:Sa G G2:=n1.sa.trans n2.sa;have h3:Tds G3 B S m us:=(hu.sa s2).sm f2 s3;have g1:G3 p1=some (.lst us):=s3 _ _ (hf.away n1).1 (n2.sa _ _ n1.at);refine jbh (s3 _ _ h2.1 n2.at) a3 b3 λu hu=>q u G3 ?_ f3 (s2.sm.trans s3);simp only[Yas,Yao,or_false]at hu;have up:∀{N' n':Nat} {u:U},Td G3 B N' n' u->N'<=2*(S+3)+600->n'<=m+1+2->Td G3 (B+10000) (2*(S+3)+600) (m+1+2) u:=λh h1 h2=>h.up (YaK _ _) h1 h2;have z0:Td G3 B 50 m (.int 0):=Td.int (Yam (by decide:_<BB) hB) (Yaa _)
  rcases hu with rfl|rfl|rfl|rfl|rfl|rfl|rfl
  ·exact up (Tds.lst g1 h3) (by lia) (by lia)
  ·exact up (h3.app (h3.cut _ _)).tup (by lia) (by lia)
  ·exact up (h3.cut _ _).tup (by lia) (by lia)
  ·exact up (h3.cut _ _).tup (by lia) (by lia)
  ·exact up h3.rev.tup (by lia) (by lia)
  ·exact up (h3.app (Tds.one z0)).tup (by lia) (by lia)
  ·exact up (Tds.nil (n:=0)).tup (by lia) (by lia)
def jeJ  {X: KX}(h:Td G B N n (.int i))(hB:BB<=B)(hB2:B<=10 ^ 40)(hf:Fd G f c)(q:∀u' G',Td G' (B+10000) (2*N+600) (n+2) u'->Fd G' f c->Sm f G G'->Q u' G') :
  jaq T.gs (jab T (k+2)) jan ⟨λ_ G'=>Q .non G',Q,λx _ G'=>X x G'⟩ [some (.loc f),some (.int i),u2,o3,o4] G:=by
 obtain⟨hi,hN⟩:=h.unint;have h40:i.natAbs<10 ^ 40:=Yam hi hB2;simp! only[jan,jaf (Th.int i) (show "tuple" ∈ ["bool", "int", "str", "list", "tuple", "dict"] by decide)]
 rw[show isD (.int i) "tuple" = false from rfl,if_neg (by decide)]
 simp! only[jaQ,jaf (Th.int i) (show "int" ∈ ["bool", "int", "str", "list", "tuple", "dict"] by decide),jaf (Th.int i) (show "bool" ∈ ["bool", "int", "str", "list", "tuple", "dict"] by decide)]
 rw[show isD (.int i) "int" = true from rfl,if_pos rfl,show isD (.int i) "bool" = false from rfl,if_pos (by decide)]
 simp! only[jkk];refine⟨jlu h40,by decide,λp2 G2 n2=>?_⟩
 have f2:=hf.new n2;have h2:=hf.away n2;refine jac f2 (by decide) (by decide) λr G3 a3 b3 f3 s3=>?_
 refine jbh (s3 _ _ h2.1 n2.at) a3 b3 λu hu=>q u G3 ?_ f3 (n2.sa.sm.trans s3);simp only[Yas,Yao,or_false]at hu;have I:∀z:Int,z.natAbs<=i.natAbs+10000->Td G3 (B+10000) (2*N+600) (n+2) (.int z):=λz hz=>Td.int (by lia) (by lia)
 rcases hu with rfl|rfl|rfl|rfl|rfl|rfl|rfl
 ·exact I _ (by lia)
 ·exact I _ (by lia)
 ·exact Td.bl _ (by lia)
 ·exact Td.istr h40 (by lia)
 ·exact I _ (by lia)
 ·exact Td.non (by lia)
 ·exact I _ (by lia)
def jgq  {X: KX}(h:Td G B N n u)(hB:BB<=B)(hB2:B<=10 ^ 40)(hf:Fd G f c)(hN:N<=100000)(q:∀u' G',Td G' (B+10000) (2*N+600) (n+2) u'->Fd G' f c->Sm f G G'->Q u' G') :
  jaq T.gs (jab T (k+2)) jan ⟨λ_ G'=>Q .non G',Q,λx _ G'=>X x G'⟩ [some (.loc f),some u,u2,o3,o4] G:=by
 obtain⟨d,t⟩:=h.th;have odd:jab T (k+2) jaO [.loc f] G Q X:=ja4 hf λu' G' t' f' s'=>q u' G' (t'.up (Yag hB (YaK _ _)) (by lia) (by lia)) f' s'
 cases t with
 |tup hs=>exact jeI h hB hf hN q
 |int i=>exact jeJ h hB hB2 hf q
 |non=>exact odd
 |bl b=>exact odd
 |str x=>exact odd
 |lst g hs=>
  simp! only[jan,jaf (Th.lst g hs) (show "tuple" ∈ ["bool", "int", "str", "list", "tuple", "dict"] by decide)]
  rw[show isD (.list _) "tuple" = false from rfl,if_neg (by decide)]
  simp! only[jaQ,jaf (Th.lst g hs) (show "int" ∈ ["bool", "int", "str", "list", "tuple", "dict"] by decide)]
  exact odd
 |dic g=>
  simp! only[jan,jaf (Th.dic g) (show "tuple" ∈ ["bool", "int", "str", "list", "tuple", "dict"] by decide)]
  rw[show isD (.dict _) "tuple" = false from rfl,if_neg (by decide)]
  simp! only[jaQ,jaf (Th.dic g) (show "int" ∈ ["bool", "int", "str", "list", "tuple", "dict"] by decide)]
  exact odd

section
variable {k:Nat}{G:Gp}{Q:K1}{X:KX}{u v:U}{us vs:List U}{d e:PyData}{W:Int}{B N n S:Nat}{f c:Addr}
def jdP  {a:Nat}:cut us none (some (a:Int))=us.take a:=jfr us a
def jeZ  {a:Nat}:cut us (some ((a:Int)+1)) none=us.drop (a+1):=jdQ us (a+1)
theorem jbe  : ∀m {k } {G } {Q } {X } {u } {N n } (_:Td G B N n u) (_:BB<=B) (_:B<=10 ^ 40) (_:Fd G f c) (_:N<=100000)
  (_:∀u' G',Td G' (B+10000) (2*N+600) (n+2) u'->Fd G' f c->Sm f G G'->Q u' G'),jab T (k+m+3) ja6 [.loc f,u,.int m] G Q X
 |m,k,G,Q,X,u,N,n,h,hB,hB2,hf,hN,q=>by
  have rest:∀{o3 o4:Option U} {G1:Gp},Fd G1 f c->Sm f G G1->jaq T.gs (jab T (k+m+2)) jan ⟨λ_ G'=>Q .non G',Q,λx _ G'=>X x G'⟩ [some (.loc f),some u,some (.int m),o3,o4] G1:=
   λf1 s1=>jgq (k:=k+m) (h.sm hf s1) hB hB2 f1 hN λu' G' t' f' s'=>q u' G' t' f' (s1.trans s')
  obtain⟨d,t⟩:=h.th;refine⟨rfl,?_⟩;simp! only[jdv,jad,Yab,jaf t (show "tuple" ∈ ["bool", "int", "str", "list", "tuple", "dict"] by decide)]
  cases t with
  |@tup us ds hs=>
   rw[show isD (.tuple ds) "tuple" = true from rfl,if_pos rfl];simp! only[];refine⟨by decide,?_⟩
   cases us with
   |nil=>exact rest hf Sm.refl
   |cons u0 ur=>
    show(if (!(u0::ur).isEmpty)=true then _ else _:Prop)
    rw[show(!(u0::ur).isEmpty)=true from rfl,if_pos rfl];cases m with
    |zero=>exact rest hf Sm.refl
    |succ m=>
     rw[decide_eq_true (show(0:Int)<((m+1:Nat):Int) by lia),if_pos rfl]
     obtain⟨us,eus⟩:∃us,us=u0::ur:=⟨_,rfl⟩;have ul0:0<us.length:=by rw[eus];simp
     rw[<- eus]at h hs rest ⊢;obtain⟨m',S,rfl,rfl,hu⟩:=h.untup;have ul:=hu.len;refine jac (k:=k+m+1+1) hf (by decide) (by decide) λr G1 a1 b1 f1 s1=>?_
     simp! only[];by_cases hr:0<r
     ·rw[if_pos (decide_eq_true hr)];refine jac (k:=k+m+1+1) f1 (by lia) (by lia) λz G2 a2 b2 f2 s2=>?_
      obtain⟨a,rfl⟩:=YaD a2;have ha:a<us.length:=by lia
      have ea:us[a]?=some (us[a]'ha):=Ybf ha;have s02:=s1.trans s2;obtain⟨S1,S2,S3,h1,h2,h3,hS⟩:=((hu.sm hf s02)).nth ea;simp! only[ix_t (jbN ea),jdP,jeZ];rw[show((m+1:Nat):Int)-1=(m:Int) by lia]
      refine jbe m (k:=k) h2 hB hB2 f2 (by lia) λu' G3 t3 f3 s3=>?_
      refine⟨by decide,?_⟩
      have l1:=YcS a us;have l2:(us.drop (a+1)).length<=us.length:=by rw[Ya8];lia
      have bd:∀j:Nat,j<=200000->j<=Yae:=λj hj=>Yag hj (by decide)
      simp! only[];refine⟨bd _ (by simp;lia),?_⟩
      simp! only[];refine⟨bd _ (by simp;lia),q _ G3 ?_ f3 (s02.trans s3)⟩
      have u1:∀{S:Nat} {vs:List U},Tds G2 B S m' vs->Tds G3 (B+10000) S (m'+2) vs:=λh=>(h.sm f2 s3).up (YaK _ _) (Yaa _) (by lia)
      exact(((u1 h1).app (Tds.one t3)).app (u1 h3)).tup.up (Yaa _) (by lia) (by lia)
     ·rw[if_neg (by simpa using hr)]
      exact rest f1 s1
  |_=>exact rest hf Sm.refl
end

def jbg  (a b:Str):(a++b).length=a.length+b.length:=by
 show(a.cps++b.cps).size=_;exact Array.size_append
def jnj  (x y:Str):(x++y).cps.toList=x.cps.toList++y.cps.toList:=by
 show(x.cps++y.cps).toList=_;simp
def As  (x:Str):Prop:=∀c∈x.cps.toList,c<128
def As.app   (ha:As a)(hb:As b):As (a++b):=λc hc=>by
 rw[jnj]at hc;rcases Yds.mp hc with h|h
 ·exact ha c h
 ·exact hb c h
def jfz   (h:As x) lo hi:As (YcE x lo hi):=λc hc=>by
 unfold YcE at hc;split at hc
 ·exact h c hc
 ·have hc:c∈(YdK (λi=>x.cps[i]?) (Builtin.Str.strSliceIndices lo hi 1 x.length)):=by simpa using hc
  obtain⟨i,_,e⟩:=List.mem_filterMap.mp hc;exact h c (Array.mem_toList_iff.mpr (Array.mem_of_getElem? e))
noncomputable def sgT  : Str := " !\"#$&'()*+,-./0123456789:;<=>?@ABCDEFGHIJKLMNOPQRSTUVWXYZ[\\]^_`abcdefghijklmnopqrstuvwxyz{|}~"
def jkp  : sgT.length=94:=by decide +kernel
def jmw  : As sgT:=by
 have:∀c∈sgT.cps.toList,c<128:=by decide +kernel
 exact this

def jbM   (h:a.length+b.length<=Yae)(q:Q (.str (a++b)) G):binU .Add (.str a) (.str b) G Q:=⟨h,q⟩
def jff   (h:Td G B N n (.str x))(hf:Fd G f c)(hN:N<=100000)(q:∀u' G',Td G' (B+10000) (2*N+600) n u'->Fd G' f c->Sm f G G'->Q u' G') :
  jab T (k+2) jal [.loc f,.str x] G Q X:=by
 obtain⟨hc,hx⟩:=h.unstr;have ha:As x:=hc;have hz:(100000:Nat)<=Yae:=by decide
 have hs:x.length<=Yae:=by lia
 have sl:∀lo hi,(YcE x lo hi).length<=x.length:=λlo hi=>YcD x lo hi;refine⟨rfl,?_⟩;simp! only[jap,jad,Yab,jaf (Th.str x) (show "str" ∈ ["bool", "int", "str", "list", "tuple", "dict"] by decide)]
 rw[show isD (.str x) "str" = true from rfl,if_pos rfl];simp! only[jjD];refine⟨hs,?_⟩;refine jac (k:=k) hf (by lia) (by lia) λr G1 r0 r1 f1 s1=>?_
 obtain⟨i,rfl⟩:=YaD r0;simp! only[];refine jac (k:=k) f1 (by decide) (by decide) λd G2 d0 d1 f2 s2=>?_
 have sl94:sgT.cps.toList.length=94:=by decide +kernel
 obtain⟨e,he,ee⟩:=jdC (l:=sgT.cps.toList) (r:=d) d0 (by rw[sl94];exact d1)
 refine ix_s (x:=sgT) (by rw[jkp];decide) ee ?_
 have hw:(⟨#[e]⟩:Str).length=1/\As ⟨#[e]⟩:=⟨rfl,λc hc=>by
  have:c=e:=by simpa using hc
  rw[this];exact jmw e he⟩
 generalize (⟨#[e]⟩:Str)=w at hw ⊢;simp! only[];have l1:=sl none (some (i:Int));have l2:=sl (some (i:Int)) none;have l3:=sl (some ((i:Int)+1)) none;refine⟨hs,jbM (by lia) ⟨hs,jbM (by rw[jbg];lia) ⟨hs,hs,jbM (by lia) ⟨by decide,λp G3 n3=>?_⟩⟩⟩⟩
 have f3:=f2.new n3;have h3:=f2.away n3;simp! only[jeh n3.at];refine⟨hs,jbM (by lia) ⟨hs,jbM (by rw[jbg];lia) ?_⟩⟩
 rw[jhW n3.at];refine⟨by show 2<Yae;decide,λG4 p4=>?_⟩
 have f4:=f3.off h3 p4;refine jac (k:=k) f4 (by decide) (by decide) λr4 G5 a5 b5 f5 s5=>?_
 have s05:Sm f G G5:=(Sm.wr (s1.trans s2) n3.no ((s1.trans s2).nw n3) p4).trans s5;refine jbh (s5 _ _ h3.1 p4.at) a5 (by simpa using b5) λu hu=>q u G5 ?_ f5 s05
 simp only[YbT,YaR,Yas,Yao,or_false]at hu;have S:∀y:Str,y.length<=2*x.length+1->As y->Td G5 (B+10000) (2*N+600) n (.str y):=λy h1 h2=>Td.str h2 (by lia)
 rcases hu with rfl|rfl|rfl
 ·exact S _ (by rw[jbg,jbg];lia) (((jfz ha _ _).app hw.2).app (jfz ha _ _))
 ·exact S _ (by rw[jbg];lia) ((jfz ha _ _).app (jfz ha _ _))
 ·exact S _ (by rw[jbg,jbg];lia) (((jfz ha _ _).app hw.2).app (jfz ha _ _))
def jhi  {X: KX}(h:Td G B N n (.int i))(hB2:B<=10 ^ 40)(hf:Fd G f c)(q:∀u' G',Td G' (B+10000) (2*N+600) n u'->Fd G' f c->Sm f G G'->Q u' G') :
  jaq T.gs (jab T (k+1)) jag ⟨λ_ G'=>Q .non G',Q,λx _ G'=>X x G'⟩ [some (.loc f),some (.int i),o2,o3,o4,o5] G:=by
 obtain⟨hi,hN⟩:=h.unint;have h40:i.natAbs<10 ^ 40:=Yam hi hB2;simp! only[jag,jaf (Th.int i) (show "int" ∈ ["bool", "int", "str", "list", "tuple", "dict"] by decide)]
 rw[show isD (.int i) "int" = true from rfl,if_pos rfl];simp! only[jkk];refine⟨jlu h40,by decide,λp2 G2 n2=>?_⟩
 have f2:=hf.new n2;have h2:=hf.away n2;refine jac f2 (by decide) (by decide) λr G3 a3 b3 f3 s3=>?_
 refine jbh (s3 _ _ h2.1 n2.at) a3 b3 λu hu=>q u G3 ?_ f3 (n2.sa.sm.trans s3);simp only[Yas,Yao,or_false]at hu;have I:∀z:Int,z.natAbs<=i.natAbs+10000->Td G3 (B+10000) (2*N+600) n (.int z):=λz hz=>Td.int (by lia) (by lia)
 rcases hu with rfl|rfl|rfl|rfl|rfl
 ·exact I _ (by lia)
 ·exact I _ (by lia)
 ·exact I _ (by lia)
 ·exact Td.bl _ (by lia)
 ·exact Td.istr h40 (by lia)
def jiN  {X: KX}(hB:BB<=B)(hf:Fd G f c)(q:∀u' G',Td G' (B+10000) (2*N+600) n u'->Fd G' f c->Sm f G G'->Q u' G') :
  jaq T.gs (jab T (k+1)) jag ⟨λ_ G'=>Q .non G',Q,λx _ G'=>X x G'⟩ [some (.loc f),some (.bl b),o2,o3,o4,o5] G:=by
 simp! only[jag,jaf (Th.bl b) (show "int" ∈ ["bool", "int", "str", "list", "tuple", "dict"] by decide)]
 rw[show isD (.bool b) "int" = true from rfl,if_pos rfl];simp! only[jmv];refine⟨.bool b,.int 1,.bl b,.int 1,⟨rfl,by cases b<;>decide⟩,⟨rfl,by decide⟩,by decide,λp2 G2 n2=>?_⟩
 have f2:=hf.new n2;have h2:=hf.away n2;refine jac f2 (by decide) (by decide) λr G3 a3 b3 f3 s3=>?_
 refine jbh (s3 _ _ h2.1 n2.at) a3 b3 λu hu=>q u G3 ?_ f3 (n2.sa.sm.trans s3);simp only[Yas,Yao,or_false]at hu;have I:∀z:Int,z.natAbs<=10000->Td G3 (B+10000) (2*N+600) n (.int z):=λz hz=>Td.int (Ybq hz (Yam (by decide:10000<BB) (Yag hB (YaK _ _)))) (by lia)
 rcases hu with rfl|rfl|rfl|rfl|rfl
 ·exact I _ (by cases b<;>decide)
 ·exact I _ (by cases b<;>decide)
 ·exact I _ (by cases b<;>decide)
 ·exact Td.bl _ (by lia)
 ·refine Td.str ?_ ?_
  ·cases b<;>decide +kernel
  ·have:(if b=true then ("True" : Str) else "False").length<=5:=by cases b<;>decide +kernel
   lia

section
variable {k:Nat}{G:Gp}{Q:K1}{X:KX}{u v:U}{us vs:List U}{d e:PyData}{W:Int}{B N n S:Nat}{f c:Addr}
def jhQ  {a:Nat}:cut us (some (a:Int)) none=us.drop a:=jdQ us a
def jhP  {a:Nat}:cut us (some ((a:Int)+2)) none=us.drop (a+2):=jdQ us (a+2)
def jix  (l:List U) lo hi:(cut l lo hi).length<=l.length:=by
 unfold cut;rw[Ya7,Ya8]
 lia
def jhh  {G0:Gp}{a:Nat}(hu:Tds G B S n us)(hS:S<=100000)(hf:Fd G f c)(s0:Sm f G0 G)
  (q:∀u' G',Td G' (B+10000) (2*S+600) (n+1) u'->Fd G' f c->Sm f G0 G'->Q u' G') :
  jaq T.gs (jab T (k+1)) jaw ⟨λ_ G'=>Q .non G',Q,λx _ G'=>X x G'⟩ [some (.loc f),some (.tup us),o2,some (.int a),o4,o5] G:=by
 have ul:=hu.len;have bd:∀j:Nat,j<=400000->j<=Yae:=λj hj=>Yag hj (by decide)
 have t1:(us.take a).length<=us.length:=by rw[Ya7];lia
 have d0:∀j,(us.drop j).length<=us.length:=λj=>by rw[Ya8];lia
 simp! only[jaw,jdP,jeZ];refine⟨bd _ (by have:=d0 (a+1);lia),λp1 G1 n1=>⟨by decide,λp2 G2 n2=>?_⟩⟩
 have f2:=(hf.new n1).new n2;have h2:=(hf.new n1).away n2;simp! only[jbm,jeh n2.at,jdP,jhQ,jhP,jkx];have c1:=jix us (some (a:Int)) (some ((a:Int)+1));have c2:=jix us (some (a:Int)) (some ((a:Int)+2));refine⟨bd _ (by lia),bd _ (by rw[Yaq];have:=d0 a;lia),?_⟩
 rw[jhW n2.at];refine⟨by show 2<Yae;decide,λG3 p3=>?_⟩
 have f3:=f2.off h2 p3;simp! only[jeh p3.at];refine⟨bd _ (by rw[Yeu];lia),bd _ (by rw[Yaq,Yeu];have:=d0 (a+2);lia),?_⟩
 rw[jhW p3.at];refine⟨by show 3<Yae;decide,λG4 p4=>?_⟩
 have f4:=f3.off h2 p4;refine jac (k:=k) f4 (by decide) (by decide) λr G5 a5 b5 f5 s5=>?_
 have sb:Sm f G0 G2:=s0.trans (n1.sa.trans n2.sa).sm;have no2:G1 p2=none:=n2.no;have s04:Sm f G0 G4:=Sm.wr (s0.trans n1.sa.sm) n2.no (Sm.wr (s0.trans n1.sa.sm) n2.no sb p3) p4;have w2:Sm p2 G2 G4:=p3.sm.trans p4.sm;have g1:G5 p1=some (.lst us):=s5 _ _ (hf.away n1).1 (w2 _ _ (λz=>by have:=n1.at;rw[z,n2.no]at this;cases this) (n2.sa _ _ n1.at))
 have s15:Sm f G G5:=(Sm.wr n1.sa.sm n2.no (Sm.wr n1.sa.sm n2.no (n1.sa.trans n2.sa).sm p3) p4).trans s5;have hu5:Tds G5 B S n us:=hu.sm hf s15;refine jbh (s5 _ _ h2.1 p4.at) a5 (by simpa using b5) λu hu=>q u G5 ?_ f5 (s04.trans s5)
 simp only[YbT,YaR,Yas,Yao,or_false]at hu;have hs:=hu5;rw[<- YbR a us]at hs;obtain⟨S1,S2,h1,h2,h3⟩:=hs.split;have dr:∀j,Tds G5 B S2 n (us.drop (a+j)):=λj=>by rw[<- List.drop_drop];exact h2.drop j
 have up:∀{N' n':Nat} {u:U},Td G5 B N' n' u->N'<=2*S+600->n'<=n+1->Td G5 (B+10000) (2*S+600) (n+1) u:=λh h1 h2=>h.up (YaK _ _) h1 h2;rcases hu with rfl|rfl|rfl|rfl
 ·exact up (h1.app (dr 1)).tup (by lia) (Yaa _)
 ·exact up (Tds.lst g1 hu5) (by lia) (Yaa _)
 ·exact up ((h1.app (hu5.cut _ _)).app h2).tup (by lia) (Yaa _)
 ·exact up ((h1.app (hu5.cut _ _).rev).app (dr 2)).tup (by lia) (Yaa _)
theorem jbd  : ∀n {k } {G } {Q } {X } {u } {N } (_:Td G B N n u) (_:BB<=B) (_:B<=10 ^ 40) (_:Fd G f c) (_:N<=100000)
  (_:∀u' G',Td G' (B+10000) (2*N+600) n u'->Fd G' f c->Sm f G G'->Q u' G'),jab T (k+n+2) jal [.loc f,u] G Q X
 |n,k,G,Q,X,u,N,h,hB,hB2,hf,hN,q=>by
  obtain⟨d,t⟩:=h.th;have st:∀{us:List U} {ds:List PyData},u=.tup us->Th G (.tup us) (.tuple ds)->jab T (k+n+2) jal [.loc f,u] G Q X:=by
   intro us ds eu t2;subst eu;obtain⟨n,S,rfl,rfl,hu⟩:=h.untup;have ul:=hu.len;refine⟨rfl,?_⟩;simp! only[jap,jad,Yab,jaf t2 (show "str" ∈ ["bool", "int", "str", "list", "tuple", "dict"] by decide)]
   rw[show isD (.tuple ds) "str" = false from rfl,if_neg (by decide)]
   simp! only[jag,jaf t2 (show "int" ∈ ["bool", "int", "str", "list", "tuple", "dict"] by decide)]
   rw[show isD (.tuple ds) "int" = false from rfl,if_neg (by decide)]
   simp! only[jax,jaf t2 (show "tuple" ∈ ["bool", "int", "str", "list", "tuple", "dict"] by decide)]
   rw[show isD (.tuple ds) "tuple" = true from rfl,if_neg (by decide)]
   simp! only[jbo];refine jac (k:=k+(n+1)) hf (by lia) (by lia) λz G1 a1 b1 f1 s1=>?_
   obtain⟨a,rfl⟩:=YaD a1;have fin:∀{G2:Gp},Fd G2 f c->Sm f G G2->jaq T.gs (jab T (k+n+1+1)) jaw ⟨λ_ G'=>Q .non G',Q,λx _ G'=>X x G'⟩ [some (.loc f),some (.tup us),none,some (.int a),none,none] G2:=
    λ{G2} f2 s2=>jhh (k:=k+n+1) (hu.sm hf s2) (by lia) f2 s2 λu' G' t' f' s'=>q u' G' (t'.up (Yaa _) (by lia) (Yaa _)) f' s'
   simp! only[jbn];by_cases ha:(a:Int)<us.length
   ·rw[if_pos (decide_eq_true ha)];refine jac (k:=k+(n+1)) f1 (by decide) (by decide) λr G2 a2 b2 f2 s2=>?_
    simp! only[];by_cases hr:0<r
    ·rw[if_pos (decide_eq_true hr)];have ha:a<us.length:=by lia
     have ea:us[a]?=some (us[a]'ha):=Ybf ha;have s02:=s1.trans s2;obtain⟨S1,S2,S3,h1,h2,h3,hS⟩:=(hu.sm hf s02).nth ea;simp! only[ix_t (jbN ea),jdP,jeZ];refine jbd n (k:=k) h2 hB hB2 f2 (by lia) λu' G3 t3 f3 s3=>?_
     refine⟨by decide,?_⟩
     have l1:=YcS a us;have l2:(us.drop (a+1)).length<=us.length:=by rw[Ya8];lia
     have bd:∀j:Nat,j<=200000->j<=Yae:=λj hj=>Yag hj (by decide)
     simp! only[];refine⟨bd _ (by simp;lia),?_⟩
     simp! only[];refine⟨bd _ (by simp;lia),q _ G3 ?_ f3 (s02.trans s3)⟩
     have u1:∀{S:Nat} {vs:List U},Tds G2 B S n vs->Tds G3 (B+10000) S n vs:=λh=>(h.sm f2 s3).up (YaK _ _) (Yaa _) (Yaa _);exact(((u1 h1).app (Tds.one t3)).app (u1 h3)).tup.up (Yaa _) (by lia) (Yaa _)
    ·rw[if_neg (by simpa using hr)]
     exact fin f2 (s1.trans s2)
   ·rw[if_neg (by simpa using ha)]
    exact fin f1 s1
  have non:∀{N' n':Nat},5<=N'->Td G B N' n' .non:=λh=>Td.non h;cases t with
  |tup hs=>exact st rfl (.tup hs)
  |str x=>exact jff (k:=k+n) h hf hN q
  |int i=>
   refine⟨rfl,?_⟩;simp! only[jap,jad,Yab,jaf (Th.int i) (show "str" ∈ ["bool", "int", "str", "list", "tuple", "dict"] by decide)]
   rw[show isD (.int i) "str" = false from rfl,if_neg (by decide)]
   exact jhi (k:=k+n) h hB2 hf q
  |bl b=>
   refine⟨rfl,?_⟩;simp! only[jap,jad,Yab,jaf (Th.bl b) (show "str" ∈ ["bool", "int", "str", "list", "tuple", "dict"] by decide)]
   rw[show isD (.bool b) "str" = false from rfl,if_neg (by decide)]
   exact jiN (k:=k+n) hB hf q
  |non=>
   exact⟨rfl,q _ _ (Td.non (by lia)) hf Sm.refl⟩
  |lst g hs=>
   refine⟨rfl,?_⟩;simp! only[jap,jad,Yab,jaf (Th.lst g hs) (show "str" ∈ ["bool", "int", "str", "list", "tuple", "dict"] by decide)]
   rw[show isD (.list _) "str" = false from rfl,if_neg (by decide)]
   simp! only[jag,jaf (Th.lst g hs) (show "int" ∈ ["bool", "int", "str", "list", "tuple", "dict"] by decide)]
   rw[show isD (.list _) "int" = false from rfl,if_neg (by decide)]
   simp! only[jax,jaf (Th.lst g hs) (show "tuple" ∈ ["bool", "int", "str", "list", "tuple", "dict"] by decide)]
   exact q _ _ (Td.non (by lia)) hf Sm.refl
  |dic g=>
   refine⟨rfl,?_⟩;simp! only[jap,jad,Yab,jaf (Th.dic g) (show "str" ∈ ["bool", "int", "str", "list", "tuple", "dict"] by decide)]
   rw[show isD (.dict _) "str" = false from rfl,if_neg (by decide)]
   simp! only[jag,jaf (Th.dic g) (show "int" ∈ ["bool", "int", "str", "list", "tuple", "dict"] by decide)]
   rw[show isD (.dict _) "int" = false from rfl,if_neg (by decide)]
   simp! only[jax,jaf (Th.dic g) (show "tuple" ∈ ["bool", "int", "str", "list", "tuple", "dict"] by decide)]
   exact q _ _ (Td.non (by lia)) hf Sm.refl
end


def jbY  (hf:Fd G f c)(g:G p=some (.lst us)):p≠f:=λe=>by
 obtain⟨ns,x,y,z,h1,_⟩:=hf.ex;rw[e,h1]at g;cases g
def jhV  {i:Int}(h:i.natAbs<=100000):i.natAbs<BB:=Ybq h (by decide)
def td5  {w:Str}(hw:w = "apart" \/ w = "span")(ha:a.natAbs<=100000)(hb:b.natAbs<=100000)(hl:l.natAbs<=100000)(hh:h.natAbs<=100000):Td G BB 300 1 (.tup [.str w,.int a,.int b,.int l,.int h]):=by
 have I:∀{i:Int},i.natAbs<=100000->Td G BB 50 0 (.int i):=λh=>Td.int (jhV h) (Yaa _);have w8:=jiz hw;exact(Tds.cons (Td.str (N:=82) w8.2 (by have:=w8.1;lia)) (Tds.cons (I ha) (Tds.cons (I hb) (Tds.cons (I hl) (Tds.one (I hh)))))).tup.up (Yaa _) (by decide) (Yaa _)
def jiL   {s:Spn}(h:s.Ok W)(w8:W<=8):Td G BB 300 1 s.u:=by
 have:=h.o;have:=h.t;have:=h.lo;have:=h.hi;exact td5 h.w (by lia) (by lia) (by lia) (by lia)
def jbP  {ss: List Spn}(h:∀s∈ss,s.Ok W)(w8:W<=8):Tds G BB (ss.length*302) 1 (ss.map Spn.u):=by
 have:=Tds.all (G:=G) (B:=BB) (N:=300) (n:=1) (us:=ss.map Spn.u) λu hu=>by
  obtain⟨s,hs,rfl⟩:=List.mem_map.mp hu;exact jiL (h s hs) w8
 rw[Yai]at this;exact this
def jbQ  {xs: List Str}(h:∀x∈xs,Nm x):Tds G BB (xs.length*84) 0 (xs.map .str):=by
 have:=Tds.all (G:=G) (B:=BB) (N:=82) (n:=0) (us:=xs.map .str) λu hu=>by
  obtain⟨x,hx,rfl⟩:=List.mem_map.mp hu;exact Td.str (h x hx).ch (by have:=(h x hx).l8;lia)
 rw[Yai]at this;exact this
def jcA   (ha:Tds G BB 756 0 a)(hb:Tds G BB 7550 1 b):Td G BB 8400 3 (.tup [.tup a,.tup b]):=
 (Tds.cons (ha.tup.up (Yaa _) (Yaa _) (by decide:1<=2)) (Tds.one hb.tup)).tup.up (Yaa _) (by decide) (Yaa _)
noncomputable def nine  : List Str:=["a", "ab", "abc", "b", "ba", "bab", "zzzzzzzz", "q", "qq"]
def jgs  : ∀x∈nine,Nm x:=by
 have h:∀x∈nine,x.length<=8/\∀c∈x.cps.toList,c<128:=by decide +kernel
 exact λx hx=>⟨(h x hx).1,(h x hx).2⟩
noncomputable def wide  : Spn:=⟨"span",0,0,0,9999⟩
def jiA   (h:0<W):wide.Ok W:=⟨.inr rfl,h,h,by decide,by decide⟩
def jho   : (Yab m [wide.u]).flatten=(Yab m wide).map Spn.u:=by
 induction m with
 |zero=>rfl
 |succ m ih=>rw[Yay,Ya4,ih,Yay,YaI];rfl
def jeb   (hf:Fd G f c)(xl:xs.length=W)(w1:0<W)(w8:W<=8)(nm:∀x∈xs,Nm x)(sl:ss.length<=24)(so:∀s∈ss,s.Ok W)
  (q:∀p us G',us.length=7->(∀u∈us,Td G' BB 8400 3 u)->G' p=some (.lst us)->Fd G' f c->Sm f G G'->Q (.loc p) G'):jab T (k+2) jbw [.loc f,jaH xs ss] G Q X:=by
 refine⟨rfl,?_⟩;have bd:∀j:Nat,j<=100->j<=Yae:=λj hj=>Yag hj (by decide)
 simp! only[jbA,jad,Yab,jaH];refine⟨trivial,by decide,?_⟩
 simp! only[ja2];rw[Yai];refine⟨by decide,by decide,by simp,by lia,by lia,bd _ (by lia),?_⟩
 obtain⟨m,hm⟩:∃m:Nat,(24:Int)-ss.length=m:=⟨24-ss.length,by lia⟩
 rw[hm,Ycq,show [U.tup [U.str "span",.int 0,.int 0,.int 0,.int 9999]]=[wide.u]from rfl,jho];simp! only[];refine⟨bd _ (by rw[Yai,YbS];lia),?_⟩
 rw[<- Yb0];obtain⟨ls,hls⟩:∃ls,ls=ss++Yab m wide:=⟨_,rfl⟩;have ll:ls.length=24:=by rw[hls,Yaq,YbS];lia
 have lo':∀s∈ls,s.Ok W:=λs hs=>by
  rw[hls]at hs;rcases Yds.mp hs with h|h
  ·exact so s h
  ·rw[Ycn h];exact jiA w1
 rw[<- hls];have c1:Z.cut (ls.map Spn.u) none (some 1)=(ls.take 1).map Spn.u:=by rw[show(1:Int)=((1:Nat):Int)from rfl,jfr,List.map_take]
 have l1:=YcS 1 ls;simp! only[ja1,c1];refine⟨by decide,by decide,by decide,by decide,by decide,bd _ (by rw[Yai,Yai];lia),by decide,by decide,by decide,by decide,by decide,λp1 G1 n1=>?_⟩
 have f1:=hf.new n1;simp! only[ja0];refine⟨by decide,λp2 G2 n2=>jac (f1.new n2) (by decide) (by decide) λr2 G3 a3 b3 f3 s3=>?_⟩
 refine jaS [9999,10000,0,5] (s3 _ _ (f1.away n2).1 n2.at) a3 b3 λlo hlo=>?_;have hlo':lo.natAbs<=100000:=by simp only[Yas,Yao,or_false]at hlo;lia
 simp! only[jaZ];refine⟨by decide,λp4 G4 n4=>jac (f3.new n4) (by decide) (by decide) λr4 G5 a5 b5 f5 s5=>?_⟩
 refine jaS [9999,10000,0,4,5] (s5 _ _ (f3.away n4).1 n4.at) a5 b5 λhi hhi=>?_;have hhi':hi.natAbs<=100000:=by simp only[Yas,Yao,or_false]at hhi;lia
 simp! only[];refine⟨by decide,λp6 G6 n6=>jac (f5.new n6) (by decide) (by decide) λr6 G7 a7 b7 f7 s7=>?_⟩
 refine jbh (xs:=[.str "span",.str "apart"]) (s7 _ _ (f5.away n6).1 n6.at) a7 b7 λwu hwu=>?_;obtain⟨w,rfl,hw⟩:∃w:Str,wu=.str w/\(w = "apart" \/ w = "span"):=by
  simp only[Yas,Yao,or_false]at hwu;rcases hwu with rfl|rfl
  ·exact⟨_,rfl,.inr rfl⟩
  ·exact⟨_,rfl,.inl rfl⟩
 simp! only[Yai,xl];refine⟨by decide,by decide,by decide,by decide,by decide,by decide,by decide,λp8 G8 n8=>?_⟩
 have f8:=f7.new n8;have h3:=s3 _ _ (jbY (f1.new n2) (n2.sa _ _ n1.at)) (n2.sa _ _ n1.at);have h5:=s5 _ _ (jbY (f3.new n4) (n4.sa _ _ h3)) (n4.sa _ _ h3);have h1:=n8.sa _ _ (s7 _ _ (jbY (f5.new n6) (n6.sa _ _ h5)) (n6.sa _ _ h5));simp! only[];refine⟨_,_,h1,n8.at,bd 7 (by decide),λp9 G9 n9=>q p9 _ G9 rfl (λu hu=>?_) n9.at (f8.new n9) (n1.sa.sm.trans (n2.sa.sm.trans (s3.trans (n4.sa.sm.trans (s5.trans (n6.sa.sm.trans (s7.trans (n8.sa.sm.trans n9.sa.sm))))))))⟩
 have nx:Tds G9 BB 756 0 (xs.map .str):=(jbQ nm).up (Yaa _) (by lia) (Yaa _)
 have sx:Tds G9 BB 7550 1 (ss.map Spn.u):=(jbP so w8).up (Yaa _) (by lia) (Yaa _)
 have n9':Tds G9 BB 756 0 (nine.map .str):=jbQ jgs;have n8':Tds G9 BB 756 0 ((nine.take 8).map .str):=(jbQ λx hx=>jgs x (YcK hx)).up (Yaa _) (by decide) (Yaa _)
 have one:∀{a b:Int},a.natAbs<=100000->b.natAbs<=100000->Td G9 BB 8400 3 (.tup [.tup (xs.map .str),.tup [.tup [.str w,.int a,.int b,.int lo,.int hi]]]):=λha hb=>jcA nx ((Tds.one (td5 hw ha hb hlo' hhi')).up (Yaa _) (by decide) (Yaa _))
 simp only[YbT,YaR,Yas,Yao,or_false]at hu;rcases hu with rfl|rfl|rfl|rfl|rfl|rfl|rfl
 ·exact jcA n8' sx
 ·exact jcA n9' sx
 ·exact jcA nx ((jbP lo' w8).up (Yaa _) (by lia) (Yaa _))
 ·refine jcA nx ?_;rw[<- Yb0];refine(jbP (λs hs=>?_) w8).up (Yaa _) (by rw[Yaq];lia) (Yaa _)
  rcases Yds.mp hs with h|h
  ·exact lo' s h
  ·exact lo' s (YcK h)
 ·exact jcA (Tds.nil.up (Yaa _) (YaN _) (Yaa _)) (Tds.nil.up (Yaa _) (YaN _) (Yaa _))
 ·exact one (by decide) (by lia)
 ·exact one (by lia) (by decide)

theorem jfj  {α β:Type}(g:α->β):∀l:List α,l.mapIdx (λ_ c=>g c)=l.map g
 |[]=>rfl
 |a::l=>by rw[List.mapIdx_cons,jfj g l];rfl
def jfW   : (Yco x).cps.toList=x.cps.toList.flatMap λc=>YaQ c:=by
 show(PySem.placed x λx c=>YaQ c).toList=_;unfold PySem.placed;rw[Array.toList_flatten,Array.toList_mapIdx,jfj (λc=>(YaQ c).toArray),Ya9,List.flatMap];rfl
def up_1  : ∀c,c<128->(YaQ c).length<=1/\∀d∈YaQ c,d<128:=by
 have h:∀c∈Ybm 128,(YaQ c).length<=1/\(YaQ c).all (·< 128)=true:=by decide +kernel
 exact λc hc=>⟨(h c (List.mem_range.mpr hc)).1,λd hd=>by simpa using YbU.mp (h c (List.mem_range.mpr hc)).2 d hd⟩
theorem jio  {f:Nat->List Nat}:∀l:List Nat,(∀c∈l,(f c).length<=1)->(l.flatMap f).length<=l.length
 |[],_=>Yaa _
 |a::l,h=>by
  rw[List.flatMap_cons,Yaq,YaX];have:=h a Yaw;have:=jio l λc hc=>h c (Yal _ hc)
  lia
def jl3   (h:As x):(Yco x).length<=x.length/\As (Yco x):=by
 refine⟨?_,λc hc=>?_⟩
 ·have:=jio (f:=λc=>YaQ c) x.cps.toList λc hc=>(up_1 c (h c hc)).1;rw[<- jfW]at this;simpa[Yc5]using this
 ·rw[jfW]at hc;obtain⟨d,hd,e⟩:=List.mem_flatMap.mp hc;exact(up_1 d (h d hd)).2 c e
def jkz    (h:As x):(repS x n).length=n*x.length/\As (repS x n):=by
 refine⟨?_,λc hc=>?_⟩
 ·show((Yab n x.cps.toList).flatten.toArray).size=_;simp[Yc5]
 ·have hc:c∈(Yab n x.cps.toList).flatten:=by simpa[repS]using hc
  obtain⟨l,hl,e⟩:=List.mem_flatten.mp hc;rw[Ycn hl]at e;exact h c e

def jjY    : binU .Mult (.str z) (.int j) G Q=(0<=j/\j<1000/\z.length<=1000/\Q (.str (repS z j.toNat)) G):=rfl
def jmX   : ja7 .upper (.str z) [] G Q=(Builtin.Str.tooLong (Yco z).length=false/\Q (.str (Yco z)) G):=rfl
def jmY   : mtU .upper (.str z) G=some ("str", "str.upper"):=rfl
def jc9  {xs: List Str}(hf:Fd G f c)(xl:xs.length=W)(w1:0<W)(w8:W<=8)(nm:∀x∈xs,Nm x)(q:∀G',Fd G' f c->Sm f G G'->Q (.bl true) G'):jab T (k+3) ja5 [.loc f,.tup (xs.map .str)] G Q X:=by
 obtain⟨x,xr,rfl⟩:∃x xr,xs=x::xr:=by
  cases xs with
  |nil=>cases xl;exact absurd w1 (by decide)
  |cons x xr=>exact⟨x,xr,rfl⟩
 have nx:=nm x (by simp)
 have xl':xr.length+1=W:=xl;have ax:As x:=nx.ch;have lx:=nx.l8;refine⟨rfl,?_⟩;simp! only[ja8,jad,Yab];intro p1 G1 n1;have f1:=hf.new n1;simp! only[ix_t (jde _ _)];refine jac f1 (by decide) (by decide) λr G2 a2 b2 f2 s2=>?_
 have a1:("a" : Str).length=1/\As "a" := by
  refine⟨by decide +kernel,?_⟩
  have:∀c∈("a" : Str).cps.toList,c<128:=by decide +kernel
  exact this
 have sp:(" " : Str).length=1/\As " " := by
  refine⟨by decide +kernel,?_⟩
  have:∀c∈(" " : Str).cps.toList,c<128:=by decide +kernel
  exact this
 rw[jjY];have hr:=jkz (n:=r.toNat) a1.2;have sz:(100:Nat)<=Yae:=by decide
 have hrl:(repS "a" r.toNat).length<=9:=by rw[hr.1,a1.1];lia
 have up:=jl3 ax;refine⟨by lia,by lia,by rw[show(Ya3 "a").length=1 from a1.1];decide,jbM (Yag (YdT lx hrl) (by decide)) ?_⟩
 simp! only[ix_t (jde _ _),jmY,jmX];refine⟨decide_eq_false (by have:=up.1;lia),?_⟩
 simp! only[ix_t (jde _ _)];refine jbM (Yag (YdT lx (YcH sp.1)) (by decide)) ⟨by decide,λp3 G3 n3=>?_⟩
 have g1:=n3.sa _ _ (s2 _ _ (jbY f1 n1.at) n1.at);simp! only[];refine⟨_,_,g1,n3.at,Yag (m:=20) (by simp only[YaX,Yai,YbB];lia) (by decide),λp4 G4 n4=>?_⟩
 have f4:=(f2.new n3).new n4;have s04:Sm f G G4:=n1.sa.sm.trans (s2.trans (n3.sa.trans n4.sa).sm);simp! only[];have hl0:(xr.map U.str).length+1<=20:=by rw[Yai];lia
 refine⟨Yag hl0 (by decide),?_⟩
 refine jaG (λi acc G'=>Fd G' f c/\Sm f G4 G'/\acc.length=i/\∀u∈acc,Td G' (BB+10000) 800 0 u) ?_ ?_ ⟨f4,Sm.refl,rfl,λ_ h=>nomatch h⟩
 ·rintro acc G5 ⟨f5,s5,hl,ha⟩;refine⟨trivial,λp6 G6 n6=>?_⟩;have g4:=n6.sa _ _ (s5 _ _ (jbY f4 n4.at) n4.at);simp! only[];refine⟨_,_,g4,n6.at,?_,λp7 G7 n7=>?_⟩
  ·refine Yag (m:=100) ?_ (by decide)
   rw[hl];simp only[Yaq,YaX,Yai,YbB]
   lia
  have s67:=n6.sa.trans n7.sa;have f7:=f5.sa s67;dsimp only;rw[it_l n7.at];have S:∀y:Str,y.length<=20->As y->Td G7 (BB+10000) 800 0 (.str y):=λy h1 h2=>Td.str h2 (by lia)
  have hu:∀u∈([U.str x]++xr.map U.str++[U.str (x++repS "a" r.toNat),.str (Yco x),.str (x ++ " ")])++acc,Td G7 (BB+10000) 800 0 u:=λu h=>by
   rcases Yds.mp h with h|h
   ·rcases Yds.mp h with h|h
    ·obtain⟨y,hy,rfl⟩:∃y∈x::xr,U.str y=u:=List.mem_map.mp h;exact S y (by have:=(nm y hy).l8;lia) (nm y hy).ch
    ·simp only[Yas,Yao,or_false]at h;rcases h with rfl|rfl|rfl
     ·exact S _ (by rw[jbg];lia) (ax.app hr.2)
     ·exact S _ (by lia) up.2
     ·exact S _ (by rw[jbg];have:=sp.1;lia) (ax.app sp.2)
   ·exact(ha u h).sa s67
  refine jbi (λ_ ς G'=>Sa G7 G'/\∃o3,ς=[some (.loc f),some (.tup (.str x::xr.map .str)),some (.loc p4),o3]) ?_ ?_ ⟨Sa.refl,_,rfl⟩
  ·rintro ς G8 ⟨s8,o3,rfl⟩;refine⟨by unfold lsG;rw[s8 _ _ n7.at],?_⟩
   exact q G8 (f7.sa s8) (s04.trans (s5.trans (s67.trans s8).sm))
  ·rintro i y ς G8 K1 hx ⟨s8,o3,rfl⟩ hk;refine⟨by unfold lsG;rw[s8 _ _ n7.at],?_⟩
   have t:=(hu y (YaL hx)).sa s8;obtain⟨d,th⟩:=t.th;simp! only[];refine jci (k:=k+1) th (t.asc (by decide)) λG9 s9=>?_
   simp! only[];refine jbJ (k:=k+1) (th.sa s9) (t.asc (by decide)) λG10 s10=>?_
   simp! only[];refine jch (k:=k+1) ?_;rw[decide_eq_true rfl];simp! only[];exact hk _ _ ⟨s8.trans (s9.trans s10),_,rfl⟩
 ·rintro i y acc G5 K hx ⟨f5,s5,hl,ha⟩ hk _;obtain⟨z,hz,rfl⟩:∃z∈x::xr,U.str z=y:=List.mem_map.mp (YaL hx);have nz:=nm z hz;have tz:Td G5 BB 82 0 (.str z):=Td.str nz.ch (by have:=nz.l8;lia)
  refine⟨trivial,?_⟩;simp! only[];refine jff (k:=k) tz f5 (by decide) λu' G6 t6 f6 s6=>hk _ _ ⟨f6,s5.trans s6,by simp[hl],λu h=>?_⟩
  rcases Yds.mp h with h|h
  ·exact(ha u h).sm f5 s6
  ·rw[List.mem_singleton.mp h];exact t6.up (Yaa _) (by decide) (Yaa _)

section
variable {k:Nat}{G:Gp}{Q:K1}{X:KX}{u v:U}{us vs:List U}{B N n S W:Nat}{f c p:Addr}{xs:List Str}{ss:List Spn}{P:Int}{rs:List Int}
def jgp  (hf:Fd G f c)(h1:1<=P)(h2:P<=600)(w8:W<=8)(q:∀(bs:List Int) G' ,bs.length=W->(∀b∈bs,b.natAbs<=600)->Fd G' f c->Sm f G G'->Q (jaX bs) G'):jab T (k+2) jcN [.loc f,.int W,.int P] G Q X:=by
 refine⟨rfl,?_⟩;simp! only[jcX,jad,Yab];refine⟨by lia,by lia,by rw[jaW];exact Yag w8 (by decide),?_⟩
 refine jaG (λi acc G'=>Fd G' f c/\Sm f G G'/\∃bs:List Int,acc=bs.map .int/\bs.length=i/\∀b∈bs,b.natAbs<=600) ?_ ?_ ⟨hf,Sm.refl,[],rfl,rfl,λ_ h=>nomatch h⟩
 ·rintro acc G1 ⟨f1,s1,bs,rfl,hl,hb⟩;rw[jaW]at hl;refine⟨trivial,λpb G2 n2=>?_⟩;simp! only[it_l n2.at];exact q bs _ hl hb (f1.new n2) (s1.nw n2)
 ·rintro i x acc G1 K hx ⟨f1,s1,bs,rfl,hl,hb⟩ hk _;exact⟨trivial,jac f1 (by lia) (by lia) λr G2 a2 b2 f2 s2=>hk _ _ ⟨f2,s1.trans s2,bs++[r],by simp,by simp[hl],λb h=>by
   rcases Yds.mp h with h|h
   ·exact hb b h
   ·rw[List.mem_singleton.mp h];lia⟩⟩
def jf3  (rl:rs.length<=25)(rb:∀r∈rs,r.natAbs<=1000):Td G BB 1303 1 (jaX rs):=
 Td.some (m:=25) (N:=50) (n:=0) (λu hu=>by
  obtain⟨r,hr,rfl⟩:=List.mem_map.mp hu;exact Td.int (jhV (by have:=rb r hr;lia)) (Yaa _)) (by rw[Yai];exact rl) (by decide)
def Tds.keep  (hf:Fd G f c)(g:G p=some (.lst us))(h:Tds G B S n us)(hB:B<=10 ^ 40)(hS:S+3<=16000000)(hn:n+1<=60):∃z ,∀G' Q ,Sm f G G'->Q (.str z) G'->jge [.loc p] G' Q:=by
 obtain⟨d,a,b,c,e⟩:=(Tds.lst g h).ex;obtain⟨h1,h2⟩:=jki hB b;exact⟨d.shown,λG' Q s q=>⟨d,(a.mono hf s).du,⟨h1,Yag h2 (Yag e hS),Yag c hn⟩,q⟩⟩
def Td.tl  (h:Td G B N n u):∀us,u=.tup us->us.length<=N:=λus e=>by
 subst e;obtain⟨m,S,rfl,rfl,hu⟩:=h.untup;exact Yag hu.len (YaK _ _)

def jky    : (Yab m [U.int z]).flatten=(Yab m z).map U.int:=by
 induction m with
 |zero=>rfl
 |succ m ih=>rw[Yay,Ya4,ih,Yay,YaI];rfl
def jh4    (hm:m<=24)(hz:z.natAbs<=701):Td G (BB+10000) 3300 3 (.tup ((Yab m z).map .int)):=
 (jf3 (rs:=Yab m z) (by rw[YbS];lia) λr hr=>by rw[Ycn hr];lia).up (YaK _ _) (by decide) (by decide)
def jhK  {K: Sg->Gp->Prop}(hf:Fd G f c)(rl:rs.length<=24)(sl:ss.length<=24)(hb:b.natAbs<=700)(g:G p=some (.lst us))(ul:us.length<=20)(hu:∀u∈us,Td G (BB+10000) 3300 3 u)(kk:∀o10 G',Fd G' f c->Sm f G G'->K [some (.loc a),some (.loc f),u2,some (.int xs.length),some (.int P),some (jaH xs ss),u6,u7,u8,u9,o10,u11,u12,some (jaX rs),some (.int b),some (.loc p)] G') :
  jaq T.gs (jab T (k+12)) jaT ⟨K,Q,λx _ G'=>X x G'⟩ [some (.loc a),some (.loc f),u2,some (.int xs.length),some (.int P),some (jaH xs ss),u6,u7,u8,u9,u10,u11,u12,some (jaX rs),some (.int b),some (.loc p)] G:=by
 have bd:∀j:Nat,j<=100->j<=Yae:=λj hj=>Yag hj (by decide)
 simp! only[jaT,jaX,Yai];refine⟨by decide,nofun,by lia,by lia,bd _ (by lia),by decide,nofun,by lia,by lia,bd _ (by lia),?_⟩
 rw[jky,jky];refine ja4 (k:=k+10) hf λuo G1 to f1 s1=>⟨by decide,λp2 G2 n2=>?_⟩
 have g2:=n2.sa _ _ (s1 _ _ (jbY hf g) g);simp! only[];refine⟨_,_,g2,n2.at,bd _ (show us.length+3<=100 by lia),λp3 G3 n3=>?_⟩
 have s23:=n2.sa.trans n3.sa;have f3:=(f1.new n2).new n3;dsimp only;rw[it_l n3.at];have h3:∀u∈us++[.tup ((Yab rs.length b).map .int),.tup ((Yab rs.length (b+1)).map .int),uo],Td G3 (BB+10000) 3300 3 u:=λu h=>by
  rcases Yds.mp h with h|h
  ·exact((hu u h).sm hf s1).sa s23
  ·simp only[Yas,Yao,or_false]at h;rcases h with rfl|rfl|rfl
   ·exact jh4 rl (by lia)
   ·exact jh4 rl (by lia)
   ·exact(to.sa s23).up (YaK _ _) (by decide) (by decide)
 refine jbi (λ_ ς G'=>Sa G3 G'/\∃o10,ς=[some (.loc a),some (.loc f),u2,some (.int xs.length),some (.int P),some (jaH xs ss),u6,u7,u8,u9,o10,u11,u12,some (jaX rs),some (.int b),some (.loc p)]) ?_ ?_ ⟨Sa.refl,_,rfl⟩
 ·rintro ς G4 ⟨s4,o10,rfl⟩;exact⟨by unfold lsG;rw[s4 _ _ n3.at],kk _ _ (f3.sa s4) (s1.trans (s23.trans s4).sm)⟩
 ·rintro i x ς G4 K1 hx ⟨s4,o10,rfl⟩ hk;refine⟨by unfold lsG;rw[s4 _ _ n3.at],?_⟩
  have t4:=(h3 x (YaL hx)).sa s4;have tl:=λus e=>Yag (t4.tl us e) (by decide:3300<=4000)
  obtain⟨d,th⟩:=t4.th;simp! only[];refine jed (k:=k+8) th tl λG5 s5=>?_;simp! only[];refine jbH (k:=k+9) (th.sa s5) tl λG6 s6=>?_;simp! only[];refine jch (k:=k+11) ?_;rw[decide_eq_true rfl];simp! only[];refine jdc (k:=k+8) ((th.sa s5).sa s6) tl λG7 s7=>?_;simp! only[jaH,ix_t (jjZ _ _ _),Yai];refine jbH (k:=k+9) (((th.sa s5).sa s6).sa s7) tl λG8 s8=>?_;simp! only[];refine jch (k:=k+11) ?_;rw[decide_eq_true rfl];simp! only[];exact hk _ _ ⟨s4.trans (s5.trans (s6.trans (s7.trans s8))),_,rfl⟩
def jlG   (hz:∀(Q:K1),Q (.str z) G->jge [.loc p] G Q)(kk:K [some (.loc a),some (.loc f),u2,u3,u4,u5,some (.loc p),u7,u8,some (.str z),u10,u11,u12,u13,u14,u15] G) :
  jaq T.gs (jab T (k+12)) jbb ⟨K,Q,λx _ G'=>X x G'⟩ [some (.loc a),some (.loc f),u2,u3,u4,u5,some (.loc p),u7,u8,some (.str z),u10,u11,u12,u13,u14,u15] G:=by
 simp! only[jbb];refine hz _ (jjx ?_);rw[if_neg (by decide)]
 exact kk
end


def jm1  {X: KX}(g:G p=some (.lst us))(hu:∀u∈us,Td G B 40000 n u)(kk:∀o10 G',Sa G G'->jaq T.gs (jab T (k+12)) jcb ⟨K,Q,λx _ G'=>X x G'⟩ [some (.loc a),some (.loc f),u2,u3,u4,u5,some (.loc p),u7,u8,u9,o10,u11,u12,u13,u14,u15] G') :
  jaq T.gs (jab T (k+12)) jcc ⟨K,Q,λx _ G'=>X x G'⟩ [some (.loc a),some (.loc f),u2,u3,u4,u5,some (.loc p),u7,u8,u9,u10,u11,u12,u13,u14,u15] G:=by
 simp! only[jcc];rw[it_l g];refine jbi (λ_ ς G'=>Sa G G'/\∃o10,ς=[some (.loc a),some (.loc f),u2,u3,u4,u5,some (.loc p),u7,u8,u9,o10,u11,u12,u13,u14,u15]) ?_ ?_ ⟨Sa.refl,_,rfl⟩
 ·rintro ς G1 ⟨s1,o10,rfl⟩;exact⟨by unfold lsG;rw[s1 _ _ g],kk _ _ s1⟩
 ·rintro i x ς G1 K1 hx ⟨s1,o10,rfl⟩ hk;refine⟨by unfold lsG;rw[s1 _ _ g],?_⟩
  have t1:=(hu x (YaL hx)).sa s1;simp! only[];refine jfG (k:=k+8) t1 (by decide) λG2 s2=>?_
  simp! only[];refine jeF (k:=k+8) (t1.sa s2) (by decide) λG3 s3=>?_
  simp! only[];refine jch (k:=k+11) ?_;rw[decide_eq_true rfl];have t3:=(t1.sa s2).sa s3;obtain⟨d,th⟩:=t3.th;simp! only[];rw[if_neg (by decide)]
  refine jci (k:=k+11) th (t3.asc (by decide)) λG4 s4=>?_
  simp! only[];refine jbJ (k:=k+11) (th.sa s4) (t3.asc (by decide)) λG5 s5=>?_
  simp! only[];refine jch (k:=k+11) ?_;rw[decide_eq_true rfl];simp! only[];exact hk _ _ ⟨s1.trans (s2.trans (s3.trans (s4.trans s5))),_,rfl⟩
def jm0  {X: KX}(hf:Fd G f c)(kk:∀o10 G',Fd G' f c->Sm f G G'->jaq T.gs (jab T (k+12)) jb9 ⟨K,Q,λx _ G'=>X x G'⟩ [some (.loc a),some (.loc f),u2,u3,some (.int P),u5,u6,u7,u8,u9,o10,u11,u12,u13,u14,u15] G') :
  jaq T.gs (jab T (k+12)) jca ⟨K,Q,λx _ G'=>X x G'⟩ [some (.loc a),some (.loc f),u2,u3,some (.int P),u5,u6,u7,u8,u9,u10,u11,u12,u13,u14,u15] G:=by
 simp! only[jca];refine ja4 (k:=k+10) hf λuo G1 to f1 s1=>?_;simp! only[];refine⟨by decide,λp2 G2 n2=>?_⟩
 dsimp only;rw[it_l n2.at];have th:∀u∈[U.int P,.int 0,.int 1,.int 600,.int 601,.int (-1),.bl true,.str "1",.non,uo],∃d,Th G2 u d:=λu hu=>by
  simp only[Yas,Yao,or_false]at hu;rcases hu with rfl|rfl|rfl|rfl|rfl|rfl|rfl|rfl|rfl|rfl
  ·exact⟨_,.int _⟩
  ·exact⟨_,.int _⟩
  ·exact⟨_,.int _⟩
  ·exact⟨_,.int _⟩
  ·exact⟨_,.int _⟩
  ·exact⟨_,.int _⟩
  ·exact⟨_,.bl _⟩
  ·exact⟨_,.str _⟩
  ·exact⟨_,.non⟩
  ·exact(to.sa n2.sa).th
 refine jbi (λ_ ς G'=>G'=G2/\∃o10,ς=[some (.loc a),some (.loc f),u2,u3,some (.int P),u5,u6,u7,u8,u9,o10,u11,u12,u13,u14,u15]) ?_ ?_ ⟨rfl,_,rfl⟩
 ·rintro ς G3 ⟨rfl,o10,rfl⟩;exact⟨by unfold lsG;rw[n2.at],kk _ _ (f1.new n2) (s1.trans n2.sa.sm)⟩
 ·rintro i x ς G3 K1 hx ⟨rfl,o10,rfl⟩ hk;refine⟨by unfold lsG;rw[n2.at],?_⟩
  obtain⟨d,t⟩:=th x (YaL hx);simp! only[];refine jeG (k:=k+9) t ?_;simp! only[];refine jbT (k:=k+11) t ?_;simp! only[];refine jch (k:=k+11) ?_;rw[decide_eq_true rfl];simp! only[];exact hk _ _ ⟨rfl,_,rfl⟩


def jm3  {X: KX}{u12: Option U}{u13: Option U}{u14: Option U}{u15: Option U}(hf:Fd G f c)(hp:Td G BB 8400 3 pl)(g:G p=some (.lst us))(ul:us.length<=10)(hu:∀u∈us,Td G (BB+20000) 40000 8 u)
  (kk:∀p us o7 o8 G',Fd G' f c->Sm f G G'->G' p=some (.lst us)->us.length<=38->(∀u∈us,Td G' (BB+20000) 40000 8 u)->jaq T.gs (jab T (k+12)) jbE ⟨K,Q,λx _ G'=>X x G'⟩ [some (.loc a),some (.loc f),u2,u3,u4,some pl,some (.loc p),o7,o8,u9,u10,u11,u12,u13,u14,u15] G') :
  jaq T.gs (jab T (k+12)) jcd ⟨K,Q,λx _ G'=>X x G'⟩ [some (.loc a),some (.loc f),u2,u3,u4,some pl,some (.loc p),u7,u8,u9,u10,u11,u12,u13,u14,u15] G:=by
 have b40:BB+10000<=10 ^ 40:=by decide
 have up:∀{G:Gp} {B N n:Nat} {u:U},Td G B N n u->B<=BB+20000->N<=40000->n<=8->Td G (BB+20000) 40000 8 u:=λh h1 h2 h3=>h.up h1 h2 h3;simp! only[jcd];refine⟨by decide,by decide,?_⟩
 refine jbi (λi ς G'=>Fd G' f c/\Sm f G G'/\∃p us o7 o8,ς=[some (.loc a),some (.loc f),u2,u3,u4,some pl,some (.loc p),o7,o8,u9,u10,u11,u12,u13,u14,u15]/\G' p=some (.lst us)/\us.length<=10+4*i/\∀u∈us,Td G' (BB+20000) 40000 8 u) ?_ ?_ ⟨hf,Sm.refl,_,_,_,_,rfl,g,ul,hu⟩
 ·rintro ς G1 ⟨f1,s1,p,us,o7,o8,rfl,g1,ul,hu⟩;rw[jaW]at ul;exact⟨trivial,kk _ _ _ _ _ f1 s1 g1 ul hu⟩
 ·rintro i x ς G1 K1 hx ⟨f1,s1,p,us,o7,o8,rfl,g1,ul,hu⟩ hk;obtain⟨hi,rfl⟩:=jez hx;refine⟨trivial,?_⟩;have hp1:=hp.sm hf s1;simp! only[];refine jbe 4 (k:=k+5) hp1 (Yaa _) (by decide) f1 (by decide) λb1 G2 t2 f2 s2=>?_
  simp! only[];refine jbe 4 (k:=k+5) t2 (YaK _ _) b40 f2 (by decide) λb2 G3 t3 f3 s3=>?_
  simp! only[];have hp3:=hp1.sm f1 (s2.trans s3);refine jbd 3 (k:=k+7) hp3 (Yaa _) (by decide) f3 (by decide) λb3 G4 t4 f4 s4=>?_
  simp! only[];have t24:=t2.sm f2 (s3.trans s4);refine jbd 5 (k:=k+5) t24 (YaK _ _) b40 f4 (by decide) λb4 G5 t5 f5 s5=>?_
  simp! only[];have s15:=s2.trans (s3.trans (s4.trans s5));have g5:=s15 _ _ (jbY f1 g1) g1;refine⟨by decide,λp6 G6 n6=>⟨_,_,n6.sa _ _ g5,n6.at,Yag (show us.length+4<=100 by lia) (by decide),λp7 G7 n7=>?_⟩⟩
  have s57:=n6.sa.trans n7.sa;refine hk _ _ ⟨(f5.new n6).new n7,s1.trans (s15.trans s57.sm),_,_,_,_,rfl,n7.at,by rw[Yaq];exact(show us.length+4<=10+4*(i+1) by lia),λu hu2=>?_⟩
  rcases Yds.mp hu2 with h|h
  ·exact((hu u h).sm f1 s15).sa s57
  ·simp only[Yas,Yao,or_false]at h;rcases h with rfl|rfl|rfl|rfl
   ·exact(up (t24.sm f4 s5) (by lia) (by decide) (by decide)).sa s57
   ·exact(up (t3.sm f3 (s4.trans s5)) (by lia) (by decide) (by decide)).sa s57
   ·exact(up (t4.sm f4 s5) (by lia) (by decide) (by decide)).sa s57
   ·exact(up t5 (by lia) (by decide) (by decide)).sa s57
def jlI  {X: KX}{u15: Option U}(hf:Fd G f c)(sl:ss.length<=24)(kk:∀(ws:List Int) G',ws.length=ss.length->(∀w∈ws,w.natAbs<=600)->Fd G' f c->Sm f G G'->jaq T.gs (jab T (k+12)) jbc ⟨K,Q,λx _ G'=>X x G'⟩ [some (.loc a),some (.loc f),u2,u3,u4,some (jaH xs ss),u6,u7,u8,u9,u10,u11,some (jaX ws),u13,u14,u15] G') :
  jaq T.gs (jab T (k+12)) jbI ⟨K,Q,λx _ G'=>X x G'⟩ [some (.loc a),some (.loc f),u2,u3,u4,some (jaH xs ss),u6,u7,u8,u9,u10,u11,u12,u13,u14,u15] G:=by
 simp! only[jbI,jaH,ix_t (jjZ _ _ _)];refine⟨Yag (show(ss.map Spn.u).length<=24 by rw[Yai];exact sl) (by decide),?_⟩
 refine jaG (λi acc G'=>Fd G' f c/\Sm f G G'/\∃bs:List Int,acc=bs.map .int/\bs.length=i/\∀b∈bs,b.natAbs<=600) ?_ ?_ ⟨hf,Sm.refl,[],rfl,rfl,λ_ h=>nomatch h⟩
 ·rintro acc G1 ⟨f1,s1,bs,rfl,hl,hb⟩;rw[Yai]at hl;refine⟨trivial,λpb G2 n2=>?_⟩;simp! only[it_l n2.at];exact kk bs _ hl hb (f1.new n2) (s1.nw n2)
 ·rintro i x acc G1 K hx ⟨f1,s1,bs,rfl,hl,hb⟩ hk _;refine⟨trivial,?_⟩;simp! only[];refine jac f1 (by decide) (by decide) λr G2 a2 b2 f2 s2=>⟨by decide,λp3 G3 n3=>?_⟩
  refine jac (f2.new n3) (by decide) (by decide) λr4 G4 a4 b4 f4 s4=>?_
  refine jaS [0,1,99,r] (s4 _ _ (f2.away n3).1 n3.at) a4 b4 λz hz=>?_;have hz':z.natAbs<=600:=by simp only[Yas,Yao,or_false]at hz;lia
  exact hk _ _ ⟨f4,(s1.trans s2).trans (n3.sa.sm.trans s4),bs++[z],by simp,by simp[hl],λb h=>by
   rcases Yds.mp h with h|h
   ·exact hb b h
   ·rw[List.mem_singleton.mp h];exact hz'⟩

section
variable {k:Nat}{G:Gp}{Q:K1}{X:KX}{u v pl:U}{us vs:List U}{B N n S W:Nat}{f c p:Addr}{xs:List Str}{ss:List Spn}{P:Int}{rs bs ws:List Int}
variable {K:Sg->Gp->Prop}{a:Addr}{u2 u3 u4 u5 u6 u7 u8 u9 u10 u11 u12 u13 u14 u15:Option U}{b:Int}
def jgD  (hf:Fd G f c)(rl:rs.length<=24)(rb:∀r∈rs,r.natAbs<=600)(sl:ss.length<=24)(x8:xs.length<=8)(hb:b.natAbs<=600)(g:G p=some (.lst us))(ul:us.length<=9)(hu:∀u∈us,Td G (BB+10000) 3300 3 u)
  (kk:∀o10 o15 G',Fd G' f c->Sm f G G'->K [some (.loc a),some (.loc f),u2,some (.int xs.length),some (.int P),some (jaH xs ss),u6,u7,u8,u9,o10,u11,u12,some (jaX rs),some (.int b),o15] G') :
  jaq T.gs (jab T (k+12)) jaU ⟨K,Q,λx _ G'=>X x G'⟩ [some (.loc a),some (.loc f),u2,some (.int xs.length),some (.int P),some (jaH xs ss),u6,u7,u8,u9,u10,u11,u12,some (jaX rs),some (.int b),some (.loc p)] G:=by
 have tr:∀G,Td G BB 1303 1 (jaX rs):=λG=>jf3 (by lia) λr hr=>by have:=rb r hr;lia
 simp! only[jaU];refine⟨by decide,by decide,by decide,?_⟩
 refine jaG (λi acc G'=>Fd G' f c/\Sm f G G'/\acc.length=i/\∀u∈acc,Td G' (BB+10000) 3300 3 u) ?_ ?_ ⟨hf,Sm.refl,rfl,λ_ h=>nomatch h⟩
 ·rintro acc G1 ⟨f1,s1,hl,ha⟩;rw[jaW]at hl;refine⟨trivial,λp2 G2 n2=>?_⟩;have g2:=n2.sa _ _ (s1 _ _ (jbY hf g) g);simp! only[];refine⟨_,_,g2,n2.at,Yag (show us.length+acc.length<=20 by lia) (by decide),λp3 G3 n3=>?_⟩
  have s23:=n2.sa.trans n3.sa;refine jhK (k:=k) ((f1.new n2).new n3) rl sl (by lia) n3.at (by rw[Yaq];lia) (λu hu2=>?_) λo10 G4 f4 s4=>kk _ _ _ f4 ((s1.trans s23.sm).trans s4)
  rcases Yds.mp hu2 with h|h
  ·exact((hu u h).sm hf s1).sa s23
  ·exact(ha u h).sa s23
 ·rintro i x acc G1 K hx ⟨f1,s1,hl,ha⟩ hk _;refine⟨trivial,?_⟩;simp! only[];refine jbd 1 (k:=k+9) (tr G1) (Yaa _) (by decide) f1 (by decide) λb3 G2 t2 f2 s2=>hk _ _ ⟨f2,s1.trans s2,by simp[hl],λu h=>?_⟩
  rcases Yds.mp h with h|h
  ·exact(ha u h).sm f1 s2
  ·rw[List.mem_singleton.mp h];exact t2.up (Yaa _) (by decide) (by decide)
def jjG  (hf:Fd G f c)(rl:rs.length<=24)(rb:∀r∈rs,r.natAbs<=600)(sl:ss.length<=24)(x8:xs.length<=8)(hb:b.natAbs<=600)
  (kk:∀o10 o15 G',Fd G' f c->Sm f G G'->K [some (.loc a),some (.loc f),u2,some (.int xs.length),some (.int P),some (jaH xs ss),u6,u7,u8,u9,o10,u11,u12,some (jaX rs),some (.int b),o15] G') :
  jaq T.gs (jab T (k+12)) jaV ⟨K,Q,λx _ G'=>X x G'⟩ [some (.loc a),some (.loc f),u2,some (.int xs.length),some (.int P),some (jaH xs ss),u6,u7,u8,u9,u10,u11,u12,some (jaX rs),some (.int b),u15] G:=by
 have tr:∀G,Td G BB 1303 1 (jaX rs):=λG=>jf3 (by lia) λr hr=>by have:=rb r hr;lia
 simp! only[jaV];refine⟨by decide,by decide,by decide,?_⟩
 refine jaG (λi acc G'=>Fd G' f c/\Sm f G G'/\acc.length=i/\∀u∈acc,Td G' (BB+10000) 3300 3 u) ?_ ?_ ⟨hf,Sm.refl,rfl,λ_ h=>nomatch h⟩
 ·rintro acc G1 ⟨f1,s1,hl,ha⟩;rw[jaW]at hl;refine⟨trivial,λp2 G2 n2=>?_⟩;simp! only[jaX];intro p3 G3 n3;have bd:∀j:Nat,j<=100->j<=Yae:=λj hj=>Yag hj (by decide)
  have mm:(rs.map U.int).length<=24:=by rw[Yai];exact rl
  refine⟨by decide,bd _ (by lia),by decide,λp4 G4 n4=>?_⟩
  simp! only[];refine⟨_,_,n4.sa _ _ (n3.sa _ _ n2.at),n4.at,bd _ (show acc.length+3<=100 by lia),λp5 G5 n5=>?_⟩
  have s35:=n3.sa.trans (n4.sa.trans n5.sa);have s25:=n2.sa.trans s35;have tl:Tds G5 BB 1300 0 (rs.map .int):=(Tds.all (N:=50) λu hu=>by
   obtain⟨r,hr,rfl⟩:=List.mem_map.mp hu;exact Td.int (jhV (by have:=rb r hr;lia)) (Yaa _)).up (Yaa _) (by lia) (Yaa _)
  have up:∀{N n:Nat} {u:U},Td G5 BB N n u->N<=3300->n<=3->Td G5 (BB+10000) 3300 3 u:=λh h1 h2=>h.up (YaK _ _) h1 h2;refine jgD (k:=k) ((((f1.new n2).new n3).new n4).new n5) rl rb sl x8 hb n5.at (by rw[Yaq];exact(show acc.length+3<=9 by lia)) (λu hu2=>?_) λo10 o15 G6 f6 s6=>kk _ _ _ f6 (s1.trans (s25.sm.trans s6))
  rcases Yds.mp hu2 with h|h
  ·exact(ha u h).sa s25
  ·simp only[Yas,Yao,or_false]at h;rcases h with rfl|rfl|rfl
   ·exact up (tr G5) (by decide) (by decide)
   ·exact up (Tds.lst (n5.sa _ _ (n4.sa _ _ n3.at)) tl) (by decide) (by decide)
   ·exact up (tl.app (Tds.one (Td.int (N:=50) (i:=b) (jhV (by lia)) (Yaa _)))).tup (by decide) (by decide)
 ·rintro i x acc G1 K hx ⟨f1,s1,hl,ha⟩ hk _;refine⟨trivial,?_⟩;simp! only[];refine jbe 2 (k:=k+7) (tr G1) (Yaa _) (by decide) f1 (by decide) λb3 G2 t2 f2 s2=>hk _ _ ⟨f2,s1.trans s2,by simp[hl],λu h=>?_⟩
  rcases Yds.mp h with h|h
  ·exact(ha u h).sm f1 s2
  ·rw[List.mem_singleton.mp h];exact t2.up (Yaa _) (by decide) (by decide)
def jlH   (hf:Fd G f c)(xl:xs.length=W)(x8:W<=8)(p1:1<=P)(p2:P<=600)(sl:ss.length<=24)(bl:bs.length=W)(hb:∀b∈bs,b.natAbs<=600)(wl:ws.length=ss.length)(hw:∀b∈ws,b.natAbs<=600)
  (kk:∀o10 o13 o14 o15 G',Fd G' f c->Sm f G G'->jaq T.gs (jab T (k+12)) jbb ⟨K,Q,λx _ G'=>X x G'⟩ [some (.loc a),some (.loc f),u2,some (.int W),some (.int P),some (jaH xs ss),u6,u7,u8,u9,o10,some (jaX bs),some (jaX ws),o13,o14,o15] G') :
  jaq T.gs (jab T (k+12)) jbc ⟨K,Q,λx _ G'=>X x G'⟩ [some (.loc a),some (.loc f),u2,some (.int W),some (.int P),some (jaH xs ss),u6,u7,u8,u9,u10,some (jaX bs),some (jaX ws),u13,u14,u15] G:=by
 subst xl;simp! only[jbc];refine⟨by decide,by decide,by decide,?_⟩
 refine jbi (λi ς G'=>Fd G' f c/\Sm f G G'/\∃o10 o13 o14 o15,ς=[some (.loc a),some (.loc f),u2,some (.int xs.length),some (.int P),some (jaH xs ss),u6,u7,u8,u9,o10,some (jaX bs),some (jaX ws),o13,o14,o15]) ?_ ?_ ⟨hf,Sm.refl,_,_,_,_,rfl⟩
 ·rintro ς G1 ⟨f1,s1,o10,o13,o14,o15,rfl⟩;exact⟨trivial,kk _ _ _ _ _ f1 s1⟩
 ·rintro i x ς G1 K1 hx ⟨f1,s1,o10,o13,o14,o15,rfl⟩ hk;refine⟨trivial,?_⟩;obtain⟨rs,b,rfl,rl,rb,hb2⟩:∃(rs:List Int) (b:Int),x=.tup [jaX rs,.int b]/\rs.length<=24/\(∀r∈rs,r.natAbs<=600)/\b.natAbs<=600:=by
   match i,hx with
   |0,hx=>exact⟨bs,P-1,(Yau hx).symm,by lia,hb,by lia⟩
   |1,hx=>exact⟨ws,99,(Yau hx).symm,by lia,hw,by decide⟩
   |_+2,hx=>cases hx
  simp! only[];refine⟨trivial,?_⟩;exact jjG (k:=k) f1 rl rb sl x8 hb2 λo10 o15 G2 f2 s2=>hk _ _ ⟨f2,s1.trans s2,_,_,_,_,rfl⟩
def R01  (a f:Addr)(ς:Sg):Prop:=∃o2 o3 o4 o5 o6 o7 o8 o9 o10 o11 o12 o13 o14 o15:Option U,ς=[some (.loc a),some (.loc f),o2,o3,o4,o5,o6,o7,o8,o9,o10,o11,o12,o13,o14,o15]
def jm2   (hf:Fd G f c)(xl:xs.length=W)(w0:0<W)(x8:W<=8)(p1:1<=P)(p2:P<=600)(nm:∀x∈xs,Nm x)(sl:ss.length<=24)(g:G p=some (.lst us))(ul:us.length<=38)(hu:∀u∈us,Td G (BB+20000) 40000 8 u)
  (kk:∀ς G',R01 a f ς->Fd G' f c->K ς G') :
  jaq T.gs (jab T (k+12)) jbE ⟨K,Q,λx _ G'=>X x G'⟩ [some (.loc a),some (.loc f),u2,some (.int W),some (.int P),some (jaH xs ss),some (.loc p),u7,u8,u9,u10,u11,u12,u13,u14,u15] G:=by
 have b40:BB+20000<=10 ^ 40:=by decide
 have hs:Tds G (BB+20000) (us.length*(40000+2)) 8 us:=Tds.all hu;obtain⟨z,hz⟩:=Tds.keep hf g hs b40 (by lia) (by decide)
 simp! only[jbE];refine hz _ _ Sm.refl ?_;refine jm1 (k:=k) g hu λo10 G1 s1=>?_;have f1:=hf.sa s1;simp! only[jcb,jaH,ix_t (jde _ _)];refine jc9 (k:=k+9) f1 xl w0 x8 nm λG2 f2 s2=>?_;simp! only[];refine jm0 (k:=k) f2 λo10 G3 f3 s3=>?_;simp! only[jb9];refine jgp (k:=k+10) f3 p1 p2 x8 λbs G4 bl hb f4 s4=>?_;refine jlI (k:=k) f4 sl λws G5 wl hw f5 s5=>?_;refine jlH (k:=k) f5 xl x8 p1 p2 sl bl hb wl hw λo10 o13 o14 o15 G6 f6 s6=>?_;refine jlG (k:=k) (λQ q=>hz _ _ (s1.sm.trans (s2.trans (s3.trans (s4.trans (s5.trans s6))))) q) ?_;exact kk _ _ ⟨_,_,_,_,_,_,_,_,_,_,_,_,_,_,rfl⟩ f6
def jm4   (hf:Fd G f c)(xl:xs.length=W)(w0:0<W)(x8:W<=8)(p1:1<=P)(p2:P<=600)(nm:∀x∈xs,Nm x)(sl:ss.length<=24)(so:∀s∈ss,s.Ok W)
  (kk:∀ς G',R01 a f ς->Fd G' f c->K ς G') :
  jaq T.gs (jab T (k+12)) jce ⟨K,Q,λx _ G'=>X x G'⟩ [some (.loc a),some (.loc f),u2,some (.int W),some (.int P),some (jaH xs ss),u6,u7,u8,u9,u10,u11,u12,u13,u14,u15] G:=by
 have hp:∀G,Td G BB 8400 3 (jaH xs ss):=λG=>jcA ((jbQ nm).up (Yaa _) (by lia) (Yaa _)) ((jbP so x8).up (Yaa _) (by lia) (Yaa _))
 simp! only[jce];refine ja4 (k:=k+10) hf λo1 G1 t1 f1 s1=>?_;simp! only[];refine ja4 (k:=k+10) f1 λo2 G2 t2 f2 s2=>⟨by decide,λp3 G3 n3=>?_⟩
 simp! only[];refine jeb (k:=k+10) (f2.new n3) xl w0 x8 nm sl so λp4 us G4 ul hu g4 f4 s4=>?_;simp! only[];have g3:=s4 _ _ (jbY (f2.new n3) n3.at) n3.at
 refine⟨_,_,g3,g4,Yag (show 3+us.length<=10 by lia) (by decide),λp5 G5 n5=>?_⟩
 have up:∀{N n:Nat} {u:U},Td G5 BB N n u->N<=40000->n<=8->Td G5 (BB+20000) 40000 8 u:=λh h1 h2=>h.up (YaK _ _) h1 h2;refine jm3 (k:=k) (f4.new n5) (hp _) n5.at (by rw[Yaq];exact(show 3+us.length<=10 by lia)) (λu h=>?_) λp us o7 o8 G6 f6 s6 g6 l6 h6=>jm2 (k:=k) f6 xl w0 x8 p1 p2 nm sl g6 l6 h6 kk
 rcases Yds.mp h with h|h
 ·simp only[Yas,Yao,or_false]at h;rcases h with rfl|rfl|rfl
  ·exact up (hp _) (by decide) (by decide)
  ·exact up (((t1.sm f1 (s2.trans n3.sa.sm)).sm (f2.new n3) s4).sa n5.sa) (by decide) (by decide)
  ·exact up (((t2.sa n3.sa).sm (f2.new n3) s4).sa n5.sa) (by decide) (by decide)
 ·exact up ((hu u h).sa n5.sa) (by decide) (by decide)
def jm5  (hf:Fd G f c)(kk:∀ς G',R01 a f ς->Fd G' f c->K ς G') :
  jaq T.gs (jab T (k+12)) jcf ⟨K,Q,λx _ G'=>X x G'⟩ [some (.loc a),some (.loc f),u2,u3,u4,u5,u6,u7,u8,u9,u10,u11,u12,u13,u14,u15] G:=by
 simp! only[jcf];refine jac hf (by decide) (by decide) λr G1 a1 b1 f1 s1=>?_
 obtain⟨W,hW⟩:=YaD (show 0<=1+r by lia)
 simp! only[];rw[show(1:Int)+r=(W:Int)from hW];refine jhE (k:=k+10) f1 λP G2 p1 p2 f2 s2=>?_;simp! only[];refine⟨by decide,λp3 G3 n3=>jac (f2.new n3) (by decide) (by decide) λr3 G4 a4 b4 f4 s4=>?_⟩
 refine jaS [4,24] (s4 _ _ (f2.away n3).1 n3.at) a4 b4 λm hm=>?_;have hm':0<=m/\m<=24:=by simp only[Yas,Yao,or_false]at hm;lia
 refine jjt (k:=k+8) f4 p1 p2 (by lia) (by lia) hm'.1 hm'.2 λxs ss G5 xl nm sl so f5 s5=>?_
 exact jm4 (k:=k) f5 xl (by lia) (by lia) p1 p2 nm sl so kk
end
def law_ir   a (ns:List Int)(hl:ns.length<=63):jab T 300 jjz [.loc a] (G0 a ns) (λu _=>u=.bl true) λ_ _=>False:=by
 refine⟨rfl,?_⟩;simp! only[jlW,jad,Yab,jf4];refine jju (k:=298) (show G0 a ns a=some (.fro (ns.map .int))from if_pos rfl) hl λf c G1 f1=>?_;refine⟨by decide,by decide,?_⟩
 refine jbi (λ_ ς G'=>R01 a f ς/\Fd G' f c) ?_ ?_ ⟨⟨_,_,_,_,_,_,_,_,_,_,_,_,_,_,rfl⟩,f1⟩
 ·rintro ς G2 ⟨_,_⟩;exact⟨trivial,trivial⟩
 ·rintro i x ς G2 K hx ⟨⟨o2,o3,o4,o5,o6,o7,o8,o9,o10,o11,o12,o13,o14,o15,rfl⟩,f2⟩ hk;exact⟨trivial,jm5 (k:=287) f2 λς G' h1 h2=>hk _ _ ⟨h1,h2⟩⟩

def sts  : List Stmt:=[s_is_whole,s_is_within,s_is_row_of,s_is_name,s_are_names,s_is_span,s_is_plan,s_is_round,s_are_beats,s_are_weights,s_law_feed,s_law_draw,s_law_names,s_law_any_cycle,s_law_number,s_law_span,s_law_fitting,s_law_plan,s_law_beats,s_law_odd,s_law_bent,s_law_one_step,s_law_whole,s_law_is_name,s_law_is_span,s_law_is_plan,s_law_are_numbers,s_law_at_bounds,s_law_told,s_law_names_right,s_law]
def prog_rep  : jdJ T 0 T.funs sts=true:=by decide +kernel
def prog_eq  : jd5 T sts 0 T.funs sts:=⟨rfl,rfl,rfl,rfl,rfl,rfl,rfl,rfl,rfl,rfl,rfl,rfl,rfl,rfl,rfl,rfl,rfl,rfl,rfl,rfl,rfl,rfl,rfl,rfl,rfl,rfl,rfl,rfl,rfl,rfl,rfl,trivial⟩
def tabsU  : ∀t∈tabs,∀t'∈tabs,t.1=t'.1->t=t':=λt h=>(nomatch (show t∈[]from h))
noncomputable def tbs  : List (Str×Addr×Addr):=[]
def walk  {l:Yc8}{K:Params->Yac}(hn:l.most=some 63)(hdf:d.params.defaults=[])
  (hY:∀(w:World) (h:Heap),YP w h->(K w.params).In h) (hK:∀w:World,((K w.params).all λp=>p.2.cls != .type "list")=true) (hsy:∀w:World,∃o,(K w.params).lookup YaT=some o/\o.cls=.type "dict")
  (hT:∀(w:World),∀t∈tbs,(∃dr,(PyProof.Rows.recsOf q).find? (λe=>e.name==t.1)=some dr)/\PySem.W.tabIn (K w.params) t.1=some (t.2.1,t.2.2)/\(K w.params).lookup t.2.2=none)
  (F:∀(w:World) mg fa (h:Heap),(K w.params).In h->h.Ns YaC mg->mg d.name=some (.ref fa)->
   ∃fd ,(∀(s:Shared) u ,BindsTo s fd ⟨[u],[]⟩ [("_law_script",u)])/\∀base ,(K w.params).In base->base.Ns YaC mg->BmAt mg base->FnOk l.prog w (K w.params) mg base (CX1 l.prog w) 302 fa fd ["_law_script"] (lSp (K w.params) (jab T 300 jjz))) :
  YeX q loose XP YP l.row.toRowW d [] (λf vs=>YeE f vs):=
 L2.walk_ofT (n:=63) (k:=302) (x := "_law_script") (CX:=λw=>CX1 l.prog w) (sp:=λw=>lSp (K w.params) (jab T 300 jjz)) hK hT hn (by decide) hdf ⟨rfl,by decide,by decide,rfl⟩ hY hsy F (λw _ _ a ns hl hO hS=>law_sp (by decide) hO hS (law_ir a ns hl)) λ_ _ _ _ _ ⟨_,_,_,_,_,_,_,_,_,_,z⟩=>z
end Z
namespace Y
open PySem L2
set_option maxHeartbeats 0
noncomputable def q0  : Str := "/claim/cut.py"
noncomputable def q1  : Str := "<module>"
noncomputable def q2  : Str := "__main__"
noncomputable def q3  : Str := "_law_plan"
noncomputable def q4  : Str := "_law_found"
noncomputable def q5  : Str := "_law_due"
noncomputable def q6  : Str := "_law_whole"
noncomputable def q7  : Str := "_law_names"
noncomputable def q8  : Str := "law_beatplans_k01_what_plans_are"
noncomputable def q9  : Str := "is_row_of"
noncomputable def q10  : Str := "_law_feed_here"
noncomputable def q11  : Str := "_law_thing"
noncomputable def q12  : Str := "_law_deep"
noncomputable def q13  : Str := "_law_at"
noncomputable def q14  : Str := "_law_some"
noncomputable def q15  : Str := "_law_script"
noncomputable def q16  : Str := "_law_is_plan"
noncomputable def q17  : Str := "_law_names_right"
noncomputable def q18  : Str := "_law_beats_here"
noncomputable def q19  : Str := "_law_cycle"
noncomputable def q20  : Str := "_law_one"
noncomputable def q21  : Str := "_law_other"
noncomputable def q22  : Str := "_law_gap"
noncomputable def q23  : Str := "_law_low"
noncomputable def q24  : Str := "_law_length"
noncomputable def q25  : Str := "is_plan"
noncomputable def q26  : Str := "beatplans.plans"
noncomputable def q27  : Str := "_law_beats"
noncomputable def q28  : Str := "_law_told"
noncomputable def q29  : Str := "are_beats"
noncomputable def q30  : Str := "_law_bent"
noncomputable def q31  : Str := "_law_feed"
noncomputable def q32  : Str := "_law_are_numbers"
noncomputable def q33  : Str := "_law_span"
noncomputable def q34  : Str := "is_whole"
noncomputable def q35  : Str := "_law_odd"
noncomputable def q36  : Str := "law"
noncomputable def q37  : Str := "are_weights"
noncomputable def q38  : Str := "_law_is_span"
noncomputable def q39  : Str := "_law_number"
noncomputable def q40  : Str := "are_names"
noncomputable def q41  : Str := "_law_at_bounds"
noncomputable def q42  : Str := "_law_fitting"
noncomputable def q43  : Str := "is_within"
noncomputable def q44  : Str := "__name__"
noncomputable def q45  : Str := "__doc__"
noncomputable def q46  : Str := "__package__"
noncomputable def q47  : Str := "__loader__"
noncomputable def q48  : Str := "__spec__"
noncomputable def q49  : Str := "__annotations__"
noncomputable def q50  : Str := "__builtins__"
noncomputable def q51  : Str := "__file__"
noncomputable def q52  : Str := "__cached__"
noncomputable def q53  : Str := "MOST_SIGNS"
noncomputable def q54  : Str := "MOST_NAMES"
noncomputable def q55  : Str := "MOST_SPANS"
noncomputable def q56  : Str := "MOST_BEATS"
noncomputable def q57  : Str := "MOST_ROUND"
noncomputable def q58  : Str := "MOST_WEIGHT"
noncomputable def q59  : Str := "is_name"
noncomputable def q60  : Str := "is_span"
noncomputable def q61  : Str := "is_round"
noncomputable def q62  : Str := "_law_draw"
noncomputable def q63  : Str := "_law_any_cycle"
noncomputable def q64  : Str := "_law_one_step"
noncomputable def q65  : Str := "_law_is_name"
noncomputable def q66  : Str := "plan"
noncomputable def q67  : Str := "period"
noncomputable def q68  : Str := "thing"
noncomputable def q69  : Str := "_law_first"
noncomputable def q70  : Str := "_law_last"
noncomputable def q71  : Str := "_law_works"
noncomputable def q72  : Str := "_law_wide"
noncomputable def q73  : Str := "_law_plan_here"
noncomputable def q74  : Str := "_law_names_here"
noncomputable def q75  : Str := "_law_spans"
noncomputable def q76  : Str := "_law_eight"
noncomputable def q77  : Str := "_law_long"
noncomputable def q78  : Str := "_law_high"
noncomputable def q79  : Str := "_law_word"
noncomputable def q80  : Str := "least"
noncomputable def q81  : Str := "most"
noncomputable def q82  : Str := "_law_signs"
noncomputable def q83  : Str := "_law_sign"
noncomputable def q84  : Str := "_law_many"
noncomputable def q85  : Str := "_law_cell"
noncomputable def q86  : Str := "_law_mixed"
noncomputable def q87  : Str := "works"
noncomputable def q88  : Str := "word"
noncomputable def q89  : Str := "one"
noncomputable def q90  : Str := "other"
noncomputable def q91  : Str := "low"
noncomputable def q92  : Str := "high"
noncomputable def h0  : List Value:=[]
def o0  : Obj:=sO .none h0
def o1  : Obj:=kO q0 q1 q1 182 1 0 0 11 false .none .none .none 185
def o2  : Obj:=rO [(some (.ref 13)),(some (.ref 3)),(some (.ref 3)),none,(some (.str q2 164)),none,(some (.ref 0))]
def o3  : Obj:=kO q0 q3 q3 346 89 4 3 124 true .none .none (.ref 126) 349
def o4  : Obj:=tO [(.str q4 441),(.str q5 442)]
def o5  : Obj:=gO q6 q6 (Z.top 30)
def o6  : Obj:=fO q7 q7 (Z.top 20) (.str q8 278) 94
def o7  : Obj:=gO q9 q9 (Z.top 9)
def o8  : Obj:=tO [(.str q10 369),(.str q11 370),(.str q12 371),(.str q13 372),(.str q14 373)]
def o9  : Obj:=tO [(.str q15 283)]
def o10  : Obj:=kO q0 q16 q16 410 150 1 3 172 true .none .none (.ref 174) 413
def o11  : Obj:=kO q0 q17 q17 446 176 2 3 196 true .none .none (.ref 198) 449
def o12  : Obj:=tO [(.str q10 335),(.str q18 336),(.str q19 337),(.str q20 338),(.str q21 339),(.str q22 340),(.str q23 341),(.str q24 342)]
def o13  : Obj:=fO q25 q25 (Z.top 13) (.str q26 187) 54
def o14  : Obj:=gO q27 q27 (Z.top 26)
def o15  : Obj:=fO q28 q28 (Z.top 36) (.str q8 278) 194
def o16  : Obj:=gO q29 q29 (Z.top 15)
def o17  : Obj:=fO q30 q30 (Z.top 28) (.str q8 278) 146
def o18  : Obj:=fO q31 q31 (Z.top 18) (.str q8 278) 82
def o19  : Obj:=gO q32 q32 (Z.top 34)
def o20  : Obj:=kO q0 q33 q33 319 74 3 3 110 true (.ref 112) (.ref 113) (.ref 114) 329
def o21  : Obj:=gO q34 q34 (Z.top 7)
def o22  : Obj:=kO q0 q35 q35 358 102 1 3 134 true (.ref 136) (.ref 137) (.ref 138) 363
def o23  : Obj:=gO q36 q36 (Z.top 38)
def o24  : Obj:=kO q0 q37 q37 270 46 2 3 70 true (.ref 72) (.ref 73) (.ref 74) 275
def o25  : Obj:=fO q38 q38 (Z.top 32) (.str q8 278) 170
def o26  : Obj:=gO q39 q39 (Z.top 22)
def o27  : Obj:=fO q40 q40 (Z.top 11) (.str q26 187) 42
def o28  : Obj:=kO q0 q41 q41 422 165 2 3 182 true (.ref 184) (.ref 185) (.ref 186) 435
def o29  : Obj:=fO q42 q42 (Z.top 24) (.str q8 278) 122
def o30  : Obj:=kO q0 q43 q43 208 10 3 3 22 true (.ref 24) (.ref 25) (.ref 26) 214
def g32  (P:Params):List DictEntry:=dE P q45 166 .none::dE P q46 167 .none::dE P q47 168 (.builtin "__main__.__loader__#opaque")::dE P q48 169 .none::dE P q49 170 (.ref 6)::dE P q50 171 (.ref 4)::dE P q51 173 (.str q0 172)::dE P q52 174 .none::dE P q53 190 (.int 8 189)::dE P q54 192 (.int 8 191)::dE P q55 194 (.int 24 193)::dE P q56 196 (.int 9999 195)::dE P q57 198 (.int 600 197)::dE P q58 200 (.int 99 199)::dE P q34 207 (.ref 21)::dE P q43 216 (.ref 28)::dE P q9 222 (.ref 33)::dE P q59 228 (.ref 38)::dE P q40 234 (.ref 43)::dE P q60 247 (.ref 50)::dE P q25 253 (.ref 55)::dE P q61 260 (.ref 62)::dE P q29 269 (.ref 69)::dE P q37 277 (.ref 76)::dE P q31 286 (.ref 83)::dE P q62 297 (.ref 90)::dE P q7 303 (.ref 95)::dE P q63 310 (.ref 102)::dE P q39 318 (.ref 109)::dE P q33 331 (.ref 116)::dE P q42 345 (.ref 123)::dE P q3 351 (.ref 128)::dE P q27 357 (.ref 133)::dE P q35 365 (.ref 140)::dE P q30 376 (.ref 147)::dE P q64 388 (.ref 154)::dE P q6 397 (.ref 161)::dE P q65 403 (.ref 166)::dE P q38 409 (.ref 171)::dE P q16 415 (.ref 176)::dE P q32 421 (.ref 181)::dE P q41 437 (.ref 188)::dE P q28 445 (.ref 195)::dE P q17 451 (.ref 200)::dE P q36 457 (.ref 205)::[]
def o31  (P:Params):Obj:=dO (dE P q44 165 (.str q8 278)::g32 P) 46
def o32  : Obj:=gO q28 q28 (Z.top 36)
def o33  : Obj:=tO [(.str q66 264),(.str q67 265),(.str q68 266)]
def o34  : Obj:=fO q6 q6 (Z.top 30) (.str q8 278) 160
def o35  : Obj:=fO q9 q9 (Z.top 9) (.str q26 187) 32
def o36  : Obj:=gO q30 q30 (Z.top 28)
def o37  : Obj:=gO q31 q31 (Z.top 18)
def o38  : Obj:=kO q0 q60 q60 235 24 2 3 44 true (.ref 46) (.ref 47) (.ref 48) 245
def o39  : Obj:=tO [(.str q68 204)]
def o40  : Obj:=gO q38 q38 (Z.top 32)
def o41  : Obj:=tO [(.str q10 314),(.str q19 315)]
def o42  : Obj:=gO q40 q40 (Z.top 11)
def o43  : Obj:=kO q0 q64 q64 377 117 2 3 148 true (.ref 150) (.ref 151) (.ref 152) 386
def o44  : Obj:=kO q0 q62 q62 287 51 2 3 84 true (.ref 86) (.ref 87) (.ref 88) 295
def o45  : Obj:=gO q42 q42 (Z.top 24)
def o46  : Obj:=fO q27 q27 (Z.top 26) (.str q8 278) 132
def o47  : Obj:=fO q29 q29 (Z.top 15) (.str q26 187) 68
def o48  : Obj:=kO q0 q65 q65 398 138 1 3 162 true .none .none (.ref 164) 401
def o49  : Obj:=kO q0 q63 q63 304 70 1 3 96 true (.ref 98) (.ref 99) (.ref 100) 308
def o50  : Obj:=kO q0 q59 q59 223 16 1 3 34 true .none .none (.ref 36) 226
def o51  : Obj:=fO q32 q32 (Z.top 34) (.str q8 278) 180
def o52  : Obj:=gO q25 q25 (Z.top 13)
def o53  : Obj:=fO q34 q34 (Z.top 7) (.str q26 187) 20
def o54  : Obj:=fO q36 q36 (Z.top 38) (.str q8 278) 204
def o55  : Obj:=fO q39 q39 (Z.top 22) (.str q8 278) 108
def o56  : Obj:=tO [(.str q11 392),(.str q69 393),(.str q70 394)]
def o57  : Obj:=gO q7 q7 (Z.top 20)
def o58  : Obj:=kO q0 q61 q61 254 42 1 3 56 true (.ref 58) (.ref 59) (.ref 60) 258
def o59  : Obj:=fO q3 q3 (Z.top 25) (.str q8 278) 127
def o60  : Obj:=kO q0 q6 q6 389 136 3 3 155 true (.ref 157) (.ref 158) (.ref 159) 395
def o61  : Obj:=kO q0 q9 q9 217 12 4 3 29 true .none .none (.ref 31) 220
def o62  : Obj:=fO q16 q16 (Z.top 33) (.str q8 278) 175
def o63  : Obj:=tO [(.str q10 322),(.str q71 323),(.str q19 324),(.str q20 325),(.str q21 326),(.str q23 327),(.str q72 328)]
def o64  : Obj:=gO q60 q60 (Z.top 12)
def o65  : Obj:=tO [(.str q10 361),(.str q14 362)]
def o66  : Obj:=fO q17 q17 (Z.top 37) (.str q8 278) 199
def o67  : Obj:=tO [(.str q66 273),(.str q68 274)]
def o68  : Obj:=gO q64 q64 (Z.top 29)
def o69  : Obj:=gO q62 q62 (Z.top 19)
def o70  : Obj:=tO [(.str q10 425),(.str q73 426),(.str q74 427),(.str q75 428),(.str q76 429),(.str q77 430),(.str q14 431),(.str q23 432),(.str q78 433),(.str q79 434)]
def o71  : Obj:=tO [(.str q68 211),(.str q80 212),(.str q81 213)]
def o72  : Obj:=kO q0 q27 q27 352 100 3 3 129 true .none .none (.ref 131) 355
def o73  : Obj:=kO q0 q29 q29 261 44 3 3 63 true (.ref 65) (.ref 66) (.ref 67) 267
def o74  : Obj:=gO q65 q65 (Z.top 31)
def o75  : Obj:=gO q63 q63 (Z.top 21)
def o76  : Obj:=gO q59 q59 (Z.top 10)
def o77  : Obj:=kO q0 q32 q32 416 161 3 3 177 true .none .none (.ref 179) 419
def o78  : Obj:=fO q33 q33 (Z.top 23) (.str q8 278) 115
def o79  : Obj:=kO q0 q34 q34 201 8 1 3 15 true (.ref 17) (.ref 18) (.ref 19) 205
def o80  : Obj:=fO q35 q35 (Z.top 27) (.str q8 278) 139
def o81  : Obj:=kO q0 q36 q36 452 182 1 3 201 true .none .none (.ref 203) 455
def o82  : Obj:=fO q37 q37 (Z.top 16) (.str q26 187) 75
def o83  : Obj:=kO q0 q39 q39 311 72 2 3 103 true (.ref 105) (.ref 106) (.ref 107) 316
def o84  : Obj:=fO q41 q41 (Z.top 35) (.str q8 278) 187
def o85  : Obj:=gO q61 q61 (Z.top 14)
def o86  : Obj:=fO q43 q43 (Z.top 8) (.str q26 187) 27
def h89  : List Value:=h0++[(.int 8 0),(.int 0 0),(.ref 20),(.int 10 0),(.int 0 0),(.ref 27),(.int 12 0),(.int 0 0),(.ref 32),(.int 16 0),(.int 0 0),(.ref 37),(.int 20 0),(.int 0 0),(.ref 42),(.int 24 0),(.int 0 0),(.ref 49),(.int 35 0),(.int 0 0),(.ref 54),(.int 42 0),(.int 0 0),(.ref 61),(.int 44 0),(.int 0 0),(.ref 68),(.int 46 0),(.int 0 0),(.ref 75),(.int 49 0),(.int 0 0),(.ref 82),(.int 51 0),(.int 0 0),(.ref 89),(.int 64 0),(.int 0 0),(.ref 94),(.int 70 0),(.int 0 0),(.ref 101),(.int 72 0),(.int 0 0),(.ref 108),(.int 74 0),(.int 0 0),(.ref 115),(.int 81 0),(.int 0 0),(.ref 122),(.int 89 0),(.int 0 0),(.ref 127),(.int 100 0),(.int 0 0),(.ref 132),(.int 102 0),(.int 0 0),(.ref 139),(.int 106 0),(.int 0 0),(.ref 146),(.int 117 0),(.int 0 0),(.ref 153),(.int 136 0),(.int 0 0),(.ref 160),(.int 138 0),(.int 0 0),(.ref 165),(.int 142 0),(.int 0 0),(.ref 170),(.int 150 0),(.int 0 0),(.ref 175),(.int 161 0),(.int 0 0),(.ref 180),(.int 165 0),(.int 0 0),(.ref 187),(.int 174 0),(.int 0 0),(.ref 194),(.int 176 0),(.int 0 0),(.ref 199),(.int 182 0),(.int 0 0),(.ref 204)]
def o87  : Obj:=sO .none h89
def o88  : Obj:=kO q0 q28 q28 438 174 2 3 189 true (.ref 191) (.ref 192) (.ref 193) 443
def o89  : Obj:=tO [(.str q10 307)]
def o90  : Obj:=kO q0 q30 q30 366 106 3 3 141 true (.ref 143) (.ref 144) (.ref 145) 374
def o91  : Obj:=kO q0 q31 q31 280 49 1 3 77 true (.ref 79) (.ref 80) (.ref 81) 284
def o92  : Obj:=gO q33 q33 (Z.top 23)
def o93  : Obj:=fO q60 q60 (Z.top 12) (.str q26 187) 49
def o94  : Obj:=gO q35 q35 (Z.top 27)
def o95  : Obj:=gO q37 q37 (Z.top 16)
def o96  : Obj:=kO q0 q38 q38 404 142 2 3 167 true .none .none (.ref 169) 407
def o97  : Obj:=kO q0 q40 q40 229 20 1 3 39 true .none .none (.ref 41) 232
def o98  : Obj:=fO q64 q64 (Z.top 29) (.str q8 278) 153
def o99  : Obj:=fO q62 q62 (Z.top 19) (.str q8 278) 89
def o100  : Obj:=gO q41 q41 (Z.top 35)
def o101  : Obj:=kO q0 q42 q42 332 81 3 3 117 true (.ref 119) (.ref 120) (.ref 121) 343
def o102  : Obj:=tO [(.str q68 257)]
def o103  : Obj:=gO q43 q43 (Z.top 8)
def o104  : Obj:=gO q17 q17 (Z.top 37)
def o105  : Obj:=fO q65 q65 (Z.top 31) (.str q8 278) 165
def o106  : Obj:=fO q63 q63 (Z.top 21) (.str q8 278) 101
def o107  : Obj:=fO q59 q59 (Z.top 10) (.str q26 187) 37
def o108  : Obj:=tO [(.str q10 380),(.str q11 381),(.str q82 382),(.str q13 383),(.str q83 384),(.str q14 385)]
def o109  : Obj:=tO [(.str q10 290),(.str q84 291),(.str q85 292),(.str q86 293),(.str q4 294)]
def o110  : Obj:=kO q0 q25 q25 248 35 1 3 51 true .none .none (.ref 53) 251
def o111  : Obj:=gO q16 q16 (Z.top 33)
def o112  : Obj:=tO [(.str q68 238),(.str q87 239),(.str q88 240),(.str q89 241),(.str q90 242),(.str q91 243),(.str q92 244)]
def o113  : Obj:=kO q0 q7 q7 298 64 2 3 91 true .none .none (.ref 93) 301
def o114  : Obj:=gO q3 q3 (Z.top 25)
def o115  : Obj:=fO q61 q61 (Z.top 14) (.str q26 187) 61
def Ha  (P:Params):Heap:=⟨⟨Ycm P::YbP P::Ycl P::Yer P::Yck P::Ycj P::Yci P::Ych P::Ycg P::Ycf P::Yb5 P::tE::o0::o1::o2::[]⟩,{}⟩
def t0  (P:Params):Yb6:=(bN (Ycm P) (bN (YbP P) (bN (Yer P) (bL (Ych P)) (bL tE)) (bN (Ycj P) (bL (Ycf P)) (bL o1))) (bN (Ycl P) (bN (Yck P) (bL (Ycg P)) (bL o0)) (bN (Yci P) (bL (Yb5 P)) (bL o2))))
def t1  (P:Params):Yb6:=(bN (Ycm P) (bN (YbP P) (bN (o31 P) (bN (Ych P) (bN tE (bN o7 (bN tE (bL o3) (bL o4)) (bN o6 (bL o5) bE)) (bN tE (bN o9 (bL o8) bE) (bN nO (bL o10) bE))) (bN nO (bN tE (bN nO (bL nO) (bL o11)) (bN tE (bL tE) bE)) (bN o13 (bN tE (bL tE) bE) (bN o12 (bL nO) bE)))) (bN tE (bN o21 (bN nO (bN o16 (bL o14) (bL o15)) (bN tE (bL nO) bE)) (bN tE (bN o18 (bL o17) bE) (bN o20 (bL o19) bE))) (bN o30 (bN o27 (bN o24 (bL o22) (bL o23)) (bN o26 (bL o25) bE)) (bN tE (bN tE (bL tE) bE) (bN o29 (bL o28) bE))))) (bN (Ycj P) (bN (Ycf P) (bN o39 (bN o35 (bN o33 (bL tE) (bL o32)) (bN nO (bL o34) bE)) (bN o38 (bN o37 (bL o36) bE) (bN tE (bL tE) bE))) (bN tE (bN o42 (bN tE (bL tE) (bL tE)) (bN o41 (bL o40) bE)) (bN nO (bN o44 (bL o43) bE) (bN o45 (bL tE) bE)))) (bN o1 (bN o53 (bN o50 (bN o47 (bL o46) (bL nO)) (bN o49 (bL o48) bE)) (bN o52 (bN nO (bL nO) bE) (bN tE (bL o51) bE))) (bN tE (bN nO (bN tE (bL tE) (bL o54)) (bN o55 (bL nO) bE)) (bN o58 (bN o57 (bL o56) bE) (bN nO (bL tE) bE)))))) (bN (Ycl P) (bN (Yck P) (bN (Ycg P) (bN nO (bN o61 (bN nO (bL o59) (bL tE)) (bN tE (bL o60) bE)) (bN o64 (bN tE (bL tE) bE) (bN o63 (bL o62) bE))) (bN o71 (bN nO (bN o67 (bL o65) (bL o66)) (bN nO (bL nO) bE)) (bN tE (bN o69 (bL o68) bE) (bN tE (bL o70) bE)))) (bN o87 (bN o79 (bN o76 (bN o73 (bL o72) (bL tE)) (bN o75 (bL o74) bE)) (bN nO (bN tE (bL tE) bE) (bN o78 (bL o77) bE))) (bN o86 (bN tE (bN o82 (bL o80) (bL o81)) (bN o83 (bL tE) bE)) (bN o85 (bN nO (bL nO) bE) (bN tE (bL o84) bE))))) (bN (Yci P) (bN (Yb5 P) (bN tE (bN tE (bN tE (bL nO) (bL o88)) (bN o89 (bL tE) bE)) (bN o93 (bN o91 (bL o90) bE) (bN o92 (bL nO) bE))) (bN o103 (bN o97 (bN o95 (bL o94) (bL nO)) (bN tE (bL o96) bE)) (bN o102 (bN o99 (bL o98) bE) (bN o101 (bL o100) bE)))) (bN o2 (bN tE (bN o107 (bN tE (bL tE) (bL o104)) (bN o106 (bL o105) bE)) (bN o110 (bN o109 (bL o108) bE) (bN nO (bL tE) bE))) (bN nO (bN o112 (bN nO (bL nO) bE) (bN tE (bL o111) bE)) (bN o115 (bN o113 (bL tE) bE) (bN o114 (bL nO) bE)))))))
def Hz  (P:Params):Heap:=⟨⟨Ycm P::YbP P::Ycl P::o31 P::Yck P::Ycj P::Yci P::Ych P::Ycg P::Ycf P::Yb5 P::tE::o87::o1::o2::tE::nO::o39::tE::o21::o79::o53::tE::nO::o71::tE::o103::o30::o86::tE::nO::o7::o61::o35::tE::nO::o76::o50::o107::tE::nO::o42::o97::o27::tE::nO::o112::tE::o64::o38::o93::tE::nO::o52::o110::o13::tE::nO::o102::tE::o85::o58::o115::tE::nO::o33::tE::o16::o73::o47::tE::nO::o67::tE::o95::o24::o82::tE::nO::o9::tE::o37::o91::o18::tE::nO::o109::tE::o69::o44::o99::tE::nO::o57::o113::o6::tE::nO::o89::tE::o75::o49::o106::tE::nO::o41::tE::o26::o83::o55::tE::nO::o63::tE::o92::o20::o78::tE::nO::o12::tE::o45::o101::o29::tE::nO::o114::o3::o59::tE::nO::o14::o72::o46::tE::nO::o65::tE::o94::o22::o80::tE::nO::o8::tE::o36::o90::o17::tE::nO::o108::tE::o68::o43::o98::tE::nO::o56::tE::o5::o60::o34::tE::nO::o74::o48::o105::tE::nO::o40::o96::o25::tE::nO::o111::o10::o62::tE::nO::o19::o77::o51::tE::nO::o70::tE::o100::o28::o84::tE::nO::o4::tE::o32::o88::o15::tE::nO::o104::o11::o66::tE::nO::o23::o81::o54::[]⟩,{}⟩
noncomputable def st1  : List Stmt:=[Z.top 0,Z.top 1,Z.top 2,Z.top 3,Z.top 4,Z.top 5,Z.top 6,Z.top 7,Z.top 8,Z.top 9,Z.top 10,Z.top 11,Z.top 12,Z.top 13,Z.top 14,Z.top 15,Z.top 16,Z.top 17,Z.top 18,Z.top 19,Z.top 20,Z.top 21,Z.top 22,Z.top 23,Z.top 24,Z.top 25,Z.top 26,Z.top 27,Z.top 28,Z.top 29,Z.top 30,Z.top 31,Z.top 32,Z.top 33,Z.top 34,Z.top 35,Z.top 36,Z.top 37,Z.top 38]
def bd  : List Stmt:=st1++[]
noncomputable abbrev pw  : Program:=PySem.Challenge.pw_beatplans_k01_what_plans_are
def qw  : Program:={ pw with main:={ pw.main with body:=[Z.top 1,Z.top 2,Z.top 3,Z.top 4,Z.top 5,Z.top 6,Z.top 7,Z.top 8,Z.top 9,Z.top 10,Z.top 11,Z.top 12,Z.top 13,Z.top 14,Z.top 15,Z.top 16,Z.top 18,Z.top 19,Z.top 20,Z.top 21,Z.top 22,Z.top 23,Z.top 24,Z.top 25,Z.top 26,Z.top 27,Z.top 28,Z.top 29,Z.top 30,Z.top 31,Z.top 32,Z.top 33,Z.top 34,Z.top 35,Z.top 36,Z.top 37,Z.top 38] } }
def en  : Env:={ scope:=pw.main.scope,locals:=mainNs,globals:=mainNs,cells:=[],code:=.ref 13,frame:=some 14 }
def cE  : Code:=.body bd en
noncomputable abbrev pz  : Pos:=⟨0,0,0,0⟩
abbrev fz  : List Frame:=[PySem.W.topFrame pz]
noncomputable abbrev s0  (w:World)(os:OsState):Shared:=⟨Ybr w.params,⟨[]⟩,PySem.W.boot_drawn,PySem.W.boot_toks,os⟩
abbrev sz  (w:World)(os:OsState):Shared:=⟨Hz w.params,⟨[]⟩,{},458,os⟩
noncomputable def sT  (t:Params->Yb6)(n k:Nat)(w:World)(os:OsState):PySem.W.SharedT:=⟨t w.params,n,{},⟨[]⟩,{},k,os⟩
section
variable (w:World)(os:OsState)
def jmA  : PySem.W.topGo Ydg pw w 11 (some (.ref 6)) 12 (s0 w os) (YeF pw)=some (⟨Ha w.params,⟨[]⟩,{},187,os⟩,⟨denote Ydg cE,cE,pz,fz⟩):=by
 rw[PySem.W.Fast.te15667345088766844465,Ya0,PySem.W.Fast.te11892475500146522536];kernel_rfl
def jmC  : PySem.W.segRun Ydg pw w 11 (some (.ref 6)) 1 1 ⟨Ha w.params,⟨[]⟩,{},187,os⟩ (PySem.W.blockOf bd en cE pz fz)=some (.next,(sT t0 15 187 w os).abs,cE,pz):=by
 rw[PySem.W.Fast.te14374325043358763698,Ya0];kernel_rfl
def r1  : PySem.W.segRunT Ydg pw w 11 (some (.ref 6)) 1 984 (sT t0 15 187 w os) (PySem.W.piecesOf st1 en cE pz fz)=some (.next,sT t1 206 458 w os,cE,⟨182,0,213,15⟩):=by
 rw[PySem.W.Fast.te10110043849684766642,Ya0];kernel_rfl
def jmB  : YeM Ydg pw w 11 (some (.ref 6)) 2 (sT t1 206 458 w os).abs ⟨PySem.W.doneF .next,cE,⟨182,0,213,15⟩,fz⟩=some (sz w os):=by
 rw[PySem.W.Fast.te14082659384304107361,Ya0];kernel_rfl
def jmz  : YeM Ydg pw w 11 (some (.ref 6)) (12+(1+(984+(2)))) (s0 w os) (YeF pw)=some (sz w os):=
 PySem.W.go_top (jmA w os) (PySem.W.piece_block (jmC w os) (PySem.W.piece_app (PySem.W.segRun_of (r1 w os)) (jmB w os)))
end
def KK  : Params->Yac:=λP=>((1:Addr),YbP P)::((3:Addr),o31 P)::((20:Addr),o79)::((21:Addr),o53)::((27:Addr),o30)::((28:Addr),o86)::((32:Addr),o61)::((33:Addr),o35)::((37:Addr),o50)::((38:Addr),o107)::((42:Addr),o97)::((43:Addr),o27)::((49:Addr),o38)::((50:Addr),o93)::((54:Addr),o110)::((55:Addr),o13)::((61:Addr),o58)::((62:Addr),o115)::((68:Addr),o73)::((69:Addr),o47)::((75:Addr),o24)::((76:Addr),o82)::((82:Addr),o91)::((83:Addr),o18)::((89:Addr),o44)::((90:Addr),o99)::((94:Addr),o113)::((95:Addr),o6)::((101:Addr),o49)::((102:Addr),o106)::((108:Addr),o83)::((109:Addr),o55)::((115:Addr),o20)::((116:Addr),o78)::((122:Addr),o101)::((123:Addr),o29)::((127:Addr),o3)::((128:Addr),o59)::((132:Addr),o72)::((133:Addr),o46)::((139:Addr),o22)::((140:Addr),o80)::((146:Addr),o90)::((147:Addr),o17)::((153:Addr),o43)::((154:Addr),o98)::((160:Addr),o60)::((161:Addr),o34)::((165:Addr),o48)::((166:Addr),o105)::((170:Addr),o96)::((171:Addr),o25)::((175:Addr),o10)::((176:Addr),o62)::((180:Addr),o77)::((181:Addr),o51)::((187:Addr),o28)::((188:Addr),o84)::((194:Addr),o88)::((195:Addr),o15)::((199:Addr),o11)::((200:Addr),o66)::((204:Addr),o81)::((205:Addr),o54)::[]
noncomputable def KA  : List Addr:=1::3::20::21::27::28::32::33::37::38::42::43::49::50::54::55::61::62::68::69::75::76::82::83::89::90::94::95::101::102::108::109::115::116::122::123::127::128::132::133::139::140::146::147::153::154::160::161::165::166::170::171::175::176::180::181::187::188::194::195::199::200::204::205::[]
def fl  : Z.FL:=(21,20,(.str q26 187))::(28,27,(.str q26 187))::(33,32,(.str q26 187))::(38,37,(.str q26 187))::(43,42,(.str q26 187))::(50,49,(.str q26 187))::(55,54,(.str q26 187))::(62,61,(.str q26 187))::(69,68,(.str q26 187))::(76,75,(.str q26 187))::(83,82,(.str q8 278))::(90,89,(.str q8 278))::(95,94,(.str q8 278))::(102,101,(.str q8 278))::(109,108,(.str q8 278))::(116,115,(.str q8 278))::(123,122,(.str q8 278))::(128,127,(.str q8 278))::(133,132,(.str q8 278))::(140,139,(.str q8 278))::(147,146,(.str q8 278))::(154,153,(.str q8 278))::(161,160,(.str q8 278))::(166,165,(.str q8 278))::(171,170,(.str q8 278))::(176,175,(.str q8 278))::(181,180,(.str q8 278))::(188,187,(.str q8 278))::(195,194,(.str q8 278))::(200,199,(.str q8 278))::(205,204,(.str q8 278))::[]
def k_dyn   P:Z.dynB Z.T (KK P) 0 fl Z.T.funs Z.sts=true:=by kernel_rfl
def k_lk   P:fl.map (λx=>(KK P).lookup x.1)=Z.lkR fl Z.T.funs Z.sts:=by kernel_rfl
def k_blt   P:Z.bltB (KK P)=true:=by kernel_rfl
def k_gs   P:Z.gsB (KK P) Z.T.gn Z.T.gs=true:=by kernel_rfl
def k_cs   P:Z.CsA (KK P) Z.T.cs:=trivial
noncomputable abbrev rr  : PySem.W.OpenRow:=PySem.Challenge.rw_beatplans_k01_what_plans_are.row
def Xt  : Shared->Bool:=λs=>PySem.W.xlAt qw [] s&&PySem.W.recOk (PySem.W.RowW.records rr.toRowW) s
abbrev hk  : PySem.W.Hook:=PySem.W.kHook KK KA (λ_=>by kernel_rfl)
def jlE  (w:World):((Ybr w.params).isNs YaC&&(⟨[]⟩:Array GenState).size==0,(Ybr w.params).objs.size,(Ybr w.params).nsMap YaC "__annotations__")=(true,11,some (Ybd 6)):=by
 rw[PySem.W.Fast.te8920871248978507458];kernel_rfl
def k_l1  (w:World) os:(PySem.W.staticsOk (importedModules pw.main.body) (Ybr w.params) (Hz w.params)&&PySem.W.namesBound pw (Hz w.params)&&PySem.W.gensDone (sz w os)&&PySem.W.laidKept (Ybr w.params) (Hz w.params))=true:=by
 rw[Yct];kernel_rfl
def k_l2  (w:World) os:PySem.W.openSeen qw [] (importedModules pw.main.body) Xt true (sz w os)=PySem.W.openGood qw []:=by
 rw[PySem.W.Fast.te4187177175401517315,Yct];kernel_rfl
def k_l3   w os:YcJ hk (sz w os)=YcI hk w:=by kernel_rfl
def k_hl  : PySem.W.LeftO pw qw [] Xt (YcJ hk) (YcI hk) 2092:=PySem.W.LeftO.of_pieces (PySem.W.boot_open (by kernel_rfl) (by decide) λ_=>by kernel_rfl) jlE jmz (by decide) λw=>funext λos=>Prod.ext (k_l1 w os) (Prod.ext (k_l2 w os) (k_l3 w os))
end Y
set_option maxRecDepth 100000 in
set_option maxHeartbeats 0 in
def Z.wellS:PySem.Challenge.rw_beatplans_k01_what_plans_are.wellSaid=true:=by decide +kernel
open PySem PySem.W PyProof.Rows
set_option maxRecDepth 100000 in
set_option maxHeartbeats 0 in
theorem PySem.Challenge.cw_beatplans_k01_what_plans_are_holds : PySem.Challenge.rw_beatplans_k01_what_plans_are.Holds := by
 refine PySem.W.holds_law Z.wellS λsaid=>?_
 refine PySem.W.holds_open (q:=Y.qw) (loose:=[]) (Xt:=Y.Xt) (XP:=PySem.W.XL Y.qw []) (Yf:=YcJ Y.hk) (Ya:=YcI Y.hk) (YP:=PySem.W.Hook.says Y.hk) (N:=2092) Y.k_hl (PySem.W.Hook.of Y.hk) (PySem.W.Hook.keeps Y.hk) (λs e=>PySem.W.xl_of s (Bool.and_eq_true_iff.mp e).1) PySem.W.XL.keeps (by rfl) (by rfl) (by rfl) (λs e=>PySem.W.recFacts_of (Bool.and_eq_true_iff.mp e).2) (by rfl) said (by decide +kernel) ⟨rfl,rfl,rfl,rfl,rfl,by decide +kernel⟩ ?hw ?hc
 case hw=>w_witness2
 refine Z.walk (l:=PySem.Challenge.rw_beatplans_k01_what_plans_are) rfl rfl (λw h Y=>PySem.W.kIn_of Y) ?K ?S ?B ?F
 case K=>intro w;rfl
 case S=>intro w;exact⟨_,rfl,rfl⟩
 case B=>exact λw t ht=>(nomatch (show t∈[]from ht))
 case F=>exact λw mg fa h X G hm=>Z.all2 X G hm Z.prog_rep Z.prog_eq Z.tabsU (Y.k_dyn _) (Y.k_lk _) (Y.k_blt _) (Y.k_gs _) (Y.k_cs _) rfl rfl rfl rfl rfl
