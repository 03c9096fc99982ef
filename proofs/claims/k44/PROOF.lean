import PyProof.Rows.All
import Wide.All
import OpenK.AllK
import Wide.FinOn
import Lean
import PyProof.EqAt
import PyProof.EqKinds
import PyProof.TupleCall
import PyProof.StrWalks
import PyProof.ConsumeWalk
import PyProof.TupleKey
import PyProof.DictFindH
import PyProof.P3Eq
import PyProof.DictRoadsH
import PyProof.Rows.TupTab
import KE.KSortTup
import PyProof.ZipIter
import PyProof.Draws
import PyProof.WalksMore
import PyProof.ListMulRoad
import PyProof.AutoListH
import PyProof.FactsAll.tuple_2
import PyProof.FactsAll.tuple
import PyProof.TupleIter
import PyProof.AttrMissHeap
import PyProof.DictIter
import PyProof.DictWalks
import KE.KDictSum
import KE.KDictOf
import PyProof.EnumMake
import KE.BitLaws
import PyProof.RaisesMany
import PyProof.ExcInit
import PyProof.ExcClass3
import PyProof.ExcArgsOwn
import PyProof.RulesTry
import PyProof.RulesAs
import PyProof.NsDelKeeps
import KE.KIsAll
import PyProof.Rows.SortWalk
import PyProof.Rows.Range3
import PyProof.ListRange
import PySem.Challenge.RW_lastloser_k44_games_put_together
set_option tactic.hygienic false
local macro_rules|`(tactic|omega)=>`(tactic|lia)
local macro_rules|`(tactic|obtain $p:rcasesPatMed:=$t:term)=>`(tactic|first|(refine Classical.byContradiction fun k=>?_;rcases $t:term with $p:rcasesPatMed<;>(refine k ?_;clear k))|rcases $t:term with $p:rcasesPatMed)
set_option Elab.async false
set_option linter.all false
set_option maxRecDepth 100000
set_option maxHeartbeats 4000000
open List
def a0:=@PyProof.Rows.slot_tuple_getitem
def a8:=@PySem.wpAny_typeNameOfWhole_keyiter
def a9:=@PySem.F.slot_dict_keyiterator_next
def c4:=@PyProof.Rows.callWith_type1
def c5:=@PySem.F.slot_tuple_iterator_next
def c6:=@getElem?_append_right
def c7:=@getD_eq_getElem?_getD
def c8:=@PySem.F.excBase_ValueError
def c9:=@getElem?_append_left
def g9:=@Array.getElem?_eq_getElem
def i0:=@drop_eq_getElem_cons
def i5:=@List.getElem?_eq_some_iff
def i6:=@List.getElem?_eq_none_iff
def i7:=@PySem.F.slot_list_append
def i8:=@getElem?_eq_getElem
def i9:=@PySem.F.type_list_append
def j0:=@PySem.F.plainAttrs_list
def j1:=@getElem?_replicate
def j3:=@PySem.wpAny_callSpecial?_slot
def j4:=@length_eq_zero_iff
def j5:=@take_of_length_le
def j6:=@Array.getElem?_eq_none
def j7:=@PySem.Heap.get?_push_of_some
def j8:=@PySem.Heap.get?_update_other
def j9:=@PySem.richCompare_meets_room
def k4:=@getElem?_set_self
def k7:=@PySem.Heap.get?_update_self
def k8:=@mem_append_right
def k9:=@length_singleton
def l0:=@Array.getElem?_toList
def l3:=@length_replicate
def l4:=@getElem?_eq_none
def l5:=@Nat.le_of_ble_eq_true
def l6:=@PySem.Obj.isFreed_of_fields
def l7:=@mem_cons_of_mem
def l8:=@mem_of_getElem?
def l9:=@mem_iff_getElem
def m7:=@PySem.Around.under_plainId
def m8:=@mem_of_mem_take
def m9:=@PySem.codeAny_call_builtin
def n9:=@getElem?_set_ne
def o7:=@PySem.W.hideAll_none
def o8:=@PySem.Heap.SameBut.update
def o9:=@getElem?_range
def p7:=@PySem.mem_of_lookup
def p8:=@replicate_succ
def p9:=@Array.length_toList
def q8:=@PySem.Heap.get?_push_size
def q9:=@PySem.F.plain_extend_loop
def r6:=@PySem.wpAny_isSubtype_exc
def r9:=@map_congr_left
def s9:=@mem_cons_self
def u3:=@Bool.false_ne_true
def u4:=@length_append
def u5:=@Bool.false_eq_true
def u6:=@Int.emod_lt_of_pos
def u7:=@PySem.wpAny_setField_rec
def u9:=@Nat.lt_of_le_of_lt
def v8:=@Nat.lt_of_lt_of_le
def w5:=@mem_singleton
def w6:=@PySem.wpAny_Call_Name_kw
def w9:=@PySem.W.tail_of_in
def x3:=@of_decide_eq_false
def x4:=@PySem.Obj.data_mapFields
def x5:=@Int.lt_of_le_of_lt
def x6:=@PySem.tupleKind_room_in1
def x8:=@Array.forIn_toList
def x9:=@zip_cons_cons
def y0:=@PySem.W.of_hideAll
def y1:=@getElem?_map
def y2:=@decide_eq_true_eq
def y3:=@Int.toNat_natCast
def y4:=@PySem.wpAny_newObj_type
def y6:=@flatten_cons
def y7:=@PySem.wpAny_truthy_bool
def y8:=@PySem.wpAny_pyIter_list
def y9:=@length_range
def z0:=@Option.isSome_map
def z9:=@List.size_toArray
def A0:=@PySem.wpAny_loadPart_at
def A1:=@Nat.lt_succ_of_lt
def A2:=@PySem.SeqAt.eqAt_reads
def A3:=@lookup_cons
def A4:=@Nat.le_of_not_lt
def A5:=@length_cons
def A6:=@Nat.lt_of_not_le
def A7:=@length_drop
def A8:=@take_length
def A9:=@PySem.wpAny_call_entry
def B0:=@PySem.F.plain_max_loop
def B1:=@Bool.and_eq_true
def B2:=@length_take
def B3:=@getElem_mem
def B4:=@Option.getD_some
def B5:=@Nat.le_add_right
def B6:=@PySem.Heap.size_update
def B7:=@PySem.wpAny_isInstance
def B8:=@cons_append
def B9:=@List.all_eq_true
def C0:=@Bool.eq_iff_iff
def C1:=@append_nil
def C2:=@find?_cons
def C3:=@decide_eq_false
def C4:=@PySem.wpAny_loadPart'
def C5:=@Int.emod_nonneg
def C6:=@Option.some.inj
def C7:=@PySem.PassesOwn.never
def C8:=@PySem.wpAny_passesOwn
def C9:=@PySem.codeAny_builtin
def D1:=@PySem.W.kia_one
def D3:=@length_map
def D4:=@mem_append
def D5:=@map_append
def D6:=@Nat.le_antisymm
def D7:=@length_zip
def D8:=@PySem.wpAny_updateSeq
def D9:=@sum_append
def E1:=@PySem.F.slot_zip_next
def E3:=@PySem.wpAny_specialOf
def E4:=@forIn_cons
def E5:=@length_set
def E6:=@PySem.wpAny_execs_nil
def E7:=@decide_eq_true
def E8:=@PySem.wpAny_seqItems
def E9:=@PySem.Heap.size_push
def G5:=@PySem.wpAny_tryCatch
def G6:=@PySem.wpAny_setField
def G7:=@PySem.wpAny_holding
def G8:=@PySem.wpAny_attempt
def G9:=@PySem.Paired.length
def H0:=@Nat.lt_irrefl
def H9:=@map_cons
def J0:=@mem_cons
def J7:=@PySem.plainId_quiet
def J8:=@PySem.W.mg_of
def J9:=@PySem.wpAny_standAt
def K0:=@Int.zero_add
def K1:=@Nat.ne_of_lt
def K2:=@PySem.Heap.lt_size
def K3:=@mem_map
def K4:=@List.map_map
def K5:=@Nat.le_trans
def K6:=@Nat.zero_add
def K7:=@Nat.le_of_eq
def K8:=@PySem.wpAny_typeOf
def K9:=@PySem.codeAny_mono
def L6:=@Nat.ne_of_gt
def L7:=@Nat.le_of_lt
def L8:=@Nat.le_refl
def L9:=@PySem.sizeLine_eq
def N3:=@Nat.zero_le
def N4:=@PySem.wpAny_field
def N5:=@PySem.wpAny_letGo
def N6:=@PySem.wpAny_bind
def N7:=@PySem.wpAny_pure
def N8:=@PySem.wpAny_rule
def N9:=@PySem.call_meets
def O0:=@PySem.wpAny_mono
def O1:=@PySem.wpAny_call
def O2:=@if_false
def O3:=@congrArg
def O4:=@Ne.symm
def O5:=@if_true
def O6:=@if_pos
def O7:=@if_neg
abbrev O8:=PySem.W.Frag
namespace L2
open PySem PySem.Spec PyProof.Rows
abbrev Key:=Sum Int Str
def pM:Key->Value->Bool
 | .inl k,v=>Value.isInt k v
 | .inr x,v=>Value.isStrOf x v
def WR(w:World):Key->Int
 | .inl k=>hashInt k
 | .inr x=>hashStr w x
theorem bP:∀{k:Key} {v:Value},pM k v=true->(∃i t,k=Sum.inl i/\v=Value.int i t)\/(∃x t,k=Sum.inr x/\v=Value.str x t)
 | .inl i,v,h=>by obtain⟨t,e⟩:=Value.isInt_shape (k:=i) (v:=v) h;exact .inl ⟨i,t,rfl,e⟩
 | .inr x,v,h=>by obtain⟨t,e⟩:=Value.isStrOf_shape (x:=x) (v:=v) h;exact .inr ⟨x,t,rfl,e⟩
theorem AH(i:Int)(t:Tok):pM (.inl i) (.int i t)=true:=by simp[pM,Value.isInt]
theorem AG(x:Str)(t:Tok):pM (.inr x) (.str x t)=true:=by simp[pM,Value.isStrOf]
theorem Po(a b:Int):decide ((Sum.inl a:Key)=Sum.inl b)=(a==b):=by
 by_cases e:a=b
 ·subst e;simp
 ·have h:¬(Sum.inl a:Key)=Sum.inl b:=λ q=>e (Sum.inl.inj q);rw[C3 h];exact(beq_eq_false_iff_ne.mpr e).symm
theorem Ph(a b:Str):decide ((Sum.inr a:Key)=Sum.inr b)=decide (a=b):=by
 by_cases e:a=b
 ·subst e;simp
 ·have h:¬(Sum.inr a:Key)=Sum.inr b:=λ q=>e (Sum.inr.inj q);rw[C3 h,C3 e]
theorem Pn(a:Int)(b:Str):decide ((Sum.inl a:Key)=Sum.inr b)=false:=C3 (λ q=>nomatch q)
theorem Pj(a:Str)(b:Int):decide ((Sum.inr a:Key)=Sum.inl b)=false:=C3 (λ q=>nomatch q)
def cj(prog:Program)(w:World):PySem.KeyKind prog w Key where
 is:=pM
 hash:=WR w
 inj:=λ v a b ha hb=>by
  rcases bP ha with⟨i,t,rfl,rfl⟩|⟨x,t,rfl,rfl⟩
  ·rcases bP hb with⟨j,u,rfl,e⟩|⟨y,u,rfl,e⟩
   ·injection e with e1 _;rw[e1]
   ·exact nomatch e
  ·rcases bP hb with⟨j,u,rfl,e⟩|⟨y,u,rfl,e⟩
   ·exact nomatch e
   ·injection e with e1 _;rw[e1]
 byValue:=λ k v h=>by rcases bP h with⟨i,t,rfl,rfl⟩|⟨x,t,rfl,rfl⟩ <;> rfl
 pyHash:=λ hv h=>by
  rcases bP hv with⟨i,t,rfl,rfl⟩|⟨x,t,rfl,rfl⟩
  ·exact wpAny_pyHash_int h
  ·exact wpAny_pyHash_str h
 eqBool:=λ hu hv h=>by
  rcases bP hu with⟨i,t,rfl,rfl⟩|⟨x,t,rfl,rfl⟩
  ·rcases bP hv with⟨j,u,rfl,rfl⟩|⟨y,u,rfl,rfl⟩
   ·rw[Po]at h;exact wpAny_eqBool_int h
   ·rw[Pn]at h;exact SeqAt.EqAt.int_str i t y u _ _ _ _ h
  ·rcases bP hv with⟨j,u,rfl,rfl⟩|⟨y,u,rfl,rfl⟩
   ·rw[Pj]at h;exact SeqAt.EqAt.str_int x t j u _ _ _ _ h
   ·rw[Ph]at h;exact wpAny_eqBool_str h
 «strs»:=λ k x t v h=>by
  rcases bP h with⟨i,u,rfl,e⟩|⟨y,u,rfl,e⟩
  ·exact nomatch e
  ·injection e with e1 _
   subst e1;cases v <;> rfl
theorem kL(prog:Program)(w:World)(i:Int)(t:Tok):(cj prog w).is (.inl i) (.int i t)=true:=AH i t
theorem tU(prog:Program)(w:World)(x:Str)(t:Tok):(cj prog w).is (.inr x) (.str x t)=true:=AG x t
inductive V where
 |bu|bl (b:Bool)|int (i:Int)|str (x:Str)|BN (b:Array UInt8)|Qb (b:UInt64)|ref (a:Addr)|ty (n:String)
 deriving DecidableEq
def RelV:V->Value->Prop
 | .bu,u=>u=Value.none
 | .bl b,u=>u=Value.bool b
 | .int i,u=>∃t,u=Value.int i t
 | .str x,u=>∃t,u=Value.str x t
 | .BN b,u=>∃t,u=Value.bytes b t
 | .Qb b,u=>∃t,u=Value.float b t
 | .ref a,u=>u=Value.ref a
 | .ty n,u=>u=Value.type n
abbrev Vals:List V->List Value->Prop:=Paired RelV
theorem Vals.length {xs:List V}{us:List Value}(r:Vals xs us):xs.length=us.length:=G9 r
theorem Vals.get:∀{xs:List V} {us:List Value} {i:Nat} {x:V},Vals xs us->xs[i]?=some x->∃u,us[i]?=some u/\RelV x u
 |_,_,_,_,.nil,e=>by simp at e
 |_,_,0,_,.cons r _,e=>by simp at e;subst e;exact⟨_,rfl,r⟩
 |_,_,i+1,x,.cons _ t,e=>by obtain⟨u,h1,h2⟩:=Vals.get (i:=i) (x:=x) t (by simpa using e);exact⟨u,by simpa using h1,h2⟩
theorem Vals.set {x:V}{u:Value}(r:RelV x u):∀{xs:List V} {us:List Value} (i:Nat),Vals xs us->Vals (xs.set i x) (us.set i u)
 |_,_,_,.nil=>.nil
 |_,_,0,.cons _ t=>.cons r t
 |_,_,i+1,.cons q t=>.cons q (Vals.set r i t)
theorem Vals.append:∀{xs ys:List V} {us ws:List Value},Vals xs us->Vals ys ws->Vals (xs++ys) (us++ws)
 |_,_,_,_,.nil,s=>s
 |_,_,_,_,.cons r t,s=>.cons r (Vals.append t s)
theorem Vals.take:∀{xs:List V} {us:List Value} (n:Nat),Vals xs us->Vals (xs.take n) (us.take n)
 |_,_,0,_=>.nil
 |_,_,_+1,.nil=>.nil
 |_,_,n+1,.cons r t=>.cons r (Vals.take n t)
theorem Vals.drop:∀{xs:List V} {us:List Value} (n:Nat),Vals xs us->Vals (xs.drop n) (us.drop n)
 |_,_,0,r=>r
 |_,_,_+1,.nil=>.nil
 |_,_,n+1,.cons _ t=>Vals.drop n t
theorem Vals.none_of:∀{xs:List V} {us:List Value} {i:Nat},Vals xs us->xs[i]?=none->us[i]?=none:=λ{xs us i} r e=>by have h1:=r.length;have h2:xs.length<=i:=i6.mp e;exact i6.mpr (by omega)
def gM:Option V->Option Value->Prop
 |some v,some u=>RelV v u
 |none,none=>True
 |_,_=>False
def KV{κ:Type}:List (κ×V)->List (κ×Value)->Prop:=Paired λ(p:κ×V) (q:κ×Value)=>p.1=q.1/\RelV p.2 q.2
def kV:Key->V
 | .inl i=>.int i
 | .inr x=>.str x
inductive HO where
  |lst (xs:List V)
  |tup (xs:List V)
  |dK (aw:List (Key×V))|dT (aw:List (List Key×V))
  |set (S:Int->Bool) (n:Nat)
  |ins (C dx:Addr) (fs:List (Str×V))
  |own (x:Addr)
  |xd (fs:List (Str×V))
  |met (f x:Addr)
  |MZ (lo hi:Int)
  |lW (o:Obj) (u:HO)
  |MC (ps:Array Value)
  |ext (φ:Heap->Prop)
abbrev Hp:=Addr->Option HO
def upd(H:Hp)(a:Addr)(o:HO):Hp:=λ b=>if b=a then some o else H b
theorem aJ{H:Hp}{a:Addr}{o:HO}:upd H a o a=some o:=by unfold upd;rw[O6 rfl]
theorem aA{H:Hp}{a b:Addr}{o:HO}(h:b≠a):upd H a o b=H b:=by unfold upd;rw[O7 h]
theorem ig{H:Hp}{a:Addr}{o u:HO}:upd (upd H a o) a u=upd H a u:=by funext b;unfold upd;split <;> rfl
theorem bZ{H:Hp}{a b:Addr}{o u:HO}(h:H a=some o)(h':H b=some u)(d:o≠u):a≠b:=by intro e;subst e;rw[h]at h';exact d (C6 h')
theorem aU{H:Hp}{a b:Addr}{o:HO}(h:H a=some o)(h':H b=none):a≠b:=by intro e;subst e;rw[h]at h';cases h'
section
variable (P:Program)(w:World)
def bD(H:Hp)(h:Heap)(a:Addr):HO->Prop
 | .lst xs=>xs.length<=sizeLine/\∃(au:List Value) (n:Nat),Vals xs au/\h.get? a=some {cls:=.type "list",data:=.seq au.toArray n}
 | .tup xs=>xs.length<=sizeLine/\∃au:List Value,Vals xs au/\IsTup h a au.toArray
 | .dK aw=>aw.length<=sizeLine/\(a==sysModules)=false/\∃vs,KV aw vs/\h.DictOf (cj P w) a vs
 | .dT aw=>aw.length<=sizeLine/\(a==sysModules)=false/\∃xs:List (List Key×Addr×Value),
   Paired (λ(p:List Key×V) (q:List Key×Addr×Value)=>p.1=q.1/\H q.2.1=some (.tup (p.1.map kV))/\RelV p.2 q.2.2) aw xs/\
   ∃o es ep,h.get? a=some o/\o.ExactDict/\o.data=.dict es ep/\es.toList=xs.map (entryOfKey (tupleKind (cj P w)))/\(xs.map (·.1)).Nodup
 | .set S n=>h.SetOf (intKind P w) a S n
 | .ins C dx fs=>H dx=some (.own a)/\fs.length<=1000/\dx≠a/\h.get? a=some (PySem.W.instObj C dx)/\
   ∃mA,h.Ns1 dx mA/\(∀f,gM (fs.lookup f) (mA f))/\PySem.Within mA (fs.map (·.1))
 | .own _=>∃o,h.get? a=some o
 | .xd fs=>∃mA,h.Ns1 a mA/\∀f,gM (fs.lookup f) (mA f)
 | .MZ lo hi=>∃t u v,h.get? a=some {cls:=.type "range",data:=.fields #[.int lo t,.int hi u,.int 1 v]}
 | .lW o u=>h.get? a=some o/\bD H h a u
 | .MC ps=>h.get? a=some {cls:=.none,data:=.fields ps}
 | .met f x=>h.get? a=some (PySem.W.methodObj (.ref f) (.ref x))
 | .ext φ=>φ h/\(∃o,h.get? a=some o)/\∀h1 h2:Heap,φ h1->(∀o,h1.get? a=some o->h2.get? a=some o)->φ h2
def f_(H:Hp)(h:Heap):Prop:=∀a o,H a=some o->bD P w H h a o
end
section
variable {P:Program}{w:World}{H H':Hp}{h h':Heap}{a:Addr}{o:HO}
theorem bD.lt (x:bD P w H h a o):a < h.objs.size:=by
 cases o with
 |lst xs=>obtain⟨_,_,_,_,e⟩:=x;exact K2 e
 |tup xs=>obtain⟨_,_,_,p⟩:=x;exact p.lt
 |dK aw=>obtain⟨_,_,_,_,o,_,_,e,_⟩:=x;exact K2 e
 |dT aw=>obtain⟨_,_,_,_,o,_,_,e,_⟩:=x;exact K2 e
 |set S n=>obtain⟨o,_,_,_,e,_⟩:=x;exact K2 e
 |ins C dx fs=>obtain⟨_,_,_,e,_⟩:=x;exact K2 e
 |own y=>obtain⟨_,e⟩:=x;exact K2 e
 |xd fs=>obtain⟨_,⟨_,_,_,e,_⟩,_⟩:=x;exact K2 e
 |MZ lo hi=>obtain⟨_,_,_,e⟩:=x;exact K2 e
 |lW ob u=>obtain⟨e,_⟩:=x;exact K2 e
 |MC ps=>exact K2 (show h.get? a=some _ from x)
 |met f y=>exact K2 (show h.get? a=some _ from x)
 |ext φ=>obtain⟨_,⟨_,e⟩,_⟩:=x;exact K2 e
theorem Paired.Es {α β:Type}{F G:α->β->Prop}:∀{l₁:List α} {l₂:List β},Paired F l₁ l₂->(∀a b,F a b->G a b)->Paired G l₁ l₂
 |_,_,.nil,_=>.nil
 |_,_,.cons r t,f=>.cons (f _ _ r) (Paired.Es t f)
theorem bD.eh (x:bD P w H h a o)(k:∀b u,(b=a\/H b=some (.own a))->h.get? b=some u->h'.get? b=some u) (ho:∀b,H b=some (.own a)->H' b=some (.own a)) (ht:∀b xs,H b=some (.tup xs)->H' b=some (.tup xs)):bD P w H' h' a o:=by
 induction o with
 |lst xs=>obtain⟨z,au,n,r,e⟩:=x;exact⟨z,au,n,r,k _ _ (.inl rfl) e⟩
 |tup xs=>obtain⟨z,au,r,ob,e,c⟩:=x;exact⟨z,au,r,ob,k _ _ (.inl rfl) e,c⟩
 |dK aw=>obtain⟨z,y,vs,r,ob,es,ep,e,c⟩:=x;exact⟨z,y,vs,r,ob,es,ep,k _ _ (.inl rfl) e,c⟩
 |dT aw=>obtain⟨z,y,xs,r,ob,es,ep,e,c⟩:=x;exact⟨z,y,xs,Paired.Es r λ p q z=>⟨z.1,ht _ _ z.2.1,z.2.2⟩,ob,es,ep,k _ _ (.inl rfl) e,c⟩
 |set S n=>obtain⟨ob,es,ep,t,e,c⟩:=x;exact⟨ob,es,ep,t,k _ _ (.inl rfl) e,c⟩
 |ins C dx fs=>obtain⟨d,z,ne,e,mA,⟨od,es,ep,e2,c⟩,r⟩:=x;exact⟨ho _ d,z,ne,k _ _ (.inl rfl) e,mA,⟨od,es,ep,k _ _ (.inr d) e2,c⟩,r⟩
 |own y=>obtain⟨ob,e⟩:=x;exact⟨ob,k _ _ (.inl rfl) e⟩
 |xd fs=>obtain⟨mA,⟨od,es,ep,e,c⟩,r⟩:=x;exact⟨mA,⟨od,es,ep,k _ _ (.inl rfl) e,c⟩,r⟩
 |MZ lo hi=>obtain⟨t,u,v,e⟩:=x;exact⟨t,u,v,k _ _ (.inl rfl) e⟩
 |lW ob u ih=>obtain⟨e,q⟩:=x;exact⟨k _ _ (.inl rfl) e,ih q⟩
 |MC ps=>have e:h.get? a=some {cls:=.none,data:=.fields ps}:=x;show h'.get? a=some {cls:=.none,data:=.fields ps};exact k a _ (.inl rfl) e
 |met f y=>have e:h.get? a=some (PySem.W.methodObj (.ref f) (.ref y)):=x;show h'.get? a=some (PySem.W.methodObj (.ref f) (.ref y));exact k a _ (.inl rfl) e
 |ext φ=>obtain⟨p,⟨o,e⟩,st⟩:=x;exact⟨st _ _ p λ o q=>k _ _ (.inl rfl) q,⟨o,k _ _ (.inl rfl) e⟩,st⟩
theorem f_.lt (x:f_ P w H h)(e:H a=some o):a < h.objs.size:=(x a o e).lt
theorem f_.fresh (x:f_ P w H h)(e:h.objs.size<=a):H a=none:=by
 cases q:H a with
 |none=>rfl
 |some u=>exact absurd (v8 (x.lt q) e) (H0 _)
theorem f_.kept (x:f_ P w H h)(k:∀b u,h.get? b=some u->h'.get? b=some u):f_ P w H h':=λ a o e=>
 (x a o e).eh (λ b u _ q=>k b u q) (λ _ q=>q) λ _ _ q=>q
theorem f_.laid (x:f_ P w H h)(k:∀b u,h.get? b=some u->h'.get? b=some u)(hp:h.objs.size<=a)(new:bD P w (upd H a o) h' a o):f_ P w (upd H a o) h':=λ b u e=>by
 have hn:=x.fresh hp;by_cases hb:b=a
 ·subst hb;rw[aJ]at e;cases e;exact new
 ·rw[aA hb]at e;exact(x b u e).eh (λ c v _ q=>k c v q) (λ c q=>by rw[aA (aU q hn)];exact q) λ c xs q=>by rw[aA (aU q hn)];exact q
end
def Rd(H:Hp)(a:Addr)(u:HO):Prop:=H a=some u\/∃o,H a=some (.lW o u)
theorem Rd.ok {P:Program}{w:World}{H:Hp}{h:Heap}{a:Addr}{u:HO}(r:Rd H a u)(x:f_ P w H h):bD P w H h a u:=by
 rcases r with r|⟨o,r⟩
 ·exact x a u r
 ·obtain⟨_,q⟩:=x a _ r;exact q
def UC:Option HO->Prop
 |some (.lst _)=>True
 |some (.dK _)=>True
 |some (.dT _)=>True
 |some (.set _ _)=>True
 |some (.ins _ _ _)=>True
 |some (.ext _)=>True
 |_=>False
section
variable {P:Program}{w:World}{H:Hp}{h h':Heap}{x e:Addr}{o':HO}
theorem f_.write (ok:f_ P w H h)(mu:UC (H x))(he:e=x\/H e=some (.own x))(k:∀b u,b≠e->h.get? b=some u->h'.get? b=some u)(Q6:∃u,h'.get? e=some u) (new:bD P w (upd H x o') h' x o'):f_ P w (upd H x o') h':=λ b u q=>by
 have SG:∀c y,H c=some (.own y)->c≠x:=λ c y r z=>by subst z;rw[r]at mu;exact mu
 have Ws:∀c xs,H c=some (.tup xs)->c≠x:=λ c xs r z=>by subst z;rw[r]at mu;exact mu
 by_cases hb:b=x
 ·subst hb;rw[aJ]at q;cases q;exact new
 ·rw[aA hb]at q;by_cases PY:b=e
  ·have q':H b=some (.own x):=by
    rcases he with z|z
    ·exact absurd (PY.trans z) hb
    ·rw[PY];exact z
   rw[q]at q';cases q';obtain⟨v,hv⟩:=Q6;exact⟨v,by rw[PY];exact hv⟩
  ·refine(ok b u q).eh (λ c v hc r=>k c v ?_ r) (λ c r=>by rw[aA (SG c b r)];exact r) λ c xs r=>by rw[aA (Ws c xs r)];exact r
   rcases hc with rfl|hc
   ·exact PY
   ·rintro rfl;rcases he with z|z
    ·exact SG c b hc z
    ·rw[hc]at z;cases z;exact hb rfl
end
structure Un(fs ex:List Addr)(H H':Hp)(h h':Heap):Prop where
 keep:∀b o,h.get? b=some o->H b=none->b∉fs->b∉ex->h'.get? b=some o
 slot:∀b o,h.get? b=some o->H b=none->b∈fs->b∉ex->∃sl,h'.get? b=some {o with slots:=sl}
 free:∀b o,h.get? b=some o->H b=none->b∉ex->H' b=none
 there:∀b o,h.get? b=some o->b∉ex->∃o',h'.get? b=some o'
 fE:∀b xs,H b=some (.tup xs)->H' b=some (.tup xs)
 fw:∀b o u,H b=some (.lW o u)->H' b=some (.lW o u)
 gc:∀b ps,H b=some (.MC ps)->∃more,H' b=some (.MC (ps++more))
section
variable {fs fs' ex ex':List Addr}{H H1 H2:Hp}{h h1 h2 h':Heap}{a x e:Addr}{o:HO}
theorem Un.any (u:Un fs ex H H1 h h1){b:Addr}{ob:Obj}(q:h.get? b=some ob)(n:H b=none)(hx:b∉ex):∃sl,h1.get? b=some {ob with slots:=sl}:=by
 by_cases hb:b∈fs
 ·exact u.slot b ob q n hb hx
 ·exact⟨ob.slots,u.keep b ob q n hb hx⟩
theorem Un.kept (k:∀b u,h.get? b=some u->h'.get? b=some u):Un fs ex H H h h':=
 ⟨λ b ob q _ _ _=>k b ob q,λ b ob q _ _ _=>⟨ob.slots,k b ob q⟩,λ _ _ _ n _=>n,λ b ob q _=>⟨ob,k b ob q⟩,λ _ _ q=>q,λ _ _ _ q=>q,λ _ ps q=>⟨#[],by rw[q];simp⟩⟩
theorem Un.refl:Un fs ex H H h h:=Un.kept λ _ _ q=>q
theorem Un.laid (k:∀b u,h.get? b=some u->h'.get? b=some u)(hp:h.objs.size<=a)(hn:H a=none):Un fs ex H (upd H a o) h h' where
 keep:=λ b u q _ _ _=>k b u q
 slot:=λ b u q _ _ _=>⟨u.slots,k b u q⟩
 free:=λ b u q n _=>by rw[aA (K1 (v8 (K2 q) hp))];exact n
 there:=λ b u q _=>⟨u,k b u q⟩
 fE:=λ b xs q=>by rw[aA (aU q hn)];exact q
 fw:=λ b u xs q=>by rw[aA (aU q hn)];exact q
 gc:=λ b ps q=>⟨#[],by rw[aA (aU q hn),q];simp⟩
theorem Un.write (mu:UC (H x))(he:e=x\/H e=some (.own x))(k:∀b u,b≠e->h.get? b=some u->h'.get? b=some u)(Q6:∃u,h'.get? e=some u):Un fs ex H (upd H x o) h h':=by
 have hx:∀b,H b=none->b≠x:=λ b n z=>by subst z;rw[n]at mu;exact mu
 have hb:∀b,H b=none->b≠e:=λ b n z=>by
  subst z;rcases he with r|r
  ·exact hx b n r
  ·rw[n]at r;cases r
 have hm:∀b u,H b=some u->¬UC (some u)->b≠x:=λ b u q nm z=>by subst z;rw[q]at mu;exact nm mu
 refine⟨λ b u q n _ _=>k b u (hb b n) q,λ b u q n _ _=>⟨u.slots,k b u (hb b n) q⟩,λ b u q n _=>by rw[aA (hx b n)];exact n,λ b u q _=>?_,
  λ b xs q=>by rw[aA (hm b _ q λ z=>z)];exact q,λ b u xs q=>by rw[aA (hm b _ q λ z=>z)];exact q,λ b ps q=>⟨#[],by rw[aA (hm b _ q λ z=>z),q];simp⟩⟩
 by_cases PY:b=e
 ·subst PY;exact Q6
 ·exact⟨u,k b u PY q⟩
end
def UM(h:Heap)(H:Hp):List Addr:=(List.range h.objs.size).filter λ a=>(H a).isSome
def rF(h:Heap)(H:Hp):Heap:=PySem.W.hideAll h (UM h H)
theorem AS(h:Heap)(H:Hp):(rF h H).objs.size=h.objs.size:=PySem.W.hideAll_size _ _
theorem Fi{h:Heap}{H:Hp}{b:Addr}{o:Obj}(e:h.get? b=some o)(n:H b=none):(rF h H).get? b=some o:=
 PySem.W.hideAll_get _ e λ hm=>by have q:(H b).isSome=true:=(mem_filter.mp hm).2;rw[n]at q;simp at q
theorem Jy{h:Heap}{H:Hp}{b:Addr}{o:Obj}(e:(rF h H).get? b=some o):h.get? b=some o/\H b=none:=by
 have e':h.get? b=some o:=y0 (UM h H) e;refine⟨e',?_⟩;cases q:H b with
 |none=>rfl
 |some x=>have hm:b∈UM h H:=mem_filter.mpr ⟨mem_range.mpr (K2 e'),by simp[q]⟩;have z:(rF h H).get? b=none:=o7 (UM h H) hm;rw[z]at e;cases e
structure Mod(K:O8)(mg:Str->Option Value)(base:Heap):Prop where
 QX:K.In base
 glob:base.Ns mainGlobals mg
 blt:∃mb,base.Ns builtinsNs mb/\∀x:Str,x≠"__name__"->mb x=bootBuiltins x
 nolimit:base.NoLimit
structure Cx where
 prog:Program
 w:World
 K:O8
 mg:Str->Option Value
 base:Heap
 A:Around
 N:List Str
 s₀:Shared
 H₀:Hp
 env:Env
 outer:List Env
 stack:List Env
 ex:List Addr
 fn:Str->Bool
 calm:Bool
 pn:List (Addr×Obj)
 xe:Value->Shared->Prop
def iI(l:List Env):List Addr:=l.filterMap (·.frame)
abbrev Cx.fs (X:Cx):List Addr:=iI X.outer
def Uw(sc:Scope)(x:Str):Prop:=sc.names.lookup x=some .local\/sc.names.lookup x=some .cell\/sc.names.lookup x=some .free
def Loc(sc:Scope)(x:Str):Prop:=sc.names.lookup x=some .local\/sc.names.lookup x=some .cell
def Look(env:Env)(h:Heap)(m:Str->Option Value)(x:Str)(u:Value):Prop:=
 (env.kindOf x=some .local/\m x=some u)\/((env.kindOf x=some .cell\/env.kindOf x=some .free)/\∃c,env.cells.lookup x=some c/\h.IsCell c (some u))
structure Cx.Ok (X:Cx):Prop where
 mod:Mod X.K X.mg X.base
 kind:X.env.scope.kind=.function
 glob:X.env.globals=mainGlobals
 blt:X.env.builtins=builtinsNs
 above:X.s₀.heap.objs.size<=X.env.locals
 inj:∀x y c,X.env.cells.lookup x=some c->X.env.cells.lookup y=some c->x=y
 has:∀x,(X.env.kindOf x=some .cell\/X.env.kindOf x=some .free)->∃c,X.env.cells.lookup x=some c
 Rc:∀x c,X.fn x=true->X.env.cells.lookup x=some c->X.s₀.heap.objs.size<=c
 hd:X.calm=true->X.A.handled=none
 frames:X.A.frames=some X.stack
 RA:X.stack=X.outer\/(X.stack=X.env::X.outer/\X.env.frame=some X.env.locals)
 XW:∀b∈X.ex,b≠X.env.locals/\∀x c,X.env.cells.lookup x=some c->c≠b
 bs:∀b o,X.base.get? b=some o->X.s₀.heap.get? b=some o/\X.H₀ b=none
 BO:X.base.objs.size<=X.s₀.heap.objs.size
 wL:∀b o,X.base.get? b=some o->b∉X.ex
 Fy:∀b∈X.ex,b∉X.fs
 jG:X.s₀.heap.FunFrames X.base X.outer
 Kw:∀b∈X.fs,X.H₀ b=none
structure Inv(X:Cx)(pins:List (Addr×Obj))(σ:List (Option V))(H:Hp)(s:Shared):Prop where
 ok:X.Ok
 os:s.os=X.s₀.os
 bare:AllBare s.gens
 base:Un X.fs X.ex X.H₀ H X.s₀.heap s.heap
 loc:∃m,s.heap.Ns X.env.locals m/\∀(i:Nat) (x:Str) (v:V),X.N[i]?=some x->σ[i]?=some (some v)->Uw X.env.scope x->∃u,RelV v u/\Look X.env s.heap m x u
 cell:∀x c,X.env.cells.lookup x=some c->∃v,s.heap.IsCell c v
 free:H X.env.locals=none
 eG:∀x c,X.env.cells.lookup x=some c->H c=none
 pin:∀p∈X.pn++pins,s.heap.get? p.1=some p.2/\H p.1=none/\p.1≠X.env.locals/\p.1∉X.fs/\∀v,p.2.data≠.cell v
 bq:f_ X.prog X.w H s.heap
 len:σ.length=X.N.length
section
variable {X:Cx}{pins:List (Addr×Obj)}{σ:List (Option V)}{H H':Hp}{s:Shared}{h':Heap}
theorem Cx.Ok.Wu (ok:X.Ok){b:Addr}{o:Obj}(e:X.base.get? b=some o):b∉X.fs:=λ hb=>by have:=(ok.jG.mem hb).1;rw[e]at this;cases this
theorem Inv.bs (I:Inv X pins σ H s):∀b o,X.base.get? b=some o->s.heap.get? b=some o/\H b=none:=λ b o e=>
 ⟨I.base.keep b o (I.ok.bs b o e).1 (I.ok.bs b o e).2 (I.ok.Wu e) (I.ok.wL b o e),I.base.free b o (I.ok.bs b o e).1 (I.ok.bs b o e).2 (I.ok.wL b o e)⟩
theorem Inv.bk (I:Inv X pins σ H s):∀b o,X.base.get? b=some o->s.heap.get? b=some o:=λ b o e=>(I.bs b o e).1
theorem Inv.mod (I:Inv X pins σ H s):Mod X.K X.mg X.base:=I.ok.mod
theorem Inv.gB (I:Inv X pins σ H s):X.K.In s.heap:=I.ok.mod.QX.keeps I.bk
theorem Inv.lt (I:Inv X pins σ H s):X.env.locals < s.heap.objs.size:=let⟨_,hn,_⟩:=I.loc;hn.lt
theorem Inv.sz (I:Inv X pins σ H s):X.s₀.heap.objs.size<=s.heap.objs.size:=K5 I.ok.above (L7 I.lt)
theorem Inv.Wt (I:Inv X pins σ H s){a:Addr}(h:s.heap.objs.size<=a):a∉X.fs:=λ hb=>by obtain⟨_,o,ho,_⟩:=I.ok.jG.mem hb;exact absurd (v8 (K2 ho) (K5 I.sz h)) (H0 _)
theorem Inv.Ga (I:Inv X pins σ H s):∀x c,X.env.cells.lookup x=some c->c≠X.env.locals:=λ x c e z=>by obtain⟨v,o,ho,hd⟩:=I.cell x c e;obtain⟨m,⟨o',es,ep,kQ,gH,_⟩,_⟩:=I.loc;rw[z,kQ]at ho;cases ho;rw[gH]at hd;cases hd
theorem Inv.jG (I:Inv X pins σ H s):s.heap.FunFrames X.base X.outer:=by
 have all:∀(l:List Env),(∀b∈iI l,b∈X.fs)->X.s₀.heap.FunFrames X.base l->s.heap.FunFrames X.base l:=by
  intro l
  induction l with
  |nil=>intro _ _;trivial
  |cons env r ih=>intro hs hl;obtain⟨hk,⟨L,o,hf,hn,ho,hd⟩,hr⟩:=hl;have hL:L∈X.fs:=hs L (by unfold iI;rw[filterMap_cons,hf];exact s9);obtain⟨sl,e⟩:=I.base.slot L o ho (I.ok.Kw L hL) hL λ z=>I.ok.Fy L z hL;exact⟨hk,⟨L,_,hf,hn,e,hd⟩,ih (λ b hb=>hs b (by unfold iI;rw[filterMap_cons,hf];exact l7 _ hb)) hr⟩
 exact all X.outer (λ _ hb=>hb) I.ok.jG
theorem Inv.stack (I:Inv X pins σ H s):s.heap.FunFrames X.base X.stack:=by
 rcases I.ok.RA with e|⟨e,hf⟩
 ·rw[e];exact I.jG
 ·rw[e];obtain⟨m,hn,_⟩:=I.loc;refine .cons (by rw[I.ok.kind];decide) hf hn ?_ I.jG;exact Heap.get?_none_of_le (K5 I.ok.BO I.ok.above)
theorem Inv.qv (I:Inv X pins σ H s):∀b∈iI X.stack,b∈X.env.locals::X.fs:=λ b hb=>by
 rcases I.ok.RA with e|⟨e,hf⟩
 ·rw[e]at hb;exact l7 _ hb
 ·rw[e]at hb;unfold iI at hb;rw[filterMap_cons,hf]at hb;exact hb
theorem Inv.jh (I:Inv X pins σ H s):∀b∈iI X.stack,H b=none:=λ b hb=>by
 rcases J0.mp (I.qv b hb)with e|hb
 ·rw[e];exact I.free
 ·obtain⟨_,o,ho,_⟩:=I.ok.jG.mem hb;exact I.base.free b o ho (I.ok.Kw b hb) λ z=>I.ok.Fy b z hb
theorem Inv.step {g':Array GenState}{t':Nat}{d':Drawn}{ch:List Addr}(I:Inv X pins σ H s) (GN:∀b∈ch,(b∈X.ex\/X.s₀.heap.objs.size<=b)/\b≠X.env.locals/\(∀x c,X.env.cells.lookup x=some c->c≠b)/\∀p∈X.pn++pins,p.1≠b) (keep:∀b o,b≠X.env.locals->b∉X.fs->b∉ch->s.heap.get? b=some o->H b=none->h'.get? b=some o) (slot:∀b o,b≠X.env.locals->b∈X.fs->b∉ch->s.heap.get? b=some o->H b=none->∃sl,h'.get? b=some {o with slots:=sl}) (free:∀b o,b∉ch->s.heap.get? b=some o->H b=none->H' b=none) (there:∀b o,b∉ch->s.heap.get? b=some o->∃o',h'.get? b=some o') (fE:∀b xs,H b=some (.tup xs)->H' b=some (.tup xs)) (fw:∀b o u,H b=some (.lW o u)->H' b=some (.lW o u)) (gc:∀b ps,H b=some (.MC ps)->∃more,H' b=some (.MC (ps++more))) (ns:∀m,s.heap.Ns X.env.locals m->h'.Ns X.env.locals m) (bq:f_ X.prog X.w H' h') (hg:AllBare g'):Inv X pins σ H' {s with heap:=h',gens:=g',drawn:=d',toks:=t'}:=by
 have YA:∀b o,X.s₀.heap.get? b=some o->b≠X.env.locals:=λ b o e=>K1 (v8 (K2 e) I.ok.above);have Vh:∀b o,X.s₀.heap.get? b=some o->b∉X.ex->b∉ch:=λ b o e hx hb=>by
  rcases(GN b hb).1 with z|z
  ·exact hx z
  ·exact absurd (v8 (K2 e) z) (H0 _)
 have cellK:∀x c,X.env.cells.lookup x=some c->∀v,s.heap.IsCell c v->h'.IsCell c v:=λ x c e v ⟨o,ho,hd⟩=>by
  have SN:c∉ch:=λ z=>(GN c z).2.2.1 x c e rfl;by_cases hc:c∈X.fs
  ·obtain⟨sl,q⟩:=slot c o (I.Ga x c e) hc SN ho (I.eG x c e);exact⟨_,q,hd⟩
  ·exact⟨o,keep c o (I.Ga x c e) hc SN ho (I.eG x c e),hd⟩
 refine⟨I.ok,I.os,hg,⟨λ b o e n hb hx=>?_,λ b o e n hb hx=>?_,λ b o e n hx=>?_,λ b o e hx=>?_,λ b xs e=>fE b xs (I.base.fE b xs e),λ b o xs e=>fw b o xs (I.base.fw b o xs e),λ b ps e=>?_⟩,?_,λ x c e=>?_,?_,λ x c e=>?_,λ p hp=>?_,bq,I.len⟩
 ·exact keep b o (YA b o e) hb (Vh b o e hx) (I.base.keep b o e n hb hx) (I.base.free b o e n hx)
 ·obtain⟨sl,e1⟩:=I.base.slot b o e n hb hx;obtain⟨V1,e2⟩:=slot b _ (YA b o e) hb (Vh b o e hx) e1 (I.base.free b o e n hx);exact⟨V1,e2⟩
 ·obtain⟨o',e1⟩:=I.base.there b o e hx;exact free b o' (Vh b o e hx) e1 (I.base.free b o e n hx)
 ·obtain⟨o',e1⟩:=I.base.there b o e hx;exact there b o' (Vh b o e hx) e1
 ·obtain⟨m1,e1⟩:=I.base.gc b ps e;obtain⟨m2,e2⟩:=gc b _ e1;exact⟨m1++m2,by rw[e2,Array.append_assoc]⟩
 ·obtain⟨m,hn,hl⟩:=I.loc;refine⟨m,ns m hn,λ i x v e1 e2 e3=>?_⟩;obtain⟨u,r,l⟩:=hl i x v e1 e2 e3;refine⟨u,r,?_⟩;rcases l with l|⟨k,c,e,z⟩
  ·exact .inl l
  ·exact .inr ⟨k,c,e,cellK x c e _ z⟩
 ·obtain⟨v,z⟩:=I.cell x c e;exact⟨v,cellK x c e v z⟩
 ·obtain⟨m,⟨o,_,_,ho,_⟩,_⟩:=I.loc;exact free _ o (λ z=>(GN _ z).2.1 rfl) ho I.free
 ·obtain⟨v,o,ho,hd⟩:=I.cell x c e;exact free c o (λ z=>(GN c z).2.2.1 x c e rfl) ho (I.eG x c e)
 ·obtain⟨e,n,ne,nf,d⟩:=I.pin p hp;have SN:p.1∉ch:=λ z=>(GN p.1 z).2.2.2 p hp rfl;exact⟨keep p.1 p.2 ne nf SN e n,free p.1 p.2 SN e n,ne,nf,d⟩
theorem Inv.un {t':Nat}(I:Inv X pins σ H s)(u:Un X.fs [] H H' s.heap h')(bq:f_ X.prog X.w H' h'):Inv X pins σ H' {s with heap:=h',toks:=t'}:=by
 obtain⟨m,⟨o,es,ep,ho,r⟩,_⟩:=id I.loc;obtain⟨sl,hL⟩:=u.any ho I.free (by simp);exact I.step (g':=s.gens) (d':=s.drawn) (ch:=[]) (λ _ z=>nomatch z) (λ b o _ hb _ e n=>u.keep b o e n hb (by simp)) (λ b o _ hb _ e n=>u.slot b o e n hb (by simp)) (λ b o _ e n=>u.free b o e n (by simp)) (λ b o _ e=>u.there b o e (by simp)) u.fE u.fw u.gc (λ m' hm=>by
  obtain⟨o',LU,XZ,kQ,r'⟩:=hm;rw[ho]at kQ;cases kQ;exact⟨_,LU,XZ,hL,r'⟩) bq I.bare
theorem Inv.call {g':Array GenState}{t':Nat}{d':Drawn}{ch:List Addr}(I:Inv X pins σ H s)(u:Un (iI X.stack) ch H H' s.heap h')(bq:f_ X.prog X.w H' h')(hg:AllBare g') (GN:∀b∈ch,(b∈X.ex\/X.s₀.heap.objs.size<=b)/\b≠X.env.locals/\(∀x c,X.env.cells.lookup x=some c->c≠b)/\∀p∈X.pn++pins,p.1≠b):Inv X pins σ H' {s with heap:=h',gens:=g',drawn:=d',toks:=t'}:=by
 obtain⟨m,⟨o,es,ep,ho,r⟩,_⟩:=id I.loc;obtain⟨sl,hL⟩:=u.any ho I.free λ z=>(GN _ z).2.1 rfl;exact I.step (ch:=ch) GN (λ b o hL hb hc e n=>u.keep b o e n (λ z=>(J0.mp (I.qv b z)).elim hL hb) hc) (λ b o _ _ hc e n=>u.any e n hc) (λ b o hc e n=>u.free b o e n hc) (λ b o hc e=>u.there b o e hc) u.fE u.fw u.gc (λ m' hm=>by
  obtain⟨o',LU,XZ,kQ,r'⟩:=hm;rw[ho]at kQ;cases kQ;exact⟨_,LU,XZ,hL,r'⟩) bq hg
theorem Inv.turned {t':Nat}{it:Addr}(I:Inv X pins σ H s)(k:∀b o,b≠it->s.heap.get? b=some o->h'.get? b=some o)(hn:H it=none)(hL:it≠X.env.locals) (h1:it∈X.ex\/X.s₀.heap.objs.size<=it) (h2:∀x c,X.env.cells.lookup x=some c->c≠it) (h3:∀p∈X.pn++pins,p.1≠it):Inv X pins σ H {s with heap:=h',toks:=t'}:=by
 have SM:∀b u,H b=some u->b≠it:=λ b u e z=>by rw[z,hn]at e;cases e
 refine I.step (g':=s.gens) (d':=s.drawn) (ch:=[it]) (λ b hb=>?_) (λ b o _ _ hc e _=>k b o (λ z=>hc (by simp[z])) e) (λ b o _ _ hc e _=>⟨o.slots,k b o (λ z=>hc (by simp[z])) e⟩) (λ _ _ _ _ n=>n)
  (λ b o hc e=>⟨o,k b o (λ z=>hc (by simp[z])) e⟩) (λ _ _ e=>e) (λ _ _ _ e=>e) (λ b ps e=>⟨#[],by rw[e];simp⟩) (λ m hm=>?_) (λ b u e=>?_) I.bare
 ·have e:b=it:=by simpa using hb
  subst e;exact⟨h1,hL,h2,h3⟩
 ·obtain⟨o,es,ep,ho,r⟩:=hm;exact⟨o,es,ep,k _ o (O4 hL) ho,r⟩
 ·refine(I.bq b u e).eh (λ c v hc q=>k c v ?_ q) (λ _ q=>q) λ _ _ q=>q;rcases hc with z|z
  ·rw[z];exact SM b u e
  ·exact SM c _ z
theorem Inv.tok (I:Inv X pins σ H s)(t:Nat):Inv X pins σ H {s with toks:=t}:=I.un (h':=s.heap) (t':=t) Un.refl I.bq
theorem Inv.kept {t':Nat}(I:Inv X pins σ H s)(k:∀b u,s.heap.get? b=some u->h'.get? b=some u):Inv X pins σ H {s with heap:=h',toks:=t'}:=I.un (Un.kept k) (I.bq.kept k)
theorem Inv.laid {a:Addr}{o:HO}{t':Nat}(I:Inv X pins σ H s)(k:∀b u,s.heap.get? b=some u->h'.get? b=some u)(hp:s.heap.objs.size<=a)(new:bD X.prog X.w (upd H a o) h' a o):Inv X pins σ (upd H a o) {s with heap:=h',toks:=t'}:=I.un (Un.laid k hp (I.bq.fresh hp)) (I.bq.laid k hp new)
theorem Inv.write {x e:Addr}{o:HO}{t':Nat}(I:Inv X pins σ H s)(mu:UC (H x))(he:e=x\/H e=some (.own x))(k:∀b u,b≠e->s.heap.get? b=some u->h'.get? b=some u)(Q6:∃u,h'.get? e=some u) (new:bD X.prog X.w (upd H x o) h' x o):Inv X pins σ (upd H x o) {s with heap:=h',toks:=t'}:=I.un (Un.write mu he k Q6) (I.bq.write mu he k Q6 new)
theorem Inv.weak {σ':List (Option V)}(I:Inv X pins σ H s)(hl:σ'.length=σ.length)(w:∀(i:Nat) v,σ'[i]?=some (some v)->σ[i]?=some (some v)):Inv X pins σ' H s:=
 ⟨I.ok,I.os,I.bare,I.base,let⟨m,hn,yM⟩:=I.loc;⟨m,hn,λ i x v e1 e2 e3=>yM i x v e1 (w i v e2) e3⟩,I.cell,I.free,I.eG,I.pin,I.bq,hl.trans I.len⟩
theorem Inv.dR {pins':List (Addr×Obj)}(I:Inv X pins σ H s)(h:∀p∈pins',s.heap.get? p.1=some p.2/\H p.1=none/\p.1≠X.env.locals/\p.1∉X.fs/\∀v,p.2.data≠.cell v):Inv X pins' σ H s:=
 ⟨I.ok,I.os,I.bare,I.base,I.loc,I.cell,I.free,I.eG,λ p hp=>(D4.mp hp).elim (λ z=>I.pin p (mem_append_left _ z)) (h p),I.bq,I.len⟩
theorem mW{N:List Str}(hN:N.Nodup){i j:Nat}{x:Str}(a:N[i]?=some x)(b:N[j]?=some x):i=j:=by obtain⟨h1,e1⟩:=i5.mp a;obtain⟨h2,e2⟩:=i5.mp b;exact(getElem_inj hN).mp (e1.trans e2.symm)
theorem pw{M:Model}{A:Around}{E:Value->Shared->Prop}{i:Nat}{x:Str}{v:V}{u:Value}{Q:Unit->Shared->Prop}(I:Inv X pins σ H s)(hN:X.N.Nodup)(hi:X.N[i]?=some x)(hx:Loc X.env.scope x)(r:RelV v u) (h:∀s',Inv X pins (σ.set i (some v)) H s'->(∃a,Heap.SameBut a s.heap s'.heap/\(a=X.env.locals\/X.env.cells.lookup x=some a))->Q () s') (hf:X.fn x=true\/X.env.scope.names.lookup x=some .local:=by first|exact .inl rfl|exact .inr rfl|assumption):wpAny M A (storeName X.env x u) Q E s:=by
 obtain⟨m,hn,hl⟩:=id I.loc;have PU:(X.env.scope.kind==.class||(X.env.scope.kind==.module&&X.env.locals != X.env.globals))=false:=by rw[I.ok.kind];rfl
 have Y6:i < σ.length:=by rw[I.len];exact(i5.mp hi).1
 have Ga:=I.Ga;have tracked:∀{a:Addr} {h':Heap},(∃o,s.heap.get? a=some o/\H a=none)->Heap.SameBut a s.heap h'->f_ X.prog X.w H h':=λ{a h'} ha hs b ob e=>by
  obtain⟨_,_,LN⟩:=ha;refine(I.bq b ob e).eh (λ c w' hc q=>(hs.2 c ?_).trans q) (λ _ q=>q) λ _ _ q=>q;rintro rfl;rcases hc with rfl|hc
  ·rw[LN]at e;cases e
  ·rw[LN]at hc;cases hc
 rcases hx with hk|hk
 ·refine wpAny_storeName_local hk hn (λ h' Km hs=>?_) PU;obtain⟨oL,_,_,YZ,_⟩:=id hn;refine h _ ⟨I.ok,I.os,I.bare,⟨λ b o e n hb hx=>?_,λ b o e n hb hx=>?_,I.base.free,λ b o e hx=>?_,I.base.fE,I.base.fw,I.base.gc⟩,⟨_,Km,λ j y v' e1 e2 e3=>?_⟩,λ y c e=>?_,I.free,I.eG,λ p hp=>?_,tracked ⟨oL,YZ,I.free⟩ hs,by simpa using I.len⟩ ⟨_,hs,.inl rfl⟩
  ·exact(hs.2 b (K1 (v8 (K2 e) I.ok.above))).trans (I.base.keep b o e n hb hx)
  ·obtain⟨sl,e1⟩:=I.base.slot b o e n hb hx;exact⟨sl,(hs.2 b (K1 (v8 (K2 e) I.ok.above))).trans e1⟩
  ·obtain⟨o',e1⟩:=I.base.there b o e hx;exact⟨o',(hs.2 b (K1 (v8 (K2 e) I.ok.above))).trans e1⟩
  ·by_cases hj:j=i
   ·subst hj;rw[hi]at e1;cases e1;rw[k4 Y6]at e2;cases e2;exact⟨u,r,.inl ⟨hk,by simp⟩⟩
   ·rw[n9 (O4 hj)]at e2;obtain⟨u',r',q⟩:=hl j y v' e1 e2 e3;refine⟨u',r',?_⟩;rcases q with⟨k,e⟩|⟨k,c,e,z⟩
    ·refine .inl ⟨k,?_⟩;have:y≠x:=λ e=>hj (mW hN e1 (e▸hi));simp[this,e]
    ·exact .inr ⟨k,c,e,z.sameBut hs (Ga y c e)⟩
  ·obtain⟨w',z⟩:=I.cell y c e;exact⟨w',z.sameBut hs (Ga y c e)⟩
  ·obtain⟨e,n,ne,nf,d⟩:=I.pin p hp;exact⟨(hs.2 p.1 ne).trans e,n,ne,nf,d⟩
 ·have Xv:X.fn x=true:=by
   rcases hf with z|z
   ·exact z
   ·rw[z]at hk;cases hk
  obtain⟨c,hc⟩:=I.ok.has x (.inl hk);obtain⟨w',z⟩:=I.cell x c hc;refine wpAny_storeName_cell I.ok.kind hk hc z (λ h' vF hs=>?_);obtain⟨oc,YY,Xi⟩:=id z;refine h {s with heap:=h'} ⟨I.ok,I.os,I.bare,⟨λ b o e n hb hx=>?_,λ b o e n hb hx=>?_,I.base.free,λ b o e hx=>?_,I.base.fE,I.base.fw,I.base.gc⟩,⟨m,hn.sameBut hs (O4 (Ga x c hc)),λ j y v' e1 e2 e3=>?_⟩,λ y c' e=>?_,I.free,I.eG,λ p hp=>?_,tracked ⟨oc,YY,I.eG x c hc⟩ hs,by simpa using I.len⟩ ⟨c,hs,.inr hc⟩
  ·exact(hs.2 b (K1 (v8 (K2 e) (I.ok.Rc x c Xv hc)))).trans (I.base.keep b o e n hb hx)
  ·obtain⟨sl,e1⟩:=I.base.slot b o e n hb hx;exact⟨sl,(hs.2 b (K1 (v8 (K2 e) (I.ok.Rc x c Xv hc)))).trans e1⟩
  ·obtain⟨o',e1⟩:=I.base.there b o e hx;exact⟨o',(hs.2 b (K1 (v8 (K2 e) (I.ok.Rc x c Xv hc)))).trans e1⟩
  ·by_cases hj:j=i
   ·subst hj;rw[hi]at e1;cases e1;rw[k4 Y6]at e2;cases e2;exact⟨u,r,.inr ⟨.inl hk,c,hc,vF⟩⟩
   ·rw[n9 (O4 hj)]at e2;obtain⟨u',r',q⟩:=hl j y v' e1 e2 e3;refine⟨u',r',?_⟩;rcases q with q|⟨k,c',e,z'⟩
    ·exact .inl q
    ·refine .inr ⟨k,c',e,z'.sameBut hs ?_⟩;rintro rfl;exact hj (mW hN e1 (I.ok.inj _ _ _ e hc▸hi))
  ·by_cases Y_:c'=c
   ·subst Y_;exact⟨_,vF⟩
   ·obtain⟨w2,z2⟩:=I.cell y c' e;exact⟨w2,z2.sameBut hs Y_⟩
  ·obtain⟨e,n,ne,nf,d⟩:=I.pin p hp;refine⟨(hs.2 p.1 ?_).trans e,n,ne,nf,d⟩;intro q;rw[q,YY]at e;have q':oc=p.2:=C6 e;exact d w' (by rw[<- q'];exact Xi)
theorem jg{M:Model}{A:Around}{E:Value->Shared->Prop}{i:Nat}{x:Str}{v:V}{u:Value}{Q:Unit->Shared->Prop}(I:Inv X pins σ H s)(hN:X.N.Nodup)(hi:X.N[i]?=some x)(hx:Loc X.env.scope x)(r:RelV v u) (h:∀s',Inv X pins (σ.set i (some v)) H s'->Q () s') (hf:X.fn x=true\/X.env.scope.names.lookup x=some .local:=by first|exact .inl rfl|exact .inr rfl|assumption):wpAny M A (storeName X.env x u) Q E s:=
 pw I hN hi hx r (λ s' I' _=>h s' I') hf
theorem Inv.qa {s':Shared}{ch:List Addr}(I:Inv X pins σ H s)(ho:s'.os=s.os)(u:Un (iI X.stack) ch H H' s.heap s'.heap)(bq:f_ X.prog X.w H' s'.heap)(hg:AllBare s'.gens) (GN:∀b∈ch,(b∈X.ex\/X.s₀.heap.objs.size<=b)/\b≠X.env.locals/\(∀x c,X.env.cells.lookup x=some c->c≠b)/\∀p∈X.pn++pins,p.1≠b):Inv X pins σ H' s':=by obtain⟨h',g',d',t',o'⟩:=s';have e:o'=s.os:=ho;subst e;exact I.call (g':=g') (t':=t') (d':=d') u bq hg GN
end
abbrev XK:=Value->Option Addr->Hp->Prop
abbrev St:=List (Option V)
abbrev VK:=V->Hp->Prop
abbrev TE:=St->Hp->VK->Prop
abbrev TT:=St->Hp->(Bool->Hp->Prop)->Prop
abbrev TA:=St->Hp->(List V->Hp->Prop)->Prop
structure Ends where
 nx:St->Hp->Prop
 rt:VK
 bk:St->Hp->Prop:=λ _ _=>False
 ct:St->Hp->Prop:=λ _ _=>False
abbrev TS:=Ends->St->Hp->Prop
def EP(X:Cx)(pins:List (Addr×Obj))(σ:St)(Q:VK)(u:Value)(s':Shared):Prop:=∃v H',Inv X pins σ H' s'/\RelV v u/\Q v H'
def TP(X:Cx)(pins:List (Addr×Obj))(σ:St)(Q:Bool->Hp->Prop)(b:Bool)(s':Shared):Prop:=∃H',Inv X pins σ H' s'/\Q b H'
def AP(X:Cx)(pins:List (Addr×Obj))(σ:St)(Q:List V->Hp->Prop)(us:List Value)(s':Shared):Prop:=∃vs H',Inv X pins σ H' s'/\Vals vs us/\Q vs H'
def SP(X:Cx)(pins:List (Addr×Obj))(D:Ends)(f:Flow)(s':Shared):Prop:=
 match f with
 | .next=>∃σ' H',Inv X pins σ' H' s'/\D.nx σ' H'
 | .brk=>∃σ' H',Inv X pins σ' H' s'/\D.bk σ' H'
 | .cont=>∃σ' H',Inv X pins σ' H' s'/\D.ct σ' H'
 | .ret u=>∃v σ' H',Inv X pins σ' H' s'/\RelV v u/\D.rt v H'
def PE(X:Cx)(e:Expr)(t:TE):Prop:=
 ∀(pins:List (Addr×Obj)) (s:Shared) (σ:St) (H:Hp) (Q:VK),Inv X pins σ H s->t σ H Q->wpAny (model X.prog X.w) X.A (eval e X.env) (EP X pins σ Q) X.xe s
def PT(X:Cx)(e:Expr)(t:TT):Prop:=
 ∀(pins:List (Addr×Obj)) (s:Shared) (σ:St) (H:Hp) (Q:Bool->Hp->Prop),Inv X pins σ H s->t σ H Q->wpAny (model X.prog X.w) X.A (isTrue e X.env (eval e X.env)) (TP X pins σ Q) X.xe s
def PW(X:Cx)(e:Expr)(t:TT):Prop:=
 ∀(whole:Sem Value) (pins:List (Addr×Obj)) (s:Shared) (σ:St) (H:Hp) (Q:Bool->Hp->Prop),Inv X pins σ H s->t σ H Q->wpAny (model X.prog X.w) X.A (isTrue e X.env whole) (TP X pins σ Q) X.xe s
theorem PW.pt {X:Cx}{e:Expr}{t:TT}(h:PW X e t):PT X e t:=h _
def PA(X:Cx)(es:List Expr)(t:TA):Prop:=
 ∀(pos:Pos) (pins:List (Addr×Obj)) (s:Shared) (σ:St) (H:Hp) (Q:List V->Hp->Prop),Inv X pins σ H s->t σ H Q->wpAny (model X.prog X.w) X.A (spliced (backTo pos (starEach es X.env))) (AP X pins σ Q) X.xe s
def PS(X:Cx)(st:Stmt)(t:TS):Prop:=
 ∀(pins:List (Addr×Obj)) (s:Shared) (σ:St) (H:Hp) (D:Ends),Inv X pins σ H s->t D σ H->wpAny (model X.prog X.w) X.A (exec st X.env) (SP X pins D) X.xe s
def oV(X:Cx)(st:List Stmt)(t:TS):Prop:=
 ∀(pins:List (Addr×Obj)) (s:Shared) (σ:St) (H:Hp) (D:Ends),Inv X pins σ H s->t D σ H->wpAny (model X.prog X.w) X.A (execs st X.env) (SP X pins D) X.xe s
theorem cG{α:Type}{t:Sem α}{Q Q':α->Shared->Prop}{M:Model}{A:Around}{E:Value->Shared->Prop}{s:Shared}(h:wpAny M A t Q E s)(hQ:∀a s,Q a s->Q' a s):wpAny M A t Q' E s:=O0 h hQ λ _ _ x=>x
section
variable {X:Cx}
def Cm(i:Nat):TE:=λ σ H Q=>∃v,σ[i]?=some (some v)/\Q v H
def tC(v:V):TE:=λ _ H Q=>Q v H
theorem DO{i:Nat}{x:Str}{pos:Pos}(hN:X.N[i]?=some x)(hv:Uw X.env.scope x)(hd:(x==("__debug__":Str))=false:=by decide)(hcd:(x==("__classdict__":Str))=false:=by decide):PE X (.Name x pos) (Cm i):=by
 intro pins s σ H Q I h;obtain⟨v,e,h⟩:=h;obtain⟨m,hn,hl⟩:=I.loc;obtain⟨u,r,l⟩:=hl i x v hN e hv;have fin:EP X pins σ Q u s:=⟨v,H,I,r,h⟩;rcases l with⟨hk,hm⟩|⟨hk,c,hc,LP⟩
 ·exact wpAny_Name (wpAny_loadName_local I.ok.kind hk hn hm fin) hd
 ·rcases hk with hk|hk
  ·exact wpAny_Name (wpAny_loadName_cell I.ok.kind hk hc LP fin) hd
  ·exact wpAny_Name (wpAny_loadName_free I.ok.kind hk hc LP fin hcd) hd
theorem DR{i j pos}:PE X (.Constant (.int i) j pos) (tC (.int i)):=λ _ _ _ H _ I h=>wpAny_Constant_int ⟨.int i,H,I.tok _,⟨_,rfl⟩,h⟩
theorem Sh{b j pos}:PE X (.Constant (.bool b) j pos) (tC (.bl b)):=λ _ _ _ H _ I h=>Constant_bool ⟨.bl b,H,I,rfl,h⟩
theorem OA{j pos}:PE X (.Constant .none j pos) (tC .bu):=λ _ _ _ H _ I h=>Constant_none ⟨.bu,H,I,rfl,h⟩
theorem wD{x j pos}:PE X (.Constant (.str x) j pos) (tC (.str x)):=λ _ _ _ H _ I h=>Calls.Constant_str ⟨.str x,H,I.tok _,⟨_,rfl⟩,h⟩
def Gl(X:Cx)(x:Str):Prop:=X.env.kindOf x=some .globalImplicit
theorem e_{E:Value->Shared->Prop}{pins:List (Addr×Obj)}{s:Shared}{σ:St}{H:Hp}{x:Str}{u:Value}{pos:Pos}{Q:Value->Shared->Prop}(I:Inv X pins σ H s)(hg:Gl X x)(hm:X.mg x=some u)(h:Q u s) (hd:(x==("__debug__":Str))=false:=by decide):wpAny (model X.prog X.w) X.A (eval (.Name x pos) X.env) Q E s:=
 Calls.Name_function_global I.ok.kind hg (Calls.loadGlobal_global (by rw[I.ok.glob];exact I.mod.glob.keeps I.bk) hm h) hd
theorem fu{E:Value->Shared->Prop}{pins:List (Addr×Obj)}{s:Shared}{σ:St}{H:Hp}{x:Str}{u:Value}{pos:Pos}{Q:Value->Shared->Prop}(I:Inv X pins σ H s)(hg:Gl X x)(hm:X.mg x=none)(hv:bootBuiltins x=some u)(h:Q u s) (hn:x≠"__name__":=by decide) (hd:(x==("__debug__":Str))=false:=by decide):wpAny (model X.prog X.w) X.A (eval (.Name x pos) X.env) Q E s:=by obtain⟨mb,h1,h2⟩:=I.mod.blt;exact Calls.Name_function_global I.ok.kind hg (Calls.loadGlobal_builtin (by rw[I.ok.glob];exact I.mod.glob.keeps I.bk) hm (by rw[I.ok.blt];exact h1.keeps I.bk) ((h2 x hn).trans hv) h) hd
theorem Jb{x:Str}{v:V}{u:Value}{pos:Pos}(hg:Gl X x)(hm:X.mg x=some u)(r:RelV v u)(hd:(x==("__debug__":Str))=false:=by decide):PE X (.Name x pos) (tC v):=
 λ _ _ _ H _ I h=>e_ I hg hm ⟨v,H,I,r,h⟩ hd
theorem Jd{x:Str}{v:V}{u:Value}{pos:Pos}(hg:Gl X x)(hm:X.mg x=none)(hv:bootBuiltins x=some u)(r:RelV v u)(hn:x≠"__name__":=by decide)(hd:(x==("__debug__":Str))=false:=by decide):PE X (.Name x pos) (tC v):=
 λ _ _ _ H _ I h=>fu I hg hm hv ⟨v,H,I,r,h⟩ hn hd
variable {a b:Expr}{ta tb:TE}{pos:Pos}
def tB(t:TE):TT:=λ σ H Q=>t σ H λ x H1=>∃c,x=.bl c/\Q c H1
theorem DB{e:Expr}{t:TE}(h:PE X e t)(he:∀whole,isTrue e X.env whole=(do let v <- whole;standAt e.pos;holding [v] (truthy v)):=by intro _;rfl):PT X e (tB t):=by intro pins s σ H Q I hw;refine isTrue_plain (cG (h pins s σ H _ I hw) λ v s1 ⟨x,H1,I1,r1,q1⟩=>?_) (he _);obtain⟨d,rfl,q⟩:=q1;cases r1;exact y7 ⟨H1,I1,q⟩
variable {tA UN:TT}{rest:List Expr}
def V0(t u:TT):TT:=λ σ H Q=>t σ H λ c H1=>if c=true then u σ H1 Q else Q false H1
def ZR(t u:TT):TT:=λ σ H Q=>t σ H λ c H1=>if c=true then Q true H1 else u σ H1 Q
def VY(t:TT):TT:=λ σ H Q=>t σ H λ c H1=>Q (!c) H1
theorem IP(ha:PT X a tA):PW X (.BoolOp .And [a] pos) tA:=by
 intro wh pins s σ H Q I h;refine isTrue_and (cG (ha pins s σ H Q I h) λ c s1 e=>?_);cases c with
 |true=>exact isTrue_and_nil e
 |false=>exact e
theorem Oj(ha:PT X a tA):PW X (.BoolOp .Or [a] pos) tA:=by
 intro wh pins s σ H Q I h;refine isTrue_or (cG (ha pins s σ H Q I h) λ c s1 e=>?_);cases c with
 |false=>exact isTrue_or_nil e
 |true=>exact e
theorem Ol(ha:PT X a tA)(hb:PW X (.BoolOp .And (b::rest) pos) UN):PW X (.BoolOp .And (a::b::rest) pos) (V0 tA UN):=by
 intro wh pins s σ H Q I h;refine isTrue_and (cG (ha pins s σ H _ I h) λ c s1 ⟨H1,I1,q1⟩=>?_);cases c with
 |true=>exact hb wh pins s1 σ H1 Q I1 q1
 |false=>exact⟨H1,I1,q1⟩
theorem Sb(ha:PT X a tA)(hb:PW X (.BoolOp .Or (b::rest) pos) UN):PW X (.BoolOp .Or (a::b::rest) pos) (ZR tA UN):=by
 intro wh pins s σ H Q I h;refine isTrue_or (cG (ha pins s σ H _ I h) λ c s1 ⟨H1,I1,q1⟩=>?_);cases c with
 |true=>exact⟨H1,I1,q1⟩
 |false=>exact hb wh pins s1 σ H1 Q I1 q1
theorem Om(ha:PT X a tA):PT X (.UnaryOp .Not a pos) (VY tA):=by intro pins s σ H Q I h;exact isTrue_not (ha pins s σ H (λ c H1=>Q (!c) H1) I h)
def Rx(ta tb:TE):TE:=λ σ H Q=>ta σ H λ x H1=>∃c,x=.bl c/\if c=true then tb σ H1 Q else Q (.bl false) H1
def VX(ta tb:TE):TE:=λ σ H Q=>ta σ H λ x H1=>∃c,x=.bl c/\if c=true then Q (.bl true) H1 else tb σ H1 Q
def Rt(ta:TE):TE:=λ σ H Q=>ta σ H λ x H1=>∃c,x=.bl c/\Q (.bl (!c)) H1
theorem Oy{op}{t:TE}(h:PE X a t):PE X (.BoolOp op [a] pos) t:=λ pins s σ H Q I hw=>BoolOp_one (h pins s σ H Q I hw)
theorem OC(ha:PE X a ta)(hb:PE X (.BoolOp .And (b::rest) pos) tb):PE X (.BoolOp .And (a::b::rest) pos) (Rx ta tb):=by
 intro pins s σ H Q I h;refine BoolOp_and (cG (ha pins s σ H _ I h) λ v s1 ⟨x,H1,I1,r1,q1⟩=>?_);obtain⟨c,rfl,q1⟩:=q1;cases r1;refine y7 ?_;cases c with
 |true=>exact hb pins s1 σ H1 Q I1 q1
 |false=>exact⟨.bl false,H1,I1,rfl,q1⟩
theorem Sf(ha:PE X a ta)(hb:PE X (.BoolOp .Or (b::rest) pos) tb):PE X (.BoolOp .Or (a::b::rest) pos) (VX ta tb):=by
 intro pins s σ H Q I h;refine BoolOp_or (cG (ha pins s σ H _ I h) λ v s1 ⟨x,H1,I1,r1,q1⟩=>?_);obtain⟨c,rfl,q1⟩:=q1;cases r1;refine y7 ?_;cases c with
 |false=>exact hb pins s1 σ H1 Q I1 q1
 |true=>exact⟨.bl true,H1,I1,rfl,q1⟩
theorem Oz(ha:PE X a ta):PE X (.UnaryOp .Not a pos) (Rt ta):=by intro pins s σ H Q I h;refine UnaryOp_ (cG (ha pins s σ H _ I h) λ v s1 ⟨x,H1,I1,r1,q1⟩=>?_);obtain⟨c,rfl,q1⟩:=q1;cases r1;exact not_of (y7 ⟨.bl (!c),H1,I1,rfl,q1⟩)
end
def dF(K:O8)(H:Hp)(a:Addr)(xs:List V):Prop:=
 Rd H a (.lst xs)\/
  ∃(o:Obj) (au:Array Value) (n:Nat),K.lookup a=some o/\o.cls=.type "list"/\o.dict=none/\o.data=.seq au n/\au.size<=sizeLine/\Vals xs au.toList
def fZ(K:O8)(H:Hp)(a:Addr)(xs:List V):Prop:=
 Rd H a (.tup xs)\/
  ∃(o:Obj) (au:Array Value) (n:Nat),K.lookup a=some o/\o.cls=.type "tuple"/\o.data=.seq au n/\au.size<=sizeLine/\Vals xs au.toList
def Ya:Value->Option V
 | .none=>some .bu
 | .bool b=>some (.bl b)
 | .int i _=>some (.int i)
 | .str x _=>some (.str x)
 | .bytes b _=>some (.BN b)
 | .float b _=>some (.Qb b)
 | .ref a=>some (.ref a)
 | .type n=>some (.ty n)
 |_=>none
theorem RelV.abs {x:V}{u:Value}(r:RelV x u):Ya u=some x:=by
 cases x with
 |bu=>cases r;rfl
 |bl _=>cases r;rfl
 |int _=>obtain⟨t,rfl⟩:=r;rfl
 |str _=>obtain⟨t,rfl⟩:=r;rfl
 |BN _=>obtain⟨t,rfl⟩:=r;rfl
 |Qb _=>obtain⟨t,rfl⟩:=r;rfl
 |ref _=>cases r;rfl
 |ty _=>cases r;rfl
theorem RelV.inj {x y:V}{u:Value}(r:RelV x u)(q:RelV y u):x=y:=C6 (r.abs.symm.trans q.abs)
theorem Vals.inj:∀{xs ys:List V} {us:List Value},Vals xs us->Vals ys us->xs=ys
 |_,_,_,.nil,.nil=>rfl
 |_,_,_,.cons r t,.cons r' t'=>by rw[r.inj r',Vals.inj t t']
section
variable {X:Cx}{pins:List (Addr×Obj)}{σ:St}{H:Hp}{s:Shared}{a:Addr}{xs ys:List V}
theorem dF.of {K:O8}(h:H a=some (.lst xs)):dF K H a xs:=.inl (.inl h)
theorem fZ.of {K:O8}(h:H a=some (.tup xs)):fZ K H a xs:=.inl (.inl h)
theorem Inv.list (I:Inv X pins σ H s)(h:dF X.K H a xs):∃au:List Value,Vals xs au/\PlainL s.heap a au.toArray/\xs.length<=sizeLine:=by
 rcases h with h|⟨o,au,n,hk,hc,hd,hs,hz,r⟩
 ·obtain⟨z,au,n,r,e⟩:=h.ok I.bq;exact⟨au,r,⟨_,n,e,rfl,rfl,rfl⟩,z⟩
 ·refine⟨au.toList,r,⟨o,n,I.gB a o hk,hc,hd,by simpa using hs⟩,?_⟩;have e:=r.length;simp only[p9]at e;omega
theorem Inv.tuple (I:Inv X pins σ H s)(h:fZ X.K H a xs):∃au:List Value,Vals xs au/\IsTup s.heap a au.toArray/\xs.length<=sizeLine:=by
 rcases h with h|⟨o,au,n,hk,hc,hs,hz,r⟩
 ·obtain⟨z,au,r,p⟩:=h.ok I.bq;exact⟨au,r,p,z⟩
 ·refine⟨au.toList,r,⟨o,I.gB a o hk,hc,n,by simpa using hs⟩,?_⟩;have e:=r.length;simp only[p9]at e;omega
theorem Inv.tY (I:Inv X pins σ H s)(h:dF X.K H a xs)(h':dF X.K H a ys):xs=ys:=by
 obtain⟨au,r,⟨o,n,e,_,_,d⟩,_⟩:=I.list h;obtain⟨its',r',⟨o',n',e',_,_,d'⟩,_⟩:=I.list h';rw[e]at e';cases e';rw[d]at d';injection d' with d1 _
 have:au=its':=by simpa using O3 Array.toList d1
 subst this;exact r.inj r'
theorem Inv.ph (I:Inv X pins σ H s)(h:fZ X.K H a xs)(h':fZ X.K H a ys):xs=ys:=by
 obtain⟨au,r,⟨o,e,_,n,d⟩,_⟩:=I.tuple h;obtain⟨its',r',⟨o',e',_,n',d'⟩,_⟩:=I.tuple h';rw[e]at e';cases e';rw[d]at d';injection d' with d1 _
 have:au=its':=by simpa using O3 Array.toList d1
 subst this;exact r.inj r'
end
abbrev Cx.gb (X:Cx)(E:Value->Shared->Prop):Cx:={X with xe:=E}
abbrev Cx.sx (X:Cx):Cx:=X.gb λ _ _=>False
theorem Cx.Ok.gb {X:Cx}(ok:X.Ok)(E:Value->Shared->Prop):(X.gb E).Ok:=
 ⟨ok.mod,ok.kind,ok.glob,ok.blt,ok.above,ok.inj,ok.has,ok.Rc,ok.hd,ok.frames,ok.RA,ok.XW,ok.bs,ok.BO,ok.wL,ok.Fy,ok.jG,ok.Kw⟩
theorem Cx.Ok.dJ {X:Cx}{E:Value->Shared->Prop}(ok:(X.gb E).Ok):X.Ok:=
 ⟨ok.mod,ok.kind,ok.glob,ok.blt,ok.above,ok.inj,ok.has,ok.Rc,ok.hd,ok.frames,ok.RA,ok.XW,ok.bs,ok.BO,ok.wL,ok.Fy,ok.jG,ok.Kw⟩
section
variable {X:Cx}{pins:List (Addr×Obj)}{σ:St}{H:Hp}{s:Shared}{E:Value->Shared->Prop}
theorem Inv.gb (I:Inv X pins σ H s)(E:Value->Shared->Prop):Inv (X.gb E) pins σ H s:=⟨I.ok.gb E,I.os,I.bare,I.base,I.loc,I.cell,I.free,I.eG,I.pin,I.bq,I.len⟩
theorem Inv.dJ (I:Inv (X.gb E) pins σ H s):Inv X pins σ H s:=⟨I.ok.dJ,I.os,I.bare,I.base,I.loc,I.cell,I.free,I.eG,I.pin,I.bq,I.len⟩
theorem SP.dJ {D:Ends}{f:Flow}{s':Shared}(h:SP (X.gb E) pins D f s'):SP X pins D f s':=by
 cases f with
 |next=>obtain⟨σ',H',I,q⟩:=h;exact⟨σ',H',I.dJ,q⟩
 |brk=>obtain⟨σ',H',I,q⟩:=h;exact⟨σ',H',I.dJ,q⟩
 |cont=>obtain⟨σ',H',I,q⟩:=h;exact⟨σ',H',I.dJ,q⟩
 |ret u=>obtain⟨v,σ',H',I,r,q⟩:=h;exact⟨v,σ',H',I.dJ,r,q⟩
theorem PE.sx {e:Expr}{t:TE}(h:PE X.sx e t):PE X e t:=λ pins s σ H Q I hw=>
 O0 (h pins s σ H Q (I.gb _) hw) (λ _ _ ⟨v,H',I',r,q⟩=>⟨v,H',I'.dJ,r,q⟩) λ _ _ z=>False.elim z
theorem PT.sx {e:Expr}{t:TT}(h:PT X.sx e t):PT X e t:=λ pins s σ H Q I hw=>
 O0 (h pins s σ H Q (I.gb _) hw) (λ _ _ ⟨H',I',q⟩=>⟨H',I'.dJ,q⟩) λ _ _ z=>False.elim z
theorem oV.sx {st:List Stmt}{t:TS}(h:oV X.sx st t):oV X st t:=λ pins s σ H D I hw=>
 O0 (h pins s σ H D (I.gb _) hw) (λ _ _ q=>q.dJ) λ _ _ z=>False.elim z
end
section
variable {X:Cx}{st:Stmt}{rest:List Stmt}{t u:TS}{e:Expr}{te:TE}{pos:Pos}
def Lp:TS:=λ D σ H=>D.nx σ H
def Rq(t u:TS):TS:=λ D σ H=>t {D with nx:=u D} σ H
theorem yp:oV X [] Lp:=λ _ _ σ H _ I h=>E6 ⟨σ,H,I,h⟩
theorem fL(h1:PS X st t)(h2:oV X rest u):oV X (st::rest) (Rq t u):=by
 intro pins s σ H D I h;refine wpAny_execs_cons (cG (h1 pins s σ H {D with nx:=u D} I h) λ f s1 q=>?_);cases f with
 |next=>obtain⟨σ',H',I',q⟩:=q;exact h2 pins s1 σ' H' D I' q
 |ret v=>exact q
 |brk=>exact q
 |cont=>exact q
theorem jr(h1:PS X st t):oV X [st] t:=by
 intro pins s σ H D I h;refine wpAny_execs_cons (cG (h1 pins s σ H D I h) λ f s1 q=>?_);cases f with
 |next=>exact E6 q
 |ret v=>exact q
 |brk=>exact q
 |cont=>exact q
theorem Inv.quiet {pins:List (Addr×Obj)}{σ:St}{H:Hp}{s:Shared}(I:Inv X pins σ H s):interactive X.env=false:=by simp[interactive,I.ok.kind]
def Rw(te:TE):TS:=λ D σ H=>te σ H λ _ H1=>D.nx σ H1
theorem lO(he:PE X e te)(hs:swapsWith e none pos.line X.env=pure false:=by rfl):PS X (.Expr e pos) (Rw te):=by intro pins s σ H D I h;exact wpAny_Expr_any (cG (he pins s σ H _ I h) λ v s1 ⟨x,H1,I1,r1,q1⟩=>⟨σ,H1,I1,q1⟩) I.quiet hs
def VW(te:TE):TS:=λ D σ H=>te σ H D.rt
theorem Oo(he:PE X e te):PS X (.Return (some e) pos) (VW te):=by intro pins s σ H D I h;exact wpAny_Return_some (cG (he pins s σ H _ I h) λ v s1 ⟨x,H1,I1,r1,q1⟩=>⟨x,σ,H1,I1,r1,q1⟩)
def Rv(c:TT)(t u:TS):TS:=λ D σ H=>c σ H λ b H1=>if b=true then t D σ H1 else u D σ H1
theorem LB{c:Expr}{a b:List Stmt}{tc:TT}(hc:PT X c tc)(ha:oV X a t)(hb:oV X b u):PS X (.If c a b pos) (Rv tc t u):=by
 intro pins s σ H D I h;refine wpAny_If (cG (hc pins s σ H _ I h) λ d s1 ⟨H1,I1,q1⟩=>?_);cases d with
 |true=>exact ha pins s1 σ H1 D I1 q1
 |false=>exact hb pins s1 σ H1 D I1 q1
def Cn:TS:=λ _ _ _=>False
theorem Ad{Lr:List Stmt}:oV X Lr Cn:=λ _ _ _ _ _ _ h=>h.elim
end
abbrev TG:=V->St->Hp->(St->Hp->Prop)->Prop
abbrev zr:=List V->St->Hp->(St->Hp->Prop)->Prop
def PG(X:Cx)(target:Expr)(t:TG):Prop:=
 ∀(pins:List (Addr×Obj)) (s:Shared) (σ:St) (H:Hp) (v:V) (u:Value) (Q:St->Hp->Prop),Inv X pins σ H s->RelV v u->t v σ H Q->
  wpAny (model X.prog X.w) X.A (assign target X.env u) (λ _ s'=>∃σ' H',Inv X pins σ' H' s'/\Q σ' H') X.xe s
def Qy(X:Cx)(ts:List Expr)(t:zr):Prop:=
 ∀(pins:List (Addr×Obj)) (s:Shared) (σ:St) (H:Hp) (vs:List V) (us:List Value) (Q:St->Hp->Prop),Inv X pins σ H s->Vals vs us->t vs σ H Q->
  wpAny (model X.prog X.w) X.A (assignInOrder ((assignEach ts X.env).map (·.2)) us) (λ _ s'=>∃σ' H',Inv X pins σ' H' s'/\Q σ' H') X.xe s
abbrev BD:=V->V->V->Hp->(Hp->Prop)->Prop
def sg(X:Cx)(t:BD):Prop:=
 ∀(pins:List (Addr×Obj)) (s:Shared) (σ:St) (H:Hp) (o i v:V) (ov iv u:Value) (Q:Hp->Prop),Inv X pins σ H s->RelV o ov->RelV i iv->RelV v u->t o i v H Q->
  wpAny (model X.prog X.w) X.A (setItem ov iv u) (λ _ s'=>∃H',Inv X pins σ H' s'/\Q H') X.xe s
section
variable {X:Cx}{pos:Pos}
def dO(i:Nat):TG:=λ v σ H Q=>Q (σ.set i (some v)) H
theorem aL{i:Nat}{x:Str}(hN:X.N.Nodup)(hi:X.N[i]?=some x)(hx:Loc X.env.scope x)(hf:X.fn x=true\/X.env.scope.names.lookup x=some .local:=by first|exact .inl rfl|exact .inr rfl|assumption):PG X (.Name x pos) (dO i):=by intro pins s σ H v u Q I r h;exact wpAny_assign_Name (jg I hN hi hx r (λ s' I'=>⟨_,H,I',h⟩) hf)
def Ba:zr:=λ vs σ H Q=>vs=[]/\Q σ H
def jF(t:TG)(u:zr):zr:=λ vs σ H Q=>∃v r,vs=v::r/\t v σ H λ σ' H'=>u r σ' H' Q
theorem lR:Qy X [] Ba:=by intro pins s σ H vs us Q I r h;obtain⟨e,h⟩:=h;subst e;cases r;exact assignInOrder_nil ⟨σ,H,I,h⟩
theorem eD{e:Expr}{es:List Expr}{t:TG}{u:zr}(h1:PG X e t)(h2:Qy X es u) (hs:(assignEach (e::es) X.env).map (·.2)=assign e X.env::(assignEach es X.env).map (·.2):=by rfl):Qy X (e::es) (jF t u):=by
 intro pins s σ H vs us Q I r h;obtain⟨v,vr,e1,h⟩:=h;subst e1;cases r with
 |cons r rr=>rw[hs];refine assignInOrder_cons (cG (h1 pins s σ H _ _ _ I r h) λ _ s1 ⟨σ1,H1,I1,q1⟩=>?_);exact h2 pins s1 σ1 H1 _ _ Q I1 rr q1
def Fu(K:O8)(n:Nat)(t:zr):TG:=λ v σ H Q=>∃a xs,v=.ref a/\fZ K H a xs/\xs.length=n/\t xs σ H Q
theorem qR{es:List Expr}{k:Nat}{t:zr}{n:Nat}(hc:X.calm=true)(h:Qy X es t) (hn:(assignEach es X.env).length=n:=by rfl) (hst:(assignEach es X.env).findIdx? (·.1)=none:=by rfl):PG X (.Tuple es k pos) (Fu X.K n t):=by intro pins s σ H v u Q I r hw;obtain⟨a,xs,e1,hq,hl,hw⟩:=hw;subst e1;cases r;obtain⟨au,rv,ht,hz⟩:=I.tuple hq;refine assign_Tuple_tuple (I.ok.hd hc) ht (by simp[hn,<- hl,rv.length]) hst λ h' hx=>?_;have I1:Inv X pins σ H {s with heap:=h'}:=I.kept (t':=s.toks) λ b o e=>hx b o (K1 (K2 e)) e;exact h pins _ σ H xs _ Q I1 (by simpa using rv) hw
def XQ(to ti:TE)(t:BD):TG:=λ v σ H Q=>to σ H λ o H1=>ti σ H1 λ i H2=>t o i v H2 λ H3=>Q σ H3
theorem Ox{o i:Expr}{to ti:TE}{t:BD}(ho:PE X o to)(hi:PE X i ti)(hs:sg X t) (ha:∀v,assign (.Subscript o i pos) X.env v=(do
   let ov <- holding [v] (eval o X.env)
   let iv <- holding [v,ov] (eval i X.env)
   standAt pos
   holding [v,ov,iv] (setItem ov iv v)
   release [v,ov,iv] []):=by intro _;rfl):PG X (.Subscript o i pos) (XQ to ti t):=by
 intro pins s σ H v u Q I r h;rw[ha];refine N6 (G7 (cG (ho pins s σ H _ I h) λ ov s1 ⟨x,H1,I1,r1,q1⟩=>?_));refine N6 (G7 (cG (hi pins s1 σ H1 _ I1 q1) λ iv s2 ⟨y,H2,I2,r2,q2⟩=>?_));refine N6 (J9 (N6 (G7 (cG (hs pins s2 σ H2 x y v ov iv u _ I2 r1 r2 r q2) λ _ s3 ⟨H3,I3,q3⟩=>?_))));exact wpAny_release ⟨σ,H3,I3,q3⟩
def Cp(te:TE)(g:TG):TS:=λ D σ H=>te σ H λ x H1=>g x σ H1 D.nx
theorem Ot{tg e:Expr}{te:TE}{g:TG}(he:PE X e te)(hg:PG X tg g)(hs:swapsWithSole [tg] e pos.line X.env=pure false:=by rfl)(hw:swappedStores [tg] e X.env=pure none:=by rfl) (h1:(assignEach [tg] X.env).map (·.2)=[assign tg X.env]:=by rfl):PS X (.Assign [tg] e pos) (Cp te g):=by intro pins s σ H D I h;refine wpAny_Assign_stores (cG (he pins s σ H _ I h) λ v s1 ⟨x,H1,I1,r1,q1⟩=>?_) hs hw;rw[h1];exact cG (hg pins s1 σ H1 x v _ I1 r1 q1) λ _ s2 q=>q
theorem DF{i:Nat}{x:Str}{e:Expr}{te:TE}{pos':Pos}(hN:X.N.Nodup)(hi:X.N[i]?=some x)(hx:Loc X.env.scope x)(he:PE X e te)(hs:swapsWith e (some (.Name x pos')) pos.line X.env=pure false:=by rfl)(hf:X.fn x=true\/X.env.scope.names.lookup x=some .local:=by first|exact .inl rfl|exact .inr rfl|assumption):PS X (.Assign [.Name x pos'] e pos) (Cp te (dO i)):=by intro pins s σ H D I h;refine wpAny_Assign_Name (cG (he pins s σ H _ I h) λ v s1 ⟨y,H1,I1,r1,q1⟩=>?_) hs;exact jg I1 hN hi hx r1 (λ s2 I2=>⟨_,H1,I2,q1⟩) hf
end
section
variable {X:Cx}{pos:Pos}
def MD(c:TT)(tb:TS):TS:=λ D σ H=>∃W:Nat->St->Hp->Prop,(∃m,W m σ H)/\∀m σ H,W m σ H->
 c σ H λ b H1=>if b=true then ∃N:St->Hp->Prop,(∀σ' H',N σ' H'->∃m',m' < m/\W m' σ' H')/\tb {D with nx:=N,ct:=N,bk:=D.nx} σ H1 else D.nx σ H1
theorem DE{c:Expr}{body:List Stmt}{tc:TT}{tb:TS}(hp:PassesOwn (model X.prog X.w) X.A X.env X.xe)(hc:PT X c tc)(hb:oV X body tb):PS X (.While c body [] pos) (MD tc tb):=by
 intro pins s σ H D I h;obtain⟨W,⟨m0,w0⟩,turn⟩:=h;refine wpAny_While (codeAny_whileLoop (λ n s'=>∃σ' H',Inv X pins σ' H' s'/\W n σ' H') ?_ m0 ⟨σ,H,I,w0⟩);rintro n s1 ⟨σ1,H1,I1,w1⟩;refine C8 hp (cG (hc pins s1 σ1 H1 _ I1 (turn n σ1 H1 w1)) λ b s2 ⟨H2,I2,q2⟩=>?_);cases b with
 |true=>
  obtain⟨N,hN,q2⟩:=q2;rw[O6 rfl];refine C8 hp (cG (hb pins s2 σ1 H2 _ I2 q2) λ f s3 q3=>?_);cases f with
  |next=>obtain⟨σ3,H3,I3,n3⟩:=q3;obtain⟨m',hm,w3⟩:=hN σ3 H3 n3;exact⟨m',hm,σ3,H3,I3,w3⟩
  |cont=>obtain⟨σ3,H3,I3,n3⟩:=q3;obtain⟨m',hm,w3⟩:=hN σ3 H3 n3;exact⟨m',hm,σ3,H3,I3,w3⟩
  |brk=>exact q3
  |ret v=>exact q3
 |false=>rw[O7 u3];exact E6 ⟨σ1,H2,I2,q2⟩
end
structure It where
 go:Nat->Hp->Prop
 GX:Nat->Hp->V->Hp->Prop
 stop:Nat->Hp->Prop
def iZ(X:Cx)(pins:List (Addr×Obj))(H:Hp)(b:Addr):Prop:=
 H b=none/\b≠X.env.locals/\b∉X.fs/\(b∈X.ex\/X.s₀.heap.objs.size<=b)/\(∀x c,X.env.cells.lookup x=some c->c≠b)/\∀p∈X.pn++pins,p.1≠b
theorem Inv.lC {X:Cx}{pins:List (Addr×Obj)}{σ:St}{H H':Hp}{s:Shared}{b:Addr}(I:Inv X pins σ H s)(hb:s.heap.objs.size<=b)(hn:H' b=none):iZ X pins H' b:=by
 refine⟨hn,L6 (v8 I.lt hb),I.Wt hb,.inr (K5 I.sz hb),λ x c e z=>?_,λ p hp z=>?_⟩
 ·obtain⟨v,q⟩:=I.cell x c e;exact absurd (v8 q.lt (by rw[z];exact hb)) (H0 _)
 ·exact absurd (v8 (K2 (I.pin p hp).1) (by rw[z];exact hb)) (H0 _)
structure Turn(P:Program)(w:World)(K:O8)(tg:Expr)(J:It)(fp:List Addr)(it:Addr)(tn:Nat->Heap->Prop):Prop where
 mem:it∈fp
 obj:∀i h,tn i h->∀b∈fp,∃o,h.get? b=some o/\∀v,o.data≠.cell v
 keep:∀i h h',tn i h->(∀b∈fp,∀o,h.get? b=some o->h'.get? b=some o)->tn i h'
 item:∀(X:Cx),X.prog=P->X.w=w->X.K=K->X.calm=true->∀(i:Nat) (pins:List (Addr×Obj)) (s:Shared) (σ:St) (H:Hp) (E:Value->Shared->Prop),Inv X pins σ H s->(∀b∈fp,iZ X pins H b)->tn i s.heap->J.go i H->
  wpAny (model P w) X.A (pyNext (.ref it)) (λ r s1=>∃u,r=some u/\
   wpAny (model P w) X.A (letOwnedTupleGo tg (.ref it) u) (λ _ s2=>∃x H',Inv X pins σ H' s2/\RelV x u/\J.GX i H x H'/\tn (i+1) s2.heap/\∀b∈fp,H' b=none) E s1) E s
 done:∀(X:Cx),X.prog=P->X.w=w->X.K=K->X.calm=true->∀(i:Nat) (pins:List (Addr×Obj)) (s:Shared) (σ:St) (H:Hp) (E:Value->Shared->Prop),Inv X pins σ H s->(∀b∈fp,iZ X pins H b)->tn i s.heap->J.stop i H->
  wpAny (model P w) X.A (pyNext (.ref it)) (λ r s1=>r=none/\Inv X pins σ H s1) E s
 self:∀(A:Around) (i:Nat) (s:Shared) (Q:Value->Shared->Prop) (E:Value->Shared->Prop),tn i s.heap->Q (.ref it) s->wpAny (model P w) A (pyIter (.ref it)) Q E s
abbrev TI:=St->Hp->(It->Hp->Prop)->Prop
def Zy(X:Cx)(pins:List (Addr×Obj))(σ:St)(tg:Expr)(R:It->Hp->Prop)(Vj:Value)(s2:Shared):Prop:=
 ∃(it:Addr) (fp:List Addr) (tn:Nat->Heap->Prop) (J:It) (H':Hp),Vj=.ref it/\Inv X pins σ H' s2/\Turn X.prog X.w X.K tg J fp it tn/\tn 0 s2.heap/\(∀b∈fp,iZ X pins H' b)/\R J H'
def PI(X:Cx)(tg iter:Expr)(wi:TI):Prop:=
 ∀(pins:List (Addr×Obj)) (s:Shared) (σ:St) (H:Hp) (R:It->Hp->Prop),Inv X pins σ H s->wi σ H R->
  wpAny (model X.prog X.w) X.A (eval iter X.env) (λ v s1=>wpAny (model X.prog X.w) X.A (pyIter v) (Zy X pins σ tg R) X.xe s1) X.xe s
theorem yO{M:Model}{A:Around}{E:Value->Shared->Prop}{s:Shared}{tg:Expr}{it:Addr}{u:Value}{o:Obj}{n:String}{vs:Array Value}{Q:Unit->Shared->Prop}(ho:s.heap.get? it=some o)(hc:o.cls=.type n)(hd:o.data=.fields vs) (hn:["enumerate","zip","dict_itemiterator","dict_reverseitemiterator","odict_iterator","itertools.zip_longest","itertools.pairwise"].contains n=false) (hQ:Q () s):wpAny M A (letOwnedTupleGo tg (.ref it) u) Q E s:=by
 unfold letOwnedTupleGo;cases tg <;> first
  |exact N7 hQ
  |(cases u <;> first
    |exact N7 hQ
    |(refine N6 (wpAny_load ho ?_)
      rw[hc,hd];show wpAny M A (if(["enumerate","zip","dict_itemiterator","dict_reverseitemiterator","odict_iterator","itertools.zip_longest","itertools.pairwise"].contains n&&vs[0]?==some (rawInt _))=true then _ else _) Q E s;rw[O7 (by intro h;rw[hn,Bool.false_and]at h;cases h)];exact N7 hQ))
def VJ(K:O8)(a:Addr):It:=
 ⟨λ i H=>∃xs x,dF K H a xs/\xs[i]?=some x,λ i H x H'=>H'=H/\∀xs,dF K H a xs->xs[i]?=some x,λ i H=>∃xs,dF K H a xs/\xs.length<=i⟩
def Yk(K:O8)(a:Addr):It:=
 ⟨λ i H=>∃xs x,fZ K H a xs/\xs[i]?=some x,λ i H x H'=>H'=H/\∀xs,fZ K H a xs->xs[i]?=some x,λ i H=>∃xs,fZ K H a xs/\xs.length<=i⟩
def VI(lo:Int)(n:Nat):It:=⟨λ i _=>i < n,λ i H x H'=>H'=H/\x=.int (lo+i),λ i _=>n<=i⟩
theorem zH{P:Program}{w:World}{K:O8}{tg:Expr}(a it:Addr):Turn P w K tg (VJ K a) [it] it (λ i h=>h.IsListIter it a i) where
 mem:=by simp
 obj:=λ i h st b hb=>by
  have e:b=it:=by simpa using hb
  subst e;obtain⟨o,e,c,d⟩:=st;exact⟨o,e,λ v z=>by rw[d]at z;cases z⟩
 keep:=λ i h h' st k=>st.at λ o e=>k it (by simp) o e
 item:=by intro X hP hw hK hc i pins s σ H E I hf st hg;subst hP hw hK;obtain⟨xs,x,hq,hx⟩:=hg;obtain⟨au,rv,p,hz⟩:=I.list hq;obtain⟨u,hu,ru⟩:=rv.get hx;obtain⟨f0,f1,f2,f3,f4,f5⟩:=hf it (by simp);refine wpAny_pyNext_list_item st p.isList (x:=u) (by simpa using hu) λ h' vA sb=>?_;have I1:Inv X pins σ H {s with heap:=h'}:=I.turned (t':=s.toks) (λ b o hb e=>(sb.2 b hb).trans e) f0 f1 f3 f4 f5;obtain⟨o,e,c,d⟩:=id vA;exact⟨u,rfl,yO (s:={s with heap:=h'}) e c d (by decide) ⟨x,H,I1,ru,⟨rfl,λ ys hy=>by rw[I.tY hy hq];exact hx⟩,vA,λ b hb=>(hf b hb).1⟩⟩
 done:=by intro X hP hw hK hc i pins s σ H E I hf st hg;subst hP hw hK;obtain⟨xs,hq,hx⟩:=hg;obtain⟨au,rv,p,hz⟩:=I.list hq;obtain⟨f0,f1,f2,f3,f4,f5⟩:=hf it (by simp);have hl:=rv.length;exact wpAny_pyNext_list_end (I.ok.hd hc) st p.isList (by simp;omega) λ h' eb=>⟨rfl,I.turned (t':=s.toks) (λ b o hb e=>eb b o hb e) f0 f1 f3 f4 f5⟩
 self:=λ _ _ _ _ _ st h=>wpAny_pyIter_listiter st h
theorem vU{P:Program}{w:World}{K:O8}{tg:Expr}(a it:Addr):Turn P w K tg (Yk K a) [it] it (λ i h=>h.IsTupleIter it a i) where
 mem:=by simp
 obj:=λ i h st b hb=>by
  have e:b=it:=by simpa using hb
  subst e;obtain⟨o,e,c,d⟩:=st;exact⟨o,e,λ v z=>by rw[d]at z;cases z⟩
 keep:=λ i h h' st k=>st.at λ o e=>k it (by simp) o e
 item:=by intro X hP hw hK hc i pins s σ H E I hf st hg;subst hP hw hK;obtain⟨xs,x,hq,hx⟩:=hg;obtain⟨au,rv,p,hz⟩:=I.tuple hq;obtain⟨u,hu,ru⟩:=rv.get hx;obtain⟨f0,f1,f2,f3,f4,f5⟩:=hf it (by simp);refine wpAny_pyNext_tuple_item st (show s.heap.IsTuple a au.toArray from p) (x:=u) (by simpa using hu) λ h' vA sb=>?_;have I1:Inv X pins σ H {s with heap:=h'}:=I.turned (t':=s.toks) (λ b o hb e=>(sb.2 b hb).trans e) f0 f1 f3 f4 f5;obtain⟨o,e,c,d⟩:=id vA;exact⟨u,rfl,yO (s:={s with heap:=h'}) e c d (by decide) ⟨x,H,I1,ru,⟨rfl,λ ys hy=>by rw[I.ph hy hq];exact hx⟩,vA,λ b hb=>(hf b hb).1⟩⟩
 done:=by intro X hP hw hK hc i pins s σ H E I hf st hg;subst hP hw hK;obtain⟨xs,hq,hx⟩:=hg;obtain⟨au,rv,p,hz⟩:=I.tuple hq;obtain⟨f0,f1,f2,f3,f4,f5⟩:=hf it (by simp);have hl:=rv.length;exact wpAny_pyNext_tuple_end (I.ok.hd hc) st (show s.heap.IsTuple a au.toArray from p) (by simp;omega) λ h' eb=>⟨rfl,I.turned (t':=s.toks) (λ b o hb e=>eb b o hb e) f0 f1 f3 f4 f5⟩
 self:=λ _ _ _ _ _ st h=>wpAny_pyIter_tupleiter st h
theorem vV{P:Program}{w:World}{K:O8}{tg:Expr}(it:Addr)(lo:Int)(n:Nat):Turn P w K tg (VI lo n) [it] it (λ i h=>IsRangeIter h it (lo+(i:Nat)*1) ((n:Int) - (i:Nat)) 1) where
 mem:=by simp
 obj:=λ i h st b hb=>by
  have e:b=it:=by simpa using hb
  subst e;exact⟨_,st,λ v z=>by
   have z':Data.fields _=Data.cell v:=z;cases z'⟩
 keep:=λ i h h' st k=>k it (by simp) _ st
 item:=by intro X hP hw hK hc i pins s σ H E I hf st hg;subst hP hw hK;obtain⟨f0,f1,f2,f3,f4,f5⟩:=hf it (by simp);have W:=Walks.range (prog:=X.prog) (w:=X.w) (I.ok.hd hc) it lo 1 n;refine W.item i s _ _ hg st λ v h' tk hv vA kk=>?_;obtain⟨t,rfl⟩:=hv;have I1:Inv X pins σ H {s with heap:=h',toks:=tk}:=I.turned (λ b o hb e=>kk b o (by simpa using hb) e) f0 f1 f3 f4 f5;refine⟨_,rfl,yO (s:={s with heap:=h',toks:=tk}) (n:="range_iterator") vA rfl rfl (by decide) ⟨.int (lo+i),H,I1,⟨t,?_⟩,⟨rfl,rfl⟩,vA,λ b hb=>(hf b hb).1⟩⟩;rw[Int.mul_one]
 done:=by intro X hP hw hK hc i pins s σ H E I hf st hg;subst hP hw hK;obtain⟨f0,f1,f2,f3,f4,f5⟩:=hf it (by simp);exact wpAny_pyNext_range_end (I.ok.hd hc) st (by have:n<=i:=hg;omega) λ h' eb=>⟨rfl,I.turned (t':=s.toks) (λ b o hb e=>eb b o hb e) f0 f1 f3 f4 f5⟩
 self:=λ _ _ _ _ _ st h=>wpAny_pyIter_rangeiter st h
section
variable {X:Cx}{tg:Expr}
theorem Dr{pins:List (Addr×Obj)}{σ:St}{H:Hp}{s:Shared}{R:It->Hp->Prop}{E:Value->Shared->Prop}{lo hi:Int}{t u v:Tok}{tk:Nat}(I:Inv X pins σ H s)(h1: -(2^62)<=lo)(h2:lo < 2^62)(h3: -(2^62)<=hi)(h4:hi < 2^62) (q:R (VI lo (hi - lo).toNat) H):wpAny (model X.prog X.w) X.A (pyIter (.ref s.heap.objs.size)) (Zy X pins σ tg R) E {s with heap:=s.heap.push {cls:=.type "range",data:=.fields #[.int lo t,.int hi u,.int 1 v]},toks:=tk}:=by
 refine wpAny_pyIter_range (IsRange.new ..) (small_one h1 h2 h3 h4) ?_;have I1:Inv X pins σ H {s with heap:=s.heap.push {cls:=.type "range",data:=.fields #[.int lo t,.int hi u,.int 1 v]},toks:=tk}:=I.kept λ b o e=>j7 _ e;refine⟨(s.heap.push {cls:=.type "range",data:=.fields #[.int lo t,.int hi u,.int 1 v]}).objs.size,[(s.heap.push {cls:=.type "range",data:=.fields #[.int lo t,.int hi u,.int 1 v]}).objs.size],_,_,H,rfl,
  I1.kept (t':=tk) λ b o e=>j7 _ e,vV _ lo (hi - lo).toNat,?_,λ b hb=>?_,q⟩
 ·have e1:lo+((0:Nat):Int)*1=lo:=by simp
  have e2:(((hi - lo).toNat:Nat):Int) - ((0:Nat):Int)=Builtin.Range.rangeSize lo hi 1:=by rw[rangeSize_one];split <;> omega
  show IsRangeIter _ _ (lo+((0:Nat):Int)*1) ((((hi - lo).toNat:Nat):Int) - ((0:Nat):Int)) 1;rw[e1,e2];exact q8 _ rfl
 ·have e:b=(s.heap.push {cls:=.type "range",data:=.fields #[.int lo t,.int hi u,.int 1 v]}).objs.size:=by simpa using hb
  subst e;exact I1.lC (L8 _) (I1.bq.fresh (L8 _))
def SX(ta:TA):TI:=λ σ H R=>ta σ H λ vs H1=>∃j:Int,vs=[.int j]/\-(2^62)<=j/\j < 2^62/\R (VI 0 j.toNat) H1
theorem Ah{a:Expr}{ta:TA}{p pos:Pos}(hg:Gl X "range")(hm:X.mg "range"=none)(ha:PA X [a] ta)(hs:starEach [a] X.env=[(false,eval a X.env)]:=by rfl):PI X tg (.Call (.Name "range" p) [a] [] pos) (SX ta):=by
 intro pins s σ H R I h;refine Call_ (fu I hg hm boot_range (c4 (cG (ha pos pins s σ H _ I h) λ us s1 ⟨vs,H1,I1,r1,q1⟩=>?_) hs rfl));obtain⟨j,e,q1,q2,q⟩:=q1;subst e;cases r1 with
 |cons r rr=>cases rr;obtain⟨t,rfl⟩:=r;exact call_range_1 (Dr I1 (by omega) (by omega) q1 q2 (by simpa using q))
def VZ(wi:TI)(g:TG)(tb:TS):TS:=λ D σ H=>wi σ H λ J H1=>∃W:Nat->Nat->St->Hp->Prop,(∃m,W 0 m σ H1)/\∀i m σ H,W i m σ H->
 (J.stop i H/\D.nx σ H)\/(J.go i H/\∃N:St->Hp->Prop,(∀σ' H',N σ' H'->∃m',m' < m/\W (i+1) m' σ' H')/\∀x H',J.GX i H x H'->g x σ H' λ σ2 H2=>tb {D with nx:=N,ct:=N,bk:=D.nx} σ2 H2)
def qQ(fp:List Addr)(h:Heap):List (Addr×Obj):=fp.filterMap λ b=>(h.get? b).map λ o=>(b,o)
theorem dw{fp:List Addr}{h:Heap}{b:Addr}{o:Obj}(hb:b∈fp)(e:h.get? b=some o):(b,o)∈qQ fp h:=mem_filterMap.mpr ⟨b,hb,by rw[e];rfl⟩
theorem Av{fp:List Addr}{h:Heap}{p:Addr×Obj}(hp:p∈qQ fp h):p.1∈fp/\h.get? p.1=some p.2:=by
 obtain⟨b,hb,e⟩:=mem_filterMap.mp hp;cases q:h.get? b with
 |none=>rw[q]at e;cases e
 |some o=>rw[q]at e;have e':(b,o)=p:=C6 e;subst e';exact⟨hb,q⟩
theorem Inv.pinned {pins:List (Addr×Obj)}{σ:St}{H:Hp}{s:Shared}{fp:List Addr}(I:Inv X pins σ H s)(hf:∀b∈fp,iZ X pins H b)(ho:∀b∈fp,∃o,s.heap.get? b=some o/\∀v,o.data≠.cell v):Inv X (pins++qQ fp s.heap) σ H s:=
 I.dR λ p hp=>(D4.mp hp).elim (λ z=>I.pin p (k8 _ z)) λ z=>by obtain⟨hb,e⟩:=Av z;obtain⟨f0,f1,f2,_⟩:=hf p.1 hb;obtain⟨o,e',d⟩:=ho p.1 hb;rw[e]at e';cases e';exact⟨e,f0,f1,f2,d⟩
theorem Inv.mw {pins pl:List (Addr×Obj)}{σ:St}{H:Hp}{s:Shared}(I:Inv X (pins++pl) σ H s):Inv X pins σ H s:=I.dR λ p hp=>I.pin p (k8 _ (mem_append_left _ hp))
theorem Oq{iter:Expr}{body:List Stmt}{wi:TI}{g:TG}{tb:TS}{pos:Pos}(hp:PassesOwn (model X.prog X.w) X.A X.env X.xe)(hc:X.calm=true)(hi:PI X tg iter wi)(hg:PG X tg g)(hb:oV X body tb) (hs:∀x,foldedSetIterable iter X.env x=pure x:=by intro _;rfl):PS X (.For tg iter body [] pos) (VZ wi g tb):=by
 intro pins s σ H D I h;refine wpAny_For (cG (hi pins s σ H _ I h) λ v s1 h1=>cG h1 λ Vj s2 h2=>?_) hs;obtain⟨it,fp,tn,J,H2,e,I2,T,RC,f2,W,⟨m0,w0⟩,turn⟩:=h2;subst e;have MI:∀{H':Hp},(∀b∈fp,H' b=none)->∀b∈fp,iZ X pins H' b:=λ hn b hb=>⟨hn b hb,(f2 b hb).2⟩;refine codeAny_forLoop_any (λ n s'=>∃i σ' H',Inv X pins σ' H' s'/\tn i s'.heap/\(∀b∈fp,H' b=none)/\W i n σ' H') ?_ m0 ⟨0,σ,H2,I2,RC,λ b hb=>(f2 b hb).1,w0⟩;rintro n s3 ⟨i,σ3,H3,I3,RB,TU,w3⟩;rcases turn i n σ3 H3 w3 with⟨stop,qn⟩|⟨go,N,hN,step⟩
 ·refine C8 hp (cG (T.done X rfl rfl rfl hc i pins s3 σ3 H3 X.xe I3 (MI TU) RB stop) λ r s4 ⟨hr,I4⟩=>?_);subst hr;exact E6 ⟨σ3,H3,I4,qn⟩
 ·refine C8 hp (cG (T.item X rfl rfl rfl hc i pins s3 σ3 H3 X.xe I3 (MI TU) RB go) λ r s4 ⟨u,hr,h4⟩=>?_);subst hr;refine C8 hp (cG h4 λ _ s5 ⟨x,H5,I5,r5,y5,Hk,XU⟩=>?_);have Yn:=I5.pinned (MI XU) (T.obj _ _ Hk);refine C8 hp (cG (hg _ s5 σ3 H5 x u _ Yn r5 (step x H5 y5)) λ _ s6 ⟨σ6,H6,I6,q6⟩=>?_);refine C8 hp (cG (hb _ s6 σ6 H6 _ I6 q6) λ f s7 q7=>?_);have again:∀{σ7:St} {H7:Hp},Inv X (pins++qQ fp s5.heap) σ7 H7 s7->N σ7 H7->∃m,m < n/\∃i σ' H',Inv X pins σ' H' s7/\tn i s7.heap/\(∀b∈fp,H' b=none)/\W i m σ' H':=λ{σ7 H7} I7 n7=>by obtain⟨m',hm,w7⟩:=hN σ7 H7 n7;refine⟨m',hm,i+1,σ7,H7,I7.mw,T.keep _ _ _ Hk λ b hb o e=>(I7.pin (b,o) (k8 _ (k8 _ (dw hb e)))).1,λ b hb=>?_,w7⟩;obtain⟨o,e,d⟩:=T.obj _ _ Hk b hb;exact(I7.pin (b,o) (k8 _ (k8 _ (dw hb e)))).2.1
  cases f with
  |next=>obtain⟨σ7,H7,I7,n7⟩:=q7;exact again I7 n7
  |cont=>obtain⟨σ7,H7,I7,n7⟩:=q7;exact again I7 n7
  |brk=>obtain⟨σ7,H7,I7,q7⟩:=q7;exact⟨σ7,H7,I7.mw,q7⟩
  |ret v=>obtain⟨x7,σ7,H7,I7,r7,q7⟩:=q7;exact⟨x7,σ7,H7,I7.mw,r7,q7⟩
end
abbrev R2:=V->V->Hp->VK->Prop
def eQ(X:Cx)(f:Value->Value->Sem Value)(r:R2):Prop:=
 ∀(pins:List (Addr×Obj)) (s:Shared) (σ:St) (H:Hp) (x y:V) (v u:Value) (Q:VK),Inv X pins σ H s->RelV x v->RelV y u->r x y H Q->
  wpAny (model X.prog X.w) X.A (f v u) (EP X pins σ Q) X.xe s
def VF(X:Cx)(f:Value->Sem Value)(r:V->Hp->VK->Prop):Prop:=
 ∀(pins:List (Addr×Obj)) (s:Shared) (σ:St) (H:Hp) (x:V) (v:Value) (Q:VK),Inv X pins σ H s->RelV x v->r x H Q->
  wpAny (model X.prog X.w) X.A (f v) (EP X pins σ Q) X.xe s
def cK(X:Cx)(f:Value)(r:List V->Hp->VK->Prop):Prop:=
 ∀(pins:List (Addr×Obj)) (s:Shared) (σ:St) (H:Hp) (xs:List V) (us:List Value) (Q:VK),Inv X pins σ H s->Vals xs us->r xs H Q->
  wpAny (model X.prog X.w) X.A (call f us) (EP X pins σ Q) X.xe s
def QK(r:R2)(ta tb:TE):TE:=λ σ H Q=>ta σ H λ x H1=>tb σ H1 λ y H2=>r x y H2 Q
def ZO(r:V->Hp->VK->Prop)(ta:TE):TE:=λ σ H Q=>ta σ H λ x H1=>r x H1 Q
def rI(C:Int->Int->Prop)(g:Int->Int->V):R2:=λ x y H Q=>∃i j,x=.int i/\y=.int j/\C i j/\Q (g i j) H
def Gy(g:Int->Int->V):R2:=λ x y H Q=>∃i j,x=.int i/\y=.int j/\Q (g i j) H
def rU(g:Int->V):V->Hp->VK->Prop:=λ x H Q=>∃i,x=.int i/\Q (g i) H
section
variable {X:Cx}{a b c:Expr}{ta tb tc:TE}{pos:Pos}
theorem Qs(ha:PE X a ta)(hb:PE X b tb){pins:List (Addr×Obj)}{s:Shared}{σ:St}{H:Hp}{R:V->V->Hp->Prop}(I:Inv X pins σ H s) (h:ta σ H λ x H1=>tb σ H1 λ y H2=>R x y H2) {Q:Value->Shared->Prop} {f:Value->Value->Sem Value} (hf:∀v u s2 x y H2,Inv X pins σ H2 s2->RelV x v->RelV y u->R x y H2->wpAny (model X.prog X.w) X.A (f v u) Q X.xe s2):wpAny (model X.prog X.w) X.A (eval a X.env) (λ v s₁=>wpAny (model X.prog X.w) X.A (eval b X.env) (λ u s₂=>wpAny (model X.prog X.w) X.A (f v u) Q X.xe s₂) X.xe s₁) X.xe s:=by refine cG (ha pins s σ H _ I h) λ v s1 ⟨x,H1,I1,r1,q1⟩=>?_;refine cG (hb pins s1 σ H1 _ I1 q1) λ u s2 ⟨y,H2,I2,r2,q2⟩=>?_;exact hf v u s2 x y H2 I2 r1 r2 q2
theorem Sg{op:Operator}{r:R2}(ho:eQ X (binaryOp op) r)(ha:PE X a ta)(hb:PE X b tb):PE X (.BinOp a op b pos) (QK r ta tb):=by intro pins s σ H Q I h;exact wpAny_BinOp (Qs ha hb I h λ v u s2 x y H2 I2 rx ry q=>ho pins s2 σ H2 x y v u Q I2 rx ry q)
theorem Se{op:UnaryOp}{r:V->Hp->VK->Prop}(ho:VF X (unaryOp op) r)(ha:PE X a ta):PE X (.UnaryOp op a pos) (ZO r ta):=by intro pins s σ H Q I h;exact UnaryOp_ (cG (ha pins s σ H _ I h) λ v s1 ⟨x,H1,I1,r1,q1⟩=>ho pins s1 σ H1 x v Q I1 r1 q1)
theorem Vd{f:Value->Value->Sem Value}{C:Int->Int->Prop}{g:Int->Int->Int} (rule:∀(i j:Int) (t u:Tok) (s:Shared) (Q:Value->Shared->Prop) (E:Value->Shared->Prop),C i j->Q (.int (g i j) s.toks) {s with toks:=s.toks+1}->wpAny (model X.prog X.w) X.A (f (.int i t) (.int j u)) Q E s):eQ X f (rI C λ i j=>.int (g i j)):=by intro pins s σ H x y v u Q I rx ry h;obtain⟨i,j,rfl,rfl,hc,q⟩:=h;obtain⟨t,rfl⟩:=rx;obtain⟨t',rfl⟩:=ry;exact rule i j t t' s _ _ hc ⟨.int (g i j),H,I.tok _,⟨_,rfl⟩,q⟩
theorem Sr{f:Value->Value->Sem Value}{g:Int->Int->Int} (rule:∀(i j:Int) (t u:Tok) (s:Shared) (Q:Value->Shared->Prop) (E:Value->Shared->Prop),Q (.int (g i j) s.toks) {s with toks:=s.toks+1}->wpAny (model X.prog X.w) X.A (f (.int i t) (.int j u)) Q E s):eQ X f (Gy λ i j=>.int (g i j)):=by intro pins s σ H x y v u Q I rx ry h;obtain⟨i,j,rfl,rfl,q⟩:=h;obtain⟨t,rfl⟩:=rx;obtain⟨t',rfl⟩:=ry;exact rule i j t t' s _ _ ⟨.int (g i j),H,I.tok _,⟨_,rfl⟩,q⟩
theorem Jp{f:Value->Value->Sem Value}{g:Int->Int->Bool} (rule:∀(i j:Int) (t u:Tok) (s:Shared) (Q:Value->Shared->Prop) (E:Value->Shared->Prop),Q (.bool (g i j)) s->wpAny (model X.prog X.w) X.A (f (.int i t) (.int j u)) Q E s):eQ X f (Gy λ i j=>.bl (g i j)):=by intro pins s σ H x y v u Q I rx ry h;obtain⟨i,j,rfl,rfl,q⟩:=h;obtain⟨t,rfl⟩:=rx;obtain⟨t',rfl⟩:=ry;exact rule i j t t' s _ _ ⟨.bl (g i j),H,I,rfl,q⟩
def QF(i j:Int):Prop:=0 < j/\j < 1073741824
def UK(i j:Int):Prop:=0<=j/\j<=1000000/\i.natAbs < 2^64
def sk(i j:Int):Prop:=(-(2^64) < i/\i < 2^64)\/(-(2^64) < j/\j < 2^64)
theorem sk.ok {i j:Int}(h:sk i j):IntMulOk i j:=by
 rcases h with⟨h1,h2⟩|⟨h1,h2⟩
 ·exact .of_left (intBits_le_64 h1 h2)
 ·exact .of_right (intBits_le_64 h1 h2)
theorem OO:eQ X (binaryOp .Add) (Gy λ i j=>.int (i+j)):=Sr λ _ _ _ _ _ _ _ q=>add_int q
theorem OD:eQ X (binaryOp .Sub) (Gy λ i j=>.int (i - j)):=Sr λ _ _ _ _ _ _ _ q=>sub_int q
theorem OH:eQ X (binaryOp .Mult) (rI sk λ i j=>.int (i*j)):=Vd λ _ _ _ _ _ _ _ hc q=>mul_int q hc.ok
theorem Jm:eQ X (binaryOp .FloorDiv) (rI QF λ i j=>.int (i / j)):=Vd λ i j _ _ _ _ _ hc q=>by have h1:(0:Int) < j:=hc.1;have h2:j < 1073741824:=hc.2;exact floordiv_int (by omega) (by rw[Int.fdiv_eq_ediv_of_nonneg i (by omega)];exact q) (.inl (PyProof.noPylong_small (by omega)))
theorem OI:eQ X (binaryOp .Mod) (rI (λ _ j=>0 < j) λ i j=>.int (i % j)):=Vd λ i j _ _ _ _ _ hc q=>by have h1:(0:Int) < j:=hc;exact mod_int' (by omega) (by rw[Int.fmod_eq_emod_of_nonneg i (by omega)];exact q)
theorem OF:eQ X (binaryOp .Pow) (rI UK λ i j=>.int (i^j.toNat)):=Vd λ _ _ _ _ _ _ _ hc q=>pow_int_small hc.1 hc.2.1 hc.2.2 q
theorem ZI{f:Value->Sem Value}{g:Int->Int} (rule:∀(i:Int) (t:Tok) (s:Shared) (Q:Value->Shared->Prop) (E:Value->Shared->Prop),Q (.int (g i) s.toks) {s with toks:=s.toks+1}->wpAny (model X.prog X.w) X.A (f (.int i t)) Q E s):VF X f (rU λ i=>.int (g i)):=by intro pins s σ H x v Q I rx h;obtain⟨i,rfl,q⟩:=h;obtain⟨t,rfl⟩:=rx;exact rule i t s _ _ ⟨.int (g i),H,I.tok _,⟨_,rfl⟩,q⟩
theorem Mu:VF X (unaryOp .USub) (rU λ i=>.int (-i)):=ZI λ _ _ _ _ _ q=>neg_int q
end
def RG:V->V->Bool
 | .bu,.bu=>true| .bu,.int _=>true| .int _,.bu=>true| .bu,.bl _=>true| .bl _,.bu=>true| .bu,.str _=>true| .str _,.bu=>true
 | .int _,.int _=>true| .bl _,.bl _=>true| .str _,.str _=>true| .BN _,.BN _=>true
 | .int _,.str _=>true| .str _,.int _=>true| .bl _,.str _=>true| .str _,.bl _=>true
 |_,_=>false
def Z2:R2:=λ x y H Q=>RG x y=true/\Q (.bl (decide (x=y))) H
def ZZ:R2:=λ x y H Q=>RG x y=true/\Q (.bl (!decide (x=y))) H
theorem yX{i j:Int}:decide (V.int i=V.int j)=(i==j):=by rw[C0];simp
theorem FP{i j:Bool}:decide (V.bl i=V.bl j)=(i==j):=by rw[C0];simp
theorem yW{i j:Str}:decide (V.str i=V.str j)=(i==j):=by rw[C0];simp
theorem yY{i j:Array UInt8}:decide (V.BN i=V.BN j)=(i.toList==j.toList):=by rw[C0];cases i;cases j;simp
section
variable {X:Cx}{a b c:Expr}{ta tb tc:TE}{pos:Pos}
theorem bb{pins:List (Addr×Obj)}{σ:St}{H:Hp}{s:Shared}{Q:VK}{k k':Bool}(I:Inv X pins σ H s)(q:Q (.bl k) H)(e:k=k'):EP X pins σ Q (.bool k') s:=by subst e;exact⟨.bl k,H,I,rfl,q⟩
theorem So:eQ X (compareOp .Eq) Z2:=by
 intro pins s σ H x y v u Q I rx ry h;obtain⟨hs,q⟩:=h;cases x with
 |bu=>
  cases rx;cases y with
  |bu=>cases ry;exact PySem.EqNone.eq_none_none (bb I q (by simp))
  |bl j=>cases ry;exact PySem.EqNone.eq_none_bool (bb I q (by simp))
  |int j=>obtain⟨t',rfl⟩:=ry;exact PySem.EqNone.eq_none_int (bb I q (by simp))
  |str j=>obtain⟨t',rfl⟩:=ry;exact PySem.EqNone.eq_none_str (bb I q (by simp))
  |_=>exact absurd (show false=true from hs) u3
 |bl i=>
  cases rx;cases y with
  |bu=>cases ry;exact PySem.EqNone.eq_bool_none (bb I q (by simp))
  |bl j=>cases ry;exact eq_bool (bb I q FP)
  |str j=>obtain⟨t',rfl⟩:=ry;exact PySem.EqMixed.eq_bool_str (bb I q (by simp))
  |_=>exact absurd (show false=true from hs) u3
 |int i=>
  obtain⟨t,rfl⟩:=rx;cases y with
  |bu=>cases ry;exact PySem.EqNone.eq_int_none (bb I q (by simp))
  |int j=>obtain⟨t',rfl⟩:=ry;exact eq_int (bb I q yX)
  |str j=>obtain⟨t',rfl⟩:=ry;exact PySem.EqMixed.eq_int_str (bb I q (by simp))
  |_=>exact absurd (show false=true from hs) u3
 |str i=>
  obtain⟨t,rfl⟩:=rx;cases y with
  |bu=>cases ry;exact PySem.EqNone.eq_str_none (bb I q (by simp))
  |bl j=>cases ry;exact PySem.EqMixed.eq_str_bool (bb I q (by simp))
  |int j=>obtain⟨t',rfl⟩:=ry;exact PySem.EqMixed.eq_str_int (bb I q (by simp))
  |str j=>obtain⟨t',rfl⟩:=ry;exact eq_str (bb I q yW)
  |_=>exact absurd (show false=true from hs) u3
 |BN i=>
  obtain⟨t,rfl⟩:=rx;cases y with
  |BN j=>obtain⟨t',rfl⟩:=ry;exact PySem.W.eq_bytes (bb I q yY)
  |_=>exact absurd (show false=true from hs) u3
 |_=>cases y <;> exact absurd (show false=true from hs) u3
theorem Sj:eQ X (compareOp .NotEq) ZZ:=by
 intro pins s σ H x y v u Q I rx ry h;obtain⟨hs,q⟩:=h;cases x with
 |bu=>
  cases rx;cases y with
  |bu=>cases ry;exact PySem.EqNone.ne_none_none (bb I q (by simp))
  |bl j=>cases ry;exact PySem.EqNone.ne_none_bool (bb I q (by simp))
  |int j=>obtain⟨t',rfl⟩:=ry;exact PySem.EqNone.ne_none_int (bb I q (by simp))
  |str j=>obtain⟨t',rfl⟩:=ry;exact PySem.EqNone.ne_none_str (bb I q (by simp))
  |_=>exact absurd (show false=true from hs) u3
 |bl i=>
  cases rx;cases y with
  |bu=>cases ry;exact PySem.EqNone.ne_bool_none (bb I q (by simp))
  |bl j=>cases ry;exact ne_bool (bb I q (O3 not FP))
  |str j=>obtain⟨t',rfl⟩:=ry;exact PySem.EqMixed.ne_bool_str (bb I q (by simp))
  |_=>exact absurd (show false=true from hs) u3
 |int i=>
  obtain⟨t,rfl⟩:=rx;cases y with
  |bu=>cases ry;exact PySem.EqNone.ne_int_none (bb I q (by simp))
  |int j=>obtain⟨t',rfl⟩:=ry;exact ne_int (bb I q (O3 not yX))
  |str j=>obtain⟨t',rfl⟩:=ry;exact PySem.EqMixed.ne_int_str (bb I q (by simp))
  |_=>exact absurd (show false=true from hs) u3
 |str i=>
  obtain⟨t,rfl⟩:=rx;cases y with
  |bu=>cases ry;exact PySem.EqNone.ne_str_none (bb I q (by simp))
  |bl j=>cases ry;exact PySem.EqMixed.ne_str_bool (bb I q (by simp))
  |int j=>obtain⟨t',rfl⟩:=ry;exact PySem.EqMixed.ne_str_int (bb I q (by simp))
  |str j=>obtain⟨t',rfl⟩:=ry;exact ne_str (bb I q (O3 not yW))
  |_=>exact absurd (show false=true from hs) u3
 |BN i=>
  obtain⟨t,rfl⟩:=rx;cases y with
  |BN j=>obtain⟨t',rfl⟩:=ry;exact PySem.W.ne_bytes (bb I q (O3 not yY))
  |_=>exact absurd (show false=true from hs) u3
 |_=>cases y <;> exact absurd (show false=true from hs) u3
theorem Sk:eQ X (compareOp .Lt) (Gy λ i j=>.bl (decide (i < j))):=Jp λ _ _ _ _ _ _ _ q=>lt_int q
theorem Sl:eQ X (compareOp .LtE) (Gy λ i j=>.bl (decide (i<=j))):=Jp λ _ _ _ _ _ _ _ q=>le_int q
theorem Sm:eQ X (compareOp .Gt) (Gy λ i j=>.bl (decide (j < i))):=Jp λ _ _ _ _ _ _ _ q=>gt_int q
theorem Sn:eQ X (compareOp .GtE) (Gy λ i j=>.bl (decide (j<=i))):=Jp λ _ _ _ _ _ _ _ q=>ge_int q
theorem Al:eQ X (compareOp .In) (λ x y H Q=>∃i j,x=.str i/\y=.str j/\Q (.bl (!(Builtin.Str.occurrences j i 0 j.length 1).isEmpty)) H):=by intro pins s σ H x y v u Q I rx ry h;obtain⟨i,j,rfl,rfl,q⟩:=h;obtain⟨t,rfl⟩:=rx;obtain⟨t',rfl⟩:=ry;exact in_str (bb I q rfl)
theorem OK:eQ X (compareOp .Is) (λ x y H Q=>y=.bu/\Q (.bl (decide (x=.bu))) H):=by
 intro pins s σ H x y v u Q I rx ry h;obtain⟨rfl,q⟩:=h;cases ry;refine is_none_gen (bb I q ?_);cases x <;> first
  |(cases rx;rfl)
  |(obtain⟨t,rfl⟩:=rx;rfl)
theorem Jj:eQ X (compareOp .IsNot) (λ x y H Q=>y=.bu/\Q (.bl (!decide (x=.bu))) H):=by
 intro pins s σ H x y v u Q I rx ry h;obtain⟨rfl,q⟩:=h;cases ry;refine isnot_none_gen (bb I q ?_);cases x <;> first
  |(cases rx;rfl)
  |(obtain⟨t,rfl⟩:=rx;rfl)
theorem eQ.or {f:Value->Value->Sem Value}{r r':R2}(h:eQ X f r)(h':eQ X f r'):eQ X f (λ x y H Q=>r x y H Q\/r' x y H Q):=by
 intro pins s σ H x y v u Q I rx ry q;rcases q with q|q
 ·exact h pins s σ H x y v u Q I rx ry q
 ·exact h' pins s σ H x y v u Q I rx ry q
theorem bj(b:Expr){op:CmpOp}(h:op≠.In:=by decide)(h2:op≠.NotIn:=by decide):behindInMarks op b=false:=by
 have e1:(op==CmpOp.In)=false:=by cases op <;> first|rfl|exact absurd rfl h
 have e2:(op==CmpOp.NotIn)=false:=by cases op <;> first|rfl|exact absurd rfl h2
 cases b <;> simp[behindInMarks,e1,e2]
theorem Jc{op:CmpOp}{r:R2}(ho:eQ X (compareOp op) r)(ha:PE X a ta)(hb:PE X b tb)(hm:behindInMarks op b=false):PE X (.Compare a [op] [b] pos) (QK r ta tb):=by intro pins s σ H Q I h;exact wpAny_Compare1 (Qs ha hb I h λ v u s2 x y H2 I2 rx ry q=>ho pins s2 σ H2 x y v u Q I2 rx ry q) hm
def Lo(t:TE):TT:=λ σ H Q=>t σ H λ x H'=>∃k,x=.bl k/\Q k H'
theorem IQ{op:CmpOp}{r:R2}(ho:eQ X (compareOp op) r)(ha:PE X a ta)(hb:PE X b tb)(hm:behindInMarks op b=false):PT X (.Compare a [op] [b] pos) (Lo (QK r ta tb)):=by
 intro pins s σ H Q I h;refine wpAny_isTrue_Compare1 (cG (ha pins s σ H _ I h) λ v s1 ⟨x,H1,I1,r1,q1⟩=>cG (hb pins s1 σ H1 _ I1 q1) λ u s2 ⟨y,H2,I2,r2,q2⟩=>
  cG (ho pins s2 σ H2 x y v u _ I2 r1 r2 q2) λ c s3 ⟨z,H3,I3,r3,k,e,q3⟩=>?_) hm
 subst e;cases r3;exact y7 ⟨H3,I3,q3⟩
def Co(r r':R2)(ta tb tc:TE):TE:=λ σ H Q=>ta σ H λ x H1=>tb σ H1 λ y H2=>r x y H2 λ z H3=>∃k,z=.bl k/\
 (if k=true then tc σ H3 λ w' H4=>r' y w' H4 Q else Q (.bl false) H3)
theorem DC{op DY:CmpOp}{r r':R2}(ho:eQ X (compareOp op) r)(kQ:eQ X (compareOp DY) r')(ha:PE X a ta)(hb:PE X b tb)(hc:PE X c tc) (hm:lastMarks [op,DY] [b,c]=false:=by with_unfolding_all rfl):PT X (.Compare a [op,DY] [b,c] pos) (Lo (Co r r' ta tb tc)):=by
 intro pins s σ H Q I h;refine isTrue_chain (cG (ha pins s σ H _ I h) λ v s1 ⟨x,H1,I1,r1,q1⟩=>test_link (cG (hb pins s1 σ H1 _ I1 q1) λ u s2 ⟨y,H2,I2,r2,q2⟩=>
  cG (ho pins s2 σ H2 x y v u _ I2 r1 r2 q2) λ d s3 ⟨z,H3,I3,r3,k,e,q3⟩=>?_)) hm
 subst e;cases r3;refine y7 ?_;cases k with
 |false=>obtain⟨k',e',q'⟩:=q3;cases e';exact ite_ff ⟨H3,I3,q'⟩
 |true=>refine ite_tt (test_last (cG (hc pins s3 σ H3 _ I3 q3) λ w' s4 ⟨z',H4,I4,r4,q4⟩=>cG (kQ pins s4 σ H4 y z' u w' _ I4 r2 r4 q4) λ d' s5 ⟨z2,H5,I5,r5,k2,e2,q5⟩=>?_));subst e2;cases r5;exact y7 ⟨H5,I5,q5⟩
theorem j_:(sizeLine:Nat) < 2^63:=by rw[L9];decide
theorem wH:eQ X (binaryOp .Add) (λ x y H Q=>∃i j,x=.str i/\y=.str j/\i.length+j.length<=sizeLine/\Q (.str (i++j)) H):=by intro pins s σ H x y v u Q I rx ry h;obtain⟨i,j,rfl,rfl,hz,q⟩:=h;obtain⟨t,rfl⟩:=rx;obtain⟨t',rfl⟩:=ry;exact add_str (λ t' tk=>⟨.str (i++j),H,I.tok _,⟨_,rfl⟩,q⟩) hz
theorem vals1{x:V}{us:List Value}(r:Vals [x] us):∃u,us=[u]/\RelV x u:=by
 cases r with
 |cons r1 r2=>cases r2;exact⟨_,rfl,r1⟩
theorem vals2{x y:V}{us:List Value}(r:Vals [x,y] us):∃u w',us=[u,w']/\RelV x u/\RelV y w':=by
 cases r with
 |cons r1 r2=>
  cases r2 with
  |cons r3 r4=>cases r4;exact⟨_,_,rfl,r1,r3⟩
theorem Br(hc:X.calm=true):cK X (.builtin "min") (λ xs H Q=>∃i j,xs=[.int i,.int j]/\Q (.int (if j < i then j else i)) H):=by
 intro pins s σ H xs us Q I r h;obtain⟨i,j,rfl,q⟩:=h;obtain⟨u,w',rfl,⟨t,rfl⟩,⟨t',rfl⟩⟩:=vals2 r;refine min_two_ints (I.ok.hd hc) λ h' tk k=>⟨_,H,I.kept k,?_,q⟩;by_cases hj:j < i
 ·rw[O6 hj,O6 hj];exact⟨_,rfl⟩
 ·rw[O7 hj,O7 hj];exact⟨_,rfl⟩
theorem Bu:cK X (.type "int") (λ xs H Q=>(∃i,xs=[.int i]/\Q (.int i) H)\/∃k,xs=[.bl k]/\Q (.int (if k then 1 else 0)) H):=by
 intro pins s σ H xs us Q I r h;rcases h with⟨i,rfl,q⟩|⟨k,rfl,q⟩
 ·obtain⟨u,rfl,t,rfl⟩:=vals1 r;exact call_int_int ⟨.int i,H,I,⟨_,rfl⟩,q⟩
 ·obtain⟨u,rfl,r1⟩:=vals1 r;cases r1;exact call_int_bool ⟨.int (if k then 1 else 0),H,I.tok _,⟨_,rfl⟩,q⟩
end
structure Qz(h:Heap)(x dx C:Addr)(mA:Str->Option Value):Prop where
 obj:h.get? x=some (PySem.W.instObj C dx)
 ns:h.Ns1 dx mA
 ne:dx≠x
set_option tactic.hygienic true in
theorem jZ{h:Heap}{dx:Addr}{mA:Str->Option Value}(n:h.Ns1 dx mA):∃od,h.get? dx=some od/\∀name,PySem.W.lookIn name od=some (mA name):=by
 obtain⟨o,es,ep,ho,hd,hk,_,hm⟩:=n;refine⟨o,ho,λ name=>?_⟩;have e:=hm name;unfold nsFind findBy at e;rw[<- Array.find?_toList]at e;unfold PySem.W.lookIn;rw[hd];dsimp only;split
 ·rename_i y q;rw[q]at e;exact O3 some e
 ·rename_i q;rw[q]at e;have a:es.toList.any (·.refKey)=false:=by rw[List.any_eq_false];intro y hy;obtain⟨z,t,Fh⟩:=hk y (Array.mem_toList_iff.mp hy);simp[DictEntry.refKey,Fh]
  have a':¬es.toList.any (·.refKey)=true:=by rw[a];exact u3
  rw[O7 a'];exact O3 some e
theorem Qz.look {h:Heap}{x dx C:Addr}{mA:Str->Option Value}(I:Qz h x dx C mA):∃od,PySem.W.InstAt h x (PySem.W.instObj C dx) C (some od)/\∀name,PySem.W.lookIn name od=some (mA name):=
 let⟨od,ho,hl⟩:=jZ I.ns
 ⟨od,⟨I.obj,rfl,rfl,ho⟩,hl⟩
theorem gM.some_of {v:V}{o:Option Value}(r:gM (some v) o):∃u,o=some u/\RelV v u:=by
 cases o with
 |none=>exact(show False from r).elim
 |some u=>exact⟨u,rfl,r⟩
theorem AU{v:V}{u:Value}(r:RelV v u):PySem.W.handedIn u=true:=by
 cases v with
 |bu=>cases(show u=Value.none from r);rfl
 |bl b=>cases(show u=Value.bool b from r);rfl
 |int i=>obtain⟨t,e⟩:=(show ∃t,u=Value.int i t from r);cases e;rfl
 |str x=>obtain⟨t,e⟩:=(show ∃t,u=Value.str x t from r);cases e;rfl
 |BN b=>obtain⟨t,e⟩:=(show ∃t,u=Value.bytes b t from r);cases e;rfl
 |Qb b=>obtain⟨t,e⟩:=(show ∃t,u=Value.float b t from r);cases e;rfl
 |ref a=>cases(show u=Value.ref a from r);rfl
 |ty n=>cases(show u=Value.type n from r);rfl
section
variable {P:Program}{w:World}{H H':Hp}{h h':Heap}{a C dx:Addr}{fs fs':List (Str×V)}
theorem Ke(bq:f_ P w H h)(e:H a=some (.ins C dx fs)):∃mA,Qz h a dx C mA/\(∀f,gM (fs.lookup f) (mA f))/\PySem.Within mA (fs.map (·.1))/\fs.length<=1000/\H dx=some (.own a):=by obtain⟨d,z,ne,ob,mA,n,r,q⟩:=(show bD P w H h a (.ins C dx fs)from bq a _ e);exact⟨mA,⟨ob,n,ne⟩,r,q,z,d⟩
end
structure Yo(K:O8)(C:Addr):Prop where
 pg:PySem.W.plainGet K C Str.empty=true
 hd:PySem.W.hasDictIn K C=true
 po:PySem.W.plainOver K C=true
 sa:PySem.W.findIn K (.ref C) "__setattr__"=some (some (.builtin "object.__setattr__"))
theorem Yo.get {K:O8}{C:Addr}(c:Yo K C)(f:Str):PySem.W.plainGet K C f=true:=c.pg
section
variable {X:Cx}{pins:List (Addr×Obj)}{σ:St}{H:Hp}{s:Shared}{a C dx:Addr}{fs:List (Str×V)}{f:Str}{v:V}{A:Around}{E:Value->Shared->Prop}
theorem Ld{prog:Program}{w:World}{env:Env}{e:Expr}{f:Str}{pos:Pos}{s:Shared}{Q:Value->Shared->Prop}(hb:attributeBase e f env (eval e env)=eval e env) (h:wpAny (model prog w) A (eval e env) (λ o s₁=>wpAny (model prog w) A (getAttr o f true) Q E s₁) E s):wpAny (model prog w) A (eval (.Attribute e f pos) env) Q E s:=
 Attribute_any_ h (by rw[arm_eval_Attribute,hb])
end
section
variable {X:Cx}{pins:List (Addr×Obj)}{σ:St}{H:Hp}{s:Shared}{A:Around}{E:Value->Shared->Prop}{Q:Value->Shared->Prop}{c:Value}{b:Bool}
inductive lG(K:O8)(H:Hp):V->Value->Prop where
 |bu:lG K H .bu (.type "NoneType")
 |bl (x:Bool):lG K H (.bl x) (.type "bool")
 |int (i:Int):lG K H (.int i) (.type "int")
 |str (x:Str):lG K H (.str x) (.type "str")
 |Qb (x:UInt64):lG K H (.Qb x) (.type "float")
 |lst {a:Addr} {xs:List V} (e:H a=some (.lst xs)):lG K H (.ref a) (.type "list")
 |lW {a:Addr} {o:Obj} {xs:List V} (e:H a=some (.lW o (.lst xs))):lG K H (.ref a) (.type "list")
 |tup {a:Addr} {xs:List V} (e:H a=some (.tup xs)):lG K H (.ref a) (.type "tuple")
 |dK {a:Addr} {aw:List (Key×V)} (e:H a=some (.dK aw)):lG K H (.ref a) (.type "dict")
 |dT {a:Addr} {aw:List (List Key×V)} (e:H a=some (.dT aw)):lG K H (.ref a) (.type "dict")
 |ins {a C dx:Addr} {fs:List (Str×V)} (e:H a=some (.ins C dx fs)) (cl:Yo K C) (ha:PySem.W.findIn K (.ref C) "__class__"=some (some (.builtin "object.__class__")))
   (hn:PySem.W.specialIn K (.builtin "object.__class__") "__get__"=some (some (.builtin "getset_descriptor.__get__"))) (YO:PySem.W.takesIn K (.builtin "object.__class__")=some true)
   (hm:PySem.W.mroIn K C (.type "object")=some true):lG K H (.ref a) (.ref C)
theorem iu{x:V}{u t:Value}(I:Inv X pins σ H s)(rx:RelV x u)(ty:lG X.K H x t)(e:PySem.W.kitOne X.K t c=some b)(h:∀tk,Q (.bool b) {s with toks:=tk}):wpAny (model X.prog X.w) A (call (.builtin "isinstance") [u,c]) Q E s:=by
 cases ty with
 |bu=>cases(show u=Value.none from rx);exact D1 PySem.W.kitx_none I.gB True.intro e (λ z=>nomatch z) h
 |bl y=>cases(show u=Value.bool y from rx);exact D1 PySem.W.kitx_bool I.gB True.intro e (λ z=>nomatch z) h
 |int i=>obtain⟨t,q⟩:=(show ∃t,u=Value.int i t from rx);cases q;exact D1 PySem.W.kitx_int I.gB True.intro e (λ z=>nomatch z) h
 |str y=>obtain⟨t,q⟩:=(show ∃t,u=Value.str y t from rx);cases q;exact D1 PySem.W.kitx_str I.gB True.intro e (λ z=>nomatch z) h
 |Qb y=>obtain⟨t,q⟩:=(show ∃t,u=Value.float y t from rx);cases q;exact D1 PySem.W.kitx_float I.gB True.intro e (λ z=>nomatch z) h
 |@lst a xs ea=>cases(show u=Value.ref a from rx);obtain⟨_,_,n,_,h1⟩:=(show bD X.prog X.w H s.heap a (.lst xs)from I.bq a _ ea);exact D1 PySem.W.kitx_list I.gB ⟨_,h1,rfl⟩ e (λ z=>nomatch z) h
 |@lW a ob xs ea=>cases(show u=Value.ref a from rx);obtain⟨_,_,_,n,_,h1⟩:=(show bD X.prog X.w H s.heap a (.lW ob (.lst xs))from I.bq a _ ea);exact D1 PySem.W.kitx_list I.gB ⟨_,h1,rfl⟩ e (λ z=>nomatch z) h
 |@tup a xs ea=>cases(show u=Value.ref a from rx);obtain⟨_,_,_,p⟩:=(show bD X.prog X.w H s.heap a (.tup xs)from I.bq a _ ea);obtain⟨o,h1,h2,_⟩:=p;exact D1 PySem.W.kitx_tuple I.gB ⟨o,h1,h2⟩ e (λ z=>nomatch z) h
 |@dK a aw ea=>cases(show u=Value.ref a from rx);obtain⟨_,_,vs,_,p⟩:=(show bD X.prog X.w H s.heap a (.dK aw)from I.bq a _ ea);obtain⟨o,es,ep,h1,h2,_⟩:=p;exact D1 PySem.W.kitx_dict I.gB ⟨o,h1,h2.1⟩ e (λ z=>nomatch z) h
 |@dT a aw ea=>cases(show u=Value.ref a from rx);obtain⟨_,_,xs,_,o,es,ep,h1,h2,_⟩:=(show bD X.prog X.w H s.heap a (.dT aw)from I.bq a _ ea);exact D1 PySem.W.kitx_dict I.gB ⟨o,h1,h2.1⟩ e (λ z=>nomatch z) h
 |@ins a C dx fs ea cl ha hn YO hm=>cases(show u=Value.ref a from rx);obtain⟨mA,O,_⟩:=Ke I.bq ea;obtain⟨od,J,_⟩:=O.look;exact D1 (PySem.W.kitx_own (cl.get _) cl.hd ha hn YO hm) I.gB J e (λ z=>nomatch z) h
end
structure bK(k:Nat)(A:Around):Prop where
 hd:A.handled=none
 dp:A.depth+2*k+5 < recursionLimit
 un:A.units+16*k+200 < cLine
theorem bK.mono {j k:Nat}{A:Around}(r:bK k A)(h:j<=k):bK j A:=⟨r.hd,by have:=r.dp;omega,by have:=r.un;omega⟩
theorem bK.deeper {k:Nat}{A:Around}(r:bK (k+1) A)(env:Env):bK k (A.deeper env):=
 ⟨r.hd,by have:=r.dp;show A.depth+1+2*k+5 < _;omega,by have:=r.un;show A.units+3+16*k+200 < _;omega⟩
theorem bK.in1 {k:Nat}{A:Around}(r:bK (k+1) A):bK k A.in1:=
 ⟨r.hd,by have:=r.dp;show A.depth+2*k+5 < _;omega,by have:=r.un;show A.units+1+16*k+200 < _;omega⟩
theorem wV{A:Around}{C:Addr}{us:List Value}{kw:List (Str×Value)}:(A.under (.builtin "type.__call__" ⟨.ref C::us,kw⟩)).depth=A.depth+1:=by
 first|rfl|simp[Around.under,Code.weight,Code.isCreation,Code.isGuard,Code.isCaller,Code.frames,Code.isFrame,guardIds]
theorem wU{A:Around}{C:Addr}{us:List Value}{kw:List (Str×Value)}:(A.under (.builtin "type.__call__" ⟨.ref C::us,kw⟩)).units=A.units+1:=by
 first|rfl|simp[Around.under,Code.cUnits,Code.frames,Code.isFrame]
theorem bK.make {k:Nat}{A:Around}(r:bK (k+1) A)(C:Addr)(us:List Value)(kw:List (Str×Value)):bK k (A.under (.builtin "type.__call__" ⟨.ref C::us,kw⟩)):=
 ⟨r.hd,by have:=r.dp;rw[wV];omega,by have:=r.un;rw[wU];omega⟩
theorem bK.depth {k:Nat}{A:Around}(r:bK k A):A.depth < recursionLimit:=by have:=r.dp;omega
theorem bK.units {k:Nat}{A:Around}(r:bK k A):A.units+64 < cLine:=by have:=r.un;omega
def ow:TA:=λ _ H Q=>Q [] H
def d_(ta:TE)(tr:TA):TA:=λ σ H Q=>ta σ H λ x H1=>tr σ H1 λ xs H2=>Q (x::xs) H2
section
variable {X:Cx}{e:Expr}{es:List Expr}{te:TE}{t:TA}{pos:Pos}
theorem cE:PA X [] ow:=λ _ _ _ _ H Q I h=>Calls.spliced_nil ⟨[],H,I,.nil,h⟩
theorem aW(ha:PE X e te)(hr:PA X es t)(hs:starEach (e::es) X.env=(false,eval e X.env)::starEach es X.env:=by rfl):PA X (e::es) (d_ te t):=by intro pos pins s σ H Q I h;rw[hs];show wpAny _ _ (spliced ((false,eval e X.env)::backTo pos (starEach es X.env))) _ _ s;refine Calls.spliced_cons (cG (ha pins s σ H _ I h) λ u s1 ⟨x,H1,I1,r1,q1⟩=>?_);exact cG (hr pos pins s1 σ H1 _ I1 q1) λ us s2 ⟨xs,H2,I2,r2,q2⟩=>⟨x::xs,H2,I2,.cons r1 r2,q2⟩
def Hh(t:TA):TE:=λ σ H Q=>t σ H λ xs H1=>xs.length<=sizeLine/\∀p,H1 p=none->Q (.ref p) (upd H1 p (.tup xs))
def Ru(t:TA):TE:=λ σ H Q=>t σ H λ xs H1=>xs.length<=sizeLine/\∀p,H1 p=none->Q (.ref p) (upd H1 p (.lst xs))
theorem qS{x1}(h:PA X es t):PE X (.Tuple es x1 pos) (Hh t):=by intro pins s σ H Q I hq;refine wpAny_Tuple_spliced (cG (h pos pins s σ H _ I hq) λ us s1 ⟨xs,H1,I1,r,z,q⟩=>⟨by rw[<- r.length];exact z,?_⟩);have hf:H1 s1.heap.objs.size=none:=I1.bq.fresh (L8 _);refine⟨.ref s1.heap.objs.size,upd H1 s1.heap.objs.size (.tup xs),I1.laid (t':=s1.toks) (λ b u e=>j7 _ e) (L8 _) ?_,rfl,q _ hf⟩;exact⟨z,us,r,⟨_,q8 _ rfl,rfl,_,rfl⟩⟩
theorem DQ(h:PA X es t):PE X (.List es pos) (Ru t):=by intro pins s σ H Q I hq;refine wpAny_List_spliced (cG (h pos pins s σ H _ I hq) λ us s1 ⟨xs,H1,I1,r,z,q⟩=>⟨by rw[<- r.length];exact z,?_⟩);have hf:H1 s1.heap.objs.size=none:=I1.bq.fresh (L8 _);refine⟨.ref s1.heap.objs.size,upd H1 s1.heap.objs.size (.lst xs),I1.laid (t':=s1.toks) (λ b u e=>j7 _ e) (L8 _) ?_,rfl,q _ hf⟩;exact⟨z,us,0,r,q8 _ rfl⟩
end
abbrev Sp:=List V->Hp->VK->XK->Prop
abbrev BR:=List Env->Hp->Shared->XK->Value->Shared->Prop
structure oh(P:Program)(w:World)(K:O8)(mg:Str->Option Value)(base:Heap)(A:Around)(outer:List Env)(s:Shared)(H:Hp):Prop where
 frames:A.frames=some outer
 mod:Mod K mg base
 bs:∀b o,base.get? b=some o->s.heap.get? b=some o/\H b=none
 BO:base.objs.size<=s.heap.objs.size
 jG:s.heap.FunFrames base outer
 Kw:∀b∈iI outer,H b=none
 bq:f_ P w H s.heap
 bare:AllBare s.gens
def CE(outer:List Env)(P:Program)(w:World)(H:Hp)(s:Shared)(Q:VK)(u:Value)(s':Shared):Prop:=
 ∃v H',s'.os=s.os/\AllBare s'.gens/\Un (iI outer) [] H H' s.heap s'.heap/\f_ P w H' s'.heap/\RelV v u/\Q v H'
def CR(CX:BR)(outer:List Env)(P:Program)(w:World)(H:Hp)(s:Shared)(Q:VK)(E:XK)(r:Result)(s':Shared):Prop:=
 match r with
 | .ok (.ret u)=>CE outer P w H s Q u s'
 | .ok _=>False
 | .error e=>CX outer H s E e s'
structure bx(P:Program)(w:World)(K:O8)(mg:Str->Option Value)(base:Heap)(CX:BR)(k:Nat)(f:Addr)(fd:FuncData)(ps:List Str)(sp:Sp):Prop where
 len:∀vs H Q E,sp vs H Q E->vs.length=ps.length
 run:∀(A:Around) (outer:List Env) (s:Shared) (H:Hp) (args:Args) (us:List Value) (vs:List V) (Q:VK) (E:XK),bK k A->oh P w K mg base A outer s H->BindsTo s fd args (ps.zip us)->Vals vs us->sp vs H Q E->
  codeAny (model P w) A (.call (.ref f) args) (CR CX outer P w H s Q E) s
theorem oh.make {P:Program}{w:World}{K:O8}{mg:Str->Option Value}{base:Heap}{A:Around}{outer:List Env}{s:Shared}{H:Hp}(e:oh P w K mg base A outer s H)(C:Addr)(us:List Value)(kw:List (Str×Value)):oh P w K mg base (A.under (.builtin "type.__call__" ⟨.ref C::us,kw⟩)) outer s H:=⟨by first|exact e.frames|(simpa[Around.under,Code.envs,Code.isFrame,pushEnvs]using e.frames),e.mod,e.bs,e.BO,e.jG,e.Kw,e.bq,e.bare⟩
theorem oh.in1 {P:Program}{w:World}{K:O8}{mg:Str->Option Value}{base:Heap}{A:Around}{outer:List Env}{s:Shared}{H:Hp}(e:oh P w K mg base A outer s H):oh P w K mg base A.in1 outer s H:=⟨e.frames,e.mod,e.bs,e.BO,e.jG,e.Kw,e.bq,e.bare⟩
section
variable {X:Cx}{pins:List (Addr×Obj)}{σ:St}{H:Hp}{s s':Shared}
theorem Inv.KD (I:Inv X pins σ H s):oh X.prog X.w X.K X.mg X.base X.A X.stack s H:=
 ⟨I.ok.frames,I.ok.mod,I.bs,K5 I.ok.BO I.sz,I.stack,I.jh,I.bq,I.bare⟩
theorem Inv.after {Q:VK}{u:Value}(I:Inv X pins σ H s)(h:CE X.stack X.prog X.w H s Q u s'):EP X pins σ Q u s':=by obtain⟨v,H',os,bare,un,bq,r,q⟩:=h;obtain⟨hh,g,d,t,GA⟩:=s';obtain rfl:GA=s.os:=os;exact⟨v,H',I.call (h':=hh) (g':=g) (d':=d) (t':=t) (ch:=[]) un bq bare (λ b z=>absurd z (by simp)),r,q⟩
end
def Lq(sp:Sp)(dvs:List V)(E:XK)(t:TA):TE:=λ σ H Q=>t σ H λ vs H1=>sp (vs++dvs) H1 Q E
def Binds(K:O8)(fd:FuncData)(ps:List Str)(ds:List Value):Prop:=
 ∀(s:Shared) (us:List Value),K.In s.heap->(us++ds).length=ps.length->BindsTo s fd ⟨us,[]⟩ (ps.zip (us++ds))
theorem Binds.all {K:O8}{fd:FuncData}{ps:List Str}(h:∀us:List Value,us.length=ps.length->bindArgs fd ⟨us,[]⟩=pure (ps.zip us)):Binds K fd ps []:=λ s us _ hl=>by rw[C1]at hl ⊢;exact .of_eq (h us hl)
def Passes(CX:BR)(X:Cx)(E:XK):Prop:=∀(pins:List (Addr×Obj)) (σ:St) (H:Hp) (s:Shared) (e:Value) (s':Shared),Inv X pins σ H s->CX X.stack H s E e s'->X.xe e s'
section
variable {X:Cx}{CX:BR}{k:Nat}{f C:Addr}{fd:FuncData}{ps:List Str}{sp:Sp}{dvs:List V}{ds:List Value}{E:XK}{x m:Str}{p pos apos:Pos}{e o:Expr}{es:List Expr}{ta:TE}{t:TA}
theorem MY{pins:List (Addr×Obj)}{σ:St}{H:Hp}{s:Shared}{Q:VK}{us:List Value}{vs:List V}(F:bx X.prog X.w X.K X.mg X.base CX k f fd ps sp)(hr:bK k X.A)(hb:Binds X.K fd ps ds)(hd:Vals dvs ds)(hx:Passes CX X E) (I:Inv X pins σ H s) (r:Vals vs us) (h:sp (vs++dvs) H Q E):wpAny (model X.prog X.w) X.A (call (.ref f) us) (EP X pins σ Q) X.xe s:=by
 have r2:Vals (vs++dvs) (us++ds):=r.append hd;have hl:(us++ds).length=ps.length:=by rw[<- r2.length];exact F.len _ _ _ _ h
 refine O1 (K9 (F.run X.A X.stack s H ⟨us,[]⟩ (us++ds) (vs++dvs) Q E hr I.KD (hb s us I.gB hl) r2 h) λ r s' hq=>?_);cases r with
 |error e=>exact hx pins σ H s e s' I hq
 |ok fl=>
  cases fl with
  |ret u=>exact I.after hq
  |next=>exact False.elim hq
  |brk=>exact False.elim hq
  |cont=>exact False.elim hq
theorem yw(F:bx X.prog X.w X.K X.mg X.base CX k f fd ps sp)(hr:bK k X.A)(hg:Gl X x)(hm:X.mg x=some (.ref f))(hk:PySem.W.keepIn X.K (.ref f)=true)(hb:Binds X.K fd ps ds)(hd:Vals dvs ds)(hx:Passes CX X E) (ha:PA X (e::es) t) (hdb:(x==("__debug__":Str))=false:=by decide) (he:starEach (e::es) X.env=(false,eval e X.env)::starEach es X.env:=by rfl) (hpl:(backTo pos (starEach es X.env)).any (·.1)=false:=by rfl):PE X (.Call (.Name x p) (e::es) [] pos) (Lq sp dvs E t):=by intro pins s σ H Q I h;refine w6 (e_ I hg hm ?_ hdb);refine PySem.W.callWith_K (h₀:=X.base) I.ok.mod.QX hk (cG (ha pos pins s σ H _ I h) λ us s1 ⟨vs,H1,I1,r,q⟩=>⟨I1.gB,?_⟩) he hpl;exact MY F hr hb hd hx I1 r q
end
def PK(X:Cx)(SR:List Keyword)(t:TA):Prop:=
 ∀(pos:Pos) (pins:List (Addr×Obj)) (s:Shared) (σ:St) (H:Hp) (Q:List V->Hp->Prop),Inv X pins σ H s->t σ H Q->wpAny (model X.prog X.w) X.A (evalAll ((backToKw pos (keywordEach SR X.env)).map (·.2))) (AP X pins σ Q) X.xe s
section
variable {X:Cx}{CX:BR}{k:Nat}{f C:Addr}{fd:FuncData}{ps ks:List Str}{sp:Sp}{E:XK}{x m:Str}{p pos apos WN:Pos}{e o:Expr}{es:List Expr}{SR:List Keyword}{te ta:TE}{t tk:TA}{nm:Option Str}
theorem Ov:PK X [] ow:=λ _ _ _ _ H Q I h=>wpAny_evalAll_nil ⟨[],H,I,.nil,h⟩
theorem IV(ha:PE X e te)(hr:PK X SR t):PK X (⟨nm,e,WN⟩::SR) (d_ te t):=by intro pos pins s σ H Q I h;show wpAny _ _ (evalAll ((do let v <- eval e X.env;standAt pos;pure v)::(backToKw pos (keywordEach SR X.env)).map (·.2))) _ _ s;refine wpAny_evalAll_cons (N6 (cG (ha pins s σ H _ I h) λ u s1 ⟨x,H1,I1,r1,q1⟩=>N6 (J9 (N7 ?_))));exact cG (hr pos pins s1 σ H1 _ I1 q1) λ us s2 ⟨xs,H2,I2,r2,q2⟩=>⟨x::xs,H2,I2,.cons r1 r2,q2⟩
variable {g:List Value->List Value->List Value}{gV:List V->List V->List V}
end
structure aH(N P:List Str)(sc:Scope):Prop where
 kind:sc.kind=.function
 co:sc.isCoroutine=false
 gen:sc.isGenerator=false
 nd:N.Nodup
 pre:N.take P.length=P
 par:∀x∈P,sc.names.lookup x=some .local\/sc.names.lookup x=some .cell
 O':∀y∈sc.names,y.2≠.free
theorem qd{kindOf:Str->Option NameKind}{x:Str}:∀{binds:List (Str×Value)} {m:Str->Option Value},(∀v,(x,v)∉binds)->bindL kindOf binds m x=m x
 |[],_,_=>rfl
 |(n,v)::r,m,h=>by
  unfold bindL;rw[qd λ w hw=>h w (l7 _ hw)];split
  ·have:x≠n:=by rintro rfl;exact h v s9
   simp[this]
  ·rfl
theorem qg{kindOf:Str->Option NameKind}{x:Str}:∀{binds:List (Str×Value)} {m:Str->Option Value},(∀v,(x,v)∉binds)->bindC kindOf binds m x=m x
 |[],_,_=>rfl
 |(n,v)::r,m,h=>by
  unfold bindC;rw[qg λ w hw=>h w (l7 _ hw)];split
  ·rfl
  ·have:x≠n:=by rintro rfl;exact h v s9
   simp[this]
theorem qf{kindOf:Str->Option NameKind}{x:Str}{v:Value}:∀{P:List Str} {vs:List Value} {i:Nat} {m:Str->Option Value},P.Nodup->P[i]?=some x->vs[i]?=some v->kindOf x=some .local->
  bindL kindOf (P.zip vs) m x=some v
 |[],_,_,_,_,h,_,_=>by simp at h
 |_::_,[],_,_,_,_,h,_=>by simp at h
 |p::P,w::vs,0,m,nd,h1,h2,hk=>by simp at h1 h2;subst h1;subst h2;show bindL kindOf ((p,w)::P.zip vs) m p=_;unfold bindL;rw[qd λ v hv=>(nodup_cons.mp nd).1 (of_mem_zip hv).1,O6 hk];simp
 |p::P,w::vs,i+1,m,nd,h1,h2,hk=>by show bindL kindOf ((p,w)::P.zip vs) m x=_;unfold bindL;exact qf (i:=i) (nodup_cons.mp nd).2 (by simpa using h1) (by simpa using h2) hk
theorem qh{kindOf:Str->Option NameKind}{x:Str}{v:Value}:∀{P:List Str} {vs:List Value} {i:Nat} {m:Str->Option Value},P.Nodup->P[i]?=some x->vs[i]?=some v->kindOf x≠some .local->
  bindC kindOf (P.zip vs) m x=some v
 |[],_,_,_,_,h,_,_=>by simp at h
 |_::_,[],_,_,_,_,h,_=>by simp at h
 |p::P,w::vs,0,m,nd,h1,h2,hk=>by simp at h1 h2;subst h1;subst h2;show bindC kindOf ((p,w)::P.zip vs) m p=_;unfold bindC;rw[qg λ v hv=>(nodup_cons.mp nd).1 (of_mem_zip hv).1,O7 hk];simp
 |p::P,w::vs,i+1,m,nd,h1,h2,hk=>by show bindC kindOf ((p,w)::P.zip vs) m x=_;unfold bindC;exact qh (i:=i) (nodup_cons.mp nd).2 (by simpa using h1) (by simpa using h2) hk
def start(N:List Str)(vs:List V):St:=vs.map some++List.replicate (N.length - vs.length) none
def oQ(CX:BR)(P:Program)(w:World)(K:O8)(mg:Str->Option Value)(base:Heap)(N:List Str)(qual:Str)(scope:Scope)(f:Addr)(cd:Value)(A:Around)(outer:List Env)(s:Shared)(H:Hp)(E:XK):Cx where
 prog:=P
 w:=w
 K:=K
 mg:=mg
 base:=base
 A:=A.deeper (envOfC qual scope s.heap.objs.size f cd)
 N:=N
 s₀:=s
 H₀:=H
 env:=envOfC qual scope s.heap.objs.size f cd
 outer:=outer
 stack:=envOfC qual scope s.heap.objs.size f cd::outer
 ex:=[]
 calm:=true
 fn:=λ _=>true
 pn:=[]
 xe:=λ e s'=>wpAny (model P w) (A.deeper (envOfC qual scope s.heap.objs.size f cd)) (leaving (envOfC qual scope s.heap.objs.size f cd) e) (λ _ QP=>CX outer H s E e QP) (λ e' QP=>CX outer H s E e' QP) s'
theorem ve{sc:Scope}{n:Nat}{x:Str}(h:sc.names.lookup x=some .cell):∃c,(cellsFrom n sc.names []).lookup x=some c:=by have q:=PySem.W.cellsFrom_some sc.names n [] (.inl h);exact Option.isSome_iff_exists.mp q
theorem AN{CX:BR}{P:Program}{w:World}{K:O8}{mg:Str->Option Value}{base:Heap}{N ps:List Str}{qual:Str}{scope:Scope}{f:Addr}{cd:Value}{A:Around}{outer:List Env}{s s1:Shared}{H:Hp}{E:XK}{us:List Value}{vs:List V} (S:aH N ps scope) (hd:A.handled=none) (e0:oh P w K mg base A outer s H) (hl:vs.length=ps.length) (r:Vals vs us) (x:InCallC s s.heap.objs.size (bindL (envOfC qual scope s.heap.objs.size f cd).kindOf (ps.zip us) λ _=>none) (cellsFrom (s.heap.objs.size+1) scope.names []) (bindC (envOfC qual scope s.heap.objs.size f cd).kindOf (ps.zip us) λ _=>none) s1):Inv (oQ CX P w K mg base N qual scope f cd A outer s H E) [] (start N vs) H s1:=by
 have hpl:ps.length<=N.length:=by have:=O3 List.length S.pre;rw[B2]at this;omega
 obtain⟨h1,tk,rfl,hk⟩:=x.done;have SJ:∀b:Addr,b∉(oQ CX P w K mg base N qual scope f cd A outer s H E).ex:=λ b z=>absurd (show b∈([]:List Addr)from z) (by simp);refine⟨⟨e0.mod,S.kind,rfl,rfl,L8 _,λ y z c h1 h2=>?_,λ y hy=>?_,λ y c _ h=>?_,λ _=>hd,Around.frames_deeper e0.frames,.inr ⟨rfl,rfl⟩,λ b z=>absurd z (SJ b),e0.bs,e0.BO,λ b _ _=>SJ b,λ b z=>absurd z (SJ b),e0.jG,e0.Kw⟩,
  rfl,e0.bare,Un.kept hk,⟨_,x.toInCall.ns,λ i y v h1 h2 h3=>?_⟩,λ y c h=>⟨_,x.cell y c h⟩,e0.bq.fresh (L8 _),λ y c h=>?_,λ p hp=>absurd (show p∈([]:List (Addr×Obj))from hp) (by simp),e0.bq.kept hk,?_⟩
 ·exact name_of_addr x.apart (p7 h1) (p7 h2)
 ·have hy:scope.names.lookup y=some .cell\/scope.names.lookup y=some .free:=hy;rcases hy with hy|hy
  ·exact ve hy
  ·exact absurd rfl (S.O' _ (p7 hy))
 ·exact L7 (x.above y c (p7 h))
 ·have hi:i < vs.length:=by
   unfold start at h2;by_cases hi:i < vs.length
   ·exact hi
   ·rw[c6 (by simpa using hi)]at h2;rw[j1]at h2;split at h2 <;> cases h2
  have ha:vs[i]?=some v:=by
   unfold start at h2;rw[c9 (by simpa using hi),y1]at h2;cases e:vs[i]? with
   |none=>rw[e]at h2;cases h2
   |some a=>rw[e]at h2;cases h2;rfl
  obtain⟨u,hu,rv⟩:=r.get ha;have hp:ps[i]?=some y:=by rw[<- S.pre,getElem?_take_of_lt (by omega)];exact h1
  have YB:ps.Nodup:=by rw[<- S.pre];exact S.nd.sublist (take_sublist _ _)
  refine⟨u,rv,?_⟩;rcases S.par y (l8 hp)with k|k
  ·exact .inl ⟨k,qf YB hp hu k⟩
  ·obtain⟨c,e⟩:=ve (n:=s.heap.objs.size+1) k;refine .inr ⟨.inl k,c,e,?_⟩;have q:=x.cell y c e;rw[qh YB hp hu (by show scope.names.lookup y≠_;rw[k];decide)]at q;exact q
 ·exact e0.bq.fresh (L7 (x.above y c (p7 h)))
 ·unfold start;show _=N.length;rw[u4,D3,l3];omega
theorem LQ{CX:BR}{P:Program}{w:World}{K:O8}{mg:Str->Option Value}{base:Heap}{k:Nat}{f:Addr}{name qual:Str}{params:Arguments}{body:List Stmt}{scope:Scope}{dV kV doc pm bT ct oc:Value}{an od:Option Addr} {Aj:Array (Option Value)} {N ps:List Str} {sp:Sp} (lk:K.lookup f=some ⟨oc,od,.func (PySem.W.fnOf name qual params body scope dV kV doc pm an bT ct),Aj⟩) (hcd:PySem.W.codeIn K bT qual=true) (S:aH N ps scope) (len:∀vs H Q E,sp vs H Q E->vs.length=ps.length) (fP:∀(A:Around) (outer:List Env) (s:Shared) (H:Hp) (vs:List V) (Q:VK) (E:XK),bK k (A.deeper (envOfC qual scope s.heap.objs.size f bT))->sp vs H Q E->
   ∃t,oV (oQ CX P w K mg base N qual scope f bT A outer s H E) body t/\t {nx:=λ _ H'=>Q .bu H',rt:=Q} (start N vs) H):
  bx P w K mg base CX (k+1) f (PySem.W.fnOf name qual params body scope dV kV doc pm an bT ct) ps sp:=by
 refine⟨len,λ A outer s H args us vs Q E hr e0 hb r AQ=>?_⟩;have hl:=len _ _ _ _ AQ;have KX:K.In s.heap:=e0.mod.QX.keeps λ b o e=>(e0.bs b o e).1;have lim:s.heap.NoLimit:=e0.mod.nolimit.keeps λ b o e=>(e0.bs b o e).1;have Fg:∀y∈ps.zip us,scope.names.lookup y.1=some .local\/(scope.names.lookup y.1=some .cell/\((cellsFrom (s.heap.objs.size+1) scope.names []).lookup y.1).isSome=true):=λ⟨n,v⟩ hy=>by
  rcases S.par n (of_mem_zip hy).1 with q|q
  ·exact .inl q
  ·exact .inr ⟨q,PySem.W.cellsFrom_some _ _ _ (.inl q)⟩
 refine codeAny_call_function hr.depth (KX _ _ lk) rfl S.co S.gen rfl (PySem.W.codeRec_of KX hcd) (hb _ _ _ _ ?_);refine wpAny_newFunctionEnv_cells S.kind Fg λ env he s1 x=>?_;subst he;refine⟨lim.keeps x.toInCall.keep,codeAny_func ?_⟩;obtain⟨t,ht,hq⟩:=fP A outer s H vs Q E (hr.deeper _) AQ;have I:Inv (oQ CX P w K mg base N qual scope f bT A outer s H E) [] (start N vs) H s1:=AN S hr.hd e0 hl r x;refine O0 (ht [] s1 (start N vs) H _ I hq) (λ fl s' hs=>?_) λ e s' hs=>hs;have fin:∀{σ':St} {H':Hp} {v:V} {u:Value},Inv (oQ CX P w K mg base N qual scope f bT A outer s H E) [] σ' H' s'->RelV v u->Q v H'->CE outer P w H s Q u s':=
  λ{σ' H' v u} J rv q=>⟨v,H',J.os,J.bare,J.base,J.bq,rv,q⟩
 cases fl with
 |ret u=>obtain⟨v,σ',H',J,rv,q⟩:=hs;exact fin J rv q
 |next=>obtain⟨σ',H',J,q⟩:=hs;exact fin (v:=V.bu) (u:=Value.none) J rfl q
 |brk=>obtain⟨_,_,_,q⟩:=hs;exact False.elim q
 |cont=>obtain⟨_,_,_,q⟩:=hs;exact False.elim q
section
variable {X:Cx}{x:Str}{p pos:Pos}{e:Expr}{es:List Expr}{t:TA}{id T:String}{r:List V->Hp->VK->Prop}
def MH(r:List V->Hp->VK->Prop)(t:TA):TE:=λ σ H Q=>t σ H λ vs H1=>r vs H1 Q
theorem jw(hc:cK X (.builtin id) r)(hg:Gl X x)(hm:X.mg x=none)(hv:bootBuiltins x=some (.builtin id))(ha:PA X (e::es) t)(hn:x≠"__name__":=by decide)(hdb:(x==("__debug__":Str))=false:=by decide) (he:starEach (e::es) X.env=(false,eval e X.env)::starEach es X.env:=by rfl) (hpl:(backTo pos (starEach es X.env)).any (·.1)=false:=by rfl):PE X (.Call (.Name x p) (e::es) [] pos) (MH r t):=by intro pins s σ H Q I h;refine w6 (fu I hg hm hv ?_ hn hdb);exact PyProof.Rows.callWith_builtin1 (cG (ha pos pins s σ H _ I h) λ us s1 ⟨vs,H1,I1,r1,q1⟩=>hc pins s1 σ H1 vs us Q I1 r1 q1) he hpl
theorem fM(hc:cK X (.type T) r)(hg:Gl X x)(hm:X.mg x=none)(hv:bootBuiltins x=some (.type T))(ha:PA X (e::es) t)(hn:x≠"__name__":=by decide)(hdb:(x==("__debug__":Str))=false:=by decide) (he:starEach (e::es) X.env=(false,eval e X.env)::starEach es X.env:=by rfl) (hpl:(backTo pos (starEach es X.env)).any (·.1)=false:=by rfl):PE X (.Call (.Name x p) (e::es) [] pos) (MH r t):=by intro pins s σ H Q I h;refine w6 (fu I hg hm hv ?_ hn hdb);exact c4 (cG (ha pos pins s σ H _ I h) λ us s1 ⟨vs,H1,I1,r1,q1⟩=>hc pins s1 σ H1 vs us Q I1 r1 q1) he hpl
end
end L2
namespace HT
open PySem PyProof.Rows
def lexLt:List Int->List Int->Bool
 |[],[]=>false
 |[],_::_=>true
 |_::_,[]=>false
 |x::xs,y::ys=>if x=y then lexLt xs ys else decide (x < y)
theorem bB(x y:Int)(xs ys:List Int):lexLt (x::xs) (y::ys)=if x=y then lexLt xs ys else decide (x < y):=rfl
theorem cu:lexLt [] []=false:=rfl
theorem b_(y:Int)(ys:List Int):lexLt [] (y::ys)=true:=rfl
theorem cb(x:Int)(xs:List Int):lexLt (x::xs) []=false:=rfl
theorem FH(A:Around)(s:Shared)(a:Int)(t:Tok)(c:Int)(u:Tok):∃e,SeqAt.EqAt A s (.int a t) (.int c u) e/\(e=true↔a=c):=
 ⟨(a==c),SeqAt.EqAt.int_int a t c u,by simp⟩
theorem mQ(A:Around)(s:Shared)(a:Int)(t:Tok)(c:Int)(u:Tok)(prog:Program)(w:World)(E:Value->Shared->Prop)(Q:Value->Shared->Prop)(h:Q (.bool (decide (a < c))) s):wpAny (model prog w) A (richCompare .Lt (.int a t) (.int c u)) Q E s:=
 (PyProof.Rows.lt_int h:wpAny (model prog w) A (compareOp .Lt (.int a t) (.int c u)) Q E s)
section
open PySem.SeqAt
open PySem.AutoSeq1 (wpAny_loadPart')
open PySem.MeetsSeq PySem.MeetsSeq2 PySem.MeetsSeq3
theorem ou(l b:Addr)(items fv:Array Value)(n n2:Nat)(dd Rb:Option Addr)(sl QM:Array (Option Value))(ns ms:List Int)(hi:IntsAre items.toList ns)(hj:IntsAre fv.toList ms):Meets (Builtin.«tuple.__lt__» ⟨[.ref l,.ref b],[]⟩)
   (λ _ R s=>s.heap.get? l=some {cls:=.type "tuple",dict:=dd,data:=.seq items n,slots:=sl}/\s.heap.get? b=some {cls:=.type "tuple",dict:=Rb,data:=.seq fv n2,slots:=QM}/\
    R (.ok (.ret (.bool (lexLt ns ms)))) s):=
 .of_wp λ prog w A R s h=>by
  obtain⟨hp,g,d,tk,os⟩:=s;obtain⟨hl,hb,h⟩:=h;have f2:=AutoSeq1.sub_tuple_tuple;have z1:items.size=ns.length:=by rw[<- hi.length];simp
  have z2:fv.size=ms.length:=by rw[<- hj.length];simp
  wp_walk using C4 hl,C4 hb,wpAny_forIn_list _ (λ rest b s'=>b.1=none/\s'=⟨hp,g,d,tk,os⟩/\∃(vs ws:List Value) (QU QV:List Int),rest=vs.zip ws/\
   IntsAre vs QU/\IntsAre ws QV/\QU.length+fv.size=QV.length+items.size/\R (.ok (.ret (.bool (lexLt QU QV)))) ⟨hp,g,d,tk,os⟩) _
  case turn=>
   rintro⟨y,x⟩ rest b s' ⟨GO,rfl,vs,ws,QU,QV,hz,W8,Vm,hlen,hR⟩;cases W8 with
   |nil=>rw[zip_nil_left]at hz;cases hz
   |cons a t W7=>
    cases Vm with
    |nil=>rw[zip_nil_right]at hz;cases hz
    |cons c u W6=>
     rw[x9]at hz;injection hz with hyx S8
     injection hyx with hy hx
     subst hy hx;rw[bB]at hR;simp only[A5]at hlen;obtain⟨e,he,Ts⟩:=FH A.in1 ⟨hp,g,d,tk,os⟩ a t c u;refine N6 (he prog w _ _ ?_);cases e with
     |true=>
      rw[O6 (Ts.mp rfl)]at hR
      wp_walk
      exact⟨rfl,rfl,_,_,_,_,S8,W7,W6,by omega,hR⟩
     |false=>
      rw[O7 (λ q=>absurd (Ts.mpr q) u3)]at hR;have hri:=mQ A.in1 ⟨hp,g,d,tk,os⟩ a t c u prog w
      wp_walk using hri
      exact⟨_,rfl,by simpa using hR⟩
  case fin=>
   rintro⟨b1,b2⟩ s' ⟨GO,rfl,vs,ws,QU,QV,hz,W8,Vm,hlen,hR⟩;simp only at GO;subst GO;have hv:lexLt QU QV=decide (items.size < fv.size):=by
    cases W8 with
    |nil=>
     cases Vm with
     |nil=>simp only[length_nil]at hlen;rw[cu];exact(C3 (by omega)).symm
     |cons c u hw=>simp only[length_nil,A5]at hlen;rw[b_];exact(E7 (by omega)).symm
    |cons a t hv=>
     cases Vm with
     |nil=>simp only[length_nil,A5]at hlen;rw[cb];exact(C3 (by omega)).symm
     |cons c u hw=>rw[x9]at hz;cases hz
   rw[hv]at hR
   wp_walk
   exact⟨_,rfl,by simpa[Builtin.Tuple.tupleCompareSizes]using hR⟩
  case h=>
   exact⟨rfl,rfl,items.toList,fv.toList,ns,ms,rfl,hi,hj,by omega,h⟩
end
section
variable {prog:Program}{w:World}{A:Around}{E:Value->Shared->Prop}{s:Shared}
theorem wW{l b:Addr}{items fv:Array Value}{ns ms:List Int}{Q:Value->Shared->Prop}(hl:IsTup s.heap l items)(hb:IsTup s.heap b fv)(hi:IntsAre items.toList ns)(hj:IntsAre fv.toList ms) (hu:A.units < cLine) (h:Q (.bool (lexLt ns ms)) s):wpAny (model prog w) A (compareOp .Lt (.ref l) (.ref b)) Q E s:=by
 obtain⟨⟨cls,dd,data,sl⟩,ho,hc,n,hd⟩:=id hl;obtain⟨⟨X9,Rb,data2,QM⟩,Kl,PV,n2,hd2⟩:=id hb;simp only at hc hd PV hd2;subst hc hd PV hd2;exact j9 (op:=.Lt) ⟨_,ho,rfl⟩ ⟨_,Kl,rfl⟩ PySem.F.slot_tuple_lt PySem.F.entry_tuple_lt (PySem.F.args_tuple_lt_2 _ _) (ou l b items fv n n2 dd Rb sl QM ns ms hi hj)
  ⟨ho,Kl,show Value.bool (lexLt ns ms)≠Value.notImplemented/\Q (.bool (lexLt ns ms)) s from⟨(λ x=>nomatch x),h⟩⟩ hu
theorem KY{t b:Addr}{vs ws:List Value}{Q:Value->Shared->Prop}(ht:IsTup s.heap t vs.toArray)(hb:IsTup s.heap b ws.toArray)(hv:vs≠[]) (h1:ws=[]->Q (.ref t) s) (h2:ws≠[]->Q (.ref s.heap.objs.size) {s with heap:=s.heap.push {cls:=.type "tuple",data:=.seq (vs++ws).toArray}}) (hsz:vs.length+ws.length<=sizeLine):wpAny (model prog w) A (binaryOp .Add (.ref t) (.ref b)) Q E s:=by
 obtain⟨⟨cls,dd,data,sl⟩,ho,hc,n,hd⟩:=id ht;obtain⟨⟨X9,Rb,data2,QM⟩,Kl,PV,n2,hd2⟩:=id hb;simp only at hc hd PV hd2;subst hc hd PV hd2;have e:vs.toArray++ws.toArray=(vs++ws).toArray:=by simp
 by_cases hw:ws=[]
 ·exact concat_meets ⟨_,ho,rfl⟩ ⟨_,Kl,rfl⟩ noFill_tuple_add seq_tuple_add PySem.F.slot_tuple_add PySem.F.entry_tuple_add (PySem.F.args_tuple_add_2 _ _)
   (tuple_addW1 t b vs.toArray ws.toArray n n2 dd Rb sl QM (by simpa using hv) (by simp[hw])) ⟨ho,Kl,h1 hw⟩
 ·refine concat_meets ⟨_,ho,rfl⟩ ⟨_,Kl,rfl⟩ noFill_tuple_add seq_tuple_add PySem.F.slot_tuple_add PySem.F.entry_tuple_add (PySem.F.args_tuple_add_2 _ _)
   (tuple_addW2 t b vs.toArray ws.toArray n n2 dd Rb sl QM (by simpa using hv) (by simpa using hw) (by rw[z9,z9];exact hsz)) ⟨ho,Kl,?_⟩
  rw[e];exact h2 hw
def bW(n d:Nat):Option Int->Nat
 |none=>d
 |some v=>if v < 0 then(v+(n:Int)).toNat else min v.toNat n
theorem wm(n d:Nat)(hd:d<=n)(o:Option Int):bW n d o<=n:=by
 cases o with
 |none=>exact hd
 |some v=>
  show(if v < 0 then(v+(n:Int)).toNat else min v.toNat n)<=n;by_cases hv:v < 0
  ·rw[O6 hv];omega
  ·rw[O7 hv];exact Nat.min_le_right _ _
theorem zg(v:Int)(n d:Nat):(if v < 0 then max (v+(n:Int)) 0 else min v (n:Int))=((bW n d (some v):Nat):Int):=by
 show(if v < 0 then max (v+(n:Int)) 0 else min v (n:Int))=(((if v < 0 then(v+(n:Int)).toNat else min v.toNat n):Nat):Int);by_cases hv:v < 0
 ·simp only[O6 hv];omega
 ·simp only[O7 hv];omega
theorem xG(lo hi:Option Int)(n:Nat):Builtin.Slice.sliceAdjust lo hi 1 (n:Int)=(((bW n 0 lo:Nat):Int),((bW n n hi:Nat):Int)):=by
 have h1:¬((1:Int) < 0):=by omega
 unfold Builtin.Slice.sliceAdjust;simp only[h1,O2];refine Prod.ext ?_ ?_
 ·cases lo with
  |none=>rfl
  |some v=>exact zg v n 0
 ·cases hi with
  |none=>rfl
  |some v=>exact zg v n n
theorem wB(i j:Nat):Builtin.Slice.slicePlaces (i:Int) (j:Int) 1=j - i:=by
 unfold Builtin.Slice.slicePlaces;have h1:(1:Int) > 0:=by omega
 simp only[h1,O5,Int.ediv_one];split <;> omega
theorem mE{v:Value}{o:Option Int}{Q:Option Int->Shared->Prop}(p:IsPart v o)(h:Q o s):wpAny (model prog w) A (Builtin.Slice.slicePartIndex v) Q E s:=by
 cases p with
 |none=>exact slicePart_none h
 |int i t=>exact slicePart_int h
theorem fG{sl:Addr}{vl vu:Value}{lo hi:Option Int}{n:Nat}{Q:Int×Int×Nat->Shared->Prop}(hs:s.heap.IsSliceOf sl vl vu .none)(pl:IsPart vl lo)(pu:IsPart vu hi) (h:Q (((bW n 0 lo:Nat):Int),1,bW n n hi - bW n 0 lo) s):wpAny (model prog w) A (Builtin.Slice.sliceApplied (.ref sl) (pure (n:Int))) Q E s:=by obtain⟨os,jC,Q7,Fj⟩:=id hs;unfold Builtin.Slice.sliceApplied Builtin.Slice.sliceFields;refine N6 (N6 (N4 jC Fj (x:=vl) rfl (N6 (N4 jC Fj (x:=vu) rfl (N6 (N4 jC Fj (x:=.none) rfl (N7 ?_)))))));refine N6 (slicePart_none ?_);show wpAny _ _ (if((1:Int)==0)=true then _ else _) _ _ s;rw[O7 (by decide)];refine N6 (mE pl (N6 (mE pu (N6 (N7 ?_)))));show wpAny _ _ (match Builtin.Slice.sliceAdjust lo hi 1 (n:Int)with|(lo,hi)=>pure (lo,(1:Int),Builtin.Slice.slicePlaces lo hi 1)) _ _ s;rw[xG lo hi n];show wpAny _ _ (pure (((bW n 0 lo:Nat):Int),(1:Int),Builtin.Slice.slicePlaces ((bW n 0 lo:Nat):Int) ((bW n n hi:Nat):Int) 1)) _ _ s;rw[wB];exact N7 h
theorem DJ(xs:Array Value)(i k:Nat):((List.range k).filterMap λ(m:Nat)=>xs[((i:Int)+(m:Int)*1).toNat]?).toArray=((xs.toList.drop i).take k).toArray:=by
 have e:(λ(m:Nat)=>xs[((i:Int)+(m:Int)*1).toNat]?)=λ m=>xs[i+m]?:=by
  funext m;have:((i:Int)+(m:Int)*1).toNat=i+m:=by omega
  rw[this]
 rw[e];have:=pick_run xs i k;rw[filterMap_map]at this;have e2:((λ x=>xs[x]?)∘λ x=>i+x)=λ m=>xs[i+m]?:=rfl;rw[e2]at this;rw[this]
theorem jD{t sl:Addr}{items:Array Value}{vl vu:Value}{lo hi:Option Int}{Q:Value->Shared->Prop}(ht:IsTup s.heap t items)(hs:s.heap.IsSliceOf sl vl vu .none)(pl:IsPart vl lo)(pu:IsPart vu hi) (hw:¬(bW items.size 0 lo=0/\bW items.size items.size hi=items.size)) (h:Q (.ref s.heap.objs.size) {s with heap:=s.heap.push {cls:=.type "tuple",data:=.seq ((items.toList.drop (bW items.size 0 lo)).take (bW items.size items.size hi - bW items.size 0 lo)).toArray}}) (hsz:items.size<=sizeLine):wpAny (model prog w) A (getItem (.ref t) (.ref sl)) Q E s:=by
 have yL:sizeOk (.seq ((items.toList.drop (bW items.size 0 lo)).take (bW items.size items.size hi - bW items.size 0 lo)).toArray):=by show((items.toList.drop (bW items.size 0 lo)).take (bW items.size items.size hi - bW items.size 0 lo)).toArray.size<=sizeLine;rw[z9,B2,A7,p9];omega
 have hj:bW items.size items.size hi<=items.size:=wm _ _ (L8 _) hi;obtain⟨os,jC,Q7,Fj⟩:=id hs;have XA:s.TypeIs (.ref sl) "slice":=⟨os,jC,Q7⟩;unfold getItem
 try with_reducible refine G7 ?_
 first|refine N6 (N7 ?_)|skip
 refine N6 (wpAny_sequenceKey ht.typeIs (by decide) ?_);refine N6 (j3 (name:=Str.ofString "__getitem__") ht.typeIs a0
  (A9 a0 ht.typeIs entry_tuple_getitem ?_ (args_tuple_getitem _ _)))
 show wpAny _ _ (Builtin.Tuple.tupleItemsOf (.ref t) >>= _) _ _ s;refine N6 (tupleItemsOf_ ht ?_);refine N6 (K8 XA ?_);rw[O6 (by decide)];refine N6 (fG hs pl pu ?_);have Xj:¬((((bW items.size 0 lo:Nat):Int)==0&&(1:Int)==1&&(bW items.size items.size hi - bW items.size 0 lo)==items.size)=true):=by intro q;rw[B1,B1]at q;have q1:((bW items.size 0 lo:Nat):Int)=0:=eq_of_beq q.1.1;have q2:bW items.size items.size hi - bW items.size 0 lo=items.size:=eq_of_beq q.2;exact hw ⟨by omega,by omega⟩
 show wpAny _ _ (if(((bW items.size 0 lo:Nat):Int)==0&&(1:Int)==1&&(bW items.size items.size hi - bW items.size 0 lo)==items.size)=true then _ else _) _ _ s;rw[O7 Xj,DJ]
 first
  |exact N6 (m:=Builtin.Tuple.tupleExact _) (y4 (N7 ⟨_,rfl,N7 h⟩) yL)
  |exact N6 (m:=Builtin.Tuple.tupleExact _) (y4 (N6 (N7 (N7 ⟨_,rfl,N7 h⟩))) yL)
  |exact N6 (N6 (m:=Builtin.Tuple.tupleExact _) (y4 (N7 (N7 ⟨_,rfl,N7 h⟩)) yL))
  |exact N6 (N6 (m:=Builtin.Tuple.tupleExact _) (y4 (N7 ⟨_,rfl,N7 h⟩) yL))
end
end HT
namespace L2
open PySem PySem.Spec PyProof.Rows
abbrev TO:=St->Hp->(Option Int->Hp->Prop)->Prop
def PO(X:Cx)(e:Option Expr)(t:TO):Prop:=
 ∀(pins:List (Addr×Obj)) (s:Shared) (σ:St) (H:Hp) (Q:Option Int->Hp->Prop),Inv X pins σ H s->t σ H Q->
  wpAny (model X.prog X.w) X.A (evalPart e X.env) (λ u s'=>∃o H',Inv X pins σ H' s'/\IsPart u o/\Q o H') X.xe s
def Hj:TO:=λ _ H Q=>Q none H
def Rr(t:TE):TO:=λ σ H Q=>t σ H λ x H1=>∃i,x=.int i/\Q (some i) H1
theorem intsAre_of{ns:List Int}:∀{us:List Value},Vals (ns.map V.int) us->IntsAre us ns:=by
 induction ns with
 |nil=>intro us r;rw[map_nil]at r;cases r;exact .nil
 |cons n ns ih=>
  intro us r;rw[H9]at r;cases r with
  |cons r1 r2=>obtain⟨t,e⟩:=r1;subst e;exact .cons n t (ih r2)
section
variable {X:Cx}{e:Expr}{te:TE}{lo hi:Option Expr}{tl th:TO}{pos p2:Pos}
theorem IU:PO X none Hj:=by intro pins s σ H Q I h;rw[evalPart_none];exact N7 ⟨none,H,I,.none,h⟩
theorem IT(h:PE X e te):PO X (some e) (Rr te):=by intro pins s σ H Q I hw;rw[evalPart_some];refine cG (h pins s σ H _ I hw) λ u s1 ⟨x,H1,I1,r1,q1⟩=>?_;obtain⟨i,rfl,q⟩:=q1;obtain⟨t,rfl⟩:=r1;exact⟨some i,H1,I1,.int i t,q⟩
def zv(X:Cx)(r:V->Option Int->Option Int->Hp->VK->Prop):Prop:=
 ∀(pins:List (Addr×Obj)) (s:Shared) (σ:St) (H:Hp) (x:V) (v vl vu:Value) (lo hi:Option Int) (sl:Addr) (Q:VK),Inv X pins σ H s->RelV x v->s.heap.IsSliceOf sl vl vu .none->IsPart vl lo->IsPart vu hi->r x lo hi H Q->
  ∃T id,typeLookup (.type T) "__getitem__"=pure (some (.builtin id))/\s.TypeIs v T/\wpAny (model X.prog X.w) X.A (getItem v (.ref sl)) (EP X pins σ Q) X.xe s
theorem zv.or {r r':V->Option Int->Option Int->Hp->VK->Prop}(h:zv X r)(h':zv X r'):zv X (λ x lo hi H Q=>r x lo hi H Q\/r' x lo hi H Q):=by
 intro pins s σ H x v vl vu lo hi sl Q I rx hs pl pu q;rcases q with q|q
 ·exact h pins s σ H x v vl vu lo hi sl Q I rx hs pl pu q
 ·exact h' pins s σ H x v vl vu lo hi sl Q I rx hs pl pu q
def ZQ(r:V->Option Int->Option Int->Hp->VK->Prop)(te:TE)(tl th:TO):TE:=λ σ H Q=>te σ H λ x H1=>tl σ H1 λ l H2=>th σ H2 λ u H3=>r x l u H3 Q
theorem DP{r:V->Option Int->Option Int->Hp->VK->Prop}(hr:zv X r)(he:PE X e te)(hl:PO X lo tl)(hu:PO X hi th):PE X (.Subscript e (.Slice lo hi none p2) pos) (ZQ r te tl th):=by intro pins s σ H Q I h;refine Subscript_ (cG (he pins s σ H _ I h) λ v s1 ⟨x,H1,I1,r1,q1⟩=>?_);refine wpAny_Slice (cG (hl pins s1 σ H1 _ I1 q1) λ vl s2 ⟨l,H2,I2,pl,q2⟩=>cG (hu pins s2 σ H2 _ I2 q2) λ vu s3 ⟨u,H3,I3,pu,q3⟩=>?_);rw[evalPart_none];refine N7 ?_;have I4:Inv X pins σ H3 {s3 with heap:=s3.heap.push {cls:=.type "slice",data:=.fields #[vl,vu,.none]}}:=I3.kept (t':=s3.toks) λ b ob q=>j7 _ q;obtain⟨T,id,hT,ht,hg⟩:=hr pins {s3 with heap:=s3.heap.push {cls:=.type "slice",data:=.fields #[vl,vu,.none]}} σ H3 x v vl vu l u s3.heap.objs.size Q I4 r1 (Heap.IsSliceOf.new ..) pl pu q3;show wpAny (model X.prog X.w) X.A (subscriptTail e (.Slice lo hi none p2) v (.ref s3.heap.objs.size)) (EP X pins σ Q) X.xe {s3 with heap:=s3.heap.push {cls:=.type "slice",data:=.fields #[vl,vu,.none]}};exact tail_any (ops:=[.ref s3.heap.objs.size,v]) ht hT hg (by with_unfolding_all rfl)
def uY(xs:List V)(lo hi:Option Int):List V:=(xs.drop (HT.bW xs.length 0 lo)).take (HT.bW xs.length xs.length hi - HT.bW xs.length 0 lo)
theorem kZ(xs:List V)(lo hi:Option Int):(uY xs lo hi).length<=xs.length:=by unfold uY;rw[B2,A7];omega
def RR(K:O8):V->Option Int->Option Int->Hp->VK->Prop:=λ x lo hi H Q=>∃a xs,x=.ref a/\fZ K H a xs/\
 ¬(HT.bW xs.length 0 lo=0/\HT.bW xs.length xs.length hi=xs.length)/\∀p,H p=none->Q (.ref p) (upd H p (.tup (uY xs lo hi)))
theorem ML:zv X (RR X.K):=by
 intro pins s σ H x v vl vu lo hi sl Q I rx hs pl pu h;obtain⟨a,xs,rfl,hx,hw,q⟩:=h;cases rx;obtain⟨au,r,ht,hz⟩:=I.tuple hx;have hlen:au.toArray.size=xs.length:=by rw[z9];exact r.length.symm
 refine⟨"tuple",_,a0.lookup,ht.typeIs,?_⟩;refine HT.jD ht hs pl pu (by rw[hlen];exact hw) ?_ (by rw[hlen];exact hz);rw[hlen];refine⟨.ref s.heap.objs.size,_,I.laid (t':=s.toks) (o:=.tup (uY xs lo hi)) (λ b ob q=>j7 _ q) (L8 _) ?_,rfl,q _ (I.bq.fresh (L8 _))⟩;exact⟨K5 (kZ xs lo hi) hz,_,(r.drop (HT.bW xs.length 0 lo)).take (HT.bW xs.length xs.length hi - HT.bW xs.length 0 lo),IsTup.new _ _⟩
def R0(K:O8):R2:=λ x y H Q=>∃a b xs ys,x=.ref a/\y=.ref b/\fZ K H a xs/\fZ K H b ys/\xs≠[]/\xs.length+ys.length<=sizeLine/\
 (ys=[]->Q (.ref a) H)/\(ys≠[]->∀p,H p=none->Q (.ref p) (upd H p (.tup (xs++ys))))
theorem Vals.rg {xs:List V}{us:List Value}(r:Vals xs us):us=[]↔xs=[]:=by
 cases r with
 |nil=>simp
 |cons _ _=>simp
theorem Jn:eQ X (binaryOp .Add) (R0 X.K):=by intro pins s σ H x y v u Q I rx ry h;obtain⟨a,b,xs,ys,rfl,rfl,ha,hb,hx,hz,q1,q2⟩:=h;cases rx;cases ry;obtain⟨au,r1,p1,_⟩:=I.tuple ha;obtain⟨JZ,r2,p2,_⟩:=I.tuple hb;refine HT.KY p1 p2 (λ z=>hx (r1.rg.mp z)) (λ z=>⟨.ref a,H,I,rfl,q1 (r2.rg.mp z)⟩) (λ z=>?_) (by rw[<- r1.length,<- r2.length];exact hz);refine⟨.ref s.heap.objs.size,_,I.laid (t':=s.toks) (o:=.tup (xs++ys)) (λ b ob q=>j7 _ q) (L8 _) ?_,rfl,q2 (λ w=>z (r2.rg.mpr w)) _ (I.bq.fresh (L8 _))⟩;exact⟨by rw[u4];exact hz,_,r1.append r2,IsTup.new _ _⟩
end
def vB(n:Nat)(i:Int):Option Nat:=if 0<=i then(if i < n then some i.toNat else none)else if -(n:Int)<=i then some (i+n).toNat else none
def gJ{α:Type}(xs:List α)(i:Int):Option α:=(vB xs.length i).bind λ j=>xs[j]?
theorem yI{n:Nat}{i:Int}{j:Nat}(h:vB n i=some j):seqIndex? i n=some j/\j < n/\-(n:Int)<=i/\i < n:=by
 unfold vB at h;by_cases h0:0<=i
 ·rw[O6 h0]at h;by_cases h1:i < n
  ·rw[O6 h1]at h;have e:i.toNat=j:=C6 h;exact⟨by rw[seqIndex_of h0 h1,e],by omega,by omega,h1⟩
  ·rw[O7 h1]at h;cases h
 ·rw[O7 h0]at h;by_cases h1: -(n:Int)<=i
  ·rw[O6 h1]at h;have e:(i+n).toNat=j:=C6 h;exact⟨by rw[seqIndex_neg (by omega) h1,e],by omega,h1,by omega⟩
  ·rw[O7 h1]at h;cases h
theorem rY{α:Type}{xs:List α}{i:Int}{v:α}(h:gJ xs i=some v):∃j,seqIndex? i xs.length=some j/\xs[j]?=some v/\j < xs.length/\-(xs.length:Int)<=i/\i < xs.length:=by
 unfold gJ at h;cases e:vB xs.length i with
 |none=>rw[e]at h;cases h
 |some j=>rw[e]at h;obtain⟨h1,h2,h3,h4⟩:=yI e;exact⟨j,h1,h,h2,h3,h4⟩
theorem cC{α:Type}{xs:List α}{j:Nat}{v:α}(h:xs[j]?=some v):gJ xs (j:Int)=some v:=by
 have hj:j < xs.length:=(i5.mp h).1;have e:vB xs.length (j:Int)=some j:=by unfold vB;rw[O6 (by omega),O6 (by omega)];simp
 unfold gJ;rw[e];exact h
def sf(b:Expr):Prop:=∀o i,subscripted b false o i=operate [o,i] (getItem o i)
def xJ(X:Cx)(r:R2):Prop:=
 ∀(value slice:Expr) (pins:List (Addr×Obj)) (s:Shared) (σ:St) (H:Hp) (x y:V) (v u:Value) (Q:VK),Inv X pins σ H s->RelV x v->RelV y u->r x y H Q->
  subscripted slice false v u=operate [v,u] (getItem v u)->wpAny (model X.prog X.w) X.A (subscriptTail value slice v u) (EP X pins σ Q) X.xe s
def Yh(X:Cx)(id:String)(r:V->List V->Hp->VK->Prop):Prop:=
 ∀(pins:List (Addr×Obj)) (s:Shared) (σ:St) (H:Hp) (x:V) (xs:List V) (v:Value) (us:List Value) (Q:VK),Inv X pins σ H s->RelV x v->Vals xs us->r x xs H Q->
  wpAny (model X.prog X.w) X.A (call (.builtin id) (v::us)) (EP X pins σ Q) X.xe s
section
variable {X:Cx}{a b:Expr}{ta tb:TE}{pos:Pos}
theorem xJ.or {r r':R2}(h:xJ X r)(h':xJ X r'):xJ X (λ x y H Q=>r x y H Q\/r' x y H Q):=by
 intro value slice pins s σ H x y v u Q I rx ry q hs;rcases q with q|q
 ·exact h value slice pins s σ H x y v u Q I rx ry q hs
 ·exact h' value slice pins s σ H x y v u Q I rx ry q hs
theorem LF{r:R2}(hr:xJ X r)(ha:PE X a ta)(hb:PE X b tb)(hs:sf b):PE X (.Subscript a b pos) (QK r ta tb):=by intro pins s σ H Q I h;exact Subscript_ (Qs ha hb I h λ v u s2 x y H2 I2 rx ry q=>hr a b pins s2 σ H2 x y v u Q I2 rx ry q (hs _ _))
def RX(K:O8):R2:=λ x y H Q=>∃p xs i v,x=.ref p/\y=.int i/\dF K H p xs/\gJ xs i=some v/\Q v H
def RV(K:O8):R2:=λ x y H Q=>∃p xs i v,x=.ref p/\y=.int i/\fZ K H p xs/\gJ xs i=some v/\Q v H
def RW:R2:=λ x y H Q=>∃z i c,x=.str z/\y=.int i/\z.length<=sizeLine/\gJ z.cps.toList i=some c/\Q (.str ⟨#[c]⟩) H
theorem JY:xJ X (RX X.K):=by
 intro value slice pins s σ H x y v u Q I rx ry h hs;obtain⟨p,xs,i,z,rfl,rfl,hq,he,q⟩:=h;cases rx;obtain⟨t,rfl⟩:=ry;obtain⟨au,r,pl,hz⟩:=I.list hq;obtain⟨j,h1,h2,h3,h4,h5⟩:=rY he;obtain⟨w,ew,wo⟩:=r.get h2;have hl:=r.length;have hn:=j_;have fin:EP X pins σ Q w s:=⟨z,H,I,wo,q⟩;by_cases h0:0<=i
 ·have hj:i.toNat=j:=by rw[seqIndex_of h0 h5]at h1;exact C6 h1
  exact item_listR pl.isList h0 (by omega) (by rw[hj];simpa using ew) fin hs
 ·have hj:(i+(au.toArray.size:Int)).toNat=j:=by rw[seqIndex_neg (by omega) h4]at h1;rw[z9,<- hl];exact C6 h1
  exact subscriptTail_builtinR (x:=w) pl.isList.typeIs slot_list_getitem.lookup
   (wpAny_getItem_list_neg (Q:=λ r s'=>r=w/\EP X pins σ Q r s') pl.isList (by omega) (by rw[z9] <;> omega) (by omega) (by rw[hj];simpa using ew) ⟨rfl,fin⟩) hs
theorem Pw:xJ X (RV X.K):=by
 intro value slice pins s σ H x y v u Q I rx ry h hs;obtain⟨p,xs,i,z,rfl,rfl,hq,he,q⟩:=h;cases rx;obtain⟨t,rfl⟩:=ry;obtain⟨au,r,pl,hz⟩:=I.tuple hq;obtain⟨j,h1,h2,h3,h4,h5⟩:=rY he;obtain⟨w,ew,wo⟩:=r.get h2;have hl:=r.length;have hn:=j_;have fin:EP X pins σ Q w s:=⟨z,H,I,wo,q⟩;exact subscriptTail_builtinR (x:=w) pl.typeIs slot_tuple_getitem.lookup
  (getItem_tuple (j:=j) (Q:=λ r s'=>r=w/\EP X pins σ Q r s') pl (by omega) (by omega) (by rw[z9,<- hl];exact h1) (by simpa using ew) ⟨rfl,fin⟩) hs
theorem Px:xJ X RW:=by
 intro value slice pins s σ H x y v u Q I rx ry h hs;obtain⟨z,i,c,rfl,rfl,hz,he,q⟩:=h;obtain⟨t,rfl⟩:=rx;obtain⟨t',rfl⟩:=ry;obtain⟨j,h1,h2,h3,h4,h5⟩:=rY he;have hl:z.cps.toList.length=z.length:=by simp[Str.length]
 rw[hl]at h1 h4 h5;have hn:=j_;exact tail_any (typeIs_str s z t) slot_str_getitem.lookup (getItem_str (c:=c) (by
  have e1:decide (i < -(2^63:Int))=false:=C3 (by omega);have e2:decide (i ≥ 2^63)=false:=C3 (by omega);rw[e1,e2,Bool.or_false]) (by rw[h1];simpa using h2) ⟨.str ⟨#[c]⟩,H,I.tok _,⟨_,rfl⟩,q⟩) hs
def Z0(K:O8):R2:=λ x y H Q=>RX K x y H Q\/RV K x y H Q\/RW x y H Q
theorem Py:xJ X (Z0 X.K):=JY.or (Pw.or Px)
theorem wR(au:List Value)(n j:Nat)(u:Value):Obj.mapSeq (·.setIfInBounds j u) {cls:=.type "list",data:=.seq au.toArray n}={cls:=.type "list",data:=.seq (au.set j u).toArray n}:=by simp[Obj.mapSeq]
theorem Inv.lst {pins:List (Addr×Obj)}{σ:St}{H:Hp}{s:Shared}{p:Addr}{xs:List V}(I:Inv X pins σ H s)(h:H p=some (.lst xs)):∃(au:List Value) (n:Nat),Vals xs au/\s.heap.get? p=some {cls:=.type "list",data:=.seq au.toArray n}/\xs.length<=sizeLine:=by obtain⟨z,au,n,r,e⟩:=I.bq p _ h;exact⟨au,n,r,e,z⟩
theorem Inv.Pc {pins:List (Addr×Obj)}{σ:St}{H:Hp}{s:Shared}{p:Addr}{xs ys:List V}{au its':List Value}{n n':Nat}{f:Obj->Obj}(I:Inv X pins σ H s)(h:H p=some (.lst xs)) (ho:s.heap.get? p=some {cls:=.type "list",data:=.seq au.toArray n}) (hf:f {cls:=.type "list",data:=.seq au.toArray n}={cls:=.type "list",data:=.seq its'.toArray n'}) (r:Vals ys its') (hz:ys.length<=sizeLine) (t:Nat):Inv X pins σ (upd H p (.lst ys)) {s with heap:=s.heap.update p f,toks:=t}:=by
 have e:(s.heap.update p f).get? p=some {cls:=.type "list",data:=.seq its'.toArray n'}:=by rw[k7 f ho (by rw[hf] <;> rfl),hf]
 refine I.write (x:=p) (e:=p) (by rw[h];trivial) (.inl rfl) (λ b u hb q=>(j8 _ _ (O4 hb)).trans q) ⟨_,e⟩ ?_;exact⟨hz,its',n',r,e⟩
def RT:V->V->V->Hp->(Hp->Prop)->Prop:=λ o i v H Q=>∃p xs k j,o=.ref p/\i=.int k/\H p=some (.lst xs)/\vB xs.length k=some j/\Q (upd H p (.lst (xs.set j v)))
theorem set_list:sg X RT:=by
 intro pins s σ H o i v ov iv u Q I ro ri rv h;obtain⟨p,xs,k,j,rfl,rfl,hp,hj,q⟩:=h;cases ro;obtain⟨t,rfl⟩:=ri;obtain⟨au,n,r,ho,hz⟩:=I.lst hp;obtain⟨h1,h2,h3,h4⟩:=yI hj;have hl:=r.length;have hn:=j_;have I':Inv X pins σ (upd H p (.lst (xs.set j v))) {s with heap:=s.heap.update p (Obj.mapSeq (·.setIfInBounds j u))}:=
  I.Pc hp ho (wR au n j u) (r.set rv j) (by rw[E5];exact hz) s.toks
 by_cases h0:0<=k
 ·have hk:k.toNat=j:=by rw[seqIndex_of h0 h4]at h1;exact C6 h1
  exact PySem.W.ki_setAt ho h0 (by omega) (by rw[z9,<- hl];exact h4) (by rw[hk];exact⟨_,I',q⟩)
 ·have hk:(k+(au.toArray.size:Int)).toNat=j:=by rw[seqIndex_neg (by omega) h3]at h1;rw[z9,<- hl];exact C6 h1
  exact PySem.W.ki_setBack ho (by omega) (by rw[z9,<- hl];exact h3) (by omega) (by rw[hk];exact⟨_,I',q⟩)
theorem jk(lo hi:Option Int)(n:Nat):(sliceBounds lo hi none n).1=((HT.bW n 0 lo:Nat):Int)/\(sliceBounds lo hi none n).2.1=((HT.bW n n hi:Nat):Int)/\(sliceBounds lo hi none n).2.2=1:=by
 refine⟨?_,?_,rfl⟩
 ·cases lo with
  |none=>simp[sliceBounds,HT.bW]
  |some i=>
   simp only[sliceBounds,HT.bW,Option.getD_none,show(1:Int) > 0 by decide,O5];by_cases h:i < 0
   ·simp only[h,O5] <;> omega
   ·simp only[h,O2] <;> omega
 ·cases hi with
  |none=>simp[sliceBounds,HT.bW]
  |some i=>
   simp only[sliceBounds,HT.bW,Option.getD_none,show(1:Int) > 0 by decide,O5];by_cases h:i < 0
   ·simp only[h,O5] <;> omega
   ·simp only[h,O2] <;> omega
theorem oy(au:List Value)(lo hi:Option Int):slicePick au.toArray lo hi none=((au.drop (HT.bW au.length 0 lo)).take (HT.bW au.length au.length hi - HT.bW au.length 0 lo)).toArray:=by obtain⟨h1,h2,h3⟩:=jk lo hi au.toArray.size;unfold slicePick;rw[h1,h2,h3];simp only[sliceRange_one,pick_run,z9] <;> rfl
def RS(K:O8):V->Option Int->Option Int->Hp->VK->Prop:=λ x lo hi H Q=>∃a xs,x=.ref a/\dF K H a xs/\∀p,H p=none->Q (.ref p) (upd H p (.lst (uY xs lo hi)))
theorem Ho:zv X (RS X.K):=by intro pins s σ H x v vl vu lo hi sl Q I rx hs pl pu h;obtain⟨a,xs,rfl,hx,q⟩:=h;cases rx;obtain⟨au,r,ht,hz⟩:=I.list hx;have hlen:=r.length;refine⟨"list",_,slot_list_getitem.lookup,ht.isList.typeIs,?_⟩;refine wpAny_getItem_list_slice ht.isList hs pl pu .none (by simp) ?_ (by rw[z9] <;> omega);rw[oy,<- hlen];refine⟨.ref s.heap.objs.size,_,I.laid (t':=s.toks) (o:=.lst (uY xs lo hi)) (λ b ob q=>j7 _ q) (L8 _) ?_,rfl,q _ (I.bq.fresh (L8 _))⟩;exact⟨K5 (kZ xs lo hi) hz,_,0,(r.drop (HT.bW xs.length 0 lo)).take (HT.bW xs.length xs.length hi - HT.bW xs.length 0 lo),q8 _ rfl⟩
def gC:V->Bool
 | .bu=>true
 | .bl _=>true
 | .int _=>true
 | .str _=>true
 |_=>false
def LV:V->V->Bool
 | .bu,.bu=>true
 | .bl a,.bl b=>a==b
 | .bl a,.int b=>(if a then 1 else 0)==b
 | .int a,.bl b=>a==(if b then 1 else 0)
 | .int a,.int b=>a==b
 | .str a,.str b=>a==b
 |_,_=>false
theorem Qd{A:Around}{s:Shared}{y x:V}{u v:Value}(ry:RelV y u)(rx:RelV x v)(fy:gC y=true)(fx:gC x=true):SeqAt.EqAt A s u v (LV y x):=by
 cases y with
 |bu=>
  cases ry;cases x with
  |bu=>cases rx;exact SeqAt.EqAt.same _
  |bl b=>cases rx;exact SeqAt.EqAt.none_bool b
  |int b=>obtain⟨t,rfl⟩:=rx;exact SeqAt.EqAt.none_int b t
  |str b=>obtain⟨t,rfl⟩:=rx;exact SeqAt.EqAt.none_str b t
  |_=>exact absurd (show false=true from fx) u3
 |bl a=>
  cases ry;cases x with
  |bu=>cases rx;exact SeqAt.EqAt.bool_none a
  |bl b=>cases rx;exact SeqAt.EqAt.bool_bool a b
  |int b=>obtain⟨t,rfl⟩:=rx;exact SeqAt.EqAt.bool_int a b t
  |str b=>obtain⟨t,rfl⟩:=rx;exact SeqAt.EqAt.bool_str a b t
  |_=>exact absurd (show false=true from fx) u3
 |int a=>
  obtain⟨t',rfl⟩:=ry;cases x with
  |bu=>cases rx;exact SeqAt.EqAt.int_none a t'
  |bl b=>cases rx;exact SeqAt.EqAt.int_bool a t' b
  |int b=>obtain⟨t,rfl⟩:=rx;exact SeqAt.EqAt.int_int a t' b t
  |str b=>obtain⟨t,rfl⟩:=rx;exact SeqAt.EqAt.int_str a t' b t
  |_=>exact absurd (show false=true from fx) u3
 |str a=>
  obtain⟨t',rfl⟩:=ry;cases x with
  |bu=>cases rx;exact SeqAt.EqAt.str_none a t'
  |bl b=>cases rx;exact SeqAt.EqAt.str_bool a t' b
  |int b=>obtain⟨t,rfl⟩:=rx;exact SeqAt.EqAt.str_int a t' b t
  |str b=>obtain⟨t,rfl⟩:=rx;exact SeqAt.EqAt.str_str a t' b t
  |_=>exact absurd (show false=true from fx) u3
 |_=>exact absurd (show false=true from fy) u3
def KC(x:V)(u:Value):Bool:=match u with
 | .none=>LV .bu x
 | .bool b=>LV (.bl b) x
 | .int i _=>LV (.int i) x
 | .str z _=>LV (.str z) x
 |_=>false
theorem FF{x y:V}{u:Value}(r:RelV y u)(f:gC y=true):KC x u=LV y x:=by
 cases y with
 |bu=>cases r;rfl
 |bl b=>cases r;rfl
 |int i=>obtain⟨t,rfl⟩:=r;rfl
 |str z=>obtain⟨t,rfl⟩:=r;rfl
 |_=>exact absurd (show false=true from f) u3
theorem rZ{x:V}:∀{xs:List V} {us:List Value},Vals xs us->xs.all gC=true->us.any (KC x)=xs.any λ y=>LV y x
 |_,_,.nil,_=>rfl
 |y::xs,u::us,.cons r t,f=>by rw[all_cons,B1]at f;rw[any_cons,any_cons,FF r f.1,rZ t f.2]
theorem mY{A:Around}{s:Shared}{x:V}{v:Value}(rx:RelV x v)(fx:gC x=true):∀{xs:List V} {us:List Value},Vals xs us->xs.all gC=true->∀u∈us,SeqAt.EqAt A s u v (KC x u)
 |_,_,.nil,_=>λ u hu=>by cases hu
 |y::xs,u::us,.cons r t,f=>λ u' hu=>by
  rw[all_cons,B1]at f;rcases J0.mp hu with rfl|hu
  ·rw[FF r f.1];exact Qd r rx f.1 fx
  ·exact mY rx fx t f.2 u' hu
def LL(x:V)(xs:List V):Bool:=xs.any λ y=>LV y x
def Z1(K:O8)(neg:Bool):R2:=λ x y H Q=>∃p xs,y=.ref p/\(dF K H p xs\/fZ K H p xs)/\gC x=true/\xs.all gC=true/\Q (.bl (if neg then !LL x xs else LL x xs)) H
theorem Am:eQ X (compareOp .In) (Z1 X.K false):=by
 intro pins s σ H x y v u Q I rx ry h;obtain⟨p,xs,rfl,hq,fx,fs,q⟩:=h;cases ry;rcases hq with hq|hq
 ·obtain⟨au,r,pl,hz⟩:=I.list hq;refine SeqAt.in_listAt (KC x) pl.isList (λ w hw=>mY rx fx r fs w (by simpa using hw)) ⟨.bl _,H,I,rfl,?_⟩;rw[show au.toArray.any (KC x)=au.any (KC x) by simp,rZ r fs];exact q
 ·obtain⟨au,r,pl,hz⟩:=I.tuple hq;refine SeqAt.in_tupleAt (KC x) pl (λ w hw=>mY rx fx r fs w (by simpa using hw)) ⟨.bl _,H,I,rfl,?_⟩;rw[show au.toArray.any (KC x)=au.any (KC x) by simp,rZ r fs];exact q
theorem qV:eQ X (compareOp .NotIn) (λ x y H Q=>∃i j,x=.str i/\y=.str j/\Q (.bl (!(!(Builtin.Str.occurrences j i 0 j.length 1).isEmpty))) H):=by intro pins s σ H x y v u Q I rx ry h;obtain⟨i,j,rfl,rfl,q⟩:=h;obtain⟨t,rfl⟩:=rx;obtain⟨t',rfl⟩:=ry;exact notIn_str ⟨.bl _,H,I,rfl,q⟩
theorem rW:cK X (.builtin "len") (λ xs H Q=>∃p ys,xs=[.ref p]/\(dF X.K H p ys\/fZ X.K H p ys)/\Q (.int ys.length) H):=by
 intro pins s σ H xs us Q I r h;obtain⟨p,ys,rfl,hq,q⟩:=h;obtain⟨u,rfl,rx⟩:=vals1 r;cases rx;have hn:=j_;rcases hq with hq|hq
 ·obtain⟨au,r',pl,hz⟩:=I.list hq;have hlen:=r'.length;exact Calls.call_len_list pl.isList (by simp only[z9] <;> omega) ⟨.int ys.length,H,I.tok _,⟨s.toks+1,by rw[z9,hlen]⟩,q⟩
 ·obtain⟨au,r',pl,hz⟩:=I.tuple hq;have hlen:=r'.length;exact len_tuple pl (by simp only[z9] <;> omega) ⟨.int ys.length,H,I.tok _,⟨s.toks+1,by rw[z9,hlen]⟩,q⟩
theorem rV:cK X (.builtin "len") (λ xs H Q=>∃z,xs=[.str z]/\z.length<=sizeLine/\Q (.int z.length) H):=by intro pins s σ H xs us Q I r h;obtain⟨z,rfl,hz,q⟩:=h;obtain⟨u,rfl,t,rfl⟩:=vals1 r;have hn:=j_;exact len_str (by omega) ⟨.int z.length,H,I.tok _,⟨_,rfl⟩,q⟩
theorem cK.or {f:Value}{r r':List V->Hp->VK->Prop}(h:cK X f r)(h':cK X f r'):cK X f (λ xs H Q=>r xs H Q\/r' xs H Q):=by
 intro pins s σ H xs us Q I rs q;rcases q with q|q
 ·exact h pins s σ H xs us Q I rs q
 ·exact h' pins s σ H xs us Q I rs q
theorem rT:cK X (.type "list") (λ xs H Q=>∃p ys,xs=[.ref p]/\(dF X.K H p ys\/fZ X.K H p ys)/\∀l,H l=none->Q (.ref l) (upd H l (.lst ys))):=by
 intro pins s σ H xs us Q I r h;obtain⟨p,ys,rfl,hq,q⟩:=h;obtain⟨u,rfl,rx⟩:=vals1 r;cases rx;have fin:∀(au:List Value),Vals ys au->ys.length<=sizeLine->∀(h':Heap) (c':Nat),(∀b o',s.heap.get? b=some o'->h'.get? b=some o')->
   h'.get? s.heap.objs.size=some {cls:=.type "list",dict:=none,data:=.seq au.toArray c',slots:=#[]}->EP X pins σ Q (.ref s.heap.objs.size) {s with heap:=h'}:=λ au r' hz h' c' kp e=>
  ⟨.ref s.heap.objs.size,_,I.laid (t':=s.toks) kp (L8 _) (show bD X.prog X.w _ h' _ (.lst ys)from⟨hz,au,c',r',e⟩),rfl,q _ (I.bq.fresh (L8 _))⟩
 rcases hq with hq|hq
 ·obtain⟨au,r',pl,hz⟩:=I.list hq;have hlen:=r'.length;obtain⟨o,ho,hc,n,hd⟩:=pl.isList;exact call_list_seq p (.inl rfl) ho hc hd (λ h' c' kp e=>fin au r' hz h' c' kp e) (by simp only[z9] <;> omega)
 ·obtain⟨au,r',pl,hz⟩:=I.tuple hq;have hlen:=r'.length;obtain⟨o,ho,hc,n,hd⟩:=pl;exact call_list_seq p (.inr rfl) ho hc hd (λ h' c' kp e=>fin au r' hz h' c' kp e) (by simp only[z9] <;> omega)
theorem oS:cK X (.type "tuple") (λ xs H Q=>∃p ys,xs=[.ref p]/\((dF X.K H p ys/\∀l,H l=none->Q (.ref l) (upd H l (.tup ys)))\/(fZ X.K H p ys/\Q (.ref p) H))):=by
 intro pins s σ H xs us Q I r h;obtain⟨p,ys,rfl,h⟩:=h;obtain⟨u,rfl,rx⟩:=vals1 r;cases rx;rcases h with⟨hq,q⟩|⟨hq,q⟩
 ·obtain⟨au,r',pl,hz⟩:=I.list hq;have hlen:=r'.length;refine call_tuple_list pl.isList (λ h' kp=>?_) (by simp only[z9] <;> omega);have I1:Inv X pins σ H {s with heap:=h'}:=I.kept (t':=s.toks) kp;have I2:Inv X pins σ (upd H h'.objs.size (.tup ys)) {s with heap:=h'.push {cls:=.type "tuple",data:=.seq au.toArray}}:=
   I1.laid (t':=s.toks) (λ b o e=>j7 _ e) (L8 _) (show bD X.prog X.w _ _ _ (.tup ys)from⟨hz,au,r',IsTup.new _ _⟩)
  exact⟨.ref h'.objs.size,_,I2,rfl,q _ (I1.bq.fresh (L8 _))⟩
 ·obtain⟨au,r',pl,hz⟩:=I.tuple hq;exact call_tuple_same pl ⟨.ref p,H,I,rfl,q⟩
def VS(K:O8)(T:String)(x:V)(H:Hp):Prop:=match x with
 | .str _=>T="str"
 | .int _=>T="int"
 | .ref p=>(T="list"/\∃xs,dF K H p xs)\/(T="tuple"/\∃o,K.lookup p=some o/\o.cls=.type "tuple"/\o.dict=none)\/
   (T="dict"/\((∃aw,H p=some (.dK aw))\/∃aw,H p=some (.dT aw)))\/(T="set"/\∃S n,H p=some (.set S n))
 |_=>False
theorem Mv{pins:List (Addr×Obj)}{σ:St}{H:Hp}{s:Shared}{T:String}{x:V}{v:Value}(I:Inv X pins σ H s)(r:RelV x v)(ty:VS X.K T x H):s.TypeIs v T/\∀a,v=.ref a->∃ob,s.heap.get? a=some ob/\ob.dict=none:=by
 cases x with
 |str z=>obtain⟨t,rfl⟩:=r;cases(show T="str" from ty);exact⟨typeIs_str s z t,λ _ e=>nomatch e⟩
 |int i=>obtain⟨t,rfl⟩:=r;cases(show T="int" from ty);exact⟨typeIs_int s i t,λ _ e=>nomatch e⟩
 |ref p=>
  cases r;rcases ty with⟨rfl,xs,hq⟩|⟨rfl,o,hk,hc,hd⟩|⟨rfl,hk⟩|⟨rfl,S,n,hk⟩
  ·obtain⟨au,_,pl,_⟩:=I.list hq;refine⟨pl.isList.typeIs,λ a e=>?_⟩;cases e;obtain⟨o,n,e,c,hd,_⟩:=pl;exact⟨o,e,hd⟩
  ·refine⟨⟨o,I.gB p o hk,hc⟩,λ a e=>?_⟩;cases e;exact⟨o,I.gB _ o hk,hd⟩
  ·have z:∃o,s.heap.get? p=some o/\o.ExactDict:=by
    rcases hk with⟨aw,hk⟩|⟨aw,hk⟩
    ·obtain⟨_,_,_,_,o,_,_,e,ex,_⟩:=I.bq p _ hk;exact⟨o,e,ex⟩
    ·obtain⟨_,_,_,_,o,_,_,e,ex,_⟩:=I.bq p _ hk;exact⟨o,e,ex⟩
   obtain⟨o,e,ex⟩:=z;refine⟨⟨o,e,ex.1⟩,λ a e2=>?_⟩;cases e2;exact⟨o,e,ex.2.1⟩
  ·obtain⟨o,_,_,_,e,ex,_⟩:=I.bq p _ hk;refine⟨⟨o,e,ex.1⟩,λ a e2=>?_⟩;cases e2;exact⟨o,e,ex.2.1⟩
 |_=>exact False.elim ty
def ZT(K:O8)(T:String)(r:V->List V->Hp->VK->Prop)(to:TE)(t:TA):TE:=λ σ H Q=>to σ H λ x H1=>VS K T x H1/\t σ H1 λ xs H2=>r x xs H2 Q
variable {o e:Expr}{es:List Expr}{to:TE}{t:TA}{name:Str}{apos bC:Pos}{T id:String}{r:V->List V->Hp->VK->Prop}
theorem LG(pa:PlainAttrs T)(slot:Slot T name id)(hty:typeOf (.builtin id)=pure (.type "method_descriptor"))(hm:Yh X id r)(ho:PE X o to)(ha:PA X (e::es) t) (hbase:attributeBase o name X.env (eval o X.env)=eval o X.env:=by rfl) (hfew:((backTo bC (starEach (e::es) X.env)).all (λ x=>!x.1)&&(backToKw bC (keywordEach [] X.env)).all (λ x=>x.1.isSome)
   &&decide ((e::es).length+([]:List Keyword).length+(if([]:List Keyword).isEmpty then 0 else 1) < 30))=true:=by rfl)
  (hline:(apos.endLine==bC.line)=true:=by rfl) (hs:starEach (e::es) X.env=(false,eval e X.env)::starEach es X.env:=by rfl) (hplain:(backTo bC (starEach es X.env)).any (·.1)=false:=by rfl):
  PE X (.Call (.Attribute o name apos) (e::es) [] bC) (ZT X.K T r to t):=by
 intro pins s σ H Q I h;refine wpAny_Call_method_late hbase hfew hline rfl (cG (ho pins s σ H _ I h) λ v s1 ⟨x,H1,I1,r1,ty,q1⟩=>?_);obtain⟨h1,h2⟩:=Mv I1 r1 ty;refine⟨T,id,pa,slot,hty,h1,h2,?_⟩;have hA:=ha bC pins s1 σ H1 _ I1 q1;rw[hs]at hA ⊢;refine Calls.callWith_builtin (by show(false||(backTo bC (starEach es X.env)).any (·.1))=false;rw[hplain] <;> rfl) (Calls.evalArgs_plain ?_);exact cG hA λ us s2 ⟨vs,H2,I2,r2,q2⟩=>hm pins s2 σ H2 x vs v us Q I2 r1 r2 q2
end
def MtM(X:Cx)(id:String)(r:V->List V->Hp->VK->Prop):Prop:=
 ∀(pins:List (Addr×Obj)) (s:Shared) (σ:St) (H:Hp) (x:V) (xs:List V) (v:Value) (us:List Value) (Q:VK),Inv X pins σ H s->RelV x v->Vals xs us->r x xs H Q->
  wpAny (model X.prog X.w) X.A (call (.builtin id) (v::us)) (EP X pins σ Q) X.xe s
theorem Vals.one:∀{x:V} {us:List Value},Vals [x] us->∃u,us=[u]/\RelV x u
 |_,_,.cons r .nil=>⟨_,rfl,r⟩
theorem Vals.rep {xs:List V}{us:List Value}(h:Vals xs us):∀k:Nat,Vals (List.replicate k xs).flatten (List.replicate k us).flatten
 |0=>.nil
 |k+1=>by rw[p8,p8,y6,y6];exact Vals.append h (Vals.rep h k)
theorem foldl_rep(au:List Value):∀(k:Nat) (acc:List Value),
  List.foldl (λ x1 x2=>x1++x2) acc.toArray (List.replicate k au.toArray)=(acc++(List.replicate k au).flatten).toArray
 |0,acc=>by simp
 |k+1,acc=>by
  have e:acc.toArray++au.toArray=(acc++au).toArray:=by simp
  have e2:(acc++au)++(List.replicate k au).flatten=acc++(List.replicate (k+1) au).flatten:=by rw[p8,y6,append_assoc]
  rw[<- e2,<- foldl_rep au k (acc++au),<- e,p8,foldl_cons]
section
variable {X:Cx}{pins:List (Addr×Obj)}{σ:St}{H:Hp}{s:Shared}{l b:Addr}{xs ys zs:List V}
theorem Inv.WD {au its':List Value}{n:Nat}{f:Array Value->Array Value}{t':Nat}(I:Inv X pins σ H s)(hH:H l=some (.lst xs)) (e:s.heap.get? l=some {cls:=.type "list",data:=.seq au.toArray n}) (hf:f au.toArray=its'.toArray) (hv:Vals ys its') (hz:ys.length<=sizeLine):Inv X pins σ (upd H l (.lst ys)) {s with heap:=s.heap.update l (Obj.mapSeq f),toks:=t'}:=by have q:=PySem.IsL.update e f;rw[hf]at q;refine I.write (x:=l) (e:=l) (by rw[hH];exact trivial) (.inl rfl) (λ b' u hb hu=>(j8 s.heap (Obj.mapSeq f) (O4 hb)).trans hu) ⟨_,q⟩ ?_;exact⟨hz,its',_,hv,q⟩
theorem Inv.SQ {au:List Value}{t':Nat}(I:Inv X pins σ H s)(hv:Vals ys au)(hz:ys.length<=sizeLine):Inv X pins σ (upd H s.heap.objs.size (.lst ys)) {s with heap:=s.heap.push {cls:=.type "list",data:=.seq au.toArray},toks:=t'}:=
 I.laid (λ _ _ q=>j7 _ q) (L8 _) ⟨hz,au,0,hv,q8 _ rfl⟩
theorem Inv.fresh (I:Inv X pins σ H s):H s.heap.objs.size=none:=I.bq.fresh (L8 _)
theorem Inv.JL (I:Inv X pins σ H s)(hH:H l=some (.lst xs)):xs.length<=sizeLine/\∃(au:List Value) (n:Nat),Vals xs au/\xs.length=au.length/\s.heap.get? l=some {cls:=.type "list",data:=.seq au.toArray n}:=by obtain⟨z,au,n,r,e⟩:=I.bq l _ hH;exact⟨z,au,n,r,r.length,e⟩
theorem Em{n:Nat}(h:n<=sizeLine):Builtin.List.listTooLong n=false:=by unfold Builtin.List.listTooLong;exact C3 (by omega)
end
section
variable {X:Cx}
def yj:V->List V->Hp->VK->Prop:=λ x vs H Q=>∃l xs y,x=.ref l/\vs=[y]/\H l=some (.lst xs)/\xs.length < sizeLine/\Q .bu (upd H l (.lst (xs++[y])))
theorem AB:MtM X "list.append" yj:=by intro pins s σ H x vs v us Q I rx rv h;obtain⟨l,xs,y,rfl,rfl,hH,hz,q⟩:=h;cases rx;obtain⟨u,rfl,ru⟩:=rv.one;obtain⟨z,au,n,r,hl,e⟩:=I.JL hH;refine N9 F.slot_list_append ⟨_,e,rfl⟩ F.entry_list_append (F.args_list_append_2 _ _) (PySem.list_append l au.toArray n u (by rw[z9];omega)) ⟨e,?_⟩;refine⟨.bu,_,I.WD (its':=au++[u]) hH e (by simp) (r.append (.cons ru .nil)) ?_,rfl,q⟩;rw[u4,k9];omega
def Wb:R2:=λ x y H Q=>∃l b xs zs,x=.ref l/\y=.ref b/\H l=some (.lst xs)/\H b=some (.lst zs)/\xs.length+zs.length<=sizeLine/\∀p,H p=none->Q (.ref p) (upd H p (.lst (xs++zs)))
theorem ON:eQ X (binaryOp .Add) Wb:=by
 intro pins s σ H x y v u Q I rx ry h;obtain⟨l,b,xs,zs,rfl,rfl,hH,hB,hz,q⟩:=h;cases rx;cases ry;obtain⟨z,au,n,r,hl,e⟩:=I.JL hH;obtain⟨z2,JZ,n2,r2,Tn,e2⟩:=I.JL hB;refine PySem.P.add_list e e2 ?_ (by rw[z9,z9];omega);have ea:au.toArray++JZ.toArray=(au++JZ).toArray:=by simp
 rw[ea];exact⟨.ref _,_,I.SQ (t':=s.toks) (r.append r2) (by rw[u4];omega),rfl,q _ I.fresh⟩
def V':R2:=λ x y H Q=>∃l k xs,x=.ref l/\y=.int k/\H l=some (.lst xs)/\-(2^63)<=k/\k < 2^63/\xs.length*k.toNat<=sizeLine/\
 ∀p,H p=none->Q (.ref p) (upd H p (.lst (List.replicate k.toNat xs).flatten))
theorem len_rep{α:Type}(xs:List α)(k:Nat):(List.replicate k xs).flatten.length=k*xs.length:=by
 induction k with
 |zero=>simp
 |succ k ih=>rw[p8,y6,u4,ih,Nat.succ_mul,Nat.add_comm]
theorem OE:eQ X (binaryOp .Mult) V':=by
 intro pins s σ H x y v u Q I rx ry h;obtain⟨l,k,xs,rfl,rfl,hH,h1,h2,hz,q⟩:=h;cases rx;obtain⟨t,rfl⟩:=ry;obtain⟨z,au,n,r,hl,e⟩:=I.JL hH;have hlen:au.toArray.size*k.toNat<=sizeLine:=by rw[z9,<- hl];exact hz
 have Xy:¬au.toArray.size*k.toNat > (2^63 - 1) / 8:=by
  have:(sizeLine:Nat)<=(2^63 - 1) / 8:=by decide
  omega
 have TC:¬(!Builtin.List.listFitsIndex k)=true:=by rw[fitsIndex_both h1 h2];exact u3
 have Tj:¬Builtin.List.listTooLong (au.toArray.size*k.toNat)=true:=by rw[Em hlen];exact u3
 have PL:List.foldl (λ x1 x2=>x1++x2) #[] (List.replicate (if au.toArray.isEmpty=true then 0 else k.toNat) au.toArray)=(List.replicate k.toNat au).flatten.toArray:=by
  have f0:∀m:Nat,List.foldl (λ x1 x2=>x1++x2) #[] (List.replicate m au.toArray)=(List.replicate m au).flatten.toArray:=λ m=>by have:=foldl_rep au m [];rw[nil_append]at this;exact this
  rw[f0];cases au with
  |nil=>simp
  |cons a r'=>rw[O7 (by simp)]
 refine wpAny_binaryOp_repeat_ref (T:="list") (U:="int") (by decide) ⟨_,e,rfl⟩ (λ s'=>typeIs_int s' k t) noFill_list_mul F.fills_int_mul F.slot_int_rmul repeat_list F.slot_int_index.lookup
  (N9 F.slot_int_rmul (typeIs_int s k t) F.entry_int_rmul (F.args_int_rmul_2 _ _) (int___rmul___int_list k t l au.toArray n)
   ⟨e,rfl,⟨_,e,rfl⟩,N9 F.slot_list_mul ⟨_,e,rfl⟩ F.entry_list_mul (F.args_list_mul_2 _ _) (AutoListH.list___mul___list_int_3 l au.toArray n k t TC Xy Tj) ⟨e,?_⟩⟩)
 rw[PL];exact⟨.ref _,_,I.SQ (t':=s.toks) (r.rep k.toNat) (by rw[len_rep,Nat.mul_comm];exact hz),rfl,q _ I.fresh⟩
end
section
variable {prog:Program}{w:World}{A:Around}{E:Value->Shared->Prop}{s:Shared}
set_option maxRecDepth 100000 in
end
end L2
namespace ZE
open PySem PySem.W PySem.Calls PyProof.Rows
theorem lA{P:Params}{h:Heap}:∀(ns:List Int) (vs:List Value),WellAll P h vs (ns.map WData.int)->IntsAre vs ns:=by
 intro ns
 induction ns with
 |nil=>intro vs w;rw[map_nil]at w;cases w;exact .nil
 |cons n ns ih=>
  intro vs w;rw[H9]at w;cases w with
  |cons a b=>cases a;exact .cons _ _ (ih _ b)
theorem zQ{l:OpenLaw}{n:Nat}(hn:l.most=some n){P:Params}{h:Heap}{args:List WData}{vals:List Value} (oJ:l.row.toRowW.claim.pre args=true) (W5:WellAll P h vals args):∃a vs ns,vals=[Value.ref a]/\args=[WData.list (ns.map WData.int)]/\h.get? a=some {cls:=.type "list",data:=.seq vs.toArray}/\IntsAre vs ns/\ns.length<=n:=by
 have hsh:WShape.hasAll [] args [.list .int]=true:=(pre_splitW oJ).1;have hc:l.pre.holds [] {args:=args}=true:=(pre_splitW oJ).2;obtain⟨d,r,rfl,h1,h2⟩:=hasAllW_cons hsh;obtain rfl:=hasAllW_nil h2;obtain⟨xs,rfl,h3⟩:=hasW_list h1;obtain⟨ns,rfl⟩:=items_int h3;have hlen:ns.length<=n:=by
  unfold OpenLaw.pre at hc;have h4:(WTm.not (.lt (.lit (.int (n:Int))) (.len (.arg 0)))).holds [] {args:=[.list (ns.map .int)]}=true:=by have h4:=(holds_andW hc).1;rw[hn]at h4;exact h4
  have h5:=condW_of h4 (w_not (w_lt w_lit (w_len_list (w_arg rfl))));rw[D3]at h5;refine A4 λ q=>?_;have q':(n:Int) < ((ns.length:Nat):Int):=by omega
  first
   |(rw[E7 q']at h5;exact absurd h5 (by decide))
   |(simp at h5;omega)
 cases W5 with
 |cons w1 w2=>
  cases w2;cases w1 with
  |list ho uB=>exact⟨_,_,ns,rfl,rfl,ho,lA ns _ uB,hlen⟩
theorem Ae(l:OpenLaw)(args:List WData):l.row.toRowW.claim.post args (.bool true) args=true:=
 postW_of (r:=l.row.toRowW) (X:=(true==true))
  (show WShape.has [] (.bool true) .bool=true by first|rfl|decide|simp[WShape.has,WShape.arms,WShape.armsAll])
  (show(WTm.eq .res (.lit (.bool true))).value [] {args:=args,res:=some (.bool true),after:=args}=some (.bool (true==true))from w_eq_bool (w_res rfl) w_lit) rfl
theorem vk{l:OpenLaw}{n:Nat}{q:Program}{loose:List Str}{XP:(Str->Option Value)->Heap->Prop}{YP:World->Heap->Prop}{d:DefRec} (hn:l.most=some n) (Fm:d.params.defaults=[]) (call:∀(w:World) (s₀ s₁:Shared) (mg mb:Str->Option Value) (fa:Addr) (o:Obj) (pm cd doc:Value) (a:Addr) (vs:List Value) (ns:List Int),
   Ground q loose [] XP w s₀ mg mb s₁.heap->YP w s₁.heap->
   s₁.heap.get? fa=some o->o.data=.func (docDef d.name d.params d.body d.scope pm cd doc)->s₁.heap.CodeRec cd d.name->mg d.name=some (.ref fa)->
   s₁.heap.get? a=some {cls:=.type "list",data:=.seq vs.toArray}->IntsAre vs ns->ns.length<=n->s₁.gens=#[]->
   codeAny (model l.prog w) callerA (.call (.ref fa) ⟨[.ref a],[]⟩) (λ r s'=>r=.ok (.ret (.bool true))/\OldK s₁.heap s'.heap/\s'.os=s₁.os/\AllBare s'.gens) s₁):
  WalkO q loose XP YP l.row.toRowW d [] (λ f vs=>PySem.call f vs):=by
 intro w s₀ s₁ mg mb G Y fa o pm cd doc dV kV ho hd hcd hD Tf hg args vals as oJ aaW hrd W5 hlo;obtain rfl:dV=.none:=Dflts.none hD Fm;obtain rfl:kV=.none:=Dflts.noKw hD;obtain⟨a,vs,ns,rfl,rfl,Ff,hints,hlen⟩:=zQ hn oJ W5;refine enter_call (K9 (call w s₀ s₁ mg mb fa o pm cd doc a vs ns G Y ho (fd_plain hd) hcd Tf Ff hints hlen hg) λ r s' hq=>?_);obtain⟨rfl,h2,h3,h4⟩:=hq;exact⟨.inl ⟨.bool true,.bool true,[],rfl,λ _=>rfl,.bool true,Ae l _,λ _=>⟨List.Pairwise.nil,λ _ hm=>(nomatch hm)⟩⟩,h2,h3,h4⟩
end ZE
namespace L2
open PySem PySem.Spec PyProof.Rows
theorem pe:∀{vs:List Value} {ns:List Int},IntsAre vs ns->Vals (ns.map V.int) vs
 |_,_,.nil=>.nil
 |_,_,.cons n t h=>.cons ⟨t,rfl⟩ (pe h)
def Lj(H:Hp):Prop:=∀b,H b=none\/∃o xs,H b=some (.lW o (.lst xs))
theorem EA{P:Program}{w:World}{K:O8}{mg mb:Str->Option Value}{CX:BR}{k:Nat}{fa a:Addr}{fd:FuncData}{x:Str}{sp:Sp}{s₁:Shared}{vs:List Value}{ns:List Int} (KX:K.In s₁.heap) (Q4:s₁.heap.Ns mainGlobals mg) (hb:s₁.heap.Ns builtinsNs mb) (hbb:∀x:Str,x≠"__name__"->mb x=bootBuiltins x) (Xq:s₁.heap.NoLimit) (hg:s₁.gens=#[]) (ha:s₁.heap.get? a=some {cls:=.type "list",data:=.seq vs.toArray}) (hi:IntsAre vs ns) (hl:ns.length<=sizeLine) (hr:bK k callerA) (F:∀base:Heap,K.In base->base.Ns mainGlobals mg->bx P w K mg base CX k fa fd [x] sp) (TL:∀(s:Shared) (u:Value),BindsTo s fd ⟨[u],[]⟩ [(x,u)]) (AQ:∀H:Hp,Lj H->dF K H a (ns.map V.int)->sp [.ref a] H (λ v _=>v=.bl true) λ _ _ _=>False) (XI:∀H e s',CX [] H s₁ (λ _ _ _=>False) e s'->False):codeAny (model P w) callerA (.call (.ref fa) ⟨[.ref a],[]⟩) (λ r s'=>r=.ok (.ret (.bool true))/\OldK s₁.heap s'.heap/\s'.os=s₁.os/\AllBare s'.gens) s₁:=by
 have rv:=pe hi;have WK:=hi.length;have core:∀H:Hp,Lj H->dF K H a (ns.map V.int)->f_ P w H s₁.heap->(∀b,H b≠none->b=a)->(H a≠none->K.lookup a=none)->
   codeAny (model P w) callerA (.call (.ref fa) ⟨[.ref a],[]⟩) (λ r s'=>r=.ok (.ret (.bool true))/\OldK s₁.heap s'.heap/\s'.os=s₁.os/\AllBare s'.gens) s₁:=by
  intro H hO hS bq hA hK;have zo:∀{b:Addr} {o:Obj},s₁.heap.get? b=some o->H b=none->(rF s₁.heap H).get? b=some o:=λ e n=>Fi e n;have SJ:∀{b:Addr} {o:Obj} {es:Array DictEntry} {ep:Nat},s₁.heap.get? b=some o->o.data=.dict es ep->H b=none:=λ{b o es ep} e d=>by
   cases q:H b with
   |none=>rfl
   |some u=>have e':b=a:=hA b (by rw[q];simp);subst e';rw[ha]at e;cases e;have d':Data.seq vs.toArray _=Data.dict es ep:=d;cases d'
  have Vf:∀{b:Addr} {m:Str->Option Value},s₁.heap.Ns b m->(rF s₁.heap H).Ns b m:=λ{b m} ⟨o,es,ep,e,d,r⟩=>⟨o,es,ep,zo e (SJ e d),d,r⟩;have Ze:K.In (rF s₁.heap H):=λ b o e=>zo (KX b o e) (by
   cases q:H b with
   |none=>rfl
   |some u=>
    have e':b=a:=hA b (by rw[q];simp);subst e';rw[hK (by rw[q];simp)]at e;cases e)
  have hM:Mod K mg (rF s₁.heap H):=⟨Ze,Vf Q4,⟨mb,Vf hb,hbb⟩,let⟨mc,h1,h2⟩:=Xq;⟨mc,Vf h1,h2⟩⟩;have e0:oh P w K mg (rF s₁.heap H) callerA [] s₁ H:=⟨rfl,hM,λ b o e=>Jy e,K7 (AS _ _),trivial,λ b hb=>absurd (show b∈([]:List Addr)from hb) (by simp),bq,.of_eq hg⟩;refine K9 ((F _ Ze (Vf Q4)).run callerA [] s₁ H ⟨[.ref a],[]⟩ [.ref a] [.ref a] _ _ hr e0 (TL s₁ (.ref a)) (.cons rfl .nil) (AQ H hO hS)) λ r s' h=>?_;cases r with
  |error e=>exact(XI H e s' h).elim
  |ok fl=>
   cases fl with
   |next=>exact False.elim h
   |brk=>exact False.elim h
   |cont=>exact False.elim h
   |ret u=>
    obtain⟨v,H',os,bare,un,Xh,r',q⟩:=h;have q':v=.bl true:=q;subst q';obtain rfl:u=Value.bool true:=r';refine⟨rfl,OldK.of_keep λ b o e=>?_,os,bare⟩;cases q:H b with
    |none=>exact un.keep b o e q (by intro z;exact absurd (show b∈([]:List Addr)from z) (by simp)) (by simp)
    |some u=>
     rcases hO b with z|⟨ob,xs,z⟩
     ·rw[q]at z;cases z
     ·have z2:=un.fw b ob _ z;obtain⟨e1,_⟩:=bq b _ z;obtain⟨e2,_⟩:=Xh b _ z2;rw[e]at e1;cases e1;exact e2
 cases hk:K.lookup a with
 |some o=>have e:=KX a o hk;rw[ha]at e;cases e;refine core (λ _=>none) (λ _=>.inl rfl) (.inr ⟨_,vs.toArray,_,hk,rfl,rfl,rfl,by rw[z9,WK];exact hl,by simpa using rv⟩) (λ b u z=>by have z':(none:Option HO)=some u:=z;cases z') (λ b z=>absurd rfl z) λ z=>absurd rfl z
 |none=>
  refine core (λ b=>if b=a then some (.lW {cls:=.type "list",data:=.seq vs.toArray} (.lst (ns.map V.int)))else none) (λ b=>?_) (.inl (.inr ⟨{cls:=.type "list",data:=.seq vs.toArray},O6 rfl⟩)) (λ b u z=>?_) (λ b z=>?_) λ _=>hk
  ·by_cases hb:b=a
   ·exact .inr ⟨_,_,O6 hb⟩
   ·exact .inl (O7 hb)
  ·by_cases hb:b=a
   ·have z':=(O6 hb).symm.trans z;cases z';subst hb;exact⟨ha,by rw[D3];exact hl,vs,_,rv,ha⟩
   ·have z':=(O7 hb).symm.trans z;cases z'
  ·by_cases hb:b=a
   ·exact hb
   ·exact absurd (O7 hb) z
theorem G'{l:PySem.W.OpenLaw}{n k:Nat}{q:Program}{loose:List Str}{XP:(Str->Option Value)->Heap->Prop}{YP:World->Heap->Prop}{d:DefRec}{K:Params->O8}{CX:World->BR}{sp:World->Sp}{x:Str}
  (hn:l.most=some n) (Y0:n<=sizeLine) (Fm:d.params.defaults=[]) (hr:bK k callerA)
  (hY:∀(w:World) (h:Heap),YP w h->(K w.params).In h)
  (F:∀(w:World) (mg:Str->Option Value) (fa:Addr) (h:Heap),(K w.params).In h->h.Ns mainGlobals mg->mg d.name=some (.ref fa)->
   ∃fd:FuncData,(∀(s:Shared) (u:Value),BindsTo s fd ⟨[u],[]⟩ [(x,u)])/\
    ∀base:Heap,(K w.params).In base->base.Ns mainGlobals mg->bx l.prog w (K w.params) mg base (CX w) k fa fd [x] (sp w))
  (AQ:∀(w:World) (H:Hp) (a:Addr) (ns:List Int),ns.length<=n->Lj H->dF (K w.params) H a (ns.map V.int)->sp w [.ref a] H (λ v _=>v=.bl true) λ _ _ _=>False)
  (XI:∀(w:World) (H:Hp) (s:Shared) (e:Value) (s':Shared),CX w [] H s (λ _ _ _=>False) e s'->False):
  PySem.W.WalkO q loose XP YP l.row.toRowW d [] (λ f vs=>PySem.call f vs):=by
 refine ZE.vk hn Fm λ w s₀ s₁ mg mb fa o pm cd doc a vs ns G Y ho hd hcd Tf Ff hints hlen hg=>?_;have KX:=hY w _ Y;obtain⟨fd,hb,hF⟩:=F w mg fa _ KX G.T.g Tf;exact EA KX G.T.g G.T.b G.T.builtins G.T.nolimit hg Ff hints (K5 hlen Y0) hr hF hb (λ H hO hS=>AQ w H a ns hlen hO hS) λ H e s'=>XI w H s₁ e s'
def dS(s:Stmt):Arguments:=match s with
 | .FunctionDef _ a _ _ _ _ _ _ _ _=>a
 |_=>{posonlyargs:=[],args:=[],vararg:=none,kwonlyargs:=[],kw_defaults:=[],kwarg:=none,defaults:=[]}
def ck(s:Stmt):List Stmt:=match s with
 | .FunctionDef _ _ b _ _ _ _ _ _ _=>b
 |_=>[]
def ai(s:Stmt):Scope:=match s with
 | .FunctionDef _ _ _ _ _ _ sc _ _ _=>sc
 |_=>{kind:=.function,names:=[],isGenerator:=false,isCoroutine:=false}
abbrev eS:BR:=λ _ _ _ _ _ _=>False
abbrev E0:XK:=λ _ _ _=>False
theorem Si{X:Cx}:Passes eS X E0:=λ _ _ _ _ _ _ _ h=>h.elim
structure dU(K:O8)(x qual:Str)(st:Stmt)(f:Addr)(fd:FuncData):Prop where
 ex:∃(oc:Value) (od:Option Addr) (kV doc pm:Value) (an:Option Addr) (bT ct:Value) (Aj:Array (Option Value)),
  fd=PySem.W.fnOf x qual (dS st) (ck st) (ai st) .none kV doc pm an bT ct/\K.lookup f=some ⟨oc,od,.func fd,Aj⟩/\PySem.W.codeIn K bT qual=true
 kp:PySem.W.keepIn K (.ref f)=true
section
variable {P:Program}{w:World}{K:O8}{mg:Str->Option Value}{base:Heap}
theorem dU.ok {x qual:Str}{st:Stmt}{f:Addr}{fd:FuncData}{N ps:List Str}{k:Nat}{sp:Sp}(F:dU K x qual st f fd)(S:aH N ps (ai st))(len:∀vs H Q E,sp vs H Q E->vs.length=ps.length) (fP:∀(bT:Value) (A:Around) (outer:List Env) (s:Shared) (H:Hp) (vs:List V) (Q:VK) (E:XK),bK k (A.deeper (envOfC qual (ai st) s.heap.objs.size f bT))->sp vs H Q E->
   ∃t,oV (oQ eS P w K mg base N qual (ai st) f bT A outer s H E).sx (ck st) t/\t {nx:=λ _ H'=>Q .bu H',rt:=Q} (start N vs) H):bx P w K mg base eS (k+1) f fd ps sp:=by
 obtain⟨oc,od,kV,doc,pm,an,bT,ct,Aj,rfl,lk,hcd⟩:=F.ex;refine LQ lk hcd S len λ A outer s H vs Q E hr AQ=>?_;obtain⟨t,h,q⟩:=fP bT A outer s H vs Q E hr AQ;exact⟨t,h.sx,q⟩
theorem dU.binds {x qual:Str}{st:Stmt}{f:Addr}{fd:FuncData}{ps:List Str}(F:dU K x qual st f fd) (h:∀(kV doc pm:Value) (an:Option Addr) (bT ct:Value) (us:List Value),us.length=ps.length->bindArgs (PySem.W.fnOf x qual (dS st) (ck st) (ai st) .none kV doc pm an bT ct) ⟨us,[]⟩=pure (ps.zip us)):Binds K fd ps []:=by obtain⟨oc,od,kV,doc,pm,an,bT,ct,Aj,rfl,lk,hcd⟩:=F.ex;exact .all (h kV doc pm an bT ct)
theorem Fv{x qual:Str}{st:Stmt}{f:Addr}{oc:Value}{od an:Option Addr}{Aj:Array (Option Value)}{kV doc pm bT ct:Value}(l:K.lookup f=some ⟨oc,od,.func (PySem.W.fnOf x qual (dS st) (ck st) (ai st) .none kV doc pm an bT ct),Aj⟩) (c:PySem.W.codeIn K bT qual=true) (k:PySem.W.keepIn K (.ref f)=true):dU K x qual st f (PySem.W.fnOf x qual (dS st) (ck st) (ai st) .none kV doc pm an bT ct):=⟨⟨oc,od,kV,doc,pm,an,bT,ct,Aj,rfl,l,c⟩,k⟩
end
section
variable {X:Cx}
theorem pv(i:Nat){x:Str}{pos:Pos}(hN:X.N[i]?=some x:=by rfl)(hv:Uw X.env.scope x:=by first|exact Or.inl rfl|exact Or.inr (Or.inl rfl)|exact Or.inr (Or.inr rfl))(hd:(x==("__debug__":Str))=false:=by decide) (hcd:(x==("__classdict__":Str))=false:=by decide):PE X (.Name x pos) (Cm i):=DO hN hv hd hcd
end
end L2
namespace L2
open PySem PySem.Spec PyProof.Rows
section
variable {X:Cx}{pins:List (Addr×Obj)}{σ:St}{H:Hp}{s:Shared}
theorem Inv.sO {D:Addr}{o:HO}(I:Inv X pins σ H s)(hn:H D=none)(new:bD X.prog X.w (upd H D o) s.heap D o) (hL:D≠X.env.locals) (hs:X.s₀.heap.objs.size<=D) (hc:∀x c,X.env.cells.lookup x=some c->c≠D) (hp:∀p∈X.pn++pins,p.1≠D):Inv X pins σ (upd H D o) s:=by
 have ne:∀{b:Addr} {u:HO},H b=some u->b≠D:=λ e=>aU e hn;have nb:∀(b:Addr) (ob:Obj),X.s₀.heap.get? b=some ob->b≠D:=λ b ob e=>K1 (v8 (K2 e) hs);refine⟨I.ok,I.os,I.bare,⟨I.base.keep,I.base.slot,λ b ob e n hx=>?_,I.base.there,λ b xs e=>?_,λ b ob u e=>?_,λ b ps e=>?_⟩,I.loc,I.cell,?_,λ x c e=>?_,λ p GI=>?_,λ b u e=>?_,I.len⟩
 ·rw[aA (nb b ob e)];exact I.base.free b ob e n hx
 ·have q:=I.base.fE b xs e;rw[aA (ne q)];exact q
 ·have q:=I.base.fw b ob u e;rw[aA (ne q)];exact q
 ·obtain⟨m,q⟩:=I.base.gc b ps e;exact⟨m,by rw[aA (ne q)];exact q⟩
 ·rw[aA (O4 hL)];exact I.free
 ·rw[aA (hc x c e)];exact I.eG x c e
 ·obtain⟨e,n,r⟩:=I.pin p GI;exact⟨e,by rw[aA (hp p GI)];exact n,r⟩
 ·by_cases hb:b=D
  ·subst hb;rw[aJ]at e;cases e;exact new
  ·rw[aA hb]at e;exact(I.bq b u e).eh (λ c v _ q=>q) (λ c q=>by rw[aA (ne q)];exact q) λ c xs q=>by rw[aA (ne q)];exact q
end
def dP(cells:List (Str×Addr)):List (Str×NameKind)->List (Str×Addr)->List (Str×Addr)
 |[],acc=>acc
 |(n,k)::r,acc=>if(k==.free)=true then dP cells r ((n,(cells.lookup n).getD 0)::acc)else dP cells r acc
theorem iU{cells:List (Str×Addr)}:∀(names:List (Str×NameKind)) (acc:List (Str×Addr)),(∀n,(n,NameKind.free)∈names->∃c,cells.lookup n=some c)-> (∀x c,acc.lookup x=some c->cells.lookup x=some c)->∀x c,(dP cells names acc).lookup x=some c->cells.lookup x=some c
 |[],acc,_,h,x,c,e=>h x c e
 |(n,k)::r,acc,hc,h,x,c,e=>by
  unfold dP at e;by_cases hk:(k==NameKind.free)=true
  ·rw[O6 hk]at e;refine iU r _ (λ m hm=>hc m (l7 _ hm)) (λ y d q=>?_) x c e;have vD:k=NameKind.free:=by simpa using hk
   obtain⟨c0,e0⟩:=hc n (by rw[vD];exact s9);rw[A3]at q;cases hy:(y==n)with
   |true=>
    rw[hy]at q;have yn:y=n:=by simpa using hy
    subst yn;rw[e0]at q;rw[e0];exact q
   |false=>rw[hy]at q;exact h y d q
  ·rw[O7 hk]at e;exact iU r _ (λ m hm=>hc m (l7 _ hm)) h x c e
theorem hX{cells:List (Str×Addr)}{x:Str}:∀(names:List (Str×NameKind)) (acc:List (Str×Addr)),((acc.lookup x).isSome=true)->((dP cells names acc).lookup x).isSome=true
 |[],acc,h=>h
 |(n,k)::r,acc,h=>by
  unfold dP;split
  ·refine hX r _ ?_;rw[A3];cases hy:(x==n)with
   |true=>rfl
   |false=>exact h
  ·exact hX r _ h
theorem kh{cells:List (Str×Addr)}{x:Str}:∀(names:List (Str×NameKind)) (acc:List (Str×Addr)),(x,NameKind.free)∈names->((dP cells names acc).lookup x).isSome=true
 |[],acc,h=>absurd h (by simp)
 |(n,k)::r,acc,h=>by
  unfold dP;rcases J0.mp h with e|h
  ·cases e;rw[O6 (by decide)];refine hX r _ ?_;rw[A3];simp
  ·split
   ·exact kh r _ h
   ·exact kh r _ h
theorem fU{scope:Scope}{env:Env}(hc:∀n,(n,NameKind.free)∈scope.names->∃c,env.cells.lookup n=some c):closureFor scope env=pure (dP env.cells scope.names []):=by
 unfold closureFor;have all:∀(names:List (Str×NameKind)) (acc:List (Str×Addr)),(∀n,(n,NameKind.free)∈names->∃c,env.cells.lookup n=some c)->
   (forIn names acc (λ(x:Str×NameKind) (cs:List (Str×Addr))=>(match x with|(name,kind)=>if(kind==.free)=true then(do let c <- cellOf env name;pure (ForInStep.yield ((name,c)::cs)))else pure (ForInStep.yield cs):Sem (ForInStep (List (Str×Addr))))))=(pure (dP env.cells names acc):Sem (List (Str×Addr))):=by
  intro names
  induction names with
  |nil=>intro acc _;rfl
  |cons y r ih=>
   intro acc hc;obtain⟨n,k⟩:=y;rw[E4];unfold dP;dsimp only;by_cases hk:(k==NameKind.free)=true
   ·rw[O6 hk,O6 hk];have vD:k=NameKind.free:=by simpa using hk
    obtain⟨c0,e0⟩:=hc n (by rw[vD];exact s9);unfold cellOf;rw[e0];exact ih _ λ m hm=>hc m (l7 _ hm)
   ·rw[O7 hk,O7 hk];exact ih _ λ m hm=>hc m (l7 _ hm)
 have q:=all scope.names [] hc;refine Eq.trans ?_ (O3 (λ m=>m >>= pure) q);rfl
theorem mK{env:Env}:∀{names:List (Str×NameKind)} {x:Str},names.lookup x=some .free-> (names.map λ(n,k)=>if(k==NameKind.free&&env.scope.kind==.function&&env.kindOf n==some .cell)then(n,NameKind.cell)else(n,k)).lookup x=some .cell\/ (names.map λ(n,k)=>if(k==NameKind.free&&env.scope.kind==.function&&env.kindOf n==some .cell)then(n,NameKind.cell)else(n,k)).lookup x=some .free
 |[],_,h=>by simp at h
 |(n,k)::r,x,h=>by
  have ih:=@mK env r x;rw[H9];dsimp only;cases hx:x==n with
  |true=>
   rw[A3,hx]at h;have h':k=NameKind.free:=by simpa using h
   subst h';split
   ·left;rw[A3,hx]
   ·right;rw[A3,hx]
  |false=>
   rw[A3,hx]at h;have ih:=ih h;split
   ·rw[A3,hx];exact ih
   ·rw[A3,hx];exact ih
theorem rQ{prog:Program}{w:World}{A:Around}{R:Result->Shared->Prop}{s:Shared}{elt target iter:Expr}{ifs:List Expr}{scope:Scope}{pos:Pos}{it acc:Value}{env:Env}(I:Nat->Shared->Prop) (turn:∀n s,I n s->wpAny (model prog w) A (pyNext it) (λ r s1=>match r with
   |none=>R (.ok .next) s1
   |some v=>wpAny (model prog w) A (letOwnedTupleGo target it v) (λ _ s2=>wpAny (model prog w) A (assign target env v) (λ _ s3=>
     wpAny (model prog w) A (forIn ifs true λ c r=>if r=true then do let ok <- isTrue c env (eval c env);pure (ForInStep.yield ok)else pure (ForInStep.yield r)) (λ ok s4=>
      if ok=true then wpAny (model prog w) A (eval elt env) (λ x s5=>
       wpAny (model prog w) A (call (.builtin "list.append") [acc,x]) (λ _ s6=>∃m,m < n/\I m s6) (λ _ _=>False) s5) (λ _ _=>False) s4
      else ∃m,m < n/\I m s4) (λ _ _=>False) s3) (λ _ _=>False) s2) (λ _ _=>False) s1) (λ _ _=>False) s)
  (n:Nat) (h:I n s):
  codeAny (model prog w) A (.compLoop (.ListComp elt [⟨target,iter,ifs,0⟩] scope pos) 0 it acc env) R s:=by
 refine codeAny_loop rfl I (λ n s hI=>?_) n h;show wpAny _ A ((compTurn (.ListComp elt [⟨target,iter,ifs,0⟩] scope pos) 0 it acc env).onRaise (λ x=>do noteFrame x env;theTreesLotGoes x)) _ _ s;refine wpAny_noted ?_;rw[compTurn_list];refine wpAny_noRaise (N6 (J9 (N6 (O0 (turn n s hI) (λ r s1 h1=>?_) λ _ _ h'=>h'))));cases r with
 |none=>exact N7 h1
 |some v=>
  refine N6 (O0 h1 (λ _ s2 h2=>?_) λ _ _ h'=>h');refine N6 (O0 h2 (λ _ s3 h3=>N6 (O0 h3 (λ ok s4 h4=>?_) λ _ _ h'=>h')) λ _ _ h'=>h');cases ok with
  |false=>exact N7 ⟨rfl,h4⟩
  |true=>exact N6 (N6 (O0 h4 (λ x s5 h5=>N6 (O0 h5 (λ _ s6 h6=>N7 (N7 ⟨rfl,h6⟩)) λ _ _ h'=>h')) λ _ _ h'=>h'))
end L2
namespace L2
open PySem PySem.Spec PyProof.Rows
def bI(X:Cx)(scope:Scope)(cl:List (Str×Addr))(tgs:List Str)(fr:List Nat)(C:Addr)(fp:List Addr)(s:Shared)(H:Hp):Cx:=
 {X with N:=tgs++fr.map (λ j=>X.N.getD j ""),s₀:=s,H₀:=H,env:=compEnvC scope cl C X.env,outer:=X.stack,ex:=fp,fn:=λ x=>scope.names.lookup x==some .cell,pn:=[]}
def fg(n:Nat)(fr:List Nat)(σ:St):St:=List.replicate n none++fr.map (λ j=>σ.getD j none)
structure Gw(X:Cx)(scope:Scope)(C:Addr)(h1:Heap)(cl:List (Str×Addr)):Prop where
 look:∀x c,cl.lookup x=some c->X.env.cells.lookup x=some c\/(C < c/\h1.IsCell c none)
 inj:∀x y c,cl.lookup x=some c->cl.lookup y=some c->x=y
 has:∀x,(x,NameKind.free)∈scope.names\/(x,NameKind.cell)∈scope.names->∃c,cl.lookup x=some c
 fre:∀x c,scope.names.lookup x=some .free->cl.lookup x=some c->X.env.cells.lookup x=some c
 own:∀x c,scope.names.lookup x=some .cell->cl.lookup x=some c->C < c
structure jP(X:Cx)(scope:Scope)(fr:List Nat):Prop where
 kind:scope.kind=.function
 cells:∀y∈scope.names,y.2=.cell->scope.names.lookup y.1=some .cell
 names:∀y∈scope.names,y.2=.local->scope.names.lookup y.1=some .local
 has:∀n,(n,NameKind.free)∈scope.names->X.env.kindOf n=some .cell\/X.env.kindOf n=some .free
 fr:∀j∈fr,j < X.N.length/\scope.names.lookup (X.N.getD j "")=some .free
def iY(n:Nat)(g:TG):Prop:=∀x σ H Q,g x σ H Q->g x σ H λ σ2 H2=>Q σ2 H2/\σ2.length=σ.length/\∀k,n<=k->σ2[k]?=σ[k]?
theorem rK{n i:Nat}(h:i < n):iY n (dO i):=λ x σ H Q q=>⟨q,by simp,λ k hk=>by rw[n9 (by omega)]⟩
def l_(n:Nat)(g:zr):Prop:=∀xs σ H Q,g xs σ H Q->g xs σ H λ σ2 H2=>Q σ2 H2/\σ2.length=σ.length/\∀k,n<=k->σ2[k]?=σ[k]?
theorem Qa{n:Nat}:l_ n Ba:=λ xs σ H Q q=>⟨q.1,q.2,rfl,λ _ _=>rfl⟩
def Rg(X:Cx)(ifs:List Expr)(t:TT):Prop:=
 ∀(pins:List (Addr×Obj)) (s:Shared) (σ:St) (H:Hp) (Q:Bool->Hp->Prop),Inv X pins σ H s->t σ H Q->
  wpAny (model X.prog X.w) X.A (forIn ifs true λ c r=>if r=true then do let ok <- isTrue c X.env (eval c X.env);pure (ForInStep.yield ok)else pure (ForInStep.yield r)) (TP X pins σ Q) X.xe s
def VV:TT:=λ _ H Q=>Q true H
theorem IY{X:Cx}:Rg X [] VV:=λ _ s σ H Q I h=>wpAny_tests_nil ⟨H,I,h⟩
theorem IW{X:Cx}{c:Expr}{t:TT}(h:PT X c t):Rg X [c] t:=λ pins s σ H Q I q=>wpAny_tests_one (h pins s σ H Q I q)
def mB(wi:TI)(g:TG)(tt:TT)(te:TE)(n:Nat)(fr:List Nat):TE:=λ σ H Q=>wi σ H λ J H1=>∃W:Nat->Nat->List V->Hp->Prop,(∃m,W 0 m [] H1)/\∀i m acc H,W i m acc H->
 acc.length<=sizeLine/\((J.stop i H/\∀p,H p=none->Q (.ref p) (upd H p (.lst acc)))\/
  (J.go i H/\∃N:List V->Hp->Prop,(∀gy H',N gy H'->∃m',m' < m/\W (i+1) m' gy H')/\∀x H',J.GX i H x H'->g x (fg n fr σ) H' λ σ2 H2=>tt σ2 H2 λ b H3=>if b=true then te σ2 H3 λ y H4=>N (acc++[y]) H4 else N acc H3))
theorem gW{env:Env}:∀{names:List (Str×NameKind)} {x:Str} {k0:NameKind}, (names.map λ(n,k)=>if(k==NameKind.free&&env.scope.kind==.function&&env.kindOf n==some .cell)then(n,NameKind.cell)else(n,k)).lookup x=some k0->(k0=.cell\/k0=.free)->(x,NameKind.free)∈names\/(x,NameKind.cell)∈names
 |[],_,_,h,_=>by simp at h
 |(n,k)::r,x,k0,h,hk=>by
  have ih:=@gW env r x k0;rw[H9]at h;dsimp only at h;cases hx:x==n with
  |true=>
   have xn:x=n:=by simpa using hx
   subst xn;by_cases TH:(k==NameKind.free&&env.scope.kind==.function&&env.kindOf x==some .cell)=true
   ·have:k=NameKind.free:=by have:=(B1 _ _).mp TH;have:=(B1 _ _).mp this.1;simpa using this.1
    subst this;exact .inl s9
   ·rw[O7 TH,A3,hx]at h;have h':k=k0:=by simpa using h
    subst h';rcases hk with e|e
    ·subst e;exact .inr s9
    ·subst e;exact .inl s9
  |false=>
   have z:(x,NameKind.free)∈r\/(x,NameKind.cell)∈r:=by
    refine ih ?_ hk;split at h
    ·rw[A3,hx]at h;exact h
    ·rw[A3,hx]at h;exact h
   exact z.imp (l7 _) (l7 _)
theorem iq{x n:Str}{a:Addr}{acc:List (Str×Addr)}{c:Addr}(h:((n,a)::acc).lookup x=some c):(x=n/\c=a)\/(x≠n/\acc.lookup x=some c):=by
 rw[A3]at h;cases e:x==n with
 |true=>rw[e]at h;exact .inl ⟨by simpa using e,(C6 h).symm⟩
 |false=>rw[e]at h;exact .inr ⟨by simpa using e,h⟩
set_option tactic.hygienic true in
theorem rR:∀(names:List (Str×NameKind)) (h:Heap) (acc:List (Str×Addr)) (x:Str) (c:Addr),(cellsFrom h.objs.size names acc).lookup x=some c->acc.lookup x=some c\/(h.objs.size<=c/\(pushCells h names).IsCell c none)
 |[],_,_,_,_,e=>.inl e
 |(n,k)::r,h,acc,x,c,e=>by
  unfold cellsFrom at e;unfold pushCells;split at e
  ·rename_i hk;rw[O6 hk];have sz:=E9 h {cls:=.type "cell",data:=.cell none};rw[<- sz]at e;rcases rR r _ _ x c e with z|z
   ·rcases iq z with⟨_,q⟩|⟨_,q⟩
    ·subst q;exact .inr ⟨L8 _,_,pushCells_keeps r _ _ _ (q8 _ rfl),rfl⟩
    ·exact .inl q
   ·exact .inr ⟨by have:=z.1;rw[sz]at this;omega,z.2⟩
  ·rename_i hk;rw[O7 hk];exact rR r h acc x c e
theorem xy:∀(names:List (Str×NameKind)) (n:Nat) (acc:List (Str×Addr)),(∀x c,acc.lookup x=some c->c < n)->(∀x y c,acc.lookup x=some c->acc.lookup y=some c->x=y)->∀x y c,(cellsFrom n names acc).lookup x=some c->(cellsFrom n names acc).lookup y=some c->x=y
 |[],_,_,_,hi=>hi
 |(m,k)::r,n,acc,lt,hi=>by
  unfold cellsFrom;split
  ·refine xy r (n+1) _ (λ x c e=>?_) (λ x y c e1 e2=>?_)
   ·rcases iq e with⟨_,q⟩|⟨_,q⟩
    ·rw[q];exact Nat.lt_succ_self n
    ·exact A1 (lt x c q)
   ·rcases iq e1 with⟨a1,q1⟩|⟨a1,q1⟩ <;> rcases iq e2 with⟨a2,q2⟩|⟨a2,q2⟩
    ·rw[a1,a2]
    ·exact absurd (q1▸lt y c q2) (H0 _)
    ·exact absurd (q2▸lt x c q1) (H0 _)
    ·exact hi x y c q1 q2
  ·exact xy r n acc lt hi
theorem lX{x:Str}:∀(names:List (Str×NameKind)) (n:Nat) (acc:List (Str×Addr)),(∃c,acc.lookup x=some c)->∃c,(cellsFrom n names acc).lookup x=some c
 |[],_,_,h=>h
 |(m,k)::r,n,acc,⟨c,h⟩=>by
  unfold cellsFrom;split
  ·refine lX r _ _ ?_;rw[A3];cases x==m with
   |true=>exact⟨_,rfl⟩
   |false=>exact⟨c,h⟩
  ·exact lX r n acc ⟨c,h⟩
theorem xA{x:Str}:∀(names:List (Str×NameKind)) (n:Nat) (acc:List (Str×Addr)),(x,NameKind.cell)∈names->∃c,(cellsFrom n names acc).lookup x=some c
 |[],_,_,h=>absurd h (by simp)
 |(m,k)::r,n,acc,h=>by
  unfold cellsFrom;rcases J0.mp h with e|h
  ·cases e;rw[O6 (by decide)];exact lX r _ _ ⟨n,by rw[A3];simp⟩
  ·split
   ·exact xA r _ _ h
   ·exact xA r _ _ h
set_option tactic.hygienic true in
theorem xB{x:Str}:∀(names:List (Str×NameKind)) (n:Nat) (acc:List (Str×Addr)),(x,NameKind.cell)∉names->(cellsFrom n names acc).lookup x=acc.lookup x
 |[],_,_,_=>rfl
 |(m,k)::r,n,acc,h=>by
  unfold cellsFrom;split
  ·rename_i hk;rw[xB r _ _ λ z=>h (l7 _ z),A3];cases e:x==m with
   |false=>rfl
   |true=>
    have e1:x=m:=by simpa using e
    have e2:k=.cell:=by simpa using hk
    subst e1 e2;exact absurd s9 h
  ·exact xB r n acc λ z=>h (l7 _ z)
set_option tactic.hygienic true in
theorem xx{x:Str}{lo:Nat}:∀(names:List (Str×NameKind)) (n:Nat) (acc:List (Str×Addr)),lo<=n->((x,NameKind.cell)∈names\/∀c,acc.lookup x=some c->lo<=c)->∀c,(cellsFrom n names acc).lookup x=some c->lo<=c
 |[],_,_,_,h,c,e=>by
  rcases h with h|h
  ·cases h
  ·exact h c e
 |(m,k)::r,n,acc,hn,h,c,e=>by
  unfold cellsFrom at e;split at e
  ·refine xx r (n+1) _ (by omega) ?_ c e;rcases h with h|h
   ·rcases J0.mp h with q|q
    ·cases q;exact .inr λ c e=>by
      rcases iq e with⟨_,z⟩|⟨z,_⟩
      ·rw[z];exact hn
      ·exact absurd rfl z
    ·exact .inl q
   ·exact .inr λ c e=>by
     rcases iq e with⟨_,z⟩|⟨_,z⟩
     ·rw[z];exact hn
     ·exact h c z
  ·rename_i hk;refine xx r n acc hn ?_ c e;rcases h with h|h
   ·rcases J0.mp h with q|q
    ·cases q;exact absurd rfl hk
    ·exact .inl q
   ·exact .inr h
section
variable {M:Model}{A:Around}{E:Value->Shared->Prop}{s:Shared}
theorem Az{scope:Scope}{globals:Addr}{closure:List (Str×Addr)}{qual:Str}{func:Option Addr}{code:Value}{env:Env}{builtins:Addr}{Q:Env->Shared->Prop} (hQ:Q (newEnv scope s.heap.objs.size globals (cellsFrom (s.heap.objs.size+1) scope.names closure) qual func code (some env) builtins) {s with heap:=pushCells (s.heap.push {cls:=.type "dict",data:=.dict #[]}) scope.names}):wpAny M A (newFunctionEnv scope globals closure [] qual func code (some env) builtins) Q E s:=by simp only[newFunctionEnv,Option.isSome_some,O5];refine N6 (wpAny_alloc ?_);refine N6 (wpAny_layCells _ (λ name kind cells=>by cases hkc:kind==NameKind.cell <;> simp[hkc]) _ _ _ _ ?_);rw[show({s with heap:=s.heap.push {cls:=.type "dict",data:=.dict #[]}}:Shared).heap.objs.size=s.heap.objs.size+1 from E9 ..];exact N6 (N7 (N7 hQ))
end
section
variable {X:Cx}{scope:Scope}{tgs:List Str}{fr:List Nat}
theorem Qq{pins:List (Addr×Obj)}{σ:St}{H:Hp}{s:Shared}{fp:List Addr}{C:Addr}{h1:Heap}{cl:List (Str×Addr)}(B:jP X scope fr)(L:Gw X scope C h1 cl)(I:Inv X pins σ H s)(hC:s.heap.objs.size<=C)(f:∀b∈fp,iZ X pins H b)(GL:∀b∈fp,b < s.heap.objs.size): (bI X scope cl tgs fr C fp s H).Ok:=by
 refine⟨I.ok.mod,B.kind,I.ok.glob,I.ok.blt,hC,L.inj,λ x hx=>?_,λ x c h e=>?_,I.ok.hd,I.ok.frames,.inl rfl,λ b hb=>⟨K1 (v8 (GL b hb) hC),λ x c e=>?_⟩,
  I.bs,K5 I.ok.BO I.sz,λ b o e hb=>?_,λ b hb hs=>?_,I.stack,I.jh⟩
 ·rcases hx with hx|hx
  ·exact L.has x (gW hx (.inl rfl))
  ·exact L.has x (gW hx (.inr rfl))
 ·exact K5 hC (L7 (L.own x c (by simpa[bI]using h) e))
 ·rcases L.look x c e with z|z
  ·exact(f b hb).2.2.2.2.1 x c z
  ·exact λ q=>absurd (u9 hC z.1) (Nat.not_lt.mpr (L7 (q▸GL b hb)))
 ·rcases(f b hb).2.2.2.1 with z|z
  ·exact I.ok.wL b o e z
  ·exact absurd (v8 (K2 e) (K5 I.ok.BO z)) (H0 _)
 ·rcases J0.mp (I.qv b hs)with z|z
  ·exact(f b hb).2.1 z
  ·exact(f b hb).2.2.1 z
theorem Lc{pins:List (Addr×Obj)}{σ:St}{H:Hp}{s s1:Shared}{fp:List Addr}{C:Addr}{m:Str->Option Value}{cl:List (Str×Addr)}(B:jP X scope fr)(L:Gw X scope C s1.heap cl)(I:Inv X pins σ H s)(hC:s.heap.objs.size<=C)(f:∀b∈fp,iZ X pins H b)(GL:∀b∈fp,b < s.heap.objs.size) (ho:s1.os=s.os) (hg:AllBare s1.gens) (hk:∀b o,s.heap.get? b=some o->s1.heap.get? b=some o) (hn:s1.heap.Ns C m):Inv (bI X scope cl tgs fr C fp s H) [] (fg tgs.length fr σ) H s1:=by
 refine⟨Qq B L I hC f GL,ho,hg,Un.kept hk,⟨m,hn,λ i x v e1 e2 e3=>?_⟩,λ x c e=>?_,I.bq.fresh hC,λ x c e=>?_,λ p hp=>absurd hp (by simp[bI]),I.bq.kept hk,by simp[fg,bI]⟩
 ·-- a free name:au X_ value
  have e1:(tgs++fr.map (λ j=>X.N.getD j ""))[i]?=some x:=e1;have hi:tgs.length<=i:=by refine A4 λ iS=>?_;unfold fg at e2;rw[c9 (by simpa using iS),j1,O6 iS]at e2;cases e2
  unfold fg at e2;rw[c6 (by simpa using hi),l3,y1]at e2;rw[c6 hi,y1]at e1;cases ej:fr[i - tgs.length]? with
  |none=>rw[ej]at e1;cases e1
  |some j=>
   rw[ej]at e1 e2;have TZ:X.N.getD j ""=x:=C6 e1;have Zo:σ.getD j none=some v:=C6 e2;obtain⟨hj,hl⟩:=B.fr j (l8 ej);have hN:X.N[j]?=some x:=by rw[c7,i8 hj]at TZ;rw[i8 hj];exact O3 some TZ
   have hs:σ[j]?=some (some v):=by
    have Vv:j < σ.length:=by rw[I.len];exact hj
    rw[c7,i8 Vv]at Zo;rw[i8 Vv];exact O3 some Zo
   rw[TZ]at hl;obtain⟨m0,BI,hl0⟩:=I.loc;have Kn:(x,NameKind.free)∈scope.names:=p7 hl;have kinds:=B.has x Kn;obtain⟨u,ru,lu⟩:=hl0 j x v hN hs (by rcases kinds with z|z;exact .inr (.inl z);exact .inr (.inr z));refine⟨u,ru,.inr ⟨mK hl,?_⟩⟩;obtain⟨c,hc⟩:=L.has x (.inl Kn);refine⟨c,hc,?_⟩;rcases lu with⟨kl,_⟩|⟨_,c',vF,z⟩
   ·rcases kinds with z|z <;> (rw[z]at kl;cases kl)
   ·have:c=c':=by have:=L.fre x c hl hc;rw[this]at vF;exact C6 vF
    subst this;obtain⟨o,ho,hd⟩:=z;exact⟨o,hk _ _ ho,hd⟩
 ·rcases L.look x c e with z|z
  ·obtain⟨v,o,kQ,hd⟩:=I.cell x c z;exact⟨v,o,hk _ _ kQ,hd⟩
  ·exact⟨none,z.2⟩
 ·rcases L.look x c e with z|z
  ·exact I.eG x c z
  ·exact I.bq.fresh (K5 hC (L7 z.1))
theorem Qr{pins:List (Addr×Obj)}{σ:St}{H:Hp}{s:Shared}{h2:Heap}(B:jP X scope fr)(I:Inv X pins σ H s)(hs:s.heap.objs.size<=h2.objs.size):Gw X scope h2.objs.size (pushCells (h2.push {cls:=.type "dict",data:=.dict #[]}) scope.names) (cellsFrom (h2.objs.size+1) scope.names (dP X.env.cells scope.names [])):=by
 have look:∀x c,(dP X.env.cells scope.names []).lookup x=some c->X.env.cells.lookup x=some c:=
  iU scope.names [] (λ n hn=>I.ok.has n (B.has n hn)) λ x c e=>by simp at e
 have sz:=E9 h2 {cls:=.type "dict",data:=.dict #[]};refine⟨λ x c e=>?_,xy _ _ _ (λ x c e=>?_) (λ x y c e1 e2=>I.ok.inj x y c (look x c e1) (look y c e2)),λ x h=>?_,λ x c h e=>?_,λ x c h e=>?_⟩
 ·rw[<- sz]at e;rcases rR _ _ _ x c e with z|z
  ·exact .inl (look x c z)
  ·exact .inr ⟨v8 (by rw[sz];exact Nat.lt_succ_self _) z.1,z.2⟩
 ·obtain⟨v,hv⟩:=I.cell x c (look x c e);exact A1 (v8 hv.lt hs)
 ·rcases h with h|h
  ·exact lX _ _ _ (Option.isSome_iff_exists.mp (kh scope.names [] h))
  ·exact xA _ _ _ h
 ·rw[xB _ _ _ λ z=>by have:=B.cells _ z rfl;rw[h]at this;cases this]at e;exact look x c e
 ·exact xx (lo:=h2.objs.size+1) _ _ _ (L8 _) (.inl (p7 h)) c e
end
end L2
namespace L2
open PySem PySem.Spec PyProof.Rows
section
variable {X:Cx}{scope:Scope}{tgs:List Str}{fr:List Nat}{tg elt iter:Expr}{ifs:List Expr}{pos:Pos}{wi:TI}{g:TG}{tt:TT}{te:TE}
theorem toF{α:Type}{M:Model}{A:Around}{E:Value->Shared->Prop}{s:Shared}{t:Sem α}{Q Q':α->Shared->Prop}(hE:∀e s,E e s->False)(h:wpAny M A t Q E s)(hQ:∀a s,Q a s->Q' a s):wpAny M A t Q' (λ _ _=>False) s:=
 O0 h hQ hE
theorem pZ{pins:List (Addr×Obj)}{σ:St}{H:Hp}{s:Shared}{R:Value->Addr->Result->Shared->Prop}{E:Value->Shared->Prop}{J:It}{fp:List Addr}{it:Addr}{tn:Nat->Heap->Prop}{Qe:List V->Hp->Prop} (B:jP X scope fr) (hc:X.calm=true) (hE:∀e s,X.xe e s->False) (hg:∀cl C fp s H,PG (bI X scope cl tgs fr C fp s H) tg g) (gk:iY tgs.length g) (ht:∀cl C fp s H,Rg (bI X scope cl tgs fr C fp s H) ifs tt) (he:∀cl C fp s H,PE (bI X scope cl tgs fr C fp s H) elt te) (I:Inv X pins σ H s) (T:Turn X.prog X.w X.K tg J fp it tn) (st:tn 0 s.heap) (f:∀b∈fp,iZ X pins H b) (W:Nat->Nat->List V->Hp->Prop) (m0:Nat) (w0:W 0 m0 [] H) (turn:∀i m acc H,W i m acc H->acc.length<=sizeLine/\((J.stop i H/\Qe acc H)\/(J.go i H/\∃N:List V->Hp->Prop,(∀gy H',N gy H'->∃m',m' < m/\W (i+1) m' gy H')/\∀x H',J.GX i H x H'->g x (fg tgs.length fr σ) H' λ σ2 H2=>tt σ2 H2 λ b H3=>
   if b=true then te σ2 H3 λ y H4=>N (acc++[y]) H4 else N acc H3)))
  (fin:∀(D C:Addr) (s1:Shared) (H1:Hp) (acc:List V) (au:List Value),s.heap.objs.size<=D->s.heap.objs.size<=C->D≠C->Inv X pins σ H1 s1->H1 C=none->H1 D=none->(∃m,s1.heap.Ns C m)->
   s1.heap.PlainList D au.toArray->Vals acc au->acc.length<=sizeLine->Qe acc H1->R (.ref D) C (.ok .next) s1):
  wpAny (model X.prog X.w) X.A (newList []) (λ acc s3=>wpAny (model X.prog X.w) X.A (newFunctionEnv scope X.env.globals (dP X.env.cells scope.names []) [] X.env.qual none .none (some X.env)) (λ Uq s4=>
   codeAny (model X.prog X.w) X.A (.compStart (.ListComp elt [⟨tg,iter,ifs,0⟩] scope pos) 0 (.ref it) acc {Uq with scope:=relabel scope X.env}) (R acc Uq.locals) s4) E s3) E s:=by
 have GL:∀b∈fp,b < s.heap.objs.size:=λ b hb=>by obtain⟨o,e,_⟩:=T.obj 0 _ st b hb;exact K2 e
 refine y4 (Az ?_);dsimp only;generalize XG:s.heap.push {cls:=.type "list",dict:=none,data:=.seq ([]:List Value).toArray}=H2;have hC:H2.objs.size=s.heap.objs.size+1:=by rw[<- XG,E9]
 have L0:=Qr (h2:=H2) B I (by omega);have Tb:(pushCells (H2.push {cls:=.type "dict",data:=.dict #[]}) scope.names).Ns H2.objs.size (λ _=>none):=(Heap.Ns.new H2 (.type "dict")).keeps (pushCells_keeps _ _);have WQ:∀b o,H2.get? b=some o->(pushCells (H2.push {cls:=.type "dict",data:=.dict #[]}) scope.names).get? b=some o:=λ b o e=>pushCells_keeps _ _ b o (j7 _ e);generalize pushCells (H2.push {cls:=.type "dict",data:=.dict #[]}) scope.names=h1 at L0 Tb WQ ⊢;have P_:s.heap.objs.size≠H2.objs.size:=by omega
 have Ks:s.heap.objs.size<=H2.objs.size:=by omega
 have below:∀b,b < s.heap.objs.size->b≠H2.objs.size/\b≠s.heap.objs.size:=λ b hb=>⟨by omega,by omega⟩;have old:∀b o,s.heap.get? b=some o->h1.get? b=some o:=λ b o e=>WQ b o (XG▸j7 _ e);have iA:h1.PlainList s.heap.objs.size #[]:=⟨_,WQ _ _ (XG▸q8 _ rfl)⟩;have Yz:tn 0 h1:=T.keep _ _ _ st λ b _ o e=>old b o e;have WH:∀x c,(cellsFrom (H2.objs.size+1) scope.names (dP X.env.cells scope.names [])).lookup x=some c->X.env.cells.lookup x=some c\/H2.objs.size < c:=λ x c e=>(L0.look x c e).imp id λ z=>z.1;generalize cellsFrom (H2.objs.size+1) scope.names (dP X.env.cells scope.names [])=cl at L0 WH ⊢;generalize hCd:H2.objs.size=C at*;generalize TQ:s.heap.objs.size=D at*;have hDs:∀b,b < D->b < s.heap.objs.size:=λ b hb=>by rw[TQ];exact hb
 have fD:=I.lC (b:=D) (H':=H) (K7 TQ) (I.bq.fresh (K7 TQ));have Ls:∀b,b≠X.env.locals->b∉X.fs->b∉iI X.stack:=λ b h1 h2 hb=>(J0.mp (I.qv b hb)).elim h1 h2;have Kp:∀b∈fp,b∉iI X.stack:=λ b hb=>Ls b (f b hb).2.1 (f b hb).2.2.1;have clt:∀x c,cl.lookup x=some c->c≠D:=λ x c e=>(WH x c e).elim (fD.2.2.2.2.1 x c) λ z q=>absurd (u9 Ks (q▸z)) (H0 _);have loop:∀s3:Shared,s3={s with heap:=h1}->
   codeAny (model X.prog X.w) X.A (.compLoop (.ListComp elt [⟨tg,iter,ifs,0⟩] scope pos) 0 (.ref it) (.ref D) (compEnvC scope cl C X.env)) (R (.ref D) C) s3:=by
  rintro s3 rfl;have IY0:Inv (bI X scope cl tgs fr C fp s H) [] (fg tgs.length fr σ) H {s with heap:=h1}:=
   Lc B L0 I (by rw[TQ];exact Ks) f (λ b hb=>hDs b (GL b hb)) rfl I.bare old Tb
  refine rQ (λ n s'=>∃(i:Nat) (acc:List V) (au:List Value) (H':Hp),Inv (bI X scope cl tgs fr C fp s H) [] (fg tgs.length fr σ) H' s'/\tn i s'.heap/\(∀b∈fp,H' b=none)/\H' D=none/\
   s'.heap.PlainList D au.toArray/\Vals acc au/\W i n acc H') ?_ m0 ⟨0,[],[],H,IY0,Yz,λ b hb=>(f b hb).1,fD.1,iA,.nil,w0⟩
  rintro n s3 ⟨i,acc,au,H3,I3,RB,TU,hD3,⟨nl,Ff⟩,Vb,w3⟩;obtain⟨hz,h⟩:=turn i n acc H3 w3;have ZC:Inv (bI X scope cl tgs fr C fp s H) [(D,{cls:=.type "list",data:=.seq au.toArray nl})] (fg tgs.length fr σ) H3 s3:=I3.dR λ p hp=>by
   have e:p=(D,{cls:=.type "list",data:=.seq au.toArray nl}):=by simpa using hp
   subst e;exact⟨Ff,hD3,P_,Ls D fD.2.1 fD.2.2.1,λ v e=>by cases e⟩
  have fY:∀{H':Hp},(∀b∈fp,H' b=none)->∀b∈fp,iZ (bI X scope cl tgs fr C fp s H) [(D,{cls:=.type "list",data:=.seq au.toArray nl})] H' b:=λ hn b hb=>
   ⟨hn b hb,(below b (GL b hb)).1,Kp b hb,.inl hb,λ x c e=>(WH x c e).elim ((f b hb).2.2.2.2.1 x c) λ z q=>absurd (v8 (GL b hb) (K5 Ks (L7 (q▸z)))) (H0 _),λ p hp=>by
    have e:p=(D,{cls:=.type "list",data:=.seq au.toArray nl}):=by simpa[bI]using hp
    subst e;exact O4 (below b (GL b hb)).2⟩
  rcases h with⟨stop,q⟩|⟨go,N,hN,step⟩
  ·refine cG (T.done (bI X scope cl tgs fr C fp s H) rfl rfl rfl hc i _ s3 _ H3 _ ZC (fY TU) RB stop) λ r s4 ⟨hr,I4⟩=>?_;subst hr;have pD:=I4.pin (D,{cls:=.type "list",data:=.seq au.toArray nl}) (by simp);have IX:Inv X pins σ H3 s4:=I.qa (ch:=fp) I4.os I4.base I4.bq I4.bare λ b hb=>⟨(f b hb).2.2.2.1,(f b hb).2.1,(f b hb).2.2.2.2.1,(f b hb).2.2.2.2.2⟩;obtain⟨m4,hn4,_⟩:=I4.loc;exact fin D C s4 H3 acc au (L8 _) Ks P_ IX I4.free pD.2.1 ⟨m4,hn4⟩ ⟨nl,pD.1⟩ Vb hz q
  ·refine cG (T.item (bI X scope cl tgs fr C fp s H) rfl rfl rfl hc i _ s3 _ H3 _ ZC (fY TU) RB go) λ r s4 ⟨u,hr,h4⟩=>?_;subst hr;refine cG h4 λ _ s5 ⟨x,H5,I5,r5,y5,Hk,XU⟩=>?_;have Yn:=I5.pinned (fY XU) (T.obj _ _ Hk);refine toF hE (hg _ _ _ _ _ _ s5 _ H5 x u _ Yn r5 (gk x _ H5 _ (step x H5 y5))) λ _ s6 ⟨σ6,H6,I6,q6,WL,k6⟩=>?_;refine toF hE (ht _ _ _ _ _ _ s6 σ6 H6 _ I6 q6) λ ok s7 ⟨H7,I7,q7⟩=>?_;have wk:∀{H':Hp} {s':Shared} {pl:List (Addr×Obj)},Inv (bI X scope cl tgs fr C fp s H) pl σ6 H' s'->Inv (bI X scope cl tgs fr C fp s H) pl (fg tgs.length fr σ) H' s':=λ J=>
    J.weak WL.symm λ k v e=>by
     by_cases hk:tgs.length<=k
     ·rw[k6 k hk];exact e
     ·unfold fg at e;rw[c9 (by simpa using hk),j1,O6 (by omega)]at e;cases e
   cases ok with
   |false=>simp only[u5,O2]at q7 ⊢;obtain⟨m',hm,w7⟩:=hN _ _ q7;have pD:=I7.pin (D,{cls:=.type "list",data:=.seq au.toArray nl}) (by simp);refine⟨m',hm,i+1,acc,au,H7,wk (I7.dR (pins':=[]) λ p hp=>absurd hp (by simp)),T.keep _ _ _ Hk λ b hb o e=>(I7.pin (b,o) (k8 _ (k8 _ (dw hb e)))).1,λ b hb=>?_,pD.2.1,⟨nl,pD.1⟩,Vb,w7⟩;obtain⟨o,e,d⟩:=T.obj _ _ Hk b hb;exact(I7.pin (b,o) (k8 _ (k8 _ (dw hb e)))).2.1
   |true=>
    simp only[O5]at q7 ⊢;refine toF hE (he _ _ _ _ _ _ s7 σ6 H7 _ I7 q7) λ uy s8 ⟨y,H8,I8,r8,n8⟩=>?_;obtain⟨m',hm,w8⟩:=hN _ _ n8;have pD:=I8.pin (D,{cls:=.type "list",data:=.seq au.toArray nl}) (by simp);have hits:au.toArray.size<=sizeLine:=by have:=Vb.length;simp only[z9];omega
    refine wpAny_list_append_plain (hsz:=hits) (show s8.heap.PlainList D au.toArray from⟨nl,pD.1⟩) λ h9 hl9 YS=>?_;have I9:Inv (bI X scope cl tgs fr C fp s H) [] σ6 H8 {s8 with heap:=h9,toks:=s8.toks}:=
     (I8.dR (pins':=[]) λ p hp=>absurd hp (by simp)).turned (it:=D) (λ b o hb e=>YS.extBut b o hb e) pD.2.1 P_ (.inr (K7 TQ)) clt λ p hp=>absurd hp (by simp[bI])
    refine⟨m',hm,i+1,acc++[y],au++[uy],H8,wk I9,T.keep _ _ _ Hk λ b hb o e=>YS.extBut b o (below b (GL b hb)).2 (I8.pin (b,o) (k8 _ (k8 _ (dw hb e)))).1,λ b hb=>?_,pD.2.1,?_,Vb.append (.cons r8 .nil),w8⟩
    ·obtain⟨o,e,d⟩:=T.obj _ _ Hk b hb;exact(I8.pin (b,o) (k8 _ (k8 _ (dw hb e)))).2.1
    ·have e:(au++[uy]).toArray=au.toArray.push uy:=by simp
     rw[e];exact hl9
 exact codeAny_compStart_list (loop _ rfl) (T.self _ 0 _ _ _ Yz (loop _ rfl))
theorem jv(B:jP X scope fr)(hc:X.calm=true)(hE:∀e s,X.xe e s->False)(hi:PI X tg iter wi) (hg:∀cl C fp s H,PG (bI X scope cl tgs fr C fp s H) tg g) (gk:iY tgs.length g) (ht:∀cl C fp s H,Rg (bI X scope cl tgs fr C fp s H) ifs tt) (he:∀cl C fp s H,PE (bI X scope cl tgs fr C fp s H) elt te) (hs:∀x,foldedSetIterable iter X.env x=pure x:=by intro _;rfl):PE X (.ListComp elt [⟨tg,iter,ifs,0⟩] scope pos) (mB wi g tt te tgs.length fr):=by intro pins s σ H Q I h;rw[eval_ListComp];have LO:=fU (scope:=scope) (env:=X.env) λ n hn=>I.ok.has n (B.has n hn);refine wpAny_comprehension_free (use:=none) rfl hs LO B.kind B.names (O0 (hi pins s σ H _ I h) (λ xv s1 h1=>O0 h1 (λ Vj s2 h2=>?_) λ _ _ e=>e) λ _ _ e=>e);obtain⟨it,fp,tn,J,H2,rfl,I2,T,RC,f2,W,⟨m0,w0⟩,turn⟩:=h2;refine pZ (R:=λ acc C=>compPost (model X.prog X.w) X.A X.xe none (EP X pins σ Q) acc C) (Qe:=λ acc H=>∀p,H p=none->Q (.ref p) (upd H p (.lst acc))) B hc hE hg gk ht he I2 T RC f2 W m0 w0 turn ?_;intro D C s1 H1 acc au hD hC P_ I1 nC nD ⟨m,hn⟩ hl rv hz q;refine⟨m,hn,λ h' lB=>?_⟩;have fC:=I2.lC (b:=C) (H':=H1) hC nC;have fD:=I2.lC (b:=D) (H':=H1) hD nD;have I3:Inv X pins σ H1 {s1 with heap:=h',toks:=s1.toks}:=I1.turned (it:=C) (λ b o hb e=>lB.extBut b o hb e) nC fC.2.1 fC.2.2.2.1 fC.2.2.2.2.1 fC.2.2.2.2.2;obtain⟨k,e⟩:=hl.extBut lB.extBut P_;exact⟨.ref D,upd H1 D (.lst acc),I3.sO nD ⟨hz,au,k,rv,e⟩ fD.2.1 (K5 I2.sz hD) fD.2.2.2.2.1 fD.2.2.2.2.2,rfl,q D nD⟩
theorem wA{i:Nat}{y:Str}{py gQ:Pos}(hN:X.N.Nodup)(hiy:X.N[i]?=some y)(hy:Loc X.env.scope y)(B:jP X scope fr)(hc:X.calm=true)(hE:∀e s,X.xe e s->False)(hi:PI X tg iter wi) (hg:∀cl C fp s H,PG (bI X scope cl tgs fr C fp s H) tg g) (gk:iY tgs.length g) (ht:∀cl C fp s H,Rg (bI X scope cl tgs fr C fp s H) ifs tt) (he:∀cl C fp s H,PE (bI X scope cl tgs fr C fp s H) elt te) (hsw:swapsWith (.ListComp elt [⟨tg,iter,ifs,0⟩] scope pos) (some (.Name y py)) gQ.line X.env=pure true:=by rfl) (hf:X.fn y=true\/X.env.scope.names.lookup y=some .local:=by first|exact .inl rfl|exact .inr rfl|assumption) (hs:∀x,foldedSetIterable iter X.env x=pure x:=by intro _;rfl):PS X (.Assign [.Name y py] (.ListComp elt [⟨tg,iter,ifs,0⟩] scope pos) gQ) (Cp (mB wi g tt te tgs.length fr) (dO i)):=by
 intro pins s σ H D0 I h;rw[exec_Assign_Name_used _ _ _ _ hsw];have LO:=fU (scope:=scope) (env:=X.env) λ n hn=>I.ok.has n (B.has n hn);refine N6 (J9 (N6 ?_));show wpAny _ X.A (do let _ <- comprehension (.ListComp elt [⟨tg,iter,ifs,0⟩] scope pos) scope X.env _ (newList []) false (eval iter X.env) (some (assign (.Name y py) X.env))) _ _ s;refine N6 (O0 (wpAny_comprehension_free (use:=some (assign (.Name y py) X.env)) (Q:=λ _ s'=>SP X pins D0 .next s') rfl hs LO B.kind B.names
  (O0 (hi pins s σ H _ I h) (λ xv s1 h1=>O0 h1 (λ Vj s2 h2=>?_) λ _ _ e=>e) λ _ _ e=>e)) (λ _ s' hq=>N7 (N7 hq)) λ _ _ e=>e)
 obtain⟨it,fp,tn,J,H2,rfl,I2,T,RC,f2,W,⟨m0,w0⟩,turn⟩:=h2;refine pZ (R:=λ acc C=>compPost (model X.prog X.w) X.A X.xe (some (assign (.Name y py) X.env)) (λ _ s'=>SP X pins D0 .next s') acc C) (Qe:=λ acc H=>∀p,H p=none->dO i (.ref p) σ (upd H p (.lst acc)) D0.nx) B hc hE hg gk ht he I2 T RC f2 W m0 w0 turn ?_;intro D C s1 H1 acc au hD hC P_ I1 nC nD ⟨m,hn⟩ hl rv hz q;have fC:=I2.lC (b:=C) (H':=H1) hC nC;have fD:=I2.lC (b:=D) (H':=H1) hD nD;obtain⟨k,e⟩:=hl;have I3:Inv X pins σ (upd H1 D (.lst acc)) s1:=I1.sO nD ⟨hz,au,k,rv,e⟩ fD.2.1 (K5 I2.sz hD) fD.2.2.2.2.1 fD.2.2.2.2.2;show wpAny _ X.A (assign (.Name y py) X.env (.ref D)) _ _ s1;refine wpAny_assign_Name (pw I3 hN hiy hy (show RelV (.ref D) (.ref D)from rfl) (λ s2 J2 ⟨a,hsb,ha⟩=>?_) hf);have aC:C≠a:=by
  rcases ha with z|z
  ·rw[z];exact fC.2.1
  ·exact O4 (fC.2.2.2.2.1 _ _ z)
 refine⟨m,hn.sameBut hsb aC,λ h' lB=>?_⟩;have Z':(upd H1 D (.lst acc)) C=none:=by rw[aA (O4 P_)];exact nC
 have I4:Inv X pins (σ.set i (some (.ref D))) (upd H1 D (.lst acc)) {s2 with heap:=h',toks:=s2.toks}:=J2.turned (it:=C) (λ b o hb e=>lB.extBut b o hb e) Z' fC.2.1 fC.2.2.2.1 fC.2.2.2.2.1 fC.2.2.2.2.2;exact⟨_,_,I4,q D nD⟩
end
end L2
namespace L2
open PySem PySem.Spec PyProof.Rows
def fR(x:Str)(lo hi:Option Int):Str:=⟨((x.cps.toList.drop (HT.bW x.length 0 lo)).take (HT.bW x.length x.length hi - HT.bW x.length 0 lo)).toArray⟩
theorem zd(x:Str)(lo hi:Option Int):(fR x lo hi).length<=x.length:=by show((x.cps.toList.drop (HT.bW x.length 0 lo)).take (HT.bW x.length x.length hi - HT.bW x.length 0 lo)).toArray.size<=x.cps.size;rw[z9,B2,A7,p9];omega
theorem Cq(lo hi:Option Int)(n:Nat):Builtin.Str.strSliceIndices lo hi 1 n=sliceRange ((HT.bW n 0 lo:Nat):Int) ((HT.bW n n hi:Nat):Int) 1:=by obtain⟨h1,h2,h3⟩:=jk lo hi n;rw[<- h1,<- h2];rfl
set_option tactic.hygienic true in
theorem zP(x:Str)(lo hi:Option Int):Txt.slice x lo hi=fR x lo hi:=by
 have e:((Builtin.Str.strSliceIndices lo hi 1 x.length).filterMap (x.cps[·]?)).toArray=(fR x lo hi).cps:=by rw[Cq,sliceRange_one,pick_run];rfl
 unfold Txt.slice;split
 ·rename_i h;have hl:(Builtin.Str.strSliceIndices lo hi 1 x.length).length=x.length:=by simpa using h
  rw[Cq,sliceRange_one,D3,y9]at hl;have b1:=HT.wm x.length 0 (N3 _) lo;have b2:=HT.wm x.length x.length (L8 _) hi;have hlen:x.cps.toList.length=x.length:=by simp[Str.length]
  unfold fR;by_cases h0:x.length=0
  ·have:x.cps.toList=[]:=j4.mp (by omega);rw[this];cases x with
   |mk c=>simp at this;subst this;simp
  ·have ea:HT.bW x.length 0 lo=0:=by omega
   have eb:HT.bW x.length x.length hi=x.length:=by omega
   rw[ea,eb,drop_zero,Nat.sub_zero,j5 (by omega)]
 ·exact O3 Str.mk e
section
variable {X:Cx}
def V_:V->Option Int->Option Int->Hp->VK->Prop:=λ x lo hi H Q=>∃z,x=.str z/\z.length<=sizeLine/\Q (.str (fR z lo hi)) H
theorem wZ{h:Heap}{sl:Addr}{vl vu:Value}{lo hi:Option Int}(hs:h.IsSliceOf sl vl vu .none)(pl:IsPart vl lo)(pu:IsPart vu hi):∃l u:Option (Int×Tok),h.IsSlice sl l u none/\l.map (·.1)=lo/\u.map (·.1)=hi:=by
 cases pl with
 |none=>
  cases pu with
  |none=>exact⟨none,none,hs,rfl,rfl⟩
  |int i t=>exact⟨none,some (i,t),hs,rfl,rfl⟩
 |int i t=>
  cases pu with
  |none=>exact⟨some (i,t),none,hs,rfl,rfl⟩
  |int j u=>exact⟨some (i,t),some (j,u),hs,rfl,rfl⟩
theorem MM:zv X V_:=by intro pins s σ H x v vl vu lo hi sl Q I rx hs pl pu h;obtain⟨z,rfl,hz,q⟩:=h;obtain⟨t,rfl⟩:=rx;obtain⟨l,u,Vo,rfl,rfl⟩:=wZ hs pl pu;refine⟨"str",_,PySem.F.slot_str_getitem.lookup,typeIs_str _ _ _,wpAny_getItem_str_slice (l:=l) (u:=u) (st:=none) Vo rfl ?_⟩;rw[<- zP]at q;exact post_val_or_str ⟨K5 (Txt.slice_le z _ _) hz,λ t' k=>⟨.str (Txt.slice z (l.map (·.1)) (u.map (·.1))),H,I.tok k,⟨_,rfl⟩,q⟩⟩
theorem Ak:eQ X (compareOp .LtE) (λ x y H Q=>∃i j,x=.str i/\y=.str j/\Q (.bl (!decide (j.cps.toList < i.cps.toList))) H):=by intro pins s σ H x y v u Q I rx ry h;obtain⟨i,j,rfl,rfl,q⟩:=h;obtain⟨t,rfl⟩:=rx;obtain⟨t',rfl⟩:=ry;exact PySem.P.le_str ⟨.bl (!decide (j.cps.toList < i.cps.toList)),H,I,rfl,q⟩
theorem vY{ys:List Str}:∀{us:List Value},Vals (ys.map V.str) us->StrsAre us ys:=by
 induction ys with
 |nil=>intro us r;rw[map_nil]at r;cases r;exact .nil
 |cons n ns ih=>
  intro us r;rw[H9]at r;cases r with
  |cons r1 r2=>obtain⟨t,e⟩:=r1;subst e;exact .cons n t (ih r2)
def rJoin(K:O8):V->List V->Hp->VK->Prop:=λ x vs H Q=>∃(z:Str) (p:Addr) (ys:List Str),x=.str z/\vs=[.ref p]/\dF K H p (ys.map V.str)/\(ys.map (·.length)).sum+ys.length*z.length<=16777216/\Q (.str (Txt.join z ys)) H
theorem JC:Yh X "str.join" (rJoin X.K):=by intro pins s σ H x xs v us Q I rx r h;obtain⟨z,p,ys,rfl,rfl,hq,hz,q⟩:=h;obtain⟨t,rfl⟩:=rx;obtain⟨u,rfl,r1⟩:=Vals.one r;cases r1;obtain⟨au,rv,pl,_⟩:=I.list hq;exact join_list pl.isList (by simpa using vY rv) hz λ t' k=>⟨.str (Txt.join z ys),H,I.tok k,⟨_,rfl⟩,q⟩
def RU:R2:=λ x y H Q=>∃z n,x=.str z/\y=.int n/\MulOk z n/\Q (.str (Txt.mul z n)) H
theorem wG:eQ X (binaryOp .Mult) RU:=by intro pins s σ H x y v u Q I rx ry h;obtain⟨z,n,rfl,rfl,bq,q⟩:=h;obtain⟨t,rfl⟩:=rx;obtain⟨t',rfl⟩:=ry;exact SB.mul bq λ t' k=>⟨.str (Txt.mul z n),H,I.tok k,⟨_,rfl⟩,q⟩
theorem vh(hc:X.calm=true):cK X (.builtin "all") (λ xs H Q=>∃(p:Addr) (bs:List Bool),xs=[.ref p]/\dF X.K H p (bs.map V.bl)/\Q (.bl (bs.all id)) H):=by
 intro pins s σ H xs us Q I r h;obtain⟨p,bs,rfl,hq,q⟩:=h;obtain⟨u,rfl,r1⟩:=vals1 r;cases r1;obtain⟨au,rv,pl,hz⟩:=I.list hq;refine call_all_walk (y8 pl.isList ?_);have fW:p≠s.heap.objs.size:=by obtain⟨o,n,e,_⟩:=pl;exact K1 (K2 e)
 have hlen:au.length=bs.length:=by rw[<- rv.length,D3]
 refine⟨s.heap.objs.size,_,_,_,_,_,λ i=>(bs[i]?).getD false,rfl,Walks.list (A:=X.A.in1) (show X.A.in1.handled=none from I.ok.hd hc) s.heap.objs.size p fW au.toArray,⟨⟨_,q8 _ rfl,rfl,rfl⟩,pl.isList.at λ o e=>j7 _ e⟩,?_,λ h' tk hk=>?_⟩
 ·intro i v s' Q' E' hP hQ;have Fp:au[i]?=some v:=by simpa using hP
  have hi:i < bs.length:=by rw[<- hlen];exact(i5.mp Fp).1
  have hb:(bs.map V.bl)[i]?=some (V.bl bs[i]):=by simp[hi]
  obtain⟨u,hu,ru⟩:=rv.get hb;rw[Fp]at hu;cases hu;have e:v=Value.bool bs[i]:=ru;subst e;have:(bs[i]?).getD false=bs[i]:=by simp[hi]
  dsimp only at hQ;rw[this]at hQ;exact y7 hQ
 ·refine⟨.bl (bs.all id),H,I.kept (t':=tk) λ b o e=>hk b o (by simpa using K1 (K2 e)) (j7 _ e),?_,q⟩;show Value.bool _=Value.bool _;congr 1;rw[z9,hlen];rw[C0];simp only[B9,mem_range,id];constructor
  ·intro h b hb;obtain⟨i,hi,rfl⟩:=l9.mp hb;have:=h i hi;simpa[hi]using this
  ·intro h i hi;simpa[hi]using h bs[i] (B3 hi)
end
def Rh(x:Str):It:=⟨λ i _=>i < x.cps.size,λ i H v H'=>H'=H/\∃c,x.cps[i]?=some c/\v=.str ⟨#[c]⟩,λ i _=>i=x.cps.size⟩
theorem sL{P:Program}{w:World}{K:O8}{tg:Expr}(it:Addr)(x:Str)(t:Tok)(ty:String)(hty:["enumerate","zip","dict_itemiterator","dict_reverseitemiterator","odict_iterator","itertools.zip_longest","itertools.pairwise"].contains ty=false) (W:∀A':Around,A'.handled=none->Walks P w A' it [it] [it] x.cps.size (SignAt x) (λ i h=>h.IsStrIter it ty x t i)) (self:∀(A:Around) (i:Nat) (s:Shared) (Q:Value->Shared->Prop) (E:Value->Shared->Prop),s.heap.IsStrIter it ty x t i->Q (.ref it) s->wpAny (model P w) A (pyIter (.ref it)) Q E s):Turn P w K tg (Rh x) [it] it (λ i h=>h.IsStrIter it ty x t i) where
 mem:=by simp
 obj:=λ i h st b hb=>by
  have e:b=it:=by simpa using hb
  subst e;obtain⟨o,e,c,d⟩:=st;exact⟨o,e,λ v z=>by rw[d]at z;cases z⟩
 keep:=λ i h h' st k=>by obtain⟨o,e,c,d⟩:=st;exact⟨o,k it (by simp) o e,c,d⟩
 item:=by intro X hP hw hK hc i pins s σ H E I hf st hg;subst hP hw hK;obtain⟨f0,f1,f2,f3,f4,f5⟩:=hf it (by simp);refine(W X.A (I.ok.hd hc)).item i s _ _ hg st λ v h' tk hv vA kk=>?_;obtain⟨c,u,hx,rfl⟩:=hv;have I1:Inv X pins σ H {s with heap:=h',toks:=tk}:=I.turned (λ b o hb e=>kk b o (by simpa using hb) e) f0 f1 f3 f4 f5;obtain⟨o,e,cc,d⟩:=id vA;exact⟨_,rfl,yO (s:={s with heap:=h',toks:=tk}) e cc d hty ⟨.str ⟨#[c]⟩,H,I1,⟨u,rfl⟩,⟨rfl,c,hx,rfl⟩,vA,λ b hb=>(hf b hb).1⟩⟩
 done:=by intro X hP hw hK hc i pins s σ H E I hf st hg;subst hP hw hK;obtain⟨f0,f1,f2,f3,f4,f5⟩:=hf it (by simp);have hg:i=x.cps.size:=hg;subst hg;exact(W X.A (I.ok.hd hc)).done s _ _ st λ h' tk kk=>⟨rfl,I.turned (λ b o hb e=>kk b o (by simpa using hb) e) f0 f1 f3 f4 f5⟩
 self:=self
end L2
namespace L2
open PySem PySem.Spec PyProof.Rows
section
variable {X:Cx}
theorem xJ.imp {r r':R2}(h:xJ X r)(k:∀x y H Q,r' x y H Q->r x y H Q):xJ X r':=λ value slice pins s σ H x y v u Q I rx ry q=>h value slice pins s σ H x y v u Q I rx ry (k x y H Q q)
theorem zv.imp {r r':V->Option Int->Option Int->Hp->VK->Prop}(h:zv X r)(k:∀x lo hi H Q,r' x lo hi H Q->r x lo hi H Q):zv X r':=
 λ pins s σ H x v vl vu lo hi sl Q I rx hs pl pu q=>h pins s σ H x v vl vu lo hi sl Q I rx hs pl pu (k x lo hi H Q q)
def Zw(K:O8):R2:=λ x y H Q=>match x,y with
 | .ref p,.int i=>∃xs v,(dF K H p xs\/fZ K H p xs)/\gJ xs i=some v/\Q v H
 | .str z,.int i=>z.length<=sizeLine/\∃c,gJ z.cps.toList i=some c/\Q (.str ⟨#[c]⟩) H
 |_,_=>False
theorem bA:xJ X (Zw X.K):=Py.imp λ x y H Q q=>by
 cases x <;> cases y <;> first
  |exact False.elim q
  |(obtain⟨xs,v,h|h,e,q⟩:=q
    ·exact .inl ⟨_,xs,_,v,rfl,rfl,h,e,q⟩
    ·exact .inr (.inl ⟨_,xs,_,v,rfl,rfl,h,e,q⟩))
  |(obtain⟨hz,c,e,q⟩:=q
    exact .inr (.inr ⟨_,_,c,rfl,rfl,hz,e,q⟩))
def aSl(K:O8):V->Option Int->Option Int->Hp->VK->Prop:=λ x lo hi H Q=>match x with
 | .str z=>z.length<=sizeLine/\Q (.str (fR z lo hi)) H
 | .ref a=>RS K (.ref a) lo hi H Q\/RR K (.ref a) lo hi H Q
 |_=>False
theorem qD:zv X (aSl X.K):=(MM.or (Ho.or ML)).imp λ x lo hi H Q q=>by cases x <;> first|exact False.elim q|exact .inl ⟨_,rfl,q⟩|exact .inr q
end
end L2
namespace L2
open PySem PySem.Spec PyProof.Rows
structure bO(P:Program)(w:World)(K:O8)(mg:Str->Option Value)(base:Heap)(k:Nat)(x:Str)(ps:List Str)(sp:Sp):Prop where
 ex:∃(f:Addr) (fd:FuncData),bx P w K mg base eS k f fd ps sp/\mg x=some (.ref f)/\PySem.W.keepIn K (.ref f)=true/\Binds K fd ps []
theorem bO.of {P:Program}{w:World}{K:O8}{mg:Str->Option Value}{base:Heap}{k:Nat}{x qual:Str}{ps:List Str}{sp:Sp}{st:Stmt}{f:Addr}{fd:FuncData}(F:dU K x qual st f fd)(G:bx P w K mg base eS k f fd ps sp)(hm:mg x=some (.ref f))(b:Binds K fd ps []):bO P w K mg base k x ps sp:=⟨f,fd,G,hm,F.kp,b⟩
def tD(sp:Sp)(t:TA):TE:=λ σ H Q=>t σ H λ vs H1=>sp vs H1 Q E0
section
variable {X:Cx}{x:Str}{p pos:Pos}{e:Expr}{es:List Expr}{t:TA}{k j:Nat}{ps:List Str}{sp:Sp}
theorem OB(d:bO X.prog X.w X.K X.mg X.base k x ps sp)(hr:bK k X.A)(hg:Gl X x)(ha:PA X (e::es) t)(hdb:(x==("__debug__":Str))=false:=by decide)(he:starEach (e::es) X.env=(false,eval e X.env)::starEach es X.env:=by rfl) (hpl:(backTo pos (starEach es X.env)).any (·.1)=false:=by rfl):PE X (.Call (.Name x p) (e::es) [] pos) (tD sp t):=by
 obtain⟨f,fd,G,hm,kp,b⟩:=d.ex;intro pins s σ H Q I h;have h':Lq sp [] E0 t σ H Q:=by
  show t σ H λ vs H1=>sp (vs++[]) H1 Q E0;have e:(λ(vs:List V) (H1:Hp)=>sp (vs++[]) H1 Q E0)=λ vs H1=>sp vs H1 Q E0:=by funext vs H1;rw[C1]
  rw[e];exact h
 exact yw (E:=E0) G hr hg hm kp b .nil Si ha hdb he hpl pins s σ H Q I h'
end
def vi(X:Cx)(scope:Scope)(fr:List Nat):Bool:=
 (scope.kind==.function)&&(scope.names.all λ y=>(y.2 != .cell||scope.names.lookup y.1==some .cell)&&(y.2 != .local||scope.names.lookup y.1==some .local)&&(y.2 != .free||X.env.kindOf y.1==some .cell||X.env.kindOf y.1==some .free))&&
 (fr.all λ j=>decide (j < X.N.length)&&scope.names.lookup (X.N.getD j "")==some .free)
theorem bc{X:Cx}{scope:Scope}{fr:List Nat}(h:vi X scope fr=true):jP X scope fr:=by
 unfold vi at h;rw[B1,B1]at h;obtain⟨⟨h1,h2⟩,h3⟩:=h;rw[B9]at h2 h3;refine⟨by simpa using h1,λ y hy hl=>?_,λ y hy hl=>?_,λ n hn=>?_,λ j hj=>?_⟩
 ·have:=h2 y hy;simp only[B1]at this;have:=this.1.1;rw[hl]at this;simpa using this
 ·have:=h2 y hy;simp only[B1]at this;have:=this.1.2;rw[hl]at this;simpa using this
 ·have:=h2 _ hn;simp only[B1]at this;have:=this.2;simpa using this
 ·have:=h3 j hj;rw[B1]at this;exact⟨by simpa using this.1,by simpa using this.2⟩
section
variable {X:Cx}{tg:Expr}
def WV(K:O8)(tl:TE):TI:=λ σ H R=>tl σ H λ x H1=>match x with
 | .str z=>R (Rh z) H1
 | .ref a=>(∃xs,dF K H1 a xs/\R (VJ K a) H1)\/(∃xs,fZ K H1 a xs/\R (Yk K a) H1)
 |_=>False
theorem Ow{l:Expr}{tl:TE}(hl:PE X l tl):PI X tg l (WV X.K tl):=by
 intro pins s σ H R I h;have yM:PE X l (λ σ' H' Q=>Q=Q/\tl σ' H' Q):=λ pins s σ H Q I q=>hl pins s σ H Q I q.2;refine cG (hl pins s σ H _ I h) λ v s1 ⟨x,H1,I1,r1,q1⟩=>?_;have fp:∀b∈[s1.heap.objs.size],iZ X pins H1 b:=λ b hb=>by
  have e:b=s1.heap.objs.size:=by simpa using hb
  subst e;exact I1.lC (L8 _) (I1.bq.fresh (L8 _))
 cases x with
 |str z=>
  have q:R (Rh z) H1:=q1;obtain⟨t,rfl⟩:=r1;cases ha:z.cps.all (· < 128)
  ·exact wpAny_pyIter_wide ha ⟨s1.heap.objs.size,[s1.heap.objs.size],_,Rh z,H1,rfl,I1.kept (t':=s1.toks) λ b o e=>j7 _ e,sL _ z t "str_iterator" (by decide) (λ A' hA=>Walks.strWide hA _ z t) (λ _ _ _ _ _ st h=>wpAny_pyIter_striter_wide st h),⟨_,q8 _ rfl,rfl,rfl⟩,fp,q⟩
  ·exact wpAny_pyIter_ascii ha ⟨s1.heap.objs.size,[s1.heap.objs.size],_,Rh z,H1,rfl,I1.kept (t':=s1.toks) λ b o e=>j7 _ e,sL _ z t "str_ascii_iterator" (by decide) (λ A' hA=>Walks.strAscii hA _ z t) (λ _ _ _ _ _ st h=>wpAny_pyIter_striter_ascii st h),⟨_,q8 _ rfl,rfl,rfl⟩,fp,q⟩
 |ref a=>
  cases(show v=Value.ref a from r1);rcases q1 with⟨xs,hq,q⟩|⟨xs,hq,q⟩
  ·obtain⟨au,rv,p,hz⟩:=I1.list hq;exact y8 p.isList ⟨s1.heap.objs.size,[s1.heap.objs.size],_,_,H1,rfl,I1.kept (t':=s1.toks) λ b o e=>j7 _ e,zH a _,⟨_,q8 _ rfl,rfl,rfl⟩,fp,q⟩
  ·obtain⟨au,rv,p,hz⟩:=I1.tuple hq;exact wpAny_pyIter_tuple (show s1.heap.IsTuple a au.toArray from p) ⟨s1.heap.objs.size,[s1.heap.objs.size],_,_,H1,rfl,I1.kept (t':=s1.toks) λ b o e=>j7 _ e,vU a _,⟨_,q8 _ rfl,rfl,rfl⟩,fp,q⟩
 |_=>exact False.elim q1
end
end L2
namespace L2
open PySem PySem.Spec PyProof.Rows
inductive IK where
 |i (n:Int)
 |t (ks:List IK)
noncomputable instance:DecidableEq IK:=λ a b=>Classical.propDecidable (a=b)
mutual
def IK.dep:IK->Nat
 | .i _=>0
 | .t ks=>IK.nQ ks+1
def IK.nQ:List IK->Nat
 |[]=>0
 |k::ks=>max k.dep (IK.nQ ks)
end
mutual
def Fb:IK->Int
 | .i n=>hashInt n
 | .t ks=>reduceHash (Builtin.Tuple.tupleHashOf (rC ks))
def rC:List IK->List Int
 |[]=>[]
 |k::ks=>Fb k::rC ks
end
mutual
def BF:IK->Nat
 | .i _=>1
 | .t ks=>hV ks+1
def hV:List IK->Nat
 |[]=>0
 |k::ks=>BF k+hV ks
end
mutual
def df(h:Heap):IK->Value->Prop
 | .i n,v=>∃t,v=.int n t
 | .t ks,v=>∃(a:Addr) (o:Obj) (au:List Value) (n:Nat),v=.ref a/\h.get? a=some o/\o.cls=.type "tuple"/\o.data=.seq au.toArray n/\cm h ks au
def cm(h:Heap):List IK->List Value->Prop
 |[],vs=>vs=[]
 |k::ks,vs=>∃v r,vs=v::r/\df h k v/\cm h ks r
end
mutual
def pP:IK->PyData
 | .i n=>.int n
 | .t ks=>.tuple (hU ks)
def hU:List IK->List PyData
 |[]=>[]
 |k::ks=>pP k::hU ks
end
theorem ur:∀ks:List IK,rC ks=ks.map Fb
 |[]=>by unfold rC;rfl
 |k::ks=>by unfold rC;rw[ur ks];rfl
theorem uq:∀(ks ls:List IK),hV (ks++ls)=hV ks+hV ls
 |[],ls=>by rw[nil_append];unfold hV;split <;> omega
 |k::ks,ls=>by rw[B8];have:=uq ks ls;show BF k+hV (ks++ls)=BF k+hV ks+hV ls;omega
theorem EZ(k:IK):hV [k]=BF k:=by show BF k+hV []=BF k;unfold hV;omega
theorem E_:hV []=0:=by unfold hV;rfl
theorem jJ:∀{ks:List IK} {k:IK},k∈ks->k.dep<=IK.nQ ks
 |k0::ks,k,h=>by
  show k.dep<=max k0.dep (IK.nQ ks);rcases J0.mp h with rfl|h
  ·exact Nat.le_max_left _ _
  ·exact K5 (jJ h) (Nat.le_max_right _ _)
section
variable {prog:Program}{w:World}
theorem Kg:∀(n:Nat) (k:IK),k.dep<=n->∀{A:Around} {E:Value->Shared->Prop} {s:Shared} {v:Value} {Q:Int->Shared->Prop},A.units+k.dep < cLine->df s.heap k v->Q (Fb k) {s with toks:=s.toks+BF k}->wpAny (model prog w) A (pyHash v) Q E s:=by
 intro n
 induction n with
 |zero=>
  intro k hk A E s v Q hu hi h;cases k with
  |i m=>unfold df at hi;obtain⟨t,rfl⟩:=hi;unfold Fb BF at h;exact wpAny_pyHash_int h
  |t ks=>unfold IK.dep at hk;omega
 |succ n ih=>
  intro k hk A E s v Q hu hi h;cases k with
  |i m=>unfold df at hi;obtain⟨t,rfl⟩:=hi;unfold Fb BF at h;exact wpAny_pyHash_int h
  |t ks=>
   unfold df at hi;obtain⟨a,o,au,m,rfl,ho,hc,hd,hits⟩:=hi;have nH:IK.nQ ks<=n:=by unfold IK.dep at hk;omega
   have YN:A.units+(IK.nQ ks+1) < cLine:=by unfold IK.dep at hu;exact hu
   have hT:s.TypeIs (.ref a) "tuple":=⟨o,ho,hc⟩;unfold pyHash;(first|unfold pyHashByItsType|skip);(first|refine N6 (wpAny_cRoomFor_or (.inr (show A.units < cLine by omega)) ?_)|skip);refine N6 (E3 hT F.slot_tuple_hash.lookup ?_);show wpAny _ _ (if(some (Value.builtin "tuple.__hash__")==some Value.none)=true then _ else _) Q E s;rw[O7 (by rw[beq_builtin_none];exact u3)];refine N6 (E3 hT F.slot_tuple_hash.lookup ?_);show wpAny _ _ (callSpecialIfBoundUnlessNone? (.ref a) "__hash__" _ >>= _) Q E s;refine N6 (wpAny_callSpecialIfBoundUnlessNone?_slot hT F.slot_tuple_hash (A9 F.slot_tuple_hash hT F.entry_tuple_hash ?_ (F.args_tuple_hash_1 _)));show wpAny _ _ (Builtin.Tuple.tupleItemsOf (.ref a) >>= _) _ _ s;refine N6 (wpAny_tupleItemsOf ho hd (N6 ?_));rw[<- x8];refine wpAny_forIn_list _ (λ rest (b:Array Int) s'=>∃done left,ks=done++left/\cm s.heap left rest/\b.toList=done.map Fb/\s'={s with toks:=s.toks+hV done}) _ ?_ ?_ _ _ ⟨[],ks,rfl,hits,rfl,by rw[E_];rfl⟩
   ·rintro x rest b s' ⟨done,left,rfl,hl,hb,rfl⟩;cases left with
    |nil=>unfold cm at hl;cases hl
    |cons k1 left=>
     unfold cm at hl;obtain⟨v,r,e,h1,h2⟩:=hl;cases e;have hm:=jJ (ks:=done++k1::left) (k:=k1) (by simp);refine N6 (ih k1 (by omega) (A:=A.in1) (show A.units+1+_ < cLine by omega) h1 ?_);have fin:∃d2 l2,done++k1::left=d2++l2/\cm s.heap l2 rest/\(b.push (Fb k1)).toList=d2.map Fb/\({s with toks:=s.toks+hV done+BF k1}:Shared)={s with toks:=s.toks+hV d2}:=
      ⟨done++[k1],left,by simp,h2,by simp[hb],by rw[uq,EZ,Nat.add_assoc]⟩
     first|exact N7 fin|exact N6 (N7 (N7 fin))
   ·rintro b s' ⟨done,left,rfl,hl,hb,rfl⟩;cases left with
    |cons k1 left=>unfold cm at hl;obtain⟨v,r,e,_⟩:=hl;cases e
    |nil=>
     rw[C1]at h;show wpAny _ _ (retInt (Builtin.Tuple.tupleHashOf b.toList)) _ _ _;rw[hb,<- ur];refine wpAny_ret_mkInt ?_;show wpAny _ _ (if(decide (-(2:Int)^63<=Builtin.Tuple.tupleHashOf (rC done))&&decide (Builtin.Tuple.tupleHashOf (rC done) < 2^63))=true then _ else _) Q E _;unfold Fb BF reduceHash at h;by_cases hr:(decide (-(2:Int)^63<=Builtin.Tuple.tupleHashOf (rC done))&&decide (Builtin.Tuple.tupleHashOf (rC done) < 2^63))=true
     ·rw[O6 hr]at h ⊢;exact N7 (by simpa[Nat.add_assoc]using h)
     ·rw[O7 hr]at h ⊢;exact N6 (N8 (N7 (by simpa[Nat.add_assoc]using h)))
end
end L2
namespace L2
open PySem PySem.Spec PyProof.Rows
mutual
theorem nA{h:Heap}:∀(k:IK) {v:Value},df h k v->∃as,Reads h v (pP k) as
 | .i n,v,x=>by unfold df at x;obtain⟨t,rfl⟩:=x;unfold pP;exact⟨_,Reads.int n t⟩
 | .t ks,v,x=>by unfold df at x;obtain⟨a,o,au,n,rfl,ho,hc,hd,q⟩:=x;obtain⟨as,r⟩:=pO ks q;unfold pP;exact⟨_,reads_tuple_at ho hc hd (by simpa using r)⟩
theorem pO{h:Heap}:∀(ks:List IK) {vs:List Value},cm h ks vs->∃as,ReadsAll h vs (hU ks) as
 |[],vs,x=>by unfold cm at x;subst x;unfold hU;exact⟨_,ReadsAll.nil⟩
 |k::ks,vs,x=>by unfold cm at x;obtain⟨v,r,rfl,h1,h2⟩:=x;obtain⟨as,a⟩:=nA k h1;obtain⟨bs,b⟩:=pO ks h2;unfold hU;exact⟨_,ReadsAll.cons a b⟩
end
mutual
theorem rA:∀k:IK,(pP k).canLay0=true
 | .i n=>by unfold pP;simp[PyData.canLay0]
 | .t ks=>by unfold pP;simp only[PyData.canLay0];exact um ks
theorem um:∀ks:List IK,PyData.canLayAll0 (hU ks)=true
 |[]=>by unfold hU;simp[PyData.canLayAll0]
 |k::ks=>by unfold hU;simp only[PyData.canLayAll0];rw[rA k,um ks];rfl
end
mutual
theorem rB:∀k:IK,(pP k).depth=k.dep
 | .i n=>by unfold pP IK.dep;simp[PyData.depth]
 | .t ks=>by unfold pP IK.dep;simp only[PyData.depth];rw[uo ks]
theorem uo:∀ks:List IK,PyData.depthAll (hU ks)=IK.nQ ks
 |[]=>by unfold hU IK.nQ;simp[PyData.depthAll]
 |k::ks=>by unfold hU IK.nQ;simp only[PyData.depthAll];rw[rB k,uo ks]
end
mutual
theorem EY:∀a b:IK,PyData.eqv (pP a) (pP b)=true↔a=b
 | .i n,.i m=>by unfold pP;simp[PyData.eqv]
 | .i n,.t ks=>by unfold pP;simp[PyData.eqv]
 | .t ks,.i n=>by unfold pP;simp[PyData.eqv]
 | .t ks,.t ls=>by unfold pP;simp only[PyData.eqv,IK.t.injEq];exact yK ks ls
theorem yK:∀as bs:List IK,PyData.eqvAll (hU as) (hU bs)=true↔as=bs
 |[],[]=>by unfold hU;simp[PyData.eqvAll]
 |[],b::bs=>by unfold hU;simp[PyData.eqvAll]
 |a::as,[]=>by unfold hU;simp[PyData.eqvAll]
 |a::as,b::bs=>by unfold hU;simp only[PyData.eqvAll,B1,List.cons.injEq];rw[EY a b,yK as bs]
end
mutual
theorem EX{h:Heap}:∀(x y:IK) {v:Value},df h x v->df h y v->x=y
 | .i n,.i m,v,a,b=>by unfold df at a b;obtain⟨t,rfl⟩:=a;obtain⟨u,e⟩:=b;cases e;rfl
 | .i n,.t ks,v,a,b=>by unfold df at a b;obtain⟨t,rfl⟩:=a;obtain⟨_,_,_,_,e,_⟩:=b;cases e
 | .t ks,.i n,v,a,b=>by unfold df at a b;obtain⟨t,rfl⟩:=b;obtain⟨_,_,_,_,e,_⟩:=a;cases e
 | .t ks,.t ls,v,a,b=>by unfold df at a b;obtain⟨a1,o1,i1,n1,rfl,g1,_,d1,q1⟩:=a;obtain⟨a2,o2,i2,n2,e,g2,_,d2,q2⟩:=b;cases e;rw[g1]at g2;cases g2;rw[d1]at d2;cases d2;rw[yJ ks ls q1 q2]
theorem yJ{h:Heap}:∀(xs ys:List IK) {vs:List Value},cm h xs vs->cm h ys vs->xs=ys
 |[],[],vs,_,_=>rfl
 |[],y::ys,vs,a,b=>by unfold cm at a b;subst a;obtain⟨_,_,e,_⟩:=b;cases e
 |x::xs,[],vs,a,b=>by unfold cm at a b;subst b;obtain⟨_,_,e,_⟩:=a;cases e
 |x::xs,y::ys,vs,a,b=>by unfold cm at a b;obtain⟨v,r,rfl,a1,a2⟩:=a;obtain⟨v2,r2,e,b1,b2⟩:=b;cases e;rw[EX x y a1 b1,yJ xs ys a2 b2]
end
theorem PF{h:Heap}{k:IK}{v:Value}(x:df h k v){d:Addr}{o:Obj}{es:Array DictEntry}{ep:Nat}(ho:h.get? d=some o)(hd:o.data=.dict es ep){h':Heap}(hs:Heap.SameBut d h h'):df h' k v:=by
 have gen:∀(n:Nat) (k:IK),k.dep<=n->∀v,df h k v->df h' k v:=by
  intro n
  induction n with
  |zero=>
   intro k hk v x;cases k with
   |i m=>unfold df at x ⊢;exact x
   |t ks=>unfold IK.dep at hk;omega
  |succ n ih=>
   intro k hk v x;cases k with
   |i m=>unfold df at x ⊢;exact x
   |t ks=>
    unfold df at x ⊢;obtain⟨a,o',au,m,e,kQ,hc,gH,r⟩:=x;have fW:a≠d:=λ z=>by subst z;rw[ho]at kQ;cases kQ;rw[hd]at gH;cases gH
    refine⟨a,o',au,m,e,(hs.2 a fW).trans kQ,hc,gH,?_⟩;have nH:IK.nQ ks<=n:=by unfold IK.dep at hk;omega
    have all:∀(ls:List IK) (vs:List Value),(∀l∈ls,l.dep<=n)->cm h ls vs->cm h' ls vs:=by
     intro ls
     induction ls with
     |nil=>intro vs _ y;unfold cm at y ⊢;exact y
     |cons l ls ihl=>intro vs hl y;unfold cm at y ⊢;obtain⟨v,r,e,h1,h2⟩:=y;exact⟨v,r,e,ih l (hl l (s9 ..)) v h1,ihl r (λ z hz=>hl z (l7 _ hz)) h2⟩
    exact all ks au (λ l hl=>K5 (jJ hl) nH) r
 exact gen k.dep k (L8 _) v x
section
variable {prog:Program}{w:World}
theorem EW:∀(n:Nat) (k:IK),k.dep<=n->∀{A:Around} {E:Value->Shared->Prop} {s:Shared} {v:Value} {Q:Bool->Shared->Prop},df s.heap k v->Q true s->wpAny (model prog w) A (eqIsQuiet n v) Q E s:=by
 intro n
 induction n with
 |zero=>
  intro k hk A E s v Q hi h;cases k with
  |i m=>unfold df at hi;obtain⟨t,rfl⟩:=hi;rw[eqIsQuiet_byValue _ rfl];exact N7 h
  |t ks=>unfold IK.dep at hk;omega
 |succ n ih=>
  intro k hk A E s v Q hi h;cases k with
  |i m=>unfold df at hi;obtain⟨t,rfl⟩:=hi;rw[eqIsQuiet_byValue _ rfl];exact N7 h
  |t ks=>
   unfold df at hi;obtain⟨a,o,au,m,rfl,ho,hc,hd,hits⟩:=hi;have nH:IK.nQ ks<=n:=by unfold IK.dep at hk;omega
   have hT:s.TypeIs (.ref a) "tuple":=⟨o,ho,hc⟩;unfold eqIsQuiet;refine N6 (E3 hT F.slot_tuple_eq.lookup ?_);show wpAny _ _ (isInstance (.ref a) (.type "tuple") >>= _) _ _ s;refine N6 (B7 hT isSubtype_tuple_tuple ?_);simp only[Bool.not_true,u5,O2];refine N6 (E8 ho hd (N6 ?_));show wpAny _ _ (forIn au.toArray _ _) _ _ s;rw[<- x8];refine wpAny_forIn_list _ (λ rest r s'=>r.1=none/\s'=s/\∃left,(∀l∈left,l∈ks)/\cm s.heap left rest) _ ?_ ?_ _ _ ⟨rfl,rfl,ks,λ l hl=>hl,hits⟩
   ·rintro x rest r s' ⟨hr,rfl,left,Ki,hl⟩;cases left with
    |nil=>unfold cm at hl;cases hl
    |cons k1 left=>unfold cm at hl;obtain⟨v,r',e,h1,h2⟩:=hl;cases e;refine N6 (ih k1 (K5 (jJ (Ki k1 (s9 ..))) nH) h1 ?_);simp only[Bool.not_true,u5,O2];exact N7 ⟨rfl,rfl,left,λ l hl=>Ki l (l7 _ hl),h2⟩
   ·rintro⟨r1,r2⟩ s' ⟨hr,rfl,_⟩;simp only at hr;subst hr;exact N7 h
def mx(prog:Program)(w:World):HeapKind prog w IK where
 is:=λ h k a=>k.dep<=5/\df h k (.ref a)
 hash:=Fb
 draws:=BF
 room:=λ A=>A.units+8 < cLine
 inj:=λ hx hy=>EX _ _ hx.2 hy.2
 keeps:=λ x ho hd hs=>⟨x.1,PF x.2 ho hd hs⟩
 pyHash:=λ hu hk h=>Kg 5 _ hk.1 (by have:=hk.1;omega) hk.2 h
 eqBool:=λ{A E s x y a b Q} hu hx hy h=>by
  obtain⟨as,ra⟩:=nA x hx.2;obtain⟨bs,rb⟩:=nA y hy.2;refine A2 (pP x) (pP y) A s _ _ _ _ ra rb (rA x) (rA y) ?_ prog w E Q ?_
  ·rw[rB,rB];have:=hx.1;have:=Nat.min_le_left x.dep y.dep;omega
  ·have e:PyData.eqv (pP x) (pP y)=decide (x=y):=by rw[C0,y2];exact EY x y
   rw[e];exact h
 quiet:=λ hk h=>EW 8 _ (K5 hk.1 (by decide)) hk.2 h
end
end L2
namespace L2
open PySem PySem.Spec PyProof.Rows
section
variable {κ:Type}[DecidableEq κ]
def iP(aw:List (κ×V))(k:κ):Option V:=(aw.find? λ kv=>decide (kv.1=k)).map (·.2)
def putK(aw:List (κ×V))(k:κ)(v:V):List (κ×V):=
 if(aw.any λ kv=>decide (kv.1=k))=true then aw.map (λ kv=>if kv.1=k then(kv.1,v)else kv)else aw++[(k,v)]
theorem mn{p:κ×V}{r:List (κ×V)}{k:κ}(e:p.1=k):iP (p::r) k=some p.2:=by simp[iP,C2,e]
theorem mq{p:κ×V}{r:List (κ×V)}{k:κ}(e:¬p.1=k):iP (p::r) k=iP r k:=by simp[iP,C2,e]
theorem mr(k:κ):∀aw:List (κ×V),(aw.any λ kv=>decide (kv.1=k))=(iP aw k).isSome
 |[]=>rfl
 |p::r=>by
  rw[any_cons];by_cases e:p.1=k
  ·simp only[mn e,E7 e,Bool.true_or,Option.isSome_some]
  ·rw[mq e,C3 e,Bool.false_or];exact mr k r
theorem kM(aw:List (κ×V))(k:κ)(v:V):(putK aw k v).length<=aw.length+1:=by
 unfold putK;split
 ·rw[D3];omega
 ·rw[u4,A5,length_nil];omega
theorem gM.dW {o:Option V}{u:Option Value}(r:gM o u):o.isSome=u.isSome:=by
 cases o with
 |none=>cases u with
  |none=>rfl
  |some _=>exact(show False from r).elim
 |some _=>cases u with
  |none=>exact(show False from r).elim
  |some _=>rfl
theorem KV.val {aw:List (κ×V)}{vs:List (κ×Value)}(r:KV aw vs)(k:κ):gM (iP aw k) (valueAt vs k):=by
 unfold KV at r
 induction r with
 |nil=>exact True.intro
 |@cons p q ps qs h t ih=>
  obtain⟨h1,h2⟩:=h;by_cases e:p.1=k
  ·have e':q.1=k:=h1.symm.trans e;have b:valueAt (q::qs) k=some q.2:=by simp[valueAt,C2,e']
   rw[mn e,b];exact h2
  ·have e':¬q.1=k:=λ z=>e (h1.trans z);have b:valueAt (q::qs) k=valueAt qs k:=by simp[valueAt,C2,e']
   rw[mq e,b];exact ih
theorem KV.any {aw:List (κ×V)}{vs:List (κ×Value)}(r:KV aw vs)(k:κ):(aw.any λ kv=>decide (kv.1=k))=vs.any λ kv=>decide (kv.1=k):=by
 unfold KV at r
 induction r with
 |nil=>rfl
 |cons h t ih=>rw[any_cons,any_cons,ih,h.1]
theorem KV.CT {aw:List (κ×V)}{vs:List (κ×Value)}(r:KV aw vs)(k:κ){y:V}{u:Value}(ry:RelV y u):KV (aw.map λ kv=>if kv.1=k then(kv.1,y)else kv) (vs.map λ kv=>if kv.1=k then(kv.1,u)else kv):=by
 unfold KV at r ⊢
 induction r with
 |nil=>exact .nil
 |@cons p q ps qs h t ih=>
  rw[H9,H9];refine .cons ?_ ih;obtain⟨h1,h2⟩:=h;by_cases e:p.1=k
  ·rw[O6 e,O6 (h1.symm.trans e)];exact⟨h1,ry⟩
  ·rw[O7 e,O7 (λ z=>e (h1.trans z))];exact⟨h1,h2⟩
theorem KV.put {aw:List (κ×V)}{vs:List (κ×Value)}(r:KV aw vs)(k:κ){y:V}{u:Value}(ry:RelV y u):KV (putK aw k y) (stored vs k u):=by
 unfold putK stored;rw[r.any k];by_cases e:(vs.any λ kv=>decide (kv.1=k))=true
 ·rw[O6 e,O6 e];exact r.CT k ry
 ·rw[O7 e,O7 e];exact Paired.snoc r ⟨rfl,ry⟩
theorem KV.length {aw:List (κ×V)}{vs:List (κ×Value)}(r:KV aw vs):aw.length=vs.length:=G9 r
end
theorem uh{P:Program}{w:World}{k:Key}{u:Value}(r:RelV (kV k) u):(cj P w).is k u=true:=by
 cases k with
 |inl i=>obtain⟨t,e⟩:=(show ∃t,u=Value.int i t from r);subst e;exact kL P w i t
 |inr x=>obtain⟨t,e⟩:=(show ∃t,u=Value.str x t from r);subst e;exact tU P w x t
theorem pN{P:Program}{w:World}:∀{ks:List Key} {us:List Value},Vals (ks.map kV) us->ItemsAre (cj P w) ks us
 |[],_,r=>by rw[map_nil]at r;cases r;exact .nil
 |k::ks,_,r=>by
  rw[H9]at r;cases r with
  |cons h t=>exact .cons (uh h) (pN t)
abbrev KT(H:Hp):List (List Key×V)->List (List Key×Addr×Value)->Prop:=Paired λ p q=>p.1=q.1/\H q.2.1=some (.tup (p.1.map kV))/\RelV p.2 q.2.2
theorem KT.val {H:Hp}{aw:List (List Key×V)}{xs:List (List Key×Addr×Value)}(r:KT H aw xs)(k:List Key):gM (iP aw k) ((atKey xs k).map (·.2)):=by
 induction r with
 |nil=>exact True.intro
 |@cons p q ps qs h t ih=>
  obtain⟨h1,_,h2⟩:=h;by_cases e:p.1=k
  ·have e':q.1=k:=h1.symm.trans e;have b:atKey (q::qs) k=some q.2:=by simp[atKey,C2,e']
   rw[mn e,b];exact h2
  ·have e':¬q.1=k:=λ z=>e (h1.trans z);have b:atKey (q::qs) k=atKey qs k:=by simp[atKey,C2,e']
   rw[mq e,b];exact ih
theorem KT.CT {H:Hp}{aw:List (List Key×V)}{xs:List (List Key×Addr×Value)}(r:KT H aw xs)(k:List Key){y:V}{u:Value}(ry:RelV y u):KT H (aw.map λ kv=>if kv.1=k then(kv.1,y)else kv) (xs.map (putAt k u)):=by
 induction r with
 |nil=>exact .nil
 |@cons p q ps qs h t ih=>
  rw[H9,H9];refine .cons ?_ ih;obtain⟨h1,h2,h3⟩:=h;unfold putAt;by_cases e:p.1=k
  ·rw[O6 e,O6 (h1.symm.trans e)];exact⟨h1,h2,ry⟩
  ·rw[O7 e,O7 (λ z=>e (h1.trans z))];exact⟨h1,h2,h3⟩
theorem KT.put {H:Hp}{aw:List (List Key×V)}{xs:List (List Key×Addr×Value)}(r:KT H aw xs)(k:List Key){b:Addr}{y:V}{u:Value}(hb:H b=some (.tup (k.map kV)))(ry:RelV y u):KT H (putK aw k y) (storedH xs k b u):=by
 have e:(aw.any λ kv=>decide (kv.1=k))=(atKey xs k).isSome:=by rw[mr,(r.val k).dW,z0]
 unfold putK storedH;rw[e];by_cases q:(atKey xs k).isSome=true
 ·rw[O6 q,O6 q];exact r.CT k ry
 ·rw[O7 q,O7 q];exact Paired.snoc r ⟨rfl,hb,ry⟩
theorem KT.keeps {H H':Hp}{aw:List (List Key×V)}{xs:List (List Key×Addr×Value)}(r:KT H aw xs)(ht:∀b ys,H b=some (.tup ys)->H' b=some (.tup ys)):KT H' aw xs:=
 Paired.Es r λ _ _ z=>⟨z.1,ht _ _ z.2.1,z.2.2⟩
section
variable {P:Program}{w:World}{H:Hp}{h:Heap}{a:Addr}
theorem Ly{u:HO}(ok:f_ P w H h)(e:Rd H a u):bD P w H h a u:=e.ok ok
theorem pT{aw:List (Key×V)}(ok:f_ P w H h)(e:Rd H a (.dK aw)):aw.length<=sizeLine/\(a==sysModules)=false/\∃vs,KV aw vs/\h.DictOf (cj P w) a vs:=
 show bD P w H h a (.dK aw)from Ly ok e
theorem T4{aw:List (Key×V)}(ok:f_ P w H h)(e:H a=some (.dK aw)):aw.length<=sizeLine/\(a==sysModules)=false/\∃vs,KV aw vs/\h.DictOf (cj P w) a vs:=pT ok (.inl e)
theorem nh{ks:List Key}(ok:f_ P w H h)(e:H a=some (.tup (ks.map kV))):(tupleKind (cj P w)).is h ks a:=by obtain⟨_,au,r,o,h1,h2,n,h3⟩:=(show bD P w H h a (.tup (ks.map kV))from ok a _ e);exact⟨o,au.toArray,n,h1,h2,h3,by simpa using pN r⟩
theorem uJ{aw:List (List Key×V)}(ok:f_ P w H h)(e:Rd H a (.dT aw)):aw.length<=sizeLine/\(a==sysModules)=false/\
  ∃xs,KT H aw xs/\h.DictOfH (tupleKind (cj P w)) a xs:=by
 obtain⟨z,y,xs,r,o,es,ep,h1,h2,h3,h4,h5⟩:=(show bD P w H h a (.dT aw)from Ly ok e);refine⟨z,y,xs,r,o,es,ep,h1,h2,h3,h4,λ x hx=>?_,h5⟩;have all:∀{l:List (List Key×V)} {m:List (List Key×Addr×Value)},KT H l m->∀x∈m,(tupleKind (cj P w)).is h x.1 x.2.1:=by
  intro l m q
  induction q with
  |nil=>intro x hx;exact nomatch hx
  |@cons p q ps qs hq t ih=>
   intro x hx;rcases J0.mp hx with e|hx
   ·subst e;exact nh ok (by rw[<- hq.1];exact hq.2.1)
   ·exact ih x hx
 exact all r x hx
theorem T3{aw:List (List Key×V)}(ok:f_ P w H h)(e:H a=some (.dT aw)):aw.length<=sizeLine/\(a==sysModules)=false/\
  ∃xs,KT H aw xs/\h.DictOfH (tupleKind (cj P w)) a xs:=uJ ok (.inl e)
end
def oY(H:Hp)(a:Addr)(y:V)(r:Option V):Prop:=
 (∃aw k,Rd H a (.dK aw)/\y=kV k/\r=iP aw k)\/∃aw k b,Rd H a (.dT aw)/\y=.ref b/\H b=some (.tup (k.map kV))/\r=iP aw k
def Gv(H:Hp)(a:Addr)(y v:V)(H':Hp):Prop:=
 (∃aw k,H a=some (.dK aw)/\y=kV k/\aw.length < sizeLine/\H'=upd H a (.dK (putK aw k v)))\/
 ∃aw k b,H a=some (.dT aw)/\y=.ref b/\H b=some (.tup (k.map kV))/\aw.length < sizeLine/\H'=upd H a (.dT (putK aw k v))
theorem oY.k {H:Hp}{a:Addr}{aw:List (Key×V)}{k:Key}(e:H a=some (.dK aw)):oY H a (kV k) (iP aw k):=.inl ⟨aw,k,.inl e,rfl,rfl⟩
theorem Gv.k {H:Hp}{a:Addr}{aw:List (Key×V)}{k:Key}{v:V}(e:H a=some (.dK aw))(hl:aw.length < sizeLine):Gv H a (kV k) v (upd H a (.dK (putK aw k v))):=.inl ⟨aw,k,e,rfl,hl,rfl⟩
section
variable {X:Cx}{pins:List (Addr×Obj)}{σ:St}{H:Hp}{s:Shared}{a:Addr}{y v:V}{u r:Value}{o:Option V}{A:Around}{E:Value->Shared->Prop}
theorem Inv.big (I:Inv X pins σ H s):sysModules < s.heap.objs.size:=by have h:mainGlobals < s.heap.objs.size:=(I.mod.glob.keeps I.bk).lt;exact Nat.lt_trans (by decide) h
theorem Bk{Q:Value->Shared->Prop}(hu:A.units+1 < cLine)(I:Inv X pins σ H s)(g:oY H a y (some v))(ry:RelV y u)(h:∀w' s',Inv X pins σ H s'->RelV v w'->Q w' s'):wpAny (model X.prog X.w) A (getItem (.ref a) u) Q E s:=by
 rcases g with⟨aw,k,e,ey,l⟩|⟨aw,k,b,e,ey,eb,l⟩
 ·subst ey;obtain⟨z,hd,vs,rel,dd⟩:=pT I.bq e;obtain⟨w',hw,wo⟩:=gM.some_of (v:=v) (o:=valueAt vs k) (by rw[l];exact rel.val k);exact wpAny_getItem_of (uh ry) dd.mapOf hw (h w' _ (I.tok _) wo)
 ·subst ey;cases(show u=Value.ref b from ry);obtain⟨z,hd,xs,rel,dd⟩:=uJ I.bq e;obtain⟨w',hw,wo⟩:=gM.some_of (v:=v) (o:=(atKey xs k).map (·.2)) (by rw[l];exact rel.val k);obtain⟨p,hp,ix⟩:=Option.map_eq_some_iff.mp hw;refine wpAny_getItem_heap (x6 hu) (nh I.bq eb) dd hp ?_;rw[ix];exact h w' _ (I.tok _) wo
theorem X5{Q:Value->Shared->Prop}(hu:A.units+1 < cLine)(I:Inv X pins σ H s)(g:oY H a y o)(ry:RelV y u)(h:∀s',Inv X pins σ H s'->Q (.bool o.isSome) s'):wpAny (model X.prog X.w) A (compareOp .In u (.ref a)) Q E s:=by
 rcases g with⟨aw,k,e,ey,l⟩|⟨aw,k,b,e,ey,eb,l⟩
 ·subst ey;obtain⟨z,hd,vs,rel,dd⟩:=pT I.bq e;refine wpAny_in_of (uh ry) hd dd.mapOf ?_;rw[<- (rel.val k).dW,<- l];exact h _ (I.tok _)
 ·subst ey;cases(show u=Value.ref b from ry);obtain⟨z,hd,xs,rel,dd⟩:=uJ I.bq e;refine wpAny_in_heap (x6 hu) (nh I.bq eb) hd dd ?_;have q:=(rel.val k).dW;rw[z0]at q;rw[<- q,<- l];exact h _ (I.tok _)
theorem KJ{Q:Value->Shared->Prop}(hu:A.units+1 < cLine)(I:Inv X pins σ H s)(g:oY H a y o)(ry:RelV y u)(h:∀s',Inv X pins σ H s'->Q (.bool (!o.isSome)) s'):wpAny (model X.prog X.w) A (compareOp .NotIn u (.ref a)) Q E s:=by
 rcases g with⟨aw,k,e,ey,l⟩|⟨aw,k,b,e,ey,eb,l⟩
 ·subst ey;obtain⟨z,hd,vs,rel,dd⟩:=pT I.bq e;refine wpAny_notIn_of (uh ry) hd dd.mapOf ?_;rw[<- (rel.val k).dW,<- l];exact h _ (I.tok _)
 ·subst ey;cases(show u=Value.ref b from ry);obtain⟨z,hd,xs,rel,dd⟩:=uJ I.bq e;refine wpAny_notIn_heap (x6 hu) (nh I.bq eb) hd dd ?_;have q:=(rel.val k).dW;rw[z0]at q;rw[<- q,<- l];exact h _ (I.tok _)
theorem rM{h':Heap}{t':Nat}{ob:HO}(I:Inv X pins σ H s)(mu:UC (H a))(hs:Heap.SameBut a s.heap h')(he:∃q,h'.get? a=some q)(new:bD X.prog X.w (upd H a ob) h' a ob):Inv X pins σ (upd H a ob) {s with heap:=h',toks:=t'}:=
 I.write (x:=a) (e:=a) mu (.inl rfl) (λ b q hb z=>(hs.2 b hb).trans z) he new
theorem Qf{P:Program}{w:World}{H':Hp}{h':Heap}{aw:List (Key×V)}{vs:List (Key×Value)}(z:aw.length<=sizeLine)(hd:(a==sysModules)=false)(rel:KV aw vs)(dd:h'.DictOf (cj P w) a vs):bD P w H' h' a (.dK aw):=⟨z,hd,vs,rel,dd⟩
theorem Bg{H':Hp}{Q:Unit->Shared->Prop}(hu:A.units+1 < cLine)(I:Inv X pins σ H s)(g:Gv H a y v H')(ry:RelV y u)(rv:RelV v r)(h:∀s',Inv X pins σ H' s'->Q () s'):wpAny (model X.prog X.w) A (setItem (.ref a) u r) Q E s:=by
 rcases g with⟨aw,k,e,ey,l,eH⟩|⟨aw,k,b,e,ey,eb,l,eH⟩
 ·subst ey eH;obtain⟨z,hd,vs,rel,dd⟩:=T4 I.bq e;have hz:vs.length<=sizeLine:=by rw[<- rel.length];exact z
  have hl:(putK aw k v).length<=sizeLine:=by have:=kM aw k v;omega
  refine wpAny_setItem_pairs (hsz:=hz) (uh ry) dd λ h' Qh hs=>h _ ?_;have he:∃q,h'.get? a=some q:=let⟨q,_,_,hq,_⟩:=Qh;⟨q,hq⟩
  exact rM I (by rw[e];exact True.intro) hs he (Qf hl hd (rel.put k rv) Qh)
 ·subst ey eH;cases(show u=Value.ref b from ry);obtain⟨z,hd,xs,rel,dd⟩:=T3 I.bq e;have hz:xs.length<=sizeLine:=by rw[<- G9 rel];exact z
  have hl:(putK aw k v).length<=sizeLine:=by have:=kM aw k v;omega
  refine wpAny_setItem_heap (hsz:=hz) (x6 hu) (nh I.bq eb) dd λ h' Qh hs=>h _ ?_;obtain⟨q,es,ep,hq,h2,h3,h4,_,h5⟩:=Qh;refine rM I (by rw[e];exact True.intro) hs ⟨q,hq⟩ ⟨hl,hd,_,(rel.put k eb rv).keeps λ c ys ec=>?_,q,es,ep,hq,h2,h3,h4,h5⟩;rw[aA (bZ ec e (λ z=>nomatch z))];exact ec
end
section
variable {X:Cx}{pins:List (Addr×Obj)}{σ:St}{H:Hp}{s:Shared}{a:Addr}{aw:List (Key×V)}{k:Key}{u:Value}{A:Around}{E:Value->Shared->Prop}
theorem T8{Q:Value->Shared->Prop}(I:Inv X pins σ H s)(e:Rd H a (.dK aw))(h:∀t s',Inv X pins σ H s'->Q (.int aw.length t) s'):wpAny (model X.prog X.w) A (call (.builtin "len") [.ref a]) Q E s:=by obtain⟨z,hd,vs,rel,dd⟩:=pT I.bq e;refine call_len_dict hd dd (by rw[<- rel.length];rw[L9]at z;omega) ?_;rw[<- rel.length];exact h _ _ (I.tok _)
end
theorem uL{X:Cx}{pins:List (Addr×Obj)}{σ:St}{H:Hp}{s:Shared}{a:Addr}{y:V}{o:Option V}(I:Inv X pins σ H s)(g:oY H a y o):s.TypeIs (.ref a) "dict":=by
 rcases g with⟨aw,k,e,_,_⟩|⟨aw,k,b,e,_,_,_⟩
 ·obtain⟨_,_,vs,_,dd⟩:=pT I.bq e;exact dd.typeIs
 ·obtain⟨_,_,xs,_,dd⟩:=uJ I.bq e;exact dd.typeIs
theorem FO{P:Program}{w:World}{H:Hp}(h:Heap)(hb:sysModules < h.objs.size):bD P w H (h.push {cls:=.type "dict",data:=.dict #[]}) h.objs.size (.dK []):=
 ⟨N3 _,beq_eq_false_iff_ne.mpr (O4 (K1 hb)),[],.nil,Heap.DictOf.new h⟩
def MF:TE:=λ _ H Q=>∀p,H p=none->Q (.ref p) (upd H p (.dK []))
section
variable {X:Cx}{pos:Pos}
theorem DS:PE X (.Dict [] [] pos) MF:=λ pins s σ H Q I h=>
 wpAny_Dict_empty ⟨.ref s.heap.objs.size,_,I.laid (a:=s.heap.objs.size) (o:=.dK []) (t':=s.toks) (λ _ _ q=>j7 _ q) (L8 _) (FO s.heap I.big),rfl,h _ (I.bq.fresh (L8 _))⟩
end
end L2
namespace L2
open PySem PySem.Spec PyProof.Rows
mutual
def iy(K:O8)(H:Hp):IK->V->Prop
 | .i n,v=>v=.int n
 | .t ks,v=>∃p xs,v=.ref p/\fZ K H p xs/\kN K H ks xs
def kN(K:O8)(H:Hp):List IK->List V->Prop
 |[],xs=>xs=[]
 |k::ks,xs=>∃x r,xs=x::r/\iy K H k x/\kN K H ks r
end
section
variable {X:Cx}{pins:List (Addr×Obj)}{σ:St}{H:Hp}{s:Shared}
mutual
theorem pL(I:Inv X pins σ H s):∀(k:IK) {v:V} {u:Value},iy X.K H k v->RelV v u->df s.heap k u
 | .i n,v,u,h,r=>by unfold iy at h;subst h;unfold df;exact r
 | .t ks,v,u,h,r=>by unfold iy at h;obtain⟨p,xs,rfl,hq,hk⟩:=h;cases(show u=Value.ref p from r);obtain⟨au,rv,⟨o,ho,hc,n,hd⟩,_⟩:=I.tuple hq;unfold df;exact⟨p,o,au,n,rfl,ho,hc,hd,yD I ks hk rv⟩
theorem yD(I:Inv X pins σ H s):∀(ks:List IK) {xs:List V} {us:List Value},kN X.K H ks xs->Vals xs us->cm s.heap ks us
 |[],xs,us,h,r=>by unfold kN at h;subst h;cases r;unfold cm;rfl
 |k::ks,xs,us,h,r=>by
  unfold kN at h;obtain⟨x,Mi,rfl,h1,h2⟩:=h;cases r with
  |cons r1 r2=>unfold cm;exact⟨_,_,rfl,pL I k h1 r1,yD I ks h2 r2⟩
end
end
abbrev fV:=IK×Addr×V
def X1(x:IK×Addr×Value):DictEntry:=⟨Fb x.1,.ref x.2.1,x.2.2⟩
abbrev Gr:List fV->List (IK×Addr×Value)->Prop:=Paired λ p q=>p.1=q.1/\p.2.1=q.2.1/\RelV p.2.2 q.2.2
def X3(a:Addr)(aw:List fV)(h:Heap):Prop:=aw.length<=sizeLine/\(a==sysModules)=false/\∃xs,Gr aw xs/\∃o es ep,h.get? a=some o/\o.ExactDict/\o.data=.dict es ep/\es.toList=xs.map X1/\(xs.map (·.1)).Nodup
def Bf(a:Addr)(aw:List fV):HO:=.ext (X3 a aw)
theorem FK{P:Program}{w:World}{H:Hp}{h:Heap}{a:Addr}{aw:List fV}(x:X3 a aw h):bD P w H h a (Bf a aw):=by obtain⟨z,y,xs,r,o,es,ep,e,c⟩:=id x;exact⟨x,⟨o,e⟩,λ h1 h2 ⟨z,y,xs,r,o,es,ep,e,c⟩ q=>⟨z,y,xs,r,o,es,ep,q o e,c⟩⟩
noncomputable def jf (aw:List fV)(k:IK):Option V:=(aw.find? λ p=>decide (p.1=k)).map (·.2.2)
noncomputable def oB (aw:List fV)(k:IK)(p:Addr)(v:V):List fV:=if(jf aw k).isSome=true then aw.map (λ x=>if x.1=k then(x.1,x.2.1,v)else x)else aw++[(k,p,v)]
theorem Dz(aw:List fV)(k:IK)(p:Addr)(v:V):(oB aw k p v).length<=aw.length+1:=by
 unfold oB;split
 ·simp
 ·simp
theorem Gr.val {aw:List fV}{xs:List (IK×Addr×Value)}(r:Gr aw xs)(k:IK):gM (jf aw k) ((atKey xs k).map (·.2)):=by
 induction r with
 |nil=>exact True.intro
 |@cons p q ps qs h t ih=>
  obtain⟨h1,_,h2⟩:=h;unfold jf atKey at ih ⊢;by_cases e:p.1=k
  ·have e':q.1=k:=h1.symm.trans e;simp only[C2,E7 e,E7 e',Option.map_some];exact h2
  ·have e':¬q.1=k:=λ z=>e (h1.trans z);simp only[C2,C3 e,C3 e'];exact ih
theorem Gr.CT {aw:List fV}{xs:List (IK×Addr×Value)}(r:Gr aw xs)(k:IK){y:V}{u:Value}(ry:RelV y u):Gr (aw.map λ x=>if x.1=k then(x.1,x.2.1,y)else x) (xs.map (putAt k u)):=by
 induction r with
 |nil=>exact .nil
 |@cons p q ps qs h t ih=>
  rw[H9,H9];refine .cons ?_ ih;obtain⟨h1,h2,h3⟩:=h;unfold putAt;by_cases e:p.1=k
  ·rw[O6 e,O6 (h1.symm.trans e)];exact⟨h1,h2,ry⟩
  ·rw[O7 e,O7 (λ z=>e (h1.trans z))];exact⟨h1,h2,h3⟩
theorem rp{o:Option V}{u:Option Value}(r:gM o u):o.isSome=u.isSome:=r.dW
theorem Gr.put {aw:List fV}{xs:List (IK×Addr×Value)}(r:Gr aw xs)(k:IK){b:Addr}{y:V}{u:Value}(ry:RelV y u):Gr (oB aw k b y) (storedH xs k b u):=by
 have e:(jf aw k).isSome=(atKey xs k).isSome:=by rw[rp (r.val k),z0]
 unfold oB storedH;rw[e];by_cases q:(atKey xs k).isSome=true
 ·rw[O6 q,O6 q];exact r.CT k ry
 ·rw[O7 q,O7 q];exact Paired.snoc r ⟨rfl,rfl,ry⟩
structure oX(K:O8)(H:Hp)(a:Addr)(aw:List fV):Prop where
 at_:H a=some (Bf a aw)
 key:∀p∈aw,p.1.dep<=5/\iy K H p.1 (.ref p.2.1)
section
variable {X:Cx}{pins:List (Addr×Obj)}{σ:St}{H:Hp}{s:Shared}{a b:Addr}{aw:List fV}{k:IK}{A:Around}{E:Value->Shared->Prop}{v:V}{u r:Value}
theorem oX.of (I:Inv X pins σ H s)(d:oX X.K H a aw):aw.length<=sizeLine/\(a==sysModules)=false/\∃xs,Gr aw xs/\s.heap.DictOfH (mx X.prog X.w) a xs:=by
 obtain⟨⟨z,y,xs,rel,o,es,ep,h1,h2,h3,h4,h5⟩,_,_⟩:=(show bD X.prog X.w H s.heap a (Bf a aw)from I.bq a _ d.at_);refine⟨z,y,xs,rel,o,es,ep,h1,h2,h3,h4,?_,h5⟩;have all:∀{l:List fV} {m:List (IK×Addr×Value)},Gr l m->(∀p∈l,p.1.dep<=5/\iy X.K H p.1 (.ref p.2.1))->∀x∈m,(mx X.prog X.w).is s.heap x.1 x.2.1:=by
  intro l m q
  induction q with
  |nil=>intro _ x hx;cases hx
  |@cons p q ps qs hq t ih=>
   intro hl x hx;rcases J0.mp hx with rfl|hx
   ·obtain⟨c1,c2⟩:=hl p (s9 ..);rw[hq.1,hq.2.1]at c2;rw[hq.1]at c1;exact⟨c1,pL I _ c2 rfl⟩
   ·exact ih (λ p hp=>hl p (l7 _ hp)) x hx
 exact all rel d.key
theorem jm(hu:A.units+64 < cLine):(mx X.prog X.w).room A.in1:=(show A.units+1+8 < cLine by omega)
theorem zL{Q:Value->Shared->Prop}(hu:A.units+64 < cLine)(I:Inv X pins σ H s)(d:oX X.K H a aw)(hk:k.dep<=5)(yN:iy X.K H k (.ref b))(g:jf aw k=some v)(h:∀w' s',Inv X pins σ H s'->RelV v w'->Q w' s'):wpAny (model X.prog X.w) A (getItem (.ref a) (.ref b)) Q E s:=by obtain⟨z,hd,xs,rel,dd⟩:=d.of I;obtain⟨w',hw,wo⟩:=gM.some_of (v:=v) (o:=(atKey xs k).map (·.2)) (by rw[<- g];exact rel.val k);obtain⟨p,hp,ix⟩:=Option.map_eq_some_iff.mp hw;refine wpAny_getItem_heap (jm hu) ⟨hk,pL I k yN rfl⟩ dd hp ?_;rw[ix];exact h w' _ (I.tok _) wo
theorem VU{Q:Value->Shared->Prop}(hu:A.units+64 < cLine)(I:Inv X pins σ H s)(d:oX X.K H a aw)(hk:k.dep<=5)(yN:iy X.K H k (.ref b))(h:∀s',Inv X pins σ H s'->Q (.bool (jf aw k).isSome) s'):wpAny (model X.prog X.w) A (compareOp .In (.ref b) (.ref a)) Q E s:=by obtain⟨z,hd,xs,rel,dd⟩:=d.of I;refine wpAny_in_heap (jm hu) ⟨hk,pL I k yN rfl⟩ hd dd ?_;have q:=rp (rel.val k);rw[z0]at q;rw[<- q];exact h _ (I.tok _)
theorem Hg{Q:Value->Shared->Prop}(hu:A.units+64 < cLine)(I:Inv X pins σ H s)(d:oX X.K H a aw)(hk:k.dep<=5)(yN:iy X.K H k (.ref b))(h:∀s',Inv X pins σ H s'->Q (.bool (!(jf aw k).isSome)) s'):wpAny (model X.prog X.w) A (compareOp .NotIn (.ref b) (.ref a)) Q E s:=by obtain⟨z,hd,xs,rel,dd⟩:=d.of I;refine wpAny_notIn_heap (jm hu) ⟨hk,pL I k yN rfl⟩ hd dd ?_;have q:=rp (rel.val k);rw[z0]at q;rw[<- q];exact h _ (I.tok _)
theorem zK{Q:Unit->Shared->Prop}(hu:A.units+64 < cLine)(I:Inv X pins σ H s)(d:oX X.K H a aw)(hk:k.dep<=5)(yN:iy X.K H k (.ref b))(hl:aw.length < sizeLine)(rv:RelV v r)(h:∀s',Inv X pins σ (upd H a (Bf a (oB aw k b v))) s'->Q () s'):wpAny (model X.prog X.w) A (setItem (.ref a) (.ref b) r) Q E s:=by
 obtain⟨z,hd,xs,rel,dd⟩:=d.of I;have hz:xs.length<=sizeLine:=by rw[<- G9 rel];exact z
 have yM:(oB aw k b v).length<=sizeLine:=by have:=Dz aw k b v;omega
 refine wpAny_setItem_heap (hsz:=hz) (jm hu) ⟨hk,pL I k yN rfl⟩ dd λ h' Qh hs=>h _ ?_;obtain⟨q,es,ep,hq,h2,h3,h4,_,h5⟩:=Qh;exact rM I (by rw[d.at_];exact True.intro) hs ⟨q,hq⟩ (FK ⟨yM,hd,_,rel.put k rv,q,es,ep,hq,h2,h3,h4,h5⟩)
end
section
variable {X:Cx}{pos:Pos}
theorem KH(h:Heap)(hb:sysModules < h.objs.size):X3 h.objs.size [] (h.push {cls:=.type "dict",data:=.dict #[]}):=
 ⟨N3 _,beq_eq_false_iff_ne.mpr (O4 (K1 hb)),[],.nil,_,#[],0,q8 _ rfl,⟨rfl,rfl,rfl⟩,rfl,rfl,nodup_nil⟩
def MG:TE:=λ _ H Q=>∀p,H p=none->Q (.ref p) (upd H p (Bf p []))
theorem DT:PE X (.Dict [] [] pos) MG:=λ pins s σ H Q I h=>
 wpAny_Dict_empty ⟨.ref s.heap.objs.size,_,I.laid (a:=s.heap.objs.size) (o:=Bf s.heap.objs.size []) (t':=s.toks) (λ _ _ q=>j7 _ q) (L8 _) (FK (KH s.heap I.big)),rfl,h _ (I.bq.fresh (L8 _))⟩
end
section
variable {prog:Program}{w:World}
theorem NI{d:Addr}(hd:(d==sysModules)=false):MeetsIn prog w (Builtin.«dict.__len__» ⟨[.ref d],[]⟩) (λ _ R s=>∃o es ep,s.heap.get? d=some o/\o.data=.dict es ep/\R (.ok (.ret (.int es.size s.toks))) {s with toks:=s.toks+1}):=
 .of_wp λ A R s ⟨o,es,ep,ho,PQ,h⟩=>by show wpAny _ _ (dictSize d >>= _) _ _ s;unfold dictSize;refine N6 (N6 (wpAny_dictEntries ho PQ (N7 ?_)));show wpAny _ _ (Builtin.Dict.pendingCount d >>= _) _ _ s;refine N6 (wpAny_pendingCount_other hd (wpAny_ret_mkInt ?_));rw[Nat.add_zero];exact h
theorem vf{A:Around}{E:Value->Shared->Prop}{s:Shared}{d:Addr}{o:Obj}{es:Array DictEntry}{ep:Nat}{Q:Value->Shared->Prop}(hd:(d==sysModules)=false)(ho:s.heap.get? d=some o)(hc:o.cls=.type "dict")(PQ:o.data=.dict es ep)(hz:es.size<=sizeLine) (h:∀t n,Q (.int es.size t) {s with toks:=n}):wpAny (model prog w) A (call (.builtin "len") [.ref d]) Q E s:=by
 have hT:s.TypeIs (.ref d) "dict":=⟨o,ho,hc⟩;have Vo:sizeLine=16777216:=by decide
 have TC:((es.size:Nat):Int) < 2^63:=by omega
 refine Calls.call_function_entry kind_len plain_len entry_len (args_len1 _) ?_;unfold Builtin.«len»;refine N6 (m:=oneArg "len" _) (N7 ?_);refine N6 (m:=callSpecial? (.ref d) (Str.ofString "__len__")) (j3 (name:=Str.ofString "__len__") hT F.slot_dict_len (call_meetsIn F.slot_dict_len hT F.entry_dict_len (F.args_dict_len_1 _) (NI hd) ⟨o,es,ep,ho,PQ,?_⟩));show wpAny _ _ _ _ _ {s with toks:=s.toks+1};refine N6 (G7 (N7 (N6 (N5 ?_))));show wpAny _ _ (if((es.size:Nat):Int) < 0 then _ else _) _ _ _;rw[O7 (by omega)];show wpAny _ _ (if((es.size:Nat):Int) ≥ 2^63 then _ else _) _ _ _;rw[O7 (by omega)];exact N6 (wpAny_mkInt (N7 ⟨_,rfl,h _ _⟩))
end
section
variable {X:Cx}{pins:List (Addr×Obj)}{σ:St}{H:Hp}{s:Shared}{a:Addr}{aw:List fV}{A:Around}{E:Value->Shared->Prop}
theorem Ro{Q:Value->Shared->Prop}(I:Inv X pins σ H s)(e:H a=some (Bf a aw))(h:∀t s',Inv X pins σ H s'->Q (.int aw.length t) s'):wpAny (model X.prog X.w) A (call (.builtin "len") [.ref a]) Q E s:=by
 obtain⟨⟨z,y,xs,rel,o,es,ep,h1,h2,h3,h4,h5⟩,_,_⟩:=(show bD X.prog X.w H s.heap a (Bf a aw)from I.bq a _ e);have e1:es.size=aw.length:=by rw[<- p9,h4,D3];exact(G9 rel).symm
 refine vf y h1 h2.1 h3 (by rw[e1];exact z) λ t n=>?_;rw[e1];exact h t _ (I.tok _)
end
end L2
namespace L3
open PySem PySem.Spec L2
inductive D where
 |bu|bl (b:Bool)|int (i:Int)|str (x:Str)|ty (n:String)|ref (a:Addr)
 |tup (xs:List D)
 |fl (xs:List D)
def Me(K:O8)(H:Hp)(p:Addr)(xs:List V):Prop:=
 (∃o,H p=some (.lW o (.lst xs)))\/∃(o:Obj) (au:Array Value) (n:Nat),K.lookup p=some o/\o.cls=.type "list"/\o.dict=none/\o.data=.seq au n/\au.size<=sizeLine/\Vals xs au.toList
theorem Me.sq {K:O8}{H:Hp}{p:Addr}{xs:List V}(h:Me K H p xs):dF K H p xs:=by
 rcases h with h|h
 ·exact .inl (.inr h)
 ·exact .inr h
mutual
def Dat(K:O8)(H:Hp):D->V->Prop
 | .bu,v=>v=.bu
 | .bl b,v=>v=.bl b
 | .int i,v=>v=.int i
 | .str x,v=>v=.str x
 | .ty n,v=>v=.ty n
 | .ref a,v=>v=.ref a
 | .tup ds,v=>∃p xs,v=.ref p/\fZ K H p xs/\aE K H ds xs
 | .fl ds,v=>∃p xs,v=.ref p/\Me K H p xs/\aE K H ds xs
def aE(K:O8)(H:Hp):List D->List V->Prop
 |[],xs=>xs=[]
 |d::ds,xs=>∃x r,xs=x::r/\Dat K H d x/\aE K H ds r
end
structure ao(H H':Hp):Prop where
 tup:∀b xs,H b=some (.tup xs)->H' b=some (.tup xs)
 lW:∀b o u,H b=some (.lW o u)->H' b=some (.lW o u)
theorem ao.refl (H:Hp):ao H H:=⟨λ _ _ h=>h,λ _ _ _ h=>h⟩
theorem ao.trans {H H1 H2:Hp}(a:ao H H1)(b:ao H1 H2):ao H H2:=⟨λ c xs h=>b.tup c xs (a.tup c xs h),λ c o u h=>b.lW c o u (a.lW c o u h)⟩
theorem ao.laid {H:Hp}{p:Addr}{o:HO}(h:H p=none):ao H (upd H p o):=
 ⟨λ b xs e=>by rw[aA (aU e h)];exact e,λ b ob u e=>by rw[aA (aU e h)];exact e⟩
theorem ao.lst {H:Hp}{p:Addr}{xs:List V}{o:HO}(h:H p=some (.lst xs)):ao H (upd H p o):=
 ⟨λ b ys e=>by rw[aA (bZ e h (by intro z;cases z))];exact e,λ b ob u e=>by rw[aA (bZ e h (by intro z;cases z))];exact e⟩
theorem ao.mut {H:Hp}{p:Addr}{u o:HO}(h:H p=some u)(n1:∀xs,u≠.tup xs)(n2:∀ob w,u≠.lW ob w):ao H (upd H p o):=
 ⟨λ b ys e=>by rw[aA (λ z=>by subst z;rw[h]at e;exact n1 ys (C6 e))];exact e,λ b ob w e=>by rw[aA (λ z=>by subst z;rw[h]at e;exact n2 ob w (C6 e))];exact e⟩
theorem sT{K:O8}{H H':Hp}(t:ao H H'){p:Addr}{xs:List V}(h:fZ K H p xs):fZ K H' p xs:=by
 rcases h with(h|⟨o,h⟩)|h
 ·exact .inl (.inl (t.tup _ _ h))
 ·exact .inl (.inr ⟨o,t.lW _ _ _ h⟩)
 ·exact .inr h
theorem uC{K:O8}{H H':Hp}(t:ao H H'){p:Addr}{xs:List V}(h:Me K H p xs):Me K H' p xs:=by
 rcases h with⟨o,h⟩|h
 ·exact .inl ⟨o,t.lW _ _ _ h⟩
 ·exact .inr h
mutual
theorem Dat.mono {K:O8}{H H':Hp}(t:ao H H'):∀(d:D) {v:V},Dat K H d v->Dat K H' d v
 | .bu,v,h=>by unfold Dat at h ⊢;exact h
 | .bl b,v,h=>by unfold Dat at h ⊢;exact h
 | .int i,v,h=>by unfold Dat at h ⊢;exact h
 | .str x,v,h=>by unfold Dat at h ⊢;exact h
 | .ty n,v,h=>by unfold Dat at h ⊢;exact h
 | .ref a,v,h=>by unfold Dat at h ⊢;exact h
 | .tup ds,v,h=>by unfold Dat at h ⊢;obtain⟨p,xs,e,q,r⟩:=h;exact⟨p,xs,e,sT t q,aE.mono t ds r⟩
 | .fl ds,v,h=>by unfold Dat at h ⊢;obtain⟨p,xs,e,q,r⟩:=h;exact⟨p,xs,e,uC t q,aE.mono t ds r⟩
theorem aE.mono {K:O8}{H H':Hp}(t:ao H H'):∀(ds:List D) {xs:List V},aE K H ds xs->aE K H' ds xs
 |[],xs,h=>by unfold aE at h ⊢;exact h
 |d::ds,xs,h=>by unfold aE at h ⊢;obtain⟨x,r,e,a,b⟩:=h;exact⟨x,r,e,Dat.mono t d a,aE.mono t ds b⟩
end
section
variable {K:O8}{H:Hp}
theorem dh{v:V}:Dat K H .bu v↔v=.bu:=by unfold Dat;exact Iff.rfl
theorem aN{b:Bool}{v:V}:Dat K H (.bl b) v↔v=.bl b:=by unfold Dat;exact Iff.rfl
theorem aB{i:Int}{v:V}:Dat K H (.int i) v↔v=.int i:=by unfold Dat;exact Iff.rfl
theorem aS{x:Str}{v:V}:Dat K H (.str x) v↔v=.str x:=by unfold Dat;exact Iff.rfl
theorem xk{n:String}{v:V}:Dat K H (.ty n) v↔v=.ty n:=by unfold Dat;exact Iff.rfl
theorem aO{a:Addr}{v:V}:Dat K H (.ref a) v↔v=.ref a:=by unfold Dat;exact Iff.rfl
theorem aQ{ds:List D}{v:V}:Dat K H (.tup ds) v↔∃p xs,v=.ref p/\fZ K H p xs/\aE K H ds xs:=by rw[Dat]
theorem iT{ds:List D}{v:V}:Dat K H (.fl ds) v↔∃p xs,v=.ref p/\Me K H p xs/\aE K H ds xs:=by rw[Dat]
theorem aq{xs:List V}:aE K H [] xs↔xs=[]:=by unfold aE;exact Iff.rfl
theorem ag{d:D}{ds:List D}{xs:List V}:aE K H (d::ds) xs↔∃x r,xs=x::r/\Dat K H d x/\aE K H ds r:=by rw[aE]
theorem aE.length:∀{ds:List D} {xs:List V},aE K H ds xs->xs.length=ds.length
 |[],xs,h=>by rw[aq]at h;subst h;rfl
 |d::ds,xs,h=>by rw[ag]at h;obtain⟨x,r,rfl,_,q⟩:=h;rw[A5,A5,q.length]
theorem aE.get:∀{ds:List D} {xs:List V} {i:Nat} {d:D},aE K H ds xs->ds[i]?=some d->∃x,xs[i]?=some x/\Dat K H d x
 |[],xs,i,d,h,e=>by simp at e
 |d0::ds,xs,i,d,h,e=>by
  rw[ag]at h;obtain⟨x,r,rfl,a,q⟩:=h;cases i with
  |zero=>simp at e;subst e;exact⟨x,rfl,a⟩
  |succ i=>obtain⟨y,h1,h2⟩:=aE.get q (by simpa using e);exact⟨y,by simpa using h1,h2⟩
theorem aE.xg:∀{ds:List D} {xs:List V} {i:Nat} {x:V},aE K H ds xs->xs[i]?=some x->∃d,ds[i]?=some d/\Dat K H d x
 |[],xs,i,x,h,e=>by rw[aq]at h;subst h;simp at e
 |d0::ds,xs,i,x,h,e=>by
  rw[ag]at h;obtain⟨y,r,rfl,a,q⟩:=h;cases i with
  |zero=>simp at e;subst e;exact⟨d0,rfl,a⟩
  |succ i=>obtain⟨d,h1,h2⟩:=aE.xg q (by simpa using e);exact⟨d,by simpa using h1,h2⟩
theorem aE.append:∀{ds es:List D} {xs ys:List V},aE K H ds xs->aE K H es ys->aE K H (ds++es) (xs++ys)
 |[],es,xs,ys,h,q=>by rw[aq]at h;subst h;exact q
 |d::ds,es,xs,ys,h,q=>by rw[ag]at h;obtain⟨x,r,rfl,a,b⟩:=h;rw[B8,B8,ag];exact⟨x,_,rfl,a,b.append q⟩
theorem aE.one {d:D}{v:V}(h:Dat K H d v):aE K H [d] [v]:=by rw[ag];exact⟨v,[],rfl,h,by rw[aq]⟩
theorem aE.take:∀{ds:List D} {xs:List V} (n:Nat),aE K H ds xs->aE K H (ds.take n) (xs.take n)
 |ds,xs,0,h=>by simp[aq]
 |[],xs,n+1,h=>by rw[aq]at h;subst h;simp[aq]
 |d::ds,xs,n+1,h=>by rw[ag]at h;obtain⟨x,r,rfl,a,b⟩:=h;rw[take_succ_cons,take_succ_cons,ag];exact⟨x,_,rfl,a,b.take n⟩
theorem aE.drop:∀{ds:List D} {xs:List V} (n:Nat),aE K H ds xs->aE K H (ds.drop n) (xs.drop n)
 |ds,xs,0,h=>h
 |[],xs,n+1,h=>by rw[aq]at h;subst h;simp[aq]
 |d::ds,xs,n+1,h=>by rw[ag]at h;obtain⟨x,r,rfl,a,b⟩:=h;exact b.drop n
theorem aE.set {d:D}{x:V}(hd:Dat K H d x):∀{ds:List D} {xs:List V} (n:Nat),aE K H ds xs->aE K H (ds.set n d) (xs.set n x)
 |[],xs,n,h=>by rw[aq]at h;subst h;simp[aq]
 |d0::ds,xs,0,h=>by rw[ag]at h;obtain⟨y,r,rfl,a,b⟩:=h;rw[set_cons_zero,set_cons_zero,ag];exact⟨x,_,rfl,hd,b⟩
 |d0::ds,xs,n+1,h=>by rw[ag]at h;obtain⟨y,r,rfl,a,b⟩:=h;rw[set_cons_succ,set_cons_succ,ag];exact⟨y,_,rfl,a,b.set hd n⟩
theorem kg:∀(ns:List Int),aE K H (ns.map D.int) (ns.map V.int)
 |[]=>by simp[aq]
 |n::ns=>by rw[H9,H9,ag];exact⟨_,_,rfl,aB.mpr rfl,kg ns⟩
theorem nS:∀{bs:List Bool} {xs:List V},aE K H (bs.map D.bl) xs->xs=bs.map V.bl
 |[],xs,h=>by rw[map_nil,aq]at h;exact h
 |b::bs,xs,h=>by rw[H9,ag]at h;obtain⟨x,r,rfl,a,q⟩:=h;rw[aN]at a;rw[a,nS q];rfl
theorem pU:∀{ys:List Str} {xs:List V},aE K H (ys.map D.str) xs->xs=ys.map V.str
 |[],xs,h=>by rw[map_nil,aq]at h;exact h
 |b::bs,xs,h=>by rw[H9,ag]at h;obtain⟨x,r,rfl,a,q⟩:=h;rw[aS]at a;rw[a,pU q];rfl
end
def oF:Key->D
 | .inl i=>.int i
 | .inr x=>.str x
mutual
def pQ:IK->D
 | .i n=>.int n
 | .t ks=>.tup (oH ks)
def oH:List IK->List D
 |[]=>[]
 |k::ks=>pQ k::oH ks
end
mutual
theorem nU{K:O8}{H:Hp}:∀(k:IK) {v:V},Dat K H (pQ k) v->iy K H k v
 | .i n,v,h=>by unfold pQ at h;unfold iy;exact aB.mp h
 | .t ks,v,h=>by unfold pQ at h;obtain⟨p,xs,rfl,hq,hx⟩:=aQ.mp h;unfold iy;exact⟨p,xs,rfl,hq,uM ks hx⟩
theorem uM{K:O8}{H:Hp}:∀(ks:List IK) {xs:List V},aE K H (oH ks) xs->kN K H ks xs
 |[],xs,h=>by unfold oH at h;unfold kN;exact aq.mp h
 |k::ks,xs,h=>by unfold oH at h;obtain⟨x,r,rfl,h1,h2⟩:=ag.mp h;unfold kN;exact⟨x,r,rfl,nU k h1,uM ks h2⟩
end
mutual
theorem rD:∀{a b:IK},pQ a=pQ b->a=b
 | .i n,.i m,h=>by unfold pQ at h;cases h;rfl
 | .i n,.t ks,h=>by unfold pQ at h;cases h
 | .t ks,.i n,h=>by unfold pQ at h;cases h
 | .t ks,.t ls,h=>by unfold pQ at h;rw[uw (D.tup.inj h)]
theorem uw:∀{as bs:List IK},oH as=oH bs->as=bs
 |[],[],_=>rfl
 |[],b::bs,h=>by unfold oH at h;cases h
 |a::as,[],h=>by unfold oH at h;cases h
 |a::as,b::bs,h=>by
  unfold oH at h;injection h with h1 h2
  rw[rD h1,uw h2]
end
theorem ug{a b:Key}(h:oF a=oF b):a=b:=by
 cases a with
 |inl i=>cases b with
  |inl j=>have e:D.int i=D.int j:=h;cases e;rfl
  |inr y=>have e:D.int i=D.str y:=h;cases e
 |inr x=>cases b with
  |inl j=>have e:D.str x=D.int j:=h;cases e
  |inr y=>have e:D.str x=D.str y:=h;cases e;rfl
theorem rL{K:O8}{H:Hp}{k:Key}{v:V}(h:Dat K H (oF k) v):v=kV k:=by
 cases k with
 |inl i=>exact aB.mp h
 |inr x=>exact aS.mp h
inductive MO where
 |lst (ds:List D)
  |jb (t:Bool) (aw:List (D×D))
abbrev Ln(K:O8)(H:Hp):List (D×D)->List (Key×V)->Prop:=Paired λ p q=>p.1=oF q.1/\Dat K H p.2 q.2
abbrev Gu(K:O8)(H:Hp):List (D×D)->List fV->Prop:=Paired λ p q=>p.1=pQ q.1/\q.1.dep<=5/\Dat K H p.1 (.ref q.2.1)/\Dat K H p.2 q.2.2
theorem Ln.mono {K:O8}{H H':Hp}(t:ao H H'){aw:List (D×D)}{xs:List (Key×V)}(h:Ln K H aw xs):Ln K H' aw xs:=Paired.Es h λ p q z=>⟨z.1,Dat.mono t _ z.2⟩
theorem Gu.mono {K:O8}{H H':Hp}(t:ao H H'){aw:List (D×D)}{xs:List fV}(h:Gu K H aw xs):Gu K H' aw xs:=Paired.Es h λ p q z=>⟨z.1,z.2.1,Dat.mono t _ z.2.2.1,Dat.mono t _ z.2.2.2⟩
abbrev Mem:=Addr->Option MO
def ay(M:Mem)(a:Addr)(o:MO):Mem:=λ b=>if b=a then some o else M b
theorem aj{M:Mem}{a:Addr}{o:MO}:ay M a o a=some o:=by unfold ay;rw[O6 rfl]
theorem aD{M:Mem}{a b:Addr}{o:MO}(h:b≠a):ay M a o b=M b:=by unfold ay;rw[O7 h]
theorem fB{M:Mem}{a:Addr}{o u:MO}:ay (ay M a o) a u=ay M a u:=by funext b;unfold ay;split <;> rfl
def xI(K:O8)(H:Hp)(a:Addr):MO->Prop
 | .lst ds=>∃xs,H a=some (.lst xs)/\aE K H ds xs
 | .jb false aw=>∃xs,H a=some (.dK xs)/\Ln K H aw xs
 | .jb true aw=>∃xs,H a=some (Bf a xs)/\Gu K H aw xs
def RelM(K:O8)(H:Hp)(M:Mem):Prop:=∀a o,M a=some o->xI K H a o
theorem xI.there {K:O8}{H:Hp}{a:Addr}{o:MO}(h:xI K H a o):∃u,H a=some u:=by
 cases o with
 |lst ds=>obtain⟨xs,h,_⟩:=h;exact⟨_,h⟩
 |jb t aw=>
  cases t with
  |false=>obtain⟨xs,h,_⟩:=h;exact⟨_,h⟩
  |true=>obtain⟨xs,h,_⟩:=h;exact⟨_,h⟩
theorem xI.mono {K:O8}{H H':Hp}{a:Addr}{o:MO}(h:xI K H a o)(t:ao H H')(e:H' a=H a):xI K H' a o:=by
 cases o with
 |lst ds=>obtain⟨xs,h,q⟩:=h;exact⟨xs,e.trans h,aE.mono t ds q⟩
 |jb b aw=>
  cases b with
  |false=>obtain⟨xs,h,q⟩:=h;exact⟨xs,e.trans h,q.mono t⟩
  |true=>obtain⟨xs,h,q⟩:=h;exact⟨xs,e.trans h,q.mono t⟩
theorem RelM.free {K:O8}{H:Hp}{M:Mem}(h:RelM K H M){p:Addr}(n:H p=none):M p=none:=by
 cases e:M p with
 |none=>rfl
 |some o=>obtain⟨u,q⟩:=(h p o e).there;rw[n]at q;cases q
theorem RelM.laid {K:O8}{H:Hp}{M:Mem}(h:RelM K H M){p:Addr}{o:HO}(n:H p=none):RelM K (upd H p o) M:=λ a u e=>by obtain⟨w,q⟩:=(h a u e).there;exact(h a u e).mono (ao.laid n) (aA (aU q n))
theorem RelM.put {K:O8}{H:Hp}{M:Mem}(h:RelM K H M){p:Addr}{o:HO}{u:MO}(t:ao H (upd H p o))(new:xI K (upd H p o) p u):RelM K (upd H p o) (ay M p u):=λ a w e=>by
 by_cases ha:a=p
 ·subst ha;rw[aj]at e;cases e;exact new
 ·rw[aD ha]at e;exact(h a w e).mono t (aA ha)
def ko(M M':Mem):Prop:=∀a o,M a=some o->M' a=some o
theorem ko.refl (M:Mem):ko M M:=λ _ _ h=>h
theorem ko.put {M M':Mem}{p:Addr}{o:MO}(h:ko M M')(n:M p=none):ko M (ay M' p o):=λ a u e=>by rw[aD (λ z=>by subst z;rw[n]at e;cases e)];exact h a u e
theorem RelM.sub {K:O8}{H:Hp}{M M':Mem}(h:RelM K H M')(s:ko M M'):RelM K H M:=λ a o e=>h a o (s a o e)
abbrev cV:=List (Option D)
structure bQ(K:O8)(H:Hp)(δ:cV)(σ:St):Prop where
 len:δ.length=σ.length
 get:∀(i:Nat) (d:D),δ[i]?=some (some d)->∃v,σ[i]?=some (some v)/\Dat K H d v
theorem bQ.mono {K:O8}{H H':Hp}{δ:cV}{σ:St}(h:bQ K H δ σ)(t:ao H H'):bQ K H' δ σ:=
 ⟨h.len,λ i d e=>let⟨v,q,r⟩:=h.get i d e;⟨v,q,Dat.mono t d r⟩⟩
theorem bQ.set {K:O8}{H:Hp}{δ:cV}{σ:St}(h:bQ K H δ σ){i:Nat}{d:D}{v:V}(r:Dat K H d v):bQ K H (δ.set i (some d)) (σ.set i (some v)):=by
 refine⟨by rw[E5,E5];exact h.len,λ j e hj=>?_⟩;by_cases oK:i=j
 ·subst oK;have hi:i < δ.length:=by have:=(i5.mp hj).1;simpa using this
  rw[k4 hi]at hj;cases hj;exact⟨v,by rw[k4 (by rw[<- h.len];exact hi)],r⟩
 ·rw[n9 oK]at hj;obtain⟨u,q,w⟩:=h.get j e hj;exact⟨u,by rw[n9 oK];exact q,w⟩
abbrev bF:=D->Mem->Prop
abbrev bX:=cV->Mem->bF->Prop
abbrev dX:=cV->Mem->(Bool->Mem->Prop)->Prop
abbrev eT:=cV->Mem->(List D->Mem->Prop)->Prop
structure dG where
 nx:cV->Mem->Prop
 rt:bF
 bk:cV->Mem->Prop:=λ _ _=>False
 ct:cV->Mem->Prop:=λ _ _=>False
abbrev hZ:=dG->cV->Mem->Prop
def iC(K:O8)(H:Hp)(Q2:bF)(Q:VK):Prop:=∀v H' d M',Dat K H' d v->RelM K H' M'->ao H H'->Q2 d M'->Q v H'
def vw(K:O8)(H:Hp)(Q2:Bool->Mem->Prop)(Q:Bool->Hp->Prop):Prop:=∀b H' M',RelM K H' M'->ao H H'->Q2 b M'->Q b H'
def UI(K:O8)(H:Hp)(Q2:List D->Mem->Prop)(Q:List V->Hp->Prop):Prop:=∀vs H' ds M',aE K H' ds vs->RelM K H' M'->ao H H'->Q2 ds M'->Q vs H'
def lh(K:O8)(H:Hp)(N2:cV->Mem->Prop)(N:St->Hp->Prop):Prop:=∀σ' H' δ' M',bQ K H' δ' σ'->RelM K H' M'->ao H H'->N2 δ' M'->N σ' H'
structure qi(K:O8)(H:Hp)(D2:dG)(E:Ends):Prop where
 nx:lh K H D2.nx E.nx
 rt:iC K H D2.rt E.rt
 bk:lh K H D2.bk E.bk
 ct:lh K H D2.ct E.ct
theorem iC.mono {K:O8}{H H1:Hp}{Q2:bF}{Q:VK}(c:iC K H Q2 Q)(t:ao H H1):iC K H1 Q2 Q:=λ v H' d M' a b e q=>c v H' d M' a b (t.trans e) q
theorem vw.mono {K:O8}{H H1:Hp}{Q2:Bool->Mem->Prop}{Q:Bool->Hp->Prop}(c:vw K H Q2 Q)(t:ao H H1):vw K H1 Q2 Q:=λ v H' M' b e q=>c v H' M' b (t.trans e) q
theorem lh.mono {K:O8}{H H1:Hp}{N2:cV->Mem->Prop}{N:St->Hp->Prop}(c:lh K H N2 N)(t:ao H H1):lh K H1 N2 N:=λ v H' d M' a b e q=>c v H' d M' a b (t.trans e) q
theorem qi.mono {K:O8}{H H1:Hp}{D2:dG}{E:Ends}(c:qi K H D2 E)(t:ao H H1):qi K H1 D2 E:=⟨c.nx.mono t,c.rt.mono t,c.bk.mono t,c.ct.mono t⟩
def up(K:O8)(t:bX):TE:=λ σ H Q=>∃δ M Q2,bQ K H δ σ/\RelM K H M/\t δ M Q2/\iC K H Q2 Q
def xT(K:O8)(t:dX):TT:=λ σ H Q=>∃δ M Q2,bQ K H δ σ/\RelM K H M/\t δ M Q2/\vw K H Q2 Q
def Yq(K:O8)(t:eT):TA:=λ σ H Q=>∃δ M Q2,bQ K H δ σ/\RelM K H M/\t δ M Q2/\UI K H Q2 Q
def VQ(K:O8)(t:hZ):TS:=λ E σ H=>∃δ M D2,bQ K H δ σ/\RelM K H M/\t D2 δ M/\qi K H D2 E
abbrev QE(X:Cx)(e:Expr)(t:bX):Prop:=PE X e (up X.K t)
abbrev QT(X:Cx)(e:Expr)(t:dX):Prop:=PT X e (xT X.K t)
abbrev QW(X:Cx)(e:Expr)(t:dX):Prop:=PW X e (xT X.K t)
abbrev QA(X:Cx)(es:List Expr)(t:eT):Prop:=PA X es (Yq X.K t)
abbrev QS(X:Cx)(st:Stmt)(t:hZ):Prop:=PS X st (VQ X.K t)
abbrev Gq(X:Cx)(Lr:List Stmt)(t:hZ):Prop:=oV X Lr (VQ X.K t)
theorem bL{X:Cx}{e:Expr}{t t':TE}(h:PE X e t)(k:∀σ H Q,t' σ H Q->t σ H Q):PE X e t':=λ pins s σ H Q I q=>h pins s σ H Q I (k σ H Q q)
theorem yo{X:Cx}{e:Expr}{t t':TT}(h:PT X e t)(k:∀σ H Q,t' σ H Q->t σ H Q):PT X e t':=λ pins s σ H Q I q=>h pins s σ H Q I (k σ H Q q)
theorem LA{X:Cx}{e:Expr}{t t':TT}(h:PW X e t)(k:∀σ H Q,t' σ H Q->t σ H Q):PW X e t':=λ wh pins s σ H Q I q=>h wh pins s σ H Q I (k σ H Q q)
theorem DU{X:Cx}{es:List Expr}{t t':TA}(h:PA X es t)(k:∀σ H Q,t' σ H Q->t σ H Q):PA X es t':=λ pos pins s σ H Q I q=>h pos pins s σ H Q I (k σ H Q q)
theorem iE{X:Cx}{st:Stmt}{t t':TS}(h:PS X st t)(k:∀E σ H,t' E σ H->t E σ H):PS X st t':=λ pins s σ H E I q=>h pins s σ H E I (k E σ H q)
theorem DD{X:Cx}{Lr:List Stmt}{t t':TS}(h:oV X Lr t)(k:∀E σ H,t' E σ H->t E σ H):oV X Lr t':=λ pins s σ H E I q=>h pins s σ H E I (k E σ H q)
end L3
namespace L3
open PySem PySem.Spec L2
abbrev eU:=D->D->Mem->bF->Prop
def Gn(K:O8)(r:R2)(r2:eU):Prop:=∀x y d e H M Q2 Q,Dat K H d x->Dat K H e y->RelM K H M->r2 d e M Q2->iC K H Q2 Q->r x y H Q
def Ye(K:O8)(r:V->Hp->VK->Prop)(r2:D->Mem->bF->Prop):Prop:=∀x d H M Q2 Q,Dat K H d x->RelM K H M->r2 d M Q2->iC K H Q2 Q->r x H Q
def Qx(K:O8)(r:List V->Hp->VK->Prop)(r2:List D->Mem->bF->Prop):Prop:=∀xs ds H M Q2 Q,aE K H ds xs->RelM K H M->r2 ds M Q2->iC K H Q2 Q->r xs H Q
def Yf(K:O8)(r:V->List V->Hp->VK->Prop)(r2:D->List D->Mem->bF->Prop):Prop:=∀x xs d ds H M Q2 Q,Dat K H d x->aE K H ds xs->RelM K H M->r2 d ds M Q2->iC K H Q2 Q->r x xs H Q
def Uy(K:O8)(r:V->Option Int->Option Int->Hp->VK->Prop)(r2:D->Option Int->Option Int->Mem->bF->Prop):Prop:=∀x d lo hi H M Q2 Q,Dat K H d x->RelM K H M->r2 d lo hi M Q2->iC K H Q2 Q->r x lo hi H Q
def eP(X:Cx)(f:Value->Value->Sem Value)(r2:eU):Prop:=∃r,eQ X f r/\Gn X.K r r2
def Yc(X:Cx)(f:Value->Sem Value)(r2:D->Mem->bF->Prop):Prop:=∃r,VF X f r/\Ye X.K r r2
def UE(X:Cx)(r2:eU):Prop:=∃r,xJ X r/\Gn X.K r r2
def Uz(X:Cx)(r2:D->Option Int->Option Int->Mem->bF->Prop):Prop:=∃r,zv X r/\Uy X.K r r2
def dr(X:Cx)(f:Value)(r2:List D->Mem->bF->Prop):Prop:=∃r,cK X f r/\Qx X.K r r2
def QC(X:Cx)(id:String)(r2:D->List D->Mem->bF->Prop):Prop:=∃r,Yh X id r/\Yf X.K r r2
section
variable {X:Cx}{a b c e:Expr}{ta tb tc:bX}{pos:Pos}
def CG(i:Nat):bX:=λ δ M Q=>match δ[i]? with
 |some (some d)=>Q d M
 |_=>False
def sC(d:D):bX:=λ _ M Q=>Q d M
theorem Z3(i:Nat){x:Str}(hN:X.N[i]?=some x:=by rfl)(hv:Uw X.env.scope x:=by first|exact Or.inl rfl|exact Or.inr (Or.inl rfl)|exact Or.inr (Or.inr rfl))(hd:(x==("__debug__":Str))=false:=by decide) (hcd:(x==("__classdict__":Str))=false:=by decide):QE X (.Name x pos) (CG i):=bL (DO hN hv hd hcd) λ σ H Q ⟨δ,M,Q2,hs,hm,q,k⟩=>by
 unfold CG at q;cases e:δ[i]? with
 |none=>rw[e]at q;exact q.elim
 |some o=>
  cases o with
  |none=>rw[e]at q;exact q.elim
  |some d=>rw[e]at q;obtain⟨v,h1,h2⟩:=hs.get i d e;exact⟨v,h1,k v H d M h2 hm (ao.refl H) q⟩
theorem R9{i j}:QE X (.Constant (.int i) j pos) (sC (.int i)):=bL DR λ σ H Q ⟨δ,M,Q2,hs,hm,q,k⟩=>k _ H (.int i) M (aB.mpr rfl) hm (ao.refl H) q
theorem Wj{i j}:QE X (.Constant (.bool i) j pos) (sC (.bl i)):=bL Sh λ σ H Q ⟨δ,M,Q2,hs,hm,q,k⟩=>k _ H (.bl i) M (aN.mpr rfl) hm (ao.refl H) q
theorem Lz{i j}:QE X (.Constant (.str i) j pos) (sC (.str i)):=bL wD λ σ H Q ⟨δ,M,Q2,hs,hm,q,k⟩=>k _ H (.str i) M (aS.mpr rfl) hm (ao.refl H) q
theorem R7{j}:QE X (.Constant .none j pos) (sC .bu):=bL OA λ σ H Q ⟨δ,M,Q2,hs,hm,q,k⟩=>k _ H .bu M (dh.mpr rfl) hm (ao.refl H) q
structure k_(K:O8)(mg:Str->Option Value)(x:Str)(d:D):Prop where
 ex:∃u v,mg x=some u/\RelV v u/\∀H,Dat K H d v
theorem Of{x:Str}{d:D}(G:k_ X.K X.mg x d)(hg:Gl X x)(hd:(x==("__debug__":Str))=false:=by decide):QE X (.Name x pos) (sC d):=by obtain⟨u,v,hm,r,hD⟩:=G.ex;exact bL (Jb hg hm r hd) λ σ H Q ⟨δ,M,Q2,hs,hm,q,k⟩=>k _ H d M (hD H) hm (ao.refl H) q
theorem We{x:Str}{n:String}(hg:Gl X x)(hm:X.mg x=none)(hv:bootBuiltins x=some (.type n))(hn:x≠"__name__":=by decide)(hd:(x==("__debug__":Str))=false:=by decide):QE X (.Name x pos) (sC (.ty n)):=
 bL (Jd (v:=.ty n) hg hm hv rfl hn hd) λ σ H Q ⟨δ,M,Q2,hs,hm,q,k⟩=>k _ H (.ty n) M (xk.mpr rfl) hm (ao.refl H) q
def Gx(r2:eU)(ta tb:bX):bX:=λ δ M Q=>ta δ M λ d M1=>tb δ M1 λ e M2=>r2 d e M2 Q
theorem lS{K:O8}{r:R2}{r2:eU}(hr:Gn K r r2):∀σ H Q,up K (Gx r2 ta tb) σ H Q->QK r (up K ta) (up K tb) σ H Q:=by rintro σ H Q ⟨δ,M,Q2,hs,hm,q,k⟩;refine⟨δ,M,_,hs,hm,q,λ x H1 d M1 hd bR t1 q1=>?_⟩;refine⟨δ,M1,_,hs.mono t1,bR,q1,λ y H2 e M2 he ja t2 q2=>?_⟩;exact hr x y d e H2 M2 Q2 Q (Dat.mono t2 d hd) he ja q2 (k.mono (t1.trans t2))
theorem Wg{op:Operator}{r2:eU}(o:eP X (binaryOp op) r2)(ha:QE X a ta)(hb:QE X b tb):QE X (.BinOp a op b pos) (Gx r2 ta tb):=by obtain⟨r,ho,hr⟩:=o;exact bL (Sg ho ha hb) (lS hr)
def V3(r2:D->Mem->bF->Prop)(ta:bX):bX:=λ δ M Q=>ta δ M λ d M1=>r2 d M1 Q
theorem Wc{op:UnaryOp}{r2:D->Mem->bF->Prop}(o:Yc X (unaryOp op) r2)(ha:QE X a ta):QE X (.UnaryOp op a pos) (V3 r2 ta):=by obtain⟨r,ho,hr⟩:=o;refine bL (Se ho ha) ?_;rintro σ H Q ⟨δ,M,Q2,hs,hm,q,k⟩;exact⟨δ,M,_,hs,hm,q,λ x H1 d M1 hd bR t1 q1=>hr x d H1 M1 Q2 Q hd bR q1 (k.mono t1)⟩
theorem R'{op:CmpOp}{r2:eU}(o:eP X (compareOp op) r2)(ha:QE X a ta)(hb:QE X b tb)(hm:behindInMarks op b=false):QE X (.Compare a [op] [b] pos) (Gx r2 ta tb):=by obtain⟨r,ho,hr⟩:=o;exact bL (Jc ho ha hb hm) (lS hr)
def mJ(t:bX):dX:=λ δ M Q=>t δ M λ d M1=>match d with
 | .bl k=>Q k M1
 |_=>False
theorem jS{K:O8}{H:Hp}{Q2:Bool->Mem->Prop}{Q:Bool->Hp->Prop}(k:vw K H Q2 Q):iC K H (λ d M1=>match d with| .bl k=>Q2 k M1|_=>False) (λ x H'=>∃k,x=.bl k/\Q k H'):=λ v H' d M' hd hm t q=>by
 cases d with
 |bl b=>exact⟨b,aN.mp hd,k b H' M' hm t q⟩
 |_=>exact q.elim
theorem NQ{op:CmpOp}{r2:eU}(o:eP X (compareOp op) r2)(ha:QE X a ta)(hb:QE X b tb)(hm:behindInMarks op b=false):QT X (.Compare a [op] [b] pos) (mJ (Gx r2 ta tb)):=by obtain⟨r,ho,hr⟩:=o;refine yo (IQ ho ha hb hm) ?_;rintro σ H Q ⟨δ,M,Q2,hs,hm,q,k⟩;exact lS hr σ H _ ⟨δ,M,_,hs,hm,q,jS k⟩
def qG(r r':eU)(ta tb tc:bX):bX:=λ δ M Q=>ta δ M λ d M1=>tb δ M1 λ e M2=>r d e M2 λ z M3=>match z with
 | .bl k=>if k=true then tc δ M3 λ w M4=>r' e w M4 Q else Q (.bl false) M3
 |_=>False
theorem xw{K:O8}{r r':R2}{r2 Ir:eU}(hr:Gn K r r2)(Xa:Gn K r' Ir):∀σ H Q,up K (qG r2 Ir ta tb tc) σ H Q->Co r r' (up K ta) (up K tb) (up K tc) σ H Q:=by
 rintro σ H Q ⟨δ,M,Q2,hs,hm,q,k⟩;refine⟨δ,M,_,hs,hm,q,λ x H1 d M1 hd bR t1 q1=>?_⟩;refine⟨δ,M1,_,hs.mono t1,bR,q1,λ y H2 e M2 he ja t2 q2=>?_⟩;refine hr x y d e H2 M2 _ _ (Dat.mono t2 d hd) he ja q2 λ v H3 z M3 hz BJ t3 q3=>?_;cases z with
 |bl b=>
  refine⟨b,aN.mp hz,?_⟩;have q3:if b=true then tc δ M3 λ w M4=>Ir e w M4 Q2 else Q2 (.bl false) M3:=q3
  cases b with
  |true=>rw[O6 rfl]at q3 ⊢;exact⟨δ,M3,_,hs.mono (t1.trans (t2.trans t3)),BJ,q3,λ w' H4 w M4 hw Vt t4 q4=>Xa y w' e w H4 M4 Q2 Q (Dat.mono (t3.trans t4) e he) hw Vt q4 (k.mono (t1.trans (t2.trans (t3.trans t4))))⟩
  |false=>rw[O7 u3]at q3 ⊢;exact k _ H3 (.bl false) M3 (aN.mpr rfl) BJ (t1.trans (t2.trans t3)) q3
 |_=>exact q3.elim
theorem Dt{op DY:CmpOp}{r2 Ir:eU}(o:eP X (compareOp op) r2)(o':eP X (compareOp DY) Ir)(ha:QE X a ta)(hb:QE X b tb)(hc:QE X c tc)(hm:lastMarks [op,DY] [b,c]=false:=by with_unfolding_all rfl):QT X (.Compare a [op,DY] [b,c] pos) (mJ (qG r2 Ir ta tb tc)):=by obtain⟨r,ho,hr⟩:=o;obtain⟨r',kQ,Xa⟩:=o';refine yo (DC ho kQ ha hb hc hm) ?_;rintro σ H Q ⟨δ,M,Q2,hs,hm,q,k⟩;exact xw hr Xa σ H _ ⟨δ,M,_,hs,hm,q,jS k⟩
theorem NO(h:QE X e ta)(he:∀whole,isTrue e X.env whole=(do let v <- whole;standAt e.pos;holding [v] (truthy v)):=by intro _;rfl):QT X e (mJ ta):=by refine yo (DB h he) ?_;rintro σ H Q ⟨δ,M,Q2,hs,hm,q,k⟩;exact⟨δ,M,_,hs,hm,q,jS k⟩
variable {tA tB:dX}{rest:List Expr}
def MX(t u:dX):dX:=λ δ M Q=>t δ M λ c M1=>if c=true then u δ M1 Q else Q false M1
def V5(t u:dX):dX:=λ δ M Q=>t δ M λ c M1=>if c=true then Q true M1 else u δ M1 Q
def MS(t:dX):dX:=λ δ M Q=>t δ M λ c M1=>Q (!c) M1
theorem Iu(ha:QT X a tA):QW X (.BoolOp .And [a] pos) tA:=IP ha
theorem NL(ha:QT X a tA):QW X (.BoolOp .Or [a] pos) tA:=Oj ha
theorem NN(ha:QT X a tA)(hb:QW X (.BoolOp .And (b::rest) pos) tB):QW X (.BoolOp .And (a::b::rest) pos) (MX tA tB):=LA (Ol ha hb) λ σ H Q ⟨δ,M,Q2,hs,hm,q,k⟩=>by
 refine⟨δ,M,_,hs,hm,q,λ c H1 M1 bR t1 q1=>?_⟩;cases c with
 |true=>rw[O6 rfl]at q1 ⊢;exact⟨δ,M1,Q2,hs.mono t1,bR,q1,k.mono t1⟩
 |false=>rw[O7 u3]at q1 ⊢;exact k _ _ _ bR t1 q1
theorem R1(ha:QT X a tA)(hb:QW X (.BoolOp .Or (b::rest) pos) tB):QW X (.BoolOp .Or (a::b::rest) pos) (V5 tA tB):=LA (Sb ha hb) λ σ H Q ⟨δ,M,Q2,hs,hm,q,k⟩=>by
 refine⟨δ,M,_,hs,hm,q,λ c H1 M1 bR t1 q1=>?_⟩;cases c with
 |true=>rw[O6 rfl]at q1 ⊢;exact k _ _ _ bR t1 q1
 |false=>rw[O7 u3]at q1 ⊢;exact⟨δ,M1,Q2,hs.mono t1,bR,q1,k.mono t1⟩
theorem NP(ha:QT X a tA):QT X (.UnaryOp .Not a pos) (MS tA):=yo (Om ha) λ σ H Q ⟨δ,M,Q2,hs,hm,q,k⟩=>⟨δ,M,_,hs,hm,q,λ c H1 M1 bR t1 q1=>k _ _ _ bR t1 q1⟩
def CS(ta tb:bX):bX:=λ δ M Q=>ta δ M λ d M1=>match d with
 | .bl c=>if c=true then tb δ M1 Q else Q (.bl false) M1
 |_=>False
def MR(ta tb:bX):bX:=λ δ M Q=>ta δ M λ d M1=>match d with
 | .bl c=>if c=true then Q (.bl true) M1 else tb δ M1 Q
 |_=>False
def CM(ta:bX):bX:=λ δ M Q=>ta δ M λ d M1=>match d with
 | .bl c=>Q (.bl (!c)) M1
 |_=>False
theorem R5{op}(h:QE X a ta):QE X (.BoolOp op [a] pos) ta:=Oy h
theorem Sa(ha:QE X a ta)(hb:QE X (.BoolOp .And (b::rest) pos) tb):QE X (.BoolOp .And (a::b::rest) pos) (CS ta tb):=bL (OC ha hb) λ σ H Q ⟨δ,M,Q2,hs,hm,q,k⟩=>by
 refine⟨δ,M,_,hs,hm,q,λ x H1 d M1 hd bR t1 q1=>?_⟩;cases d with
 |bl c=>
  refine⟨c,aN.mp hd,?_⟩;have q1:if c=true then tb δ M1 Q2 else Q2 (.bl false) M1:=q1
  cases c with
  |true=>rw[O6 rfl]at q1 ⊢;exact⟨δ,M1,Q2,hs.mono t1,bR,q1,k.mono t1⟩
  |false=>rw[O7 u3]at q1 ⊢;exact k _ _ _ _ (aN.mpr rfl) bR t1 q1
 |_=>exact q1.elim
theorem Wf(ha:QE X a ta)(hb:QE X (.BoolOp .Or (b::rest) pos) tb):QE X (.BoolOp .Or (a::b::rest) pos) (MR ta tb):=bL (Sf ha hb) λ σ H Q ⟨δ,M,Q2,hs,hm,q,k⟩=>by
 refine⟨δ,M,_,hs,hm,q,λ x H1 d M1 hd bR t1 q1=>?_⟩;cases d with
 |bl c=>
  refine⟨c,aN.mp hd,?_⟩;have q1:if c=true then Q2 (.bl true) M1 else tb δ M1 Q2:=q1
  cases c with
  |true=>rw[O6 rfl]at q1 ⊢;exact k _ _ _ _ (aN.mpr rfl) bR t1 q1
  |false=>rw[O7 u3]at q1 ⊢;exact⟨δ,M1,Q2,hs.mono t1,bR,q1,k.mono t1⟩
 |_=>exact q1.elim
theorem R6(ha:QE X a ta):QE X (.UnaryOp .Not a pos) (CM ta):=bL (Oz ha) λ σ H Q ⟨δ,M,Q2,hs,hm,q,k⟩=>by
 refine⟨δ,M,_,hs,hm,q,λ x H1 d M1 hd bR t1 q1=>?_⟩;cases d with
 |bl c=>exact⟨c,aN.mp hd,k _ _ _ _ (aN.mpr rfl) bR t1 q1⟩
 |_=>exact q1.elim
variable {es:List Expr}{t:eT}
def MT:eT:=λ _ M Q=>Q [] M
def CQ(ta:bX)(tr:eT):eT:=λ δ M Q=>ta δ M λ d M1=>tr δ M1 λ ds M2=>Q (d::ds) M2
theorem Dy:QA X [] MT:=DU cE λ σ H Q ⟨δ,M,Q2,hs,hm,q,k⟩=>k [] H [] M (by rw[aq]) hm (ao.refl H) q
theorem yl(ha:QE X e ta)(hr:QA X es t)(hs:starEach (e::es) X.env=(false,eval e X.env)::starEach es X.env:=by rfl):QA X (e::es) (CQ ta t):=DU (aW ha hr hs) λ σ H Q ⟨δ,M,Q2,hs,hm,q,k⟩=>by refine⟨δ,M,_,hs,hm,q,λ x H1 d M1 hd bR t1 q1=>?_⟩;refine⟨δ,M1,_,hs.mono t1,bR,q1,λ xs H2 ds M2 Fj ja t2 q2=>?_⟩;exact k (x::xs) H2 (d::ds) M2 (ag.mpr ⟨x,xs,rfl,Dat.mono t2 d hd,Fj⟩) ja (t1.trans t2) q2
def MP(t:eT):bX:=λ δ M Q=>t δ M λ ds M1=>ds.length<=sizeLine/\Q (.tup ds) M1
theorem ij{K:O8}{H:Hp}{p:Addr}{xs:List V}{ds:List D}(hp:H p=none)(h:aE K H ds xs):Dat K (upd H p (.tup xs)) (.tup ds) (.ref p):=aQ.mpr ⟨p,xs,rfl,fZ.of aJ,aE.mono (ao.laid hp) ds h⟩
theorem R4{x1}(h:QA X es t):QE X (.Tuple es x1 pos) (MP t):=bL (qS h) λ σ H Q ⟨δ,M,Q2,hs,hm,q,k⟩=>by refine⟨δ,M,_,hs,hm,q,λ xs H1 ds M1 hd bR t1 q1=>?_⟩;refine⟨by rw[hd.length];exact q1.1,λ p hp=>?_⟩;exact k _ _ (.tup ds) M1 (ij hp hd) (bR.laid hp) (t1.trans (ao.laid hp)) q1.2
def MU(t:eT):bX:=λ δ M Q=>t δ M λ ds M1=>ds.length<=sizeLine/\∀p,M1 p=none->Q (.ref p) (ay M1 p (.lst ds))
theorem dD{K:O8}{H:Hp}{M:Mem}{p:Addr}{xs:List V}{ds:List D}(hp:H p=none)(h:aE K H ds xs)(hm:RelM K H M):RelM K (upd H p (.lst xs)) (ay M p (.lst ds)):=
 hm.put (ao.laid hp) ⟨xs,aJ,aE.mono (ao.laid hp) ds h⟩
theorem R8(h:QA X es t):QE X (.List es pos) (MU t):=bL (DQ h) λ σ H Q ⟨δ,M,Q2,hs,hm,q,k⟩=>by refine⟨δ,M,_,hs,hm,q,λ xs H1 ds M1 hd bR t1 q1=>?_⟩;refine⟨by rw[hd.length];exact q1.1,λ p hp=>?_⟩;exact k _ _ (.ref p) _ (aO.mpr rfl) (dD hp hd bR) (t1.trans (ao.laid hp)) (q1.2 p (bR.free hp))
theorem Wh{r2:eU}(o:UE X r2)(ha:QE X a ta)(hb:QE X b tb)(hs:sf b):QE X (.Subscript a b pos) (Gx r2 ta tb):=by obtain⟨r,ho,hr⟩:=o;exact bL (LF ho ha hb hs) (lS hr)
abbrev Li:=cV->Mem->(Option Int->Mem->Prop)->Prop
def UG(K:O8)(H:Hp)(Q2:Option Int->Mem->Prop)(Q:Option Int->Hp->Prop):Prop:=∀o H' M',RelM K H' M'->ao H H'->Q2 o M'->Q o H'
def ZH(K:O8)(t:Li):TO:=λ σ H Q=>∃δ M Q2,bQ K H δ σ/\RelM K H M/\t δ M Q2/\UG K H Q2 Q
abbrev QO(X:Cx)(e:Option Expr)(t:Li):Prop:=PO X e (ZH X.K t)
theorem LC{e:Option Expr}{t t':TO}(h:PO X e t)(k:∀σ H Q,t' σ H Q->t σ H Q):PO X e t':=λ pins s σ H Q I q=>h pins s σ H Q I (k σ H Q q)
def qF:Li:=λ _ M Q=>Q none M
def CL(t:bX):Li:=λ δ M Q=>t δ M λ d M1=>match d with
 | .int i=>Q (some i) M1
 |_=>False
theorem IC:QO X none qF:=LC IU λ σ H Q ⟨δ,M,Q2,hs,hm,q,k⟩=>k _ _ _ hm (ao.refl H) q
theorem IB(h:QE X e ta):QO X (some e) (CL ta):=LC (IT h) λ σ H Q ⟨δ,M,Q2,hs,hm,q,k⟩=>by
 refine⟨δ,M,_,hs,hm,q,λ x H1 d M1 hd bR t1 q1=>?_⟩;cases d with
 |int i=>exact⟨i,aB.mp hd,k _ _ _ bR t1 q1⟩
 |_=>exact q1.elim
variable {lo hi:Option Expr}{tl th:Li}{p2:Pos}
def V4(r2:D->Option Int->Option Int->Mem->bF->Prop)(te:bX)(tl th:Li):bX:=λ δ M Q=>te δ M λ d M1=>tl δ M1 λ l M2=>th δ M2 λ u M3=>r2 d l u M3 Q
theorem II{r2:D->Option Int->Option Int->Mem->bF->Prop}(o:Uz X r2)(he:QE X e ta)(hl:QO X lo tl)(hu:QO X hi th):QE X (.Subscript e (.Slice lo hi none p2) pos) (V4 r2 ta tl th):=by obtain⟨r,ho,hr⟩:=o;refine bL (DP ho he hl hu) ?_;rintro σ H Q ⟨δ,M,Q2,hs,hm,q,k⟩;refine⟨δ,M,_,hs,hm,q,λ x H1 d M1 hd bR t1 q1=>?_⟩;refine⟨δ,M1,_,hs.mono t1,bR,q1,λ l H2 M2 ja t2 q2=>?_⟩;refine⟨δ,M2,_,hs.mono (t1.trans t2),ja,q2,λ u H3 M3 BJ t3 q3=>?_⟩;exact hr x d l u H3 M3 Q2 Q (Dat.mono (t2.trans t3) d hd) BJ q3 (k.mono (t1.trans (t2.trans t3)))
def QN(r2:List D->Mem->bF->Prop)(t:eT):bX:=λ δ M Q=>t δ M λ ds M1=>r2 ds M1 Q
variable {x:Str}{p:Pos}{id T:String}
theorem zj{K:O8}{r:List V->Hp->VK->Prop}{r2:List D->Mem->bF->Prop}(hr:Qx K r r2):∀σ H Q,up K (QN r2 t) σ H Q->MH r (Yq K t) σ H Q:=by rintro σ H Q ⟨δ,M,Q2,hs,hm,q,k⟩;exact⟨δ,M,_,hs,hm,q,λ xs H1 ds M1 hd bR t1 q1=>hr xs ds H1 M1 Q2 Q hd bR q1 (k.mono t1)⟩
theorem IL{r2:List D->Mem->bF->Prop}(o:dr X (.builtin id) r2)(hg:Gl X x)(hm:X.mg x=none)(hv:bootBuiltins x=some (.builtin id))(ha:QA X (e::es) t)(hn:x≠"__name__":=by decide)(hdb:(x==("__debug__":Str))=false:=by decide) (he:starEach (e::es) X.env=(false,eval e X.env)::starEach es X.env:=by rfl) (hpl:(backTo pos (starEach es X.env)).any (·.1)=false:=by rfl):QE X (.Call (.Name x p) (e::es) [] pos) (QN r2 t):=by obtain⟨r,ho,hr⟩:=o;exact bL (jw ho hg hm hv ha hn hdb he hpl) (zj hr)
theorem IJ{r2:List D->Mem->bF->Prop}(o:dr X (.type T) r2)(hg:Gl X x)(hm:X.mg x=none)(hv:bootBuiltins x=some (.type T))(ha:QA X (e::es) t)(hn:x≠"__name__":=by decide)(hdb:(x==("__debug__":Str))=false:=by decide) (he:starEach (e::es) X.env=(false,eval e X.env)::starEach es X.env:=by rfl) (hpl:(backTo pos (starEach es X.env)).any (·.1)=false:=by rfl):QE X (.Call (.Name x p) (e::es) [] pos) (QN r2 t):=by obtain⟨r,ho,hr⟩:=o;exact bL (fM ho hg hm hv ha hn hdb he hpl) (zj hr)
end
end L3
namespace L3
open PySem PySem.Spec L2
def QJ(T:String)(d:D)(M:Mem):Prop:=match d with
 | .str _=>T="str"
 | .ref a=>T="list"/\∃ds,M a=some (.lst ds)
 |_=>False
theorem QJ.v {K:O8}{H:Hp}{M:Mem}{T:String}{d:D}{x:V}(h:QJ T d M)(r:Dat K H d x)(hm:RelM K H M):VS K T x H:=by
 cases d with
 |str z=>cases(aS.mp r);exact h
 |ref a=>cases(aO.mp r);obtain⟨e,ds,q⟩:=h;obtain⟨xs,hx,_⟩:=hm a _ q;exact .inl ⟨e,xs,dF.of hx⟩
 |_=>exact h.elim
section
variable {X:Cx}{o e:Expr}{es:List Expr}{to:bX}{t:eT}{T id:String}{name:Str}{apos bC:Pos}
def V6(T:String)(r2:D->List D->Mem->bF->Prop)(to:bX)(t:eT):bX:=λ δ M Q=>to δ M λ d M1=>QJ T d M1/\t δ M1 λ ds M2=>r2 d ds M2 Q
theorem Wi{r2:D->List D->Mem->bF->Prop}(pa:PlainAttrs T)(slot:Slot T name id)(hty:typeOf (.builtin id)=pure (.type "method_descriptor"))(hm:QC X id r2)(ho:QE X o to)(ha:QA X (e::es) t) (hbase:attributeBase o name X.env (eval o X.env)=eval o X.env:=by rfl) (hfew:((backTo bC (starEach (e::es) X.env)).all (λ x=>!x.1)&&(backToKw bC (keywordEach [] X.env)).all (λ x=>x.1.isSome)
   &&decide ((e::es).length+([]:List Keyword).length+(if([]:List Keyword).isEmpty then 0 else 1) < 30))=true:=by rfl)
  (hline:(apos.endLine==bC.line)=true:=by rfl) (hs:starEach (e::es) X.env=(false,eval e X.env)::starEach es X.env:=by rfl) (hplain:(backTo bC (starEach es X.env)).any (·.1)=false:=by rfl):
  QE X (.Call (.Attribute o name apos) (e::es) [] bC) (V6 T r2 to t):=by
 obtain⟨r,h1,hr⟩:=hm;refine bL (LG pa slot hty h1 ho ha hbase hfew hline hs hplain) ?_;rintro σ H Q ⟨δ,M,Q2,hs,hm,q,k⟩;refine⟨δ,M,_,hs,hm,q,λ x H1 d M1 hd bR t1 q1=>⟨q1.1.v hd bR,δ,M1,_,hs.mono t1,bR,q1.2,λ xs H2 ds M2 Fj ja t2 q2=>?_⟩⟩;exact hr x xs d ds H2 M2 Q2 Q (Dat.mono t2 d hd) Fj ja q2 (k.mono (t1.trans t2))
end
abbrev gL:=List D->Mem->bF->Prop
def cI(K:O8)(sp:gL):Sp:=λ vs H Q _=>∃ds M Q2,aE K H ds vs/\RelM K H M/\sp ds M Q2/\iC K H Q2 Q
def sD(sp:gL)(t:eT):bX:=λ δ M Q=>t δ M λ ds M1=>sp ds M1 Q
abbrev cO(P:Program)(w:World)(K:O8)(mg:Str->Option Value)(base:Heap)(k:Nat)(x:Str)(ps:List Str)(sp:gL):Prop:=bO P w K mg base k x ps (cI K sp)
section
variable {X:Cx}{x:Str}{p pos:Pos}{e:Expr}{es:List Expr}{t:eT}{k j:Nat}{ps:List Str}{sp:gL}
theorem R_(d:cO X.prog X.w X.K X.mg X.base k x ps sp)(hr:bK k X.A)(hg:Gl X x)(ha:QA X (e::es) t)(hdb:(x==("__debug__":Str))=false:=by decide)(he:starEach (e::es) X.env=(false,eval e X.env)::starEach es X.env:=by rfl) (hpl:(backTo pos (starEach es X.env)).any (·.1)=false:=by rfl):QE X (.Call (.Name x p) (e::es) [] pos) (sD sp t):=by refine bL (OB d hr hg ha hdb he hpl) ?_;rintro σ H Q ⟨δ,M,Q2,hs,hm,q,k⟩;exact⟨δ,M,_,hs,hm,q,λ xs H1 ds M1 hd bR t1 q1=>⟨ds,M1,Q2,hd,bR,q1,k.mono t1⟩⟩
end
def gg(N:List Str)(ds:List D):cV:=ds.map some++List.replicate (N.length - ds.length) none
theorem pz{K:O8}{H:Hp}{N:List Str}{ds:List D}{vs:List V}(h:aE K H ds vs):bQ K H (gg N ds) (L2.start N vs):=by
 have hl:=h.length;refine⟨by unfold gg L2.start;simp[hl],λ i d e=>?_⟩;unfold gg at e;by_cases hi:i < ds.length
 ·rw[c9 (by simpa using hi),y1]at e;cases q:ds[i]? with
  |none=>rw[q]at e;cases e
  |some d'=>
   rw[q]at e;have e:d'=d:=by simpa using e
   subst e;obtain⟨v,hv,r⟩:=h.get q;refine⟨v,?_,r⟩;unfold L2.start;rw[c9 (by simp;omega),y1,hv];rfl
 ·rw[c6 (by simpa using hi),j1]at e;split at e <;> cases e
def fin2(Q:bF):bF:=λ d M'=>∃BQ,ko BQ M'/\Q d BQ
theorem ar{Q:bF}{d:D}{M:Mem}(q:Q d M):fin2 Q d M:=⟨M,ko.refl M,q⟩
section
variable {P:Program}{w:World}{K:O8}{mg:Str->Option Value}{base:Heap}
theorem Z7{x qual:Str}{st:Stmt}{f:Addr}{fd:FuncData}{N ps:List Str}{k:Nat}{sp:gL}(F:dU K x qual st f fd)(S:aH N ps (ai st))(len:∀ds M Q,sp ds M Q->ds.length=ps.length) (fP:∀(bT:Value) (A:Around) (outer:List Env) (s:Shared) (H:Hp) (E:XK) (ds:List D) (M:Mem) (Q:bF),bK k (A.deeper (PyProof.Rows.envOfC qual (ai st) s.heap.objs.size f bT))->sp ds M Q->
   ∃t,Gq (oQ eS P w K mg base N qual (ai st) f bT A outer s H E).sx (ck st) t/\t {nx:=λ _ M'=>fin2 Q .bu M',rt:=fin2 Q} (gg N ds) M):bx P w K mg base eS (k+1) f fd ps (cI K sp):=by
 refine F.ok S (λ vs H Q E h=>?_) (λ bT A outer s H vs Q E hr h=>?_)
 ·obtain⟨ds,M,Q2,hd,_,hs,_⟩:=h;rw[hd.length];exact len ds M Q2 hs
 ·obtain⟨ds,M,Q2,hd,hm,hs,kk⟩:=h;obtain⟨t,ht,q⟩:=fP bT A outer s H E ds M Q2 hr hs;refine⟨_,ht,gg N ds,M,_,pz hd,hm,q,⟨?_,?_,?_,?_⟩⟩
  ·exact λ σ' H' δ' M' _ dH t' ⟨BQ,s,q⟩=>kk _ H' .bu BQ (dh.mpr rfl) (dH.sub s) t' q
  ·exact λ v H' d M' gH dH t' ⟨BQ,s,q⟩=>kk v H' d BQ gH (dH.sub s) t' q
  ·exact λ σ' H' δ' M' _ dH t' q=>q
  ·exact λ σ' H' δ' M' _ dH t' q=>q
end
section
variable {X:Cx}{st:Stmt}{rest:List Stmt}{t u:hZ}{te:bX}{e:Expr}{pos:Pos}
def CN:hZ:=λ E δ M=>E.nx δ M
def Hs(t u:hZ):hZ:=λ E δ M=>t {E with nx:=u E} δ M
theorem Iw:Gq X [] CN:=DD yp λ E σ H ⟨δ,M,D2,hs,hm,q,k⟩=>k.nx σ H δ M hs hm (ao.refl H) q
theorem Iv(h:QS X st t):Gq X [st] t:=jr h
theorem Du(h1:QS X st t)(h2:Gq X rest u):Gq X (st::rest) (Hs t u):=DD (fL h1 h2) λ E σ H ⟨δ,M,D2,hs,hm,q,k⟩=>by refine⟨δ,M,_,hs,hm,q,⟨λ σ' H' δ' M' lB dH t' q'=>?_,k.rt,k.bk,k.ct⟩⟩;exact⟨δ',M',D2,lB,dH,q',k.mono t'⟩
def CP(te:bX):hZ:=λ E δ M=>te δ M λ _ M1=>E.nx δ M1
theorem Iz(he:QE X e te)(hs:swapsWith e none pos.line X.env=pure false:=by rfl):QS X (.Expr e pos) (CP te):=iE (lO he hs) λ E σ H ⟨δ,M,D2,hs,hm,q,k⟩=>
 ⟨δ,M,_,hs,hm,q,λ x H1 d M1 hd bR t1 q1=>k.nx σ H1 δ M1 (hs.mono t1) bR t1 q1⟩
def MQ(te:bX):hZ:=λ E δ M=>te δ M E.rt
theorem NT(he:QE X e te):QS X (.Return (some e) pos) (MQ te):=iE (Oo he) λ E σ H ⟨δ,M,D2,hs,hm,q,k⟩=>⟨δ,M,_,hs,hm,q,k.rt⟩
def MV(c:dX)(t u:hZ):hZ:=λ E δ M=>c δ M λ b M1=>if b=true then t E δ M1 else u E δ M1
theorem R3{c:Expr}{a b:List Stmt}{tc:dX}(hc:QT X c tc)(ha:Gq X a t)(hb:Gq X b u):QS X (.If c a b pos) (MV tc t u):=iE (LB hc ha hb) λ E σ H ⟨δ,M,D2,hs,hm,q,k⟩=>by
 refine⟨δ,M,_,hs,hm,q,λ b H1 M1 bR t1 q1=>?_⟩;cases b with
 |true=>rw[O6 rfl]at q1 ⊢;exact⟨δ,M1,D2,hs.mono t1,bR,q1,k.mono t1⟩
 |false=>rw[O7 u3]at q1 ⊢;exact⟨δ,M1,D2,hs.mono t1,bR,q1,k.mono t1⟩
abbrev fX:=D->cV->Mem->(cV->Mem->Prop)->Prop
abbrev n_:=List D->cV->Mem->(cV->Mem->Prop)->Prop
def Mt(K:O8)(t:fX):TG:=λ v σ H Q=>∃d δ M Q2,Dat K H d v/\bQ K H δ σ/\RelM K H M/\t d δ M Q2/\lh K H Q2 Q
def VR(K:O8)(t:n_):zr:=λ vs σ H Q=>∃ds δ M Q2,aE K H ds vs/\bQ K H δ σ/\RelM K H M/\t ds δ M Q2/\lh K H Q2 Q
abbrev QG(X:Cx)(tg:Expr)(t:fX):Prop:=PG X tg (Mt X.K t)
abbrev UA(X:Cx)(tg:List Expr)(t:n_):Prop:=Qy X tg (VR X.K t)
theorem DN{tg:Expr}{g g':TG}(h:PG X tg g)(k:∀v σ H Q,g' v σ H Q->g v σ H Q):PG X tg g':=λ pins s σ H v u Q I r q=>h pins s σ H v u Q I r (k v σ H Q q)
theorem DL{tg:List Expr}{g g':zr}(h:Qy X tg g)(k:∀v σ H Q,g' v σ H Q->g v σ H Q):Qy X tg g':=λ pins s σ H v u Q I r q=>h pins s σ H v u Q I r (k v σ H Q q)
def hName(i:Nat):fX:=λ d δ M Q=>Q (δ.set i (some d)) M
theorem jX{K:O8}{i:Nat}:∀v σ H Q,Mt K (hName i) v σ H Q->dO i v σ H Q:=λ v σ H Q ⟨d,δ,M,Q2,hd,hs,hm,q,k⟩=>k _ H _ M (hs.set hd) hm (ao.refl H) q
theorem IH{i:Nat}{x:Str}(hN:X.N.Nodup)(hi:X.N[i]?=some x)(hx:Loc X.env.scope x)(hf:X.fn x=true\/X.env.scope.names.lookup x=some .local:=by first|exact .inl rfl|exact .inr rfl|assumption):QG X (.Name x pos) (hName i):=
 DN (aL hN hi hx hf) jX
def AW:n_:=λ ds δ M Q=>match ds with
 |[]=>Q δ M
 |_=>False
def iG(t:fX)(u:n_):n_:=λ ds δ M Q=>match ds with
 |d::r=>t d δ M λ δ' M'=>u r δ' M' Q
 |_=>False
theorem IG:UA X [] AW:=DL lR λ v σ H Q ⟨ds,δ,M,Q2,hd,hs,hm,q,k⟩=>by
 cases ds with
 |nil=>exact⟨aq.mp hd,k _ H _ M hs hm (ao.refl H) q⟩
 |cons d r=>exact q.elim
theorem Dx{e:Expr}{es:List Expr}{t:fX}{u:n_}(h1:QG X e t)(h2:UA X es u) (hs:(assignEach (e::es) X.env).map (·.2)=assign e X.env::(assignEach es X.env).map (·.2):=by rfl):UA X (e::es) (iG t u):=DL (eD h1 h2 hs) λ v σ H Q ⟨ds,δ,M,Q2,hd,hs,hm,q,k⟩=>by
 cases ds with
 |nil=>exact q.elim
 |cons d r=>obtain⟨x,xs,rfl,hx,W0⟩:=ag.mp hd;refine⟨x,xs,rfl,d,δ,M,_,hx,hs,hm,q,λ σ' H' δ' M' lB dH t' q'=>?_⟩;exact⟨r,δ',M',Q2,aE.mono t' r W0,lB,dH,q',k.mono t'⟩
def AV(n:Nat)(t:n_):fX:=λ d δ M Q=>match d with
 | .tup ds=>ds.length=n/\t ds δ M Q
 |_=>False
theorem NX{es:List Expr}{k:Nat}{t:n_}{n:Nat}(hc:X.calm=true)(h:UA X es t) (hn:(assignEach es X.env).length=n:=by rfl) (hst:(assignEach es X.env).findIdx? (·.1)=none:=by rfl):QG X (.Tuple es k pos) (AV n t):=DN (qR hc h hn hst) λ v σ H Q ⟨d,δ,M,Q2,hd,hs,hm,q,k⟩=>by
 cases d with
 |tup ds=>obtain⟨p,xs,rfl,hq,hx⟩:=aQ.mp hd;exact⟨p,xs,rfl,hq,by rw[hx.length];exact q.1,ds,δ,M,Q2,hx,hs,hm,q.2,k⟩
 |_=>exact q.elim
abbrev jO:=D->D->D->Mem->(Mem->Prop)->Prop
def UH(K:O8)(H:Hp)(N2:Mem->Prop)(N:Hp->Prop):Prop:=∀H' M',RelM K H' M'->ao H H'->N2 M'->N H'
def Qw(K:O8)(r:BD)(r2:jO):Prop:=∀o i v d j e H M Q2 Q,Dat K H d o->Dat K H j i->Dat K H e v->RelM K H M->r2 d j e M Q2->UH K H Q2 Q->r o i v H Q
def Gp(X:Cx)(r2:jO):Prop:=∃r,sg X r/\Qw X.K r r2
def hSub(to ti:bX)(t:jO):fX:=λ e δ M Q=>to δ M λ d M1=>ti δ M1 λ j M2=>t d j e M2 λ M3=>Q δ M3
theorem NY{o i:Expr}{to ti:bX}{t:jO}(ho:QE X o to)(hi:QE X i ti)(hs:Gp X t) (ha:∀v,assign (.Subscript o i pos) X.env v=(do
   let ov <- holding [v] (eval o X.env)
   let iv <- holding [v,ov] (eval i X.env)
   standAt pos
   holding [v,ov,iv] (setItem ov iv v)
   release [v,ov,iv] []):=by intro _;rfl):QG X (.Subscript o i pos) (hSub to ti t):=by
 obtain⟨r,h1,hr⟩:=hs;refine DN (Ox ho hi h1 ha) ?_;rintro v σ H Q ⟨e,δ,M,Q2,hd,hs,hm,q,k⟩;refine⟨δ,M,_,hs,hm,q,λ x H1 d M1 hx bR t1 q1=>?_⟩;refine⟨δ,M1,_,hs.mono t1,bR,q1,λ y H2 j M2 hy ja t2 q2=>?_⟩;exact hr x y v d j e H2 M2 _ _ (Dat.mono t2 d hx) hy (Dat.mono (t1.trans t2) e hd) ja q2 λ H3 M3 BJ t3 q3=>k σ H3 δ M3 (hs.mono (t1.trans (t2.trans t3))) BJ (t1.trans (t2.trans t3)) q3
def tm(te:bX)(g:fX):hZ:=λ E δ M=>te δ M λ d M1=>g d δ M1 E.nx
theorem vp{K:O8}{g:TG}{g2:fX}(hg:∀v σ H Q,Mt K g2 v σ H Q->g v σ H Q):∀E σ H,VQ K (tm te g2) E σ H->Cp (up K te) g E σ H:=by rintro E σ H ⟨δ,M,D2,hs,hm,q,k⟩;exact⟨δ,M,_,hs,hm,q,λ x H1 d M1 hd bR t1 q1=>hg x σ H1 _ ⟨d,δ,M1,_,hd,hs.mono t1,bR,q1,k.nx.mono t1⟩⟩
theorem NV{tg e:Expr}{g:fX}(he:QE X e te)(hg:QG X tg g)(hs:swapsWithSole [tg] e pos.line X.env=pure false:=by rfl)(hw:swappedStores [tg] e X.env=pure none:=by rfl) (h1:(assignEach [tg] X.env).map (·.2)=[assign tg X.env]:=by rfl):QS X (.Assign [tg] e pos) (tm te g):=iE (Ot he hg hs hw h1) (vp λ _ _ _ _ h=>h)
theorem NR{i:Nat}{x:Str}{e:Expr}{pos':Pos}(hN:X.N.Nodup)(hi:X.N[i]?=some x)(hx:Loc X.env.scope x)(he:QE X e te)(hs:swapsWith e (some (.Name x pos')) pos.line X.env=pure false:=by rfl) (hf:X.fn x=true\/X.env.scope.names.lookup x=some .local:=by first|exact .inl rfl|exact .inr rfl|assumption):QS X (.Assign [.Name x pos'] e pos) (tm te (hName i)):=iE (DF hN hi hx he hs hf) (vp jX)
end
end L3
namespace L3
open PySem PySem.Spec L2
inductive Src where
 |fix (ds:List D)
 |at(a:Addr)
 |fn (f:Mem->Option (List D))
def items(s:Src)(M:Mem):Option (List D):=match s with
 | .fix ds=>some ds
 | .at a=>match M a with
  |some (.lst ds)=>some ds
  |_=>none
 | .fn f=>f M
def vv(K:O8)(H1:Hp)(J:It)(src:Src):Prop:=∀H M ds,ao H1 H->RelM K H M->items src M=some ds->
 (∀i,i < ds.length->J.go i H)/\(∀i,i=ds.length->J.stop i H)/\(∀i x H',i < ds.length->J.GX i H x H'->ao H H'/\RelM K H' M/\∃d,ds[i]?=some d/\Dat K H' d x)
abbrev lZ:=cV->Mem->(Src->Mem->Prop)->Prop
def QH(K:O8)(t:lZ):TI:=λ σ H R=>∃δ M R2,bQ K H δ σ/\RelM K H M/\t δ M R2/\∀J H' src M',vv K H' J src->RelM K H' M'->ao H H'->R2 src M'->R J H'
abbrev QI(X:Cx)(tg iter:Expr)(t:lZ):Prop:=PI X tg iter (QH X.K t)
theorem DK{X:Cx}{tg iter:Expr}{t t':TI}(h:PI X tg iter t)(k:∀σ H R,t' σ H R->t σ H R):PI X tg iter t':=λ pins s σ H R I q=>h pins s σ H R I (k σ H R q)
def dM(z:Str):List D:=z.cps.toList.map λ c=>D.str ⟨#[c]⟩
def cM(lo:Int)(n:Nat):List D:=(List.range n).map λ i=>D.int (lo+(i:Nat))
theorem cg(lo:Int)(n:Nat):(cM lo n).length=n:=by simp[cM]
theorem mR{lo:Int}{n i:Nat}(h:i < n):(cM lo n)[i]?=some (.int (lo+(i:Nat))):=by simp[cM,h]
theorem EN{K:O8}{H1:Hp}{z:Str}:vv K H1 (Rh z) (.fix (dM z)):=λ H M ds t hm e=>by
 cases e;have hl:(dM z).length=z.cps.size:=by simp[dM]
 refine⟨λ i hi=>by rw[hl]at hi;exact hi,λ i hi=>by rw[hl]at hi;exact hi,λ i x H' hi y=>?_⟩;obtain⟨e,c,hc,rfl⟩:=y;subst e;refine⟨ao.refl _,hm,.str ⟨#[c]⟩,?_,aS.mpr rfl⟩;simp[dM,hc]
theorem EM{K:O8}{H1:Hp}{a:Addr}{xs:List V}{ds:List D}(h:fZ K H1 a xs)(hd:aE K H1 ds xs):vv K H1 (Yk K a) (.fix ds):=λ H M es t hm e=>by cases e;have hq:=sT t h;have hx:=aE.mono t ds hd;have hl:=hx.length;refine⟨λ i hi=>⟨xs,xs[i]'(by omega),hq,by simp[hl,hi]⟩,λ i hi=>⟨xs,hq,by omega⟩,λ i x H' hi y=>?_⟩;obtain⟨e,y⟩:=y;obtain⟨d,h1,h2⟩:=hx.xg (y xs hq);subst e;exact⟨ao.refl _,hm,d,h1,h2⟩
theorem EO{K:O8}{H1:Hp}{a:Addr}:vv K H1 (VJ K a) (.at a):=λ H M ds t hm e=>by
 have e:(match M a with|some (.lst ds)=>some ds|_=>none)=some ds:=e;cases q:M a with
 |none=>rw[q]at e;cases e
 |some o=>
  cases o with
  |jb b aw=>rw[q]at e;cases e
  |lst es=>rw[q]at e;have e:es=ds:=C6 e;subst e;obtain⟨xs,hx,hd⟩:=hm a _ q;have hq:dF K H a xs:=dF.of hx;have hl:=hd.length;refine⟨λ i hi=>⟨xs,xs[i]'(by omega),hq,by simp[hl,hi]⟩,λ i hi=>⟨xs,hq,by omega⟩,λ i x H' hi y=>?_⟩;obtain⟨e,y⟩:=y;obtain⟨d,h1,h2⟩:=hd.xg (y xs hq);subst e;exact⟨ao.refl _,hm,d,h1,h2⟩
theorem J_{K:O8}{H1:Hp}{a:Addr}{xs:List V}{ds:List D}(h:Me K H1 a xs)(hd:aE K H1 ds xs):vv K H1 (VJ K a) (.fix ds):=λ H M es t hm e=>by cases e;have hq:=(uC t h).sq;have hx:=aE.mono t ds hd;have hl:=hx.length;refine⟨λ i hi=>⟨xs,xs[i]'(by omega),hq,by simp[hl,hi]⟩,λ i hi=>⟨xs,hq,by omega⟩,λ i x H' hi y=>?_⟩;obtain⟨e,y⟩:=y;obtain⟨d,h1,h2⟩:=hx.xg (y xs hq);subst e;exact⟨ao.refl _,hm,d,h1,h2⟩
theorem wY{K:O8}{H1:Hp}{lo:Int}{n:Nat}:vv K H1 (VI lo n) (.fix (cM lo n)):=λ H M ds t hm e=>by cases e;rw[cg];refine⟨λ i hi=>hi,λ i hi=>K7 hi.symm,λ i x H' hi y=>?_⟩;obtain⟨e,rfl⟩:=y;subst e;exact⟨ao.refl _,hm,_,mR hi,aB.mpr rfl⟩
section
variable {X:Cx}{tg l:Expr}{tl:bX}{ta:eT}{a b:Expr}{p pos:Pos}
def Pu(tl:bX):lZ:=λ δ M R=>tl δ M λ d M1=>match d with
 | .str z=>R (.fix (dM z)) M1
 | .tup ds=>R (.fix ds) M1
 | .fl ds=>R (.fix ds) M1
 | .ref a=>match M1 a with
  |some (.lst _)=>R (.at a) M1
  |_=>False
 |_=>False
theorem NW(hl:QE X l tl):QI X tg l (Pu tl):=DK (Ow hl) λ σ H R ⟨δ,M,R2,hs,hm,q,k⟩=>by
 refine⟨δ,M,_,hs,hm,q,λ x H1 d M1 hd bR t1 q1=>?_⟩;cases d with
 |str z=>cases(aS.mp hd);exact k _ H1 _ M1 EN bR t1 q1
 |tup ds=>obtain⟨p,xs,rfl,hq,hx⟩:=aQ.mp hd;exact .inr ⟨xs,hq,k _ H1 _ M1 (EM hq hx) bR t1 q1⟩
 |fl ds=>obtain⟨p,xs,rfl,hq,hx⟩:=iT.mp hd;exact .inl ⟨xs,hq.sq,k _ H1 _ M1 (J_ hq hx) bR t1 q1⟩
 |ref a=>
  cases(aO.mp hd);have q1:(match M1 a with|some (.lst _)=>R2 (.at a) M1|_=>False):=q1;cases e:M1 a with
  |none=>rw[e]at q1;exact q1.elim
  |some o=>
   cases o with
   |jb b aw=>rw[e]at q1;exact q1.elim
   |lst es=>rw[e]at q1;obtain⟨xs,hx,_⟩:=bR a _ e;exact .inl ⟨xs,dF.of hx,k _ H1 _ M1 EO bR t1 q1⟩
 |_=>exact q1.elim
def Yl(j:Int):Prop:= -(2^62)<=j/\j < 2^62
theorem eE{j:Int}(h0: -1000000000<=j)(h1:j<=1000000000):Yl j:=by
 constructor
 ·exact Int.le_trans (by decide) h0
 ·exact x5 h1 (by decide)
def EK(ta:eT):lZ:=λ δ M R=>ta δ M λ ds M1=>match ds with
 |[.int j]=>Yl j/\R (.fix (cM 0 j.toNat)) M1
 |_=>False
theorem Ac(hg:Gl X "range")(hm:X.mg "range"=none)(ha:QA X [a] ta)(hs:starEach [a] X.env=[(false,eval a X.env)]:=by rfl):QI X tg (.Call (.Name "range" p) [a] [] pos) (EK ta):=DK (Ah hg hm ha hs) λ σ H R ⟨δ,M,R2,hs,hm,q,k⟩=>by
 refine⟨δ,M,_,hs,hm,q,λ xs H1 ds M1 hd bR t1 q1=>?_⟩;cases ds with
 |nil=>exact q1.elim
 |cons d r=>
  cases r with
  |cons d2 r2=>cases d <;> exact q1.elim
  |nil=>
   cases d with
   |int j=>obtain⟨x,r,rfl,hx,hr⟩:=ag.mp hd;cases(aq.mp hr);cases(aB.mp hx);obtain⟨⟨b1,b2⟩,q1⟩:=q1;exact⟨j,rfl,b1,b2,k _ H1 _ M1 wY bR t1 q1⟩
   |_=>exact q1.elim
end
end L3
namespace L3
open PySem PySem.Spec L2
def MW(wi:lZ)(g:fX)(tb:hZ):hZ:=λ E δ M=>wi δ M λ src M1=>∃(B:Nat) (W:Nat->cV->Mem->Prop),W 0 δ M1/\∀i δ M,W i δ M->i<=B/\match items src M with
 |none=>False
 |some ds=>match ds[i]? with
  |none=>i=ds.length/\E.nx δ M
  |some d=>g d δ M λ δ2 M2=>tb {E with nx:=W (i+1),ct:=W (i+1),bk:=E.nx} δ2 M2
section
variable {X:Cx}{tg iter:Expr}{wi:lZ}{g:fX}{tb:hZ}{body:List Stmt}{pos:Pos}
theorem NU(hp:PassesOwn (model X.prog X.w) X.A X.env X.xe)(hc:X.calm=true)(hi:QI X tg iter wi)(hg:QG X tg g)(hb:Gq X body tb)(hs:∀x,foldedSetIterable iter X.env x=pure x:=by intro _;rfl):QS X (.For tg iter body [] pos) (MW wi g tb):=iE (Oq hp hc hi hg hb hs) λ E σ H ⟨δ,M,D2,hs,hm,q,k⟩=>by
 refine⟨δ,M,_,hs,hm,q,λ J H1 src M1 ok bR t1 q1=>?_⟩;obtain⟨B,W,w0,turn⟩:=q1;refine⟨λ i m σ' H'=>m=B+1 - i/\∃δ' M',bQ X.K H' δ' σ'/\RelM X.K H' M'/\ao H1 H'/\W i δ' M',⟨B+1,rfl,δ,M1,hs.mono t1,bR,ao.refl _,w0⟩,?_⟩;rintro i m σ' H' ⟨rfl,δ',M',lB,dH,t',w'⟩;obtain⟨hB,h⟩:=turn i δ' M' w';cases ei:items src M' with
 |none=>rw[ei]at h;exact h.elim
 |some ds=>
  rw[ei]at h;obtain⟨go,stop,GX⟩:=ok H' M' ds t' dH ei;cases ed:ds[i]? with
  |none=>simp only[ed]at h;exact .inl ⟨stop i h.1,k.nx σ' H' δ' M' lB dH (t1.trans t') h.2⟩
  |some d=>
   simp only[ed]at h;have BK:i < ds.length:=(i5.mp ed).1;refine .inr ⟨go i BK,λ σ2 H2=>∃δ2 M2,bQ X.K H2 δ2 σ2/\RelM X.K H2 M2/\ao H1 H2/\W (i+1) δ2 M2,λ σ2 H2 ⟨δ2,M2,a,b,c,w2⟩=>⟨B+1 - (i+1),by omega,rfl,δ2,M2,a,b,c,w2⟩,λ x H2 y=>?_⟩;obtain⟨t2,ja,d',e',gH⟩:=GX i x H2 BK y;rw[ed]at e';cases e';refine⟨d,δ',M',_,gH,lB.mono t2,ja,h,λ σ3 H3 δ3 M3 Vp BJ t3 q3=>?_⟩;refine⟨δ3,M3,_,Vp,BJ,q3,⟨?_,?_,?_,?_⟩⟩
   ·exact λ σ4 H4 δ4 M4 a b c w4=>⟨δ4,M4,a,b,t'.trans (t2.trans (t3.trans c)),w4⟩
   ·exact k.rt.mono (t1.trans (t'.trans (t2.trans t3)))
   ·exact k.nx.mono (t1.trans (t'.trans (t2.trans t3)))
   ·exact λ σ4 H4 δ4 M4 a b c w4=>⟨δ4,M4,a,b,t'.trans (t2.trans (t3.trans c)),w4⟩
end
end L3
namespace L3
open PySem PySem.Spec L2
def wg(c:dX)(tb:hZ):hZ:=λ E δ M=>∃W:Nat->cV->Mem->Prop,(∃m,W m δ M)/\∀m δ M,W m δ M->c δ M λ b M1=>
 if b=true then ∃N:cV->Mem->Prop,(∀δ' M',N δ' M'->∃m',m' < m/\W m' δ' M')/\tb {E with nx:=N,ct:=N,bk:=E.nx} δ M1 else E.nx δ M1
section
variable {X:Cx}{c:Expr}{tc:dX}{tb:hZ}{body:List Stmt}{pos:Pos}
theorem Dv(hp:PassesOwn (model X.prog X.w) X.A X.env X.xe)(hc:QT X c tc)(hb:Gq X body tb):QS X (.While c body [] pos) (wg tc tb):=iE (DE hp hc hb) λ E σ H ⟨δ,M,D2,hs,hm,q,k⟩=>by
 obtain⟨W,⟨m0,w0⟩,turn⟩:=q;refine⟨λ m σ' H'=>∃δ' M',bQ X.K H' δ' σ'/\RelM X.K H' M'/\ao H H'/\W m δ' M',⟨m0,δ,M,hs,hm,ao.refl _,w0⟩,?_⟩;rintro m σ' H' ⟨δ',M',lB,dH,t',w'⟩;refine⟨δ',M',_,lB,dH,turn m δ' M' w',λ b H1 M1 bR t1 q1=>?_⟩;cases b with
 |false=>simp only[u5,O2]at q1;exact k.nx σ' H1 δ' M1 (lB.mono t1) bR (t'.trans t1) q1
 |true=>
  simp only[O5]at q1;obtain⟨N,hN,q1⟩:=q1;refine⟨λ σ2 H2=>∃δ2 M2,bQ X.K H2 δ2 σ2/\RelM X.K H2 M2/\ao H H2/\N δ2 M2,λ σ2 H2 ⟨δ2,M2,a,b,c,n2⟩=>?_,?_⟩
  ·obtain⟨m',dH,w2⟩:=hN δ2 M2 n2;exact⟨m',dH,δ2,M2,a,b,c,w2⟩
  ·refine⟨δ',M1,_,lB.mono t1,bR,q1,⟨?_,?_,?_,?_⟩⟩
   ·exact λ σ4 H4 δ4 M4 a b c w4=>⟨δ4,M4,a,b,t'.trans (t1.trans c),w4⟩
   ·exact k.rt.mono (t'.trans t1)
   ·exact k.nx.mono (t'.trans t1)
   ·exact λ σ4 H4 δ4 M4 a b c w4=>⟨δ4,M4,a,b,t'.trans (t1.trans c),w4⟩
end
end L3
namespace L3
open PySem PySem.Spec L2
def iV(n:Nat)(fr:List Nat)(δ:cV):cV:=List.replicate n none++fr.map (λ j=>δ.getD j none)
theorem Lb{K:O8}{H:Hp}{δ:cV}{σ:L2.St}(h:bQ K H δ σ)(n:Nat)(fr:List Nat):bQ K H (iV n fr δ) (fg n fr σ):=by
 refine⟨by simp[iV,fg],λ i d e=>?_⟩;unfold iV at e;by_cases hi:i < n
 ·rw[c9 (by simpa using hi),j1,O6 hi]at e;cases e
 ·rw[c6 (by simpa using hi),l3,y1]at e;cases ej:fr[i - n]? with
  |none=>rw[ej]at e;cases e
  |some j=>
   rw[ej]at e;have e:δ.getD j none=some d:=C6 e;have hj:j < δ.length:=by refine A6 λ z=>?_;rw[c7,l4 z]at e;cases e
   have e':δ[j]?=some (some d):=by rw[c7,i8 hj]at e;rw[i8 hj];exact O3 some e
   obtain⟨v,hv,r⟩:=h.get j d e';refine⟨v,?_,r⟩;unfold fg;rw[c6 (by simpa using hi),l3,y1,ej];simp[c7,hv]
def gj(wi:lZ)(g:fX)(tt:dX)(te:bX)(n:Nat)(fr:List Nat):cV->Mem->(List D->Mem->Prop)->Prop:=λ δ M Q=>wi δ M λ src M1=>∃(B:Nat) (W:Nat->List D->Mem->Prop),W 0 [] M1/\∀i acc M,W i acc M->i<=B/\acc.length<=sizeLine/\match items src M with
 |none=>False
 |some ds=>match ds[i]? with
  |none=>i=ds.length/\Q acc M
  |some d=>g d (iV n fr δ) M λ δ2 M2=>tt δ2 M2 λ b M3=>if b=true then te δ2 M3 λ y M4=>W (i+1) (acc++[y]) M4 else W (i+1) acc M3
theorem fS{K:O8}{wi:lZ}{g:fX}{tt:dX}{te:bX}{n:Nat}{fr:List Nat}{Qe:List D->Mem->Prop}{σ:L2.St}{δ:cV}{H:Hp}{M:Mem}{Q:V->Hp->Prop}{gv:TG}(Xu:∀v σ H Q,Mt K g v σ H Q->gv v σ H Q)(hs:bQ K H δ σ)(hm:RelM K H M)(q:gj wi g tt te n fr δ M Qe) (k:∀acc xs H' M' p,aE K H' acc xs->RelM K H' M'->ao H H'->acc.length<=sizeLine->H' p=none->Qe acc M'->Q (.ref p) (upd H' p (.lst xs))):mB (QH K wi) gv (xT K tt) (up K te) n fr σ H Q:=by
 refine⟨δ,M,_,hs,hm,q,λ J H1 src M1 ok bR t1 q1=>?_⟩;obtain⟨B,W,w0,turn⟩:=q1;refine⟨λ i m xs H'=>m=B+1 - i/\∃acc M',aE K H' acc xs/\RelM K H' M'/\ao H1 H'/\W i acc M',⟨B+1,rfl,[],M1,by rw[aq],bR,ao.refl _,w0⟩,?_⟩;rintro i m xs H' ⟨rfl,acc,M',gH,dH,t',w'⟩;obtain⟨hB,hz,h⟩:=turn i acc M' w';refine⟨by rw[gH.length];exact hz,?_⟩;cases ei:items src M' with
 |none=>rw[ei]at h;exact h.elim
 |some ds=>
  rw[ei]at h;obtain⟨go,stop,GX⟩:=ok H' M' ds t' dH ei;cases ed:ds[i]? with
  |none=>simp only[ed]at h;exact .inl ⟨stop i h.1,λ p hp=>k acc xs H' M' p gH dH (t1.trans t') hz hp h.2⟩
  |some d=>
   simp only[ed]at h;have BK:i < ds.length:=(i5.mp ed).1;refine .inr ⟨go i BK,λ ys H2=>∃Lh M2,aE K H2 Lh ys/\RelM K H2 M2/\ao H1 H2/\W (i+1) Lh M2,λ ys H2 ⟨Lh,M2,a,b,c,w2⟩=>⟨B+1 - (i+1),by omega,rfl,Lh,M2,a,b,c,w2⟩,λ x H2 y=>?_⟩;obtain⟨t2,ja,d',e',Kh⟩:=GX i x H2 BK y;rw[ed]at e';cases e';refine Xu _ _ _ _ ⟨d,iV n fr δ,M',_,Kh,Lb (hs.mono (t1.trans (t'.trans t2))) n fr,ja,h,λ σ3 H3 δ3 M3 Vp BJ t3 q3=>?_⟩;refine⟨δ3,M3,_,Vp,BJ,q3,λ b H4 M4 Vt t4 q4=>?_⟩;cases b with
   |false=>rw[O7 u3]at q4 ⊢;exact⟨acc,M4,aE.mono (t2.trans (t3.trans t4)) acc gH,Vt,t'.trans (t2.trans (t3.trans t4)),q4⟩
   |true=>rw[O6 rfl]at q4 ⊢;exact⟨δ3,M4,_,Vp.mono t4,Vt,q4,λ yv H5 y5 M5 hy5 hm5 t5 q5=>⟨acc++[y5],M5,(aE.mono (t2.trans (t3.trans (t4.trans t5))) acc gH).append (aE.one hy5),hm5,t'.trans (t2.trans (t3.trans (t4.trans t5))),q5⟩⟩
section
variable {X:Cx}{scope:Scope}{tgs:List Str}{fr:List Nat}{tg elt iter:Expr}{ifs:List Expr}{pos:Pos}{wi:lZ}{g:fX}{tt:dX}{te:bX}
abbrev VH(X:Cx)(ifs:List Expr)(t:dX):Prop:=Rg X ifs (xT X.K t)
def mI:dX:=λ _ M Q=>Q true M
theorem IE:VH X [] mI:=λ pins s σ H Q I h=>IY pins s σ H Q I (by
 obtain⟨δ,M,Q2,hs,hm,q,k⟩:=h;exact k _ _ _ hm (ao.refl H) q)
theorem ID{c:Expr}{t:dX}(h:QT X c t):VH X [c] t:=IW h
def VG(X:Cx)(scope:Scope)(tgs:List Str)(fr:List Nat)(tg:Expr)(g2:fX):Prop:=
 ∃g:TG,(∀cl C fp s H,PG (bI X scope cl tgs fr C fp s H) tg g)/\iY tgs.length g/\∀v σ H Q,Mt X.K g2 v σ H Q->g v σ H Q
theorem He{i:Nat}{x:Str}{ps:Pos}(h:∀cl C fp s H,PG (bI X scope cl tgs fr C fp s H) (.Name x ps) (dO i))(hi:i < tgs.length):VG X scope tgs fr (.Name x ps) (hName i):=⟨_,h,rK hi,jX⟩
def Gs(g:TG):Prop:=∀x σ H Q Q',(∀σ' H',Q σ' H'->Q' σ' H')->g x σ H Q->g x σ H Q'
def sj(g:zr):Prop:=∀xs σ H Q Q',(∀σ' H',Q σ' H'->Q' σ' H')->g xs σ H Q->g xs σ H Q'
theorem rJ{i:Nat}:Gs (dO i):=λ x σ H Q Q' k q=>k _ _ q
theorem Fq:sj Ba:=λ xs σ H Q Q' k q=>⟨q.1,k _ _ q.2⟩
theorem Kt{t:TG}{u:zr}(ht:Gs t)(hu:sj u):sj (jF t u):=λ xs σ H Q Q' k ⟨v,r,e,q⟩=>⟨v,r,e,ht v σ H _ _ (λ σ' H' q'=>hu r σ' H' _ _ k q') q⟩
theorem yP{n:Nat}{t:TG}{u:zr}(h:iY n t)(k:l_ n u)(ht:Gs t)(hu:sj u):l_ n (jF t u):=λ xs σ H Q ⟨v,r,e,q⟩=>by refine⟨v,r,e,ht v σ H _ _ (λ σ' H' ⟨q',l',k'⟩=>?_) (h v σ H _ q)⟩;refine hu r σ' H' _ _ (λ σ2 H2 ⟨q2,l2,k2⟩=>⟨q2,l2.trans l',λ j hj=>(k2 j hj).trans (k' j hj)⟩) (k r σ' H' _ q')
theorem P'{K:O8}{m n:Nat}{t:zr}(h:l_ m t):iY m (Fu K n t):=λ x σ H Q ⟨a,xs,e,hq,hl,q⟩=>⟨a,xs,e,hq,hl,h xs σ H _ q⟩
theorem zJ{K:O8}{i j:Nat}:∀v σ H Q,Mt K (AV 2 (iG (hName i) (iG (hName j) AW))) v σ H Q->Fu K 2 (jF (dO i) (jF (dO j) Ba)) v σ H Q:=λ v σ H Q ⟨d,δ,M,Q2,hd,hs,hm,q,k⟩=>by
 cases d with
 |tup ds=>
  obtain⟨p,xs,rfl,hq,hx⟩:=aQ.mp hd;obtain⟨hl,q⟩:=q
  match ds,hl,hx,q with
  |[a,b],hl,hx,q=>obtain⟨x,r,rfl,ha,hx⟩:=ag.mp hx;obtain⟨y,r,rfl,hb,hx⟩:=ag.mp hx;cases(aq.mp hx);exact⟨p,[x,y],rfl,hq,rfl,x,[y],rfl,y,[],rfl,rfl,k _ H _ M ((hs.set ha).set hb) hm (ao.refl H) q⟩
 |_=>exact q.elim
theorem Hd{i j k:Nat}{x y:Str}{px py pt:Pos}(h:∀cl C fp s H,PG (bI X scope cl tgs fr C fp s H) (.Tuple [.Name x px,.Name y py] k pt) (Fu X.K 2 (jF (dO i) (jF (dO j) Ba))))(hi:i < tgs.length)(hj:j < tgs.length):VG X scope tgs fr (.Tuple [.Name x px,.Name y py] k pt) (AV 2 (iG (hName i) (iG (hName j) AW))):=
 ⟨_,h,P' (yP (rK hi) (yP (rK hj) Qa rJ Fq) rJ (Kt rJ Fq)),zJ⟩
def i_(X:Cx)(scope:Scope)(tgs:List Str)(fr:List Nat)(tg iter:Expr)(ifs:List Expr)(elt:Expr)(wi:lZ)(g:fX)(tt:dX)(te:bX):Prop:=
 jP X scope fr/\X.calm=true/\(∀e s,X.xe e s->False)/\QI X tg iter wi/\VG X scope tgs fr tg g/\(∀cl C fp s H,VH (bI X scope cl tgs fr C fp s H) ifs tt)/\(∀cl C fp s H,QE (bI X scope cl tgs fr C fp s H) elt te)
def tj(wi:lZ)(g:fX)(tt:dX)(te:bX)(n:Nat)(fr:List Nat):bX:=λ δ M Q=>gj wi g tt te n fr δ M λ ds M'=>∀p,M' p=none->Q (.ref p) (ay M' p (.lst ds))
theorem Oi(C:i_ X scope tgs fr tg iter ifs elt wi g tt te)(hs:∀x,foldedSetIterable iter X.env x=pure x:=by intro _;rfl):QE X (.ListComp elt [⟨tg,iter,ifs,0⟩] scope pos) (tj wi g tt te tgs.length fr):=by obtain⟨B,hc,hE,hi,⟨gv,hg,gk,gl⟩,ht,he⟩:=C;refine bL (jv (tt:=xT X.K tt) (te:=up X.K te) B hc hE hi hg gk ht he hs) ?_;rintro σ H Q ⟨δ,M,Q2,hs,hm,q,k⟩;exact fS gl hs hm q λ acc xs H' M' p hd dH t' hz hp q'=>k _ _ (.ref p) _ (aO.mpr rfl) (dD hp hd dH) (t'.trans (ao.laid hp)) (q' p (dH.free hp))
theorem wy{i:Nat}{y:Str}{py gQ:Pos}(hN:X.N.Nodup)(hiy:X.N[i]?=some y)(hy:Loc X.env.scope y)(C:i_ X scope tgs fr tg iter ifs elt wi g tt te) (hsw:swapsWith (.ListComp elt [⟨tg,iter,ifs,0⟩] scope pos) (some (.Name y py)) gQ.line X.env=pure true:=by rfl) (hf:X.fn y=true\/X.env.scope.names.lookup y=some .local:=by first|exact .inl rfl|exact .inr rfl|assumption) (hs:∀x,foldedSetIterable iter X.env x=pure x:=by intro _;rfl):QS X (.Assign [.Name y py] (.ListComp elt [⟨tg,iter,ifs,0⟩] scope pos) gQ) (tm (tj wi g tt te tgs.length fr) (hName i)):=by obtain⟨B,hc,hE,hi,⟨gv,hg,gk,gl⟩,ht,he⟩:=C;refine iE (wA (tt:=xT X.K tt) (te:=up X.K te) hN hiy hy B hc hE hi hg gk ht he hsw hf hs) ?_;rintro E σ H ⟨δ,M,D2,hs,hm,q,k⟩;exact fS gl hs hm q λ acc xs H' M' p hd dH t' hz hp q'=>k.nx _ _ _ _ (((hs.mono t').mono (ao.laid hp)).set (aO.mpr rfl)) (dD hp hd dH) (t'.trans (ao.laid hp)) (q' p (dH.free hp))
def zU(r3:List D->Mem->bF->Prop)(wi:lZ)(g:fX)(tt:dX)(te:bX)(n:Nat)(fr:List Nat):bX:=λ δ M Q=>gj wi g tt te n fr δ M λ ds M'=>r3 ds M' Q
def jN(r2:List D->Mem->bF->Prop)(r3:List D->Mem->bF->Prop):Prop:=∀ds M p Q,M p=none->ds.length<=sizeLine->r3 ds M Q->r2 [.ref p] (ay M p (.lst ds)) (fin2 Q)
theorem uE{K:O8}{H:Hp}{Q2:bF}{Q:VK}(k:iC K H Q2 Q):iC K H (fin2 Q2) Q:=λ v H' d M' hd hm t ⟨BQ,s,q⟩=>k v H' d BQ hd (hm.sub s) t q
variable {x:Str}{p:Pos}{id T:String}{bC:Pos}
theorem sP{r:List V->Hp->VK->Prop}{r2 r3:List D->Mem->bF->Prop}{gv:TG}(gl:∀v σ H Q,Mt X.K g v σ H Q->gv v σ H Q)(hr:Qx X.K r r2)(h3:jN r2 r3):∀σ H Q,up X.K (zU r3 wi g tt te tgs.length fr) σ H Q->MH r (d_ (mB (QH X.K wi) gv (xT X.K tt) (up X.K te) tgs.length fr) ow) σ H Q:=by rintro σ H Q ⟨δ,M,Q2,hs,hm,q,k⟩;show mB (QH X.K wi) gv (xT X.K tt) (up X.K te) tgs.length fr σ H (λ x H1=>r [x] H1 Q);refine fS gl hs hm q λ acc xs H' M' p hd dH t' hz hp q'=>?_;exact hr [.ref p] [.ref p] _ _ (fin2 Q2) Q (aE.one (aO.mpr rfl)) (dD hp hd dH) (h3 acc M' p Q2 (dH.free hp) hz q') (uE (k.mono (t'.trans (ao.laid hp))))
theorem Oc{r2 r3:List D->Mem->bF->Prop}(o:dr X (.builtin id) r2)(h3:jN r2 r3)(hg:Gl X x)(hm:X.mg x=none)(hv:bootBuiltins x=some (.builtin id))(C:i_ X scope tgs fr tg iter ifs elt wi g tt te)(hn:x≠"__name__":=by decide)(hdb:(x==("__debug__":Str))=false:=by decide) (hs:∀x,foldedSetIterable iter X.env x=pure x:=by intro _;rfl):QE X (.Call (.Name x p) [.ListComp elt [⟨tg,iter,ifs,0⟩] scope bC] [] pos) (zU r3 wi g tt te tgs.length fr):=by obtain⟨B,hc,hE,hi,⟨gv,Ko,gk,gl⟩,ht,he⟩:=C;obtain⟨r,ho,hr⟩:=o;exact bL (jw ho hg hm hv (aW (jv (tt:=xT X.K tt) (te:=up X.K te) B hc hE hi Ko gk ht he hs) cE) hn hdb) (sP gl hr h3)
theorem Oa{r2 r3:List D->Mem->bF->Prop}(o:dr X (.type T) r2)(h3:jN r2 r3)(hg:Gl X x)(hm:X.mg x=none)(hv:bootBuiltins x=some (.type T))(C:i_ X scope tgs fr tg iter ifs elt wi g tt te)(hn:x≠"__name__":=by decide)(hdb:(x==("__debug__":Str))=false:=by decide) (hs:∀x,foldedSetIterable iter X.env x=pure x:=by intro _;rfl):QE X (.Call (.Name x p) [.ListComp elt [⟨tg,iter,ifs,0⟩] scope bC] [] pos) (zU r3 wi g tt te tgs.length fr):=by obtain⟨B,hc,hE,hi,⟨gv,Ko,gk,gl⟩,ht,he⟩:=C;obtain⟨r,ho,hr⟩:=o;exact bL (fM ho hg hm hv (aW (jv (tt:=xT X.K tt) (te:=up X.K te) B hc hE hi Ko gk ht he hs) cE) hn hdb) (sP gl hr h3)
variable {o:Expr}{to:bX}{name:Str}{apos:Pos}
def CK(T:String)(r3:D->List D->Mem->bF->Prop)(to:bX)(wi:lZ)(g:fX)(tt:dX)(te:bX)(n:Nat)(fr:List Nat):bX:=λ δ M Q=>to δ M λ d M1=>QJ T d M1/\gj wi g tt te n fr δ M1 λ ds M'=>r3 d ds M' Q
def xH(r2:D->List D->Mem->bF->Prop)(r3:D->List D->Mem->bF->Prop):Prop:=∀d ds M p Q,M p=none->ds.length<=sizeLine->r3 d ds M Q->r2 d [.ref p] (ay M p (.lst ds)) (fin2 Q)
theorem Ob{r2 r3:D->List D->Mem->bF->Prop}(pa:PlainAttrs T)(slot:Slot T name id)(hty:typeOf (.builtin id)=pure (.type "method_descriptor"))(hm:QC X id r2)(h3:xH r2 r3)(ho:QE X o to)(C:i_ X scope tgs fr tg iter ifs elt wi g tt te) (hs:∀x,foldedSetIterable iter X.env x=pure x:=by intro _;rfl) (hbase:attributeBase o name X.env (eval o X.env)=eval o X.env:=by rfl) (hfew:((backTo pos (starEach [.ListComp elt [⟨tg,iter,ifs,0⟩] scope bC] X.env)).all (λ x=>!x.1)&&(backToKw pos (keywordEach [] X.env)).all (λ x=>x.1.isSome)
   &&decide (([.ListComp elt [⟨tg,iter,ifs,0⟩] scope bC]:List Expr).length+([]:List Keyword).length+(if([]:List Keyword).isEmpty then 0 else 1) < 30))=true:=by rfl)
  (hline:(apos.endLine==pos.line)=true:=by rfl):
  QE X (.Call (.Attribute o name apos) [.ListComp elt [⟨tg,iter,ifs,0⟩] scope bC] [] pos) (CK T r3 to wi g tt te tgs.length fr):=by
 obtain⟨B,hc,hE,hi,⟨gv,Ko,gk,gl⟩,ht,he⟩:=C;obtain⟨r,h1,hr⟩:=hm;refine bL (LG pa slot hty h1 ho (aW (jv (tt:=xT X.K tt) (te:=up X.K te) B hc hE hi Ko gk ht he hs) cE) hbase hfew hline) ?_;rintro σ H Q ⟨δ,M,Q2,hs,hm,q,k⟩;refine⟨δ,M,_,hs,hm,q,λ x H1 d M1 hd bR t1 q1=>⟨q1.1.v hd bR,?_⟩⟩;show mB (QH X.K wi) gv (xT X.K tt) (up X.K te) tgs.length fr σ H1 (λ y H2=>r x [y] H2 Q);refine fS gl (hs.mono t1) bR q1.2 λ acc xs H' M' p rG dH t' hz hp q'=>?_;exact hr x [.ref p] d [.ref p] _ _ (fin2 Q2) Q (Dat.mono (t'.trans (ao.laid hp)) d hd) (aE.one (aO.mpr rfl)) (dD hp rG dH) (h3 d acc M' p Q2 (dH.free hp) hz q') (uE (k.mono (t1.trans (t'.trans (ao.laid hp)))))
end
end L3
namespace L3
open PySem PySem.Spec L2
section
variable {X:Cx}
def dI(C:Int->Int->Prop)(g:Int->Int->D):eU:=λ x y M Q=>match x,y with
 | .int i,.int j=>C i j/\Q (g i j) M
 |_,_=>False
def Ql(g:Int->Int->D):eU:=λ x y M Q=>match x,y with
 | .int i,.int j=>Q (g i j) M
 |_,_=>False
theorem si{f:Value->Value->Sem Value}{C:Int->Int->Prop}{g:Int->Int->Int}(h:eQ X f (rI C λ i j=>.int (g i j))):eP X f (dI C λ i j=>.int (g i j)):=⟨_,h,λ x y d e H M Q2 Q hd he hm q k=>by
 cases d <;> cases e <;> first
  |exact q.elim
  |(cases(aB.mp hd);cases(aB.mp he);exact⟨_,_,rfl,rfl,q.1,k _ H _ M (aB.mpr rfl) hm (ao.refl H) q.2⟩)⟩
theorem ZW{f:Value->Value->Sem Value}{g:Int->Int->Int}(h:eQ X f (Gy λ i j=>.int (g i j))):eP X f (Ql λ i j=>.int (g i j)):=⟨_,h,λ x y d e H M Q2 Q hd he hm q k=>by
 cases d <;> cases e <;> first
  |exact q.elim
  |(cases(aB.mp hd);cases(aB.mp he);exact⟨_,_,rfl,rfl,k _ H _ M (aB.mpr rfl) hm (ao.refl H) q⟩)⟩
theorem V2{f:Value->Value->Sem Value}{g:Int->Int->Bool}(h:eQ X f (Gy λ i j=>.bl (g i j))):eP X f (Ql λ i j=>.bl (g i j)):=⟨_,h,λ x y d e H M Q2 Q hd he hm q k=>by
 cases d <;> cases e <;> first
  |exact q.elim
  |(cases(aB.mp hd);cases(aB.mp he);exact⟨_,_,rfl,rfl,k _ H _ M (aN.mpr rfl) hm (ao.refl H) q⟩)⟩
theorem Sv:eP X (binaryOp .Sub) (Ql λ i j=>.int (i - j)):=ZW OD
theorem kI:eP X (binaryOp .Mod) (dI (λ _ j=>0 < j) λ i j=>.int (i % j)):=si OI
theorem qZ:eP X (binaryOp .FloorDiv) (dI QF λ i j=>.int (i / j)):=si Jm
theorem Sw:eP X (binaryOp .Pow) (dI UK λ i j=>.int (i^j.toNat)):=si OF
theorem OV:eP X (compareOp .Lt) (Ql λ i j=>.bl (decide (i < j))):=V2 Sk
theorem O9:eP X (compareOp .Gt) (Ql λ i j=>.bl (decide (j < i))):=V2 Sm
theorem SD:eP X (compareOp .GtE) (Ql λ i j=>.bl (decide (j<=i))):=V2 Sn
def KO:eU:=λ x y M Q=>match x,y with
 | .int i,.int j=>Q (.int (i+j)) M
 | .str i,.str j=>i.length+j.length<=sizeLine/\Q (.str (i++j)) M
 | .tup xs,.tup ys=>xs≠[]/\xs.length+ys.length<=sizeLine/\Q (.tup (xs++ys)) M
 | .ref a,.ref b=>match M a,M b with
  |some (.lst xs),some (.lst ys)=>xs.length+ys.length<=sizeLine/\∀p,M p=none->Q (.ref p) (ay M p (.lst (xs++ys)))
  |_,_=>False
 |_,_=>False
theorem SE:eP X (binaryOp .Add) KO:=⟨_,OO.or (wH.or (ON.or Jn)),λ x y d e H M Q2 Q hd he hm q k=>by
 cases d with
 |int i=>
  cases e with
  |int j=>cases(aB.mp hd);cases(aB.mp he);exact .inl ⟨_,_,rfl,rfl,k _ H _ M (aB.mpr rfl) hm (ao.refl H) q⟩
  |_=>exact q.elim
 |str i=>
  cases e with
  |str j=>cases(aS.mp hd);cases(aS.mp he);exact .inr (.inl ⟨_,_,rfl,rfl,q.1,k _ H _ M (aS.mpr rfl) hm (ao.refl H) q.2⟩)
  |_=>exact q.elim
 |tup xs=>
  cases e with
  |tup ys=>
   obtain⟨p,vs,rfl,hp,hx⟩:=aQ.mp hd;obtain⟨p2,ws,rfl,ix,hy⟩:=aQ.mp he;obtain⟨fW,hlen,q⟩:=q;refine .inr (.inr (.inr ⟨p,p2,vs,ws,rfl,rfl,hp,ix,?_,by rw[hx.length,hy.length];exact hlen,?_⟩))
   ·intro z;have:=hx.length;rw[z]at this;exact fW (j4.mp this.symm)
   ·refine⟨λ hz=>?_,λ hz p3 GH=>?_⟩
    ·have YJ:ys=[]:=by have:=hy.length;rw[hz]at this;exact j4.mp this.symm
     subst YJ;rw[C1]at q;exact k _ H _ M (aQ.mpr ⟨p,vs,rfl,hp,hx⟩) hm (ao.refl H) q
    ·exact k _ _ _ M (ij GH (hx.append hy)) (hm.laid GH) (ao.laid GH) q
  |_=>exact q.elim
 |ref a=>
  cases e with
  |ref b=>
   cases(aO.mp hd);cases(aO.mp he);have q:(match M a,M b with|some (.lst xs),some (.lst ys)=>xs.length+ys.length<=sizeLine/\∀p,M p=none->Q2 (.ref p) (ay M p (.lst (xs++ys)))|_,_=>False):=q;cases ea:M a with
   |none=>rw[ea]at q;exact q.elim
   |some oa=>
    cases eb:M b with
    |none=>rw[ea,eb]at q;cases oa <;> exact q.elim
    |some ob=>
     cases oa with
     |jb b aw=>rw[ea,eb]at q;exact q.elim
     |lst xs=>
      cases ob with
      |jb b aw=>rw[ea,eb]at q;exact q.elim
      |lst ys=>rw[ea,eb]at q;obtain⟨vs,YM,dvs⟩:=hm a _ ea;obtain⟨ws,hws,Zp⟩:=hm b _ eb;refine .inr (.inr (.inl ⟨a,b,vs,ws,rfl,rfl,YM,hws,by rw[dvs.length,Zp.length];exact q.1,λ p hp=>?_⟩));exact k _ _ (.ref p) _ (aO.mpr rfl) (dD hp (dvs.append Zp) hm) (ao.laid hp) (q.2 p (hm.free hp))
  |_=>exact q.elim
 |_=>exact q.elim⟩
def KN:eU:=λ x y M Q=>match x,y with
 | .int i,.int j=>sk i j/\Q (.int (i*j)) M
 | .str z,.int n=>MulOk z n/\Q (.str (Txt.mul z n)) M
 |_,_=>False
theorem Sx:eP X (binaryOp .Mult) KN:=⟨_,OH.or wG,λ x y d e H M Q2 Q hd he hm q k=>by
 cases d <;> cases e <;> first
  |exact q.elim
  |(cases(aB.mp hd);cases(aB.mp he);exact .inl ⟨_,_,rfl,rfl,q.1,k _ H _ M (aB.mpr rfl) hm (ao.refl H) q.2⟩)
  |(cases(aS.mp hd);cases(aB.mp he);exact .inr ⟨_,_,rfl,rfl,q.1,k _ H _ M (aS.mpr rfl) hm (ao.refl H) q.2⟩)⟩
def X6:eU:=λ x y M Q=>match x,y with
 | .int i,.int j=>Q (.bl (decide (i<=j))) M
 | .str i,.str j=>Q (.bl (!decide (j.cps.toList < i.cps.toList))) M
 |_,_=>False
theorem OW:eP X (compareOp .LtE) X6:=⟨_,Sl.or Ak,λ x y d e H M Q2 Q hd he hm q k=>by
 cases d <;> cases e <;> first
  |exact q.elim
  |(cases(aB.mp hd);cases(aB.mp he);exact .inl ⟨_,_,rfl,rfl,k _ H _ M (aN.mpr rfl) hm (ao.refl H) q⟩)
  |(cases(aS.mp hd);cases(aS.mp he);exact .inr ⟨_,_,rfl,rfl,k _ H _ M (aN.mpr rfl) hm (ao.refl H) q⟩)⟩
def nN:D->Option V
 | .bu=>some .bu
 | .bl b=>some (.bl b)
 | .int i=>some (.int i)
 | .str x=>some (.str x)
 |_=>none
theorem pS{K:O8}{H:Hp}{d:D}{x v:V}(e:nN d=some v)(h:Dat K H d x):x=v:=by
 cases d with
 |bu=>cases e;exact dh.mp h
 |bl b=>cases e;exact aN.mp h
 |int i=>cases e;exact aB.mp h
 |str z=>cases e;exact aS.mp h
 |ty n=>exact absurd e (by intro z;cases z)
 |ref a=>exact absurd e (by intro z;cases z)
 |tup xs=>exact absurd e (by intro z;cases z)
 |fl xs=>exact absurd e (by intro z;cases z)
theorem nM{d:D}{v:V}(e:nN d=some v):gC v=true:=by
 cases d with
 |bu=>cases e;rfl
 |bl b=>cases e;rfl
 |int i=>cases e;rfl
 |str z=>cases e;rfl
 |ty n=>exact absurd e (by intro z;cases z)
 |ref a=>exact absurd e (by intro z;cases z)
 |tup xs=>exact absurd e (by intro z;cases z)
 |fl xs=>exact absurd e (by intro z;cases z)
def Ma(neg:Bool):eU:=λ x y M Q=>match x,y with
 | .int i,.int j=>Q (.bl (xor neg (decide (i=j)))) M
 | .bl i,.bl j=>Q (.bl (xor neg (decide (i=j)))) M
 | .str i,.str j=>Q (.bl (xor neg (decide (i=j)))) M
 |_,_=>False
theorem Wr:eP X (compareOp .Eq) (Ma false):=⟨_,So,λ x y d e H M Q2 Q hd he hm q k=>by
 cases d <;> cases e <;> first
  |exact q.elim
  |(cases(aB.mp hd);cases(aB.mp he);refine⟨rfl,k _ H _ M (aN.mpr rfl) hm (ao.refl H) ?_⟩;have q:Q2 (.bl (xor false (decide (_=_)))) M:=q;simpa using q)
  |(cases(aN.mp hd);cases(aN.mp he);refine⟨rfl,k _ H _ M (aN.mpr rfl) hm (ao.refl H) ?_⟩;have q:Q2 (.bl (xor false (decide (_=_)))) M:=q;simpa using q)
  |(cases(aS.mp hd);cases(aS.mp he);refine⟨rfl,k _ H _ M (aN.mpr rfl) hm (ao.refl H) ?_⟩;have q:Q2 (.bl (xor false (decide (_=_)))) M:=q;simpa using q)⟩
theorem Wo:eP X (compareOp .NotEq) (Ma true):=⟨_,Sj,λ x y d e H M Q2 Q hd he hm q k=>by
 cases d <;> cases e <;> first
  |exact q.elim
  |(cases(aB.mp hd);cases(aB.mp he);refine⟨rfl,k _ H _ M (aN.mpr rfl) hm (ao.refl H) ?_⟩;have q:Q2 (.bl (xor true (decide (_=_)))) M:=q;simpa using q)
  |(cases(aN.mp hd);cases(aN.mp he);refine⟨rfl,k _ H _ M (aN.mpr rfl) hm (ao.refl H) ?_⟩;have q:Q2 (.bl (xor true (decide (_=_)))) M:=q;simpa using q)
  |(cases(aS.mp hd);cases(aS.mp he);refine⟨rfl,k _ H _ M (aN.mpr rfl) hm (ao.refl H) ?_⟩;have q:Q2 (.bl (xor true (decide (_=_)))) M:=q;simpa using q)⟩
def Bl(neg:Bool):eU:=λ x y M Q=>match y with
 | .bu=>match x with
  | .bu=>Q (.bl (!neg)) M
  |_=>Q (.bl neg) M
 |_=>False
theorem uN{K:O8}{H:Hp}{d:D}{x:V}(h:Dat K H d x):decide (x=.bu)=match d with| .bu=>true|_=>false:=by
 cases d with
 |bu=>cases(dh.mp h);rfl
 |bl b=>cases(aN.mp h);rfl
 |int b=>cases(aB.mp h);rfl
 |str b=>cases(aS.mp h);rfl
 |ty b=>cases(xk.mp h);rfl
 |ref b=>cases(aO.mp h);rfl
 |tup b=>obtain⟨p,xs,rfl,_⟩:=aQ.mp h;rfl
 |fl b=>obtain⟨p,xs,rfl,_⟩:=iT.mp h;rfl
theorem Ej:eP X (compareOp .Is) (Bl false):=⟨_,OK,λ x y d e H M Q2 Q hd he hm q k=>by
 cases e with
 |bu=>refine⟨dh.mp he,?_⟩;rw[uN hd];refine k _ H _ M (aN.mpr rfl) hm (ao.refl H) ?_;cases d <;> exact q
 |_=>exact q.elim⟩
theorem OX:eP X (compareOp .IsNot) (Bl true):=⟨_,Jj,λ x y d e H M Q2 Q hd he hm q k=>by
 cases e with
 |bu=>refine⟨dh.mp he,?_⟩;rw[uN hd];refine k _ H _ M (aN.mpr rfl) hm (ao.refl H) ?_;cases d <;> exact q
 |_=>exact q.elim⟩
def T_:D->Mem->bF->Prop:=λ x M Q=>match x with
 | .int i=>Q (.int (-i)) M
 |_=>False
theorem Cj:Yc X (unaryOp .USub) T_:=⟨_,Mu,λ x d H M Q2 Q hd hm q k=>by
 cases d with
 |int i=>exact⟨i,aB.mp hd,k _ H _ M (aB.mpr rfl) hm (ao.refl H) q⟩
 |_=>exact q.elim⟩
def kR:List D->Option (List V)
 |[]=>some []
 |d::r=>match nN d,kR r with
  |some v,some vs=>some (v::vs)
  |_,_=>none
theorem nL{K:O8}{H:Hp}:∀{ds:List D} {xs vs:List V},kR ds=some vs->aE K H ds xs->xs=vs/\vs.all gC=true
 |[],xs,vs,e,h=>by cases e;exact⟨aq.mp h,rfl⟩
 |d::r,xs,vs,e,h=>by
  obtain⟨x,ys,rfl,hx,hy⟩:=ag.mp h;unfold kR at e;cases e1:nN d with
  |none=>rw[e1]at e;cases e
  |some v=>
   cases e2:kR r with
   |none=>rw[e1,e2]at e;cases e
   |some ws=>rw[e1,e2]at e;cases e;obtain⟨h1,h2⟩:=nL e2 hy;exact⟨by rw[pS e1 hx,h1],by rw[all_cons,nM e1,h2];rfl⟩
def inD(x:D)(ds:List D):Option Bool:=match nN x,kR ds with
 |some v,some vs=>some (LL v vs)
 |_,_=>none
def Ui:eU:=λ x y M Q=>match y with
 | .str j=>match x with
  | .str i=>Q (.bl (!(Builtin.Str.occurrences j i 0 j.length 1).isEmpty)) M
  |_=>False
 | .tup ds=>match inD x ds with
  |some b=>Q (.bl b) M
  |none=>False
 | .ref a=>match M a with
  |some (.lst ds)=>match inD x ds with
   |some b=>Q (.bl b) M
   |none=>False
  |_=>False
 |_=>False
theorem EV{K:O8}{H:Hp}{x:V}{xs:List V}{d:D}{ds:List D}{b:Bool}(e:inD d ds=some b)(hd:Dat K H d x)(hx:aE K H ds xs):gC x=true/\xs.all gC=true/\LL x xs=b:=by
 unfold inD at e;cases e1:nN d with
 |none=>rw[e1]at e;cases e
 |some v=>
  cases e2:kR ds with
  |none=>rw[e1,e2]at e;cases e
  |some vs=>rw[e1,e2]at e;have e:LL v vs=b:=C6 e;obtain⟨rfl,h2⟩:=nL e2 hx;cases(pS e1 hd);exact⟨nM e1,h2,e⟩
theorem Wq:eP X (compareOp .In) Ui:=⟨_,Al.or Am,λ x y d e H M Q2 Q hd he hm q k=>by
 cases e with
 |str j=>
  cases(aS.mp he);cases d with
  |str i=>cases(aS.mp hd);exact .inl ⟨_,_,rfl,rfl,k _ H _ M (aN.mpr rfl) hm (ao.refl H) q⟩
  |_=>exact q.elim
 |tup ds=>
  obtain⟨p,xs,rfl,hp,hx⟩:=aQ.mp he;have q:(match inD d ds with|some b=>Q2 (.bl b) M|none=>False):=q;cases ei:inD d ds with
  |none=>rw[ei]at q;exact q.elim
  |some b=>rw[ei]at q;obtain⟨h1,h2,h3⟩:=EV ei hd hx;refine .inr ⟨p,xs,rfl,.inr hp,h1,h2,?_⟩;simp only[u5,O2];rw[h3];exact k _ H _ M (aN.mpr rfl) hm (ao.refl H) q
 |ref a=>
  cases(aO.mp he);have q:(match M a with|some (.lst ds)=>(match inD d ds with|some b=>Q2 (.bl b) M|none=>False)|_=>False):=q;cases ea:M a with
  |none=>rw[ea]at q;exact q.elim
  |some o=>
   cases o with
   |jb b aw=>rw[ea]at q;exact q.elim
   |lst ds=>
    rw[ea]at q;obtain⟨xs,hx,dx⟩:=hm a _ ea;cases ei:inD d ds with
    |none=>simp only[ei]at q
    |some b=>simp only[ei]at q;obtain⟨h1,h2,h3⟩:=EV ei hd dx;refine .inr ⟨a,xs,rfl,.inl (dF.of hx),h1,h2,?_⟩;simp only[u5,O2];rw[h3];exact k _ H _ M (aN.mpr rfl) hm (ao.refl H) q
 |_=>exact q.elim⟩
end
end L3
namespace L3
open PySem PySem.Spec L2
theorem Le{K:O8}{H:Hp}{ds:List D}{xs:List V}(h:aE K H ds xs){i:Int}{d:D}(e:gJ ds i=some d):∃x,gJ xs i=some x/\Dat K H d x:=by
 unfold gJ at e ⊢;rw[h.length];cases q:vB ds.length i with
 |none=>rw[q]at e;cases e
 |some j=>rw[q]at e;obtain⟨x,h1,h2⟩:=h.get (i:=j) e;exact⟨x,h1,h2⟩
section
variable {X:Cx}
def a_(M:Mem)(a:Addr):Option (List D):=match M a with
 |some (.lst ds)=>some ds
 |_=>none
theorem cU{K:O8}{H:Hp}{M:Mem}{a:Addr}{ds:List D}(e:a_ M a=some ds)(hm:RelM K H M):∃xs,H a=some (.lst xs)/\aE K H ds xs:=by
 unfold a_ at e;cases q:M a with
 |none=>rw[q]at e;cases e
 |some o=>
  cases o with
  |jb b aw=>rw[q]at e;cases e
  |lst es=>rw[q]at e;cases e;exact hm a _ q
def cL(M:Mem):D->Option (List D)
 | .tup ds=>some ds
 | .fl ds=>some ds
 | .ref a=>a_ M a
 |_=>none
theorem fH{K:O8}{H:Hp}{M:Mem}{d:D}{v:V}{ds:List D}(e:cL M d=some ds)(hd:Dat K H d v)(hm:RelM K H M):∃p xs,v=.ref p/\(dF K H p xs\/fZ K H p xs)/\aE K H ds xs:=by
 cases d with
 |tup es=>cases e;obtain⟨p,xs,rfl,h,q⟩:=aQ.mp hd;exact⟨p,xs,rfl,.inr h,q⟩
 |fl es=>cases e;obtain⟨p,xs,rfl,h,q⟩:=iT.mp hd;exact⟨p,xs,rfl,.inl h.sq,q⟩
 |ref a=>cases(aO.mp hd);obtain⟨xs,h,q⟩:=cU e hm;exact⟨a,xs,rfl,.inl (dF.of h),q⟩
 |_=>cases e
def Qj:eU:=λ x y M Q=>match y with
 | .int i=>match x with
  | .str z=>z.length<=sizeLine/\(match gJ z.cps.toList i with
   |some c=>Q (.str ⟨#[c]⟩) M
   |none=>False)
  |x=>match cL M x with
   |some ds=>(match gJ ds i with
    |some d=>Q d M
    |none=>False)
   |none=>False
 |_=>False
theorem rn{x:V}{d:D}{i:Int}{H:Hp}{M:Mem}{Q2:bF}{Q:VK}{K:O8}(hd:Dat K H d x)(hm:RelM K H M)(k:iC K H Q2 Q) (q:match cL M d with|some ds=>(match gJ ds i with|some d=>Q2 d M|none=>False)|none=>False):∃p xs v,x=.ref p/\(dF K H p xs\/fZ K H p xs)/\gJ xs i=some v/\Q v H:=by
 cases e:cL M d with
 |none=>rw[e]at q;exact q.elim
 |some ds=>
  rw[e]at q;cases ei:gJ ds i with
  |none=>simp only[ei]at q
  |some d'=>simp only[ei]at q;obtain⟨p,xs,rfl,h,hx⟩:=fH e hd hm;obtain⟨v,h1,h2⟩:=Le hx ei;exact⟨p,xs,v,rfl,h,h1,k v H d' M h2 hm (ao.refl H) q⟩
theorem bA:UE X Qj:=⟨_,L2.bA,λ x y d e H M Q2 Q hd he hm q k=>by
 cases e with
 |int i=>
  cases(aB.mp he);cases d with
  |str z=>
   cases(aS.mp hd);obtain⟨hz,q⟩:=q;refine⟨hz,?_⟩;cases ei:gJ z.cps.toList i with
   |none=>rw[ei]at q;exact q.elim
   |some c=>rw[ei]at q;exact⟨c,rfl,k _ H _ M (aS.mpr rfl) hm (ao.refl H) q⟩
  |tup ds=>obtain⟨p,xs,v,rfl,h⟩:=rn (d:=.tup ds) (i:=i) hd hm k q;exact⟨xs,v,h⟩
  |fl ds=>obtain⟨p,xs,v,rfl,h⟩:=rn (d:=.fl ds) (i:=i) hd hm k q;exact⟨xs,v,h⟩
  |ref a=>obtain⟨p,xs,v,rfl,h⟩:=rn (d:=.ref a) (i:=i) hd hm k q;exact⟨xs,v,h⟩
  |_=>exact q.elim
 |_=>exact q.elim⟩
def cutD(xs:List D)(lo hi:Option Int):List D:=(xs.drop (HT.bW xs.length 0 lo)).take (HT.bW xs.length xs.length hi - HT.bW xs.length 0 lo)
theorem uX{K:O8}{H:Hp}{ds:List D}{xs:List V}(h:aE K H ds xs)(lo hi:Option Int):aE K H (cutD ds lo hi) (uY xs lo hi):=by unfold cutD uY;rw[h.length];exact(h.drop _).take _
def Zq:D->Option Int->Option Int->Mem->bF->Prop:=λ x lo hi M Q=>match x with
 | .str z=>z.length<=sizeLine/\Q (.str (fR z lo hi)) M
 | .tup ds=>¬(HT.bW ds.length 0 lo=0/\HT.bW ds.length ds.length hi=ds.length)/\Q (.tup (cutD ds lo hi)) M
 | .ref a=>match a_ M a with
  |some ds=>∀p,M p=none->Q (.ref p) (ay M p (.lst (cutD ds lo hi)))
  |none=>False
 |_=>False
theorem qD:Uz X Zq:=⟨_,L2.qD,λ x d lo hi H M Q2 Q hd hm q k=>by
 cases d with
 |str z=>cases(aS.mp hd);exact⟨q.1,k _ H _ M (aS.mpr rfl) hm (ao.refl H) q.2⟩
 |tup ds=>obtain⟨p,xs,rfl,h,hx⟩:=aQ.mp hd;refine .inr ⟨p,xs,rfl,h,by rw[hx.length];exact q.1,λ p2 ix=>?_⟩;exact k _ _ _ M (ij ix (uX hx lo hi)) (hm.laid ix) (ao.laid ix) q.2
 |ref a=>
  cases(aO.mp hd);have q:(match a_ M a with|some ds=>∀p,M p=none->Q2 (.ref p) (ay M p (.lst (cutD ds lo hi)))|none=>False):=q;cases e:a_ M a with
  |none=>rw[e]at q;exact q.elim
  |some ds=>rw[e]at q;obtain⟨xs,h,hx⟩:=cU e hm;exact .inl ⟨a,xs,rfl,dF.of h,λ p hp=>k _ _ (.ref p) _ (aO.mpr rfl) (dD hp (uX hx lo hi) hm) (ao.laid hp) (q p (hm.free hp))⟩
 |_=>exact q.elim⟩
def uU:List D->Mem->bF->Prop:=λ xs M Q=>match xs with
 |[.str z]=>z.length<=sizeLine/\Q (.int z.length) M
 |[x]=>match cL M x with
  |some ds=>Q (.int ds.length) M
  |none=>False
 |_=>False
theorem dq:dr X (.builtin "len") uU:=⟨_,rV.or rW,λ xs ds H M Q2 Q hd hm q k=>by
 cases ds with
 |nil=>exact q.elim
 |cons d r=>
  cases r with
  |cons d2 r2=>cases d <;> exact q.elim
  |nil=>
   obtain⟨x,r,rfl,hx,hr⟩:=ag.mp hd;cases(aq.mp hr);have seq:(match cL M d with|some ds=>Q2 (.int ds.length) M|none=>False)->∃p ys,[x]=[V.ref p]/\(dF X.K H p ys\/fZ X.K H p ys)/\Q (.int ys.length) H:=λ q=>by
    cases e:cL M d with
    |none=>rw[e]at q;exact q.elim
    |some es=>rw[e]at q;obtain⟨p,ys,rfl,h,hy⟩:=fH e hx hm;refine⟨p,ys,rfl,h,?_⟩;rw[hy.length];exact k _ H _ M (aB.mpr rfl) hm (ao.refl H) q
   cases d with
   |str z=>cases(aS.mp hx);exact .inl ⟨z,rfl,q.1,k _ H _ M (aB.mpr rfl) hm (ao.refl H) q.2⟩
   |tup es=>exact .inr (seq q)
   |fl es=>exact .inr (seq q)
   |ref a=>exact .inr (seq q)
   |_=>exact q.elim⟩
def dList:List D->Mem->bF->Prop:=λ xs M Q=>match xs with
 |[x]=>match cL M x with
  |some ds=>∀p,M p=none->Q (.ref p) (ay M p (.lst ds))
  |none=>False
 |_=>False
theorem Qo:dr X (.type "list") dList:=⟨_,rT,λ xs ds H M Q2 Q hd hm q k=>by
 cases ds with
 |nil=>exact q.elim
 |cons d r=>
  cases r with
  |cons d2 r2=>exact q.elim
  |nil=>
   obtain⟨x,r,rfl,hx,hr⟩:=ag.mp hd;cases(aq.mp hr);have q:(match cL M d with|some ds=>∀p,M p=none->Q2 (.ref p) (ay M p (.lst ds))|none=>False):=q;cases e:cL M d with
   |none=>rw[e]at q;exact q.elim
   |some es=>
    rw[e]at q;obtain⟨p,ys,rfl,h,hy⟩:=fH e hx hm;exact⟨p,ys,rfl,h,λ l hl=>k _ _ (.ref l) _ (aO.mpr rfl) (dD hl hy hm) (ao.laid hl) (q l (hm.free hl))⟩⟩
def rO:List D->Mem->bF->Prop:=λ xs M Q=>match xs with
 |[x]=>match cL M x with
  |some ds=>Q (.tup ds) M
  |none=>False
 |_=>False
theorem cJ:dr X (.type "tuple") rO:=⟨_,oS,λ xs ds H M Q2 Q hd hm q k=>by
 cases ds with
 |nil=>exact q.elim
 |cons d r=>
  cases r with
  |cons d2 r2=>exact q.elim
  |nil=>
   obtain⟨x,r,rfl,hx,hr⟩:=ag.mp hd;cases(aq.mp hr);have q:(match cL M d with|some ds=>Q2 (.tup ds) M|none=>False):=q;cases e:cL M d with
   |none=>rw[e]at q;exact q.elim
   |some es=>
    rw[e]at q;obtain⟨p,ys,rfl,h|h,hy⟩:=fH e hx hm
    ·exact⟨p,ys,rfl,.inl ⟨h,λ l hl=>k _ _ (.tup es) M (ij hl hy) (hm.laid hl) (ao.laid hl) q⟩⟩
    ·exact⟨p,ys,rfl,.inr ⟨h,k _ H (.tup es) M (aQ.mpr ⟨p,ys,rfl,h,hy⟩) hm (ao.refl H) q⟩⟩⟩
theorem cq:jN rO (λ ds M Q=>Q (.tup ds) M):=λ ds M p Q hp hz q=>by
 show(match cL (ay M p (.lst ds)) (.ref p)with|some es=>fin2 Q (.tup es) (ay M p (.lst ds))|none=>False);have e:cL (ay M p (.lst ds)) (.ref p)=some ds:=by show a_ (ay M p (.lst ds)) p=some ds;unfold a_;rw[aj]
 rw[e];exact⟨M,(ko.refl M).put hp,q⟩
def jM:List D->Option (List Bool)
 |[]=>some []
 | .bl b::r=>(jM r).map (b::·)
 |_::_=>none
theorem eO:∀(bs:List Bool),jM (bs.map D.bl)=some bs
 |[]=>rfl
 |b::bs=>by rw[H9];unfold jM;rw[eO bs];rfl
theorem zm:∀{ds:List D} {bs:List Bool},jM ds=some bs->ds=bs.map D.bl
 |[],bs,e=>by cases e;rfl
 |d::r,bs,e=>by
  cases d with
  |bl b=>
   unfold jM at e;cases q:jM r with
   |none=>rw[q]at e;cases e
   |some cs=>rw[q]at e;cases e;rw[zm q];rfl
  |_=>cases e
def Uo:List D->Mem->bF->Prop:=λ xs M Q=>match xs with
 |[.ref a]=>match a_ M a with
  |some ds=>match jM ds with
   |some bs=>Q (.bl (bs.all id)) M
   |none=>False
  |none=>False
 |_=>False
theorem zl(hc:X.calm=true):dr X (.builtin "all") Uo:=⟨_,vh hc,λ xs ds H M Q2 Q hd hm q k=>by
 cases ds with
 |nil=>exact q.elim
 |cons d r=>
  cases r with
  |cons d2 r2=>cases d <;> exact q.elim
  |nil=>
   cases d with
   |ref a=>
    obtain⟨x,r,rfl,hx,hr⟩:=ag.mp hd;cases(aq.mp hr);cases(aO.mp hx);have q:(match a_ M a with|some ds=>(match jM ds with|some bs=>Q2 (.bl (bs.all id)) M|none=>False)|none=>False):=q;cases e:a_ M a with
    |none=>rw[e]at q;exact q.elim
    |some es=>
     rw[e]at q;cases eb:jM es with
     |none=>simp only[eb]at q
     |some bs=>simp only[eb]at q;obtain⟨ys,h,hy⟩:=cU e hm;rw[zm eb]at hy;exact⟨a,bs,rfl,dF.of (by rw[h,nS hy]),k _ H _ M (aN.mpr rfl) hm (ao.refl H) q⟩
   |_=>exact q.elim⟩
theorem ip{M:Mem}{p:Addr}{ds:List D}:a_ (ay M p (.lst ds)) p=some ds:=by unfold a_;rw[aj]
def kY:List D->Mem->bF->Prop:=λ ds M Q=>match jM ds with
 |some bs=>Q (.bl (bs.all id)) M
 |none=>False
theorem lL:jN Uo kY:=λ ds M p Q hp hz q=>by
 show(match a_ (ay M p (.lst ds)) p with|some ds'=>(match jM ds' with|some bs=>fin2 Q (.bl (bs.all id)) (ay M p (.lst ds))|none=>False)|none=>False);rw[ip];unfold kY at q;cases eb:jM ds with
 |none=>rw[eb]at q;exact q.elim
 |some bs=>rw[eb]at q;simp only[eb];exact⟨M,(ko.refl M).put hp,q⟩
def lp(M:Mem):D->Option String
 | .bu=>some "NoneType"
 | .bl _=>some "bool"
 | .int _=>some "int"
 | .str _=>some "str"
 | .tup _=>some "tuple"
 | .fl _=>some "list"
 | .ref a=>(a_ M a).map λ _=>"list"
 |_=>none
def ny(n T:String):Bool:=n==T||(n=="bool"&&T=="int")
structure gF(K:O8)(T:String):Prop where
 bu:PySem.W.kitOne K (.type "NoneType") (.type T)=some (ny "NoneType" T)
 bl:PySem.W.kitOne K (.type "bool") (.type T)=some (ny "bool" T)
 int:PySem.W.kitOne K (.type "int") (.type T)=some (ny "int" T)
 str:PySem.W.kitOne K (.type "str") (.type T)=some (ny "str" T)
 tup:PySem.W.kitOne K (.type "tuple") (.type T)=some (ny "tuple" T)
 lst:PySem.W.kitOne K (.type "list") (.type T)=some (ny "list" T)
end
end L3
namespace L3
open PySem PySem.Spec L2
section
variable {X:Cx}
theorem Gh:cK X (.builtin "isinstance") (λ xs H Q=>∃(x:V) (T n:String),xs=[x,.ty T]/\gF X.K T/\
  ((x=.bu/\n="NoneType")\/(∃b,x=.bl b/\n="bool")\/(∃i,x=.int i/\n="int")\/(∃z,x=.str z/\n="str")\/(∃p ys,x=.ref p/\fZ X.K H p ys/\n="tuple")\/(∃p ys,x=.ref p/\dF X.K H p ys/\n="list"))/\Q (.bl (ny n T)) H):=by
 intro pins s σ H xs us Q I r h;obtain⟨x,T,n,rfl,ok,hx,q⟩:=h;obtain⟨u,w',rfl,rx,ry⟩:=vals2 r;have e:w'=Value.type T:=ry;subst e;rcases hx with⟨rfl,rfl⟩|⟨b,rfl,rfl⟩|⟨i,rfl,rfl⟩|⟨z,rfl,rfl⟩|⟨p,ys,rfl,hq,rfl⟩|⟨p,ys,rfl,hq,rfl⟩
 ·exact iu I rx .bu ok.bu λ tk=>⟨.bl _,H,I.tok tk,rfl,q⟩
 ·exact iu I rx (.bl b) ok.bl λ tk=>⟨.bl _,H,I.tok tk,rfl,q⟩
 ·exact iu I rx (.int i) ok.int λ tk=>⟨.bl _,H,I.tok tk,rfl,q⟩
 ·exact iu I rx (.str z) ok.str λ tk=>⟨.bl _,H,I.tok tk,rfl,q⟩
 ·cases(show u=Value.ref p from rx);obtain⟨au,_,⟨o,h1,h2,_⟩,_⟩:=I.tuple hq;exact D1 PySem.W.kitx_tuple I.gB ⟨o,h1,h2⟩ ok.tup (λ z=>nomatch z) λ tk=>⟨.bl _,H,I.tok tk,rfl,q⟩
 ·cases(show u=Value.ref p from rx);obtain⟨au,_,pl,_⟩:=I.list hq;obtain⟨o,h1,h2,_⟩:=pl.isList;exact D1 PySem.W.kitx_list I.gB ⟨o,h1,h2⟩ ok.lst (λ z=>nomatch z) λ tk=>⟨.bl _,H,I.tok tk,rfl,q⟩
def L'(T:String):List D->Mem->bF->Prop:=λ xs M Q=>match xs with
 |[x,.ty U]=>U=T/\(match lp M x with
  |some n=>Q (.bl (ny n T)) M
  |none=>False)
 |_=>False
theorem eL{T:String}(ok:gF X.K T):dr X (.builtin "isinstance") (L' T):=⟨_,Gh,λ xs ds H M Q2 Q hd hm q k=>by
 cases ds with
 |nil=>exact q.elim
 |cons d r0=>
 cases r0 with
 |nil=>exact q.elim
 |cons d2 r1=>
 cases r1 with
 |cons _ _=>cases d2 <;> exact q.elim
 |nil=>
 cases d2 with
 |ty U=>
  obtain⟨x,r,rfl,hx,hr⟩:=ag.mp hd;obtain⟨y,r2,rfl,hy,BG⟩:=ag.mp hr;cases(aq.mp BG);cases(xk.mp hy);obtain⟨rfl,q⟩:=q;cases e:lp M d with
  |none=>rw[e]at q;exact q.elim
  |some n=>
   rw[e]at q;refine⟨x,U,n,rfl,ok,?_,k _ H _ M (aN.mpr rfl) hm (ao.refl H) q⟩;cases d with
   |bu=>cases e;exact .inl ⟨dh.mp hx,rfl⟩
   |bl b=>cases e;exact .inr (.inl ⟨b,aN.mp hx,rfl⟩)
   |int i=>cases e;exact .inr (.inr (.inl ⟨i,aB.mp hx,rfl⟩))
   |str z=>cases e;exact .inr (.inr (.inr (.inl ⟨z,aS.mp hx,rfl⟩)))
   |tup es=>cases e;obtain⟨p,ys,rfl,h,_⟩:=aQ.mp hx;exact .inr (.inr (.inr (.inr (.inl ⟨p,ys,rfl,h,rfl⟩))))
   |fl es=>cases e;obtain⟨p,ys,rfl,h,_⟩:=iT.mp hx;exact .inr (.inr (.inr (.inr (.inr ⟨p,ys,rfl,h.sq,rfl⟩))))
   |ref a=>
    cases el:a_ M a with
    |none=>have e:(a_ M a).map (λ _=>"list")=some n:=e;rw[el]at e;cases e
    |some es=>have e:(a_ M a).map (λ _=>"list")=some n:=e;rw[el]at e;cases e;obtain⟨ys,h,_⟩:=cU el hm;exact .inr (.inr (.inr (.inr (.inr ⟨a,ys,aO.mp hx,dF.of h,rfl⟩))))
   |ty n=>cases e
 |_=>exact q.elim⟩
def fF:List D->Option (List Str)
 |[]=>some []
 | .str z::r=>(fF r).map (z::·)
 |_::_=>none
theorem sS:∀{ds:List D} {zs:List Str},fF ds=some zs->ds=zs.map D.str
 |[],zs,e=>by cases e;rfl
 |d::r,zs,e=>by
  cases d with
  |str z=>
   unfold fF at e;cases q:fF r with
   |none=>rw[q]at e;cases e
   |some ys=>rw[q]at e;cases e;rw[sS q];rfl
  |_=>cases e
theorem pq:∀(zs:List Str),fF (zs.map D.str)=some zs
 |[]=>rfl
 |b::bs=>by rw[H9];unfold fF;rw[pq bs];rfl
def nX:D->List D->Mem->bF->Prop:=λ x ds M Q=>match x with
 | .str z=>match fF ds with
  |some ys=>(ys.map (·.length)).sum+ys.length*z.length<=16777216/\Q (.str (Txt.join z ys)) M
  |none=>False
 |_=>False
def L_:D->List D->Mem->bF->Prop:=λ x vs M Q=>match vs with
 |[.ref a]=>match a_ M a with
  |some ds=>nX x ds M Q
  |none=>False
 |_=>False
theorem Pb:QC X "str.join" L_:=⟨_,JC,λ x xs d ds H M Q2 Q hx hd hm q k=>by
 cases ds with
 |nil=>exact q.elim
 |cons d1 r0=>
 cases r0 with
 |cons _ _=>cases d1 <;> exact q.elim
 |nil=>
 cases d1 with
 |ref a=>
  obtain⟨y,r,rfl,hy,hr⟩:=ag.mp hd;cases(aq.mp hr);cases(aO.mp hy);have q:(match a_ M a with|some ds=>nX d ds M Q2|none=>False):=q;cases e:a_ M a with
  |none=>rw[e]at q;exact q.elim
  |some es=>
   rw[e]at q;cases d with
   |str z=>
    have q:(match fF es with|some ys=>(ys.map (·.length)).sum+ys.length*z.length<=16777216/\Q2 (.str (Txt.join z ys)) M|none=>False):=q;cases LU:fF es with
    |none=>rw[LU]at q;exact q.elim
    |some ys=>rw[LU]at q;obtain⟨vs,h,hv⟩:=cU e hm;rw[sS LU]at hv;exact⟨z,a,ys,aS.mp hx,rfl,dF.of (by rw[h,pU hv]),q.1,k _ H _ M (aS.mpr rfl) hm (ao.refl H) q.2⟩
   |_=>exact q.elim
 |_=>exact q.elim⟩
theorem Ck:xH L_ nX:=λ d ds M p Q hp hz q=>by
 show(match a_ (ay M p (.lst ds)) p with|some es=>nX d es (ay M p (.lst ds)) (fin2 Q)|none=>False);rw[ip];cases d with
 |str z=>
  have q:(match fF ds with|some ys=>(ys.map (·.length)).sum+ys.length*z.length<=16777216/\Q (.str (Txt.join z ys)) M|none=>False):=q;show(match fF ds with|some ys=>(ys.map (·.length)).sum+ys.length*z.length<=16777216/\fin2 Q (.str (Txt.join z ys)) (ay M p (.lst ds))|none=>False);cases e:fF ds with
  |none=>rw[e]at q;exact q.elim
  |some ys=>rw[e]at q;exact⟨q.1,M,(ko.refl M).put hp,q.2⟩
 |_=>exact q.elim
def KL:jO:=λ o i v M N=>match o,i with
 | .ref a,.int k=>match a_ M a with
  |some ds=>(match vB ds.length k with
   |some j=>N (ay M a (.lst (ds.set j v)))
   |none=>False)
  |none=>False
 |_,_=>False
theorem kz:Gp X KL:=⟨_,set_list,λ o i v d j e H M Q2 Q hd hj he hm q k=>by
 cases d with
 |ref a=>
  cases j with
  |int n=>
   cases(aO.mp hd);cases(aB.mp hj);have q:(match a_ M a with|some ds=>(match vB ds.length n with|some j=>Q2 (ay M a (.lst (ds.set j e)))|none=>False)|none=>False):=q;cases el:a_ M a with
   |none=>rw[el]at q;exact q.elim
   |some ds=>
    rw[el]at q;cases ei:vB ds.length n with
    |none=>simp only[ei]at q
    |some m=>simp only[ei]at q;obtain⟨xs,h,hx⟩:=cU el hm;refine⟨a,xs,n,m,rfl,rfl,h,by rw[hx.length];exact ei,?_⟩;exact k _ _ (hm.put (u:=.lst (ds.set m e)) (ao.lst h) ⟨_,aJ,aE.mono (ao.lst h) _ (hx.set he m)⟩) (ao.lst h) q
  |_=>exact q.elim
 |_=>exact q.elim⟩
end
end L3
namespace L3
open PySem L2
section
variable {δ:cV}{M M1:Mem}{Q:bF}{ta tb tc:bX}{r r':eU}{E:dG}{t u:hZ}{c c':dX}{QB:Bool->Mem->Prop}{tl:eT}{QL:List D->Mem->Prop}
theorem Ng(h:t {E with nx:=u E} δ M):Hs t u E δ M:=h
theorem Nz(h:c δ M λ b M1=>if b=true then t E δ M1 else u E δ M1):MV c t u E δ M:=h
theorem HJ(h:E.nx δ M):CN E δ M:=h
theorem Nh(h:ta δ M E.rt):MQ ta E δ M:=h
theorem NG{g:fX}(h:ta δ M λ d M1=>g d δ M1 E.nx):tm ta g E δ M:=h
theorem Ie(h:ta δ M λ _ M1=>E.nx δ M1):CP ta E δ M:=h
theorem yg{i:Nat}{d:D}{N:cV->Mem->Prop}(h:N (δ.set i (some d)) M):hName i d δ M N:=h
theorem Nf{d:D}{N:cV->Mem->Prop}{s:jO}(h:ta δ M λ o M1=>tb δ M1 λ j M2=>s o j d M2 λ M3=>N δ M3):hSub ta tb s d δ M N:=h
theorem CW{a:Addr}{k:Int}{v:D}{ds:List D}{j:Nat}{N:Mem->Prop}(h:M a=some (.lst ds))(e:vB ds.length k=some j)(q:N (ay M a (.lst (ds.set j v)))):KL (.ref a) (.int k) v M N:=by
 show(match a_ M a with|some ds=>(match vB ds.length k with|some j=>N (ay M a (.lst (ds.set j v)))|none=>False)|none=>False);have e1:a_ M a=some ds:=by unfold a_;rw[h]
 rw[e1];simp only[e];exact q
theorem HB(h:ta δ M λ d M1=>match d with| .bl k=>QB k M1|_=>False):mJ ta δ M QB:=h
theorem RM(h:ta δ M λ d M1=>tb δ M1 λ e M2=>r d e M2 Q):Gx r ta tb δ M Q:=h
theorem RI{s:D->Mem->bF->Prop}(h:ta δ M λ d M1=>s d M1 Q):V3 s ta δ M Q:=h
theorem Nb{i:Nat}{d:D}(e:δ[i]?=some (some d))(h:Q d M):CG i δ M Q:=by unfold CG;rw[e];exact h
theorem V9{d:D}(h:Q d M):sC d δ M Q:=h
theorem NH(h:c δ M λ b M1=>if b=true then c' δ M1 QB else QB false M1):MX c c' δ M QB:=h
theorem RL(h:c δ M λ b M1=>if b=true then QB true M1 else c' δ M1 QB):V5 c c' δ M QB:=h
theorem Nj(h:c δ M λ b M1=>QB (!b) M1):MS c δ M QB:=h
theorem Io(h:ta δ M λ d M1=>match d with| .bl c=>(if c=true then tb δ M1 Q else Q (.bl false) M1)|_=>False):CS ta tb δ M Q:=h
theorem Ni(h:ta δ M λ d M1=>match d with| .bl c=>(if c=true then Q (.bl true) M1 else tb δ M1 Q)|_=>False):MR ta tb δ M Q:=h
theorem HI(h:ta δ M λ d M1=>match d with| .bl c=>Q (.bl (!c)) M1|_=>False):CM ta δ M Q:=h
theorem Dl(h:ta δ M λ d M1=>tb δ M1 λ e M2=>r d e M2 λ z M3=>match z with| .bl k=>(if k=true then tc δ M3 λ w M4=>r' e w M4 Q else Q (.bl false) M3)|_=>False):qG r r' ta tb tc δ M Q:=h
theorem Nk(h:QL [] M):MT δ M QL:=h
theorem Ig(h:ta δ M λ d M1=>tl δ M1 λ ds M2=>QL (d::ds) M2):CQ ta tl δ M QL:=h
theorem Nc(h:tl δ M λ ds M1=>ds.length<=sizeLine/\Q (.tup ds) M1):MP tl δ M Q:=h
theorem Nt(h:tl δ M λ ds M1=>ds.length<=sizeLine/\∀p,M1 p=none->Q (.ref p) (ay M1 p (.lst ds))):MU tl δ M Q:=h
theorem RP{s:List D->Mem->bF->Prop}(h:tl δ M λ ds M1=>s ds M1 Q):QN s tl δ M Q:=h
theorem V8{sp:gL}(h:tl δ M λ ds M1=>sp ds M1 Q):sD sp tl δ M Q:=h
theorem RK{s:D->Option Int->Option Int->Mem->bF->Prop}{l h':Li}(h:ta δ M λ d M1=>l δ M1 λ i M2=>h' δ M2 λ j M3=>s d i j M3 Q):V4 s ta l h' δ M Q:=h
theorem zZ{QO:Option Int->Mem->Prop}(h:QO none M):qF δ M QO:=h
theorem HH{QO:Option Int->Mem->Prop}(h:ta δ M λ d M1=>match d with| .int i=>QO (some i) M1|_=>False):CL ta δ M QO:=h
theorem RQ{T:String}{s:D->List D->Mem->bF->Prop}(h:ta δ M λ d M1=>QJ T d M1/\tl δ M1 λ ds M2=>s d ds M2 Q):V6 T s ta tl δ M Q:=h
theorem mO(W:cV->Mem->Prop)(h1:∀N:cV->Mem->Prop,(∀δ' M',W δ' M'->N δ' M')->t {E with nx:=N} δ M)(h2:∀δ' M',W δ' M'->u E δ' M'):Hs t u E δ M:=h1 (u E) h2
set_option tactic.hygienic true in
theorem pf{M:Mem}{a:Addr}{o:MO}(h:M a=some o):ay M a o=M:=by
 funext b;unfold ay;split
 ·rename_i e;rw[e,h]
 ·rfl
theorem du{a:Addr}{i:Int}{ds:List D}{d:D}(h:M a=some (.lst ds))(e:gJ ds i=some d)(q:Q d M):Qj (.ref a) (.int i) M Q:=by
 show(match a_ M a with|some ds=>(match gJ ds i with|some d=>Q d M|none=>False)|none=>False);have e1:a_ M a=some ds:=by unfold a_;rw[h]
 rw[e1];simp only[e];exact q
theorem jW{i:Int}{ds:List D}{d:D}(e:gJ ds i=some d)(q:Q d M):Qj (.tup ds) (.int i) M Q:=by show(match gJ ds i with|some d=>Q d M|none=>False);rw[e];exact q
theorem wt{i:Int}{z:Str}{x:Nat}(hz:z.length<=sizeLine)(e:gJ z.cps.toList i=some x)(q:Q (.str ⟨#[x]⟩) M):Qj (.str z) (.int i) M Q:=by refine⟨hz,?_⟩;show(match gJ z.cps.toList i with|some c=>Q (.str ⟨#[c]⟩) M|none=>False);rw[e];exact q
theorem V7{C:Int->Int->Prop}{g:Int->Int->D}{i j:Int}(h:C i j)(q:Q (g i j) M):dI C g (.int i) (.int j) M Q:=⟨h,q⟩
theorem Nq{g:Int->Int->D}{i j:Int}(h:0 < j)(q:Q (g i j) M):dI (λ _ j=>0 < j) g (.int i) (.int j) M Q:=⟨h,q⟩
theorem NF{g:Int->Int->D}{i j:Int}(h:0 < j)(h2:j < 1073741824)(q:Q (g i j) M):dI QF g (.int i) (.int j) M Q:=⟨⟨h,h2⟩,q⟩
theorem Gd{i j:Int}(h0: -1000000000000<=i)(h1:i<=1000000000000):sk i j:=.inl ⟨Int.lt_of_lt_of_le (by decide) h0,x5 h1 (by decide)⟩
theorem Gb{i j:Int}(h0: -1000000000000<=j)(h1:j<=1000000000000):sk i j:=.inr ⟨Int.lt_of_lt_of_le (by decide) h0,x5 h1 (by decide)⟩
theorem RN{g:Int->Int->D}{i j:Int}(q:Q (g i j) M):Ql g (.int i) (.int j) M Q:=q
theorem Ip{a b:Addr}{xs ys:List D}(ha:M a=some (.lst xs))(hb:M b=some (.lst ys))(h:xs.length+ys.length<=sizeLine)(q:∀p,M p=none->Q (.ref p) (ay M p (.lst (xs++ys)))):KO (.ref a) (.ref b) M Q:=by show(match M a,M b with|some (.lst xs),some (.lst ys)=>xs.length+ys.length<=sizeLine/\∀p,M p=none->Q (.ref p) (ay M p (.lst (xs++ys)))|_,_=>False);rw[ha,hb];exact⟨h,q⟩
theorem HP{i j:Int}(h:sk i j)(q:Q (.int (i*j)) M):KN (.int i) (.int j) M Q:=⟨h,q⟩
theorem HN{i:Str}{j:Int}(h:MulOk i j)(q:Q (.str (Txt.mul i j)) M):KN (.str i) (.int j) M Q:=⟨h,q⟩
theorem Nu{i j:Int}(q:Q (.bl (decide (i<=j))) M):X6 (.int i) (.int j) M Q:=q
theorem NC{i j:Int}(q:Q (.bl (decide (i=j))) M):Ma false (.int i) (.int j) M Q:=by show Q (.bl (xor false (decide (i=j)))) M;simpa using q
theorem ND{i j:Bool}(q:Q (.bl (decide (i=j))) M):Ma false (.bl i) (.bl j) M Q:=by show Q (.bl (xor false (decide (i=j)))) M;simpa using q
theorem NB{i j:Str}(q:Q (.bl (decide (i=j))) M):Ma false (.str i) (.str j) M Q:=by show Q (.bl (xor false (decide (i=j)))) M;simpa using q
theorem Nn{i j:Int}(q:Q (.bl (!decide (i=j))) M):Ma true (.int i) (.int j) M Q:=by show Q (.bl (xor true (decide (i=j)))) M;simpa using q
theorem Np{i j:Bool}(q:Q (.bl (!decide (i=j))) M):Ma true (.bl i) (.bl j) M Q:=by show Q (.bl (xor true (decide (i=j)))) M;simpa using q
theorem HU{a:Addr}{ds:List D}(h:M a=some (.lst ds))(q:Q (.int ds.length) M):uU [.ref a] M Q:=by
 show(match a_ M a with|some ds=>Q (.int ds.length) M|none=>False);have e1:a_ M a=some ds:=by unfold a_;rw[h]
 rw[e1];exact q
theorem HR{ds:List D}(q:Q (.int ds.length) M):uU [.tup ds] M Q:=q
theorem HS{z:Str}(h:z.length<=sizeLine)(q:Q (.int z.length) M):uU [.str z] M Q:=⟨h,q⟩
theorem Nv{x:D}{ds:List D}{b:Bool}(e:inD x ds=some b)(q:Q (.bl b) M):Ui x (.tup ds) M Q:=by show(match inD x ds with|some b=>Q (.bl b) M|none=>False);rw[e];exact q
theorem Nx{x:D}{a:Addr}{ds:List D}{b:Bool}(h:M a=some (.lst ds))(e:inD x ds=some b)(q:Q (.bl b) M):Ui x (.ref a) M Q:=by show(match M a with|some (.lst ds)=>(match inD x ds with|some b=>Q (.bl b) M|none=>False)|_=>False);rw[h];simp only[e];exact q
theorem Nw{i j:Str}(q:Q (.bl (!(Builtin.Str.occurrences j i 0 j.length 1).isEmpty)) M):Ui (.str i) (.str j) M Q:=q
theorem De{ds:List D}(q:∀p,M p=none->Q (.ref p) (ay M p (.lst ds))):dList [.fl ds] M Q:=q
theorem Nl{i:Int}(q:Q (.int (-i)) M):T_ (.int i) M Q:=q
theorem cz{P:Prop}{inst:Decidable P}{A B:Prop}(h1:P->A)(h2:¬P->B):if @decide P inst=true then A else B:=by
 by_cases h:P
 ·rw[E7 h,O6 rfl];exact h1 h
 ·rw[C3 h,O7 u3];exact h2 h
theorem gm{P:Prop}{inst:Decidable P}{A B:Prop}(h1:¬P->A)(h2:P->B):if(!@decide P inst)=true then A else B:=by
 by_cases h:P
 ·rw[E7 h,Bool.not_true,O7 u3];exact h2 h
 ·rw[C3 h,Bool.not_false,O6 rfl];exact h1 h
theorem HW{A B:Prop}(h:A):if true=true then A else B:=by rw[O6 rfl];exact h
theorem HX{A B:Prop}(h:B):if false=true then A else B:=by rw[O7 u3];exact h
theorem de{b:Bool}{A B:Prop}(h1:b=true->A)(h2:b=false->B):if b=true then A else B:=by
 cases b with
 |true=>rw[O6 rfl];exact h1 rfl
 |false=>rw[O7 u3];exact h2 rfl
end
end L3
namespace L3
open PySem L2
section
variable {g:fX}{tt:dX}{te:bX}{tb:hZ}{δ δc:cV}{M1:Mem}{Qe:List D->Mem->Prop}{E:dG}
theorem gw{ds:List D}(Pv:Nat->List D->Mem->Prop)(h0:Pv 0 [] M1)(hz:∀i acc M,i<=ds.length->Pv i acc M->acc.length<=sizeLine) (hs:∀i d acc M,ds[i]?=some d->Pv i acc M->g d δc M λ δ2 M2=>tt δ2 M2 λ b M3=>if b=true then te δ2 M3 λ y M4=>Pv (i+1) (acc++[y]) M4 else Pv (i+1) acc M3) (hd:∀acc M,Pv ds.length acc M->Qe acc M):∃(B:Nat) (W:Nat->List D->Mem->Prop),W 0 [] M1/\∀i acc M,W i acc M->i<=B/\acc.length<=sizeLine/\match items (.fix ds) M with
   |none=>False
   |some ds=>match ds[i]? with
    |none=>i=ds.length/\Qe acc M
    |some d=>g d δc M λ δ2 M2=>tt δ2 M2 λ b M3=>if b=true then te δ2 M3 λ y M4=>W (i+1) (acc++[y]) M4 else W (i+1) acc M3:=by
 refine⟨ds.length,λ i acc M=>if i<=ds.length then Pv i acc M else False,by dsimp only;rw[O6 (N3 _)];exact h0,?_⟩;intro i acc M w;by_cases hi:i<=ds.length
 ·rw[O6 hi]at w;refine⟨hi,hz i acc M hi w,?_⟩;show(match ds[i]? with
    |none=>i=ds.length/\Qe acc M
    |some d=>g d δc M λ δ2 M2=>tt δ2 M2 λ b M3=>if b=true then te δ2 M3 λ y M4=>(if i+1<=ds.length then Pv (i+1) (acc++[y]) M4 else False)else(if i+1<=ds.length then Pv (i+1) acc M3 else False))
  cases e:ds[i]? with
  |none=>have:i=ds.length:=D6 hi (i6.mp e);subst this;exact⟨rfl,hd acc M w⟩
  |some d=>have iS:i+1<=ds.length:=(i5.mp e).1;simp only[O6 iS];exact hs i d acc M e w
 ·rw[O7 hi]at w;exact w.elim
theorem gq{ds:List D}(Pv:Nat->cV->Mem->Prop)(h0:Pv 0 δ M1) (hs:∀i d δ M,ds[i]?=some d->Pv i δ M->g d δ M λ δ2 M2=>tb {E with nx:=Pv (i+1),ct:=Pv (i+1),bk:=E.nx} δ2 M2) (hd:∀δ M,Pv ds.length δ M->E.nx δ M):∃(B:Nat) (W:Nat->cV->Mem->Prop),W 0 δ M1/\∀i δ M,W i δ M->i<=B/\match items (.fix ds) M with
   |none=>False
   |some ds=>match ds[i]? with
    |none=>i=ds.length/\E.nx δ M
    |some d=>g d δ M λ δ2 M2=>tb {E with nx:=W (i+1),ct:=W (i+1),bk:=E.nx} δ2 M2:=by
 refine⟨ds.length,λ i δ M=>if i<=ds.length then Pv i δ M else False,by dsimp only;rw[O6 (N3 _)];exact h0,?_⟩;intro i δ M w;by_cases hi:i<=ds.length
 ·rw[O6 hi]at w;refine⟨hi,?_⟩;show(match ds[i]? with
    |none=>i=ds.length/\E.nx δ M
    |some d=>g d δ M λ δ2 M2=>tb {E with nx:=(λ δ M=>if i+1<=ds.length then Pv (i+1) δ M else False),ct:=(λ δ M=>if i+1<=ds.length then Pv (i+1) δ M else False),bk:=E.nx} δ2 M2)
  cases e:ds[i]? with
  |none=>have:i=ds.length:=D6 hi (i6.mp e);subst this;exact⟨rfl,hd δ M w⟩
  |some d=>have iS:i+1<=ds.length:=(i5.mp e).1;simp only[O6 iS];exact hs i d δ M e w
 ·rw[O7 hi]at w;exact w.elim
theorem LS{a:Addr}{ds:List D}(Pv:Nat->cV->Mem->Prop)(h0:Pv 0 δ M1)(hl:∀i δ M,i<=ds.length->Pv i δ M->M a=some (.lst ds)) (hs:∀i d δ M,ds[i]?=some d->Pv i δ M->g d δ M λ δ2 M2=>tb {E with nx:=Pv (i+1),ct:=Pv (i+1),bk:=E.nx} δ2 M2) (hd:∀δ M,Pv ds.length δ M->E.nx δ M):∃(B:Nat) (W:Nat->cV->Mem->Prop),W 0 δ M1/\∀i δ M,W i δ M->i<=B/\match items (.at a) M with
   |none=>False
   |some ds=>match ds[i]? with
    |none=>i=ds.length/\E.nx δ M
    |some d=>g d δ M λ δ2 M2=>tb {E with nx:=W (i+1),ct:=W (i+1),bk:=E.nx} δ2 M2:=by
 refine⟨ds.length,λ i δ M=>if i<=ds.length then Pv i δ M else False,by dsimp only;rw[O6 (N3 _)];exact h0,?_⟩;intro i δ M w;by_cases hi:i<=ds.length
 ·rw[O6 hi]at w;refine⟨hi,?_⟩;have e0:items (.at a) M=some ds:=by show(match M a with|some (.lst ds)=>some ds|_=>none)=some ds;rw[hl i δ M hi w]
  rw[e0];show(match ds[i]? with
    |none=>i=ds.length/\E.nx δ M
    |some d=>g d δ M λ δ2 M2=>tb {E with nx:=(λ δ M=>if i+1<=ds.length then Pv (i+1) δ M else False),ct:=(λ δ M=>if i+1<=ds.length then Pv (i+1) δ M else False),bk:=E.nx} δ2 M2)
  cases e:ds[i]? with
  |none=>have:i=ds.length:=D6 hi (i6.mp e);subst this;exact⟨rfl,hd δ M w⟩
  |some d=>have iS:i+1<=ds.length:=(i5.mp e).1;simp only[O6 iS];exact hs i d δ M e w
 ·rw[O7 hi]at w;exact w.elim
end
section
variable {δ:cV}{M:Mem}{Q:bF}{wi:lZ}{g:fX}{tt:dX}{te:bX}{n:Nat}{fr:List Nat}{ta:bX}{E:dG}{tb:hZ}{tl:eT}{R:Src->Mem->Prop}
theorem Nd{r3:List D->Mem->bF->Prop}(h:wi δ M λ src M1=>∃(B:Nat) (W:Nat->List D->Mem->Prop),W 0 [] M1/\∀i acc M,W i acc M->i<=B/\acc.length<=sizeLine/\match items src M with
   |none=>False
   |some ds=>match ds[i]? with
    |none=>i=ds.length/\r3 acc M Q
    |some d=>g d (iV n fr δ) M λ δ2 M2=>tt δ2 M2 λ b M3=>if b=true then te δ2 M3 λ y M4=>W (i+1) (acc++[y]) M4 else W (i+1) acc M3):zU r3 wi g tt te n fr δ M Q:=h
theorem HA{T:String}{r3:D->List D->Mem->bF->Prop}(h:ta δ M λ d M1=>QJ T d M1/\gj wi g tt te n fr δ M1 λ ds M'=>r3 d ds M' Q):CK T r3 ta wi g tt te n fr δ M Q:=h
theorem Dk{Qe:List D->Mem->Prop}(h:wi δ M λ src M1=>∃(B:Nat) (W:Nat->List D->Mem->Prop),W 0 [] M1/\∀i acc M,W i acc M->i<=B/\acc.length<=sizeLine/\match items src M with
   |none=>False
   |some ds=>match ds[i]? with
    |none=>i=ds.length/\Qe acc M
    |some d=>g d (iV n fr δ) M λ δ2 M2=>tt δ2 M2 λ b M3=>if b=true then te δ2 M3 λ y M4=>W (i+1) (acc++[y]) M4 else W (i+1) acc M3):gj wi g tt te n fr δ M Qe:=h
theorem Ih(h:gj wi g tt te n fr δ M λ ds M'=>∀p,M' p=none->Q (.ref p) (ay M' p (.lst ds))):tj wi g tt te n fr δ M Q:=h
theorem NA(h:wi δ M λ src M1=>∃(B:Nat) (W:Nat->cV->Mem->Prop),W 0 δ M1/\∀i δ M,W i δ M->i<=B/\match items src M with
   |none=>False
   |some ds=>match ds[i]? with
    |none=>i=ds.length/\E.nx δ M
    |some d=>g d δ M λ δ2 M2=>tb {E with nx:=W (i+1),ct:=W (i+1),bk:=E.nx} δ2 M2):MW wi g tb E δ M:=h
theorem HG(h:tl δ M λ ds M1=>match ds with|[.int j]=>Yl j/\R (.fix (cM 0 j.toNat)) M1|_=>False):EK tl δ M R:=h
theorem Na{QB:Bool->Mem->Prop}(h:QB true M):mI δ M QB:=h
theorem vn{α:Type}{xs:List α}{d:Int}(h0:0<=d)(h1:d < xs.length):∃c,gJ xs d=some c:=by
 have hl:d.toNat < xs.length:=by omega
 have e:((d.toNat:Nat):Int)=d:=by omega
 have q:gJ xs ((d.toNat:Nat):Int)=some xs[d.toNat]:=cC (by simp[hl]);rw[e]at q;exact⟨_,q⟩
end
end L3
namespace L3
open PySem L2
def strsOf:List Expr->Option (List Str)
 |[]=>some []
 | .Constant (.str x) _ _::r=>(strsOf r).map (x::·)
 |_::_=>none
def yd(zs:List Str):eT:=λ _ M Q=>Q (zs.map D.str) M
theorem HD{zs:List Str}{δ:cV}{M:Mem}{Q:List D->Mem->Prop}(h:Q (zs.map D.str) M):yd zs δ M Q:=h
theorem yk{X:Cx}:∀{es:List Expr} {zs:List Str},strsOf es=some zs->QA X es (yd zs)
 |[],zs,h=>by cases h;exact Dy
 |e::es,zs,h=>by
  cases e with
  |Constant c j pos=>
   cases c with
   |str x=>
    unfold strsOf at h;cases q:strsOf es with
    |none=>rw[q]at h;cases h
    |some ys=>rw[q]at h;cases h;exact DU (yl (ta:=sC (.str x)) (t:=yd ys) Lz (yk q)) λ σ H Q h=>h
   |_=>exact absurd h (by unfold strsOf;intro z;cases z)
  |_=>exact absurd h (by unfold strsOf;intro z;cases z)
end L3
namespace L4
open PySem PySem.Spec L2 L3
structure WE(X:Cx)(e:Expr)(t:bX):Prop where
 h:QE X e t
structure WT(X:Cx)(e:Expr)(t:dX):Prop where
 h:QT X e t
structure WW(X:Cx)(e:Expr)(t:dX):Prop where
 h:QW X e t
structure WA(X:Cx)(e:List Expr)(t:eT):Prop where
 h:QA X e t
structure WS(X:Cx)(e:Stmt)(t:hZ):Prop where
 h:QS X e t
structure GV(X:Cx)(e:List Stmt)(t:hZ):Prop where
 h:Gq X e t
structure WO(X:Cx)(e:Option Expr)(t:Li):Prop where
 h:QO X e t
structure WG(X:Cx)(e:Expr)(t:fX):Prop where
 h:QG X e t
structure VE(X:Cx)(e:List Expr)(t:n_):Prop where
 h:UA X e t
structure Yb(X:Cx)(e:List Expr)(t:dX):Prop where
 h:VH X e t
structure WI(X:Cx)(tg e:Expr)(t:lZ):Prop where
 h:QI X tg e t
theorem WW.pt {X:Cx}{e:Expr}{t:dX}(w:WW X e t):WT X e t:=⟨w.h.pt⟩
structure Qv(X:Cx)(scope:Scope)(tgs:List Str)(fr:List Nat)(tg:Expr)(g:fX):Prop where
 h:VG X scope tgs fr tg g
structure fh(X:Cx)(scope:Scope)(tgs:List Str)(fr:List Nat)(tg iter:Expr)(ifs:List Expr)(elt:Expr)(wi:lZ)(g:fX)(tt:dX)(te:bX):Prop where
 b:jP X scope fr
 calm:X.calm=true
 xe:∀e s,X.xe e s->False
 it:WI X tg iter wi
 ZN:Qv X scope tgs fr tg g
 ifs:∀cl C fp s H,Yb (bI X scope cl tgs fr C fp s H) ifs tt
 elt:∀cl C fp s H,WE (bI X scope cl tgs fr C fp s H) elt te
theorem fh.h {X:Cx}{scope:Scope}{tgs:List Str}{fr:List Nat}{tg iter:Expr}{ifs:List Expr}{elt:Expr}{wi:lZ}{g:fX}{tt:dX}{te:bX}(C:fh X scope tgs fr tg iter ifs elt wi g tt te):i_ X scope tgs fr tg iter ifs elt wi g tt te:=
 ⟨C.b,C.calm,C.xe,C.it.h,C.ZN.h,λ cl D fp s H=>(C.ifs cl D fp s H).h,λ cl D fp s H=>(C.elt cl D fp s H).h⟩
section
variable {X:Cx}{a b c e:Expr}{ta tb tc:bX}{pos:Pos}
theorem ax(i:Nat){x:Str}(hN:X.N[i]?=some x:=by rfl)(hv:Uw X.env.scope x:=by first|exact Or.inl rfl|exact Or.inr (Or.inl rfl)|exact Or.inr (Or.inr rfl))(hd:(x==("__debug__":Str))=false:=by decide)(hcd:(x==("__classdict__":Str))=false:=by decide):WE X (.Name x pos) (CG i):=⟨Z3 (i:=i) (hN:=hN) (hv:=hv) (hd:=hd) (hcd:=hcd)⟩
theorem av{i j}:WE X (.Constant (.int i) j pos) (sC (.int i)):=⟨R9⟩
theorem oo{i j}:WE X (.Constant (.bool i) j pos) (sC (.bl i)):=⟨Wj⟩
theorem eX{i j}:WE X (.Constant (.str i) j pos) (sC (.str i)):=⟨Lz⟩
theorem mm{j}:WE X (.Constant .none j pos) (sC .bu):=⟨R7⟩
theorem qp{x:Str}{d:D}(G:k_ X.K X.mg x d)(hg:Gl X x)(hd:(x==("__debug__":Str))=false:=by decide):WE X (.Name x pos) (sC d):=⟨Of (G:=G) (hg:=hg) (hd:=hd)⟩
theorem iM{x:Str}{n:String}(hg:Gl X x)(hm:X.mg x=none)(hv:bootBuiltins x=some (.type n))(hn:x≠"__name__":=by decide)(hd:(x==("__debug__":Str))=false:=by decide):WE X (.Name x pos) (sC (.ty n)):=⟨We (hg:=hg) (hm:=hm) (hv:=hv) (hn:=hn) (hd:=hd)⟩
theorem bM{op:Operator}{r2:eU}(o:eP X (binaryOp op) r2)(ha:WE X a ta)(hb:WE X b tb):WE X (.BinOp a op b pos) (Gx r2 ta tb):=⟨Wg (o:=o) (ha:=ha.h) (hb:=hb.h)⟩
theorem Mm{op:UnaryOp}{r2:D->Mem->bF->Prop}(o:Yc X (unaryOp op) r2)(ha:WE X a ta):WE X (.UnaryOp op a pos) (V3 r2 ta):=⟨Wc (o:=o) (ha:=ha.h)⟩
theorem gP{op:CmpOp}{r2:eU}(o:eP X (compareOp op) r2)(ha:WE X a ta)(hb:WE X b tb)(hm:behindInMarks op b=false):WE X (.Compare a [op] [b] pos) (Gx r2 ta tb):=⟨R' (o:=o) (ha:=ha.h) (hb:=hb.h) (hm:=hm)⟩
theorem br{op:CmpOp}{r2:eU}(o:eP X (compareOp op) r2)(ha:WE X a ta)(hb:WE X b tb)(hm:behindInMarks op b=false):WT X (.Compare a [op] [b] pos) (mJ (Gx r2 ta tb)):=⟨NQ (o:=o) (ha:=ha.h) (hb:=hb.h) (hm:=hm)⟩
theorem Cc{op DY:CmpOp}{r2 Ir:eU}(o:eP X (compareOp op) r2)(o':eP X (compareOp DY) Ir)(ha:WE X a ta)(hb:WE X b tb)(hc:WE X c tc)(hm:lastMarks [op,DY] [b,c]=false:=by with_unfolding_all rfl):WT X (.Compare a [op,DY] [b,c] pos) (mJ (qG r2 Ir ta tb tc)):=⟨Dt (o:=o) (o':=o') (ha:=ha.h) (hb:=hb.h) (hc:=hc.h) (hm:=hm)⟩
theorem fj(h:WE X e ta)(he:∀whole,isTrue e X.env whole=(do let v <- whole;standAt e.pos;holding [v] (truthy v)):=by intro _;rfl):WT X e (mJ ta):=⟨NO (h:=h.h) (he:=he)⟩
variable {tA tB:dX}{rest:List Expr}
theorem lI(ha:WT X a tA):WW X (.BoolOp .And [a] pos) tA:=⟨Iu (ha:=ha.h)⟩
theorem mi(ha:WT X a tA):WW X (.BoolOp .Or [a] pos) tA:=⟨NL (ha:=ha.h)⟩
theorem mj(ha:WT X a tA)(hb:WW X (.BoolOp .And (b::rest) pos) tB):WW X (.BoolOp .And (a::b::rest) pos) (MX tA tB):=⟨NN (ha:=ha.h) (hb:=hb.h)⟩
theorem sI(ha:WT X a tA)(hb:WW X (.BoolOp .Or (b::rest) pos) tB):WW X (.BoolOp .Or (a::b::rest) pos) (V5 tA tB):=⟨R1 (ha:=ha.h) (hb:=hb.h)⟩
theorem jR(ha:WT X a tA):WT X (.UnaryOp .Not a pos) (MS tA):=⟨NP (ha:=ha.h)⟩
theorem kr{op}(h:WE X a ta):WE X (.BoolOp op [a] pos) ta:=⟨R5 (h:=h.h)⟩
theorem w_and(ha:WE X a ta)(hb:WE X (.BoolOp .And (b::rest) pos) tb):WE X (.BoolOp .And (a::b::rest) pos) (CS ta tb):=⟨Sa (ha:=ha.h) (hb:=hb.h)⟩
theorem w_or(ha:WE X a ta)(hb:WE X (.BoolOp .Or (b::rest) pos) tb):WE X (.BoolOp .Or (a::b::rest) pos) (MR ta tb):=⟨Wf (ha:=ha.h) (hb:=hb.h)⟩
theorem w_not(ha:WE X a ta):WE X (.UnaryOp .Not a pos) (CM ta):=⟨R6 (ha:=ha.h)⟩
variable {es:List Expr}{t:eT}
theorem ae:WA X [] MT:=⟨Dy⟩
theorem aa(ha:WE X e ta)(hr:WA X es t)(hs:starEach (e::es) X.env=(false,eval e X.env)::starEach es X.env:=by rfl):WA X (e::es) (CQ ta t):=⟨yl (ha:=ha.h) (hr:=hr.h) (hs:=hs)⟩
theorem cS{x1}(h:WA X es t):WE X (.Tuple es x1 pos) (MP t):=⟨R4 (h:=h.h)⟩
theorem dN(h:WA X es t):WE X (.List es pos) (MU t):=⟨R8 (h:=h.h)⟩
theorem bN{r2:eU}(o:UE X r2)(ha:WE X a ta)(hb:WE X b tb)(hs:sf b):WE X (.Subscript a b pos) (Gx r2 ta tb):=⟨Wh (o:=o) (ha:=ha.h) (hb:=hb.h) (hs:=hs)⟩
theorem cX:WO X none qF:=⟨IC⟩
theorem cW(h:WE X e ta):WO X (some e) (CL ta):=⟨IB (h:=h.h)⟩
variable {lo hi:Option Expr}{tl th:Li}{p2:Pos}
theorem cY{r2:D->Option Int->Option Int->Mem->bF->Prop}(o:Uz X r2)(he:WE X e ta)(hl:WO X lo tl)(hu:WO X hi th):WE X (.Subscript e (.Slice lo hi none p2) pos) (V4 r2 ta tl th):=⟨II (o:=o) (he:=he.h) (hl:=hl.h) (hu:=hu.h)⟩
variable {x:Str}{p:Pos}{id T:String}
theorem aK{r2:List D->Mem->bF->Prop}(o:dr X (.builtin id) r2)(hg:Gl X x)(hm:X.mg x=none)(hv:bootBuiltins x=some (.builtin id))(ha:WA X (e::es) t)(hn:x≠"__name__":=by decide)(hdb:(x==("__debug__":Str))=false:=by decide)(he:starEach (e::es) X.env=(false,eval e X.env)::starEach es X.env:=by rfl)(hpl:(backTo pos (starEach es X.env)).any (·.1)=false:=by rfl):WE X (.Call (.Name x p) (e::es) [] pos) (QN r2 t):=⟨IL (o:=o) (hg:=hg) (hm:=hm) (hv:=hv) (ha:=ha.h) (hn:=hn) (hdb:=hdb) (he:=he) (hpl:=hpl)⟩
theorem lJ{r2:List D->Mem->bF->Prop}(o:dr X (.type T) r2)(hg:Gl X x)(hm:X.mg x=none)(hv:bootBuiltins x=some (.type T))(ha:WA X (e::es) t)(hn:x≠"__name__":=by decide)(hdb:(x==("__debug__":Str))=false:=by decide)(he:starEach (e::es) X.env=(false,eval e X.env)::starEach es X.env:=by rfl)(hpl:(backTo pos (starEach es X.env)).any (·.1)=false:=by rfl):WE X (.Call (.Name x p) (e::es) [] pos) (QN r2 t):=⟨IJ (o:=o) (hg:=hg) (hm:=hm) (hv:=hv) (ha:=ha.h) (hn:=hn) (hdb:=hdb) (he:=he) (hpl:=hpl)⟩
end
section
variable {X:Cx}{o e:Expr}{es:List Expr}{to:bX}{t:eT}{T id:String}{name:Str}{apos bC:Pos}
theorem zG{r2:D->List D->Mem->bF->Prop}(pa:PlainAttrs T)(slot:Slot T name id)(hty:typeOf (.builtin id)=pure (.type "method_descriptor"))(hm:QC X id r2)(ho:WE X o to)(ha:WA X (e::es) t)(hbase:attributeBase o name X.env (eval o X.env)=eval o X.env:=by rfl)(hfew:((backTo bC (starEach (e::es) X.env)).all (λ x=>!x.1)&&(backToKw bC (keywordEach [] X.env)).all (λ x=>x.1.isSome)
   &&decide ((e::es).length+([]:List Keyword).length+(if([]:List Keyword).isEmpty then 0 else 1) < 30))=true:=by rfl) (hline:(apos.endLine==bC.line)=true:=by rfl) (hs:starEach (e::es) X.env=(false,eval e X.env)::starEach es X.env:=by rfl) (hplain:(backTo bC (starEach es X.env)).any (·.1)=false:=by rfl):WE X (.Call (.Attribute o name apos) (e::es) [] bC) (V6 T r2 to t):=⟨Wi (pa:=pa) (slot:=slot) (hty:=hty) (hm:=hm) (ho:=ho.h) (ha:=ha.h) (hbase:=hbase) (hfew:=hfew) (hline:=hline) (hs:=hs) (hplain:=hplain)⟩
end
section
variable {X:Cx}{x:Str}{p pos:Pos}{e:Expr}{es:List Expr}{t:eT}{k j:Nat}{ps:List Str}{sp:gL}
theorem aY(d:cO X.prog X.w X.K X.mg X.base k x ps sp)(hr:bK k X.A)(hg:Gl X x)(ha:WA X (e::es) t)(hdb:(x==("__debug__":Str))=false:=by decide)(he:starEach (e::es) X.env=(false,eval e X.env)::starEach es X.env:=by rfl)(hpl:(backTo pos (starEach es X.env)).any (·.1)=false:=by rfl):WE X (.Call (.Name x p) (e::es) [] pos) (sD sp t):=⟨R_ (d:=d) (hr:=hr) (hg:=hg) (ha:=ha.h) (hdb:=hdb) (he:=he) (hpl:=hpl)⟩
end
section
variable {X:Cx}{st:Stmt}{rest:List Stmt}{t u:hZ}{te:bX}{e:Expr}{pos:Pos}
theorem bo:GV X [] CN:=⟨Iw⟩
theorem ak(h:WS X st t):GV X [st] t:=⟨Iv (h:=h.h)⟩
theorem af(h1:WS X st t)(h2:GV X rest u):GV X (st::rest) (Hs t u):=⟨Du (h1:=h1.h) (h2:=h2.h)⟩
theorem f'(he:WE X e te)(hs:swapsWith e none pos.line X.env=pure false:=by rfl):WS X (.Expr e pos) (CP te):=⟨Iz (he:=he.h) (hs:=hs)⟩
theorem aR(he:WE X e te):WS X (.Return (some e) pos) (MQ te):=⟨NT (he:=he.h)⟩
theorem bV{c:Expr}{a b:List Stmt}{tc:dX}(hc:WT X c tc)(ha:GV X a t)(hb:GV X b u):WS X (.If c a b pos) (MV tc t u):=⟨R3 (hc:=hc.h) (ha:=ha.h) (hb:=hb.h)⟩
theorem cv{i:Nat}{x:Str}(hN:X.N.Nodup)(hi:X.N[i]?=some x)(hx:Loc X.env.scope x)(hf:X.fn x=true\/X.env.scope.names.lookup x=some .local:=by first|exact .inl rfl|exact .inr rfl|assumption):WG X (.Name x pos) (hName i):=⟨IH (hN:=hN) (hi:=hi) (hx:=hx) (hf:=hf)⟩
theorem qo:VE X [] AW:=⟨IG⟩
theorem fA{e:Expr}{es:List Expr}{t:fX}{u:n_}(h1:WG X e t)(h2:VE X es u)(hs:(assignEach (e::es) X.env).map (·.2)=assign e X.env::(assignEach es X.env).map (·.2):=by rfl):VE X (e::es) (iG t u):=⟨Dx (h1:=h1.h) (h2:=h2.h) (hs:=hs)⟩
theorem vR{es:List Expr}{k:Nat}{t:n_}{n:Nat}(hc:X.calm=true)(h:VE X es t)(hn:(assignEach es X.env).length=n:=by rfl)(hst:(assignEach es X.env).findIdx? (·.1)=none:=by rfl):WG X (.Tuple es k pos) (AV n t):=⟨NX (hc:=hc) (h:=h.h) (hn:=hn) (hst:=hst)⟩
theorem gO{o i:Expr}{to ti:bX}{t:jO}(ho:WE X o to)(hi:WE X i ti)(hs:Gp X t)(ha:∀v,assign (.Subscript o i pos) X.env v=(do
   let ov <- holding [v] (eval o X.env)
   let iv <- holding [v,ov] (eval i X.env)
   standAt pos
   holding [v,ov,iv] (setItem ov iv v)
   release [v,ov,iv] []):=by intro _;rfl):WG X (.Subscript o i pos) (hSub to ti t):=⟨NY (ho:=ho.h) (hi:=hi.h) (hs:=hs) (ha:=ha)⟩
theorem gN{tg e:Expr}{g:fX}(he:WE X e te)(hg:WG X tg g)(hs:swapsWithSole [tg] e pos.line X.env=pure false:=by rfl)(hw:swappedStores [tg] e X.env=pure none:=by rfl)(h1:(assignEach [tg] X.env).map (·.2)=[assign tg X.env]:=by rfl):WS X (.Assign [tg] e pos) (tm te g):=⟨NV (he:=he.h) (hg:=hg.h) (hs:=hs) (hw:=hw) (h1:=h1)⟩
theorem aZ{i:Nat}{x:Str}{e:Expr}{pos':Pos}(hN:X.N.Nodup)(hi:X.N[i]?=some x)(hx:Loc X.env.scope x)(he:WE X e te)(hs:swapsWith e (some (.Name x pos')) pos.line X.env=pure false:=by rfl)(hf:X.fn x=true\/X.env.scope.names.lookup x=some .local:=by first|exact .inl rfl|exact .inr rfl|assumption):WS X (.Assign [.Name x pos'] e pos) (tm te (hName i)):=⟨NR (hN:=hN) (hi:=hi) (hx:=hx) (he:=he.h) (hs:=hs) (hf:=hf)⟩
end
section
variable {X:Cx}{tg l:Expr}{tl:bX}{ta:eT}{a b:Expr}{p pos:Pos}
theorem bg(hl:WE X l tl):WI X tg l (Pu tl):=⟨NW (hl:=hl.h)⟩
theorem cp(hg:Gl X "range")(hm:X.mg "range"=none)(ha:WA X [a] ta)(hs:starEach [a] X.env=[(false,eval a X.env)]:=by rfl):WI X tg (.Call (.Name "range" p) [a] [] pos) (EK ta):=⟨Ac (hg:=hg) (hm:=hm) (ha:=ha.h) (hs:=hs)⟩
end
section
variable {X:Cx}{tg iter:Expr}{wi:lZ}{g:fX}{tb:hZ}{body:List Stmt}{pos:Pos}
theorem dZ(hp:PassesOwn (model X.prog X.w) X.A X.env X.xe)(hc:X.calm=true)(hi:WI X tg iter wi)(hg:WG X tg g)(hb:GV X body tb)(hs:∀x,foldedSetIterable iter X.env x=pure x:=by intro _;rfl):WS X (.For tg iter body [] pos) (MW wi g tb):=⟨NU (hp:=hp) (hc:=hc) (hi:=hi.h) (hg:=hg.h) (hb:=hb.h) (hs:=hs)⟩
end
section
variable {X:Cx}{c:Expr}{tc:dX}{tb:hZ}{body:List Stmt}{pos:Pos}
theorem Cd(hp:PassesOwn (model X.prog X.w) X.A X.env X.xe)(hc:WT X c tc)(hb:GV X body tb):WS X (.While c body [] pos) (wg tc tb):=⟨Dv (hp:=hp) (hc:=hc.h) (hb:=hb.h)⟩
end
section
variable {X:Cx}{scope:Scope}{tgs:List Str}{fr:List Nat}{tg elt iter:Expr}{ifs:List Expr}{pos:Pos}{wi:lZ}{g:fX}{tt:dX}{te:bX}
theorem aX:Yb X [] mI:=⟨IE⟩
theorem qm{c:Expr}{t:dX}(h:WT X c t):Yb X [c] t:=⟨ID (h:=h.h)⟩
theorem aM{i:Nat}{x:Str}{ps:Pos}(h:∀cl C fp s H,PG (bI X scope cl tgs fr C fp s H) (.Name x ps) (dO i))(hi:i < tgs.length):Qv X scope tgs fr (.Name x ps) (hName i):=⟨He (h:=h) (hi:=hi)⟩
theorem ml{i j k:Nat}{x y:Str}{px py pt:Pos}(h:∀cl C fp s H,PG (bI X scope cl tgs fr C fp s H) (.Tuple [.Name x px,.Name y py] k pt) (Fu X.K 2 (jF (dO i) (jF (dO j) Ba))))(hi:i < tgs.length)(hj:j < tgs.length):Qv X scope tgs fr (.Tuple [.Name x px,.Name y py] k pt) (AV 2 (iG (hName i) (iG (hName j) AW))):=⟨Hd (h:=h) (hi:=hi) (hj:=hj)⟩
theorem iO(C:fh X scope tgs fr tg iter ifs elt wi g tt te)(hs:∀x,foldedSetIterable iter X.env x=pure x:=by intro _;rfl):WE X (.ListComp elt [⟨tg,iter,ifs,0⟩] scope pos) (tj wi g tt te tgs.length fr):=⟨Oi (C:=C.h) (hs:=hs)⟩
theorem cD{i:Nat}{y:Str}{py gQ:Pos}(hN:X.N.Nodup)(hiy:X.N[i]?=some y)(hy:Loc X.env.scope y)(C:fh X scope tgs fr tg iter ifs elt wi g tt te)(hsw:swapsWith (.ListComp elt [⟨tg,iter,ifs,0⟩] scope pos) (some (.Name y py)) gQ.line X.env=pure true:=by rfl)(hf:X.fn y=true\/X.env.scope.names.lookup y=some .local:=by first|exact .inl rfl|exact .inr rfl|assumption)(hs:∀x,foldedSetIterable iter X.env x=pure x:=by intro _;rfl):WS X (.Assign [.Name y py] (.ListComp elt [⟨tg,iter,ifs,0⟩] scope pos) gQ) (tm (tj wi g tt te tgs.length fr) (hName i)):=⟨wy (hN:=hN) (hiy:=hiy) (hy:=hy) (C:=C.h) (hsw:=hsw) (hf:=hf) (hs:=hs)⟩
variable {x:Str}{p:Pos}{id T:String}{bC:Pos}
theorem iN{r2 r3:List D->Mem->bF->Prop}(o:dr X (.builtin id) r2)(h3:jN r2 r3)(hg:Gl X x)(hm:X.mg x=none)(hv:bootBuiltins x=some (.builtin id))(C:fh X scope tgs fr tg iter ifs elt wi g tt te)(hn:x≠"__name__":=by decide)(hdb:(x==("__debug__":Str))=false:=by decide)(hs:∀x,foldedSetIterable iter X.env x=pure x:=by intro _;rfl):WE X (.Call (.Name x p) [.ListComp elt [⟨tg,iter,ifs,0⟩] scope bC] [] pos) (zU r3 wi g tt te tgs.length fr):=⟨Oc (o:=o) (h3:=h3) (hg:=hg) (hm:=hm) (hv:=hv) (C:=C.h) (hn:=hn) (hdb:=hdb) (hs:=hs)⟩
theorem fm{r2 r3:List D->Mem->bF->Prop}(o:dr X (.type T) r2)(h3:jN r2 r3)(hg:Gl X x)(hm:X.mg x=none)(hv:bootBuiltins x=some (.type T))(C:fh X scope tgs fr tg iter ifs elt wi g tt te)(hn:x≠"__name__":=by decide)(hdb:(x==("__debug__":Str))=false:=by decide)(hs:∀x,foldedSetIterable iter X.env x=pure x:=by intro _;rfl):WE X (.Call (.Name x p) [.ListComp elt [⟨tg,iter,ifs,0⟩] scope bC] [] pos) (zU r3 wi g tt te tgs.length fr):=⟨Oa (o:=o) (h3:=h3) (hg:=hg) (hm:=hm) (hv:=hv) (C:=C.h) (hn:=hn) (hdb:=hdb) (hs:=hs)⟩
variable {o:Expr}{to:bX}{name:Str}{apos:Pos}
theorem Mp{r2 r3:D->List D->Mem->bF->Prop}(pa:PlainAttrs T)(slot:Slot T name id)(hty:typeOf (.builtin id)=pure (.type "method_descriptor"))(hm:QC X id r2)(h3:xH r2 r3)(ho:WE X o to)(C:fh X scope tgs fr tg iter ifs elt wi g tt te)(hs:∀x,foldedSetIterable iter X.env x=pure x:=by intro _;rfl)(hbase:attributeBase o name X.env (eval o X.env)=eval o X.env:=by rfl)(hfew:((backTo pos (starEach [.ListComp elt [⟨tg,iter,ifs,0⟩] scope bC] X.env)).all (λ x=>!x.1)&&(backToKw pos (keywordEach [] X.env)).all (λ x=>x.1.isSome)
   &&decide (([.ListComp elt [⟨tg,iter,ifs,0⟩] scope bC]:List Expr).length+([]:List Keyword).length+(if([]:List Keyword).isEmpty then 0 else 1) < 30))=true:=by rfl) (hline:(apos.endLine==pos.line)=true:=by rfl):WE X (.Call (.Attribute o name apos) [.ListComp elt [⟨tg,iter,ifs,0⟩] scope bC] [] pos) (CK T r3 to wi g tt te tgs.length fr):=⟨Ob (pa:=pa) (slot:=slot) (hty:=hty) (hm:=hm) (h3:=h3) (ho:=ho.h) (C:=C.h) (hs:=hs) (hbase:=hbase) (hfew:=hfew) (hline:=hline)⟩
end
theorem xS{X:Cx}{es:List Expr}{zs:List Str}(h:strsOf es=some zs):WA X es (yd zs):=⟨yk h⟩
end L4
namespace L4
open PySem PySem.Spec L2 L3
section
variable {P:Program}{w:World}{K:O8}{mg:Str->Option Value}{base:Heap}
theorem kG{x qual:Str}{st:Stmt}{f:Addr}{fd:FuncData}{N ps:List Str}{k:Nat}{sp:gL}(F:dU K x qual st f fd)(S:aH N ps (ai st))(len:∀ds M Q,sp ds M Q->ds.length=ps.length) (fP:∀(bT:Value) (A:Around) (outer:List Env) (s:Shared) (H:Hp) (E:XK) (ds:List D) (M:Mem) (Q:bF),bK k (A.deeper (PyProof.Rows.envOfC qual (ai st) s.heap.objs.size f bT))->sp ds M Q->
   ∃t,GV (oQ eS P w K mg base N qual (ai st) f bT A outer s H E).sx (ck st) t/\t {nx:=λ _ M'=>fin2 Q .bu M',rt:=fin2 Q} (gg N ds) M):bx P w K mg base eS (k+1) f fd ps (cI K sp):=
 Z7 F S len λ bT A outer s H E ds M Q hr h=>let⟨t,a,b⟩:=fP bT A outer s H E ds M Q hr h;⟨t,a.h,b⟩
end
end L4
namespace L5
open PySem PySem.W PyProof.Rows
section
variable (n:Nat)(lt:Nat->Nat->Bool)
def kw{α:Type}:KasT α->(α->Prop)->Prop
 | .ret a,Q=>Q a
 | .ask i j k,Q=>i < n/\j < n/\kw (k (lt i j)) Q
variable {n lt}
theorem ir{α β:Type}{f:α->KasT β}{Q:β->Prop}:∀{t:KasT α},kw n lt t (λ a=>kw n lt (f a) Q)->kw n lt (t.bind f) Q
 | .ret a,h=>h
 | .ask i j k,h=>⟨h.1,h.2.1,ir (t:=k (lt i j)) h.2.2⟩
def pg(p:Array Nat)(i:Nat):Nat:=p.getD i 0
theorem ju(p:Array Nat)(i:Nat):pg p i=(p[i]?).getD 0:=by unfold pg;rw[Array.getD_eq_getD_getElem?]
def Pm(n:Nat)(p:Array Nat):Prop:=p.Perm (List.toArray (List.range n))
theorem Pm.size {p:Array Nat}(h:Pm n p):p.size=n:=by have:=Array.Perm.size_eq h;simpa using this
theorem Pm.below {p:Array Nat}(h:Pm n p)(i:Nat)(hn:0 < n):pg p i < n:=by
 rw[ju];cases e:p[i]? with
 |none=>exact hn
 |some x=>have hm:x∈p:=Array.mem_of_getElem? e;have:=(Array.Perm.mem_iff h (a:=x)).mp hm;simpa using this
theorem mS{p:Array Nat}{i j:Nat}(hj:j<=p.size)(k:Nat):pg (kas_rev p i j) k=if i<=k/\k < j then pg p (i+j - 1 - k)else pg p k:=by
 rw[ju];unfold kas_rev;rw[getElem?_mirror_all hj k];split
 ·rw[ju]
 ·rw[ju]
theorem Pm.rev {p:Array Nat}(h:Pm n p)(i j:Nat):Pm n (kas_rev p i j):=Array.Perm.trans (mirror_perm _ _ _ _) h
theorem DM{p:Array Nat}{k l:Nat}(hk:k < p.size)(hl:l<=k)(j:Nat):pg (bubble p k (k - l)) j=if j=l then pg p k else if l < j/\j<=k then pg p (j - 1)else pg p j:=by
 have e0:k - (k - l)=l:=by omega
 rw[ju,getElem?_bubble hk (k - l) (by omega) j,e0];by_cases h1:j=l
 ·rw[O6 h1,O6 h1,ju]
 ·rw[O7 h1,O7 h1];by_cases h2:l < j/\j<=k
  ·rw[O6 h2,O6 h2,ju]
  ·rw[O7 h2,O7 h2,ju]
theorem Pm.bub {p:Array Nat}(h:Pm n p)(k d:Nat):Pm n (bubble p k d):=Array.Perm.trans (bubble_perm _ _ _) h
structure Ord(lt:Nat->Nat->Bool):Prop where
 BA:∀a b,lt a b=true->lt b a=false
 tr:∀a b c,lt a b=false->lt b c=false->lt a c=false
abbrev le(lt:Nat->Nat->Bool)(a b:Nat):Prop:=lt b a=false
theorem Ord.refl (O:Ord lt)(a:Nat):le lt a a:=by
 show lt a a=false;cases e:lt a a with
 |false=>rfl
 |true=>have:=O.BA a a e;rw[e]at this;cases this
theorem Ord.trans (O:Ord lt){a b c:Nat}(h1:le lt a b)(h2:le lt b c):le lt a c:=O.tr c b a h2 h1
def Up(lt:Nat->Nat->Bool)(p:Array Nat)(m:Nat):Prop:=∀i j,i<=j->j < m->le lt (pg p i) (pg p j)
def Dn(lt:Nat->Nat->Bool)(p:Array Nat)(m:Nat):Prop:=∀i j,i<=j->j < m->le lt (pg p j) (pg p i)
def Ev(lt:Nat->Nat->Bool)(a b:Nat):Prop:=le lt a b/\le lt b a
theorem Ord.TY (O:Ord lt){a b c:Nat}(h:Ev lt a b)(q:Ev lt b c):Ev lt a c:=⟨O.trans h.1 q.1,O.trans q.2 h.2⟩
theorem Ev.sym {a b:Nat}(h:Ev lt a b):Ev lt b a:=⟨h.2,h.1⟩
theorem Up.one (O:Ord lt)(p:Array Nat):Up lt p 1:=λ i j h q=>by
 have:i=j:=by omega
 subst this;exact O.refl _
theorem Up.next (O:Ord lt){p:Array Nat}{m:Nat}(h:Up lt p m)(hm:1<=m)(q:le lt (pg p (m - 1)) (pg p m)):Up lt p (m+1):=λ i j oK hj=>by
 by_cases e:j=m
 ·subst e;by_cases e2:i=j
  ·subst e2;exact O.refl _
  ·exact O.trans (h i (j - 1) (by omega) (by omega)) q
 ·exact h i j oK (by omega)
theorem Dn.next (O:Ord lt){p:Array Nat}{m:Nat}(h:Dn lt p m)(hm:1<=m)(q:le lt (pg p m) (pg p (m - 1))):Dn lt p (m+1):=λ i j oK hj=>by
 by_cases e:j=m
 ·subst e;by_cases e2:i=j
  ·subst e2;exact O.refl _
  ·exact O.trans q (h i (j - 1) (by omega) (by omega))
 ·exact h i j oK (by omega)
theorem Dn.ev (O:Ord lt){p p':Array Nat}{m:Nat}(h:Dn lt p m)(e:∀k,k < m->Ev lt (pg p' k) (pg p k)):Dn lt p' m:=λ i j oK hj=>
 O.trans (e j hj).1 (O.trans (h i j oK hj) (e i (by omega)).2)
theorem Up.Su {p:Array Nat}{m:Nat}(hm:m<=p.size)(h:Dn lt p m):Up lt (kas_rev p 0 m) m:=λ i j oK hj=>by rw[mS hm,mS hm,O6 ⟨N3 _,by omega⟩,O6 ⟨N3 _,hj⟩];exact h _ _ (by omega) (by omega)
theorem xh(O:Ord lt){p:Array Nat}{i j:Nat}(hj:j<=p.size)(he:∀k,i<=k->k < j->Ev lt (pg p k) (pg p (j - 1)))(k:Nat):Ev lt (pg (kas_rev p i j) k) (pg p k):=by
 rw[mS hj];split
 case isTrue h=>exact O.TY (he _ (by omega) (by omega)) (he k h.1 h.2).sym
 case isFalse h=>exact⟨O.refl _,O.refl _⟩
theorem wX(O:Ord lt){p:Array Nat}(hp:Pm n p){Q:Nat->Prop}:∀(f a:Nat),1<=a->a+f<=n->Up lt p a->(∀m,a<=m->m<=a+f->Up lt p m->(m < a+f->lt (pg p m) (pg p (m - 1))=true)->Q m)->kw n lt (kas_asc p f a) Q
 |0,a,h1,hn,hu,hq=>hq a (L8 _) (L8 _) hu λ h=>absurd h (by omega)
 |f+1,a,h1,hn,hu,hq=>by
  refine⟨hp.below a (by omega),hp.below (a - 1) (by omega),?_⟩;show kw n lt (if lt (pg p a) (pg p (a - 1))=true then KasT.ret a else kas_asc p f (a+1)) Q;cases e:lt (pg p a) (pg p (a - 1))with
  |true=>rw[O6 rfl];exact hq a (L8 _) (by omega) hu λ _=>e
  |false=>rw[O7 (by simp)];exact wX O hp f (a+1) (by omega) (by omega) (hu.next O h1 e) λ m m1 m2 m3 m4=>hq m (by omega) (by omega) m3 λ q=>m4 (by omega)
theorem lU(O:Ord lt){Q:Array Nat×Nat×Nat->Prop}(BI:0 < n):∀(f:Nat) (p:Array Nat) (m q:Nat),Pm n p->1<=m->m+f<=n->q+1<=m->Dn lt p m->(∀k,m - (q+1)<=k->k < m->Ev lt (pg p k) (pg p (m - 1)))-> (∀p' m' q',Pm n p'->m<=m'->m'<=m+f->q'+1<=m'->Dn lt p' m'->(∀k,m' - (q'+1)<=k->k < m'->Ev lt (pg p' k) (pg p' (m' - 1)))->Q (p',m',q'))->kw n lt (kas_desc f p m q) Q
 |0,p,m,q,hp,h1,hf,Vq,hd,he,hQ=>hQ p m q hp (L8 _) (L8 _) Vq hd he
 |f+1,p,m,q,hp,h1,hf,Vq,hd,he,hQ=>by
  refine⟨hp.below m BI,hp.below (m - 1) BI,?_⟩;show kw n lt (if lt (pg p m) (pg p (m - 1))=true then(if q > 0 then kas_desc f (kas_rev p (m - (q+1)) m) (m+1) 0 else kas_desc f p (m+1) 0)else KasT.ask (pg p (m - 1)) (pg p m) λ d=>if d=true then KasT.ret (p,m,q)else kas_desc f p (m+1) (q+1)) Q;have hz:=hp.size;cases e:lt (pg p m) (pg p (m - 1))with
  |true=>
   rw[O6 rfl];by_cases hq:q > 0
   ·rw[O6 hq];have ev:=xh O (p:=p) (i:=m - (q+1)) (j:=m) (by omega) he;have em:pg (kas_rev p (m - (q+1)) m) m=pg p m:=by rw[mS (by omega),O7 (by omega)]
    refine lU O BI f _ (m+1) 0 (hp.rev _ _) (by omega) (by omega) (by omega) ((hd.ev O λ k _=>ev k).next O h1 ?_) (λ k k1 k2=>?_) λ p' m' q' a b c d g i=>hQ p' m' q' a (by omega) (by omega) d g i
    ·rw[em];exact O.trans (O.BA _ _ e) (ev (m - 1)).2
    ·have:k=m:=by omega
     subst this;exact⟨O.refl _,O.refl _⟩
   ·rw[O7 hq];refine lU O BI f _ (m+1) 0 hp (by omega) (by omega) (by omega) (hd.next O h1 (O.BA _ _ e)) (λ k k1 k2=>?_) λ p' m' q' a b c d g i=>hQ p' m' q' a (by omega) (by omega) d g i;have:k=m:=by omega
    subst this;exact⟨O.refl _,O.refl _⟩
  |false=>
   rw[O7 (by simp)];refine⟨hp.below (m - 1) BI,hp.below m BI,?_⟩;cases e2:lt (pg p (m - 1)) (pg p m)with
   |true=>exact hQ p m q hp (L8 _) (by omega) Vq hd he
   |false=>
    refine lU O BI f p (m+1) (q+1) hp (by omega) (by omega) (by omega) (hd.next O h1 e2) (λ k k1 k2=>?_) λ p' m' q' a b c d g i=>hQ p' m' q' a (by omega) (by omega) d g i;have hE:Ev lt (pg p (m - 1)) (pg p m):=⟨e,e2⟩;by_cases ek:k=m
    ·subst ek;exact⟨O.refl _,O.refl _⟩
    ·exact O.TY (he k (by omega) (by omega)) hE
theorem yC(O:Ord lt){p:Array Nat}(hp:Pm n p){m:Nat}(h1:1<=m)(hm:m<=n)(hd:Dn lt p m){Q:Nat×Array Nat->Prop}(hQ:∀m' p',Pm n p'->1<=m'->m'<=n->Up lt p' m'->Q (m',p')):kw n lt (kas_tail3 m n p) Q:=by unfold kas_tail3;refine ir (wX O (hp.rev _ _) (n - m) m h1 (by omega) (Up.Su (by rw[hp.size];exact hm) hd) λ m' a b c _=>?_);exact hQ m' _ (hp.rev _ _) (by omega) (by omega) c
theorem ud(O:Ord lt){p:Array Nat}(hp:Pm n p){m:Nat}(h1:1<=m)(hm:m+1<=n)(hd:Dn lt p (m+1)){Q:Nat×Array Nat->Prop}(hQ:∀m' p',Pm n p'->1<=m'->m'<=n->Up lt p' m'->Q (m',p')):kw n lt (kas_descPart m n p) Q:=by
 unfold kas_descPart;refine ir (lU O (by omega) (n - (m+1)) p (m+1) 0 hp (by omega) (by omega) (by omega) hd (λ k k1 k2=>?_) λ p' m' q' a b c d g i=>?_)
 ·have:k=m:=by omega
  subst this;exact⟨O.refl _,O.refl _⟩
 ·show kw n lt (if q' > 0 then kas_tail3 m' n (kas_rev p' (m' - (q'+1)) m')else kas_tail3 m' n p') Q;by_cases hq:q' > 0
  ·rw[O6 hq];have hz:=a.size;exact yC O (a.rev _ _) (by omega) (by omega) (g.ev O λ k _=>xh O (by omega) i k) hQ
  ·rw[O7 hq];exact yC O a (by omega) (by omega) g hQ
theorem EC(O:Ord lt){p:Array Nat}(hp:Pm n p)(hn:2<=n){Q:Nat×Array Nat->Prop}(hQ:∀m' p',Pm n p'->1<=m'->m'<=n->Up lt p' m'->Q (m',p')):kw n lt (kas_count n p) Q:=by
 unfold kas_count;refine ir (wX O hp (n - 1) 1 (L8 _) (by omega) (Up.one O p) λ m a b c d=>?_);have hz:=hp.size;by_cases e1:(m==n)=true
 ·rw[O6 e1];exact hQ m p hp a (by omega) c
 ·rw[O7 e1];have fW:m≠n:=λ q=>e1 (by rw[q];exact beq_self_eq_true _);have hl:=d (by omega);by_cases e2:m > 1
  ·rw[O6 e2];refine⟨hp.below 0 (by omega),hp.below (m - 1) (by omega),?_⟩;show kw n lt (if lt (pg p 0) (pg p (m - 1))=true then KasT.ret (m,p)else kas_descPart m n (kas_rev p 0 m)) Q;cases e3:lt (pg p 0) (pg p (m - 1))with
   |true=>rw[O6 rfl];exact hQ m p hp a (by omega) c
   |false=>
    rw[O7 (by simp)];have uB:∀k,0<=k->k < m->Ev lt (pg p k) (pg p (m - 1)):=λ k _ hk=>⟨c k (m - 1) (by omega) (by omega),O.trans e3 (c 0 k (by omega) hk)⟩;have ev:=xh O (p:=p) (i:=0) (j:=m) (by omega) uB;have em:pg (kas_rev p 0 m) m=pg p m:=by rw[mS (by omega),O7 (by omega)]
    refine ud O (hp.rev _ _) a (by omega) (Dn.next O (λ i j oK hj=>?_) a ?_) hQ
    ·exact O.trans (ev j).1 (O.trans (O.trans (uB j (N3 _) hj).1 (uB i (N3 _) (by omega)).2) (ev i).2)
    ·rw[em];exact O.trans (O.BA _ _ hl) (ev (m - 1)).2
  ·rw[O7 e2];have bR:m=1:=by omega
   subst bR;refine ud O hp (L8 _) (by omega) (Dn.next O (λ i j oK hj=>?_) (L8 _) (O.BA _ _ hl)) hQ;have:i=j:=by omega
   subst this;exact O.refl _
theorem ng(O:Ord lt){p:Array Nat}(hp:Pm n p){k:Nat}(hk:k < n){Q:Nat->Prop}(hQ:∀l,l<=k->(∀i,i < l->le lt (pg p i) (pg p k))->(∀i,l<=i->i < k->lt (pg p k) (pg p i)=true)->Q l)(hu:Up lt p k):∀(f l r:Nat),l<=r->r<=k->r - l<=f->(∀i,i < l->le lt (pg p i) (pg p k))->(∀i,r<=i->i < k->lt (pg p k) (pg p i)=true)->kw n lt (kas_place p k f l r) Q
 |0,l,r,h1,h2,h3,h4,h5=>by
  have:r=l:=by omega
  subst this;exact hQ r h2 h4 h5
 |f+1,l,r,h1,h2,h3,h4,h5=>by
  unfold kas_place;by_cases e:l ≥ r
  ·rw[O6 e];have:r=l:=by omega
   subst this;exact hQ r h2 h4 h5
  ·rw[O7 e];refine⟨hp.below k (by omega),hp.below _ (by omega),?_⟩;show kw n lt (if lt (pg p k) (pg p ((l+r) / 2))=true then kas_place p k f l ((l+r) / 2)else kas_place p k f ((l+r) / 2+1) r) Q;cases e2:lt (pg p k) (pg p ((l+r) / 2))with
   |true=>
    rw[O6 rfl];refine ng O hp hk hQ hu f l _ (by omega) (by omega) (by omega) h4 λ i i1 i2=>?_;cases e3:lt (pg p k) (pg p i)with
    |true=>rfl
    |false=>have:=O.tr _ _ _ e3 (hu ((l+r) / 2) i i1 i2);rw[e2]at this;cases this
   |false=>rw[O7 (by simp)];exact ng O hp hk hQ hu f _ r (by omega) (by omega) (by omega) (λ i hi=>O.trans (hu i ((l+r) / 2) (by omega) (by omega)) e2) h5
theorem ED(O:Ord lt){Q:Array Nat->Prop}(hQ:∀p,Pm n p->Up lt p n->Q p):∀(f:Nat) (p:Array Nat) (k:Nat),Pm n p->k+f=n->Up lt p k->kw n lt (kas_bin f p k) Q
 |0,p,k,hp,hf,hu=>hQ p hp (by rw[<- hf];exact hu)
 |f+1,p,k,hp,hf,hu=>by
  unfold kas_bin;have hz:=hp.size;refine ir (ng O hp (by omega) (λ l hl h4 h5=>?_) hu k 0 k (N3 _) (L8 _) (by omega) (λ i hi=>absurd hi (by omega)) λ i a b=>absurd b (by omega));refine ED O hQ f _ (k+1) (hp.bub _ _) (by omega) λ i j oK hj=>?_;rw[DM (by omega) hl,DM (by omega) hl];by_cases e1:i=l
  ·rw[O6 e1];by_cases e2:j=l
   ·rw[O6 e2];exact O.refl _
   ·rw[O7 e2,O6 ⟨by omega,by omega⟩];exact O.BA _ _ (h5 (j - 1) (by omega) (by omega))
  ·rw[O7 e1];by_cases e2:j=l
   ·rw[O6 e2,O7 (by omega)];exact h4 i (by omega)
   ·rw[O7 e2];by_cases e3:l < i/\i<=k
    ·rw[O6 e3,O6 ⟨by omega,by omega⟩];exact hu _ _ (by omega) (by omega)
    ·rw[O7 e3];by_cases e4:l < j/\j<=k
     ·rw[O6 e4];exact hu _ _ (by omega) (by omega)
     ·rw[O7 e4];exact hu _ _ (by omega) (by omega)
theorem JS(O:Ord lt)(hn:2<=n){Q:Array Nat->Prop}(hQ:∀p,Pm n p->Up lt p n->Q p):kw n lt (kas_sort n) Q:=by
 unfold kas_sort;refine ir (EC O (Array.Perm.refl _) hn λ m p hp h1 h2 hu=>?_);show kw n lt (if m < n then kas_bin (n - max m 1) p (max m 1)else KasT.ret p) Q;have hm:max m 1=m:=by omega
 rw[hm];by_cases e:m < n
 ·rw[O6 e];exact ED O hQ (n - m) p m hp (by omega) hu
 ·rw[O7 e];have:m=n:=by omega
  subst this;exact hQ p hp hu
end
end L5
namespace L5
open PySem
def bU(T:String)(h:Heap)(j l:Addr)(i:Nat):Prop:=∃o,h.get? j=some o/\o.cls=.type T/\o.data=.fields #[.ref l,.int i 0]
theorem bU.keep {T:String}{h h':Heap}{j l:Addr}{i:Nat}(x:bU T h j l i)(k:∀o,h.get? j=some o->h'.get? j=some o):bU T h' j l i:=let⟨o,a,r⟩:=x;⟨o,k o a,r⟩
structure NK(T:String)(Sq:Heap->Addr->Array Value->Prop):Prop where
 keep:∀{h h':Heap} {l:Addr} {vs:Array Value},Sq h l vs->(∀o,h.get? l=some o->h'.get? l=some o)->Sq h' l vs
 start:∀{prog:Program} {w:World} {A:Around} {E:Value->Shared->Prop} {s:Shared} {l:Addr} {vs:Array Value} {Q:Value->Shared->Prop},Sq s.heap l vs->
  Q (.ref s.heap.objs.size) {s with heap:=s.heap.push {cls:=.type T,data:=.fields #[.ref l,.int 0 0]}}->wpAny (model prog w) A (pyIter (.ref l)) Q E s
 item:∀{prog:Program} {w:World} {A:Around} {E:Value->Shared->Prop} {s:Shared} {j l:Addr} {i:Nat} {vs:Array Value} {x:Value} {Q:Value->Shared->Prop},bU T s.heap j l i->Sq s.heap l vs->vs[i]?=some x->
  (∀h',bU T h' j l (i+1)->Heap.SameBut j s.heap h'->Q x {s with heap:=h'})->wpAny (model prog w) A (Builtin.SmallTypes.nextOf (.ref j)) Q E s
 stop:∀{prog:Program} {w:World} {A:Around} {E:Value->Shared->Prop} {s:Shared} {j l:Addr} {i:Nat} {vs:Array Value} {Q:Value->Shared->Prop},A.handled=none->bU T s.heap j l i->Sq s.heap l vs->vs[i]?=none->
  (∀h' e,Heap.ExtBut j s.heap h'->(∃o,h'.get? e=some o/\o.cls=.type "StopIteration")->E (.ref e) {s with heap:=h'})->wpAny (model prog w) A (Builtin.SmallTypes.nextOf (.ref j)) Q E s
theorem JA:NK "list_iterator" Heap.IsList where
 keep:=λ x k=>x.at k
 start:=λ x q=>y8 x q
 item:=λ a b c d=>wpAny_nextOf_list_item a b c d
 stop:=λ a b c d e=>wpAny_nextOf_list_end a b c d e
section
variable {prog:Program}{w:World}{A:Around}{E:Value->Shared->Prop}{s:Shared}
theorem O_{j q:Addr}{i:Nat}{vs:Array Value}{x:Value}{Q:Value->Shared->Prop}(ji:s.heap.IsTupleIter j q i)(jt:s.heap.IsTuple q vs)(jx:vs[i]?=some x) (k:∀h',h'.IsTupleIter j q (i+1)->Heap.SameBut j s.heap h'->Q x {s with heap:=h'}):wpAny (model prog w) A (Builtin.SmallTypes.nextOf (.ref j)) Q E s:=by obtain⟨ob,hb,kc,kd⟩:=id ji;obtain⟨ot,ht,_,nt,dt⟩:=jt;unfold Builtin.SmallTypes.nextOf;refine N6 (j3 (name:=Str.ofString "__next__") ji.typeIs c5 (A9 c5 ji.typeIs F.entry_tuple_iterator_next ?_ (F.args_tuple_iterator_next_1 _)));refine N6 (m:=field (.ref j) 0) (N4 hb kd (x:=.ref q) rfl ?_);show wpAny _ _ (if(Value.ref q==Value.none)=true then _ else _) _ _ s;rw[O7 (show(Value.ref q==Value.none)≠true from u3)];refine N6 (m:=field (.ref j) 1) (N4 hb kd (x:=.int i 0) rfl ?_);refine N6 (m:=seqItems? (.ref q)) (E8 ht dt ?_);simp only[y3,jx];refine N6 (G6 hb kd (by simp) (N7 ⟨x,rfl,N7 (k _ ?_ (o8 ..))⟩));refine⟨_,k7 _ hb (l6 (x4 kd _)),(Obj.cls_mapFields ..).trans kc,?_⟩;rw[x4 kd];simp[rawInt]
theorem MJ{j q:Addr}{i:Nat}{vs:Array Value}{Q:Value->Shared->Prop}(hA:A.handled=none)(ji:s.heap.IsTupleIter j q i)(jt:s.heap.IsTuple q vs)(jx:vs[i]?=none) (k:∀h' e,Heap.ExtBut j s.heap h'->(∃o,h'.get? e=some o/\o.cls=.type "StopIteration")->E (.ref e) {s with heap:=h'}):wpAny (model prog w) A (Builtin.SmallTypes.nextOf (.ref j)) Q E s:=by obtain⟨ob,hb,kc,kd⟩:=id ji;obtain⟨ot,ht,_,nt,dt⟩:=jt;unfold Builtin.SmallTypes.nextOf;refine N6 (j3 (name:=Str.ofString "__next__") ji.typeIs c5 (A9 c5 ji.typeIs F.entry_tuple_iterator_next ?_ (F.args_tuple_iterator_next_1 _)));refine N6 (m:=field (.ref j) 0) (N4 hb kd (x:=.ref q) rfl ?_);show wpAny _ _ (if(Value.ref q==Value.none)=true then _ else _) _ _ s;rw[O7 (show(Value.ref q==Value.none)≠true from u3)];refine N6 (m:=field (.ref j) 1) (N4 hb kd (x:=.int i 0) rfl ?_);refine N6 (m:=seqItems? (.ref q)) (E8 ht dt ?_);simp only[y3,jx];refine N6 (N8 (N6 (G6 hb kd (by simp) ?_)));refine N6 (m:=newExc (.type "StopIteration") []) ?_;simp only[newExc,newTuple];refine N6 (y4 (N6 (m:=firstArgMember _ _) (wpAny_of_eq (a:=Value.none) (by first|rfl|(simp only[firstArgMember];rfl)) (y4 ?_ (by size_fits)))) (by size_fits));simp only[raiseNew];refine N6 (wpAny_handled ?_);have hB:A.in1.handled=none:=hA;rw[hB];exact N6 (N7 (wpAny_throw (k _ _ (((o8 ..).extBut.push _).push _) ⟨_,q8 _ rfl,rfl⟩)))
end
theorem tT:NK "tuple_iterator" Heap.IsTuple where
 keep:=λ x k=>let⟨o,a,r⟩:=x;⟨o,k o a,r⟩
 start:=λ x q=>wpAny_pyIter_tuple x q
 item:=λ a b c d=>O_ a b c d
 stop:=λ a b c d e=>MJ a b c d e
structure Za(z u v a b l m:Addr):Prop where
 uz:u≠z
 vz:v≠z
 az:a≠z
 bz:b≠z
 uv:u≠v
 ua:u≠a
 ub:u≠b
 va:v≠a
 vb:v≠b
 ab:a≠b
 lz:l≠z
 lv:l≠v
 la:l≠a
 lb:l≠b
 mz:m≠z
 mv:m≠v
 ma:m≠a
 mb:m≠b
section
variable {prog:Program}{w:World}{A:Around}{E:Value->Shared->Prop}{s:Shared}{T1 T2:String}{S1 S2:Heap->Addr->Array Value->Prop}
theorem zy{z u v a b l m:Addr}{i:Nat}{xs ys:Array Value}{x y c d:Value}{Q:Value->Shared->Prop}(k1:NK T1 S1)(k2:NK T2 S2)(D:Za z u v a b l m) (hz:IsZip s.heap z u v .none) (hu:IsPair s.heap u (.ref a) (.ref b)) (hv:IsPair s.heap v c d) (ha:bU T1 s.heap a l i) (hb:bU T2 s.heap b m i) (hl:S1 s.heap l xs) (hm:S2 s.heap m ys) (hx:xs[i]?=some x) (hy:ys[i]?=some y) (k:∀h',IsZip h' z u v (rawInt s.heap.objs.size)->IsPair h' v x y->bU T1 h' a l (i+1)->bU T2 h' b m (i+1)->IsPair h' s.heap.objs.size x y->h'.objs.size=s.heap.objs.size+1->
   (∀f o,f≠z->f≠v->f≠a->f≠b->s.heap.get? f=some o->h'.get? f=some o)->Q (.ref s.heap.objs.size) {s with heap:=h'}):
  wpAny (model prog w) A (Builtin.«zip.__next__» ⟨[.ref z],[]⟩) (λ fin s'=>∃v,fin=.done (.ret v)/\Q v s') E s:=by
 refine N6 (m:=field (.ref z) 2) (N4 hz rfl (x:=.bool false) rfl ?_);refine N6 (m:=field (.ref z) 3) (N4 hz rfl (x:=.ref u) rfl ?_);refine N6 (E8 hu rfl ?_);refine N6 (m:=Builtin.SmallTypes.ownedTupleIsFree (.ref z)) ?_;unfold Builtin.SmallTypes.ownedTupleIsFree;refine N6 (m:=field (.ref z) 0) (N4 hz rfl (x:=.none) rfl (N7 ?_));simp only[O5];refine N6 (N8 (N6 (N4 hz rfl (x:=.ref v) rfl (N6 (u7 hz (by simp) λ g1 z1 s1=>?_)))));have z1:IsZip g1 z u v .ellipsis:=z1;refine N6 ?_;simp only[zipIdx_cons,zipIdx_nil,E4,forIn_nil];refine N6 (N6 (wpAny_onRaise (N6 (m:=Builtin.SmallTypes.nextOf (.ref a)) (k1.item (ha.keep λ o e=>s1.extBut _ _ D.az e) (k1.keep hl λ o e=>s1.extBut _ _ D.lz e) hx λ g2 a2 s2=>N7 ?_))));have v2:IsPair g2 v c d:=s2.extBut _ _ D.va (s1.extBut _ _ D.vz hv);refine N6 (E8 v2 rfl (N6 (wpAny_updateSeq_pair v2 λ g3 v3 s3=>N6 (N5 (N7 ?_)))));have v3:IsPair g3 v x d:=v3;have nj:∀f o,f≠z->f≠v->f≠a->s.heap.get? f=some o->g3.get? f=some o:=λ f o n1 n2 n3 e=>s3.extBut _ _ n2 (s2.extBut _ _ n3 (s1.extBut _ _ n1 e));refine N6 (N6 (wpAny_onRaise (N6 (m:=Builtin.SmallTypes.nextOf (.ref b)) (k2.item (hb.keep λ o e=>nj _ _ D.bz D.vb.symm D.ab.symm e) (k2.keep hm λ o e=>nj _ _ D.mz D.mv D.ma e) hy λ g4 b4 s4=>N7 ?_))));have v4:IsPair g4 v x d:=s4.extBut _ _ D.vb v3;refine N6 (E8 v4 rfl (N6 (wpAny_updateSeq_pair v4 λ g5 v5 s5=>N6 (N5 (N7 (N7 ?_))))));have v5:IsPair g5 v x y:=v5;refine N6 (E8 v5 rfl (N6 (wpAny_newTuple ?_)));have ez:g5.objs.size=s.heap.objs.size:=by rw[s5.1,s4.1,s3.1,s2.1,s1.1]
 have SS:∀f o,f≠z->f≠v->f≠a->f≠b->s.heap.get? f=some o->g5.get? f=some o:=λ f o n1 n2 n3 n4 e=>s5.extBut _ _ n2 (s4.extBut _ _ n4 (nj f o n1 n2 n3 e));have z5:IsZip g5 z u v .ellipsis:=s5.extBut _ _ D.vz.symm (s4.extBut _ _ D.bz.symm (s3.extBut _ _ D.vz.symm (s2.extBut _ _ D.az.symm z1)));have a5:bU T1 g5 a l (i+1):=a2.keep λ o e=>s5.extBut _ _ D.va.symm (s4.extBut _ _ D.ab (s3.extBut _ _ D.va.symm e));have b5:bU T2 g5 b m (i+1):=b4.keep λ o e=>s5.extBut _ _ D.vb.symm e;have YD:z < g5.objs.size:=K2 z5;refine N6 (m:=Builtin.SmallTypes.ownedTupleHandOut (.ref z) (.ref g5.objs.size)) ?_;unfold Builtin.SmallTypes.ownedTupleHandOut;have z6:IsZip (g5.push {cls:=.type "tuple",data:=.seq #[x,y]}) z u v .ellipsis:=j7 _ z5;refine N6 (u7 z6 (by simp) λ g7 z7 s7=>u7 (show IsZip g7 z u v (rawInt g5.objs.size)from z7) (by simp) λ g8 z8 s8=>?_);have z8:IsZip g8 z u v (rawInt g5.objs.size):=z8;have go:∀f o,f≠z->g5.get? f=some o->g8.get? f=some o:=λ f o n1 e=>s8.extBut _ _ n1 (s7.extBut _ _ n1 (j7 _ e));have t8:IsPair g8 g5.objs.size x y:=s8.extBut _ _ (L6 YD) (s7.extBut _ _ (L6 YD) (q8 _ rfl));have e8:g8.objs.size=g5.objs.size+1:=by rw[s8.1,s7.1,E9]
 rw[ez]at z8 t8 e8;refine N7 ⟨_,rfl,?_⟩;show Q (.ref g5.objs.size) _;rw[ez];exact k g8 z8 (go _ _ D.vz v5) (a5.keep λ o e=>go _ o D.az e) (b5.keep λ o e=>go _ o D.bz e) t8 e8 λ f o n1 n2 n3 n4 e=>go f o n1 (SS f o n1 n2 n3 n4 e)
theorem BV{z u v a b l m:Addr}{i:Nat}{xs ys:Array Value}{c d:Value}{Q:Fin->Shared->Prop}(hA:A.handled=none)(k1:NK T1 S1)(k2:NK T2 S2)(D:Za z u v a b l m) (hz:IsZip s.heap z u v .none) (hu:IsPair s.heap u (.ref a) (.ref b)) (hv:IsPair s.heap v c d) (ha:bU T1 s.heap a l i) (hb:bU T2 s.heap b m i) (hl:S1 s.heap l xs) (hm:S2 s.heap m ys) (he:xs[i]?=none\/ys[i]?=none) (k:∀h' e,(∀f o,f≠z->f≠v->f≠a->f≠b->s.heap.get? f=some o->h'.get? f=some o)->(∃o,h'.get? e=some o/\o.cls=.type "StopIteration")->E (.ref e) {s with heap:=h'}):wpAny (model prog w) A (Builtin.«zip.__next__» ⟨[.ref z],[]⟩) Q E s:=by
 refine N6 (m:=field (.ref z) 2) (N4 hz rfl (x:=.bool false) rfl ?_);refine N6 (m:=field (.ref z) 3) (N4 hz rfl (x:=.ref u) rfl ?_);refine N6 (E8 hu rfl ?_);refine N6 (m:=Builtin.SmallTypes.ownedTupleIsFree (.ref z)) ?_;unfold Builtin.SmallTypes.ownedTupleIsFree;refine N6 (m:=field (.ref z) 0) (N4 hz rfl (x:=.none) rfl (N7 ?_));simp only[O5];refine N6 (N8 (N6 (N4 hz rfl (x:=.ref v) rfl (N6 (u7 hz (by simp) λ g1 z1 s1=>?_)))));have z1:IsZip g1 z u v .ellipsis:=z1;refine N6 ?_;simp only[zipIdx_cons,zipIdx_nil,E4,forIn_nil];have Y':=ha.keep (h':=g1) λ o e=>s1.extBut _ _ D.az e;have Vu:=k1.keep (h':=g1) hl λ o e=>s1.extBut _ _ D.lz e;refine N6 (N6 (wpAny_onRaise ?_));cases hx:xs[i]? with
 |none=>
  refine N6 (m:=Builtin.SmallTypes.nextOf (.ref a)) (k1.stop hA Y' Vu hx λ g2 e s2 oe=>?_);obtain⟨ob,uA,vE⟩:=oe;have z2:IsZip g2 z u v .ellipsis:=s2 _ _ D.az.symm z1;have ne:e≠z:=λ q=>by subst q;rw[z2]at uA;cases uA;simp at vE
  exact u7 z2 (by simp) λ g3 _ s3=>k g3 e (λ f o n1 _ n3 _ q=>s3.extBut _ _ n1 (s2 _ _ n3 (s1.extBut _ _ n1 q))) ⟨ob,s3.extBut _ _ ne uA,vE⟩
 |some x=>
  have hy:ys[i]?=none:=by rcases he with q|q;rw[hx]at q;cases q;exact q
  refine N6 (m:=Builtin.SmallTypes.nextOf (.ref a)) (k1.item Y' Vu hx λ g2 a2 s2=>N7 ?_);have v2:IsPair g2 v c d:=s2.extBut _ _ D.va (s1.extBut _ _ D.vz hv);refine N6 (E8 v2 rfl (N6 (wpAny_updateSeq_pair v2 λ g3 v3 s3=>N6 (N5 (N7 ?_)))));have nj:∀f o,f≠z->f≠v->f≠a->s.heap.get? f=some o->g3.get? f=some o:=λ f o n1 n2 n3 e=>s3.extBut _ _ n2 (s2.extBut _ _ n3 (s1.extBut _ _ n1 e));refine N6 (N6 (wpAny_onRaise (N6 (m:=Builtin.SmallTypes.nextOf (.ref b)) (k2.stop hA (hb.keep λ o e=>nj _ _ D.bz D.vb.symm D.ab.symm e) (k2.keep hm λ o e=>nj _ _ D.mz D.mv D.ma e) hy λ g4 e s4 oe=>?_))));obtain⟨ob,uA,vE⟩:=oe;have z4:IsZip g4 z u v .ellipsis:=s4 _ _ D.bz.symm (s3.extBut _ _ D.vz.symm (s2.extBut _ _ D.az.symm z1));have ne:e≠z:=λ q=>by subst q;rw[z4]at uA;cases uA;simp at vE
  exact u7 z4 (by simp) λ g5 _ s5=>k g5 e (λ f o n1 n2 n3 n4 q=>s5.extBut _ _ n1 (s4 _ _ n4 (nj f o n1 n2 n3 q))) ⟨ob,s5.extBut _ _ ne uA,vE⟩
theorem Eo{z u v a b l m:Addr}{i:Nat}{xs ys:Array Value}{x y c d:Value}{Q:Option Value->Shared->Prop}(k1:NK T1 S1)(k2:NK T2 S2)(D:Za z u v a b l m) (hz:IsZip s.heap z u v .none) (hu:IsPair s.heap u (.ref a) (.ref b)) (hv:IsPair s.heap v c d) (ha:bU T1 s.heap a l i) (hb:bU T2 s.heap b m i) (hl:S1 s.heap l xs) (hm:S2 s.heap m ys) (hx:xs[i]?=some x) (hy:ys[i]?=some y) (k:∀h',IsZip h' z u v (rawInt s.heap.objs.size)->IsPair h' v x y->bU T1 h' a l (i+1)->bU T2 h' b m (i+1)->IsPair h' s.heap.objs.size x y->h'.objs.size=s.heap.objs.size+1->
   (∀f o,f≠z->f≠v->f≠a->f≠b->s.heap.get? f=some o->h'.get? f=some o)->Q (some (.ref s.heap.objs.size)) {s with heap:=h'}):wpAny (model prog w) A (pyNext (.ref z)) Q E s:=by
 have ty:s.TypeIs (.ref z) "zip":=⟨_,hz,rfl⟩;unfold pyNext;refine N6 (G8 (j3 (name:=Str.ofString "__next__") ty E1 (A9 E1 ty F.entry_zip_next ?_ (F.args_zip_next_1 _))));exact zy k1 k2 D hz hu hv ha hb hl hm hx hy λ h' a1 a2 a3 a4 a5 a6 a7=>N7 (k h' a1 a2 a3 a4 a5 a6 a7)
theorem EB{z u v a b l m:Addr}{i:Nat}{xs ys:Array Value}{c d:Value}{Q:Option Value->Shared->Prop}(hA:A.handled=none)(k1:NK T1 S1)(k2:NK T2 S2)(D:Za z u v a b l m) (hz:IsZip s.heap z u v .none) (hu:IsPair s.heap u (.ref a) (.ref b)) (hv:IsPair s.heap v c d) (ha:bU T1 s.heap a l i) (hb:bU T2 s.heap b m i) (hl:S1 s.heap l xs) (hm:S2 s.heap m ys) (he:xs[i]?=none\/ys[i]?=none) (k:∀h',(∀f o,f≠z->f≠v->f≠a->f≠b->s.heap.get? f=some o->h'.get? f=some o)->Q none {s with heap:=h'}):wpAny (model prog w) A (pyNext (.ref z)) Q E s:=by have ty:s.TypeIs (.ref z) "zip":=⟨_,hz,rfl⟩;unfold pyNext;refine N6 (G8 (j3 (name:=Str.ofString "__next__") ty E1 (A9 E1 ty F.entry_zip_next ?_ (F.args_zip_next_1 _))));refine BV hA k1 k2 D hz hu hv ha hb hl hm he λ h' e q oe=>?_;obtain⟨ob,uA,vE⟩:=oe;exact N6 (B7 (T:="StopIteration") (b:=true) ⟨ob,uA,vE⟩ isSubtype_stop (N7 (k _ q)))
end
abbrev xN(T:String)(h:Heap)(l:Addr):Heap:=h.push {cls:=.type T,data:=.fields #[.ref l,.int 0 0]}
abbrev Rj(T1 T2:String)(h:Heap)(l m:Addr):Heap:=(xN T2 (xN T1 h l) m).push {cls:=.type "tuple",data:=.seq #[.ref h.objs.size,.ref (xN T1 h l).objs.size]}
abbrev Ri(T1 T2:String)(h:Heap)(l m:Addr):Heap:=(Rj T1 T2 h l m).push {cls:=.type "tuple",data:=.seq #[.none,.none]}
abbrev Mh(T1 T2:String)(h:Heap)(l m:Addr):Heap:=(Ri T1 T2 h l m).push {cls:=.type "zip",data:=.fields #[.none,.bool false,.bool false,.ref (xN T2 (xN T1 h l) m).objs.size,.ref (Rj T1 T2 h l m).objs.size]}
theorem zx{T1 T2:String}{S1 S2:Heap->Addr->Array Value->Prop}(k1:NK T1 S1)(k2:NK T2 S2)(l m:Addr)(xs ys:Array Value):Meets (Builtin.«zip.__new__» ⟨[.type "zip",.ref l,.ref m],[]⟩) (λ _ R s=>S1 s.heap l xs/\S2 s.heap m ys/\R (.ok (.ret (.ref (Ri T1 T2 s.heap l m).objs.size))) {s with heap:=Mh T1 T2 s.heap l m}):=
 .of_wp λ prog w A R s h=>by
  obtain⟨hp,g,d,tk,os⟩:=s;obtain⟨a1,a2,h⟩:=h;have sz:=sub_zip;have b1:S1 (Shared.heap ⟨hp,g,d,tk,os⟩) l xs:=a1;have b2:S2 (Shared.heap ⟨hp.push {cls:=.type T1,data:=.fields #[.ref l,.int 0 0]},g,d,tk,os⟩) m ys:=k2.keep a2 λ o e=>j7 _ e
  wp_walk using k1.start b1,k2.start b2
  exact⟨_,rfl,h⟩
theorem Pa{prog:Program}{w:World}{A:Around}{E:Value->Shared->Prop}{s:Shared}{T1 T2:String}{S1 S2:Heap->Addr->Array Value->Prop}(k1:NK T1 S1)(k2:NK T2 S2){l m:Addr}{xs ys:Array Value}{Q:Value->Shared->Prop}(a1:S1 s.heap l xs)(a2:S2 s.heap m ys) (k:∀h',IsZip h' (s.heap.objs.size+4) (s.heap.objs.size+2) (s.heap.objs.size+3) .none->IsPair h' (s.heap.objs.size+2) (.ref s.heap.objs.size) (.ref (s.heap.objs.size+1))->IsPair h' (s.heap.objs.size+3) .none .none->
   bU T1 h' s.heap.objs.size l 0->bU T2 h' (s.heap.objs.size+1) m 0->h'.objs.size=s.heap.objs.size+5->(∀f o,s.heap.get? f=some o->h'.get? f=some o)->Q (.ref (s.heap.objs.size+4)) {s with heap:=h'}):
  wpAny (model prog w) A (call (.type "zip") [.ref l,.ref m]) Q E s:=by
 refine callType_new F.called_zip (by decide) (F.typeCall_zip_2 _ _) (F.newCall_zip_2 _ _) (λ ob=>F.args_object_init_3 ob _ _) F.entry_zip_new (zx k1 k2 l m xs ys) ⟨a1,a2,?_⟩;have e1:(xN T1 s.heap l).objs.size=s.heap.objs.size+1:=E9 ..;have e2:(xN T2 (xN T1 s.heap l) m).objs.size=s.heap.objs.size+2:=by rw[E9,e1]
 have e3:(Rj T1 T2 s.heap l m).objs.size=s.heap.objs.size+3:=by rw[E9,e2]
 have e4:(Ri T1 T2 s.heap l m).objs.size=s.heap.objs.size+4:=by rw[E9,e3]
 have e5:(Mh T1 T2 s.heap l m).objs.size=s.heap.objs.size+5:=by rw[E9,e4]
 have up1:∀f o,(Ri T1 T2 s.heap l m).get? f=some o->(Mh T1 T2 s.heap l m).get? f=some o:=λ f o e=>j7 _ e;have Yt:∀f o,(Rj T1 T2 s.heap l m).get? f=some o->(Mh T1 T2 s.heap l m).get? f=some o:=λ f o e=>up1 f o (j7 _ e);have Ys:∀f o,(xN T2 (xN T1 s.heap l) m).get? f=some o->(Mh T1 T2 s.heap l m).get? f=some o:=λ f o e=>Yt f o (j7 _ e);have Yr:∀f o,(xN T1 s.heap l).get? f=some o->(Mh T1 T2 s.heap l m).get? f=some o:=λ f o e=>Ys f o (j7 _ e);have g5:(Mh T1 T2 s.heap l m).get? (Ri T1 T2 s.heap l m).objs.size=some _:=q8 _ rfl;have g4:=up1 _ _ (q8 (Rj T1 T2 s.heap l m) rfl);have g3:=Yt _ _ (q8 (xN T2 (xN T1 s.heap l) m) rfl);have g2:=Ys _ _ (q8 (xN T1 s.heap l) rfl);have g1:=Yr _ _ (q8 (s.heap) rfl);show _/\_;rw[e2,e3,e4]at g5;rw[e1,e2]at g3;rw[e3]at g4;rw[e1]at g2;rw[e4];exact⟨⟨_,g5,rfl⟩,k _ g5 g3 g4 ⟨_,g1,rfl,rfl⟩ ⟨_,g2,rfl,rfl⟩ e5 λ f o x=>Yr f o (j7 _ x)⟩
end L5
namespace L2
open PySem PySem.Spec PyProof.Rows
open HT (lexLt bB cu b_ cb mQ)
open PySem.SeqAt PySem.MeetsSeq PySem.MeetsSeq2 PySem.MeetsSeq3 PySem.SeqRoads2
open PySem.AutoSeq1 (wpAny_loadPart')
theorem iw{vs:List Value}{ns:List Int}(h:IntsAre vs ns){i:Nat}(hi:i < ns.length):∃t,vs[i]?=some (.int ns[i] t):=by
 induction h generalizing i with
 |nil=>simp at hi
 |cons n t h ih=>
  cases i with
  |zero=>exact⟨t,rfl⟩
  |succ i=>obtain⟨t',e⟩:=ih (i:=i) (by simpa using hi);exact⟨t',by simpa using e⟩
theorem JJ(l b:Addr)(xs ys:Array Value)(n k:Nat)(dd ee:Option Addr)(sl tl:Array (Option Value))(ns ms:List Int)(hi:IntsAre xs.toList ns)(hj:IntsAre ys.toList ms)(f:Nat):∀i:Nat,ns.length - i=f->Meets (Builtin.«list.__eq__.loop» ⟨[.ref l,.ref b,rawInt i,rawInt 0],[]⟩)
   (λ A R s=>s.heap.get? l=some {cls:=.type "list",dict:=dd,data:=.seq xs n,slots:=sl}/\s.heap.get? b=some {cls:=.type "list",dict:=ee,data:=.seq ys k,slots:=tl}/\i<=ns.length/\i<=ms.length/\
    R (.ok (.ret (.bool (lexLt (ns.drop i) (ms.drop i))))) s):=by
 have z1:xs.size=ns.length:=by rw[<- hi.length];simp
 have z2:ys.size=ms.length:=by rw[<- hj.length];simp
 induction f with
 |zero=>
  intro i hf prog w A R s h;obtain⟨hp,g,d,tk,os⟩:=s;obtain⟨hl,hb,i1,i2,h⟩:=h
  wp_walk using C4 hl,C4 hb
  have e1:xs[((i:Nat):Int).toNat]?=none:=by simp;omega
  have d1:ns.drop i=[]:=by simp;omega
  rw[d1]at h;rw[e1];have fin:R (.ok (.ret (.bool (decide (xs.size < ys.size))))) ⟨hp,g,d,tk,os⟩:=by
   have q:lexLt [] (ms.drop i)=decide (xs.size < ys.size):=by
    cases e:ms.drop i with
    |nil=>
     have:ms.length<=i:=by simpa using e
     rw[cu];exact(C3 (by omega)).symm
    |cons c r=>
     have:i < ms.length:=by refine A6 λ z=>?_;rw[drop_eq_nil_of_le z]at e;cases e
     rw[b_];exact(E7 (by omega)).symm
   rw[<- q];exact h
  wp_walk using C4 hl,C4 hb
  exact fin
 |succ f ih=>
  intro i hf prog w A R s h;obtain⟨hp,g,d,tk,os⟩:=s;obtain⟨hl,hb,i1,i2,h⟩:=h;have a1:i < ns.length:=by omega
  obtain⟨t,e1⟩:=iw hi a1;have e1:xs[((i:Nat):Int).toNat]?=some (.int ns[i] t):=by simpa using e1
  by_cases a2:i < ms.length
  ·obtain⟨u,e2⟩:=iw hj a2;have e2:ys[((i:Nat):Int).toNat]?=some (.int ms[i] u):=by simpa using e2
   rw[i0 a1,i0 a2,bB]at h
   wp_walk using C4 hl,C4 hb
   rw[e1,e2];refine N6 (EqAt.int_int ns[i] t ms[i] u prog w _ _ ?_);have cc:((i:Int)+1)=((i+1:Nat):Int):=by push_cast;rfl
   by_cases q:ns[i]=ms[i]
   ·rw[O6 q]at h;have qb:(ns[i]==ms[i])=true:=by simp[q]
    rw[qb]
    wp_walk
    rw[cc];exact⟨J7 plain_eq_loop _,C9 entry_eq_loop (by rw[m7 plain_eq_loop _];exact ih (i+1) (by omega) prog w A R _ ⟨hl,hb,by omega,by omega,h⟩)⟩
   ·rw[O7 q]at h;have qb:(ns[i]==ms[i])=false:=by simp[q]
    rw[qb];have rl:=mQ A.in1 ⟨hp,g,d,tk,os⟩ ns[i] t ms[i] u prog w
    wp_walk using C4 hl,C4 hb
    rw[e1,e2]
    wp_walk using rl
    exact h
  ·have e2:ys[((i:Nat):Int).toNat]?=none:=by simp;omega
   have d2:ms.drop i=[]:=by simp;omega
   rw[i0 a1,d2,cb]at h
   wp_walk using C4 hl,C4 hb
   rw[e1,e2]
   wp_walk using C4 hl,C4 hb
   have q:decide (xs.size < ys.size)=false:=C3 (by omega);show R (.ok (.ret (.bool (decide (xs.size < ys.size))))) _;rw[q];exact h
theorem tZ(l b:Addr)(xs ys:Array Value)(n k:Nat)(dd ee:Option Addr)(sl tl:Array (Option Value))(ns ms:List Int)(hi:IntsAre xs.toList ns)(hj:IntsAre ys.toList ms):
  Meets (Builtin.«list.__lt__» ⟨[.ref l,.ref b],[]⟩) (λ A R s=>s.heap.get? l=some {cls:=.type "list",dict:=dd,data:=.seq xs n,slots:=sl}/\s.heap.get? b=some {cls:=.type "list",dict:=ee,data:=.seq ys k,slots:=tl}/\
    R (.ok (.ret (.bool (lexLt ns ms)))) s):=by
 intro prog w A R s h;obtain⟨hp,g,d,tk,os⟩:=s;obtain⟨hl,hb,h⟩:=h;have f3:=AutoSeq1.sub_list_list
 wp_walk using C4 hl,C4 hb
 exact⟨J7 plain_eq_loop _,C9 entry_eq_loop (by rw[m7 plain_eq_loop _];exact JJ l b xs ys n k dd ee sl tl ns ms hi hj _ 0 rfl prog w A R _ ⟨hl,hb,N3 _,N3 _,h⟩)⟩
theorem Et{prog:Program}{w:World}{A:Around}{E:Value->Shared->Prop}{s:Shared}{l b:Addr}{xs ys:Array Value}{ns ms:List Int}{Q:Value->Shared->Prop}(hl:s.heap.IsList l xs)(hb:s.heap.IsList b ys)(hi:IntsAre xs.toList ns)(hj:IntsAre ys.toList ms) (hu:A.units < cLine) (h:Q (.bool (lexLt ns ms)) s):wpAny (model prog w) A (compareOp .Lt (.ref l) (.ref b)) Q E s:=by
 obtain⟨⟨c1,dd,da,sl⟩,o1,k1,n,d1⟩:=id hl;obtain⟨⟨c2,ee,db,tl⟩,o2,k2,m,d2⟩:=id hb;simp only at k1 d1 k2 d2;subst k1 d1 k2 d2;exact j9 (op:=.Lt) ⟨_,o1,rfl⟩ ⟨_,o2,rfl⟩ PySem.F.slot_list_lt PySem.F.entry_list_lt (PySem.F.args_list_lt_2 _ _) (tZ l b xs ys n m dd ee sl tl ns ms hi hj)
  ⟨o1,o2,show Value.bool (lexLt ns ms)≠Value.notImplemented/\Q (.bool (lexLt ns ms)) s from⟨(λ x=>nomatch x),h⟩⟩ hu
end L2
namespace L2
open PySem PySem.Spec PyProof.Rows L5
def Sq(b:Bool)(K:O8)(H:Hp)(a:Addr)(xs:List V):Prop:=match b with
 |true=>fZ K H a xs
 |false=>dF K H a xs
def Yw(b:Bool):String:=match b with
 |true=>"tuple_iterator"
 |false=>"list_iterator"
def xf(b:Bool):Heap->Addr->Array Value->Prop:=match b with
 |true=>Heap.IsTuple
 |false=>Heap.IsList
theorem jy:∀b,NK (Yw b) (xf b)
 |true=>tT
 |false=>JA
section
variable {X:Cx}{pins:List (Addr×Obj)}{σ:St}{H:Hp}{s:Shared}{a v:Addr}{xs ys:List V}
theorem iQ(I:Inv X pins σ H s):∀{b:Bool},Sq b X.K H a xs->∃au:List Value,Vals xs au/\xf b s.heap a au.toArray
 |true,h=>let⟨au,r,p,_⟩:=I.tuple h;⟨au,r,p⟩
 |false,h=>let⟨au,r,p,_⟩:=I.list h;⟨au,r,p.isList⟩
theorem MK(I:Inv X pins σ H s):∀{b:Bool},Sq b X.K H a xs->Sq b X.K H a ys->xs=ys
 |true,h,q=>I.ph h q
 |false,h,q=>I.tY h q
theorem yf{u:HO}(h:Rd H a u):∃o,H a=some o:=by
 rcases h with h|⟨o,h⟩
 ·exact⟨_,h⟩
 ·exact⟨_,h⟩
theorem Cr:∀{b:Bool} {K:O8},Sq b K H a xs->(∃o,H a=some o)\/∃o,K.lookup a=some o
 |true,K,h=>by
  rcases h with h|⟨o,au,n,hk,_⟩
  ·exact .inl (yf h)
  ·exact .inr ⟨o,hk⟩
 |false,K,h=>by
  rcases h with h|⟨o,au,n,hk,_⟩
  ·exact .inl (yf h)
  ·exact .inr ⟨o,hk⟩
theorem Cs(I:Inv X pins σ H s)(f:iZ X pins H v){b:Bool}(h:Sq b X.K H a xs):a≠v:=λ e=>by
 subst e;rcases Cr h with⟨o,q⟩|⟨o,q⟩
 ·rw[f.1]at q;cases q
 ·have q:=I.ok.mod.QX a o q;rcases f.2.2.2.1 with z|z
  ·exact I.ok.wL a o q z
  ·exact absurd (v8 (K2 q) (K5 I.ok.BO z)) (H0 _)
theorem sM{t':Nat}{ch:List Addr}{h':Heap}(I:Inv X pins σ H s)(k:∀b o,b∉ch->s.heap.get? b=some o->h'.get? b=some o)(hf:∀b∈ch,iZ X pins H b):Inv X pins σ H {s with heap:=h',toks:=t'}:=by
 have SM:∀b u,H b=some u->b∉ch:=λ b u e z=>by rw[(hf b z).1]at e;cases e
 refine I.step (g':=s.gens) (d':=s.drawn) (ch:=ch) (λ b hb=>?_) (λ b o _ _ hc e _=>k b o hc e) (λ b o _ _ hc e _=>⟨o.slots,k b o hc e⟩) (λ _ _ _ _ n=>n)
  (λ b o hc e=>⟨o,k b o hc e⟩) (λ _ _ e=>e) (λ _ _ _ e=>e) (λ b ps e=>⟨#[],by rw[e];simp⟩) (λ m hm=>?_) (λ b u e=>?_) I.bare
 ·obtain⟨f0,f1,f2,f3,f4,f5⟩:=hf b hb;exact⟨f3,f1,f4,f5⟩
 ·obtain⟨o,es,ep,ho,r⟩:=hm;exact⟨o,es,ep,k _ o (λ z=>(hf _ z).2.1 rfl) ho,r⟩
 ·refine(I.bq b u e).eh (λ c v hc q=>k c v ?_ q) (λ _ q=>q) λ _ _ q=>q;rcases hc with z|z
  ·rw[z];exact SM b u e
  ·exact SM c _ z
end
end L2
namespace L3
open PySem PySem.Spec L2 L5
def BW(ds es:List D):List D:=(ds.zip es).map λ p=>D.tup [p.1,p.2]
end L3
namespace L5
open PySem PySem.W PySem.Calls PyProof.Rows
section
variable {prog:Program}{w:World}{A:Around}{E:Value->Shared->Prop}{s:Shared}
theorem LK{α:Type}{n:Nat}{lt:Nat->Nat->Bool}{κ:SortKind}{ks:List Value}{Q:α->Shared->Prop}(hc:∀i j C,i < n->j < n->C (lt i j) s->wpAny (model prog w) A (keyLt' κ (ks.getD i Value.none) (ks.getD j Value.none)) C (λ _ _=>False) s):∀(t:KasT α),kw n lt t (λ a=>Q a s)->t.kasWp (kas_ask prog w A κ ks) Q s
 | .ret a,h=>h
 | .ask i j k,h=>hc i j _ h.1 h.2.1 (LK hc (k (lt i j)) h.2.2)
def Out{α:Type}(lt:Nat->Nat->Bool)(vs:List α)(d:α)(out:List α):Prop:=∃p:Array Nat,Pm vs.length p/\Up lt p vs.length/\out=p.toList.map λ i=>vs.getD i d
theorem Je{α:Type}{lt:Nat->Nat->Bool}(O:Ord lt){vs:List α}(d:α)(h:vs.length < 2):Out lt vs d vs:=by
 refine⟨List.toArray (List.range vs.length),Array.Perm.refl _,λ i j oK hj=>?_,?_⟩
 ·have:i=j:=by omega
  subst this;exact O.refl _
 ·match vs,h with
  |[],_=>rfl
  |[v],_=>rfl
theorem yE{a kS:Addr}{e e1:Nat}{ks out:List Value}{st:SortSt}{P:PySem.Fin->Shared->Prop}(hk:s.heap.get? kS=some (seqObj "list" (List.toArray ks) e))(ha:s.heap.get? a=some (seqObj "list" #[] e1))(fW:a≠kS)(hkz:ks.length < 64)(hoz:out.length < 64)
  (ho:(arrOf st).map (·.2)=List.toArray out) (hf:failedOf st=none)
  (h:∀h' c,h'.get? a=some (seqObj "list" (List.toArray out) c)->(∀b o,b≠a->b≠kS->s.heap.get? b=some o->h'.get? b=some o)->P (.done (.ret .none)) {s with heap:=h'}):wpAny (model prog w) A (ksk_tail a false e1 (.ref kS) st) P E s:=by
 unfold ksk_tail
 try dsimp only
 rw[ho];have s1:=o8 s.heap kS (Obj.mapSeq λ _=>(#[]:Array Value));have a1:(s.heap.update kS (Obj.mapSeq λ _=>(#[]:Array Value))).get? a=some (seqObj "list" #[] e1):=(s1.2 a fW).trans ha;have s2:=o8 (s.heap.update kS (Obj.mapSeq λ _=>(#[]:Array Value))) a (Obj.mapSeq λ _=>List.toArray out);refine N6 (listUpdate_at hk rfl (N6 (N5 (N6 (seqEpoch_at a1 rfl (N6 (listUpdate_at a1 rfl ?_ (N3 _) ?_)))))) (by rw[z9,L9];omega) (N3 _))
 ·rw[hf];simp only[bne_self_eq_false,u5,O2];exact N7 (h _ _ (get?_update_seq a1 λ _=>List.toArray out) λ b o b1 b2 q=>(s2.2 b b1).trans ((s1.2 b b2).trans q))
 ·simp only[u5,O2];rw[z9,L9];omega
theorem Pf{a kS:Addr}{e e1:Nat}{ks vs:List Value}{κ:SortKind}{lt:Nat->Nat->Bool}{P:PySem.Fin->Shared->Prop}(O:Ord lt)(hl:ks.length=vs.length)(GR:vs.length < 64)(hk:s.heap.get? kS=some (seqObj "list" (List.toArray ks) e))(ha:s.heap.get? a=some (seqObj "list" #[] e1))(fW:a≠kS)
  (Fg:2<=vs.length->∀C:SortKind->Shared->Prop,C κ s->wpAny (model prog w) A (keyKind' (List.toArray ks)) C E s)
  (hc:2<=vs.length->∀i j C,i < vs.length->j < vs.length->C (lt i j) s->wpAny (model prog w) A (keyLt' κ (ks.getD i Value.none) (ks.getD j Value.none)) C (λ _ _=>False) s)
  (h:∀out h' c,Out lt vs Value.none out->h'.get? a=some (seqObj "list" (List.toArray out) c)->(∀b o,b≠a->b≠kS->s.heap.get? b=some o->h'.get? b=some o)->P (.done (.ret .none)) {s with heap:=h'}):
  wpAny (model prog w) A (ksk_end a false vs.toArray e1 (.ref kS) (List.toArray ks)) P E s:=by
 unfold ksk_end
 try dsimp only
 simp only[u5,O2];by_cases h2:vs.length < 2
 ·have z2:vs.toArray.size < 2:=by rw[z9];exact h2
  rw[O6 z2,O6 z2];refine N6 (N7 (N6 ?_));rw[StateT.run_pure];refine N7 ?_;refine yE hk ha fW (by omega) GR (st:=SortSt.mk' general' ((List.toArray ks).zip vs.toArray) #[] 7 none) ?_ rfl λ h' c a1 a2=>h vs h' c (Je O _ h2) a1 a2;show((List.toArray ks).zip vs.toArray).map (·.2)=_;apply Array.toList_inj.mp;simp;exact map_snd_zip (by omega)
 ·have z2:¬vs.toArray.size < 2:=by rw[z9];exact h2
  rw[O7 z2,O7 z2];refine N6 (Fg (by omega) _ ?_);refine N6 (O0 (kat_run (Q:=λ vA s'=>s'=s/\∃p:Array Nat,p.size=vs.length/\arrOf vA=p.map (kas_item ((List.toArray ks).zip vs.toArray))/\failedOf vA=none/\Pm vs.length p/\Up lt p vs.length)
   (G:=λ p s'=>s'=s/\Pm vs.length p/\Up lt p vs.length) hl (by omega) GR (λ p vA s' a1 a2 a3 a4=>⟨a4.1,p,a1,a2,a3,a4.2⟩) (LK (hc (by omega)) _ (JS O (by omega) λ p p1 p2=>⟨rfl,p1,p2⟩))) ?_ λ _ _ x=>x)
  rintro⟨⟨⟩,vA⟩ s' ⟨rfl,p,hp,har,hf,p1,p2⟩
  try dsimp only
  refine yE hk ha fW (by omega) ?_ (kat_snds hl har) hf λ h' c a1 a2=>h _ h' c ⟨p,p1,p2,rfl⟩ a1 a2;rw[D3,p9,hp];exact GR
theorem yF{kS q:Addr}{body:Value->PUnit->Sem (ForInStep PUnit)}{J:List Value->Nat->Shared->Prop}{vs:List Value} (hb:∀x ks e (s:Shared),J ks e s->vs[ks.length]?=some x->wpAny (model prog w) A (body x ⟨⟩) (λ r s'=>r=.yield ⟨⟩/\∃k c,J (ks++[k]) c s') E s):∀(r ks:List Value) (e:Nat) (s:Shared),vs.drop ks.length=r->ks.length<=vs.length->J ks e s->
   wpAny (model prog w) A (forIn r PUnit.unit body) (λ _ s'=>∃ks e,ks.length=vs.length/\J ks e s') E s
 |[],ks,e,s,hr,hl,h=>by rw[forIn_nil];exact N7 ⟨ks,e,D6 hl (by simpa using hr),h⟩
 |x::r,ks,e,s,hr,hl,h=>by
  rw[E4];have iS:ks.length < vs.length:=by refine A6 λ z=>?_;rw[drop_eq_nil_of_le z]at hr;cases hr
  rw[i0 iS]at hr;injection hr with e1 e2
  refine N6 (O0 (hb x ks e s h (by rw[i8 iS,e1])) (λ y s' hy=>?_) λ _ _ z=>z);obtain⟨rfl,k,c,h2⟩:=hy;exact yF (kS:=kS) (q:=q) hb r (ks++[k]) c s' (by rw[u4,k9];exact e2) (by rw[u4,k9];omega) h2
theorem JT{a kS q:Addr}{e1:Nat}{vs:List Value}{P:PySem.Fin->Shared->Prop}{J:List Value->Nat->Shared->Prop}(GR:vs.length < 64)(hJ:∀ks e s,J ks e s->s.heap.get? kS=some (seqObj "list" (List.toArray ks) e)/\ks.length<=vs.length)
  (TJ:∀x ks e (s:Shared),J ks e s->vs[ks.length]?=some x->wpAny (model prog w) A (call (.ref q) [x]) (λ k s'=>s'.heap.get? kS=some (seqObj "list" (List.toArray ks) e)/\∀h' c,h'.get? kS=some (seqObj "list" (List.toArray (ks++[k])) c)->Heap.SameBut kS s'.heap h'->J (ks++[k]) c {s' with heap:=h'}) (λ _ _=>False) s)
  (h0:J [] 0 s) (Xw:∀ks e s,J ks e s->ks.length=vs.length->wpAny (model prog w) A (ksk_end a false vs.toArray e1 (.ref kS) (List.toArray ks)) P E s):wpAny (model prog w) A (ksk_rest a (.ref q) false vs.toArray e1 (.ref kS)) P E s:=by
 unfold ksk_rest;refine N6 (N8 ?_)
 first
  |rw[List.forIn_toArray]
  |(rw[<- x8];simp only[List.toList_toArray])
  |rw[<- x8]
 refine N6 (O0 (yF (kS:=kS) (q:=q) (J:=J) (vs:=vs) (λ x ks e s' hj hx=>?_) vs [] 0 s rfl (N3 _) h0) (λ _ s' hd=>?_) λ _ _ x=>x)
 ·refine N6 (G8 (O0 (TJ x ks e s' hj hx) (λ k QP hk=>?_) λ _ _ hF=>hF.elim));obtain⟨k1,k2⟩:=hk;have hz:=(hJ ks e s' hj).2;have s1:=o8 QP.heap kS (Obj.mapSeq (·.push k));have ea:(List.toArray ks).push k=List.toArray (ks++[k]):=by simp
  try dsimp only
  refine N6 (listUpdate_at k1 rfl (N7 ⟨rfl,k,_,k2 _ _ (by rw[<- ea];exact get?_update_seq k1 (·.push k)) s1⟩) (by rw[z9,L9];omega) (K5 (K7 (Array.size_push ..)) (by rw[z9,L9];omega)))
 ·obtain⟨ks,e,hl,hj⟩:=hd
  try dsimp only
  exact N6 (listItems_at (hJ ks e s' hj).1 rfl (Xw ks e s' hj hl))
end
end L5
namespace L2
open PySem PySem.Spec PyProof.Rows L5 PySem.W
open HT (lexLt bB cu b_ cb)
theorem eA{h:Heap}:∀{vs:List Value} {ns:List Int},IntsAre vs ns->ReadsAll h vs (ns.map PyData.int) []
 |_,_,.nil=>ReadsAll.nil
 |_,_,.cons n t r=>ReadsAll.cons (Reads.int n t) (eA r)
abbrev Ky:=Int×List Int
def klt(a b:Ky):Bool:=if a.1=b.1 then lexLt a.2 b.2 else decide (a.1 < b.1)
theorem lT:∀a:List Int,lexLt a a=false
 |[]=>rfl
 |x::a=>by rw[bB,O6 rfl];exact lT a
theorem t_:∀a b:List Int,lexLt a b=true->lexLt b a=false
 |[],[],h=>by cases h
 |[],_::_,_=>rfl
 |_::_,[],h=>by cases h
 |x::a,y::b,h=>by
  rw[bB]at h ⊢;by_cases e:x=y
  ·rw[O6 e]at h;rw[O6 e.symm];exact t_ a b h
  ·rw[O7 e]at h;rw[O7 (O4 e)];have:=of_decide_eq_true h;exact C3 (by omega)
set_option tactic.hygienic true in
theorem Eu:∀a b c:List Int,lexLt a b=false->lexLt b c=false->lexLt a c=false
 |_,_::_,[],_,_=>by rename_i a _ _ _ _;cases a <;> rfl
 |[],[],c,_,h=>h
 |_::_,[],[],_,_=>rfl
 |_::_,[],_::_,_,h=>by cases h
 |[],_::_,_::_,h,_=>by cases h
 |x::a,y::b,z::c,h,g=>by
  rw[bB]at h g ⊢;by_cases e:x=y
  ·rw[O6 e]at h;subst e;by_cases e2:x=z
   ·rw[O6 e2]at g ⊢;exact Eu a b c h g
   ·rw[O7 e2]at g ⊢;exact g
  ·rw[O7 e]at h;have h:=x3 h;by_cases e2:y=z
   ·subst e2;rw[O7 e];exact C3 h
   ·rw[O7 e2]at g;have g:=x3 g;have:x≠z:=by omega
    rw[O7 this];exact C3 (by omega)
theorem pJ:∀a b:List Int,a.length=b.length->lexLt a b=false->lexLt b a=false->a=b
 |[],[],_,_,_=>rfl
 |x::a,y::b,l,h,g=>by
  rw[bB]at h g;by_cases e:x=y
  ·subst e;rw[O6 rfl]at h g;rw[pJ a b (by simpa using l) h g]
  ·rw[O7 e]at h;rw[O7 (O4 e)]at g;have h:=x3 h;have g:=x3 g;omega
theorem EE(a b:Ky)(h:klt a b=true):klt b a=false:=by
 unfold klt at h ⊢;by_cases e:a.1=b.1
 ·rw[O6 e]at h;rw[O6 e.symm];exact t_ _ _ h
 ·rw[O7 e]at h;rw[O7 (O4 e)];have:=of_decide_eq_true h;exact C3 (by omega)
theorem Pg(a b c:Ky)(h:klt a b=false)(g:klt b c=false):klt a c=false:=by
 unfold klt at h g ⊢;by_cases e:a.1=b.1
 ·rw[O6 e]at h;by_cases e2:b.1=c.1
  ·rw[O6 e2]at g;rw[O6 (e.trans e2)];exact Eu _ _ _ h g
  ·rw[O7 e2]at g;rw[O7 (by rw[e];exact e2),e];exact g
 ·rw[O7 e]at h;have h:=x3 h;by_cases e2:b.1=c.1
  ·rw[O7 (by rw[<- e2];exact e),<- e2];exact C3 h
  ·rw[O7 e2]at g;have g:=x3 g;have:a.1≠c.1:=by omega
   rw[O7 this];exact C3 (by omega)
theorem JW(key:Nat->Ky):Ord λ i j=>klt (key i) (key j):=⟨λ a b h=>EE _ _ h,λ a b c h g=>Pg _ _ _ h g⟩
def iJ(K:O8)(b:Bool)(H:Hp)(k:V)(c:Ky):Prop:=∃t m,k=.ref t/\fZ K H t [.int c.1,.ref m]/\Sq b K H m (c.2.map V.int)
section
variable {X:Cx}{pins:List (Addr×Obj)}{σ:St}{H:Hp}{s:Shared}
theorem jA(I:Inv X pins σ H s){b:Bool}{k:V}{c:Ky}{u:Value}(h:iJ X.K b H k c)(r:RelV k u):∃(t m:Addr) (o:Obj) (tk:Tok) (n:Nat) (au:List Value),u=.ref t/\s.heap.get? t=some o/\o.cls=.type "tuple"/\o.data=.seq #[.int c.1 tk,.ref m] n/\xf b s.heap m au.toArray/\IntsAre au c.2:=by obtain⟨t,m,rfl,h1,h2⟩:=h;cases(show u=Value.ref t from r);obtain⟨au,r1,⟨o,ho,hc,n,hd⟩,_⟩:=I.tuple h1;obtain⟨u1,u2,rfl,⟨tk,rfl⟩,q2⟩:=vals2 r1;cases(show u2=Value.ref m from q2);obtain⟨QY,r2,p2⟩:=iQ I h2;exact⟨t,m,o,tk,n,QY,rfl,ho,hc,hd,p2,intsAre_of r2⟩
theorem yT{A:Around}{b:Bool}{m m':Addr}{xs ys:List Value}{ns ms:List Int}(h1:xf b s.heap m xs.toArray)(h2:xf b s.heap m' ys.toArray)(i1:IntsAre xs ns)(i2:IntsAre ys ms)(hu:A.units+1 < cLine):SeqAt.EqAt A s (.ref m) (.ref m') (decide (ns=ms)):=by
 have dp:∀l:List Int,PyData.depthAll (l.map PyData.int)=0:=λ l=>ke_depthAll l;cases b with
 |true=>obtain⟨o,ho,hc,n,hd⟩:=h1;obtain⟨o',kQ,vF,n',gH⟩:=h2;have q:=A2 (.tuple (ns.map .int)) (.tuple (ms.map .int)) A s (.ref m) (.ref m') _ _ (reads_tuple_at ho hc hd (eA i1)) (reads_tuple_at kQ vF gH (eA i2)) (by simp[PyData.canLay0,ke_canLayAll0]) (by simp[PyData.canLay0,ke_canLayAll0]) (by simp[PyData.depth,dp];omega);rw[show PyData.eqv (.tuple (ns.map .int)) (.tuple (ms.map .int))=decide (ns=ms) by simp only[PyData.eqv];exact ked_eqvAll ns ms]at q;exact q
 |false=>obtain⟨o,ho,hc,n,hd⟩:=h1;obtain⟨o',kQ,vF,n',gH⟩:=h2;have q:=A2 (.list (ns.map .int)) (.list (ms.map .int)) A s (.ref m) (.ref m') _ _ (reads_list_at ho hc hd (eA i1)) (reads_list_at kQ vF gH (eA i2)) (by simp[PyData.canLay0,ke_canLayAll0]) (by simp[PyData.canLay0,ke_canLayAll0]) (by simp[PyData.depth,dp];omega);rw[show PyData.eqv (.list (ns.map .int)) (.list (ms.map .int))=decide (ns=ms) by simp only[PyData.eqv];exact ked_eqvAll ns ms]at q;exact q
theorem JK{prog:Program}{w:World}{A:Around}{E:Value->Shared->Prop}{b:Bool}{m m':Addr}{xs ys:List Value}{ns ms:List Int}{Q:Value->Shared->Prop}(h1:xf b s.heap m xs.toArray)(h2:xf b s.heap m' ys.toArray)(i1:IntsAre xs ns)(i2:IntsAre ys ms)(hu:A.units < cLine) (h:Q (.bool (lexLt ns ms)) s):wpAny (model prog w) A (compareOp .Lt (.ref m) (.ref m')) Q E s:=by
 cases b with
 |true=>exact HT.wW (show IsTup s.heap m xs.toArray from h1) (show IsTup s.heap m' ys.toArray from h2) i1 i2 hu h
 |false=>exact Et h1 h2 i1 i2 hu h
theorem Pk{A:Around}(I:Inv X pins σ H s)(hu:A.units+1 < cLine){b:Bool}{k k':V}{c c':Ky}{u u':Value}(h:iJ X.K b H k c)(h':iJ X.K b H k' c')(r:RelV k u)(r':RelV k' u'){C:Bool->Shared->Prop}(hC:C (klt c c') s):wpAny (model X.prog X.w) A (keyLt' (tuples' true) u u') C (λ _ _=>False) s:=by
 obtain⟨t,m,o,tk,n,au,rfl,ho,_,hd,hm,hi⟩:=jA I h r;obtain⟨t',m',o',vy,n',its',rfl,kQ,_,gH,dH,Tt⟩:=jA I h' r';refine kat_lt ho hd kQ gH (kat_cons (SeqAt.EqAt.int_int c.1 tk c'.1 vy X.prog X.w _ _ ?_));unfold klt at hC;by_cases e:c.1=c'.1
 ·rw[O6 e]at hC;rw[show(c.1==c'.1)=true by simp[e]];refine kat_yes (kat_cons (yT hm dH hi Tt hu X.prog X.w _ _ ?_));by_cases e2:c.2=c'.2
  ·rw[E7 e2];rw[e2,lT]at hC;exact kat_yes (kat_nil hC)
  ·rw[C3 e2];exact kat_no (kat_one _ _ (JK hm dH hi Tt (by omega) hC))
 ·rw[O7 e]at hC;rw[show(c.1==c'.1)=false by simp[e]];exact kat_no (oneLt_int hC)
theorem uf(I:Inv X pins σ H s){b:Bool}:∀{aw:List V} {ks:List Value} {key:Nat->Ky},Vals aw ks->(∀i k,aw[i]?=some k->iJ X.K b H k (key i))->∃fs,KatTups s.heap ks fs/\fs.length=ks.length/\∀v∈fs,∃i t,v=Value.int i t
 |_,_,_,.nil,_=>⟨[],KatTups.nil,rfl,λ v hv=>by cases hv⟩
 |_,_,key,.cons (a:=k) r rr,h=>by
  obtain⟨fs,h1,h2,h3⟩:=uf I rr (key:=λ i=>key (i+1)) λ i k hk=>h (i+1) k (by simpa using hk);obtain⟨t,m,o,tk,n,au,rfl,ho,hc,hd,_,_⟩:=jA I (h 0 _ rfl) r;refine⟨.int (key 0).1 tk::fs,KatTups.cons ho hc hd rfl h1,by simp[h2],λ v hv=>?_⟩;rcases J0.mp hv with rfl|hv
  ·exact⟨_,_,rfl⟩
  ·exact h3 v hv
theorem Cg{ys:List V}{au:List Value}(r:Vals ys au)(p:List Nat):Vals (p.map λ i=>ys.getD i V.bu) (p.map λ i=>au.getD i Value.none):=by
 induction p with
 |nil=>exact .nil
 |cons i p ih=>
  refine .cons ?_ ih;show RelV (ys.getD i V.bu) (au.getD i Value.none);cases e:ys[i]? with
  |none=>have e2:=r.none_of e;rw[c7,c7,e,e2];rfl
  |some y=>obtain⟨u,hu,ru⟩:=r.get e;rw[c7,c7,e,hu];exact ru
variable {k:Nat}{q:Addr}{fd:FuncData}{ps:List Str}{sp:Sp}
end
end L2
namespace L5
open PySem
theorem Hc:fillsNumberSlot (.type "tuple") "mul"=pure false:=fillsNumberSlot_seq (id:="tuple.__mul__") (r:=some (.builtin "tuple.__rmul__")) F.slot_tuple_mul.lookup (by decide+kernel) F.slot_tuple_rmul.lookup (by decide+kernel)
theorem Mw:seqRepeat? (.type "tuple")=pure (some (.builtin "tuple.__mul__")):=by unfold seqRepeat?;rw[seqSlot_of (T:="tuple") (name:="__mul__") (id:="tuple.__mul__") F.slot_tuple_mul.lookup (by decide+kernel),seqSlot_of (T:="tuple") (name:="__rmul__") (id:="tuple.__rmul__") F.slot_tuple_rmul.lookup (by decide+kernel)];rfl
theorem My(a:Int)(t:Tok)(l:Addr)(au:Array Value)(n:Nat)(dd:Option Addr)(sl:Array (Option Value)):Meets (Builtin.«int.__rmul__» ⟨[.int a t,.ref l],[]⟩) (λ _ R s=>s.heap.get? l=some {cls:=.type "tuple",dict:=dd,data:=.seq au n,slots:=sl}/\R (.ok (.ret Value.notImplemented)) s):=
 .of_wp λ prog w A R s h=>by
  obtain⟨hp,g,d,tk,os⟩:=s;obtain⟨hl,h⟩:=h
  wp_walk
  exact⟨_,rfl,h⟩
theorem Mx(l:Addr)(au:Array Value)(n:Nat)(dd:Option Addr)(sl:Array (Option Value))(u:Tok):Meets (Builtin.«tuple.__mul__» ⟨[.ref l,.int 1 u],[]⟩) (λ _ R s=>s.heap.get? l=some {cls:=.type "tuple",dict:=dd,data:=.seq au n,slots:=sl}/\R (.ok (.ret (.ref l))) s):=
 .of_wp λ prog w A R s h=>by
  obtain⟨hp,g,d,tk,os⟩:=s;obtain⟨hl,h⟩:=h
  wp_walk
  exact⟨_,rfl,h⟩
theorem Hb(l:Addr)(au:Array Value)(n:Nat)(dd:Option Addr)(sl:Array (Option Value))(x:Int)(u:Tok)(hx:x≠1)(h1: -(2^63)<=x)(h2:x < 2^63)(hi:au.isEmpty=false)(hz:au.size*x.toNat<=sizeLine):
  Meets (Builtin.«tuple.__mul__» ⟨[.ref l,.int x u],[]⟩) (λ _ R s=>s.heap.get? l=some {cls:=.type "tuple",dict:=dd,data:=.seq au n,slots:=sl}/\
   R (.ok (.ret (.ref s.heap.objs.size))) {s with heap:=s.heap.push {cls:=.type "tuple",data:=.seq ((List.replicate x.toNat au).foldl (·++·) #[])}}):=
 .of_wp λ prog w A R s h=>by
  obtain⟨hp,g,d,tk,os⟩:=s;obtain⟨hl,h⟩:=h
  wp_walk
  rw[O7 (by simp;omega)]
  wp_walk
  by_cases W4:x<=0
  ·rw[O6 (by simp[W4])]
   wp_walk
   have e:x.toNat=0:=by omega
   rw[e]at h;exact⟨_,rfl,h⟩
  ·rw[O7 (by simp[hi];omega)];have ez:((au.size:Int)*x)=((au.size*x.toNat:Nat):Int):=by rw[Int.natCast_mul,Int.toNat_of_nonneg (by omega)]
   have WX:=hz;rw[L9]at WX;rw[O7 (by rw[ez];omega)]
   wp_walk
   rw[O7 (by unfold Builtin.Tuple.tupleTooMany;rw[ez,y2,L9];omega)];have hsz:(List.foldl (λ x1 x2=>x1++x2) #[] (List.replicate x.toNat au)).size<=sizeLine:=by
    have f0:∀(m:Nat) (acc:Array Value),(List.foldl (λ x1 x2=>x1++x2) acc (List.replicate m au)).size=acc.size+m*au.size:=by
     intro m
     induction m with
     |zero=>intro acc;simp
     |succ m ih=>intro acc;rw[p8,foldl_cons,ih,Array.size_append,Nat.succ_mul];omega
    rw[f0,Nat.mul_comm];simpa using hz
   wp_walk
   exact⟨_,rfl,h⟩
end L5
namespace L2
open PySem PySem.Spec PyProof.Rows L5
section
variable {X:Cx}
theorem xW(ns:List Int):∀n,n<=ns.length->preSum (λ i=>ns.getD i 0) n=(ns.take n).sum
 |0,_=>by simp[preSum]
 |n+1,h=>by
  have hn:n < ns.length:=by omega
  rw[preSum,xW ns n (by omega),take_succ_eq_append_getElem hn,D9];simp[c7,hn]
theorem oU(hc:X.calm=true):cK X (.builtin "sum") (λ xs H Q=>∃(b:Bool) (p:Addr) (ns:List Int),xs=[.ref p]/\Sq b X.K H p (ns.map V.int)/\Q (.int ns.sum) H):=by
 intro pins s σ H xs us Q I r h;obtain⟨b,p,ns,rfl,hq,q⟩:=h;obtain⟨u,rfl,r1⟩:=vals1 r;cases r1;obtain⟨au,rv,pl⟩:=iQ I hq;have hi:IntsAre au ns:=intsAre_of rv;have hlen:au.length=ns.length:=by rw[<- rv.length,D3]
 have hA:X.A.in1.handled=none:=I.ok.hd hc;have hv:∀i v,au.toArray[i]?=some v->∃t,v=Value.int (ns.getD i 0) t:=λ i v e=>by
  have e:au[i]?=some v:=by simpa using e
  have h1:i < ns.length:=by rw[<- hlen];exact(i5.mp e).1
  obtain⟨t,e2⟩:=iw hi h1;rw[e]at e2;cases e2;exact⟨t,by simp[c7,h1]⟩
 have ht:preSum (λ i=>ns.getD i 0) au.toArray.size=ns.sum:=by rw[z9,hlen,xW ns _ (L8 _),A8]
 cases b with
 |false=>
  have pl:s.heap.IsList p au.toArray:=pl;have fW:p≠s.heap.objs.size:=by obtain⟨o,e,_⟩:=pl;exact K1 (K2 e)
  refine call_sum_walkG (y8 pl ⟨s.heap.objs.size,_,_,_,_,_,λ i=>ns.getD i 0,rfl,Walks.list hA s.heap.objs.size p fW au.toArray,⟨⟨_,q8 _ rfl,rfl,rfl⟩,pl.at λ o e=>j7 _ e⟩,?_,hv,λ h' tk t' hk=>?_⟩)
  ·intro b hb;have:s.heap.objs.size < (s.heap.push {cls:=.type "list_iterator",data:=.fields #[.ref p,.int 0 0]}).objs.size:=by rw[E9];omega
   obtain⟨o,e,_⟩:=pl;have h2:=K2 e;simp at hb;rcases hb with rfl|rfl
   ·exact this
   ·exact Nat.lt_trans h2 this
  ·rw[ht];exact⟨.int ns.sum,H,I.kept (t':=tk) λ b o e=>hk b o (by simpa using K1 (K2 e)) (j7 _ e),⟨_,rfl⟩,q⟩
 |true=>
  have pl:s.heap.IsTuple p au.toArray:=pl;have fW:p≠s.heap.objs.size:=by obtain⟨o,e,_⟩:=pl;exact K1 (K2 e)
  refine call_sum_walkG (wpAny_pyIter_tuple pl ⟨s.heap.objs.size,_,_,_,_,_,λ i=>ns.getD i 0,rfl,Walks.tuple hA s.heap.objs.size p fW au.toArray,⟨⟨_,q8 _ rfl,rfl,rfl⟩,tT.keep pl λ o e=>j7 _ e⟩,?_,hv,λ h' tk t' hk=>?_⟩)
  ·intro b hb;have:s.heap.objs.size < (s.heap.push {cls:=.type "tuple_iterator",data:=.fields #[.ref p,.int 0 0]}).objs.size:=by rw[E9];omega
   obtain⟨o,e,_⟩:=pl;have h2:=K2 e;simp at hb;rcases hb with rfl|rfl
   ·exact this
   ·exact Nat.lt_trans h2 this
  ·rw[ht];exact⟨.int ns.sum,H,I.kept (t':=tk) λ b o e=>hk b o (by simpa using K1 (K2 e)) (j7 _ e),⟨_,rfl⟩,q⟩
theorem Ji:eQ X (binaryOp .Mult) (λ x y H Q=>∃l k xs,x=.ref l/\y=.int k/\fZ X.K H l xs/\xs≠[]/\-(2^63)<=k/\k < 2^63/\xs.length*k.toNat<=sizeLine/\(k=1->Q (.ref l) H)/\(k≠1->∀p,H p=none->Q (.ref p) (upd H p (.tup (List.replicate k.toNat xs).flatten)))):=by
 intro pins s σ H x y v u Q I rx ry h;obtain⟨l,k,xs,rfl,rfl,hH,fW,h1,h2,hz,q1,q2⟩:=h;cases rx;obtain⟨t,rfl⟩:=ry;obtain⟨au,r,⟨⟨c,dd,da,sl⟩,e,hc,n,hd⟩,_⟩:=I.tuple hH;have hl:=r.length;cases(show c=.type "tuple" from hc);cases(show da=.seq au.toArray n from hd);refine wpAny_binaryOp_repeat_ref (T:="tuple") (U:="int") (by decide) ⟨_,e,rfl⟩ (λ s'=>typeIs_int s' k t) Hc F.fills_int_mul F.slot_int_rmul Mw F.slot_int_index.lookup
  (N9 F.slot_int_rmul (typeIs_int s k t) F.entry_int_rmul (F.args_int_rmul_2 _ _) (My k t l au.toArray n dd sl) ⟨e,rfl,⟨_,e,rfl⟩,?_⟩)
 by_cases hk:k=1
 ·subst hk;exact N9 F.slot_tuple_mul ⟨_,e,rfl⟩ F.entry_tuple_mul (F.args_tuple_mul_2 _ _) (Mx l au.toArray n dd sl t) ⟨e,.ref l,H,I,rfl,q1 rfl⟩
 ·refine N9 F.slot_tuple_mul ⟨_,e,rfl⟩ F.entry_tuple_mul (F.args_tuple_mul_2 _ _) (Hb l au.toArray n dd sl k t hk h1 h2 ?_ (by rw[z9,<- hl];exact hz)) ⟨e,?_⟩
  ·cases au with
   |nil=>cases r;exact absurd rfl fW
   |cons a b=>rfl
  ·have PL:List.foldl (λ x1 x2=>x1++x2) #[] (List.replicate k.toNat au.toArray)=(List.replicate k.toNat au).flatten.toArray:=by have:=foldl_rep au k.toNat [];rw[nil_append]at this;exact this
   rw[PL];have fr:=I.fresh;refine⟨.ref s.heap.objs.size,_,I.laid (t':=s.toks) (o:=.tup (List.replicate k.toNat xs).flatten) (λ b o e=>j7 _ e) (L8 _) ⟨?_,_,r.rep k.toNat,⟨_,q8 _ rfl,rfl,_,rfl⟩⟩,rfl,q2 hk _ fr⟩;rw[len_rep,Nat.mul_comm];exact hz
end
end L2
namespace L3
open PySem PySem.Spec L2 L5 PyProof.Rows
mutual
def toP:D->PyData
 | .bu=>.none
 | .bl b=>.bool b
 | .int i=>.int i
 | .str x=>.str x
 | .ty _=>.none
 | .ref _=>.none
 | .tup ds=>.tuple (toPs ds)
 | .fl ds=>.list (toPs ds)
def toPs:List D->List PyData
 |[]=>[]
 |d::ds=>toP d::toPs ds
end
mutual
def nr:D->Bool
 | .bu=>true
 | .bl _=>true
 | .int _=>true
 | .str _=>true
 | .ty _=>false
 | .ref _=>false
 | .tup ds=>q_ ds
 | .fl ds=>q_ ds
def q_:List D->Bool
 |[]=>true
 |d::ds=>nr d&&q_ ds
end
section
variable {X:Cx}{pins:List (Addr×Obj)}{σ:L2.St}{H:Hp}{s:Shared}
mutual
theorem Vc(I:Inv X pins σ H s):∀(d:D) {x:V} {u:Value},nr d=true->Dat X.K H d x->RelV x u->∃as,Reads s.heap u (toP d) as
 | .bu,x,u,_,h,r=>by cases(dh.mp h);cases r;unfold toP;exact⟨_,Reads.none⟩
 | .bl b,x,u,_,h,r=>by cases(aN.mp h);cases r;unfold toP;exact⟨_,Reads.bool b⟩
 | .int i,x,u,_,h,r=>by cases(aB.mp h);obtain⟨t,rfl⟩:=r;unfold toP;exact⟨_,Reads.int i t⟩
 | .str z,x,u,_,h,r=>by cases(aS.mp h);obtain⟨t,rfl⟩:=r;unfold toP;exact⟨_,Reads.str z t⟩
 | .ty _,x,u,n,h,r=>by unfold nr at n;cases n
 | .ref _,x,u,n,h,r=>by unfold nr at n;cases n
 | .tup ds,x,u,n,h,r=>by unfold nr at n;obtain⟨p,xs,rfl,hq,hd⟩:=aQ.mp h;cases(show u=Value.ref p from r);obtain⟨au,rv,⟨o,ho,hc,m,rG⟩,_⟩:=I.tuple hq;obtain⟨as,ra⟩:=wu I ds n hd rv;unfold toP;exact⟨_,reads_tuple_at ho hc rG ra⟩
 | .fl ds,x,u,n,h,r=>by unfold nr at n;obtain⟨p,xs,rfl,hq,hd⟩:=iT.mp h;cases(show u=Value.ref p from r);obtain⟨au,rv,pl,_⟩:=I.list hq.sq;obtain⟨o,ho,hc,m,rG⟩:=pl.isList;obtain⟨as,ra⟩:=wu I ds n hd rv;unfold toP;exact⟨_,reads_list_at ho hc rG ra⟩
theorem wu(I:Inv X pins σ H s):∀(ds:List D) {xs:List V} {us:List Value},q_ ds=true->aE X.K H ds xs->Vals xs us->∃as,ReadsAll s.heap us (toPs ds) as
 |[],xs,us,_,h,r=>by cases(aq.mp h);cases r;unfold toPs;exact⟨_,ReadsAll.nil⟩
 |d::ds,xs,us,n,h,r=>by
  unfold q_ at n;rw[B1]at n;obtain⟨x,Mi,rfl,h1,h2⟩:=ag.mp h;cases r with
  |cons r1 r2=>obtain⟨as,a⟩:=Vc I d n.1 h1 r1;obtain⟨bs,b⟩:=wu I ds n.2 h2 r2;unfold toPs;exact⟨_,ReadsAll.cons a b⟩
end
end
def Rf(K:O8)(H:Hp)(x:V)(a:PyData):Prop:=(∃d,nr d=true/\Dat K H d x/\toP d=a)\/∃p ds xs,x=.ref p/\dF K H p xs/\aE K H ds xs/\q_ ds=true/\a=.list (toPs ds)
def tM(M:Mem)(d:D):Option PyData:=match d with
 | .ref a=>match M a with
  |some (.lst ds)=>if q_ ds=true then some (.list (toPs ds))else none
  |_=>none
 |d=>if nr d=true then some (toP d)else none
theorem lN{K:O8}{H:Hp}{M:Mem}{d:D}{x:V}{a:PyData}(e:tM M d=some a)(h:Dat K H d x)(hm:RelM K H M):Rf K H x a:=by
 cases d with
 |ref p=>
  cases(aO.mp h);unfold tM at e;cases q:M p with
  |none=>simp[q]at e
  |some o=>
   cases o with
   |jb b aw=>simp[q]at e
   |lst ds=>
    simp only[q]at e;by_cases n:q_ ds=true
    ·rw[O6 n]at e;cases e;obtain⟨xs,hx,hd⟩:=hm p _ q;exact .inr ⟨p,ds,xs,rfl,dF.of hx,hd,n,rfl⟩
    ·rw[O7 n]at e;cases e
 |bu=>exact .inl ⟨_,rfl,h,by simpa[tM,nr]using e⟩
 |bl _=>exact .inl ⟨_,rfl,h,by simpa[tM,nr]using e⟩
 |int _=>exact .inl ⟨_,rfl,h,by simpa[tM,nr]using e⟩
 |str _=>exact .inl ⟨_,rfl,h,by simpa[tM,nr]using e⟩
 |ty _=>simp[tM,nr]at e
 |tup ds=>
  by_cases n:q_ ds=true
  ·exact .inl ⟨.tup ds,by unfold nr;exact n,h,by simpa[tM,nr,n]using e⟩
  ·simp[tM,nr,n]at e
 |fl ds=>
  by_cases n:q_ ds=true
  ·exact .inl ⟨.fl ds,by unfold nr;exact n,h,by simpa[tM,nr,n]using e⟩
  ·simp[tM,nr,n]at e
section
variable {X:Cx}
theorem il{pins:List (Addr×Obj)}{σ:L2.St}{H:Hp}{s:Shared}(I:Inv X pins σ H s){x:V}{u:Value}{a:PyData}(h:Rf X.K H x a)(r:RelV x u):∃as,Reads s.heap u a as:=by
 rcases h with⟨d,n,hd,rfl⟩|⟨p,ds,xs,rfl,hq,hd,n,rfl⟩
 ·exact Vc I d n hd r
 ·cases(show u=Value.ref p from r);obtain⟨au,rv,pl,_⟩:=I.list hq;obtain⟨o,ho,hc,m,rG⟩:=pl.isList;obtain⟨as,ra⟩:=wu I ds n hd rv;exact⟨_,reads_list_at ho hc rG ra⟩
def X7(neg:Bool):eU:=λ x y M Q=>∃a b,tM M x=some a/\tM M y=some b/\SeqAt.shaped a=true/\SeqAt.shaped b=true/\Q (.bl (if neg then !PyData.eqv a b else PyData.eqv a b)) M
theorem OM(hu:X.A.units+64 < cLine):eQ X (compareOp .Eq) (λ x y H Q=>∃a b,Rf X.K H x a/\Rf X.K H y b/\SeqAt.shaped a=true/\SeqAt.shaped b=true/\Q (.bl (PyData.eqv a b)) H):=by intro pins s σ H x y v u Q I rx ry h;obtain⟨a,b,ha,hb,sa,sb,q⟩:=h;obtain⟨as,ra⟩:=il I ha rx;obtain⟨bs,rb⟩:=il I hb ry;exact eq_dataH ra rb sa sb hu ⟨.bl (PyData.eqv a b),H,I,rfl,q⟩
theorem OG(hu:X.A.units+64 < cLine):eQ X (compareOp .NotEq) (λ x y H Q=>∃a b,Rf X.K H x a/\Rf X.K H y b/\SeqAt.shaped a=true/\SeqAt.shaped b=true/\Q (.bl (!PyData.eqv a b)) H):=by intro pins s σ H x y v u Q I rx ry h;obtain⟨a,b,ha,hb,sa,sb,q⟩:=h;obtain⟨as,ra⟩:=il I ha rx;obtain⟨bs,rb⟩:=il I hb ry;exact ne_dataH ra rb sa sb hu ⟨.bl (!PyData.eqv a b),H,I,rfl,q⟩
theorem eP.or {f:Value->Value->Sem Value}{r r':eU}(h:eP X f r)(h':eP X f r'):eP X f (λ x y M Q=>r x y M Q\/r' x y M Q):=by
 obtain⟨a,h1,h2⟩:=h;obtain⟨b,g1,g2⟩:=h';refine⟨_,h1.or g1,λ x y d e H M Q2 Q hd he hm q k=>?_⟩;rcases q with q|q
 ·exact .inl (h2 x y d e H M Q2 Q hd he hm q k)
 ·exact .inr (g2 x y d e H M Q2 Q hd he hm q k)
def oP(neg:Bool):eU:=λ x y M Q=>Ma neg x y M Q\/X7 neg x y M Q
theorem gA(hu:X.A.units+64 < cLine):eP X (compareOp .Eq) (oP false):=Wr.or ⟨_,OM hu,λ x y d e H M Q2 Q hd he hm q k=>by
 obtain⟨a,b,ha,hb,sa,sb,q⟩:=q;exact⟨a,b,lN ha hd hm,lN hb he hm,sa,sb,k _ H _ M (aN.mpr rfl) hm (ao.refl H) q⟩⟩
theorem mV(hu:X.A.units+64 < cLine):eP X (compareOp .NotEq) (oP true):=Wo.or ⟨_,OG hu,λ x y d e H M Q2 Q hd he hm q k=>by
 obtain⟨a,b,ha,hb,sa,sb,q⟩:=q;exact⟨a,b,lN ha hd hm,lN hb he hm,sa,sb,k _ H _ M (aN.mpr rfl) hm (ao.refl H) q⟩⟩
def FV:D->List D->Mem->bF->Prop:=λ x vs M Q=>∃p ds y,x=.ref p/\vs=[y]/\M p=some (.lst ds)/\q_ ds=true/\nr y=true/\PyData.canLayAll0 (toPs ds)=true/\(toP y).canLay0=true/\(toP y).depth < 60/\Q (.int (ds.countP λ d=>PyData.eqv (toP d) (toP y):Nat)) M
theorem uZ{A:Around}{s:Shared}{v:Value}{y:PyData}{bs:List Addr}(ry:Reads s.heap v y bs)(cy:y.canLay0=true)(hu:A.units+y.depth < cLine):∀{ds:List D} {us:List Value} {as:List Addr},ReadsAll s.heap us (toPs ds) as->PyData.canLayAll0 (toPs ds)=true->
  ∃e:Value->Bool,(∀u∈us,SeqAt.EqAt A s u v (e u))/\us.countP e=ds.countP λ d=>PyData.eqv (toP d) y:=by
 intro ds us as ra cl;refine⟨λ u=>PyData.eqv (SeqAt.readOf s.heap u) y,λ u Q0=>?_,?_⟩
 ·obtain⟨d,Zt,rd,cd,_⟩:=SeqAt.readsAll_mem _ _ _ cl ra u Q0;have e:=SeqAt.readOf_eq cd rd;dsimp only;rw[e];exact A2 d y A s u v _ _ rd ry cd cy (by omega)
 ·have e:=SeqAt.readsAll_map _ _ _ cl ra;have f:∀(us:List Value) (ds:List D),us.map (SeqAt.readOf s.heap)=toPs ds->us.countP (λ u=>PyData.eqv (SeqAt.readOf s.heap u) y)=ds.countP λ d=>PyData.eqv (toP d) y:=by
   intro us
   induction us with
   |nil=>
    intro ds q;cases ds with
    |nil=>rfl
    |cons d r=>unfold toPs at q;cases q
   |cons u us ih=>
    intro ds q;cases ds with
    |nil=>unfold toPs at q;cases q
    |cons d r=>
     unfold toPs at q;rw[H9]at q;injection q with q1 q2
     rw[countP_cons,countP_cons,ih r q2,q1]
  exact f us ds e
theorem JI(hu:X.A.units+64 < cLine):QC X "list.count" FV:=⟨λ x vs H Q=>∃p ds xs d y,x=.ref p/\vs=[y]/\dF X.K H p xs/\aE X.K H ds xs/\Dat X.K H d y/\q_ ds=true/\nr d=true/\PyData.canLayAll0 (toPs ds)=true/\(toP d).canLay0=true/\(toP d).depth < 60/\Q (.int (ds.countP λ e=>PyData.eqv (toP e) (toP d):Nat)) H,by
  intro pins s σ H x xs v us Q I rx rv h;obtain⟨p,ds,zs,d,y,rfl,rfl,hq,hd,hy,n1,n2,c1,c2,dp,q⟩:=h;cases(show v=Value.ref p from rx);obtain⟨u,rfl,ru⟩:=rv.one;obtain⟨au,rz,pl,_⟩:=I.list hq;obtain⟨as,ra⟩:=wu I ds n1 hd rz;obtain⟨bs,rb⟩:=Vc I d n2 hy ru;obtain⟨e,e1,e2⟩:=uZ (A:=X.A.in1) rb c2 (by show X.A.units+1+_ < _;omega) ra c1;obtain⟨⟨c,dd,da,sl⟩,ho,hc,n,rG⟩:=pl.isList;cases(show c=.type "list" from hc);cases(show da=.seq au.toArray n from rG);refine N9 PySem.F.slot_list_count ⟨_,ho,rfl⟩ PySem.F.entry_list_count (PySem.F.args_list_count_2 _ _) (SeqAt.list_countAt p au.toArray n dd sl u e) ⟨ho,λ y hy=>e1 y (by simpa using hy),?_⟩;rw[show au.toArray.toList=au from rfl,e2];exact⟨.int _,H,I.tok _,⟨_,rfl⟩,q⟩,λ x xs d ds H M Q2 Q hx hd hm q k=>by
  obtain⟨p,es,y,rfl,rfl,hM,n1,n2,c1,c2,dp,q⟩:=q;cases(aO.mp hx);obtain⟨v,r,rfl,hv,hr⟩:=ag.mp hd;cases(aq.mp hr);obtain⟨zs,hz,gH⟩:=hm p _ hM;exact⟨p,es,zs,y,v,rfl,rfl,dF.of hz,gH,hv,n1,n2,c1,c2,dp,k _ H _ M (aB.mpr rfl) hm (ao.refl H) q⟩⟩
def zc:D->List D->Mem->bF->Prop:=λ x vs M Q=>∃p ds y,x=.ref p/\vs=[y]/\M p=some (.lst ds)/\ds.length < sizeLine/\Q .bu (ay M p (.lst (ds++[y])))
theorem gZ:QC X "list.append" zc:=⟨yj,AB,λ x xs d ds H M Q2 Q hx hd hm q k=>by
 obtain⟨p,es,y,rfl,rfl,hM,hz,q⟩:=q;cases(aO.mp hx);obtain⟨v,r,rfl,hv,hr⟩:=ag.mp hd;cases(aq.mp hr);obtain⟨zs,h1,h2⟩:=hm p _ hM;have t:=ao.lst (o:=.lst (zs++[v])) h1;refine⟨p,zs,v,rfl,rfl,h1,by rw[h2.length];exact hz,k _ _ .bu _ (dh.mpr rfl) (hm.put (u:=.lst (es++[y])) t ⟨_,aJ,?_⟩) t q⟩;exact(aE.mono t es h2).append (aE.one (Dat.mono t y hv))⟩
theorem cR{K:O8}{H:Hp}:∀{ns:List Int} {xs:List V},aE K H (ns.map D.int) xs->xs=ns.map V.int
 |[],xs,h=>by rw[map_nil,aq]at h;exact h
 |b::bs,xs,h=>by rw[H9,ag]at h;obtain⟨x,r,rfl,a,q⟩:=h;rw[aB]at a;rw[a,cR q];rfl
def Qi:List D->Mem->bF->Prop:=λ xs M Q=>∃(x:D) (ds:List D) (ns:List Int),xs=[x]/\cL M x=some ds/\ds=ns.map D.int/\Q (.int ns.sum) M
theorem qc(hc:X.calm=true):dr X (.builtin "sum") Qi:=⟨_,oU hc,λ xs ds H M Q2 Q hd hm q k=>by
 obtain⟨x,es,ns,rfl,e,rfl,q⟩:=q;obtain⟨v,r,rfl,hv,hr⟩:=ag.mp hd;cases(aq.mp hr);obtain⟨p,ys,rfl,h,hy⟩:=fH e hv hm;rw[cR hy]at h;rcases h with h|h
 ·exact⟨false,p,ns,rfl,h,k _ H _ M (aB.mpr rfl) hm (ao.refl H) q⟩
 ·exact⟨true,p,ns,rfl,h,k _ H _ M (aB.mpr rfl) hm (ao.refl H) q⟩⟩
def Ub:List D->Mem->bF->Prop:=λ xs M Q=>∃i j,xs=[.int i,.int j]/\Q (.int (if j < i then j else i)) M
theorem Ur(hc:X.calm=true):dr X (.builtin "min") Ub:=⟨_,Br hc,λ xs ds H M Q2 Q hd hm q k=>by
 obtain⟨i,j,rfl,q⟩:=q;obtain⟨v,r,rfl,hv,hr⟩:=ag.mp hd;obtain⟨v2,r2,rfl,W9,BG⟩:=ag.mp hr;cases(aq.mp BG);cases(aB.mp hv);cases(aB.mp W9);exact⟨i,j,rfl,k _ H _ M (aB.mpr rfl) hm (ao.refl H) q⟩⟩
def Ua:eU:=λ x y M Q=>∃ds k,x=.tup ds/\y=.int k/\ds≠[]/\-(2^63)<=k/\k < 2^63/\ds.length*k.toNat<=sizeLine/\Q (.tup (List.replicate k.toNat ds).flatten) M
theorem nR{K:O8}{H:Hp}{ds:List D}{xs:List V}(h:aE K H ds xs):∀k:Nat,aE K H (List.replicate k ds).flatten (List.replicate k xs).flatten
 |0=>by simp[aq]
 |k+1=>by rw[p8,p8,y6,y6];exact h.append (nR h k)
def uT:eU:=λ x y M Q=>KN x y M Q\/Ua x y M Q
theorem OU:eP X (binaryOp .Mult) uT:=Sx.or ⟨_,Ji,λ x y d e H M Q2 Q hd he hm q k=>by
 obtain⟨ds,n,rfl,rfl,fW,h1,h2,hz,q⟩:=q;obtain⟨p,xs,rfl,hq,hx⟩:=aQ.mp hd;cases(aB.mp he);refine⟨p,n,xs,rfl,rfl,hq,λ z=>?_,h1,h2,by rw[hx.length];exact hz,λ e1=>?_,λ _ l hl=>?_⟩
 ·have:=hx.length;rw[z]at this;exact fW (j4.mp this.symm)
 ·subst e1;rw[show(1:Int).toNat=1 from rfl,show(List.replicate 1 ds).flatten=ds by simp]at q;exact k _ H _ M (aQ.mpr ⟨p,xs,rfl,hq,hx⟩) hm (ao.refl H) q
 ·exact k _ _ (.tup _) M (ij hl (nR hx _)) (hm.laid hl) (ao.laid hl) q⟩
end
end L3
namespace L3
open PySem PySem.Spec L2 L5
def Ll(b:Bool)(M:Mem)(k:D)(c:Ky):Prop:=match b with
 |true=>k=.tup [.int c.1,.tup (c.2.map D.int)]
 |false=>∃m,k=.tup [.int c.1,.ref m]/\M m=some (.lst (c.2.map D.int))
theorem Ll.v {K:O8}{H:Hp}{M:Mem}{b:Bool}{k:D}{c:Ky}{v:V}(h:Ll b M k c)(r:Dat K H k v)(hm:RelM K H M):iJ K b H v c:=by
 cases b with
 |true=>cases(show k=_ from h);obtain⟨p,xs,rfl,hq,hd⟩:=aQ.mp r;obtain⟨x1,r1,rfl,h1,hd⟩:=ag.mp hd;obtain⟨x2,r2,rfl,h2,hd⟩:=ag.mp hd;cases(aq.mp hd);cases(aB.mp h1);obtain⟨p2,ys,rfl,Kk,hd2⟩:=aQ.mp h2;rw[cR hd2]at Kk;exact⟨p,p2,rfl,hq,Kk⟩
 |false=>obtain⟨m,rfl,hM⟩:=h;obtain⟨p,xs,rfl,hq,hd⟩:=aQ.mp r;obtain⟨x1,r1,rfl,h1,hd⟩:=ag.mp hd;obtain⟨x2,r2,rfl,h2,hd⟩:=ag.mp hd;cases(aq.mp hd);cases(aB.mp h1);cases(aO.mp h2);obtain⟨ys,hy,hd2⟩:=hm m _ hM;rw[cR hd2]at hy;exact⟨p,m,rfl,hq,dF.of hy⟩
theorem pV{K:O8}{H:Hp}{ds:List D}{xs:List V}(h:aE K H ds xs):∀p:List Nat,aE K H (p.map λ i=>ds.getD i D.bu) (p.map λ i=>xs.getD i V.bu)
 |[]=>by simp[aq]
 |i::p=>by
  rw[H9,H9,ag];refine⟨_,_,rfl,?_,pV h p⟩;cases e:ds[i]? with
  |none=>
   have e2:xs[i]?=none:=by have:=h.length;have:=i6.mp e;exact l4 (by omega)
   rw[c7,c7,e,e2];exact dh.mpr rfl
  |some d=>obtain⟨x,e2,hx⟩:=h.get e;rw[c7,c7,e,e2];exact hx
end L3
namespace L3
open PySem PySem.Spec L2 L5
section
variable {M:Mem}{Q:bF}
theorem Ib{i j:Int}(q:Q (.bl (decide (i=j))) M):oP false (.int i) (.int j) M Q:=.inl (NC q)
theorem Ic{i j:Bool}(q:Q (.bl (decide (i=j))) M):oP false (.bl i) (.bl j) M Q:=.inl (ND q)
theorem Ia{i j:Str}(q:Q (.bl (decide (i=j))) M):oP false (.str i) (.str j) M Q:=.inl (NB q)
theorem HK{i j:Int}(q:Q (.bl (!decide (i=j))) M):oP true (.int i) (.int j) M Q:=.inl (Nn q)
theorem HL{i j:Bool}(q:Q (.bl (!decide (i=j))) M):oP true (.bl i) (.bl j) M Q:=.inl (Np q)
theorem Dc{i j:Int}(h:sk i j)(q:Q (.int (i*j)) M):uT (.int i) (.int j) M Q:=.inl (HP h q)
theorem C_{i:Str}{j:Int}(h:MulOk i j)(q:Q (.str (Txt.mul i j)) M):uT (.str i) (.int j) M Q:=.inl (HN h q)
theorem CZ{d:D}{k:Int}(h0:0<=k)(h1:k<=10000)(q:Q (.tup (List.replicate k.toNat d)) M):uT (.tup [d]) (.int k) M Q:=.inr ⟨[d],k,rfl,rfl,by simp,Int.le_trans (by decide) h0,x5 h1 (by decide),K5 (show 1*k.toNat<=10000 by omega) (by decide),by
 rw[show(List.replicate k.toNat [d]).flatten=List.replicate k.toNat d by simp];exact q⟩
theorem Nr{i j:Int}(q:Q (.int (if j < i then j else i)) M):Ub [.int i,.int j] M Q:=⟨i,j,rfl,q⟩
theorem lM{ns:List Int}(q:Q (.int ns.sum) M):Qi [.tup (ns.map D.int)] M Q:=⟨_,_,ns,rfl,rfl,rfl,q⟩
theorem mP{p:Addr}{ds:List D}{y:D}(h:M p=some (.lst ds))(hz:ds.length < sizeLine)(q:Q .bu (ay M p (.lst (ds++[y])))):zc (.ref p) [y] M Q:=⟨p,ds,y,rfl,rfl,h,hz,q⟩
abbrev row(ns:List Int):D:=.tup (ns.map D.int)
theorem toPs_ints:∀ns:List Int,toPs (ns.map D.int)=ns.map PyData.int
 |[]=>rfl
 |n::ns=>by rw[H9];unfold toPs;rw[toPs_ints ns];unfold toP;rfl
theorem tR:∀ns:List Int,q_ (ns.map D.int)=true
 |[]=>rfl
 |n::ns=>by rw[H9];unfold q_;rw[tR ns];rfl
theorem Hy{i j:Nat}{a b:D}{δ:cV}{N:cV->Mem->Prop}(h:N ((δ.set i (some a)).set j (some b)) M):AV 2 (iG (hName i) (iG (hName j) AW)) (.tup [a,b]) δ M N:=⟨rfl,h⟩
theorem Dg{A B:Prop}(h:B):if(!true)=true then A else B:=by rw[Bool.not_true,O7 u3];exact h
theorem Dh{A B:Prop}(h:A):if(!false)=true then A else B:=by rw[Bool.not_false,O6 rfl];exact h
theorem CU{c:dX}{tb:hZ}{E:dG}{δ:cV}(h:∃W:Nat->cV->Mem->Prop,(∃m,W m δ M)/\∀m δ M,W m δ M->c δ M λ b M1=>
  if b=true then ∃N:cV->Mem->Prop,(∀δ' M',N δ' M'->∃m',m' < m/\W m' δ' M')/\tb {E with nx:=N,ct:=N,bk:=E.nx} δ M1 else E.nx δ M1):wg c tb E δ M:=h
theorem zh{g:fX}{tt:dX}{te:bX}{δc:cV}{M1:Mem}{Qe:List D->Mem->Prop}{a:Addr}{ds:List D}(Pv:Nat->List D->Mem->Prop)(h0:Pv 0 [] M1)(hl:∀i acc M,i<=ds.length->Pv i acc M->M a=some (.lst ds))(hz:∀i acc M,i<=ds.length->Pv i acc M->acc.length<=sizeLine) (hs:∀i d acc M,ds[i]?=some d->Pv i acc M->g d δc M λ δ2 M2=>tt δ2 M2 λ b M3=>if b=true then te δ2 M3 λ y M4=>Pv (i+1) (acc++[y]) M4 else Pv (i+1) acc M3) (hd:∀acc M,Pv ds.length acc M->Qe acc M):∃(B:Nat) (W:Nat->List D->Mem->Prop),W 0 [] M1/\∀i acc M,W i acc M->i<=B/\acc.length<=sizeLine/\match items (.at a) M with
   |none=>False
   |some ds=>match ds[i]? with
    |none=>i=ds.length/\Qe acc M
    |some d=>g d δc M λ δ2 M2=>tt δ2 M2 λ b M3=>if b=true then te δ2 M3 λ y M4=>W (i+1) (acc++[y]) M4 else W (i+1) acc M3:=by
 refine⟨ds.length,λ i acc M=>if i<=ds.length then Pv i acc M else False,by dsimp only;rw[O6 (N3 _)];exact h0,?_⟩;intro i acc M w;by_cases hi:i<=ds.length
 ·rw[O6 hi]at w;refine⟨hi,hz i acc M hi w,?_⟩;have e0:items (.at a) M=some ds:=by show(match M a with|some (.lst ds)=>some ds|_=>none)=some ds;rw[hl i acc M hi w]
  rw[e0];show(match ds[i]? with
    |none=>i=ds.length/\Qe acc M
    |some d=>g d δc M λ δ2 M2=>tt δ2 M2 λ b M3=>if b=true then te δ2 M3 λ y M4=>(if i+1<=ds.length then Pv (i+1) (acc++[y]) M4 else False)else(if i+1<=ds.length then Pv (i+1) acc M3 else False))
  cases e:ds[i]? with
  |none=>have:i=ds.length:=D6 hi (i6.mp e);subst this;exact⟨rfl,hd acc M w⟩
  |some d=>have iS:i+1<=ds.length:=(i5.mp e).1;simp only[O6 iS];exact hs i d acc M e w
 ·rw[O7 hi]at w;exact w.elim
theorem Aa{a:Addr}{ns:List Int}{i:Int}(ha:M a=some (.lst (ns.map D.int)))(q:Q (.int (ns.count i:Nat)) M):FV (.ref a) [.int i] M Q:=by
 refine⟨a,_,_,rfl,rfl,ha,tR ns,rfl,by rw[toPs_ints];exact PySem.W.ke_canLayAll0 ns,by simp[toP,PyData.canLay0],by simp[toP,PyData.depth],?_⟩;have e:(ns.map D.int).countP (λ d=>PyData.eqv (toP d) (toP (.int i)))=ns.count i:=by rw[countP_map,count_eq_countP];refine countP_congr λ x _=>?_;show PyData.eqv (toP (.int x)) (toP (.int i))=true↔_;simp[toP,PyData.eqv]
 rw[e];exact q
end
end L3
namespace L5
open PySem
theorem rh:typeLookup (.type "list") "keys"=pure none:=by rw[typeLookup_type,builtinLookup_eq_fast];kernel_rfl
theorem Jz{prog:Program}{w:World}{A:Around}{E:Value->Shared->Prop}{s:Shared}{a:Addr}{xs:Array Value}{k:Nat}{sl:Array (Option Value)}{Q:Option Value->Shared->Prop}(hx:s.heap.get? a=some {cls:=.type "list",dict:=none,data:=.seq xs k,slots:=sl})(hA:A.handled=none) (h:∀h' tk,(∀b o,s.heap.get? b=some o->h'.get? b=some o)->Q none {s with heap:=h',toks:=tk}):wpAny (model prog w) A (getAttr? (.ref a) "keys") Q E s:=by
 obtain⟨hp,g,d,tk,os⟩:=s;have ty:∀vy,(⟨hp,g,d,vy,os⟩:Shared).TypeIs (.ref a) "list":=λ _=>⟨_,hx,rfl⟩;have f1:=sub_AttributeError;have f3:=F.slot_list_getattribute.lookup;have f4:=F.slot_list_getattribute.bind (.ref a);have f5:=am_list_getattr_none;unfold getAttr? getAttrBy? getAttrBy
 repeat(any_goals (first|assumption|exact ty _|((with_reducible show wpAny _ _ (call (Value.builtin "list.__getattribute__") _ _) _ _ _);refine N9 F.slot_list_getattribute (ty _) am_entry_list_getattribute (F.args_list_getattribute_2 _ _) (meets_getattribute_miss_list a xs k sl _ _ rh (by decide+kernel) (by decide+kernel)) ⟨hx,hA,λ h' vy e Kh=>?_⟩)|wp_step))
 obtain⟨t',u',he⟩:=Kh.there;show wpAny _ _ (getattributeRaised _ _ _ _ _ _ _) _ _ _;unfold getattributeRaised
 repeat(any_goals (first|assumption|wp_step))
 exact h _ _ Kh.keeps
end L5
namespace L5
open PySem
theorem uI:entryFor table "dict.update.loop"=some Builtin.«dict.update.loop»:=entryFor_of_tree (by kernel_rfl)
theorem lP:plainId "dict.update.loop"=true:=by decide+kernel
section
variable {prog:Program}{w:World}{A:Around}{R:Result->Shared->Prop}
abbrev TK(prog:Program)(w:World):HeapKind prog w (List L2.Key):=tupleKind (L2.cj prog w)
abbrev Ent:=List L2.Key×Addr×Value
theorem vW{h:Heap}{k:List L2.Key}{a:Addr}(x:(TK prog w).is h k a):∃o,h.get? a=some o/\o.cls=.type "tuple":=let⟨o,au,n,h1,h2,h3,h4⟩:=x;⟨o,h1,h2⟩
theorem qu{h h':Heap}{k:List L2.Key}{a:Addr}(x:(TK prog w).is h k a)(q:∀o,h.get? a=some o->h'.get? a=some o):(TK prog w).is h' k a:=let⟨o,au,n,h1,h2,h3,h4⟩:=x;⟨o,au,n,q o h1,h2,h3,h4⟩
structure km(prog:Program)(w:World)(h:Heap)(u:Value)(p:Ent):Prop where
 ex:∃t,u=.ref t/\h.IsTuple t #[.ref p.2.1,p.2.2]
 key:(TK prog w).is h p.1 p.2.1
def nZ(h h':Heap):Prop:=∀b o,o.cls=.type "tuple"->h.get? b=some o->h'.get? b=some o
theorem km.eh {h h':Heap}{u:Value}{p:Ent}(x:km prog w h u p)(q:nZ h h'):km prog w h' u p:=by obtain⟨⟨t,rfl,o,ho,hc,n,hd⟩,key⟩:=x;obtain⟨oa,h1,h2⟩:=vW key;exact⟨⟨t,rfl,o,q t o hc ho,hc,n,hd⟩,qu key λ o' e=>by rw[h1]at e;cases e;exact q _ _ h2 h1⟩
def putAll(xs:List Ent)(ps:List Ent):List Ent:=ps.foldl (λ xs p=>storedH xs p.1 p.2.1 p.2.2) xs
theorem ky(xs:List Ent)(p:Ent):(storedH xs p.1 p.2.1 p.2.2).length<=xs.length+1:=by
 unfold storedH;split
 ·simp
 ·simp
theorem wF(hu:A.in1.units < cLine)(hA:A.handled=none)(d it l:Addr)(Xx:d≠it)(hli:l≠it)(hld:l≠d)(au:List Value)(ps:List Ent)(hlen:au.length=ps.length)(Ti:ps.length<=1000):∀(k i:Nat) (s:Shared) (xs:List Ent),ps.length - i=k->i<=ps.length->xs.length<=i->s.heap.IsListIter it l i->s.heap.IsList l au.toArray->s.heap.DictOfH (TK prog w) d xs->
   (∀(j:Nat) (u:Value) (p:Ent),au[j]?=some u->ps[j]?=some p->km prog w s.heap u p)->
   (∀h' tk,(∀b o,b≠d->b≠it->s.heap.get? b=some o->h'.get? b=some o)->h'.DictOfH (TK prog w) d (putAll xs (ps.drop i))->R (.ok (.ret .none)) {s with heap:=h',toks:=tk})->
   codeAny (model prog w) A (.builtin "dict.update.loop" ⟨[.ref d,.ref it,rawInt i,.none],[]⟩) R s:=by
 intro k
 induction k with
 |zero=>
  intro i s xs hk hi W0 hit hl hd hp hR;have e:i=ps.length:=by omega
  subst e;refine C9 uI ?_;rw[m7 lP _];refine N6 (m:=pyNext (.ref it)) (wpAny_pyNext_list_end (show A.in1.handled=none from hA) hit hl (by simp;omega) λ h' eb=>?_);refine N6 (m:=Builtin.Dict.addKeywords d []) (N7 (N7 ?_));refine hR h' s.toks (λ b o _ n2 q=>eb b o n2 q) ?_;rw[drop_length];obtain⟨o,es,ep,ho,r1,r2,r3,r4,r5⟩:=hd;refine⟨o,es,ep,eb d o Xx ho,r1,r2,r3,λ x hx=>?_,r5⟩;obtain⟨oa,h1,h2⟩:=vW (r4 x hx);refine qu (r4 x hx) λ o' e=>eb _ _ (λ z=>?_) e;rw[z]at h1;obtain⟨oi,g1,g2,_⟩:=hit;rw[g1]at h1;cases h1;rw[g2]at h2;exact absurd h2 (by decide)
 |succ k ih=>
  intro i s xs hk hi W0 hit hl hd hp hR;have iS:i < ps.length:=by omega
  have e1:au[i]?=some au[i]:=i8 (by omega);have e2:ps[i]?=some ps[i]:=i8 iS;refine C9 uI ?_;rw[m7 lP _];refine N6 (m:=pyNext (.ref it)) (wpAny_pyNext_list_item hit hl (x:=au[i]) (by simpa using e1) λ g1 it1 s1=>?_);have VT:nZ s.heap g1:=λ b o hc e=>s1.extBut _ _ (λ z=>by
   rw[z]at e;obtain⟨oi,q1,q2,_⟩:=hit;rw[q1]at e;cases e;rw[hc]at q2;exact absurd q2 (by decide)) e
  obtain⟨⟨t,et,⟨ct,dt,da,st⟩,ho,hc,n,rG⟩,key⟩:=(hp i _ _ e1 e2).eh VT;cases(show ct=.type "tuple" from hc);cases(show da=_ from rG);have Vu:g1.IsList l au.toArray:=hl.at λ o e=>s1.extBut _ _ hli e;have Y9:g1.DictOfH (TK prog w) d xs:=by obtain⟨o,es,ep,ho,r1,r2,r3,r4,r5⟩:=hd;refine⟨o,es,ep,s1.extBut _ _ Xx ho,r1,r2,r3,λ x hx=>?_,r5⟩;obtain⟨oa,h1,h2⟩:=vW (r4 x hx);exact qu (r4 x hx) λ o' e=>by rw[h1]at e;cases e;exact VT _ _ h2 h1
  rw[et];refine N6 (G7 (N6 (G5 ?_)));unfold Builtin.Dict.pairItems;refine N6 (K8 (T:="tuple") ⟨_,ho,rfl⟩ ?_);rw[O6 (by decide)];refine N6 (E8 ho rfl (N7 ?_));show wpAny _ A.in1 (holding [Value.ref ps[i].2.1,ps[i].2.2] (dictSet d (.ref ps[i].2.1) ps[i].2.2)) _ _ _;refine G7 (wpAny_dictSet_heap (s:={s with heap:=g1}) (knd:=TK prog w) hu key Y9 (λ g2 d2 s2=>?_) (K5 (show xs.length<=1000 by omega) (by decide)));refine N7 ⟨J7 lP _,?_⟩;have od:∃o,g1.get? d=some o/\o.cls=.type "dict":=by obtain⟨o,es,ep,ho,r1,_⟩:=Y9;exact⟨o,ho,r1.1⟩
  have ZL:nZ g1 g2:=λ b o hc e=>s2.extBut _ _ (λ z=>by
   rw[z]at e;obtain⟨oi,q1,q2⟩:=od;rw[q1]at e;cases e;rw[hc]at q2;exact absurd q2 (by decide)) e
  have hc1:((i:Int)+1)=((i+1:Nat):Int):=by push_cast;rfl
  show codeAny (model prog w) A (.builtin "dict.update.loop" ⟨[.ref d,.ref it,rawInt ((i:Int)+1),.none],[]⟩) R _;rw[hc1];refine ih (i+1) _ (storedH xs ps[i].1 ps[i].2.1 ps[i].2.2) (by omega) iS ?_ (it1.at λ o e=>s2.extBut _ _ (O4 Xx) e) (Vu.at λ o e=>s2.extBut _ _ hld e) d2 (λ j u p h1 h2=>((hp j u p h1 h2).eh VT).eh ZL) λ h' tk vD gH=>?_
  ·have:=ky xs ps[i];omega
  ·refine hR h' tk (λ b o n1 n2 e=>vD b o n1 n2 (s2.extBut _ _ n1 (s1.extBut _ _ n2 e))) ?_;rw[i0 iS];exact gH
end
end L5
namespace L5
open PySem PySem.W PySem.Calls PyProof.Rows
section
variable {prog:Program}{w:World}{A:Around}{E:Value->Shared->Prop}{s:Shared}
theorem JE{l:Addr}{au:List Value}{ps:List Ent}{Q:Value->Shared->Prop}(hu:A.units+2 < cLine)(hA:A.handled=none)(hl:s.heap.IsList l au.toArray)(hpl:∃o,s.heap.get? l=some o/\o.dict=none)(hlen:au.length=ps.length)(Ti:ps.length<=1000) (hp:∀(j:Nat) (u:Value) (p:Ent),au[j]?=some u->ps[j]?=some p->km prog w s.heap u p) (h:∀h' tk,(∀b o,s.heap.get? b=some o->h'.get? b=some o)->h'.DictOfH (TK prog w) s.heap.objs.size (putAll [] ps)->s.heap.objs.size < h'.objs.size->Q (.ref s.heap.objs.size) {s with heap:=h',toks:=tk}):wpAny (model prog w) A (call (.type "dict") [.ref l]) Q E s:=by
 refine callType_codes (Q₁:=λ obj s₁=>obj=.ref s.heap.objs.size/\s₁={s with heap:=s.heap.push {cls:=.type "dict",data:=.dict #[]}}) F.kt_called_dict (F.kt_typeCall_dict_1 _) F.entry_dict_init (kt_code_dict_new _ ⟨rfl,rfl⟩) ?_;rintro obj s1 ⟨rfl,rfl⟩;have new:(s.heap.push {cls:=.type "dict",data:=.dict #[]}).DictOfH (TK prog w) s.heap.objs.size []:=Heap.DictOfH.new s.heap;refine⟨new.typeIs,F.args_dict_init_2 _ _,?_⟩;unfold Builtin.«dict.__init__»;refine N6 ?_;unfold Builtin.Dict.selfAndRest;refine N6 (wpAny_notOrdered_dict new.typeIs ?_);refine N7 (a:=(s.heap.objs.size,[Value.ref l])) ?_;obtain⟨ob,Ta,hdn⟩:=hpl;obtain⟨⟨c,dd,da,sl⟩,ho,hc,n,rG⟩:=id hl;rw[ho]at Ta;cases Ta;cases(show c=.type "list" from hc);cases(show da=.seq au.toArray n from rG);cases(show dd=none from hdn);have vC:(s.heap.push {cls:=.type "dict",data:=.dict #[]}).get? l=some {cls:=.type "list",dict:=none,data:=.seq au.toArray n,slots:=sl}:=j7 _ ho;show wpAny _ _ (Builtin.Dict.updateFrom "dict.__init__" s.heap.objs.size (.ref l) [] .none) _ _ _;unfold Builtin.Dict.updateFrom;refine N6 (K8 (T:="list") ⟨_,vC,rfl⟩ ?_);rw[O6 (by decide)];refine N6 (Jz (s:={s with heap:=s.heap.push {cls:=.type "dict",data:=.dict #[]}}) vC (show A.in1.handled=none from hA) λ g tk gk=>?_);rw[O6 (by rfl)];have k0:∀b o,s.heap.get? b=some o->g.get? b=some o:=λ b o e=>gk b o (j7 _ e);have Y4:g.IsList l au.toArray:=hl.at λ o e=>k0 l o e;have dg:g.DictOfH (TK prog w) s.heap.objs.size []:=by obtain⟨o,es,ep,h1,r⟩:=new;exact⟨o,es,ep,gk _ _ h1,r.1,r.2.1,r.2.2.1,λ x hx=>absurd hx (by simp),r.2.2.2.2⟩
 have X4:s.heap.objs.size < g.objs.size:=by obtain⟨o,es,ep,h1,_⟩:=dg;exact K2 h1
 refine N6 (N8 (N6 (y8 (s:={s with heap:=g,toks:=tk}) Y4 ?_)));refine N7 ⟨J7 lP _,?_⟩;have up:∀b o,g.get? b=some o->(g.push {cls:=.type "list_iterator",data:=.fields #[.ref l,.int 0 0]}).get? b=some o:=λ b o e=>j7 _ e;have fW:l≠s.heap.objs.size:=K1 (K2 ho);have iS:l < g.objs.size:=Nat.lt_trans (K2 ho) X4;refine wF (prog:=prog) (w:=w) (A:=A.in1) (by show A.units+1+1 < cLine;omega) (show A.in1.handled=none from hA) s.heap.objs.size g.objs.size l (K1 X4) (K1 iS) fW au ps hlen Ti _ 0 {s with heap:=g.push {cls:=.type "list_iterator",data:=.fields #[.ref l,.int 0 0]},toks:=tk} [] rfl (N3 _) (L8 _) ⟨_,q8 _ rfl,rfl,rfl⟩ (Y4.at λ o e=>up l o e) ?_ ?_ ?_
 ·obtain⟨o,es,ep,h1,r⟩:=dg;exact⟨o,es,ep,up _ _ h1,r.1,r.2.1,r.2.2.1,λ x hx=>absurd hx (by simp),r.2.2.2.2⟩
 ·intro j u p e1 e2;exact(hp j u p e1 e2).eh λ b o _ e=>up b o (k0 b o e)
 ·intro h' vy vD gH;have Xo:s.heap.objs.size < h'.objs.size:=by obtain⟨o,es,ep,h1,_⟩:=gH;exact K2 h1
  refine⟨rfl,h h' vy (λ b o e=>vD b o (K1 (K2 e)) (K1 (Nat.lt_trans (K2 e) X4)) (up b o (k0 b o e))) gH Xo⟩
end
end L5
namespace L5
open PySem PySem.W PySem.Calls PyProof.Rows
def Raw(g:Heap)(d:Addr)(es:Array DictEntry)(ep:Nat):Prop:=∃b,g.get? d=some b/\b.ExactDict/\b.data=.dict es ep
theorem Raw.to {g g':Heap}{d:Addr}{es:Array DictEntry}{ep:Nat}(x:Raw g d es ep)(q:∀b,g.get? d=some b->g'.get? d=some b):Raw g' d es ep:=let⟨b,h1,h2⟩:=x;⟨b,q b h1,h2⟩
theorem Raw.ty {s:Shared}{d:Addr}{es:Array DictEntry}{ep:Nat}(x:Raw s.heap d es ep):s.TypeIs (.ref d) "dict":=let⟨b,h1,h2,_⟩:=x;⟨b,h1,h2.1⟩
theorem Raw.lt {g:Heap}{d:Addr}{es:Array DictEntry}{ep:Nat}(x:Raw g d es ep):d < g.objs.size:=let⟨b,h1,_⟩:=x;K2 h1
section
variable {prog:Program}{w:World}{A:Around}{E:Value->Shared->Prop}{s:Shared}
theorem Dq{d:Addr}{es:Array DictEntry}{ep:Nat}{Q:Value->Shared->Prop}(nd:(d==sysModules)=false)(x:Raw s.heap d es ep) (fin:Q (.ref s.heap.objs.size) {s with heap:=s.heap.push {cls:=.type "dict_keyiterator",data:=.fields #[.ref d,.int 0 0,.int es.size 0,.int ep 0]}}):wpAny (model prog w) A (pyIter (.ref d)) Q E s:=by obtain⟨b,hb,xb,db⟩:=id x;refine wpAny_pyIter_slot x.ty F.slot_dict_iter (A9 F.slot_dict_iter x.ty F.entry_dict_iter ?_ (F.args_dict_iter_1 _));unfold Builtin.«dict.__iter__»;refine N6 ?_;unfold Builtin.Dict.dictSlotNone;refine N6 (wpAny_notOrdered_dict x.ty ?_);refine N7 (a:=Value.ref d) ?_;show wpAny (model prog w) _ (Builtin.Dict.showsAll d >>= _) _ _ s;unfold Builtin.Dict.showsAll;rw[O7 (by simp[nd])];refine N6 (N7 (N6 (wpAny_dictEntries hb db (N6 (wpAny_dictEpoch hb db ?_)))));refine N6 (y4 (N7 ⟨_,rfl,"dict_keyiterator",_,⟨_,q8 _ rfl,rfl⟩,a9.lookup,?_⟩));simpa[rawInt]using fin
theorem tJ{it d:Addr}{i n ep:Nat}{es:Array DictEntry}{Q:Option Value->Shared->Prop}(ki:s.heap.IsKeyIter it d i n ep)(x:Raw s.heap d es ep)(en:n=es.size) (hi:∀e:DictEntry,es[i]?=some e->∀g,g.IsKeyIter it d (i+1) n ep->Heap.SameBut it s.heap g->Q (some e.key) {s with heap:=g}) (hn:A.handled=none) (he:es[i]?=none->∀g,Heap.ExtBut it s.heap g->Q none {s with heap:=g}):wpAny (model prog w) A (pyNext (.ref it)) Q E s:=by
 subst en;obtain⟨oi,gi,ci,di⟩:=id ki;obtain⟨b,hb,xb,db⟩:=id x;unfold pyNext;refine N6 (G8 (j3 (name:=Str.ofString "__next__") ki.typeIs a9
  (A9 a9 ki.typeIs F.entry_dict_keyiterator_next ?_ (F.args_dict_keyiterator_next_1 _))))
 refine N6 (N7 (N6 (N6 ?_)))
 first|refine N6 (a8 ki.typeIs (N7 ?_))|refine N6 (wpAny_typeNameOf_keyiter ki.typeIs (N7 ?_))
 refine N6 (wpAny_fieldsOf gi di ?_);have own:Builtin.Dict_items.ownsTuple "dict_keyiterator"=false:=rfl;simp only[own,O2,u5];show wpAny (model prog w) _ (if(Value.ref d==Value.none)=true then _ else _) _ _ s;rw[O7 (by exact u3)];refine N6 (N7 (N6 (wpAny_dictEntries hb db ?_)));rw[O7 (by simp)];refine N6 (N7 (N6 (wpAny_dictEpoch hb db ?_)));rw[O7 (by simp)];refine N7 ?_;have nn:¬((i:Int) < 0):=by omega
 by_cases lt:i < es.size
 ·simp only[nn,O2,y3,g9 lt];refine N6 ?_
  first|refine N6 (a8 ki.typeIs (N7 ?_))|refine N6 (wpAny_typeNameOf_keyiter ki.typeIs (N7 ?_))
  refine N6 (wpAny_isOneOf_keyiter ki.typeIs ?_);show wpAny (model prog w) _ (setField (.ref it) 1 (rawInt ((i:Int)+1)) >>= _) _ _ s;refine N6 (G6 gi di (by simp) ?_);have k2:(s.heap.update it (Obj.mapFields (·.setIfInBounds 1 (rawInt ((i:Int)+1))))).IsKeyIter it d (i+1) es.size ep:=
   ⟨_,k7 _ gi (l6 (x4 di _)),(Obj.cls_mapFields ..).trans ci,by rw[x4 di];simp[rawInt]⟩
  refine N6 (G7 (N6 (wpAny_isOneOf_keyiter (s:={s with heap:=s.heap.update it (Obj.mapFields (·.setIfInBounds 1 (rawInt ((i:Int)+1))))}) k2.typeIs ?_)));show wpAny (model prog w) _ (pure es[i].key) _ _ _;exact N7 (N7 ⟨_,rfl,N7 (hi _ (g9 lt) _ k2 (o8 ..))⟩)
 ·have ge:es.size<=i:=A4 lt;simp only[nn,O2,y3,j6 ge];refine N6 ?_
  first|refine N6 (a8 ki.typeIs (N7 ?_))|refine N6 (wpAny_typeNameOf_keyiter ki.typeIs (N7 ?_))
  show wpAny (model prog w) _ (setField (.ref it) 0 .none >>= _) _ _ s;refine N6 (G6 gi di (by simp) ?_);show wpAny (model prog w) _ (newExc (.type "StopIteration") [] >>= _) _ _ _;refine N6 ?_;simp only[newTuple,newExc];refine N6 (y4 ?_ (by size_fits));refine N6 (m:=firstArgMember _ _) (wpAny_of_eq (a:=Value.none) (by first|rfl|(simp only[firstArgMember];rfl)) (y4 ?_ (by size_fits)));simp only[raiseNew];refine N6 (wpAny_handled ?_);rw[show A.in1.handled=none from hn];refine N6 (N7 (wpAny_throw ?_));refine N6 (B7 (b:=true) (T:="StopIteration") ⟨_,q8 _ rfl,rfl⟩ isSubtype_stop ?_);exact N7 (he (j6 ge) _ (((o8 ..).extBut.push _).push _))
theorem Dp(hn:A.handled=none)(I d:Addr)(ne:d≠I)(es:Array DictEntry)(ep:Nat):Walks prog w A I [I,d] [I] es.size (λ i v=>∃e,es[i]?=some e/\v=e.key) (λ i g=>g.IsKeyIter I d i es.size ep/\Raw g d es ep) where
 sub:=λ b m=>by simp at m;simp[m]
 frame:=λ _ _ _ st k=>⟨st.1.at λ o e=>k I (by simp) o e,st.2.to λ o e=>k d (by simp) o e⟩
 item:=λ i s Q E lt st fin=>tJ st.1 st.2 rfl (λ e ee g k2 sb=>fin e.key g s.toks ⟨e,ee,rfl⟩ ⟨k2,st.2.to λ o q=>sb.extBut d o ne q⟩ λ b o m q=>sb.extBut b o (λ z=>m (by simp[z])) q) hn λ e=>absurd e (by rw[g9 lt];exact λ z=>nomatch z)
 done:=λ s Q E st fin=>tJ st.1 st.2 rfl (λ e ee=>absurd ee (by rw[j6 (L8 _)];exact λ z=>nomatch z)) hn λ _ g sb=>fin g s.toks λ b o m q=>sb b o (λ z=>m (by simp[z])) q
 self:=λ _ _ _ _ st fin=>wpAny_pyIter_keyiter st.1 fin
theorem Iq{d:Addr}{es:Array DictEntry}{ep:Nat}(nd:(d==sysModules)=false):KdlSrc prog w "dict" d d es.size (λ i v=>∃e,es[i]?=some e/\v=e.key) (λ g=>Raw g d es ep) where
 type:=λ _ x=>x.ty
 there:=λ _ x=>⟨x.lt,x.lt⟩
 keep:=λ _ _ x k=>x.to λ o e=>k d (.inl rfl) o e
 notList:=by decide
 notTuple:=by decide
 hint:=λ _ _ _ _ x q=>kdl_hint_dict x.ty q
 iter:=λ _ _ hn x=>⟨_,_,(λ _ _ q=>Dq nd x q),Dp hn _ d (K1 x.lt) es ep,⟨⟨_,q8 _ rfl,rfl,rfl⟩,x.to λ o e=>j7 _ e⟩⟩
theorem Ab{es:Array DictEntry}{acc:Array Value}(it:ItemsOf (λ i v=>∃e,es[i]?=some e/\v=e.key) acc es.size):acc.toList=es.toList.map (·.key):=by
 apply ext_getElem?;intro i;by_cases lt:i < acc.size
 ·have le:i < es.size:=by rw[<- it.1];exact lt
  obtain⟨e,e1,e2⟩:=it.2 i acc[i] (g9 lt);rw[l0,g9 lt,y1,l0,e1,e2];rfl
 ·have le:¬i < es.size:=by rw[<- it.1];exact lt
  rw[l0,j6 (A4 lt),y1,l0,j6 (A4 le)];rfl
theorem vc{d:Addr}{es:Array DictEntry}{ep:Nat}{R:List Value->Shared->Prop}(nd:(d==sysModules)=false)(hn:A.handled=none)(x:Raw s.heap d es ep)(hz:es.size<=sizeLine) (h:∀g tk,(∀b o,s.heap.get? b=some o->g.get? b=some o)->R (es.toList.map (·.key)) {s with heap:=g,toks:=tk}):wpAny (model prog w) A (collect (.ref d)) R E s:=by refine kdu_collect (Iq nd) hn x hz λ g tk acc k it=>?_;have e:=Ab it;rw[e];exact h g tk k
end
end L5
namespace L5
open PySem PySem.W PySem.Calls PyProof.Rows
section
variable {prog:Program}{w:World}{A:Around}{E:Value->Shared->Prop}{s:Shared}
theorem Hm{d q:Addr}{es:Array DictEntry}{ep:Nat}{Q:Value->Shared->Prop}(nd:(d==sysModules)=false)(hn:A.handled=none)(x:Raw s.heap d es ep)(GR:es.size < 64) (h:∀(Dd kS:Addr) (g0 g:Heap) (tk e1:Nat),(∀b o,s.heap.get? b=some o->g0.get? b=some o)->Dd≠kS->g0.objs.size<=Dd->g0.objs.size<=kS->g.get? Dd=some (seqObj "list" #[] e1)->g.get? kS=some (seqObj "list" #[] 0)->(∀b o,s.heap.get? b=some o->g.get? b=some o)->
   wpAny (model prog w) A.in1.in1 (ksk_rest Dd (.ref q) false (es.toList.map (·.key)).toArray e1 (.ref kS)) (λ f s'=>f=.done (.ret .none)/\Q (.ref Dd) s') E {s with heap:=g,toks:=tk}):
  wpAny (model prog w) A (call (.builtin "sorted") [.ref d] [(Str.ofString "key",.ref q)]) Q E s:=by
 refine call_function_entry_kw kind_sorted plain_sorted entry_sorted (ksk_s1 _ _) ?_;unfold Builtin.«sorted»;have hlen:(es.toList.map (·.key)).length=es.size:=by simp
 refine N6 (m:=checkCount "sorted" 1 1 _) (N7 (N6 (vc nd (show A.in1.handled=none from hn) x (by rw[L9];omega) λ g tk gk=>N6 (wpAny_newList ?_ (by rw[hlen,L9];omega)))));generalize YM:es.toList.map (·.key)=vs at*;have Xk:g.objs.size≠g.objs.size+2:=by omega
 have g1:(g.push (seqObj "list" vs.toArray 0)).get? g.objs.size=some (seqObj "list" vs.toArray 0):=q8 _ rfl;refine N6 (G7 (wpAny_call_entry_kw slot_list_sort ⟨_,g1,rfl⟩ entry_list_sort ?body (ksk_l1 _ _)))
 case body=>
  show wpAny (model prog w) A.in1.in1 (Builtin.«list.sort» ⟨[.ref g.objs.size],[(Str.ofString "key",.ref q)]⟩) _ _ _;rw[ksk_t1];unfold ksk_tree;generalize hH:g.push (seqObj "list" vs.toArray 0)=H at*;have eH:H.objs.size=g.objs.size+1:=by rw[<- hH,size_push']
  obtain⟨c1,o1⟩:∃c1,(H.update g.objs.size (Obj.mapSeq λ _=>(#[]:Array Value))).get? g.objs.size=some (seqObj "list" #[] c1):=⟨_,get?_update_seq g1 λ _=>#[]⟩;refine N6 (listItems_at g1 rfl (N6 (listUpdate_at g1 rfl (N6 (seqEpoch_at o1 rfl (N6 (wpAny_newTuple (N6 (wpAny_newList (G7 ?_) (N3 _))) (by show vs.length<=_;rw[L9];omega))))) (by rw[z9,L9];omega) (N3 _))));have e2:(H.update g.objs.size (Obj.mapSeq λ _=>(#[]:Array Value))).objs.size=g.objs.size+1:=by rw[B6,eH]
  have e3:((H.update g.objs.size (Obj.mapSeq λ _=>(#[]:Array Value))).push (seqObj "tuple" vs.toArray 0)).objs.size=g.objs.size+2:=by rw[size_push',e2]
  have g3:(((H.update g.objs.size (Obj.mapSeq λ _=>(#[]:Array Value))).push (seqObj "tuple" vs.toArray 0)).push (seqObj "list" #[] 0)).get? (g.objs.size+2)=some (seqObj "list" #[] 0):=by rw[<- e3];exact q8 _ rfl
  show wpAny (model prog w) A.in1.in1 (ksk_rest g.objs.size (.ref q) false vs.toArray c1 (.ref ((H.update g.objs.size (Obj.mapSeq λ _=>(#[]:Array Value))).push (seqObj "tuple" vs.toArray 0)).objs.size)) _ _ {s with heap:=((H.update g.objs.size (Obj.mapSeq λ _=>(#[]:Array Value))).push (seqObj "tuple" vs.toArray 0)).push (seqObj "list" #[] 0),toks:=tk};rw[e3];refine O0 (h g.objs.size (g.objs.size+2) g _ tk c1 gk Xk (L8 _) (B5 _ _) (j7 _ (j7 _ o1)) g3 λ b o y=>j7 _ (j7 _ (by
   have hb:b < g.objs.size:=K2 (gk b o y);rw[Heap.get?_update_ne _ _ _ _ (K1 hb),<- hH];exact j7 _ (gk b o y)))) (λ f s' hf=>?_) λ _ _ z=>z
  obtain⟨rfl,hq⟩:=hf;exact⟨_,rfl,N7 ⟨_,rfl,hq⟩⟩
end
end L5
namespace L2
open PySem PySem.Spec PyProof.Rows L5 PySem.W
section
variable {X:Cx}{pins:List (Addr×Obj)}{σ:St}{H:Hp}{s:Shared}
variable {k:Nat}{q:Addr}{fd:FuncData}{ps:List Str}{sp:Sp}
def Goes(X:Cx)(q l:Addr)(au:List Value)(s:Shared):Prop:=∀(Q:Value->Shared->Prop),
 (∀(Dd kS:Addr) (g0 g:Heap) (tk e1:Nat),(∀b o,s.heap.get? b=some o->g0.get? b=some o)->Dd≠kS->g0.objs.size<=Dd->g0.objs.size<=kS->g.get? Dd=some (seqObj "list" #[] e1)->g.get? kS=some (seqObj "list" #[] 0)->(∀b o,s.heap.get? b=some o->g.get? b=some o)->
  wpAny (model X.prog X.w) X.A.in1.in1 (ksk_rest Dd (.ref q) false au.toArray e1 (.ref kS)) (λ f s'=>f=.done (.ret .none)/\Q (.ref Dd) s') X.xe {s with heap:=g,toks:=tk})->
 wpAny (model X.prog X.w) X.A (call (.builtin "sorted") [.ref l] [(Str.ofString "key",.ref q)]) Q X.xe s
theorem xD(F:bx X.prog X.w X.K X.mg X.base eS k q fd ps sp)(hb:Binds X.K fd ps [])(hr:bK (k+2) X.A){l:Addr}{ys:List V}{Q:VK}{b:Bool}(I:Inv X pins σ H s){au:List Value}(rv:Vals ys au)(go:Goes X q l au s)(GR:ys.length < 64)(R:List V->Hp->Prop)(key:Nat->Ky)(h0:R [] H) (hc:∀aw H v,R aw H->ys[aw.length]?=some v->sp [v] H (λ k H'=>R (aw++[k]) H') E0) (hk:∀aw H,R aw H->aw.length=ys.length->(∀i k,aw[i]?=some k->iJ X.K b H k (key i))/\∀p out,H p=none->Out (λ i j=>klt (key i) (key j)) ys V.bu out->Q (.ref p) (upd H p (.lst out))):wpAny (model X.prog X.w) X.A (call (.builtin "sorted") [.ref l] [(Str.ofString "key",.ref q)]) (EP X pins σ Q) X.xe s:=by
 have hlen:=rv.length;have hu:=hr.units;have room:bK k X.A.in1.in1:=(hr.in1 (k:=k+1)).in1;refine go _ λ Dd kS g0 g tk e1 gk0 fW lD lK gD gK gk=>?_;have I0:Inv X pins σ H {s with heap:=g0,toks:=tk}:=I.kept (t':=tk) gk0;have f1:=I0.lC (H':=λ _=>none) (b:=Dd) lD rfl;have f3:=I0.lC (H':=λ _=>none) (b:=kS) lK rfl;refine JT (J:=λ ks e s'=>∃aw H',Inv X ((kS,seqObj "list" (List.toArray ks) e)::(Dd,seqObj "list" #[] e1)::pins) σ H' s'/\Vals aw ks/\R aw H'/\ks.length<=au.length) (by omega) ?_ ?_ ?_ ?_
 ·rintro ks e s' ⟨aw,H',I',rk,hR,yM⟩;exact⟨(I'.pin _ (k8 _ (.head _))).1,yM⟩
 ·rintro x ks e s' ⟨aw,H',I',rk,hR,yM⟩ hx;have lk:=rk.length;obtain⟨y,hy,ry⟩:∃y,ys[aw.length]?=some y/\RelV y x:=by
   have hi:aw.length < ys.length:=by have:=(i5.mp hx).1;omega
   obtain⟨u,Q0,ru⟩:=rv.get (i8 hi);rw[lk,hx]at Q0;cases Q0;exact⟨_,i8 hi,ru⟩
  have call:=hc aw H' y hR hy;have r1:Vals [y] [x]:=.cons ry .nil;have Xc:([x]++([]:List Value)).length=ps.length:=by have:=F.len _ _ _ _ call;simpa using this
  have en:oh X.prog X.w X.K X.mg X.base X.A.in1.in1 X.stack s' H':=I'.KD.in1.in1;have bt:=hb s' [x] I'.gB Xc;rw[C1]at bt;refine O1 (K9 (F.run X.A.in1.in1 X.stack s' H' ⟨[x],[]⟩ [x] [y] _ E0 room en bt r1 call) λ r s2 hq=>?_);cases r with
  |error e=>exact hq
  |ok fl=>
   cases fl with
   |ret u=>
    obtain⟨kv,H2,I2,ru,hR2⟩:=I'.after hq;have pk:=I2.pin _ (k8 _ (s9 ..));refine⟨pk.1,λ h' c hh' sb=>⟨aw++[kv],H2,?_,rk.append (.cons ru .nil),hR2,?_⟩⟩
    ·have I3:Inv X ((Dd,seqObj "list" #[] e1)::pins) σ H2 s2:=I2.dR λ p hp=>I2.pin p (k8 _ (.tail _ hp));have pd:=I2.pin _ (k8 _ (List.Mem.tail _ (s9 ..)));have fk:iZ X ((Dd,seqObj "list" #[] e1)::pins) H2 (kS):=⟨pk.2.1,f3.2.1,f3.2.2.1,f3.2.2.2.1,f3.2.2.2.2.1,λ p hp=>by
      rcases D4.mp hp with z|z
      ·exact f3.2.2.2.2.2 p (mem_append_left _ z)
      ·rcases J0.mp z with rfl|z
       ·exact fW
       ·exact f3.2.2.2.2.2 p (k8 _ z)⟩
     have I4:Inv X ((Dd,seqObj "list" #[] e1)::pins) σ H2 {s2 with heap:=h'}:=sM (t':=s2.toks) (ch:=[kS]) I3 (λ b o hb e=>(sb.2 b (λ z=>hb (by simp[z]))).trans e) λ b GO=>by
      have:b=kS:=by simpa using GO
      subst this;exact fk
     refine I4.dR λ p hp=>?_;rcases J0.mp hp with rfl|z
     ·exact⟨hh',pk.2.1,f3.2.1,f3.2.2.1,λ v z=>by cases z⟩
     ·exact I4.pin p (k8 _ z)
    ·have:=(i5.mp hx).1;rw[u4,k9];omega
   |next=>exact hq.elim
   |brk=>exact hq.elim
   |cont=>exact hq.elim
 ·have I5:Inv X pins σ H {s with heap:=g,toks:=tk}:=I.kept (t':=tk) gk;have hn:∀b,g0.objs.size<=b->H b=none:=λ b hb=>I0.bq.fresh hb;refine⟨[],H,I5.dR λ p hp=>?_,.nil,h0,N3 _⟩;rcases J0.mp hp with rfl|z
  ·exact⟨gK,hn _ lK,f3.2.1,f3.2.2.1,λ v z=>by cases z⟩
  ·rcases J0.mp z with rfl|z
   ·exact⟨gD,hn _ lD,f1.2.1,f1.2.2.1,λ v z=>by cases z⟩
   ·exact I5.pin p (k8 _ z)
 ·rintro ks e s' ⟨aw,H',I',rk,hR,_⟩ yM;have lk:=rk.length;obtain⟨Fh,hQ⟩:=hk aw H' hR (by omega);have pk:=I'.pin _ (k8 _ (s9 ..));have pd:=I'.pin _ (k8 _ (List.Mem.tail _ (s9 ..)));have YN:X.A.in1.in1.units+1 < cLine:=by have:=room.units;omega
  refine Pf (κ:=tuples' true) (JW key) yM (by omega) pk.1 pd.1 fW (λ h2 C hC=>?_) (λ h2 i j C hi hj hC=>?_) λ out h' c ho hD To=>⟨rfl,?_⟩
  ·obtain⟨fs,t1,t2,t3⟩:=uf I' rk Fh;refine kat_kind (T:=.type "int") t1 (by omega) (λ v hv=>?_) rfl hC;obtain⟨i,t,rfl⟩:=t3 v hv;exact(show Looks _ s'.heap (pure (Value.type "int")) _ from .now)
  ·have gi:∀i,i < au.length->∃k u,aw[i]?=some k/\ks.getD i Value.none=u/\RelV k u:=λ i hi=>by
    have Tt:i < aw.length:=by omega
    obtain⟨u,e,r⟩:=rk.get (i8 Tt);exact⟨_,u,i8 Tt,by rw[c7,e];rfl,r⟩
   obtain⟨k1,u1,a1,a2,a3⟩:=gi i hi;obtain⟨k2,u2,b1,b2,b3⟩:=gi j hj;rw[a2,b2];exact Pk I' YN (Fh i k1 a1) (Fh j k2 b1) a3 b3 hC
  ·obtain⟨p,p1,p2,p3⟩:=ho;subst p3;have I6:Inv X pins σ H' s':=I'.dR λ p hp=>I'.pin p (k8 _ (.tail _ (.tail _ hp)));have I7:Inv X pins σ H' {s' with heap:=h'}:=sM (t':=s'.toks) (ch:=[Dd,kS]) I6 (λ b o hb e=>To b o (λ z=>hb (by simp[z])) (λ z=>hb (by simp[z])) e) λ b GO=>by
    simp at GO;rcases GO with rfl|rfl
    ·exact⟨pd.2.1,f1.2⟩
    ·exact⟨pk.2.1,f3.2⟩
   have ZY:Vals (p.toList.map λ i=>ys.getD i V.bu) (p.toList.map λ i=>au.getD i Value.none):=Cg rv _;have WX:(p.toList.map λ i=>ys.getD i V.bu).length<=sizeLine:=by rw[D3,p9,p1.size,L9];omega
   refine⟨.ref (Dd),_,Inv.sO (D:=Dd) (o:=.lst (p.toList.map λ i=>ys.getD i V.bu)) I7 pd.2.1 (show _/\∃(au:List Value) (n:Nat),Vals _ au/\_ from⟨WX,_,c,ZY,hD⟩) f1.2.1 (K5 I0.sz lD) f1.2.2.2.2.1 f1.2.2.2.2.2,rfl,hQ _ _ pd.2.1 ⟨p,by rw[hlen];exact p1,by rw[hlen];exact p2,rfl⟩⟩
end
end L2
namespace L5
open PySem
section
variable {α β γ:Type}[DecidableEq α][DecidableEq γ]
def jB(acc:List (α×β))(p:α×β):List (α×β):=if p.1∈acc.map (·.1)then acc else acc++[p]
def eI(ps:List (α×β)):List (α×β):=ps.foldl jB []
def hG(acc:List γ)(r:γ):List γ:=if r∈acc then acc else acc++[r]
def once(rs:List γ):List γ:=rs.foldl hG []
theorem AD{acc:List (α×β)}{p q:α×β}(h:q∈jB acc p):q∈acc\/q=p:=by
 unfold jB at h;split at h
 ·exact .inl h
 ·simpa using h
theorem tW:∀(ps acc:List (α×β)) (q:α×β),q∈ps.foldl jB acc->q∈acc\/q∈ps
 |[],_,_,h=>.inl h
 |p::ps,acc,q,h=>by
  rcases tW ps _ q h with h|h
  ·rcases AD h with h|h
   ·exact .inl h
   ·exact .inr (by simp[h])
  ·exact .inr (by simp[h])
theorem wO{ps:List (α×β)}{q:α×β}(h:q∈eI ps):q∈ps:=by
 rcases tW ps [] q h with h|h
 ·cases h
 ·exact h
theorem pR(F:γ->α)(inj:∀a b,F a=F b->a=b):∀(ps acc:List (α×β)) (rs ac:List γ),acc.map (·.1)=ac.map F->ps.map (·.1)=rs.map F->(ps.foldl jB acc).map (·.1)=(rs.foldl hG ac).map F
 |[],_,[],_,h,_=>h
 |[],_,_::_,_,_,e=>by simp at e
 |_::_,_,[],_,_,e=>by simp at e
 |p::ps,acc,r::rs,ac,h,e=>by
  simp only[H9,List.cons.injEq]at e;refine pR F inj ps _ rs _ ?_ e.2;have iff:p.1∈acc.map (·.1)↔r∈ac:=by
   rw[h,e.1,K3];constructor
   ·rintro⟨a,ha,hb⟩;rw[<- inj _ _ hb];exact ha
   ·exact λ ha=>⟨r,ha,rfl⟩
  unfold jB hG;by_cases m:r∈ac
  ·rw[O6 m,O6 (iff.mpr m)];exact h
  ·rw[O7 m,O7 (λ z=>m (iff.mp z))];simp[h,e.1]
theorem uD(F:γ->α)(inj:∀a b,F a=F b->a=b){ps:List (α×β)}{rs:List γ}(e:ps.map (·.1)=rs.map F):(eI ps).map (·.1)=(once rs).map F:=pR F inj ps [] rs [] rfl e
theorem pH:∀(rs acc:List γ) (q:γ),q∈rs.foldl hG acc->q∈acc\/q∈rs
 |[],_,_,h=>.inl h
 |p::ps,acc,q,h=>by
  rcases pH ps _ q h with h|h
  ·unfold hG at h;split at h
   ·exact .inl h
   ·rcases D4.mp h with h|h
    ·exact .inl h
    ·exact .inr (by simp at h;simp[h])
  ·exact .inr (by simp[h])
theorem tV{rs:List γ}{q:γ}(h:q∈once rs):q∈rs:=by
 rcases pH rs [] q h with h|h
 ·cases h
 ·exact h
theorem pK:∀(rs acc:List γ),(rs.foldl hG acc).length<=acc.length+rs.length
 |[],_=>by simp
 |p::ps,acc=>by
  have h:=pK ps (hG acc p);have h2:(hG acc p).length<=acc.length+1:=by unfold hG;split <;> simp
  simp only[foldl_cons,A5];omega
theorem Ew(rs:List γ):(once rs).length<=rs.length:=by have:=pK rs [];simpa[once]using this
end
def ka(x:Ent):List L2.Key×Addr:=(x.1,x.2.1)
theorem Pq(k:List L2.Key)(v:Value)(x:Ent):ka (putAt k v x)=ka x:=by unfold putAt ka;split <;> rfl
theorem Gk(xs:List Ent)(k:List L2.Key):(atKey xs k).isSome=true↔k∈(xs.map ka).map (·.1):=by
 unfold atKey;rw[z0,find?_isSome];constructor
 ·rintro⟨x,hx,e⟩;refine K3.mpr ⟨ka x,K3.mpr ⟨x,hx,rfl⟩,of_decide_eq_true e⟩
 ·intro h;obtain⟨p,hp,e⟩:=K3.mp h;obtain⟨x,hx,rfl⟩:=K3.mp hp;exact⟨x,hx,E7 e⟩
theorem AI(xs:List Ent)(p:Ent):(storedH xs p.1 p.2.1 p.2.2).map ka=jB (xs.map ka) (ka p):=by
 unfold storedH jB;by_cases h:(atKey xs p.1).isSome=true
 ·rw[O6 h,O6 (show(ka p).1∈_ from(Gk xs p.1).mp h),K4];exact r9 λ x _=>Pq _ _ x
 ·rw[O7 h,O7 (show ¬(ka p).1∈(xs.map ka).map (·.1)from λ z=>h ((Gk xs p.1).mpr z)),D5];rfl
theorem EF:∀(ps xs:List Ent),(putAll xs ps).map ka=(ps.map ka).foldl jB (xs.map ka)
 |[],_=>rfl
 |p::ps,xs=>by show(putAll (storedH xs p.1 p.2.1 p.2.2) ps).map ka=_;rw[EF ps,AI];rfl
theorem yB:∀(ps xs:List Ent),(putAll xs ps).length<=xs.length+ps.length
 |[],_=>by simp[putAll]
 |p::ps,xs=>by have h:=yB ps (storedH xs p.1 p.2.1 p.2.2);have h2:=ky xs p;have e:putAll xs (p::ps)=putAll (storedH xs p.1 p.2.1 p.2.2) ps:=rfl;rw[e,A5];omega
end L5
namespace L2
open PySem PySem.Spec PyProof.Rows L5 PySem.W
def iX(K:O8)(H:Hp):List V->List (List Key×Addr)->Prop
 |[],[]=>True
 |y::ys,p::ps=>(∃(t:Addr) (v:V) (r:List Int),y=.ref t/\fZ K H t [.ref p.2,v]/\p.1=r.map Sum.inl/\fZ K H p.2 (r.map V.int))/\iX K H ys ps
 |_,_=>False
theorem iX.row {K:O8}{H:Hp}:∀{ys:List V} {ps:List (List Key×Addr)},iX K H ys ps->∀p∈ps,∃r:List Int,p.1=r.map Sum.inl/\fZ K H p.2 (r.map V.int)
 |[],[],_,_,m=>by cases m
 |[],_::_,h,_,_=>h.elim
 |_::_,[],h,_,_=>h.elim
 |y::ys,q::ps,⟨⟨t,v,r,_,_,h1,h2⟩,h⟩,p,m=>by
  rcases J0.mp m with rfl|m
  ·exact⟨r,h1,h2⟩
  ·exact iX.row h p m
section
variable {X:Cx}{pins:List (Addr×Obj)}{σ:St}{H:Hp}{s:Shared}
theorem nv{prog:Program}{w:World}:∀{au:List Value} {r:List Int},Vals (r.map V.int) au->ItemsAre (cj prog w) (r.map Sum.inl) au
 |au,[],h=>by cases h;exact .nil
 |au,i::r,h=>by
  cases h with
  |cons h1 h2=>obtain⟨t,rfl⟩:=h1;exact .cons (kL prog w i t) (nv h2)
theorem mU(I:Inv X pins σ H s):∀{ys:List V} {kp:List (List Key×Addr)} {au:List Value},iX X.K H ys kp->Vals ys au->∃ps:List Ent,ps.map ka=kp/\au.length=ps.length/\∀(j:Nat) (u:Value) (p:Ent),au[j]?=some u->ps[j]?=some p->km X.prog X.w s.heap u p
 |[],[],_,_,.nil=>⟨[],rfl,rfl,λ j u p h=>by simp at h⟩
 |[],_::_,_,h,_=>h.elim
 |_::_,[],_,h,_=>h.elim
 |y::ys,q::kp,_,h0,.cons (b:=u0) e0 er=>by
  obtain⟨⟨t,v,r,rfl,h1,h2,h3⟩,h⟩:=h0;obtain⟨ps,p1,p2,p3⟩:=mU I h er;cases(show u0=Value.ref t from e0);obtain⟨i2,r2,⟨o,ho,hc,n,hd⟩,_⟩:=I.tuple h1;obtain⟨u1,u2,rfl,q1,q2⟩:=vals2 r2;cases(show u1=Value.ref q.2 from q1);obtain⟨i3,r3,⟨o3,ho3,hc3,n3,TF⟩,_⟩:=I.tuple h3;refine⟨(q.1,q.2,u2)::ps,by simp[ka,p1],by simp[p2],λ j u p e1 e2=>?_⟩;cases j with
  |zero=>simp at e1 e2;subst e1 e2;refine⟨⟨t,rfl,o,ho,hc,n,hd⟩,o3,i3.toArray,n3,ho3,hc3,TF,?_⟩;rw[h2];exact nv r3
  |succ j=>exact p3 j u p (by simpa using e1) (by simpa using e2)
end
section
variable {X:Cx}{e:Expr}{te:TE}{p p2 pos bS fp kp:Pos}{f:Str}{k:Nat}{ps:List Str}{sp:Sp}
def qN(K:O8)(sp:Sp)(x:V)(H:Hp)(Q:VK):Prop:=∃(l:Addr) (ys zs:List V) (kp:List (List Key×Addr)) (b:Bool) (R:List V->Hp->Prop) (key:Nat->Ky),x=.ref l/\dF K H l ys/\ys.length < 64/\iX K H ys kp/\zs=(eI kp).map (λ p=>V.ref p.2)/\R [] H/\
 (∀aw H v,R aw H->zs[aw.length]?=some v->sp [v] H (λ k H'=>R (aw++[k]) H') E0)/\
 ∀aw H,R aw H->aw.length=zs.length->(∀i k,aw[i]?=some k->iJ K b H k (key i))/\∀p out,H p=none->Out (λ i j=>klt (key i) (key j)) zs V.bu out->Q (.ref p) (upd H p (.lst out))
theorem pb:∀as:List Addr,Vals (as.map V.ref) (as.map Value.ref)
 |[]=>.nil
 |a::as=>.cons rfl (pb as)
theorem tN(d:bO X.prog X.w X.K X.mg X.base k f ps sp)(hr:bK (k+2) X.A)(hg:Gl X "sorted")(hm:X.mg "sorted"=none)(GK:Gl X "dict")(Tg:X.mg "dict"=none)(Tv:Gl X f)(he:PE X e te)(Fm:(f==("__debug__":Str))=false:=by decide) (hs:starEach [.Call (.Name "dict" p2) [e] [] bS] X.env=[(false,eval (.Call (.Name "dict" p2) [e] [] bS) X.env)]:=by rfl) (ux:backTo pos (starEach [.Call (.Name "dict" p2) [e] [] bS] X.env)=(false,eval (.Call (.Name "dict" p2) [e] [] bS) X.env)::backTo pos (starEach [] X.env):=by rfl) (kb:(backTo pos (starEach [.Call (.Name "dict" p2) [e] [] bS] X.env)).any (·.1)=false:=by rfl) (ht:starEach [e] X.env=[(false,eval e X.env)]:=by rfl) (S7:starEach [e] X.env=(false,eval e X.env)::starEach [] X.env:=by rfl) (S6:(backTo bS (starEach [] X.env)).any (·.1)=false:=by rfl):PE X (.Call (.Name "sorted" p) [.Call (.Name "dict" p2) [e] [] bS] [⟨some "key",.Name f fp,kp⟩] pos) (λ σ H Q=>te σ H λ x H1=>qN X.K sp x H1 Q):=by
 intro pins s σ H Q I h;obtain⟨q,fd,G,hmf,kq,bd⟩:=d.ex;refine w6 (fu I hg hm PyProof.Rows.boot_sorted ?_ (by decide) (by decide));refine PyProof.Rows.callWith_kw ?_ ux kb;rw[hs];show wpAny _ _ (spliced ((false,eval (.Call (.Name "dict" p2) [e] [] bS) X.env)::[])) _ _ s;refine Calls.spliced_cons (w6 (fu I GK Tg PyProof.Rows.boot_dict ?_ (by decide) (by decide)));refine c4 (cG ((aW he cE (by rw[ht];rfl)) bS pins s σ H (λ vs H1=>match vs with|[x]=>qN X.K sp x H1 Q|_=>False) I h) λ us s1 ⟨vs,H1,I1,r1,q1⟩=>?_) S7 S6;cases vs with
 |nil=>exact q1.elim
 |cons x vs=>
  cases vs with
  |cons _ _=>exact q1.elim
  |nil=>
  have q1:qN X.K sp x H1 Q:=q1;obtain⟨u,rfl,ru⟩:=vals1 r1;obtain⟨l,ys,zs,GB,b,R,key,rfl,hl,GR,hp,rfl,h0,hc,hk⟩:=q1;cases(show u=Value.ref l from ru);obtain⟨au,rv,pl,hz⟩:=I1.list hl;have hlen:=rv.length;obtain⟨es,e1,e2,e3⟩:=mU I1 hp rv;have hu:=hr.un;have ol:∃o,s1.heap.get? l=some o/\o.dict=none:=by obtain⟨o,n,a1,a2,a3,a4⟩:=pl;exact⟨o,a1,a3⟩
  have two:(s1.heap.objs.size==sysModules)=false:=by
   obtain⟨o,n,a1,a2,a3,a4⟩:=pl;obtain⟨m,⟨o',b1,b2,b3,b4,_⟩,_⟩:=I1.loc;have ne:l≠X.env.locals:=λ z=>by rw[z,b3]at a1;cases a1;rw[a4]at b4;cases b4
   have l1:l < s1.heap.objs.size:=K2 a1;have l2:X.env.locals < s1.heap.objs.size:=K2 b3;refine beq_eq_false_iff_ne.mpr λ z=>?_;have z:s1.heap.objs.size=1:=z;have:∀a b:Nat,a≠b->a < 1->b < 1->False:=λ a b _ _ _=>by omega
   exact this l X.env.locals ne (z▸l1) (z▸l2)
  refine JE (by omega) hr.hd pl.isList ol e2 (by omega) e3 λ g tk gk gd gz=>?_;have I2:Inv X pins σ H1 {s1 with heap:=g,toks:=tk}:=I1.kept (t':=tk) gk;refine Calls.spliced_nil ?_;show wpAny _ _ (evalAll ((do let v <- eval (.Name f fp) X.env;standAt pos;pure v)::[])) _ _ _;refine wpAny_evalAll_cons (N6 (e_ I2 Tv hmf (N6 (J9 (N7 (wpAny_evalAll_nil ?_)))) Fm));obtain⟨o,T5,ep,o1,o2,o3,o4,o5,o6⟩:=gd;have ek:(putAll [] es).map ka=eI GB:=by rw[EF,e1];rfl
  have ev:T5.toList.map (·.key)=((eI GB).map (·.2)).map Value.ref:=by rw[o4,<- ek,K4,K4,K4];rfl
  have hsz:T5.size < 64:=by
   have a:=yB es [];have b:T5.toList.length=(putAll [] es).length:=by rw[o4,D3]
   rw[p9]at b;simp at a;omega
  have ez:(eI GB).map (λ p=>V.ref p.2)=((eI GB).map (·.2)).map V.ref:=by rw[K4];rfl
  have lz:((eI GB).map (λ p=>V.ref p.2)).length < 64:=by
   have b:(eI GB).length=T5.size:=by have:=O3 List.length ev;simpa using this.symm
   rw[D3,b];exact hsz
  have go:Goes X q s1.heap.objs.size (((eI GB).map (·.2)).map Value.ref) {s1 with heap:=g,toks:=tk}:=by intro Q' hQ;refine Hm (s:={s1 with heap:=g,toks:=tk}) two hr.hd (⟨o,o1,o2,o3⟩:Raw g _ T5 ep) hsz λ Dd kS g0 g' vy TZ a1 a2 a3 a4 a5 a6 a7=>?_;rw[ev];exact hQ Dd kS g0 g' vy TZ a1 a2 a3 a4 a5 a6 a7
  exact xD G bd hr I2 (by rw[ez];exact pb _) go lz R key h0 hc hk
end
end L2
namespace L3
open PySem PySem.Spec L2 L5
def zW(r:List Int):D:=.tup (r.map D.int)
def pairD(r:List Int):D:=.tup [zW r,.bl true]
theorem rq:∀a b:List Int,(a.map Sum.inl:List Key)=b.map Sum.inl->a=b
 |[],[],_=>rfl
 |[],_::_,h=>by cases h
 |_::_,[],h=>by cases h
 |x::a,y::b,h=>by simp only[H9,List.cons.injEq,Sum.inl.injEq]at h;rw[h.1,rq a b h.2]
section
variable {K:O8}{H:Hp}
theorem tO:∀{rows:List (List Int)} {ys:List V},aE K H (rows.map pairD) ys->∃kp,iX K H ys kp/\kp.map (·.1)=rows.map λ r=>(r.map Sum.inl:List Key)
 |[],ys,h=>by cases(aq.mp h);exact⟨[],trivial,rfl⟩
 |r::rows,ys,h=>by obtain⟨y,ys,rfl,h1,h2⟩:=ag.mp h;obtain⟨kp,a1,a2⟩:=tO h2;obtain⟨t,xs,rfl,hq,hd⟩:=aQ.mp h1;obtain⟨x1,r1,rfl,b1,hd⟩:=ag.mp hd;obtain⟨x2,r2,rfl,b2,hd⟩:=ag.mp hd;cases(aq.mp hd);obtain⟨m,zs,rfl,Kk,hd2⟩:=aQ.mp b1;rw[cR hd2]at Kk;exact⟨((r.map Sum.inl:List Key),m)::kp,⟨⟨t,x2,r,rfl,hq,rfl,Kk⟩,a1⟩,by simp[a2]⟩
theorem kU:∀{fs:List (List Key×Addr)} {rs:List (List Int)},(∀p∈fs,∃r:List Int,p.1=r.map Sum.inl/\fZ K H p.2 (r.map V.int))->fs.map (·.1)=rs.map (λ r=>(r.map Sum.inl:List Key))->aE K H (rs.map zW) (fs.map λ p=>V.ref p.2)
 |[],[],_,_=>by simp[aq]
 |[],_::_,_,h=>by cases h
 |_::_,[],_,h=>by cases h
 |p::fs,r::rs,h,e=>by simp only[H9,List.cons.injEq]at e;obtain⟨r',e1,e2⟩:=h p (by simp);have er:r'=r:=rq _ _ (e1.symm.trans e.1);subst er;rw[H9,H9,ag];refine⟨_,_,rfl,aQ.mpr ⟨p.2,_,rfl,e2,kg r'⟩,kU (λ q m=>h q (by simp[m])) e.2⟩
end
def rP(sp:gL)(d:D)(M:Mem)(Q:bF):Prop:=∃(l:Addr) (rows:List (List Int)) (b:Bool) (R:List D->Mem->Prop) (key:Nat->Ky),d=.ref l/\M l=some (.lst (rows.map pairD))/\rows.length < 64/\R [] M/\
 (∀jQ M e,R jQ M->((once rows).map zW)[jQ.length]?=some e->sp [e] M (λ k M'=>R (jQ++[k]) M'))/\
 ∀jQ M,R jQ M->jQ.length=(once rows).length->(∀i k,jQ[i]?=some k->Ll b M k (key i))/\∀p out,M p=none->Out (λ i j=>klt (key i) (key j)) ((once rows).map zW) D.bu out->Q (.ref p) (ay M p (.lst out))
def qE(sp:gL)(te:bX):bX:=λ δ M Q=>te δ M λ d M1=>rP sp d M1 Q
section
variable {X:Cx}{e:Expr}{te:bX}{p p2 pos bS fp kp:Pos}{f:Str}{k:Nat}{ps:List Str}{sp:gL}
theorem wz(d:cO X.prog X.w X.K X.mg X.base k f ps sp)(hr:bK (k+2) X.A)(hg:Gl X "sorted")(hm:X.mg "sorted"=none)(GK:Gl X "dict")(Tg:X.mg "dict"=none)(Tv:Gl X f)(he:QE X e te)(Fm:(f==("__debug__":Str))=false:=by decide) (hs:starEach [.Call (.Name "dict" p2) [e] [] bS] X.env=[(false,eval (.Call (.Name "dict" p2) [e] [] bS) X.env)]:=by rfl) (ux:backTo pos (starEach [.Call (.Name "dict" p2) [e] [] bS] X.env)=(false,eval (.Call (.Name "dict" p2) [e] [] bS) X.env)::backTo pos (starEach [] X.env):=by rfl) (kb:(backTo pos (starEach [.Call (.Name "dict" p2) [e] [] bS] X.env)).any (·.1)=false:=by rfl) (ht:starEach [e] X.env=[(false,eval e X.env)]:=by rfl) (S7:starEach [e] X.env=(false,eval e X.env)::starEach [] X.env:=by rfl) (S6:(backTo bS (starEach [] X.env)).any (·.1)=false:=by rfl):QE X (.Call (.Name "sorted" p) [.Call (.Name "dict" p2) [e] [] bS] [⟨some "key",.Name f fp,kp⟩] pos) (qE sp te):=by
 refine bL (tN d hr hg hm GK Tg Tv he Fm hs ux kb ht S7 S6) ?_;rintro σ H Q ⟨δ,M,Q2,hs,hm,q,k⟩;refine⟨δ,M,_,hs,hm,q,λ x H1 d M1 hd bR t1 q1=>?_⟩;obtain⟨l,rows,b,R,key,rfl,hM,GR,h0,hc,hk⟩:=q1;cases(aO.mp hd);obtain⟨ys,hy,Y7⟩:=bR l _ hM;have hlen:=Y7.length;rw[D3]at hlen;obtain⟨GB,p1,p2⟩:=tO Y7;have hd2:aE X.K H1 ((once rows).map zW) ((eI GB).map λ p=>V.ref p.2):=kU (λ p m=>p1.row p (wO m)) (uD _ rq p2);have Y1:=hd2.length;rw[D3 (f:=zW)]at Y1;refine⟨l,ys,_,GB,b,λ aw H'=>∃jQ M',aE X.K H' jQ aw/\RelM X.K H' M'/\ao H1 H'/\R jQ M',key,rfl,dF.of hy,by omega,p1,rfl,⟨[],M1,by rw[aq],bR,ao.refl _,h0⟩,?_,?_⟩
 ·rintro aw H2 v ⟨jQ,M2,h1,h2,t2,hR⟩ hv;have Tn:=h1.length;obtain⟨e,e1,e2⟩:=(aE.mono t2 _ hd2).xg hv;refine⟨[e],M2,_,aE.one e2,h2,hc jQ M2 e hR (by rw[<- Tn];exact e1),λ w H3 d3 M3 TF BJ t3 q3=>?_⟩;exact⟨jQ++[d3],M3,(aE.mono t3 jQ h1).append (aE.one TF),BJ,t2.trans t3,q3⟩
 ·rintro aw H2 ⟨jQ,M2,h1,h2,t2,hR⟩ hl;have Tn:=h1.length;obtain⟨a1,a2⟩:=hk jQ M2 hR (by omega);refine⟨λ i w hw=>?_,λ p out hp ho=>?_⟩
  ·obtain⟨d3,e3,TF⟩:=h1.xg hw;exact(a1 i d3 e3).v TF h2
  ·obtain⟨π,p1,p2,rfl⟩:=ho;rw[Y1]at p1 p2;refine k _ _ (.ref p) _ (aO.mpr rfl) (dD hp (pV (aE.mono t2 _ hd2) π.toList) h2) (t1.trans (t2.trans (ao.laid hp))) (a2 p _ (h2.free hp) ⟨π,by rw[D3];exact p1,by rw[D3];exact p2,rfl⟩)
end
theorem CV{sp:gL}{te:bX}{δ:cV}{M:Mem}{Q:bF}(h:te δ M λ d M1=>rP sp d M1 Q):qE sp te δ M Q:=h
end L3
namespace L4
open PySem PySem.Spec L2 L3 L5
section
variable {X:Cx}{e:Expr}{te:bX}{p p2 pos bS fp kp:Pos}{f:Str}{k:Nat}{ps:List Str}{sp:gL}
theorem vS(d:cO X.prog X.w X.K X.mg X.base k f ps sp)(hr:bK (k+2) X.A)(hg:Gl X "sorted")(hm:X.mg "sorted"=none)(GK:Gl X "dict")(Tg:X.mg "dict"=none)(Tv:Gl X f)(he:WE X e te)(Fm:(f==("__debug__":Str))=false:=by decide) (hs:starEach [.Call (.Name "dict" p2) [e] [] bS] X.env=[(false,eval (.Call (.Name "dict" p2) [e] [] bS) X.env)]:=by rfl) (ux:backTo pos (starEach [.Call (.Name "dict" p2) [e] [] bS] X.env)=(false,eval (.Call (.Name "dict" p2) [e] [] bS) X.env)::backTo pos (starEach [] X.env):=by rfl) (kb:(backTo pos (starEach [.Call (.Name "dict" p2) [e] [] bS] X.env)).any (·.1)=false:=by rfl) (ht:starEach [e] X.env=[(false,eval e X.env)]:=by rfl) (S7:starEach [e] X.env=(false,eval e X.env)::starEach [] X.env:=by rfl) (S6:(backTo bS (starEach [] X.env)).any (·.1)=false:=by rfl):WE X (.Call (.Name "sorted" p) [.Call (.Name "dict" p2) [e] [] bS] [⟨some "key",.Name f fp,kp⟩] pos) (qE sp te):=⟨wz d hr hg hm GK Tg Tv he.h Fm hs ux kb ht S7 S6⟩
end
end L4
namespace L5
open PySem
open AutoSeq1 (wpAny_loadPart')
abbrev VC(T:String)(h:Heap)(l:Addr):Heap:=h.push {cls:=.type T,data:=.fields #[.ref l,.int 0 0]}
abbrev X2(T:String)(h:Heap)(l:Addr):Heap:=(VC T h l).push {cls:=.type "enumerate",data:=.fields #[.none,.bool false,.ref h.objs.size,rawInt 0,.none,.none]}
set_option tactic.hygienic true in
theorem xi{T:String}{S:Heap->Addr->Array Value->Prop}(k:NK T S)(l:Addr)(vs:Array Value):Meets (Builtin.«enumerate.__new__» ⟨[.type "enumerate",.ref l],[]⟩) (λ _ R s=>S s.heap l vs/\R (.ok (.ret (.ref (VC T s.heap l).objs.size))) {s with heap:=X2 T s.heap l}):=
 .of_wp λ prog w A R s h=>by
  obtain⟨hp,g,d,tk,os⟩:=s;obtain⟨a1,h⟩:=h;have se:=sub_enumerate;have aT:S (Shared.heap ⟨hp,g,d,tk,os⟩) l vs:=a1
  wp_walk using k.start aT
  refine wpAny_stack_any λ st=>N7 ?_;split
  ·rename_i c _ _ _ _ _;cases(c==Value.type "enumerate")
   all_goals
    wp_walk using k.start aT
    exact⟨_,rfl,h⟩
  ·wp_walk using k.start aT
   exact⟨_,rfl,h⟩
theorem JD{prog:Program}{w:World}{A:Around}{E:Value->Shared->Prop}{s:Shared}{T:String}{S:Heap->Addr->Array Value->Prop}(kk:NK T S){l:Addr}{vs:Array Value}{Q:Value->Shared->Prop}(a1:S s.heap l vs) (k:∀h',IsEnum h' (s.heap.objs.size+1) s.heap.objs.size 0 .none->bU T h' s.heap.objs.size l 0->(∀f o,s.heap.get? f=some o->h'.get? f=some o)->Q (.ref (s.heap.objs.size+1)) {s with heap:=h'}):wpAny (model prog w) A (call (.type "enumerate") [.ref l]) Q E s:=by refine callType_new F.called_enumerate (by decide) (F.typeCall_enumerate_1 _) (F.newCall_enumerate_1 _) (λ ob=>F.args_object_init_2 ob _) F.entry_enumerate_new (xi kk l vs) ⟨a1,?_⟩;have e1:(VC T s.heap l).objs.size=s.heap.objs.size+1:=E9 ..;have g2:(X2 T s.heap l).get? (VC T s.heap l).objs.size=some _:=q8 _ rfl;have g1:(X2 T s.heap l).get? s.heap.objs.size=some _:=j7 _ (q8 s.heap rfl);rw[e1]at g2;show _/\_;rw[e1];exact⟨⟨_,g2,rfl⟩,k _ g2 ⟨_,g1,rfl,rfl⟩ λ f o x=>j7 _ (j7 _ x)⟩
theorem En{T:String}{S:Heap->Addr->Array Value->Prop}(k:NK T S){prog:Program}{w:World}{A:Around}(hA:A.handled=none)(j l:Addr)(ne:l≠j)(vs:Array Value):Draws prog w A j [j,l] vs.size (λ i v=>vs[i]?=some v) (λ i h=>bU T h j l i/\S h l vs) where
 live:=λ _ _ st=>let⟨⟨o,ho,_⟩,_⟩:=st;⟨o,ho⟩
 frame:=λ _ _ _ st q=>let⟨⟨o,ho,r⟩,su⟩:=st;⟨⟨o,q j (by simp) o ho,r⟩,k.keep su λ o e=>q l (by simp) o e⟩
 item:=λ i s Q E hi st kk=>k.item st.1 st.2 (g9 hi) λ h' a b=>kk _ h' s.toks (g9 hi) ⟨a,k.keep st.2 λ o e=>b.extBut _ _ ne e⟩ b
 done:=λ s Q E st kk=>k.stop hA st.1 st.2 (j6 (L8 _)) kk
end L5
namespace L2
open PySem PySem.Spec PyProof.Rows L5
def VL(K:O8)(b:Bool)(l:Addr):It:=
 ⟨λ i H=>∃xs x,Sq b K H l xs/\xs[i]?=some x,
  λ i H v H'=>∃(p:Addr) (x:V),H p=none/\v=.ref p/\H'=upd H p (.tup [.int i,x])/\∀xs,Sq b K H l xs->xs[i]?=some x,
  λ i H=>∃xs,Sq b K H l xs/\xs.length<=i⟩
def ZM(b:Bool)(e j l:Addr)(i:Nat)(h:Heap):Prop:=(∃old,IsEnum h e j i old)/\bU (Yw b) h j l i
theorem zI{P:Program}{w:World}{K:O8}{es:List Expr}{k0}{pos:Pos}{e j:Addr}(b:Bool)(B:e≠j)(l:Addr):Turn P w K (.Tuple es k0 pos) (VL K b l) [e,j] e (ZM b e j l) where
 mem:=by simp
 obj:=λ i h st c hc=>by
  obtain⟨⟨old,he⟩,⟨oa,ha,_,da⟩⟩:=st;rcases J0.mp hc with rfl|hc
  ·exact⟨_,he,λ v z=>by cases z⟩
  rcases J0.mp hc with rfl|hc
  ·exact⟨_,ha,λ v z=>by rw[da]at z;cases z⟩
  ·cases hc
 keep:=λ i h h' st q=>by obtain⟨⟨old,he⟩,⟨oa,ha,r⟩⟩:=st;exact⟨⟨old,q e (by simp) _ he⟩,⟨oa,q j (by simp) _ ha,r⟩⟩
 item:=by
  intro X hP hw hK hc i pins s σ H E I hf st hg;subst hP hw hK;obtain⟨xs,x,hl,hx⟩:=hg;obtain⟨⟨old,he⟩,hj⟩:=st;obtain⟨GD,r1,p1⟩:=iQ I hl;obtain⟨u1,e1,q1⟩:=r1.get hx;have lj:l≠j:=Cs I (hf j (by simp)) hl;have le:l≠e:=Cs I (hf e (by simp)) hl;have hi:i < GD.toArray.size:=by have:=(i5.mp e1).1;simpa using this
  refine wpAny_pyNext_enum_itemD (En (jy b) (A:=X.A.in1) (I.ok.hd hc) j l lj GD.toArray) he ⟨hj,p1⟩ hi B (by simp;exact⟨B,O4 le⟩) λ y g tk g1 g2 g3 g4 g5 g6=>?_;have ey:y=u1:=by rw[getElem?_toArray,e1]at g1;cases g1;rfl
  subst ey;have hn:H s.heap.objs.size=none:=I.bq.fresh (L8 _);have I1:Inv X pins σ H {s with heap:=g,toks:=tk+1}:=sM (t':=tk+1) I (ch:=[e,j]) (λ c o hc e=>g6 c o (λ z=>hc (by simp[z])) (λ z=>hc (by simp[z])) e) hf;refine⟨_,rfl,wpAny_letOwnedTupleGo_enum (s:={s with heap:=g,toks:=tk+1}) g2 λ g' e' sb=>?_⟩;have I2:Inv X pins σ H {s with heap:=g',toks:=tk+1}:=sM (s:={s with heap:=g,toks:=tk+1}) (t':=tk+1) (ch:=[e]) I1 (λ c o hc q=>sb.extBut _ _ (λ z=>hc (by simp[z])) q) (λ c hc=>hf c (by simp at hc ⊢;exact .inl hc));have fo:=I.lC (H':=H) (L8 s.heap.objs.size) hn;have YE:e < s.heap.objs.size:=K2 he;have ltj:j < s.heap.objs.size:=let⟨_,q,_⟩:=hj;K2 q
  have t5:=sb.extBut _ _ (L6 YE) g4;have I3:Inv X pins σ (upd H s.heap.objs.size (.tup [.int i,x])) {s with heap:=g',toks:=tk+1}:=Inv.sO I2 hn ⟨show 2<=sizeLine by decide,[.int i tk,y],.cons ⟨tk,rfl⟩ (.cons q1 .nil),⟨_,t5,rfl,_,rfl⟩⟩ fo.2.1 (K5 I.sz (L8 _)) fo.2.2.2.2.1 fo.2.2.2.2.2;refine⟨.ref s.heap.objs.size,_,I3,rfl,⟨s.heap.objs.size,x,hn,rfl,rfl,λ Mi h'=>by rw[MK I h' hl];exact hx⟩,⟨⟨_,by simpa using e'⟩,?_⟩,λ c hc=>?_⟩
  ·obtain⟨o,ho,r⟩:=g3.1;exact⟨o,sb.extBut _ _ (O4 B) ho,r⟩
  ·have iS:c < s.heap.objs.size:=by
    simp at hc;rcases hc with rfl|rfl
    ·exact YE
    ·exact ltj
   rw[aA (K1 iS)];exact(hf c hc).1
 done:=by intro X hP hw hK hc i pins s σ H E I hf st hg;subst hP hw hK;obtain⟨xs,hl,hx⟩:=hg;obtain⟨⟨old,he⟩,hj⟩:=st;obtain⟨GD,r1,p1⟩:=iQ I hl;have l1:=r1.length;have lj:l≠j:=Cs I (hf j (by simp)) hl;have hT:s.TypeIs (.ref e) "enumerate":=⟨_,he,rfl⟩;unfold pyNext;refine N6 (G8 (j3 (name:=Str.ofString "__next__") hT F.slot_enumerate_next (A9 F.slot_enumerate_next hT F.entry_enumerate_next ?_ (F.args_enumerate_next_1 _))));refine N6 (m:=field (.ref e) 2) (N4 he rfl (x:=.ref j) rfl ?_);refine N6 ((jy b).stop (A:=X.A.in1) (I.ok.hd hc) hj p1 (j6 (by simp;omega)) λ g c g1 g2=>?_);obtain⟨o,ho,vF⟩:=g2;refine N6 (B7 (T:="StopIteration") (b:=true) ⟨o,ho,vF⟩ isSubtype_stop (N7 ⟨rfl,?_⟩));exact sM (t':=s.toks) (ch:=[j]) I (λ b o hb q=>g1 b o (λ z=>hb (by simp[z])) q) λ b hb=>hf b (by simp at hb ⊢;exact .inr hb)
 self:=λ _ _ _ _ _ st h=>wpAny_pyIter_enum st.1.choose_spec h
section
variable {X:Cx}{es:List Expr}{k0:_}{my:Pos}{a:Expr}{ta:TA}{p pos:Pos}
def SY(K:O8)(ta:TA):TI:=λ σ H R=>ta σ H λ vs H1=>∃(b:Bool) (l:Addr),vs=[.ref l]/\(∃xs,Sq b K H1 l xs)/\R (VL K b l) H1
theorem IZ(hg:Gl X "enumerate")(hm:X.mg "enumerate"=none)(ha:PA X [a] ta)(hs:starEach [a] X.env=[(false,eval a X.env)]:=by rfl)(kb:starEach [] X.env=[]:=by rfl):PI X (.Tuple es k0 my) (.Call (.Name "enumerate" p) [a] [] pos) (SY X.K ta):=by
 intro pins s σ H R I h;refine Call_ (fu I hg hm boot_enumerate (c4 (cG (ha pos pins s σ H _ I h) λ us s1 ⟨vs,H1,I1,r1,q1⟩=>?_) (by rw[hs,kb]) (by rw[kb];rfl)));obtain⟨b,l,e,⟨xs,hl⟩,q⟩:=q1;subst e;obtain⟨u1,rfl,r⟩:=vals1 r1;cases(show u1=Value.ref l from r);obtain⟨GD,r1,p1⟩:=iQ I1 hl;refine JD (jy b) p1 λ g g1 g2 g7=>wpAny_pyIter_enum (s:={s1 with heap:=g}) g1 ?_;have I2:Inv X pins σ H1 {s1 with heap:=g}:=I1.kept (t':=s1.toks) g7;have fr:∀c,s1.heap.objs.size<=c->iZ X pins H1 c:=λ c hc=>I1.lC hc (I1.bq.fresh hc);have ne:s1.heap.objs.size+1≠s1.heap.objs.size:=by omega
 refine⟨_,[s1.heap.objs.size+1,s1.heap.objs.size],_,_,H1,rfl,I2,zI b ne l,⟨⟨_,g1⟩,g2⟩,λ c hc=>fr c ?_,q⟩;simp at hc;rcases hc with rfl|rfl <;> omega
end
end L2
namespace L3
open PySem PySem.Spec L2 L5
def ff(ds:List D):List D:=(List.range ds.length).map λ(i:Nat)=>D.tup [.int (i:Int),ds.getD i D.bu]
theorem Be(ds:List D):(ff ds).length=ds.length:=by simp[ff]
def kindB:D->Bool
 | .tup _=>true
 |_=>false
theorem qy{K:O8}{H:Hp}{M:Mem}{d:D}{ds:List D}{x:V}(e:cL M d=some ds)(h:Dat K H d x)(hm:RelM K H M):∃p xs,x=.ref p/\Sq (kindB d) K H p xs/\aE K H ds xs:=by
 cases d with
 |tup es=>cases(show some es=some ds from e);obtain⟨p,xs,rfl,h1,h2⟩:=aQ.mp h;exact⟨p,xs,rfl,h1,h2⟩
 |fl es=>cases(show some es=some ds from e);obtain⟨p,xs,rfl,h1,h2⟩:=iT.mp h;exact⟨p,xs,rfl,h1.sq,h2⟩
 |ref a=>cases(aO.mp h);obtain⟨xs,h1,h2⟩:=cU (show a_ M a=some ds from e) hm;exact⟨a,xs,rfl,dF.of h1,h2⟩
 |_=>cases e
def uH(x:D)(M:Mem):Option (List D):=(cL M x).map ff
theorem AK{K:O8}{H1:Hp}{a:Addr}{x:D}(hx:Dat K H1 x (.ref a)):vv K H1 (VL K (kindB x) a) (.fn (uH x)):=λ H M fs t hm e=>by
 have e:(cL M x).map ff=some fs:=e;cases e1:cL M x with
 |none=>rw[e1]at e;cases e
 |some ds=>rw[e1]at e;cases e;obtain⟨p,xs,e3,q1,x1⟩:=qy e1 (Dat.mono t x hx) hm;cases e3;have l1:=x1.length;rw[Be];refine⟨λ i hi=>⟨xs,xs[i]'(by omega),q1,by simp⟩,λ i hi=>⟨xs,q1,by omega⟩,λ i v H' hi y=>?_⟩;obtain⟨p,v,hp,rfl,rfl,hx⟩:=y;obtain⟨d,d1,d2⟩:=x1.xg (hx xs q1);refine⟨ao.laid hp,hm.laid hp,.tup [.int i,d],?_,ij hp (ag.mpr ⟨.int i,[v],rfl,aB.mpr rfl,aE.one d2⟩)⟩;obtain⟨z1,w1⟩:=i5.mp d1;simp[ff,z1,w1]
def EL(ta:eT):lZ:=λ δ M R=>ta δ M λ ds M1=>match ds with
 |[.tup xs]=>R (.fix (ff xs)) M1
 |[x]=>(∃zs,cL M1 x=some zs)/\R (.fn (uH x)) M1
 |_=>False
section
variable {X:Cx}{es:List Expr}{k0:_}{my:Pos}{a:Expr}{ta:eT}{p pos:Pos}
theorem IF(hg:Gl X "enumerate")(hm:X.mg "enumerate"=none)(ha:QA X [a] ta)(hs:starEach [a] X.env=[(false,eval a X.env)]:=by rfl)(kb:starEach [] X.env=[]:=by rfl):QI X (.Tuple es k0 my) (.Call (.Name "enumerate" p) [a] [] pos) (EL ta):=DK (IZ hg hm ha hs kb) λ σ H R ⟨δ,M,R2,hs,hm,q,k⟩=>by
 refine⟨δ,M,_,hs,hm,q,λ xs H1 ds M1 hd bR t1 q1=>?_⟩;have go:∀x,ds=[x]->(∃zs,cL M1 x=some zs)->(∀J,vv X.K H1 J (.fn (uH x))->R J H1)->∃(b:Bool) (l:Addr),xs=[.ref l]/\(∃xs,Sq b X.K H1 l xs)/\R (VL X.K b l) H1:=by rintro x rfl ⟨zs,hz⟩ hR;obtain⟨vx,r,rfl,hx,hr⟩:=ag.mp hd;cases(aq.mp hr);obtain⟨p,vs,rfl,q1,_⟩:=qy hz hx bR;exact⟨_,p,rfl,⟨vs,q1⟩,hR _ (AK hx)⟩
 match ds,q1 with
 |[x],q1=>
  by_cases ht:∃xs,x=.tup xs
  ·obtain⟨xs,rfl⟩:=ht;exact go _ rfl ⟨_,rfl⟩ λ J hJ=>k J H1 (.fix (ff xs)) M1 (λ H M ds t hm e=>hJ H M ds t hm e) bR t1 q1
  ·have q2:(∃zs,cL M1 x=some zs)/\R2 (.fn (uH x)) M1:=by cases x <;> first|exact q1|exact absurd ⟨_,rfl⟩ ht
   exact go x rfl q2.1 λ J hJ=>k J H1 _ M1 hJ bR t1 q2.2
 |[],q1=>exact q1.elim
 |x::y::r,q1=>cases x <;> exact q1.elim
end
end L3
namespace L4
open PySem PySem.Spec L2 L3 L5
section
variable {X:Cx}{es:List Expr}{k0:_}{my:Pos}{a:Expr}{ta:eT}{p pos:Pos}
theorem xR(hg:Gl X "enumerate")(hm:X.mg "enumerate"=none)(ha:WA X [a] ta)(hs:starEach [a] X.env=[(false,eval a X.env)]:=by rfl)(kb:starEach [] X.env=[]:=by rfl):WI X (.Tuple es k0 my) (.Call (.Name "enumerate" p) [a] [] pos) (EL ta):=⟨IF hg hm ha.h hs kb⟩
end
end L4
namespace L2
open PySem PySem.Spec PyProof.Rows
section
variable {X:Cx}
theorem Jo:eQ X (binaryOp .Add) (λ x y H Q=>∃a b ys,x=.ref a/\y=.ref b/\fZ X.K H a []/\fZ X.K H b ys/\Q (.ref b) H):=by intro pins s σ H x y v u Q I rx ry h;obtain⟨a,b,ys,rfl,rfl,ha,hb,q⟩:=h;cases rx;cases ry;obtain⟨i1,r1,p1,_⟩:=I.tuple ha;obtain⟨i2,r2,p2,_⟩:=I.tuple hb;cases r1;obtain⟨⟨c1,d1,a1,l1⟩,o1,k1,n1,e1⟩:=id p1;obtain⟨⟨c2,d2,a2,l2⟩,o2,k2,n2,e2⟩:=id p2;cases(show c1=.type "tuple" from k1);cases(show a1=_ from e1);cases(show c2=.type "tuple" from k2);cases(show a2=_ from e2);exact concat_meets ⟨_,o1,rfl⟩ ⟨_,o2,rfl⟩ noFill_tuple_add seq_tuple_add PySem.F.slot_tuple_add PySem.F.entry_tuple_add (PySem.F.args_tuple_add_2 _ _) (tuple_addW0 a b #[] i2.toArray n1 n2 d1 d2 l1 l2 rfl) ⟨o1,o2,⟨.ref b,H,I,rfl,q⟩⟩
end
end L2
namespace L3
open PySem PySem.Spec L2
section
variable {X:Cx}
def uV:eU:=λ x y M Q=>KO x y M Q\/∃ys,x=.tup []/\y=.tup ys/\Q (.tup ys) M
theorem bJ:eP X (binaryOp .Add) uV:=by
 obtain⟨r,h1,h2⟩:=(SE:eP X (binaryOp .Add) KO);refine⟨_,h1.or Jo,λ x y d e H M Q2 Q hd he hm q k=>?_⟩;rcases q with q|⟨ys,rfl,rfl,q⟩
 ·exact .inl (h2 x y d e H M Q2 Q hd he hm q k)
 ·obtain⟨p,vs,rfl,hp,hx⟩:=aQ.mp hd;obtain⟨p2,ws,rfl,ix,hy⟩:=aQ.mp he;cases(aq.mp hx);exact .inr ⟨p,p2,ws,rfl,rfl,hp,ix,k _ H _ M (aQ.mpr ⟨p2,ws,rfl,ix,hy⟩) hm (ao.refl H) q⟩
end
section
variable {M:Mem}{Q:bF}
theorem Dm{i j:Int}(q:Q (.int (i+j)) M):uV (.int i) (.int j) M Q:=.inl q
theorem tG{i j:Str}(h:i.length+j.length<=sizeLine)(q:Q (.str (i++j)) M):uV (.str i) (.str j) M Q:=.inl ⟨h,q⟩
theorem tH{a b:Addr}{xs ys:List D}(ha:M a=some (.lst xs))(hb:M b=some (.lst ys))(h:xs.length+ys.length<=sizeLine)(q:∀p,M p=none->Q (.ref p) (ay M p (.lst (xs++ys)))):uV (.ref a) (.ref b) M Q:=.inl (Ip ha hb h q)
theorem gX{xs ys:List D}(h:xs.length+ys.length<=sizeLine)(q:Q (.tup (xs++ys)) M):uV (.tup xs) (.tup ys) M Q:=by
 cases xs with
 |nil=>exact .inr ⟨ys,rfl,rfl,q⟩
 |cons x xs=>exact .inl ⟨by simp,h,q⟩
end
end L3
namespace L3
open PySem L2
section
variable {g:fX}{tt:dX}{te:bX}{δ δc:cV}{M1:Mem}{Qe:List D->Mem->Prop}
theorem U'{n:Nat}(h:n<=10000):n<=sizeLine:=K5 h (by decide)
theorem xu{α β:Type}{xs:List α}{enc:α->D}(xj:β->D)(I:List β->Mem->Prop)(hn:xs.length<=10000)(h0:I [] M1) (hs:∀(i:Nat) (x:α) (ys:List β) (M:Mem) (N:D->Mem->Prop),xs[i]?=some x->ys.length=i->I ys M->(∀b M',I (ys++[b]) M'->N (xj b) M')->g (enc x) δc M λ δ2 M2=>te δ2 M2 N) (hd:∀ys M,ys.length=xs.length->I ys M->Qe (ys.map xj) M):∃(B:Nat) (W:Nat->List D->Mem->Prop),W 0 [] M1/\∀i acc M,W i acc M->i<=B/\acc.length<=sizeLine/\match items (.fix (xs.map enc)) M with
   |none=>False
   |some ds=>match ds[i]? with
    |none=>i=ds.length/\Qe acc M
    |some d=>g d δc M λ δ2 M2=>mI δ2 M2 λ b M3=>if b=true then te δ2 M3 λ y M4=>W (i+1) (acc++[y]) M4 else W (i+1) acc M3:=by
 refine gw (λ i acc M=>∃ys:List β,acc=ys.map xj/\ys.length=i/\I ys M) ⟨[],rfl,rfl,h0⟩ (λ i acc M hi h=>?_) (λ i d acc M hd h=>?_) (λ acc M h=>?_)
 ·obtain⟨ys,rfl,h1,_⟩:=h;rw[D3]at hi ⊢;exact U' (by omega)
 ·obtain⟨ys,rfl,h1,h2⟩:=h;rw[y1]at hd;cases e:xs[i]? with
  |none=>rw[e]at hd;cases hd
  |some x=>rw[e]at hd;cases hd;refine hs i x ys M _ e h1 h2 λ b M' hb=>⟨ys++[b],by rw[D5];rfl,by simp[h1],hb⟩
 ·obtain⟨ys,rfl,h1,h2⟩:=h;rw[D3]at h1;exact hd ys M h1 h2
theorem Gf{α β:Type}{a:Addr}{xs:List α}(enc:α->D)(xj:β->D)(I:List β->Mem->Prop)(hn:xs.length<=10000)(h0:I [] M1)(hl:∀ys M,I ys M->M a=some (.lst (xs.map enc))) (hs:∀(i:Nat) (x:α) (ys:List β) (M:Mem) (N:D->Mem->Prop),xs[i]?=some x->ys.length=i->I ys M->(∀b M',I (ys++[b]) M'->N (xj b) M')->g (enc x) δc M λ δ2 M2=>te δ2 M2 N) (hd:∀ys M,ys.length=xs.length->I ys M->Qe (ys.map xj) M):∃(B:Nat) (W:Nat->List D->Mem->Prop),W 0 [] M1/\∀i acc M,W i acc M->i<=B/\acc.length<=sizeLine/\match items (.at a) M with
   |none=>False
   |some ds=>match ds[i]? with
    |none=>i=ds.length/\Qe acc M
    |some d=>g d δc M λ δ2 M2=>mI δ2 M2 λ b M3=>if b=true then te δ2 M3 λ y M4=>W (i+1) (acc++[y]) M4 else W (i+1) acc M3:=by
 refine zh (ds:=xs.map enc) (λ i acc M=>∃ys:List β,acc=ys.map xj/\ys.length=i/\I ys M) ⟨[],rfl,rfl,h0⟩ (λ i acc M hi h=>?_) (λ i acc M hi h=>?_) (λ i d acc M hd h=>?_) (λ acc M h=>?_)
 ·obtain⟨ys,rfl,h1,h2⟩:=h;exact hl ys M h2
 ·obtain⟨ys,rfl,h1,_⟩:=h;rw[D3]at hi ⊢;exact U' (by omega)
 ·obtain⟨ys,rfl,h1,h2⟩:=h;rw[y1]at hd;cases e:xs[i]? with
  |none=>rw[e]at hd;cases hd
  |some x=>rw[e]at hd;cases hd;refine hs i x ys M _ e h1 h2 λ b M' hb=>⟨ys++[b],by rw[D5];rfl,by simp[h1],hb⟩
 ·obtain⟨ys,rfl,h1,h2⟩:=h;rw[D3]at h1;exact hd ys M h1 h2
theorem take_one{α:Type}{l:List α}{i:Nat}{a:α}(h:l[i]?=some a):l.take (i+1)=l.take i++[a]:=by rw[take_add_one,h];rfl
theorem bE{α:Type}{xs:List α}{enc:α->D}(out:α->D)(hn:xs.length<=10000) (hs:∀(i:Nat) (x:α) (N:D->Mem->Prop),xs[i]?=some x->N (out x) M1->g (enc x) δc M1 λ δ2 M2=>te δ2 M2 N) (hd:Qe (xs.map out) M1):∃(B:Nat) (W:Nat->List D->Mem->Prop),W 0 [] M1/\∀i acc M,W i acc M->i<=B/\acc.length<=sizeLine/\match items (.fix (xs.map enc)) M with
   |none=>False
   |some ds=>match ds[i]? with
    |none=>i=ds.length/\Qe acc M
    |some d=>g d δc M λ δ2 M2=>mI δ2 M2 λ b M3=>if b=true then te δ2 M3 λ y M4=>W (i+1) (acc++[y]) M4 else W (i+1) acc M3:=by
 refine xu (β:=α) out (λ ys M=>M=M1/\ys=xs.take ys.length) hn ⟨rfl,rfl⟩ (λ i x ys M N hx hy h k=>?_) (λ ys M hy h=>?_)
 ·obtain⟨rfl,h⟩:=h;refine hs i x N hx (k x M ⟨rfl,?_⟩);rw[u4,k9,take_one (a:=x) (by rw[hy];exact hx),<- h]
 ·obtain⟨rfl,h⟩:=h;rw[hy,A8]at h;rw[h];exact hd
theorem p_{α:Type}{a:Addr}{xs:List α}(enc out:α->D)(hn:xs.length<=10000)(hl:M1 a=some (.lst (xs.map enc))) (hs:∀(i:Nat) (x:α) (N:D->Mem->Prop),xs[i]?=some x->N (out x) M1->g (enc x) δc M1 λ δ2 M2=>te δ2 M2 N) (hd:Qe (xs.map out) M1):∃(B:Nat) (W:Nat->List D->Mem->Prop),W 0 [] M1/\∀i acc M,W i acc M->i<=B/\acc.length<=sizeLine/\match items (.at a) M with
   |none=>False
   |some ds=>match ds[i]? with
    |none=>i=ds.length/\Qe acc M
    |some d=>g d δc M λ δ2 M2=>mI δ2 M2 λ b M3=>if b=true then te δ2 M3 λ y M4=>W (i+1) (acc++[y]) M4 else W (i+1) acc M3:=by
 refine Gf (β:=α) enc out (λ ys M=>M=M1/\ys=xs.take ys.length) hn ⟨rfl,rfl⟩ (λ ys M h=>by rw[h.1];exact hl) (λ i x ys M N hx hy h k=>?_) (λ ys M hy h=>?_)
 ·obtain⟨rfl,h⟩:=h;refine hs i x N hx (k x M ⟨rfl,?_⟩);rw[u4,k9,take_one (a:=x) (by rw[hy];exact hx),<- h]
 ·obtain⟨rfl,h⟩:=h;rw[hy,A8]at h;rw[h];exact hd
theorem KU{α:Type}{xs:List α}{enc:α->D}(p:α->Bool)(out:α->D)(hn:xs.length<=10000) (hs:∀(i:Nat) (x:α) (N1:D->Mem->Prop) (N2:Mem->Prop),xs[i]?=some x->(p x=true->N1 (out x) M1)->(p x=false->N2 M1)->g (enc x) δc M1 λ δ2 M2=>tt δ2 M2 λ b M3=>if b=true then te δ2 M3 N1 else N2 M3) (hd:Qe ((xs.filter p).map out) M1):∃(B:Nat) (W:Nat->List D->Mem->Prop),W 0 [] M1/\∀i acc M,W i acc M->i<=B/\acc.length<=sizeLine/\match items (.fix (xs.map enc)) M with
   |none=>False
   |some ds=>match ds[i]? with
    |none=>i=ds.length/\Qe acc M
    |some d=>g d δc M λ δ2 M2=>tt δ2 M2 λ b M3=>if b=true then te δ2 M3 λ y M4=>W (i+1) (acc++[y]) M4 else W (i+1) acc M3:=by
 refine gw (λ i acc M=>M=M1/\acc=((xs.take i).filter p).map out) ⟨rfl,by simp⟩ (λ i acc M hi h=>?_) (λ i d acc M he h=>?_) (λ acc M h=>?_)
 ·obtain⟨_,rfl⟩:=h;rw[D3];refine K5 (length_filter_le _ _) ?_;rw[B2];exact U' (by omega)
 ·obtain⟨rfl,rfl⟩:=h;rw[y1]at he;cases e:xs[i]? with
  |none=>rw[e]at he;cases he
  |some x=>
   rw[e]at he;cases he;refine hs i x _ _ e (λ hp=>⟨rfl,?_⟩) (λ hp=>⟨rfl,?_⟩)
   ·rw[take_one e,filter_append,D5];simp[hp]
   ·rw[take_one e,filter_append,D5];simp[hp]
 ·obtain⟨rfl,rfl⟩:=h;rw[D3,A8];exact hd
theorem Bo{α:Type}{a:Addr}{xs:List α}(enc:α->D)(p:α->Bool)(out:α->D)(hn:xs.length<=10000)(hl:M1 a=some (.lst (xs.map enc))) (hs:∀(i:Nat) (x:α) (N1:D->Mem->Prop) (N2:Mem->Prop),xs[i]?=some x->(p x=true->N1 (out x) M1)->(p x=false->N2 M1)->g (enc x) δc M1 λ δ2 M2=>tt δ2 M2 λ b M3=>if b=true then te δ2 M3 N1 else N2 M3) (hd:Qe ((xs.filter p).map out) M1):∃(B:Nat) (W:Nat->List D->Mem->Prop),W 0 [] M1/\∀i acc M,W i acc M->i<=B/\acc.length<=sizeLine/\match items (.at a) M with
   |none=>False
   |some ds=>match ds[i]? with
    |none=>i=ds.length/\Qe acc M
    |some d=>g d δc M λ δ2 M2=>tt δ2 M2 λ b M3=>if b=true then te δ2 M3 λ y M4=>W (i+1) (acc++[y]) M4 else W (i+1) acc M3:=by
 refine zh (ds:=xs.map enc) (λ i acc M=>M=M1/\acc=((xs.take i).filter p).map out) ⟨rfl,by simp⟩ (λ i acc M hi h=>by rw[h.1];exact hl) (λ i acc M hi h=>?_) (λ i d acc M he h=>?_) (λ acc M h=>?_)
 ·obtain⟨_,rfl⟩:=h;rw[D3];refine K5 (length_filter_le _ _) ?_;rw[B2];exact U' (by omega)
 ·obtain⟨rfl,rfl⟩:=h;rw[y1]at he;cases e:xs[i]? with
  |none=>rw[e]at he;cases he
  |some x=>
   rw[e]at he;cases he;refine hs i x _ _ e (λ hp=>⟨rfl,?_⟩) (λ hp=>⟨rfl,?_⟩)
   ·rw[take_one e,filter_append,D5];simp[hp]
   ·rw[take_one e,filter_append,D5];simp[hp]
 ·obtain⟨rfl,rfl⟩:=h;rw[D3,A8];exact hd
end
abbrev RH(i:Nat):D:=.int ((0:Int)+(i:Nat))
theorem M_(i:Nat):RH i=.int (i:Int):=by show D.int (0+(i:Int))=_;rw[K0]
theorem nP{α:Type}(xs:List α)(enc:α->D):ff (xs.map enc)=xs.zipIdx.map λ p=>D.tup [.int (p.2:Int),enc p.1]:=by
 refine ext_getElem? λ i=>?_;unfold ff;rw[y1,y1,getElem?_zipIdx,D3];by_cases h:i < xs.length
 ·rw[o9 h,i8 h];simp[h]
 ·rw[l4 (by simpa using h),l4 (by simpa using h)];rfl
def Lf(R:Src->Mem->Prop)(d:D)(M1:Mem):Prop:=match d with
 | .str z=>R (.fix (dM z)) M1
 | .tup ds=>R (.fix ds) M1
 | .fl ds=>R (.fix ds) M1
 | .ref a=>(match M1 a with
  |some (.lst _)=>R (.at a) M1
  |_=>False)
 |_=>False
theorem Ii{ta:bX}{δ:cV}{M:Mem}{R:Src->Mem->Prop}(h:ta δ M (Lf R)):Pu ta δ M R:=h
theorem Ik{ds:List D}{M:Mem}{R:Src->Mem->Prop}(h:R (.fix ds) M):Lf R (.tup ds) M:=h
theorem Il{z:Str}{M:Mem}{R:Src->Mem->Prop}(h:R (.fix (dM z)) M):Lf R (.str z) M:=h
theorem Im{a:Addr}{ds:List D}{M:Mem}{R:Src->Mem->Prop}(hM:M a=some (.lst ds))(h:R (.at a) M):Lf R (.ref a) M:=by show(match M a with|some (.lst _)=>R (.at a) M|_=>False);rw[hM];exact h
end L3
namespace KK
open PySem L3 L4 L5
open L2 hiding bA qD
def LR(c:Addr)(p b sd ct:Int):List D:=[.ref c,.int p,.int b,.int sd,.int ct]
structure Flow(M:Mem)(f c:Addr):Prop where
 ex:∃(ns:List Int) (p b sd ct:Int),M f=some (.lst (LR c p b sd ct))/\M c=some (.lst (ns.map D.int))/\c≠f/\0<=p/\0<=b/\0<=sd/\sd < 2147483647
def mD:gL:=λ ds M Q=>∃(f c:Addr) (n:Int),ds=[.ref f,.int n]/\Flow M f c/\0 < n/\n < 1073741824/\∀(d:Int) (o:MO),0<=d->d < n->Flow (ay M f o) f c->Q (.int d) (ay M f o)
structure Fl(f c:Addr)(M M':Mem):Prop where
 bG:Flow M' f c
 mv:∀b o,b≠f->M b=some o->M' b=some o
theorem Fl.trans {f c:Addr}{M M1 M2:Mem}(a:Fl f c M M1)(b:Fl f c M1 M2):Fl f c M M2:=⟨b.bG,λ c o h e=>b.mv c o h (a.mv c o h e)⟩
theorem Fl.pick {f c:Addr}{M:Mem}{o:MO}(h:Flow (ay M f o) f c):Fl f c M (ay M f o):=⟨h,λ b o' hb e=>by rw[aD hb];exact e⟩
theorem Flow.there {M:Mem}{f c:Addr}(h:Flow M f c):∃o,M f=some o:=by obtain⟨ns,p,b,sd,ct,h,_⟩:=h;exact⟨_,h⟩
theorem Flow.Mz {M:Mem}{f c:Addr}(h:Flow M f c):∃o,M c=some o:=by obtain⟨ns,p,b,sd,ct,_,h,_⟩:=h;exact⟨_,h⟩
theorem Flow.put {M:Mem}{f c q:Addr}{o:MO}(h:Flow M f c)(n:M q=none):Flow (ay M q o) f c:=by obtain⟨ns,p,b,sd,ct,h1,h2,h3⟩:=h;exact⟨ns,p,b,sd,ct,by rw[aD (λ z=>by rw[z,n]at h1;cases h1)];exact h1,by rw[aD (λ z=>by rw[z,n]at h2;cases h2)];exact h2,h3⟩
theorem Fl.put {M:Mem}{f c q:Addr}{o:MO}(h:Flow M f c)(n:M q=none):Fl f c M (ay M q o):=⟨h.put n,λ b o' hb e=>by rw[aD (λ z=>by rw[z,n]at e;cases e)];exact e⟩
theorem Flow.ne {M:Mem}{f c q:Addr}(h:Flow M f c)(n:M q=none):q≠f/\q≠c:=by
 constructor
 ·intro z;subst z;obtain⟨o,e⟩:=h.there;rw[n]at e;cases e
 ·intro z;subst z;obtain⟨o,e⟩:=h.Mz;rw[n]at e;cases e
theorem Fl.own {M M':Mem}{f c q:Addr}{o:MO}(h:Fl f c M M')(h0:Flow M f c)(n:M q=none):Fl f c M (ay M' q o):=by obtain⟨n1,n2⟩:=h0.ne n;obtain⟨ns,p,b,sd,ct,h1,h2,h3⟩:=h.bG;refine⟨⟨ns,p,b,sd,ct,by rw[aD (O4 n1)];exact h1,by rw[aD (O4 n2)];exact h2,h3⟩,λ b o' hb e=>?_⟩;rw[aD (λ z=>by rw[z,n]at e;cases e)];exact h.mv b o' hb e
theorem small{n:Nat}(h:n<=10000):n<=sizeLine:=K5 h (by decide)
theorem len_app(x y:Str):(x++y).length=x.length+y.length:=by show(x.cps++y.cps).size=x.cps.size+y.cps.size;simp
theorem vm{zs:List Str}{d:Int}(h0:0<=d)(h1:d < zs.length):∃z,z∈zs/\gJ (zs.map D.str) d=some (.str z):=by
 have hl:d.toNat < zs.length:=by omega
 have e:((d.toNat:Nat):Int)=d:=by omega
 have q:gJ (zs.map D.str) ((d.toNat:Nat):Int)=some (.str zs[d.toNat]):=cC (by simp[hl]);rw[e]at q;exact⟨_,B3 hl,q⟩
def Cy:gL:=λ ds M Q=>∃ns:List Int,ds=[.fl (ns.map D.int)]/\∀f c M',Flow M' f c->Q (.ref f) M'
theorem fK{lo:Int}{n i:Nat}{d:D}(h:(cM lo n)[i]?=some d):i < n/\d=.int (lo+(i:Nat)):=by
 have hi:i < n:=by have:=(i5.mp h).1;rwa [cg]at this
 rw[mR hi]at h;exact⟨hi,(C6 h).symm⟩
theorem take_snoc{α:Type}{l:List α}{i:Nat}{a:α}(h:l[i]?=some a):l.take (i+1)=l.take i++[a]:=by rw[take_add_one,h];rfl
def eV(as:List Int):L2.Ky:=(as.sum,as.map λ a=>0 - a)
def Cv:gL:=λ ds M Q=>∃as:List Int,ds=[row as]/\as.length<=1000/\Q (.tup [.int as.sum,row (as.map λ a=>0 - a)]) M
theorem vo{ns:List Int}{i:Nat}(h:i < ns.length):gJ (ns.map D.int) (i:Int)=some (.int (ns.getD i 0)):=by refine cC ?_;simp[c7,h]
theorem jV{p:Addr}{ds:List D}{M:Mem}{Q:bF}(h:M p=some (.lst ds))(q:Q (.tup ds) M):rO [.ref p] M Q:=by show(match a_ M p with|some ds=>Q (.tup ds) M|none=>False);unfold a_;rw[h];exact q
theorem back{M M1:Mem}{v:D}{Q:bF}(h:∀b o,M b=some o->M1 b=some o)(q:Q v M):fin2 Q v M1:=⟨M,λ a o e=>h a o e,q⟩
theorem iR{M M':Mem}(h:∀b o,M b=some o->M' b=some o){q:Addr}(n:M' q=none)(x:MO):∀b o,M b=some o->ay M' q x b=some o:=λ b o e=>by rw[aD (λ z=>by rw[<- z,h b o e]at n;cases n)];exact h b o e
theorem PB{n:Nat}{d:Int}(h0:0<=d)(h1:d < n):vB n d=some d.toNat:=by unfold vB;rw[O6 h0,O6 h1]
abbrev aI:=Str×List (List Int)
def iz:aI:=(Str.ofString "",[])
def aP(h:aI):D:=.tup [.str h.1,.tup (h.2.map row)]
def aG(g:List aI):D:=.tup (g.map aP)
structure dC(n i:Nat)(r:List Int):Prop where
 len:r.length=n
 pos:∀x∈r,0<=x
 sum:r.sum<=4
 low:∀j,i<=j->r.getD j 0=0
structure cN(n:Nat)(g:List aI):Prop where
 len:g.length=n
 gE:n<=12
 opts:∀i,i < n->(g.getD i iz).2.length<=63/\∀r∈(g.getD i iz).2,dC n i r
def lE(ns:List Int)(n:Nat):List Int:=(List.range n).map λ(h:Nat)=>((ns.count (h:Int):Nat):Int)
theorem F_(ns:List Int)(n:Nat):(lE ns n).length=n:=by simp[lE]
theorem FY{ns:List Int}{n:Nat}:∀x∈lE ns n,0<=x:=λ x hx=>by obtain⟨h,_,rfl⟩:=K3.mp hx;omega
theorem vd(ns:List Int):∀n:Nat,(lE ns n).sum=(ns.countP λ x=>decide (0<=x/\x < (n:Int)):Nat)
 |0=>by
  have:ns.countP (λ x=>decide (0<=x/\x < ((0:Nat):Int)))=0:=countP_eq_zero.mpr λ x _=>by simp
  rw[this];rfl
 |n+1=>by
  have ih:=vd ns n;unfold lE at ih ⊢;rw[range_succ,D5,D9,ih];simp only[H9,map_nil,sum_cons,sum_nil];have:ns.countP (λ x=>decide (0<=x/\x < ((n+1:Nat):Int)))=ns.countP (λ x=>decide (0<=x/\x < (n:Int)))+ns.count (n:Int):=by
   clear ih
   induction ns with
   |nil=>rfl
   |cons y ys ih=>
    rw[countP_cons,countP_cons,count_cons,ih];generalize List.countP _ ys=A;generalize List.count _ ys=B;by_cases h1:0<=y/\y < (n:Int)
    ·have h2:0<=y/\y < ((n+1:Nat):Int):=by omega
     have h3:¬(y=(n:Int)):=by omega
     rw[O6 (E7 h2),O6 (E7 h1),O7 (by simpa using h3)];omega
    ·by_cases h3:y=(n:Int)
     ·rw[O6 (E7 (by omega)),O7 (by simpa using h1),O6 (by simpa using h3)];omega
     ·rw[O7 (by simp only[y2];omega),O7 (by simpa using h1),O7 (by simpa using h3)];omega
  rw[this];omega
theorem F'{ns:List Int}{n:Nat}:(lE ns n).sum<=ns.length:=by rw[vd];have:=countP_le_length (p:=λ x=>decide (0<=x/\x < (n:Int))) (l:=ns);omega
theorem FZ{ns:List Int}{n i:Nat}(h:∀x∈ns,x < (i:Int))(j:Nat)(hj:i<=j):(lE ns n).getD j 0=0:=by
 unfold lE;rw[c7,y1];by_cases hn:j < n
 ·rw[o9 hn];have:ns.count (j:Int)=0:=count_eq_zero.mpr λ z=>by have:=h _ z;omega
  simp[this]
 ·rw[l4 (by simpa using hn)];rfl
def sZ:gL:=λ ds M Q=>∃(a:Addr) (ns:List Int) (n:Nat),ds=[.ref a,.int n]/\M a=some (.lst (ns.map D.int))/\n<=1000/\Q (row (lE ns n)) M
theorem nK:∀zs:List Str,kR (zs.map D.str)=some (zs.map V.str)
 |[]=>rfl
 |z::zs=>by rw[H9];show(match nN (D.str z),kR (zs.map D.str)with|some v,some vs=>some (v::vs)|_,_=>none)=_;rw[nK zs];rfl
theorem uk(z:Str):∀zs:List Str,LL (.str z) (zs.map V.str)=zs.contains z
 |[]=>rfl
 |y::ys=>by have ih:=uk z ys;unfold LL at ih ⊢;rw[H9,any_cons,ih,contains_cons];congr 1;show(y==z)=(z==y);rw[C0,beq_iff_eq,beq_iff_eq];exact eq_comm
theorem fO(z:Str)(zs:List Str):inD (.str z) (zs.map D.str)=some (zs.contains z):=by unfold inD;rw[nK];show some (LL (.str z) (zs.map V.str))=_;rw[uk]
theorem wN(c:Nat):MulOk ⟨#[c]⟩ 1:=⟨by decide,λ _ h=>(by have z:true=false:=h;cases z),λ _ h=>(by have z:true=false:=h;cases z)⟩
def vj:List Nat:=(Str.ofString "zyxwvutsrqponmlkjihgfedcba").cps.toList
def lF(j:Nat):Str:=Txt.mul ⟨#[vj.getD j 0]⟩ 1
theorem xC:((List.range 26).map lF).Nodup:=by decide+kernel
theorem tS:∀{l zs:List Str},l.Nodup->(∀x∈l,x∈zs)->l.length<=zs.length
 |[],zs,_,_=>N3 _
 |a::l,zs,hn,hs=>by rw[nodup_cons]at hn;have ha:a∈zs:=hs a (s9 ..);have h1:=tS (l:=l) (zs:=zs.erase a) hn.2 λ x hx=>(mem_erase_of_ne (λ z=>hn.1 (by rw[<- z];exact hx))).mpr (hs x (l7 _ hx));rw[length_erase_of_mem ha]at h1;have:=length_pos_of_mem ha;rw[A5];omega
theorem Gg{zs:List Str}{sp:Nat}(h26:sp<=26)(h:∀j,j < sp->lF j∈zs):sp<=zs.length:=by
 have e:((List.range sp).map lF).Nodup:=by
  refine List.Sublist.nodup (List.Sublist.map lF ?_) xC;have:List.range sp=(List.range 26).take sp:=by rw[take_range,Nat.min_eq_left h26]
  rw[this];exact take_sublist _ _
 have:=tS e (zs:=zs) λ x hx=>by obtain⟨j,hj,rfl⟩:=K3.mp hx;exact h j (by simpa using hj)
 simpa using this
theorem bh{T:String}{d:D}{M:Mem}{Q:bF}{n:String}{b:Bool}(e:lp M d=some n)(hb:ny n T=b)(q:Q (.bl b) M):L' T [d,.ty T] M Q:=⟨rfl,by rw[e];subst hb;exact q⟩
theorem jo{d:D}{M:Mem}{Q:bF}(h:lp M d≠some "NoneType")(q:Q (.bl false) M):Bl false d .bu M Q:=by
 cases d with
 |bu=>exact absurd rfl h
 |_=>exact q
theorem lY{ds:List D}{i:Nat}(h:i < ds.length):gJ ds (0+(i:Int))=some ds[i]:=by rw[K0];refine cC ?_;simp[h]
theorem r_:∀n:Nat,((List.replicate n true).all id)=true
 |0=>rfl
 |n+1=>by rw[p8,all_cons,r_ n];rfl
def Ext(M M':Mem):Prop:=∀b o,M b=some o->M' b=some o
theorem Ext.own {M M':Mem}(h:Ext M M'){q:Addr}{x:MO}(n:M q=none):Ext M (ay M' q x):=λ b o e=>by rw[aD (λ z=>by rw[z,n]at e;cases e)];exact h b o e
theorem yh{g:List aI}{M:Mem}{Q:bF}(q:Q (.int (g.length:Nat)) M):uU [aG g] M Q:=by show Q (.int ((g.map aP).length:Nat)) M;rw[D3];exact q
end KK
namespace HT
open PySem PySem.Spec PyProof.Rows
section
variable {prog:Program}{w:World}{A:Around}{E:Value->Shared->Prop}{s:Shared}
theorem iB{t sl:Addr}{items:Array Value}{vl vu:Value}{lo hi:Option Int}{Q:Value->Shared->Prop}(ht:IsTup s.heap t items)(hs:s.heap.IsSliceOf sl vl vu .none)(pl:IsPart vl lo)(pu:IsPart vu hi) (hw:bW items.size 0 lo=0/\bW items.size items.size hi=items.size) (h:Q (.ref t) s):wpAny (model prog w) A (getItem (.ref t) (.ref sl)) Q E s:=by
 obtain⟨os,jC,Q7,Fj⟩:=id hs;have XA:s.TypeIs (.ref sl) "slice":=⟨os,jC,Q7⟩;unfold getItem
 try with_reducible refine G7 ?_
 first|refine N6 (N7 ?_)|skip
 refine N6 (wpAny_sequenceKey ht.typeIs (by decide) ?_);refine N6 (j3 (name:=Str.ofString "__getitem__") ht.typeIs a0
  (A9 a0 ht.typeIs entry_tuple_getitem ?_ (args_tuple_getitem _ _)))
 show wpAny _ _ (Builtin.Tuple.tupleItemsOf (.ref t) >>= _) _ _ s;refine N6 (tupleItemsOf_ ht ?_);refine N6 (K8 XA ?_);rw[O6 (by decide)];refine N6 (fG hs pl pu ?_);have WY:(((bW items.size 0 lo:Nat):Int)==0&&(1:Int)==1&&(bW items.size items.size hi - bW items.size 0 lo)==items.size)=true:=by rw[hw.1,hw.2];simp
 show wpAny _ _ (if(((bW items.size 0 lo:Nat):Int)==0&&(1:Int)==1&&(bW items.size items.size hi - bW items.size 0 lo)==items.size)=true then _ else _) _ _ s;rw[O6 WY];unfold Builtin.Tuple.tupleIsExact;refine N6 (N6 (K8 ht.typeIs (N7 ?_)));rw[O6 (by decide)];exact N6 (N8 (N7 ⟨_,rfl,N7 h⟩))
end
end HT
namespace L2
open PySem PySem.Spec PyProof.Rows
section
variable {X:Cx}
theorem Hn:zv X (λ x lo hi H Q=>∃a xs,x=.ref a/\fZ X.K H a xs/\(HT.bW xs.length 0 lo=0/\HT.bW xs.length xs.length hi=xs.length)/\Q (.ref a) H):=by
 intro pins s σ H x v vl vu lo hi sl Q I rx hs pl pu h;obtain⟨a,xs,rfl,hx,hw,q⟩:=h;cases rx;obtain⟨au,r,ht,hz⟩:=I.tuple hx;have hlen:au.toArray.size=xs.length:=by rw[z9];exact r.length.symm
 exact⟨"tuple",_,a0.lookup,ht.typeIs,HT.iB ht hs pl pu (by rw[hlen];exact hw) ⟨.ref a,H,I,rfl,q⟩⟩
end
end L2
namespace L3
open PySem PySem.Spec L2
section
variable {X:Cx}
def xt:D->Option Int->Option Int->Mem->bF->Prop:=λ x lo hi M Q=>match x with
 | .str z=>z.length<=sizeLine/\Q (.str (fR z lo hi)) M
 | .tup ds=>Q (.tup (cutD ds lo hi)) M
 | .ref a=>match a_ M a with
  |some ds=>∀p,M p=none->Q (.ref p) (ay M p (.lst (cutD ds lo hi)))
  |none=>False
 |_=>False
theorem gU:Uz X xt:=by
 obtain⟨r,h1,h2⟩:=(qD:Uz X Zq);refine⟨_,h1.or Hn,λ x d lo hi H M Q2 Q hd hm q k=>?_⟩;cases d with
 |tup ds=>
  by_cases hw:HT.bW ds.length 0 lo=0/\HT.bW ds.length ds.length hi=ds.length
  ·have q:Q2 (.tup (cutD ds lo hi)) M:=q;have e:cutD ds lo hi=ds:=by unfold cutD;rw[hw.1,hw.2];simp
   rw[e]at q;obtain⟨p,xs,rfl,h,hx⟩:=aQ.mp hd;exact .inr ⟨p,xs,rfl,h,by rw[hx.length];exact hw,k _ H _ M (aQ.mpr ⟨p,xs,rfl,h,hx⟩) hm (ao.refl H) q⟩
  ·exact .inl (h2 x (.tup ds) lo hi H M Q2 Q hd hm ⟨hw,q⟩ k)
 |str z=>exact .inl (h2 x (.str z) lo hi H M Q2 Q hd hm q k)
 |ref a=>exact .inl (h2 x (.ref a) lo hi H M Q2 Q hd hm q k)
 |_=>exact q.elim
end
section
variable {M:Mem}{Q:bF}
theorem ze{ds:List D}{i:Int}(h0:0<=i):cutD ds none (some i)=ds.take i.toNat:=by
 unfold cutD;have e:HT.bW ds.length ds.length (some i)=min i.toNat ds.length:=by show(if i < 0 then(i+(ds.length:Int)).toNat else min i.toNat ds.length)=_;rw[O7 (by omega)]
 rw[e];show(ds.drop 0).take (min i.toNat ds.length - 0)=_;rw[drop_zero,Nat.sub_zero,take_eq_take_iff];omega
theorem Bm{ds:List D}{i:Int}(h0:0<=i):cutD ds (some i) none=ds.drop i.toNat:=by
 unfold cutD;have e:HT.bW ds.length 0 (some i)=min i.toNat ds.length:=by show(if i < 0 then(i+(ds.length:Int)).toNat else min i.toNat ds.length)=_;rw[O7 (by omega)]
 rw[e];show(ds.drop (min i.toNat ds.length)).take (ds.length - min i.toNat ds.length)=_;rw[j5 (by rw[A7];omega)];by_cases h:i.toNat<=ds.length
 ·rw[Nat.min_eq_left h]
 ·rw[Nat.min_eq_right (by omega),drop_length,drop_of_length_le (by omega)]
theorem fJ{ds:List D}{i:Int}(h0:0<=i)(q:Q (.tup (ds.take i.toNat)) M):xt (.tup ds) none (some i) M Q:=by show Q (.tup (cutD ds none (some i))) M;rw[ze h0];exact q
theorem mL{ds:List D}{i:Int}(h0:0<=i)(q:Q (.tup (ds.drop i.toNat)) M):xt (.tup ds) (some i) none M Q:=by show Q (.tup (cutD ds (some i) none)) M;rw[Bm h0];exact q
theorem qH{z:Str}{lo hi:Option Int}(h:z.length<=sizeLine)(q:Q (.str (fR z lo hi)) M):xt (.str z) lo hi M Q:=⟨h,q⟩
theorem HE{a:Addr}{ds:List D}{lo hi:Option Int}(h:M a=some (.lst ds))(q:∀p,M p=none->Q (.ref p) (ay M p (.lst (cutD ds lo hi)))):xt (.ref a) lo hi M Q:=by show(match a_ M a with|some ds=>∀p,M p=none->Q (.ref p) (ay M p (.lst (cutD ds lo hi)))|none=>False);unfold a_;rw[h];exact q
theorem zY{a:Addr}{ds:List D}{i:Int}(h:M a=some (.lst ds))(h0:0<=i)(q:∀p,M p=none->Q (.ref p) (ay M p (.lst (ds.take i.toNat)))):xt (.ref a) none (some i) M Q:=by refine HE h ?_;rw[ze h0];exact q
end
end L3
namespace L3
open PySem PySem.Spec L2 L5 PyProof.Rows
def Pl:Nat->D->Prop
 |0,d=>d=.bu\/(∃i,d=.int i)\/∃x,d=.str x/\PyData.strOk x=true
 |k+1,d=>d=.bu\/(∃i,d=.int i)\/(∃x,d=.str x/\PyData.strOk x=true)\/∃ds,d=.tup ds/\∀e∈ds,Pl k e
theorem Ou(k:Nat)(i:Int):Pl k (.int i):=by
 cases k with
 |zero=>exact .inr (.inl ⟨i,rfl⟩)
 |succ k=>exact .inr (.inl ⟨i,rfl⟩)
theorem gn(k:Nat){x:Str}(h:PyData.strOk x=true):Pl k (.str x):=by
 cases k with
 |zero=>exact .inr (.inr ⟨x,rfl,h⟩)
 |succ k=>exact .inr (.inr (.inl ⟨x,rfl,h⟩))
theorem gY{k:Nat}{ds:List D}(h:∀e∈ds,Pl k e):Pl (k+1) (.tup ds):=.inr (.inr (.inr ⟨ds,rfl,h⟩))
structure Zx(k:Nat)(d:D):Prop where
 nr:nr d=true
 lay:(toP d).canLay0=true
 dep:(toP d).depth<=k
structure Yg(k:Nat)(ds:List D):Prop where
 nr:q_ ds=true
 lay:PyData.canLayAll0 (toPs ds)=true
 dep:PyData.depthAll (toPs ds)<=k
theorem js{k:Nat}:∀{ds:List D},(∀e∈ds,Zx k e)->Yg k ds
 |[],_=>⟨by unfold q_;rfl,by unfold toPs;simp[PyData.canLayAll0],by unfold toPs;simp[PyData.depthAll]⟩
 |d::ds,h=>by
  have h1:=h d (s9 ..);have h2:=js (ds:=ds) λ e he=>h e (l7 _ he);refine⟨?_,?_,?_⟩
  ·unfold q_;rw[h1.nr,h2.nr];rfl
  ·unfold toPs;simp only[PyData.canLayAll0];rw[h1.lay,h2.lay];rfl
  ·unfold toPs;simp only[PyData.depthAll];exact Nat.max_le.mpr ⟨h1.dep,h2.dep⟩
theorem Pl.f:∀{k:Nat} {d:D},Pl k d->Zx k d
 |0,d,h=>by
  rcases h with rfl|⟨i,rfl⟩|⟨x,rfl,hx⟩
  ·exact⟨by unfold L3.nr;rfl,by unfold toP;simp[PyData.canLay0],by unfold toP;simp[PyData.depth]⟩
  ·exact⟨by unfold L3.nr;rfl,by unfold toP;simp[PyData.canLay0],by unfold toP;simp[PyData.depth]⟩
  ·exact⟨by unfold L3.nr;rfl,by unfold toP;simp[PyData.canLay0,hx],by unfold toP;simp[PyData.depth]⟩
 |k+1,d,h=>by
  rcases h with rfl|⟨i,rfl⟩|⟨x,rfl,hx⟩|⟨ds,rfl,h⟩
  ·exact⟨by unfold L3.nr;rfl,by unfold toP;simp[PyData.canLay0],by unfold toP;simp[PyData.depth]⟩
  ·exact⟨by unfold L3.nr;rfl,by unfold toP;simp[PyData.canLay0],by unfold toP;simp[PyData.depth]⟩
  ·exact⟨by unfold L3.nr;rfl,by unfold toP;simp[PyData.canLay0,hx],by unfold toP;simp[PyData.depth]⟩
  ·have q:=js λ e he=>Pl.f (h e he);refine⟨?_,?_,?_⟩
   ·unfold L3.nr;exact q.nr
   ·unfold toP;simp only[PyData.canLay0];exact q.lay
   ·unfold toP;simp only[PyData.depth];have:=q.dep;omega
theorem nO{k:Nat}(ih:∀x y:D,Pl k x->Pl k y->(PyData.eqv (toP x) (toP y)=true↔x=y)):∀{ds es:List D},(∀e∈ds,Pl k e)->(∀e∈es,Pl k e)->(PyData.eqvAll (toPs ds) (toPs es)=true↔ds=es)
 |[],[],_,_=>by unfold toPs;simp[PyData.eqvAll]
 |[],e::es,_,_=>by unfold toPs;simp[PyData.eqvAll]
 |d::ds,[],_,_=>by unfold toPs;simp[PyData.eqvAll]
 |d::ds,e::es,h1,h2=>by have a:=ih d e (h1 d (s9 ..)) (h2 e (s9 ..));have b:=nO ih (ds:=ds) (es:=es) (λ x hx=>h1 x (l7 _ hx)) (λ x hx=>h2 x (l7 _ hx));unfold toPs;simp only[PyData.eqvAll,B1,a,b,List.cons.injEq]
theorem jH:∀{k:Nat} (x y:D),Pl k x->Pl k y->(PyData.eqv (toP x) (toP y)=true↔x=y)
 |0,x,y,hx,hy=>by rcases hx with rfl|⟨i,rfl⟩|⟨z,rfl,_⟩ <;> rcases hy with rfl|⟨j,rfl⟩|⟨w,rfl,_⟩ <;> simp[toP,PyData.eqv]
 |k+1,x,y,hx,hy=>by
  rcases hx with rfl|⟨i,rfl⟩|⟨z,rfl,_⟩|⟨ds,rfl,hd⟩ <;> rcases hy with rfl|⟨j,rfl⟩|⟨w,rfl,_⟩|⟨es,rfl,he⟩ <;> first
   |(simp[toP,PyData.eqv];done)
   |(have:=nO (λ x y=>jH (k:=k) x y) hd he
     unfold toP;simp only[PyData.eqv,D.tup.injEq];exact this)
theorem uG{k:Nat}{x y:D}(hx:Pl k x)(hy:Pl k y){b:Bool}(hb:b=true↔x=y):PyData.eqv (toP x) (toP y)=b:=by rw[C0];exact(jH x y hx hy).trans hb.symm
theorem ik{k:Nat}{d:D}(h:Pl k d)(hk:k<=60):SeqAt.shaped (toP d)=true:=by have f:=h.f;unfold SeqAt.shaped;rw[f.lay,E7 (by have:=f.dep;omega)];rfl
theorem mF{k:Nat}{ds:List D}(h:∀e∈ds,Pl k e)(hk:k<=60):SeqAt.shaped (.list (toPs ds))=true:=by
 have f:=js λ e he=>(h e he).f;have h1:(PyData.list (toPs ds)).canLay0=true:=by simp only[PyData.canLay0];exact f.lay
 have h2:(PyData.list (toPs ds)).depth<=64:=by simp only[PyData.depth];have:=f.dep;omega
 unfold SeqAt.shaped;rw[h1,E7 h2];rfl
theorem qO{k:Nat}{d:D}{M:Mem}(h:Pl k d):tM M d=some (toP d):=by
 have f:=h.f.nr;cases d with
 |ref a=>unfold nr at f;cases f
 |_=>unfold tM;dsimp only;rw[O6 f]
section
variable {M:Mem}{Q:bF}
theorem qM{k:Nat}{x y:D}{b:Bool}(hx:Pl k x)(hy:Pl k y)(hk:k<=60)(hb:b=true↔x=y)(q:Q (.bl b) M):oP false x y M Q:=by refine .inr ⟨_,_,qO hx,qO hy,ik hx hk,ik hy hk,?_⟩;rw[uG hx hy hb];exact q
theorem HM{k:Nat}{x y:D}{b:Bool}(hx:Pl k x)(hy:Pl k y)(hk:k<=60)(hb:b=true↔x=y)(q:Q (.bl (!b)) M):oP true x y M Q:=by refine .inr ⟨_,_,qO hx,qO hy,ik hx hk,ik hy hk,?_⟩;rw[uG hx hy hb];exact q
theorem ym{k:Nat}{p:Addr}{ds:List D}(hM:M p=some (.lst ds))(h:∀e∈ds,Pl k e):tM M (.ref p)=some (.list (toPs ds)):=by have f:=js λ e he=>(h e he).f;unfold tM;simp only[hM];rw[O6 f.nr]
theorem Bd{k:Nat}{ds es:List D}(h1:∀e∈ds,Pl k e)(h2:∀e∈es,Pl k e){b:Bool}(hb:b=true↔ds=es):PyData.eqv (.list (toPs ds)) (.list (toPs es))=b:=by rw[C0];have:=nO (λ x y=>jH (k:=k) x y) h1 h2;simp only[PyData.eqv];exact this.trans hb.symm
theorem qI{k:Nat}{p p2:Addr}{ds es:List D}{b:Bool}(hM:M p=some (.lst ds))(PZ:M p2=some (.lst es))(h1:∀e∈ds,Pl k e)(h2:∀e∈es,Pl k e)(hk:k<=60)(hb:b=true↔ds=es)(q:Q (.bl (!b)) M):oP true (.ref p) (.ref p2) M Q:=by refine .inr ⟨_,_,ym hM h1,ym PZ h2,mF h1 hk,mF h2 hk,?_⟩;rw[Bd h1 h2 hb];exact q
end
section
variable {X:Cx}
theorem pG{A:Around}{s:Shared}{v:Value}{y:PyData}{bs:List Addr}(ry:Reads s.heap v y bs)(cy:y.canLay0=true)(hu:A.units+y.depth < cLine):∀{ds:List D} {us:List Value} {as:List Addr},ReadsAll s.heap us (toPs ds) as->PyData.canLayAll0 (toPs ds)=true->
  ∃e:Value->Bool,(∀u∈us,SeqAt.EqAt A s u v (e u))/\us.map e=ds.map λ d=>PyData.eqv (toP d) y:=by
 intro ds us as ra cl;refine⟨λ u=>PyData.eqv (SeqAt.readOf s.heap u) y,λ u Q0=>?_,?_⟩
 ·obtain⟨d,Zt,rd,cd,_⟩:=SeqAt.readsAll_mem _ _ _ cl ra u Q0;have e:=SeqAt.readOf_eq cd rd;dsimp only;rw[e];exact A2 d y A s u v _ _ rd ry cd cy (by omega)
 ·have e:=SeqAt.readsAll_map _ _ _ cl ra;have f:∀(us:List Value) (ds:List D),us.map (SeqAt.readOf s.heap)=toPs ds->us.map (λ u=>PyData.eqv (SeqAt.readOf s.heap u) y)=ds.map λ d=>PyData.eqv (toP d) y:=by
   intro us
   induction us with
   |nil=>
    intro ds q;cases ds with
    |nil=>rfl
    |cons d r=>unfold toPs at q;cases q
   |cons u us ih=>
    intro ds q;cases ds with
    |nil=>unfold toPs at q;cases q
    |cons d r=>
     unfold toPs at q;rw[H9]at q;injection q with q1 q2
     rw[H9,H9,ih r q2,q1]
  exact f us ds e
structure Ym(K:O8)(H:Hp)(b:Bool)(p:Addr)(xs:List V)(ds:List D)(x:V)(d:D):Prop where
 sq:Sq b K H p xs
 T6:aE K H ds xs
 dat:Dat K H d x
 ns:q_ ds=true
 n:nr d=true
 JR:PyData.canLayAll0 (toPs ds)=true
 lay:(toP d).canLay0=true
 dep:(toP d).depth < 62
theorem any_map{α:Type}(us:List α)(e:α->Bool)(bs:List Bool)(h:us.map e=bs):us.any e=bs.any id:=by rw[<- h,List.any_map];rfl
theorem OL(neg:Bool)(hu:X.A.units+64 < cLine):eQ X (compareOp (if neg then .NotIn else .In)) (λ x y H Q=>∃(b:Bool) (p:Addr) (xs:List V) (ds:List D) (d:D),y=.ref p/\Ym X.K H b p xs ds x d/\Q (.bl (if neg then !ds.any (λ e=>PyData.eqv (toP e) (toP d))else ds.any λ e=>PyData.eqv (toP e) (toP d))) H):=by
 intro pins s σ H x y v u Q I rx ry h;obtain⟨b,p,xs,ds,d,rfl,ok,q⟩:=h;cases ry;obtain⟨bs,rb⟩:=Vc I d ok.n ok.dat rx;have hd:=ok.dep;cases b with
 |false=>
  obtain⟨au,r,pl,hz⟩:=I.list ok.sq;obtain⟨as,ra⟩:=wu I ds ok.ns ok.T6 r;obtain⟨e,e1,e2⟩:=pG (A:=X.A.in1) rb ok.lay (by show X.A.units+1+_ < _;omega) ra ok.JR;have e3:au.toArray.any e=ds.any λ e=>PyData.eqv (toP e) (toP d):=by rw[show au.toArray.any e=au.any e by simp,any_map _ _ _ e2,List.any_map];rfl
  cases neg with
  |false=>exact SeqAt.in_listAt e pl.isList (λ w hw=>e1 w (by simpa using hw)) ⟨.bl _,H,I,rfl,by rw[e3];exact q⟩
  |true=>exact SeqAt.notIn_listAt e pl.isList (λ w hw=>e1 w (by simpa using hw)) ⟨.bl _,H,I,rfl,by rw[e3];exact q⟩
 |true=>
  obtain⟨au,r,pl,hz⟩:=I.tuple ok.sq;obtain⟨as,ra⟩:=wu I ds ok.ns ok.T6 r;obtain⟨e,e1,e2⟩:=pG (A:=X.A.in1) rb ok.lay (by show X.A.units+1+_ < _;omega) ra ok.JR;have e3:au.toArray.any e=ds.any λ e=>PyData.eqv (toP e) (toP d):=by rw[show au.toArray.any e=au.any e by simp,any_map _ _ _ e2,List.any_map];rfl
  cases neg with
  |false=>exact SeqAt.in_tupleAt e pl (λ w hw=>e1 w (by simpa using hw)) ⟨.bl _,H,I,rfl,by rw[e3];exact q⟩
  |true=>exact SeqAt.notIn_tupleAt e pl (λ w hw=>e1 w (by simpa using hw)) ⟨.bl _,H,I,rfl,by rw[e3];exact q⟩
end
end L3
namespace L2
open PySem PySem.Spec PyProof.Rows L5
section
variable {X:Cx}
theorem vg(hc:X.calm=true):cK X (.builtin "any") (λ xs H Q=>∃(p:Addr) (bs:List Bool),xs=[.ref p]/\dF X.K H p (bs.map V.bl)/\Q (.bl (bs.any id)) H):=by
 intro pins s σ H xs us Q I r h;obtain⟨p,bs,rfl,hq,q⟩:=h;obtain⟨u,rfl,r1⟩:=vals1 r;cases r1;obtain⟨au,rv,pl,hz⟩:=I.list hq;refine call_any_walk (y8 pl.isList ?_);have fW:p≠s.heap.objs.size:=by obtain⟨o,n,e,_⟩:=pl;exact K1 (K2 e)
 have hlen:au.length=bs.length:=by rw[<- rv.length,D3]
 refine⟨s.heap.objs.size,_,_,_,_,_,λ i=>(bs[i]?).getD false,rfl,Walks.list (A:=X.A.in1) (show X.A.in1.handled=none from I.ok.hd hc) s.heap.objs.size p fW au.toArray,⟨⟨_,q8 _ rfl,rfl,rfl⟩,pl.isList.at λ o e=>j7 _ e⟩,?_,λ h' tk hk=>?_⟩
 ·intro i v s' Q' E' hP hQ;have Fp:au[i]?=some v:=by simpa using hP
  have hi:i < bs.length:=by rw[<- hlen];exact(i5.mp Fp).1
  have hb:(bs.map V.bl)[i]?=some (V.bl bs[i]):=by simp[hi]
  obtain⟨u,hu,ru⟩:=rv.get hb;rw[Fp]at hu;cases hu;have e:v=Value.bool bs[i]:=ru;subst e;have:(bs[i]?).getD false=bs[i]:=by simp[hi]
  dsimp only at hQ;rw[this]at hQ;exact y7 hQ
 ·refine⟨.bl (bs.any id),H,I.kept (t':=tk) λ b o e=>hk b o (by simpa using K1 (K2 e)) (j7 _ e),?_,q⟩;show Value.bool _=Value.bool _;congr 1;rw[z9,hlen];rw[C0];simp only[List.any_eq_true,mem_range,id];constructor
  ·rintro⟨i,hi,h⟩;exact⟨bs[i],B3 hi,by simpa[hi]using h⟩
  ·rintro⟨b,hb,h⟩;obtain⟨i,hi,rfl⟩:=l9.mp hb;exact⟨i,hi,by simpa[hi]using h⟩
end
end L2
namespace L3
open PySem PySem.Spec L2 L5 PyProof.Rows
section
variable {X:Cx}
def Um:List D->Mem->bF->Prop:=λ xs M Q=>∃(a:Addr) (bs:List Bool),xs=[.ref a]/\a_ M a=some (bs.map D.bl)/\Q (.bl (bs.any id)) M
theorem Us(hc:X.calm=true):dr X (.builtin "any") Um:=⟨_,vg hc,λ xs ds H M Q2 Q hd hm q k=>by
 obtain⟨a,bs,rfl,hM,q⟩:=q;obtain⟨x,r,rfl,hx,hr⟩:=ag.mp hd;cases(aq.mp hr);cases(aO.mp hx);obtain⟨ys,h,hy⟩:=cU hM hm;exact⟨a,bs,rfl,dF.of (by rw[h,nS hy]),k _ H _ M (aN.mpr rfl) hm (ao.refl H) q⟩⟩
def Mb:List D->Mem->bF->Prop:=λ ds M Q=>∃bs:List Bool,ds=bs.map D.bl/\Q (.bl (bs.any id)) M
theorem Ha:jN Um Mb:=λ ds M p Q hp hz q=>by obtain⟨bs,rfl,q⟩:=q;exact⟨p,bs,rfl,ip,M,(ko.refl M).put hp,q⟩
def LX:List D->Mem->bF->Prop:=λ ds M Q=>∃ns:List Int,ds=ns.map D.int/\Q (.int ns.sum) M
theorem xU:jN Qi LX:=λ ds M p Q hp hz q=>by obtain⟨ns,rfl,q⟩:=q;exact⟨.ref p,_,ns,rfl,ip,rfl,M,(ko.refl M).put hp,q⟩
def T9:eU:=λ x y M Q=>∃l k ds,x=.ref l/\y=.int k/\M l=some (.lst ds)/\-(2^63)<=k/\k < 2^63/\ds.length*k.toNat<=sizeLine/\∀p,M p=none->Q (.ref p) (ay M p (.lst (List.replicate k.toNat ds).flatten))
def zb:eU:=λ x y M Q=>uT x y M Q\/T9 x y M Q
theorem gp:eP X (binaryOp .Mult) zb:=OU.or ⟨_,OE,λ x y d e H M Q2 Q hd he hm q k=>by
 obtain⟨l,n,ds,rfl,rfl,hM,h1,h2,hz,q⟩:=q;cases(aO.mp hd);cases(aB.mp he);obtain⟨xs,hx,Y8⟩:=hm l _ hM;exact⟨l,n,xs,rfl,rfl,hx,h1,h2,by rw[Y8.length];exact hz,λ p hp=>k _ _ (.ref p) _ (aO.mpr rfl) (dD hp (nR Y8 n.toNat) hm) (ao.laid hp) (q p (hm.free hp))⟩⟩
structure ZA(M:Mem)(x y:D)(ds:List D):Prop where
 sq:cL M y=some ds
 ns:q_ ds=true
 n:nr x=true
 JR:PyData.canLayAll0 (toPs ds)=true
 lay:(toP x).canLay0=true
 dep:(toP x).depth < 62
def Qk(neg:Bool):eU:=λ x y M Q=>∃ds,ZA M x y ds/\Q (.bl (if neg then !ds.any (λ e=>PyData.eqv (toP e) (toP x))else ds.any λ e=>PyData.eqv (toP e) (toP x))) M
theorem LI(neg:Bool)(hu:X.A.units+64 < cLine):eP X (compareOp (if neg then .NotIn else .In)) (Qk neg):=⟨_,OL neg hu,λ x y d e H M Q2 Q hd he hm q k=>by
 obtain⟨ds,ok,q⟩:=q;obtain⟨p,xs,rfl,q1,x1⟩:=qy ok.sq he hm;exact⟨_,p,xs,ds,d,rfl,⟨q1,x1,hd,ok.ns,ok.n,ok.JR,ok.lay,ok.dep⟩,k _ H _ M (aN.mpr rfl) hm (ao.refl H) q⟩⟩
def FU:eU:=λ x y M Q=>Ui x y M Q\/Qk false x y M Q
theorem kJ(hu:X.A.units+64 < cLine):eP X (compareOp .In) FU:=Wq.or (LI false hu)
def yZ:eU:=λ x y M Q=>∃i j,x=.str i/\y=.str j/\Q (.bl (!(!(Builtin.Str.occurrences j i 0 j.length 1).isEmpty))) M
theorem Eh:eP X (compareOp .NotIn) yZ:=⟨_,qV,λ x y d e H M Q2 Q hd he hm q k=>by
 obtain⟨i,j,rfl,rfl,q⟩:=q;cases(aS.mp hd);cases(aS.mp he);exact⟨i,j,rfl,rfl,k _ H _ M (aN.mpr rfl) hm (ao.refl H) q⟩⟩
def y_:eU:=λ x y M Q=>yZ x y M Q\/Qk true x y M Q
theorem Ei(hu:X.A.units+64 < cLine):eP X (compareOp .NotIn) y_:=Eh.or (LI true hu)
end
section
variable {M:Mem}{Q:bF}
theorem ye{ns:List Int}(q:Q (.int ns.sum) M):LX (ns.map D.int) M Q:=⟨ns,rfl,q⟩
theorem jq{i j:Int}(h:sk i j)(q:Q (.int (i*j)) M):zb (.int i) (.int j) M Q:=.inl (Dc h q)
theorem CY{i:Str}{j:Int}(h:MulOk i j)(q:Q (.str (Txt.mul i j)) M):zb (.str i) (.int j) M Q:=.inl (C_ h q)
theorem mM{d:D}{k:Int}(h0:0<=k)(h1:k<=10000)(q:Q (.tup (List.replicate k.toNat d)) M):zb (.tup [d]) (.int k) M Q:=.inl (CZ h0 h1 q)
theorem H_{i j:Str}(q:Q (.bl (!(Builtin.Str.occurrences j i 0 j.length 1).isEmpty)) M):FU (.str i) (.str j) M Q:=.inl (Nw q)
theorem qK{x:D}{ds:List D}{b:Bool}(e:inD x ds=some b)(q:Q (.bl b) M):FU x (.tup ds) M Q:=.inl (Nv e q)
theorem qL{x:D}{a:Addr}{ds:List D}{b:Bool}(h:M a=some (.lst ds))(e:inD x ds=some b)(q:Q (.bl b) M):FU x (.ref a) M Q:=.inl (Nx h e q)
theorem AO{k:Nat}{x y:D}{ds:List D}(hs:cL M y=some ds)(hx:Pl k x)(hd:∀e∈ds,Pl k e)(hk:k<=60):ZA M x y ds:=by have f:=js λ e he=>(hd e he).f;exact⟨hs,f.nr,hx.f.nr,f.lay,hx.f.lay,by have:=hx.f.dep;omega⟩
theorem Qt{k:Nat}{x:D}{ds:List D}(hx:Pl k x)(hd:∀e∈ds,Pl k e){b:Bool}(hb:b=true↔x∈ds):(ds.any λ e=>PyData.eqv (toP e) (toP x))=b:=by
 rw[C0,hb,List.any_eq_true];constructor
 ·rintro⟨e,he,h⟩;rw[<- (jH e x (hd e he) hx).mp h];exact he
 ·intro h;exact⟨x,h,(jH x x hx hx).mpr rfl⟩
theorem wq{k:Nat}{x y:D}{ds:List D}{b:Bool}(hs:cL M y=some ds)(hx:Pl k x)(hd:∀e∈ds,Pl k e)(hk:k<=60)(hb:b=true↔x∈ds)(q:Q (.bl (!b)) M):y_ x y M Q:=by refine .inr ⟨ds,AO hs hx hd hk,?_⟩;rw[Qt hx hd hb];exact q
end
end L3
namespace L5
open PySem PyProof.Rows
abbrev Qg(d:Value):List (Str×Value):=[(Str.ofString "default",d)]
theorem BB(a d:Value):argsOk "max" ⟨[a],Qg d⟩:=by unfold argsOk;kernel_rfl
section
variable {prog:Program}{w:World}{A:Around}{R:Result->Shared->Prop}{I:Addr}{fp wr:List Addr}{n:Nat}{P:Nat->Value->Prop}{St:Nat->Heap->Prop}{d:Value}
theorem rf:(toString "max"++toString ".loop":String)="max.loop":=by decide
abbrev rX(xs:Array Value)(c:Nat):Obj:={cls:=.type "list",dict:=none,data:=.seq xs c,slots:=#[]}
theorem Er(W:Walks prog w A.in1 I fp wr n P St){S:Addr}(Q8:S∉wr){s:Shared}{vb:Value}{c:Nat}(hst:St n s.heap)(hS:s.heap.get? S=some (rX #[vb,vb] c)) (hR:∀h' tk,(∀b o,b∉wr->b≠S->s.heap.get? b=some o->h'.get? b=some o)->R (.ok (.ret vb)) {s with heap:=h',toks:=tk}):codeAny (model prog w) A (.builtin "max.loop" ⟨[.ref I,.none,.ref S],Qg d⟩) R s:=by refine C9 F.entry_max_loop ?_;rw[m7 B0 _];show wpAny _ A.in1 (seqItems? (.ref S) >>= _) _ _ s;refine N6 (E8 hS rfl ?_);show wpAny _ A.in1 (tryCatch (pyNext (.ref I)) _ >>= _) _ _ s;refine N6 (G5 (W.done s _ _ hst λ h' tk hk=>?_));have rH:=hk S _ Q8 hS;show wpAny _ A.in1 (updateSeq S (λ _=>#[]) >>= _) _ _ _;refine N6 (D8 rH rfl (N6 (N5 (N7 ?_))));exact hR _ tk λ b o BL Kq e=>(j8 _ _ (O4 Kq)).trans (hk b o BL e)
theorem AE(W:Walks prog w A.in1 I fp wr n P St)(bt:Nat->Nat->Bool)(PR:CmpOf prog w A.in1 .Gt P bt)(S:Addr)(Q9:S∉fp):∀(k j:Nat) (s:Shared) (vb:Value) (c:Nat),n - (j+1)=k->j+1<=n->St (j+1) s.heap->P (argBest bt j) vb->s.heap.get? S=some (rX #[vb,vb] c)->
  (∀v h' tk,P (argBest bt (n - 1)) v->(∀b o,b∉wr->b≠S->s.heap.get? b=some o->h'.get? b=some o)->R (.ok (.ret v)) {s with heap:=h',toks:=tk})->
  codeAny (model prog w) A (.builtin "max.loop" ⟨[.ref I,.none,.ref S],Qg d⟩) R s:=by
 have Q8:S∉wr:=λ h=>Q9 (W.sub _ h);intro k
 induction k with
 |zero=>
  intro j s vb c hk hj hst Vw hS hR;have e:j+1=n:=by omega
  exact Er W Q8 (e▸hst) hS λ h' tk q=>hR vb h' tk (by rw[<- e];exact Vw) q
 |succ k ih=>
  intro j s vb c hk hj hst Vw hS hR;have iS:j+1 < n:=by omega
  refine C9 F.entry_max_loop ?_;rw[m7 B0 _];show wpAny _ A.in1 (seqItems? (.ref S) >>= _) _ _ s;refine N6 (E8 hS rfl ?_);show wpAny _ A.in1 (tryCatch (pyNext (.ref I)) _ >>= _) _ _ s;refine N6 (G5 (W.item (j+1) s _ _ iS hst λ v h' tk hP Kj vD=>?_));have rH:=vD S _ Q8 hS;show wpAny _ A.in1 (tryCatch (holding [v,v] (richCompare .Gt v vb >>= _)) _ >>= _) _ _ _;refine N6 (G5 (G7 (N6 (PR (j+1) (argBest bt j) v vb _ _ _ hP Vw (N6 (G7 (y7 (N6 (N5 (N7 ?_))))))))));cases hb:bt (j+1) (argBest bt j)with
  |true=>simp only[O5];refine N6 (D8 rH rfl (N6 (N5 ?_)));rw[rf];refine N7 ⟨J7 B0 _,ih (j+1) _ v _ (by omega) iS (W.frame _ _ _ Kj λ b TM o e=>(j8 _ _ (λ h:S=b=>Q9 (by rw[h];exact TM))).trans e) (by simp only[argBest,hb,O5];exact hP) (k7 _ rH rfl) λ v' h2 t2 Fp Tp=>?_⟩;exact hR v' h2 t2 Fp λ b o BL Kq e=>Tp b o BL Kq ((j8 _ _ (O4 Kq)).trans (vD b o BL e))
  |false=>simp only[u5,O2];refine N6 (N5 ?_);rw[rf];exact N7 ⟨J7 B0 _,ih (j+1) _ vb c (by omega) iS Kj (by simp only[argBest,hb,u5,O2];exact Vw) rH λ v' h2 t2 Fp Tp=>hR v' h2 t2 Fp λ b o BL Kq e=>Tp b o BL Kq (vD b o BL e)⟩
theorem wQ(W:Walks prog w A.in1 I fp wr n P St)(bt:Nat->Nat->Bool)(PR:CmpOf prog w A.in1 .Gt P bt)(S:Addr)(Q9:S∉fp){s:Shared}{c:Nat}(hst:St 0 s.heap)(hS:s.heap.get? S=some (rX #[] c)) (h0:n=0->∀h' tk,(∀b o,b∉wr->b≠S->s.heap.get? b=some o->h'.get? b=some o)->R (.ok (.ret d)) {s with heap:=h',toks:=tk}) (hR:0 < n->∀v h' tk,P (argBest bt (n - 1)) v->(∀b o,b∉wr->b≠S->s.heap.get? b=some o->h'.get? b=some o)->R (.ok (.ret v)) {s with heap:=h',toks:=tk}):codeAny (model prog w) A (.builtin "max.loop" ⟨[.ref I,.none,.ref S],Qg d⟩) R s:=by
 have Q8:S∉wr:=λ h=>Q9 (W.sub _ h);refine C9 F.entry_max_loop ?_;rw[m7 B0 _];show wpAny _ A.in1 (seqItems? (.ref S) >>= _) _ _ s;refine N6 (E8 hS rfl ?_);show wpAny _ A.in1 (tryCatch (pyNext (.ref I)) _ >>= _) _ _ s;by_cases hn:0 < n
 ·refine N6 (G5 (W.item 0 s _ _ hn hst λ v h' tk hP Kj vD=>?_));have rH:=vD S _ Q8 hS;show wpAny _ A.in1 (updateSeq S (λ _=>#[v,v]) >>= _) _ _ _;refine N6 (D8 rH rfl ?_);rw[rf];refine N7 ⟨J7 B0 _,AE W bt PR S Q9 _ 0 _ v _ rfl hn (W.frame _ _ _ Kj λ b TM o e=>(j8 _ _ (λ h:S=b=>Q9 (by rw[h];exact TM))).trans e) hP (k7 _ rH rfl) λ v' h2 t2 Fp Tp=>?_⟩;exact hR hn v' h2 t2 Fp λ b o BL Kq e=>Tp b o BL Kq ((j8 _ _ (O4 Kq)).trans (vD b o BL e))
 ·have e:n=0:=by omega
  refine N6 (G5 (W.done s _ _ (e▸hst) λ h' tk hk=>?_));exact N6 (N8 (N7 (h0 e h' tk λ b o BL _ q=>hk b o BL q)))
end
end L5
namespace L5
open PySem PyProof.Rows
theorem Bz(d:Value):Builtin.Builtins.bindParams "max" ["key","default"] 0 ⟨[],Qg d⟩=pure [none,some d]:=by kernel_rfl
section
variable {prog:Program}{w:World}{A:Around}{E:Value->Shared->Prop}{s:Shared}
theorem rS{id:String}{b:Builtin}{args:List Value}{kw:List (Str×Value)}{Q:Value->Shared->Prop}(hk:builtinKind id=none)(hp:plainId id=true)(hb:entryFor table id=some b)(ha:argsOk id ⟨args,kw⟩) (hc:wpAny (model prog w) A.in1 (b ⟨args,kw⟩) (λ fin s'=>match fin with
   | .done f=>(match(Except.ok f:Result)with| .ok (.ret v)=>Q v s'| .ok _=>False| .error e=>E e s')
   | .again c'=>c'.quiet=true/\codeAny (model prog w) A c' (λ r s'=>match r with| .ok (.ret v)=>Q v s'| .ok _=>False| .error e=>E e s') s') E s):wpAny (model prog w) A (call (.builtin id) args kw) Q E s:=by
 refine O1 (m9 hp hb ?_);simp only[checkBuiltinCall,hk];cases W':Manifest.signature? id with
 |none=>exact N7 hc
 |some sig=>have ha':Bind.checkArgs id sig ⟨args,kw⟩=pure ():=by{simpa only[argsOk,W']using ha};simp only[ha'];exact N7 hc
theorem Bs(hA:A.in1.handled=none){l:Addr}{au:List Value}{ns:List Int}{d:Value}{Q:Value->Shared->Prop}(hl:s.heap.IsList l au.toArray)(hi:IntsAre au ns) (h0:ns=[]->∀h' tk,(∀b o,s.heap.get? b=some o->h'.get? b=some o)->Q d {s with heap:=h',toks:=tk}) (hR:∀m t h' tk,m∈ns->(∀x∈ns,x<=m)->(∀b o,s.heap.get? b=some o->h'.get? b=some o)->Q (.int m t) {s with heap:=h',toks:=tk}):wpAny (model prog w) A (call (.builtin "max") [.ref l] (Qg d)) Q E s:=by
 have iS:l < s.heap.objs.size:=by obtain⟨o,e,_⟩:=hl;exact K2 e
 have fW:l≠s.heap.objs.size:=K1 iS;have hlen:au.length=ns.length:=hi.length;refine rS F.kind_max F.plain_max F.entry_max (BB _ _) ?_;show wpAny _ A.in1 (Builtin.Builtins.bindParams "max" ["key","default"] 0 ⟨[],Qg d⟩ >>= _) _ _ s;refine N6 (wpAny_of_eq (Bz d) (N6 (N7 ?_)));refine N6 (y8 hl (N6 (y4 ?_)));rw[rf];have S5:∀i v,au.toArray[i]?=some v->∃t,v=Value.int (ns.getD i 0) t:=λ i v e=>by
  have e:au[i]?=some v:=by simpa using e
  have h1:i < ns.length:=by rw[<- hlen];exact(i5.mp e).1
  obtain⟨t,e2⟩:=L2.iw hi h1;rw[e]at e2;cases e2;exact⟨t,by simp[c7,h1]⟩
 have sz:(s.heap.push {cls:=.type "list_iterator",data:=.fields #[.ref l,.int 0 0]}).objs.size=s.heap.objs.size+1:=E9 ..;have W:=Walks.list (prog:=prog) (w:=w) hA s.heap.objs.size l fW au.toArray;refine N7 ⟨J7 B0 _,wQ (d:=d) W (λ i j=>decide (ns.getD i 0 > ns.getD j 0)) (CmpOf.ints_gt _ S5) _ ?_ ?_ (q8 _ rfl) ?_ ?_⟩
 ·show(s.heap.push {cls:=.type "list_iterator",data:=.fields #[.ref l,.int 0 0]}).objs.size∉_;rw[sz];simp only[J0,not_mem_nil,or_false,not_or];exact⟨Nat.succ_ne_self _,L6 (A1 iS)⟩
 ·refine W.frame _ _ _ ⟨⟨_,q8 _ rfl,rfl,rfl⟩,hl.at λ o e=>j7 _ e⟩ λ b _ o e=>j7 _ e
 ·intro hn h' tk hk;have e:ns=[]:=j4.mp (by rw[<- hlen];simpa using hn);refine h0 e h' tk λ b o q=>hk b o ?_ ?_ (j7 _ (j7 _ q))
  ·simpa using K1 (K2 q)
  ·have:=K2 q;show b≠(s.heap.push _).objs.size;rw[sz];exact K1 (A1 (K2 q))
 ·intro hn v h' tk hP hk;have hn:0 < au.length:=by simpa using hn
  obtain⟨b1,b2⟩:=argBest_gt (λ i=>ns.getD i 0) (au.length - 1);obtain⟨t,rfl⟩:=S5 _ _ hP;have hm:argBest (λ i j=>decide (ns.getD i 0 > ns.getD j 0)) (au.toArray.size - 1) < ns.length:=by simp only[z9];omega
  refine hR _ t h' tk ?_ ?_ λ b o q=>hk b o ?_ ?_ (j7 _ (j7 _ q))
  ·rw[c7,i8 hm];exact B3 _
  ·intro x hx;obtain⟨j,hj,rfl⟩:=l9.mp hx;have:=b2 j (by omega);simp only[z9];simpa[c7,hj]using this
  ·simpa using K1 (K2 q)
  ·have:=K2 q;show b≠(s.heap.push _).objs.size;rw[sz];exact K1 (A1 (K2 q))
end
end L5
namespace L2
open PySem PySem.Spec PyProof.Rows L5
def jY(d:Int):List Int->Int
 |[]=>d
 |n::ns=>ns.foldl max n
theorem foldl_max:∀(ns:List Int) (n:Int),n<=ns.foldl max n/\(∀x∈ns,x<=ns.foldl max n)/\(ns.foldl max n=n\/ns.foldl max n∈ns)
 |[],n=>⟨Int.le_refl _,(λ x h=>by cases h),.inl rfl⟩
 |m::ns,n=>by
  obtain⟨h1,h2,h3⟩:=foldl_max ns (max n m);rw[foldl_cons];refine⟨by omega,λ x hx=>?_,?_⟩
  ·rcases J0.mp hx with rfl|hx
   ·omega
   ·exact h2 x hx
  ·rcases h3 with h3|h3
   ·by_cases e:n<=m
    ·exact .inr (by rw[h3];simp[Int.max_eq_right e])
    ·exact .inl (by rw[h3];omega)
   ·exact .inr (l7 _ h3)
theorem JF{d:Int}{ns:List Int}{m:Int}(h1:m∈ns)(h2:∀x∈ns,x<=m):jY d ns=m:=by
 cases ns with
 |nil=>cases h1
 |cons n ns=>
  obtain⟨g1,g2,g3⟩:=foldl_max ns n;show ns.foldl max n=m;refine Int.le_antisymm ?_ ?_
  ·rcases g3 with g3|g3
   ·rw[g3];exact h2 n (s9 ..)
   ·exact h2 _ (l7 _ g3)
  ·rcases J0.mp h1 with rfl|h1
   ·exact g1
   ·exact g2 m h1
section
variable {X:Cx}{e c:Expr}{te tc:TE}{p pos kp:Pos}
theorem Ja(hc:X.calm=true)(hg:Gl X "max")(hm:X.mg "max"=none)(he:PE X e te)(hd:PE X c tc) (hs:starEach [e] X.env=[(false,eval e X.env)]:=by rfl) (ux:backTo pos (starEach [e] X.env)=(false,eval e X.env)::backTo pos (starEach [] X.env):=by rfl) (kb:(backTo pos (starEach [e] X.env)).any (·.1)=false:=by rfl):PE X (.Call (.Name "max" p) [e] [⟨some "default",c,kp⟩] pos) (λ σ H Q=>te σ H λ x H1=>tc σ H1 λ y H2=>∃(l:Addr) (ns:List Int) (d:Int),x=.ref l/\y=.int d/\dF X.K H2 l (ns.map V.int)/\Q (.int (jY d ns)) H2):=by
 intro pins s σ H Q I h;refine w6 (fu I hg hm PyProof.Rows.boot_max ?_ (by decide) (by decide));refine PyProof.Rows.callWith_kw (cG ((aW he cE (by rw[hs];rfl)) pos pins s σ H (λ vs H1=>match vs with|[x]=>tc σ H1 (λ y H2=>∃(l:Addr) (ns:List Int) (d:Int),x=.ref l/\y=.int d/\dF X.K H2 l (ns.map V.int)/\Q (.int (jY d ns)) H2)|_=>False) I h) λ us s1 ⟨vs,H1,I1,r1,q1⟩=>?_) ux kb;cases vs with
 |nil=>exact q1.elim
 |cons x vs=>
  cases vs with
  |cons _ _=>exact q1.elim
  |nil=>
  refine cG ((IV hd Ov) pos pins s1 σ H1 (λ vs H2=>match vs with|[y]=>∃(l:Addr) (ns:List Int) (d:Int),x=.ref l/\y=.int d/\dF X.K H2 l (ns.map V.int)/\Q (.int (jY d ns)) H2|_=>False) I1 q1) λ ws s2 ⟨zs,H2,I2,rz,e2⟩=>?_;cases zs with
  |nil=>exact e2.elim
  |cons y zs=>
   cases zs with
   |cons _ _=>exact e2.elim
   |nil=>
   obtain⟨l,ns,d,rfl,rfl,hl,q⟩:=e2;obtain⟨u,rfl,ru⟩:=vals1 r1;obtain⟨v,rfl,t,rfl⟩:=vals1 rz;cases(show u=Value.ref l from ru);obtain⟨au,rv,pl,hz⟩:=I2.list hl;refine Bs (I2.ok.hd hc) pl.isList (intsAre_of rv) (λ e h' tk hk=>?_) (λ m t h' tk m1 m2 hk=>?_)
   ·subst e;exact⟨.int d,H2,I2.kept (t':=tk) hk,⟨_,rfl⟩,q⟩
   ·rw[JF m1 m2]at q;exact⟨.int m,H2,I2.kept (t':=tk) hk,⟨_,rfl⟩,q⟩
end
end L2
namespace L3
open PySem PySem.Spec L2 L5 PyProof.Rows
def CO(k:Int)(wi:lZ)(g:fX)(tt:dX)(te:bX)(n:Nat)(fr:List Nat):bX:=λ δ M Q=>gj wi g tt te n fr δ M λ ds M'=>∃ns:List Int,ds=ns.map D.int/\Q (.int (jY k ns)) M'
section
variable {X:Cx}{scope:Scope}{tgs:List Str}{fr:List Nat}{tg elt iter e:Expr}{ifs:List Expr}{p pos kp bC PD:Pos}{wi:lZ}{g:fX}{tt:dX}{te:bX}{k:Int}{j:_}
theorem Oe(hc:X.calm=true)(hg:Gl X "max")(hm:X.mg "max"=none)(C:i_ X scope tgs fr tg iter ifs elt wi g tt te) (hs:∀x,foldedSetIterable iter X.env x=pure x:=by intro _;rfl) (GF:starEach [.ListComp elt [⟨tg,iter,ifs,0⟩] scope bC] X.env=[(false,eval (.ListComp elt [⟨tg,iter,ifs,0⟩] scope bC) X.env)]:=by rfl) (ux:backTo pos (starEach [.ListComp elt [⟨tg,iter,ifs,0⟩] scope bC] X.env)=(false,eval (.ListComp elt [⟨tg,iter,ifs,0⟩] scope bC) X.env)::backTo pos (starEach [] X.env):=by rfl) (kb:(backTo pos (starEach [.ListComp elt [⟨tg,iter,ifs,0⟩] scope bC] X.env)).any (·.1)=false:=by rfl):QE X (.Call (.Name "max" p) [.ListComp elt [⟨tg,iter,ifs,0⟩] scope bC] [⟨some "default",.Constant (.int k) j PD,kp⟩] pos) (CO k wi g tt te tgs.length fr):=by obtain⟨B,vF,hE,hi,⟨gv,Ko,gk,gl⟩,ht,he⟩:=C;refine bL (Ja hc hg hm (jv (tt:=xT X.K tt) (te:=up X.K te) B vF hE hi Ko gk ht he hs) DR GF ux kb) ?_;rintro σ H Q ⟨δ,M,Q2,hs,hm,q,kk⟩;show mB (QH X.K wi) gv (xT X.K tt) (up X.K te) tgs.length fr σ H _;refine fS gl hs hm q λ acc xs H' M' p rG dH t' hz hp q'=>?_;obtain⟨ns,rfl,q'⟩:=q';rw[cR rG];exact⟨p,ns,k,rfl,rfl,dF.of aJ,kk _ _ (.int _) M' (aB.mpr rfl) (dH.laid hp) (t'.trans (ao.laid hp)) q'⟩
end
section
variable {δ:cV}{M:Mem}{Q:bF}{wi:lZ}{g:fX}{tt:dX}{te:bX}{n:Nat}{fr:List Nat}{k:Int}
theorem HQ(h:gj wi g tt te n fr δ M λ ds M'=>∃ns:List Int,ds=ns.map D.int/\Q (.int (jY k ns)) M'):CO k wi g tt te n fr δ M Q:=h
end
end L3
namespace L4
open PySem PySem.Spec L2 L3 L5
section
variable {X:Cx}{scope:Scope}{tgs:List Str}{fr:List Nat}{tg elt iter e:Expr}{ifs:List Expr}{p pos kp bC PD:Pos}{wi:lZ}{g:fX}{tt:dX}{te:bX}{k:Int}{j:_}
theorem Mq(hc:X.calm=true)(hg:Gl X "max")(hm:X.mg "max"=none)(C:fh X scope tgs fr tg iter ifs elt wi g tt te) (hs:∀x,foldedSetIterable iter X.env x=pure x:=by intro _;rfl) (GF:starEach [.ListComp elt [⟨tg,iter,ifs,0⟩] scope bC] X.env=[(false,eval (.ListComp elt [⟨tg,iter,ifs,0⟩] scope bC) X.env)]:=by rfl) (ux:backTo pos (starEach [.ListComp elt [⟨tg,iter,ifs,0⟩] scope bC] X.env)=(false,eval (.ListComp elt [⟨tg,iter,ifs,0⟩] scope bC) X.env)::backTo pos (starEach [] X.env):=by rfl) (kb:(backTo pos (starEach [.ListComp elt [⟨tg,iter,ifs,0⟩] scope bC] X.env)).any (·.1)=false:=by rfl):WE X (.Call (.Name "max" p) [.ListComp elt [⟨tg,iter,ifs,0⟩] scope bC] [⟨some "default",.Constant (.int k) j PD,kp⟩] pos) (CO k wi g tt te tgs.length fr):=⟨Oe hc hg hm C.h hs GF ux kb⟩
end
end L4
namespace L3
open PySem PySem.Spec L2 L5 PyProof.Rows
def LW(R:Src->Mem->Prop)(ds:List D)(M1:Mem):Prop:=match ds with
 |[.tup xs]=>R (.fix (ff xs)) M1
 |[x]=>(∃zs,cL M1 x=some zs)/\R (.fn (uH x)) M1
 |_=>False
theorem Di{ta:eT}{δ:cV}{M:Mem}{R:Src->Mem->Prop}(h:ta δ M (LW R)):EL ta δ M R:=h
theorem Dj{xs:List D}{M:Mem}{R:Src->Mem->Prop}(h:R (.fix (ff xs)) M):LW R [.tup xs] M:=h
section
variable {g:fX}{tt:dX}{te:bX}{δ δc:cV}{M1:Mem}{Qe:List D->Mem->Prop}
abbrev Zl{α:Type}(enc:α->D)(p:α×Nat):D:=.tup [.int (p.2:Int),enc p.1]
theorem KW{α:Type}{xs:List α}{enc:α->D}(out:α×Nat->D)(hn:xs.length<=10000) (hs:∀(i:Nat) (x:α) (N:D->Mem->Prop),xs[i]?=some x->N (out (x,i)) M1->g (Zl enc (x,i)) δc M1 λ δ2 M2=>te δ2 M2 N) (hd:Qe (xs.zipIdx.map out) M1):∃(B:Nat) (W:Nat->List D->Mem->Prop),W 0 [] M1/\∀i acc M,W i acc M->i<=B/\acc.length<=sizeLine/\match items (.fix (ff (xs.map enc))) M with
   |none=>False
   |some ds=>match ds[i]? with
    |none=>i=ds.length/\Qe acc M
    |some d=>g d δc M λ δ2 M2=>mI δ2 M2 λ b M3=>if b=true then te δ2 M3 λ y M4=>W (i+1) (acc++[y]) M4 else W (i+1) acc M3:=by
 rw[nP];refine bE (xs:=xs.zipIdx) (enc:=Zl enc) out (by rw[length_zipIdx];exact hn) (λ i x N hx hN=>?_) hd;rw[getElem?_zipIdx]at hx;cases e:xs[i]? with
 |none=>rw[e]at hx;cases hx
 |some y=>rw[e]at hx;have:(y,0+i)=x:=C6 hx;rw[K6]at this;subst this;exact hs i y N e hN
end
end L3
namespace L2
open PySem PySem.Spec PyProof.Rows
section
variable {X:Cx}
def Wa(K:O8)(x y:V)(H:Hp)(Q:Bool->Prop):Prop:=(∃a o,y=.ref a/\oY H a x o/\Q o.isSome)\/∃a b aw k,y=.ref a/\x=.ref b/\oX K H a aw/\k.dep<=5/\iy K H k (.ref b)/\Q (jf aw k).isSome
theorem Jl(neg:Bool)(hu:X.A.units+64 < cLine):eQ X (compareOp (if neg then .NotIn else .In)) (λ x y H Q=>Wa X.K x y H λ b=>Q (.bl (if neg then !b else b)) H):=by
 intro pins s σ H x y v u Q I rx ry h;rcases h with⟨a,o,rfl,g,q⟩|⟨a,b,aw,k,rfl,rfl,d,hk,yN,q⟩
 ·cases(show u=Value.ref a from ry);cases neg with
  |false=>exact X5 (by omega) I g rx λ s3 I3=>⟨.bl o.isSome,H,I3,rfl,q⟩
  |true=>exact KJ (by omega) I g rx λ s3 I3=>⟨.bl (!o.isSome),H,I3,rfl,q⟩
 ·cases(show u=Value.ref a from ry);cases(show v=Value.ref b from rx);cases neg with
  |false=>exact VU hu I d hk yN λ s3 I3=>⟨.bl (jf aw k).isSome,H,I3,rfl,q⟩
  |true=>exact Hg hu I d hk yN λ s3 I3=>⟨.bl (!(jf aw k).isSome),H,I3,rfl,q⟩
def RZ(K:O8)(x y:V)(H:Hp)(Q:VK):Prop:=(∃a v,x=.ref a/\oY H a y (some v)/\Q v H)\/∃a b aw k v,x=.ref a/\y=.ref b/\oX K H a aw/\k.dep<=5/\iy K H k (.ref b)/\jf aw k=some v/\Q v H
theorem Pz(hu:X.A.units+64 < cLine):xJ X (λ x y H Q=>RZ X.K x y H Q):=by
 intro value slice pins s σ H x y v u Q I rx ry h hs;rcases h with⟨a,w,rfl,g,q⟩|⟨a,b,aw,k,w,rfl,rfl,d,hk,yN,g,q⟩
 ·cases(show v=Value.ref a from rx);refine tail_any (ops:=[.ref a,u]) (uL I g) PySem.F.slot_dict_getitem.lookup ?_ hs;exact Bk (by omega) I g ry λ w' s3 I3 wo=>⟨w,H,I3,wo,q⟩
 ·cases(show v=Value.ref a from rx);cases(show u=Value.ref b from ry);obtain⟨_,_,xs,_,dd⟩:=d.of I;refine tail_any (ops:=[.ref a,.ref b]) dd.typeIs PySem.F.slot_dict_getitem.lookup ?_ hs;exact zL hu I d hk yN g λ w' s3 I3 wo=>⟨w,H,I3,wo,q⟩
def RY(K:O8):BD:=λ o i v H Q=>(∃a H',o=.ref a/\Gv H a i v H'/\Q H')\/∃a b aw k,o=.ref a/\i=.ref b/\oX K H a aw/\k.dep<=5/\iy K H k (.ref b)/\aw.length < sizeLine/\Q (upd H a (Bf a (oB aw k b v)))
theorem Hq(hu:X.A.units+64 < cLine):sg X (RY X.K):=by
 intro pins s σ H o i v ov iv u Q I ro ri rv h;rcases h with⟨a,H',rfl,g,q⟩|⟨a,b,aw,k,rfl,rfl,d,hk,yN,hl,q⟩
 ·cases(show ov=Value.ref a from ro);exact Bg (by omega) I g ri rv λ s3 I3=>⟨H',I3,q⟩
 ·cases(show ov=Value.ref a from ro);cases(show iv=Value.ref b from ri);exact zK hu I d hk yN hl rv λ s3 I3=>⟨_,I3,q⟩
theorem xE:cK X (.builtin "len") (λ xs H Q=>∃a,xs=[.ref a]/\((∃aw,H a=some (.dK aw)/\Q (.int aw.length) H)\/∃aw,H a=some (Bf a aw)/\Q (.int aw.length) H)):=by
 intro pins s σ H xs us Q I r h;obtain⟨a,rfl,h⟩:=h;obtain⟨u,rfl,ru⟩:=vals1 r;cases(show u=Value.ref a from ru);rcases h with⟨aw,e,q⟩|⟨aw,e,q⟩
 ·exact T8 I (.inl e) λ t s' I'=>⟨.int aw.length,H,I',⟨t,rfl⟩,q⟩
 ·exact Ro I e λ t s' I'=>⟨.int aw.length,H,I',⟨t,rfl⟩,q⟩
end
end L2
namespace L3
open PySem PySem.Spec L2 L5 PyProof.Rows
noncomputable instance ab2:DecidableEq D:=λ a b=>Classical.propDecidable (a=b)
noncomputable def g_ (aw:List (D×D))(k:D):Option D:=(aw.find? λ p=>decide (p.1=k)).map (·.2)
noncomputable def putD (aw:List (D×D))(k v:D):List (D×D):=if(g_ aw k).isSome=true then aw.map (λ p=>if p.1=k then(p.1,v)else p)else aw++[(k,v)]
def vt(t:Bool)(x:D):Prop:=match t with
 |false=>∃k:Key,x=oF k
 |true=>∃ks:List IK,x=pQ (.t ks)/\(IK.t ks).dep<=5
def BE(K:O8)(H:Hp):Option D->Option V->Prop
 |none,none=>True
 |some d,some v=>Dat K H d v
 |_,_=>False
section
variable {K:O8}{H:Hp}
theorem Ln.look {aw:List (D×D)}{xs:List (Key×V)}(h:Ln K H aw xs)(k:Key):BE K H (g_ aw (oF k)) (iP xs k):=by
 induction h with
 |nil=>exact True.intro
 |@cons p q ps qs BH t ih=>
  obtain⟨h1,h2⟩:=BH;unfold g_ iP at ih ⊢;by_cases e:q.1=k
  ·have e':p.1=oF k:=by rw[h1,e]
   simp only[C2,E7 e,E7 e',Option.map_some];exact h2
  ·have e':¬p.1=oF k:=λ z=>e (ug (h1.symm.trans z));simp only[C2,C3 e,C3 e'];exact ih
theorem Gu.look {aw:List (D×D)}{xs:List fV}(h:Gu K H aw xs)(k:IK):BE K H (g_ aw (pQ k)) (jf xs k):=by
 induction h with
 |nil=>exact True.intro
 |@cons p q ps qs BH t ih=>
  obtain⟨h1,_,_,h2⟩:=BH;unfold g_ jf at ih ⊢;by_cases e:q.1=k
  ·have e':p.1=pQ k:=by rw[h1,e]
   simp only[C2,E7 e,E7 e',Option.map_some];exact h2
  ·have e':¬p.1=pQ k:=λ z=>e (rD (h1.symm.trans z));simp only[C2,C3 e,C3 e'];exact ih
theorem BE.isSome {o:Option D}{u:Option V}(h:BE K H o u):o.isSome=u.isSome:=by
 cases o with
 |none=>cases u with
  |none=>rfl
  |some _=>exact(show False from h).elim
 |some _=>cases u with
  |none=>exact(show False from h).elim
  |some _=>rfl
theorem BE.some_of {d:D}{u:Option V}(h:BE K H (some d) u):∃v,u=some v/\Dat K H d v:=by
 cases u with
 |none=>exact(show False from h).elim
 |some v=>exact⟨v,rfl,h⟩
theorem Gu.keys {a:Addr}{aw:List (D×D)}{xs:List fV}(h:Gu K H aw xs)(e:H a=some (Bf a xs)):oX K H a xs:=by
 refine⟨e,?_⟩;clear e
 induction h with
 |nil=>intro p hp;cases hp
 |@cons p q ps qs BH t ih=>
  intro x hx;rcases J0.mp hx with rfl|hx
  ·obtain⟨h1,h2,h3,_⟩:=BH;rw[h1]at h3;exact⟨h2,nU _ h3⟩
  ·exact ih x hx
theorem DA(xs:List (Key×V))(k:Key)(v:V):putK xs k v=if(iP xs k).isSome=true then xs.map (λ kv=>if kv.1=k then(kv.1,v)else kv)else xs++[(k,v)]:=by unfold putK;rw[mr]
theorem Ln.put {aw:List (D×D)}{xs:List (Key×V)}(h:Ln K H aw xs)(k:Key){d:D}{v:V}(hd:Dat K H d v):Ln K H (putD aw (oF k) d) (putK xs k v):=by
 rw[DA];unfold putD;rw[(h.look k).isSome];by_cases e:(iP xs k).isSome=true
 ·rw[O6 e,O6 e];clear e
  induction h with
  |nil=>exact .nil
  |@cons p q ps qs BH t ih=>
   rw[H9,H9];refine .cons ?_ ih;obtain⟨h1,h2⟩:=BH;by_cases e:q.1=k
   ·rw[O6 e,O6 (by rw[h1,e])];exact⟨h1,hd⟩
   ·rw[O7 e,O7 (λ z=>e (ug (h1.symm.trans z)))];exact⟨h1,h2⟩
 ·rw[O7 e,O7 e];exact Paired.snoc h ⟨rfl,hd⟩
theorem Gu.put {aw:List (D×D)}{xs:List fV}(h:Gu K H aw xs)(k:IK){b:Addr}{d:D}{v:V}(hk:k.dep<=5)(hb:Dat K H (pQ k) (.ref b))(hd:Dat K H d v):Gu K H (putD aw (pQ k) d) (oB xs k b v):=by
 unfold putD oB;rw[(h.look k).isSome];by_cases e:(jf xs k).isSome=true
 ·rw[O6 e,O6 e];clear e
  induction h with
  |nil=>exact .nil
  |@cons p q ps qs BH t ih=>
   rw[H9,H9];refine .cons ?_ ih;obtain⟨h1,h2,h3,h4⟩:=BH;by_cases e:q.1=k
   ·rw[O6 e,O6 (by rw[h1,e])];exact⟨h1,h2,h3,hd⟩
   ·rw[O7 e,O7 (λ z=>e (rD (h1.symm.trans z)))];exact⟨h1,h2,h3,h4⟩
 ·rw[O7 e,O7 e];exact Paired.snoc h ⟨rfl,hk,hb,hd⟩
end
section
variable {X:Cx}
def Uk(neg:Bool):eU:=λ x y M Q=>∃a t aw,y=.ref a/\M a=some (.jb t aw)/\vt t x/\Q (.bl (if neg then !(g_ aw x).isSome else(g_ aw x).isSome)) M
theorem qt{K:O8}{H:Hp}{ks:List IK}{v:V}(h:Dat K H (pQ (.t ks)) v):∃b,v=.ref b:=by unfold pQ at h;obtain⟨p,xs,rfl,_⟩:=aQ.mp h;exact⟨p,rfl⟩
theorem OZ(neg:Bool)(hu:X.A.units+64 < cLine):eP X (compareOp (if neg then .NotIn else .In)) (Uk neg):=⟨_,Jl neg hu,λ x y d e H M Q2 Q hd he hm q k=>by
 obtain⟨a,t,aw,rfl,hM,ok,q⟩:=q;cases(aO.mp he);have hr:=hm a _ hM;cases t with
 |false=>obtain⟨xs,hx,rel⟩:=hr;obtain⟨kk,rfl⟩:=ok;rw[rL hd];refine .inl ⟨a,_,rfl,oY.k hx,k _ H _ M (aN.mpr rfl) hm (ao.refl H) ?_⟩;rw[<- (rel.look kk).isSome];exact q
 |true=>
  obtain⟨xs,hx,rel⟩:=hr;obtain⟨ks,rfl,nH⟩:=ok;obtain⟨b,rfl⟩:=qt hd;refine .inr ⟨a,b,xs,_,rfl,rfl,rel.keys hx,nH,nU _ hd,k _ H _ M (aN.mpr rfl) hm (ao.refl H) ?_⟩;rw[<- (rel.look _).isSome];exact q⟩
def Uh:eU:=λ x y M Q=>FU x y M Q\/Uk false x y M Q
theorem SA(hu:X.A.units+64 < cLine):eP X (compareOp .In) Uh:=(kJ hu).or (OZ false hu)
def Ul:eU:=λ x y M Q=>∃a t aw d,x=.ref a/\M a=some (.jb t aw)/\vt t y/\g_ aw y=some d/\Q d M
def Ue:eU:=λ x y M Q=>Qj x y M Q\/Ul x y M Q
theorem Cb(hu:X.A.units+64 < cLine):UE X Ue:=by
 obtain⟨r,h1,h2⟩:=(L3.bA:UE X Qj);refine⟨_,h1.or (Pz hu),λ x y d e H M Q2 Q hd he hm q k=>?_⟩;rcases q with q|⟨a,t,aw,w,rfl,hM,ok,hl,q⟩
 ·exact .inl (h2 x y d e H M Q2 Q hd he hm q k)
 ·cases(aO.mp hd);have hr:=hm a _ hM;cases t with
  |false=>obtain⟨xs,hx,rel⟩:=hr;obtain⟨kk,rfl⟩:=ok;have hv:=rel.look kk;rw[hl]at hv;obtain⟨v,e1,e2⟩:=hv.some_of;rw[rL he];exact .inr (.inl ⟨a,v,rfl,by rw[<- e1];exact oY.k hx,k _ H _ M e2 hm (ao.refl H) q⟩)
  |true=>obtain⟨xs,hx,rel⟩:=hr;obtain⟨ks,rfl,nH⟩:=ok;have hv:=rel.look (.t ks);rw[hl]at hv;obtain⟨v,e1,e2⟩:=hv.some_of;obtain⟨b,rfl⟩:=qt he;exact .inr (.inr ⟨a,b,xs,_,v,rfl,rfl,rel.keys hx,nH,nU _ he,e1,k _ H _ M e2 hm (ao.refl H) q⟩)
def Uj:jO:=λ o i v M N=>∃a t aw,o=.ref a/\M a=some (.jb t aw)/\vt t i/\aw.length < sizeLine/\N (ay M a (.jb t (putD aw i v)))
def LY:jO:=λ o i v M N=>KL o i v M N\/Uj o i v M N
theorem sg.or {t u:BD}(h:sg X t)(g:sg X u):sg X (λ o i v H Q=>t o i v H Q\/u o i v H Q):=by
 intro pins s σ H o i v ov iv uu Q I ro ri rv q;rcases q with q|q
 ·exact h pins s σ H o i v ov iv uu Q I ro ri rv q
 ·exact g pins s σ H o i v ov iv uu Q I ro ri rv q
theorem MN(hu:X.A.units+64 < cLine):Gp X LY:=by
 obtain⟨r,h1,h2⟩:=(kz:Gp X KL);refine⟨_,sg.or h1 (Hq hu),λ o i v d j e H M Q2 Q hd hj he hm q k=>?_⟩;rcases q with q|⟨a,t,aw,rfl,hM,ok,hl,q⟩
 ·exact .inl (h2 o i v d j e H M Q2 Q hd hj he hm q k)
 ·cases(aO.mp hd);have hr:=hm a _ hM;cases t with
  |false=>obtain⟨xs,hx,rel⟩:=hr;obtain⟨kk,rfl⟩:=ok;rw[rL hj];have t:=ao.mut (o:=.dK (putK xs kk v)) hx (λ _ z=>by cases z) (λ _ _ z=>by cases z);refine .inr (.inl ⟨a,_,rfl,Gv.k hx (by rw[<- G9 rel];exact hl),k _ _ (hm.put (u:=.jb false (putD aw (oF kk) e)) t ⟨_,aJ,(rel.put kk he).mono t⟩) t q⟩)
  |true=>obtain⟨xs,hx,rel⟩:=hr;obtain⟨ks,rfl,nH⟩:=ok;obtain⟨b,rfl⟩:=qt hj;have t:=ao.mut (o:=Bf a (oB xs (.t ks) b v)) hx (λ _ z=>by cases z) (λ _ _ z=>by cases z);refine .inr (.inr ⟨a,b,xs,_,rfl,rfl,rel.keys hx,nH,nU _ hj,by rw[<- G9 rel];exact hl,k _ _ (hm.put (u:=.jb true (putD aw (pQ (.t ks)) e)) t ⟨_,aJ,(rel.put (.t ks) nH hj he).mono t⟩) t q⟩)
def LZ:List D->Mem->bF->Prop:=λ xs M Q=>uU xs M Q\/∃a t aw,xs=[.ref a]/\M a=some (.jb t aw)/\Q (.int (aw.length:Nat)) M
theorem Qp:dr X (.builtin "len") LZ:=by
 obtain⟨r,h1,h2⟩:=(L3.dq:dr X (.builtin "len") uU);refine⟨_,h1.or xE,λ xs ds H M Q2 Q hd hm q k=>?_⟩;rcases q with q|⟨a,t,aw,rfl,hM,q⟩
 ·exact .inl (h2 xs ds H M Q2 Q hd hm q k)
 ·obtain⟨x,r,rfl,hx,hr⟩:=ag.mp hd;cases(aq.mp hr);cases(aO.mp hx);have hr:=hm a _ hM;cases t with
  |false=>obtain⟨xs,hx,rel⟩:=hr;exact .inr ⟨a,rfl,.inl ⟨xs,hx,by rw[<- G9 rel];exact k _ H _ M (aB.mpr rfl) hm (ao.refl H) q⟩⟩
  |true=>obtain⟨xs,hx,rel⟩:=hr;exact .inr ⟨a,rfl,.inr ⟨xs,hx,by rw[<- G9 rel];exact k _ H _ M (aB.mpr rfl) hm (ao.refl H) q⟩⟩
def Lx(t:Bool):bX:=λ _ M Q=>∀p,M p=none->Q (.ref p) (ay M p (.jb t []))
theorem Og(t:Bool){pos:Pos}:QE X (.Dict [] [] pos) (Lx t):=by
 cases t with
 |false=>refine bL DS λ σ H Q ⟨δ,M,Q2,hs,hm,q,k⟩ p hp=>?_;exact k _ _ (.ref p) _ (aO.mpr rfl) (hm.put (u:=.jb false []) (ao.laid hp) ⟨[],aJ,.nil⟩) (ao.laid hp) (q p (hm.free hp))
 |true=>refine bL DT λ σ H Q ⟨δ,M,Q2,hs,hm,q,k⟩ p hp=>?_;exact k _ _ (.ref p) _ (aO.mpr rfl) (hm.put (u:=.jb true []) (ao.laid hp) ⟨[],aJ,.nil⟩) (ao.laid hp) (q p (hm.free hp))
end
end L3
namespace L4
open PySem PySem.Spec L2 L3 L5
theorem Mr{X:Cx}(t:Bool){pos:Pos}:WE X (.Dict [] [] pos) (Lx t):=⟨Og t⟩
end L4
namespace L3
open PySem PySem.Spec L2 L5 PyProof.Rows
section
variable {Q:bF}{M:Mem}{a:Addr}{aw:List (D×D)}{x y v d:D}{t:Bool}{N:Mem->Prop}{xs:List D}
theorem Ny(h:M a=some (.jb t aw))(hk:vt t x)(q:Q (.bl (g_ aw x).isSome) M):Uh x (.ref a) M Q:=.inr ⟨a,t,aw,rfl,h,hk,q⟩
theorem qJ(h:Qj x y M Q):Ue x y M Q:=.inl h
theorem HF(h:M a=some (.jb t aw))(hk:vt t x)(hl:aw.length < sizeLine)(q:N (ay M a (.jb t (putD aw x v)))):LY (.ref a) x v M N:=.inr ⟨a,t,aw,rfl,h,hk,hl,q⟩
theorem Df(h:uU xs M Q):LZ xs M Q:=.inl h
end
end L3
namespace KK
open PySem L3 L4 L5
open L2 hiding bA qD
abbrev Row:=List Int
def UL(a b:Row):Prop:=klt (eV b) (eV a)=false
theorem DV{rs:List Row}{outD:List D}(h:Out (λ i j=>klt (eV (rs.getD i [])) (eV (rs.getD j []))) (rs.map row) D.bu outD):∃out:List Row,outD=out.map row/\out.Perm rs/\out.Pairwise UL:=by
 obtain⟨p,p1,p2,rfl⟩:=h;rw[D3]at p1 p2;have Kn:∀i∈p.toList,i < rs.length:=λ i hi=>by have:=(Array.Perm.mem_iff p1 (a:=i)).mp (by simpa using hi);simpa using this
 refine⟨p.toList.map λ i=>rs.getD i [],?_,?_,?_⟩
 ·rw[K4];refine r9 λ i hi=>?_;have:=Kn i hi;simp[c7,this]
 ·have q:p.toList.Perm (List.range rs.length):=by have:=Array.perm_iff_toList_perm.mp p1;simpa using this
  have q2:=q.map λ i=>rs.getD i [];have e:(List.range rs.length).map (λ i=>rs.getD i [])=rs:=by
   apply ext_getElem?;intro i;by_cases hi:i < rs.length
   ·simp[hi,c7]
   ·simp[hi]
  rw[e]at q2;exact q2
 ·rw[pairwise_map,pairwise_iff_getElem];intro i j hi hj oK;have hz:=p1.size;have Vv:j < rs.length:=by rw[<- hz];simpa using hj
  have:=p2 i j (L7 oK) Vv;have g:∀k (hk:k < p.toList.length),pg p k=p.toList[k]:=λ k hk=>by
   rw[ju];have vD:k < p.size:=by simpa using hk
   simp[vD]
  rw[g i hi,g j hj]at this;exact this
end KK
namespace KK
open PySem L3 L4 L5
open L2 hiding bA qD
theorem bZ{M:Mem}{p q:Addr}{x:MO}(h:M p=some x)(g:M q=none):p≠q:=λ z=>by subst z;rw[h]at g;cases g
end KK
namespace KK
open PySem L3 L4 L5
open L2 hiding bA qD
def dB(a:Addr)(i:Nat)(M:Mem)(qs:List Addr):Prop:=∀q∈qs,q≠a/\∃hs:List Int,M q=some (.lst (hs.map D.int))/\hs.length<=4/\∀x∈hs,0<=x/\x < (i:Int)
section
variable {a c p q:Addr}{i:Nat}{M M':Mem}{qs:List Addr}{o:MO}
theorem dB.nil:dB a i M []:=λ q h=>by cases h
theorem dB.keep (h:dB a i M qs)(k:∀b o,b≠a->M b=some o->M' b=some o):dB a i M' qs:=λ q hq=>by obtain⟨h1,hs,h2,h3⟩:=h q hq;exact⟨h1,hs,k q _ h1 h2,h3⟩
theorem dB.new (h:dB a i M qs)(hp:M p=none):dB a i (ay M p o) qs:=h.keep λ b u _ e=>by rw[aD (bZ e hp)];exact e
theorem dB.ne (h:dB a i M qs)(hp:M p=some (.lst (qs.map D.ref))):∀q∈qs,q≠p:=λ q hq z=>by
 subst z;obtain⟨_,hs,h2,_⟩:=h q hq;rw[hp]at h2;have e:qs.map D.ref=hs.map D.int:=by injection h2 with e;injection e
 have:D.ref q∈qs.map D.ref:=K3.mpr ⟨q,hq,rfl⟩;rw[e]at this;obtain⟨x,_,e2⟩:=K3.mp this;cases e2
theorem dB.put (h:dB a i M qs)(hp:M p=some (.lst (qs.map D.ref))):dB a i (ay M p o) qs:=λ q hq=>by obtain⟨h1,hs,h2,h3⟩:=h q hq;exact⟨h1,hs,by rw[aD (h.ne hp q hq)];exact h2,h3⟩
theorem dB.add (h:dB a i M qs)(Fe:q≠a){hs:List Int}(hq:M q=some (.lst (hs.map D.int)))(hl:hs.length<=4)(hx:∀x∈hs,0<=x/\x < (i:Int)):dB a i M (qs++[q]):=λ b hb=>by
 rcases D4.mp hb with z|z
 ·exact h b z
 ·rw[w5.mp z];exact⟨Fe,hs,hq,hl,hx⟩
theorem dB.take (h:dB a i M qs)(n:Nat):dB a i M (qs.take n):=λ b hb=>h b (m8 hb)
end
theorem DX{hs:List Int}{n i:Nat}(hl:hs.length<=4)(hx:∀x∈hs,0<=x/\x < (i:Int)):dC n i (lE hs n):=by refine⟨F_ _ _,FY,?_,FZ λ x h=>(hx x h).2⟩;have:=F' (ns:=hs) (n:=n);omega
theorem dC.mono {n i j:Nat}{r:Row}(h:dC n i r)(oK:i<=j):dC n j r:=⟨h.len,h.pos,h.sum,λ k hk=>h.low k (by omega)⟩
end KK
namespace KK
open PySem L3 L4 L5
open L2 hiding bA qD
theorem RJ{α:Type}{ds:List α}{X:Prop}(h:ds.length<=16)(q:X):ds.length<=sizeLine/\X:=⟨K5 h (by decide),q⟩
theorem tE{M:Mem}{Q:bF}(q:Q (.bl true) M):Bl false .bu .bu M Q:=q
theorem Kx{P:Program}{w:World}{K:O8}{mg:Str->Option Value}{base:Heap}{k:Nat}{f:Addr}{fd:FuncData}{ps:List Str}{sp:gL}(h:∀ds M Q,¬sp ds M Q):bx P w K mg base eS k f fd ps (cI K sp):=
 ⟨λ _ _ _ _ ⟨ds,M,Q,_,_,q,_⟩=>absurd q (h ds M Q),λ _ _ _ _ _ _ _ _ _ _ _ _ _ ⟨ds,M,Q,_,_,q,_⟩=>absurd q (h ds M Q)⟩
def Yj:D->Prop
 | .bu=>True| .bl _=>True| .int _=>True| .str _=>True|_=>False
def vq(M:Mem):Nat->D->D->Prop
 |0,_,_=>False
 |k+1,x,y=>(x=y/\Yj x)\/(∃ds es,x=.tup ds/\y=.tup es/\ds.length=es.length/\ds.length<=10000/\∀(i:Nat) (d e:D),ds[i]?=some d->es[i]?=some e->vq M k d e)\/
  ∃p q ds es,x=.ref p/\y=.ref q/\M p=some (.lst ds)/\M q=some (.lst es)/\ds.length=es.length/\ds.length<=10000/\∀(i:Nat) (d e:D),ds[i]?=some d->es[i]?=some e->vq M k d e
theorem CF(M:Mem)(k:Nat){r:List Int}(h:r.length<=10000):vq M (k+2) (row r) (row r):=
 .inr (.inl ⟨_,_,rfl,rfl,rfl,by rw[D3];exact h,λ i d e hd he=>by
  rw[hd]at he;cases he;obtain⟨x,_,rfl⟩:=K3.mp (l8 hd);exact .inl ⟨rfl,True.intro⟩⟩)
theorem jl{M:Mem}{k:Nat}{ds:List D}(hl:ds.length<=10000)(h:∀d∈ds,vq M k d d):vq M (k+1) (.tup ds) (.tup ds):=
 .inr (.inl ⟨ds,ds,rfl,rfl,rfl,hl,λ i d e hd he=>by
  rw[hd]at he;cases he;exact h d (l8 hd)⟩)
def Cz(k:Nat):gL:=λ ds M Q=>∃x y,ds=[x,y]/\vq M k x y/\Q (.bl true) M
theorem Hl:∀ds M Q,¬Cz 0 ds M Q:=λ ds M Q ⟨_,_,_,h,_⟩=>h
end KK
namespace L2
open PySem PySem.Spec PyProof.Rows
theorem pI(f:Array Value->Array Value)(o:Obj):(Obj.mapFields f o).dict=o.dict:=by unfold Obj.mapFields;split <;> rfl
def Yd(h:Heap)(e:Addr)(c:Value)(dx:Option Addr)(T:Addr):Prop:=
 ∃oe vs oT ts,h.get? e=some oe/\oe.cls=c/\oe.dict=dx/\oe.data=.fields vs/\vs[1]?=some (.ref T)/\T≠e/\h.get? T=some oT/\oT.data=.fields ts/\ts[3]?=some .none
structure Yi(B:Heap)(l:List Env)(e:Addr)(c:Value)(dx:Option Addr)(h h':Heap):Prop where
 eh:B.StaysIn h'
 fr:h'.FunFrames B l
 tr:Yd h' e c dx h.objs.size
 sl:∀b o,h.get? b=some o->(∀vs,o.data≠.fields vs)->∃z,h'.get? b=some {o with slots:=z}
section
variable {M:Model}{A:Around}{E:Value->Shared->Prop}{s:Shared}{B:Heap}{env:Env}{outer:List Env}{L e:Addr}{oe:Obj}{vs:Array Value}
theorem Ek{hd:Value}{hn:Bool}{Q:Unit->Shared->Prop}(Kp:A.frames=some (env::outer))(hl:s.heap.FunFrames B (env::outer))(hf:env.frame=some L) (he:s.heap.get? e=some oe) (kB:B.StaysIn s.heap) (nB:B.get? e=none) (dv:oe.data=.fields vs) (sz:1 < vs.size) (q:∀h',Yi B (env::outer) e oe.cls oe.dict s.heap h'->Q () {s with heap:=h'}):wpAny M A (do let a <- frameOf env;let p <- entryPlaceOf L hn;let b <- EntryCells.newEntry hd a .none (rawInt L) .none p;setField (.ref e) 1 b) (λ _ s'=>wpAny M A (setFlight (.ref e) none) Q E s') E s:=by
 have eF:e∉(env::outer).filterMap (·.frame):=λ z=>by obtain⟨_,o,ho,w⟩:=hl.mem z;rw[he]at ho;cases ho;exact w vs dv
 refine N6 (wpAny_frameOf_fun Kp hl hf λ g hg=>N6 (wpAny_entryPlaceOf λ pl hpl=>?_));unfold EntryCells.newEntry newFields;refine N6 (y4 ?_ (hpl.sizeOk5 _ _ _ _ _));have e1:g.get? e=some oe:=(hg.2.1 e eF).trans he;have k1:B.StaysIn g:=λ b o z=>(hg.2.1 b λ y=>by rw[(hl.mem y).1]at z;cases z).trans (kB b o z);generalize hT:({cls:=.type "traceback",dict:=none,data:=.fields ([hd,.ref L,.none,rawInt L,.none]++(if pl.isEmpty then List.replicate 6 Value.none else pl)).toArray}:Obj)=nt;have dT:nt.data=.fields ([hd,.ref L,.none,rawInt L,.none]++(if pl.isEmpty then List.replicate 6 Value.none else pl)).toArray:=by rw[<- hT]
 have e2:=j7 (h:=g) nt e1;refine G6 e2 dv sz ?_;have ne:g.objs.size≠e:=L6 (K2 e1);have d3:=x4 dv (·.setIfInBounds 1 (Value.ref g.objs.size));have e3:=k7 (Obj.mapFields (·.setIfInBounds 1 (Value.ref g.objs.size))) e2 (l6 d3);have fN:nt.isFreed=false:=l6 dT;have t3:=(j8 (g.push nt) (Obj.mapFields (·.setIfInBounds 1 (Value.ref g.objs.size))) ne.symm).trans (q8 g fN);unfold setFlight;refine N6 (N4 e3 d3 (x:=.ref g.objs.size) (by simp[sz]) ?_);rw[O6 (show(Value.ref g.objs.size != Value.none)=true from by simp)];refine G6 t3 dT (by simp only[z9,u4,A5,length_nil] <;> omega) (q _ ?_);have kp:∀b o,b≠e->g.get? b=some o->(((g.push nt).update e (Obj.mapFields (·.setIfInBounds 1 (Value.ref g.objs.size)))).update g.objs.size (Obj.mapFields (·.setIfInBounds 3 ((none:Option Addr).elim Value.none λ f=>rawInt f)))).get? b=some o:=λ b o y z=>by rw[j8 _ _ (L6 (K2 z)),j8 _ _ y.symm];exact j7 _ z
 have nr:∀b o,s.heap.get? b=some o->(∀vs,o.data≠.fields vs)->b≠e:=λ b o z w y=>by rw[y,he]at z;cases z;exact w vs dv
 refine⟨λ b o z=>kp b o (λ y=>by rw[y,nB]at z;cases z) (k1 b o z),hl.of_keeps λ b o z w=>?_,?_,λ b o z w=>?_⟩
 ·obtain⟨sl,y⟩:=hg.2.2 b o z;exact⟨_,kp b _ (nr b o z w) y,rfl⟩
 ·rw[<- hg.1];refine⟨_,_,_,_,?_,Obj.cls_mapFields _ _,pI _ _,d3,by simp[sz],ne,k7 _ t3 (l6 (x4 dT _)),x4 dT _,by first|(simp;done)|(rcases hpl with rfl|⟨_,_,_,_,_,_,_,rfl⟩ <;> simp)⟩;rw[j8 _ _ ne];exact e3
 ·obtain⟨sl,y⟩:=hg.2.2 b o z;exact⟨sl,kp b _ (nr b o z w) y⟩
end
def oj(P:Program)(w:World):BR:=λ outer H s E e s'=>∃(a:Addr) (c:Value) (dx:Option Addr) (T:Addr) (H':Hp),e=.ref a/\s'.os=s.os/\AllBare s'.gens/\Un (iI outer) [] H H' s.heap s'.heap/\f_ P w H' s'.heap/\
 s.heap.objs.size<=a/\s.heap.objs.size<=T/\H' a=none/\H' T=none/\Yd s'.heap a c dx T/\E c dx H'
end L2
namespace L2
open PySem PySem.Spec PyProof.Rows
section
variable {prog:Program}{w:World}{A:Around}{E:Value->Shared->Prop}{h:Heap}{g:Array GenState}{d:Drawn}{t:Nat}{os:OsState}
variable {nm q:Str}{C N:Addr}{bs bm La:List Value}{hdct:Bool}{sn:List Str}{sub:List Value}{ab:Bool}{col:Option Bool}{dd:Option Addr}{k0 k1 k2 k3 k5:Option Value}{B Bn newId Vg nz YG:String}{Zu:List Value}
theorem vX(Fn:ExcBaseFacts Bn newId YG Zu)(VA:La.contains (.type Bn)=true)(F:ExcBaseFacts B Vg nz La)(T:OwnTail h La bm){mN:Str->Option Value}{rest:List Value}{fI:Addr}{oI:Obj}{Q:Fin->Shared->Prop} (cl:h.get? C=some (excClassObj nm q C N bs bm hdct sn sub ab col dd k0 k1 k2 k3 k5 newId)) (ns:h.Ns N mN) (WU:mN "__init__"=some (.ref fI)) (fo:h.get? fI=some oI) (fc:oI.cls=.type "function") (k:∀h' e,h.objs.size<=e->Heap.MadeExcOf h h' e (.ref C) rest->wpAny (model prog w) A (call (.ref fI) (.ref e::rest)) (λ r s'=>r=.none/\Q (.done (.ret (.ref e))) s') E ⟨h',g,d,t,os⟩) (gE:rest.length<=sizeLine):wpAny (model prog w) A (Builtin.«type.__call__» ⟨.ref C::rest,[]⟩) Q E ⟨h,g,d,t,os⟩:=by
 repeat(first|with_reducible refine A0 cl ?_|with_reducible refine wpAny_madeBy_exc cl ?_|wp_step)
 refine codeAny_call_builtin_code (Code.quiet_builtin _ Fn.quiet) (wpAny_check_new_subU Fn VA T cl (codeAny_exc_new_subU Fn VA F T cl ?_ gE));show wpAny _ _ _ _ _ _;generalize XM:(h.push {cls:=.type "tuple",data:=.seq rest.toArray}).push {cls:=.ref C,data:=.fields #[.ref h.objs.size,.none,.none,.none,.bool false,.none]}=h1;have kp:∀b o,h.get? b=some o->h1.get? b=some o:=λ b o z=>by rw[<- XM];exact j7 _ (j7 _ z)
 have ge:h1.get? (h.objs.size+1)=some {cls:=.ref C,data:=.fields #[.ref h.objs.size,.none,.none,.none,.bool false,.none]}:=by rw[<- XM];heap_get
 have gt:h1.get? h.objs.size=some {cls:=.type "tuple",data:=.seq rest.toArray}:=by rw[<- XM];exact j7 _ (Heap.get?_push_at rfl rfl)
 have Zs:=kp _ _ cl;have Z9:h1.Ns N mN:=ns.keeps kp;have fo1:=kp _ _ fo;have T1:=T.keeps kp;have cc:(Value.ref C::bm).contains (.ref C)=true:=by simp
 unfold isInstance
 repeat(first|with_reducible refine A0 ge ?_|(with_reducible refine r6 Zs ?_;rw[cc])|wp_step)
 show wpAny _ _ (typeLookup (.ref C) _) _ _ _;refine wpAny_typeLookup_tail Zs Z9 T1 F.mroIs F.init.lookup ?_;rw[WU];refine G7 (N6 ?_);unfold bindSpecial;refine N6 (K8 (T:="function") ⟨_,fo1,fc⟩ ?_);rw[O6 (by decide)];refine N7 (N6 (O0 (k h1 (h.objs.size+1) (Nat.le_succ _) ⟨kp,Heap.get?_none_of_le (Nat.le_succ _),h.objs.size,ge,Heap.get?_none_of_le (L8 _),gt⟩) (λ r s' hr=>?_) λ _ _ x=>x));obtain⟨rfl,z⟩:=hr
 wp_walk
 exact z
theorem Bv(Fn:ExcBaseFacts Bn newId YG Zu)(VA:La.contains (.type Bn)=true)(F:ExcBaseFacts B Vg nz La)(T:OwnTail h La bm){mN:Str->Option Value}{rest:List Value}{fI:Addr}{oI:Obj}{Q:Value->Shared->Prop} (cl:h.get? C=some (excClassObj nm q C N bs bm hdct sn sub ab col dd k0 k1 k2 k3 k5 newId)) (ns:h.Ns N mN) (WU:mN "__init__"=some (.ref fI)) (fo:h.get? fI=some oI) (fc:oI.cls=.type "function") (k:∀h' e,h.objs.size<=e->Heap.MadeExcOf h h' e (.ref C) rest->wpAny (model prog w) (A.under (.builtin "type.__call__" ⟨.ref C::rest,[]⟩)) (call (.ref fI) (.ref e::rest)) (λ r s'=>r=.none/\Q (.ref e) s') E ⟨h',g,d,t,os⟩) (gE:rest.length<=sizeLine):wpAny (model prog w) A (call (.ref C) rest) Q E ⟨h,g,d,t,os⟩:=by
 have f1:=tc_lookup;have f2:=tc_bind (.ref C);have ty:(⟨h,g,d,t,os⟩:Shared).TypeIs (.ref C) "type":=⟨_,cl,rfl⟩;refine O1 (codeAny_of_tree ?_);show wpAny _ _ (callAny (.ref C) _) _ _ _
 repeat(any_goals (first|assumption|with_reducible refine A0 cl ?_|wp_step))
 refine⟨rfl,codeAny_call_builtin_at (Code.quiet_builtin _ (by decide+kernel)) entry_typeCall (wpAny_check_type_call_sub cl (vX Fn VA F T cl ns WU fo fc (λ h' e le m=>?_) gE))⟩;exact k h' e le m
end
section
variable {M:Model}{A:Around}{E:Value->Shared->Prop}{env:Env}{nm q:Str}{C N:Addr}{bs bm:List Value}{hdct:Bool}{sn:List Str}{sub:List Value}{ab:Bool}{col:Option Bool}{dd:Option Addr}{k0 k1 k2 k3 k5:Option Value}{newId:String}
theorem wx{s:Shared}{x:Sem Value}{Q:Flow->Shared->Prop}(hb:bm.contains (.type "BaseException")=true)(hh:A.handled=none) (k:wpAny M A x (λ v s1=>∃e oe vs,v=.ref e/\s1.heap.get? C=some (excClassObj nm q C N bs bm hdct sn sub ab col dd k0 k1 k2 k3 k5 newId)/\s1.heap.get? e=some oe/\oe.cls=.ref C/\oe.data=.fields vs/\vs[1]?=some .none/\E (.ref e) s1) E s):wpAny M A (raiseStmt env (some x) none) Q E s:=by
 have hc:(Value.ref C::bm).contains (.type "BaseException")=true:=by rw[contains_cons,hb,Bool.or_true]
 unfold raiseStmt;refine N6 (O0 k (λ v s1 z=>?_) λ _ _ x=>x);obtain⟨e,⟨oc,od,da,sl⟩,vs,rfl,cl,he,rfl,rfl,h1,z⟩:=z;obtain⟨hp,g,d,tk,os⟩:=s1
 repeat(first|with_reducible refine A0 he ?_|with_reducible refine A0 cl ?_|(with_reducible refine r6 cl ?_;rw[hc])|wp_step)
 rw[h1];refine N7 ?_;rw[O7 (by decide)];exact N7 (wpAny_raiseNew_none hh z)
end
end L2
namespace L2
open PySem PySem.Spec PyProof.Rows
section
variable {prog:Program}{w:World}{A:Around}{E:Value->Shared->Prop}{h:Heap}{g:Array GenState}{d:Drawn}{t:Nat}{os:OsState}
variable {nm q:Str}{C N:Addr}{bs bm La:List Value}{hdct:Bool}{sn:List Str}{sub:List Value}{ab:Bool}{col:Option Bool}{dd:Option Addr}{k0 k1 k2 k3 k5:Option Value}{B newId Vg nz:String}
theorem Ut(F:ExcBaseFacts B Vg nz La)(T:OwnTail h La bm){e t0:Addr}{us:List Value}{Q:Value->Shared->Prop} (cl:h.get? C=some (excClassObj nm q C N bs bm hdct sn sub ab col dd k0 k1 k2 k3 k5 newId)) (he:h.get? e=some {cls:=.ref C,data:=.fields #[.ref t0,.none,.none,.none,.bool false,.none]}) (gE:us.length<=sizeLine) (k:∀h',(∀b o,b≠e->h.get? b=some o->h'.get? b=some o)->h'.get? e=some {cls:=.ref C,data:=.fields #[.ref h.objs.size,.none,.none,.none,.bool false,.none]}->Q .none ⟨h',g,d,t,os⟩):wpAny (model prog w) A (call (.builtin nz) (.ref e::us)) Q E ⟨h,g,d,t,os⟩:=by
 refine O1 (m9 F.init.plain F.initEntry (wpAny_check_init_subU F T cl he rfl ?_))
 wp_walk
 refine k _ (λ b o ne z=>?_) ?_
 ·rw[j8 _ _ ne.symm];exact j7 _ z
 ·rw[k7 _ (j7 _ he) rfl];rfl
end
end L2
namespace L2
open PySem PySem.Spec PyProof.Rows Builtin Builtin.ObjectAttr
section
variable {prog:Program}{w:World}{A:Around}{E:Value->Shared->Prop}{K:O8}{h:Heap}{g:Array GenState}{d:Drawn}{t:Nat}{os:OsState}{C x:Addr}{cd:ClassData}{mA:Str->Option Value}{name:Str}{v:Value}
theorem BX{Q:Unit->Shared->Prop}{ns:List Str}(X:K.In h)(hc:PySem.W.clsIn K C=some cd)(hp:∀self:Value,refuseLoop self "__setattr__" cd.mro=pure ())(ho:cd.mro.contains (.type "object")=true)(hdct:cd.hasDict=true) (hs:PySem.W.findIn K (.ref C) "__setattr__"=some (some (.builtin "object.__setattr__"))) (hn:PySem.W.findIn K (.ref C) name=some none) (I:h.Inst x C mA) (k:∀h' vy,h'.Inst x C (λ y=>if y=name then some v else mA y)->
   (∀b o,b≠x->(∀o0 dx,h.get? x=some o0->o0.dict=some dx->b≠dx)->h.get? b=some o->h'.get? b=some o)->
   (∀o0,h.get? x=some o0->∃o1,h'.get? x=some o1/\o1.cls=o0.cls/\o1.data=o0.data/\o1.slots=o0.slots/\(∀dx,o0.dict=some dx->o1.dict=some dx)/\(o0.dict=none->o1.dict=some h.objs.size))->Q () ⟨h',g,d,vy,os⟩) (hw:Within mA ns) (hz:ns.length<=1000):
  wpAny (model prog w) A (setAttr (.ref x) name v) Q E ⟨h,g,d,t,os⟩:=by
 have I0:=I;obtain⟨o,hx,LO,nc,dd⟩:=I;have SI:PySem.W.notCls o=true:=by obtain⟨oc,od,da,sl⟩:=o;cases da <;> first|rfl|exact absurd rfl (nc _)
 have IA:∃od,PySem.W.InstAt h x o C od:=by
  rcases dd with⟨dn,_⟩|⟨dx,e,_,od,es,ep,q,_⟩
  ·exact⟨none,hx,LO,SI,by rw[dn];trivial⟩
  ·exact⟨some od,hx,LO,SI,by rw[e];exact q⟩
 obtain⟨od,IA⟩:=IA;have ne:cd.mro.isEmpty=false:=by cases z:cd.mro with|nil=>rw[z]at ho;cases ho|cons _ _=>rfl
 have SF:=PySem.F.store_object;refine PySem.W.set_plain (s:=⟨h,g,d,t,os⟩) X IA hs ?_;have sub:PySem.W.Looks (model prog w) h (isInstance (.ref x) (.type "object")) true:=IA.type.andThen (PySem.W.looks_mroIn X (by unfold PySem.W.mroIn;rw[hc,Option.bind_some,O7 (by rw[ne];decide),ho]));refine m9 SF.slot.plain SF.entry (@PySem.W.check_slot (model prog w) _ _ ⟨h,g,d,t+1,os⟩ "object.__setattr__" "object" "__setattr__" (.ref x) [.str name t,v] [] _ SF.kind SF.split sub (SF.args (.ref x) (.str name t) v) ?_);have hm:PySem.W.Looks (model prog w) h (mroOf (.ref C)) cd.mro:=(PySem.W.looks_clsIn X hc).andThen .now;rw[PySem.W.osa_eq,refuse_eq];refine N6 (N6 (IA.type.here (N6 (hm.here ?_))));rw[hp];refine N7 (N6 (IA.type.here (N6 ((PySem.W.looks_findIn X hn).here (N6 (N7 ?_))))));obtain⟨oc,odi,Ve,Aj⟩:=o;dsimp only at LO nc dd;subst LO;refine N6 (N7 (N6 (N6 (wpAny_loadPart hx (N6 ((PySem.W.looks_clsIn X hc).here ?_))))));rw[hdct];rcases dd with⟨rfl,hmA⟩|⟨dx,rfl,fW,Q4⟩
 ·rw[O7 (by decide)];dsimp only;rw[O7 (by simp[typeHasDict])];have nx:x≠h.objs.size:=K1 (K2 hx);have YK:(h.push {cls:=.type "dict",data:=.dict #[]}).get? x=some {cls:=.ref C,data:=Ve,slots:=Aj}:=j7 _ hx;generalize ja:((h.push {cls:=.type "dict",data:=.dict #[]}).update x λ o=>{cls:=o.cls,dict:=some h.objs.size,data:=o.data,slots:=o.slots})=h2;have gd:h2.get? h.objs.size=some {cls:=.type "dict",data:=.dict #[]}:=by rw[<- ja];exact(Heap.get?_update_ne _ _ _ _ nx.symm).trans (Heap.get?_push_at rfl rfl)
  have nd:h2.Ns h.objs.size (λ _=>none):=⟨_,#[],_,gd,rfl,λ e he=>absurd he (by simp),λ _=>rfl⟩;have gx:h2.get? x=some {cls:=.ref C,dict:=some h.objs.size,data:=Ve,slots:=Aj}:=by rw[<- ja];refine k7 _ YK ?_;have fr:=(Heap.get?_some_iff.mp hx).2;cases Ve <;> first|rfl|exact fr
  have ot:∀b ob,b≠x->h.get? b=some ob->h2.get? b=some ob:=λ b ob nb z=>by rw[<- ja];exact(Heap.get?_update_ne _ _ _ _ nb).trans (j7 _ z)
  have fin:wpAny (model prog w) A.in1 (storeInDict h.objs.size (.str name t) name v) (λ fin s'=>match fin with| .done f=>(match(Except.ok f:Result)with| .ok (.ret _)=>Q () s'| .ok _=>False| .error e=>E e s')| .again c'=>c'.quiet=true/\codeAny (model prog w) A c' (λ r s'=>match r with| .ok (.ret _)=>Q () s'| .ok _=>False| .error e=>E e s') s') (λ e s'=>E e s') ⟨h2,g,d,t+1,os⟩:=by
   unfold storeInDict newKeyGuard;refine N6 (N7 (N6 (wpAny_nsSet1 (Heap.Ns1.of_empty nd) λ h' Km Q1=>?_)));obtain⟨oD,esD,epD,q1,q2,q3⟩:=Km.count (Within.cons name v Within.nil);refine N6 (wpAny_lookBehind q1 (by rw[q2];exact pastItsLine_dict (K5 q3 (by rw[A5,length_nil,L9];omega))) ?_)
   wp_walk
   have Kh:h'.get? x=some {cls:=.ref C,dict:=some h.objs.size,data:=Ve,slots:=Aj}:=(Q1.2 x nx).trans gx;refine k h' _ ⟨_,Kh,rfl,nc,.inr ⟨h.objs.size,rfl,nx.symm,?_⟩⟩ (λ b ob nb _ z=>?_) (λ o0 z=>?_)
   ·obtain⟨o',es,ep,e1,e2,e3,eu,e4⟩:=Km;exact⟨o',es,ep,e1,e2,e3,eu,λ y=>by rw[e4 y];by_cases hy:y=name <;> simp[hy,hmA]⟩
   ·exact(Q1.2 b (K1 (K2 z))).trans (ot b ob nb z)
   ·cases(C6 (hx.symm.trans z));exact⟨_,Kh,rfl,rfl,rfl,(λ dx e=>by cases e),λ _=>rfl⟩
  split
  ·exact absurd rfl (nc _)
  ·refine N6 (wpAny_alloc' (N6 (wpAny_update' YK ?_)));rw[ja];exact N7 (a:=some h.objs.size) fin
 ·refine N7 (a:=some dx) (N6 (N7 (N6 (wpAny_nsSet1 Q4 λ h' Km Q1=>?_))));obtain⟨oD,esD,epD,q1,q2,q3⟩:=Km.count (Within.cons name v hw);refine N6 (wpAny_lookBehind q1 (by rw[q2];exact pastItsLine_dict (K5 q3 (by rw[A5,L9];omega))) ?_)
  wp_walk
  refine k h' _ ⟨_,(Q1.2 x fW.symm).trans hx,rfl,nc,.inr ⟨dx,rfl,fW,Km⟩⟩ (λ b ob _ nb z=>?_) (λ o0 z=>⟨o0,(Q1.2 x fW.symm).trans z,rfl,rfl,rfl,(λ _ e=>e),λ e=>by cases(C6 (hx.symm.trans z));cases e⟩);exact(Q1.2 b (nb _ dx hx rfl)).trans z
end
end L2
namespace L2
open PySem PySem.Spec PyProof.Rows
abbrev X':List Value:=[.type "ValueError",.type "Exception",.type "BaseException",.type "object"]
def XO(e C:Addr)(od:Option Addr)(t:Addr):HO:=.ext λ h=>h.get? e=some {cls:=.ref C,dict:=od,data:=.fields #[.ref t,.none,.none,.none,.bool false,.none]}
structure xK(K:O8)(C fI:Addr):Prop where
 ex:∃nm q N bs bm sn sub ab col dd k0 k1 k2 k3 k5,K.lookup C=some (excClassObj nm q C N bs bm true sn sub ab col dd k0 k1 k2 k3 k5 "ValueError.__new__")/\PySem.W.tailIn K X' bm=true/\PySem.W.nsOkIn K N=true/\PySem.W.nsIn K N "__init__"=some (some (.ref fI))
 fn:PySem.W.isFn K (.ref fI)=true
 kp:PySem.W.keepIn K (.ref C)=true
 sa:PySem.W.findIn K (.ref C) "__setattr__"=some (some (.builtin "object.__setattr__"))
structure Mf(K:O8)(C:Addr):Prop where
 ga:PySem.W.specialIn K (.ref C) "__getattribute__"=some (some (.builtin "type.__getattribute__"))
 rd:PySem.W.readsIn K C (.type "type")=true
 fi:PySem.W.findCls K (.ref C) (.type "type") "__init__"=some (.val (.builtin "ValueError.__init__"))
set_option tactic.hygienic true in
theorem wK{K:O8}{h:Heap}{N:Addr}{mg:Str->Option Value}{n:Str}{v:Value}(X:K.In h)(G:h.Ns N mg)(e:PySem.W.nsIn K N n=some (some v)):mg n=some v:=by
 obtain⟨o,es,ep,ho,hd,_,hf⟩:=G;unfold PySem.W.nsIn at e;split at e
 ·rename_i c d LU n' sl q;have z:=X _ _ q;rw[ho]at z;cases z;cases hd;split at e
  ·rename_i en he;rw[<- hf];unfold nsFind findBy;rw[<- Array.find?_toList,he];cases e;rfl
  ·split at e <;> cases e
 ·cases e
theorem tx{h:Heap}{bm:List Value}(T:OwnTail h X' bm)(self:Value):refuseLoop self "__setattr__" bm=pure ():=by
 induction T with
 |base=>exact PySem.F.store_ValueError.passes self
 |own _ _ _ _ ih=>rw[refuseLoop_ref];exact ih
theorem ie{x:V}{xs:List V}{us:List Value}(r:Vals (x::xs) us):∃u ws,us=u::ws/\RelV x u/\Vals xs ws:=by
 cases r with
 |cons a b=>exact⟨_,_,rfl,a,b⟩
section
variable {X:Cx}{pins:List (Addr×Obj)}{σ:St}{H:Hp}{s:Shared}{x m:Str}{p apos pos:Pos}{a:Expr}{as:List Expr}{t:TA}{HC:Addr}
def ZS(K:O8)(t:TA):TE:=λ σ H Q=>t σ H λ vs H1=>∃e C fI t0 us,vs=.ref e::us/\H1 e=some (XO e C none t0)/\xK K C fI/\us.length<=1000/\∀t1,Q .bu (upd H1 e (XO e C none t1))
theorem mT{pl:Sem Bool}(hg:Gl X x)(hm:X.mg x=some (.ref HC))(hb:Mf X.K HC)(ha:PA X (a::as) t)(hdb:(x==("__debug__":Str))=false:=by decide) (hst:starEach (a::as) X.env=(false,eval a X.env)::starEach as X.env:=by rfl) (hpl:(backTo pos (starEach as X.env)).any (·.1)=false:=by rfl) (ht:eval (.Call (.Attribute (.Name x p) "__init__" apos) (a::as) [] pos) X.env=(do
   let ov <- eval (.Name x p) X.env
   standAt apos.atName
   let(f,XR) <- holding [ov] (getMethod ov "__init__" pl)
   callWith pos f XR (backTo pos (starEach (a::as) X.env)) (backToKw pos (keywordEach [] X.env))):=by rfl):
  PE X (.Call (.Attribute (.Name x p) "__init__" apos) (a::as) [] pos) (ZS X.K t):=by
 intro pins s σ H Q I h;refine PySem.W.methodCall_KW (pl:=pl) (e_ I hg hm ?_ hdb) ht;refine PySem.W.method_cls I.gB hb.ga (PySem.W.cls_value (expr:=false) I.gB hb.rd hb.fi rfl ?_);have hA:=ha pos pins _ σ H _ (I.tok (s.toks+1)) h;rw[hst]at hA ⊢;refine Calls.callWith_builtin (by show(false||(backTo pos (starEach as X.env)).any (·.1))=false;rw[hpl] <;> rfl) (Calls.evalArgs_plain (cG hA λ us s2 ⟨vs,H2,I2,r2,q2⟩=>?_));obtain⟨e,C,fI,t0,ws,rfl,he,ec,gE,q⟩:=q2;obtain⟨nm,q0,N,bs,bm,sn,sub,ab,col,dd,k0,k1,k2,k3,k5,cl,tl,no,ni⟩:=ec.ex;obtain⟨u,VO,rfl,ru,rs⟩:=ie r2;obtain rfl:u=Value.ref e:=ru;obtain⟨ho,_,st⟩:=I2.bq e _ he;have hl:VO.length=ws.length:=rs.length.symm;obtain⟨h2,g2,d2,Rn,Wm⟩:=s2;refine Ut c8 (w9 I2.gB tl) (I2.gB _ _ cl) ho (by rw[hl];exact K5 gE (by decide)) λ h' kp hn=>?_;refine⟨.bu,_,I2.write (h':=h') (t':=Rn) (x:=e) (e:=e) (o:=XO e C none h2.objs.size) (by rw[he];trivial) (.inl rfl) (λ b u nb z=>kp b u nb z) ⟨_,hn⟩ ⟨hn,⟨_,hn⟩,λ h1 h2 z w=>w _ z⟩,rfl,q _⟩
def XD(dx:Addr)(fs:List (Str×V)):HO:=.ext λ h=>∃mA,h.Ns1 dx mA/\∀f,gM (fs.lookup f) (mA f)
theorem XD.ok {P:Program}{w:World}{H:Hp}{h:Heap}{dx:Addr}{fs:List (Str×V)}{mA:Str->Option Value}(n:h.Ns1 dx mA)(r:∀f,gM (fs.lookup f) (mA f)):bD P w H h dx (XD dx fs):=by
 refine⟨⟨mA,n,r⟩,?_,?_⟩
 ·obtain⟨o,es,ep,e,_⟩:=n;exact⟨o,e⟩
 ·rintro h1 h2 ⟨m1,⟨o,es,ep,e,z⟩,r1⟩ k;exact⟨m1,⟨o,es,ep,k _ e,z⟩,r1⟩
theorem Un.Lg {fs ex:List Addr}{H H1:Hp}{h h1:Heap}{b0:Addr}{o:HO}(u:Un fs ex H H1 h h1)(hf:h.objs.size<=b0)(hn:H b0=none):Un fs ex H (upd H1 b0 o) h h1 where
 keep:=u.keep
 slot:=u.slot
 free:=λ b ob q n x=>by rw[aA (λ z=>absurd (K2 q) (by rw[z];exact Nat.not_lt.mpr hf))];exact u.free b ob q n x
 there:=u.there
 fE:=λ b xs q=>by rw[aA (λ z=>by rw[z,hn]at q;cases q)];exact u.fE b xs q
 fw:=λ b ob v q=>by rw[aA (λ z=>by rw[z,hn]at q;cases q)];exact u.fw b ob v q
 gc:=λ b ps q=>by rw[aA (λ z=>by rw[z,hn]at q;cases q)];exact u.gc b ps q
theorem f_.Lg {P:Program}{w:World}{H:Hp}{h:Heap}{b0:Addr}{o:HO}(ok:f_ P w H h)(hn:H b0=none)(new:bD P w (upd H b0 o) h b0 o):f_ P w (upd H b0 o) h:=λ b u q=>by
 by_cases e:b=b0
 ·subst e;rw[aJ]at q;cases q;exact new
 ·rw[aA e]at q;refine(ok b u q).eh (λ _ _ _ z=>z) (λ c z=>?_) λ c xs z=>?_
  ·rw[aA (λ y=>by rw[y,hn]at z;cases z)];exact z
  ·rw[aA (λ y=>by rw[y,hn]at z;cases z)];exact z
def ZX(K:O8)(ta tv:TE)(f:Str):TS:=λ D σ H=>tv σ H λ y H1=>ta σ H1 λ v H2=>∃e C fI t0,v=.ref e/\xK K C fI/\PySem.W.findIn K (.ref C) f=some none/\
 ((H2 e=some (XO e C none t0)/\∀dx,H2 dx=none->dx≠e->D.nx σ (upd (upd H2 e (XO e C (some dx) t0)) dx (XD dx [(f,y)])))\/
  ∃dx fs,H2 e=some (XO e C (some dx) t0)/\H2 dx=some (XD dx fs)/\dx≠e/\fs.length<=900/\D.nx σ (upd H2 dx (XD dx ((f,y)::fs))))
theorem pC{f:Str}{y:V}{u:Value}{fs:List (Str×V)}{mA:Str->Option Value}(r:RelV y u)(h:∀n,gM (fs.lookup n) (mA n))(n:Str):gM (((f,y)::fs).lookup n) (if n=f then some u else mA n):=by
 by_cases e:n=f
 ·subst e;rw[O6 rfl];simp only[List.lookup,beq_self_eq_true];exact r
 ·rw[O7 e];simp only[List.lookup,beq_eq_false_iff_ne.mpr e];exact h n
theorem yq{f:Str}{o value:Expr}{ta tv:TE}{pos':Pos}(ho:PE X o ta)(hv:PE X value tv)(hs:swapsWith value (some (.Attribute o f pos')) pos.line X.env=pure false:=by rfl):PS X (.Assign [.Attribute o f pos'] value pos) (ZX X.K ta tv f):=by
 intro pins s σ H D I h;refine plainObj_wpAny_Assign_Attribute (cG (hv pins s σ H _ I h) λ u s1 ⟨y,H1,I1,ry,q⟩=>cG (ho pins s1 σ H1 _ I1 q) λ ov s2 ⟨v,H2,I2,rx,e,C,fI,t0,ev,ec,hn,q2⟩=>?_) hs;subst ev;obtain rfl:ov=Value.ref e:=rx;obtain⟨nm,q0,N,bs,bm,sn,sub,ab,col,dd,k0,k1,k2,k3,k5,cl,tl,no,ni⟩:=ec.ex;obtain⟨hp,g2,d2,Rn,Wm⟩:=s2;have T:=w9 I2.gB tl;have hc:∃cd:ClassData,PySem.W.clsIn X.K C=some cd/\cd.mro=.ref C::bm/\cd.hasDict=true:=by refine⟨_,by unfold PySem.W.clsIn;rw[cl],rfl,rfl⟩
 obtain⟨cd,hc,Te,hdct⟩:=hc;have GI:∀self:Value,refuseLoop self "__setattr__" cd.mro=pure ():=λ self=>by rw[Te,refuseLoop_ref];exact tx T self
 have Ta:cd.mro.contains (.type "object")=true:=by rw[Te,contains_cons,T.hasType (b:=true) (by decide),Bool.or_true]
 rcases q2 with⟨he,q⟩|⟨dx,fs,he,hd,ne,gE,q⟩
 ·obtain⟨hx,_,_⟩:=I2.bq e _ he;refine BX (mA:=λ _=>none) (ns:=[]) I2.gB hc GI Ta hdct ec.sa hn ⟨_,hx,rfl,(λ c z=>by cases z),.inl ⟨rfl,λ _=>rfl⟩⟩ (λ h' vy hi kp sm=>?_) (λ n z=>absurd rfl z) (N3 _);obtain⟨⟨oc,od,da,sl⟩,vC,c1,T7,RF,_,dn⟩:=sm _ hx;have e9:od=some hp.objs.size:=dn rfl;clear dn;have nx:hp.objs.size≠e:=L6 (K2 hx);have fr:H2 hp.objs.size=none:=I2.bq.fresh (L8 _);dsimp only at c1 T7 RF;subst c1 T7 RF e9;have Q5:h'.Ns1 hp.objs.size (λ y'=>if y'=f then some u else none):=by
   obtain⟨o2,z1,_,_,z2⟩:=hi;rw[vC]at z1;cases z1;rcases z2 with⟨z,_⟩|⟨d',z,_,z3⟩
   ·cases z
   ·cases z;exact z3
  have Vi:∀b w,b≠e->hp.get? b=some w->h'.get? b=some w:=λ b w nb z=>kp b w nb (λ o0 dx z1 z2=>by rw[hx]at z1;cases z1;cases z2) z;have W:=I2.bq.write (h':=h') (x:=e) (e:=e) (o':=XO e C (some hp.objs.size) t0) (by rw[he];trivial) (.inl rfl) Vi ⟨_,vC⟩ ⟨vC,⟨_,vC⟩,λ h1 h2 z w=>w _ z⟩;have U:Un X.fs [] H2 (upd H2 e (XO e C (some hp.objs.size) t0)) hp h':=Un.write (by rw[he];trivial) (.inl rfl) Vi ⟨_,vC⟩;have n2:upd H2 e (XO e C (some hp.objs.size) t0) hp.objs.size=none:=by rw[aA nx];exact fr
  exact⟨σ,_,I2.un (s:=⟨hp,g2,d2,Rn,Wm⟩) (t':=vy) (U.Lg (L8 _) fr) (W.Lg n2 (XD.ok Q5 (pC (fs:=[]) ry λ _=>trivial))),q _ fr nx⟩
 ·obtain⟨hx,_,_⟩:=I2.bq e _ he;obtain⟨⟨mA,Q4,hr⟩,_,_⟩:=I2.bq dx _ hd;have hw:Within mA (fs.map (·.1)):=λ n z=>by
   have y:=hr n;cases e1:fs.lookup n with
   |none=>rw[e1]at y;cases e2:mA n with
    |none=>exact absurd e2 z
    |some w=>rw[e2]at y;exact y.elim
   |some w=>exact K3.mpr ⟨_,p7 e1,rfl⟩
  refine BX (mA:=mA) (ns:=fs.map (·.1)) I2.gB hc GI Ta hdct ec.sa hn ⟨_,hx,rfl,(λ c z=>by cases z),.inr ⟨dx,rfl,ne,Q4⟩⟩ (λ h' vy hi kp sm=>?_) hw (by rw[D3];omega);obtain⟨⟨oc,od,da,sl⟩,vC,c1,T7,RF,dk,_⟩:=sm _ hx;have e9:od=some dx:=dk dx rfl;clear dk;dsimp only at c1 T7 RF;subst c1 T7 RF e9;have Q5:h'.Ns1 dx (λ y'=>if y'=f then some u else mA y'):=by
   obtain⟨o2,z1,_,_,z2⟩:=hi;rw[vC]at z1;cases z1;rcases z2 with⟨z,_⟩|⟨d',z,_,z3⟩
   ·cases z
   ·cases z;exact z3
  have Vi:∀b w,b≠dx->hp.get? b=some w->h'.get? b=some w:=λ b w nb z=>by
   by_cases eb:b=e
   ·subst eb;rw[hx]at z;cases z;exact vC
   ·exact kp b w eb (λ o0 d0 z1 z2=>by rw[hx]at z1;cases z1;cases z2;exact nb) z
  have ex1:∃w,h'.get? dx=some w:=by obtain⟨o',es,ep,z,_⟩:=Q5;exact⟨o',z⟩
  exact⟨σ,_,I2.write (s:=⟨hp,g2,d2,Rn,Wm⟩) (t':=vy) (x:=dx) (e:=dx) (by rw[hd];trivial) (.inl rfl) Vi ex1 (XD.ok Q5 (pC ry hr)),q⟩
end
end L2
namespace L2
open PySem PySem.Spec PyProof.Rows
def Ra(H:Hp)(e:Addr):Hp:=λ b=>if b=e then none else H b
theorem jI{H:Hp}{e:Addr}:Ra H e e=none:=O6 rfl
theorem eK{H:Hp}{e b:Addr}(h:b≠e):Ra H e b=H b:=O7 h
section
variable {X:Cx}{pins:List (Addr×Obj)}{σ:St}{H:Hp}{s:Shared}{C fI:Addr}{k:Nat}{fd:FuncData}{ps:List Str}{sp:Sp}
theorem Ht{us:List Value}{vs:List V}{R:Addr->Hp->Prop}(I:Inv X pins σ H s)(ec:xK X.K C fI)(F:bx X.prog X.w X.K X.mg X.base eS k fI fd ps sp)(hr:bK (k+1) X.A)(hb:Binds X.K fd ps [])(r:Vals vs us)(gE:vs.length<=1000) (h:∀e t,H e=none->sp (.ref e::vs) (upd H e (XO e C none t)) (λ v H2=>v=.bu/\R e H2) E0):wpAny (model X.prog X.w) X.A (call (.ref C) us) (λ v s'=>∃e H2,v=.ref e/\X.s₀.heap.objs.size<=e/\Inv X pins σ H2 s'/\R e H2) X.xe s:=by
 obtain⟨nm,q0,N,bs,bm,sn,sub,ab,col,dd,k0,k1,k2,k3,k5,cl,tl,no,ni⟩:=ec.ex;obtain⟨hp,g,d,tk,os⟩:=s;have KX:=I.gB;have NS:hp.Ns N (hp.nsMap N):=.of_isNs (PySem.W.isNs_of_in KX no);have hf:∃oI,hp.get? fI=some oI/\oI.cls=.type "function":=by have z:PySem.W.typeIn X.K (.ref fI)=some (.type "function"):=beq_iff_eq.mp ec.fn;obtain⟨o,ho,e⟩:=Option.map_eq_some_iff.mp z;exact⟨o,KX _ _ ho,e⟩
 obtain⟨oI,fo,fc⟩:=hf;refine Bv c8 (by decide) c8 (w9 KX tl) (KX _ _ cl) NS (wK KX NS ni) fo fc (λ h' e le m=>?_) (by rw[<- r.length];exact K5 gE (by decide));obtain⟨kp,_,t0,he,_,ht⟩:=m;have fr:H e=none:=I.bq.fresh le;have hq:=h e t0 fr;have I2:Inv X pins σ (upd H e (XO e C none t0)) ⟨h',g,d,tk,os⟩:=I.laid (s:=⟨hp,g,d,tk,os⟩) (t':=tk) kp le ⟨he,⟨_,he⟩,λ h1 h2 z w=>w _ z⟩;have r2:Vals (V.ref e::vs) (Value.ref e::us):=.cons rfl r;have hl:(Value.ref e::us++[]).length=ps.length:=by rw[C1,<- r2.length];exact F.len _ _ _ _ hq
 have bd:=hb ⟨h',g,d,tk,os⟩ (Value.ref e::us) I2.gB hl;rw[C1]at bd;refine O1 (K9 (F.run _ X.stack _ _ ⟨Value.ref e::us,[]⟩ (Value.ref e::us) _ _ E0 (hr.make C us []) (I2.KD.make C us []) bd r2 hq) λ r s' PJ=>?_);cases r with
 |error x=>exact PJ.elim
 |ok fl=>
  cases fl with
  |ret u=>obtain⟨v,H',I3,rv,ev,q3⟩:=I2.after PJ;subst ev;exact⟨rv,e,H',rfl,K5 I.sz le,I3,q3⟩
  |next=>exact False.elim PJ
  |brk=>exact False.elim PJ
  |cont=>exact False.elim PJ
def iW(X:Cx)(E:XK):Prop:=∀(pins:List (Addr×Obj)) (σ:St) (H:Hp) (s:Shared) (e C t:Addr) (od:Option Addr),Inv X pins σ H s->X.s₀.heap.objs.size<=e->H e=some (XO e C od t)->E (.ref C) od (Ra H e)->X.xe (.ref e) s
def ME(sp:Sp)(C:Addr)(E:XK)(t:TA):TS:=λ _ σ H=>t σ H λ vs H1=>vs.length<=1000/\∀e t0,H1 e=none->sp (.ref e::vs) (upd H1 e (XO e C none t0)) (λ v H2=>v=.bu/\∃od t1,H2 e=some (XO e C od t1)/\E (.ref C) od (Ra H2 e)) E0
theorem DG{E:XK}{x:Str}{np bC pos:Pos}{a:Expr}{as:List Expr}{t:TA}(hs:iW X E)(hc:X.calm=true)(hg:Gl X x)(hm:X.mg x=some (.ref C))(ec:xK X.K C fI)(F:bx X.prog X.w X.K X.mg X.base eS k fI fd ps sp)(hr:bK (k+1) X.A)(hb:Binds X.K fd ps []) (ha:PA X (a::as) t) (hdb:(x==("__debug__":Str))=false:=by decide) (he:starEach (a::as) X.env=(false,eval a X.env)::starEach as X.env:=by rfl) (hpl:(backTo bC (starEach as X.env)).any (·.1)=false:=by rfl):PS X (.Raise (some (.Call (.Name x np) (a::as) [] bC)) none pos) (ME sp C E t):=by intro pins s σ H D I h;obtain⟨nm,q0,N,bs,bm,sn,sub,ab,col,dd,k0,k1,k2,k3,k5,cl,tl,no,ni⟩:=ec.ex;have T:=w9 I.gB tl;rw[arm_exec_Raise];refine N6 (J9 (wx (C:=C) (nm:=nm) (q:=q0) (N:=N) (bs:=bs) (bm:=bm) (hdct:=true) (sn:=sn) (sub:=sub) (ab:=ab) (col:=col) (dd:=dd) (k0:=k0) (k1:=k1) (k2:=k2) (k3:=k3) (k5:=k5) (newId:="ValueError.__new__") (T.hasType (b:=true) (by decide)) (I.ok.hd hc) ?_));refine N6 (O0 (w6 (e_ I hg hm (PySem.W.callWith_K (h₀:=X.base) I.ok.mod.QX ec.kp (cG (ha bC pins s σ H _ I h) λ us s1 ⟨vs,H1,I1,r,gE,q⟩=>⟨I1.gB,Ht I1 ec F hr hb r gE q⟩) he hpl) hdb)) (λ v s3 z=>N6 (J9 (N7 ?_))) λ _ _ z=>z);obtain⟨e,H2,rfl,le,J,od,t1,hx,q⟩:=z;obtain⟨ho,_,_⟩:=J.bq e _ hx;exact⟨e,_,_,rfl,J.gB _ _ cl,ho,rfl,rfl,rfl,hs pins σ H2 s3 e C t1 od J le hx q⟩
end
end L2
namespace L2
open PySem PySem.Spec PyProof.Rows
section
variable {M:Model}{A:Around}{E:Value->Shared->Prop}{s:Shared}{B:Heap}{env:Env}{outer:List Env}{L e:Addr}
theorem SH{c:Value}{dx:Option Addr}{T:Addr}{Q:Unit->Shared->Prop}(Kp:A.frames=some (env::outer))(hl:s.heap.FunFrames B (env::outer))(hf:env.frame=some L)(t:Yd s.heap e c dx T)(nT:B.get? T=none) (kB:B.StaysIn s.heap) (nB:B.get? e=none) (q:∀h',Yi B (env::outer) e c dx s.heap h'->Q () {s with heap:=h'}):wpAny M A (noteFrame (.ref e) env) (λ _ s2=>wpAny M A (setFlight (.ref e) none) Q E s2) E s:=by
 obtain⟨oe,vs,oT,ts,he,rfl,rfl,dv,h1,ne,hT,dT,h3⟩:=t;unfold noteFrame;simp only[hf];refine N6 (N4 he dv h1 ?_);rw[O6 (show(Value.ref T != Value.none)=true from by simp)];refine N6 (N4 hT dT h3 ?_);rw[O7 (show ¬((Value.none==rawInt L)=true)from by simp[rawInt])];refine N6 (G6 hT dT (Array.getElem?_eq_some_iff.mp h3).1 ?_);have ot:∀b,b≠T->(s.heap.update T (Obj.mapFields (·.setIfInBounds 3 Value.none))).get? b=s.heap.get? b:=λ b y=>j8 _ _ y.symm;have nr:∀b o,s.heap.get? b=some o->(∀vs,o.data≠.fields vs)->b≠T:=λ b o z w y=>by rw[y,hT]at z;cases z;exact w ts dT
 exact Ek Kp (hl.of_keeps λ b o z w=>⟨o,(ot b (nr b o z w)).trans z,rfl⟩) hf ((ot e ne.symm).trans he) (λ b o z=>(ot b λ y=>by rw[y,nT]at z;cases z).trans (kB b o z)) nB dv (Array.getElem?_eq_some_iff.mp h1).1
  λ h' x=>q h' ⟨x.eh,x.fr,by have z:=x.tr;rw[show(s.heap.update T (Obj.mapFields (·.setIfInBounds 3 Value.none))).objs.size=s.heap.objs.size from B6 _ _ _]at z;exact z,λ b o z w=>x.sl b o ((ot b (nr b o z w)).trans z) w⟩
end
theorem Un.Uu {fs ex:List Addr}{H H1:Hp}{h h1:Heap}{b0:Addr}{o:HO}(u:Un fs ex H H1 h h1)(hf:h.objs.size<=b0)(hn:H1 b0=none):Un fs ex H (upd H1 b0 o) h h1 where
 keep:=u.keep
 slot:=u.slot
 free:=λ b ob q n x=>by rw[aA (λ z=>absurd (K2 q) (by rw[z];exact Nat.not_lt.mpr hf))];exact u.free b ob q n x
 there:=u.there
 fE:=λ b xs q=>by have y:=u.fE b xs q;rw[aA (λ z=>by rw[z,hn]at y;cases y)];exact y
 fw:=λ b ob v q=>by have y:=u.fw b ob v q;rw[aA (λ z=>by rw[z,hn]at y;cases y)];exact y
 gc:=λ b ps q=>by obtain⟨m,y⟩:=u.gc b ps q;exact⟨m,by rw[aA (λ z=>by rw[z,hn]at y;cases y)];exact y⟩
theorem Un.ku {fs ex:List Addr}{H H1:Hp}{h h1 h2:Heap}{b0:Addr}(u:Un fs ex H H1 h h1)(hf:h.objs.size<=b0)(k:∀b o,b≠b0->h1.get? b=some o->h2.get? b=some o):Un fs ex H H1 h h2 where
 keep:=λ b o q n m x=>k b o (λ z=>absurd (K2 q) (by rw[z];exact Nat.not_lt.mpr hf)) (u.keep b o q n m x)
 slot:=λ b o q n m x=>by obtain⟨z,y⟩:=u.slot b o q n m x;exact⟨z,k b _ (λ z=>absurd (K2 q) (by rw[z];exact Nat.not_lt.mpr hf)) y⟩
 free:=u.free
 there:=λ b o q x=>by obtain⟨o',y⟩:=u.there b o q x;exact⟨o',k b _ (λ z=>absurd (K2 q) (by rw[z];exact Nat.not_lt.mpr hf)) y⟩
 fE:=u.fE
 fw:=u.fw
 gc:=u.gc
theorem f_.ku {P:Program}{w:World}{H:Hp}{h h2:Heap}{b0:Addr}(ok:f_ P w H h)(hn:H b0=none)(k:∀b o,b≠b0->h.get? b=some o->h2.get? b=some o):f_ P w H h2:=λ b u q=>by
 refine(ok b u q).eh (λ d v y z=>k d v (λ e=>?_) z) (λ _ z=>z) λ _ _ z=>z;rcases y with rfl|y
 ·rw[e,hn]at q;cases q
 ·rw[e,hn]at y;cases y
section
variable {X:Cx}{pins:List (Addr×Obj)}{σ:St}{H H':Hp}{s s':Shared}{a T:Addr}{h':Heap}{c:Value}{dx:Option Addr}{as:List Addr}
theorem JO(I:Inv X pins σ H s)(un:Un (iI X.stack) [] H H' s.heap s'.heap)(bq:f_ X.prog X.w H' s'.heap)(jC:s'.os=s.os)(bare:AllBare s'.gens)(ha:∀b∈as,s.heap.objs.size<=b/\H' b=none) (l:Yi (PySem.W.hideAll s'.heap (iI X.stack++as)) X.stack a c dx s'.heap h'):Un (iI X.stack) [] H H' s.heap h'/\f_ X.prog X.w H' h':=by
 have J:Inv X pins σ H' s':=I.qa jC un bq bare λ b z=>absurd z (by simp);have kp:∀b o,s'.heap.get? b=some o->b∉iI X.stack->b∉as->h'.get? b=some o:=λ b o q n m=>l.eh b o (PySem.W.hideAll_get _ q λ z=>(D4.mp z).elim n m);have sl:∀b o,s'.heap.get? b=some o->b∈iI X.stack->∃z,h'.get? b=some {o with slots:=z}:=λ b o q n=>by obtain⟨_,u,hu,w⟩:=J.stack.mem n;rw[q]at hu;cases hu;exact l.sl b o q w
 have old:∀b o,s.heap.get? b=some o->b∉as:=λ b o q z=>absurd (K2 q) (Nat.not_lt.mpr (ha b z).1);refine⟨⟨λ b o q n m x=>?_,λ b o q n m x=>?_,un.free,λ b o q x=>?_,un.fE,un.fw,un.gc⟩,λ b o q=>?_⟩
 ·exact kp b o (un.keep b o q n m x) m (old b o q)
 ·obtain⟨z,q'⟩:=un.slot b o q n m x;obtain⟨z2,q2⟩:=sl b _ q' m;exact⟨z2,q2⟩
 ·obtain⟨o',q'⟩:=un.there b o q x;by_cases m:b∈iI X.stack
  ·obtain⟨z2,q2⟩:=sl b _ q' m;exact⟨_,q2⟩
  ·exact⟨_,kp b o' q' m (old b o q)⟩
 ·refine(bq b o q).eh (λ d u e z=>?_) (λ _ z=>z) λ _ _ z=>z;have hd:H' d≠none:=by
   rcases e with rfl|e
   ·rw[q];intro y;cases y
   ·rw[e];intro y;cases y
  exact kp d u z (λ m=>hd (J.jh d m)) λ m=>hd (ha d m).2
theorem lV{M:Model}{A:Around}{E:Value->Shared->Prop}{i:Nat}{x:Str}{pos:Pos}{Q:Unit->Shared->Prop}(I:Inv X pins σ H s)(hN:X.N.Nodup)(hi:X.N[i]?=some x)(hk:X.env.scope.names.lookup x=some .local) (h:∀s',Inv X pins (σ.set i none) H s'->Q () s'):wpAny M A (do bindName X.env x .none;unbindBehindTheSuite X.env x pos) Q E s:=by
 obtain⟨m,hn,hl⟩:=id I.loc;have PU:(X.env.scope.kind==.class||(X.env.scope.kind==.module&&X.env.locals != X.env.globals))=false:=by rw[I.ok.kind];rfl
 refine wpAny_nameGoes_keeps hk hn PU λ h' v Km hs=>?_;obtain⟨oL,_,_,YZ,_⟩:=id hn;have Ga:=I.Ga;refine h _ ⟨I.ok,I.os,I.bare,⟨λ b o e n hb hx=>?_,λ b o e n hb hx=>?_,I.base.free,λ b o e hx=>?_,I.base.fE,I.base.fw,I.base.gc⟩,⟨_,Km,λ j y v' e1 e2 e3=>?_⟩,λ y c e=>?_,I.free,I.eG,λ p hp=>?_,λ b ob e=>?_,by simpa using I.len⟩
 ·exact(hs.2 b (K1 (v8 (K2 e) I.ok.above))).trans (I.base.keep b o e n hb hx)
 ·obtain⟨sl,e1⟩:=I.base.slot b o e n hb hx;exact⟨sl,(hs.2 b (K1 (v8 (K2 e) I.ok.above))).trans e1⟩
 ·obtain⟨o',e1⟩:=I.base.there b o e hx;exact⟨o',(hs.2 b (K1 (v8 (K2 e) I.ok.above))).trans e1⟩
 ·by_cases hj:j=i
  ·subst hj;by_cases hz:j < σ.length
   ·rw[k4 hz]at e2;cases e2
   ·rw[l4 (by rw[E5];omega)]at e2;cases e2
  ·rw[n9 (O4 hj)]at e2;obtain⟨u',r',q⟩:=hl j y v' e1 e2 e3;refine⟨u',r',?_⟩;rcases q with⟨k,e⟩|⟨k,c,e,z⟩
   ·refine .inl ⟨k,?_⟩;have:y≠x:=λ e=>hj (mW hN e1 (e▸hi));simp[this,e]
   ·exact .inr ⟨k,c,e,z.sameBut hs (Ga y c e)⟩
 ·obtain⟨w',z⟩:=I.cell y c e;exact⟨w',z.sameBut hs (Ga y c e)⟩
 ·obtain⟨e,n,ne,nf,d⟩:=I.pin p hp;exact⟨(hs.2 p.1 ne).trans e,n,ne,nf,d⟩
 ·refine(I.bq b ob e).eh (λ c w' hc q=>(hs.2 c ?_).trans q) (λ _ q=>q) λ _ _ q=>q;rintro rfl;rcases hc with rfl|hc
  ·rw[I.free]at e;cases e
  ·rw[I.free]at hc;cases hc
end
end L2
namespace L2
open PySem PySem.Spec PyProof.Rows
def XT(a C:Addr)(od:Option Addr):HO:=.ext λ h=>∃oe vs,h.get? a=some oe/\oe.cls=.ref C/\oe.dict=od/\oe.data=.fields vs
theorem XT.ok {P:Program}{w:World}{H:Hp}{h:Heap}{a C:Addr}{od:Option Addr}{oe:Obj}{vs:Array Value}(h1:h.get? a=some oe)(h2:oe.cls=.ref C)(h3:oe.dict=od)(h4:oe.data=.fields vs):bD P w H h a (XT a C od):=
 ⟨⟨oe,vs,h1,h2,h3,h4⟩,⟨_,h1⟩,λ _ _ ⟨oe,vs,z,r⟩ k=>⟨oe,vs,k _ z,r⟩⟩
structure lH(K:O8)(C:Addr):Prop where
 ex:∃nm q N bs bm hd sn sub ab col dd k0 k1 k2 k3 k5 newId,K.lookup C=some (excClassObj nm q C N bs bm hd sn sub ab col dd k0 k1 k2 k3 k5 newId)/\bm.contains (.type "BaseException")=true
def zM(K:O8)(C D:Addr):Bool:=match K.lookup C with
 |some ⟨_,_,.cls cd,_⟩=>cd.mro.contains (.ref D)
 |_=>false
section
variable {M:Model}{A:Around}{E:Value->Shared->Prop}{K:O8}{s:Shared}{a C D:Addr}{oe:Obj}
theorem tX{b:Bool}{Q:Bool->Shared->Prop}(X:K.In s.heap)(h1:s.heap.get? a=some oe)(h2:oe.cls=.ref C)(hC:lH K C)(hD:lH K D)(hs:zM K C D=b)(k:Q b s):wpAny M A (excMatches (.ref a) (.ref D)) Q E s:=by
 obtain⟨nm,q0,N,bs,bm,hd,sn,sub,ab,col,dd,k0,k1,k2,k3,k5,nw,cl,hb⟩:=hC.ex;obtain⟨nm',q0',N',Zt,bm',gH,sn',ZV,ab',ack,Qh,k0',k1',k2',k3',k5',nw',cl',GO⟩:=hD.ex;obtain⟨hp,g,d,tk,os⟩:=s;have c1:=X _ _ cl;have c2:=X _ _ cl';have hc:(Value.ref D::bm').contains (.type "BaseException")=true:=by rw[contains_cons,GO,Bool.or_true]
 have hm:(Value.ref C::bm).contains (.ref D)=b:=by unfold zM at hs;rw[cl]at hs;exact hs
 obtain⟨oc,od,da,sl⟩:=oe;dsimp only at h2;subst h2;have c3:=c2;unfold excClassObj at c3;have f1:isSubtype (.type "type") (.type "tuple")=pure false:=by rw[isSubtype_type];kernel_rfl
 unfold excMatches
 repeat(first|with_reducible refine A0 h1 ?_|with_reducible refine A0 c3 ?_|(with_reducible refine r6 c2 ?_;rw[hc])|(with_reducible refine r6 c1 ?_;rw[hm])|wp_step)
 cases b <;> (wp_walk;exact k)
end
def Cx.Kf (X:Cx)(a:Addr):Cx:={X with A:=X.A.mark (some (.ref a)),calm:=false,xe:=λ _ _=>False}
section
variable {X:Cx}{pins:List (Addr×Obj)}{σ:St}{H H':Hp}{s s':Shared}{a:Addr}
theorem Inv.Kf (I:Inv X pins σ H s)(a:Addr):Inv (X.Kf a) pins σ H s:=
 let ok:=I.ok
 ⟨⟨ok.mod,ok.kind,ok.glob,ok.blt,ok.above,ok.inj,ok.has,ok.Rc,(λ z=>by cases z),ok.frames,ok.RA,ok.XW,ok.bs,ok.BO,ok.wL,ok.Fy,ok.jG,ok.Kw⟩,I.os,I.bare,I.base,I.loc,I.cell,I.free,I.eG,I.pin,I.bq,I.len⟩
theorem Inv.Jf (J:Inv (X.Kf a) pins σ' H' s')(ok:X.Ok):Inv X pins σ' H' s':=
 ⟨ok,J.os,J.bare,J.base,J.loc,J.cell,J.free,J.eG,J.pin,J.bq,J.len⟩
def Ends.but (D:Ends)(i:Nat):Ends:={nx:=λ σ H=>D.nx (σ.set i none) H,rt:=D.rt,bk:=λ σ H=>D.bk (σ.set i none) H,ct:=λ σ H=>D.ct (σ.set i none) H}
def EH(K:O8)(CE:Addr)(i:Nat)(th:Addr->TS)(D:Ends)(σ:St):XK:=λ c od H'=>∃C,c=.ref C/\lH K C/\zM K C CE=true/\∀a,H' a=none->th a (D.but i) (σ.set i (some (.ref a))) (upd H' a (XT a C od))
theorem Qn{E:Value->Shared->Prop}{x n:Str}{i:Nat}{np w_:Pos}{b0:Stmt}{suite:List Stmt}{th:Addr->TS}{D:Ends}{CE:Addr}{e:Value}(I:Inv X pins σ H s)(hst:X.stack=X.env::X.outer/\X.env.frame=some X.env.locals)(hN:X.N.Nodup)(hi:X.N[i]?=some n)(hk:X.env.scope.names.lookup n=some .local) (hg:Gl X x) (hm:X.mg x=some (.ref CE)) (hC:lH X.K CE) (hs:∀a,oV (X.Kf a) (b0::suite) (th a)) (cx:oj X.prog X.w X.stack H s (EH X.K CE i th D σ) e s') (hdb:(x==("__debug__":Str))=false:=by decide):wpAny (model X.prog X.w) X.A (noteFrame e X.env) (λ _ s2=>wpAny (model X.prog X.w) X.A (setFlight e none) (λ _ s3=>wpAny (model X.prog X.w) X.A (handleBy e X.env [.ExceptHandler (some (.Name x np)) (some n) (b0::suite) w_]) (SP X pins D) E s3) E s2) E s':=by
 obtain⟨a,c,dx,T,H',rfl,jC,bare,un,bq,h1,h2,n1,n2,t,C,rfl,eC,sC,q⟩:=cx;have J:=I.qa jC un bq bare λ b z=>absurd z (by simp);have hT:∀b∈[a,T],s.heap.objs.size<=b/\H' b=none:=λ b hb=>by
  rcases J0.mp hb with rfl|hb
  ·exact⟨h1,n1⟩
  ·cases w5.mp hb;exact⟨h2,n2⟩
 have fr:=J.ok.frames;have fn:=J.stack;rw[hst.1]at fr fn;have lB:s.heap.objs.size<=s'.heap.objs.size:=by obtain⟨oe,vs,oT,ts,he,_⟩:=t;exact K5 h1 (L7 (K2 he))
 refine SH (B:=PySem.W.hideAll s'.heap (iI (X.env::X.outer)++[a,T])) (env:=X.env) (outer:=X.outer) (L:=X.env.locals) fr (PySem.W.funFrames_hide fn λ e he b hb=>D4.mpr (.inl (mem_filterMap.mpr ⟨e,he,hb⟩))) hst.2 t
  (o7 _ (by simp)) (λ b o z=>y0 _ z) (o7 _ (by simp)) λ h' l=>?_
 rw[<- hst.1]at l;obtain⟨Yu,S'⟩:=JO I un bq jC bare hT l;obtain⟨oe,vs,oT,ts,he,c1,d1,dv,v1,ne,gT,dT,v3⟩:=l.tr;have fT:H' s'.heap.objs.size=none:=bq.fresh (L8 _);refine wpAny_handleBy_cons (codeAny_handlers_test ?_) (by intro z;cases z);have J1:Inv X pins σ H' {s' with heap:=h'}:=I.qa jC Yu S' bare λ b z=>absurd z (by simp);refine e_ (X:=X.Kf a) (J1.Kf a) hg hm ?_ hdb;refine tX J1.gB he c1 eC hC sC ?_;refine codeAny_handlers_suite_as ?_;unfold setFlight;refine N6 (N4 he dv v1 ?_);rw[O6 (show(Value.ref s'.heap.objs.size != Value.none)=true from by simp)];refine G6 gT dT (Array.getElem?_eq_some_iff.mp v3).1 ?_;generalize hh2:h'.update s'.heap.objs.size (Obj.mapFields (·.setIfInBounds 3 ((none:Option Addr).elim Value.none λ f=>rawInt f)))=g2;have kp:∀b o,b≠s'.heap.objs.size->h'.get? b=some o->g2.get? b=some o:=λ b o nb z=>by rw[<- hh2,j8 _ _ nb.symm];exact z
 have ZK:=Yu.ku (K5 (L8 _) lB) kp;have Xg:=S'.ku fT kp;have ZJ:=ZK.Uu (o:=XT a C dx) h1 n1;have Xf:=Xg.Lg (o:=XT a C dx) n1 (XT.ok (kp a oe ne.symm he) c1 d1 dv);have J3:Inv X pins σ (upd H' a (XT a C dx)) {s' with heap:=g2}:=I.qa (s':={s' with heap:=g2}) jC ZJ Xf bare λ b z=>absurd z (by simp);refine jg (v:=.ref a) J3 hN hi (.inl hk) rfl (λ s4 J4=>?_) (.inr hk);refine O0 (hs a pins s4 _ _ (D.but i) (J4.Kf a) (q a n1)) (λ f s5 z=>?_) λ _ _ z=>z.elim;cases f with
 |next=>obtain⟨σ5,H5,J5,q5⟩:=z;exact lV (J5.Jf J.ok) hN hi hk λ s6 J6=>⟨_,_,J6,q5⟩
 |brk=>obtain⟨σ5,H5,J5,q5⟩:=z;exact lV (J5.Jf J.ok) hN hi hk λ s6 J6=>⟨_,_,J6,q5⟩
 |cont=>obtain⟨σ5,H5,J5,q5⟩:=z;exact lV (J5.Jf J.ok) hN hi hk λ s6 J6=>⟨_,_,J6,q5⟩
 |ret u=>obtain⟨v,σ5,H5,J5,r5,q5⟩:=z;exact lV (J5.Jf J.ok) hN hi hk λ s6 J6=>⟨_,_,_,J6,r5,q5⟩
end
end L2
namespace L2
open PySem PySem.Spec PyProof.Rows
section
variable {X:Cx}{pins:List (Addr×Obj)}{σ:St}{H:Hp}{s:Shared}{k:Nat}{fa:Addr}{fd:FuncData}{ps:List Str}{sp:Sp}{x:Str}{p pos:Pos}{e:Expr}{es:List Expr}{t:TA}{E:XK}
theorem XX{Ex:Value->Shared->Prop}{Q:VK}(hE:∀v s,X.xe v s->False)(F:bx X.prog X.w X.K X.mg X.base (oj X.prog X.w) k fa fd ps sp)(hr:bK k X.A)(hg:Gl X x)(hm:X.mg x=some (.ref fa))(hk:PySem.W.keepIn X.K (.ref fa)=true)(hb:Binds X.K fd ps []) (ha:PA X (e::es) t) (I:Inv X pins σ H s) (h:t σ H λ vs H1=>sp vs H1 Q E) (hx:∀H1 s1 v s',Inv X pins σ H1 s1->oj X.prog X.w X.stack H1 s1 E v s'->Ex v s') (hdb:(x==("__debug__":Str))=false:=by decide) (he:starEach (e::es) X.env=(false,eval e X.env)::starEach es X.env:=by rfl) (hpl:(backTo pos (starEach es X.env)).any (·.1)=false:=by rfl):wpAny (model X.prog X.w) X.A (eval (.Call (.Name x p) (e::es) [] pos) X.env) (EP X pins σ Q) Ex s:=by
 refine w6 (e_ I hg hm ?_ hdb);refine PySem.W.callWith_K (h₀:=X.base) I.ok.mod.QX hk (O0 (ha pos pins s σ H _ I h) (λ us s1 ⟨vs,H1,I1,r,q⟩=>⟨I1.gB,?_⟩) λ v s z=>(hE v s z).elim) he hpl;have hl:(us++[]).length=ps.length:=by rw[C1,<- r.length];exact F.len _ _ _ _ q
 have bd:=hb s1 us I1.gB hl;rw[C1]at bd;refine O1 (K9 (F.run X.A X.stack s1 H1 ⟨us,[]⟩ us vs Q E hr I1.KD bd r q) λ r s' hq=>?_);cases r with
 |error v=>exact hx H1 s1 v s' I1 hq
 |ok fl=>
  cases fl with
  |ret u=>exact I1.after hq
  |next=>exact False.elim hq
  |brk=>exact False.elim hq
  |cont=>exact False.elim hq
def Rp(K:O8)(sp:Sp)(CE:Addr)(i j:Nat)(th:Addr->TS)(t:TA):TS:=λ D σ H=>t σ H λ vs H1=>sp vs H1 (λ v H2=>D.nx (σ.set j (some v)) H2) (EH K CE i th D σ)
theorem IS{y n xc:Str}{i j:Nat}{py np w_ gQ my:Pos}{b0:Stmt}{suite:List Stmt}{th:Addr->TS}{CE:Addr}(hE:∀v s,X.xe v s->False)(hst:X.stack=X.env::X.outer/\X.env.frame=some X.env.locals)(hN:X.N.Nodup) (hj:X.N[j]?=some y) (hy:Loc X.env.scope y) (hi:X.N[i]?=some n) (hk:X.env.scope.names.lookup n=some .local) (F:bx X.prog X.w X.K X.mg X.base (oj X.prog X.w) k fa fd ps sp) (hr:bK k X.A) (hg:Gl X x) (hm:X.mg x=some (.ref fa)) (hkp:PySem.W.keepIn X.K (.ref fa)=true) (hb:Binds X.K fd ps []) (ha:PA X (e::es) t) (Tw:Gl X xc) (Th:X.mg xc=some (.ref CE)) (hC:lH X.K CE) (hs:∀a,oV (X.Kf a) (b0::suite) (th a)) (hsw:swapsWith (.Call (.Name x p) (e::es) [] pos) (some (.Name y py)) gQ.line X.env=pure false:=by rfl) (hf:X.fn y=true\/X.env.scope.names.lookup y=some .local:=by first|exact .inl rfl|exact .inr rfl|assumption) (hdb:(x==("__debug__":Str))=false:=by decide) (Fo:(xc==("__debug__":Str))=false:=by decide) (he:starEach (e::es) X.env=(false,eval e X.env)::starEach es X.env:=by rfl) (hpl:(backTo pos (starEach es X.env)).any (·.1)=false:=by rfl):PS X (.Try [.Assign [.Name y py] (.Call (.Name x p) (e::es) [] pos) gQ] [.ExceptHandler (some (.Name xc np)) (some n) (b0::suite) w_] [] [] my) (Rp X.K sp CE i j th t):=by intro pins s σ H D I h;refine wpAny_Try_except (wpAny_execs_cons (wpAny_Assign_Name (O0 (XX hE F hr hg hm hkp hb ha I h (λ H1 s1 v s' I1 cx=>Qn I1 hst hN hi hk Tw Th hC hs cx Fo) hdb he hpl) (λ v s1 ⟨z,H1,I1,r1,q1⟩=>?_) λ _ _ z=>z) hsw));exact jg I1 hN hj hy r1 (λ s2 I2=>E6 (E6 ⟨_,H1,I2,q1⟩)) hf
end
end L2
namespace L2
open PySem PySem.Spec PyProof.Rows Builtin Builtin.ObjectAttr
theorem yR(x:Value):bindSpecial (.builtin "BaseException.__getattribute__") x=pure (.builtin "BaseException.__getattribute__",[x]):=PySem.F.excAttr_ValueError.ga.bind x
section
variable {prog:Program}{w:World}{A:Around}{E:Value->Shared->Prop}{K:O8}{h:Heap}{g:Array GenState}{d:Drawn}{t:Nat}{os:OsState}{C a:Addr}{oe:Obj}{od:Option Obj}{name:Str}{v:Value}
theorem VN{expr:Bool}{Q:Value->Shared->Prop}(X:K.In h)(I:PySem.W.InstAt h a oe C od)(hga:PySem.W.findIn K (.ref C) "__getattribute__"=some (some (.builtin "BaseException.__getattribute__")))(Ko:PySem.W.findIn K (.ref C) "__getattr__"=some none) (hf:PySem.W.findObj K C od name=some (.value v)) (hb:PySem.W.mroIn K C (.type "BaseException")=some true) (hh:handedOut v=pure v) (q:Q v ⟨h,g,d,t+1,os⟩):wpAny (model prog w) A (getAttr (.ref a) name expr) Q E ⟨h,g,d,t,os⟩:=by
 have L0:=I.type (M:=model prog w);have L1:=PySem.W.looks_findIn (M:=model prog w) X hga;have L2:=PySem.W.looks_hook (M:=model prog w) (mc:=.ref C) X (r:=none) (by rw[O6 (show onTheHeap (Value.ref C)=true from rfl)];exact Ko);have L3:=PySem.W.looks_find (M:=model prog w) X I hf;have sub:PySem.W.Looks (model prog w) h (isInstance (.ref a) (.type "BaseException")) true:=L0.andThen (PySem.W.looks_mroIn X hb);unfold getAttr getAttrBy;refine N6 (wpAny_mkText (G7 (N6 (L0.at (N6 (L1.at ?_))))));have W3:(Value.builtin "BaseException.__getattribute__"==Value.builtin "object.__getattribute__")=false:=by decide+kernel
 have W4:(expr&&onTheHeap (Value.builtin "BaseException.__getattribute__"))=false:=by cases expr <;> rfl
 dsimp only;rw[O7 (by rw[W3,Bool.and_false];decide)];unfold getAttrByItsOwn;refine N6 (L2.at ?_);unfold callGetattribute;rw[O7 (by rw[W4];decide)];unfold boundAndCalled;refine N6 (G8 (G7 (N6 ?_)));rw[yR];refine N7 (O1 ?_);refine m9 PySem.F.excAttr_ValueError.ga.plain PySem.F.entry_bexc_ga (@PySem.W.check_slot (model prog w) _ _ ⟨h,g,d,t+1,os⟩ "BaseException.__getattribute__" "BaseException" "__getattribute__" (.ref a) [.str name t] [] _ (by decide+kernel) (by decide+kernel) sub (PySem.F.args_bexc_ga (.ref a) (.str name t)) ?_);refine N6 (N7 (N6 (N7 (N6 (L0.at (N6 (L3.at ?_)))))));refine N7 ?_;show wpAny _ _ (handedOut v) _ _ _;rw[hh];exact N7 q
end
section
variable {X:Cx}{e:Expr}{ta:TE}{pos:Pos}{f:Str}
structure QD(K:O8)(C:Addr)(f:Str):Prop where
 ga:PySem.W.findIn K (.ref C) "__getattribute__"=some (some (.builtin "BaseException.__getattribute__"))
 gt:PySem.W.findIn K (.ref C) "__getattr__"=some none
 no:PySem.W.findIn K (.ref C) f=some none
 ba:PySem.W.mroIn K C (.type "BaseException")=some true
 hd:(PySem.W.clsIn K C).any (·.hasDict)=true
def Yx(K:O8)(ta:TE)(f:Str):TE:=λ σ H Q=>ta σ H λ v H1=>∃a C dx fs y,v=.ref a/\H1 a=some (XT a C (some dx))/\H1 dx=some (XD dx fs)/\QD K C f/\fs.lookup f=some y/\Q y H1
theorem Sd(he:PE X e ta)(hb:attributeBase e f X.env (eval e X.env)=eval e X.env:=by rfl):PE X (.Attribute e f pos) (Yx X.K ta f):=by
 intro pins s σ H Q I h;refine Ld hb (cG (he pins s σ H _ I h) λ u s1 ⟨v,H1,I1,rx,a,C,dx,fs,y,ev,h1,h2,eg,hl,q⟩=>?_);subst ev;obtain rfl:u=Value.ref a:=rx;obtain⟨⟨oe,vs,he,hc,hd,rG⟩,_,_⟩:=I1.bq a _ h1;obtain⟨⟨mA,hn,hr⟩,_,_⟩:=I1.bq dx _ h2;obtain⟨od,ho,hlk⟩:=jZ hn;obtain⟨hp,g,d,tk,os⟩:=s1;have ry:=hr f;rw[hl]at ry;cases em:mA f with
 |none=>rw[em]at ry;exact ry.elim
 |some u=>
  rw[em]at ry;have IA:PySem.W.InstAt hp a oe C (some od):=⟨he,hc,by unfold PySem.W.notCls;rw[rG],by rw[hd];exact ho⟩;obtain⟨cd,hcd,hdc⟩:=PySem.W.any_some eg.hd;refine VN I1.gB IA eg.ga eg.gt (v:=u) ?_ eg.ba ?_ ⟨y,H1,I1.tok _,ry,q⟩
  ·unfold PySem.W.findObj;rw[hcd,Option.bind_some,eg.no];show((PySem.W.ownOf cd (some od) f).bind _)=_;unfold PySem.W.ownOf;rw[O6 hdc];dsimp only;rw[hlk,em];rfl
  ·exact PySem.W.handedOut_of (AU ry)
end
end L2
namespace L2
open PySem PySem.Spec PyProof.Rows Builtin Builtin.ObjectAttr
structure oW(K:O8)(C:Addr):Prop where
 ga:PySem.W.findIn K (.ref C) "__getattribute__"=some (some (.builtin "BaseException.__getattribute__"))
 gt:PySem.W.findIn K (.ref C) "__getattr__"=some none
 ba:PySem.W.mroIn K C (.type "BaseException")=some true
 ob:PySem.W.mroIn K C (.type "object")=some true
 hd:(PySem.W.clsIn K C).any (·.hasDict)=true
 cl:PySem.W.findIn K (.ref C) "__class__"=some (some (.builtin "object.__class__"))
 ge:PySem.W.specialIn K (.builtin "object.__class__") "__get__"=some (some (.builtin "getset_descriptor.__get__"))
 tk:PySem.W.takesIn K (.builtin "object.__class__")=some true
section
variable {prog:Program}{w:World}{A:Around}{E:Value->Shared->Prop}{K:O8}{s:Shared}{C a:Addr}{oe od:Obj}
theorem Mk{Q:Option Value->Shared->Prop}(X:K.In s.heap)(I:PySem.W.InstAt s.heap a oe C (some od))(e:oW K C)(q:Q (some (.ref C)) {s with toks:=s.toks+1}):wpAny (model prog w) A (getAttr? (.ref a) "__class__") Q E s:=by
 obtain⟨h,g,d,t,os⟩:=s;obtain⟨cd,hcd,_⟩:=PySem.W.any_some e.hd;have hf:PySem.W.findObj K C (some od) "__class__"=some (.bind (.builtin "getset_descriptor.__get__") (.builtin "object.__class__")):=PySem.W.findObj_data (by rw[hcd];rfl) e.cl e.ge e.tk;have L0:=I.type (M:=model prog w);have L1:=PySem.W.looks_findIn (M:=model prog w) X e.ga;have L2:=PySem.W.looks_hook (M:=model prog w) (mc:=.ref C) X (r:=none) (by rw[O6 (show onTheHeap (Value.ref C)=true from rfl)];exact e.gt);have L3:=PySem.W.looks_find (M:=model prog w) X I hf;have sub:PySem.W.Looks (model prog w) h (isInstance (.ref a) (.type "BaseException")) true:=L0.andThen (PySem.W.looks_mroIn X e.ba);unfold getAttr? getAttrBy? getAttrBy;refine N6 (wpAny_mkText (N6 (G8 (G7 (N6 (L0.at (N6 (L1.at ?_))))))));have W3:(Value.builtin "BaseException.__getattribute__"==Value.builtin "object.__getattribute__")=false:=by decide+kernel
 dsimp only;rw[O7 (by rw[W3,Bool.and_false];decide)];unfold getAttrByItsOwn;refine N6 (L2.at ?_);unfold callGetattribute;rw[O7 (by decide)];unfold boundAndCalled;refine N6 (G8 (G7 (N6 ?_)));rw[yR];refine N7 (O1 ?_);refine m9 PySem.F.excAttr_ValueError.ga.plain PySem.F.entry_bexc_ga (@PySem.W.check_slot (model prog w) _ _ ⟨h,g,d,t+1,os⟩ "BaseException.__getattribute__" "BaseException" "__getattribute__" (.ref a) [.str "__class__" t] [] _ (by decide+kernel) (by decide+kernel) sub (PySem.F.args_bexc_ga (.ref a) (.str "__class__" t)) ?_);refine N6 (N7 (N6 (N7 (N6 (L0.at (N6 (L3.at ?_)))))));show wpAny _ _ (holding [.builtin "object.__class__"] (call (.builtin "getset_descriptor.__get__") [.builtin "object.__class__",.ref a,.ref C]) >>= ret) _ _ _;refine N6 (G7 (O1 (PySem.W.class_get (s:=⟨h,g,d,t+1,os⟩) (ox:=oe) (od:=some od) X I e.ob ?_)));refine N7 ?_;show wpAny _ _ (handedOut (Value.ref C)) _ _ _;rw[PySem.W.handedOut_of rfl];exact N7 (N7 q)
set_option tactic.hygienic true in
theorem ue(e:oW K C):PySem.W.KitX K (.ref a) (.ref C) (λ h=>∃oe od,PySem.W.InstAt h a oe C (some od)) where
 ty:=λ _ _ _ ⟨_,_,I⟩=>I.type
 it:=λ _ _ X _=>by
  obtain⟨cd,hc,_⟩:=PySem.W.any_some e.hd;unfold PySem.W.clsIn at hc;split at hc
  ·rename_i c' d' cd' V1 ho;intro A' Q' E' s' k q;unfold isType loadHead;exact N6 (wpAny_loadPart (k _ _ (X _ _ ho)) (N7 q))
  ·cases hc
 ne:=λ h tp dd au n sl X z=>by
  obtain⟨cd,hc,_⟩:=PySem.W.any_some e.hd;refine Bool.eq_false_iff.mpr λ q=>?_;have e:C=tp:=Value.ref.inj (beq_iff_eq.mp q);subst e;unfold PySem.W.clsIn at hc;split at hc
  ·rename_i c' d' cd' V1 ho;have y:=(X _ _ ho).symm.trans z;cases y
  ·cases hc
 ca:=λ X ⟨_,_,I⟩ k=>Mk X I e k
end
section
variable {X:Cx}{pins:List (Addr×Obj)}{σ:St}{H:Hp}{s:Shared}
theorem uF(I:Inv X pins σ H s){a C dx:Addr}{fs:List (Str×V)}(h1:H a=some (XT a C (some dx)))(h2:H dx=some (XD dx fs)):∃oe od,PySem.W.InstAt s.heap a oe C (some od):=by obtain⟨⟨oe,vs,he,hc,hd,rG⟩,_,_⟩:=I.bq a _ h1;obtain⟨⟨mA,hn,hr⟩,_,_⟩:=I.bq dx _ h2;obtain⟨od,ho,_⟩:=jZ hn;exact⟨oe,od,he,hc,by unfold PySem.W.notCls;rw[rG],by rw[hd];exact ho⟩
theorem Kb{b:Bool}{c:Value}{a C dx:Addr}{fs:List (Str×V)}{A:Around}{E:Value->Shared->Prop}{Q:Value->Shared->Prop}(I:Inv X pins σ H s)(h1:H a=some (XT a C (some dx)))(h2:H dx=some (XD dx fs))(e:oW X.K C)(k:PySem.W.kitOne X.K (.ref C) c=some b) (q:∀tk,Q (.bool b) {s with toks:=tk}):wpAny (model X.prog X.w) A (call (.builtin "isinstance") [.ref a,c]) Q E s:=
 D1 (ue e) I.gB (uF I h1 h2) k (λ z=>nomatch z) q
theorem ES{b:Bool}{a C dx tp:Addr}{fs:List (Str×V)}{dd:Option Addr}{au:List Value}{n:Nat}{sl:Array (Option Value)}{A:Around}{E:Value->Shared->Prop}{Q:Value->Shared->Prop}(I:Inv X pins σ H s)(h1:H a=some (XT a C (some dx)))(h2:H dx=some (XD dx fs))(e:oW X.K C) (ht:s.heap.get? tp=some ⟨.type "tuple",dd,.seq au.toArray n,sl⟩) (k:PySem.W.kitAny X.K (.ref C) au=some b) (q:∀tk,Q (.bool b) {s with toks:=tk}):wpAny (model X.prog X.w) A (call (.builtin "isinstance") [.ref a,.ref tp]) Q E s:=
 PySem.W.kia_tup (ue e) I.gB (uF I h1 h2) ht k (λ z=>nomatch z) q
end
end L2
namespace L2
open PySem PySem.Spec PyProof.Rows
def Ux(h:Heap)(a:Addr)(c:Value)(od:Option Addr)(nt:Option (Addr×Value)):Prop:=∃oe vs,h.get? a=some oe/\oe.cls=c/\oe.dict=od/\oe.data=.fields vs/\match nt with
 |none=>vs[1]?=some .none
 |some (T,fl)=>vs[1]?=some (.ref T)/\T≠a/\∃oT ts,h.get? T=some oT/\oT.data=.fields ts/\ts[3]?=some fl
structure Zz(B:Heap)(l:List Env)(h h':Heap):Prop where
 eh:B.StaysIn h'
 fr:h'.FunFrames B l
 sl:∀b o,h.get? b=some o->(∀vs,o.data≠.fields vs)->∃z,h'.get? b=some {o with slots:=z}
section
variable {M:Model}{A:Around}{E:Value->Shared->Prop}{s:Shared}{B:Heap}{env:Env}{outer:List Env}{L e:Addr}{oe:Obj}{vs:Array Value}
theorem El{hd:Value}{hn:Bool}{Q:Unit->Shared->Prop}(Kp:A.frames=some (env::outer))(hl:s.heap.FunFrames B (env::outer))(hf:env.frame=some L) (he:s.heap.get? e=some oe) (kB:B.StaysIn s.heap) (nB:B.get? e=none) (dv:oe.data=.fields vs) (sz:1 < vs.size) (q:∀h',Zz B (env::outer) s.heap h'->Ux h' e oe.cls oe.dict (some (s.heap.objs.size,rawInt L))->Q () {s with heap:=h'}):wpAny M A (do let a <- frameOf env;let p <- entryPlaceOf L hn;let b <- EntryCells.newEntry hd a .none (rawInt L) .none p;setField (.ref e) 1 b) Q E s:=by
 have eF:e∉(env::outer).filterMap (·.frame):=λ z=>by obtain⟨_,o,ho,w⟩:=hl.mem z;rw[he]at ho;cases ho;exact w vs dv
 refine N6 (wpAny_frameOf_fun Kp hl hf λ g hg=>N6 (wpAny_entryPlaceOf λ pl hpl=>?_));unfold EntryCells.newEntry newFields;refine N6 (y4 ?_ (hpl.sizeOk5 _ _ _ _ _));have e1:g.get? e=some oe:=(hg.2.1 e eF).trans he;have k1:B.StaysIn g:=λ b o z=>(hg.2.1 b λ y=>by rw[(hl.mem y).1]at z;cases z).trans (kB b o z);generalize hT:({cls:=.type "traceback",dict:=none,data:=.fields ([hd,.ref L,.none,rawInt L,.none]++(if pl.isEmpty then List.replicate 6 Value.none else pl)).toArray}:Obj)=nt;have dT:nt.data=.fields ([hd,.ref L,.none,rawInt L,.none]++(if pl.isEmpty then List.replicate 6 Value.none else pl)).toArray:=by rw[<- hT]
 have e2:=j7 (h:=g) nt e1;refine G6 e2 dv sz (q _ ?_ ?_)
 ·have nr:∀b o,s.heap.get? b=some o->(∀vs,o.data≠.fields vs)->b≠e:=λ b o z w y=>by rw[y,he]at z;cases z;exact w vs dv
  have kp:∀b o,b≠e->g.get? b=some o->((g.push nt).update e (Obj.mapFields (·.setIfInBounds 1 (Value.ref g.objs.size)))).get? b=some o:=λ b o y z=>by rw[j8 _ _ y.symm];exact j7 _ z
  refine⟨λ b o z=>kp b o (λ y=>by rw[y,nB]at z;cases z) (k1 b o z),hl.of_keeps λ b o z w=>?_,λ b o z w=>?_⟩
  ·obtain⟨sl,y⟩:=hg.2.2 b o z;exact⟨_,kp b _ (nr b o z w) y,rfl⟩
  ·obtain⟨sl,y⟩:=hg.2.2 b o z;exact⟨sl,kp b _ (nr b o z w) y⟩
 ·have ne:g.objs.size≠e:=L6 (K2 e1);have d3:=x4 dv (·.setIfInBounds 1 (Value.ref g.objs.size));have e3:=k7 (Obj.mapFields (·.setIfInBounds 1 (Value.ref g.objs.size))) e2 (l6 d3);have t3:=(j8 (g.push nt) (Obj.mapFields (·.setIfInBounds 1 (Value.ref g.objs.size))) ne.symm).trans (q8 g (l6 dT));rw[<- hg.1];exact⟨_,_,e3,Obj.cls_mapFields _ _,pI _ _,d3,by simp[sz],ne,nt,_,t3,dT,by simp⟩
end
structure XS(X:Cx)(H':Hp)(h:Heap):Prop where
 un:Un X.fs [] X.H₀ H' X.s₀.heap h
 bq:f_ X.prog X.w H' h
 fn:h.FunFrames X.base X.stack
 fr:∀b∈iI X.stack,H' b=none
 am:X.A.frames=some X.stack
section
variable {X:Cx}{H':Hp}{h h':Heap}{a T L:Addr}{as:List Addr}
theorem XS.ku {oT:Obj}{ts:Array Value}(x:XS X H' h)(le:X.s₀.heap.objs.size<=T)(hn:H' T=none)(hT:h.get? T=some oT)(dT:oT.data=.fields ts)(k:∀b o,b≠T->h.get? b=some o->h'.get? b=some o):XS X H' h':=
 ⟨x.un.ku le k,x.bq.ku hn k,x.fn.of_keeps λ b o z w=>⟨o,k b o (λ y=>by rw[y,hT]at z;cases z;exact w ts dT) z,rfl⟩,x.fr,x.am⟩
theorem XS.note (x:XS X H' h)(hst:X.stack=X.env::X.outer)(ha:∀b∈as,X.s₀.heap.objs.size<=b/\H' b=none)(hL:X.env.frame=some X.env.locals)(ab:X.s₀.heap.objs.size<=X.env.locals) (l:Zz (PySem.W.hideAll h (iI X.stack++as)) X.stack h h'):XS X H' h':=by
 have kp:∀b o,h.get? b=some o->b∉iI X.stack->b∉as->h'.get? b=some o:=λ b o q n m=>l.eh b o (PySem.W.hideAll_get _ q λ z=>(D4.mp z).elim n m);have sl:∀b o,h.get? b=some o->b∈iI X.stack->∃z,h'.get? b=some {o with slots:=z}:=λ b o q n=>by obtain⟨_,u,hu,w⟩:=x.fn.mem n;rw[q]at hu;cases hu;exact l.sl b o q w
 have old:∀b o,X.s₀.heap.get? b=some o->b∉as:=λ b o q z=>absurd (K2 q) (Nat.not_lt.mpr (ha b z).1);have Z8:∀b o,X.s₀.heap.get? b=some o->b∉X.fs->b∉iI X.stack:=λ b o q n z=>by
  rw[hst]at z;unfold iI at z;rw[filterMap_cons,hL]at z;rcases J0.mp z with rfl|z
  ·exact absurd (K2 q) (Nat.not_lt.mpr ab)
  ·exact n z
 have sub:∀b,b∈X.fs->b∈iI X.stack:=λ b z=>by rw[hst];exact mem_filterMap.mpr (by obtain⟨a,h1,h2⟩:=mem_filterMap.mp z;exact⟨a,.tail _ h1,h2⟩)
 have un:=x.un;refine⟨⟨λ b o q n m y=>?_,λ b o q n m y=>?_,un.free,λ b o q y=>?_,un.fE,un.fw,un.gc⟩,λ b o q=>?_,?_,x.fr,x.am⟩
 ·exact kp b o (un.keep b o q n m y) (Z8 b o q m) (old b o q)
 ·obtain⟨z,q'⟩:=un.slot b o q n m y;obtain⟨z2,q2⟩:=sl b _ q' (sub b m);exact⟨z2,q2⟩
 ·obtain⟨o',q'⟩:=un.there b o q y;by_cases m:b∈iI X.stack
  ·obtain⟨z2,q2⟩:=sl b _ q' m;exact⟨_,q2⟩
  ·exact⟨_,kp b o' q' m (old b o q)⟩
 ·refine(x.bq b o q).eh (λ d u e z=>?_) (λ _ z=>z) λ _ _ z=>z;have hd:H' d≠none:=by
   rcases e with rfl|e
   ·rw[q];intro y;cases y
   ·rw[e];intro y;cases y
  exact kp d u z (λ m=>hd (x.fr d m)) λ m=>hd (ha d m).2
 ·exact x.fn.of_keeps λ b o z w=>by obtain⟨z2,q2⟩:=l.sl b o z w;exact⟨_,q2,rfl⟩
def XF(X:Cx)(E:XK)(e:Value)(s':Shared):Prop:=∃(a:Addr) (c:Value) (od:Option Addr) (H':Hp) (nt:Option (Addr×Value)),e=.ref a/\s'.os=X.s₀.os/\AllBare s'.gens/\XS X H' s'.heap/\X.s₀.heap.objs.size<=a/\H' a=none/\Ux s'.heap a c od nt/\
 (∀T fl,nt=some (T,fl)->X.s₀.heap.objs.size<=T/\H' T=none/\(fl=.none\/fl=rawInt X.env.locals))/\E c od H'
theorem xP{E:XK}{M:Model}{A:Around}{Ex:Value->Shared->Prop}{e:Value}{s:Shared}{Q:Unit->Shared->Prop}(hst:X.stack=X.env::X.outer)(hL:X.env.frame=some X.env.locals)(ab:X.s₀.heap.objs.size<=X.env.locals)(hA:A.frames=some X.stack)(x:XF X E e s) (q:∀(s':Shared) (a:Addr) (c:Value) (od:Option Addr) (H':Hp) (T:Addr),e=.ref a->s'.os=X.s₀.os->AllBare s'.gens->XS X H' s'.heap->X.s₀.heap.objs.size<=a->H' a=none->Ux s'.heap a c od (some (T,rawInt X.env.locals))->X.s₀.heap.objs.size<=T->H' T=none->E c od H'->Q () s'):wpAny M A (noteFrame e X.env) Q Ex s:=by
 obtain⟨a,c,od,H',nt,rfl,jC,bare,xs,le,na,⟨oe,vs,he,hc,hd,dv,tr⟩,hnt,qe⟩:=x;have aF:∀b o ws,s.heap.get? b=some o->o.data=.fields ws->b∉iI X.stack:=λ b o ws q1 q2 z=>by obtain⟨_,u,hu,w⟩:=xs.fn.mem z;rw[q1]at hu;cases hu;exact w ws q2
 have ss:X.s₀.heap.objs.size<=s.heap.objs.size:=K5 le (L7 (K2 he));cases nt with
 |none=>have tr:vs[1]?=some .none:=tr;have fn:=xs.fn;rw[hst]at fn hA;unfold noteFrame;simp only[hL];refine N6 (N4 he dv tr ?_);rw[O7 (by decide)];refine El (B:=PySem.W.hideAll s.heap (iI (X.env::X.outer)++[a])) hA (PySem.W.funFrames_hide fn λ e he b hb=>D4.mpr (.inl (mem_filterMap.mpr ⟨e,he,hb⟩))) hL he (λ b o z=>y0 _ z) (o7 _ (by simp)) dv (Array.getElem?_eq_some_iff.mp tr).1 λ h' l t'=>?_;rw[<- hst]at l;rw[hc,hd]at t';exact q {s with heap:=h'} a c od H' s.heap.objs.size rfl jC bare (xs.note hst (as:=[a]) (λ b z=>by cases w5.mp z;exact⟨le,na⟩) hL ab l) le na t' ss (xs.bq.fresh (L8 _)) qe
 |some p=>
  obtain⟨T,fl⟩:=p;obtain⟨h1,ne,oT,ts,gT,dT,v3⟩:=tr;obtain⟨LJ,nT,TB⟩:=hnt T fl rfl;unfold noteFrame;simp only[hL];refine N6 (N4 he dv h1 ?_);rw[O6 (show(Value.ref T != Value.none)=true from by simp)];refine N6 (N4 gT dT v3 ?_);rcases TB with rfl|rfl
  ·rw[O7 (show ¬((Value.none==rawInt X.env.locals)=true)from by simp[rawInt])];refine N6 (G6 gT dT (Array.getElem?_eq_some_iff.mp v3).1 ?_);generalize hg:s.heap.update T (Obj.mapFields (·.setIfInBounds 3 Value.none))=g;have kp:∀b o,b≠T->s.heap.get? b=some o->g.get? b=some o:=λ b o y z=>by rw[<- hg,j8 _ _ y.symm];exact z
   have VM:=xs.ku LJ nT gT dT kp;have sz:g.objs.size=s.heap.objs.size:=by rw[<- hg];exact B6 _ _ _
   have fn:=VM.fn;rw[hst]at fn hA;refine El (s:={s with heap:=g}) (B:=PySem.W.hideAll g (iI (X.env::X.outer)++[a])) hA (PySem.W.funFrames_hide fn λ e he b hb=>D4.mpr (.inl (mem_filterMap.mpr ⟨e,he,hb⟩))) hL (kp a oe ne.symm he) (λ b o z=>y0 _ z) (o7 _ (by simp)) dv (Array.getElem?_eq_some_iff.mp h1).1 λ h' l t'=>?_;rw[<- hst]at l;rw[hc,hd]at t';exact q {s with heap:=h'} a c od H' g.objs.size rfl jC bare (VM.note hst (as:=[a]) (λ b z=>by cases w5.mp z;exact⟨le,na⟩) hL ab l) le na t' (by rw[sz];exact ss) (VM.bq.fresh (L8 _)) qe
  ·rw[O6 (by simp)];exact N7 (q s a c od H' T rfl jC bare xs le na ⟨oe,vs,he,hc,hd,dv,h1,ne,oT,ts,gT,dT,v3⟩ LJ nT qe)
theorem CB{M:Model}{A:Around}{Ex:Value->Shared->Prop}{s:Shared}{Q:Unit->Shared->Prop}{c fl fl':Value}{od:Option Addr}{fo:Option Addr}(hfo:fl'=fo.elim .none λ f=>rawInt f)(xs:XS X H' s.heap)(le:X.s₀.heap.objs.size<=T)(nT:H' T=none)(t:Ux s.heap a c od (some (T,fl))) (q:∀h',XS X H' h'->Ux h' a c od (some (T,fl'))->Q () {s with heap:=h'}):wpAny M A (setFlight (.ref a) fo) Q Ex s:=by
 obtain⟨oe,vs,he,hc,hd,dv,h1,ne,oT,ts,gT,dT,v3⟩:=t;unfold setFlight;refine N6 (N4 he dv h1 ?_);rw[O6 (show(Value.ref T != Value.none)=true from by simp)];have i3:=(Array.getElem?_eq_some_iff.mp v3).1;refine G6 gT dT i3 (q _ ?_ ?_)
 ·exact xs.ku le nT gT dT λ b o y z=>by rw[j8 _ _ y.symm];exact z
 ·have d3:=x4 dT (·.setIfInBounds 3 (fo.elim .none λ f=>rawInt f));refine⟨oe,vs,by rw[j8 _ _ ne];exact he,hc,hd,dv,h1,ne,_,_,k7 _ gT (l6 d3),d3,?_⟩;rw[hfo];simp[i3]
theorem GY{E:XK}(hst:X.stack=X.env::X.outer)(hL:X.env.frame=some X.env.locals)(ab:X.s₀.heap.objs.size<=X.env.locals):PassesOwn (model X.prog X.w) X.A X.env (XF X E):=by
 intro e s x;have hA:X.A.frames=some X.stack:=by obtain⟨_,_,_,_,_,_,_,_,xs,_⟩:=x;exact xs.am
 refine xP hst hL ab hA x λ s' a c od H' T ea jC bare xs le na t LJ nT q=>?_;subst ea;obtain⟨oe,vs,he,hc,hd,dv,h1,ne,oT,ts,gT,dT,v3⟩:=id t;unfold cameBackBy;refine N6 (N4 he dv h1 ?_);rw[O7 (by simp)];show wpAny _ _ (setFlight (.ref a) X.env.frame) _ _ _;rw[hL];refine CB (fl':=rawInt X.env.locals) rfl xs LJ nT t λ h' Mi t'=>⟨a,c,od,H',some (T,rawInt X.env.locals),rfl,jC,bare,Mi,le,na,t',λ T' fl e=>?_,q⟩;cases e;exact⟨LJ,nT,.inr rfl⟩
theorem Mj{E:XK}{e:Value}{s:Shared}{A:Around}{Ex:Value->Shared->Prop}(hst:X.stack=X.env::X.outer)(hL:X.env.frame=some X.env.locals)(ab:X.s₀.heap.objs.size<=X.env.locals)(hA:A.frames=some X.stack)(x:XF X E e s):wpAny (model X.prog X.w) A (leaving X.env e) (λ _ s'=>oj X.prog X.w X.outer X.H₀ X.s₀ E e s') Ex s:=by unfold leaving;refine N6 (xP hst hL ab hA x λ s' a c od H' T ea jC bare xs le na t LJ nT q=>?_);subst ea;refine CB (fl':=.none) rfl xs LJ nT t λ h' Mi t'=>?_;obtain⟨oe,vs,he,hc,hd,dv,h1,ne,oT,ts,gT,dT,v3⟩:=t';exact⟨a,c,od,T,H',rfl,jC,bare,Mi.un,Mi.bq,le,LJ,na,nT,⟨oe,vs,oT,ts,he,hc,hd,dv,h1,ne,gT,dT,v3⟩,q⟩
theorem BY{E:XK}(hex:X.ex=[]):iW (X.gb (XF X E)) E:=by
 intro pins σ H s e C t od J le hx q;obtain⟨ho,_,_⟩:=J.bq e _ hx;have un:=J.base;have PN:(X.gb (XF X E)).ex=[]:=hex;rw[PN]at un;have old:∀b o,X.s₀.heap.get? b=some o->b≠e:=λ b o q z=>absurd (K2 q) (by rw[z];exact Nat.not_lt.mpr le);refine⟨e,.ref C,od,Ra H e,none,rfl,J.os,J.bare,⟨⟨un.keep,un.slot,λ b o q n x=>by rw[eK (old b o q)];exact un.free b o q n x,un.there,λ b xs q=>?_,λ b o u q=>?_,λ b p q=>?_⟩,λ b o q=>?_,J.stack,λ b z=>?_,J.ok.frames⟩,le,jI,⟨_,_,ho,rfl,rfl,rfl,rfl⟩,(λ T fl e=>by cases e),q⟩
 ·have y:=un.fE b xs q;rw[eK (λ z=>by rw[z,hx]at y;cases y)];exact y
 ·have y:=un.fw b o u q;rw[eK (λ z=>by rw[z,hx]at y;cases y)];exact y
 ·obtain⟨mo,y⟩:=un.gc b p q;exact⟨mo,by rw[eK (λ z=>by rw[z,hx]at y;cases y)];exact y⟩
 ·have ne:b≠e:=λ z=>by rw[z,jI]at q;cases q
  rw[eK ne]at q;refine(J.bq b o q).eh (λ d u y z=>z) (λ c z=>?_) λ c xs z=>?_
  ·rw[eK (λ w=>by rw[w,hx]at z;cases z)];exact z
  ·rw[eK (λ w=>by rw[w,hx]at z;cases z)];exact z
 ·by_cases y:b=e
  ·rw[y];exact jI
  ·rw[eK y];exact J.jh b z
theorem GZ{E:XK}(hex:X.ex=[]):Passes (oj X.prog X.w) (X.gb (XF X E)) E:=by rintro pins σ H s e s' I ⟨a,c,dx,T,H',rfl,jC,bare,un,bq,h1,h2,n1,n2,t,q⟩;have J:=I.qa jC un bq bare λ b z=>absurd z (by simp);have Yv:=J.base;have PN:(X.gb (XF X E)).ex=[]:=hex;rw[PN]at Yv;obtain⟨oe,vs,oT,ts,he,hc,hd,dv,v1,ne,hT,dT,v3⟩:=t;refine⟨a,c,dx,H',some (T,.none),rfl,J.os,J.bare,⟨Yv,J.bq,J.stack,J.jh,J.ok.frames⟩,K5 I.sz h1,n1,⟨oe,vs,he,hc,hd,dv,v1,ne,oT,ts,hT,dT,v3⟩,λ T' fl e=>?_,q⟩;cases e;exact⟨K5 I.sz h2,n2,.inl rfl⟩
end
end L2
namespace L2
open PySem PySem.Spec PyProof.Rows
section
variable {P:Program}{w:World}{K:O8}{mg:Str->Option Value}{base:Heap}
abbrev Mc(P:Program)(w:World)(K:O8)(mg:Str->Option Value)(base:Heap)(N:List Str)(qual:Str)(scope:Scope)(f:Addr)(cd:Value)(A:Around)(outer:List Env)(s:Shared)(H:Hp)(E:XK):Cx:=
 (oQ (oj P w) P w K mg base N qual scope f cd A outer s H E).gb (XF (oQ (oj P w) P w K mg base N qual scope f cd A outer s H E) E)
theorem dU.Z6 {x qual:Str}{st:Stmt}{f:Addr}{fd:FuncData}{N ps:List Str}{k:Nat}{sp:Sp}(F:dU K x qual st f fd)(S:aH N ps (ai st))(len:∀vs H Q E,sp vs H Q E->vs.length=ps.length) (fP:∀(bT:Value) (A:Around) (outer:List Env) (s:Shared) (H:Hp) (vs:List V) (Q:VK) (E:XK),bK k (A.deeper (envOfC qual (ai st) s.heap.objs.size f bT))->sp vs H Q E->
   ∃t,oV (Mc P w K mg base N qual (ai st) f bT A outer s H E) (ck st) t/\t {nx:=λ _ H'=>Q .bu H',rt:=Q} (start N vs) H):bx P w K mg base (oj P w) (k+1) f fd ps sp:=by
 obtain⟨oc,od,kV,doc,pm,an,bT,ct,Aj,rfl,lk,hcd⟩:=F.ex;refine LQ lk hcd S len λ A outer s H vs Q E hr AQ=>?_;obtain⟨t,h,q⟩:=fP bT A outer s H vs Q E hr AQ;refine⟨t,λ pins s' σ H' D I ht=>?_,q⟩;exact O0 (h pins s' σ H' D (I.gb _) ht) (λ _ _ z=>z.dJ) λ e s2 z=>Mj rfl rfl (L8 _) I.ok.frames z
theorem jL{N:List Str}{qual:Str}{scope:Scope}{f:Addr}{cd:Value}{A:Around}{outer:List Env}{s:Shared}{H:Hp}{E:XK}:PassesOwn (model P w) (Mc P w K mg base N qual scope f cd A outer s H E).A (Mc P w K mg base N qual scope f cd A outer s H E).env (Mc P w K mg base N qual scope f cd A outer s H E).xe:=GY rfl rfl (L8 _)
theorem dA{N:List Str}{qual:Str}{scope:Scope}{f:Addr}{cd:Value}{A:Around}{outer:List Env}{s:Shared}{H:Hp}{E:XK}:iW (Mc P w K mg base N qual scope f cd A outer s H E) E:=BY rfl
theorem uW{N:List Str}{qual:Str}{scope:Scope}{f:Addr}{cd:Value}{A:Around}{outer:List Env}{s:Shared}{H:Hp}{E:XK}:Passes (oj P w) (Mc P w K mg base N qual scope f cd A outer s H E) E:=GZ rfl
end
end L2
namespace L3
open PySem PySem.Spec PyProof.Rows L2
abbrev zq:=Addr->List (Str×D)->Mem->Prop
def og(K:O8)(H:Hp)(ds:List (Str×D))(fs:List (Str×V)):Prop:=Paired (λ(p:Str×D) (q:Str×V)=>p.1=q.1/\Dat K H p.2 q.2) ds fs
def VP(K:O8)(E2:zq):XK:=λ c od H=>∃C dx fs ds M,c=.ref C/\od=some dx/\H dx=some (XD dx fs)/\og K H ds fs/\RelM K H M/\E2 C ds M
def iK(K:O8)(H:Hp)(E2:zq)(E:XK):Prop:=∀C dx fs ds H' M',H' dx=some (XD dx fs)->og K H' ds fs->RelM K H' M'->ao H H'->E2 C ds M'->E (.ref C) (some dx) H'
theorem Un.text {fs ex:List Addr}{H H':Hp}{h h':Heap}(u:Un fs ex H H' h h'):ao H H':=⟨u.fE,u.fw⟩
section
variable {X:Cx}{E:XK}{E2:zq}
theorem zN(hs:iW X E)(k:iK X.K X.H₀ E2 E):iW X (VP X.K E2):=by intro pins σ H s e C t od J le hx ⟨C',dx,fs,ds,M,e1,e2,hd,fr,rm,q⟩;cases e1;subst e2;refine hs pins σ H s e C t (some dx) J le hx (k C dx fs ds _ M hd fr rm ?_ q);have u:=Un.text J.base;exact⟨λ b xs z=>by have y:=u.tup b xs z;rw[eK (λ w=>by rw[w,hx]at y;cases y)];exact y,λ b o v z=>by have y:=u.lW b o v z;rw[eK (λ w=>by rw[w,hx]at y;cases y)];exact y⟩
theorem Ai(hp:Passes (oj X.prog X.w) X E)(k:iK X.K X.H₀ E2 E):Passes (oj X.prog X.w) X (VP X.K E2):=by rintro pins σ H s e s' I ⟨a,c,od,T,H',rfl,jC,bare,un,bq,h1,h2,n1,n2,t,C',dx,fs,ds,M,rfl,rfl,hd,fr,rm,q⟩;exact hp pins σ H s _ s' I ⟨a,_,_,T,H',rfl,jC,bare,un,bq,h1,h2,n1,n2,t,k C' dx fs ds H' M hd fr rm ((Un.text I.base).trans (Un.text un)) q⟩
end
def Bb{α:Type}(ns:List Str)(us:List α):List (Str×α):=(ns.zip us).reverse
theorem Fw{K:O8}{H:Hp}:∀(ns:List Str) {ds:List D} {us:List V},aE K H ds us->og K H (Bb ns ds) (Bb ns us):=by
 have app:∀{a b:List (Str×D)} {c d:List (Str×V)},og K H a c->og K H b d->og K H (a++b) (c++d):=by
  intro a b c d h1 h2
  induction h1 with
  |nil=>exact h2
  |cons p _ ih=>exact .cons p ih
 intro ns
 induction ns with
 |nil=>intro ds us _;exact .nil
 |cons n ns ih=>
  intro ds us h;cases ds with
  |nil=>cases(aq.mp h);exact .nil
  |cons d ds=>obtain⟨u,r,rfl,hu,hr⟩:=ag.mp h;unfold Bb;rw[x9,x9,reverse_cons,reverse_cons];exact app (ih hr) (.cons ⟨rfl,hu⟩ .nil)
def RE(C:Addr)(ns:List Str):Sp:=λ vs H Q _=>∃e t us,vs=.ref e::us/\us.length=ns.length/\H e=some (XO e C none t)/\∀t' dx,H dx=none->dx≠e->Q .bu (upd (upd H e (XO e C (some dx) t')) dx (XD dx (Bb ns us)))
theorem KI{H:Hp}{e dx:Addr}{a b:HO}(h:H e=none)(ne:dx≠e):Ra (upd (upd H e a) dx b) e=upd H dx b:=by
 funext c;by_cases z:c=e
 ·rw[z,jI,aA ne.symm,h]
 ·rw[eK z];by_cases y:c=dx
  ·rw[y,aJ,aJ]
  ·rw[aA y,aA y,aA z]
section
variable {X:Cx}{E:XK}{E2:zq}{C fI:Addr}{k:Nat}{fd:FuncData}{ps ns:List Str}{x:Str}{np bC pos:Pos}{a:Expr}{as:List Expr}{t:eT}
def wj(C:Addr)(ns:List Str)(E2:zq)(t:eT):hZ:=λ _ δ M=>t δ M λ ds M1=>ds.length=ns.length/\ns.length<=900/\E2 C (Bb ns ds) M1
theorem Dw(hs:iW X E)(kx:iK X.K X.H₀ E2 E)(hc:X.calm=true)(hg:Gl X x)(hm:X.mg x=some (.ref C))(ec:xK X.K C fI)(F:bx X.prog X.w X.K X.mg X.base eS k fI fd ps (RE C ns))(hr:bK (k+1) X.A)(hb:Binds X.K fd ps []) (ha:QA X (a::as) t) (hdb:(x==("__debug__":Str))=false:=by decide) (he:starEach (a::as) X.env=(false,eval a X.env)::starEach as X.env:=by rfl) (hpl:(backTo bC (starEach as X.env)).any (·.1)=false:=by rfl):QS X (.Raise (some (.Call (.Name x np) (a::as) [] bC)) none pos) (wj C ns E2 t):=
 iE (DG (zN hs kx) hc hg hm ec F hr hb ha hdb he hpl) λ D σ H ⟨δ,M,D2,hs,hm,q,kk⟩=>by
  refine⟨δ,M,_,hs,hm,q,λ vs H1 ds M1 hd bR t1 ⟨hl,gE,q1⟩=>⟨by rw[hd.length,hl];omega,λ e t0 fe=>?_⟩⟩;refine⟨e,t0,vs,rfl,by rw[hd.length,hl],aJ,λ t' dx Zj ne=>⟨rfl,some dx,t',?_,?_⟩⟩
  ·rw[aA ne.symm,ig,aJ]
  ·have Zi:H1 dx=none:=by rw[aA ne]at Zj;exact Zj
   rw[ig,KI fe ne];exact⟨C,dx,_,_,M1,rfl,rfl,aJ,Fw ns (aE.mono (ao.laid Zi) _ hd),bR.laid Zi,q1⟩
end
end L3
namespace L2
open PySem PySem.Spec PyProof.Rows
theorem pE:∀(cs:List Addr) {au:List Value},Vals (cs.map V.ref) au->au=cs.map Value.ref
 |[],_,rv=>by cases rv;rfl
 |c::cs,_,rv=>by obtain⟨w,ws,rfl,wo,r4⟩:=ie rv;obtain rfl:w=Value.ref c:=wo;rw[pE cs r4];rfl
section
variable {X:Cx}{x:Str}{pos:Pos}{C:Addr}
def Hi(C:Addr):TE:=λ _ H Q=>Q (.ref C) H
theorem ft(hg:Gl X x)(hm:X.mg x=some (.ref C))(hdb:(x==("__debug__":Str))=false:=by decide):PE X (.Name x pos) (Hi C):=λ pins s σ H Q I h=>e_ I hg hm ⟨.ref C,H,I,rfl,h⟩ hdb
theorem Bt:cK X (.builtin "isinstance") (λ xs H Q=>∃(a C dx:Addr) (fs:List (Str×V)) (c:Addr) (b:Bool),xs=[.ref a,.ref c]/\H a=some (XT a C (some dx))/\H dx=some (XD dx fs)/\oW X.K C/\PySem.W.kitOne X.K (.ref C) (.ref c)=some b/\Q (.bl b) H):=by intro pins s σ H xs us Q I r ⟨a,C,dx,fs,c,b,e,h1,h2,ei,k,q⟩;subst e;obtain⟨u,VO,rfl,ru,r2⟩:=ie r;obtain⟨u2,rfl,r3⟩:=vals1 r2;obtain rfl:u=Value.ref a:=ru;obtain rfl:u2=Value.ref c:=r3;exact Kb I h1 h2 ei k λ tk=>⟨.bl b,H,I.tok tk,rfl,q⟩
theorem xF:cK X (.builtin "isinstance") (λ xs H Q=>∃(a C dx:Addr) (fs:List (Str×V)) (tp:Addr) (cs:List Addr) (b:Bool),xs=[.ref a,.ref tp]/\H a=some (XT a C (some dx))/\H dx=some (XD dx fs)/\oW X.K C/\H tp=some (.tup (cs.map V.ref))/\PySem.W.kitAny X.K (.ref C) (cs.map Value.ref)=some b/\Q (.bl b) H):=by intro pins s σ H xs us Q I r ⟨a,C,dx,fs,tp,cs,b,e,h1,h2,ei,ht,k,q⟩;subst e;obtain⟨u,VO,rfl,ru,r2⟩:=ie r;obtain⟨u2,rfl,r3⟩:=vals1 r2;obtain rfl:u=Value.ref a:=ru;obtain rfl:u2=Value.ref tp:=r3;obtain⟨_,au,rv,o,ho,hc,hd⟩:=I.bq tp _ ht;have ei2:au=cs.map Value.ref:=pE cs rv;subst ei2;obtain⟨n,hd⟩:=hd;obtain⟨oc,od,da,sl⟩:=o;dsimp only at hc hd;subst hc hd;exact ES I h1 h2 ei ho k λ tk=>⟨.bl b,H,I.tok tk,rfl,q⟩
end
end L2
namespace L3
open PySem PySem.Spec PyProof.Rows L2
abbrev sy:=List D->Mem->bF->zq->Prop
def iD(K:O8)(sp:sy):Sp:=λ vs H Q E=>∃ds M Q2 E2,aE K H ds vs/\RelM K H M/\sp ds M Q2 E2/\iC K H Q2 Q/\iK K H E2 E
structure h_(P:Program)(w:World)(K:O8)(mg:Str->Option Value)(base:Heap)(k:Nat)(x:Str)(ps:List Str)(sp:sy):Prop where
 ex:∃(f:Addr) (fd:FuncData),bx P w K mg base (oj P w) k f fd ps (iD K sp)/\mg x=some (.ref f)/\PySem.W.keepIn K (.ref f)=true/\Binds K fd ps []
section
variable {P:Program}{w:World}{K:O8}{mg:Str->Option Value}{base:Heap}
theorem Wn{x qual:Str}{st:Stmt}{f:Addr}{fd:FuncData}{N ps:List Str}{k:Nat}{sp:sy}(F:dU K x qual st f fd)(S:aH N ps (ai st))(len:∀ds M Q E,sp ds M Q E->ds.length=ps.length) (fP:∀(bT:Value) (A:Around) (outer:List Env) (s:Shared) (H:Hp) (E:XK) (ds:List D) (M:Mem) (Q:bF) (E2:zq),bK k (A.deeper (PyProof.Rows.envOfC qual (ai st) s.heap.objs.size f bT))->sp ds M Q E2->iK K H E2 E->
   ∃t,Gq (Mc P w K mg base N qual (ai st) f bT A outer s H E) (ck st) t/\t {nx:=λ _ M'=>fin2 Q .bu M',rt:=fin2 Q} (gg N ds) M):bx P w K mg base (oj P w) (k+1) f fd ps (iD K sp):=by
 refine F.Z6 S (λ vs H Q E h=>?_) (λ bT A outer s H vs Q E hr h=>?_)
 ·obtain⟨ds,M,Q2,E2,hd,_,hs,_⟩:=h;rw[hd.length];exact len ds M Q2 E2 hs
 ·obtain⟨ds,M,Q2,E2,hd,hm,hs,kk,kx⟩:=h;obtain⟨t,ht,q⟩:=fP bT A outer s H E ds M Q2 E2 hr hs kx;refine⟨_,ht,gg N ds,M,_,pz hd,hm,q,⟨?_,?_,?_,?_⟩⟩
  ·exact λ σ' H' δ' M' _ dH t' ⟨BQ,s,q⟩=>kk _ H' .bu BQ (dh.mpr rfl) (dH.sub s) t' q
  ·exact λ v H' d M' gH dH t' ⟨BQ,s,q⟩=>kk v H' d BQ gH (dH.sub s) t' q
  ·exact λ σ' H' δ' M' _ dH t' q=>q
  ·exact λ σ' H' δ' M' _ dH t' q=>q
end
section
variable {X:Cx}{E:XK}{E2:zq}{k:Nat}{ps:List Str}{sp:sy}{x:Str}{p pos:Pos}{e:Expr}{es:List Expr}{t:eT}
theorem Ci{K:O8}{H:Hp}:iK K H E2 (VP K E2):=λ C dx fs ds H' M' a b c _ q=>⟨C,dx,fs,ds,M',rfl,rfl,a,b,c,q⟩
def Va(sp:sy)(E2:zq)(t:eT):bX:=λ δ M Q=>t δ M λ ds M1=>sp ds M1 Q E2
theorem Oh(hp:Passes (oj X.prog X.w) X E)(kx:iK X.K X.H₀ E2 E)(d:h_ X.prog X.w X.K X.mg X.base k x ps sp)(hr:bK k X.A)(hg:Gl X x)(ha:QA X (e::es) t)(hdb:(x==("__debug__":Str))=false:=by decide) (he:starEach (e::es) X.env=(false,eval e X.env)::starEach es X.env:=by rfl) (hpl:(backTo pos (starEach es X.env)).any (·.1)=false:=by rfl):QE X (.Call (.Name x p) (e::es) [] pos) (Va sp E2 t):=by obtain⟨f,fd,F,hm,kp,b⟩:=d.ex;refine bL (yw F hr hg hm kp b (dvs:=[]) .nil (Ai hp kx) ha hdb he hpl) λ σ H Q ⟨δ,M,Q2,hs,hm,q,kk⟩=>?_;refine⟨δ,M,_,hs,hm,q,λ vs H1 ds M1 hd bR t1 q1=>?_⟩;show iD X.K sp (vs++[]) H1 Q _;rw[C1];exact⟨ds,M1,Q2,E2,hd,bR,q1,kk.mono t1,Ci⟩
end
end L3
namespace L3
open PySem PySem.Spec PyProof.Rows L2
theorem bQ.unset {K:O8}{H:Hp}{δ:cV}{σ:L2.St}(h:bQ K H δ σ){i:Nat}{o:Option V}:bQ K H (δ.set i none) (σ.set i o):=by
 refine⟨by rw[E5,E5];exact h.len,λ j e hj=>?_⟩;by_cases oK:i=j
 ·subst oK;have hi:i < δ.length:=by have:=(i5.mp hj).1;simpa using this
  rw[k4 hi]at hj;cases hj
 ·rw[n9 oK]at hj;obtain⟨u,q,w⟩:=h.get j e hj;exact⟨u,by rw[n9 oK];exact q,w⟩
def dG.but (D:dG)(i:Nat):dG:={nx:=λ δ M=>D.nx (δ.set i none) M,rt:=D.rt,bk:=λ δ M=>D.bk (δ.set i none) M,ct:=λ δ M=>D.ct (δ.set i none) M}
theorem og.mono {K:O8}{H H':Hp}(t:ao H H'){ds:List (Str×D)}{fs:List (Str×V)}(h:og K H ds fs):og K H' ds fs:=by
 induction h with
 |nil=>exact .nil
 |cons p _ ih=>exact .cons ⟨p.1,Dat.mono t _ p.2⟩ ih
def zt(X:Cx)(i:Nat)(Lr:List Stmt)(h2:Addr->List (Str×D)->hZ):Prop:=∃th:Addr->TS,(∀a,oV (X.Kf a) Lr (th a))/\
 ∀(a C dx:Addr) (fs:List (Str×V)) (ds:List (Str×D)) (D:Ends) (D2:dG) (σ:L2.St) (H:Hp) (δ:cV) (M:Mem),σ[i]?=some (some (.ref a))->H a=some (XT a C (some dx))->H dx=some (XD dx fs)->og X.K H ds fs->bQ X.K H δ σ->RelM X.K H M->h2 C ds D2 δ M->qi X.K H D2 D->th a D σ H
section
variable {X:Cx}{k:Nat}{ps:List Str}{sp:sy}{x:Str}{p pos:Pos}{e:Expr}{es:List Expr}{t:eT}
def CJ(K:O8)(sp:sy)(CE:Addr)(i j:Nat)(h2:Addr->List (Str×D)->hZ)(t:eT):hZ:=λ D δ M=>i < δ.length/\t δ M λ ds M1=>sp ds M1 (λ d M2=>D.nx (δ.set j (some d)) M2) (λ C fs M2=>lH K C/\zM K C CE=true/\h2 C fs (D.but i) (δ.set i none) M2)
theorem Iy{y n xc:Str}{i j:Nat}{py np w_ gQ my:Pos}{b0:Stmt}{suite:List Stmt}{h2:Addr->List (Str×D)->hZ}{CE:Addr}(hE:∀v s,X.xe v s->False)(hst:X.stack=X.env::X.outer/\X.env.frame=some X.env.locals)(hN:X.N.Nodup) (hj:X.N[j]?=some y) (hy:Loc X.env.scope y) (hi:X.N[i]?=some n) (hk:X.env.scope.names.lookup n=some .local) (d:h_ X.prog X.w X.K X.mg X.base k x ps sp) (hr:bK k X.A) (hg:Gl X x) (ha:QA X (e::es) t) (Tw:Gl X xc) (Th:X.mg xc=some (.ref CE)) (hC:lH X.K CE) (hs:zt X i (b0::suite) h2) (hsw:swapsWith (.Call (.Name x p) (e::es) [] pos) (some (.Name y py)) gQ.line X.env=pure false:=by rfl) (hf:X.fn y=true\/X.env.scope.names.lookup y=some .local:=by first|exact .inl rfl|exact .inr rfl|assumption) (hdb:(x==("__debug__":Str))=false:=by decide) (Fo:(xc==("__debug__":Str))=false:=by decide) (he:starEach (e::es) X.env=(false,eval e X.env)::starEach es X.env:=by rfl) (hpl:(backTo pos (starEach es X.env)).any (·.1)=false:=by rfl):QS X (.Try [.Assign [.Name y py] (.Call (.Name x p) (e::es) [] pos) gQ] [.ExceptHandler (some (.Name xc np)) (some n) (b0::suite) w_] [] [] my) (CJ X.K sp CE i j h2 t):=by
 obtain⟨f,fd,F,hm,kp,b⟩:=d.ex;obtain⟨th,hth,hl⟩:=hs;refine iE (IS hE hst hN hj hy hi hk F hr hg hm kp b ha Tw Th hC hth hsw hf hdb Fo he hpl) λ D σ H ⟨δ,M,D2,hs,hm,⟨li,q⟩,kk⟩=>?_;refine⟨δ,M,_,hs,hm,q,λ vs H1 ds M1 hd bR t1 q1=>⟨ds,M1,_,_,hd,bR,q1,λ v H2 d M2 hd2 ja t2 q2=>?_,λ C dx fs dss H2 M2 hx fr rm t2 ⟨ec,sc,q2⟩=>⟨C,rfl,ec,sc,λ a na=>?_⟩⟩⟩
 ·exact kk.nx _ H2 _ M2 ((hs.mono (t1.trans t2)).set hd2) ja (t1.trans t2) q2
 ·have ne:dx≠a:=λ z=>by rw[z,na]at hx;cases hx
  have tl:ao H2 (upd H2 a (XT a C (some dx))):=ao.laid na;have hlen:=hs.len;refine hl a C dx fs dss (L2.Ends.but D i) (dG.but D2 i) _ _ (δ.set i none) M2 (k4 (by rw[<- hlen];exact li)) aJ (by rw[aA ne];exact hx) (fr.mono tl) (bQ.unset (hs.mono ((t1.trans t2).trans tl))) (rm.laid na) q2 ⟨?_,?_,?_,?_⟩
  ·exact λ σ' H' δ' M' lB dH t' q'=>kk.nx _ H' _ M' lB.unset dH ((t1.trans t2).trans (tl.trans t')) q'
  ·exact λ v H' d M' gH dH t' q'=>kk.rt v H' d M' gH dH ((t1.trans t2).trans (tl.trans t')) q'
  ·exact λ σ' H' δ' M' lB dH t' q'=>kk.bk _ H' _ M' lB.unset dH ((t1.trans t2).trans (tl.trans t')) q'
  ·exact λ σ' H' δ' M' lB dH t' q'=>kk.ct _ H' _ M' lB.unset dH ((t1.trans t2).trans (tl.trans t')) q'
end
end L3
namespace L4
open PySem PySem.Spec L2 L3
section
variable {X:Cx}{e:Expr}{te:bX}{tt:dX}
theorem cw(h:WE X.sx e te):WE X e te:=⟨PE.sx h.h⟩
theorem iL(h:WT X.sx e tt):WT X e tt:=⟨PT.sx h.h⟩
end
structure zw(P:Program)(w:World)(K:O8)(mg:Str->Option Value)(base:Heap)(k:Nat)(x:Str)(C:Addr)(ns:List Str):Prop where
 nm:mg x=some (.ref C)
 ex:∃(fI:Addr) (fd:FuncData) (ps:List Str),xK K C fI/\bx P w K mg base eS k fI fd ps (RE C ns)/\Binds K fd ps []
section
variable {X:Cx}{E:XK}{E2:zq}{C:Addr}{k:Nat}{ps ns:List Str}{x:Str}{p np bC pos:Pos}{a e:Expr}{as es:List Expr}{t:eT}{sp:sy}
theorem dY(hs:iW X E)(kx:iK X.K X.H₀ E2 E)(hc:X.calm=true)(hg:Gl X x)(er:zw X.prog X.w X.K X.mg X.base k x C ns)(hr:bK (k+1) X.A)(ha:WA X (a::as) t)(hdb:(x==("__debug__":Str))=false:=by decide) (he:starEach (a::as) X.env=(false,eval a X.env)::starEach as X.env:=by rfl) (hpl:(backTo bC (starEach as X.env)).any (·.1)=false:=by rfl):WS X (.Raise (some (.Call (.Name x np) (a::as) [] bC)) none pos) (wj C ns E2 t):=by obtain⟨fI,fd,ps,ec,F,b⟩:=er.ex;exact⟨Dw hs kx hc hg er.nm ec F hr b ha.h hdb he hpl⟩
theorem vT(hp:Passes (oj X.prog X.w) X E)(kx:iK X.K X.H₀ E2 E)(d:h_ X.prog X.w X.K X.mg X.base k x ps sp)(hr:bK k X.A)(hg:Gl X x)(ha:WA X (e::es) t)(hdb:(x==("__debug__":Str))=false:=by decide) (he:starEach (e::es) X.env=(false,eval e X.env)::starEach es X.env:=by rfl) (hpl:(backTo pos (starEach es X.env)).any (·.1)=false:=by rfl):WE X (.Call (.Name x p) (e::es) [] pos) (Va sp E2 t):=⟨Oh hp kx d hr hg ha.h hdb he hpl⟩
theorem G_{y n xc:Str}{i j:Nat}{py np w_ gQ my:Pos}{b0:Stmt}{suite:List Stmt}{h2:Addr->List (Str×D)->hZ}{CE:Addr}(hE:∀v s,X.xe v s->False)(hst:X.stack=X.env::X.outer/\X.env.frame=some X.env.locals)(hN:X.N.Nodup) (hj:X.N[j]?=some y) (hy:Loc X.env.scope y) (hi:X.N[i]?=some n) (hk:X.env.scope.names.lookup n=some .local) (d:h_ X.prog X.w X.K X.mg X.base k x ps sp) (hr:bK k X.A) (hg:Gl X x) (ha:WA X (e::es) t) (Tw:Gl X xc) (Th:X.mg xc=some (.ref CE)) (hC:lH X.K CE) (hs:zt X i (b0::suite) h2) (hsw:swapsWith (.Call (.Name x p) (e::es) [] pos) (some (.Name y py)) gQ.line X.env=pure false:=by rfl) (hf:X.fn y=true\/X.env.scope.names.lookup y=some .local:=by first|exact .inl rfl|exact .inr rfl|assumption) (hdb:(x==("__debug__":Str))=false:=by decide) (Fo:(xc==("__debug__":Str))=false:=by decide) (he:starEach (e::es) X.env=(false,eval e X.env)::starEach es X.env:=by rfl) (hpl:(backTo pos (starEach es X.env)).any (·.1)=false:=by rfl):WS X (.Try [.Assign [.Name y py] (.Call (.Name x p) (e::es) [] pos) gQ] [.ExceptHandler (some (.Name xc np)) (some n) (b0::suite) w_] [] [] my) (CJ X.K sp CE i j h2 t):=
 ⟨Iy hE hst hN hj hy hi hk d hr hg ha.h Tw Th hC hs hsw hf hdb Fo he hpl⟩
end
theorem Ss{P:Program}{w:World}{K:O8}{mg:Str->Option Value}{base:Heap}{x qual:Str}{st:Stmt}{f:Addr}{fd:FuncData}{N ps:List Str}{k:Nat}{sp:sy}(F:dU K x qual st f fd)(S:aH N ps (ai st))(len:∀ds M Q E,sp ds M Q E->ds.length=ps.length) (fP:∀(bT:Value) (A:Around) (outer:List Env) (s:Shared) (H:Hp) (E:XK) (ds:List D) (M:Mem) (Q:bF) (E2:zq),bK k (A.deeper (PyProof.Rows.envOfC qual (ai st) s.heap.objs.size f bT))->sp ds M Q E2->iK K H E2 E->
   ∃t,GV (Mc P w K mg base N qual (ai st) f bT A outer s H E) (ck st) t/\t {nx:=λ _ M'=>fin2 Q .bu M',rt:=fin2 Q} (gg N ds) M):bx P w K mg base (oj P w) (k+1) f fd ps (iD K sp):=
 L3.Wn F S len λ bT A outer s H E ds M Q E2 hr h kx=>by obtain⟨t,ht,q⟩:=fP bT A outer s H E ds M Q E2 hr h kx;exact⟨t,ht.h,q⟩
theorem eB{C:Addr}{ns:List Str}{E2:zq}{t:eT}{D:dG}{δ:cV}{M:Mem}(h:t δ M λ ds M1=>ds.length=ns.length/\ns.length<=900/\E2 C (Bb ns ds) M1):wj C ns E2 t D δ M:=h
theorem RO{sp:sy}{E2:zq}{t:eT}{δ:cV}{M:Mem}{Q:bF}(h:t δ M λ ds M1=>sp ds M1 Q E2):Va sp E2 t δ M Q:=h
theorem Hz{K:O8}{sp:sy}{CE:Addr}{i j:Nat}{h2:Addr->List (Str×D)->hZ}{t:eT}{D:dG}{δ:cV}{M:Mem}(li:i < δ.length)(h:t δ M λ ds M1=>sp ds M1 (λ d M2=>D.nx (δ.set j (some d)) M2) (λ C fs M2=>lH K C/\zM K C CE=true/\h2 C fs (dG.but D i) (δ.set i none) M2)):CJ K sp CE i j h2 t D δ M:=⟨li,h⟩
end L4
namespace L3
open PySem PySem.Spec PyProof.Rows L2
def xV:List Addr->TA
 |[]=>ow
 |c::cs=>d_ (Hi c) (xV cs)
def Yy(X:Cx)(i j:Nat)(o w fld:Str)(cH:Addr)(cs:List Addr):TS:=
 Rq (Cp (QK (Zw X.K) (Ru (d_ (Hh (d_ (tC (.str o)) ow)) (d_ (Hh (d_ (tC (.str w)) (d_ (Yx X.K (Cm i) fld) ow))) ow)))
   (MH (λ xs H Q=>(∃i,xs=[.int i]/\Q (.int i) H)\/∃k,xs=[.bl k]/\Q (.int (if k then 1 else 0)) H) (d_ (MH (λ xs H Q=>∃(a C dx:Addr) (fs:List (Str×V)) (c:Addr) (b:Bool),xs=[.ref a,.ref c]/\H a=some (XT a C (some dx))/\H dx=some (XD dx fs)/\oW X.K C/\PySem.W.kitOne X.K (.ref C) (.ref c)=some b/\Q (.bl b) H) (d_ (Cm i) (d_ (Hi cH) ow))) ow))) (dO j))
  (Rv (tB (MH (λ xs H Q=>∃(a C dx:Addr) (fs:List (Str×V)) (tp:Addr) (cs:List Addr) (b:Bool),xs=[.ref a,.ref tp]/\H a=some (XT a C (some dx))/\H dx=some (XD dx fs)/\oW X.K C/\H tp=some (.tup (cs.map V.ref))/\PySem.W.kitAny X.K (.ref C) (cs.map Value.ref)=some b/\Q (.bl b) H) (d_ (Cm i) (d_ (Hh (xV cs)) ow)))) Cn Lp)
theorem sQ:∀(cs:List Addr) {σ:L2.St} {H:Hp} {Q:List V->Hp->Prop},Q (cs.map V.ref) H->xV cs σ H Q
 |[],_,_,_,q=>q
 |c::cs,σ,H,Q,q=>by show d_ (Hi c) (xV cs) σ H Q;exact sQ cs (Q:=λ xs H2=>Q (.ref c::xs) H2) q
set_option tactic.hygienic true in
theorem Rz{X:Cx}{i j:Nat}{o w fld:Str}{C cH:Addr}{cs:List Addr}(ne:i≠j)(Q7:cs.length<=900)(ei:oW X.K C)(eg:QD X.K C fld)(kH:PySem.W.kitOne X.K (.ref C) (.ref cH)=some true)(kA:PySem.W.kitAny X.K (.ref C) (cs.map Value.ref)=some false) {a C' dx:Addr} {fs:List (Str×V)} {ds:List (Str×D)} {D:Ends} {D2:dG} {σ:L2.St} {H:Hp} {δ:cV} {M:Mem} (hσ:σ[i]?=some (some (.ref a))) (h1:H a=some (XT a C' (some dx))) (h2:H dx=some (XD dx fs)) (fr:og X.K H ds fs) (sr:bQ X.K H δ σ) (rm:RelM X.K H M) (hh:∃v,C'=C/\ds=[(fld,v)]/\D2.nx (δ.set j (some (.tup [.str w,v]))) M) (ct:qi X.K H D2 D):Yy X i j o w fld cH cs D σ H:=by
 obtain⟨v,rfl,rfl,q⟩:=hh;obtain⟨u,rfl,hu⟩:∃u,fs=[(fld,u)]/\Dat X.K H v u:=by
  cases fr with
  |cons p r=>cases r with
   |nil=>rename_i q;obtain⟨n,u⟩:=q;obtain⟨e,z⟩:=p;cases e;exact⟨u,rfl,z⟩
 refine⟨(l5 rfl:(1:Nat)<=sizeLine),λ p1 f1=>?_⟩;have a1:upd H p1 (.tup [V.str o]) a=some (XT a C' (some dx)):=by rw[aA (aU h1 f1)];exact h1
 have b1:upd H p1 (.tup [V.str o]) dx=some (XD dx [(fld,u)]):=by rw[aA (aU h2 f1)];exact h2
 have t1:ao H (upd H p1 (.tup [V.str o])):=ao.laid f1;have m1:=rm.laid (o:=.tup [V.str o]) f1;generalize upd H p1 (.tup [V.str o])=H1 at*;refine⟨.ref a,hσ,a,C',dx,_,u,rfl,a1,b1,eg,by simp[List.lookup],(l5 rfl:(2:Nat)<=sizeLine),λ p2 f2=>?_⟩;have a2:upd H1 p2 (.tup [V.str w,u]) a=some (XT a C' (some dx)):=by rw[aA (aU a1 f2)];exact a1
 have b2:upd H1 p2 (.tup [V.str w,u]) dx=some (XD dx [(fld,u)]):=by rw[aA (aU b1 f2)];exact b1
 have t2:ao H1 (upd H1 p2 (.tup [V.str w,u])):=ao.laid f2;have m2:=m1.laid (o:=.tup [V.str w,u]) f2;have e2:upd H1 p2 (.tup [V.str w,u]) p2=some (.tup [V.str w,u]):=aJ;generalize upd H1 p2 (.tup [V.str w,u])=H2 at*;refine⟨(l5 rfl:(2:Nat)<=sizeLine),λ p3 f3=>?_⟩;have a3:upd H2 p3 (.lst [V.ref p1,V.ref p2]) a=some (XT a C' (some dx)):=by rw[aA (aU a2 f3)];exact a2
 have b3:upd H2 p3 (.lst [V.ref p1,V.ref p2]) dx=some (XD dx [(fld,u)]):=by rw[aA (aU b2 f3)];exact b2
 have t3:ao H2 (upd H2 p3 (.lst [V.ref p1,V.ref p2])):=ao.laid f3;have m3:=m2.laid (o:=.lst [V.ref p1,V.ref p2]) f3;have e3:upd H2 p3 (.lst [V.ref p1,V.ref p2]) p3=some (.lst [V.ref p1,V.ref p2]):=aJ;have g3:upd H2 p3 (.lst [V.ref p1,V.ref p2]) p2=some (.tup [V.str w,u]):=by rw[aA (aU e2 f3)];exact e2
 generalize upd H2 p3 (.lst [V.ref p1,V.ref p2])=H3 at*;have jj:(σ.set j (some (.ref p2)))[i]?=some (some (.ref a)):=by rw[n9 (O4 ne)];exact hσ
 refine⟨.ref a,hσ,a,C',dx,_,cH,true,rfl,a3,b3,ei,kH,.inr ⟨true,rfl,[V.ref p1,V.ref p2],.ref p2,.inl (.inl (.inl e3)),rfl,.ref a,jj,sQ cs ?_⟩⟩;refine⟨by rw[D3];exact K5 Q7 (l5 rfl),λ p4 f4=>?_⟩;have a4:upd H3 p4 (.tup (cs.map V.ref)) a=some (XT a C' (some dx)):=by rw[aA (aU a3 f4)];exact a3
 have b4:upd H3 p4 (.tup (cs.map V.ref)) dx=some (XD dx [(fld,u)]):=by rw[aA (aU b3 f4)];exact b3
 have t4:ao H3 (upd H3 p4 (.tup (cs.map V.ref))):=ao.laid f4;have m4:=m3.laid (o:=.tup (cs.map V.ref)) f4;have e4:upd H3 p4 (.tup (cs.map V.ref)) p4=some (.tup (cs.map V.ref)):=aJ;have g4:upd H3 p4 (.tup (cs.map V.ref)) p2=some (.tup [V.str w,u]):=by rw[aA (aU g3 f4)];exact g3
 generalize upd H3 p4 (.tup (cs.map V.ref))=H4 at*;refine⟨a,C',dx,_,p4,cs,false,rfl,a4,b4,ei,e4,kA,false,rfl,?_⟩;have tt:=((t1.trans t2).trans t3).trans t4;show D.nx (σ.set j (some (V.ref p2))) H4;refine ct.nx _ H4 _ M ((sr.mono tt).set (aQ.mpr ⟨p2,_,rfl,.inl (.inl g4),?_⟩)) m4 tt q;unfold aE;refine⟨_,_,rfl,aS.mpr rfl,?_⟩;unfold aE;refine⟨_,_,rfl,Dat.mono tt _ hu,?_⟩;unfold aE;rfl
end L3
namespace L4
open PySem L2 L3
def PC:Option (Option Value)->Bool
 |some none=>true|_=>false
theorem Kc:∀{o:Option (Option Value)},PC o=true->o=some none
 |some none,_=>rfl
 |some (some _),h=>by cases h
 |none,h=>by cases h
structure i'(K:O8)(mg:Str->Option Value)(x q:Str)(st:Stmt)(C fI:Addr)(ps ns:List Str):Prop where
 m:mg x=some (.ref C)
 F:∃fd,dU K "__init__" q st fI fd
 ec:xK K C fI
 ei:oW K C
 cat:lH K C
 no:(ns.all λ f=>PC (PySem.W.findIn K (.ref C) f))=true
section
variable {K:O8}{mg:Str->Option Value}{x q:Str}{st:Stmt}{C fI:Addr}{ps ns:List Str}
theorem i'.SK (c:i' K mg x q st C fI ps ns){f:Str}(h:f∈ns):PySem.W.findIn K (.ref C) f=some none:=Kc (B9.mp c.no f h)
theorem i'.eg (c:i' K mg x q st C fI ps ns){f:Str}(h:f∈ns):QD K C f:=⟨c.ei.ga,c.ei.gt,c.SK h,c.ei.ba,c.ei.hd⟩
end
theorem h_.of {P:Program}{w:World}{K:O8}{mg:Str->Option Value}{base:Heap}{k:Nat}{x qual:Str}{ps:List Str}{sp:sy}{st:Stmt}{f:Addr}{fd:FuncData}(F:dU K x qual st f fd)(G:bx P w K mg base (oj P w) k f fd ps (iD K sp))(hm:mg x=some (.ref f))(b:Binds K fd ps []):h_ P w K mg base k x ps sp:=⟨f,fd,G,hm,F.kp,b⟩
theorem WJ{A:Type}{P:List A->Prop}{n:Nat}(h:∀a t,t.length=n->P (a::t)):∀us:List A,us.length=n+1->P us
 |[],e=>nomatch e
 |a::t,e=>h a t (Nat.succ.inj e)
theorem YF{A:Type}{P:List A->Prop}(h:∀a,P [a]):∀us:List A,us.length=1->P us:=WJ λ a t e=>by rw[eq_nil_of_length_eq_zero e];exact h a
theorem ln2{A:Type}{P:List A->Prop}(h:∀a b,P [a,b]):∀us:List A,us.length=2->P us:=WJ λ a=>YF (P:=λ t=>P (a::t)) (h a)
theorem ln3{A:Type}{P:List A->Prop}(h:∀a b c,P [a,b,c]):∀us:List A,us.length=3->P us:=WJ λ a=>ln2 (P:=λ t=>P (a::t)) (h a)
theorem Yp{us:List V}{n:Str}(h:us.length=[n].length):∃u,us=[u]:=YF (P:=λ us=>∃u,us=[u]) (λ a=>⟨a,rfl⟩) us h
theorem ZG{us:List V}{n m:Str}(h:us.length=[n,m].length):∃u v,us=[u,v]:=ln2 (P:=λ us=>∃u v,us=[u,v]) (λ a b=>⟨a,b,rfl⟩) us h
end L4
namespace L2
open PySem PySem.Spec PyProof.Rows
open HT (lexLt bB cu b_ cb)
section
open PySem.SeqAt PySem.MeetsSeq PySem.MeetsSeq2 PySem.MeetsSeq3 PySem.SeqRoads2
open PySem.AutoSeq1 (wpAny_loadPart')
theorem tI(A:Around)(s:Shared)(a:Int)(t:Tok)(c:Int)(u:Tok)(prog:Program)(w:World)(E:Value->Shared->Prop)(Q:Value->Shared->Prop)(h:Q (.bool (decide (a<=c))) s):wpAny (model prog w) A (richCompare .LtE (.int a t) (.int c u)) Q E s:=
 (PyProof.Rows.le_int h:wpAny (model prog w) A (compareOp .LtE (.int a t) (.int c u)) Q E s)
theorem JP(l b:Addr)(xs ys:Array Value)(n k:Nat)(dd ee:Option Addr)(sl tl:Array (Option Value))(ns ms:List Int)(hi:IntsAre xs.toList ns)(hj:IntsAre ys.toList ms)(f:Nat):∀i:Nat,ns.length - i=f->Meets (Builtin.«list.__eq__.loop» ⟨[.ref l,.ref b,rawInt i,rawInt 1],[]⟩)
   (λ A R s=>s.heap.get? l=some {cls:=.type "list",dict:=dd,data:=.seq xs n,slots:=sl}/\s.heap.get? b=some {cls:=.type "list",dict:=ee,data:=.seq ys k,slots:=tl}/\i<=ns.length/\i<=ms.length/\
    R (.ok (.ret (.bool (!lexLt (ms.drop i) (ns.drop i))))) s):=by
 have z1:xs.size=ns.length:=by rw[<- hi.length];simp
 have z2:ys.size=ms.length:=by rw[<- hj.length];simp
 induction f with
 |zero=>
  intro i hf prog w A R s h;obtain⟨hp,g,d,tk,os⟩:=s;obtain⟨hl,hb,i1,i2,h⟩:=h
  wp_walk using C4 hl,C4 hb
  have e1:xs[((i:Nat):Int).toNat]?=none:=by simp;omega
  have d1:ns.drop i=[]:=by simp;omega
  rw[d1]at h;rw[e1];have fin:R (.ok (.ret (.bool (decide (xs.size<=ys.size))))) ⟨hp,g,d,tk,os⟩:=by
   have q:(!lexLt (ms.drop i) [])=decide (xs.size<=ys.size):=by
    rw[E7 (show xs.size<=ys.size by omega)];cases e:ms.drop i with
    |nil=>rw[cu];rfl
    |cons c r=>rw[cb];rfl
   rw[<- q];exact h
  wp_walk using C4 hl,C4 hb
  exact fin
 |succ f ih=>
  intro i hf prog w A R s h;obtain⟨hp,g,d,tk,os⟩:=s;obtain⟨hl,hb,i1,i2,h⟩:=h;have a1:i < ns.length:=by omega
  obtain⟨t,e1⟩:=iw hi a1;have e1:xs[((i:Nat):Int).toNat]?=some (.int ns[i] t):=by simpa using e1
  by_cases a2:i < ms.length
  ·obtain⟨u,e2⟩:=iw hj a2;have e2:ys[((i:Nat):Int).toNat]?=some (.int ms[i] u):=by simpa using e2
   rw[i0 a1,i0 a2,bB]at h
   wp_walk using C4 hl,C4 hb
   rw[e1,e2];refine N6 (EqAt.int_int ns[i] t ms[i] u prog w _ _ ?_);have cc:((i:Int)+1)=((i+1:Nat):Int):=by push_cast;rfl
   by_cases q:ns[i]=ms[i]
   ·rw[O6 q.symm]at h;have qb:(ns[i]==ms[i])=true:=by simp[q]
    rw[qb]
    wp_walk
    rw[cc];exact⟨J7 plain_eq_loop _,C9 entry_eq_loop (by rw[m7 plain_eq_loop _];exact ih (i+1) (by omega) prog w A R _ ⟨hl,hb,by omega,by omega,h⟩)⟩
   ·rw[O7 (O4 q)]at h;have qb:(ns[i]==ms[i])=false:=by simp[q]
    rw[qb];have rl:=tI A.in1 ⟨hp,g,d,tk,os⟩ ns[i] t ms[i] u prog w
    wp_walk using C4 hl,C4 hb
    rw[e1,e2]
    wp_walk using rl
    have qq:(!decide (ms[i] < ns[i]))=decide (ns[i]<=ms[i]):=by
     by_cases z:ns[i]<=ms[i]
     ·rw[E7 z,C3 (by omega)];rfl
     ·rw[C3 z,E7 (by omega)];rfl
    rw[<- qq];exact h
  ·have e2:ys[((i:Nat):Int).toNat]?=none:=by simp;omega
   have d2:ms.drop i=[]:=by simp;omega
   rw[i0 a1,d2,b_]at h
   wp_walk using C4 hl,C4 hb
   rw[e1,e2]
   wp_walk using C4 hl,C4 hb
   have q:decide (xs.size<=ys.size)=false:=C3 (by omega);show R (.ok (.ret (.bool (decide (xs.size<=ys.size))))) _;rw[q];exact h
theorem mZ(l b:Addr)(xs ys:Array Value)(n k:Nat)(dd ee:Option Addr)(sl tl:Array (Option Value))(ns ms:List Int)(hi:IntsAre xs.toList ns)(hj:IntsAre ys.toList ms):
  Meets (Builtin.«list.__le__» ⟨[.ref l,.ref b],[]⟩) (λ A R s=>s.heap.get? l=some {cls:=.type "list",dict:=dd,data:=.seq xs n,slots:=sl}/\s.heap.get? b=some {cls:=.type "list",dict:=ee,data:=.seq ys k,slots:=tl}/\
    R (.ok (.ret (.bool (!lexLt ms ns)))) s):=by
 intro prog w A R s h;obtain⟨hp,g,d,tk,os⟩:=s;obtain⟨hl,hb,h⟩:=h;have f3:=AutoSeq1.sub_list_list
 wp_walk using C4 hl,C4 hb
 exact⟨J7 plain_eq_loop _,C9 entry_eq_loop (by rw[m7 plain_eq_loop _];exact JP l b xs ys n k dd ee sl tl ns ms hi hj _ 0 rfl prog w A R _ ⟨hl,hb,N3 _,N3 _,h⟩)⟩
theorem Ez{prog:Program}{w:World}{A:Around}{E:Value->Shared->Prop}{s:Shared}{l b:Addr}{xs ys:Array Value}{ns ms:List Int}{Q:Value->Shared->Prop}(hl:s.heap.IsList l xs)(hb:s.heap.IsList b ys)(hi:IntsAre xs.toList ns)(hj:IntsAre ys.toList ms) (hu:A.units < cLine) (h:Q (.bool (!lexLt ms ns)) s):wpAny (model prog w) A (compareOp .LtE (.ref l) (.ref b)) Q E s:=by
 obtain⟨⟨c1,dd,da,sl⟩,o1,k1,n,d1⟩:=id hl;obtain⟨⟨c2,ee,db,tl⟩,o2,k2,m,d2⟩:=id hb;simp only at k1 d1 k2 d2;subst k1 d1 k2 d2;exact j9 (op:=.LtE) ⟨_,o1,rfl⟩ ⟨_,o2,rfl⟩ PySem.F.slot_list_le PySem.F.entry_list_le (PySem.F.args_list_le_2 _ _) (mZ l b xs ys n m dd ee sl tl ns ms hi hj)
  ⟨o1,o2,show Value.bool (!lexLt ms ns)≠Value.notImplemented/\Q (.bool (!lexLt ms ns)) s from⟨(λ x=>nomatch x),h⟩⟩ hu
theorem Pp{l b m m':Addr}{i j:Int}{t u:Tok}{ns ms:List Int}{xs ys:List Value}{n k:Nat}{dd ee:Option Addr}{sl tl:Array (Option Value)}(i1:IntsAre xs ns)(i2:IntsAre ys ms):Meets (Builtin.«tuple.__le__» ⟨[.ref l,.ref b],[]⟩)
   (λ A R s=>s.heap.get? l=some {cls:=.type "tuple",dict:=dd,data:=.seq #[.int i t,.ref m] n,slots:=sl}/\s.heap.get? b=some {cls:=.type "tuple",dict:=ee,data:=.seq #[.int j u,.ref m'] k,slots:=tl}/\s.heap.IsList m xs.toArray/\s.heap.IsList m' ys.toArray/\A.units+2 < cLine/\
    R (.ok (.ret (.bool (!klt (j,ms) (i,ns))))) s):=
 .of_wp λ prog w A R s h=>by
  obtain⟨hp,g,d,tk,os⟩:=s;obtain⟨hl,hb,h1,h2,hu,h⟩:=h;have f2:=AutoSeq1.sub_tuple_tuple;have q1:=EqAt.int_int (A:=A.in1) (s:=⟨hp,g,d,tk,os⟩) i t j u prog w;have q2:=yT (A:=A.in1) (s:=⟨hp,g,d,tk,os⟩) (b:=false) h1 h2 i1 i2 (by show A.in1.units+1 < cLine;exact u9 (by exact L8 _) hu) prog w;unfold klt at h;dsimp only at h;by_cases e:i=j
  ·rw[O6 e.symm]at h;rw[show(i==j)=true by simp[e]]at q1;by_cases e2:ns=ms
   ·rw[E7 e2]at q2;rw[e2,lT]at h
    wp_walk using C4 hl,C4 hb,q1,q2
    exact⟨_,rfl,h⟩
   ·rw[C3 e2]at q2;have q3:∀(E:Value->Shared->Prop) (Q:Value->Shared->Prop),Q (.bool (!lexLt ms ns)) ⟨hp,g,d,tk,os⟩->wpAny (model prog w) A.in1 (richCompare .LtE (.ref m) (.ref m')) Q E ⟨hp,g,d,tk,os⟩:=λ E Q z=>Ez (A:=A.in1) h1 h2 i1 i2 (by show A.units+1 < cLine;omega) z
    wp_walk using C4 hl,C4 hb,q1,q2,q3
    exact⟨_,rfl,h⟩
  ·rw[O7 (O4 e)]at h;rw[show(i==j)=false by simp[e]]at q1;have q3:=tI A.in1 ⟨hp,g,d,tk,os⟩ i t j u prog w;have qq:(!decide (j < i))=decide (i<=j):=by
    by_cases z:i<=j
    ·rw[E7 z,C3 (by omega)];rfl
    ·rw[C3 z,E7 (by omega)];rfl
   rw[qq]at h
   wp_walk using C4 hl,C4 hb,q1,q3
   exact⟨_,rfl,h⟩
theorem JQ{prog:Program}{w:World}{A:Around}{E:Value->Shared->Prop}{s:Shared}{l b m m':Addr}{i j:Int}{t u:Tok}{ns ms:List Int}{xs ys:List Value}{n k:Nat}{o o':Obj}{Q:Value->Shared->Prop}(ho:s.heap.get? l=some o)(hc:o.cls=.type "tuple")(hd:o.data=.seq #[.int i t,.ref m] n)(kQ:s.heap.get? b=some o')(vF:o'.cls=.type "tuple")(gH:o'.data=.seq #[.int j u,.ref m'] k) (h1:s.heap.IsList m xs.toArray) (h2:s.heap.IsList m' ys.toArray) (i1:IntsAre xs ns) (i2:IntsAre ys ms) (hu:A.units+2 < cLine) (h:Q (.bool (!klt (j,ms) (i,ns))) s):wpAny (model prog w) A (compareOp .LtE (.ref l) (.ref b)) Q E s:=by
 obtain⟨c1,dd,da,sl⟩:=o;obtain⟨c2,ee,db,tl⟩:=o';dsimp only at hc hd vF gH;subst hc hd vF gH;exact j9 (op:=.LtE) ⟨_,ho,rfl⟩ ⟨_,kQ,rfl⟩ PySem.F.slot_tuple_le PySem.F.entry_tuple_le (PySem.F.args_tuple_le_2 _ _) (Pp i1 i2)
  ⟨ho,kQ,h1,h2,by show A.units+2 < cLine;exact hu,show Value.bool (!klt (j,ms) (i,ns))≠Value.notImplemented/\Q (.bool (!klt (j,ms) (i,ns))) s from⟨(λ x=>nomatch x),h⟩⟩ (by omega)
end
end L2
namespace L3
open PySem PySem.Spec PyProof.Rows L2
section
variable {X:Cx}
theorem OJ(hu:X.A.units+64 < cLine):eQ X (compareOp .LtE) (λ x y H Q=>∃c c2,iJ X.K false H x c/\iJ X.K false H y c2/\Q (.bl (!klt c2 c)) H):=by intro pins s σ H x y v u Q I rx ry ⟨c,c2,h1,h2,q⟩;obtain⟨t,m,o,tk,n,au,rfl,ho,hc,hd,hm,hi⟩:=jA I h1 rx;obtain⟨t2,m2,o2,Rn,n2,JZ,rfl,Kl,PV,hd2,ja,hi2⟩:=jA I h2 ry;exact JQ ho hc hd Kl PV hd2 hm ja hi hi2 (by omega) ⟨.bl (!klt c2 c),H,I,rfl,q⟩
def Uc:eU:=λ x y M Q=>∃(i j:Int) (m m2:Addr) (ns ms:List Int),x=.tup [.int i,.ref m]/\y=.tup [.int j,.ref m2]/\M m=some (.lst (ns.map D.int))/\M m2=some (.lst (ms.map D.int))/\Q (.bl (!klt (j,ms) (i,ns))) M
theorem yG{K:O8}{H:Hp}{M:Mem}{i:Int}{m:Addr}{ns:List Int}{x:V}(hm:RelM K H M)(hd:Dat K H (.tup [.int i,.ref m]) x)(h:M m=some (.lst (ns.map D.int))):iJ K false H x (i,ns):=by obtain⟨p,xs,rfl,hs,Fj⟩:=aQ.mp hd;obtain⟨a,r,rfl,ha,hr⟩:=ag.mp Fj;obtain⟨b,r2,rfl,hb,BG⟩:=ag.mp hr;cases(aq.mp BG);cases(aB.mp ha);cases(aO.mp hb);obtain⟨ys,hy,hdy⟩:=hm m _ h;rw[cR hdy]at hy;exact⟨p,m,rfl,hs,.inl (.inl hy)⟩
theorem Sy(hu:X.A.units+64 < cLine):eP X (compareOp .LtE) Uc:=⟨_,OJ hu,λ x y d e H M Q2 Q hd he hm q k=>by
 obtain⟨i,j,m,m2,ns,ms,rfl,rfl,h1,h2,q⟩:=q;exact⟨_,_,yG hm hd h1,yG hm he h2,k _ H _ M (aN.mpr rfl) hm (ao.refl H) q⟩⟩
def Ud:eU:=λ x y M Q=>X6 x y M Q\/Uc x y M Q
theorem Sz(hu:X.A.units+64 < cLine):eP X (compareOp .LtE) Ud:=OW.or (Sy hu)
theorem Jk:eQ X (compareOp .IsNot) (λ x y H Q=>∃a b,x=.bl a/\y=.bl b/\Q (.bl (!decide (a=b))) H):=by intro pins s σ H x y v u Q I rx ry ⟨a,b,e1,e2,q⟩;subst e1 e2;cases rx;cases ry;exact N7 (bb I q (by cases a <;> cases b <;> rfl))
def Ug(neg:Bool):eU:=λ x y M Q=>∃a b,x=.bl a/\y=.bl b/\Q (.bl (xor neg (decide (a=b)))) M
theorem OY:eP X (compareOp .IsNot) (Ug true):=⟨_,Jk,λ x y d e H M Q2 Q hd he hm q k=>by
 obtain⟨a,b,rfl,rfl,q⟩:=q;exact⟨a,b,aN.mp hd,aN.mp he,k _ H _ M (aN.mpr rfl) hm (ao.refl H) (by simpa using q)⟩⟩
end
theorem HZ{a b:Bool}{M:Mem}{Q:bF}(q:Q (.bl (!decide (a=b))) M):Ug true (.bl a) (.bl b) M Q:=⟨a,b,rfl,rfl,by simpa using q⟩
theorem HV{i j:Int}{m m2:Addr}{ns ms:List Int}{M:Mem}{Q:bF}(h1:M m=some (.lst (ns.map D.int)))(h2:M m2=some (.lst (ms.map D.int)))(q:Q (.bl (!klt (j,ms) (i,ns))) M):Ud (.tup [.int i,.ref m]) (.tup [.int j,.ref m2]) M Q:=.inr ⟨i,j,m,m2,ns,ms,rfl,rfl,h1,h2,q⟩
def gf:List Value->Option (List Str)
 |[]=>some []
 | .str x _::r=>(gf r).map (x::·)
 |_::_=>none
theorem mC:∀{us:List Value} {zs:List Str},gf us=some zs->Vals (zs.map V.str) us
 |[],zs,h=>by cases h;exact .nil
 |u::us,zs,h=>by
  cases u with
  |str x t=>
   unfold gf at h;cases q:gf us with
   |none=>rw[q]at h;cases h
   |some ys=>rw[q]at h;cases h;exact .cons ⟨t,rfl⟩ (mC q)
  |_=>exact absurd h (by unfold gf;intro z;cases z)
theorem jK{K:O8}{H:Hp}:∀zs:List Str,aE K H (zs.map D.str) (zs.map V.str)
 |[]=>by simp[aq]
 |z::zs=>by rw[H9,H9,ag];exact⟨_,_,rfl,aS.mpr rfl,jK zs⟩
theorem Fs{K:O8}{mg:Str->Option Value}{x:Str}{a:Addr}{d:Option Addr}{au:Array Value}{n:Nat}{sl:Array (Option Value)}{zs:List Str}(h:mg x=some (.ref a))(l:K.lookup a=some ⟨.type "tuple",d,.seq au n,sl⟩)(v:gf au.toList=some zs)(z:au.size<=sizeLine):k_ K mg x (.tup (zs.map D.str)):=
 ⟨.ref a,.ref a,h,rfl,λ H=>aQ.mpr ⟨a,zs.map V.str,rfl,.inr ⟨_,au,n,l,rfl,rfl,z,mC v⟩,jK zs⟩⟩
end L3
namespace L4
open PySem L2 L3
section
variable {X:Cx}{k:Nat}{ps:List Str}{sp:sy}{x:Str}{p pos:Pos}{e:Expr}{es:List Expr}{t:eT}
def X0:zq:=λ _ _ _=>False
theorem qr(d:h_ X.prog X.w X.K X.mg X.base k x ps sp)(hr:bK k X.A)(hg:Gl X x)(ha:WA X (e::es) t)(hdb:(x==("__debug__":Str))=false:=by decide) (he:starEach (e::es) X.env=(false,eval e X.env)::starEach es X.env:=by rfl) (hpl:(backTo pos (starEach es X.env)).any (·.1)=false:=by rfl):WE X (.Call (.Name x p) (e::es) [] pos) (Va sp X0 t):=
 vT (E:=λ _ _ _=>False) (λ pins σ H s e s2 I ⟨_,_,_,_,_,_,_,_,_,_,_,_,_,_,_,z⟩=>z.elim) (λ _ _ _ _ _ _ _ _ _ _ z=>z) d hr hg ha hdb he hpl
end
end L4
namespace L2
open PySem PySem.Spec PyProof.Rows
section
variable {prog:Program}{w:World}{A:Around}{E:Value->Shared->Prop}{s:Shared}
open AutoSeq1 (wpAny_loadPart')
theorem oR{Q:List Value->Shared->Prop}{r:Addr}{a b c:Int}{t u v:Tok}{n:Nat}(hh:A.handled=none)(hr:IsRange s.heap r a b c t u v)(nF:Builtin.Range.small a b c=true)(hn:Builtin.Range.rangeSize a b c=n)(hlen:n<=2^24) (hQ:∀h' tk acc,(∀b o,s.heap.get? b=some o->h'.get? b=some o)->ItemsOf (λ i v=>∃t,v=.int (a+i*c) t) acc n->Q acc.toList {s with heap:=h',toks:=tk}):wpAny (model prog w) A (collect (.ref r)) Q E s:=by
 unfold collect;refine N6 (wpAny_runValue (C9 F.entry_proto_collect ?_));rw[m7 F.plain_proto_collect _];show wpAny _ A.in1 (newList [] >>= λ l=>again (.builtin "list.__iadd__" ⟨[l,.ref r],[]⟩)) _ _ s;refine N6 (y4 ?_);refine N7 ⟨J7 F.plain_list_iadd _,C9 F.entry_list_iadd ?_⟩;rw[m7 F.plain_list_iadd _];show wpAny _ A.in1 (Builtin.List.listExtendWith (.ref s.heap.objs.size) (.ref r) (.ref s.heap.objs.size)) _ _ _;have hS:(s.heap.push {cls:=.type "list",data:=.seq ([]:List Value).toArray}).get? s.heap.objs.size=some {cls:=.type "list",data:=.seq #[] 0}:=q8 _ rfl;have TV:∀(h':Heap) (tk:Nat) (gy:Array Value) (c':Nat),(∀b o,b≠s.heap.objs.size->(s.heap.push {cls:=.type "list",data:=.seq ([]:List Value).toArray}).get? b=some o->h'.get? b=some o)->h'.get? s.heap.objs.size=some {cls:=.type "list",dict:=none,data:=.seq gy c',slots:=#[]}->ItemsOf (λ i v=>∃t,v=.int (a+i*c) t) gy n->
   wpAny (model prog w) A (match Value.ref s.heap.objs.size with
   |Value.ref a=>do
    match(<- load a).data with
     |Data.seq xs _=>pure xs.toList
     |_=>unsupported "internal:collect"
   |_=>unsupported "internal:collect") Q E {s with heap:=h',toks:=tk}:=λ h' tk gy c' hk rH iA=>by
  show wpAny _ A (load s.heap.objs.size >>= _) _ _ _;refine N6 (wpAny_load rH ?_);exact N7 (hQ h' tk gy (λ b o e=>hk b o (K1 (K2 e)) (j7 _ e)) iA)
 refine O0 (wpAny_extend_range (A:=A) (R:=λ r s'=>∃h' tk gy c',r=.ok (.ret (.ref s.heap.objs.size))/\s'={s with heap:=h',toks:=tk}/\(∀b o,b≠s.heap.objs.size->(s.heap.push {cls:=.type "list",data:=.seq ([]:List Value).toArray}).get? b=some o->h'.get? b=some o)/\h'.get? s.heap.objs.size=some {cls:=.type "list",dict:=none,data:=.seq gy c',slots:=#[]}/\ItemsOf (λ i v=>∃t,v=.int (a+i*c) t) gy n)
  (s:={s with heap:=s.heap.push {cls:=.type "list",data:=.seq ([]:List Value).toArray}}) hh (j7 _ hr) nF hn hlen s.heap.objs.size _ 0 hS λ h' tk gy c' hk rH iA=>⟨h',tk,gy,c',rfl,rfl,hk,rH,iA⟩) (λ fin s' h=>?_) (λ e s' h=>?_)
 ·cases fin with
  |done f=>obtain⟨h',tk,gy,c',e,rfl,hk,rH,iA⟩:=h;cases e;exact TV h' tk gy c' hk rH iA
  |again c''=>exact⟨h.1,K9 h.2 λ r QP hr=>by obtain⟨h',tk,gy,c',rfl,rfl,hk,rH,iA⟩:=hr;exact TV h' tk gy c' hk rH iA⟩
 ·obtain⟨_,_,_,_,e,_⟩:=h;cases e
theorem lq(r:Addr){a b c:Int}{t u v:Tok}{n:Nat}(nF:Builtin.Range.small a b c=true)(hn:Builtin.Range.rangeSize a b c=n)(hlen:n<=2^24)(hz:n<=sizeLine):Meets (Builtin.«tuple.__new__» ⟨[.type "tuple",.ref r],[]⟩)
   (λ A R s=>A.handled=none/\IsRange s.heap r a b c t u v/\∀(h':Heap) (tk:Nat) (acc:Array Value),(∀b o',s.heap.get? b=some o'->h'.get? b=some o')->ItemsOf (λ i v=>∃t,v=.int (a+i*c) t) acc n->R (.ok (.ret (.ref h'.objs.size))) {s with heap:=h'.push {cls:=.type "tuple",data:=.seq acc},toks:=tk}):=
 .of_wp λ prog w A R s h=>by
  obtain⟨hp,g,d,tk,os⟩:=s;obtain⟨hh,hr,h⟩:=h;have Ki:=sub_tuple_self;have Tq:=init_tuple_lookup;have hmh:=madeHere_tuple;have hT:Shared.TypeIs ⟨hp,g,d,tk,os⟩ (.ref r) "range":=⟨_,hr,rfl⟩
  wp_walk using C4 hr,K8 hT,oR (A:=A.in1) hh hr nF hn hlen
  intro h' vy acc hk iA;show wpAny _ _ (Builtin.Tuple.tupleExact acc.toList.toArray >>= λ v=>ret v) _ _ _;unfold Builtin.Tuple.tupleExact;have e:acc.toList.toArray=acc:=by simp
  have el:acc.size=n:=iA.1;refine N6 (y4 ?_ (by show acc.toList.toArray.size<=sizeLine;rw[e,el];exact hz));refine N7 ⟨_,rfl,?_⟩;rw[e];exact h h' vy acc hk iA
theorem kj{r:Addr}{a b c:Int}{t u v:Tok}{n:Nat}{Q:Value->Shared->Prop}(hh:A.handled=none)(hr:IsRange s.heap r a b c t u v)(nF:Builtin.Range.small a b c=true)(hn:Builtin.Range.rangeSize a b c=n)(hlen:n<=2^24)(hz:n<=sizeLine) (h:∀(h':Heap) (tk:Nat) (acc:Array Value),(∀b o',s.heap.get? b=some o'->h'.get? b=some o')->ItemsOf (λ i v=>∃t,v=.int (a+i*c) t) acc n->Q (.ref h'.objs.size) {s with heap:=h'.push {cls:=.type "tuple",data:=.seq acc},toks:=tk}):wpAny (model prog w) A (call (.type "tuple") [.ref r]) Q E s:=
 callType_new F.called_tuple (by decide) (F.typeCall_tuple_1 _) (F.newCall_tuple_1 _) (λ obj=>F.args_object_init_2 obj _) F.entry_tuple_new
  (lq r nF hn hlen hz) ⟨hh,hr,λ h' tk acc hk iA=>⟨⟨_,q8 _ rfl,rfl⟩,h h' tk acc hk iA⟩⟩
end
section
variable {X:Cx}
def tw(lo:Int)(n:Nat):List V:=(List.range n).map λ(i:Nat)=>V.int (lo+(i:Int))
theorem zX{lo:Int}{n:Nat}{acc:Array Value}(h:ItemsOf (λ i v=>∃t,v=Value.int (lo+(i:Int)*1) t) acc n):Vals (tw lo n) acc.toList:=by
 obtain⟨hl,hv⟩:=h;have go:∀(m:Nat) (vs:List Value) (k:Nat),vs.length=m->(∀j v,vs[j]?=some v->∃t,v=Value.int (lo+((k+j:Nat):Int)) t)->Vals ((List.range' k m).map λ(i:Nat)=>V.int (lo+(i:Int))) vs:=by
  intro m
  induction m with
  |zero=>intro vs k hl _;rw[eq_nil_of_length_eq_zero hl];exact .nil
  |succ m ih=>
   intro vs k hl hv;cases vs with
   |nil=>cases hl
   |cons v vs=>rw[range'_succ,H9];obtain⟨t,rfl⟩:=hv 0 v rfl;refine .cons ⟨t,by simp⟩ (ih vs (k+1) (by simpa using hl) λ j u hj=>?_);obtain⟨t,e⟩:=hv (j+1) u (by simpa using hj);refine⟨t,?_⟩;rw[e];congr 1;omega
 have:=go n acc.toList 0 (by simpa using hl) (λ j v hj=>by
  obtain⟨t,e⟩:=hv j v (by simpa using hj);refine⟨t,?_⟩;rw[e,K6,Int.mul_one])
 rw[<- range_eq_range']at this;exact this
theorem Bp(hc:X.calm=true):cK X (.type "tuple") (λ xs H Q=>∃r lo hi,xs=[.ref r]/\H r=some (.MZ lo hi)/\(-100000000<=lo/\lo<=100000000)/\(-100000000<=hi/\hi<=100000000)/\(hi - lo).toNat<=10000/\∀p,H p=none->Q (.ref p) (upd H p (.tup (tw lo (hi - lo).toNat)))):=by
 intro pins s σ H xs us Q I rr ⟨r,lo,hi,e,hr,h1,h2,hn,q⟩;subst e;obtain⟨u,rfl,rx⟩:=vals1 rr;cases rx;obtain⟨t,u,v,ho⟩:=I.bq r _ hr;have es:Builtin.Range.rangeSize lo hi 1=(((hi - lo).toNat:Nat):Int):=by rw[rangeSize_one];split <;> omega
 refine kj (a:=lo) (b:=hi) (c:=1) (t:=t) (u:=u) (v:=v) (n:=(hi - lo).toNat) (I.ok.hd hc) ho (small_one (by omega) (by omega) (by omega) (by omega)) es (by omega) (K5 hn (by decide)) λ h' tk acc kp iA=>?_;have I1:Inv X pins σ H {s with heap:=h',toks:=tk}:=I.kept (t':=tk) kp;have hv:=zX iA;have I2:Inv X pins σ (upd H h'.objs.size (.tup (tw lo (hi - lo).toNat))) {s with heap:=h'.push {cls:=.type "tuple",data:=.seq acc},toks:=tk}:=
  I1.laid (t':=tk) (λ b o e=>j7 _ e) (L8 _) (show bD X.prog X.w _ _ _ (.tup (tw lo (hi - lo).toNat))from⟨by unfold tw;rw[D3,y9];exact K5 hn (by decide),acc.toList,hv,by rw[show acc.toList.toArray=acc by simp];exact IsTup.new _ _⟩)
 exact⟨.ref h'.objs.size,_,I2,rfl,q _ (I1.bq.fresh (L8 _))⟩
theorem Bq:cK X (.type "range") (λ xs H Q=>∃j:Int,xs=[.int j]/\∀r,H r=none->Q (.ref r) (upd H r (.MZ 0 j))):=by intro pins s σ H xs us Q I rr ⟨j,e,q⟩;subst e;obtain⟨u,rfl,t,rfl⟩:=vals1 rr;refine call_range_1 ⟨.ref s.heap.objs.size,_,I.laid (t':=s.toks+1+1) (o:=.MZ 0 j) (λ b o e=>j7 _ e) (L8 _) ⟨_,_,_,q8 _ rfl⟩,rfl,q _ (I.bq.fresh (L8 _))⟩
end
end L2
namespace L3
open PySem PySem.Spec PyProof.Rows L2
section
variable {X:Cx}{a:Expr}{ta:eT}{p p2 pos bS:Pos}
def CI(ta:eT):bX:=λ δ M Q=>ta δ M λ ds M1=>∃n:Nat,ds=[.int n]/\n<=10000/\Q (.tup (cM 0 n)) M1
theorem FQ{K:O8}{H:Hp}(lo:Int)(n:Nat):aE K H (cM lo n) (tw lo n):=by
 unfold cM tw;generalize List.range n=l
 induction l with
 |nil=>exact aq.mpr rfl
 |cons x l ih=>exact ag.mpr ⟨_,_,rfl,aB.mpr rfl,ih⟩
theorem N_(hc:X.calm=true)(hg:Gl X "tuple")(hm:X.mg "tuple"=none)(Xt:Gl X "range")(Xl:X.mg "range"=none)(ha:QA X [a] ta)(hs:starEach [a] X.env=[(false,eval a X.env)]:=by rfl):QE X (.Call (.Name "tuple" p) [.Call (.Name "range" p2) [a] [] bS] [] pos) (CI ta):=by
 refine bL (fM (Bp hc) hg hm (by decide+kernel) (aW (fM Bq Xt Xl (by decide+kernel) ha (by decide) (by decide) (by rw[hs];rfl)) cE)) ?_;rintro σ H Q ⟨δ,M,Q2,hs,hm,q,k⟩;refine⟨δ,M,_,hs,hm,q,λ xs H1 ds M1 hd bR t1 ⟨n,e,hn,q1⟩=>?_⟩;subst e;obtain⟨x,r,rfl,hx,hr⟩:=ag.mp hd;cases(aq.mp hr);cases(aB.mp hx);refine⟨n,rfl,λ r PH=>?_⟩;refine⟨r,0,n,rfl,aJ,⟨by decide,by decide⟩,⟨by omega,by omega⟩,by omega,λ p hp=>?_⟩;have YW:p≠r:=λ z=>by subst z;rw[aJ]at hp;cases hp
 have t2:ao H1 (upd H1 r (.MZ 0 n)):=ao.laid PH;have t3:=ao.laid (o:=.tup (tw 0 ((n:Int) - 0).toNat)) hp;refine k _ _ _ M1 (aQ.mpr ⟨p,_,rfl,.inl (.inl aJ),?_⟩) ((bR.laid PH).laid hp) (t1.trans (t2.trans t3)) q1;rw[show((n:Int) - 0).toNat=n by omega];exact FQ 0 n
end
end L3
namespace L4
open PySem L2 L3
theorem Mo{X:Cx}{a:Expr}{ta:eT}{p p2 pos bS:Pos}(hc:X.calm=true)(hg:Gl X "tuple")(hm:X.mg "tuple"=none)(Xt:Gl X "range")(Xl:X.mg "range"=none)(ha:WA X [a] ta)(hs:starEach [a] X.env=[(false,eval a X.env)]:=by rfl):WE X (.Call (.Name "tuple" p) [.Call (.Name "range" p2) [a] [] bS] [] pos) (CI ta):=⟨N_ hc hg hm Xt Xl ha.h hs⟩
theorem Hx{ta:eT}{δ:cV}{M:Mem}{Q:bF}(h:ta δ M λ ds M1=>∃n:Nat,ds=[.int n]/\n<=10000/\Q (.tup (cM 0 n)) M1):CI ta δ M Q:=h
end L4
namespace L2
open PySem
theorem PS.sx {X:Cx}{st:Stmt}{t:TS}(h:PS X.sx st t):PS X st t:=λ pins s σ H D I hw=>
 O0 (h pins s σ H D (I.gb _) hw) (λ _ _ q=>q.dJ) λ _ _ z=>False.elim z
end L2
namespace L4
open PySem L2 L3
theorem Ml{X:Cx}{st:Stmt}{t:hZ}(h:WS X.sx st t):WS X st t:=⟨PS.sx h.h⟩
end L4
namespace L2
open PySem PySem.Spec PyProof.Rows L5
open PySem.AutoSeq1 (wpAny_loadPart')
section
variable {prog:Program}{w:World}{A:Around}{E:Value->Shared->Prop}{s:Shared}{T1 T2:String}{S1 S2:Heap->Addr->Array Value->Prop}
theorem eW{M:Model}{a:Addr}{Q:Option Obj->Shared->Prop}(h:Q (s.heap.get? a) s):wpAny M A (loadIfAlive a) Q E s:=λ Γ p hΓ=>by unfold loadIfAlive;simp only[Sem.wp_loadIfAlive];exact N7 h Γ p hΓ
abbrev eR(h:Heap)(z u v r:Addr)(f1:Bool):Prop:=h.get? z=some {cls:=.type "zip",dict:=none,data:=.fields #[rawInt r,.bool f1,.bool false,.ref u,.ref v],slots:=#[]}
theorem BU{z u v a b l m r:Addr}{f1:Bool}{i:Nat}{xs ys:Array Value}{x y:Value}{o:Obj}{Q:Value->Shared->Prop}(k1:NK T1 S1)(k2:NK T2 S2)(D:Za z u v a b l m) (hz:eR s.heap z u v r f1) (hr:s.heap.get? r=some o) (hu:IsPair s.heap u (.ref a) (.ref b)) (ha:bU T1 s.heap a l i) (hb:bU T2 s.heap b m i) (hl:S1 s.heap l xs) (hm:S2 s.heap m ys) (hx:xs[i]?=some x) (hy:ys[i]?=some y) (k:∀h',eR h' z u v r true->bU T1 h' a l (i+1)->bU T2 h' b m (i+1)->IsPair h' s.heap.objs.size x y->h'.objs.size=s.heap.objs.size+1->
   (∀f o,f≠z->f≠a->f≠b->s.heap.get? f=some o->h'.get? f=some o)->Q (.ref s.heap.objs.size) {s with heap:=h'}):
  wpAny (model prog w) A (Builtin.«zip.__next__» ⟨[.ref z],[]⟩) (λ fin s'=>∃v,fin=.done (.ret v)/\Q v s') E s:=by
 refine N6 (m:=field (.ref z) 2) (N4 hz rfl (x:=.bool false) rfl ?_);refine N6 (m:=field (.ref z) 3) (N4 hz rfl (x:=.ref u) rfl ?_);refine N6 (E8 hu rfl ?_);refine N6 (m:=Builtin.SmallTypes.ownedTupleIsFree (.ref z)) ?_;unfold Builtin.SmallTypes.ownedTupleIsFree;refine N6 (m:=field (.ref z) 0) (N4 hz rfl (x:=rawInt r) rfl ?_);show wpAny _ _ (loadIfAlive (r:Int).toNat >>= _) _ _ _;rw[y3];refine N6 (eW ?_);rw[hr];show wpAny _ _ (field (.ref z) 1 >>= _) _ _ _;refine N6 (m:=field (.ref z) 1) (N4 hz rfl (x:=.bool f1) rfl ?_);cases f1 with
 |false=>
  refine N6 (u7 hz (by simp) λ g1 z1 s1=>?_);refine N7 ?_;rw[O7 (by decide)];have z1:eR g1 z u v r true:=z1;refine N6 ?_;simp only[List.forIn_toArray,E4,forIn_nil];refine N6 (N6 (G7 (N6 (m:=Builtin.SmallTypes.nextOf (.ref a)) (k1.item (ha.keep λ o e=>s1.extBut _ _ D.az e) (k1.keep hl λ o e=>s1.extBut _ _ D.lz e) hx λ g2 a2 s2=>N7 ?_))));refine N7 ?_;refine N6 (N6 (G7 (N6 (m:=Builtin.SmallTypes.nextOf (.ref b)) (k2.item (hb.keep λ o e=>s2.extBut _ _ D.ab.symm (s1.extBut _ _ D.bz e)) (k2.keep hm λ o e=>s2.extBut _ _ D.ma (s1.extBut _ _ D.mz e)) hy λ g3 b3 s3=>N7 ?_))));refine N7 (N7 ?_);refine N6 (wpAny_newTuple ?_ (by show 2<=sizeLine;decide));have ez:g3.objs.size=s.heap.objs.size:=by rw[s3.1,s2.1,s1.1]
  have kp:∀f o,f≠z->f≠a->f≠b->s.heap.get? f=some o->g3.get? f=some o:=λ f o n1 n2 n3 e=>s3.extBut _ _ n3 (s2.extBut _ _ n2 (s1.extBut _ _ n1 e));have up:∀f o,g3.get? f=some o->(g3.push {cls:=.type "tuple",data:=.seq #[x,y]}).get? f=some o:=λ f o e=>j7 _ e;have t4:IsPair (g3.push {cls:=.type "tuple",data:=.seq #[x,y]}) g3.objs.size x y:=q8 _ rfl;rw[ez]at t4;refine N7 ⟨_,rfl,?_⟩;show Q (.ref g3.objs.size) _;rw[ez];exact k _ (up _ _ (s3.extBut _ _ D.bz.symm (s2.extBut _ _ D.az.symm z1))) (a2.keep λ o e=>up _ o (s3.extBut _ _ D.ab e)) (b3.keep λ o e=>up _ o e) t4 (by rw[E9,ez]) λ f o n1 n2 n3 e=>up f o (kp f o n1 n2 n3 e)
 |true=>
  refine N7 ?_;rw[O7 (by decide)];have z1:eR s.heap z u v r true:=hz;have s1:Heap.SameBut z s.heap s.heap:=⟨rfl,λ _ _=>rfl⟩;refine N6 ?_;simp only[List.forIn_toArray,E4,forIn_nil];refine N6 (N6 (G7 (N6 (m:=Builtin.SmallTypes.nextOf (.ref a)) (k1.item (ha.keep λ o e=>s1.extBut _ _ D.az e) (k1.keep hl λ o e=>s1.extBut _ _ D.lz e) hx λ g2 a2 s2=>N7 ?_))));refine N7 ?_;refine N6 (N6 (G7 (N6 (m:=Builtin.SmallTypes.nextOf (.ref b)) (k2.item (hb.keep λ o e=>s2.extBut _ _ D.ab.symm (s1.extBut _ _ D.bz e)) (k2.keep hm λ o e=>s2.extBut _ _ D.ma (s1.extBut _ _ D.mz e)) hy λ g3 b3 s3=>N7 ?_))));refine N7 (N7 ?_);refine N6 (wpAny_newTuple ?_ (by show 2<=sizeLine;decide));have ez:g3.objs.size=s.heap.objs.size:=by rw[s3.1,s2.1,s1.1]
  have kp:∀f o,f≠z->f≠a->f≠b->s.heap.get? f=some o->g3.get? f=some o:=λ f o n1 n2 n3 e=>s3.extBut _ _ n3 (s2.extBut _ _ n2 (s1.extBut _ _ n1 e));have up:∀f o,g3.get? f=some o->(g3.push {cls:=.type "tuple",data:=.seq #[x,y]}).get? f=some o:=λ f o e=>j7 _ e;have t4:IsPair (g3.push {cls:=.type "tuple",data:=.seq #[x,y]}) g3.objs.size x y:=q8 _ rfl;rw[ez]at t4;refine N7 ⟨_,rfl,?_⟩;show Q (.ref g3.objs.size) _;rw[ez];exact k _ (up _ _ (s3.extBut _ _ D.bz.symm (s2.extBut _ _ D.az.symm z1))) (a2.keep λ o e=>up _ o (s3.extBut _ _ D.ab e)) (b3.keep λ o e=>up _ o e) t4 (by rw[E9,ez]) λ f o n1 n2 n3 e=>up f o (kp f o n1 n2 n3 e)
theorem qj{z u v a b l m r:Addr}{f1:Bool}{i:Nat}{xs ys:Array Value}{o:Obj}{Q:PySem.Fin->Shared->Prop}(hA:A.handled=none)(k1:NK T1 S1)(k2:NK T2 S2)(D:Za z u v a b l m)
  (hz:eR s.heap z u v r f1) (hr:s.heap.get? r=some o) (hu:IsPair s.heap u (.ref a) (.ref b)) (ha:bU T1 s.heap a l i) (hb:bU T2 s.heap b m i) (hl:S1 s.heap l xs) (hm:S2 s.heap m ys) (he:xs[i]?=none\/ys[i]?=none)
  (k:∀h' e,(∀f o,f≠z->f≠a->f≠b->s.heap.get? f=some o->h'.get? f=some o)->(∃o,h'.get? e=some o/\o.cls=.type "StopIteration")->E (.ref e) {s with heap:=h'}):
  wpAny (model prog w) A (Builtin.«zip.__next__» ⟨[.ref z],[]⟩) Q E s:=by
 refine N6 (m:=field (.ref z) 2) (N4 hz rfl (x:=.bool false) rfl ?_);refine N6 (m:=field (.ref z) 3) (N4 hz rfl (x:=.ref u) rfl ?_);refine N6 (E8 hu rfl ?_);refine N6 (m:=Builtin.SmallTypes.ownedTupleIsFree (.ref z)) ?_;unfold Builtin.SmallTypes.ownedTupleIsFree;refine N6 (m:=field (.ref z) 0) (N4 hz rfl (x:=rawInt r) rfl ?_);show wpAny _ _ (loadIfAlive (r:Int).toNat >>= _) _ _ _;rw[y3];refine N6 (eW ?_);rw[hr];show wpAny _ _ (field (.ref z) 1 >>= _) _ _ _;refine N6 (m:=field (.ref z) 1) (N4 hz rfl (x:=.bool f1) rfl ?_);cases f1 with
 |false=>
  refine N6 (u7 hz (by simp) λ g1 z1 s1=>?_);refine N7 ?_;rw[O7 (by decide)];refine N6 ?_;simp only[List.forIn_toArray,E4,forIn_nil];by_cases hx:i < xs.size
  ·have hy:ys[i]?=none:=by
    rcases he with q|q
    ·rw[g9 hx]at q;cases q
    ·exact q
   refine N6 (N6 (G7 (N6 (m:=Builtin.SmallTypes.nextOf (.ref a)) (k1.item (ha.keep λ o e=>s1.extBut _ _ D.az e) (k1.keep hl λ o e=>s1.extBut _ _ D.lz e) (g9 hx) λ g2 a2 s2=>N7 ?_))));refine N7 ?_;refine N6 (N6 (G7 (N6 (m:=Builtin.SmallTypes.nextOf (.ref b)) (k2.stop hA (hb.keep λ o e=>s2.extBut _ _ D.ab.symm (s1.extBut _ _ D.bz e)) (k2.keep hm λ o e=>s2.extBut _ _ D.ma (s1.extBut _ _ D.mz e)) hy λ g3 e s3 oe=>?_))));exact k g3 e (λ f o n1 n2 n3 q=>s3 _ _ n3 (s2.extBut _ _ n2 (s1.extBut _ _ n1 q))) oe
  ·refine N6 (N6 (G7 (N6 (m:=Builtin.SmallTypes.nextOf (.ref a)) (k1.stop hA (ha.keep λ o e=>s1.extBut _ _ D.az e) (k1.keep hl λ o e=>s1.extBut _ _ D.lz e) (j6 (by omega)) λ g2 e s2 oe=>?_))));exact k g2 e (λ f o n1 n2 n3 q=>s2 _ _ n2 (s1.extBut _ _ n1 q)) oe
 |true=>
  refine N7 ?_;rw[O7 (by decide)];have s1:Heap.SameBut z s.heap s.heap:=⟨rfl,λ _ _=>rfl⟩;refine N6 ?_;simp only[List.forIn_toArray,E4,forIn_nil];by_cases hx:i < xs.size
  ·have hy:ys[i]?=none:=by
    rcases he with q|q
    ·rw[g9 hx]at q;cases q
    ·exact q
   refine N6 (N6 (G7 (N6 (m:=Builtin.SmallTypes.nextOf (.ref a)) (k1.item (ha.keep λ o e=>s1.extBut _ _ D.az e) (k1.keep hl λ o e=>s1.extBut _ _ D.lz e) (g9 hx) λ g2 a2 s2=>N7 ?_))));refine N7 ?_;refine N6 (N6 (G7 (N6 (m:=Builtin.SmallTypes.nextOf (.ref b)) (k2.stop hA (hb.keep λ o e=>s2.extBut _ _ D.ab.symm (s1.extBut _ _ D.bz e)) (k2.keep hm λ o e=>s2.extBut _ _ D.ma (s1.extBut _ _ D.mz e)) hy λ g3 e s3 oe=>?_))));exact k g3 e (λ f o n1 n2 n3 q=>s3 _ _ n3 (s2.extBut _ _ n2 (s1.extBut _ _ n1 q))) oe
  ·refine N6 (N6 (G7 (N6 (m:=Builtin.SmallTypes.nextOf (.ref a)) (k1.stop hA (ha.keep λ o e=>s1.extBut _ _ D.az e) (k1.keep hl λ o e=>s1.extBut _ _ D.lz e) (j6 (by omega)) λ g2 e s2 oe=>?_))));exact k g2 e (λ f o n1 n2 n3 q=>s2 _ _ n2 (s1.extBut _ _ n1 q)) oe
theorem AA{z u v a b l m r:Addr}{f1:Bool}{i:Nat}{xs ys:Array Value}{x y:Value}{o:Obj}{Q:Option Value->Shared->Prop}(k1:NK T1 S1)(k2:NK T2 S2)(D:Za z u v a b l m) (hz:eR s.heap z u v r f1) (hr:s.heap.get? r=some o) (hu:IsPair s.heap u (.ref a) (.ref b)) (ha:bU T1 s.heap a l i) (hb:bU T2 s.heap b m i) (hl:S1 s.heap l xs) (hm:S2 s.heap m ys) (hx:xs[i]?=some x) (hy:ys[i]?=some y) (k:∀h',eR h' z u v r true->bU T1 h' a l (i+1)->bU T2 h' b m (i+1)->IsPair h' s.heap.objs.size x y->h'.objs.size=s.heap.objs.size+1->
   (∀f o,f≠z->f≠a->f≠b->s.heap.get? f=some o->h'.get? f=some o)->Q (some (.ref s.heap.objs.size)) {s with heap:=h'}):wpAny (model prog w) A (pyNext (.ref z)) Q E s:=by
 have ty:s.TypeIs (.ref z) "zip":=⟨_,hz,rfl⟩;unfold pyNext;refine N6 (G8 (j3 (name:=Str.ofString "__next__") ty E1 (A9 E1 ty F.entry_zip_next ?_ (F.args_zip_next_1 _))));exact BU k1 k2 D hz hr hu ha hb hl hm hx hy λ h' a1 a2 a3 a4 a5 a6=>N7 (k h' a1 a2 a3 a4 a5 a6)
theorem AF{z u v a b l m r:Addr}{f1:Bool}{i:Nat}{xs ys:Array Value}{o:Obj}{Q:Option Value->Shared->Prop}(hA:A.handled=none)(k1:NK T1 S1)(k2:NK T2 S2)(D:Za z u v a b l m) (hz:eR s.heap z u v r f1) (hr:s.heap.get? r=some o) (hu:IsPair s.heap u (.ref a) (.ref b)) (ha:bU T1 s.heap a l i) (hb:bU T2 s.heap b m i) (hl:S1 s.heap l xs) (hm:S2 s.heap m ys) (he:xs[i]?=none\/ys[i]?=none) (k:∀h',(∀f o,f≠z->f≠a->f≠b->s.heap.get? f=some o->h'.get? f=some o)->Q none {s with heap:=h'}):wpAny (model prog w) A (pyNext (.ref z)) Q E s:=by have ty:s.TypeIs (.ref z) "zip":=⟨_,hz,rfl⟩;unfold pyNext;refine N6 (G8 (j3 (name:=Str.ofString "__next__") ty E1 (A9 E1 ty F.entry_zip_next ?_ (F.args_zip_next_1 _))));refine qj hA k1 k2 D hz hr hu ha hb hl hm he λ h' e q oe=>?_;obtain⟨ob,uA,vE⟩:=oe;exact N6 (B7 (T:="StopIteration") (b:=true) ⟨ob,uA,vE⟩ isSubtype_stop (N7 (k _ q)))
end
end L2
namespace L2
open PySem PySem.Spec PyProof.Rows L5
section
variable {prog:Program}{w:World}{A:Around}{E:Value->Shared->Prop}{T1 T2:String}{S1 S2:Heap->Addr->Array Value->Prop}
theorem eY{p q N0:Nat}(h1:N0<=p)(h2:q < N0):p≠q:=λ e=>by subst e;exact absurd h2 (Nat.not_lt.mpr h1)
def Uv(T1 T2:String)(h:Heap)(z u v a b l m:Addr)(i N0:Nat):Prop:=IsPair h u (.ref a) (.ref b)/\bU T1 h a l i/\bU T2 h b m i/\
 ((IsZip h z u v .none/\∃c d,IsPair h v c d)\/∃(r:Addr) (f1:Bool) (o:Obj),eR h z u v r f1/\h.get? r=some o/\N0<=r)
def UB(h:Heap)(xs ys:Array Value)(N0:Nat)(ps:List Addr):Prop:=ps.Nodup/\∀(j:Nat) (p:Addr),ps[j]?=some p->N0<=p/\∃x y,xs[j]?=some x/\ys[j]?=some y/\IsPair h p x y
theorem Uv.keep {h h':Heap}{z u v a b l m S:Addr}{i N0:Nat}(x:Uv T1 T2 h z u v a b l m i N0)(hS:S < N0)(n1:S≠z)(n2:S≠u)(n3:S≠v)(n4:S≠a)(n5:S≠b)(k:∀f o,f≠S->h.get? f=some o->h'.get? f=some o):Uv T1 T2 h' z u v a b l m i N0:=by
 obtain⟨a1,a2,a3,a4⟩:=x;refine⟨k _ _ n2.symm a1,a2.keep λ o e=>k _ o n4.symm e,a3.keep λ o e=>k _ o n5.symm e,?_⟩;rcases a4 with⟨q,c,d,q2⟩|⟨r,f1,o,q1,q2,q3⟩
 ·exact .inl ⟨k _ _ n1.symm q,c,d,k _ _ n3.symm q2⟩
 ·exact .inr ⟨r,f1,o,k _ _ n1.symm q1,k _ _ (eY q3 hS) q2,q3⟩
theorem KA{R:Result->Shared->Prop}{z u v a b l m S:Addr}{xs ys:Array Value}{N0:Nat}(hA:A.in1.handled=none)(k1:NK T1 S1)(k2:NK T2 S2)(D:Za z u v a b l m) (hz:z < N0) (hu:u < N0) (hv:v < N0) (ha:a < N0) (hb:b < N0) (hl:l < N0) (hm:m < N0) (hS:S < N0) (n1:S≠z) (n2:S≠u) (n3:S≠v) (n4:S≠a) (n5:S≠b) (n6:S≠l) (n7:S≠m) (uu:u≠l) (gE:xs.size<=10000) (res:Value):∀(k i:Nat) (s:Shared) (ps:List Addr) (c:Nat),min xs.size ys.size - i=k->i<=min xs.size ys.size->ps.length=i->N0<=s.heap.objs.size->Uv T1 T2 s.heap z u v a b l m i N0->S1 s.heap l xs->S2 s.heap m ys->
   s.heap.get? S=some {cls:=.type "list",dict:=none,data:=.seq (ps.map Value.ref).toArray c,slots:=#[]}->UB s.heap xs ys N0 ps->
   (∀(h':Heap) (Gz:List Addr) (c':Nat),(∀f o,f≠z->f≠v->f≠a->f≠b->f≠S->s.heap.get? f=some o->h'.get? f=some o)->h'.get? S=some {cls:=.type "list",dict:=none,data:=.seq (Gz.map Value.ref).toArray c',slots:=#[]}->Gz.length=min xs.size ys.size->UB h' xs ys N0 Gz->R (.ok (.ret res)) {s with heap:=h'})->
   codeAny (model prog w) A (.builtin "list.extend.loop" ⟨[.ref S,.ref z,res],[]⟩) R s:=by
 intro k
 induction k with
 |zero=>
  intro i s ps c hk hi hp hN za sl sm XB pr hR;refine C9 F.entry_extend_loop ?_;rw[m7 q9 _];show wpAny _ A.in1 (pyNext (.ref z) >>= _) _ _ s;obtain⟨zu,Rl,Rk,zz⟩:=za;have he:xs[i]?=none\/ys[i]?=none:=by
   by_cases q:xs.size<=i
   ·exact .inl (j6 q)
   ·exact .inr (j6 (by omega))
  have fin:∀h',(∀f o,f≠z->f≠v->f≠a->f≠b->s.heap.get? f=some o->h'.get? f=some o)->R (.ok (.ret res)) {s with heap:=h'}:=λ h' q=>by refine hR h' ps c (λ f o q1 q2 q3 q4 _ e=>q f o q1 q2 q3 q4 e) (q _ _ n1 n3 n4 n5 XB) (by omega) ⟨pr.1,λ j p e=>?_⟩;obtain⟨nG,x,y,e1,e2,e3⟩:=pr.2 j p e;exact⟨nG,x,y,e1,e2,q _ _ (eY nG hz) (eY nG hv) (eY nG ha) (eY nG hb) e3⟩
  rcases zz with⟨q,c1,d1,q2⟩|⟨r,f1,o,q1,q2,q3⟩
  ·exact N6 (EB hA k1 k2 D q zu q2 Rl Rk sl sm he λ h' kp=>N7 (fin h' kp))
  ·exact N6 (AF hA k1 k2 D q1 q2 zu Rl Rk sl sm he λ h' kp=>N7 (fin h' λ f o q1 _ q3 q4 e=>kp f o q1 q3 q4 e))
 |succ k ih=>
  intro i s ps c hk hi hp hN za sl sm XB pr hR;refine C9 F.entry_extend_loop ?_;rw[m7 q9 _];show wpAny _ A.in1 (pyNext (.ref z) >>= _) _ _ s;obtain⟨zu,Rl,Rk,zz⟩:=za;have hx:i < xs.size:=by omega
  have hy:i < ys.size:=by omega
  have step:∀h' (f1:Bool),eR h' z u v s.heap.objs.size f1\/(∃(r:Addr) (o:Obj),eR h' z u v r f1/\h'.get? r=some o/\N0<=r)->bU T1 h' a l (i+1)->bU T2 h' b m (i+1)->IsPair h' s.heap.objs.size xs[i] ys[i]->h'.objs.size=s.heap.objs.size+1->
    (∀f o,f≠z->f≠v->f≠a->f≠b->s.heap.get? f=some o->h'.get? f=some o)->wpAny (model prog w) A.in1 (updateSeq S (·.push (.ref s.heap.objs.size)) >>= λ _=>again (.builtin "list.extend.loop" ⟨[.ref S,.ref z,res],[]⟩)) (λ fin s'=>match fin with| .done f=>R (.ok f) s'| .again c'=>c'.quiet=true/\codeAny (model prog w) A c' R s') (λ e s'=>R (.error e) s') {s with heap:=h'}:=by
   intro h' f1 z1 a1 b1 t1 sz kp;have rH:=kp _ _ n1 n3 n4 n5 XB;refine N6 ?_;have nq:N0<=s.heap.objs.size:=hN;have hlen:(ps.map Value.ref).toArray.size=i:=by rw[z9,D3,hp]
   have ot:∀f o,f≠S->h'.get? f=some o->(h'.update S (Obj.mapSeq (·.push (.ref s.heap.objs.size)))).get? f=some o:=λ f o ne e=>(j8 _ _ (O4 ne)).trans e;refine D8 rH rfl (N7 ⟨J7 q9 _,ih (i+1) _ (ps++[s.heap.objs.size]) (c+1) (by omega) (by omega) (by rw[u4,hp];rfl) ?_ ?_ ?_ ?_ ?_ ?_ ?_⟩) (by rw[hlen];exact K5 (show i<=10000 by omega) (by decide)) (by rw[Array.size_push,hlen];exact K5 (show i+1<=10001 by omega) (by decide))
   ·show N0<=(h'.update S _).objs.size;rw[B6,sz];exact Nat.le_succ_of_le nq
   ·refine Uv.keep (h:=h') (S:=S) ⟨kp _ _ D.uz D.uv D.ua D.ub zu,a1,b1,.inr ?_⟩ hS n1 n2 n3 n4 n5 ot;rcases z1 with z1|⟨r,o,z1,z2,z3⟩
    ·exact⟨s.heap.objs.size,f1,_,z1,t1,nq⟩
    ·exact⟨r,f1,o,z1,z2,z3⟩
   ·exact k1.keep sl λ o e=>ot _ o n6.symm (kp _ o D.lz D.lv D.la D.lb e)
   ·exact k2.keep sm λ o e=>ot _ o n7.symm (kp _ o D.mz D.mv D.ma D.mb e)
   ·rw[k7 _ rH rfl];simp[Obj.mapSeq]
   ·refine⟨nodup_append.mpr ⟨pr.1,by simp,λ q hq q' PJ ee=>?_⟩,?_⟩
    ·obtain⟨j,hj⟩:=mem_iff_getElem?.mp hq;obtain⟨_,x,y,_,_,e3⟩:=pr.2 j q hj;have lt:=K2 e3;rw[ee,w5.mp PJ]at lt;exact H0 _ lt
    intro j p e;by_cases hj:j < ps.length
    ·rw[c9 hj]at e;obtain⟨nG,x,y,e1,e2,e3⟩:=pr.2 j p e;exact⟨nG,x,y,e1,e2,ot _ _ (eY nG hS) (kp _ _ (eY nG hz) (eY nG hv) (eY nG ha) (eY nG hb) e3)⟩
    ·rw[c6 (by omega)]at e;have hj0:j - ps.length=0:=by have:=(i5.mp e).1;simp at this;omega
     rw[hj0]at e;have ep:s.heap.objs.size=p:=by simpa using e
     have ej:j=i:=by omega
     subst ej;rw[<- ep];exact⟨nq,_,_,g9 hx,g9 hy,ot _ _ (eY nq hS) t1⟩
   ·intro h2 Gz c' kp2 kb Tn Z4;exact hR h2 Gz c' (λ f o q1 q2 q3 q4 q5 e=>kp2 f o q1 q2 q3 q4 q5 (ot f o q5 (kp f o q1 q2 q3 q4 e))) kb Tn Z4
  rcases zz with⟨q,c1,d1,q2⟩|⟨r,f1,o,q1,q2,q3⟩
  ·exact N6 (Eo k1 k2 D q zu q2 Rl Rk sl sm (g9 hx) (g9 hy) λ h' z1 _ a1 b1 t1 sz kp=>step h' false (.inl z1) a1 b1 t1 sz kp)
  ·exact N6 (AA k1 k2 D q1 q2 zu Rl Rk sl sm (g9 hx) (g9 hy) λ h' z1 a1 b1 t1 sz kp=>step h' true (.inr ⟨r,o,z1,kp _ _ (eY q3 hz) (eY q3 ha) (eY q3 hb) q2,q3⟩) a1 b1 t1 sz λ f o q1 _ q3 q4 e=>kp f o q1 q3 q4 e)
end
end L2
namespace L2
open PySem PySem.Spec PyProof.Rows L5
open PySem.AutoSeq1 (wpAny_loadPart')
theorem vH:typeLookup (.type "zip") "__len__"=pure none:=by rw[typeLookup_type,builtinLookup_eq_fast];kernel_rfl
theorem sA:typeLookup (.type "zip") "__length_hint__"=pure none:=by rw[typeLookup_type,builtinLookup_eq_fast];kernel_rfl
section
variable {prog:Program}{w:World}{A:Around}{E:Value->Shared->Prop}{s:Shared}{T1 T2:String}{S1 S2:Heap->Addr->Array Value->Prop}
structure Qu(T1 T2:String)(S1 S2:Heap->Addr->Array Value->Prop)(h:Heap)(z u v a b l m:Addr)(xs ys:Array Value):Prop where
 D:Za z u v a b l m
 ul:u≠l
 zi:IsZip h z u v .none
 pu:IsPair h u (.ref a) (.ref b)
 pv:∃c d,IsPair h v c d
 ia:bU T1 h a l 0
 ib:bU T2 h b m 0
 sl:S1 h l xs
 sm:S2 h m ys
 lz:z < h.objs.size
 lu:u < h.objs.size
 lv:v < h.objs.size
 la:a < h.objs.size
 lb:b < h.objs.size
 ll:l < h.objs.size
 lm:m < h.objs.size
theorem u_{Q:List Value->Shared->Prop}{z u v a b l m:Addr}{xs ys:Array Value}(hh:A.handled=none)(k1:NK T1 S1)(k2:NK T2 S2)(Z:Qu T1 T2 S1 S2 s.heap z u v a b l m xs ys)(gE:xs.size<=10000) (hQ:∀(h':Heap) (ps:List Addr),(∀f o,f≠z->f≠v->f≠a->f≠b->s.heap.get? f=some o->h'.get? f=some o)->ps.length=min xs.size ys.size->UB h' xs ys (s.heap.objs.size+1) ps->Q (ps.map Value.ref) {s with heap:=h'}):wpAny (model prog w) A (collect (.ref z)) Q E s:=by
 have hT:∀h':Heap,IsZip h' z u v .none->Shared.TypeIs {s with heap:=h'} (.ref z) "zip":=λ h' q=>⟨_,q,rfl⟩;have hSz:s.heap.objs.size≠z:=L6 Z.lz;have up:∀f o,s.heap.get? f=some o->(s.heap.push {cls:=.type "list",data:=.seq ([]:List Value).toArray}).get? f=some o:=λ f o e=>j7 _ e;unfold collect;refine N6 (wpAny_runValue (C9 F.entry_proto_collect ?_));rw[m7 F.plain_proto_collect _];show wpAny _ A.in1 (newList [] >>= λ l=>again (.builtin "list.__iadd__" ⟨[l,.ref z],[]⟩)) _ _ s;refine N6 (y4 ?_);refine N7 ⟨J7 F.plain_list_iadd _,C9 F.entry_list_iadd ?_⟩;rw[m7 F.plain_list_iadd _];show wpAny _ A.in1 (Builtin.List.listExtendWith (.ref s.heap.objs.size) (.ref z) (.ref s.heap.objs.size)) _ _ _;unfold Builtin.List.listExtendWith;refine N6 (K8 (hT _ (up _ _ Z.zi)) ?_);have h1:Builtin.List.listSameRef (.ref s.heap.objs.size) (.ref z)=false:=by simp[Builtin.List.listSameRef,hSz]
 have h2:(Value.type "zip"==Value.type "list")=false:=by decide
 have h3:(Value.type "zip"==Value.type "tuple")=false:=by decide
 simp only[h1,h2,h3,Bool.or_false,u5,O2];refine N6 (wpAny_pyIter_zip (up _ _ Z.zi) ?_);refine N6 (G7 ?_);unfold Builtin.List.listLengthHint;refine N6 (E3 (hT _ (up _ _ Z.zi)) vH ?_);show wpAny _ A.in1 (specialOf (Value.ref z) (Str.ofString "__length_hint__") >>= _) _ _ _;refine N6 (E3 (hT _ (up _ _ Z.zi)) sA ?_);refine N7 ?_;show wpAny _ A.in1 (rule "list.extend.makes-room" >>= λ _=>Builtin.List.listTouch (.ref s.heap.objs.size) >>= λ _=>
  again (.builtin "list.extend.loop" ⟨[.ref s.heap.objs.size,.ref z,.ref s.heap.objs.size],[]⟩)) _ _ _
 refine N6 (N8 ?_);have Zc:(s.heap.push {cls:=.type "list",data:=.seq ([]:List Value).toArray}).get? s.heap.objs.size=some {cls:=.type "list",data:=.seq ([]:List Value).toArray}:=q8 _ rfl;refine N6 ?_;show wpAny _ A.in1 (updateSeq s.heap.objs.size (·.push .none) >>= λ _=>updateSeq s.heap.objs.size (·.pop)) _ _ _;refine N6 (D8 Zc rfl ?_);have Zb:=k7 (Obj.mapSeq (·.push Value.none)) Zc rfl;refine D8 Zb rfl ?_;have hS₃:=k7 (Obj.mapSeq (·.pop)) Zb rfl;have LH:∀b o,s.heap.get? b=some o->
   (((s.heap.push {cls:=.type "list",data:=.seq ([]:List Value).toArray}).update s.heap.objs.size (Obj.mapSeq (·.push Value.none))).update s.heap.objs.size (Obj.mapSeq (·.pop))).get? b=some o:=
  λ b o e=>(j8 _ _ (L6 (K2 e))).trans ((j8 _ _ (L6 (K2 e))).trans (up b o e))
 have sz:(((s.heap.push {cls:=.type "list",data:=.seq ([]:List Value).toArray}).update s.heap.objs.size (Obj.mapSeq (·.push Value.none))).update s.heap.objs.size (Obj.mapSeq (·.pop))).objs.size=s.heap.objs.size+1:=by rw[B6,B6,E9]
 generalize(((s.heap.push {cls:=.type "list",data:=.seq ([]:List Value).toArray}).update s.heap.objs.size (Obj.mapSeq (·.push Value.none))).update s.heap.objs.size (Obj.mapSeq (·.pop)))=g0 at*;obtain⟨c,d,pv⟩:=Z.pv;have lt:∀{x:Addr},x < s.heap.objs.size->x < s.heap.objs.size+1:=λ h=>A1 h;have ne:∀{x:Addr},x < s.heap.objs.size->s.heap.objs.size≠x:=λ h=>L6 h;refine N7 ⟨J7 q9 _,?_⟩;refine KA (A:=A) (S:=s.heap.objs.size) (N0:=s.heap.objs.size+1) (xs:=xs) (ys:=ys) hh k1 k2 Z.D (lt Z.lz) (lt Z.lu) (lt Z.lv) (lt Z.la) (lt Z.lb) (lt Z.ll) (lt Z.lm) (Nat.lt_succ_self _) (ne Z.lz) (ne Z.lu) (ne Z.lv) (ne Z.la) (ne Z.lb) (ne Z.ll) (ne Z.lm) Z.ul gE _ _ 0 _ [] _ rfl (N3 _) rfl (K7 sz.symm) ⟨LH _ _ Z.pu,Z.ia.keep λ o e=>LH _ o e,Z.ib.keep λ o e=>LH _ o e,.inl ⟨LH _ _ Z.zi,c,d,LH _ _ pv⟩⟩ (k1.keep Z.sl λ o e=>LH _ o e) (k2.keep Z.sm λ o e=>LH _ o e) hS₃ ⟨.nil,λ j p e=>by simp at e⟩ λ h' Gz c' kp lB yM Z5=>?_;show wpAny _ A (load s.heap.objs.size >>= _) _ _ _;refine N6 (wpAny_load lB ?_);refine N7 ?_;show Q (Gz.map Value.ref).toArray.toList _;rw[List.toList_toArray];exact hQ h' Gz (λ f o q1 q2 q3 q4 e=>kp f o q1 q2 q3 q4 (K1 (K2 e)) (LH f o e)) yM Z5
end
end L2
namespace L2
open PySem PySem.Spec PyProof.Rows L5
open PySem.AutoSeq1 (wpAny_loadPart')
section
variable {prog:Program}{w:World}{A:Around}{E:Value->Shared->Prop}{s:Shared}{T1 T2:String}{S1 S2:Heap->Addr->Array Value->Prop}
theorem oq{z u v a b l m:Addr}{xs ys:Array Value}(k1:NK T1 S1)(k2:NK T2 S2)(gE:xs.size<=10000):Meets (Builtin.«tuple.__new__» ⟨[.type "tuple",.ref z],[]⟩)
   (λ A R s=>A.handled=none/\Qu T1 T2 S1 S2 s.heap z u v a b l m xs ys/\∀(h':Heap) (ps:List Addr),(∀f o,f≠z->f≠v->f≠a->f≠b->s.heap.get? f=some o->h'.get? f=some o)->ps.length=min xs.size ys.size->UB h' xs ys (s.heap.objs.size+1) ps->R (.ok (.ret (.ref h'.objs.size))) {s with heap:=h'.push {cls:=.type "tuple",data:=.seq (ps.map Value.ref).toArray}}):=
 .of_wp λ prog w A R s h=>by
  obtain⟨hp,g,d,tk,os⟩:=s;obtain⟨hh,Z,h⟩:=h;have Ki:=sub_tuple_self;have Tq:=init_tuple_lookup;have hmh:=madeHere_tuple;have hz:(Shared.heap ⟨hp,g,d,tk,os⟩).get? z=some {cls:=.type "zip",dict:=none,data:=.fields #[.none,.bool false,.bool false,.ref u,.ref v],slots:=#[]}:=Z.zi;have hT:Shared.TypeIs ⟨hp,g,d,tk,os⟩ (.ref z) "zip":=⟨_,hz,rfl⟩
  wp_walk using C4 hz,K8 hT,u_ (A:=A.in1) hh k1 k2 Z gE
  intro h' ps hk hl GI;show wpAny _ _ (Builtin.Tuple.tupleExact (ps.map Value.ref).toArray >>= λ v=>ret v) _ _ _;unfold Builtin.Tuple.tupleExact;refine N6 (y4 ?_ (by show(ps.map Value.ref).toArray.size<=sizeLine;rw[z9,D3,hl];exact K5 (show _<=10000 by omega) (by decide)));exact N7 ⟨_,rfl,h h' ps hk hl GI⟩
theorem nY{z u v a b l m:Addr}{xs ys:Array Value}{Q:Value->Shared->Prop}(hh:A.handled=none)(k1:NK T1 S1)(k2:NK T2 S2)(gE:xs.size<=10000)(Z:Qu T1 T2 S1 S2 s.heap z u v a b l m xs ys) (h:∀(h':Heap) (ps:List Addr),(∀f o,f≠z->f≠v->f≠a->f≠b->s.heap.get? f=some o->h'.get? f=some o)->ps.length=min xs.size ys.size->UB h' xs ys (s.heap.objs.size+1) ps->Q (.ref h'.objs.size) {s with heap:=h'.push {cls:=.type "tuple",data:=.seq (ps.map Value.ref).toArray}}):wpAny (model prog w) A (call (.type "tuple") [.ref z]) Q E s:=
 callType_new F.called_tuple (by decide) (F.typeCall_tuple_1 _) (F.newCall_tuple_1 _) (λ obj=>F.args_object_init_2 obj _) F.entry_tuple_new
  (oq k1 k2 gE) ⟨hh,Z,λ h' ps hk hl hp=>⟨⟨_,q8 _ rfl,rfl⟩,h h' ps hk hl hp⟩⟩
end
end L2
namespace L2
open PySem PySem.Spec PyProof.Rows L5
inductive BP:Hp->List (V×V)->List Addr->Hp->Prop
 |nil {H}:BP H [] [] H
 |cons {H x y qs p ps H'}:H p=none->BP (upd H p (.tup [x,y])) qs ps H'->BP H ((x,y)::qs) (p::ps) H'
theorem BP.ext {H H':Hp}{qs:List (V×V)}{ps:List Addr}(h:BP H qs ps H'):∀b o,H b=some o->H' b=some o:=by
 induction h with
 |nil=>exact λ b o e=>e
 |cons hn _ ih=>exact λ b o e=>ih b o (by rw[aA (aU e hn)];exact e)
theorem BP.at {H H':Hp}{qs:List (V×V)}{ps:List Addr}(h:BP H qs ps H'):∀(j:Nat) (x y:V) (p:Addr),qs[j]?=some (x,y)->ps[j]?=some p->H' p=some (.tup [x,y]):=by
 induction h with
 |nil=>intro j x y p e;simp at e
 |@cons H x y qs p ps H' hn r ih=>
  intro j x' y' p' e1 e2;cases j with
  |zero=>simp at e1 e2;obtain⟨rfl,rfl⟩:=e1;subst e2;exact r.ext _ _ aJ
  |succ j=>exact ih j x' y' p' (by simpa using e1) (by simpa using e2)
section
variable {X:Cx}{pins:List (Addr×Obj)}{σ:St}{H:Hp}{s s':Shared}
theorem pj{xs ys:List V}{GD QY:List Value}(I0:Inv X pins σ H s)(r1:Vals xs GD)(r2:Vals ys QY){h':Heap}:∀(ps:List Addr) (qs:List (V×V)) (k:Nat) (H1:Hp),Inv X pins σ H1 {s with heap:=h'}->qs=(xs.zip ys).drop k->ps.length=qs.length->ps.Nodup->(∀p∈ps,s.heap.objs.size<=p/\H1 p=none)->(∀(j:Nat) (p:Addr),ps[j]?=some p->∃x y,GD[k+j]?=some x/\QY[k+j]?=some y/\IsPair h' p x y)->
   ∃H2,BP H1 qs ps H2/\Inv X pins σ H2 {s with heap:=h'}/\∀b,b∉ps->H2 b=H1 b
 |[],qs,k,H1,I,_,hl,_,_,_=>by
  cases qs with
  |nil=>exact⟨H1,.nil,I,λ b _=>rfl⟩
  |cons q qs=>cases hl
 |p::ps,qs,k,H1,I,hq,hl,nd,hf,pr=>by
  cases qs with
  |nil=>cases hl
  |cons q qs=>
   obtain⟨x,y⟩:=q;have hk:(xs.zip ys)[k]?=some (x,y):=by have:=O3 (λ l=>l[0]?) hq;simp only[getElem?_cons_zero,getElem?_drop,Nat.add_zero]at this;exact this.symm
   obtain⟨hx,hy⟩:=getElem?_zip_eq_some.mp hk;obtain⟨u1,e1,q1⟩:=r1.get hx;obtain⟨u2,e2,q2⟩:=r2.get hy;obtain⟨v1,v2,f1,f2,t⟩:=pr 0 p rfl;rw[Nat.add_zero]at f1 f2;rw[e1]at f1;rw[e2]at f2;cases f1;cases f2;obtain⟨nG,ix⟩:=hf p s9;have fo:=I0.lC (H':=H1) nG ix;have I1:Inv X pins σ (upd H1 p (.tup [x,y])) {s with heap:=h'}:=Inv.sO I ix ⟨show 2<=sizeLine by decide,[u1,u2],.cons q1 (.cons q2 .nil),⟨_,t,rfl,_,rfl⟩⟩ fo.2.1 (K5 I0.sz nG) fo.2.2.2.2.1 fo.2.2.2.2.2;have YC:=nodup_cons.mp nd;obtain⟨H2,z1,z2,z3⟩:=pj I0 r1 r2 ps qs (k+1) (upd H1 p (.tup [x,y])) I1 (by rw[<- drop_drop,<- hq];rfl) (by simpa using hl) YC.2 (λ p' GI=>by
    obtain⟨a1,a2⟩:=hf p' (l7 _ GI);exact⟨a1,by rw[aA (λ e:p'=p=>YC.1 (by rw[<- e];exact GI))];exact a2⟩) λ j p' e=>by obtain⟨x',y',g1,g2,g3⟩:=pr (j+1) p' (by simpa using e);exact⟨x',y',by rw[show k+1+j=k+(j+1) by omega];exact g1,by rw[show k+1+j=k+(j+1) by omega];exact g2,g3⟩
   refine⟨H2,.cons ix z1,z2,λ b hb=>?_⟩;rw[z3 b λ z=>hb (l7 _ z),aA (λ e:b=p=>hb (by rw[e];exact s9))]
end
end L2
namespace L2
open PySem PySem.Spec PyProof.Rows L5
section
variable {X:Cx}{e1 e2:Expr}{ta:TA}{p p2 pos bS:Pos}
def ZP(K:O8)(ta:TA):TE:=λ σ H Q=>ta σ H λ vs H1=>∃(b1 b2:Bool) (l m:Addr) (xs ys:List V),vs=[.ref l,.ref m]/\Sq b1 K H1 l xs/\Sq b2 K H1 m ys/\xs.length<=10000/\
 ∀(ps:List Addr) (H2:Hp) (r:Addr),BP H1 (xs.zip ys) ps H2->H2 r=none->Q (.ref r) (upd H2 r (.tup (ps.map V.ref)))
theorem sJ:∀ps:List Addr,Vals (ps.map V.ref) (ps.map Value.ref)
 |[]=>.nil
 |p::ps=>.cons rfl (sJ ps)
theorem I_(hc:X.calm=true)(hg:Gl X "tuple")(hm:X.mg "tuple"=none)(Tu:Gl X "zip")(Td:X.mg "zip"=none)(ha:PA X [e1,e2] ta) (hs:starEach [e1,e2] X.env=[(false,eval e1 X.env),(false,eval e2 X.env)]:=by rfl) (kb:starEach [e2] X.env=[(false,eval e2 X.env)]:=by rfl) (he:starEach [.Call (.Name "zip" p2) [e1,e2] [] bS] X.env=(false,eval (.Call (.Name "zip" p2) [e1,e2] [] bS) X.env)::starEach [] X.env:=by rfl):PE X (.Call (.Name "tuple" p) [.Call (.Name "zip" p2) [e1,e2] [] bS] [] pos) (ZP X.K ta):=by
 intro pins s σ H Q I h;refine w6 (fu I hg hm (show bootBuiltins "tuple"=some (.type "tuple") by decide+kernel) ?_);refine c4 ?_ he rfl;rw[he];show wpAny _ _ (spliced ((false,eval (.Call (.Name "zip" p2) [e1,e2] [] bS) X.env)::backTo pos (starEach [] X.env))) _ _ s;refine Calls.spliced_cons ?_;refine Call_ (fu I Tu Td boot_zip (c4 (cG (ha bS pins s σ H _ I h) λ us s1 ⟨vs,H1,I1,r1,q1⟩=>?_) (by rw[hs,kb]) (by rw[kb];rfl)));obtain⟨b1,b2,l,m,xs,ys,ev,hl,dH,gE,q⟩:=q1;subst ev;obtain⟨u1,u2,rfl,r,r'⟩:=vals2 r1;cases(show u1=Value.ref l from r);cases(show u2=Value.ref m from r');obtain⟨GD,v1,p1⟩:=iQ I1 hl;obtain⟨QY,v2,Wl⟩:=iQ I1 dH;refine Pa (jy b1) (jy b2) p1 Wl λ g g1 g2 g3 g4 g5 g6 g7=>?_;refine Calls.spliced_nil ?_;have I2:Inv X pins σ H1 {s1 with heap:=g}:=I1.kept (t':=s1.toks) g7;have Y3:l < s1.heap.objs.size:=by
  obtain⟨o,e⟩:∃o,s1.heap.get? l=some o:=by cases b1 <;> exact⟨_,p1.choose_spec.1⟩
  exact K2 e
 have Y2:m < s1.heap.objs.size:=by
  obtain⟨o,e⟩:∃o,s1.heap.get? m=some o:=by cases b2 <;> exact⟨_,Wl.choose_spec.1⟩
  exact K2 e
 have TX:GD.toArray.size<=10000:=by rw[z9,<- v1.length];exact gE
 have ok:=nY (prog:=X.prog) (w:=X.w) (A:=X.A) (E:=X.xe) (s:={s1 with heap:=g}) (z:=s1.heap.objs.size+4) (u:=s1.heap.objs.size+2) (v:=s1.heap.objs.size+3) (a:=s1.heap.objs.size) (b:=s1.heap.objs.size+1) (l:=l) (m:=m) (xs:=GD.toArray) (ys:=QY.toArray) (Q:=EP X pins σ Q) (I1.ok.hd hc) (jy b1) (jy b2) TX;refine ok ?_ ?_
 ·have la:∀k,l≠s1.heap.objs.size+k:=λ k=>K1 (v8 Y3 (B5 _ k));have ma:∀k,m≠s1.heap.objs.size+k:=λ k=>K1 (v8 Y2 (B5 _ k));have lg:l < g.objs.size:=by rw[g6];exact v8 Y3 (B5 _ 5)
  have mg':m < g.objs.size:=by rw[g6];exact v8 Y2 (B5 _ 5)
  refine⟨⟨?_,?_,?_,?_,?_,?_,?_,?_,?_,?_,la 4,la 3,la 0,la 1,ma 4,ma 3,ma 0,ma 1⟩,(la 2).symm,g1,g2,⟨_,_,g3⟩,g4,g5,(jy b1).keep p1 λ o e=>g7 _ o e,(jy b2).keep Wl λ o e=>g7 _ o e,?_,?_,?_,?_,?_,lg,mg'⟩
  any_goals (show(_:Nat)≠_;omega)
  all_goals (show(_:Nat) < g.objs.size;omega)
 ·intro h' ps kp yM pr;have Xp:∀b o,s1.heap.get? b=some o->h'.get? b=some o:=λ b o e=>by have lt:∀k,b≠s1.heap.objs.size+k:=λ k=>K1 (v8 (K2 e) (B5 _ k));exact kp b o (lt 4) (lt 3) (lt 0) (lt 1) (g7 b o e)
  have I3:Inv X pins σ H1 {s1 with heap:=h'}:=I1.kept (t':=s1.toks) Xp;have hsz:(Shared.heap {s1 with heap:=g}).objs.size=s1.heap.objs.size+5:=g6;obtain⟨H2,z1,I4,_⟩:=pj (s:=s1) (h':=h') I1 v1 v2 ps (xs.zip ys) 0 H1 I3 rfl (by rw[yM,D7,z9,z9,<- v1.length,<- v2.length]) pr.1 (λ p hp=>by
    obtain⟨j,hj⟩:=mem_iff_getElem?.mp hp;have ge:=(pr.2 j p hj).1;have ge:s1.heap.objs.size<=p:=K5 (by rw[hsz];omega) ge;exact⟨ge,I1.bq.fresh ge⟩) λ j p hj=>by obtain⟨_,x,y,f1,f2,f3⟩:=pr.2 j p hj;exact⟨x,y,by rw[K6];simpa using f1,by rw[K6];simpa using f2,f3⟩
  have I5:Inv X pins σ (upd H2 h'.objs.size (.tup (ps.map V.ref))) {s1 with heap:=h'.push {cls:=.type "tuple",data:=.seq (ps.map Value.ref).toArray}}:=
   I4.laid (t':=s1.toks) (λ b o e=>j7 _ e) (L8 _) (show bD X.prog X.w _ _ _ (.tup (ps.map V.ref))from⟨by rw[D3,yM];exact K5 (Nat.min_le_left _ _) (K5 TX (by decide)),ps.map Value.ref,sJ ps,IsTup.new _ _⟩)
  exact⟨.ref h'.objs.size,_,I5,rfl,q ps H2 _ z1 (I4.bq.fresh (L8 _))⟩
end
end L2
namespace L3
open PySem PySem.Spec PyProof.Rows L2 L5
theorem tK{H H':Hp}{qs:List (V×V)}{ps:List Addr}(h:BP H qs ps H'):ao H H':=by
 induction h with
 |nil=>exact ao.refl _
 |cons hn _ ih=>exact(ao.laid hn).trans ih
theorem IM{K:O8}{M:Mem}{H H':Hp}{qs:List (V×V)}{ps:List Addr}(h:BP H qs ps H')(r:RelM K H M):RelM K H' M:=by
 induction h with
 |nil=>exact r
 |cons hn _ ih=>exact ih (r.laid hn)
theorem tL{K:O8}{H3:Hp}:∀{xs ys:List D} {xv yv:List V} {ps:List Addr} {H H2:Hp},BP H (xv.zip yv) ps H2->ao H2 H3->aE K H xs xv->aE K H ys yv->(∀(j:Nat) (x y:V) (p:Addr),(xv.zip yv)[j]?=some (x,y)->ps[j]?=some p->H3 p=some (.tup [x,y]))->aE K H3 (BW xs ys) (ps.map V.ref)
 |[],ys,xv,yv,ps,H,H2,z,t,dx,dy,at'=>by cases(aq.mp dx);rw[zip_nil_left]at z;cases z;exact aq.mpr rfl
 |x::xs,[],xv,yv,ps,H,H2,z,t,dx,dy,at'=>by cases(aq.mp dy);rw[zip_nil_right]at z;cases z;exact aq.mpr rfl
 |x::xs,y::ys,xv,yv,ps,H,H2,z,t,dx,dy,at'=>by
  obtain⟨a,xr,rfl,hx,hxr⟩:=ag.mp dx;obtain⟨b,yr,rfl,hy,hyr⟩:=ag.mp dy;rw[x9]at z;cases z with
  |@cons _ _ _ _ p Gz _ hn z'=>have t1:ao H (upd H p (.tup [a,b])):=ao.laid hn;have t2:=tK z';refine ag.mpr ⟨.ref p,Gz.map V.ref,rfl,?_,tL z' t (aE.mono t1 _ hxr) (aE.mono t1 _ hyr) λ j u v q e1 e2=>at' (j+1) u v q (by rw[x9];simpa using e1) (by simpa using e2)⟩;refine aQ.mpr ⟨p,[a,b],rfl,.inl (.inl (at' 0 a b p (by rw[x9];rfl) rfl)),?_⟩;exact ag.mpr ⟨a,[b],rfl,Dat.mono (t1.trans (t2.trans t)) _ hx,ag.mpr ⟨b,[],rfl,Dat.mono (t1.trans (t2.trans t)) _ hy,aq.mpr rfl⟩⟩
theorem CC{K:O8}{H:Hp}{M:Mem}{d:D}{xs:List D}{v:V}(hm:RelM K H M)(e:cL M d=some xs)(hd:Dat K H d v):∃(b:Bool) (l:Addr) (xv:List V),v=.ref l/\Sq b K H l xv/\aE K H xs xv:=by
 obtain⟨p,xv,rfl,h1,h2⟩:=fH e hd hm;cases h1 with
 |inl h1=>exact⟨false,p,xv,rfl,h1,h2⟩
 |inr h1=>exact⟨true,p,xv,rfl,h1,h2⟩
section
variable {X:Cx}{e1 e2:Expr}{ta:eT}{p p2 pos bS:Pos}
def CH(ta:eT):bX:=λ δ M Q=>ta δ M λ ds M1=>∃(d1 d2:D) (xs ys:List D),ds=[d1,d2]/\cL M1 d1=some xs/\cL M1 d2=some ys/\xs.length<=10000/\Q (.tup (BW xs ys)) M1
theorem NZ(hc:X.calm=true)(hg:Gl X "tuple")(hm:X.mg "tuple"=none)(Tu:Gl X "zip")(Td:X.mg "zip"=none)(ha:QA X [e1,e2] ta) (hs:starEach [e1,e2] X.env=[(false,eval e1 X.env),(false,eval e2 X.env)]:=by rfl) (kb:starEach [e2] X.env=[(false,eval e2 X.env)]:=by rfl) (he:starEach [.Call (.Name "zip" p2) [e1,e2] [] bS] X.env=(false,eval (.Call (.Name "zip" p2) [e1,e2] [] bS) X.env)::starEach [] X.env:=by rfl):QE X (.Call (.Name "tuple" p) [.Call (.Name "zip" p2) [e1,e2] [] bS] [] pos) (CH ta):=by
 refine bL (I_ hc hg hm Tu Td ha hs kb he) ?_;rintro σ H Q ⟨δ,M,Q2,hs,hm,q,k⟩;refine⟨δ,M,_,hs,hm,q,λ vs H1 ds M1 hd bR t1 ⟨d1,d2,xs,ys,e,s1,s2,gE,q1⟩=>?_⟩;subst e;obtain⟨v1,r,rfl,hv1,hr⟩:=ag.mp hd;obtain⟨v2,r2,rfl,W9,BG⟩:=ag.mp hr;cases(aq.mp BG);obtain⟨b1,l,xv,rfl,q3,dx⟩:=CC bR s1 hv1;obtain⟨b2,m,yv,rfl,q4,dy⟩:=CC bR s2 W9;refine⟨b1,b2,l,m,xv,yv,rfl,q3,q4,by rw[dx.length];exact gE,λ ps H2 r z hn=>?_⟩;have t2:=tK z;have t3:ao H2 (upd H2 r (.tup (ps.map V.ref))):=ao.laid hn;refine k _ _ _ M1 (aQ.mpr ⟨r,_,rfl,.inl (.inl aJ),?_⟩) ((IM z bR).laid hn) (t1.trans (t2.trans t3)) q1;exact tL z t3 dx dy λ j x y p' f1 f2=>by have:=z.at j x y p' f1 f2;rw[aA (aU this hn)];exact this
end
end L3
namespace L4
open PySem L2 L3
theorem Mn{X:Cx}{e1 e2:Expr}{ta:eT}{p p2 pos bS:Pos}(hc:X.calm=true)(hg:Gl X "tuple")(hm:X.mg "tuple"=none)(Tu:Gl X "zip")(Td:X.mg "zip"=none)(ha:WA X [e1,e2] ta) (hs:starEach [e1,e2] X.env=[(false,eval e1 X.env),(false,eval e2 X.env)]:=by rfl) (kb:starEach [e2] X.env=[(false,eval e2 X.env)]:=by rfl) (he:starEach [.Call (.Name "zip" p2) [e1,e2] [] bS] X.env=(false,eval (.Call (.Name "zip" p2) [e1,e2] [] bS) X.env)::starEach [] X.env:=by rfl):WE X (.Call (.Name "tuple" p) [.Call (.Name "zip" p2) [e1,e2] [] bS] [] pos) (CH ta):=⟨NZ hc hg hm Tu Td ha.h hs kb he⟩
theorem Hw{ta:eT}{δ:cV}{M:Mem}{Q:bF}(h:ta δ M λ ds M1=>∃(d1 d2:D) (xs ys:List D),ds=[d1,d2]/\cL M1 d1=some xs/\cL M1 d2=some ys/\xs.length<=10000/\Q (.tup (BW xs ys)) M1):CH ta δ M Q:=h
end L4
namespace KK
open PySem L3 L4 L5
open L2 hiding bA qD
local macro_rules|`(tactic|walk_at "mem")=>`(tactic|first|assumption|exact aj|(rw[aD (by assumption)];assumption)|(rw[aD (by assumption),aD (by assumption)];assumption)|(rw[aD (by assumption)];exact aj))
local macro_rules|`(tactic|walk_at "rd1")=>`(tactic|first|(with_reducible first|refine Ng ?_|refine Nz ?_|refine HJ ?_|refine Nh ?_|refine NG ?_|refine Ie ?_|refine yg ?_|refine Nf ?_|refine HB ?_|refine RM ?_|refine RI ?_)|((with_reducible refine' Nb ?k1 ?_);(case k1=>rfl))|(with_reducible first|refine V9 ?_|refine NH ?_|refine RL ?_|refine Nj ?_|refine Io ?_|refine Ni ?_|refine HI ?_|refine Dl ?_|refine Nk ?_|refine Ig ?_|refine Nc ?_|refine Nt ?_|refine Nd ?_|refine HA ?_|refine Ih ?_|refine Dk ?_|refine NA ?_|refine HG ?_|refine Ii ?_|refine Ik ?_|refine Il ?_)|((with_reducible refine' Im ?k1 ?_);(case k1=>walk_at "mem"))|(with_reducible first|refine Na ?_|refine HD ?_|refine RP ?_|refine V8 ?_|refine RK ?_|refine zZ ?_|refine HH ?_|refine RQ ?_)|((with_reducible refine Nq ?k1 ?_);(case k1=>first|assumption|decide))|((with_reducible refine NF ?k1 ?k2 ?_);(case k1=>first|assumption|decide);(case k2=>first|assumption|decide|omega))|((with_reducible refine jq ?k1 ?_);(case k1=>exact Gb (by decide) (by decide)))|(with_reducible first|refine HQ ?_|refine H_ ?_|refine RN ?_|refine Dm ?_|refine Di ?_|refine Dj ?_|refine CV ?_|refine Nu ?_|refine Ib ?_|refine Ic ?_|refine Ia ?_|refine HK ?_|refine HL ?_|refine Hy ?_|refine Nr ?_|refine Nl ?_|refine HR ?_)|((with_reducible refine' du ?k1 ?k2 ?_);(case k1=>walk_at "mem");(case k2=>rfl))|((with_reducible refine' jW ?k2 ?_);(case k2=>rfl))|((with_reducible refine' HU ?k1 ?_);(case k1=>walk_at "mem"))|((with_reducible refine' CW ?k1 ?k2 ?_);(case k1=>walk_at "mem");(case k2=>rfl))|(with_reducible first|refine Hx ?_|refine Hw ?_|refine RO ?_|refine HZ ?_|refine Dg ?_|refine Dh ?_|refine HW ?_|refine HX ?_))
local macro_rules|`(tactic|walk_at "rd")=>`(tactic|repeat(walk_at "rd1"))
local macro_rules|`(tactic|walk_at "rx")=>`(tactic|repeat(first|walk_at "rd1"|((with_reducible refine' RJ ?k1 ?_);(case k1=>exact l5 rfl))))
def top(i:Nat):Stmt:=PySem.Challenge.pw_lastloser_k44_games_put_together.main.body.getD i (.Pass ⟨0,0,0,0⟩)
def oG(i:Nat):Stmt:=match top i with
 | .ClassDef _ _ _ b _ _ _ _ _ _ _=>b.getD 0 (.Pass ⟨0,0,0,0⟩)
 |_=>.Pass ⟨0,0,0,0⟩
structure gG(K:O8)(mg:Str->Option Value):Prop where
 ValueError:mg "ValueError"=none
 all:mg "all"=none
 any:mg "any"=none
 bool:mg "bool"=none
 dict:mg "dict"=none
 enumerate:mg "enumerate"=none
 int:mg "int"=none
 isinstance:mg "isinstance"=none
 len:mg "len"=none
 list:mg "list"=none
 max:mg "max"=none
 min:mg "min"=none
 range:mg "range"=none
 sorted:mg "sorted"=none
 str:mg "str"=none
 sum:mg "sum"=none
 tuple:mg "tuple"=none
 zip:mg "zip"=none
 nE:gF K "bool"
 Fd:gF K "int"
 Fc:gF K "list"
 LM:gF K "str"
 rE:gF K "tuple"
 AZ:k_ K mg "LETTERS" (.str (Str.ofString "abcdefghijklmnopqrstuvwxyz"))
 A_:k_ K mg "FIGURES" (.tup ([Str.ofString "1",Str.ofString "2",Str.ofString "3",Str.ofString "4",Str.ofString "5",Str.ofString "6",Str.ofString "7",Str.ofString "8",Str.ofString "9"].map D.str))
 Kv:k_ K mg "TAKEN" (.tup ([Str.ofString "row",Str.ofString "to",Str.ofString "take",Str.ofString "none",Str.ofString "one",Str.ofString "two",Str.ofString "as",Str.ofString "heap"].map D.str))
 nJ:k_ K mg "LONGEST_WORD" (.int 5)
 eZ:mg "HeapError"=some (.ref 24)
 gr:Mf K 24
 GU:lH K 24
 Gi:i' K mg "NoText" "NoText.__init__" (oG 2) 44 41 ["self","row"] [Str.ofString "row"]
 dj:i' K mg "Twice" "Twice.__init__" (oG 3) 63 60 ["self","name"] [Str.ofString "name"]
 Gj:i' K mg "NoName" "NoName.__init__" (oG 4) 82 79 ["self","name"] [Str.ofString "name"]
 Bw:i' K mg "TooMany" "TooMany.__init__" (oG 5) 101 98 ["self"] []
 dm:i' K mg "NoGame" "NoGame.__init__" (oG 6) 120 117 ["self","word","heap"] [Str.ofString "word",Str.ofString "heap"]
 Bx:i' K mg "NoTable" "NoTable.__init__" (oG 7) 139 136 ["self","word","at"] [Str.ofString "word",Str.ofString "at"]
 K_:i' K mg "Wrong" "Wrong.__init__" (oG 8) 158 155 ["self","counts"] [Str.ofString "counts"]
 By:i' K mg "NoPaper" "NoPaper.__init__" (oG 9) 177 174 ["self","at"] [Str.ofString "at"]
 eN:i' K mg "NoPick" "NoPick.__init__" (oG 10) 196 193 ["self","heap"] [Str.ofString "heap"]
 K':i' K mg "NoRow" "NoRow.__init__" (oG 11) 215 212 ["self"] []
 kH:PySem.W.kitOne K (.ref 63) (.ref 24)=some true
 kA:PySem.W.kitAny K (.ref 63) [.ref 44,.ref 82,.ref 101,.ref 120,.ref 139,.ref 158,.ref 177,.ref 196,.ref 215]=some false
 sN:zM K 63 63=true
def sW:gL:=λ ds M Q=>∃ns:List Int,ds=[.fl (ns.map D.int)]/\∀M',Q (.bl true) M'
section
variable {P:Program}{w:World}{K:O8}{mg:Str->Option Value}{base:Heap}
theorem gR:aH ["_law_flow_here","_law_many","_law_cell","_law_digit"] ["_law_flow_here","_law_many"] (ai (top 38)):=⟨rfl,rfl,rfl,by decide+kernel,rfl,by decide+kernel,by decide+kernel⟩
theorem Jr{f:Addr}{fd:FuncData}(F:dU K "_law_pick" "_law_pick" (top 38) f fd)(T:gG K mg):bx P w K mg base eS 1 f fd ["_law_flow_here","_law_many"] (cI K mD):=by
 refine kG F gR (λ ds M Q h=>?_) (λ bT A outer s H E ds M Q hr h=>?_)
 ·obtain⟨a,c,n,rfl,_⟩:=h;rfl
 ·obtain⟨a,c,n,rfl,⟨ns,p,b,sd,ct,hf,hc,fW,hp,hb,GF,ux⟩,BI,Q5,k⟩:=h;refine⟨_,(af (bV (mj (br (gA hr.units) (bN bA (ax 0) av (λ _ _=>rfl)) av (bj _)) (lI (br OV (bN bA (ax 0) av (λ _ _=>rfl)) (aK dq (by rfl) T.len (by decide+kernel) (aa (bN bA (ax 0) av (λ _ _=>rfl)) ae)) (bj _)))).pt
 (af (aZ (i:=2) gR.nd rfl (Or.inl rfl) (bN bA (bN bA (ax 0) av (λ _ _=>rfl)) (bN bA (ax 0) av (λ _ _=>rfl)) (λ _ _=>rfl)))
 (af (gN (bM bJ (bN bA (ax 0) av (λ _ _=>rfl)) av) (gO (ax 0) av kz))
 (ak (bV (br SD (ax 2) (bM Sw av av) (bj _))
 (ak (gN (ax 2) (gO (ax 0) av kz)))
 (ak (gN (bM kI (bM bJ (bM bJ (bM gp (bN bA (ax 0) av (λ _ _=>rfl)) av) (bM kI (ax 2) av)) av) av) (gO (ax 0) av kz)))))))
 bo)
 (af (bV (br O9 (bN bA (ax 0) av (λ _ _=>rfl)) av (bj _))
 (af (aZ (i:=3) gR.nd rfl (Or.inl rfl) (bM kI (bN bA (ax 0) av (λ _ _=>rfl)) (ax 1)))
 (af (gN (bM qZ (bN bA (ax 0) av (λ _ _=>rfl)) (ax 1)) (gO (ax 0) av kz))
 (ak (aR (ax 3)))))
 bo)
 (af (gN (bM bJ (bN bA (ax 0) av (λ _ _=>rfl)) av) (gO (ax 0) av kz))
 (af (gN (bM kI (bM bJ (bM bJ (bM gp (bN bA (ax 0) av (λ _ _=>rfl)) av) av) (bN bA (ax 0) av (λ _ _=>rfl))) av) (gO (ax 0) av kz))
 (ak (aR (bM kI (bM qZ (bM kI (bM gp (bM bJ (bM kI (bN bA (ax 0) av (λ _ _=>rfl)) av) av) (bM bJ (bM qZ (bN bA (ax 0) av (λ _ _=>rfl)) av) av)) av) av) (ax 1)))))))),?_⟩
  refine mO (λ δ' M'=>∃(p b sd ct:Int) (v:Option D),δ'=[some (.ref a),some (.int n),v,none]/\M'=ay M a (.lst (LR c p b sd ct))/\0<=p/\0<=b/\0<=sd/\sd < 2147483647) (λ N hN=>?_) ?_
  ·walk_at "rd";refine cz (λ TN=>?_) (λ TN=>?_)
   ·walk_at "rd";refine cz (λ hpl=>?_) (λ hpl=>?_)
    ·obtain⟨x,hx⟩:∃x:Int,gJ (ns.map D.int) p=some (.int x):=by
      have hl:p.toNat < ns.length:=by rw[D3]at hpl;omega
      refine⟨ns[p.toNat],?_⟩;have e:((p.toNat:Nat):Int)=p:=by omega
      have q:gJ (ns.map D.int) ((p.toNat:Nat):Int)=some (.int ns[p.toNat]):=cC (by simp[hl]);rw[e]at q;exact q
     walk_at "rd";refine du hc hx ?_;walk_at "rd";refine V7 ⟨by decide,by decide,by decide⟩ ?_;walk_at "rd";refine cz (λ PX=>?_) (λ PX=>?_)
     ·walk_at "rd";rw[fB];refine hN _ _ ⟨p+1,x,sd,ct,_,rfl,rfl,by omega,?_,GF,ux⟩;have PX:(10:Int)^(18:Int).toNat<=x:=PX;have e:(10:Int)^(18:Int).toNat=1000000000000000000:=by decide
      omega
     ·walk_at "rd";rw[fB];refine hN _ _ ⟨p+1,b,_,ct,_,rfl,rfl,by omega,hb,C5 _ (by decide),u6 _ (by decide)⟩
    ·walk_at "rd";exact hN _ _ ⟨p,b,sd,ct,none,rfl,(pf hf).symm,hp,hb,GF,ux⟩
   ·walk_at "rd";exact hN _ _ ⟨p,b,sd,ct,none,rfl,(pf hf).symm,hp,hb,GF,ux⟩
  ·rintro δ' M' ⟨p,b,sd,ct,v,rfl,rfl,hp,hb,GF,ux⟩;walk_at "rd";refine cz (λ TN=>?_) (λ TN=>?_)
   ·walk_at "rd";rw[fB];refine ar (k _ _ (C5 _ (by omega)) (u6 _ BI) ⟨ns,p,_,sd,ct,aj,by rw[aD fW];exact hc,fW,hp,Int.ediv_nonneg hb (by omega),GF,ux⟩)
   ·walk_at "rd";refine jq (Gd ?_ ?_) ?_
    ·have:=C5 ((sd*48271+12820163+(ct+1)) % 2147483647) (show(65521:Int)≠0 by decide);omega
    ·have:=u6 ((sd*48271+12820163+(ct+1)) % 2147483647) (show(0:Int) < 65521 by decide);omega
    walk_at "rd";rw[fB,fB];exact ar (k _ _ (C5 _ (by omega)) (u6 _ BI) ⟨ns,p,b,_,_,aj,by rw[aD fW];exact hc,fW,hp,hb,C5 _ (by decide),u6 _ (by decide)⟩)
theorem s_:aH ["_law_script"] ["_law_script"] (ai (top 47)):=⟨rfl,rfl,rfl,by decide+kernel,rfl,by decide+kernel,by decide+kernel⟩
theorem Jx{f:Addr}{fd:FuncData}(F:dU K "_law_flow" "_law_flow" (top 47) f fd)(T:gG K mg):bx P w K mg base eS 1 f fd ["_law_script"] (cI K Cy):=by
 refine kG F s_ (λ ds M Q h=>?_) (λ bT A outer s H E ds M Q hr h=>?_)
 ·obtain⟨a,rfl,_⟩:=h;rfl
 ·obtain⟨ns,rfl,k⟩:=h;refine⟨_,(ak (aR (dN (aa (lJ Qo (by rfl) T.list (by decide+kernel) (aa (ax 0) ae)) (aa av (aa av (aa av (aa av ae)))))))),?_⟩;walk_at "rd";refine De λ c hc=>?_;walk_at "rd";refine⟨small (by show 5<=10000;decide),λ fl TB=>?_⟩;have fW:c≠fl:=λ z=>by subst z;rw[aj]at TB;cases TB
  exact ar (k fl c _ ⟨ns,0,0,1,0,aj,by rw[aD fW];exact aj,fW,by decide,by decide,by decide,by decide⟩)
end
def fq:List Str:=[Str.ofString "row",Str.ofString "to",Str.ofString "take",Str.ofString "none",Str.ofString "one",Str.ofString "two",Str.ofString "as",Str.ofString "heap"]
def mX:List Str:=[Str.ofString "rows",Str.ofString "tow",Str.ofString "takes",Str.ofString "nones",Str.ofString "ones",Str.ofString "twos",Str.ofString "ass",Str.ofString "heaps",Str.ofString "on",Str.ofString "t",Str.ofString "ro",Str.ofString "a"]
structure Lw(z:Str):Prop where
 pos:1<=z.length
 len:z.length<=5
 low:∀c∈z.cps.toList,97<=c/\c<=122
structure Wd(z:Str):Prop extends Lw z where
 free:z∉fq
def Nm(z:Str):Prop:=Wd z\/∃(w:Str) (c:Nat),Wd w/\49<=c/\c<=57/\z=w++⟨#[c]⟩
def SO(z:Str):Bool:=decide (1<=z.length)&&decide (z.length<=5)&&z.cps.toList.all λ c=>decide (97<=c)&&decide (c<=122)
theorem yz{z:Str}(h:SO z=true):Lw z:=by unfold SO at h;simp only[B1,y2,B9]at h;exact⟨h.1.1,h.1.2,h.2⟩
theorem JB:∀z∈mX,SO z=true:=by decide+kernel
theorem Hf:∀z∈fq,SO (fR z none (some 4)++Str.ofString "q")=true/\fR z none (some 4)++Str.ofString "q"∉fq/\z.length<=4:=by decide+kernel
theorem Nm.len {z:Str}(h:Nm z):1<=z.length/\z.length<=6:=by
 rcases h with h|⟨w,c,h,_,_,rfl⟩
 ·exact⟨h.pos,Nat.le_succ_of_le h.len⟩
 ·have e:(w++⟨#[c]⟩:Str).length=w.length+1:=by rw[len_app];rfl
  rw[e];have:=h.len;omega
theorem zf(x y:Str):(x++y).cps.toList=x.cps.toList++y.cps.toList:=by show(x.cps++y.cps).toList=_;simp
theorem Nm.ok {z:Str}(h:Nm z):PyData.strOk z=true:=by
 have:∀c∈z.cps.toList,c < 0x110000:=by
  rcases h with h|⟨w,c,h,_,_,rfl⟩
  ·exact λ c hc=>u9 (h.low c hc).2 (by decide)
  ·intro d hd;rw[zf]at hd;rcases D4.mp hd with z|z
   ·exact u9 (h.low d z).2 (by decide)
   ·have:d=c:=by simpa using z
    omega
 unfold PyData.strOk;rw[<- Array.all_toList,B9];exact λ c hc=>E7 (this c hc)
theorem join_ones:∀cs:List Nat,Txt.join (Str.ofString "") (cs.map λ c=>(⟨#[c]⟩:Str))=⟨cs.toArray⟩:=by
 intro cs;show Builtin.Str.glued (Str.ofString "") _=_;rw[StrLaws.glued_eq_join,show Str.ofString ""=⟨#[]⟩ by decide+kernel]
 induction cs with
 |nil=>rfl
 |cons c cs ih=>rw[H9,PyProof.Rows.join_nil_cons,ih];show Str.mk (#[c]++cs.toArray)=_;congr 1;simp
def UD(acc:List D)(i:Nat):Prop:=∃cs:List Nat,acc=(cs.map λ c=>(⟨#[c]⟩:Str)).map D.str/\cs.length=i/\∀c∈cs,97<=c/\c<=122
theorem UD.snoc {acc:List D}{i:Nat}(h:UD acc i){c:Nat}(hc:97<=c/\c<=122):UD (acc++[.str ⟨#[c]⟩]) (i+1):=by
 obtain⟨cs,rfl,h1,h2⟩:=h;refine⟨cs++[c],by simp,by simp[h1],λ d hd=>?_⟩;rcases D4.mp hd with z|z
 ·exact h2 d z
 ·rw[w5.mp z];exact hc
theorem EJ{acc:List D}{n:Nat}(h:UD acc n)(h1:1<=n)(hn:n<=5){M:Mem}{Q:bF}(q:∀z:Str,Lw z->Q (.str z) M):nX (.str (Str.ofString "")) acc M Q:=by
 obtain⟨cs,rfl,h2,h3⟩:=h;show(match fF ((cs.map λ c=>(⟨#[c]⟩:Str)).map D.str)with|some ys=>(ys.map (·.length)).sum+ys.length*(Str.ofString "").length<=16777216/\Q (.str (Txt.join (Str.ofString "") ys)) M|none=>False);rw[pq];have e0:(Str.ofString "").length=0:=by decide+kernel
 have e1:(((cs.map λ c=>(⟨#[c]⟩:Str))).map (·.length)).sum=cs.length:=by
  clear h2 h3
  induction cs with
  |nil=>rfl
  |cons c cs ih=>simp only[H9,sum_cons,A5]at*;rw[ih];show 1+cs.length=_;omega
 refine⟨by rw[e0,e1];omega,?_⟩;rw[join_ones];have el:(⟨cs.toArray⟩:Str).length=cs.length:=by show cs.toArray.size=_;simp
 exact q _ ⟨by rw[el];omega,by rw[el];omega,λ c hc=>h3 c (by simpa using hc)⟩
theorem zp{α:Type}{xs:List α}{d:Int}{c:α}(h:gJ xs d=some c):c∈xs:=by
 unfold gJ at h;cases e:vB xs.length d with
 |none=>rw[e]at h;cases h
 |some j=>rw[e]at h;exact l8 h
theorem Pd{c:Nat}{d:Int}(h:gJ (Str.ofString "abcdefghijklmnopqrstuvwxyz").cps.toList d=some c):97<=c/\c<=122:=by
 have all:∀c∈(Str.ofString "abcdefghijklmnopqrstuvwxyz").cps.toList,97<=c/\c<=122:=by decide+kernel
 exact all c (zp h)
theorem Fx{c:Nat}{d:Int}(h:gJ (Str.ofString "123456789").cps.toList d=some c):49<=c/\c<=57:=by
 have all:∀c∈(Str.ofString "123456789").cps.toList,49<=c/\c<=57:=by decide+kernel
 exact all c (zp h)
def RD:gL:=λ ds M Q=>∃f c,ds=[.ref f]/\Flow M f c/\∀(z:Str) (M':Mem),Nm z->Fl f c M M'->Q (.str z) M'
section
variable {P:Program}{w:World}{K:O8}{mg:Str->Option Value}{base:Heap}
theorem cT:aH ["_law_flow_here","_law_letters","_law_near","_law_name_here"] ["_law_flow_here"] (ai (top 39)):=⟨rfl,rfl,rfl,by decide+kernel,rfl,by decide+kernel,by decide+kernel⟩
theorem Ju{f:Addr}{fd:FuncData}(F:dU K "_law_name" "_law_name" (top 39) f fd)(T:gG K mg)(aV:cO P w K mg base 1 "_law_pick" ["_law_flow_here","_law_many"] mD):bx P w K mg base eS 2 f fd ["_law_flow_here"] (cI K RD):=by
 refine kG F cT (λ ds M Q h=>?_) (λ bT A outer s H E ds M Q hr h=>?_)
 ·obtain⟨a,cc,rfl,_⟩:=h;rfl
 ·obtain⟨a,cc,rfl,hF,k⟩:=h;refine⟨_,(af (aZ (i:=1) cT.nd rfl (Or.inr rfl) eX)
 (af (aZ (i:=2) cT.nd rfl (Or.inl rfl) (dN (xS (zs:=[Str.ofString "rows",Str.ofString "tow",Str.ofString "takes",Str.ofString "nones",Str.ofString "ones",Str.ofString "twos",Str.ofString "ass",Str.ofString "heaps",Str.ofString "on",Str.ofString "t",Str.ofString "ro",Str.ofString "a"]) (by kernel_rfl))))
 (af (aZ (i:=3) cT.nd rfl (Or.inl rfl) (Mp PySem.F.plainAttrs_str PySem.F.slot_str_join PySem.F.type_str_join Pb Ck eX (tgs:=["_law_k"]) (fr:=[1,0]) ⟨bc (by kernel_rfl),rfl,(λ _ _ h=>h),(cp rfl T.range (aa (bM bJ av (aY aV (hr.mono (by decide)) (by rfl) (aa (ax 0) (aa av ae)))) ae)),(aM (λ _ _ _ _ _=>(aL (i:=0) (show(["_law_k","_law_letters","_law_flow_here"]:List Str).Nodup by decide+kernel) rfl (Or.inl rfl))) (by decide)),(λ _ _ _ _ _=>aX),(λ _ _ _ _ _=>(bN bA (ax 1) (aY aV (hr.mono (by decide)) (by rfl) (aa (ax 2) (aa av ae))) (λ _ _=>rfl)))⟩))
 (af (bV (br (gA hr.units) (aY aV (hr.mono (by decide)) (by rfl) (aa (ax 0) (aa av ae))) av (bj _))
 (ak (aZ (i:=3) cT.nd rfl (Or.inl rfl) (bN bA (ax 2) (aY aV (hr.mono (by decide)) (by rfl) (aa (ax 0) (aa av ae))) (λ _ _=>rfl))))
 bo)
 (af (bV (br (kJ hr.units) (ax 3) (cS (xS (zs:=[Str.ofString "row",Str.ofString "to",Str.ofString "take",Str.ofString "none",Str.ofString "one",Str.ofString "two",Str.ofString "as",Str.ofString "heap"]) (by kernel_rfl))) rfl)
 (ak (aZ (i:=3) cT.nd rfl (Or.inl rfl) (bM bJ (cY gU (ax 3) cX (cW av)) eX)))
 bo)
 (ak (aR (bM bJ (ax 3) (bN bA (dN (aa eX (aa eX (aa (bN bA eX (aY aV (hr.mono (by decide)) (by rfl) (aa (ax 0) (aa av ae))) (λ _ _=>rfl)) ae)))) (aY aV (hr.mono (by decide)) (by rfl) (aa (ax 0) (aa av ae))) (λ _ _=>rfl)))))))))),?_⟩
  walk_at "rd";refine⟨by decide,λ q hq=>?_⟩;have Fe:q≠a:=λ z=>by obtain⟨o,e⟩:=hF.there;rw[<- z,hq]at e;cases e
  have F0:Fl a cc M (ay M q (.lst (mX.map D.str))):=Fl.put hF hq;have vG:(ay M q (.lst (mX.map D.str))) q=some (.lst (mX.map D.str)):=aj;have eM:ay M q (.lst (mX.map D.str))=ay M q (.lst ([Str.ofString "rows",Str.ofString "tow",Str.ofString "takes",Str.ofString "nones",Str.ofString "ones",Str.ofString "twos",Str.ofString "ass",Str.ofString "heaps",Str.ofString "on",Str.ofString "t",Str.ofString "ro",Str.ofString "a"].map D.str)):=rfl;rw[<- eM];clear eM;generalize ay M q (.lst (mX.map D.str))=M1 at F0 vG ⊢;walk_at "rd";refine⟨rfl,?_⟩;walk_at "rd";refine⟨a,cc,5,rfl,F0.bG,by decide,by decide,λ m o h0 h1 P0=>?_⟩;have F1:Fl a cc M1 _:=Fl.pick P0;walk_at "rd";refine⟨eE (by omega) (by omega),?_⟩;refine gw (λ i acc M'=>UD acc i/\Fl a cc M1 M') ⟨⟨[],rfl,rfl,λ c z=>by cases z⟩,F1⟩ (λ i acc M' hi h=>?_) (λ i d' acc M' hd h=>?_) (λ acc M' h=>?_)
  ·obtain⟨⟨cs,rfl,h2,_⟩,_⟩:=h;rw[cg]at hi;rw[D3,D3];exact small (by omega)
  ·walk_at "rd";refine⟨a,cc,26,rfl,h.2.bG,by decide,by decide,λ d2 o2 h2 h3 GQ=>?_⟩;obtain⟨c,hc⟩:=vn (xs:=(Str.ofString "abcdefghijklmnopqrstuvwxyz").cps.toList) h2 (by
    have e:(Str.ofString "abcdefghijklmnopqrstuvwxyz").cps.toList.length=26:=by decide+kernel
    rw[e];exact h3)
   refine wt (by decide+kernel) hc ?_;exact⟨h.1.snoc (Pd hc),h.2.trans (Fl.pick GQ)⟩
  ·obtain⟨XN,VB⟩:=h;rw[cg]at XN;refine EJ XN (by omega) (by omega) λ z hz=>?_;have F2:=F0.trans VB;have vG:=VB.mv q _ Fe vG;clear XN VB
   with_reducible refine yg ?_
   with_reducible refine mO (λ δ' M2=>∃z:Str,δ'=[some (.ref a),some (.str (Str.ofString "abcdefghijklmnopqrstuvwxyz")),some (.ref q),some (.str z)]/\Lw z/\Fl a cc M M2) (λ N hN=>?_) ?_
   ·walk_at "rd";refine⟨a,cc,6,rfl,F2.bG,by decide,by decide,λ d3 o3 h4 h5 AX=>?_⟩;walk_at "rd";refine cz (λ _=>?_) (λ _=>?_)
    ·walk_at "rd";refine⟨a,cc,12,rfl,AX,by decide,by decide,λ d4 o4 h6 h7 Vz=>?_⟩;obtain⟨y,hy,WZ⟩:=vm (zs:=mX) h6 (by show d4 < 12;exact h7);refine du (by rw[aD Fe,aD Fe];exact vG) WZ ?_;walk_at "rd";exact hN _ _ ⟨y,rfl,yz (JB y hy),(F2.trans (Fl.pick AX)).trans (Fl.pick Vz)⟩
    ·walk_at "rd";exact hN _ _ ⟨z,rfl,hz,F2.trans (Fl.pick AX)⟩
   ·rintro δ' M2 ⟨z,rfl,hz,F2⟩
    with_reducible refine mO (λ δ' M3=>∃z:Str,δ'=[some (.ref a),some (.str (Str.ofString "abcdefghijklmnopqrstuvwxyz")),some (.ref q),some (.str z)]/\Wd z/\Fl a cc M M3) (λ N hN=>?_) ?_
    ·walk_at "rd";refine⟨by decide,?_⟩;refine qK (fO z fq) ?_;refine de (λ fb=>?_) (λ fb=>?_)
     ·have fb:z∈fq:=by simpa using fb
      obtain⟨t1,t2,t3⟩:=Hf z fb;walk_at "rd";refine qH (small (by omega)) ?_;walk_at "rd";have hl:=(yz t1).len;refine tG (small (by rw[len_app]at hl;omega)) ?_;walk_at "rd";exact hN _ _ ⟨_,rfl,⟨yz t1,t2⟩,F2⟩
     ·have fb:z∉fq:=by simpa using fb
      walk_at "rd";exact hN _ _ ⟨z,rfl,⟨hz,fb⟩,F2⟩
    ·rintro δ' M3 ⟨z,rfl,hz,F3⟩;walk_at "rd";refine⟨a,cc,9,rfl,F3.bG,by decide,by decide,λ d5 o5 h8 h9 GP=>?_⟩;obtain⟨c,hc⟩:=vn (xs:=(Str.ofString "123456789").cps.toList) h8 (by
      have e:(Str.ofString "123456789").cps.toList.length=9:=by decide+kernel
      rw[e];exact h9)
     refine wt (by decide+kernel) hc ?_;walk_at "rd";refine⟨small (by show 3<=10000;decide),λ q2 Kk=>?_⟩;have F5:=F3.trans (Fl.pick GP);have Xb:q2≠a:=λ z=>by subst z;obtain⟨o,e⟩:=GP.there;rw[Kk]at e;cases e
     walk_at "rd";refine⟨a,cc,3,rfl,GP.put Kk,by decide,by decide,λ d6 o6 h10 h11 hF6=>?_⟩;obtain⟨y,hy,WZ⟩:=vm (zs:=[Str.ofString "",Str.ofString "",⟨#[c]⟩]) h10 (by show d6 < 3;exact h11);have hl:=hz.len;have em:z++Str.ofString ""=z:=by rw[show Str.ofString ""=⟨#[]⟩ by decide+kernel];show Str.mk (z.cps++#[])=z;simp
     have YH:Nm (z++y)/\y.length<=1:=by
      have e:(Str.ofString "").length=0:=by decide+kernel
      simp only[J0,not_mem_nil,or_false]at hy;rcases hy with rfl|rfl|rfl
      ·exact⟨by rw[em];exact .inl hz,by omega⟩
      ·exact⟨by rw[em];exact .inl hz,by omega⟩
      ·exact⟨.inr ⟨z,c,hz,(Fx hc).1,(Fx hc).2,rfl⟩,by show 1<=1;decide⟩
     have YI:=YH.2;refine du (by rw[aD Xb];exact aj) WZ ?_;refine tG (small (by omega)) ?_;exact ar (k _ _ YH.1 ((F5.trans (Fl.put GP Kk)).trans (Fl.pick hF6)))
end
section
variable {P:Program}{w:World}{K:O8}{mg:Str->Option Value}{base:Heap}
theorem wb:aH ["_law_counts_here"] ["_law_counts_here"] (ai (top 43)):=⟨rfl,rfl,rfl,by decide+kernel,rfl,by decide+kernel,by decide+kernel⟩
theorem OS{f:Addr}{fd:FuncData}(F:dU K "_law_key" "_law_key" (top 43) f fd)(T:gG K mg):bx P w K mg base eS 1 f fd ["_law_counts_here"] (cI K Cv):=by
 refine kG F wb (λ ds M Q h=>?_) (λ bT A outer s H E ds M Q hr h=>?_)
 ·obtain⟨a,rfl,_⟩:=h;rfl
 ·obtain⟨as,rfl,hz,k⟩:=h;refine⟨_,(ak (aR (cS (aa (aK (qc rfl) (by rfl) T.sum (by decide+kernel) (aa (ax 0) ae)) (aa (fm cJ cq (by rfl) T.tuple (by decide+kernel) (tgs:=["_law_n"]) (fr:=[]) ⟨bc (by kernel_rfl),rfl,(λ _ _ h=>h),(bg (ax 0)),(aM (λ _ _ _ _ _=>(aL (i:=0) (show(["_law_n"]:List Str).Nodup by decide+kernel) rfl (Or.inl rfl))) (by decide)),(λ _ _ _ _ _=>aX),(λ _ _ _ _ _=>(bM Sv av (ax 0)))⟩) ae))))),?_⟩;walk_at "rd";refine lM ?_;walk_at "rd";refine gw (λ i acc M'=>M'=M/\acc=((as.map λ a=>0 - a).take i).map D.int) ⟨rfl,by simp⟩ (λ i acc M' hi h=>?_) (λ i d acc M' hd h=>?_) (λ acc M' h=>?_)
  ·obtain⟨_,rfl⟩:=h;rw[D3,B2];rw[D3]at hi;exact small (by omega)
  ·obtain⟨rfl,rfl⟩:=h;rw[y1]at hd;cases e:as[i]? with
   |none=>rw[e]at hd;cases hd
   |some a=>rw[e]at hd;cases hd;walk_at "rd";refine⟨rfl,?_⟩;rw[take_snoc (a:=0 - a) (by simp[e]),D5];rfl
  ·obtain⟨rfl,rfl⟩:=h;walk_at "rd";refine⟨by show 2<=sizeLine;decide,ar ?_⟩;have e:(as.map λ a=>0 - a).take (as.map D.int).length=as.map λ a=>0 - a:=by rw[D3];exact j5 (by simp)
   rw[e];exact k
end
def Up(os:List Row):Prop:=os.Pairwise λ a b=>klt (eV a) (eV b)=true
set_option tactic.hygienic true in
theorem wM(rs:List Row):(once rs).Nodup:=by
 have:∀(rs acc:List Row),acc.Nodup->(rs.foldl hG acc).Nodup:=by
  intro rs
  induction rs with
  |nil=>intro acc h;exact h
  |cons r rs ih=>
   intro acc h;refine ih _ ?_;unfold hG;split
   ·exact h
   ·rename_i z;exact nodup_append.mpr ⟨h,by simp,λ a ha b hb e=>z ((e.trans (w5.mp hb))▸ha)⟩
 exact this rs [] .nil
theorem JU{a b:Row}(hl:a.length=b.length)(h1:klt (eV a) (eV b)=false)(h2:klt (eV b) (eV a)=false):a=b:=by
 unfold klt eV at h1 h2;dsimp only at h1 h2;by_cases e:a.sum=b.sum
 ·rw[O6 e]at h1;rw[O6 e.symm]at h2;have z:=pJ _ _ (by simp[hl]) h1 h2;exact(List.map_inj_right (λ x y h=>by omega)).mp z
 ·rw[O7 e]at h1;rw[O7 (O4 e)]at h2;have h1:=x3 h1;have h2:=x3 h2;omega
theorem Rm{n:Nat}{os:List Row}(h1:os.Nodup)(h2:os.Pairwise UL)(hl:∀r∈os,r.length=n):Up os:=by
 refine(h1.and h2).imp_of_mem λ{a b} ha hb ⟨ne,bf⟩=>?_;cases e:klt (eV a) (eV b)with
 |true=>rfl
 |false=>exact absurd (JU ((hl a ha).trans (hl b hb).symm) e bf) ne
def sY:gL:=λ ds M Q=>∃(x:D) (rs:List (List Int)),ds=[x]/\(x=.tup (rs.map row)\/∃l,x=.ref l/\M l=some (.lst (rs.map row)))/\rs.length < 64/\(∀r∈rs,r.length<=1000)/\∀out:List (List Int),(∀r∈out,r∈rs)->out.length<=rs.length->out.Nodup->out.Pairwise UL->Q (.tup (out.map row)) M
section
variable {P:Program}{w:World}{K:O8}{mg:Str->Option Value}{base:Heap}
theorem lr:aH ["_law_sums"] ["_law_sums"] (ai (top 44)):=⟨rfl,rfl,rfl,by decide+kernel,rfl,by decide+kernel,by decide+kernel⟩
theorem Ea{f:Addr}{fd:FuncData}(F:dU K "_law_in_order" "_law_in_order" (top 44) f fd)(T:gG K mg)(Bh:cO P w K mg base 1 "_law_key" ["_law_counts_here"] Cv):bx P w K mg base eS 4 f fd ["_law_sums"] (cI K sY):=by
 refine kG F lr (λ ds M Q h=>?_) (λ bT A outer s H E ds M Q hr h=>?_)
 ·obtain⟨a,rs,rfl,_⟩:=h;rfl
 ·obtain⟨x,rs,rfl,hx,GR,hz,k⟩:=h;refine⟨_,(ak (aR (lJ cJ (by rfl) T.tuple (by decide+kernel) (aa (vS Bh (hr.mono (by decide)) (by rfl) T.sorted (by rfl) T.dict (by rfl) (iO (tgs:=["_law_counts_here"]) (fr:=[]) ⟨bc (by kernel_rfl),rfl,(λ _ _ h=>h),(bg (ax 0)),(aM (λ _ _ _ _ _=>(aL (i:=0) (show(["_law_counts_here"]:List Str).Nodup by decide+kernel) rfl (Or.inl rfl))) (by decide)),(λ _ _ _ _ _=>aX),(λ _ _ _ _ _=>(cS (aa (ax 0) (aa oo ae))))⟩)) ae)))),?_⟩;have go:∀(N:bF),(∀(p:Addr) (out:List (List Int)) (M':Mem),(∀b o,M b=some o->M' b=some o)->M' p=some (.lst (out.map row))->(∀r∈out,r∈rs)->out.length<=rs.length->out.Nodup->out.Pairwise UL->N (.ref p) M')->∀p,M p=none->rP Cv (.ref p) (ay M p (.lst (rs.map pairD))) N:=by
   intro N hN p hp;have h0:=iR (λ b o e=>e) hp (.lst (rs.map pairD));refine⟨p,rs,true,λ jQ M'=>M'=ay M p (.lst (rs.map pairD))/\jQ.length<=(once rs).length/\∀i k,jQ[i]?=some k->Ll true M' k (eV ((once rs).getD i [])),λ i=>eV ((once rs).getD i []),rfl,aj,GR,⟨rfl,N3 _,λ i k e=>by simp at e⟩,?_,?_⟩
   ·rintro jQ M' e ⟨rfl,h2,h3⟩ he;rw[y1]at he;cases er:(once rs)[jQ.length]? with
    |none=>rw[er]at he;cases he
    |some r=>
     rw[er]at he;cases he;have iS:jQ.length < (once rs).length:=(i5.mp er).1;refine⟨r,rfl,hz r (tV (l8 er)),rfl,?_,λ i k e=>?_⟩
     ·rw[u4,k9];omega
     ·by_cases hi:i < jQ.length
      ·rw[c9 hi]at e;exact h3 i k e
      ·rw[c6 (by omega)]at e;have Xs:i - jQ.length=0:=by have:=(i5.mp e).1;simp at this;omega
       rw[Xs]at e;have e:D.tup [.int r.sum,row (r.map λ a=>0 - a)]=k:=by simpa using e
       have hik:i=jQ.length:=by omega
       subst hik;show k=.tup [.int (eV ((once rs).getD jQ.length [])).1,.tup ((eV ((once rs).getD jQ.length [])).2.map D.int)];rw[<- e,c7,er];rfl
   ·rintro jQ M' ⟨rfl,h2,h3⟩ hl;refine⟨h3,λ p2 outD ix ho=>?_⟩;obtain⟨out,rfl,o1,o2⟩:=DV (rs:=once rs) ho;exact hN p2 out _ (iR h0 ix _) aj (λ r hr=>tV (o1.mem_iff.mp hr)) (by rw[o1.length_eq];exact Ew rs) (o1.nodup_iff.mpr (wM rs)) o2
  have fin:∀(p:Addr) (out:List (List Int)) (M':Mem),(∀b o,M b=some o->M' b=some o)->M' p=some (.lst (out.map row))->(∀r∈out,r∈rs)->out.length<=rs.length->out.Nodup->out.Pairwise UL->rO [.ref p] M' (fin2 Q):=λ p out M' h1 h2 h3 h4 h5 h6=>jV h2 (back h1 (k out h3 h4 h5 h6));rcases hx with rfl|⟨l,rfl,hl⟩
  ·walk_at "rd";refine gw (λ i acc M'=>M'=M/\acc=(rs.take i).map pairD) ⟨rfl,by simp⟩ (λ i acc M' hi h=>?_) (λ i d acc M' hd h=>?_) (λ acc M' h=>?_)
   ·obtain⟨_,rfl⟩:=h;rw[D3,B2];exact small (by omega)
   ·obtain⟨rfl,rfl⟩:=h;rw[y1]at hd;cases e:rs[i]? with
    |none=>rw[e]at hd;cases hd
    |some r=>rw[e]at hd;cases hd;walk_at "rd";refine⟨by show 2<=sizeLine;decide,rfl,?_⟩;rw[take_snoc e,D5];rfl
   ·obtain⟨rfl,rfl⟩:=h;rw[D3,A8];intro p hp;exact go _ fin p hp
  ·walk_at "rd";refine zh (ds:=rs.map row) (λ i acc M'=>M'=M/\acc=(rs.take i).map pairD) ⟨rfl,by simp⟩ (λ i acc M' hi h=>?_) (λ i acc M' hi h=>?_) (λ i d acc M' hd h=>?_) (λ acc M' h=>?_)
   ·obtain⟨rfl,_⟩:=h;exact hl
   ·obtain⟨_,rfl⟩:=h;rw[D3,B2];exact small (by omega)
   ·obtain⟨rfl,rfl⟩:=h;rw[y1]at hd;cases e:rs[i]? with
    |none=>rw[e]at hd;cases hd
    |some r=>rw[e]at hd;cases hd;walk_at "rd";refine⟨by show 2<=sizeLine;decide,rfl,?_⟩;rw[take_snoc e,D5];rfl
   ·obtain⟨rfl,rfl⟩:=h;rw[D3,A8];intro p hp;exact go _ fin p hp
end
section
variable {P:Program}{w:World}{K:O8}{mg:Str->Option Value}{base:Heap}
theorem oA:aH ["_law_heaps","_law_many"] ["_law_heaps","_law_many"] (ai (top 42)):=⟨rfl,rfl,rfl,by decide+kernel,rfl,by decide+kernel,by decide+kernel⟩
theorem Aq{f:Addr}{fd:FuncData}(F:dU K "_law_counts" "_law_counts" (top 42) f fd)(T:gG K mg):bx P w K mg base eS 1 f fd ["_law_heaps","_law_many"] (cI K sZ):=by
 refine kG F oA (λ ds M Q h=>?_) (λ bT A outer s H E ds M Q hr h=>?_)
 ·obtain⟨a,b,c,rfl,_⟩:=h;rfl
 ·obtain⟨a,ns,n,rfl,hM,hz,k⟩:=h;refine⟨_,(ak (aR (fm cJ cq (by rfl) T.tuple (by decide+kernel) (tgs:=["_law_h"]) (fr:=[0]) ⟨bc (by kernel_rfl),rfl,(λ _ _ h=>h),(cp rfl T.range (aa (ax 1) ae)),(aM (λ _ _ _ _ _=>(aL (i:=0) (show(["_law_h","_law_heaps"]:List Str).Nodup by decide+kernel) rfl (Or.inl rfl))) (by decide)),(λ _ _ _ _ _=>aX),(λ _ _ _ _ _=>(zG j0 PySem.F.slot_list_count PySem.F.type_list_count (JI hr.units) (ax 1) (aa (ax 0) ae)))⟩))),?_⟩;walk_at "rd";refine⟨eE (by omega) (by omega),?_⟩;rw[y3];refine bE (xs:=List.range n) (enc:=RH) (λ h=>D.int ((ns.count (h:Int):Nat):Int)) (by simp;omega) (λ i x N hx hN=>?_) ?_
  ·walk_at "rd";refine⟨⟨rfl,_,hM⟩,?_⟩;walk_at "rd";refine Aa hM ?_;rw[K0];exact hN
  ·refine ar ?_;unfold row lE at k;rw[K4]at k;exact k
end
theorem zk:∀j∈List.range 26,SO (lF j)=true/\lF j∉fq:=by decide+kernel
theorem KZ{j:Nat}(h:j < 26):Nm (lF j):=.inl ⟨yz (zk j (mem_range.mpr h)).1,(zk j (mem_range.mpr h)).2⟩
def sV:gL:=λ ds M Q=>∃(f c:Addr) (n:Nat),ds=[.ref f,.int n]/\Flow M f c/\n<=12/\∀(p:Addr) (zs:List Str) (M':Mem),zs.length=n->M p=none->M' p=some (.lst (zs.map D.str))->Fl f c M M'->(∀z∈zs,Nm z)->zs.Nodup->Q (.ref p) M'
section
variable {P:Program}{w:World}{K:O8}{mg:Str->Option Value}{base:Heap}
theorem cf:aH ["_law_flow_here","_law_many","_law_names_here","_law_k","_law_name_here","_law_spare"] ["_law_flow_here","_law_many"] (ai (top 40)):=⟨rfl,rfl,rfl,by decide+kernel,rfl,by decide+kernel,by decide+kernel⟩
theorem D'{f:Addr}{fd:FuncData}(F:dU K "_law_names" "_law_names" (top 40) f fd)(T:gG K mg)(xl:cO P w K mg base 2 "_law_name" ["_law_flow_here"] RD):bx P w K mg base eS 3 f fd ["_law_flow_here","_law_many"] (cI K sV):=by
 refine kG F cf (λ ds M Q h=>?_) (λ bT A outer s H E ds M Q hr h=>?_)
 ·obtain⟨a,cc,b,rfl,_⟩:=h;rfl
 ·obtain⟨a,cc,n,rfl,hF,hz,k⟩:=h;refine⟨_,(af (aZ (i:=2) cf.nd rfl (Or.inl rfl) (dN ae))
 (af (dZ C7 rfl (cp rfl T.range (aa (ax 1) ae)) (cv (i:=3) cf.nd rfl (Or.inl rfl))
 (af (aZ (i:=4) cf.nd rfl (Or.inl rfl) (aY xl (hr.mono (by decide)) (by rfl) (aa (ax 0) ae)))
 (af (aZ (i:=5) cf.nd rfl (Or.inl rfl) av)
 (af (Cd C7 (br (kJ hr.units) (ax 4) (ax 2) rfl)
 (af (aZ (i:=4) cf.nd rfl (Or.inl rfl) (bM gp (bN bA eX (bM kI (ax 5) av) (λ _ _=>rfl)) (bM bJ av (bM qZ (ax 5) av))))
 (ak (aZ (i:=5) cf.nd rfl (Or.inl rfl) (bM bJ (ax 5) av)))))
 (ak (f' (zG j0 i7 i9 gZ (ax 2) (aa (ax 4) ae))))))))
 (ak (aR (ax 2))))),?_⟩
  walk_at "rd";refine⟨by decide,λ p hp=>?_⟩;have xa:=(hF.ne hp).1;walk_at "rd";refine⟨eE (by omega) (by omega),?_⟩;rw[y3];refine gq (λ i δ M'=>∃(v1 v2 v3:Option D) (zs:List Str),δ=[some (.ref a),some (.int n),some (.ref p),v1,v2,v3]/\zs.length=i/\M' p=some (.lst (zs.map D.str))/\Fl a cc M M'/\(∀z∈zs,Nm z)/\zs.Nodup) ⟨none,none,none,[],rfl,rfl,aj,Fl.put hF hp,λ z h=>(by cases h),.nil⟩ (λ i d δ M' hd h=>?_) (λ δ M' h=>?_)
  ·obtain⟨v1,v2,v3,zs,rfl,h2,h3,F1,Tc,PM⟩:=h;obtain⟨hi,rfl⟩:=fK hd;walk_at "rd";refine⟨a,cc,rfl,F1.bG,λ z M1 hz6 F2=>?_⟩;have F3:=F1.trans F2;have h3:=F2.mv p _ xa h3;walk_at "rd";refine CU ⟨λ m δ M'=>M'=M1/\∃(z:Str) (sp:Nat),δ=[some (.ref a),some (.int n),some (.ref p),some (.int (0+(i:Nat))),some (.str z),some (.int sp)]/\m=zs.length+2 - sp/\sp<=zs.length+1/\Nm z/\(0 < sp->z=lF (sp - 1))/\∀j,j+1 < sp->lF j∈zs,⟨_,rfl,z,0,rfl,rfl,N3 _,hz6,λ q=>absurd q (by omega),λ j q=>absurd q (by omega)⟩,?_⟩;rintro m δ M' ⟨rfl,z,sp,rfl,rfl,AQ,Vl,hz1,hz2⟩;walk_at "rd";refine qL h3 (fO z zs) ?_;refine de (λ fb=>?_) (λ fb=>?_)
   ·have fb:z∈zs:=by simpa using fb
    have all:∀j,j < sp->lF j∈zs:=λ j hj=>by
     by_cases e:j+1 < sp
     ·exact hz2 j e
     ·have:j=sp - 1:=by omega
      rw[this,<- hz1 (by omega)];exact fb
    have Vo:sp<=zs.length:=Gg (by omega) all;refine⟨λ δ' M2=>M2=M'/\δ'=[some (.ref a),some (.int n),some (.ref p),some (.int (0+(i:Nat))),some (.str (lF sp)),some (.int ((sp+1:Nat):Int))],?_,?_⟩
    ·rintro δ' M2 ⟨rfl,rfl⟩;exact⟨zs.length+2 - (sp+1),by omega,rfl,lF sp,sp+1,rfl,rfl,by omega,KZ (by omega),λ _=>rfl,λ j hj=>all j (by omega)⟩
    ·walk_at "rd";have em:(sp:Int) % 26=(sp:Int):=Int.emod_eq_of_lt (by omega) (by omega);have ed:(sp:Int) / 26=0:=Int.ediv_eq_zero_of_lt (by omega) (by omega);have bl:vj.length=26:=by decide+kernel
     have hc:gJ (Str.ofString "zyxwvutsrqponmlkjihgfedcba").cps.toList ((sp:Int) % 26)=some (vj.getD sp 0):=by
      rw[em];refine cC ?_;show vj[sp]?=_;rw[c7];have:sp < vj.length:=by omega
      simp[this]
     refine wt (by decide+kernel) hc ?_;walk_at "rd";rw[ed];refine CY (wN _) ?_;walk_at "rd";exact⟨rfl,rfl⟩
   ·walk_at "rd";refine⟨⟨rfl,_,h3⟩,?_⟩;walk_at "rd";refine mP h3 (by rw[D3];exact u9 (show zs.length<=12 by omega) (by decide)) ?_;walk_at "rd";exact⟨_,_,_,zs++[z],rfl,by simp[h2],by rw[aj,D5];rfl,F3.own hF hp,(λ y hy=>by
     rcases D4.mp hy with q|q
     ·exact Tc y q
     ·rw[w5.mp q];exact Vl),nodup_append.mpr ⟨PM,by simp,λ x hx y hy e=>(by simpa using fb:z∉zs) ((e.trans (w5.mp hy))▸hx)⟩⟩
  ·obtain⟨v1,v2,v3,zs,rfl,h2,h3,F1,Tc,PM⟩:=h;rw[cg]at h2;walk_at "rd";exact ar (k p zs _ h2 hp h3 F1 Tc PM)
end
section
variable {P:Program}{w:World}{K:O8}{mg:Str->Option Value}{base:Heap}
theorem qB:aH ["_law_found","_law_due_here"] ["_law_found","_law_due_here"] (ai (top 48)):=⟨rfl,rfl,rfl,by decide+kernel,rfl,by decide+kernel,by decide+kernel⟩
theorem OT{f:Addr}{fd:FuncData}(F:dU K "_law_alike" "_law_alike" (top 48) f fd)(T:gG K mg)(hm0:mg "_law_alike"=some (.ref f))(TN:Binds K fd ["_law_found","_law_due_here"] []):∀k,bx P w K mg base eS (k+1) f fd ["_law_found","_law_due_here"] (cI K (Cz k)):=by
 intro k
 induction k with
 |zero=>exact Kx Hl
 |succ k ih=>
 have hW:=bO.of F ih hm0 TN;rw[show k+1+1=k+1+1 by omega];clear ih;refine kG F qB (λ ds M Q h=>?_) (λ bT A outer s H E ds M Q hr h=>?_)
 ·obtain⟨x,y,rfl,_⟩:=h;rfl
 ·obtain⟨x,y,rfl,hs,k⟩:=h;refine⟨_,(af (bV (br Ej (ax 1) mm (bj _))
 (ak (aR (gP Ej (ax 0) mm (bj _))))
 bo)
 (af (bV (sI (fj (aK (eL T.nE) (by rfl) T.isinstance (by decide+kernel) (aa (ax 1) (aa (iM (n:="bool") (by rfl) T.bool (by decide+kernel)) ae)))) (mi (fj (aK (eL T.nE) (by rfl) T.isinstance (by decide+kernel) (aa (ax 0) (aa (iM (n:="bool") (by rfl) T.bool (by decide+kernel)) ae)))))).pt
 (ak (aR (w_and (aK (eL T.nE) (by rfl) T.isinstance (by decide+kernel) (aa (ax 1) (aa (iM (n:="bool") (by rfl) T.bool (by decide+kernel)) ae))) (w_and (aK (eL T.nE) (by rfl) T.isinstance (by decide+kernel) (aa (ax 0) (aa (iM (n:="bool") (by rfl) T.bool (by decide+kernel)) ae))) (kr (gP (gA hr.units) (ax 0) (ax 1) (bj _)))))))
 bo)
 (af (bV (fj (aK (eL T.Fd) (by rfl) T.isinstance (by decide+kernel) (aa (ax 1) (aa (iM (n:="int") (by rfl) T.int (by decide+kernel)) ae))))
 (ak (aR (w_and (aK (eL T.Fd) (by rfl) T.isinstance (by decide+kernel) (aa (ax 0) (aa (iM (n:="int") (by rfl) T.int (by decide+kernel)) ae))) (kr (gP (gA hr.units) (ax 0) (ax 1) (bj _))))))
 bo)
 (af (bV (fj (aK (eL T.LM) (by rfl) T.isinstance (by decide+kernel) (aa (ax 1) (aa (iM (n:="str") (by rfl) T.str (by decide+kernel)) ae))))
 (ak (aR (w_and (aK (eL T.LM) (by rfl) T.isinstance (by decide+kernel) (aa (ax 0) (aa (iM (n:="str") (by rfl) T.str (by decide+kernel)) ae))) (kr (gP (gA hr.units) (ax 0) (ax 1) (bj _))))))
 bo)
 (af (bV (sI (br (mV hr.units) (aK (eL T.rE) (by rfl) T.isinstance (by decide+kernel) (aa (ax 1) (aa (iM (n:="tuple") (by rfl) T.tuple (by decide+kernel)) ae))) (aK (eL T.rE) (by rfl) T.isinstance (by decide+kernel) (aa (ax 0) (aa (iM (n:="tuple") (by rfl) T.tuple (by decide+kernel)) ae))) (bj _)) (mi (br (mV hr.units) (aK (eL T.Fc) (by rfl) T.isinstance (by decide+kernel) (aa (ax 1) (aa (iM (n:="list") (by rfl) T.list (by decide+kernel)) ae))) (aK (eL T.Fc) (by rfl) T.isinstance (by decide+kernel) (aa (ax 0) (aa (iM (n:="list") (by rfl) T.list (by decide+kernel)) ae))) (bj _)))).pt
 (ak (aR oo))
 bo)
 (ak (aR (w_and (gP (gA hr.units) (aK dq (by rfl) T.len (by decide+kernel) (aa (ax 0) ae)) (aK dq (by rfl) T.len (by decide+kernel) (aa (ax 1) ae)) (bj _)) (kr (iN (zl rfl) lL (by rfl) T.all (by decide+kernel) (tgs:=["_law_k"]) (fr:=[0,1]) ⟨bc (by kernel_rfl),rfl,(λ _ _ h=>h),(cp rfl T.range (aa (aK dq (by rfl) T.len (by decide+kernel) (aa (ax 1) ae)) ae)),(aM (λ _ _ _ _ _=>(aL (i:=0) (show(["_law_k","_law_found","_law_due_here"]:List Str).Nodup by decide+kernel) rfl (Or.inl rfl))) (by decide)),(λ _ _ _ _ _=>aX),(λ _ _ _ _ _=>(aY hW (hr.mono (by omega)) (by rfl) (aa (bN bA (ax 1) (ax 0) (λ _ _=>rfl)) (aa (bN bA (ax 2) (ax 0) (λ _ _=>rfl)) ae))))⟩)))))))))),?_⟩
  rcases hs with⟨rfl,hx⟩|⟨ds,es,rfl,rfl,hl,hz,hs⟩|⟨p,q,ds,es,rfl,rfl,hp,hq,hl,hz,hs⟩
  ·cases x with
   |bu=>walk_at "rx";refine tE ?_;walk_at "rx";refine tE ?_;walk_at "rx";exact ar k
   |bl b=>walk_at "rx";refine jo (by simp[lp]) ?_;walk_at "rx";refine bh (n:="bool") rfl (b:=true) (by decide) ?_;walk_at "rx";refine bh (n:="bool") rfl (b:=true) (by decide) ?_;walk_at "rx";refine bh (n:="bool") rfl (b:=true) (by decide) ?_;walk_at "rx";rw[E7 (rfl:b=b)];exact ar k
   |int i=>walk_at "rx";refine jo (by simp[lp]) ?_;walk_at "rx";refine bh (n:="int") rfl (b:=false) (by decide) ?_;walk_at "rx";refine bh (n:="int") rfl (b:=false) (by decide) ?_;walk_at "rx";refine bh (n:="int") rfl (b:=true) (by decide) ?_;walk_at "rx";refine bh (n:="int") rfl (b:=true) (by decide) ?_;walk_at "rx";rw[E7 (rfl:i=i)];exact ar k
   |str z=>walk_at "rx";refine jo (by simp[lp]) ?_;walk_at "rx";refine bh (n:="str") rfl (b:=false) (by decide) ?_;walk_at "rx";refine bh (n:="str") rfl (b:=false) (by decide) ?_;walk_at "rx";refine bh (n:="str") rfl (b:=false) (by decide) ?_;walk_at "rx";refine bh (n:="str") rfl (b:=true) (by decide) ?_;walk_at "rx";refine bh (n:="str") rfl (b:=true) (by decide) ?_;walk_at "rx";rw[E7 (rfl:z=z)];exact ar k
   |_=>cases hx
  ·walk_at "rx";refine jo (by simp[lp]) ?_;walk_at "rx";refine bh (n:="tuple") rfl (b:=false) (by decide) ?_;walk_at "rx";refine bh (n:="tuple") rfl (b:=false) (by decide) ?_;walk_at "rx";refine bh (n:="tuple") rfl (b:=false) (by decide) ?_;walk_at "rx";refine bh (n:="tuple") rfl (b:=false) (by decide) ?_;walk_at "rx";refine bh (n:="tuple") rfl (b:=true) (by decide) ?_;walk_at "rx";refine bh (n:="tuple") rfl (b:=true) (by decide) ?_;walk_at "rx";refine gm (λ h=>absurd rfl h) (λ _=>?_);walk_at "rx";refine bh (n:="tuple") rfl (b:=false) (by decide) ?_;walk_at "rx";refine bh (n:="tuple") rfl (b:=false) (by decide) ?_;walk_at "rx";refine gm (λ h=>absurd rfl h) (λ _=>?_);walk_at "rx";rw[hl];refine cz (λ _=>?_) (λ hl=>absurd rfl hl);walk_at "rx";refine⟨eE (by omega) (by omega),?_⟩;rw[y3];refine gw (λ i acc M'=>M'=M/\acc=(List.replicate i true).map D.bl) ⟨rfl,rfl⟩ (λ i acc M' hi h=>?_) (λ i d acc M' hd h=>?_) (λ acc M' h=>?_)
   ·obtain⟨_,rfl⟩:=h;rw[cg]at hi;simp only[D3,l3];exact small (by omega)
   ·obtain⟨rfl,rfl⟩:=h;obtain⟨hi,rfl⟩:=fK hd;walk_at "rx";refine jW (lY (by omega)) ?_;walk_at "rx";refine jW (lY hi) ?_;refine⟨_,_,rfl,hs i _ _ (i8 (by omega)) (i8 hi),rfl,?_⟩;rw[replicate_succ',D5];rfl
   ·obtain⟨rfl,rfl⟩:=h;unfold kY;rw[eO];show fin2 Q (.bl ((List.replicate _ true).all id)) _;rw[r_];exact ar k
  ·have tp:lp M (.ref p)=some "list":=by show(a_ M p).map (λ _=>"list")=_;unfold a_;rw[hp];rfl
   have tq:lp M (.ref q)=some "list":=by show(a_ M q).map (λ _=>"list")=_;unfold a_;rw[hq];rfl
   walk_at "rx";refine jo (by rw[tq];simp) ?_;walk_at "rx";refine bh tq (b:=false) (by decide) ?_;walk_at "rx";refine bh tp (b:=false) (by decide) ?_;walk_at "rx";refine bh tq (b:=false) (by decide) ?_;walk_at "rx";refine bh tq (b:=false) (by decide) ?_;walk_at "rx";refine bh tq (b:=false) (by decide) ?_;walk_at "rx";refine bh tp (b:=false) (by decide) ?_;walk_at "rx";refine gm (λ h=>absurd rfl h) (λ _=>?_);walk_at "rx";refine bh tq (b:=true) (by decide) ?_;walk_at "rx";refine bh tp (b:=true) (by decide) ?_;walk_at "rx";refine gm (λ h=>absurd rfl h) (λ _=>?_);walk_at "rx";rw[hl];refine cz (λ _=>?_) (λ hl=>absurd rfl hl);walk_at "rx";refine⟨eE (by omega) (by omega),?_⟩;rw[y3];refine gw (λ i acc M'=>M'=M/\acc=(List.replicate i true).map D.bl) ⟨rfl,rfl⟩ (λ i acc M' hi h=>?_) (λ i d acc M' hd h=>?_) (λ acc M' h=>?_)
   ·obtain⟨_,rfl⟩:=h;rw[cg]at hi;simp only[D3,l3];exact small (by omega)
   ·obtain⟨rfl,rfl⟩:=h;obtain⟨hi,rfl⟩:=fK hd;walk_at "rx";refine du hp (lY (by omega)) ?_;walk_at "rx";refine du hq (lY hi) ?_;refine⟨_,_,rfl,hs i _ _ (i8 (by omega)) (i8 hi),rfl,?_⟩;rw[replicate_succ',D5];rfl
   ·obtain⟨rfl,rfl⟩:=h;unfold kY;rw[eO];show fin2 Q (.bl ((List.replicate _ true).all id)) _;rw[r_];exact ar k
end
def dot(as bs:List Int):Int:=(List.zipWith (·*·) as bs).sum
def sv(bp:List (List (List Int))):Nat->List Int
 |0=>[]
 |i+1=>sv bp i++[jY 0 ((bp.getD i []).map λ o=>1+dot o (sv bp i))]
theorem qP(bp:List (List (List Int))):∀i,(sv bp i).length=i
 |0=>rfl
 |i+1=>by show(sv bp i++[_]).length=_;rw[u4,qP bp i];rfl
structure sh(bp:List (List (List Int))):Prop where
 gE:bp.length<=12
 opts:∀i,i < bp.length->(bp.getD i []).length<=63/\∀o∈bp.getD i [],(∀x∈o,0<=x)/\o.sum<=4/\o.length<=1000
theorem JG{b:Int}:∀{ns:List Int},0<=b->(∀x∈ns,x<=b)->jY 0 ns<=b:=λ{ns} hb h=>by
 cases ns with
 |nil=>exact hb
 |cons n ns=>
  rcases(foldl_max ns n).2.2 with e|e
  ·show ns.foldl max n<=b;rw[e];exact h n (s9 ..)
  ·exact h _ (l7 _ e)
theorem JH{ns:List Int}{x:Int}(h:x∈ns):x<=jY 0 ns:=by
 cases ns with
 |nil=>cases h
 |cons n ns=>
  show x<=ns.foldl max n;rcases J0.mp h with rfl|h
  ·exact(foldl_max ns x).1
  ·exact(foldl_max ns n).2.1 x h
theorem Ep{ns:List Int}(h:∀x∈ns,0<=x):0<=jY 0 ns:=by
 cases ns with
 |nil=>exact Int.le_refl _
 |cons n ns=>exact Int.le_trans (h n (s9 ..)) (JH (s9 ..))
theorem yV(as:List Int):dot as []=0:=by unfold dot;rw[zipWith_nil_right];rfl
theorem uK(a b:Int)(as bs:List Int):dot (a::as) (b::bs)=a*b+dot as bs:=by unfold dot;rw[zipWith_cons_cons,sum_cons]
theorem yU:∀{as bs:List Int},(∀x∈as,0<=x)->(∀x∈bs,0<=x)->0<=dot as bs
 |[],bs,_,_=>by unfold dot;simp
 |a::as,[],_,_=>by rw[yV];exact Int.le_refl _
 |a::as,b::bs,h,q=>by rw[uK];have:=yU (as:=as) (bs:=bs) (λ x hx=>h x (l7 _ hx)) (λ x hx=>q x (l7 _ hx));have:=Int.mul_nonneg (h a (s9 ..)) (q b (s9 ..));omega
theorem FL{B:Int}(hB:0<=B):∀{as bs:List Int},(∀x∈as,0<=x)->(∀x∈bs,x<=B)->dot as bs<=as.sum*B
 |[],bs,_,_=>by unfold dot;simp
 |a::as,[],h,_=>by
  rw[yV];refine Int.mul_nonneg ?_ hB;have:∀l:List Int,(∀x∈l,0<=x)->0<=l.sum:=λ l=>by
   induction l with
   |nil=>intro _;simp
   |cons x l ih=>intro h;rw[sum_cons];have:=ih λ y hy=>h y (l7 _ hy);have:=h x (s9 ..);omega
  exact this _ h
 |a::as,b::bs,h,q=>by rw[uK,sum_cons,Int.add_mul];have h1:=FL hB (as:=as) (bs:=bs) (λ x hx=>h x (l7 _ hx)) (λ x hx=>q x (l7 _ hx));have h2:=Int.mul_le_mul_of_nonneg_left (q b (s9 ..)) (h a (s9 ..));omega
theorem LD{bp:List (List (List Int))}(G:sh bp):∀i,i<=bp.length->∀x∈sv bp i,0<=x/\x<=5^i
 |0,_,x,hx=>by cases hx
 |i+1,hi,x,hx=>by
  have ih:=LD G i (by omega);have Xd:(0:Int) < 5^i:=Int.pow_pos (by decide);have e5:(5:Int)^(i+1)=5*5^i:=by rw[Int.pow_succ,Int.mul_comm]
  have hx:x∈sv bp i++[jY 0 ((bp.getD i []).map λ o=>1+dot o (sv bp i))]:=hx;rcases D4.mp hx with q|q
  ·have:=ih x q;omega
  ·have e:x=jY 0 ((bp.getD i []).map λ o=>1+dot o (sv bp i)):=by simpa using q
   have ho:=(G.opts i (by omega)).2;subst e;constructor
   ·refine Ep λ y hy=>?_;obtain⟨o,vC,rfl⟩:=K3.mp hy;have:=yU (ho o vC).1 λ z hz=>(ih z hz).1;omega
   ·refine JG (by omega) λ y hy=>?_;obtain⟨o,vC,rfl⟩:=K3.mp hy;have h1:=FL (B:=5^i) (by omega) (ho o vC).1 λ z hz=>(ih z hz).2;have h2:=(ho o vC).2.1;have h3:o.sum*5^i<=4*5^i:=Int.mul_le_mul_of_nonneg_right h2 (by omega);omega
theorem Wk{i:Nat}(h:i<=12):(5:Int)^i<=1000000000:=by
 have:∀j:Fin 13,(5:Int)^(j:Nat)<=1000000000:=by decide
 exact this ⟨i,by omega⟩
theorem DH{bp:List (List (List Int))}(G:sh bp){i:Nat}(hi:i<=bp.length):∀x∈sv bp i,0<=x/\x<=1000000000:=λ x hx=>by have h:=LD G i hi x hx;have:=Wk (i:=i) (by have:=G.gE;omega);omega
def cA(os:List (List Int)):D:=.tup (os.map row)
def Cu:gL:=λ ds M Q=>∃(q:Addr) (bp:List (List (List Int))),ds=[.ref q]/\M q=some (.lst (bp.map cA))/\sh bp/\∀(p:Addr) (M':Mem),M p=none->M' p=some (.lst ((sv bp bp.length).map D.int))->Ext M M'->Q (.ref p) M'
theorem FN(o ps:List Int):((o.take ps.length).zipIdx).map (λ p=>D.int (p.1*ps.getD p.2 0))=(List.zipWith (·*·) o ps).map D.int:=by
 refine ext_getElem? λ i=>?_;rw[y1,y1,getElem?_zipIdx,getElem?_zipWith,getElem?_take];by_cases hi:i < ps.length
 ·rw[O6 hi,i8 hi];cases o[i]? with
  |none=>rfl
  |some x=>simp[c7,hi]
 ·rw[O7 hi,l4 (show ps.length<=i by omega)];cases o[i]? <;> rfl
section
variable {P:Program}{w:World}{K:O8}{mg:Str->Option Value}{base:Heap}
theorem cZ:aH ["_law_options_here","_law_found","_law_sums","_law_lengths_here"] ["_law_options_here"] (ai (top 41)):=⟨rfl,rfl,rfl,by decide+kernel,rfl,by decide+kernel,by decide+kernel⟩
theorem Jv{f:Addr}{fd:FuncData}(F:dU K "_law_lengths" "_law_lengths" (top 41) f fd)(T:gG K mg):bx P w K mg base eS 1 f fd ["_law_options_here"] (cI K Cu):=by
 refine kG F cZ (λ ds M Q h=>?_) (λ bT A outer s H E ds M Q hr h=>?_)
 ·obtain⟨q,bp,rfl,_⟩:=h;rfl
 ·obtain⟨q,bp,rfl,hq,G,k⟩:=h;have hfew:=G.gE;refine⟨_,(af (aZ (i:=1) cZ.nd rfl (Or.inr rfl) (dN ae))
 (af (dZ C7 rfl (bg (ax 0)) (cv (i:=2) cZ.nd rfl (Or.inl rfl))
 (af (cD (i:=3) cZ.nd rfl (Or.inl rfl) (tgs:=["_law_counts_here"]) (fr:=[1]) ⟨bc (by kernel_rfl),rfl,(λ _ _ h=>h),(bg (ax 2)),(aM (λ _ _ _ _ _=>(aL (i:=0) (show(["_law_counts_here","_law_found"]:List Str).Nodup by decide+kernel) rfl (Or.inl rfl))) (by decide)),(λ _ _ _ _ _=>aX),(λ _ _ _ _ _=>(iN (qc rfl) xU (by rfl) T.sum (by decide+kernel) (tgs:=["_law_h","_law_n"]) (fr:=[1]) ⟨bc (by kernel_rfl),rfl,(λ _ _ h=>h),(xR rfl T.enumerate (aa (cY gU (ax 0) cX (cW (aK dq (by rfl) T.len (by decide+kernel) (aa (ax 1) ae)))) ae)),(ml (λ _ _ _ _ _=>(qR rfl (eD (aL (i:=0) (show(["_law_h","_law_n","_law_found"]:List Str).Nodup by decide+kernel) rfl (Or.inl rfl)) (eD (aL (i:=1) (show(["_law_h","_law_n","_law_found"]:List Str).Nodup by decide+kernel) rfl (Or.inl rfl)) lR)))) (by decide) (by decide)),(λ _ _ _ _ _=>aX),(λ _ _ _ _ _=>(bM gp (ax 1) (bN bA (ax 2) (ax 0) (λ _ _=>rfl))))⟩))⟩)
 (ak (f' (zG j0 i7 i9 gZ (ax 1) (aa (Mq rfl (by rfl) T.max (tgs:=["_law_play"]) (fr:=[]) ⟨bc (by kernel_rfl),rfl,(λ _ _ h=>h),(bg (ax 3)),(aM (λ _ _ _ _ _=>(aL (i:=0) (show(["_law_play"]:List Str).Nodup by decide+kernel) rfl (Or.inl rfl))) (by decide)),(λ _ _ _ _ _=>aX),(λ _ _ _ _ _=>(bM bJ (ax 0) av))⟩) ae))))))
 (ak (aR (ax 1))))),?_⟩
  walk_at "rd";refine⟨by decide,λ p hp=>?_⟩;have BH:q≠p:=λ z=>by subst z;rw[hq]at hp;cases hp
  have e0:Ext M (ay M p (.lst [])):=iR (λ b o e=>e) hp _;have Vq:=e0 _ _ hq;walk_at "rd";refine LS (ds:=bp.map cA) (λ i δ M'=>∃(v1 v2:Option D),δ=[some (.ref q),some (.ref p),v1,v2]/\M' p=some (.lst ((sv bp i).map D.int))/\Ext M M') ⟨none,none,rfl,aj,e0⟩ (λ i δ M' hi h=>?_) (λ i d δ M' hd h=>?_) (λ δ M' h=>?_)
  ·obtain⟨v1,v2,rfl,h3,hM⟩:=h;exact hM _ _ hq
  ·obtain⟨v1,v2,rfl,h3,hM⟩:=h;rw[y1]at hd;have hi:i < bp.length:=by refine A6 λ z=>?_;rw[l4 z]at hd;cases hd
   have gH:d=cA (bp.getD i []):=by rw[i8 hi]at hd;rw[c7,i8 hi];exact(C6 hd).symm
   subst gH;obtain⟨ho,PH⟩:=G.opts i hi;have Xc:=DH G (i:=i) (by omega);have hpl:=qP bp i;have step:sv bp (i+1)=sv bp i++[jY 0 ((bp.getD i []).map λ o=>1+dot o (sv bp i))]:=rfl;generalize bp.getD i []=os at*;generalize sv bp i=ps at*;unfold cA;walk_at "rd";refine bE (xs:=os) (enc:=row) (λ o=>D.int (dot o ps)) (by omega) (λ j o N ho hN=>?_) ?_
   ·have AR:=(PH o (l8 ho)).2.2;walk_at "rd";refine fJ (by omega) ?_;rw[y3,D3,<- map_take];walk_at "rd";refine KW (xs:=o.take ps.length) (enc:=D.int) (λ p=>D.int (p.1*ps.getD p.2 0)) (by rw[B2];omega) (λ l x N2 hx BM=>?_) ?_
    ·have hl:=(i5.mp hx).1;rw[B2]at hl;walk_at "rd";refine du h3 (vo (i:=l) (by omega)) ?_;have hb:=Xc (ps.getD l 0) (by rw[c7,i8 (by omega)];exact B3 _);exact jq (Gb (by omega) (by omega)) BM
    ·rw[FN];exact ye hN
   ·intro r hr;have PZ:=iR hM hr (.lst (os.map λ o=>D.int (dot o ps)));have YW:p≠r:=λ z=>by subst z;rw[h3]at hr;cases hr
    have XJ:ay M' r (.lst (os.map λ o=>D.int (dot o ps))) p=some (.lst (ps.map D.int)):=by rw[aD YW];exact h3
    walk_at "rd";refine⟨⟨rfl,_,XJ⟩,?_⟩;walk_at "rd";refine p_ (xs:=os) (λ o=>D.int (dot o ps)) (λ o=>D.int (1+dot o ps)) (by omega) aj (λ j o N _ hN=>?_) ?_
    ·walk_at "rd";rw[Int.add_comm];exact hN
    ·refine⟨os.map λ o=>1+dot o ps,by rw[K4];rfl,?_⟩;walk_at "rd";refine mP XJ (by rw[D3,hpl];exact u9 (show i<=1000 by omega) (by decide)) ?_;walk_at "rd";refine⟨_,_,rfl,?_,Ext.own PZ hp⟩;rw[aj,step,D5];rfl
  ·obtain⟨v1,v2,rfl,h3,hM⟩:=h;rw[D3]at h3;walk_at "rd";exact ar (k p M' hp h3 hM)
end
def xZ:gL:=λ ds M Q=>∃(a c o:Addr) (bp:List (List Row)) (n:Nat) (dp:Int),ds=[.ref a,.ref o,.int n,.int dp]/\Flow M a c/\o≠a/\M o=some (.lst (bp.map cA))/\bp.length<=n/\n<=12/\(∀i os,bp[i]?=some os->os.length<=20/\∀r∈os,dC n i r)/\(∀os∈bp,Up os)/\∀(os:List Row) (M':Mem),os.length<=20->(∀r∈os,dC n bp.length r)->Up os->Fl a c M M'->Q (cA os) M'
theorem Jh{bp:List (List Row)}{n:Nat}(hl:bp.length<=n)(hn:n<=12)(h:∀i os,bp[i]?=some os->os.length<=20/\∀r∈os,dC n i r):sh bp:=by
 refine⟨by omega,λ i hi=>?_⟩;obtain⟨h1,h2⟩:=h i _ (i8 hi);have e:bp.getD i []=bp[i]:=by rw[c7,i8 hi];rfl
 rw[e];exact⟨by omega,λ o ho=>⟨(h2 o ho).pos,(h2 o ho).sum,by rw[(h2 o ho).len];omega⟩⟩
theorem Ext.fl {M M':Mem}{f c:Addr}(h:Ext M M')(F:Flow M f c):Fl f c M M':=by obtain⟨ns,p,b,sd,ct,h1,h2,h3⟩:=F.ex;exact⟨⟨ns,p,b,sd,ct,h _ _ h1,h _ _ h2,h3⟩,λ b o _ e=>h b o e⟩
section
variable {P:Program}{w:World}{K:O8}{mg:Str->Option Value}{base:Heap}
theorem bw:aH ["_law_flow_here","_law_ahead","_law_many","_law_deep","_law_at","_law_form","_law_rows","_law_lengths_here","_law_sums","_law_k"] ["_law_flow_here","_law_ahead","_law_many","_law_deep"] (ai (top 45)):=⟨rfl,rfl,rfl,by decide+kernel,rfl,by decide+kernel,by decide+kernel⟩
theorem Js{f:Addr}{fd:FuncData}(F:dU K "_law_options" "_law_options" (top 45) f fd)(T:gG K mg)(aV:cO P w K mg base 1 "_law_pick" ["_law_flow_here","_law_many"] mD)(oO:cO P w K mg base 1 "_law_lengths" ["_law_options_here"] Cu)(rN:cO P w K mg base 1 "_law_counts" ["_law_heaps","_law_many"] sZ)(nW:cO P w K mg base 4 "_law_in_order" ["_law_sums"] sY):bx P w K mg base eS 5 f fd ["_law_flow_here","_law_ahead","_law_many","_law_deep"] (cI K xZ):=by
 refine kG F bw (λ ds M Q h=>?_) (λ bT A outer s H E ds M Q hr h=>?_)
 ·obtain⟨a,cc,o,bp,n,dp,rfl,_⟩:=h;rfl
 ·obtain⟨a,cc,o,bp,n,dp,rfl,hF,Q3,Vx,hl,hn,jC,QZ,k⟩:=h;refine⟨_,(af (aZ (i:=4) bw.nd rfl (Or.inr rfl) (aK dq (by rfl) T.len (by decide+kernel) (aa (ax 1) ae)))
 (af (aZ (i:=5) bw.nd rfl (Or.inl rfl) (aY aV (hr.mono (by decide)) (by rfl) (aa (ax 0) (aa av ae))))
 (af (aZ (i:=6) bw.nd rfl (Or.inl rfl) (dN ae))
 (af (bV (br (gA hr.units) (ax 5) av (bj _))
 (ak (aR (cS ae)))
 bo)
 (af (bV (mj (br (gA hr.units) (ax 5) av (bj _)) (lI (br O9 (ax 4) av (bj _)))).pt
 (ak (aR (bN bA (ax 1) (aY aV (hr.mono (by decide)) (by rfl) (aa (ax 0) (aa (ax 4) ae))) (λ _ _=>rfl))))
 bo)
 (af (bV (br OV (ax 5) av (bj _))
 (af (aZ (i:=6) bw.nd rfl (Or.inl rfl) (bM bJ (dN (aa (dN ae) ae)) (iO (tgs:=["_law_h"]) (fr:=[]) ⟨bc (by kernel_rfl),rfl,(λ _ _ h=>h),(cp rfl T.range (aa (ax 4) ae)),(aM (λ _ _ _ _ _=>(aL (i:=0) (show(["_law_h"]:List Str).Nodup by decide+kernel) rfl (Or.inl rfl))) (by decide)),(λ _ _ _ _ _=>aX),(λ _ _ _ _ _=>(dN (aa (ax 0) ae)))⟩)))
 (ak (aZ (i:=6) bw.nd rfl (Or.inl rfl) (cY gU (ax 6) cX (cW (bM bJ av (aY aV (hr.mono (by decide)) (by rfl) (aa (ax 0) (aa (bM bJ (ax 4) av) ae)))))))))
 (ak (dZ C7 rfl (cp rfl T.range (aa (bM bJ av (aY aV (hr.mono (by decide)) (by rfl) (aa (ax 0) (aa av ae)))) ae)) (cv (i:=9) bw.nd rfl (Or.inl rfl))
 (ak (f' (zG j0 i7 i9 gZ (ax 6) (aa (iO (tgs:=["_law_j"]) (fr:=[0,4]) ⟨bc (by kernel_rfl),rfl,(λ _ _ h=>h),(cp rfl T.range (aa (bM gp (aK (Ur rfl) (by rfl) T.min (by decide+kernel) (aa (ax 4) (aa av ae))) (aY aV (hr.mono (by decide)) (by rfl) (aa (ax 0) (aa av ae)))) ae)),(aM (λ _ _ _ _ _=>(aL (i:=0) (show(["_law_j","_law_flow_here","_law_at"]:List Str).Nodup by decide+kernel) rfl (Or.inl rfl))) (by decide)),(λ _ _ _ _ _=>aX),(λ _ _ _ _ _=>(aY aV (hr.mono (by decide)) (by rfl) (aa (ax 1) (aa (ax 2) ae))))⟩) ae)))))))
 (af (aZ (i:=7) bw.nd rfl (Or.inr rfl) (aY oO (hr.mono (by decide)) (by rfl) (aa (ax 1) ae)))
 (af (cD (i:=8) bw.nd rfl (Or.inl rfl) (tgs:=["_law_row"]) (fr:=[2,3,7]) ⟨bc (by kernel_rfl),rfl,(λ _ _ h=>h),(bg (ax 6)),(aM (λ _ _ _ _ _=>(aL (i:=0) (show(["_law_row","_law_many","_law_deep","_law_lengths_here"]:List Str).Nodup by decide+kernel) rfl (Or.inl rfl))) (by decide)),(λ _ _ _ _ _=>(qm (br OV (iN (qc rfl) xU (by rfl) T.sum (by decide+kernel) (tgs:=["_law_h"]) (fr:=[3]) ⟨bc (by kernel_rfl),rfl,(λ _ _ h=>h),(bg (ax 0)),(aM (λ _ _ _ _ _=>(aL (i:=0) (show(["_law_h","_law_lengths_here"]:List Str).Nodup by decide+kernel) rfl (Or.inl rfl))) (by decide)),(λ _ _ _ _ _=>aX),(λ _ _ _ _ _=>(bN bA (ax 1) (ax 0) (λ _ _=>rfl)))⟩) (ax 2) (bj _)))),(λ _ _ _ _ _=>(aY rN (hr.mono (by decide)) (by rfl) (aa (ax 0) (aa (ax 1) ae))))⟩)
 (ak (aR (aY nW (hr.mono (by decide)) (by rfl) (aa (ax 8) ae)))))))))))),?_⟩
  walk_at "rd";rw[D3];refine⟨a,cc,8,rfl,hF,by decide,by decide,λ d1 o1 d0 d8 P0=>?_⟩;have F1:Fl a cc M _:=Fl.pick P0;generalize ay M a o1=M1 at*;walk_at "rd";refine⟨by decide,λ p hp=>?_⟩;have F2:=F1.trans (Fl.put (o:=.lst []) F1.bG hp);have xa:=(F1.bG.ne hp).1;have hpM:M p=none:=by
   cases z:M p with
   |none=>rfl
   |some u=>rw[F1.mv p u xa z]at hp;cases hp
  have iF:ay M1 p (.lst []) p=some (.lst (([]:List Addr).map D.ref)):=aj;generalize ay M1 p (.lst [])=M2 at*;walk_at "rd";refine cz (λ e=>?_) (λ e=>?_)
  ·walk_at "rd";exact⟨N3 _,ar (k [] _ (by decide) (λ r h=>by cases h) .nil F2)⟩
  ·walk_at "rd1"
   with_reducible refine mO (λ δ' M'=>δ'=[some (.ref a),some (.ref o),some (.int n),some (.int dp),some (.int (bp.length:Nat)),some (.int d1),some (.ref p),none,none,none]/\M'=M2) (λ N hN=>?_) ?_
   ·walk_at "rd";refine cz (λ e1=>?_) (λ e1=>?_)
    ·walk_at "rd";refine cz (λ e2=>?_) (λ e2=>?_)
     ·walk_at "rd";refine⟨a,cc,bp.length,rfl,F2.bG,by omega,by omega,λ d2 o2 VD X8 AX=>?_⟩;have F3:=F2.trans (Fl.pick AX);obtain⟨j,rfl⟩:∃j:Nat,d2=(j:Int):=⟨d2.toNat,by omega⟩;have hj:j < bp.length:=by omega
      obtain⟨g1,g2⟩:=jC j _ (i8 hj);refine du (F3.mv o _ Q3 Vx) (cC (by rw[y1,i8 hj];rfl)) ?_;walk_at "rd";exact ar (k _ _ g1 (λ r hr=>(g2 r hr).mono (by omega)) (QZ _ (B3 hj)) F3)
     ·walk_at "rd";exact hN _ _ ⟨rfl,rfl⟩
    ·walk_at "rd";exact hN _ _ ⟨rfl,rfl⟩
   ·rintro δ' M' ⟨rfl,rfl⟩
    with_reducible refine mO (λ δ' M'=>∃(v6:Addr) (qs:List Addr) (v9:Option D),δ'=[some (.ref a),some (.ref o),some (.int n),some (.int dp),some (.int (bp.length:Nat)),some (.int d1),some (.ref v6),none,none,v9]/\M' v6=some (.lst (qs.map D.ref))/\qs.length<=20/\dB a bp.length M' qs/\Fl a cc M M') (λ N hN=>?_) ?_
    ·walk_at "rd";refine cz (λ e1=>?_) (λ e1=>?_)
     ·walk_at "rd";refine⟨N3 _,λ p0 iz=>?_⟩;have h0a:=(F2.bG.ne iz).1;have F3:=F2.trans (Fl.put (o:=.lst []) F2.bG iz);have g0:ay M' p0 (.lst []) p0=some (.lst (([]:List Int).map D.int)):=aj;generalize ay M' p0 (.lst [])=M3 at*;walk_at "rd";refine⟨by show 1<=sizeLine;decide,λ p1 nG=>?_⟩;have F4:=F3.trans (Fl.put (o:=.lst [.ref p0]) F3.bG nG);have h1a:=(F3.bG.ne nG).1;have g1:ay M3 p1 (.lst [.ref p0]) p1=some (.lst [.ref p0]):=aj;have g0:ay M3 p1 (.lst [.ref p0]) p0=some (.lst (([]:List Int).map D.int)):=by rw[aD (bZ g0 nG)];exact g0
      generalize ay M3 p1 (.lst [.ref p0])=M4 at*;walk_at "rd";refine⟨eE (by omega) (by omega),?_⟩;rw[y3];refine xu (xs:=List.range bp.length) (enc:=RH) D.ref (λ qs M'=>Fl a cc M M'/\dB a bp.length M' (p0::qs)/\M' p1=some (.lst [.ref p0])) (by simp;omega) ⟨F4,dB.add dB.nil h0a g0 (by decide) (λ x h=>by cases h),g1⟩ (λ i x ys M' N hx hy h hN=>?_) (λ qs M' hl h=>?_)
      ·obtain⟨G1,G2,G3⟩:=h;have hi:=(i5.mp hx).1;have W2:x=i:=by rw[o9 (by simpa using hi)]at hx;exact(C6 hx).symm
       subst W2;rw[y9]at hi;walk_at "rd";refine⟨by show 1<=sizeLine;decide,λ q hq=>hN q _ ⟨G1.trans (Fl.put G1.bG hq),?_,by rw[aD (bZ G3 hq)];exact G3⟩⟩;refine dB.add (qs:=p0::ys) (G2.new hq) (G1.bG.ne hq).1 (hs:=[(x:Int)]) ?_ (by show 1<=4;decide) λ y hy=>?_
       ·rw[aj,M_];rfl
       ·rw[w5.mp hy];omega
      ·obtain⟨G1,G2,G3⟩:=h;rw[y9]at hl;intro p2 ix;have G1:=G1.trans (Fl.put (o:=.lst (qs.map D.ref)) G1.bG ix);have G2:=G2.new ix (o:=.lst (qs.map D.ref));have G3:ay M' p2 (.lst (qs.map D.ref)) p1=some (.lst [.ref p0]):=by rw[aD (bZ G3 ix)];exact G3
       walk_at "rd";refine tH G3 aj (by rw[D3,k9];exact small (by omega)) λ p3 GH=>?_;generalize ay M' p2 (.lst (qs.map D.ref))=M5 at*;have ZD:=G1.trans (Fl.put (o:=.lst ([.ref p0]++qs.map D.ref)) G1.bG GH);have G2:=G2.new GH (o:=.lst ([.ref p0]++qs.map D.ref));have G4:ay M5 p3 (.lst ([.ref p0]++qs.map D.ref)) p3=some (.lst ((p0::qs).map D.ref)):=aj;have h3a:=(G1.bG.ne GH).1;generalize ay M5 p3 (.lst ([.ref p0]++qs.map D.ref))=M6 at*;walk_at "rd";refine⟨a,cc,bp.length+1,rfl,ZD.bG,by omega,by omega,λ d2 o2 VD X8 AX=>?_⟩;have G1:=ZD.trans (Fl.pick AX);have G2:=G2.keep (Fl.pick AX).mv;have G4:=(Fl.pick AX).mv _ _ h3a G4;generalize ay M6 a o2=M7 at*;walk_at "rd";refine zY G4 (by omega) λ p4 Vs=>?_;walk_at "rd";exact hN _ _ ⟨p4,(p0::qs).take (1+d2).toNat,none,rfl,by rw[aj,map_take],by rw[B2,A5];omega,(G2.take _).new Vs,G1.trans (Fl.put G1.bG Vs)⟩
     ·walk_at "rd";refine⟨a,cc,4,rfl,F2.bG,by decide,by decide,λ d2 o2 VD Zr AX=>?_⟩;have F3:=F2.trans (Fl.pick AX);have XE:ay M' a o2 p=some (.lst (([]:List Addr).map D.ref)):=by rw[aD xa];exact iF
      generalize ay M' a o2=M3 at*;walk_at "rd";refine⟨eE (by omega) (by omega),?_⟩;refine gq (λ j δ M'=>∃(v9:Option D) (qs:List Addr),δ=[some (.ref a),some (.ref o),some (.int n),some (.int dp),some (.int (bp.length:Nat)),some (.int d1),some (.ref p),none,none,v9]/\M' p=some (.lst (qs.map D.ref))/\qs.length=j/\dB a bp.length M' qs/\Fl a cc M M') ⟨none,[],rfl,XE,rfl,dB.nil,F3⟩ (λ j d δ M' hd h=>?_) (λ δ M' h=>?_)
      ·obtain⟨v9,qs,rfl,h3,YU,hR,F4⟩:=h;obtain⟨hj,rfl⟩:=fK hd;walk_at "rd";refine⟨⟨rfl,_,h3⟩,?_⟩;walk_at "rd";refine⟨a,cc,3,rfl,F4.bG,by decide,by decide,λ d o h0 h1 GP=>?_⟩;have F5:=F4.trans (Fl.pick GP);have hR:=hR.keep (Fl.pick GP).mv;have h3:=(Fl.pick GP).mv _ _ xa h3;generalize ay M' a o=M5 at*;have Xn:(if(1:Int) < (bp.length:Int)then(1:Int)else(bp.length:Int))=if 1<=bp.length then 1 else 0:=by split <;> split <;> omega
       rw[Xn];refine jq (Gd (by split <;> omega) (by split <;> omega)) ?_;have hle:(if 1<=bp.length then(1:Int)else 0)*d<=2/\0<=(if 1<=bp.length then(1:Int)else 0)*d/\(bp.length=0->(if 1<=bp.length then(1:Int)else 0)*d=0):=by
        split
        ·rw[Int.one_mul];exact⟨by omega,h0,λ z=>by omega⟩
        ·rw[Int.zero_mul];exact⟨by omega,by omega,λ _=>rfl⟩
       generalize(if 1<=bp.length then(1:Int)else 0)*d=c2 at hle ⊢;obtain⟨c1,c0,cn⟩:=hle;refine⟨eE (by omega) (by omega),?_⟩;refine xu (xs:=List.range c2.toNat) (enc:=RH) D.int (λ ns M'=>Fl a cc M M'/\M' p=some (.lst (qs.map D.ref))/\dB a bp.length M' qs/\∀x∈ns,0<=x/\x < (bp.length:Int)) (by simp;omega) ⟨F5,h3,hR,λ x h=>by cases h⟩ (λ jj x ys M' N hx hy h hN=>?_) (λ ns M' hl h=>?_)
       ·obtain⟨F2,h3,hR,h2⟩:=h;have hi:=(i5.mp hx).1;rw[y9]at hi;have hn:bp.length≠0:=λ z=>by have:=cn z;omega
        walk_at "rd";refine⟨a,cc,bp.length,rfl,F2.bG,by omega,by omega,λ d2 o2 VB XJ GQ=>hN _ _ ⟨F2.trans (Fl.pick GQ),(Fl.pick GQ).mv _ _ xa h3,hR.keep (Fl.pick GQ).mv,λ x hx=>?_⟩⟩;rcases D4.mp hx with q|q
        ·exact h2 x q
        ·have:x=d2:=by simpa using q
         omega
       ·obtain⟨F2,h3,hR,h2⟩:=h;rw[y9]at hl;intro p2 ix;have S9:=bZ h3 ix;have h2a:=(F2.bG.ne ix).1;have hR:=hR.new ix (o:=.lst (ns.map D.int));have F3:=F2.trans (Fl.put (o:=.lst (ns.map D.int)) F2.bG ix);have h3:ay M' p2 (.lst (ns.map D.int)) p=some (.lst (qs.map D.ref)):=by rw[aD S9];exact h3
        have h4:ay M' p2 (.lst (ns.map D.int)) p2=some (.lst (ns.map D.int)):=aj;generalize ay M' p2 (.lst (ns.map D.int))=M8 at*;walk_at "rd";refine mP h3 (by rw[D3];exact u9 (show qs.length<=12 by omega) (by decide)) ?_;walk_at "rd";refine⟨_,qs++[p2],rfl,by rw[aj,D5];rfl,by rw[u4,k9];omega,(hR.put h3).add h2a (by rw[aD (O4 S9)];exact h4) (by omega) h2,?_⟩;exact Fl.own F3 hF hpM
      ·obtain⟨v9,qs,rfl,h3,YU,hR,F4⟩:=h;rw[cg]at YU;exact hN _ _ ⟨p,qs,v9,rfl,h3,by omega,hR,F4⟩
    ·rintro δ' M' ⟨p,qs,v9,rfl,iF,hql,hR,F3⟩;walk_at "rd";refine⟨o,bp,rfl,F3.mv o _ Q3 Vx,Jh hl hn jC,λ l M4 hl4 Vy hE=>?_⟩;have F4:=F3.trans (hE.fl F3.bG);have hR:=hR.keep (M':=M4) λ b u _ e=>hE b u e;have iF:=hE _ _ iF;walk_at "rd";refine zh (ds:=qs.map D.ref) (λ i acc M'=>M'=M4/\∃os:List Row,acc=os.map row/\os.length<=i/\∀r∈os,dC n bp.length r) ⟨rfl,[],rfl,L8 _,λ r h=>by cases h⟩ (λ i acc M' hi h=>?_) (λ i acc M' hi h=>?_) (λ i d acc M' hd h=>?_) (λ acc M' h=>?_)
     ·obtain⟨rfl,_⟩:=h;exact iF
     ·obtain⟨rfl,os,rfl,o1,_⟩:=h;rw[D3]at hi ⊢;exact small (by omega)
     ·obtain⟨rfl,os,rfl,o1,o2⟩:=h;rw[y1]at hd;cases e:qs[i]? with
      |none=>rw[e]at hd;cases hd
      |some q=>
       rw[e]at hd;cases hd;obtain⟨Fe,hs,vG,hh,hx⟩:=hR q (l8 e);walk_at "rd";refine p_ (xs:=hs) D.int (λ x=>D.int ((sv bp bp.length).getD x.toNat 0)) (by omega) vG (λ j x N Kh hN=>?_) ?_
       ·have hxx:=hx x (l8 Kh);obtain⟨m,rfl⟩:∃m:Nat,x=(m:Int):=⟨x.toNat,by omega⟩;walk_at "rd";refine du Vy (vo (by rw[qP];omega)) ?_;rw[y3]at hN;exact hN
       ·rw[show(hs.map λ x=>D.int ((sv bp bp.length).getD x.toNat 0))=(hs.map λ x=>(sv bp bp.length).getD x.toNat 0).map D.int by rw[K4];rfl];refine ye ?_;walk_at "rd";refine cz (λ _=>?_) (λ _=>?_)
        ·walk_at "rd";refine⟨q,hs,n,rfl,vG,by omega,rfl,os++[lE hs n],by rw[D5];rfl,by rw[u4,k9];omega,λ r hr=>?_⟩;rcases D4.mp hr with z|z
         ·exact o2 r z
         ·rw[w5.mp z];exact DX hh hx
        ·exact⟨rfl,os,rfl,by omega,o2⟩
     ·obtain⟨rfl,os,rfl,o1,o2⟩:=h;rw[D3]at o1;intro p2 ix;walk_at "rd";refine⟨_,os,rfl,.inr ⟨p2,rfl,aj⟩,by omega,λ r hr=>by rw[(o2 r hr).len];omega,λ out ho AR PM TM=>?_⟩;exact ar (k out _ (by omega) (λ r hr=>o2 r (ho r hr)) (Rm PM TM λ r hr=>(o2 r (ho r hr)).len) (F4.trans (Fl.put F4.bG ix)))
end
structure Lk(g:List aI):Prop where
 nm:∀h∈g,Nm h.1
 nd:(g.map (·.1)).Nodup
theorem yy{zs:List Str}{bp:List (List Row)}(h:zs.length=bp.length)(h1:∀z∈zs,Nm z)(h2:zs.Nodup):Lk (zs.zip bp):=
 ⟨λ p hp=>h1 _ (of_mem_zip hp).1,by rw[map_fst_zip (by omega)];exact h2⟩
def Cw:gL:=λ ds M Q=>∃(a c:Addr) (m:Nat) (dp:Int),ds=[.ref a,.int m,.int dp]/\Flow M a c/\1<=m/\m<=12/\∀(n:Nat) (g:List aI) (M':Mem),n<=12->cN n g->Lk g->(∀h∈g,Up h.2)->Fl a c M M'->Q (aG g) M'
theorem Ku{n:Nat}{zs:List Str}{bp:List (List Row)}(hn:n<=12)(hz:zs.length=n)(ho:bp.length=n)(h:∀i os,bp[i]?=some os->os.length<=20/\∀r∈os,dC n i r):cN n (zs.zip bp):=by
 refine⟨by rw[D7];omega,hn,λ i hi=>?_⟩;have e:(zs.zip bp).getD i iz=(zs[i]'(by omega),bp[i]'(by omega)):=by rw[c7,i8 (by rw[D7];omega)];simp
 rw[e];have:=h i _ (i8 (by omega));exact⟨by have:=this.1;show(bp[i]'_).length<=63;omega,this.2⟩
theorem BS{zs:List Str}{bp:List (List Row)}{n:Nat}(hz:zs.length=n)(ho:bp.length=n):(List.range n).map (λ i=>aP (zs.getD i (Str.ofString ""),bp.getD i []))=(zs.zip bp).map aP:=by
 refine ext_getElem? λ i=>?_;by_cases hi:i < n
 ·rw[y1,y1,o9 hi,i8 (by rw[D7];omega)];simp[c7,hz,ho,hi]
 ·rw[l4 (by simpa using hi),l4 (by rw[D3,D7];omega)]
theorem Jg{bp:List (List Row)}{os:List Row}{n:Nat}(h:∀i os,bp[i]?=some os->os.length<=20/\∀r∈os,dC n i r)(h1:os.length<=20)(h2:∀r∈os,dC n bp.length r):∀i GA,(bp++[os])[i]?=some GA->GA.length<=20/\∀r∈GA,dC n i r:=λ i GA e=>by
 by_cases iS:i < bp.length
 ·rw[c9 iS]at e;exact h i GA e
 ·rw[c6 (by omega)]at e;have Xs:i - bp.length=0:=by have:=(i5.mp e).1;simp at this;omega
  rw[Xs]at e;have e:os=GA:=by simpa using e
  subst e;have:i=bp.length:=by omega
  subst this;exact⟨h1,h2⟩
section
variable {P:Program}{w:World}{K:O8}{mg:Str->Option Value}{base:Heap}
theorem dE:aH ["_law_flow_here","_law_most","_law_deep","_law_many","_law_names_here","_law_options_here","_law_h"] ["_law_flow_here","_law_most","_law_deep"] (ai (top 46)):=⟨rfl,rfl,rfl,by decide+kernel,rfl,by decide+kernel,by decide+kernel⟩
theorem Jw{f:Addr}{fd:FuncData}(F:dU K "_law_game" "_law_game" (top 46) f fd)(T:gG K mg)(aV:cO P w K mg base 1 "_law_pick" ["_law_flow_here","_law_many"] mD)(uR:cO P w K mg base 3 "_law_names" ["_law_flow_here","_law_many"] sV)(oN:cO P w K mg base 5 "_law_options" ["_law_flow_here","_law_ahead","_law_many","_law_deep"] xZ):bx P w K mg base eS 6 f fd ["_law_flow_here","_law_most","_law_deep"] (cI K Cw):=by
 refine kG F dE (λ ds M Q h=>?_) (λ bT A outer s H E ds M Q hr h=>?_)
 ·obtain⟨a,cc,m,dp,rfl,_⟩:=h;rfl
 ·obtain⟨a,cc,m,dp,rfl,hF,bR,hm,k⟩:=h;refine⟨_,(af (aZ (i:=3) dE.nd rfl (Or.inl rfl) (bM bJ av (aY aV (hr.mono (by decide)) (by rfl) (aa (ax 0) (aa (ax 1) ae)))))
 (af (aZ (i:=4) dE.nd rfl (Or.inr rfl) (aY uR (hr.mono (by decide)) (by rfl) (aa (ax 0) (aa (ax 3) ae))))
 (af (aZ (i:=5) dE.nd rfl (Or.inr rfl) (dN ae))
 (af (dZ C7 rfl (cp rfl T.range (aa (ax 3) ae)) (cv (i:=6) dE.nd rfl (Or.inl rfl))
 (ak (f' (zG j0 i7 i9 gZ (ax 5) (aa (aY oN (hr.mono (by decide)) (by rfl) (aa (ax 0) (aa (ax 5) (aa (ax 3) (aa (ax 2) ae))))) ae)))))
 (ak (aR (fm cJ cq (by rfl) T.tuple (by decide+kernel) (tgs:=["_law_h"]) (fr:=[4,5]) ⟨bc (by kernel_rfl),rfl,(λ _ _ h=>h),(cp rfl T.range (aa (ax 3) ae)),(aM (λ _ _ _ _ _=>(aL (i:=0) (show(["_law_h","_law_names_here","_law_options_here"]:List Str).Nodup by decide+kernel) rfl (Or.inl rfl))) (by decide)),(λ _ _ _ _ _=>aX),(λ _ _ _ _ _=>(cS (aa (bN bA (ax 1) (ax 0) (λ _ _=>rfl)) (aa (bN bA (ax 2) (ax 0) (λ _ _=>rfl)) ae))))⟩))))))),?_⟩
  walk_at "rd";refine⟨a,cc,m,rfl,hF,by omega,by omega,λ d o h0 h1 P0=>?_⟩;have F1:Fl a cc M _:=Fl.pick P0;generalize ay M a o=M1 at*;obtain⟨n,en⟩:∃n:Nat,1+d=(n:Int):=⟨(1+d).toNat,by omega⟩;walk_at "rd";rw[en];refine⟨a,cc,n,rfl,F1.bG,by omega,λ p zs M2 hz hp iF F2 Tc PM=>?_⟩;have F3:=F1.trans F2;have xa:=(F1.bG.ne hp).1;walk_at "rd";refine⟨by decide,λ o S_=>?_⟩;have Q3:=(F3.bG.ne S_).1;have F4:=F3.trans (Fl.put (o:=.lst []) F3.bG S_);have YX:=bZ iF S_;have iF:ay M2 o (.lst []) p=some (.lst (zs.map D.str)):=by rw[aD YX];exact iF
  have Vx:ay M2 o (.lst []) o=some (.lst (([]:List (List Row)).map cA)):=aj;have hoM:M o=none:=by
   cases z:M o with
   |none=>rfl
   |some u=>rw[F3.mv o u Q3 z]at S_;cases S_
  generalize ay M2 o (.lst [])=M3 at*;walk_at "rd";refine⟨eE (by omega) (by omega),?_⟩;rw[y3];refine gq (λ j δ M'=>∃(v6:Option D) (bp:List (List Row)),δ=[some (.ref a),some (.int m),some (.int dp),some (.int n),some (.ref p),some (.ref o),v6]/\M' p=some (.lst (zs.map D.str))/\M' o=some (.lst (bp.map cA))/\bp.length=j/\(∀i os,bp[i]?=some os->os.length<=20/\∀r∈os,dC n i r)/\Fl a cc M M'/\∀os∈bp,Up os) ⟨none,[],rfl,iF,Vx,rfl,(λ i os h=>by simp at h),F4,λ os h=>(by cases h)⟩ (λ j d δ M' hd h=>?_) (λ δ M' h=>?_)
  ·obtain⟨v6,bp,rfl,h1,h2,h3,h4,h5,QZ⟩:=h;obtain⟨hj,rfl⟩:=fK hd;walk_at "rd";refine⟨⟨rfl,_,h2⟩,?_⟩;walk_at "rd";refine⟨a,cc,o,bp,n,dp,rfl,h5.bG,Q3,h2,by omega,by omega,h4,QZ,λ os M5 g1 g2 gu g3=>?_⟩;have h2:=g3.mv _ _ Q3 h2;have h1:=g3.mv _ _ xa h1;walk_at "rd";refine mP h2 (by rw[D3];exact u9 (show bp.length<=12 by omega) (by decide)) ?_;walk_at "rd";refine⟨_,bp++[os],rfl,by rw[aD YX];exact h1,by rw[aj,D5];rfl,by rw[u4,k9,h3],Jg h4 g1 g2,Fl.own (h5.trans g3) hF hoM,λ GA h=>(D4.mp h).elim (QZ GA) λ z=>(w5.mp z)▸gu⟩
  ·obtain⟨v6,bp,rfl,h1,h2,h3,h4,h5,QZ⟩:=h;rw[cg]at h3;walk_at "rd";refine⟨eE (by omega) (by omega),?_⟩;rw[y3];refine bE (xs:=List.range n) (enc:=RH) (λ i=>aP (zs.getD i (Str.ofString ""),bp.getD i [])) (by simp;omega) (λ i x N hx hN=>?_) ?_
   ·have hi:=(i5.mp hx).1;have W2:x=i:=by rw[o9 (by simpa using hi)]at hx;exact(C6 hx).symm
    subst W2;rw[y9]at hi;walk_at "rd";refine du h1 (d:=.str (zs.getD x (Str.ofString ""))) (by rw[K0];exact cC (by rw[y1,i8 (by omega),c7,i8 (by omega)];rfl)) ?_;walk_at "rd";refine du h2 (d:=cA (bp.getD x [])) (by rw[K0];exact cC (by rw[y1,i8 (by omega),c7,i8 (by omega)];rfl)) ?_;walk_at "rd";exact⟨by show 2<=sizeLine;decide,hN⟩
   ·rw[BS hz h3];walk_at "rd";exact ar (k n _ _ (by omega) (Ku (by omega) hz h3 h4) (yy (hz.trans h3.symm) Tc PM) (λ h hh=>QZ _ (of_mem_zip (a:=h.1) (b:=h.2) hh).2) h5)
end
def Qc:List Str:=[Str.ofString "1",Str.ofString "2",Str.ofString "3",Str.ofString "4",Str.ofString "5",Str.ofString "6",Str.ofString "7",Str.ofString "8",Str.ofString "9"]
def uc:Str:=Str.ofString "abcdefghijklmnopqrstuvwxyz"
def SW(c:Nat):Bool:=decide (c∈uc.cps.toList)
def isWord(z:Str):Bool:=decide (1<=z.length)&&decide (z.length<=5)&&!fq.contains z&&(z.cps.toList.map SW).all id
def uj(z:Str):Bool:=Qc.contains z
def isName(z:Str):Bool:=isWord z||(uj (fR z (some (-1)) none)&&isWord (fR z none (some (-1))))
def jT(f:Str->Bool):gL:=λ ds M Q=>∃z,ds=[.str z]/\z.length<=1000/\Q (.bl (f z)) M
theorem signs_at{z:Str}{i:Nat}{d:D}(h:(dM z)[i]?=some d):∃c,z.cps.toList[i]?=some c/\d=.str ⟨#[c]⟩:=by
 unfold dM at h;rw[y1]at h;cases e:z.cps.toList[i]? with
 |none=>rw[e]at h;cases h
 |some c=>rw[e]at h;exact⟨c,rfl,(C6 h).symm⟩
theorem BC{z:Str}(p:Nat->Bool){g:fX}{te:bX}{δc:cV}{M:Mem}{Q:bF}(hz:z.length<=1000) (hs:∀c (A:Mem->Prop) (N:D->Mem->Prop),N (.bl (p c)) M->g (.str ⟨#[c]⟩) δc M λ δ2 M2=>mI δ2 M2 λ b M3=>if b=true then te δ2 M3 N else A M3) (hq:Q (.bl ((z.cps.toList.map p).all id)) M):∃(B:Nat) (W:Nat->List D->Mem->Prop),W 0 [] M/\∀i acc M,W i acc M->i<=B/\acc.length<=sizeLine/\match items (.fix (dM z)) M with
   |none=>False
   |some ds=>match ds[i]? with
    |none=>i=ds.length/\kY acc M Q
    |some d=>g d δc M λ δ2 M2=>mI δ2 M2 λ b M3=>if b=true then te δ2 M3 λ y M4=>W (i+1) (acc++[y]) M4 else W (i+1) acc M3:=by
 have hl:(dM z).length=z.cps.toList.length:=by unfold dM;rw[D3]
 have S0:z.cps.toList.length<=1000:=by rw[p9];exact hz
 refine gw (λ i acc M'=>M'=M/\acc=((z.cps.toList.take i).map p).map D.bl) ⟨rfl,by simp⟩ (λ i acc M' hi h=>?_) (λ i d acc M' hd h=>?_) (λ acc M' h=>?_)
 ·obtain⟨_,rfl⟩:=h;rw[D3,D3,B2];exact small (by omega)
 ·obtain⟨rfl,rfl⟩:=h;obtain⟨c,hc,rfl⟩:=signs_at hd;refine hs c (λ M3=>M3=_/\_=_) _ ⟨rfl,?_⟩;rw[take_add_one,hc];simp
 ·obtain⟨rfl,rfl⟩:=h;rw[hl,A8];unfold kY;rw[eO];exact hq
section
variable {P:Program}{w:World}{K:O8}{mg:Str->Option Value}{base:Heap}
theorem wc:aH ["text"] ["text"] (ai (top 23)):=⟨rfl,rfl,rfl,by decide+kernel,rfl,by decide+kernel,by decide+kernel⟩
theorem wI{f:Addr}{fd:FuncData}(F:dU K "is_word" "is_word" (top 23) f fd)(T:gG K mg):bx P w K mg base eS 1 f fd ["text"] (cI K (jT isWord)):=by
 refine kG F wc (λ ds M Q h=>?_) (λ bT A outer s H E ds M Q hr h=>?_)
 ·obtain⟨a,rfl,_⟩:=h;rfl
 ·obtain⟨z,rfl,hz,k⟩:=h;refine⟨_,(af (bV (sI (jR (Cc OW OW av (aK dq (by rfl) T.len (by decide+kernel) (aa (ax 0) ae)) (qp T.nJ (by rfl)))) (mi (br (kJ hr.units) (ax 0) (qp T.Kv (by rfl)) rfl))).pt
 (ak (aR oo))
 bo)
 (ak (aR (iN (zl rfl) lL (by rfl) T.all (by decide+kernel) (tgs:=["sign"]) (fr:=[]) ⟨bc (by kernel_rfl),rfl,(λ _ _ h=>h),(bg (ax 0)),(aM (λ _ _ _ _ _=>(aL (i:=0) (show(["sign"]:List Str).Nodup by decide+kernel) rfl (Or.inl rfl))) (by decide)),(λ _ _ _ _ _=>aX),(λ _ _ _ _ _=>(gP (kJ hr.units) (ax 0) (qp T.AZ (by rfl)) rfl))⟩)))),?_⟩
  have Vk:z.length<=sizeLine:=small (by omega);walk_at "rd";refine HS Vk ?_;walk_at "rd";have no:isWord z=false->fin2 Q (.bl false) M:=λ e=>ar (by rw[e]at k;exact k);refine cz (λ h1=>?_) (λ h1=>?_)
  ·walk_at "rd";refine gm (λ h2=>?_) (λ h2=>?_)
   ·walk_at "rd";refine no ?_;unfold isWord;have:decide (z.length<=5)=false:=C3 (by omega);rw[this,Bool.and_false];rfl
   ·walk_at "rd";refine qK (fO z fq) ?_;refine de (λ h3=>?_) (λ h3=>?_)
    ·walk_at "rd";refine no ?_;unfold isWord;rw[h3,Bool.not_true,Bool.and_false];rfl
    ·walk_at "rd";refine BC SW hz (λ c A N h=>?_) ?_
     ·walk_at "rd";rw[StrLaws.found_one];exact h
     ·refine ar ?_;have e:isWord z=(z.cps.toList.map SW).all id:=by unfold isWord;rw[h3,E7 (show 1<=z.length by omega),E7 (show z.length<=5 by omega)];rfl
      rw[<- e];exact k
  ·walk_at "rd";refine no ?_;unfold isWord;have:decide (1<=z.length)=false:=C3 (by omega);rw[this];rfl
theorem qC:aH ["text"] ["text"] (ai (top 24)):=⟨rfl,rfl,rfl,by decide+kernel,rfl,by decide+kernel,by decide+kernel⟩
theorem qY{f:Addr}{fd:FuncData}(F:dU K "is_figure" "is_figure" (top 24) f fd)(T:gG K mg):bx P w K mg base eS 1 f fd ["text"] (cI K (jT uj)):=by
 refine kG F qC (λ ds M Q h=>?_) (λ bT A outer s H E ds M Q hr h=>?_)
 ·obtain⟨a,rfl,_⟩:=h;rfl
 ·obtain⟨z,rfl,hz,k⟩:=h;refine⟨_,(ak (aR (gP (kJ hr.units) (ax 0) (qp T.A_ (by rfl)) rfl))),?_⟩;walk_at "rd";exact qK (fO z Qc) (ar k)
theorem we:aH ["text"] ["text"] (ai (top 25)):=⟨rfl,rfl,rfl,by decide+kernel,rfl,by decide+kernel,by decide+kernel⟩
theorem wJ{f:Addr}{fd:FuncData}(F:dU K "is_name" "is_name" (top 25) f fd)(T:gG K mg)(pY:cO P w K mg base 1 "is_word" ["text"] (jT isWord))(uS:cO P w K mg base 1 "is_figure" ["text"] (jT uj)):bx P w K mg base eS 2 f fd ["text"] (cI K (jT isName)):=by
 refine kG F we (λ ds M Q h=>?_) (λ bT A outer s H E ds M Q hr h=>?_)
 ·obtain⟨a,rfl,_⟩:=h;rfl
 ·obtain⟨z,rfl,hz,k⟩:=h;have Vk:z.length<=sizeLine:=small (by omega);have c1:=zd z (some (-1)) none;have c2:=zd z none (some (-1));refine⟨_,(ak (aR (w_or (aY pY (hr.mono (by decide)) (by rfl) (aa (ax 0) ae)) (kr (w_and (aY uS (hr.mono (by decide)) (by rfl) (aa (cY gU (ax 0) (cW (Mm Cj av)) cX) ae)) (kr (aY pY (hr.mono (by decide)) (by rfl) (aa (cY gU (ax 0) cX (cW (Mm Cj av))) ae)))))))),?_⟩;walk_at "rd";refine⟨z,rfl,hz,?_⟩;refine de (λ h1=>?_) (λ h1=>?_)
  ·refine ar ?_;have e:isName z=true:=by unfold isName;rw[h1];rfl
   rw[<- e];exact k
  ·walk_at "rd";refine qH Vk ?_;refine⟨_,rfl,by omega,?_⟩;refine de (λ h2=>?_) (λ h2=>?_)
   ·walk_at "rd";refine qH Vk ?_;refine⟨_,rfl,by omega,ar ?_⟩;have e:isName z=isWord (fR z none (some (-1))):=by unfold isName;rw[h1,h2];rfl
    rw[<- e];exact k
   ·refine ar ?_;have e:isName z=false:=by unfold isName;rw[h1,h2];rfl
    rw[<- e];exact k
end
theorem Ge{ds:List D}{g:fX}{te:bX}{δc:cV}{M1:Mem}{Qe:List D->Mem->Prop}(out:D->D)(hn:ds.length<=10000) (hs:∀(i:Nat) (x:D) (N:D->Mem->Prop),ds[i]?=some x->N (out x) M1->g x δc M1 λ δ2 M2=>te δ2 M2 N) (hd:Qe (ds.map out) M1):∃(B:Nat) (W:Nat->List D->Mem->Prop),W 0 [] M1/\∀i acc M,W i acc M->i<=B/\acc.length<=sizeLine/\match items (.fix ds) M with
   |none=>False
   |some ds=>match ds[i]? with
    |none=>i=ds.length/\Qe acc M
    |some d=>g d δc M λ δ2 M2=>mI δ2 M2 λ b M3=>if b=true then te δ2 M3 λ y M4=>W (i+1) (acc++[y]) M4 else W (i+1) acc M3:=by
 have z:=bE (xs:=ds) (enc:=λ d=>d) (g:=g) (te:=te) (δc:=δc) (M1:=M1) (Qe:=Qe) out hn hs hd;rw[List.map_id']at z;exact z
theorem eO{α:Type}(p:α->Bool):∀xs:List α,jM (xs.map λ x=>D.bl (p x))=some (xs.map p)
 |[]=>rfl
 |x::xs=>by rw[H9,H9];unfold jM;rw[eO p xs];rfl
theorem yi{α:Type}{xs:List α}{p:α->Bool}{M:Mem}{Q:bF}(q:Q (.bl (xs.all p)) M):kY (xs.map λ x=>D.bl (p x)) M Q:=by
 unfold kY;rw[eO];have e:(xs.map p).all id=xs.all p:=by rw[List.all_map];rfl
 rw[<- e]at q;exact q
theorem Ij{α:Type}{xs:List α}{p:α->Bool}{M:Mem}{Q:bF}(q:Q (.bl (xs.any p)) M):Mb (xs.map λ x=>D.bl (p x)) M Q:=
 ⟨xs.map p,by rw[K4];rfl,by rw[List.any_map];exact q⟩
def Kd:D->Prop
 | .bu=>True| .int _=>True| .str _=>True| .tup _=>True|_=>False
def SV:D->Bool
 | .int _=>true|_=>false
def okN:D->Bool
 | .int i=>decide (0<=i)|_=>false
def dz(d:D)(n:Nat):Bool:=match d with
 | .tup ds=>decide (ds.length=n)&&ds.all okN
 |_=>false
def Od(d:D):Prop:=Kd d/\∀ds,d=.tup ds->ds.length<=1000/\∀e∈ds,Kd e
def pA:gL:=λ ds M Q=>∃d,ds=[d]/\Kd d/\Q (.bl (SV d)) M
def yb:gL:=λ ds M Q=>∃(d:D) (n:Nat),ds=[d,.int n]/\Od d/\Q (.bl (dz d n)) M
section
variable {P:Program}{w:World}{K:O8}{mg:Str->Option Value}{base:Heap}
theorem td:aH ["value"] ["value"] (ai (top 27)):=⟨rfl,rfl,rfl,by decide+kernel,rfl,by decide+kernel,by decide+kernel⟩
theorem tQ{f:Addr}{fd:FuncData}(F:dU K "is_whole" "is_whole" (top 27) f fd)(T:gG K mg):bx P w K mg base eS 1 f fd ["value"] (cI K pA):=by
 refine kG F td (λ ds M Q h=>?_) (λ bT A outer s H E ds M Q hr h=>?_)
 ·obtain⟨d,rfl,_⟩:=h;rfl
 ·obtain⟨d,rfl,hk,k⟩:=h;refine⟨_,(ak (aR (w_and (aK (eL T.Fd) (by rfl) T.isinstance (by decide+kernel) (aa (ax 0) (aa (iM (n:="int") (by rfl) T.int (by decide+kernel)) ae))) (kr (w_not (aK (eL T.nE) (by rfl) T.isinstance (by decide+kernel) (aa (ax 0) (aa (iM (n:="bool") (by rfl) T.bool (by decide+kernel)) ae)))))))),?_⟩;have alt:(∃i,d=.int i)\/∃n,lp M d=some n/\ny n "int"=false/\SV d=false:=by
   cases d with
   |int i=>exact .inl ⟨i,rfl⟩
   |bu=>exact .inr ⟨"NoneType",rfl,by decide,rfl⟩
   |str z=>exact .inr ⟨"str",rfl,by decide,rfl⟩
   |tup z=>exact .inr ⟨"tuple",rfl,by decide,rfl⟩
   |_=>cases hk
  rcases alt with⟨i,rfl⟩|⟨n,h1,h2,h3⟩
  ·walk_at "rx";refine bh (n:="int") rfl (b:=true) (by decide) ?_;walk_at "rx";refine bh (n:="int") rfl (b:=false) (by decide) ?_;walk_at "rx";exact ar k
  ·walk_at "rx";refine bh h1 h2 ?_;walk_at "rx";rw[h3]at k;exact ar k
theorem zR:aH ["value","size"] ["value","size"] (ai (top 28)):=⟨rfl,rfl,rfl,by decide+kernel,rfl,by decide+kernel,by decide+kernel⟩
theorem Ap{f:Addr}{fd:FuncData}(F:dU K "is_sum" "is_sum" (top 28) f fd)(T:gG K mg)(xp:cO P w K mg base 1 "is_whole" ["value"] pA):bx P w K mg base eS 2 f fd ["value","size"] (cI K yb):=by
 refine kG F zR (λ ds M Q h=>?_) (λ bT A outer s H E ds M Q hr h=>?_)
 ·obtain⟨d,n,rfl,_⟩:=h;rfl
 ·obtain⟨d,n,rfl,⟨hk,hd⟩,k⟩:=h;refine⟨_,(af (bV (sI (jR (fj (aK (eL T.rE) (by rfl) T.isinstance (by decide+kernel) (aa (ax 0) (aa (iM (n:="tuple") (by rfl) T.tuple (by decide+kernel)) ae))))) (mi (br (mV hr.units) (aK dq (by rfl) T.len (by decide+kernel) (aa (ax 0) ae)) (ax 1) (bj _)))).pt
 (ak (aR oo))
 bo)
 (ak (aR (iN (zl rfl) lL (by rfl) T.all (by decide+kernel) (tgs:=["many"]) (fr:=[]) ⟨bc (by kernel_rfl),rfl,(λ _ _ h=>h),(bg (ax 0)),(aM (λ _ _ _ _ _=>(aL (i:=0) (show(["many"]:List Str).Nodup by decide+kernel) rfl (Or.inl rfl))) (by decide)),(λ _ _ _ _ _=>aX),(λ _ _ _ _ _=>(w_and (aY xp (hr.mono (by decide)) (by rfl) (aa (ax 0) ae)) (kr (gP SD (ax 0) av (bj _)))))⟩)))),?_⟩
  have alt:(∃ds,d=.tup ds)\/∃s,lp M d=some s/\ny s "tuple"=false/\dz d n=false:=by
   cases d with
   |tup ds=>exact .inl ⟨ds,rfl⟩
   |bu=>exact .inr ⟨"NoneType",rfl,by decide,rfl⟩
   |str z=>exact .inr ⟨"str",rfl,by decide,rfl⟩
   |int z=>exact .inr ⟨"int",rfl,by decide,rfl⟩
   |_=>cases hk
  rcases alt with⟨ds,rfl⟩|⟨s,h1,h2,h3⟩
  ·obtain⟨hl,he⟩:=hd ds rfl;walk_at "rx";refine bh (n:="tuple") rfl (b:=true) (by decide) ?_;walk_at "rx";refine gm (λ hn=>?_) (λ hn=>?_)
   ·walk_at "rx";have e:dz (.tup ds) n=false:=by unfold dz;simp only;rw[C3 (by omega)];rfl
    rw[e]at k;exact ar k
   ·walk_at "rx";refine Ge (λ d=>.bl (okN d)) (by omega) (λ i d N hi hN=>?_) ?_
    ·have Y5:=he d (l8 hi);walk_at "rx";refine⟨d,rfl,Y5,?_⟩;cases d with
     |int j=>walk_at "rx";exact hN
     |bu=>exact hN
     |str z=>exact hN
     |tup z=>exact hN
     |_=>cases Y5
    ·refine yi ?_;have e:dz (.tup ds) n=ds.all okN:=by unfold dz;simp only;rw[E7 (by omega)];rfl
     rw[e]at k;exact ar k
  ·walk_at "rx";refine bh h1 h2 ?_;walk_at "rx";rw[h3]at k;exact ar k
end
def Ct:gL:=λ ds M Q=>∃as:Row,ds=[row as]/\as.length<=1000/\∀m,M m=none->Q (.tup [.int as.sum,.ref m]) (ay M m (.lst ((as.map λ a=>0 - a).map D.int)))
section
variable {P:Program}{w:World}{K:O8}{mg:Str->Option Value}{base:Heap}
theorem qz:aH ["counts"] ["counts"] (ai (top 14)):=⟨rfl,rfl,rfl,by decide+kernel,rfl,by decide+kernel,by decide+kernel⟩
theorem Jt{f:Addr}{fd:FuncData}(F:dU K "order_key" "order_key" (top 14) f fd)(T:gG K mg):bx P w K mg base eS 1 f fd ["counts"] (cI K Ct):=by
 refine kG F qz (λ ds M Q h=>?_) (λ bT A outer s H E ds M Q hr h=>?_)
 ·obtain⟨a,rfl,_⟩:=h;rfl
 ·obtain⟨as,rfl,hz,k⟩:=h;refine⟨_,(ak (aR (cS (aa (aK (qc rfl) (by rfl) T.sum (by decide+kernel) (aa (ax 0) ae)) (aa (iO (tgs:=["many"]) (fr:=[]) ⟨bc (by kernel_rfl),rfl,(λ _ _ h=>h),(bg (ax 0)),(aM (λ _ _ _ _ _=>(aL (i:=0) (show(["many"]:List Str).Nodup by decide+kernel) rfl (Or.inl rfl))) (by decide)),(λ _ _ _ _ _=>aX),(λ _ _ _ _ _=>(Mm Cj (ax 0)))⟩) ae))))),?_⟩;walk_at "rd";refine lM ?_;walk_at "rd";refine gw (λ i acc M'=>M'=M/\acc=((as.map λ a=>0 - a).take i).map D.int) ⟨rfl,by simp⟩ (λ i acc M' hi h=>?_) (λ i d acc M' hd h=>?_) (λ acc M' h=>?_)
  ·obtain⟨_,rfl⟩:=h;rw[D3,B2];rw[D3]at hi;exact small (by omega)
  ·obtain⟨rfl,rfl⟩:=h;rw[y1]at hd;cases e:as[i]? with
   |none=>rw[e]at hd;cases hd
   |some a=>rw[e]at hd;cases hd;walk_at "rd";refine⟨rfl,?_⟩;rw[take_snoc (a:=0 - a) (by simp[e]),D5,Int.zero_sub];rfl
  ·obtain⟨rfl,rfl⟩:=h;intro p hp;walk_at "rd";refine⟨by show 2<=sizeLine;decide,ar ?_⟩;have e:(as.map λ a=>0 - a).take (as.map D.int).length=as.map λ a=>0 - a:=by rw[D3];exact j5 (by simp)
   rw[e];exact k p hp
end
def Aw:D->Int
 | .int i=>i|_=>0
def rowOf:D->Row
 | .tup ds=>ds.map Aw|_=>[]
theorem tu:∀{ds:List D},ds.all okN=true->ds=(ds.map Aw).map D.int/\∀x∈ds.map Aw,0<=x
 |[],_=>⟨rfl,λ x z=>by cases z⟩
 |d::ds,h=>by
  rw[all_cons,B1]at h;obtain⟨e,hp⟩:=tu h.2;cases d with
  |int i=>
   refine⟨by rw[H9,H9,<- e];rfl,λ x hx=>?_⟩;rw[H9]at hx;rcases J0.mp hx with z|z
   ·rw[z];exact of_decide_eq_true h.1
   ·exact hp x z
  |_=>cases h.1
theorem AM{d:D}{n:Nat}(h:dz d n=true):d=row (rowOf d)/\(rowOf d).length=n/\∀x∈rowOf d,0<=x:=by
 cases d with
 |tup ds=>unfold dz at h;simp only[B1,y2]at h;obtain⟨e,hp⟩:=tu h.2;refine⟨?_,by show(ds.map Aw).length=n;rw[D3];exact h.1,hp⟩;show D.tup ds=.tup ((ds.map Aw).map D.int);rw[<- e]
 |_=>cases h
theorem EU{r:Row}{n:Nat}(hl:r.length=n)(hp:∀x∈r,0<=x):dz (row r) n=true:=by unfold row dz;simp only[B1,y2,D3];refine⟨hl,?_⟩;rw[B9];intro d hd;obtain⟨x,hx,rfl⟩:=K3.mp hd;exact E7 (hp x hx)
theorem zV(r:Row):rowOf (row r)=r:=by show(r.map D.int).map Aw=r;rw[K4];exact(r9 (g:=id) λ x _=>rfl).trans (List.map_id _)
def oC(h n:Nat):Option Row->List D->Option Str
 |_,[]=>none
 |ah,o::os=>if dz o n=false then some (Str.ofString "sum")else if((rowOf o).drop h).any (λ x=>decide (0 < x))=true then some (Str.ofString "lesser")else
  if ah.any (λ a=>!klt (eV a) (eV (rowOf o)))=true then some (Str.ofString "order")else oC h n (some (rowOf o)) os
theorem pF(h n:Nat)(ah:Option Row)(o:D)(os:List D):oC h n ah (o::os)=if dz o n=false then some (Str.ofString "sum")else if((rowOf o).drop h).any (λ x=>decide (0 < x))=true then some (Str.ofString "lesser")else
  if ah.any (λ a=>!klt (eV a) (eV (rowOf o)))=true then some (Str.ofString "order")else oC h n (some (rowOf o)) os:=rfl
theorem z_{M:Mem}{Q:bF}(q:Q (.bl false) M):Bl true .bu .bu M Q:=q
theorem HY{ds:List D}{M:Mem}{Q:bF}(q:Q (.bl true) M):Bl true (.tup ds) .bu M Q:=q
def ahD:Option Row->D
 |none=>.bu|some r=>row r
def x_:sy:=λ ds M Q E=>∃(os:List D) (h n:Nat),ds=[.tup os,.int h,.int n]/\(∀o∈os,Od o)/\os.length<=1000/\n<=1000/\(oC h n none os=none->∀M',Ext M M'->Q .bu M')/\
 ∀w,oC h n none os=some w->∀M',Ext M M'->E 120 [(Str.ofString "heap",.int h),(Str.ofString "word",.str w)] M'
def GW(zs:List Str):List (D×D):=zs.map λ z=>(D.str z,D.bl true)
theorem xM(zs:List Str)(z:Str):(g_ (GW zs) (.str z)).isSome=decide (z∈zs):=by
 unfold g_ GW;rw[z0]
 induction zs with
 |nil=>simp
 |cons x xs ih=>
  rw[H9,C2];by_cases e:x=z
  ·subst e;simp
  ·have:¬D.str x=D.str z:=λ q=>e (D.str.inj q);simp only[C3 this];rw[ih];simp[J0,O4 e]
theorem Mg{zs:List Str}{z:Str}(h:z∉zs):putD (GW zs) (.str z) (.bl true)=GW (zs++[z]):=by unfold putD;rw[xM,O7 (by simp[h])];unfold GW;rw[D5];rfl
def ya:sy:=λ ds M Q E=>∃(z:Str) (h:Nat) (p:Addr) (zs:List Str),ds=[.str z,.int h,.ref p]/\z.length<=1000/\M p=some (.jb false (GW zs))/\(isName z=true->z∉zs->Q .bu M)/\
 (isName z=false->E 120 [(Str.ofString "heap",.int h),(Str.ofString "word",.str (Str.ofString "name"))] M)/\(isName z=true->z∈zs->E 120 [(Str.ofString "heap",.int h),(Str.ofString "word",.str (Str.ofString "twice"))] M)
def Vr(h:Str×List D):D:=.tup [.str h.1,.tup h.2]
def Q_(g:List (Str×List D)):D:=.tup (g.map Vr)
def iH(n:Nat):List Str->Nat->List (Str×List D)->Option (Str×Nat)
 |_,_,[]=>none
 |zs,h,x::g=>if isName x.1=false then some (Str.ofString "name",h)else if x.1∈zs then some (Str.ofString "twice",h)else match oC h n none x.2 with
  |some w=>some (w,h)
  |none=>iH n (zs++[x.1]) (h+1) g
theorem nI(n:Nat)(zs:List Str)(h:Nat)(x:Str×List D)(g:List (Str×List D)):iH n zs h (x::g)=if isName x.1=false then some (Str.ofString "name",h)else if x.1∈zs then some (Str.ofString "twice",h)else match oC h n none x.2 with
  |some w=>some (w,h)
  |none=>iH n (zs++[x.1]) (h+1) g:=rfl
def qw:sy:=λ ds M Q E=>∃(g:List (Str×List D)),ds=[Q_ g]/\(∀x∈g,x.1.length<=1000/\x.2.length<=1000/\∀o∈x.2,Od o)/\g.length<=1000/\(iH g.length [] 0 g=none->∀M',Ext M M'->Q (.bl true) M')/\
 ∀w h,iH g.length [] 0 g=some (w,h)->∀M',Ext M M'->E 120 [(Str.ofString "heap",.int h),(Str.ofString "word",.str w)] M'
theorem yS{M M':Mem}{p:Addr}{u:MO}(hp:M p=none)(h:Ext M M'):Ext M (ay M' p u):=λ b o e=>by rw[aD (λ z=>by subst z;rw[hp]at e;cases e)];exact h b o e
section
variable {P:Program}{w:World}{K:O8}{mg:Str->Option Value}{base:Heap}
theorem zT:aH ["self","word","heap"] ["self","word","heap"] (ai (oG 6)):=⟨rfl,rfl,rfl,by decide+kernel,rfl,by decide+kernel,by decide+kernel⟩
theorem As{fd:FuncData}(F:dU K "__init__" "NoGame.__init__" (oG 6) 117 fd)(T:gG K mg):bx P w K mg base eS 1 117 fd ["self","word","heap"] (RE 120 [Str.ofString "word",Str.ofString "heap"]):=by
 refine F.ok zT (λ vs H Q E h=>?_) (λ bT A outer s H vs Q E hr h=>?_)
 ·obtain⟨e,t,us,rfl,hl,_⟩:=h;rw[A5,hl];rfl
 ·obtain⟨e,t,us,rfl,hl,he,k⟩:=h;obtain⟨u,v,rfl⟩:=ZG hl;refine⟨_,fL (lO (mT (by rfl) T.eZ T.gr (aW (pv 0) (aW (pv 1) (aW (pv 2) cE))))) (fL (yq (pv 0) (pv 1)) (jr (yq (pv 0) (pv 2)))),?_⟩;refine⟨.ref e,rfl,u,rfl,v,rfl,e,_,_,t,[u,v],rfl,he,T.dm.ec,by simp,λ t1=>?_⟩;refine⟨u,rfl,.ref e,rfl,e,_,_,t1,rfl,T.dm.ec,T.dm.SK (by simp),.inl ⟨aJ,λ dx hd ne=>?_⟩⟩;refine⟨v,rfl,.ref e,rfl,e,_,_,t1,rfl,T.dm.ec,T.dm.SK (by simp),.inr ⟨dx,_,by rw[aA ne.symm];exact aJ,aJ,ne,by simp,?_⟩⟩;rw[ig];have z:=k t1 dx (by rw[aA ne]at hd;exact hd) ne;rw[ig];exact z
theorem kf(T:gG K mg):zw P w K mg base 1 "NoGame" 120 [Str.ofString "word",Str.ofString "heap"]:=by obtain⟨fd,F⟩:=T.dm.F;exact⟨T.dm.m,_,fd,_,T.dm.ec,As F T,F.binds λ _ _ _ _ _ _=>ln3 λ _ _ _=>rfl⟩
theorem qA:aH ["name","h","earlier"] ["name","h","earlier"] (ai (top 29)):=⟨rfl,rfl,rfl,by decide+kernel,rfl,by decide+kernel,by decide+kernel⟩
theorem qW{f:Addr}{fd:FuncData}(F:dU K "look_name" "look_name" (top 29) f fd)(T:gG K mg)(Bj:cO P w K mg base 2 "is_name" ["text"] (jT isName)):bx P w K mg base (oj P w) 3 f fd ["name","h","earlier"] (iD K ya):=by
 have eJ:=kf (P:=P) (w:=w) (base:=base) T;refine Ss F qA (λ ds M Q E h=>?_) (λ bT A outer s H E ds M Q E2 hr h kx=>?_)
 ·obtain⟨z,h,p,zs,rfl,_⟩:=h;rfl
 ·obtain⟨z,h,p,zs,rfl,hz,hp,kq,k1,k2⟩:=h;have GG:bK 2 (A.deeper (PyProof.Rows.envOfC "look_name" (ai (top 29)) s.heap.objs.size f bT)):=hr.mono (by decide);refine⟨_,(af (bV (iL (jR (fj (aY Bj (hr.mono (by decide)) (by rfl) (aa (ax 0) ae)))))
 (ak (dY dA kx rfl (by rfl) eJ GG (aa (cw eX) (aa (cw (ax 1)) ae))))
 bo)
 (ak (bV (iL (br (SA hr.units) (ax 0) (ax 2) rfl))
 (ak (dY dA kx rfl (by rfl) eJ GG (aa (cw eX) (aa (cw (ax 1)) ae))))
 bo))),?_⟩
  walk_at "rx";refine⟨z,rfl,hz,?_⟩;cases e:isName z with
  |false=>dsimp only;rw[O6 (show(!false)=true from rfl)];refine eB ?_;walk_at "rx";exact⟨rfl,by decide,k1 e⟩
  |true=>
   walk_at "rx";refine Ny hp ⟨.inr z,rfl⟩ ?_;rw[xM];refine cz (λ fb=>?_) (λ fb=>?_)
   ·refine eB ?_;walk_at "rx";exact⟨rfl,by decide,k2 e fb⟩
   ·walk_at "rx";exact ar (kq e fb)
theorem cQ:aH ["options","h","size","ahead","option"] ["options","h","size"] (ai (top 30)):=⟨rfl,rfl,rfl,by decide+kernel,rfl,by decide+kernel,by decide+kernel⟩
theorem lx{f:Addr}{fd:FuncData}(F:dU K "look_options" "look_options" (top 30) f fd)(T:gG K mg)(FT:cO P w K mg base 2 "is_sum" ["value","size"] yb)(kW:cO P w K mg base 1 "order_key" ["counts"] Ct):bx P w K mg base (oj P w) 3 f fd ["options","h","size"] (iD K x_):=by
 have eJ:=kf (P:=P) (w:=w) (base:=base) T;refine Ss F cQ (λ ds M Q E h=>?_) (λ bT A outer s H E ds M Q E2 hr h kx=>?_)
 ·obtain⟨os,h,n,rfl,_⟩:=h;rfl
 ·obtain⟨os,h,n,rfl,hod,AR,hn,kq,ke⟩:=h;have GG:bK 2 (A.deeper (PyProof.Rows.envOfC "look_options" (ai (top 30)) s.heap.objs.size f bT)):=hr.mono (by decide);refine⟨_,(af (aZ (i:=3) cQ.nd rfl (Or.inl rfl) (cw mm))
 (ak (dZ jL rfl (bg (ax 0)) (cv (i:=4) cQ.nd rfl (Or.inl rfl))
 (af (bV (iL (jR (fj (aY FT (hr.mono (by decide)) (by rfl) (aa (ax 4) (aa (ax 2) ae))))))
 (ak (dY dA kx rfl (by rfl) eJ GG (aa (cw eX) (aa (cw (ax 1)) ae))))
 bo)
 (af (bV (iL (fj (iN (Us rfl) Ha (by rfl) T.any (by decide+kernel) (tgs:=["many"]) (fr:=[]) ⟨bc (by kernel_rfl),rfl,(λ _ _ h=>h),(bg (cY gU (ax 4) (cW (ax 1)) cX)),(aM (λ _ _ _ _ _=>(aL (i:=0) (show(["many"]:List Str).Nodup by decide+kernel) rfl (Or.inl rfl))) (by decide)),(λ _ _ _ _ _=>aX),(λ _ _ _ _ _=>(gP O9 (ax 0) av (bj _)))⟩)))
 (ak (dY dA kx rfl (by rfl) eJ GG (aa (cw eX) (aa (cw (ax 1)) ae))))
 bo)
 (af (bV (iL (mj (br OX (ax 3) mm (bj _)) (lI (br (Sz hr.units) (aY kW (hr.mono (by decide)) (by rfl) (aa (ax 4) ae)) (aY kW (hr.mono (by decide)) (by rfl) (aa (ax 3) ae)) (bj _)))).pt)
 (ak (dY dA kx rfl (by rfl) eJ GG (aa (cw eX) (aa (cw (ax 1)) ae))))
 bo)
 (ak (aZ (i:=3) cQ.nd rfl (Or.inl rfl) (cw (ax 4)))))))))),?_⟩
  walk_at "rx";refine gq (λ i δ M'=>∃(ah:Option Row) (v4:Option D),δ=[some (.tup os),some (.int h),some (.int n),some (ahD ah),v4]/\Ext M M'/\(∀r,ah=some r->r.length=n)/\oC h n none os=oC h n ah (os.drop i)) ⟨none,none,rfl,λ b o e=>e,(λ r z=>by cases z),rfl⟩ (λ i d δ M' hd h2=>?_) (λ δ M' h2=>?_)
  ·obtain⟨ah,v4,rfl,hE,PH,eF⟩:=h2;obtain⟨hi,ed⟩:=i5.mp hd;rw[i0 hi,ed]at eF;have hO:=hod d (l8 hd);walk_at "rx";refine⟨d,n,rfl,hO,?_⟩;rw[pF]at eF;cases es:dz d n with
   |false=>rw[O6 es]at eF;dsimp only;rw[O6 (show(!false)=true from rfl)];refine eB ?_;walk_at "rx";exact⟨rfl,by decide,ke _ eF M' hE⟩
   |true=>
    rw[O7 (by rw[es];decide)]at eF;obtain⟨XY,el,ep⟩:=AM es;generalize rowOf d=r at*;subst XY;unfold row;walk_at "rx";refine mL (by omega) ?_;rw[y3,<- map_drop];walk_at "rx";refine bE (xs:=r.drop h) (enc:=D.int) (λ x=>.bl (decide (0 < x))) (by rw[A7];omega) (λ j x N hj hN=>?_) ?_
    ·walk_at "rx";exact hN
    ·refine Ij ?_;cases Zn:(r.drop h).any λ x=>decide (0 < x)with
     |true=>rw[O6 Zn]at eF;dsimp only;rw[O6 rfl];refine eB ?_;walk_at "rx";exact⟨rfl,by decide,ke _ eF M' hE⟩
     |false=>
      rw[O7 (by rw[Zn];decide)]at eF;cases ah with
      |none=>rw[O7 (λ z=>by cases z)]at eF;walk_at "rx";refine z_ ?_;walk_at "rx";exact⟨some r,_,rfl,hE,(λ q e=>by cases e;exact el),eF⟩
      |some a=>
       have hal:=PH a rfl;walk_at "rx";refine HY ?_;walk_at "rx";refine⟨r,rfl,by omega,λ m hm=>?_⟩;walk_at "rx";refine⟨a,rfl,by omega,λ m2 ja=>?_⟩;have XH:=iR hE hm (.lst ((r.map λ a=>0 - a).map D.int));have Kr:=iR XH ja (.lst ((a.map λ a=>0 - a).map D.int));have hmm:m≠m2:=λ z=>by subst z;rw[aj]at ja;cases ja
       refine HV (by rw[aD hmm];exact aj) aj ?_;have ek:Option.any (λ a=>!klt (eV a) (eV r)) (some a)=!klt (eV a) (eV r):=rfl;rw[ek]at eF;show if(!klt (eV a) (eV r))=true then _ else _
       cases Zm:klt (eV a) (eV r)with
       |false=>rw[O6 (by rw[Zm];rfl)]at eF;rw[O6 (show(!false)=true from rfl)];refine eB ?_;walk_at "rx";exact⟨rfl,by decide,ke _ eF _ Kr⟩
       |true=>rw[O7 (by rw[Zm];decide)]at eF;walk_at "rx";exact⟨some r,_,rfl,Kr,(λ q e=>by cases e;exact el),eF⟩
  ·obtain⟨ah,v4,rfl,hE,PH,eF⟩:=h2;rw[drop_length]at eF;walk_at "rx";exact ar (kq eF M' hE)
theorem dQ:aH ["game","earlier","h","heap"] ["game"] (ai (top 31)):=⟨rfl,rfl,rfl,by decide+kernel,rfl,by decide+kernel,by decide+kernel⟩
theorem qX{f:Addr}{fd:FuncData}(F:dU K "look_game" "look_game" (top 31) f fd)(T:gG K mg)(uP:h_ P w K mg base 3 "look_name" ["name","h","earlier"] ya)(nV:h_ P w K mg base 3 "look_options" ["options","h","size"] x_):bx P w K mg base (oj P w) 4 f fd ["game"] (iD K qw):=by
 have eJ:=kf (P:=P) (w:=w) (base:=base) T;refine Ss F dQ (λ ds M Q E h=>?_) (λ bT A outer s H E ds M Q E2 hr h kx=>?_)
 ·obtain⟨g,rfl,_⟩:=h;rfl
 ·obtain⟨g,rfl,hg,Xu,kq,ke⟩:=h;refine⟨_,(af (aZ (i:=1) dQ.nd rfl (Or.inl rfl) (cw (Mr false)))
 (af (dZ jL rfl (xR rfl T.enumerate (aa (ax 0) ae)) (vR (n:=2) rfl (fA (cv (i:=2) dQ.nd rfl (Or.inl rfl)) (fA (cv (i:=3) dQ.nd rfl (Or.inl rfl)) qo)))
 (af (f' (vT uW kx uP (hr.mono (by decide)) (by rfl) (aa (cw (bN (Cb hr.units) (ax 3) av (λ _ _=>rfl))) (aa (cw (ax 2)) (aa (cw (ax 1)) ae)))))
 (af (f' (vT uW kx nV (hr.mono (by decide)) (by rfl) (aa (cw (bN (Cb hr.units) (ax 3) av (λ _ _=>rfl))) (aa (cw (ax 2)) (aa (cw (aK Qp (by rfl) T.len (by decide+kernel) (aa (ax 0) ae))) ae)))))
 (ak (gN oo (gO (ax 1) (bN (Cb hr.units) (ax 3) av (λ _ _=>rfl)) (MN hr.units)))))))
 (ak (aR (cw oo))))),?_⟩
  unfold Q_;walk_at "rx";intro p hp;have e0:Ext M (ay M p (.jb false [])):=iR (λ b o e=>e) hp _;have iF:ay M p (.jb false []) p=some (.jb false (GW [])):=aj;generalize ay M p (.jb false [])=M0 at*;walk_at "rx";refine gq (ds:=ff (g.map Vr)) (λ i δ M'=>∃(v2 v3:Option D) (zs:List Str),δ=[some (Q_ g),some (.ref p),v2,v3]/\M' p=some (.jb false (GW zs))/\zs.length=i/\Ext M M'/\iH g.length [] 0 g=iH g.length zs i (g.drop i)) ⟨none,none,[],rfl,iF,rfl,e0,rfl⟩ (λ i d δ M' hd h2=>?_) (λ δ M' h2=>?_)
  ·obtain⟨v2,v3,zs,rfl,nG,S0,hE,eF⟩:=h2;rw[nP,y1,getElem?_zipIdx]at hd;cases e3:g[i]? with
   |none=>rw[e3]at hd;cases hd
   |some x=>
    rw[e3]at hd;cases hd;obtain⟨hi,ex⟩:=i5.mp e3;rw[i0 hi,ex]at eF;obtain⟨z,os⟩:=x;obtain⟨h1,h2,h3⟩:=hg _ (l8 e3);rw[nI]at eF;dsimp only;unfold Vr;walk_at "rx";refine qJ ?_;walk_at "rx";rw[K6];refine⟨z,i,p,zs,rfl,h1,nG,λ hn hz=>?_,λ hn=>?_,λ hn hz=>?_⟩
    ·rw[O7 (by rw[hn];decide),O7 hz]at eF;walk_at "rx";refine qJ ?_;walk_at "rx";refine Df ?_;unfold Q_;walk_at "rx";rw[D3];refine⟨os,i,g.length,rfl,h3,h2,Xu,λ ho M2 Kr=>?_,λ w ho M2 Kr=>?_⟩
     ·rw[ho]at eF;walk_at "rx";refine qJ ?_;walk_at "rx";refine HF (Kr _ _ nG) ⟨.inr z,rfl⟩ (by unfold GW;rw[D3];exact u9 (show _<=1000 by omega) (by decide)) ?_;rw[Mg hz];walk_at "rx";exact⟨_,_,zs++[z],rfl,aj,by simp[S0],yS hp (λ b o e=>Kr _ _ (hE _ _ e)),eF⟩
     ·rw[ho]at eF;exact ke _ _ eF M2 λ b o e=>Kr _ _ (hE _ _ e)
    ·rw[O6 hn]at eF;exact ke _ _ eF M' hE
    ·rw[O7 (by rw[hn];decide),O6 hz]at eF;exact ke _ _ eF M' hE
  ·obtain⟨v2,v3,zs,rfl,nG,S0,hE,eF⟩:=h2;have el:(ff (g.map Vr)).length=g.length:=by rw[nP,D3,length_zipIdx]
   rw[el,drop_length]at eF;walk_at "rx";exact ar (kq eF M' hE)
end
def bY(n:Nat):Row:=List.replicate n 0
theorem vI(n:Nat):(bY n).map D.int=List.replicate n (D.int 0):=by unfold bY;rw[map_replicate]
def vQ(g:List aI)(a b:Row):List aI:=g.map λ h=>(h.1,h.2.map λ o=>(a++o)++b)
def jn(g1 g2:List aI):List aI:=vQ g1 [] (bY g2.length)++vQ g2 (bY g1.length) []
structure Md(g:List aI):Prop where
 gE:g.length<=12
 opt:∀h∈g,h.2.length<=100/\∀o∈h.2,o.length<=100
 Z_:∀h∈g,PyData.strOk h.1=true
def Lv:gL:=λ ds M Q=>∃g:List aI,ds=[aG g]/\g.length<=12/\Q (row (bY g.length)) M
def Lu:gL:=λ ds M Q=>∃(g:List aI) (a b:Row),ds=[aG g,row a,row b]/\Md g/\a.length<=100/\b.length<=100/\∀M',Ext M M'->Q (aG (vQ g a b)) M'
def sX:sy:=λ ds M Q E=>∃(g1 g2:List aI),ds=[aG g1,aG g2]/\Md g1/\Md g2/\((∀h∈g2,h.1∉g1.map (·.1))->∀M',Ext M M'->Q (aG (jn g1 g2)) M')/\
 ∀(pre:List aI) (h:aI) (post:List aI),g2=pre++h::post->(∀x∈pre,x.1∉g1.map (·.1))->h.1∈g1.map (·.1)->∀M',Ext M M'->E 63 [(Str.ofString "name",.str h.1)] M'
section
variable {P:Program}{w:World}{K:O8}{mg:Str->Option Value}{base:Heap}
theorem CD:aH ["self","name"] ["self","name"] (ai (oG 3)):=⟨rfl,rfl,rfl,by decide+kernel,rfl,by decide+kernel,by decide+kernel⟩
theorem Ee{fd:FuncData}(F:dU K "__init__" "Twice.__init__" (oG 3) 60 fd)(T:gG K mg):bx P w K mg base eS 1 60 fd ["self","name"] (RE 63 [Str.ofString "name"]):=by
 refine F.ok CD (λ vs H Q E h=>?_) (λ bT A outer s H vs Q E hr h=>?_)
 ·obtain⟨e,t,us,rfl,hl,_⟩:=h;rw[A5,hl];rfl
 ·obtain⟨e,t,us,rfl,hl,he,k⟩:=h;obtain⟨u,rfl⟩:=Yp hl;refine⟨_,fL (lO (mT (by rfl) T.eZ T.gr (aW (pv 0) (aW (pv 1) cE)))) (jr (yq (pv 0) (pv 1))),?_⟩;refine⟨.ref e,rfl,u,rfl,e,_,_,t,[u],rfl,he,T.dj.ec,by simp,λ t1=>?_⟩;refine⟨u,rfl,.ref e,rfl,e,_,_,t1,rfl,T.dj.ec,T.dj.SK (by simp),.inl ⟨aJ,λ dx hd ne=>?_⟩⟩;have z:=k t1 dx (by rw[aA ne]at hd;exact hd) ne;rw[ig];exact z
theorem Fz(T:gG K mg):zw P w K mg base 1 "Twice" 63 [Str.ofString "name"]:=by obtain⟨fd,F⟩:=T.dj.F;exact⟨T.dj.m,_,fd,_,T.dj.ec,Ee F T,F.binds λ _ _ _ _ _ _=>ln2 λ _ _=>rfl⟩
theorem wa:aH ["game"] ["game"] (ai (top 13)):=⟨rfl,rfl,rfl,by decide+kernel,rfl,by decide+kernel,by decide+kernel⟩
theorem OQ{f:Addr}{fd:FuncData}(F:dU K "nothing" "nothing" (top 13) f fd)(T:gG K mg):bx P w K mg base eS 1 f fd ["game"] (cI K Lv):=by
 refine kG F wa (λ ds M Q h=>?_) (λ bT A outer s H E ds M Q hr h=>?_)
 ·obtain⟨g,rfl,_⟩:=h;rfl
 ·obtain⟨g,rfl,hg,k⟩:=h;refine⟨_,(ak (aR (bM gp (cS (aa av ae)) (aK dq (by rfl) T.len (by decide+kernel) (aa (ax 0) ae))))),?_⟩;unfold aG;walk_at "rx";rw[D3];refine mM (by omega) (by omega) ?_;rw[y3,<- vI];exact ar k
theorem gh:aH ["game","ahead","behind","told","name","options"] ["game","ahead","behind"] (ai (top 16)):=⟨rfl,rfl,rfl,by decide+kernel,rfl,by decide+kernel,by decide+kernel⟩
theorem OP{f:Addr}{fd:FuncData}(F:dU K "widened" "widened" (top 16) f fd)(T:gG K mg):bx P w K mg base eS 1 f fd ["game","ahead","behind"] (cI K Lu):=by
 refine kG F gh (λ ds M Q h=>?_) (λ bT A outer s H E ds M Q hr h=>?_)
 ·obtain⟨g,a,b,rfl,_⟩:=h;rfl
 ·obtain⟨g,a,b,rfl,S,ha,hb,k⟩:=h;have hfew:=S.gE;have GK:aG g=.tup (g.map aP):=rfl;refine⟨_,(af (aZ (i:=3) gh.nd rfl (Or.inl rfl) (dN ae))
 (af (dZ C7 rfl (bg (ax 0)) (vR (n:=2) rfl (fA (cv (i:=4) gh.nd rfl (Or.inl rfl)) (fA (cv (i:=5) gh.nd rfl (Or.inl rfl)) qo)))
 (ak (f' (zG j0 i7 i9 gZ (ax 3) (aa (cS (aa (ax 4) (aa (fm cJ cq (by rfl) T.tuple (by decide+kernel) (tgs:=["option"]) (fr:=[2,1]) ⟨bc (by kernel_rfl),rfl,(λ _ _ h=>h),(bg (ax 5)),(aM (λ _ _ _ _ _=>(aL (i:=0) (show(["option","behind","ahead"]:List Str).Nodup by decide+kernel) rfl (Or.inl rfl))) (by decide)),(λ _ _ _ _ _=>aX),(λ _ _ _ _ _=>(bM bJ (bM bJ (ax 2) (ax 0)) (ax 1)))⟩) ae))) ae)))))
 (ak (aR (lJ cJ (by rfl) T.tuple (by decide+kernel) (aa (ax 3) ae)))))),?_⟩
  walk_at "rx";intro p hp;have e0:Ext M (ay M p (.lst [])):=iR (λ b o e=>e) hp _;have iF:ay M p (.lst []) p=some (.lst (([]:List aI).map aP)):=aj;generalize ay M p (.lst [])=M0 at*;walk_at "rx";rw[GK];walk_at "rx";refine gq (ds:=g.map aP) (λ i δ M'=>∃v4 v5:Option D,δ=[some (aG g),some (row a),some (row b),some (.ref p),v4,v5]/\M' p=some (.lst ((vQ (g.take i) a b).map aP))/\Ext M M') ⟨none,none,rfl,iF,e0⟩ (λ i d δ M' hd h=>?_) (λ δ M' h=>?_)
  ·obtain⟨v4,v5,rfl,h1,hE⟩:=h;rw[y1]at hd;cases e:g[i]? with
   |none=>rw[e]at hd;cases hd
   |some x=>
    rw[e]at hd;cases hd;have BK:=(i5.mp e).1;obtain⟨ho,AR⟩:=S.opt x (l8 e);obtain⟨nm,os⟩:=x;unfold aP;walk_at "rx";refine⟨⟨rfl,_,h1⟩,?_⟩;walk_at "rx";refine bE (xs:=os) (enc:=row) (λ o=>row ((a++o)++b)) (by exact K5 ho (by decide)) (λ j o N hj hN=>?_) ?_
    ·have hl:=AR o (l8 hj);unfold row;walk_at "rx";refine gX (small (by rw[D3,D3];omega)) ?_;refine gX (small (by rw[u4,D3,D3,D3];omega)) ?_;unfold row at hN;rw[D5,D5]at hN;exact hN
    ·walk_at "rx";refine mP h1 (by unfold vQ;rw[D3,D3,B2];exact u9 (show _<=12 by omega) (by decide)) ?_;walk_at "rx";refine⟨_,_,rfl,?_,yS hp hE⟩;rw[aj,take_succ,e];unfold vQ aP;rw[D5,D5];simp only[Option.toList,H9,map_nil,K4];rfl
  ·obtain⟨v4,v5,rfl,h1,hE⟩:=h;rw[D3,A8]at h1;walk_at "rx";refine jV h1 ?_;exact ar (k M' hE)
theorem jU:aH ["one","other","names","heap"] ["one","other"] (ai (top 17)):=⟨rfl,rfl,rfl,by decide+kernel,rfl,by decide+kernel,by decide+kernel⟩
theorem Ao{f:Addr}{fd:FuncData}(F:dU K "joined" "joined" (top 17) f fd)(T:gG K mg)(pW:cO P w K mg base 1 "widened" ["game","ahead","behind"] Lu)(pX:cO P w K mg base 1 "nothing" ["game"] Lv):bx P w K mg base (oj P w) 3 f fd ["one","other"] (iD K sX):=by
 have KG:=Fz (P:=P) (w:=w) (base:=base) T;refine Ss F jU (λ ds M Q E h=>?_) (λ bT A outer s H E ds M Q E2 hr h kx=>?_)
 ·obtain⟨g1,g2,rfl,_⟩:=h;rfl
 ·obtain⟨g1,g2,rfl,S1,S2,kq,ke⟩:=h;have GG:bK 2 (A.deeper (PyProof.Rows.envOfC "joined" (ai (top 17)) s.heap.objs.size f bT)):=hr.mono (by decide);have f1:=S1.gE;have f2:=S2.gE;have Tz:aG g1=.tup (g1.map aP):=rfl;have Tx:aG g2=.tup (g2.map aP):=rfl;refine⟨_,(af (Ml (cD (i:=2) jU.nd rfl (Or.inl rfl) (tgs:=["heap"]) (fr:=[]) ⟨bc (by kernel_rfl),rfl,(λ _ _ h=>h),(bg (ax 0)),(aM (λ _ _ _ _ _=>(aL (i:=0) (show(["heap"]:List Str).Nodup by decide+kernel) rfl (Or.inl rfl))) (by decide)),(λ _ _ _ _ _=>aX),(λ _ _ _ _ _=>(bN bA (ax 0) av (λ _ _=>rfl)))⟩))
 (af (dZ jL rfl (bg (ax 1)) (cv (i:=3) jU.nd rfl (Or.inl rfl))
 (ak (bV (iL (br (kJ hr.units) (bN bA (ax 3) av (λ _ _=>rfl)) (ax 2) rfl))
 (ak (dY dA kx rfl (by rfl) KG GG (aa (cw (bN bA (ax 3) av (λ _ _=>rfl))) ae)))
 bo)))
 (ak (aR (cw (bM bJ (aY pW (hr.mono (by decide)) (by rfl) (aa (ax 0) (aa (cS ae) (aa (aY pX (hr.mono (by decide)) (by rfl) (aa (ax 1) ae)) ae)))) (aY pW (hr.mono (by decide)) (by rfl) (aa (ax 1) (aa (aY pX (hr.mono (by decide)) (by rfl) (aa (ax 0) ae)) (aa (cS ae) ae)))))))))),?_⟩
  walk_at "rx";rw[Tz];walk_at "rx";refine bE (xs:=g1) (enc:=aP) (λ h=>.str h.1) (by omega) (λ j x N hj hN=>?_) ?_
  ·unfold aP;walk_at "rx";exact hN
  ·intro p hp;have em:(g1.map λ h=>D.str h.1)=(g1.map (·.1)).map D.str:=by rw[K4];rfl
   have iF:ay M p (.lst (g1.map λ h=>D.str h.1)) p=some (.lst ((g1.map (·.1)).map D.str)):=by rw[em];exact aj
   have e0:Ext M (ay M p (.lst (g1.map λ h=>D.str h.1))):=iR (λ b o e=>e) hp _;generalize ay M p (.lst (g1.map λ h=>D.str h.1))=M0 at*;walk_at "rx";rw[Tx];walk_at "rx";refine gq (ds:=g2.map aP) (λ i δ M'=>∃v3:Option D,δ=[some (aG g1),some (aG g2),some (.ref p),v3]/\M'=M0/\∀x∈g2.take i,x.1∉g1.map (·.1)) ⟨none,rfl,rfl,λ x z=>by simp at z⟩ (λ i d δ M' hd h=>?_) (λ δ M' h=>?_)
   ·obtain⟨v3,rfl,rfl,oJ⟩:=h;rw[y1]at hd;cases e:g2[i]? with
    |none=>rw[e]at hd;cases hd
    |some x=>
     rw[e]at hd;cases hd;obtain⟨nm,os⟩:=x;unfold aP;walk_at "rx";refine qL iF (fO nm _) ?_;refine de (λ fb=>?_) (λ fb=>?_)
     ·have fb:nm∈g1.map (·.1):=by simpa using fb
      refine eB ?_;walk_at "rx";refine⟨rfl,by decide,?_⟩;have hi:=i5.mp e;refine ke (g2.take i) (nm,os) (g2.drop (i+1)) ?_ oJ fb _ e0;rw[<- hi.2];exact(take_append_drop i g2).symm.trans (by rw[i0 hi.1])
     ·have fb:nm∉g1.map (·.1):=by simpa using fb
      walk_at "rx";refine⟨_,rfl,rfl,λ x hx=>?_⟩;rw[take_succ,e]at hx;rcases D4.mp hx with z|z
      ·exact oJ x z
      ·have:x=(nm,os):=by simpa using z
       rw[this];exact fb
   ·obtain⟨v3,rfl,rfl,oJ⟩:=h;rw[D3,A8]at oJ;walk_at "rx";refine⟨g2,rfl,f2,?_⟩;walk_at "rx";refine⟨g1,[],bY g2.length,rfl,S1,by decide,by unfold bY;rw[l3];omega,λ M1 XH=>?_⟩;walk_at "rx";refine⟨g1,rfl,f1,?_⟩;walk_at "rx";refine⟨g2,bY g1.length,[],rfl,S2,by unfold bY;rw[l3];omega,by decide,λ M2 Kr=>?_⟩;unfold aG;refine gX (small (by unfold vQ;rw[D3,D3,D3,D3];omega)) ?_;have z:=kq oJ M2 λ b o e=>Kr _ _ (XH _ _ (e0 _ _ e));unfold aG jn at z;rw[D5]at z;exact ar z
end
def nk(g1 g2:List aI):D:=match g2.filter λ h=>decide (h.1∈g1.map (·.1))with
 |[]=>aG (jn g1 g2)
 |h::_=>.tup [.str (Str.ofString "twice"),.str h.1]
theorem JX{g1 g2:List aI}(h:∀x∈g2,x.1∉g1.map (·.1)):nk g1 g2=aG (jn g1 g2):=by unfold nk;rw[filter_eq_nil_iff.mpr λ x hx=>by simpa using h x hx]
theorem EI{g1 g2 pre post:List aI}{h:aI}(e:g2=pre++h::post)(hp:∀x∈pre,x.1∉g1.map (·.1))(hh:h.1∈g1.map (·.1)):nk g1 g2=.tup [.str (Str.ofString "twice"),.str h.1]:=by unfold nk;rw[e,filter_append,filter_eq_nil_iff.mpr λ x hx=>by simpa using hp x hx,nil_append,filter_cons,O6 (E7 hh)]
def qx:gL:=λ ds M Q=>∃(g1 g2:List aI),ds=[aG g1,aG g2]/\Md g1/\Md g2/\∀M',Ext M M'->Q (nk g1 g2) M'
section
variable {P:Program}{w:World}{K:O8}{mg:Str->Option Value}{base:Heap}
theorem eo:aH ["_law_one","_law_other","_law_names_here","_law_again","_law_first","_law_second"] ["_law_one","_law_other"] (ai (top 50)):=⟨rfl,rfl,rfl,by decide+kernel,rfl,by decide+kernel,by decide+kernel⟩
theorem Eb{f:Addr}{fd:FuncData}(F:dU K "_law_due" "_law_due" (top 50) f fd)(T:gG K mg):bx P w K mg base eS 1 f fd ["_law_one","_law_other"] (cI K qx):=by
 refine kG F eo (λ ds M Q h=>?_) (λ bT A outer s H E ds M Q hr h=>?_)
 ·obtain⟨g1,g2,rfl,_⟩:=h;rfl
 ·obtain⟨g1,g2,rfl,S1,S2,k⟩:=h;have f1:=S1.gE;have f2:=S2.gE;have Tz:aG g1=.tup (g1.map aP):=rfl;have Tx:aG g2=.tup (g2.map aP):=rfl;refine⟨_,(af (aZ (i:=2) eo.nd rfl (Or.inr rfl) (iO (tgs:=["_law_heap"]) (fr:=[]) ⟨bc (by kernel_rfl),rfl,(λ _ _ h=>h),(bg (ax 0)),(aM (λ _ _ _ _ _=>(aL (i:=0) (show(["_law_heap"]:List Str).Nodup by decide+kernel) rfl (Or.inl rfl))) (by decide)),(λ _ _ _ _ _=>aX),(λ _ _ _ _ _=>(bN bA (ax 0) av (λ _ _=>rfl)))⟩))
 (af (cD (i:=3) eo.nd rfl (Or.inl rfl) (tgs:=["_law_heap"]) (fr:=[2]) ⟨bc (by kernel_rfl),rfl,(λ _ _ h=>h),(bg (ax 1)),(aM (λ _ _ _ _ _=>(aL (i:=0) (show(["_law_heap","_law_names_here"]:List Str).Nodup by decide+kernel) rfl (Or.inl rfl))) (by decide)),(λ _ _ _ _ _=>(qm (br (kJ hr.units) (bN bA (ax 0) av (λ _ _=>rfl)) (ax 1) rfl))),(λ _ _ _ _ _=>(bN bA (ax 0) av (λ _ _=>rfl)))⟩)
 (af (bV (br (mV hr.units) (ax 3) (dN ae) (bj _))
 (ak (aR (cS (aa eX (aa (bN bA (ax 3) av (λ _ _=>rfl)) ae)))))
 bo)
 (af (cD (i:=4) eo.nd rfl (Or.inl rfl) (tgs:=["_law_name_here","_law_options_here"]) (fr:=[1]) ⟨bc (by kernel_rfl),rfl,(λ _ _ h=>h),(bg (ax 0)),(ml (λ _ _ _ _ _=>(qR rfl (eD (aL (i:=0) (show(["_law_name_here","_law_options_here","_law_other"]:List Str).Nodup by decide+kernel) rfl (Or.inl rfl)) (eD (aL (i:=1) (show(["_law_name_here","_law_options_here","_law_other"]:List Str).Nodup by decide+kernel) rfl (Or.inl rfl)) lR)))) (by decide) (by decide)),(λ _ _ _ _ _=>aX),(λ _ _ _ _ _=>(cS (aa (ax 0) (aa (fm cJ cq (by rfl) T.tuple (by decide+kernel) (tgs:=["_law_counts_here"]) (fr:=[2]) ⟨bc (by kernel_rfl),rfl,(λ _ _ h=>h),(bg (ax 1)),(aM (λ _ _ _ _ _=>(aL (i:=0) (show(["_law_counts_here","_law_other"]:List Str).Nodup by decide+kernel) rfl (Or.inl rfl))) (by decide)),(λ _ _ _ _ _=>aX),(λ _ _ _ _ _=>(bM bJ (ax 0) (bM gp (cS (aa av ae)) (aK dq (by rfl) T.len (by decide+kernel) (aa (ax 1) ae)))))⟩) ae))))⟩)
 (af (cD (i:=5) eo.nd rfl (Or.inl rfl) (tgs:=["_law_name_here","_law_options_here"]) (fr:=[0]) ⟨bc (by kernel_rfl),rfl,(λ _ _ h=>h),(bg (ax 1)),(ml (λ _ _ _ _ _=>(qR rfl (eD (aL (i:=0) (show(["_law_name_here","_law_options_here","_law_one"]:List Str).Nodup by decide+kernel) rfl (Or.inl rfl)) (eD (aL (i:=1) (show(["_law_name_here","_law_options_here","_law_one"]:List Str).Nodup by decide+kernel) rfl (Or.inl rfl)) lR)))) (by decide) (by decide)),(λ _ _ _ _ _=>aX),(λ _ _ _ _ _=>(cS (aa (ax 0) (aa (fm cJ cq (by rfl) T.tuple (by decide+kernel) (tgs:=["_law_counts_here"]) (fr:=[2]) ⟨bc (by kernel_rfl),rfl,(λ _ _ h=>h),(bg (ax 1)),(aM (λ _ _ _ _ _=>(aL (i:=0) (show(["_law_counts_here","_law_one"]:List Str).Nodup by decide+kernel) rfl (Or.inl rfl))) (by decide)),(λ _ _ _ _ _=>aX),(λ _ _ _ _ _=>(bM bJ (bM gp (cS (aa av ae)) (aK dq (by rfl) T.len (by decide+kernel) (aa (ax 1) ae))) (ax 0)))⟩) ae))))⟩)
 (ak (aR (lJ cJ (by rfl) T.tuple (by decide+kernel) (aa (bM bJ (ax 4) (ax 5)) ae))))))))),?_⟩
  walk_at "rx";rw[Tz];walk_at "rx";refine bE (xs:=g1) (enc:=aP) (λ h=>.str h.1) (by omega) (λ j x N hj hN=>?_) ?_
  ·unfold aP;walk_at "rx";exact hN
  ·intro p hp;have em:(g1.map λ h=>D.str h.1)=(g1.map (·.1)).map D.str:=by rw[K4];rfl
   have iF:ay M p (.lst (g1.map λ h=>D.str h.1)) p=some (.lst ((g1.map (·.1)).map D.str)):=by rw[em];exact aj
   have e0:Ext M (ay M p (.lst (g1.map λ h=>D.str h.1))):=iR (λ b o e=>e) hp _;generalize ay M p (.lst (g1.map λ h=>D.str h.1))=M0 at*;walk_at "rx";rw[Tx];walk_at "rx";refine KU (xs:=g2) (enc:=aP) (λ h=>decide (h.1∈g1.map (·.1))) (λ h=>.str h.1) (by omega) (λ j x N1 N2 hj k1 k2=>?_) ?_
   ·obtain⟨nm,os⟩:=x;unfold aP;walk_at "rx";refine qL iF (fO nm _) ?_;refine de (λ fb=>?_) (λ fb=>?_)
    ·have fb:nm∈g1.map (·.1):=by simpa using fb
     walk_at "rx";exact k1 (E7 fb)
    ·have fb:nm∉g1.map (·.1):=by simpa using fb
     exact k2 (C3 fb)
   ·intro p2 ix;have e1:=iR e0 ix (.lst ((g2.filter λ h=>decide (h.1∈g1.map (·.1))).map λ h=>D.str h.1));have PZ:ay M0 p2 (.lst ((g2.filter λ h=>decide (h.1∈g1.map (·.1))).map λ h=>D.str h.1)) p2=some (.lst ((g2.filter λ h=>decide (h.1∈g1.map (·.1))).map λ h=>D.str h.1)):=aj;generalize ay M0 p2 (.lst ((g2.filter λ h=>decide (h.1∈g1.map (·.1))).map λ h=>D.str h.1))=M1 at*;walk_at "rx";intro p3 GH;have S9:=bZ PZ GH;have e2:=iR e1 GH (.lst []);have hnk:∀e∈(g2.filter λ h=>decide (h.1∈g1.map (·.1))).map λ h=>D.str h.1,Pl 0 e:=λ e he=>by obtain⟨h,hh,rfl⟩:=K3.mp he;exact gn 0 (S2.Z_ h (mem_filter.mp hh).1)
    refine qI (k:=0) (b:=(g2.filter λ h=>decide (h.1∈g1.map (·.1))).isEmpty) (by rw[aD S9];exact PZ) aj hnk (λ e z=>by cases z) (by decide) (by rw[isEmpty_iff,map_eq_nil_iff]) ?_;have Zd:ay M1 p3 (.lst []) p2=some (.lst ((g2.filter λ h=>decide (h.1∈g1.map (·.1))).map λ h=>D.str h.1)):=by rw[aD S9];exact PZ
    generalize ay M1 p3 (.lst [])=M2 at*;have q:=k;unfold nk at q;cases ef:g2.filter λ h=>decide (h.1∈g1.map (·.1))with
    |cons h t=>rw[ef]at Zd q;rw[show(h::t:List aI).isEmpty=false from rfl];dsimp only;rw[O6 (show(!false)=true from rfl)];walk_at "rx";refine du Zd (d:=.str h.1) (cC (j:=0) rfl) ?_;walk_at "rx";exact ar (q M2 e2)
    |nil=>
     rw[ef]at q;rw[show([]:List aI).isEmpty=true from rfl];dsimp only;rw[O7 (show ¬(!true)=true by decide)];walk_at "rx"
     try rw[Tz]
     walk_at "rx";refine bE (xs:=g1) (enc:=aP) (λ h=>aP (h.1,h.2.map λ o=>([]++o)++bY g2.length)) (by omega) (λ j x N hj hN=>?_) ?_
     ·obtain⟨ho,AR⟩:=S1.opt x (l8 hj);obtain⟨nm,os⟩:=x;unfold aP;walk_at "rx";refine bE (xs:=os) (enc:=row) (λ o=>row (([]++o)++bY g2.length)) (K5 ho (by decide)) (λ l o N2 hl BM=>?_) ?_
      ·have hz:=AR o (l8 hl);unfold row
       try rw[Tx]
       walk_at "rx";rw[D3];refine mM (by omega) (by omega) ?_;rw[y3];refine gX (small (by rw[D3,l3];omega)) ?_;unfold row at BM;rw[nil_append,D5,vI]at BM;exact BM
      ·walk_at "rx";unfold aP at hN;rw[K4]at hN;exact hN
     ·intro p4 Vs;have e3:=iR e2 Vs (.lst (g1.map λ h=>aP (h.1,h.2.map λ o=>([]++o)++bY g2.length)));have Vy:ay M2 p4 (.lst (g1.map λ h=>aP (h.1,h.2.map λ o=>([]++o)++bY g2.length))) p4=some (.lst (g1.map λ h=>aP (h.1,h.2.map λ o=>([]++o)++bY g2.length))):=aj;generalize ay M2 p4 (.lst (g1.map λ h=>aP (h.1,h.2.map λ o=>([]++o)++bY g2.length)))=M3 at*;walk_at "rx"
      try rw[Tx]
      walk_at "rx";refine bE (xs:=g2) (enc:=aP) (λ h=>aP (h.1,h.2.map λ o=>(bY g1.length++o)++[])) (by omega) (λ j x N hj hN=>?_) ?_
      ·obtain⟨ho,AR⟩:=S2.opt x (l8 hj);obtain⟨nm,os⟩:=x;unfold aP;walk_at "rx";refine bE (xs:=os) (enc:=row) (λ o=>row ((bY g1.length++o)++[])) (K5 ho (by decide)) (λ l o N2 hl BM=>?_) ?_
       ·have hz:=AR o (l8 hl);unfold row
        try rw[Tz]
        walk_at "rx";rw[D3];refine mM (by omega) (by omega) ?_;rw[y3];refine gX (small (by rw[D3,l3];omega)) ?_;unfold row at BM;rw[C1,D5,vI]at BM;exact BM
       ·walk_at "rx";unfold aP at hN;rw[K4]at hN;exact hN
      ·intro p5 Xd;have e4:=iR e3 Xd (.lst (g2.map λ h=>aP (h.1,h.2.map λ o=>(bY g1.length++o)++[])));have Xe:=bZ Vy Xd;walk_at "rx";refine tH (by rw[aD Xe];exact Vy) aj (small (by rw[D3,D3];omega)) λ p6 hp6=>?_;refine jV aj ?_;have z:=q _ (iR e4 hp6 (.lst ((g1.map λ h=>aP (h.1,h.2.map λ o=>([]++o)++bY g2.length))++g2.map λ h=>aP (h.1,h.2.map λ o=>(bY g1.length++o)++[]))));unfold aG jn vQ at z;rw[D5,K4,K4]at z;exact ar z
theorem c_:aH ["_law_one","_law_other","_law_told","_law_found","e"] ["_law_one","_law_other"] (ai (top 51)):=⟨rfl,rfl,rfl,by decide+kernel,rfl,by decide+kernel,by decide+kernel⟩
theorem Ec{f:Addr}{fd:FuncData}(F:dU K "_law_asked" "_law_asked" (top 51) f fd)(T:gG K mg)(FR:h_ P w K mg base 3 "joined" ["one","other"] sX):bx P w K mg base eS 4 f fd ["_law_one","_law_other"] (cI K qx):=by
 refine kG F c_ (λ ds M Q h=>?_) (λ bT A outer s H E ds M Q hr h=>?_)
 ·obtain⟨g1,g2,rfl,_⟩:=h;rfl
 ·obtain⟨g1,g2,rfl,S1,S2,k⟩:=h;refine⟨_,(af (aZ (i:=2) c_.nd rfl (Or.inl rfl) mm) (af (aZ (i:=3) c_.nd rfl (Or.inl rfl) mm)
   (af (G_ (i:=4) (j:=3) (h2:=λ C fs D δ M=>∃v,C=63/\fs=[(Str.ofString "name",v)]/\D.nx (δ.set 2 (some (.tup [.str (Str.ofString "twice"),v]))) M) (λ _ _ z=>z) ⟨rfl,rfl⟩ c_.nd rfl (Or.inl rfl) rfl rfl FR (hr.mono (by decide)) (by rfl) (aa (ax 0) (aa (ax 1) ae)) (by rfl) T.dj.m T.dj.cat
    ⟨λ a=>Yy _ 4 2 (Str.ofString "other") (Str.ofString "twice") (Str.ofString "name") 24 [44,82,101,120,139,158,177,196,215],λ a=>fL (DF (i:=2) c_.nd rfl (Or.inl rfl) (LF L2.bA (DQ (aW (qS (aW wD cE)) (aW (qS (aW wD (aW (Sd (pv 4)) cE))) cE))) (fM Bu (by rfl) T.int (by decide+kernel) (aW (jw Bt (by rfl) T.isinstance (by decide+kernel) (aW (pv 4) (aW (ft (by rfl) T.eZ) cE))) cE)) (λ _ _=>rfl)))
     (jr (LB (DB (jw xF (by rfl) T.isinstance (by decide+kernel) (aW (pv 4) (aW (qS (aW (ft (by rfl) T.Gi.m) (aW (ft (by rfl) T.Gj.m) (aW (ft (by rfl) T.Bw.m) (aW (ft (by rfl) T.dm.m) (aW (ft (by rfl) T.Bx.m) (aW (ft (by rfl) T.K_.m) (aW (ft (by rfl) T.By.m) (aW (ft (by rfl) T.eN.m) (aW (ft (by rfl) T.K'.m) cE)))))))))) cE)))) Ad yp)),?suite⟩)
    (af (bV (br Ej (ax 2) mm (bj _))
 (ak (aR (ax 3)))
 bo) (ak (aR (ax 2))))))),?_⟩
  ·exact λ a C dx fs ds D D2 σ H' δ M' hσ h1 h2 fr sr rm hh ct=>Rz (by decide) (l5 rfl) T.dj.ei (T.dj.eg (by simp)) T.kH T.kA hσ h1 h2 fr sr rm hh ct
  ·walk_at "rx";refine Hz (Nat.lt_succ_self 4) ?_;walk_at "rx";refine⟨g1,g2,rfl,S1,S2,λ bq M' hM=>?_,λ pre h post e1 e2 e3 M' hM=>⟨T.dj.cat,T.sN,.str h.1,rfl,rfl,?_⟩⟩
   ·walk_at "rx";have q:=k M' hM;rw[JX bq]at q;exact ar q
   ·dsimp only[dG.but];walk_at "rx";have q:=k M' hM;rw[EI e1 e2 e3]at q;exact ar q
end
def gI(m:Nat)(os:List Row):List Row:=os.map λ r=>r.take m
theorem DW{n i m:Nat}{r:Row}(h:dC n i r)(hi:i<=m):r.drop m=List.replicate (n - m) 0:=by refine eq_replicate_iff.mpr ⟨by rw[A7,h.len],λ x hx=>?_⟩;obtain⟨j,hj,e⟩:=l9.mp hx;rw[getElem_drop]at e;have:=h.low (m+j) (by omega);rw[A7]at hj;rw[c7,i8 (by omega),B4]at this;exact e.symm.trans this
theorem qT{n i m:Nat}{r:Row}(h:dC n i r)(hi:i<=m):r=r.take m++List.replicate (n - m) 0:=by rw[<- DW h hi,take_append_drop]
theorem sR(n:Nat):(List.replicate n (0:Int)).sum=0:=by
 induction n with
 |zero=>rfl
 |succ n ih=>rw[p8,sum_cons,ih];rfl
theorem qU{n i m:Nat}{r:Row}(h:dC n i r)(hi:i<=m):(r.take m).sum=r.sum:=by have e:=O3 List.sum (qT h hi);rw[D9,sR]at e;omega
theorem KQ{n i m:Nat}{r:Row}(h:dC n i r)(hi:i<=m)(hm:m<=n):dC m i (r.take m):=
 ⟨by rw[B2,h.len];omega,λ x hx=>h.pos x (m8 hx),by rw[qU h hi];exact h.sum,λ j hj=>by
  by_cases hjm:j < m
  ·have:=h.low j hj;rw[c7]at this ⊢;rw[getElem?_take_of_lt hjm];exact this
  ·rw[c7,l4 (by rw[B2];omega)];rfl⟩
theorem m_(z:List Int):∀a b:List Int,a.length=b.length->HT.lexLt (a++z) (b++z)=HT.lexLt a b
 |[],[],_=>lT z
 |x::a,y::b,h=>by rw[B8,B8,HT.bB,HT.bB,m_ z a b (by simpa using h)]
 |[],_::_,h=>by cases h
 |_::_,[],h=>by cases h
theorem KR{n i m:Nat}{r s:Row}(h:dC n i r)(h2:dC n i s)(hi:i<=m):klt (eV (r.take m)) (eV (s.take m))=klt (eV r) (eV s):=by
 unfold klt eV;simp only;rw[qU h hi,qU h2 hi];have e:HT.lexLt (r.map λ a=>0 - a) (s.map λ a=>0 - a)=HT.lexLt ((r.take m).map λ a=>0 - a) ((s.take m).map λ a=>0 - a):=by
  conv=>lhs;rw[qT h hi,qT h2 hi]
  rw[D5,D5];exact m_ _ _ _ (by simp[h.len,h2.len])
 rw[e]
theorem Qm{n i m:Nat}{os:List Row}(h:∀r∈os,dC n i r)(hi:i<=m)(hu:Up os):Up (gI m os):=by unfold Up gI;rw[pairwise_map];exact List.Pairwise.imp_of_mem (λ{a b} ha hb Xz=>by rw[KR (h a ha) (h b hb) hi];exact Xz) hu
theorem KS{n m:Nat}{g:List aI}(h:cN n g)(hm:m<=n):∀i os,((g.take m).map λ p=>gI m p.2)[i]?=some os->os.length<=63/\∀r∈os,dC m i r:=λ i os e=>by
 rw[y1]at e;obtain⟨p,e1,e2⟩:=Option.map_eq_some_iff.mp e;have hi:i < m:=by have:=(i5.mp e1).1;rw[B2]at this;omega
 rw[getElem?_take_of_lt hi]at e1;have:=h.opts i (by omega);rw[c7,e1,B4]at this;subst e2;refine⟨by unfold gI;rw[D3];exact this.1,λ r hr=>?_⟩;obtain⟨s,hs,rfl⟩:=K3.mp hr;exact KQ (this.2 s hs) (by omega) hm
theorem KP{n m:Nat}{g:List aI}(h:cN n g)(hm:m<=n)(hu:∀p∈g,Up p.2):∀os∈(g.take m).map λ p=>gI m p.2,Up os:=λ os ho=>by obtain⟨p,hp,rfl⟩:=K3.mp ho;obtain⟨i,hi,e⟩:=l9.mp hp;rw[B2]at hi;rw[getElem_take]at e;have:=h.opts i (by rw[<- h.len];omega);rw[c7,i8 (by omega),B4,e]at this;exact Qm this.2 (by omega) (hu p (m8 hp))
theorem Ft{n:Nat}{zs:List Str}{bp:List (List Row)}(hn:n<=12)(hz:zs.length=n)(ho:bp.length=n)(h:∀i os,bp[i]?=some os->os.length<=63/\∀r∈os,dC n i r):cN n (zs.zip bp):=by
 refine⟨by rw[D7];omega,hn,λ i hi=>?_⟩;have e:(zs.zip bp).getD i iz=(zs[i]'(by omega),bp[i]'(by omega)):=by rw[c7,i8 (by rw[D7];omega)];simp
 rw[e];exact h i _ (i8 (by omega))
theorem mG{M:Mem}{a:Addr}{ds:List D}(h:M a=some (.lst ds)):cL M (.ref a)=some ds:=by show a_ M a=_;unfold a_;rw[h]
theorem Ax{ys:List Str}{z:Str}{i:Nat}(h:ys.Nodup)(hz:z∉ys):(ys.set i z).Nodup:=by
 induction ys generalizing i with
 |nil=>exact h
 |cons y ys ih=>
  have hy:=nodup_cons.mp h;cases i with
  |zero=>exact nodup_cons.mpr ⟨λ q=>hz (l7 _ q),hy.2⟩
  |succ i=>
   refine nodup_cons.mpr ⟨λ q=>?_,ih hy.2 λ q=>hz (l7 _ q)⟩;cases mem_or_eq_of_mem_set q with
   |inl q=>exact hy.1 q
   |inr q=>exact hz (q▸s9)
def xY:gL:=λ ds M Q=>∃(f c p:Addr) (zs:List Str),ds=[.ref f,.ref p]/\Flow M f c/\p≠f/\M p=some (.lst (zs.map D.str))/\zs.length<=12/\(∀z∈zs,Nm z)/\∀(n:Nat) (g:List aI) (M':Mem),n<=6->cN n g->Lk g->(∀h∈g,Up h.2)->Fl f c M M'->Q (aG g) M'
section
variable {P:Program}{w:World}{K:O8}{mg:Str->Option Value}{base:Heap}
theorem bH:aH ["_law_flow_here","_law_names_here","_law_game_here","_law_options_here","_law_own","_law_k","_law_spare"] ["_law_flow_here","_law_names_here"] (ai (top 49)):=⟨rfl,rfl,rfl,by decide+kernel,rfl,by decide+kernel,by decide+kernel⟩
theorem D_{f:Addr}{fd:FuncData}(F:dU K "_law_other_game" "_law_other_game" (top 49) f fd)(T:gG K mg)(aV:cO P w K mg base 1 "_law_pick" ["_law_flow_here","_law_many"] mD)(xm:cO P w K mg base 6 "_law_game" ["_law_flow_here","_law_most","_law_deep"] Cw):bx P w K mg base eS 7 f fd ["_law_flow_here","_law_names_here"] (cI K xY):=by
 refine kG F bH (λ ds M Q h=>?_) (λ bT A outer s H E ds M Q hr h=>?_)
 ·obtain⟨a,cc,p,zs,rfl,_⟩:=h;rfl
 ·obtain⟨a,cc,p,zs,rfl,hF,xa,iF,S0,Vl,k⟩:=h;refine⟨_,(af (aZ (i:=2) bH.nd rfl (Or.inr rfl) (cY gU (aY xm (hr.mono (by decide)) (by rfl) (aa (ax 0) (aa av (aa av ae)))) cX (cW (aY aV (hr.mono (by decide)) (by rfl) (aa (ax 0) (aa av ae))))))
 (af (cD (i:=3) bH.nd rfl (Or.inl rfl) (tgs:=["_law_heap"]) (fr:=[2]) ⟨bc (by kernel_rfl),rfl,(λ _ _ h=>h),(bg (ax 2)),(aM (λ _ _ _ _ _=>(aL (i:=0) (show(["_law_heap","_law_game_here"]:List Str).Nodup by decide+kernel) rfl (Or.inl rfl))) (by decide)),(λ _ _ _ _ _=>aX),(λ _ _ _ _ _=>(fm cJ cq (by rfl) T.tuple (by decide+kernel) (tgs:=["_law_counts_here"]) (fr:=[1]) ⟨bc (by kernel_rfl),rfl,(λ _ _ h=>h),(bg (bN bA (ax 0) av (λ _ _=>rfl))),(aM (λ _ _ _ _ _=>(aL (i:=0) (show(["_law_counts_here","_law_game_here"]:List Str).Nodup by decide+kernel) rfl (Or.inl rfl))) (by decide)),(λ _ _ _ _ _=>aX),(λ _ _ _ _ _=>(cY gU (ax 0) cX (cW (aK dq (by rfl) T.len (by decide+kernel) (aa (ax 1) ae)))))⟩))⟩)
 (af (aZ (i:=4) bH.nd rfl (Or.inr rfl) (iO (tgs:=["_law_heap"]) (fr:=[]) ⟨bc (by kernel_rfl),rfl,(λ _ _ h=>h),(bg (ax 2)),(aM (λ _ _ _ _ _=>(aL (i:=0) (show(["_law_heap"]:List Str).Nodup by decide+kernel) rfl (Or.inl rfl))) (by decide)),(λ _ _ _ _ _=>aX),(λ _ _ _ _ _=>(bN bA (ax 0) av (λ _ _=>rfl)))⟩))
 (af (dZ C7 rfl (cp rfl T.range (aa (aY aV (hr.mono (by decide)) (by rfl) (aa (ax 0) (aa av ae))) ae)) (cv (i:=5) bH.nd rfl (Or.inl rfl))
 (af (cD (i:=6) bH.nd rfl (Or.inl rfl) (tgs:=["_law_name_here"]) (fr:=[4]) ⟨bc (by kernel_rfl),rfl,(λ _ _ h=>h),(bg (ax 1)),(aM (λ _ _ _ _ _=>(aL (i:=0) (show(["_law_name_here","_law_own"]:List Str).Nodup by decide+kernel) rfl (Or.inl rfl))) (by decide)),(λ _ _ _ _ _=>(qm (br (Ei hr.units) (ax 0) (ax 1) rfl))),(λ _ _ _ _ _=>(ax 0))⟩)
 (ak (bV (mj (br (mV hr.units) (ax 4) (dN ae) (bj _)) (mj (br (mV hr.units) (ax 6) (dN ae) (bj _)) (lI (br (gA hr.units) (aY aV (hr.mono (by decide)) (by rfl) (aa (ax 0) (aa av ae))) av (bj _))))).pt
 (ak (gN (bN bA (ax 6) (aY aV (hr.mono (by decide)) (by rfl) (aa (ax 0) (aa (aK dq (by rfl) T.len (by decide+kernel) (aa (ax 6) ae)) ae))) (λ _ _=>rfl)) (gO (ax 4) (aY aV (hr.mono (by decide)) (by rfl) (aa (ax 0) (aa (aK dq (by rfl) T.len (by decide+kernel) (aa (ax 4) ae)) ae))) kz)))
 bo))))
 (ak (aR (Mn rfl (by rfl) T.tuple (by rfl) T.zip (aa (ax 4) (aa (ax 3) ae))))))))),?_⟩
  walk_at "rx";refine⟨a,cc,6,5,rfl,hF,by omega,by omega,λ n0 g0 M1 BI G0 N0 U0 F1=>?_⟩;have iF:=F1.mv _ _ xa iF;walk_at "rx";refine⟨a,cc,7,rfl,F1.bG,by omega,by omega,λ d o h0 h1 P0=>?_⟩;have F2:Fl a cc M1 _:=Fl.pick P0;have iF:=F2.mv _ _ xa iF;have F3:=F1.trans F2;generalize ay M1 a o=M2 at*;show xt (.tup (g0.map aP)) _ _ _ _;refine fJ h0 ?_;rw[<- map_take];obtain⟨m,em,hm,hm6⟩:∃m:Nat,g0.take d.toNat=g0.take m/\m<=n0/\m<=6:=by refine⟨min d.toNat n0,?_,by omega,by omega⟩;rw[<- G0.len,<- take_take,A8]
  rw[em];have Xm:(g0.take m).length=m:=by rw[B2,G0.len];omega
  have uB:=KS G0 hm;have W_:=KP G0 hm U0;walk_at "rx";refine bE (xs:=g0.take m) (enc:=aP) (λ h=>cA (gI m h.2)) (by omega) (λ j x N hj hN=>?_) ?_
  ·obtain⟨nm,os⟩:=x;unfold aP;walk_at "rx";have AR:os.length<=63:=by
    have:=(uB j (gI m os) (by rw[y1,hj];rfl)).1;unfold gI at this
    rwa [D3]at this
   refine bE (xs:=os) (enc:=row) (λ r=>row (r.take m)) (K5 AR (by decide)) (λ j2 r N2 hj2 BM=>?_) ?_
   ·unfold row at BM ⊢;walk_at "rx";refine fJ (by omega) ?_;rw[y3,D3,Xm,<- map_take];exact BM
   ·have e2:cA (gI m os)=D.tup (os.map λ r=>row (r.take m)):=by unfold cA gI;rw[K4];rfl
    rw[<- e2];exact hN
  ·intro q hq;have F4:=F3.trans (Fl.put (o:=.lst ((g0.take m).map λ h=>cA (gI m h.2))) F3.bG hq);have hqM:M q=none:=by
    cases z:M q with
    |none=>rfl
    |some u=>rw[F3.mv q u (F3.bG.ne hq).1 z]at hq;cases hq
   have Fe:=(F3.bG.ne hq).1;have BH:=bZ iF hq;have iF:ay M2 q (.lst ((g0.take m).map λ h=>cA (gI m h.2))) p=some (.lst (zs.map D.str)):=by rw[aD BH];exact iF
   have vG:ay M2 q (.lst ((g0.take m).map λ h=>cA (gI m h.2))) q=some (.lst (((g0.take m).map λ h=>gI m h.2).map cA)):=by rw[aj,K4];rfl
   generalize ay M2 q (.lst ((g0.take m).map λ h=>cA (gI m h.2)))=M3 at*;walk_at "rx";refine bE (xs:=g0.take m) (enc:=aP) (λ h=>.str h.1) (by omega) (λ j x N hj hN=>?_) ?_
   ·unfold aP;walk_at "rx";exact hN
   ·intro w hw;have F5:=F4.trans (Fl.put (o:=.lst ((g0.take m).map λ h=>D.str h.1)) F4.bG hw);have hwM:M w=none:=by
     cases z:M w with
     |none=>rfl
     |some u=>rw[F4.mv w u (F4.bG.ne hw).1 z]at hw;cases hw
    have Vn:=(F4.bG.ne hw).1;have YV:=bZ iF hw;have YT:=bZ vG hw;have iF:ay M3 w (.lst ((g0.take m).map λ h=>D.str h.1)) p=some (.lst (zs.map D.str)):=by rw[aD YV];exact iF
    have vG:ay M3 w (.lst ((g0.take m).map λ h=>D.str h.1)) q=some (.lst (((g0.take m).map λ h=>gI m h.2).map cA)):=by rw[aD YT];exact vG
    have XC:ay M3 w (.lst ((g0.take m).map λ h=>D.str h.1)) w=some (.lst (((g0.take m).map (·.1)).map D.str)):=by rw[aj,K4];rfl
    generalize ay M3 w (.lst ((g0.take m).map λ h=>D.str h.1))=M4 at*;have YI:((g0.take m).map (·.1)).length=m:=by rw[D3,Xm]
    have hy2:∀y∈(g0.take m).map (·.1),Nm y:=λ y hy=>by obtain⟨h,hh,rfl⟩:=K3.mp hy;exact N0.nm h (m8 hh)
    have hy3:((g0.take m).map (·.1)).Nodup:=by rw[map_take];exact N0.nd.sublist (take_sublist _ _)
    generalize(g0.take m).map (·.1)=ZF at*;have AR:((g0.take m).map λ h=>gI m h.2).length=m:=by rw[D3,Xm]
    generalize(g0.take m).map (λ h=>gI m h.2)=bp at*;walk_at "rx";refine⟨a,cc,3,rfl,F5.bG,by omega,by omega,λ d2 o2 h02 h12 GQ=>?_⟩;have F6:Fl a cc M4 _:=Fl.pick GQ;have iF:=F6.mv _ _ xa iF;have vG:=F6.mv _ _ Fe vG;have XC:=F6.mv _ _ Vn XC;have F7:=F5.trans F6;generalize ay M4 a o2=M5 at*;walk_at "rx";refine⟨eE (by omega) (by omega),?_⟩;refine gq (λ j δ M'=>∃(v5 v6:Option D) (ys:List Str),δ=[some (.ref a),some (.ref p),some (.tup ((g0.take m).map aP)),some (.ref q),some (.ref w),v5,v6]/\M' p=some (.lst (zs.map D.str))/\M' q=some (.lst (bp.map cA))/\M' w=some (.lst (ys.map D.str))/\ys.length=m/\(∀y∈ys,Nm y)/\ys.Nodup/\Fl a cc M M') ⟨none,none,ZF,rfl,iF,vG,XC,YI,hy2,hy3,F7⟩ (λ j d δ M' hd h=>?_) (λ δ M' h=>?_)
    ·obtain⟨v5,v6,ys,rfl,h1,h2,h3,h4,h5,h6,h7⟩:=h;walk_at "rx";have TB:(zs.filter λ z=>decide (z∉ys)).length<=12:=K5 (length_filter_le _ _) S0;refine Bo (xs:=zs) D.str (λ z=>decide (z∉ys)) (λ z=>.str z) (by omega) h1 (λ j x N1 N2 hj k1 k2=>?_) ?_
     ·have hxn:=Vl x (l8 hj);walk_at "rx";refine wq (k:=0) (b:=decide (x∈ys)) (ds:=ys.map D.str) (mG h3) (gn 0 hxn.ok) (λ e he=>?_) (by decide) ?_ ?_
      ·obtain⟨y,hy,rfl⟩:=K3.mp he;exact gn 0 (h5 y hy).ok
      ·rw[y2];exact⟨λ z=>K3.mpr ⟨x,z,rfl⟩,λ z=>by
        obtain⟨y,hy,e⟩:=K3.mp z;cases e;exact hy⟩
      ·refine de (λ fb=>?_) (λ fb=>?_)
       ·have fb:x∉ys:=by simpa using fb
        walk_at "rx";exact k1 (E7 fb)
       ·have fb:x∈ys:=by simpa using fb
        exact k2 (C3 (not_not_intro fb))
     ·intro s hs;have YQ:∀x∈zs.filter λ z=>decide (z∉ys),Nm x/\x∉ys:=λ x hx=>⟨Vl x (mem_filter.mp hx).1,by simpa using(mem_filter.mp hx).2⟩;generalize(zs.filter λ z=>decide (z∉ys))=ss at*;have AQ:=bZ h1 hs;have hsq:=bZ h2 hs;have hsw:=bZ h3 hs;have YR:=(h7.bG.ne hs).1;have F8:=h7.trans (Fl.put (o:=.lst (ss.map λ z=>D.str z)) h7.bG hs);have h1:ay M' s (.lst (ss.map λ z=>D.str z)) p=some (.lst (zs.map D.str)):=by rw[aD AQ];exact h1
      have h2:ay M' s (.lst (ss.map λ z=>D.str z)) q=some (.lst (bp.map cA)):=by rw[aD hsq];exact h2
      have h3:ay M' s (.lst (ss.map λ z=>D.str z)) w=some (.lst (ys.map D.str)):=by rw[aD hsw];exact h3
      have h8:ay M' s (.lst (ss.map λ z=>D.str z)) s=some (.lst (ss.map D.str)):=aj;generalize ay M' s (.lst (ss.map λ z=>D.str z))=M6 at*;walk_at "rx";intro e1 uA;have YL:=bZ h3 uA;refine qI (k:=0) (b:=ys.isEmpty) (by rw[aD YL];exact h3) aj (λ e he=>?_) (λ e z=>by cases z) (by decide) (by rw[isEmpty_iff,map_eq_nil_iff]) ?_
      ·obtain⟨y,hy,rfl⟩:=K3.mp he;exact gn 0 (h5 y hy).ok
      have F9:=F8.trans (Fl.put (o:=.lst []) F8.bG uA);have h1:ay M6 e1 (.lst []) p=some (.lst (zs.map D.str)):=by rw[aD (bZ h1 uA)];exact h1
      have h2:ay M6 e1 (.lst []) q=some (.lst (bp.map cA)):=by rw[aD (bZ h2 uA)];exact h2
      have h3:ay M6 e1 (.lst []) w=some (.lst (ys.map D.str)):=by rw[aD YL];exact h3
      have h8:ay M6 e1 (.lst []) s=some (.lst (ss.map D.str)):=by rw[aD (bZ h8 uA)];exact h8
      generalize ay M6 e1 (.lst [])=M7 at*;refine de (λ fb=>?_) (λ fb=>?_)
      rotate_left
      ·walk_at "rx";exact⟨_,_,ys,rfl,h1,h2,h3,h4,h5,h6,F9⟩
      have YJ:0 < ys.length:=by
       cases ys with
       |nil=>cases fb
       |cons y ys=>exact Nat.succ_pos _
      walk_at "rx";intro e2 vE;refine qI (k:=0) (b:=ss.isEmpty) (by rw[aD (bZ h8 vE)];exact h8) aj (λ e he=>?_) (λ e z=>by cases z) (by decide) (by rw[isEmpty_iff,map_eq_nil_iff]) ?_
      ·obtain⟨y,hy,rfl⟩:=K3.mp he;exact gn 0 (YQ y hy).1.ok
      have FA:=F9.trans (Fl.put (o:=.lst []) F9.bG vE);have h1:ay M7 e2 (.lst []) p=some (.lst (zs.map D.str)):=by rw[aD (bZ h1 vE)];exact h1
      have h2:ay M7 e2 (.lst []) q=some (.lst (bp.map cA)):=by rw[aD (bZ h2 vE)];exact h2
      have h3:ay M7 e2 (.lst []) w=some (.lst (ys.map D.str)):=by rw[aD (bZ h3 vE)];exact h3
      have h8:ay M7 e2 (.lst []) s=some (.lst (ss.map D.str)):=by rw[aD (bZ h8 vE)];exact h8
      generalize ay M7 e2 (.lst [])=M8 at*;refine de (λ Tr=>?_) (λ Tr=>?_)
      rotate_left
      ·walk_at "rx";exact⟨_,_,ys,rfl,h1,h2,h3,h4,h5,h6,FA⟩
      have GF:0 < ss.length:=by
       cases ss with
       |nil=>cases Tr
       |cons y ys=>exact Nat.succ_pos _
      walk_at "rx";refine⟨a,cc,2,rfl,FA.bG,by omega,by omega,λ d3 o3 h03 h13 AX=>?_⟩;have FB:Fl a cc M8 _:=Fl.pick AX;have h1:=FB.mv _ _ xa h1;have h2:=FB.mv _ _ Fe h2;have h3:=FB.mv _ _ Vn h3;have h8:=FB.mv _ _ YR h8;have FC:=FA.trans FB;generalize ay M8 a o3=M9 at*;walk_at "rx";refine de (λ Xr=>?_) (λ Xr=>?_)
      rotate_left
      ·walk_at "rx";exact⟨_,_,ys,rfl,h1,h2,h3,h4,h5,h6,FC⟩
      walk_at "rx";rw[D3];refine⟨a,cc,(ss.length:Int),rfl,FC.bG,by omega,by omega,λ d4 o4 h04 h14 Vz=>?_⟩;have FD:Fl a cc M9 _:=Fl.pick Vz;have h1:=FD.mv _ _ xa h1;have h2:=FD.mv _ _ Fe h2;have h3:=FD.mv _ _ Vn h3;have h8:=FD.mv _ _ YR h8;have FE:=FC.trans FD;generalize ay M9 a o4=MA at*;obtain⟨i4,rfl⟩:∃i:Nat,d4=(i:Int):=⟨d4.toNat,by omega⟩;have hx:=YQ (ss[i4]'(by omega)) (B3 _);have hxe:(ss.map D.str)[i4]?=some (.str (ss[i4]'(by omega))):=by rw[y1,i8 (by omega)];rfl
      generalize ss[i4]'(by omega)=x at*;walk_at "rx";refine du h8 (cC hxe) ?_;walk_at "rx";rw[D3];refine⟨a,cc,(ys.length:Int),rfl,FE.bG,by omega,by omega,λ d5 o5 h05 h15 GP=>?_⟩;have FG:Fl a cc MA _:=Fl.pick GP;have h1:=FG.mv _ _ xa h1;have h2:=FG.mv _ _ Fe h2;have h3:=FG.mv _ _ Vn h3;have FI:=FE.trans FG;generalize ay MA a o5=MB at*;walk_at "rx";refine CW h3 (PB h05 (by rw[D3];exact h15)) ?_;refine⟨_,_,ys.set d5.toNat x,rfl,by rw[aD YV];exact h1,by rw[aD YT];exact h2,by rw[aj,map_set],by rw[E5];exact h4,λ y hy=>?_,Ax h6 hx.2,Fl.own FI hF hwM⟩;cases mem_or_eq_of_mem_set hy with
      |inl q=>exact h5 y q
      |inr q=>exact q▸hx.1
    ·obtain⟨v5,v6,ys,rfl,h1,h2,h3,h4,h5,h6,h7⟩:=h;walk_at "rx";refine⟨_,_,ys.map D.str,bp.map cA,rfl,mG h3,mG h2,by rw[D3];omega,?_⟩;have ez:D.tup (BW (ys.map D.str) (bp.map cA))=aG (ys.zip bp):=by unfold BW aG;rw[zip_map,K4];rfl
     rw[ez];exact ar (k m _ _ hm6 (Ft (by omega) h4 AR uB) (yy (h4.trans AR.symm) h5 h6) (λ h hh=>W_ _ (of_mem_zip (a:=h.1) (b:=h.2) hh).2) h7)
end
def Af(as:Row)(some:List Nat):Row:=some.map λ h=>as.getD h 0
def ly(some:List Nat):D:=.tup (some.map λ(h:Nat)=>D.int (h:Int))
def vZ:gL:=λ ds M Q=>∃(as:Row) (some:List Nat),ds=[row as,ly some]/\(∀h∈some,h < as.length)/\some.length<=1000/\Q (row (Af as some)) M
def yc:gL:=λ ds M Q=>∃(as:Row) (some:List Nat),ds=[row as,ly some]/\(∀h∈some,h < as.length)/\some.length<=1000/\as.length<=1000/\Q (.bl (decide ((Af as some).sum=as.sum))) M
def QQ(hp:aI)(some:List Nat):aI:=(hp.1,hp.2.map λ o=>Af o some)
def xX:gL:=λ ds M Q=>∃(hp:aI) (some:List Nat),ds=[aP hp,ly some]/\(∀o∈hp.2,∀h∈some,h < o.length)/\some.length<=1000/\hp.2.length<=1000/\Q (aP (QQ hp some)) M
section
variable {P:Program}{w:World}{K:O8}{mg:Str->Option Value}{base:Heap}
theorem oz:aH ["counts","some"] ["counts","some"] (ai (top 33)):=⟨rfl,rfl,rfl,by decide+kernel,rfl,by decide+kernel,by decide+kernel⟩
theorem Jq{f:Addr}{fd:FuncData}(F:dU K "picked_sum" "picked_sum" (top 33) f fd)(T:gG K mg):bx P w K mg base eS 1 f fd ["counts","some"] (cI K vZ):=by
 refine kG F oz (λ ds M Q h=>?_) (λ bT A outer s H E ds M Q hr h=>?_)
 ·obtain⟨as,so,rfl,_⟩:=h;rfl
 ·obtain⟨as,so,rfl,hs,hl,k⟩:=h;refine⟨_,(ak (aR (fm cJ cq (by rfl) T.tuple (by decide+kernel) (tgs:=["heap"]) (fr:=[0]) ⟨bc (by kernel_rfl),rfl,(λ _ _ h=>h),(bg (ax 1)),(aM (λ _ _ _ _ _=>(aL (i:=0) (show(["heap","counts"]:List Str).Nodup by decide+kernel) rfl (Or.inl rfl))) (by decide)),(λ _ _ _ _ _=>aX),(λ _ _ _ _ _=>(bN bA (ax 1) (ax 0) (λ _ _=>rfl)))⟩))),?_⟩;unfold row ly;walk_at "rx";refine bE (xs:=so) (enc:=λ(h:Nat)=>D.int (h:Int)) (λ h=>D.int (as.getD h 0)) (by omega) (λ j o N ho hN=>?_) ?_
  ·have hj:=hs o (l8 ho);walk_at "rx";refine jW (d:=D.int (as.getD o 0)) (cC (by rw[y1,i8 hj,c7,i8 hj];rfl)) ?_;exact hN
  ·walk_at "rx";refine ar ?_;have e:row (Af as so)=.tup (so.map λ h=>D.int (as.getD h 0)):=by unfold row Af;rw[K4];rfl
   rw[e]at k;exact k
theorem tf:aH ["counts","some"] ["counts","some"] (ai (top 34)):=⟨rfl,rfl,rfl,by decide+kernel,rfl,by decide+kernel,by decide+kernel⟩
theorem Ed{f:Addr}{fd:FuncData}(F:dU K "is_among" "is_among" (top 34) f fd)(T:gG K mg)(gs:cO P w K mg base 1 "picked_sum" ["counts","some"] vZ):bx P w K mg base eS 2 f fd ["counts","some"] (cI K yc):=by
 refine kG F tf (λ ds M Q h=>?_) (λ bT A outer s H E ds M Q hr h=>?_)
 ·obtain⟨as,so,rfl,_⟩:=h;rfl
 ·obtain⟨as,so,rfl,hs,hl,ha,k⟩:=h;refine⟨_,(ak (aR (gP (gA hr.units) (aK (qc rfl) (by rfl) T.sum (by decide+kernel) (aa (aY gs (hr.mono (by decide)) (by rfl) (aa (ax 0) (aa (ax 1) ae))) ae)) (aK (qc rfl) (by rfl) T.sum (by decide+kernel) (aa (ax 0) ae)) (bj _)))),?_⟩;walk_at "rx";refine⟨as,so,rfl,hs,hl,?_⟩;walk_at "rx";refine lM ?_;walk_at "rx";refine lM ?_;walk_at "rx";exact ar k
theorem mH:aH ["heap","some"] ["heap","some"] (ai (top 35)):=⟨rfl,rfl,rfl,by decide+kernel,rfl,by decide+kernel,by decide+kernel⟩
theorem DZ{f:Addr}{fd:FuncData}(F:dU K "picked_heap" "picked_heap" (top 35) f fd)(T:gG K mg)(gs:cO P w K mg base 1 "picked_sum" ["counts","some"] vZ):bx P w K mg base eS 2 f fd ["heap","some"] (cI K xX):=by
 refine kG F mH (λ ds M Q h=>?_) (λ bT A outer s H E ds M Q hr h=>?_)
 ·obtain⟨hp,so,rfl,_⟩:=h;rfl
 ·obtain⟨⟨nm,os⟩,so,rfl,hs,hl,ho,k⟩:=h;refine⟨_,(ak (aR (cS (aa (bN bA (ax 0) av (λ _ _=>rfl)) (aa (fm cJ cq (by rfl) T.tuple (by decide+kernel) (tgs:=["option"]) (fr:=[1]) ⟨bc (by kernel_rfl),rfl,(λ _ _ h=>h),(bg (bN bA (ax 0) av (λ _ _=>rfl))),(aM (λ _ _ _ _ _=>(aL (i:=0) (show(["option","some"]:List Str).Nodup by decide+kernel) rfl (Or.inl rfl))) (by decide)),(λ _ _ _ _ _=>aX),(λ _ _ _ _ _=>(aY gs (hr.mono (by decide)) (by rfl) (aa (ax 0) (aa (ax 1) ae))))⟩) ae))))),?_⟩;unfold aP;walk_at "rx";refine bE (xs:=os) (enc:=row) (λ o=>row (Af o so)) (K5 ho (by decide)) (λ j o N hj hN=>?_) ?_
  ·walk_at "rx";exact⟨o,so,rfl,hs o (l8 hj),hl,hN⟩
  ·walk_at "rx";refine ar ?_;unfold aP QQ at k;rw[K4]at k;exact k
end
structure Gm(n:Nat)(so:List Nat):Prop where
 lt:∀h∈so,h < n
 up:so.Pairwise (· < ·)
theorem Gm.len {n:Nat}{so:List Nat}(s:Gm n so):so.length<=n:=by
 have h1:so.Nodup:=s.up.imp λ h e=>by omega
 have h2:=List.Nodup.length_le_of_subset h1 (λ x hx=>mem_range.mpr (s.lt x hx));rw[y9]at h2;exact h2
section
variable {P:Program}{w:World}{K:O8}{mg:Str->Option Value}{base:Heap}
theorem zS:aH ["self","heap"] ["self","heap"] (ai (oG 10)):=⟨rfl,rfl,rfl,by decide+kernel,rfl,by decide+kernel,by decide+kernel⟩
theorem Ar{fd:FuncData}(F:dU K "__init__" "NoPick.__init__" (oG 10) 193 fd)(T:gG K mg):bx P w K mg base eS 1 193 fd ["self","heap"] (RE 196 [Str.ofString "heap"]):=by
 refine F.ok zS (λ vs H Q E h=>?_) (λ bT A outer s H vs Q E hr h=>?_)
 ·obtain⟨e,t,us,rfl,hl,_⟩:=h;rw[A5,hl];rfl
 ·obtain⟨e,t,us,rfl,hl,he,k⟩:=h;obtain⟨u,rfl⟩:=Yp hl;refine⟨_,fL (lO (mT (by rfl) T.eZ T.gr (aW (pv 0) (aW (pv 1) cE)))) (jr (yq (pv 0) (pv 1))),?_⟩;refine⟨.ref e,rfl,u,rfl,e,_,_,t,[u],rfl,he,T.eN.ec,by simp,λ t1=>?_⟩;refine⟨u,rfl,.ref e,rfl,e,_,_,t1,rfl,T.eN.ec,T.eN.SK (by simp),.inl ⟨aJ,λ dx hd ne=>?_⟩⟩;have z:=k t1 dx (by rw[aA ne]at hd;exact hd) ne;rw[ig];exact z
theorem Bc(T:gG K mg):zw P w K mg base 1 "NoPick" 196 [Str.ofString "heap"]:=by obtain⟨fd,F⟩:=T.eN.F;exact⟨T.eN.m,_,fd,_,T.eN.ec,Ar F T,F.binds λ _ _ _ _ _ _=>ln2 λ _ _=>rfl⟩
end
def QR(g:List aI)(so:List Nat):List aI:=so.map λ h=>QQ (g.getD h iz) so
theorem yQ{n:Nat}{g:List aI}(G:cN n g){h:Nat}(hh:h < n):(g.map aP)[h]?=some (aP (g.getD h iz)):=by
 have hl:h < g.length:=by rw[G.len];exact hh
 rw[y1,i8 hl,c7,i8 hl];rfl
def Eg(g:List aI)(so:List Nat)(h:Nat):Bool:=(g.getD h iz).2.all λ o=>decide ((Af o so).sum=o.sum)
def sU:sy:=λ ds M Q E=>∃(n:Nat) (g:List aI) (so:List Nat),ds=[aG g,ly so]/\cN n g/\Gm n so/\((∀h∈so,Eg g so h=true)->∀M',Ext M M'->Q (aG (QR g so)) M')/\
 ∀(pre:List Nat) (h:Nat) (post:List Nat),so=pre++h::post->(∀x∈pre,Eg g so x=true)->Eg g so h=false->∀M',Ext M M'->E 196 [(Str.ofString "heap",.int h)] M'
section
variable {P:Program}{w:World}{K:O8}{mg:Str->Option Value}{base:Heap}
theorem pB:aH ["game","some","heap"] ["game","some"] (ai (top 36)):=⟨rfl,rfl,rfl,by decide+kernel,rfl,by decide+kernel,by decide+kernel⟩
theorem An{f:Addr}{fd:FuncData}(F:dU K "picked" "picked" (top 36) f fd)(T:gG K mg)(xq:cO P w K mg base 2 "is_among" ["counts","some"] yc)(oM:cO P w K mg base 2 "picked_heap" ["heap","some"] xX):bx P w K mg base (oj P w) 3 f fd ["game","some"] (iD K sU):=by
 have FJ:=Bc (P:=P) (w:=w) (base:=base) T;refine Ss F pB (λ ds M Q E h=>?_) (λ bT A outer s H E ds M Q E2 hr h kx=>?_)
 ·obtain⟨n,g,so,rfl,_⟩:=h;rfl
 ·obtain⟨n,g,so,rfl,G,S,kq,ke⟩:=h;have GG:bK 2 (A.deeper (PyProof.Rows.envOfC "picked" (ai (top 36)) s.heap.objs.size f bT)):=hr.mono (by decide);refine⟨_,(af (dZ jL rfl (bg (ax 1)) (cv (i:=2) pB.nd rfl (Or.inl rfl))
 (ak (bV (iL (jR (fj (iN (zl rfl) lL (by rfl) T.all (by decide+kernel) (tgs:=["option"]) (fr:=[1]) ⟨bc (by kernel_rfl),rfl,(λ _ _ h=>h),(bg (bN bA (bN bA (ax 0) (ax 2) (λ _ _=>rfl)) av (λ _ _=>rfl))),(aM (λ _ _ _ _ _=>(aL (i:=0) (show(["option","some"]:List Str).Nodup by decide+kernel) rfl (Or.inl rfl))) (by decide)),(λ _ _ _ _ _=>aX),(λ _ _ _ _ _=>(aY xq (hr.mono (by decide)) (by rfl) (aa (ax 0) (aa (ax 1) ae))))⟩))))
 (ak (dY dA kx rfl (by rfl) FJ GG (aa (cw (ax 2)) ae)))
 bo)))
 (ak (aR (cw (fm cJ cq (by rfl) T.tuple (by decide+kernel) (tgs:=["heap"]) (fr:=[1,0]) ⟨bc (by kernel_rfl),rfl,(λ _ _ h=>h),(bg (ax 1)),(aM (λ _ _ _ _ _=>(aL (i:=0) (show(["heap","some","game"]:List Str).Nodup by decide+kernel) rfl (Or.inl rfl))) (by decide)),(λ _ _ _ _ _=>aX),(λ _ _ _ _ _=>(aY oM (hr.mono (by decide)) (by rfl) (aa (bN bA (ax 2) (ax 0) (λ _ _=>rfl)) (aa (ax 1) ae))))⟩))))),?_⟩
  have Vo:=S.len;have hfew:=G.gE;unfold ly;walk_at "rx";refine gq (λ i δ M'=>∃v:Option D,δ=[some (aG g),some (ly so),v]/\Ext M M'/\∀x∈so.take i,Eg g so x=true) ⟨none,rfl,λ b o e=>e,λ x z=>by simp at z⟩ (λ i d δ M' hd h=>?_) (λ δ M' h=>?_)
  ·obtain⟨v,rfl,hE,hp⟩:=h;rw[y1]at hd;cases e:so[i]? with
   |none=>rw[e]at hd;cases hd
   |some h=>
    rw[e]at hd;cases hd;have hh:=S.lt h (l8 e);obtain⟨ho,BG⟩:=G.opts h hh;unfold aG;walk_at "rx";refine jW (d:=aP (g.getD h iz)) (cC (yQ G hh)) ?_;have ek:Eg g so h=(g.getD h iz).2.all λ o=>decide ((Af o so).sum=o.sum):=rfl;generalize g.getD h iz=hp at*;obtain⟨nm,os⟩:=hp;unfold aP;walk_at "rx";have hso:∀o∈os,∀x∈so,x < o.length:=λ o z x y=>by rw[(BG o z).len];exact S.lt x y
    refine bE (xs:=os) (enc:=row) (λ o=>D.bl (decide ((Af o so).sum=o.sum))) (K5 ho (by decide)) (λ j o N hj hN=>?_) ?_
    ·have hm:=l8 hj;walk_at "rx";exact⟨o,so,rfl,hso o hm,by omega,by rw[(BG o hm).len];omega,hN⟩
    ·refine yi ?_;have ek:Eg g so h=os.all λ o=>decide ((Af o so).sum=o.sum):=ek;rw[<- ek];cases hb:Eg g so h with
     |false=>dsimp only;rw[O6 (show(!false)=true from rfl)];refine eB ?_;walk_at "rx";refine⟨rfl,by decide,?_⟩;have hi:=(i5.mp e);refine ke (so.take i) h (so.drop (i+1)) ?_ hp hb M' hE;rw[<- hi.2];exact(take_append_drop i so).symm.trans (by rw[i0 hi.1])
     |true=>
      walk_at "rx";refine⟨some (.int h),rfl,hE,λ x hx=>?_⟩;rw[take_succ,e]at hx;rcases D4.mp hx with z|z
      ·exact hp x z
      ·have:x=h:=by simpa using z
       rw[this];exact hb
  ·obtain⟨v,rfl,hE,hp⟩:=h;rw[D3,A8]at hp;walk_at "rx";unfold ly;walk_at "rx";refine bE (xs:=so) (enc:=λ(h:Nat)=>D.int (h:Int)) (λ h=>aP (QQ (g.getD h iz) so)) (by omega) (λ j h N hj hN=>?_) ?_
   ·have hh:=S.lt h (l8 hj);obtain⟨ho,BG⟩:=G.opts h hh;unfold aG;walk_at "rx";refine jW (d:=aP (g.getD h iz)) (cC (yQ G hh)) ?_;walk_at "rx";exact⟨g.getD h iz,so,rfl,λ o z x y=>by rw[(BG o z).len];exact S.lt x y,by omega,K5 ho (by decide),hN⟩
   ·walk_at "rx";have z:=kq hp _ hE;unfold aG QR at z;rw[K4]at z;exact ar z
end
theorem oE:uc.cps.toList=[97,98,99,100,101,102,103,104,105,106,107,108,109,110,111,112,113,114,115,116,117,118,119,120,121,122]:=by decide+kernel
theorem FX(z:Str):fR z none (some (-1))=⟨z.cps.toList.dropLast.toArray⟩:=by
 unfold fR;have hl:z.cps.toList.length=z.length:=by simp[Str.length]
 have e:HT.bW z.length z.length (some (-1))=z.length - 1:=by show(if(-1:Int) < 0 then((-1:Int)+(z.length:Int)).toNat else min (-1:Int).toNat z.length)=_;rw[O6 (by decide)];omega
 have e0:HT.bW z.length 0 none=0:=rfl;rw[e,e0,drop_zero,Nat.sub_zero,dropLast_eq_take,hl]
theorem FW(z:Str):fR z (some (-1)) none=⟨(z.cps.toList.drop (z.length - 1)).toArray⟩:=by
 unfold fR;have hl:z.cps.toList.length=z.length:=by simp[Str.length]
 have e:HT.bW z.length 0 (some (-1))=z.length - 1:=by show(if(-1:Int) < 0 then((-1:Int)+(z.length:Int)).toNat else min (-1:Int).toNat z.length)=_;rw[O6 (by decide)];omega
 have e0:HT.bW z.length z.length none=z.length:=rfl;rw[e,e0,j5 (by rw[A7];omega)]
theorem Kz(c:Nat):uj ⟨#[c]⟩=decide (c∈(Str.ofString "123456789").cps.toList):=by
 have e:(Str.ofString "123456789").cps.toList=[49,50,51,52,53,54,55,56,57]:=by decide+kernel
 have ef:Qc=[⟨#[49]⟩,⟨#[50]⟩,⟨#[51]⟩,⟨#[52]⟩,⟨#[53]⟩,⟨#[54]⟩,⟨#[55]⟩,⟨#[56]⟩,⟨#[57]⟩]:=by decide+kernel
 unfold uj;rw[e,ef,C0];simp
def GS(g:List aI):List (Str×List D):=g.map λ h=>(h.1,h.2.map row)
theorem TR(g:List aI):Q_ (GS g)=aG g:=by unfold Q_ GS aG;rw[K4];rfl
theorem Ay{z:Str}(h:Nm z):isName z=true:=by
 have wd:∀{w:Str},Wd w->isWord w=true:=λ{w} hw=>by
  unfold isWord;have h1:fq.contains w=false:=by simpa using hw.free
  have h2:(w.cps.toList.map SW).all id=true:=by rw[B9];intro b hb;obtain⟨c,hc,rfl⟩:=K3.mp hb;have:=hw.low c hc;unfold SW;rw[oE];simp only[id_eq,y2,J0,not_mem_nil,or_false];omega
  rw[h1,h2,E7 hw.pos,E7 hw.len];rfl
 rcases h with h|⟨w,c,h,h1,h2,rfl⟩
 ·unfold isName;rw[wd h];rfl
 ·have hl:(w++⟨#[c]⟩:Str).cps.toList=w.cps.toList++[c]:=zf _ _;have e1:fR (w++⟨#[c]⟩) none (some (-1))=w:=by rw[FX,hl,dropLast_concat]
  have e2:fR (w++⟨#[c]⟩) (some (-1)) none=⟨#[c]⟩:=by
   have e:(w++⟨#[c]⟩:Str).length - 1=w.cps.toList.length:=by rw[len_app];show w.length+1 - 1=_;simp[Str.length]
   rw[FW,hl,e,drop_left]
  unfold isName;rw[e1,e2,wd h,Kz];have:c∈(Str.ofString "123456789").cps.toList:=by
   have e:(Str.ofString "123456789").cps.toList=[49,50,51,52,53,54,55,56,57]:=by decide+kernel
   rw[e];simp only[J0,not_mem_nil,or_false];omega
  rw[E7 this];simp
theorem tP{h n:Nat}:∀{os:List Row} {ah:Option Row},(∀r∈os,dC n h r)->Up os->(∀a,ah=some a->∀r∈os,klt (eV a) (eV r)=true)->oC h n ah (os.map row)=none
 |[],_,_,_,_=>rfl
 |r::os,ah,ho,hu,ha=>by
  have hr:=ho r s9;rw[H9,pF,zV,O7 (by rw[EU hr.len hr.pos];decide)];have e1:(r.drop h).any (λ x=>decide (0 < x))=false:=by rw[List.any_eq_false];intro x hx;obtain⟨i,hi⟩:=mem_iff_getElem?.mp hx;rw[getElem?_drop]at hi;have:=hr.low (h+i) (by omega);rw[c7,hi]at this;have e:x=0:=this;simp[e]
  rw[O7 (by rw[e1];decide)];have e2:ah.any (λ a=>!klt (eV a) (eV r))=false:=by
   cases ah with
   |none=>rfl
   |some a=>show(!klt (eV a) (eV r))=false;rw[ha a rfl r s9];rfl
  rw[O7 (by rw[e2];decide)];have hu:=pairwise_cons.mp hu;exact tP (λ q hq=>ho q (l7 _ hq)) hu.2 λ a e q hq=>by cases e;exact hu.1 q hq
set_option tactic.hygienic true in
theorem AY{n:Nat}{g:List aI}(G:cN n g)(NM:Lk g)(U:∀h∈g,Up h.2):iH (GS g).length [] 0 (GS g)=none:=by
 have hl:(GS g).length=n:=by unfold GS;rw[D3];exact G.len
 rw[hl];have go:∀(m:Nat) (i:Nat),m=n - i->iH n ((g.take i).map (·.1)) i (GS (g.drop i))=none:=by
  intro m
  induction m with
  |zero=>intro i hi;rw[drop_eq_nil_of_le (by rw[G.len];omega)];rfl
  |succ m ih=>
   intro i hi;have BK:i < g.length:=by rw[G.len];omega
   rw[i0 BK];show iH n _ i ((g[i].1,g[i].2.map row)::GS (g.drop (i+1)))=none;have hm:g[i]∈g:=B3 BK;have ho:=(G.opts i (by omega)).2;have eg:g.getD i iz=g[i]:=by rw[c7,i8 BK];rfl
   rw[eg]at ho;rw[nI,O7 (by rw[Ay (NM.nm _ hm)];decide),O7 ?_]
   ·dsimp only;rw[tP ho (U _ hm) (λ a e=>by cases e)];have z:=ih (i+1) (by omega);rw[take_succ,i8 BK,D5]at z;exact z
   ·dsimp only;intro q;obtain⟨x,hx,e⟩:=K3.mp q;obtain⟨j,hj⟩:=mem_iff_getElem?.mp hx;rw[getElem?_take]at hj;split at hj
    ·rename_i hji;have nd:=NM.nd;have a1:(g.map (·.1))[j]?=some x.1:=by rw[y1,hj];rfl
     have a2:(g.map (·.1))[i]?=some g[i].1:=by rw[y1,i8 BK];rfl
     have:=(getElem?_inj (by rw[D3];omega) nd).mp (a1.trans ((O3 some e).trans a2.symm));omega
    ·cases hj
 exact go n 0 (by omega)
theorem yt(k:Nat){h:aI}(hn:Nm h.1):Pl (k+3) (aP h):=by
 unfold aP;exact gY λ e he=>by
  rcases J0.mp he with z|z
  ·subst z;exact gn _ hn.ok
  ·have z:=w5.mp z;subst z;exact gY λ e he=>by
    obtain⟨r,_,rfl⟩:=K3.mp he;exact gY λ e he=>by obtain⟨x,_,rfl⟩:=K3.mp he;exact Ou _ _
theorem lQ(k:Nat){g:List aI}(hn:∀h∈g,Nm h.1):Pl (k+4) (aG g):=by
 unfold aG;exact gY λ e he=>by obtain⟨h,hh,rfl⟩:=K3.mp he;exact yt k (hn h hh)
theorem yA:∀(p a b:List Int),HT.lexLt (p++a) (p++b)=HT.lexLt a b
 |[],_,_=>rfl
 |x::p,a,b=>by rw[B8,B8,HT.bB,O6 rfl];exact yA p a b
theorem JV(p q:Row){a b:Row}(h:a.length=b.length):klt (eV ((p++a)++q)) (eV ((p++b)++q))=klt (eV a) (eV b):=by
 unfold klt eV;simp only[D9,D5];rw[m_ _ _ _ (by simp[h]),yA];by_cases e:a.sum=b.sum
 ·rw[O6 (by omega),O6 e]
 ·rw[O7 (by omega),O7 e];exact decide_eq_decide.mpr (by omega)
theorem Ms(p q:Row){n:Nat}{os:List Row}(h:∀r∈os,r.length=n)(hu:Up os):Up (os.map λ o=>(p++o)++q):=by unfold Up;rw[pairwise_map];exact List.Pairwise.imp_of_mem (λ{a b} ha hb Xz=>by rw[JV p q ((h a ha).trans (h b hb).symm)];exact Xz) hu
theorem fz(n:Nat):(bY n).length=n:=l3
theorem jc(n:Nat):(bY n).sum=0:=sR n
theorem md{n:Nat}{x:Int}(h:x∈bY n):x=0:=(mem_replicate.mp h).2
theorem xO(n j:Nat):(bY n).getD j 0=0:=by
 rw[c7];cases e:(bY n)[j]? with
 |none=>rfl
 |some x=>exact md (l8 e)
set_option tactic.hygienic true in
theorem jE{a b:Row}(j:Nat):(a++b).getD j 0=if j < a.length then a.getD j 0 else b.getD (j - a.length) 0:=by
 rw[c7,c7,c7];split
 ·rename_i h;rw[c9 h]
 ·rename_i h;rw[c6 (by omega)]
set_option tactic.hygienic true in
theorem yx{n i:Nat}{o:Row}(a b:Nat)(h:dC n i o):dC (a+n+b) (a+i) ((bY a++o)++bY b):=by
 refine⟨by rw[u4,u4,fz,fz,h.len],λ x hx=>?_,?_,λ j hj=>?_⟩
 ·rcases D4.mp hx with hx|hx
  ·rcases D4.mp hx with hx|hx
   ·rw[md hx];decide
   ·exact h.pos x hx
  ·rw[md hx];decide
 ·rw[D9,D9,jc,jc];have:=h.sum;omega
 ·rw[jE,jE];split
  ·split
   ·exact xO _ _
   ·rename_i _ z;rw[fz]at z ⊢;exact h.low _ (by omega)
  ·exact xO _ _
theorem je(g:List aI)(a b:Row):(vQ g a b).length=g.length:=by unfold vQ;rw[D3]
theorem o_(g:List aI)(a b:Row):(vQ g a b).map (·.1)=g.map (·.1):=by unfold vQ;rw[K4];rfl
theorem Cf{g:List aI}{a b:Row}{i:Nat}(h:i < g.length):(vQ g a b).getD i iz=((g.getD i iz).1,(g.getD i iz).2.map λ o=>(a++o)++b):=by unfold vQ;rw[c7,y1,c7,i8 h];rfl
theorem rj{g1 g2:List aI}{i:Nat}(h:i < g1.length):(jn g1 g2).getD i iz=((g1.getD i iz).1,(g1.getD i iz).2.map λ o=>(bY 0++o)++bY g2.length):=by rw[<- Cf h];unfold jn;rw[c7,c9 (by rw[je];exact h),c7];rfl
theorem nu{g1 g2:List aI}{i:Nat}(h:i < g2.length):(jn g1 g2).getD (g1.length+i) iz=((g2.getD i iz).1,(g2.getD i iz).2.map λ o=>(bY g1.length++o)++bY 0):=by rw[<- Cf h];unfold jn;rw[c7,c6 (by rw[je];omega),je,Nat.add_sub_cancel_left,c7];rfl
theorem Pt(g1 g2:List aI):(jn g1 g2).length=g1.length+g2.length:=by unfold jn;rw[u4,je,je]
theorem yH{n1 n2:Nat}{g1 g2:List aI}(G1:cN n1 g1)(G2:cN n2 g2)(h:n1+n2<=12):cN (n1+n2) (jn g1 g2):=by
 have e1:=G1.len;have e2:=G2.len;refine⟨by rw[Pt,e1,e2],h,λ i hi=>?_⟩;by_cases hl:i < n1
 ·rw[rj (by omega)];have:=G1.opts i hl;refine⟨by rw[D3];exact this.1,λ r hr=>?_⟩;obtain⟨o,ho,rfl⟩:=K3.mp hr;have z:=yx 0 n2 (this.2 o ho);rw[K6,K6]at z;rw[e2];exact z
 ·obtain⟨j,rfl⟩:∃j,i=n1+j:=⟨i - n1,by omega⟩;rw[<- e1,nu (by omega),e1];have:=G2.opts j (by omega);refine⟨by rw[D3];exact this.1,λ r hr=>?_⟩;obtain⟨o,ho,rfl⟩:=K3.mp hr;exact yx n1 0 (this.2 o ho)
theorem cN.rows {n:Nat}{g:List aI}(G:cN n g):∀h∈g,∀r∈h.2,r.length=n:=λ h hh r hr=>by obtain⟨i,hi,e⟩:=l9.mp hh;have:=(G.opts i (by rw[<- G.len];exact hi)).2;rw[c7,i8 hi,B4,e]at this;exact(this r hr).len
theorem Ce{n:Nat}{g:List aI}(G:cN n g)(U:∀h∈g,Up h.2)(a b:Row):∀h∈vQ g a b,Up h.2:=λ h hh=>by obtain⟨x,hx,rfl⟩:=K3.mp hh;exact Ms a b (G.rows x hx) (U x hx)
theorem SU{n1 n2:Nat}{g1 g2:List aI}(G1:cN n1 g1)(G2:cN n2 g2)(U1:∀h∈g1,Up h.2)(U2:∀h∈g2,Up h.2):∀h∈jn g1 g2,Up h.2:=λ h hh=>by
 rcases D4.mp hh with hh|hh
 ·exact Ce G1 U1 _ _ h hh
 ·exact Ce G2 U2 _ _ h hh
theorem Pr{g1 g2:List aI}(N1:Lk g1)(N2:Lk g2)(h:∀x∈g2,x.1∉g1.map (·.1)):Lk (jn g1 g2):=by
 have e:(jn g1 g2).map (·.1)=g1.map (·.1)++g2.map (·.1):=by unfold jn;rw[D5,o_,o_]
 refine⟨λ x hx=>?_,?_⟩
 ·have:x.1∈(jn g1 g2).map (·.1):=List.mem_map_of_mem hx;rw[e]at this;rcases D4.mp this with z|z
  ·obtain⟨y,hy,ey⟩:=K3.mp z;rw[<- ey];exact N1.nm y hy
  ·obtain⟨y,hy,ey⟩:=K3.mp z;rw[<- ey];exact N2.nm y hy
 ·rw[e];refine nodup_append.mpr ⟨N1.nd,N2.nd,λ a ha b hb z=>?_⟩;obtain⟨y,hy,ey⟩:=K3.mp hb;exact h y hy (by rw[ey,<- z];exact ha)
theorem wC{a b n:Nat}{o:Row}(h:o.length=n):Af ((bY a++o)++bY b) ((List.range n).map λ i=>a+i)=o:=by unfold Af;rw[K4];refine ext_getElem (by rw[D3,y9,h]) λ i h1 h2=>?_;rw[getElem_map,getElem_range];show((bY a++o)++bY b).getD (a+i) 0=_;rw[jE,O6 (by rw[u4,fz];omega),jE,O7 (by rw[fz];omega),fz,Nat.add_sub_cancel_left,c7,i8 h2];rfl
theorem xQ(a b:Nat)(o:Row):((bY a++o)++bY b).sum=o.sum:=by rw[D9,D9,jc,jc];omega
theorem yu{a b n:Nat}{h:aI}(hr:∀r∈h.2,r.length=n):QQ (h.1,h.2.map λ o=>(bY a++o)++bY b) ((List.range n).map λ i=>a+i)=h:=by obtain⟨z,os⟩:=h;unfold QQ;rw[K4];have:os.map ((λ o=>Af o ((List.range n).map λ i=>a+i))∘λ o=>(bY a++o)++bY b)=os.map id:=r9 λ o ho=>wC (hr o ho);show(z,os.map _)=_;rw[this,List.map_id]
theorem Ds(n:Nat):(List.range n).map (λ i=>0+i)=List.range n:=by simp
theorem DI{n1 n2:Nat}{g1 g2:List aI}(G1:cN n1 g1)(G2:cN n2 g2):QR (jn g1 g2) (List.range n1)=g1:=by
 unfold QR;refine ext_getElem (by rw[D3,y9,G1.len]) λ i h1 h2=>?_;rw[getElem_map,getElem_range,rj h2];have e:g1.getD i iz=g1[i]:=by rw[c7,i8 h2];rfl
 rw[e,<- Ds];exact yu (G1.rows _ (B3 h2))
theorem Ag{n1 n2:Nat}{g1 g2:List aI}(G1:cN n1 g1)(G2:cN n2 g2):QR (jn g1 g2) ((List.range n2).map λ i=>n1+i)=g2:=by
 unfold QR;refine ext_getElem (by rw[D3,D3,y9,G2.len]) λ i h1 h2=>?_;rw[getElem_map,getElem_map,getElem_range];have e:g2.getD i iz=g2[i]:=by rw[c7,i8 h2];rfl
 have z:=nu (g1:=g1) h2;rw[G1.len]at z;rw[z,e];exact yu (G2.rows _ (B3 h2))
theorem Ef{n1 n2:Nat}{g1 g2:List aI}(G1:cN n1 g1)(G2:cN n2 g2):∀h∈List.range n1,Eg (jn g1 g2) (List.range n1) h=true:=λ h hh=>by
 have hl:h < g1.length:=by rw[G1.len];exact mem_range.mp hh
 unfold Eg;rw[rj hl,B9];intro r hr;obtain⟨o,ho,rfl⟩:=K3.mp hr;have e:g1.getD h iz=g1[h]:=by rw[c7,i8 hl];rfl
 rw[e]at ho;have z:=wC (a:=0) (b:=g2.length) (G1.rows _ (B3 hl) o ho);rw[Ds]at z;rw[z,xQ];exact E7 rfl
theorem Au{n1 n2:Nat}{g1 g2:List aI}(G1:cN n1 g1)(G2:cN n2 g2):∀h∈(List.range n2).map λ i=>n1+i,Eg (jn g1 g2) ((List.range n2).map λ i=>n1+i) h=true:=λ h hh=>by
 obtain⟨i,hi,rfl⟩:=K3.mp hh;have hl:i < g2.length:=by rw[G2.len];exact mem_range.mp hi
 unfold Eg;have z:=nu (g1:=g1) hl;rw[G1.len]at z;rw[z,B9];intro r hr;obtain⟨o,ho,rfl⟩:=K3.mp hr;have e:g2.getD i iz=g2[i]:=by rw[c7,i8 hl];rfl
 rw[e]at ho;rw[wC (a:=n1) (b:=0) (G2.rows _ (B3 hl) o ho),xQ];exact E7 rfl
theorem zO(n1 n2:Nat):Gm (n1+n2) (List.range n1):=⟨λ h hh=>by have:=mem_range.mp hh;omega,pairwise_lt_range⟩
theorem v_(n1 n2:Nat):Gm (n1+n2) ((List.range n2).map λ i=>n1+i):=⟨λ h hh=>by
 obtain⟨i,hi,rfl⟩:=K3.mp hh;have:=mem_range.mp hi;omega,by
 rw[pairwise_map];exact pairwise_lt_range.imp λ h=>by omega⟩
theorem Lm{n:Nat}{g:List aI}(G:cN n g){h:aI}(hh:h∈g):h.2.length<=63/\∀r∈h.2,r.length=n:=by
 refine⟨?_,G.rows h hh⟩;obtain⟨i,hi,e⟩:=l9.mp hh;have:=(G.opts i (by rw[<- G.len];exact hi)).1
 rwa [c7,i8 hi,B4,e]at this
theorem CA{n:Nat}{g:List aI}(G:cN n g)(N:Lk g):Md g:=by have:=G.gE;exact⟨by rw[G.len];exact G.gE,λ h hh=>⟨by have:=(Lm G hh).1;omega,λ o ho=>by rw[(Lm G hh).2 o ho];omega⟩,λ h hh=>(N.nm h hh).ok⟩
theorem Hr(M:Mem){n:Nat}{g:List aI}(G:cN n g):vq M 5 (aG g) (aG g):=by
 have hfew:=G.gE;have hlen:=G.len;unfold aG;refine jl (by rw[D3];omega) λ d hd=>?_;obtain⟨hp,hm,rfl⟩:=K3.mp hd;obtain⟨ho,hr⟩:=Lm G hm;obtain⟨nm,os⟩:=hp;unfold aP;refine jl (by show 2<=10000;decide) λ d hd=>?_;rcases J0.mp hd with z|z
 ·subst z;exact .inl ⟨rfl,True.intro⟩
 ·have z:=w5.mp z;subst z;refine jl (by rw[D3];exact K5 ho (by decide)) λ d hd=>?_;obtain⟨r,ja,rfl⟩:=K3.mp hd;exact CF _ _ (by rw[hr r ja];omega)
theorem ui(g1 g2:List aI):(nk g1 g2=aG (jn g1 g2)/\∀x∈g2,x.1∉g1.map (·.1))\/∃h∈g2,nk g1 g2=.tup [.str (Str.ofString "twice"),.str h.1]:=by
 unfold nk;cases e:g2.filter λ h=>decide (h.1∈g1.map (·.1))with
 |nil=>exact .inl ⟨rfl,λ x hx=>by simpa using filter_eq_nil_iff.mp e x hx⟩
 |cons h t=>
  have:h∈g2.filter λ h=>decide (h.1∈g1.map (·.1)):=by rw[e];exact s9
  exact .inr ⟨h,(mem_filter.mp this).1,rfl⟩
theorem AJ(M:Mem){n1 n2:Nat}{g1 g2:List aI}(G1:cN n1 g1)(G2:cN n2 g2)(h:n1+n2<=12):vq M 5 (nk g1 g2) (nk g1 g2):=by
 rcases ui g1 g2 with⟨e,_⟩|⟨x,_,e⟩
 ·rw[e];exact Hr M (yH G1 G2 h)
 ·rw[e];refine jl (by show 2<=10000;decide) λ d hd=>?_;rcases J0.mp hd with z|z
  ·subst z;exact .inl ⟨rfl,True.intro⟩
  ·rw[w5.mp z];exact .inl ⟨rfl,True.intro⟩
theorem JM{n:Nat}{g:List aI}(G:cN n g)(NM:Lk g)(U:∀h∈g,Up h.2)(M:Mem)(Q:bF)(k:∀M',Ext M M'->Q (.bl true) M'):qw [aG g] M Q X0:=by have hf:=G.gE;have hl:=G.len;refine⟨GS g,by rw[TR],λ x hx=>?_,by unfold GS;rw[D3];omega,λ _ M' hE=>k M' hE,λ w h e=>by rw[AY G NM U]at e;cases e⟩;obtain⟨h,hh,rfl⟩:=K3.mp hx;obtain⟨ho,hr⟩:=Lm G hh;have:=(NM.nm h hh).len;refine⟨by show h.1.length<=1000;omega,by show(h.2.map row).length<=1000;rw[D3];omega,λ o hq=>?_⟩;obtain⟨r,hm,rfl⟩:=K3.mp hq;refine⟨True.intro,λ es z=>?_⟩;have z:D.tup (r.map D.int)=.tup es:=z;cases z;refine⟨by rw[D3,hr r hm];omega,λ e q=>?_⟩;obtain⟨x,_,rfl⟩:=K3.mp q;exact True.intro
theorem Hu(n1 n2:Nat):D.tup ((cM 0 (n1+n2)).take n1)=ly (List.range n1):=by unfold ly cM;rw[<- map_take,take_range,Nat.min_eq_left (by omega)];exact O3 D.tup (r9 λ i _=>by rw[K0])
theorem Hv(n1 n2:Nat):D.tup ((cM 0 (n1+n2)).drop n1)=ly ((List.range n2).map λ i=>n1+i):=by unfold ly cM;rw[<- map_drop,K4];refine O3 D.tup (ext_getElem (by simp) λ i h1 h2=>?_);simp
section
variable {P:Program}{w:World}{K:O8}{mg:Str->Option Value}{base:Heap}
theorem gS:aH ["_law_script","_law_flow_here","_law_one","_law_other","_law_both","_law_heaps","_law_first","_law_second"] ["_law_script"] (ai (top 52)):=⟨rfl,rfl,rfl,by decide+kernel,rfl,by decide+kernel,by decide+kernel⟩
theorem OR{f:Addr}{fd:FuncData}(F:dU K "law" "law" (top 52) f fd)(T:gG K mg)(xo:cO P w K mg base 1 "_law_flow" ["_law_script"] Cy)(fQ:cO P w K mg base 7 "_law_other_game" ["_law_flow_here","_law_names_here"] xY)(hW:cO P w K mg base 6 "_law_alike" ["_law_found","_law_due_here"] (Cz 5))(kX:cO P w K mg base 4 "_law_asked" ["_law_one","_law_other"] qx)(Bi:cO P w K mg base 1 "_law_due" ["_law_one","_law_other"] qx)(uQ:h_ P w K mg base 4 "look_game" ["game"] qw)(uO:h_ P w K mg base 3 "picked" ["game","some"] sU):bx P w K mg base eS 8 f fd ["_law_script"] (cI K sW):=by
 refine kG F gS (λ ds M Q h=>?_) (λ bT A outer s H E ds M Q hr h=>?_)
 ·obtain⟨a,rfl,_⟩:=h;rfl
 ·obtain⟨ns,rfl,k⟩:=h;refine⟨_,(af (aZ (i:=1) gS.nd rfl (Or.inl rfl) (aY xo (hr.mono (by decide)) (by rfl) (aa (ax 0) ae)))
 (af (aZ (i:=2) gS.nd rfl (Or.inl rfl) (aY fQ (hr.mono (by decide)) (by rfl) (aa (ax 1) (aa (dN ae) ae))))
 (af (aZ (i:=3) gS.nd rfl (Or.inl rfl) (aY fQ (hr.mono (by decide)) (by rfl) (aa (ax 1) (aa (iO (tgs:=["_law_heap"]) (fr:=[]) ⟨bc (by kernel_rfl),rfl,(λ _ _ h=>h),(bg (ax 2)),(aM (λ _ _ _ _ _=>(aL (i:=0) (show(["_law_heap"]:List Str).Nodup by decide+kernel) rfl (Or.inl rfl))) (by decide)),(λ _ _ _ _ _=>aX),(λ _ _ _ _ _=>(bN bA (ax 0) av (λ _ _=>rfl)))⟩) ae))))
 (af (dZ C7 rfl (bg (dN (aa (cS (aa (ax 2) (aa (ax 3) ae))) (aa (cS (aa (ax 3) (aa (ax 2) ae))) (aa (cS (aa (ax 2) (aa (ax 3) ae))) ae))))) (vR (n:=2) rfl (fA (cv (i:=6) gS.nd rfl (Or.inl rfl)) (fA (cv (i:=7) gS.nd rfl (Or.inl rfl)) qo)))
 (ak (bV (jR (fj (aY hW (hr.mono (by decide)) (by rfl) (aa (aY kX (hr.mono (by decide)) (by rfl) (aa (ax 6) (aa (ax 7) ae))) (aa (aY Bi (hr.mono (by decide)) (by rfl) (aa (ax 6) (aa (ax 7) ae))) ae)))))
 (ak (aR oo))
 bo)))
 (af (aZ (i:=4) gS.nd rfl (Or.inl rfl) (aY kX (hr.mono (by decide)) (by rfl) (aa (ax 2) (aa (ax 3) ae))))
 (af (bV (br (gA hr.units) (cY gU (ax 4) cX (cW av)) (cS (aa eX ae)) (bj _))
 (ak (aR oo))
 bo)
 (af (aZ (i:=5) gS.nd rfl (Or.inl rfl) (Mo rfl (by rfl) T.tuple (by rfl) T.range (aa (aK dq (by rfl) T.len (by decide+kernel) (aa (ax 4) ae)) ae)))
 (af (bV (sI (br OY (qr uQ (hr.mono (by decide)) (by rfl) (aa (ax 4) ae)) oo (bj _)) (mi (br (mV hr.units) (qr uO (hr.mono (by decide)) (by rfl) (aa (ax 4) (aa (cY gU (ax 5) cX (cW (aK dq (by rfl) T.len (by decide+kernel) (aa (ax 2) ae)))) ae))) (ax 2) (bj _)))).pt
 (ak (aR oo))
 bo)
 (ak (aR (gP (gA hr.units) (qr uO (hr.mono (by decide)) (by rfl) (aa (ax 4) (aa (cY gU (ax 5) (cW (aK dq (by rfl) T.len (by decide+kernel) (aa (ax 2) ae))) cX) ae))) (ax 3) (bj _)))))))))))),?_⟩
  walk_at "rx";refine⟨ns,rfl,λ a cc M0 Zf=>?_⟩;walk_at "rx";intro p0 iz;have F1:=Fl.put (o:=.lst []) Zf iz;walk_at "rx";refine⟨a,cc,p0,[],rfl,F1.bG,(Zf.ne iz).1,aj,by decide,(λ z hz=>by cases hz),λ n1 g1 M1 Q5 G1 N1 U1 F2=>?_⟩;have GQ:=F2.bG;have GK:aG g1=.tup (g1.map aP):=rfl;have l1:=G1.len;walk_at "rx";rw[GK];walk_at "rx";refine bE (xs:=g1) (enc:=aP) (λ h=>.str h.1) (by omega) (λ j x N hj hN=>?_) ?_
  ·unfold aP;walk_at "rx";exact hN
  ·intro p2 ix;have F3:=Fl.put (o:=.lst (g1.map λ h=>D.str h.1)) GQ ix;walk_at "rx";refine⟨a,cc,p2,g1.map (·.1),rfl,F3.bG,(GQ.ne ix).1,by rw[aj,K4];rfl,by rw[D3];omega,λ z hz=>?_,λ n2 g2 M2 Y0 G2 N2 U2 F4=>?_⟩
   ·obtain⟨h,hh,rfl⟩:=K3.mp hz;exact N1.nm h hh
   have Vz:=F4.bG;rw[<- GK];walk_at "rx";intro q hq;have vG:ay M2 q (.lst [.tup [aG g1,aG g2],.tup [aG g2,aG g1],.tup [aG g1,aG g2]]) q=_:=aj;generalize ay M2 q (.lst [.tup [aG g1,aG g2],.tup [aG g2,aG g1],.tup [aG g1,aG g2]])=M3 at*;have S1:=CA G1 N1;have S2:=CA G2 N2;have l2:=G2.len;walk_at "rx";refine LS (a:=q) (ds:=[.tup [aG g1,aG g2],.tup [aG g2,aG g1],.tup [aG g1,aG g2]]) (λ i δ M'=>∃(v0 v4 v5 v6 v7:Option D),δ=[v0,some (.ref a),some (aG g1),some (aG g2),v4,v5,v6,v7]/\M' q=some (.lst [.tup [aG g1,aG g2],.tup [aG g2,aG g1],.tup [aG g1,aG g2]])) ⟨_,_,_,_,_,rfl,vG⟩ (λ i δ M' _ h=>?_) (λ i d δ M' hd h=>?_) (λ δ M' h=>?_)
   ·obtain⟨v0,v4,v5,v6,v7,rfl,h⟩:=h;exact h
   ·obtain⟨v0,v4,v5,v6,v7,rfl,h1⟩:=h;obtain⟨n3,n4,g3,g4,G3,G4,S3,S4,h34,rfl⟩:∃(n3 n4:Nat) (g3 g4:List aI),cN n3 g3/\cN n4 g4/\Md g3/\Md g4/\n3+n4<=12/\d=.tup [aG g3,aG g4]:=by
     match i,hd with
     |0,hd=>cases hd;exact⟨n1,n2,g1,g2,G1,G2,S1,S2,by omega,rfl⟩
     |1,hd=>cases hd;exact⟨n2,n1,g2,g1,G2,G1,S2,S1,by omega,rfl⟩
     |2,hd=>cases hd;exact⟨n1,n2,g1,g2,G1,G2,S1,S2,by omega,rfl⟩
    walk_at "rx";refine⟨g3,g4,rfl,S3,S4,λ M5 Zh=>?_⟩;walk_at "rx";refine⟨g3,g4,rfl,S3,S4,λ M6 Zg=>?_⟩;walk_at "rx";refine⟨_,_,rfl,AJ _ G3 G4 h34,?_⟩;walk_at "rx";exact⟨_,_,_,_,_,rfl,Zg _ _ (Zh _ _ h1)⟩
   ·obtain⟨v0,v4,v5,v6,v7,rfl,h1⟩:=h;walk_at "rx";refine⟨g1,g2,rfl,S1,S2,λ M5 Zh=>?_⟩;rcases ui g1 g2 with⟨e,Xj⟩|⟨x,hx,e⟩
    ·have GJ:=yH G1 G2 (by omega);have NJ:=Pr N1 N2 Xj;have UJ:=SU G1 G2 U1 U2;rw[e];have hjd:aG (jn g1 g2)=.tup ((jn g1 g2).map aP):=rfl;walk_at "rx";rw[hjd];refine fJ (by decide) ?_;walk_at "rx";refine qM (k:=4) (b:=false) (gY λ e he=>?_) (gY λ e he=>?_) (by decide) ⟨λ z=>(by cases z),λ z=>?_⟩ ?_
     ·obtain⟨h,hh,rfl⟩:=K3.mp (m8 he);exact yt 0 (NJ.nm h hh)
     ·rw[w5.mp he];exact gn 3 (by decide+kernel)
     ·have z:=D.tup.inj z;have:D.str (Str.ofString "twice")∈List.take (Int.toNat 1) (List.map aP (jn g1 g2)):=by rw[z];exact s9
      obtain⟨h,hh,e⟩:=K3.mp (m8 this);cases e
     walk_at "rx";refine⟨n1+n2,by rw[D3,GJ.len],by omega,?_⟩;walk_at "rx";refine JM GJ NJ UJ _ _ λ M6 Zg=>?_;walk_at "rx";refine gm (λ z=>absurd rfl z) (λ _=>?_);walk_at "rx";refine yh ?_;walk_at "rx";refine fJ (by omega) ?_;rw[y3,l1,Hu];walk_at "rx";refine⟨n1+n2,jn g1 g2,List.range n1,rfl,GJ,zO n1 n2,λ _ M7 hE7=>?_,λ pre h post e _ hb=>?_⟩
     rotate_left
     ·rw[Ef G1 G2 h (by rw[e];simp)]at hb;cases hb
     rw[DI G1 G2];walk_at "rx";refine HM (k:=4) (b:=true) (lQ 0 N1.nm) (lQ 0 N1.nm) (by decide) (by simp) ?_;walk_at "rx";refine yh ?_;walk_at "rx";refine mL (by omega) ?_;rw[y3,l1,Hv];walk_at "rx";refine⟨n1+n2,jn g1 g2,_,rfl,GJ,v_ n1 n2,λ _ M8 hE8=>?_,λ pre h post e _ hb=>?_⟩
     rotate_left
     ·rw[Au G1 G2 h (by rw[e];simp)]at hb;cases hb
     rw[Ag G1 G2];walk_at "rx";refine qM (k:=4) (b:=true) (lQ 0 N2.nm) (lQ 0 N2.nm) (by decide) (by simp) ?_;walk_at "rx";exact ar (k _)
    ·rw[e];walk_at "rx";refine fJ (by decide) ?_;walk_at "rx";refine qM (k:=1) (b:=true) (gY λ e he=>?_) (gY λ e he=>?_) (by decide) (by simp) ?_
     ·rw[w5.mp he];exact gn 0 (by decide+kernel)
     ·rw[w5.mp he];exact gn 0 (by decide+kernel)
     walk_at "rx";exact ar (k _)
end
theorem ET(K:O8):gF K "bool":=⟨by kernel_rfl,by kernel_rfl,by kernel_rfl,by kernel_rfl,by kernel_rfl,by kernel_rfl⟩
theorem Ka(K:O8):gF K "int":=⟨by kernel_rfl,by kernel_rfl,by kernel_rfl,by kernel_rfl,by kernel_rfl,by kernel_rfl⟩
theorem ER(K:O8):gF K "list":=⟨by kernel_rfl,by kernel_rfl,by kernel_rfl,by kernel_rfl,by kernel_rfl,by kernel_rfl⟩
theorem J'(K:O8):gF K "str":=⟨by kernel_rfl,by kernel_rfl,by kernel_rfl,by kernel_rfl,by kernel_rfl,by kernel_rfl⟩
theorem AL(K:O8):gF K "tuple":=⟨by kernel_rfl,by kernel_rfl,by kernel_rfl,by kernel_rfl,by kernel_rfl,by kernel_rfl⟩
theorem Pe{K:O8}{H:Hp}{a:Addr}{ns:List Int}(hO:Lj H)(hS:dF K H a (ns.map V.int)):cI K sW [.ref a] H (λ v _=>v=.bl true) λ _ _ _=>False:=by
 have Kp:Me K H a (ns.map V.int):=by
  rcases hS with(h|⟨o,h⟩)|h
  ·rcases hO a with z|⟨o,xs,z⟩
   ·rw[z]at h;cases h
   ·rw[z]at h;cases h
  ·exact .inl ⟨o,h⟩
  ·exact .inr h
 refine⟨[.fl (ns.map D.int)],λ _=>none,λ d _=>d=.bl true,aE.one (iT.mpr ⟨a,_,rfl,Kp,kg ns⟩),λ a o e=>(by cases e),⟨ns,rfl,λ _=>rfl⟩,λ v H' d M' hd hm t e=>?_⟩;subst e;exact aN.mp hd
theorem JN{A:Type}{P:List A->Prop}{n:Nat}(h:∀a t,t.length=n->P (a::t)):∀us:List A,us.length=n+1->P us
 |[],e=>nomatch e
 |a::t,e=>h a t (Nat.succ.inj e)
theorem j'{A:Type}{P:List A->Prop}(h:∀a,P [a]):∀us:List A,us.length=1->P us:=JN λ a t e=>by rw[eq_nil_of_length_eq_zero e];exact h a
theorem jz{A:Type}{P:List A->Prop}(h:∀a b,P [a,b]):∀us:List A,us.length=2->P us:=JN λ a=>j' (P:=λ t=>P (a::t)) (h a)
theorem Ey{A:Type}{P:List A->Prop}(h:∀a b c,P [a,b,c]):∀us:List A,us.length=3->P us:=JN λ a=>jz (P:=λ t=>P (a::t)) (h a)
theorem WM{A:Type}{P:List A->Prop}(h:∀a b c d,P [a,b,c,d]):∀us:List A,us.length=4->P us:=JN λ a=>Ey (P:=λ t=>P (a::t)) (h a)
structure cP(K:O8)(mg:Str->Option Value)(x:Str)(i:Nat)(f:Addr)(d:FuncData):Prop where
 m:mg x=some (.ref f)
 F:dU K x x (top i) f d
theorem all_mk{l:PySem.W.OpenLaw}{w:World}{K:O8}{mg:Str->Option Value}{f0 f1 f2 f3 f4 f5 f6 f7 f8 f9 f10 f11 f12 f13 f14 f15 f16 f17 f18 f19 f20 f21 f22 f23 f24 f25 f26 f27 f28 f29 Zk:Addr}{d0 d1 d2 d3 d4 d5 d6 d7 d8 d9 d10 d11 d12 d13 d14 d15 d16 d17 d18 d19 VD X8 d22 d23 Zr d25 d26 d27 d28 d29:FuncData}{kV dc pm cd ct:Value}{an:Option Addr}
  (T:gG K mg)
  (t0:cP K mg "nothing" 13 f0 d0)
  (t1:cP K mg "order_key" 14 f1 d1)
  (t2:cP K mg "widened" 16 f2 d2)
  (t3:cP K mg "joined" 17 f3 d3)
  (t4:cP K mg "is_word" 23 f4 d4)
  (t5:cP K mg "is_figure" 24 f5 d5)
  (t6:cP K mg "is_name" 25 f6 d6)
  (t7:cP K mg "is_whole" 27 f7 d7)
  (t8:cP K mg "is_sum" 28 f8 d8)
  (t9:cP K mg "look_name" 29 f9 d9)
  (U_:cP K mg "look_options" 30 f10 d10)
  (U9:cP K mg "look_game" 31 f11 d11)
  (U8:cP K mg "picked_sum" 33 f12 d12)
  (U7:cP K mg "is_among" 34 f13 d13)
  (U6:cP K mg "picked_heap" 35 f14 d14)
  (U5:cP K mg "picked" 36 f15 d15)
  (U4:cP K mg "_law_pick" 38 f16 d16)
  (U3:cP K mg "_law_name" 39 f17 d17)
  (UZ:cP K mg "_law_names" 40 f18 d18)
  (UY:cP K mg "_law_lengths" 41 f19 d19)
  (UX:cP K mg "_law_counts" 42 f20 VD)
  (UW:cP K mg "_law_key" 43 f21 X8)
  (UU:cP K mg "_law_in_order" 44 f22 d22)
  (UT:cP K mg "_law_options" 45 f23 d23)
  (US:cP K mg "_law_game" 46 f24 Zr)
  (UR:cP K mg "_law_flow" 47 f25 d25)
  (Ry:cP K mg "_law_alike" 48 f26 d26)
  (UQ:cP K mg "_law_other_game" 49 f27 d27)
  (UP:cP K mg "_law_due" 50 f28 d28)
  (UO:cP K mg "_law_asked" 51 f29 d29)
  (ZU:cP K mg "law" 52 Zk (PySem.W.fnOf "law" "law" (dS (top 52)) (ck (top 52)) (ai (top 52)) .none kV dc pm an cd ct)):
  ∃fd:FuncData,(∀(s:Shared) (v:Value),BindsTo s fd ⟨[v],[]⟩ [("_law_script",v)])/\∀base:Heap,K.In base->base.Ns mainGlobals mg->bx l.prog w K mg base eS 8 Zk fd ["_law_script"] (cI K sW):=by
 refine⟨PySem.W.fnOf "law" "law" (dS (top 52)) (ck (top 52)) (ai (top 52)) .none kV dc pm an cd ct,λ s v=>.of_eq rfl,λ base _ _=>?_⟩;have b0:=t0.F.binds (ps:=["game"]) λ _ _ _ _ _ _=>j' λ _=>rfl;have b1:=t1.F.binds (ps:=["counts"]) λ _ _ _ _ _ _=>j' λ _=>rfl;have b2:=t2.F.binds (ps:=["game","ahead","behind"]) λ _ _ _ _ _ _=>Ey λ _ _ _=>rfl;have b3:=t3.F.binds (ps:=["one","other"]) λ _ _ _ _ _ _=>jz λ _ _=>rfl;have b4:=t4.F.binds (ps:=["text"]) λ _ _ _ _ _ _=>j' λ _=>rfl;have b5:=t5.F.binds (ps:=["text"]) λ _ _ _ _ _ _=>j' λ _=>rfl;have b6:=t6.F.binds (ps:=["text"]) λ _ _ _ _ _ _=>j' λ _=>rfl;have b7:=t7.F.binds (ps:=["value"]) λ _ _ _ _ _ _=>j' λ _=>rfl;have b8:=t8.F.binds (ps:=["value","size"]) λ _ _ _ _ _ _=>jz λ _ _=>rfl;have b9:=t9.F.binds (ps:=["name","h","earlier"]) λ _ _ _ _ _ _=>Ey λ _ _ _=>rfl;have b10:=U_.F.binds (ps:=["options","h","size"]) λ _ _ _ _ _ _=>Ey λ _ _ _=>rfl;have b11:=U9.F.binds (ps:=["game"]) λ _ _ _ _ _ _=>j' λ _=>rfl;have b12:=U8.F.binds (ps:=["counts","some"]) λ _ _ _ _ _ _=>jz λ _ _=>rfl;have b13:=U7.F.binds (ps:=["counts","some"]) λ _ _ _ _ _ _=>jz λ _ _=>rfl;have b14:=U6.F.binds (ps:=["heap","some"]) λ _ _ _ _ _ _=>jz λ _ _=>rfl;have b15:=U5.F.binds (ps:=["game","some"]) λ _ _ _ _ _ _=>jz λ _ _=>rfl;have b16:=U4.F.binds (ps:=["_law_flow_here","_law_many"]) λ _ _ _ _ _ _=>jz λ _ _=>rfl;have b17:=U3.F.binds (ps:=["_law_flow_here"]) λ _ _ _ _ _ _=>j' λ _=>rfl;have b18:=UZ.F.binds (ps:=["_law_flow_here","_law_many"]) λ _ _ _ _ _ _=>jz λ _ _=>rfl;have b19:=UY.F.binds (ps:=["_law_options_here"]) λ _ _ _ _ _ _=>j' λ _=>rfl;have b20:=UX.F.binds (ps:=["_law_heaps","_law_many"]) λ _ _ _ _ _ _=>jz λ _ _=>rfl;have b21:=UW.F.binds (ps:=["_law_counts_here"]) λ _ _ _ _ _ _=>j' λ _=>rfl;have b22:=UU.F.binds (ps:=["_law_sums"]) λ _ _ _ _ _ _=>j' λ _=>rfl;have b23:=UT.F.binds (ps:=["_law_flow_here","_law_ahead","_law_many","_law_deep"]) λ _ _ _ _ _ _=>WM λ _ _ _ _=>rfl;have b24:=US.F.binds (ps:=["_law_flow_here","_law_most","_law_deep"]) λ _ _ _ _ _ _=>Ey λ _ _ _=>rfl;have b25:=UR.F.binds (ps:=["_law_script"]) λ _ _ _ _ _ _=>j' λ _=>rfl;have Zv:=Ry.F.binds (ps:=["_law_found","_law_due_here"]) λ _ _ _ _ _ _=>jz λ _ _=>rfl;have b27:=UQ.F.binds (ps:=["_law_flow_here","_law_names_here"]) λ _ _ _ _ _ _=>jz λ _ _=>rfl;have b28:=UP.F.binds (ps:=["_law_one","_law_other"]) λ _ _ _ _ _ _=>jz λ _ _=>rfl;have b29:=UO.F.binds (ps:=["_law_one","_law_other"]) λ _ _ _ _ _ _=>jz λ _ _=>rfl;have ic:=bO.of U4.F (Jr U4.F T (P:=l.prog) (w:=w) (base:=base)) U4.m b16;have zF:=bO.of UR.F (Jx UR.F T (P:=l.prog) (w:=w) (base:=base)) UR.m b25;have zC:=bO.of U3.F (Ju U3.F T ic (P:=l.prog) (w:=w) (base:=base)) U3.m b17;have B':=bO.of UW.F (OS UW.F T (P:=l.prog) (w:=w) (base:=base)) UW.m b21;have vM:=bO.of UU.F (Ea UU.F T B' (P:=l.prog) (w:=w) (base:=base)) UU.m b22;have sH:=bO.of UX.F (Aq UX.F T (P:=l.prog) (w:=w) (base:=base)) UX.m b20;have vL:=bO.of UZ.F (D' UZ.F T zC (P:=l.prog) (w:=w) (base:=base)) UZ.m b18;have Ca:=bO.of Ry.F (OT Ry.F T Ry.m Zv (P:=l.prog) (w:=w) (base:=base) 5) Ry.m Zv;have zD:=bO.of UY.F (Jv UY.F T (P:=l.prog) (w:=w) (base:=base)) UY.m b19;have zA:=bO.of UT.F (Js UT.F T ic zD sH vM (P:=l.prog) (w:=w) (base:=base)) UT.m b23;have zE:=bO.of US.F (Jw US.F T ic vL zA (P:=l.prog) (w:=w) (base:=base)) US.m b24;have qk:=bO.of t4.F (wI t4.F T (P:=l.prog) (w:=w) (base:=base)) t4.m b4;have mh:=bO.of t5.F (qY t5.F T (P:=l.prog) (w:=w) (base:=base)) t5.m b5;have ql:=bO.of t6.F (wJ t6.F T qk mh (P:=l.prog) (w:=w) (base:=base)) t6.m b6;have om:=bO.of t7.F (tQ t7.F T (P:=l.prog) (w:=w) (base:=base)) t7.m b7;have sG:=bO.of t8.F (Ap t8.F T om (P:=l.prog) (w:=w) (base:=base)) t8.m b8;have zB:=bO.of t1.F (Jt t1.F T (P:=l.prog) (w:=w) (base:=base)) t1.m b1;have me:=h_.of t9.F (qW t9.F T ql (P:=l.prog) (w:=w) (base:=base)) t9.m b9;have jd:=h_.of U_.F (lx U_.F T sG zB (P:=l.prog) (w:=w) (base:=base)) U_.m b10;have mf:=h_.of U9.F (qX U9.F T me jd (P:=l.prog) (w:=w) (base:=base)) U9.m b11;have B_:=bO.of t0.F (OQ t0.F T (P:=l.prog) (w:=w) (base:=base)) t0.m b0;have BZ:=bO.of t2.F (OP t2.F T (P:=l.prog) (w:=w) (base:=base)) t2.m b2;have sF:=h_.of t3.F (Ao t3.F T BZ B_ (P:=l.prog) (w:=w) (base:=base)) t3.m b3;have vN:=bO.of UP.F (Eb UP.F T (P:=l.prog) (w:=w) (base:=base)) UP.m b28;have vO:=bO.of UO.F (Ec UO.F T sF (P:=l.prog) (w:=w) (base:=base)) UO.m b29;have vK:=bO.of UQ.F (D_ UQ.F T ic zE (P:=l.prog) (w:=w) (base:=base)) UQ.m b27;have oZ:=bO.of U8.F (Jq U8.F T (P:=l.prog) (w:=w) (base:=base)) U8.m b12;have vP:=bO.of U7.F (Ed U7.F T oZ (P:=l.prog) (w:=w) (base:=base)) U7.m b13;have vJ:=bO.of U6.F (DZ U6.F T oZ (P:=l.prog) (w:=w) (base:=base)) U6.m b14;have sE:=h_.of U5.F (An U5.F T vP vJ (P:=l.prog) (w:=w) (base:=base)) U5.m b15;exact OR ZU.F T zF vK Ca vO vN mf sE
theorem walk{l:PySem.W.OpenLaw}{q:Program}{loose:List Str}{XP:(Str->Option Value)->Heap->Prop}{YP:World->Heap->Prop}{d:DefRec}{K:Params->O8}(hn:l.most=some 63)(Fm:d.params.defaults=[])
  (hY:∀(w:World) (h:Heap),YP w h->(K w.params).In h)
  (F:∀(w:World) (mg:Str->Option Value) (fa:Addr) (h:Heap),(K w.params).In h->h.Ns mainGlobals mg->mg d.name=some (.ref fa)->
   ∃fd:FuncData,(∀(s:Shared) (u:Value),BindsTo s fd ⟨[u],[]⟩ [("_law_script",u)])/\∀base:Heap,(K w.params).In base->base.Ns mainGlobals mg->bx l.prog w (K w.params) mg base eS 8 fa fd ["_law_script"] (cI (K w.params) sW)):
  PySem.W.WalkO q loose XP YP l.row.toRowW d [] (λ f vs=>PySem.call f vs):=
 L2.G' (n:=63) (k:=8) (x:="_law_script") (CX:=λ _=>eS) (sp:=λ w=>cI (K w.params) sW) hn (by decide) Fm ⟨rfl,by decide,by decide⟩ hY F (λ _ _ a ns hl hO hS=>Pe hO hS) λ _ _ _ _ _ z=>z
end KK
open PySem PySem.W PyProof.Rows
def PySem.W.Fast.tw17314850896529301172:Program:=PySem.Challenge.pw_lastloser_k44_games_put_together
theorem PySem.W.Fast.te17314850896529301172 : PySem.Challenge.pw_lastloser_k44_games_put_together = PySem.W.Fast.tw17314850896529301172 := rfl
def PySem.W.Fast.tw2765352273106695361:Nat:=0
def PySem.W.Fast.tw10255974909061214210:Nat:=0
def PySem.W.Fast.tw7451045129028175170:Nat:=0
def PySem.W.Fast.tw5950009327821585346:Nat:=0
def PySem.W.Fast.tw7702419994423256105:Nat:=0
def PySem.W.Fast.tw2035885645244354282:Nat:=0
def PySem.W.Fast.tw17389258389358423757:Nat:=0
def PySem.W.Fast.tw16379626550717474894:Nat:=0
def PySem.W.Fast.tw9830972787581528302:Nat:=0
def PySem.W.Fast.tw16903777205083614484:Nat:=0
def PySem.W.Fast.tw2782947838631305620:Nat:=0
def PySem.W.Fast.tw11849638441166490260:Nat:=0
def PySem.W.Fast.tw1174578431718132761:Nat:=0
def PySem.W.Fast.tw8997848432012601625:Nat:=0
def PySem.W.Fast.tw12047753507359966362:Nat:=0
def PySem.W.Fast.tw14628638289105787486:Nat:=0
def PySem.W.Fast.tw340943301801174815:Nat:=0
namespace KK
open L2
noncomputable def kE (P:Params)(x:Str)(t:Nat)(v:Value):DictEntry:={hash:=PyData.keyHash P x,key:=.str x t,val:=v}
noncomputable def kO (x:Str)(t l n r s u:Nat)(v w:Value):Obj:={cls:=.type "code",data:=.fields #[.str x t,.str x (t+1),.str "/claim/cut.py" (t+2),.int l 0,.int n 0,.int 0 0,.int 0 0,.int 3 0,.ref r,.bool true,.int 181 0,.ref (r+1),.none,v,w,.ref s,.int u 0,.int l 0,.str "/claim/cut.py" (u+1)]}
noncomputable def kF (x:Str)(i:Nat)(m:Str×Nat)(c:Nat):Obj:={cls:=.type "function",data:=.func (PySem.W.fnOf x x (dS (top i)) (ck (top i)) (ai (top i)) .none .none .none (.str m.1 m.2) none (.ref c) .none)}
noncomputable def GC (q:Str)(c t l n u:Nat):Obj:={cls:=.type "code",data:=.fields #[.str "__init__" t,.str q (t+1),.str "/claim/cut.py" (t+2),.int l 0,.int n 0,.int 0 0,.int 0 0,.int 3 0,.ref (c - 5),.bool true,.int 181 0,.ref (c - 4),.none,.ref (c - 3),.ref (c - 2),.ref (c - 1),.int u 0,.int l 0,.str "/claim/cut.py" (u+1)]}
noncomputable def EG (q:Str)(i:Nat)(m:Str×Nat)(c:Nat):Obj:={cls:=.type "function",data:=.func (PySem.W.fnOf "__init__" q (dS (oG i)) (ck (oG i)) (ai (oG i)) .none .none .none (.str m.1 m.2) none (.ref c) .none)}
abbrev kC(x:Str)(a:Nat)(bs bm sub:List Value)(s t u:Nat):Obj:=excClassObj x x a (a - 1) bs bm true [] sub false none none (some (.ref s)) none (some (.str x t)) (some (.str x u)) (some (.bool true)) "ValueError.__new__"
noncomputable def kP (x:Str)(a i:Nat)(m:Str×Nat)(t l n u q:Nat):List (Nat×Obj):=[(a,if q=0 then kO x t l n (a - 3) (a - 1) u .none .none else kO x t l n (a - 5) (a - 1) u (.ref (a - 3)) (.ref (a - 2))),(a+1,kF x i m a)]
noncomputable def m6:Str×Nat:=("lastloser.errors",187)
noncomputable def m0:Str×Nat:=("lastloser.games",531)
noncomputable def m1:Str×Nat:=("lastloser.joining",472)
noncomputable def m2:Str×Nat:=("lastloser.picking",571)
noncomputable def m3:Str×Nat:=("lastloser.sums",457)
noncomputable def m4:Str×Nat:=("lastloser.words",486)
noncomputable def m5:Str×Nat:=("law_lastloser_k44_games_put_together",599)
noncomputable def kD (P:Params):Obj:={cls:=.type "dict",data:=.dict #[kE P "__name__" 165 (.str "law_lastloser_k44_games_put_together" 599),kE P "__doc__" 166 .none,kE P "__package__" 167 .none,kE P "__loader__" 168 (.builtin "__main__.__loader__#opaque"),kE P "__spec__" 169 .none,kE P "__annotations__" 170 (.ref 6),kE P "__builtins__" 171 (.ref 4),kE P "__file__" 173 (.str "/claim/cut.py" 172),kE P "__cached__" 174 .none,kE P "HeapError" 206 (.ref 24),kE P "NoText" 231 (.ref 44),kE P "Twice" 256 (.ref 63),kE P "NoName" 281 (.ref 82),kE P "TooMany" 304 (.ref 101),kE P "NoGame" 331 (.ref 120),kE P "NoTable" 358 (.ref 139),kE P "Wrong" 383 (.ref 158),kE P "NoPaper" 408 (.ref 177),kE P "NoPick" 433 (.ref 196),kE P "NoRow" 456 (.ref 215),kE P "nothing" 465 (.ref 224),kE P "order_key" 471 (.ref 229),kE P "widened" 479 (.ref 234),kE P "joined" 485 (.ref 239),kE P "LETTERS" 489 (.str "abcdefghijklmnopqrstuvwxyz" 488),kE P "FIGURES" 499 (.ref 240),kE P "TAKEN" 508 (.ref 241),kE P "LONGEST_WORD" 510 (.int 5 509),kE P "is_word" 516 (.ref 246),kE P "is_figure" 523 (.ref 253),kE P "is_name" 530 (.ref 260),kE P "is_whole" 539 (.ref 267),kE P "is_sum" 545 (.ref 272),kE P "look_name" 554 (.ref 279),kE P "look_options" 560 (.ref 284),kE P "look_game" 570 (.ref 291),kE P "picked_sum" 578 (.ref 296),kE P "is_among" 586 (.ref 303),kE P "picked_heap" 592 (.ref 308),kE P "picked" 598 (.ref 313),kE P "_law_pick" 610 (.ref 320),kE P "_law_name" 616 (.ref 325),kE P "_law_names" 628 (.ref 332),kE P "_law_lengths" 634 (.ref 337),kE P "_law_counts" 640 (.ref 342),kE P "_law_key" 646 (.ref 347),kE P "_law_in_order" 652 (.ref 352),kE P "_law_options" 658 (.ref 357),kE P "_law_game" 664 (.ref 362),kE P "_law_flow" 671 (.ref 369),kE P "_law_alike" 677 (.ref 374),kE P "_law_other_game" 683 (.ref 379),kE P "_law_due" 689 (.ref 384),kE P "_law_asked" 700 (.ref 391),kE P "law" 706 (.ref 396)] 55}
noncomputable def n24 (P:Params):Obj:={cls:=.type "dict",data:=.dict #[kE P "__module__" 196 (.str "lastloser.errors" 187),kE P "__firstlineno__" 200 (.int 2 199),kE P "__static_attributes__" 201 (.ref 22),kE P "__weakref__" 203 (.ref 25),kE P "__doc__" 204 .none] 3}
noncomputable def n44 (P:Params):Obj:={cls:=.type "dict",data:=.dict #[kE P "__module__" 214 (.str "lastloser.errors" 187),kE P "__firstlineno__" 218 (.int 4 217),kE P "__init__" 226 (.ref 41),kE P "__static_attributes__" 228 (.ref 42),kE P "__doc__" 229 .none] 2}
noncomputable def n63 (P:Params):Obj:={cls:=.type "dict",data:=.dict #[kE P "__module__" 239 (.str "lastloser.errors" 187),kE P "__firstlineno__" 243 (.int 9 242),kE P "__init__" 251 (.ref 60),kE P "__static_attributes__" 253 (.ref 61),kE P "__doc__" 254 .none] 2}
noncomputable def n82 (P:Params):Obj:={cls:=.type "dict",data:=.dict #[kE P "__module__" 264 (.str "lastloser.errors" 187),kE P "__firstlineno__" 268 (.int 14 267),kE P "__init__" 276 (.ref 79),kE P "__static_attributes__" 278 (.ref 80),kE P "__doc__" 279 .none] 2}
noncomputable def WC (P:Params):Obj:={cls:=.type "dict",data:=.dict #[kE P "__module__" 289 (.str "lastloser.errors" 187),kE P "__firstlineno__" 293 (.int 19 292),kE P "__init__" 300 (.ref 98),kE P "__static_attributes__" 301 (.ref 99),kE P "__doc__" 302 .none] 2}
noncomputable def WB (P:Params):Obj:={cls:=.type "dict",data:=.dict #[kE P "__module__" 312 (.str "lastloser.errors" 187),kE P "__firstlineno__" 316 (.int 23 315),kE P "__init__" 325 (.ref 117),kE P "__static_attributes__" 328 (.ref 118),kE P "__doc__" 329 .none] 2}
noncomputable def Wz (P:Params):Obj:={cls:=.type "dict",data:=.dict #[kE P "__module__" 339 (.str "lastloser.errors" 187),kE P "__firstlineno__" 343 (.int 29 342),kE P "__init__" 352 (.ref 136),kE P "__static_attributes__" 355 (.ref 137),kE P "__doc__" 356 .none] 2}
noncomputable def Wy (P:Params):Obj:={cls:=.type "dict",data:=.dict #[kE P "__module__" 366 (.str "lastloser.errors" 187),kE P "__firstlineno__" 370 (.int 35 369),kE P "__init__" 378 (.ref 155),kE P "__static_attributes__" 380 (.ref 156),kE P "__doc__" 381 .none] 2}
noncomputable def Wx (P:Params):Obj:={cls:=.type "dict",data:=.dict #[kE P "__module__" 391 (.str "lastloser.errors" 187),kE P "__firstlineno__" 395 (.int 40 394),kE P "__init__" 403 (.ref 174),kE P "__static_attributes__" 405 (.ref 175),kE P "__doc__" 406 .none] 2}
noncomputable def Ww (P:Params):Obj:={cls:=.type "dict",data:=.dict #[kE P "__module__" 416 (.str "lastloser.errors" 187),kE P "__firstlineno__" 420 (.int 45 419),kE P "__init__" 428 (.ref 193),kE P "__static_attributes__" 430 (.ref 194),kE P "__doc__" 431 .none] 2}
noncomputable def Wv (P:Params):Obj:={cls:=.type "dict",data:=.dict #[kE P "__module__" 441 (.str "lastloser.errors" 187),kE P "__firstlineno__" 445 (.int 50 444),kE P "__init__" 452 (.ref 212),kE P "__static_attributes__" 453 (.ref 213),kE P "__doc__" 454 .none] 2}
noncomputable def kT (vs:List Value)(n:Nat):Obj:={cls:=.type "tuple",data:=.seq vs.toArray n}
noncomputable def kK (P:Params):O8:=(3,kD P)::[(2,{cls:=.none,data:=.dict #[]}),(23,n24 P),(24,kC "HeapError" 24 [.type "ValueError"] [.type "ValueError",.type "Exception",.type "BaseException",.type "object"] [.ref 44,.ref 63,.ref 82,.ref 101,.ref 120,.ref 139,.ref 158,.ref 177,.ref 196,.ref 215] 15 189 197),(43,n44 P),(44,kC "NoText" 44 [.ref 24] [.ref 24,.type "ValueError",.type "Exception",.type "BaseException",.type "object"] [] 28 207 215),(40,GC "NoText.__init__" 40 219 6 2 224),(41,EG "NoText.__init__" 2 m6 40),(62,n63 P),(63,kC "Twice" 63 [.ref 24] [.ref 24,.type "ValueError",.type "Exception",.type "BaseException",.type "object"] [] 47 232 240),(59,GC "Twice.__init__" 59 244 11 2 249),(60,EG "Twice.__init__" 3 m6 59),(81,n82 P),(82,kC "NoName" 82 [.ref 24] [.ref 24,.type "ValueError",.type "Exception",.type "BaseException",.type "object"] [] 66 257 265),(78,GC "NoName.__init__" 78 269 16 2 274),(79,EG "NoName.__init__" 4 m6 78),(100,WC P),(101,kC "TooMany" 101 [.ref 24] [.ref 24,.type "ValueError",.type "Exception",.type "BaseException",.type "object"] [] 85 282 290),(97,GC "TooMany.__init__" 97 294 21 1 298),(98,EG "TooMany.__init__" 5 m6 97),(119,WB P),(120,kC "NoGame" 120 [.ref 24] [.ref 24,.type "ValueError",.type "Exception",.type "BaseException",.type "object"] [] 104 305 313),(116,GC "NoGame.__init__" 116 317 25 3 323),(117,EG "NoGame.__init__" 6 m6 116),(138,Wz P),(139,kC "NoTable" 139 [.ref 24] [.ref 24,.type "ValueError",.type "Exception",.type "BaseException",.type "object"] [] 123 332 340),(135,GC "NoTable.__init__" 135 344 31 3 350),(136,EG "NoTable.__init__" 7 m6 135),(157,Wy P),(158,kC "Wrong" 158 [.ref 24] [.ref 24,.type "ValueError",.type "Exception",.type "BaseException",.type "object"] [] 142 359 367),(154,GC "Wrong.__init__" 154 371 37 2 376),(155,EG "Wrong.__init__" 8 m6 154),(176,Wx P),(177,kC "NoPaper" 177 [.ref 24] [.ref 24,.type "ValueError",.type "Exception",.type "BaseException",.type "object"] [] 161 384 392),(173,GC "NoPaper.__init__" 173 396 42 2 401),(174,EG "NoPaper.__init__" 9 m6 173),(195,Ww P),(196,kC "NoPick" 196 [.ref 24] [.ref 24,.type "ValueError",.type "Exception",.type "BaseException",.type "object"] [] 180 409 417),(192,GC "NoPick.__init__" 192 421 47 2 426),(193,EG "NoPick.__init__" 10 m6 192),(214,Wv P),(215,kC "NoRow" 215 [.ref 24] [.ref 24,.type "ValueError",.type "Exception",.type "BaseException",.type "object"] [] 199 434 442),(211,GC "NoRow.__init__" 211 446 52 1 450),(212,EG "NoRow.__init__" 11 m6 211),(240,kT [.str "1" 490,.str "2" 491,.str "3" 492,.str "4" 493,.str "5" 494,.str "6" 495,.str "7" 496,.str "8" 497,.str "9" 498] 0),(241,kT [.str "row" 500,.str "to" 501,.str "take" 502,.str "none" 503,.str "one" 504,.str "two" 505,.str "as" 506,.str "heap" 507] 0)]++[kP "nothing" 223 13 m3 459 55 1 463 1,kP "order_key" 228 14 m3 466 57 1 469 0,kP "widened" 233 16 m1 474 60 3 477 0,kP "joined" 238 17 m1 480 65 2 483 0,kP "is_word" 245 23 m4 511 76 1 514 0,kP "is_figure" 252 24 m4 517 80 1 521 1,kP "is_name" 259 25 m4 524 82 1 528 1,kP "is_whole" 266 27 m0 533 85 1 537 1,kP "is_sum" 271 28 m0 540 87 2 543 0,kP "look_name" 278 29 m0 546 91 3 552 1,kP "look_options" 283 30 m0 555 96 3 558 0,kP "look_game" 290 31 m0 561 106 1 568 1,kP "picked_sum" 295 33 m2 573 114 2 576 0,kP "is_among" 302 34 m2 579 116 2 584 1,kP "picked_heap" 307 35 m2 587 118 2 590 0,kP "picked" 312 36 m2 593 120 2 596 0,kP "_law_pick" 319 38 m5 601 126 2 608 1,kP "_law_name" 324 39 m5 611 141 1 614 0,kP "_law_names" 331 40 m5 617 150 2 626 1,kP "_law_lengths" 336 41 m5 629 160 1 632 0,kP "_law_counts" 341 42 m5 635 166 2 638 0,kP "_law_key" 346 43 m5 641 168 1 644 0,kP "_law_in_order" 351 44 m5 647 170 1 650 0,kP "_law_options" 356 45 m5 653 172 4 656 0,kP "_law_game" 361 46 m5 659 189 3 662 0,kP "_law_flow" 368 47 m5 665 196 1 669 1,kP "_law_alike" 373 48 m5 672 198 2 675 0,kP "_law_other_game" 378 49 m5 678 210 2 681 0,kP "_law_due" 383 50 m5 684 219 2 687 0,kP "_law_asked" 390 51 m5 690 227 2 698 1,kP "law" 395 52 m5 701 239 1 704 0].flatten
noncomputable def kA:List Addr:=[3,2,23,24,43,44,40,41,62,63,59,60,81,82,78,79,100,101,97,98,119,120,116,117,138,139,135,136,157,158,154,155,176,177,173,174,195,196,192,193,214,215,211,212,240,241,223,224,228,229,233,234,238,239,245,246,252,253,259,260,266,267,271,272,278,279,283,284,290,291,295,296,302,303,307,308,312,313,319,320,324,325,331,332,336,337,341,342,346,347,351,352,356,357,361,362,368,369,373,374,378,379,383,384,390,391,395,396]
theorem tF{K:O8}{h:Heap}{mg:Str->Option Value}{x:Str}{i:Nat}(X:K.In h)(G:h.Ns mainGlobals mg)(m:Str×Nat)(c:Nat)(a:PySem.W.nsIn K mainGlobals x=some (some (.ref (c+1))):=by kernel_rfl)(l:K.lookup (c+1)=some (kF x i m c):=by kernel_rfl)(e:PySem.W.codeIn K (.ref c) x=true:=by kernel_rfl):cP K mg x i (c+1) (PySem.W.fnOf x x (dS (top i)) (ck (top i)) (ai (top i)) .none .none .none (.str m.1 m.2) none (.ref c) .none):=
 ⟨J8 X G a,Fv (st:=top i) l e (by unfold PySem.W.keepIn;dsimp only;rw[l];rfl)⟩
theorem kn{K:O8}{h:Heap}{mg:Str->Option Value}{x:Str}(X:K.In h)(G:h.Ns mainGlobals mg)(e:PySem.W.nsIn K mainGlobals x=some none:=by kernel_rfl):mg x=none:=PySem.W.mg_none_of X G e
theorem cB{K:O8}(x:Str)(a:Nat)(bs bm sub:List Value)(s t u:Nat)(l:K.lookup a=some (kC x a bs bm sub s t u):=by kernel_rfl)(e:bm.contains (.type "BaseException")=true:=by kernel_rfl):lH K a:=⟨⟨_,_,_,_,_,_,_,_,_,_,_,_,_,_,_,_,_,l,e⟩⟩
theorem cF{K:O8}{h:Heap}{mg:Str->Option Value}{q:Str}{ps ns:List Str}(X:K.In h)(G:h.Ns mainGlobals mg)(m:Str×Nat)(i:Nat)(x:Str)(a:Nat)(bs bm sub:List Value)(s t u:Nat)(e1:PySem.W.nsIn K mainGlobals x=some (some (.ref a)):=by kernel_rfl)(l:K.lookup a=some (kC x a bs bm sub s t u):=by kernel_rfl)(l2:K.lookup (a - 3)=some (EG q i m (a - 4)):=by kernel_rfl)(e2:PySem.W.codeIn K (.ref (a - 4)) q=true:=by kernel_rfl)(e3:PySem.W.tailIn K X' bm=true:=by kernel_rfl)(e4:PySem.W.nsOkIn K (a - 1)=true:=by kernel_rfl)(e5:PySem.W.nsIn K (a - 1) "__init__"=some (some (.ref (a - 3))):=by kernel_rfl)(e6:PySem.W.isFn K (.ref (a - 3))=true:=by kernel_rfl)(e7:PySem.W.keepIn K (.ref a)=true:=by kernel_rfl)(e8:PySem.W.findIn K (.ref a) "__setattr__"=some (some (.builtin "object.__setattr__")):=by kernel_rfl) (f1:PySem.W.findIn K (.ref a) "__getattribute__"=some (some (.builtin "BaseException.__getattribute__")):=by kernel_rfl) (f2:PySem.W.findIn K (.ref a) "__getattr__"=some none:=by kernel_rfl) (f3:PySem.W.mroIn K a (.type "BaseException")=some true:=by kernel_rfl) (f4:PySem.W.mroIn K a (.type "object")=some true:=by kernel_rfl) (f5:(PySem.W.clsIn K a).any (·.hasDict)=true:=by kernel_rfl) (f6:PySem.W.findIn K (.ref a) "__class__"=some (some (.builtin "object.__class__")):=by kernel_rfl) (f7:PySem.W.specialIn K (.builtin "object.__class__") "__get__"=some (some (.builtin "getset_descriptor.__get__")):=by kernel_rfl) (f8:PySem.W.takesIn K (.builtin "object.__class__")=some true:=by kernel_rfl) (e10:(ns.all λ f=>L4.PC (PySem.W.findIn K (.ref a) f))=true:=by kernel_rfl) (e11:bm.contains (.type "BaseException")=true:=by kernel_rfl):L4.i' K mg x q (oG i) a (a - 3) ps ns:=
 ⟨J8 X G e1,⟨_,Fv (st:=oG i) l2 e2 (by unfold PySem.W.keepIn;dsimp only;rw[l2];rfl)⟩,⟨⟨_,_,_,_,_,_,_,_,_,_,_,_,_,_,_,l,e3,e4,e5⟩,e6,e7,e8⟩,⟨f1,f2,f3,f4,f5,f6,f7,f8⟩,⟨⟨_,_,_,_,_,_,_,_,_,_,_,_,_,_,_,_,_,l,e11⟩⟩,e10⟩
theorem gT{K:O8}{h:Heap}{mg:Str->Option Value}{zs:List Str}(X:K.In h)(G:h.Ns mainGlobals mg)(x:Str)(a:Nat)(vs:List Value)(n:Nat)(e:PySem.W.nsIn K mainGlobals x=some (some (.ref a)):=by kernel_rfl)(l:K.lookup a=some (kT vs n):=by kernel_rfl)(v:L3.gf vs=some zs:=by kernel_rfl)(z:vs.length<=sizeLine:=by decide):L3.k_ K mg x (.tup (zs.map L3.D.str)):=
 L3.Fs (J8 X G e) l (by simpa using v) (by simpa using z)
def pg:Program:={PySem.Challenge.pw_lastloser_k44_games_put_together with main:={PySem.Challenge.pw_lastloser_k44_games_put_together.main with body:=[top 0,top 1,top 2,top 3,top 4,top 5,top 6,top 7,top 8,top 9,top 10,top 11,top 12,top 13,top 14,top 15,top 16,top 17,top 18,top 19,top 20,top 21,top 22,top 23,top 24,top 25,top 26,top 27,top 28,top 29,top 30,top 31,top 32,top 33,top 34,top 35,top 36,top 37,top 38,top 39,top 40,top 41,top 42,top 43,top 44,top 45,top 46,top 47,top 48,top 49,top 50,top 51,top 52]}}
def lw:PySem.W.OpenLaw:={PySem.Challenge.rw_lastloser_k44_games_put_together with prog:=pg}
end KK
set_option maxRecDepth 100000 in
set_option maxHeartbeats 0 in
theorem KK.pre:KK.lw.Holds:=by
 w_on;o_law;o_head (PySem.W.kHook KK.kK KK.kA (λ _=>by kernel_rfl));(case hw=>w_witness2)
 refine KK.walk (l:=KK.lw) rfl rfl (λ w h Y=>PySem.W.kIn_of Y) ?F
 case F=>
  intro w mg fa h KX G Tf;have hm:mg "law"=some (.ref fa):=Tf;have e:=hm.symm.trans (J8 KX G (v:=.ref (395+1)) (by kernel_rfl));cases e;exact KK.all_mk ⟨KK.kn KX G,KK.kn KX G,KK.kn KX G,KK.kn KX G,KK.kn KX G,KK.kn KX G,KK.kn KX G,KK.kn KX G,KK.kn KX G,KK.kn KX G,KK.kn KX G,KK.kn KX G,KK.kn KX G,KK.kn KX G,KK.kn KX G,KK.kn KX G,KK.kn KX G,KK.kn KX G,KK.ET _,KK.Ka _,KK.ER _,KK.J' _,KK.AL _,⟨_,.str _,J8 KX G (v:=.str "abcdefghijklmnopqrstuvwxyz" 488) (by kernel_rfl),⟨_,rfl⟩,λ H=>L3.aS.mpr rfl⟩,KK.gT KX G "FIGURES" 240 [.str "1" 490,.str "2" 491,.str "3" 492,.str "4" 493,.str "5" 494,.str "6" 495,.str "7" 496,.str "8" 497,.str "9" 498] 0,KK.gT KX G "TAKEN" 241 [.str "row" 500,.str "to" 501,.str "take" 502,.str "none" 503,.str "one" 504,.str "two" 505,.str "as" 506,.str "heap" 507] 0,⟨_,.int _,J8 KX G (v:=.int 5 509) (by kernel_rfl),⟨_,rfl⟩,λ H=>L3.aB.mpr rfl⟩,J8 KX G (by kernel_rfl),⟨by kernel_rfl,by kernel_rfl,by kernel_rfl⟩,KK.cB "HeapError" 24 [.type "ValueError"] [.type "ValueError",.type "Exception",.type "BaseException",.type "object"] [.ref 44,.ref 63,.ref 82,.ref 101,.ref 120,.ref 139,.ref 158,.ref 177,.ref 196,.ref 215] 15 189 197,KK.cF KX G KK.m6 2 "NoText" 44 [.ref 24] [.ref 24,.type "ValueError",.type "Exception",.type "BaseException",.type "object"] [] 28 207 215,KK.cF KX G KK.m6 3 "Twice" 63 [.ref 24] [.ref 24,.type "ValueError",.type "Exception",.type "BaseException",.type "object"] [] 47 232 240,KK.cF KX G KK.m6 4 "NoName" 82 [.ref 24] [.ref 24,.type "ValueError",.type "Exception",.type "BaseException",.type "object"] [] 66 257 265,KK.cF KX G KK.m6 5 "TooMany" 101 [.ref 24] [.ref 24,.type "ValueError",.type "Exception",.type "BaseException",.type "object"] [] 85 282 290,KK.cF KX G KK.m6 6 "NoGame" 120 [.ref 24] [.ref 24,.type "ValueError",.type "Exception",.type "BaseException",.type "object"] [] 104 305 313,KK.cF KX G KK.m6 7 "NoTable" 139 [.ref 24] [.ref 24,.type "ValueError",.type "Exception",.type "BaseException",.type "object"] [] 123 332 340,KK.cF KX G KK.m6 8 "Wrong" 158 [.ref 24] [.ref 24,.type "ValueError",.type "Exception",.type "BaseException",.type "object"] [] 142 359 367,KK.cF KX G KK.m6 9 "NoPaper" 177 [.ref 24] [.ref 24,.type "ValueError",.type "Exception",.type "BaseException",.type "object"] [] 161 384 392,KK.cF KX G KK.m6 10 "NoPick" 196 [.ref 24] [.ref 24,.type "ValueError",.type "Exception",.type "BaseException",.type "object"] [] 180 409 417,KK.cF KX G KK.m6 11 "NoRow" 215 [.ref 24] [.ref 24,.type "ValueError",.type "Exception",.type "BaseException",.type "object"] [] 199 434 442,by kernel_rfl,by kernel_rfl,by kernel_rfl⟩ (KK.tF KX G KK.m3 223) (KK.tF KX G KK.m3 228) (KK.tF KX G KK.m1 233) (KK.tF KX G KK.m1 238) (KK.tF KX G KK.m4 245) (KK.tF KX G KK.m4 252) (KK.tF KX G KK.m4 259) (KK.tF KX G KK.m0 266) (KK.tF KX G KK.m0 271) (KK.tF KX G KK.m0 278) (KK.tF KX G KK.m0 283) (KK.tF KX G KK.m0 290) (KK.tF KX G KK.m2 295) (KK.tF KX G KK.m2 302) (KK.tF KX G KK.m2 307) (KK.tF KX G KK.m2 312) (KK.tF KX G KK.m5 319) (KK.tF KX G KK.m5 324) (KK.tF KX G KK.m5 331) (KK.tF KX G KK.m5 336) (KK.tF KX G KK.m5 341) (KK.tF KX G KK.m5 346) (KK.tF KX G KK.m5 351) (KK.tF KX G KK.m5 356) (KK.tF KX G KK.m5 361) (KK.tF KX G KK.m5 368) (KK.tF KX G KK.m5 373) (KK.tF KX G KK.m5 378) (KK.tF KX G KK.m5 383) (KK.tF KX G KK.m5 390) (KK.tF KX G KK.m5 395)
theorem PySem.Challenge.cw_lastloser_k44_games_put_together_holds : PySem.Challenge.rw_lastloser_k44_games_put_together.Holds :=
 KK.pre
