import PyProof.Rows.All
import Wide.All
import OpenK.AllK
import Wide.FinOn
import Lean
import PyProof.EqAt
import PyProof.EqKinds
import PyProof.TupleCall
import PyProof.StrWalks
import PyProof.ConsumeWalk
import PyProof.TupleKey
import PyProof.DictFindH
import PyProof.P3Eq
import PyProof.DictRoadsH
import PyProof.Rows.TupTab
import KE.KSortTup
import PyProof.ZipIter
import PyProof.Draws
import PyProof.WalksMore
import PyProof.ListMulRoad
import PyProof.AutoListH
import PyProof.FactsAll.tuple_2
import PyProof.FactsAll.tuple
import PyProof.TupleIter
import PyProof.AttrMissHeap
import PyProof.DictIter
import PyProof.DictWalks
import KE.KDictSum
import KE.KDictOf
import PyProof.EnumMake
import KE.BitLaws
import PySem.Challenge.RW_lastloser_k40_numbers_left_out
set_option tactic.hygienic false
local macro_rules|`(tactic|omega)=>`(tactic|lia)
local macro_rules|`(tactic|obtain $p:rcasesPatMed:=$t:term)=>`(tactic|first|(refine Classical.byContradiction fun k=>?_;rcases $t:term with $p:rcasesPatMed<;>(refine k ?_;clear k))|rcases $t:term with $p:rcasesPatMed)
set_option Elab.async false
set_option linter.all false
set_option maxRecDepth 100000
set_option maxHeartbeats 4000000
open List
def a8:=@PyProof.Rows.slot_tuple_getitem
def a9:=@PySem.wpAny_typeNameOfWhole_keyiter
def c9:=@PySem.F.slot_dict_keyiterator_next
def e6:=@PyProof.Rows.callWith_type1
def e7:=@PySem.F.slot_tuple_iterator_next
def e9:=@getElem?_append_right
def g9:=@getD_eq_getElem?_getD
def i0:=@getElem?_append_left
def i4:=@Array.getElem?_eq_getElem
def i5:=@drop_eq_getElem_cons
def i6:=@List.getElem?_eq_some_iff
def i7:=@List.getElem?_eq_none_iff
def i8:=@PySem.F.slot_list_append
def i9:=@getElem?_eq_getElem
def j0:=@PySem.F.type_list_append
def j4:=@PySem.F.plainAttrs_list
def j5:=@getElem?_replicate
def j6:=@PySem.wpAny_callSpecial?_slot
def j7:=@length_eq_zero_iff
def j8:=@take_of_length_le
def j9:=@reverse_singleton
def k3:=@drop_eq_nil_of_le
def k4:=@Array.getElem?_eq_none
def k5:=@PySem.Heap.get?_push_of_some
def k7:=@PySem.Heap.get?_update_other
def k8:=@PySem.Heap.get?_update_self
def k9:=@mem_append_right
def l6:=@length_singleton
def l7:=@Array.getElem?_toList
def l8:=@length_replicate
def l9:=@getElem?_eq_none
def m3:=@pairwise_append
def m5:=@mem_cons_of_mem
def m6:=@mem_of_getElem?
def m7:=@mem_append_left
def m8:=@mem_iff_getElem
def m9:=@PySem.Around.under_plainId
def n0:=@PySem.Heap.SameBut.update
def n5:=@getElem?_range
def n6:=@PySem.mem_of_lookup
def n9:=@replicate_succ
def o7:=@Array.length_toList
def o8:=@PySem.Heap.get?_push_size
def o9:=@mem_cons_self
def p5:=@Bool.false_ne_true
def p6:=@length_append
def p7:=@Bool.false_eq_true
def p8:=@Int.emod_lt_of_pos
def p9:=@PySem.wpAny_setField_rec
def q8:=@Nat.lt_of_le_of_lt
def q9:=@Nat.lt_of_lt_of_le
def r6:=@mem_singleton
def r9:=@PySem.wpAny_Call_Name_kw
def s9:=@getElem?_map
def u4:=@decide_eq_true_eq
def u5:=@Int.toNat_natCast
def u6:=@PySem.wpAny_newObj_type
def u7:=@flatten_cons
def u9:=@append_assoc
def w5:=@PySem.wpAny_truthy_bool
def w6:=@PySem.wpAny_pyIter_list
def w9:=@length_range
def x4:=@Option.isSome_map
def x5:=@List.size_toArray
def x6:=@PySem.SeqAt.eqAt_reads
def x8:=@countP_cons
def x9:=@lookup_cons
def y0:=@Nat.le_of_not_lt
def y6:=@length_cons
def y7:=@Nat.lt_of_not_le
def y8:=@length_drop
def y9:=@mem_reverse
def z9:=@take_length
def A0:=@PySem.wpAny_call_entry
def A1:=@PySem.F.plain_max_loop
def A2:=@Bool.and_eq_true
def A3:=@length_take
def A4:=@getElem_mem
def A5:=@Bool.eq_iff_iff
def A6:=@append_nil
def A7:=@nil_append
def A8:=@find?_cons
def A9:=@decide_eq_false
def B0:=@PySem.wpAny_loadPart'
def B1:=@Int.emod_nonneg
def B2:=@Option.some.inj
def B3:=@PySem.PassesOwn.never
def B4:=@PySem.wpAny_passesOwn
def B5:=@PySem.codeAny_builtin
def B6:=@PySem.W.kia_one
def B7:=@length_map
def B8:=@mem_append
def B9:=@map_append
def C0:=@Nat.le_antisymm
def C1:=@decide_eq_true
def C2:=@PySem.wpAny_seqItems
def C3:=@PySem.Heap.size_push
def C4:=@PySem.wpAny_tryCatch
def C5:=@PySem.wpAny_holding
def C6:=@PySem.wpAny_attempt
def C7:=@PySem.Paired.length
def C8:=@Nat.xor_assoc
def C9:=@Nat.lt_irrefl
def D1:=@map_cons
def D3:=@mem_cons
def D4:=@PySem.plainId_quiet
def D8:=@Int.zero_add
def D9:=@Nat.xor_self
def E1:=@Nat.ne_of_lt
def E2:=@PySem.Heap.lt_size
def E3:=@mem_map
def E4:=@List.map_map
def E8:=@Nat.le_trans
def E9:=@Nat.le_refl
def G0:=@PySem.sizeLine_eq
def G5:=@Nat.zero_le
def G6:=@PySem.wpAny_field
def G7:=@PySem.wpAny_letGo
def G8:=@PySem.wpAny_bind
def G9:=@PySem.wpAny_pure
def H0:=@PySem.wpAny_rule
def H9:=@PySem.call_meets
def J0:=@PySem.wpAny_mono
def J1:=@bind_congr
def J3:=@ite_congr
def J4:=@PyProof.Rows.wpS_bind
def J5:=@if_false
def J6:=@PyProof.Rows.wpS_pure
def J7:=@congrArg
def J8:=@Ne.symm
def J9:=@if_pos
def K0:=@if_neg
namespace L2
open PySem PySem.Spec PyProof.Rows
abbrev Key:=Sum Int Str
def pG:Key->Value->Bool
 | .inl k,v=>Value.isInt k v
 | .inr x,v=>Value.isStrOf x v
def TZ(w:World):Key->Int
 | .inl k=>hashInt k
 | .inr x=>hashStr w x
theorem bU:∀{k:Key} {v:Value},pG k v=true->(∃i t,k=Sum.inl i/\v=Value.int i t)\/(∃x t,k=Sum.inr x/\v=Value.str x t)
 | .inl i,v,h=>by
  obtain⟨t,e⟩:=Value.isInt_shape (k:=i) (v:=v) h
  exact .inl ⟨i,t,rfl,e⟩
 | .inr x,v,h=>by
  obtain⟨t,e⟩:=Value.isStrOf_shape (x:=x) (v:=v) h
  exact .inr ⟨x,t,rfl,e⟩
theorem zP(i:Int)(t:Tok):pG (.inl i) (.int i t)=true:=by simp[pG,Value.isInt]
theorem zO(x:Str)(t:Tok):pG (.inr x) (.str x t)=true:=by simp[pG,Value.isStrOf]
theorem Mr(a b:Int):decide ((Sum.inl a:Key)=Sum.inl b)=(a==b):=by
 by_cases e:a=b
 ·subst e;simp
 ·have h:¬(Sum.inl a:Key)=Sum.inl b:=λ q=>e (Sum.inl.inj q)
  rw[A9 h]
  exact(beq_eq_false_iff_ne.mpr e).symm
theorem Mo(a b:Str):decide ((Sum.inr a:Key)=Sum.inr b)=decide (a=b):=by
 by_cases e:a=b
 ·subst e;simp
 ·have h:¬(Sum.inr a:Key)=Sum.inr b:=λ q=>e (Sum.inr.inj q)
  rw[A9 h,A9 e]
theorem Mq(a:Int)(b:Str):decide ((Sum.inl a:Key)=Sum.inr b)=false:=A9 (λ q=>nomatch q)
theorem Mp(a:Str)(b:Int):decide ((Sum.inr a:Key)=Sum.inl b)=false:=A9 (λ q=>nomatch q)
def cx(prog:Program)(w:World):PySem.KeyKind prog w Key where
 is:=pG
 hash:=TZ w
 inj:=λ v a b ha hb=>by
  rcases bU ha with⟨i,t,rfl,rfl⟩|⟨x,t,rfl,rfl⟩
  ·rcases bU hb with⟨j,u,rfl,e⟩|⟨y,u,rfl,e⟩
   ·injection e with e1 _;rw[e1]
   ·exact nomatch e
  ·rcases bU hb with⟨j,u,rfl,e⟩|⟨y,u,rfl,e⟩
   ·exact nomatch e
   ·injection e with e1 _;rw[e1]
 byValue:=λ k v h=>by
  rcases bU h with⟨i,t,rfl,rfl⟩|⟨x,t,rfl,rfl⟩ <;> rfl
 pyHash:=λ hv h=>by
  rcases bU hv with⟨i,t,rfl,rfl⟩|⟨x,t,rfl,rfl⟩
  ·exact wpAny_pyHash_int h
  ·exact wpAny_pyHash_str h
 eqBool:=λ hu hv h=>by
  rcases bU hu with⟨i,t,rfl,rfl⟩|⟨x,t,rfl,rfl⟩
  ·rcases bU hv with⟨j,u,rfl,rfl⟩|⟨y,u,rfl,rfl⟩
   ·rw[Mr]at h;exact wpAny_eqBool_int h
   ·rw[Mq]at h;exact SeqAt.EqAt.int_str i t y u _ _ _ _ h
  ·rcases bU hv with⟨j,u,rfl,rfl⟩|⟨y,u,rfl,rfl⟩
   ·rw[Mp]at h;exact SeqAt.EqAt.str_int x t j u _ _ _ _ h
   ·rw[Mo]at h;exact wpAny_eqBool_str h
 «strs»:=λ k x t v h=>by
  rcases bU h with⟨i,u,rfl,e⟩|⟨y,u,rfl,e⟩
  ·exact nomatch e
  ·injection e with e1 _
   subst e1
   cases v <;> rfl
theorem kW(prog:Program)(w:World)(i:Int)(t:Tok):(cx prog w).is (.inl i) (.int i t)=true:=zP i t
theorem tG(prog:Program)(w:World)(x:Str)(t:Tok):(cx prog w).is (.inr x) (.str x t)=true:=zO x t
inductive V where
 |bx|bl (b:Bool)|int (i:Int)|str (x:Str)|Ej (b:Array UInt8)|Of (b:UInt64)|ref (a:Addr)|ty (n:String)
 deriving DecidableEq
def RelV:V->Value->Prop
 | .bx,u=>u=Value.none
 | .bl b,u=>u=Value.bool b
 | .int i,u=>∃t,u=Value.int i t
 | .str x,u=>∃t,u=Value.str x t
 | .Ej b,u=>∃t,u=Value.bytes b t
 | .Of b,u=>∃t,u=Value.float b t
 | .ref a,u=>u=Value.ref a
 | .ty n,u=>u=Value.type n
abbrev Vals:List V->List Value->Prop:=Paired RelV
theorem Vals.length {xs:List V}{us:List Value}(r:Vals xs us):xs.length=us.length:=C7 r
theorem Vals.get:∀{xs:List V} {us:List Value} {i:Nat} {x:V},Vals xs us->xs[i]?=some x->∃u,us[i]?=some u/\RelV x u
 |_,_,_,_,.nil,e=>by simp at e
 |_,_,0,_,.cons r _,e=>by simp at e;subst e;exact⟨_,rfl,r⟩
 |_,_,i+1,x,.cons _ t,e=>by
  obtain⟨u,h1,h2⟩:=Vals.get (i:=i) (x:=x) t (by simpa using e)
  exact⟨u,by simpa using h1,h2⟩
theorem Vals.set {x:V}{u:Value}(r:RelV x u):∀{xs:List V} {us:List Value} (i:Nat),Vals xs us->Vals (xs.set i x) (us.set i u)
 |_,_,_,.nil=>.nil
 |_,_,0,.cons _ t=>.cons r t
 |_,_,i+1,.cons q t=>.cons q (Vals.set r i t)
theorem Vals.append:∀{xs ys:List V} {us ws:List Value},Vals xs us->Vals ys ws->Vals (xs++ys) (us++ws)
 |_,_,_,_,.nil,s=>s
 |_,_,_,_,.cons r t,s=>.cons r (Vals.append t s)
theorem Vals.take:∀{xs:List V} {us:List Value} (n:Nat),Vals xs us->Vals (xs.take n) (us.take n)
 |_,_,0,_=>.nil
 |_,_,_+1,.nil=>.nil
 |_,_,n+1,.cons r t=>.cons r (Vals.take n t)
theorem Vals.drop:∀{xs:List V} {us:List Value} (n:Nat),Vals xs us->Vals (xs.drop n) (us.drop n)
 |_,_,0,r=>r
 |_,_,_+1,.nil=>.nil
 |_,_,n+1,.cons _ t=>Vals.drop n t
theorem Vals.none_of:∀{xs:List V} {us:List Value} {i:Nat},Vals xs us->xs[i]?=none->us[i]?=none:=λ{xs us i} r e=>by
 have h1:=r.length
 have h2:xs.length<=i:=i7.mp e
 exact i7.mpr (by omega)
def jN:Option V->Option Value->Prop
 |some v,some u=>RelV v u
 |none,none=>True
 |_,_=>False
def KV{κ:Type}:List (κ×V)->List (κ×Value)->Prop:=Paired λ(p:κ×V) (q:κ×Value)=>p.1=q.1/\RelV p.2 q.2
def kV:Key->V
 | .inl i=>.int i
 | .inr x=>.str x
inductive HO where
  |lst (xs:List V)
  |tup (xs:List V)
  |dK (kvs:List (Key×V))|dT (kvs:List (List Key×V))
  |set (S:Int->Bool) (n:Nat)
  |ins (C dx:Addr) (fs:List (Str×V))
  |own (x:Addr)
  |xd (fs:List (Str×V))
  |met (f x:Addr)
  |Th (lo hi:Int)
  |nN (o:Obj) (u:HO)
  |JG (ps:Array Value)
  |ext (φ:Heap->Prop)
abbrev Hp:=Addr->Option HO
def upd(H:Hp)(a:Addr)(o:HO):Hp:=λ b=>if b=a then some o else H b
theorem bB{H:Hp}{a:Addr}{o:HO}:upd H a o a=some o:=by unfold upd;rw[J9 rfl]
theorem aX{H:Hp}{a b:Addr}{o:HO}(h:b≠a):upd H a o b=H b:=by unfold upd;rw[K0 h]
theorem aI{H:Hp}{a b:Addr}{o u:HO}(h:H a=some o)(h':H b=some u)(d:o≠u):a≠b:=by
 intro e;subst e;rw[h]at h';exact d (B2 h')
theorem cw{H:Hp}{a b:Addr}{o:HO}(h:H a=some o)(h':H b=none):a≠b:=by
 intro e;subst e;rw[h]at h';cases h'
section
variable (P:Program)(w:World)
def bK(H:Hp)(h:Heap)(a:Addr):HO->Prop
 | .lst xs=>xs.length<=sizeLine/\∃(au:List Value) (n:Nat),Vals xs au/\h.get? a=some {cls:=.type "list",data:=.seq au.toArray n}
 | .tup xs=>xs.length<=sizeLine/\∃au:List Value,Vals xs au/\IsTup h a au.toArray
 | .dK kvs=>kvs.length<=sizeLine/\(a==sysModules)=false/\∃vs,KV kvs vs/\h.DictOf (cx P w) a vs
 | .dT kvs=>kvs.length<=sizeLine/\(a==sysModules)=false/\∃xs:List (List Key×Addr×Value),
   Paired (λ(p:List Key×V) (q:List Key×Addr×Value)=>p.1=q.1/\H q.2.1=some (.tup (p.1.map kV))/\RelV p.2 q.2.2) kvs xs/\
   ∃o es ep,h.get? a=some o/\o.ExactDict/\o.data=.dict es ep/\es.toList=xs.map (entryOfKey (tupleKind (cx P w)))/\(xs.map (·.1)).Nodup
 | .set S n=>h.SetOf (intKind P w) a S n
 | .ins C dx fs=>H dx=some (.own a)/\fs.length<=1000/\dx≠a/\h.get? a=some (PySem.W.instObj C dx)/\
   ∃mA,h.Ns1 dx mA/\(∀f,jN (fs.lookup f) (mA f))/\PySem.Within mA (fs.map (·.1))
 | .own _=>∃o,h.get? a=some o
 | .xd fs=>∃mA,h.Ns1 a mA/\∀f,jN (fs.lookup f) (mA f)
 | .Th lo hi=>∃t u v,h.get? a=some {cls:=.type "range",data:=.fields #[.int lo t,.int hi u,.int 1 v]}
 | .nN o u=>h.get? a=some o/\bK H h a u
 | .JG ps=>h.get? a=some {cls:=.none,data:=.fields ps}
 | .met f x=>h.get? a=some (PySem.W.methodObj (.ref f) (.ref x))
 | .ext φ=>φ h/\(∃o,h.get? a=some o)/\∀h1 h2:Heap,φ h1->(∀o,h1.get? a=some o->h2.get? a=some o)->φ h2
def i'(H:Hp)(h:Heap):Prop:=∀a o,H a=some o->bK P w H h a o
end
section
variable {P:Program}{w:World}{H H':Hp}{h h':Heap}{a:Addr}{o:HO}
theorem bK.lt (x:bK P w H h a o):a < h.objs.size:=by
 cases o with
 |lst xs=>obtain⟨_,_,_,_,e⟩:=x;exact E2 e
 |tup xs=>obtain⟨_,_,_,p⟩:=x;exact p.lt
 |dK kvs=>obtain⟨_,_,_,_,o,_,_,e,_⟩:=x;exact E2 e
 |dT kvs=>obtain⟨_,_,_,_,o,_,_,e,_⟩:=x;exact E2 e
 |set S n=>obtain⟨o,_,_,_,e,_⟩:=x;exact E2 e
 |ins C dx fs=>obtain⟨_,_,_,e,_⟩:=x;exact E2 e
 |own y=>obtain⟨_,e⟩:=x;exact E2 e
 |xd fs=>obtain⟨_,⟨_,_,_,e,_⟩,_⟩:=x;exact E2 e
 |Th lo hi=>obtain⟨_,_,_,e⟩:=x;exact E2 e
 |nN ob u=>obtain⟨e,_⟩:=x;exact E2 e
 |JG ps=>exact E2 (show h.get? a=some _ from x)
 |met f y=>exact E2 (show h.get? a=some _ from x)
 |ext φ=>obtain⟨_,⟨_,e⟩,_⟩:=x;exact E2 e
theorem Paired.CI {α β:Type}{F G:α->β->Prop}:∀{l₁:List α} {l₂:List β},Paired F l₁ l₂->(∀a b,F a b->G a b)->Paired G l₁ l₂
 |_,_,.nil,_=>.nil
 |_,_,.cons r t,f=>.cons (f _ _ r) (Paired.CI t f)
theorem bK.lC (x:bK P w H h a o)(k:∀b u,(b=a\/H b=some (.own a))->h.get? b=some u->h'.get? b=some u)
  (ho:∀b,H b=some (.own a)->H' b=some (.own a)) (ht:∀b xs,H b=some (.tup xs)->H' b=some (.tup xs)):bK P w H' h' a o:=by
 induction o with
 |lst xs=>obtain⟨z,au,n,r,e⟩:=x;exact⟨z,au,n,r,k _ _ (.inl rfl) e⟩
 |tup xs=>obtain⟨z,au,r,ob,e,c⟩:=x;exact⟨z,au,r,ob,k _ _ (.inl rfl) e,c⟩
 |dK kvs=>obtain⟨z,y,vs,r,ob,es,ep,e,c⟩:=x;exact⟨z,y,vs,r,ob,es,ep,k _ _ (.inl rfl) e,c⟩
 |dT kvs=>
  obtain⟨z,y,xs,r,ob,es,ep,e,c⟩:=x
  exact⟨z,y,xs,Paired.CI r λ p q z=>⟨z.1,ht _ _ z.2.1,z.2.2⟩,ob,es,ep,k _ _ (.inl rfl) e,c⟩
 |set S n=>obtain⟨ob,es,ep,t,e,c⟩:=x;exact⟨ob,es,ep,t,k _ _ (.inl rfl) e,c⟩
 |ins C dx fs=>
  obtain⟨d,z,ne,e,mA,⟨od,es,ep,e2,c⟩,r⟩:=x
  exact⟨ho _ d,z,ne,k _ _ (.inl rfl) e,mA,⟨od,es,ep,k _ _ (.inr d) e2,c⟩,r⟩
 |own y=>obtain⟨ob,e⟩:=x;exact⟨ob,k _ _ (.inl rfl) e⟩
 |xd fs=>obtain⟨mA,⟨od,es,ep,e,c⟩,r⟩:=x;exact⟨mA,⟨od,es,ep,k _ _ (.inl rfl) e,c⟩,r⟩
 |Th lo hi=>obtain⟨t,u,v,e⟩:=x;exact⟨t,u,v,k _ _ (.inl rfl) e⟩
 |nN ob u ih=>obtain⟨e,q⟩:=x;exact⟨k _ _ (.inl rfl) e,ih q⟩
 |JG ps=>
  have e:h.get? a=some {cls:=.none,data:=.fields ps}:=x
  show h'.get? a=some {cls:=.none,data:=.fields ps}
  exact k a _ (.inl rfl) e
 |met f y=>
  have e:h.get? a=some (PySem.W.methodObj (.ref f) (.ref y)):=x
  show h'.get? a=some (PySem.W.methodObj (.ref f) (.ref y))
  exact k a _ (.inl rfl) e
 |ext φ=>obtain⟨p,⟨o,e⟩,st⟩:=x;exact⟨st _ _ p λ o q=>k _ _ (.inl rfl) q,⟨o,k _ _ (.inl rfl) e⟩,st⟩
theorem i'.lt (x:i' P w H h)(e:H a=some o):a < h.objs.size:=(x a o e).lt
theorem i'.fresh (x:i' P w H h)(e:h.objs.size<=a):H a=none:=by
 cases q:H a with
 |none=>rfl
 |some u=>exact absurd (q9 (x.lt q) e) (C9 _)
theorem i'.kept (x:i' P w H h)(k:∀b u,h.get? b=some u->h'.get? b=some u):i' P w H h':=λ a o e=>
 (x a o e).lC (λ b u _ q=>k b u q) (λ _ q=>q) λ _ _ q=>q
theorem i'.laid (x:i' P w H h)(k:∀b u,h.get? b=some u->h'.get? b=some u)(hp:h.objs.size<=a)(new:bK P w (upd H a o) h' a o):i' P w (upd H a o) h':=λ b u e=>by
 have hn:=x.fresh hp
 by_cases hb:b=a
 ·subst hb;rw[bB]at e;cases e;exact new
 ·rw[aX hb]at e
  exact(x b u e).lC (λ c v _ q=>k c v q) (λ c q=>by rw[aX (cw q hn)];exact q) λ c xs q=>by rw[aX (cw q hn)];exact q
end
def Rd(H:Hp)(a:Addr)(u:HO):Prop:=H a=some u\/∃o,H a=some (.nN o u)
theorem Rd.ok {P:Program}{w:World}{H:Hp}{h:Heap}{a:Addr}{u:HO}(r:Rd H a u)(x:i' P w H h):bK P w H h a u:=by
 rcases r with r|⟨o,r⟩
 ·exact x a u r
 ·obtain⟨_,q⟩:=x a _ r
  exact q
def Rj:Option HO->Prop
 |some (.lst _)=>True
 |some (.dK _)=>True
 |some (.dT _)=>True
 |some (.set _ _)=>True
 |some (.ins _ _ _)=>True
 |some (.ext _)=>True
 |_=>False
section
variable {P:Program}{w:World}{H:Hp}{h h':Heap}{x e:Addr}{o':HO}
theorem i'.write (ok:i' P w H h)(mu:Rj (H x))(he:e=x\/H e=some (.own x))(k:∀b u,b≠e->h.get? b=some u->h'.get? b=some u)(Ob:∃u,h'.get? e=some u)
  (new:bK P w (upd H x o') h' x o'):i' P w (upd H x o') h':=λ b u q=>by
 have Pr:∀c y,H c=some (.own y)->c≠x:=λ c y r z=>by subst z;rw[r]at mu;exact mu
 have TM:∀c xs,H c=some (.tup xs)->c≠x:=λ c xs r z=>by subst z;rw[r]at mu;exact mu
 by_cases hb:b=x
 ·subst hb;rw[bB]at q;cases q;exact new
 ·rw[aX hb]at q
  by_cases MW:b=e
  ·have q':H b=some (.own x):=by
    rcases he with z|z
    ·exact absurd (MW.trans z) hb
    ·rw[MW];exact z
   rw[q]at q';cases q'
   obtain⟨v,hv⟩:=Ob
   exact⟨v,by rw[MW];exact hv⟩
  ·refine(ok b u q).lC (λ c v hc r=>k c v ?_ r) (λ c r=>by rw[aX (Pr c b r)];exact r) λ c xs r=>by rw[aX (TM c xs r)];exact r
   rcases hc with rfl|hc
   ·exact MW
   ·rintro rfl
    rcases he with z|z
    ·exact Pr c b hc z
    ·rw[hc]at z;cases z;exact hb rfl
end
structure Un(fs ex:List Addr)(H H':Hp)(h h':Heap):Prop where
 keep:∀b o,h.get? b=some o->H b=none->b∉fs->b∉ex->h'.get? b=some o
 slot:∀b o,h.get? b=some o->H b=none->b∈fs->b∉ex->∃sl,h'.get? b=some {o with slots:=sl}
 free:∀b o,h.get? b=some o->H b=none->b∉ex->H' b=none
 there:∀b o,h.get? b=some o->b∉ex->∃o',h'.get? b=some o'
 qc:∀b xs,H b=some (.tup xs)->H' b=some (.tup xs)
 oF:∀b o u,H b=some (.nN o u)->H' b=some (.nN o u)
 qe:∀b ps,H b=some (.JG ps)->∃more,H' b=some (.JG (ps++more))
section
variable {fs X8 ex Zq:List Addr}{H H1 H2:Hp}{h h1 h2 h':Heap}{a x e:Addr}{o:HO}
theorem Un.any (u:Un fs ex H H1 h h1){b:Addr}{ob:Obj}(q:h.get? b=some ob)(n:H b=none)(hx:b∉ex):∃sl,h1.get? b=some {ob with slots:=sl}:=by
 by_cases hb:b∈fs
 ·exact u.slot b ob q n hb hx
 ·exact⟨ob.slots,u.keep b ob q n hb hx⟩
theorem Un.kept (k:∀b u,h.get? b=some u->h'.get? b=some u):Un fs ex H H h h':=
 ⟨λ b ob q _ _ _=>k b ob q,λ b ob q _ _ _=>⟨ob.slots,k b ob q⟩,λ _ _ _ n _=>n,λ b ob q _=>⟨ob,k b ob q⟩,λ _ _ q=>q,λ _ _ _ q=>q,λ _ ps q=>⟨#[],by rw[q];simp⟩⟩
theorem Un.refl:Un fs ex H H h h:=Un.kept λ _ _ q=>q
theorem Un.laid (k:∀b u,h.get? b=some u->h'.get? b=some u)(hp:h.objs.size<=a)(hn:H a=none):Un fs ex H (upd H a o) h h' where
 keep:=λ b u q _ _ _=>k b u q
 slot:=λ b u q _ _ _=>⟨u.slots,k b u q⟩
 free:=λ b u q n _=>by rw[aX (E1 (q9 (E2 q) hp))];exact n
 there:=λ b u q _=>⟨u,k b u q⟩
 qc:=λ b xs q=>by rw[aX (cw q hn)];exact q
 oF:=λ b u xs q=>by rw[aX (cw q hn)];exact q
 qe:=λ b ps q=>⟨#[],by rw[aX (cw q hn),q];simp⟩
theorem Un.write (mu:Rj (H x))(he:e=x\/H e=some (.own x))(k:∀b u,b≠e->h.get? b=some u->h'.get? b=some u)(Ob:∃u,h'.get? e=some u):Un fs ex H (upd H x o) h h':=by
 have hx:∀b,H b=none->b≠x:=λ b n z=>by subst z;rw[n]at mu;exact mu
 have hb:∀b,H b=none->b≠e:=λ b n z=>by
  subst z
  rcases he with r|r
  ·exact hx b n r
  ·rw[n]at r;cases r
 have hm:∀b u,H b=some u->¬Rj (some u)->b≠x:=λ b u q nm z=>by subst z;rw[q]at mu;exact nm mu
 refine⟨λ b u q n _ _=>k b u (hb b n) q,λ b u q n _ _=>⟨u.slots,k b u (hb b n) q⟩,λ b u q n _=>by rw[aX (hx b n)];exact n,λ b u q _=>?_,
  λ b xs q=>by rw[aX (hm b _ q λ z=>z)];exact q,λ b u xs q=>by rw[aX (hm b _ q λ z=>z)];exact q,λ b ps q=>⟨#[],by rw[aX (hm b _ q λ z=>z),q];simp⟩⟩
 by_cases MW:b=e
 ·subst MW;exact Ob
 ·exact⟨u,k b u MW q⟩
end
def Rx(h:Heap)(H:Hp):List Addr:=(List.range h.objs.size).filter λ a=>(H a).isSome
def qZ(h:Heap)(H:Hp):Heap:=PySem.W.hideAll h (Rx h H)
theorem zV(h:Heap)(H:Hp):(qZ h H).objs.size=h.objs.size:=PySem.W.hideAll_size _ _
theorem DD{h:Heap}{H:Hp}{b:Addr}{o:Obj}(e:h.get? b=some o)(n:H b=none):(qZ h H).get? b=some o:=
 PySem.W.hideAll_get _ e λ hm=>by
  have q:(H b).isSome=true:=(mem_filter.mp hm).2
  rw[n]at q;simp at q
theorem GW{h:Heap}{H:Hp}{b:Addr}{o:Obj}(e:(qZ h H).get? b=some o):h.get? b=some o/\H b=none:=by
 have e':h.get? b=some o:=PySem.W.of_hideAll (Rx h H) e
 refine⟨e',?_⟩
 cases q:H b with
 |none=>rfl
 |some x=>
  have hm:b∈Rx h H:=mem_filter.mpr ⟨mem_range.mpr (E2 e'),by simp[q]⟩
  have z:(qZ h H).get? b=none:=PySem.W.hideAll_none (Rx h H) hm
  rw[z]at e;cases e
structure Mod(K:PySem.W.Frag)(mg:Str->Option Value)(base:Heap):Prop where
 R9:K.In base
 glob:base.Ns mainGlobals mg
 blt:∃mb,base.Ns builtinsNs mb/\∀x:Str,x≠"__name__"->mb x=bootBuiltins x
 nolimit:base.NoLimit
structure Cx where
 prog:Program
 w:World
 K:PySem.W.Frag
 mg:Str->Option Value
 base:Heap
 A:Around
 N:List Str
 s₀:Shared
 H₀:Hp
 env:Env
 outer:List Env
 stack:List Env
 ex:List Addr
 fn:Str->Bool
 calm:Bool
 pn:List (Addr×Obj)
 xe:Value->Shared->Prop
def Ab(l:List Env):List Addr:=l.filterMap (·.frame)
abbrev Cx.fs (X:Cx):List Addr:=Ab X.outer
def Rf(sc:Scope)(x:Str):Prop:=sc.names.lookup x=some .local\/sc.names.lookup x=some .cell\/sc.names.lookup x=some .free
def Loc(sc:Scope)(x:Str):Prop:=sc.names.lookup x=some .local\/sc.names.lookup x=some .cell
def Look(env:Env)(h:Heap)(m:Str->Option Value)(x:Str)(u:Value):Prop:=
 (env.kindOf x=some .local/\m x=some u)\/((env.kindOf x=some .cell\/env.kindOf x=some .free)/\∃c,env.cells.lookup x=some c/\h.IsCell c (some u))
structure Cx.Ok (X:Cx):Prop where
 mod:Mod X.K X.mg X.base
 kind:X.env.scope.kind=.function
 glob:X.env.globals=mainGlobals
 blt:X.env.builtins=builtinsNs
 above:X.s₀.heap.objs.size<=X.env.locals
 inj:∀x y c,X.env.cells.lookup x=some c->X.env.cells.lookup y=some c->x=y
 has:∀x,(X.env.kindOf x=some .cell\/X.env.kindOf x=some .free)->∃c,X.env.cells.lookup x=some c
 Q_:∀x c,X.fn x=true->X.env.cells.lookup x=some c->X.s₀.heap.objs.size<=c
 hd:X.calm=true->X.A.handled=none
 frames:X.A.frames=some X.stack
 RR:X.stack=X.outer\/(X.stack=X.env::X.outer/\X.env.frame=some X.env.locals)
 V9:∀b∈X.ex,b≠X.env.locals/\∀x c,X.env.cells.lookup x=some c->c≠b
 bs:∀b o,X.base.get? b=some o->X.s₀.heap.get? b=some o/\X.H₀ b=none
 EB:X.base.objs.size<=X.s₀.heap.objs.size
 zH:∀b o,X.base.get? b=some o->b∉X.ex
 HI:∀b∈X.ex,b∉X.fs
 lL:X.s₀.heap.FunFrames X.base X.outer
 Nc:∀b∈X.fs,X.H₀ b=none
structure Inv(X:Cx)(pins:List (Addr×Obj))(σ:List (Option V))(H:Hp)(s:Shared):Prop where
 ok:X.Ok
 os:s.os=X.s₀.os
 bare:AllBare s.gens
 base:Un X.fs X.ex X.H₀ H X.s₀.heap s.heap
 loc:∃m,s.heap.Ns X.env.locals m/\∀(i:Nat) (x:Str) (v:V),X.N[i]?=some x->σ[i]?=some (some v)->Rf X.env.scope x->∃u,RelV v u/\Look X.env s.heap m x u
 cell:∀x c,X.env.cells.lookup x=some c->∃v,s.heap.IsCell c v
 free:H X.env.locals=none
 gE:∀x c,X.env.cells.lookup x=some c->H c=none
 pin:∀p∈X.pn++pins,s.heap.get? p.1=some p.2/\H p.1=none/\p.1≠X.env.locals/\p.1∉X.fs/\∀v,p.2.data≠.cell v
 bO:i' X.prog X.w H s.heap
 len:σ.length=X.N.length
section
variable {X:Cx}{pins:List (Addr×Obj)}{σ:List (Option V)}{H H':Hp}{s:Shared}{h':Heap}
theorem Cx.Ok.TQ (ok:X.Ok){b:Addr}{o:Obj}(e:X.base.get? b=some o):b∉X.fs:=λ hb=>by
 have:=(ok.lL.mem hb).1
 rw[e]at this;cases this
theorem Inv.bs (I:Inv X pins σ H s):∀b o,X.base.get? b=some o->s.heap.get? b=some o/\H b=none:=λ b o e=>
 ⟨I.base.keep b o (I.ok.bs b o e).1 (I.ok.bs b o e).2 (I.ok.TQ e) (I.ok.zH b o e),I.base.free b o (I.ok.bs b o e).1 (I.ok.bs b o e).2 (I.ok.zH b o e)⟩
theorem Inv.bk (I:Inv X pins σ H s):∀b o,X.base.get? b=some o->s.heap.get? b=some o:=λ b o e=>(I.bs b o e).1
theorem Inv.mod (I:Inv X pins σ H s):Mod X.K X.mg X.base:=I.ok.mod
theorem Inv.oE (I:Inv X pins σ H s):X.K.In s.heap:=I.ok.mod.R9.keeps I.bk
theorem Inv.lt (I:Inv X pins σ H s):X.env.locals < s.heap.objs.size:=let⟨_,hn,_⟩:=I.loc;hn.lt
theorem Inv.sz (I:Inv X pins σ H s):X.s₀.heap.objs.size<=s.heap.objs.size:=E8 I.ok.above (Nat.le_of_lt I.lt)
theorem Inv.TN (I:Inv X pins σ H s){a:Addr}(h:s.heap.objs.size<=a):a∉X.fs:=λ hb=>by
 obtain⟨_,o,ho,_⟩:=I.ok.lL.mem hb
 exact absurd (q9 (E2 ho) (E8 I.sz h)) (C9 _)
theorem Inv.Nx (I:Inv X pins σ H s):∀x c,X.env.cells.lookup x=some c->c≠X.env.locals:=λ x c e z=>by
 obtain⟨v,o,ho,hd⟩:=I.cell x c e
 obtain⟨m,⟨o',es,ep,qX,iC,_⟩,_⟩:=I.loc
 rw[z,qX]at ho;cases ho;rw[iC]at hd;cases hd
theorem Inv.lL (I:Inv X pins σ H s):s.heap.FunFrames X.base X.outer:=by
 have all:∀(l:List Env),(∀b∈Ab l,b∈X.fs)->X.s₀.heap.FunFrames X.base l->s.heap.FunFrames X.base l:=by
  intro l
  induction l with
  |nil=>intro _ _;trivial
  |cons env r ih=>
   intro hs hl
   obtain⟨hk,⟨L,o,hf,hn,ho,hd⟩,hr⟩:=hl
   have hL:L∈X.fs:=hs L (by unfold Ab;rw[filterMap_cons,hf];exact o9)
   obtain⟨sl,e⟩:=I.base.slot L o ho (I.ok.Nc L hL) hL λ z=>I.ok.HI L z hL
   exact⟨hk,⟨L,_,hf,hn,e,hd⟩,ih (λ b hb=>hs b (by unfold Ab;rw[filterMap_cons,hf];exact m5 _ hb)) hr⟩
 exact all X.outer (λ _ hb=>hb) I.ok.lL
theorem Inv.stack (I:Inv X pins σ H s):s.heap.FunFrames X.base X.stack:=by
 rcases I.ok.RR with e|⟨e,hf⟩
 ·rw[e];exact I.lL
 ·rw[e]
  obtain⟨m,hn,_⟩:=I.loc
  refine .cons (by rw[I.ok.kind];decide) hf hn ?_ I.lL
  exact Heap.get?_none_of_le (E8 I.ok.EB I.ok.above)
theorem Inv.qf (I:Inv X pins σ H s):∀b∈Ab X.stack,b∈X.env.locals::X.fs:=λ b hb=>by
 rcases I.ok.RR with e|⟨e,hf⟩
 ·rw[e]at hb;exact m5 _ hb
 ·rw[e]at hb
  unfold Ab at hb
  rw[filterMap_cons,hf]at hb
  exact hb
theorem Inv.xy (I:Inv X pins σ H s):∀b∈Ab X.stack,H b=none:=λ b hb=>by
 rcases D3.mp (I.qf b hb)with e|hb
 ·rw[e];exact I.free
 ·obtain⟨_,o,ho,_⟩:=I.ok.lL.mem hb
  exact I.base.free b o ho (I.ok.Nc b hb) λ z=>I.ok.HI b z hb
theorem Inv.step {g':Array GenState}{t':Nat}{d':Drawn}{ch:List Addr}(I:Inv X pins σ H s)
  (zW:∀b∈ch,(b∈X.ex\/X.s₀.heap.objs.size<=b)/\b≠X.env.locals/\(∀x c,X.env.cells.lookup x=some c->c≠b)/\∀p∈X.pn++pins,p.1≠b)
  (keep:∀b o,b≠X.env.locals->b∉X.fs->b∉ch->s.heap.get? b=some o->H b=none->h'.get? b=some o)
  (slot:∀b o,b≠X.env.locals->b∈X.fs->b∉ch->s.heap.get? b=some o->H b=none->∃sl,h'.get? b=some {o with slots:=sl}) (free:∀b o,b∉ch->s.heap.get? b=some o->H b=none->H' b=none)
  (there:∀b o,b∉ch->s.heap.get? b=some o->∃o',h'.get? b=some o')
  (qc:∀b xs,H b=some (.tup xs)->H' b=some (.tup xs)) (oF:∀b o u,H b=some (.nN o u)->H' b=some (.nN o u)) (qe:∀b ps,H b=some (.JG ps)->∃more,H' b=some (.JG (ps++more)))
  (ns:∀m,s.heap.Ns X.env.locals m->h'.Ns X.env.locals m) (bO:i' X.prog X.w H' h') (hg:AllBare g'):
  Inv X pins σ H' {s with heap:=h',gens:=g',drawn:=d',toks:=t'}:=by
 have Vy:∀b o,X.s₀.heap.get? b=some o->b≠X.env.locals:=λ b o e=>E1 (q9 (E2 e) I.ok.above)
 have RX:∀b o,X.s₀.heap.get? b=some o->b∉X.ex->b∉ch:=λ b o e hx hb=>by
  rcases(zW b hb).1 with z|z
  ·exact hx z
  ·exact absurd (q9 (E2 e) z) (C9 _)
 have cellK:∀x c,X.env.cells.lookup x=some c->∀v,s.heap.IsCell c v->h'.IsCell c v:=λ x c e v ⟨o,ho,hd⟩=>by
  have Pw:c∉ch:=λ z=>(zW c z).2.2.1 x c e rfl
  by_cases hc:c∈X.fs
  ·obtain⟨sl,q⟩:=slot c o (I.Nx x c e) hc Pw ho (I.gE x c e)
   exact⟨_,q,hd⟩
  ·exact⟨o,keep c o (I.Nx x c e) hc Pw ho (I.gE x c e),hd⟩
 refine⟨I.ok,I.os,hg,⟨λ b o e n hb hx=>?_,λ b o e n hb hx=>?_,λ b o e n hx=>?_,λ b o e hx=>?_,λ b xs e=>qc b xs (I.base.qc b xs e),λ b o xs e=>oF b o xs (I.base.oF b o xs e),λ b ps e=>?_⟩,?_,λ x c e=>?_,?_,λ x c e=>?_,λ p hp=>?_,bO,I.len⟩
 ·exact keep b o (Vy b o e) hb (RX b o e hx) (I.base.keep b o e n hb hx) (I.base.free b o e n hx)
 ·obtain⟨sl,e1⟩:=I.base.slot b o e n hb hx
  obtain⟨WB,e2⟩:=slot b _ (Vy b o e) hb (RX b o e hx) e1 (I.base.free b o e n hx)
  exact⟨WB,e2⟩
 ·obtain⟨o',e1⟩:=I.base.there b o e hx
  exact free b o' (RX b o e hx) e1 (I.base.free b o e n hx)
 ·obtain⟨o',e1⟩:=I.base.there b o e hx
  exact there b o' (RX b o e hx) e1
 ·obtain⟨m1,e1⟩:=I.base.qe b ps e
  obtain⟨m2,e2⟩:=qe b _ e1
  exact⟨m1++m2,by rw[e2,Array.append_assoc]⟩
 ·obtain⟨m,hn,hl⟩:=I.loc
  refine⟨m,ns m hn,λ i x v e1 e2 e3=>?_⟩
  obtain⟨u,r,l⟩:=hl i x v e1 e2 e3
  refine⟨u,r,?_⟩
  rcases l with l|⟨k,c,e,z⟩
  ·exact .inl l
  ·exact .inr ⟨k,c,e,cellK x c e _ z⟩
 ·obtain⟨v,z⟩:=I.cell x c e
  exact⟨v,cellK x c e v z⟩
 ·obtain⟨m,⟨o,_,_,ho,_⟩,_⟩:=I.loc
  exact free _ o (λ z=>(zW _ z).2.1 rfl) ho I.free
 ·obtain⟨v,o,ho,hd⟩:=I.cell x c e
  exact free c o (λ z=>(zW c z).2.2.1 x c e rfl) ho (I.gE x c e)
 ·obtain⟨e,n,ne,nf,d⟩:=I.pin p hp
  have Pw:p.1∉ch:=λ z=>(zW p.1 z).2.2.2 p hp rfl
  exact⟨keep p.1 p.2 ne nf Pw e n,free p.1 p.2 Pw e n,ne,nf,d⟩
theorem Inv.un {t':Nat}(I:Inv X pins σ H s)(u:Un X.fs [] H H' s.heap h')(bO:i' X.prog X.w H' h'):Inv X pins σ H' {s with heap:=h',toks:=t'}:=by
 obtain⟨m,⟨o,es,ep,ho,r⟩,_⟩:=id I.loc
 obtain⟨sl,hL⟩:=u.any ho I.free (by simp)
 exact I.step (g':=s.gens) (d':=s.drawn) (ch:=[]) (λ _ z=>nomatch z) (λ b o _ hb _ e n=>u.keep b o e n hb (by simp)) (λ b o _ hb _ e n=>u.slot b o e n hb (by simp)) (λ b o _ e n=>u.free b o e n (by simp)) (λ b o _ e=>u.there b o e (by simp)) u.qc u.oF u.qe (λ m' hm=>by
  obtain⟨o',Nf,U_,qX,r'⟩:=hm
  rw[ho]at qX;cases qX
  exact⟨_,Nf,U_,hL,r'⟩) bO I.bare
theorem Inv.call {g':Array GenState}{t':Nat}{d':Drawn}{ch:List Addr}(I:Inv X pins σ H s)(u:Un (Ab X.stack) ch H H' s.heap h')(bO:i' X.prog X.w H' h')(hg:AllBare g')
  (zW:∀b∈ch,(b∈X.ex\/X.s₀.heap.objs.size<=b)/\b≠X.env.locals/\(∀x c,X.env.cells.lookup x=some c->c≠b)/\∀p∈X.pn++pins,p.1≠b):
  Inv X pins σ H' {s with heap:=h',gens:=g',drawn:=d',toks:=t'}:=by
 obtain⟨m,⟨o,es,ep,ho,r⟩,_⟩:=id I.loc
 obtain⟨sl,hL⟩:=u.any ho I.free λ z=>(zW _ z).2.1 rfl
 exact I.step (ch:=ch) zW (λ b o hL hb hc e n=>u.keep b o e n (λ z=>(D3.mp (I.qf b z)).elim hL hb) hc) (λ b o _ _ hc e n=>u.any e n hc) (λ b o hc e n=>u.free b o e n hc) (λ b o hc e=>u.there b o e hc) u.qc u.oF u.qe (λ m' hm=>by
  obtain⟨o',Nf,U_,qX,r'⟩:=hm
  rw[ho]at qX;cases qX
  exact⟨_,Nf,U_,hL,r'⟩) bO hg
theorem Inv.turned {t':Nat}{it:Addr}(I:Inv X pins σ H s)(k:∀b o,b≠it->s.heap.get? b=some o->h'.get? b=some o)(hn:H it=none)(hL:it≠X.env.locals)
  (h1:it∈X.ex\/X.s₀.heap.objs.size<=it) (h2:∀x c,X.env.cells.lookup x=some c->c≠it) (h3:∀p∈X.pn++pins,p.1≠it):Inv X pins σ H {s with heap:=h',toks:=t'}:=by
 have Pu:∀b u,H b=some u->b≠it:=λ b u e z=>by rw[z,hn]at e;cases e
 refine I.step (g':=s.gens) (d':=s.drawn) (ch:=[it]) (λ b hb=>?_) (λ b o _ _ hc e _=>k b o (λ z=>hc (by simp[z])) e) (λ b o _ _ hc e _=>⟨o.slots,k b o (λ z=>hc (by simp[z])) e⟩) (λ _ _ _ _ n=>n)
  (λ b o hc e=>⟨o,k b o (λ z=>hc (by simp[z])) e⟩) (λ _ _ e=>e) (λ _ _ _ e=>e) (λ b ps e=>⟨#[],by rw[e];simp⟩) (λ m hm=>?_) (λ b u e=>?_) I.bare
 ·have e:b=it:=by simpa using hb
  subst e
  exact⟨h1,hL,h2,h3⟩
 ·obtain⟨o,es,ep,ho,r⟩:=hm
  exact⟨o,es,ep,k _ o (J8 hL) ho,r⟩
 ·refine(I.bO b u e).lC (λ c v hc q=>k c v ?_ q) (λ _ q=>q) λ _ _ q=>q
  rcases hc with z|z
  ·rw[z];exact Pu b u e
  ·exact Pu c _ z
theorem Inv.tok (I:Inv X pins σ H s)(t:Nat):Inv X pins σ H {s with toks:=t}:=I.un (h':=s.heap) (t':=t) Un.refl I.bO
theorem Inv.kept {t':Nat}(I:Inv X pins σ H s)(k:∀b u,s.heap.get? b=some u->h'.get? b=some u):Inv X pins σ H {s with heap:=h',toks:=t'}:=I.un (Un.kept k) (I.bO.kept k)
theorem Inv.laid {a:Addr}{o:HO}{t':Nat}(I:Inv X pins σ H s)(k:∀b u,s.heap.get? b=some u->h'.get? b=some u)(hp:s.heap.objs.size<=a)(new:bK X.prog X.w (upd H a o) h' a o):
  Inv X pins σ (upd H a o) {s with heap:=h',toks:=t'}:=I.un (Un.laid k hp (I.bO.fresh hp)) (I.bO.laid k hp new)
theorem Inv.write {x e:Addr}{o:HO}{t':Nat}(I:Inv X pins σ H s)(mu:Rj (H x))(he:e=x\/H e=some (.own x))(k:∀b u,b≠e->s.heap.get? b=some u->h'.get? b=some u)(Ob:∃u,h'.get? e=some u)
  (new:bK X.prog X.w (upd H x o) h' x o):Inv X pins σ (upd H x o) {s with heap:=h',toks:=t'}:=I.un (Un.write mu he k Ob) (I.bO.write mu he k Ob new)
theorem Inv.weak {σ':List (Option V)}(I:Inv X pins σ H s)(hl:σ'.length=σ.length)(w:∀(i:Nat) v,σ'[i]?=some (some v)->σ[i]?=some (some v)):Inv X pins σ' H s:=
 ⟨I.ok,I.os,I.bare,I.base,let⟨m,hn,uh⟩:=I.loc;⟨m,hn,λ i x v e1 e2 e3=>uh i x v e1 (w i v e2) e3⟩,I.cell,I.free,I.gE,I.pin,I.bO,hl.trans I.len⟩
theorem Inv.cL {pins':List (Addr×Obj)}(I:Inv X pins σ H s)(h:∀p∈pins',s.heap.get? p.1=some p.2/\H p.1=none/\p.1≠X.env.locals/\p.1∉X.fs/\∀v,p.2.data≠.cell v):Inv X pins' σ H s:=
 ⟨I.ok,I.os,I.bare,I.base,I.loc,I.cell,I.free,I.gE,λ p hp=>(B8.mp hp).elim (λ z=>I.pin p (m7 _ z)) (h p),I.bO,I.len⟩
theorem tw{N:List Str}(hN:N.Nodup){i j:Nat}{x:Str}(a:N[i]?=some x)(b:N[j]?=some x):i=j:=by
 obtain⟨h1,e1⟩:=i6.mp a
 obtain⟨h2,e2⟩:=i6.mp b
 exact(getElem_inj hN).mp (e1.trans e2.symm)
theorem pf{M:Model}{A:Around}{E:Value->Shared->Prop}{i:Nat}{x:Str}{v:V}{u:Value}{Q:Unit->Shared->Prop}(I:Inv X pins σ H s)(hN:X.N.Nodup)(hi:X.N[i]?=some x)(hx:Loc X.env.scope x)(r:RelV v u)
  (h:∀s',Inv X pins (σ.set i (some v)) H s'->(∃a,Heap.SameBut a s.heap s'.heap/\(a=X.env.locals\/X.env.cells.lookup x=some a))->Q () s') (hf:X.fn x=true\/X.env.scope.names.lookup x=some .local:=by first|exact .inl rfl|exact .inr rfl|assumption):wpAny M A (storeName X.env x u) Q E s:=by
 obtain⟨m,hn,hl⟩:=id I.loc
 have UD:(X.env.scope.kind==.class||(X.env.scope.kind==.module&&X.env.locals != X.env.globals))=false:=by rw[I.ok.kind];rfl
 have VW:i < σ.length:=by rw[I.len];exact(i6.mp hi).1
 have Nx:=I.Nx
 have tracked:∀{a:Addr} {h':Heap},(∃o,s.heap.get? a=some o/\H a=none)->Heap.SameBut a s.heap h'->i' X.prog X.w H h':=λ{a h'} ha hs b ob e=>by
  obtain⟨_,_,Ja⟩:=ha
  refine(I.bO b ob e).lC (λ c w' hc q=>(hs.2 c ?_).trans q) (λ _ q=>q) λ _ _ q=>q
  rintro rfl
  rcases hc with rfl|hc
  ·rw[Ja]at e;cases e
  ·rw[Ja]at hc;cases hc
 rcases hx with hk|hk
 ·refine wpAny_storeName_local hk hn (λ h' Xo hs=>?_) UD
  obtain⟨oL,_,_,Xj,_⟩:=id hn
  refine h _ ⟨I.ok,I.os,I.bare,⟨λ b o e n hb hx=>?_,λ b o e n hb hx=>?_,I.base.free,λ b o e hx=>?_,I.base.qc,I.base.oF,I.base.qe⟩,⟨_,Xo,λ j y v' e1 e2 e3=>?_⟩,λ y c e=>?_,I.free,I.gE,λ p hp=>?_,tracked ⟨oL,Xj,I.free⟩ hs,by simpa using I.len⟩ ⟨_,hs,.inl rfl⟩
  ·exact(hs.2 b (E1 (q9 (E2 e) I.ok.above))).trans (I.base.keep b o e n hb hx)
  ·obtain⟨sl,e1⟩:=I.base.slot b o e n hb hx
   exact⟨sl,(hs.2 b (E1 (q9 (E2 e) I.ok.above))).trans e1⟩
  ·obtain⟨o',e1⟩:=I.base.there b o e hx
   exact⟨o',(hs.2 b (E1 (q9 (E2 e) I.ok.above))).trans e1⟩
  ·by_cases hj:j=i
   ·subst hj
    rw[hi]at e1;cases e1
    rw[getElem?_set_self VW]at e2
    cases e2
    exact⟨u,r,.inl ⟨hk,by simp⟩⟩
   ·rw[getElem?_set_ne (J8 hj)]at e2
    obtain⟨u',r',q⟩:=hl j y v' e1 e2 e3
    refine⟨u',r',?_⟩
    rcases q with⟨k,e⟩|⟨k,c,e,z⟩
    ·refine .inl ⟨k,?_⟩
     have:y≠x:=λ e=>hj (tw hN e1 (e▸hi))
     simp[this,e]
    ·exact .inr ⟨k,c,e,z.sameBut hs (Nx y c e)⟩
  ·obtain⟨w',z⟩:=I.cell y c e
   exact⟨w',z.sameBut hs (Nx y c e)⟩
  ·obtain⟨e,n,ne,nf,d⟩:=I.pin p hp
   exact⟨(hs.2 p.1 ne).trans e,n,ne,nf,d⟩
 ·have UB:X.fn x=true:=by
   rcases hf with z|z
   ·exact z
   ·rw[z]at hk;cases hk
  obtain⟨c,hc⟩:=I.ok.has x (.inl hk)
  obtain⟨w',z⟩:=I.cell x c hc
  refine wpAny_storeName_cell I.ok.kind hk hc z (λ h' zX hs=>?_)
  obtain⟨oc,VO,Uo⟩:=id z
  refine h {s with heap:=h'} ⟨I.ok,I.os,I.bare,⟨λ b o e n hb hx=>?_,λ b o e n hb hx=>?_,I.base.free,λ b o e hx=>?_,I.base.qc,I.base.oF,I.base.qe⟩,⟨m,hn.sameBut hs (J8 (Nx x c hc)),λ j y v' e1 e2 e3=>?_⟩,λ y c' e=>?_,I.free,I.gE,λ p hp=>?_,tracked ⟨oc,VO,I.gE x c hc⟩ hs,by simpa using I.len⟩ ⟨c,hs,.inr hc⟩
  ·exact(hs.2 b (E1 (q9 (E2 e) (I.ok.Q_ x c UB hc)))).trans (I.base.keep b o e n hb hx)
  ·obtain⟨sl,e1⟩:=I.base.slot b o e n hb hx
   exact⟨sl,(hs.2 b (E1 (q9 (E2 e) (I.ok.Q_ x c UB hc)))).trans e1⟩
  ·obtain⟨o',e1⟩:=I.base.there b o e hx
   exact⟨o',(hs.2 b (E1 (q9 (E2 e) (I.ok.Q_ x c UB hc)))).trans e1⟩
  ·by_cases hj:j=i
   ·subst hj
    rw[hi]at e1;cases e1
    rw[getElem?_set_self VW]at e2
    cases e2
    exact⟨u,r,.inr ⟨.inl hk,c,hc,zX⟩⟩
   ·rw[getElem?_set_ne (J8 hj)]at e2
    obtain⟨u',r',q⟩:=hl j y v' e1 e2 e3
    refine⟨u',r',?_⟩
    rcases q with q|⟨k,c',e,z'⟩
    ·exact .inl q
    ·refine .inr ⟨k,c',e,z'.sameBut hs ?_⟩
     rintro rfl
     exact hj (tw hN e1 (I.ok.inj _ _ _ e hc▸hi))
  ·by_cases V0:c'=c
   ·subst V0;exact⟨_,zX⟩
   ·obtain⟨w2,z2⟩:=I.cell y c' e
    exact⟨w2,z2.sameBut hs V0⟩
  ·obtain⟨e,n,ne,nf,d⟩:=I.pin p hp
   refine⟨(hs.2 p.1 ?_).trans e,n,ne,nf,d⟩
   intro q
   rw[q,VO]at e
   have q':oc=p.2:=B2 e
   exact d w' (by rw[<- q'];exact Uo)
theorem mU{M:Model}{A:Around}{E:Value->Shared->Prop}{i:Nat}{x:Str}{v:V}{u:Value}{Q:Unit->Shared->Prop}(I:Inv X pins σ H s)(hN:X.N.Nodup)(hi:X.N[i]?=some x)(hx:Loc X.env.scope x)(r:RelV v u)
  (h:∀s',Inv X pins (σ.set i (some v)) H s'->Q () s') (hf:X.fn x=true\/X.env.scope.names.lookup x=some .local:=by first|exact .inl rfl|exact .inr rfl|assumption):wpAny M A (storeName X.env x u) Q E s:=
 pf I hN hi hx r (λ s' I' _=>h s' I') hf
theorem Inv.Q9 {s':Shared}{ch:List Addr}(I:Inv X pins σ H s)(ho:s'.os=s.os)(u:Un (Ab X.stack) ch H H' s.heap s'.heap)(bO:i' X.prog X.w H' s'.heap)(hg:AllBare s'.gens)
  (zW:∀b∈ch,(b∈X.ex\/X.s₀.heap.objs.size<=b)/\b≠X.env.locals/\(∀x c,X.env.cells.lookup x=some c->c≠b)/\∀p∈X.pn++pins,p.1≠b):Inv X pins σ H' s':=by
 obtain⟨h',g',d',t',o'⟩:=s'
 have e:o'=s.os:=ho
 subst e
 exact I.call (g':=g') (t':=t') (d':=d') u bO hg zW
end
abbrev XK:=Value->Option Addr->Hp->Prop
abbrev St:=List (Option V)
abbrev VK:=V->Hp->Prop
abbrev TE:=St->Hp->VK->Prop
abbrev TT:=St->Hp->(Bool->Hp->Prop)->Prop
abbrev TA:=St->Hp->(List V->Hp->Prop)->Prop
structure Ends where
 nx:St->Hp->Prop
 rt:VK
 bk:St->Hp->Prop:=λ _ _=>False
 ct:St->Hp->Prop:=λ _ _=>False
abbrev TS:=Ends->St->Hp->Prop
def EP(X:Cx)(pins:List (Addr×Obj))(σ:St)(Q:VK)(u:Value)(s':Shared):Prop:=∃v H',Inv X pins σ H' s'/\RelV v u/\Q v H'
def TP(X:Cx)(pins:List (Addr×Obj))(σ:St)(Q:Bool->Hp->Prop)(b:Bool)(s':Shared):Prop:=∃H',Inv X pins σ H' s'/\Q b H'
def AP(X:Cx)(pins:List (Addr×Obj))(σ:St)(Q:List V->Hp->Prop)(us:List Value)(s':Shared):Prop:=∃vs H',Inv X pins σ H' s'/\Vals vs us/\Q vs H'
def SP(X:Cx)(pins:List (Addr×Obj))(D:Ends)(f:Flow)(s':Shared):Prop:=
 match f with
 | .next=>∃σ' H',Inv X pins σ' H' s'/\D.nx σ' H'
 | .brk=>∃σ' H',Inv X pins σ' H' s'/\D.bk σ' H'
 | .cont=>∃σ' H',Inv X pins σ' H' s'/\D.ct σ' H'
 | .ret u=>∃v σ' H',Inv X pins σ' H' s'/\RelV v u/\D.rt v H'
def PE(X:Cx)(e:Expr)(t:TE):Prop:=
 ∀(pins:List (Addr×Obj)) (s:Shared) (σ:St) (H:Hp) (Q:VK),Inv X pins σ H s->t σ H Q->wpAny (model X.prog X.w) X.A (eval e X.env) (EP X pins σ Q) X.xe s
def PT(X:Cx)(e:Expr)(t:TT):Prop:=
 ∀(pins:List (Addr×Obj)) (s:Shared) (σ:St) (H:Hp) (Q:Bool->Hp->Prop),Inv X pins σ H s->t σ H Q->wpAny (model X.prog X.w) X.A (isTrue e X.env (eval e X.env)) (TP X pins σ Q) X.xe s
def PW(X:Cx)(e:Expr)(t:TT):Prop:=
 ∀(whole:Sem Value) (pins:List (Addr×Obj)) (s:Shared) (σ:St) (H:Hp) (Q:Bool->Hp->Prop),Inv X pins σ H s->t σ H Q->wpAny (model X.prog X.w) X.A (isTrue e X.env whole) (TP X pins σ Q) X.xe s
theorem PW.pt {X:Cx}{e:Expr}{t:TT}(h:PW X e t):PT X e t:=h _
def PA(X:Cx)(es:List Expr)(t:TA):Prop:=
 ∀(pos:Pos) (pins:List (Addr×Obj)) (s:Shared) (σ:St) (H:Hp) (Q:List V->Hp->Prop),Inv X pins σ H s->t σ H Q->wpAny (model X.prog X.w) X.A (spliced (backTo pos (starEach es X.env))) (AP X pins σ Q) X.xe s
def PS(X:Cx)(st:Stmt)(t:TS):Prop:=
 ∀(pins:List (Addr×Obj)) (s:Shared) (σ:St) (H:Hp) (D:Ends),Inv X pins σ H s->t D σ H->wpAny (model X.prog X.w) X.A (exec st X.env) (SP X pins D) X.xe s
def vo(X:Cx)(st:List Stmt)(t:TS):Prop:=
 ∀(pins:List (Addr×Obj)) (s:Shared) (σ:St) (H:Hp) (D:Ends),Inv X pins σ H s->t D σ H->wpAny (model X.prog X.w) X.A (execs st X.env) (SP X pins D) X.xe s
theorem cV{α:Type}{t:Sem α}{Q Q':α->Shared->Prop}{M:Model}{A:Around}{E:Value->Shared->Prop}{s:Shared}(h:wpAny M A t Q E s)(hQ:∀a s,Q a s->Q' a s):wpAny M A t Q' E s:=J0 h hQ λ _ _ x=>x
section
variable {X:Cx}
def SS(i:Nat):TE:=λ σ H Q=>∃v,σ[i]?=some (some v)/\Q v H
def tC(v:V):TE:=λ _ H Q=>Q v H
theorem Ll{i:Nat}{x:Str}{pos:Pos}(hN:X.N[i]?=some x)(hv:Rf X.env.scope x)(hd:(x==("__debug__":Str))=false:=by decide)(hcd:(x==("__classdict__":Str))=false:=by decide):PE X (.Name x pos) (SS i):=by
 intro pins s σ H Q I h
 obtain⟨v,e,h⟩:=h
 obtain⟨m,hn,hl⟩:=I.loc
 obtain⟨u,r,l⟩:=hl i x v hN e hv
 have fin:EP X pins σ Q u s:=⟨v,H,I,r,h⟩
 rcases l with⟨hk,hm⟩|⟨hk,c,hc,yr⟩
 ·exact wpAny_Name (wpAny_loadName_local I.ok.kind hk hn hm fin) hd
 ·rcases hk with hk|hk
  ·exact wpAny_Name (wpAny_loadName_cell I.ok.kind hk hc yr fin) hd
  ·exact wpAny_Name (wpAny_loadName_free I.ok.kind hk hc yr fin hcd) hd
theorem vY{i j pos}:PE X (.Constant (.int i) j pos) (tC (.int i)):=λ _ _ _ H _ I h=>wpAny_Constant_int ⟨.int i,H,I.tok _,⟨_,rfl⟩,h⟩
theorem Pc{b j pos}:PE X (.Constant (.bool b) j pos) (tC (.bl b)):=λ _ _ _ H _ I h=>Constant_bool ⟨.bl b,H,I,rfl,h⟩
theorem Lp{j pos}:PE X (.Constant .none j pos) (tC .bx):=λ _ _ _ H _ I h=>Constant_none ⟨.bx,H,I,rfl,h⟩
theorem Ln{x j pos}:PE X (.Constant (.str x) j pos) (tC (.str x)):=λ _ _ _ H _ I h=>Calls.Constant_str ⟨.str x,H,I.tok _,⟨_,rfl⟩,h⟩
def Gl(X:Cx)(x:Str):Prop:=X.env.kindOf x=some .globalImplicit
theorem qK{E:Value->Shared->Prop}{pins:List (Addr×Obj)}{s:Shared}{σ:St}{H:Hp}{x:Str}{u:Value}{pos:Pos}{Q:Value->Shared->Prop}(I:Inv X pins σ H s)(hg:Gl X x)(hm:X.mg x=some u)(h:Q u s)
  (hd:(x==("__debug__":Str))=false:=by decide):wpAny (model X.prog X.w) X.A (eval (.Name x pos) X.env) Q E s:=
 Calls.Name_function_global I.ok.kind hg (Calls.loadGlobal_global (by rw[I.ok.glob];exact I.mod.glob.keeps I.bk) hm h) hd
theorem fA{E:Value->Shared->Prop}{pins:List (Addr×Obj)}{s:Shared}{σ:St}{H:Hp}{x:Str}{u:Value}{pos:Pos}{Q:Value->Shared->Prop}(I:Inv X pins σ H s)(hg:Gl X x)(hm:X.mg x=none)(hv:bootBuiltins x=some u)(h:Q u s)
  (hn:x≠"__name__":=by decide) (hd:(x==("__debug__":Str))=false:=by decide):wpAny (model X.prog X.w) X.A (eval (.Name x pos) X.env) Q E s:=by
 obtain⟨mb,h1,h2⟩:=I.mod.blt
 exact Calls.Name_function_global I.ok.kind hg (Calls.loadGlobal_builtin (by rw[I.ok.glob];exact I.mod.glob.keeps I.bk) hm (by rw[I.ok.blt];exact h1.keeps I.bk) ((h2 x hn).trans hv) h) hd
theorem Gx{x:Str}{v:V}{u:Value}{pos:Pos}(hg:Gl X x)(hm:X.mg x=some u)(r:RelV v u)(hd:(x==("__debug__":Str))=false:=by decide):PE X (.Name x pos) (tC v):=
 λ _ _ _ H _ I h=>qK I hg hm ⟨v,H,I,r,h⟩ hd
theorem GA{x:Str}{v:V}{u:Value}{pos:Pos}(hg:Gl X x)(hm:X.mg x=none)(hv:bootBuiltins x=some u)(r:RelV v u)(hn:x≠"__name__":=by decide)(hd:(x==("__debug__":Str))=false:=by decide):PE X (.Name x pos) (tC v):=
 λ _ _ _ H _ I h=>fA I hg hm hv ⟨v,H,I,r,h⟩ hn hd
variable {a b:Expr}{ta tb:TE}{pos:Pos}
def tB(t:TE):TT:=λ σ H Q=>t σ H λ x H1=>∃c,x=.bl c/\Q c H1
theorem K'{e:Expr}{t:TE}(h:PE X e t)(he:∀whole,isTrue e X.env whole=(do let v <- whole;standAt e.pos;holding [v] (truthy v)):=by intro _;rfl):PT X e (tB t):=by
 intro pins s σ H Q I hw
 refine isTrue_plain (cV (h pins s σ H _ I hw) λ v s1 ⟨x,H1,I1,r1,q1⟩=>?_) (he _)
 obtain⟨d,rfl,q⟩:=q1
 cases r1
 exact w5 ⟨H1,I1,q⟩
variable {tA Rz:TT}{rest:List Expr}
def S'(t u:TT):TT:=λ σ H Q=>t σ H λ c H1=>if c=true then u σ H1 Q else Q false H1
def Ww(t u:TT):TT:=λ σ H Q=>t σ H λ c H1=>if c=true then Q true H1 else u σ H1 Q
def SX(t:TT):TT:=λ σ H Q=>t σ H λ c H1=>Q (!c) H1
theorem Gk(ha:PT X a tA):PW X (.BoolOp .And [a] pos) tA:=by
 intro wh pins s σ H Q I h
 refine isTrue_and (cV (ha pins s σ H Q I h) λ c s1 e=>?_)
 cases c with
 |true=>exact isTrue_and_nil e
 |false=>exact e
theorem K9(ha:PT X a tA):PW X (.BoolOp .Or [a] pos) tA:=by
 intro wh pins s σ H Q I h
 refine isTrue_or (cV (ha pins s σ H Q I h) λ c s1 e=>?_)
 cases c with
 |false=>exact isTrue_or_nil e
 |true=>exact e
theorem K_(ha:PT X a tA)(hb:PW X (.BoolOp .And (b::rest) pos) Rz):PW X (.BoolOp .And (a::b::rest) pos) (S' tA Rz):=by
 intro wh pins s σ H Q I h
 refine isTrue_and (cV (ha pins s σ H _ I h) λ c s1 ⟨H1,I1,q1⟩=>?_)
 cases c with
 |true=>exact hb wh pins s1 σ H1 Q I1 q1
 |false=>exact⟨H1,I1,q1⟩
theorem O_(ha:PT X a tA)(hb:PW X (.BoolOp .Or (b::rest) pos) Rz):PW X (.BoolOp .Or (a::b::rest) pos) (Ww tA Rz):=by
 intro wh pins s σ H Q I h
 refine isTrue_or (cV (ha pins s σ H _ I h) λ c s1 ⟨H1,I1,q1⟩=>?_)
 cases c with
 |true=>exact⟨H1,I1,q1⟩
 |false=>exact hb wh pins s1 σ H1 Q I1 q1
theorem La(ha:PT X a tA):PT X (.UnaryOp .Not a pos) (SX tA):=by
 intro pins s σ H Q I h
 exact isTrue_not (ha pins s σ H (λ c H1=>Q (!c) H1) I h)
def OA(ta tb:TE):TE:=λ σ H Q=>ta σ H λ x H1=>∃c,x=.bl c/\if c=true then tb σ H1 Q else Q (.bl false) H1
theorem Lo{op}{t:TE}(h:PE X a t):PE X (.BoolOp op [a] pos) t:=λ pins s σ H Q I hw=>BoolOp_one (h pins s σ H Q I hw)
theorem Lu(ha:PE X a ta)(hb:PE X (.BoolOp .And (b::rest) pos) tb):PE X (.BoolOp .And (a::b::rest) pos) (OA ta tb):=by
 intro pins s σ H Q I h
 refine BoolOp_and (cV (ha pins s σ H _ I h) λ v s1 ⟨x,H1,I1,r1,q1⟩=>?_)
 obtain⟨c,rfl,q1⟩:=q1
 cases r1
 refine w5 ?_
 cases c with
 |true=>exact hb pins s1 σ H1 Q I1 q1
 |false=>exact⟨.bl false,H1,I1,rfl,q1⟩
end
def dD(K:PySem.W.Frag)(H:Hp)(a:Addr)(xs:List V):Prop:=
 Rd H a (.lst xs)\/
  ∃(o:Obj) (au:Array Value) (n:Nat),K.lookup a=some o/\o.cls=.type "list"/\o.dict=none/\o.data=.seq au n/\au.size<=sizeLine/\Vals xs au.toList
def f_(K:PySem.W.Frag)(H:Hp)(a:Addr)(xs:List V):Prop:=
 Rd H a (.tup xs)\/
  ∃(o:Obj) (au:Array Value) (n:Nat),K.lookup a=some o/\o.cls=.type "tuple"/\o.data=.seq au n/\au.size<=sizeLine/\Vals xs au.toList
def Vh:Value->Option V
 | .none=>some .bx
 | .bool b=>some (.bl b)
 | .int i _=>some (.int i)
 | .str x _=>some (.str x)
 | .bytes b _=>some (.Ej b)
 | .float b _=>some (.Of b)
 | .ref a=>some (.ref a)
 | .type n=>some (.ty n)
 |_=>none
theorem RelV.abs {x:V}{u:Value}(r:RelV x u):Vh u=some x:=by
 cases x with
 |bx=>cases r;rfl
 |bl _=>cases r;rfl
 |int _=>obtain⟨t,rfl⟩:=r;rfl
 |str _=>obtain⟨t,rfl⟩:=r;rfl
 |Ej _=>obtain⟨t,rfl⟩:=r;rfl
 |Of _=>obtain⟨t,rfl⟩:=r;rfl
 |ref _=>cases r;rfl
 |ty _=>cases r;rfl
theorem RelV.inj {x y:V}{u:Value}(r:RelV x u)(q:RelV y u):x=y:=B2 (r.abs.symm.trans q.abs)
theorem Vals.inj:∀{xs ys:List V} {us:List Value},Vals xs us->Vals ys us->xs=ys
 |_,_,_,.nil,.nil=>rfl
 |_,_,_,.cons r t,.cons r' t'=>by rw[r.inj r',Vals.inj t t']
section
variable {X:Cx}{pins:List (Addr×Obj)}{σ:St}{H:Hp}{s:Shared}{a:Addr}{xs ys:List V}
theorem dD.of {K:PySem.W.Frag}(h:H a=some (.lst xs)):dD K H a xs:=.inl (.inl h)
theorem f_.of {K:PySem.W.Frag}(h:H a=some (.tup xs)):f_ K H a xs:=.inl (.inl h)
theorem Inv.list (I:Inv X pins σ H s)(h:dD X.K H a xs):∃au:List Value,Vals xs au/\PlainL s.heap a au.toArray/\xs.length<=sizeLine:=by
 rcases h with h|⟨o,au,n,hk,hc,hd,hs,hz,r⟩
 ·obtain⟨z,au,n,r,e⟩:=h.ok I.bO
  exact⟨au,r,⟨_,n,e,rfl,rfl,rfl⟩,z⟩
 ·refine⟨au.toList,r,⟨o,n,I.oE a o hk,hc,hd,by simpa using hs⟩,?_⟩
  have e:=r.length
  simp only[o7]at e
  omega
theorem Inv.tuple (I:Inv X pins σ H s)(h:f_ X.K H a xs):∃au:List Value,Vals xs au/\IsTup s.heap a au.toArray/\xs.length<=sizeLine:=by
 rcases h with h|⟨o,au,n,hk,hc,hs,hz,r⟩
 ·obtain⟨z,au,r,p⟩:=h.ok I.bO
  exact⟨au,r,p,z⟩
 ·refine⟨au.toList,r,⟨o,I.oE a o hk,hc,n,by simpa using hs⟩,?_⟩
  have e:=r.length
  simp only[o7]at e
  omega
theorem Inv.tU (I:Inv X pins σ H s)(h:dD X.K H a xs)(h':dD X.K H a ys):xs=ys:=by
 obtain⟨au,r,⟨o,n,e,_,_,d⟩,_⟩:=I.list h
 obtain⟨its',r',⟨o',n',e',_,_,d'⟩,_⟩:=I.list h'
 rw[e]at e';cases e'
 rw[d]at d'
 injection d' with d1 _
 have:au=its':=by simpa using J7 Array.toList d1
 subst this
 exact r.inj r'
theorem Inv.oZ (I:Inv X pins σ H s)(h:f_ X.K H a xs)(h':f_ X.K H a ys):xs=ys:=by
 obtain⟨au,r,⟨o,e,_,n,d⟩,_⟩:=I.tuple h
 obtain⟨its',r',⟨o',e',_,n',d'⟩,_⟩:=I.tuple h'
 rw[e]at e';cases e'
 rw[d]at d'
 injection d' with d1 _
 have:au=its':=by simpa using J7 Array.toList d1
 subst this
 exact r.inj r'
end
abbrev Cx.ox (X:Cx)(E:Value->Shared->Prop):Cx:={X with xe:=E}
abbrev Cx.NY (X:Cx):Cx:=X.ox λ _ _=>False
theorem Cx.Ok.ox {X:Cx}(ok:X.Ok)(E:Value->Shared->Prop):(X.ox E).Ok:=
 ⟨ok.mod,ok.kind,ok.glob,ok.blt,ok.above,ok.inj,ok.has,ok.Q_,ok.hd,ok.frames,ok.RR,ok.V9,ok.bs,ok.EB,ok.zH,ok.HI,ok.lL,ok.Nc⟩
theorem Cx.Ok.gS {X:Cx}{E:Value->Shared->Prop}(ok:(X.ox E).Ok):X.Ok:=
 ⟨ok.mod,ok.kind,ok.glob,ok.blt,ok.above,ok.inj,ok.has,ok.Q_,ok.hd,ok.frames,ok.RR,ok.V9,ok.bs,ok.EB,ok.zH,ok.HI,ok.lL,ok.Nc⟩
section
variable {X:Cx}{pins:List (Addr×Obj)}{σ:St}{H:Hp}{s:Shared}{E:Value->Shared->Prop}
theorem Inv.ox (I:Inv X pins σ H s)(E:Value->Shared->Prop):Inv (X.ox E) pins σ H s:=⟨I.ok.ox E,I.os,I.bare,I.base,I.loc,I.cell,I.free,I.gE,I.pin,I.bO,I.len⟩
theorem Inv.gS (I:Inv (X.ox E) pins σ H s):Inv X pins σ H s:=⟨I.ok.gS,I.os,I.bare,I.base,I.loc,I.cell,I.free,I.gE,I.pin,I.bO,I.len⟩
theorem SP.gS {D:Ends}{f:Flow}{s':Shared}(h:SP (X.ox E) pins D f s'):SP X pins D f s':=by
 cases f with
 |next=>obtain⟨σ',H',I,q⟩:=h;exact⟨σ',H',I.gS,q⟩
 |brk=>obtain⟨σ',H',I,q⟩:=h;exact⟨σ',H',I.gS,q⟩
 |cont=>obtain⟨σ',H',I,q⟩:=h;exact⟨σ',H',I.gS,q⟩
 |ret u=>obtain⟨v,σ',H',I,r,q⟩:=h;exact⟨v,σ',H',I.gS,r,q⟩
theorem vo.NY {st:List Stmt}{t:TS}(h:vo X.NY st t):vo X st t:=λ pins s σ H D I hw=>
 J0 (h pins s σ H D (I.ox _) hw) (λ _ _ q=>q.gS) λ _ _ z=>False.elim z
end
section
variable {X:Cx}{st:Stmt}{rest:List Stmt}{t u:TS}{e:Expr}{te:TE}{pos:Pos}
def Oy:TS:=λ D σ H=>D.nx σ H
def SV(t u:TS):TS:=λ D σ H=>t {D with nx:=u D} σ H
theorem Gp:vo X [] Oy:=λ _ _ σ H _ I h=>wpAny_execs_nil ⟨σ,H,I,h⟩
theorem BW(h1:PS X st t)(h2:vo X rest u):vo X (st::rest) (SV t u):=by
 intro pins s σ H D I h
 refine wpAny_execs_cons (cV (h1 pins s σ H {D with nx:=u D} I h) λ f s1 q=>?_)
 cases f with
 |next=>
  obtain⟨σ',H',I',q⟩:=q
  exact h2 pins s1 σ' H' D I' q
 |ret v=>exact q
 |brk=>exact q
 |cont=>exact q
theorem Gn(h1:PS X st t):vo X [st] t:=by
 intro pins s σ H D I h
 refine wpAny_execs_cons (cV (h1 pins s σ H D I h) λ f s1 q=>?_)
 cases f with
 |next=>exact wpAny_execs_nil q
 |ret v=>exact q
 |brk=>exact q
 |cont=>exact q
theorem Inv.quiet {pins:List (Addr×Obj)}{σ:St}{H:Hp}{s:Shared}(I:Inv X pins σ H s):interactive X.env=false:=by simp[interactive,I.ok.kind]
def Oz(te:TE):TS:=λ D σ H=>te σ H λ _ H1=>D.nx σ H1
theorem Gq(he:PE X e te)(hs:swapsWith e none pos.line X.env=pure false:=by rfl):PS X (.Expr e pos) (Oz te):=by
 intro pins s σ H D I h
 exact wpAny_Expr_any (cV (he pins s σ H _ I h) λ v s1 ⟨x,H1,I1,r1,q1⟩=>⟨σ,H1,I1,q1⟩) I.quiet hs
def SW(te:TE):TS:=λ D σ H=>te σ H D.rt
theorem Lc(he:PE X e te):PS X (.Return (some e) pos) (SW te):=by
 intro pins s σ H D I h
 exact wpAny_Return_some (cV (he pins s σ H _ I h) λ v s1 ⟨x,H1,I1,r1,q1⟩=>⟨x,σ,H1,I1,r1,q1⟩)
def S0(c:TT)(t u:TS):TS:=λ D σ H=>c σ H λ b H1=>if b=true then t D σ H1 else u D σ H1
theorem O'{c:Expr}{a b:List Stmt}{tc:TT}(hc:PT X c tc)(ha:vo X a t)(hb:vo X b u):PS X (.If c a b pos) (S0 tc t u):=by
 intro pins s σ H D I h
 refine wpAny_If (cV (hc pins s σ H _ I h) λ d s1 ⟨H1,I1,q1⟩=>?_)
 cases d with
 |true=>exact ha pins s1 σ H1 D I1 q1
 |false=>exact hb pins s1 σ H1 D I1 q1
end
abbrev TG:=V->St->Hp->(St->Hp->Prop)->Prop
abbrev yS:=List V->St->Hp->(St->Hp->Prop)->Prop
def PG(X:Cx)(target:Expr)(t:TG):Prop:=
 ∀(pins:List (Addr×Obj)) (s:Shared) (σ:St) (H:Hp) (v:V) (u:Value) (Q:St->Hp->Prop),Inv X pins σ H s->RelV v u->t v σ H Q->
  wpAny (model X.prog X.w) X.A (assign target X.env u) (λ _ s'=>∃σ' H',Inv X pins σ' H' s'/\Q σ' H') X.xe s
def NQ(X:Cx)(ts:List Expr)(t:yS):Prop:=
 ∀(pins:List (Addr×Obj)) (s:Shared) (σ:St) (H:Hp) (vs:List V) (us:List Value) (Q:St->Hp->Prop),Inv X pins σ H s->Vals vs us->t vs σ H Q->
  wpAny (model X.prog X.w) X.A (assignInOrder ((assignEach ts X.env).map (·.2)) us) (λ _ s'=>∃σ' H',Inv X pins σ' H' s'/\Q σ' H') X.xe s
abbrev Ar:=V->V->V->Hp->(Hp->Prop)->Prop
def rS(X:Cx)(t:Ar):Prop:=
 ∀(pins:List (Addr×Obj)) (s:Shared) (σ:St) (H:Hp) (o i v:V) (ov iv u:Value) (Q:Hp->Prop),Inv X pins σ H s->RelV o ov->RelV i iv->RelV v u->t o i v H Q->
  wpAny (model X.prog X.w) X.A (setItem ov iv u) (λ _ s'=>∃H',Inv X pins σ H' s'/\Q H') X.xe s
abbrev Sy:=V->V->Hp->VK->Prop
def Wi(X:Cx)(op:Operator)(t:Sy):Prop:=
 ∀(pins:List (Addr×Obj)) (s:Shared) (σ:St) (H:Hp) (x y:V) (v u:Value) (Q:VK),Inv X pins σ H s->RelV x v->RelV y u->t x y H Q->
  wpAny (model X.prog X.w) X.A (inplaceOp op v u) (EP X pins σ Q) X.xe s
section
variable {X:Cx}{pos:Pos}
def eX(i:Nat):TG:=λ v σ H Q=>Q (σ.set i (some v)) H
theorem aL{i:Nat}{x:Str}(hN:X.N.Nodup)(hi:X.N[i]?=some x)(hx:Loc X.env.scope x)(hf:X.fn x=true\/X.env.scope.names.lookup x=some .local:=by first|exact .inl rfl|exact .inr rfl|assumption):PG X (.Name x pos) (eX i):=by
 intro pins s σ H v u Q I r h
 exact wpAny_assign_Name (mU I hN hi hx r (λ s' I'=>⟨_,H,I',h⟩) hf)
def Aa:yS:=λ vs σ H Q=>vs=[]/\Q σ H
def jE(t:TG)(u:yS):yS:=λ vs σ H Q=>∃v r,vs=v::r/\t v σ H λ σ' H'=>u r σ' H' Q
theorem mj:NQ X [] Aa:=by
 intro pins s σ H vs us Q I r h
 obtain⟨e,h⟩:=h
 subst e
 cases r
 exact assignInOrder_nil ⟨σ,H,I,h⟩
theorem eU{e:Expr}{es:List Expr}{t:TG}{u:yS}(h1:PG X e t)(h2:NQ X es u)
  (hs:(assignEach (e::es) X.env).map (·.2)=assign e X.env::(assignEach es X.env).map (·.2):=by rfl):NQ X (e::es) (jE t u):=by
 intro pins s σ H vs us Q I r h
 obtain⟨v,vr,e1,h⟩:=h
 subst e1
 cases r with
 |cons r rr=>
  rw[hs]
  refine assignInOrder_cons (cV (h1 pins s σ H _ _ _ I r h) λ _ s1 ⟨σ1,H1,I1,q1⟩=>?_)
  exact h2 pins s1 σ1 H1 _ _ Q I1 rr q1
def DL(K:PySem.W.Frag)(n:Nat)(t:yS):TG:=λ v σ H Q=>∃a xs,v=.ref a/\f_ K H a xs/\xs.length=n/\t xs σ H Q
theorem qw{es:List Expr}{k:Nat}{t:yS}{n:Nat}(hc:X.calm=true)(h:NQ X es t)
  (hn:(assignEach es X.env).length=n:=by rfl) (hst:(assignEach es X.env).findIdx? (·.1)=none:=by rfl):PG X (.Tuple es k pos) (DL X.K n t):=by
 intro pins s σ H v u Q I r hw
 obtain⟨a,xs,e1,hq,hl,hw⟩:=hw
 subst e1
 cases r
 obtain⟨au,rv,ht,hz⟩:=I.tuple hq
 refine assign_Tuple_tuple (I.ok.hd hc) ht (by simp[hn,<- hl,rv.length]) hst λ h' hx=>?_
 have I1:Inv X pins σ H {s with heap:=h'}:=I.kept (t':=s.toks) λ b o e=>hx b o (E1 (E2 e)) e
 exact h pins _ σ H xs _ Q I1 (by simpa using rv) hw
def U8(to ti:TE)(t:Ar):TG:=λ v σ H Q=>to σ H λ o H1=>ti σ H1 λ i H2=>t o i v H2 λ H3=>Q σ H3
theorem Li{o i:Expr}{to ti:TE}{t:Ar}(ho:PE X o to)(hi:PE X i ti)(hs:rS X t)
  (ha:∀v,assign (.Subscript o i pos) X.env v=(do
   let ov <- holding [v] (eval o X.env)
   let iv <- holding [v,ov] (eval i X.env)
   standAt pos
   holding [v,ov,iv] (setItem ov iv v)
   release [v,ov,iv] []):=by intro _;rfl):PG X (.Subscript o i pos) (U8 to ti t):=by
 intro pins s σ H v u Q I r h
 rw[ha]
 refine G8 (C5 (cV (ho pins s σ H _ I h) λ ov s1 ⟨x,H1,I1,r1,q1⟩=>?_))
 refine G8 (C5 (cV (hi pins s1 σ H1 _ I1 q1) λ iv s2 ⟨y,H2,I2,r2,q2⟩=>?_))
 refine G8 (wpAny_standAt (G8 (C5 (cV (hs pins s2 σ H2 x y v ov iv u _ I2 r1 r2 r q2) λ _ s3 ⟨H3,I3,q3⟩=>?_))))
 exact wpAny_release ⟨σ,H3,I3,q3⟩
def EV(te:TE)(g:TG):TS:=λ D σ H=>te σ H λ x H1=>g x σ H1 D.nx
theorem Lf{tg e:Expr}{te:TE}{g:TG}(he:PE X e te)(hg:PG X tg g)(hs:swapsWithSole [tg] e pos.line X.env=pure false:=by rfl)(hw:swappedStores [tg] e X.env=pure none:=by rfl)
  (h1:(assignEach [tg] X.env).map (·.2)=[assign tg X.env]:=by rfl):PS X (.Assign [tg] e pos) (EV te g):=by
 intro pins s σ H D I h
 refine wpAny_Assign_stores (cV (he pins s σ H _ I h) λ v s1 ⟨x,H1,I1,r1,q1⟩=>?_) hs hw
 rw[h1]
 exact cV (hg pins s1 σ H1 x v _ I1 r1 q1) λ _ s2 q=>q
theorem Lb{i:Nat}{x:Str}{e:Expr}{te:TE}{pos':Pos}(hN:X.N.Nodup)(hi:X.N[i]?=some x)(hx:Loc X.env.scope x)(he:PE X e te)(hs:swapsWith e (some (.Name x pos')) pos.line X.env=pure false:=by rfl)(hf:X.fn x=true\/X.env.scope.names.lookup x=some .local:=by first|exact .inl rfl|exact .inr rfl|assumption):
  PS X (.Assign [.Name x pos'] e pos) (EV te (eX i)):=by
 intro pins s σ H D I h
 refine wpAny_Assign_Name (cV (he pins s σ H _ I h) λ v s1 ⟨y,H1,I1,r1,q1⟩=>?_) hs
 exact mU I1 hN hi hx r1 (λ s2 I2=>⟨_,H1,I2,q1⟩) hf
def S_(i:Nat)(te:TE)(ti:Sy):TS:=λ D σ H=>∃x,σ[i]?=some (some x)/\te σ H λ y H1=>ti x y H1 λ z H2=>D.nx (σ.set i (some z)) H2
theorem Le{i:Nat}{x:Str}{e:Expr}{te:TE}{op:Operator}{ti:Sy}{pos':Pos}(hN:X.N.Nodup)(hi:X.N[i]?=some x)(hx:Loc X.env.scope x)(he:PE X e te)(ho:Wi X op ti)(hf:X.fn x=true\/X.env.scope.names.lookup x=some .local:=by first|exact .inl rfl|exact .inr rfl|assumption):
  PS X (.AugAssign (.Name x pos') op e pos) (S_ i te ti):=by
 intro pins s σ H D I h
 obtain⟨v,e1,h⟩:=h
 obtain⟨m,hn,hl⟩:=I.loc
 have Wo:Rf X.env.scope x:=by rcases hx with k|k;exact .inl k;exact .inr (.inl k)
 obtain⟨u,r,l⟩:=hl i x v hi e1 Wo
 refine wpAny_AugAssign_Name ?_
 have go:wpAny (model X.prog X.w) X.A (eval e X.env) (λ w s₂=>wpAny (model X.prog X.w) X.A (inplaceOp op u w) (λ r s₃=>wpAny (model X.prog X.w) X.A (storeName X.env x r) (λ _=>SP X pins D .next) X.xe s₃) X.xe s₂) X.xe s:=by
  refine cV (he pins s σ H _ I h) λ w s1 ⟨y,H1,I1,r1,q1⟩=>?_
  refine cV (ho pins s1 σ H1 v y u w _ I1 r r1 q1) λ z s2 ⟨zv,H2,I2,r2,q2⟩=>?_
  exact mU I2 hN hi hx r2 (λ s3 I3=>⟨_,H2,I3,q2⟩) hf
 rcases l with⟨hk,hm⟩|⟨hk,c,hc,yr⟩
 ·exact wpAny_loadName_local I.ok.kind hk hn hm go
 ·rcases hk with hk|hk
  ·exact wpAny_loadName_cell I.ok.kind hk hc yr go
  ·rcases hx with k|k
   ·have:X.env.scope.names.lookup x=some .free:=hk
    rw[k]at this;cases this
   ·have:X.env.scope.names.lookup x=some .free:=hk
    rw[k]at this;cases this
def WU(f:Int->Int->Int):Sy:=λ x y H Q=>∃i j,x=.int i/\y=.int j/\Q (.int (f i j)) H
theorem MB:Wi X .Add (WU λ i j=>i+j):=by
 intro pins s σ H x y v u Q I r1 r2 h
 obtain⟨i,j,e1,e2,q⟩:=h
 subst e1;subst e2
 obtain⟨t,rfl⟩:=r1
 obtain⟨t',rfl⟩:=r2
 exact iadd_int ⟨.int _,H,I.tok _,⟨_,rfl⟩,q⟩
end
section
variable {X:Cx}{pos:Pos}
def JH(c:TT)(tb:TS):TS:=λ D σ H=>∃W:Nat->St->Hp->Prop,(∃m,W m σ H)/\∀m σ H,W m σ H->
 c σ H λ b H1=>if b=true then ∃N:St->Hp->Prop,(∀σ' H',N σ' H'->∃m',m' < m/\W m' σ' H')/\tb {D with nx:=N,ct:=N,bk:=D.nx} σ H1 else D.nx σ H1
theorem BY{c:Expr}{body:List Stmt}{tc:TT}{tb:TS}(hp:PassesOwn (model X.prog X.w) X.A X.env X.xe)(hc:PT X c tc)(hb:vo X body tb):PS X (.While c body [] pos) (JH tc tb):=by
 intro pins s σ H D I h
 obtain⟨W,⟨m0,w0⟩,turn⟩:=h
 refine wpAny_While (codeAny_whileLoop (λ n s'=>∃σ' H',Inv X pins σ' H' s'/\W n σ' H') ?_ m0 ⟨σ,H,I,w0⟩)
 rintro n s1 ⟨σ1,H1,I1,w1⟩
 refine B4 hp (cV (hc pins s1 σ1 H1 _ I1 (turn n σ1 H1 w1)) λ b s2 ⟨H2,I2,q2⟩=>?_)
 cases b with
 |true=>
  obtain⟨N,hN,q2⟩:=q2
  rw[J9 rfl]
  refine B4 hp (cV (hb pins s2 σ1 H2 _ I2 q2) λ f s3 q3=>?_)
  cases f with
  |next=>
   obtain⟨σ3,H3,I3,n3⟩:=q3
   obtain⟨m',hm,w3⟩:=hN σ3 H3 n3
   exact⟨m',hm,σ3,H3,I3,w3⟩
  |cont=>
   obtain⟨σ3,H3,I3,n3⟩:=q3
   obtain⟨m',hm,w3⟩:=hN σ3 H3 n3
   exact⟨m',hm,σ3,H3,I3,w3⟩
  |brk=>exact q3
  |ret v=>exact q3
 |false=>
  rw[K0 p5]
  exact wpAny_execs_nil ⟨σ1,H2,I2,q2⟩
end
structure It where
 go:Nat->Hp->Prop
 EE:Nat->Hp->V->Hp->Prop
 stop:Nat->Hp->Prop
def gB(X:Cx)(pins:List (Addr×Obj))(H:Hp)(b:Addr):Prop:=
 H b=none/\b≠X.env.locals/\b∉X.fs/\(b∈X.ex\/X.s₀.heap.objs.size<=b)/\(∀x c,X.env.cells.lookup x=some c->c≠b)/\∀p∈X.pn++pins,p.1≠b
theorem Inv.iS {X:Cx}{pins:List (Addr×Obj)}{σ:St}{H H':Hp}{s:Shared}{b:Addr}(I:Inv X pins σ H s)(hb:s.heap.objs.size<=b)(hn:H' b=none):gB X pins H' b:=by
 refine⟨hn,Nat.ne_of_gt (q9 I.lt hb),I.TN hb,.inr (E8 I.sz hb),λ x c e z=>?_,λ p hp z=>?_⟩
 ·obtain⟨v,q⟩:=I.cell x c e
  exact absurd (q9 q.lt (by rw[z];exact hb)) (C9 _)
 ·exact absurd (q9 (E2 (I.pin p hp).1) (by rw[z];exact hb)) (C9 _)
structure Turn(P:Program)(w:World)(K:PySem.W.Frag)(tg:Expr)(J:It)(fp:List Addr)(it:Addr)(tn:Nat->Heap->Prop):Prop where
 mem:it∈fp
 obj:∀i h,tn i h->∀b∈fp,∃o,h.get? b=some o/\∀v,o.data≠.cell v
 keep:∀i h h',tn i h->(∀b∈fp,∀o,h.get? b=some o->h'.get? b=some o)->tn i h'
 item:∀(X:Cx),X.prog=P->X.w=w->X.K=K->X.calm=true->∀(i:Nat) (pins:List (Addr×Obj)) (s:Shared) (σ:St) (H:Hp) (E:Value->Shared->Prop),Inv X pins σ H s->(∀b∈fp,gB X pins H b)->tn i s.heap->J.go i H->
  wpAny (model P w) X.A (pyNext (.ref it)) (λ r s1=>∃u,r=some u/\
   wpAny (model P w) X.A (letOwnedTupleGo tg (.ref it) u) (λ _ s2=>∃x H',Inv X pins σ H' s2/\RelV x u/\J.EE i H x H'/\tn (i+1) s2.heap/\∀b∈fp,H' b=none) E s1) E s
 done:∀(X:Cx),X.prog=P->X.w=w->X.K=K->X.calm=true->∀(i:Nat) (pins:List (Addr×Obj)) (s:Shared) (σ:St) (H:Hp) (E:Value->Shared->Prop),Inv X pins σ H s->(∀b∈fp,gB X pins H b)->tn i s.heap->J.stop i H->
  wpAny (model P w) X.A (pyNext (.ref it)) (λ r s1=>r=none/\Inv X pins σ H s1) E s
 self:∀(A:Around) (i:Nat) (s:Shared) (Q:Value->Shared->Prop) (E:Value->Shared->Prop),tn i s.heap->Q (.ref it) s->wpAny (model P w) A (pyIter (.ref it)) Q E s
abbrev TI:=St->Hp->(It->Hp->Prop)->Prop
def Wj(X:Cx)(pins:List (Addr×Obj))(σ:St)(tg:Expr)(R:It->Hp->Prop)(R_:Value)(s2:Shared):Prop:=
 ∃(it:Addr) (fp:List Addr) (tn:Nat->Heap->Prop) (J:It) (H':Hp),R_=.ref it/\Inv X pins σ H' s2/\Turn X.prog X.w X.K tg J fp it tn/\tn 0 s2.heap/\(∀b∈fp,gB X pins H' b)/\R J H'
def PI(X:Cx)(tg iter:Expr)(wi:TI):Prop:=
 ∀(pins:List (Addr×Obj)) (s:Shared) (σ:St) (H:Hp) (R:It->Hp->Prop),Inv X pins σ H s->wi σ H R->
  wpAny (model X.prog X.w) X.A (eval iter X.env) (λ v s1=>wpAny (model X.prog X.w) X.A (pyIter v) (Wj X pins σ tg R) X.xe s1) X.xe s
theorem yw{M:Model}{A:Around}{E:Value->Shared->Prop}{s:Shared}{tg:Expr}{it:Addr}{u:Value}{o:Obj}{n:String}{vs:Array Value}{Q:Unit->Shared->Prop}(ho:s.heap.get? it=some o)(hc:o.cls=.type n)(hd:o.data=.fields vs)
  (hn:["enumerate","zip","dict_itemiterator","dict_reverseitemiterator","odict_iterator","itertools.zip_longest","itertools.pairwise"].contains n=false) (hQ:Q () s):wpAny M A (letOwnedTupleGo tg (.ref it) u) Q E s:=by
 unfold letOwnedTupleGo
 cases tg <;> first
  |exact G9 hQ
  |(cases u <;> first
    |exact G9 hQ
    |(refine G8 (wpAny_load ho ?_)
      rw[hc,hd]
      show wpAny M A (if(["enumerate","zip","dict_itemiterator","dict_reverseitemiterator","odict_iterator","itertools.zip_longest","itertools.pairwise"].contains n&&vs[0]?==some (rawInt _))=true then _ else _) Q E s
      rw[K0 (by intro h;rw[hn,Bool.false_and]at h;cases h)]
      exact G9 hQ))
def SF(K:PySem.W.Frag)(a:Addr):It:=
 ⟨λ i H=>∃xs x,dD K H a xs/\xs[i]?=some x,λ i H x H'=>H'=H/\∀xs,dD K H a xs->xs[i]?=some x,λ i H=>∃xs,dD K H a xs/\xs.length<=i⟩
def Vn(K:PySem.W.Frag)(a:Addr):It:=
 ⟨λ i H=>∃xs x,f_ K H a xs/\xs[i]?=some x,λ i H x H'=>H'=H/\∀xs,f_ K H a xs->xs[i]?=some x,λ i H=>∃xs,f_ K H a xs/\xs.length<=i⟩
def SE(lo:Int)(n:Nat):It:=⟨λ i _=>i < n,λ i H x H'=>H'=H/\x=.int (lo+i),λ i _=>n<=i⟩
theorem zg{P:Program}{w:World}{K:PySem.W.Frag}{tg:Expr}(a it:Addr):Turn P w K tg (SF K a) [it] it (λ i h=>h.IsListIter it a i) where
 mem:=by simp
 obj:=λ i h st b hb=>by
  have e:b=it:=by simpa using hb
  subst e
  obtain⟨o,e,c,d⟩:=st
  exact⟨o,e,λ v z=>by rw[d]at z;cases z⟩
 keep:=λ i h h' st k=>st.at λ o e=>k it (by simp) o e
 item:=by
  intro X hP hw hK hc i pins s σ H E I hf st hg
  subst hP hw hK
  obtain⟨xs,x,hq,hx⟩:=hg
  obtain⟨au,rv,p,hz⟩:=I.list hq
  obtain⟨u,hu,ru⟩:=rv.get hx
  obtain⟨f0,f1,f2,f3,f4,f5⟩:=hf it (by simp)
  refine wpAny_pyNext_list_item st p.isList (x:=u) (by simpa using hu) λ h' aK sb=>?_
  have I1:Inv X pins σ H {s with heap:=h'}:=I.turned (t':=s.toks) (λ b o hb e=>(sb.2 b hb).trans e) f0 f1 f3 f4 f5
  obtain⟨o,e,c,d⟩:=id aK
  exact⟨u,rfl,yw (s:={s with heap:=h'}) e c d (by decide) ⟨x,H,I1,ru,⟨rfl,λ ys hy=>by rw[I.tU hy hq];exact hx⟩,aK,λ b hb=>(hf b hb).1⟩⟩
 done:=by
  intro X hP hw hK hc i pins s σ H E I hf st hg
  subst hP hw hK
  obtain⟨xs,hq,hx⟩:=hg
  obtain⟨au,rv,p,hz⟩:=I.list hq
  obtain⟨f0,f1,f2,f3,f4,f5⟩:=hf it (by simp)
  have hl:=rv.length
  exact wpAny_pyNext_list_end (I.ok.hd hc) st p.isList (by simp;omega) λ h' eb=>⟨rfl,I.turned (t':=s.toks) (λ b o hb e=>eb b o hb e) f0 f1 f3 f4 f5⟩
 self:=λ _ _ _ _ _ st h=>wpAny_pyIter_listiter st h
theorem vB{P:Program}{w:World}{K:PySem.W.Frag}{tg:Expr}(a it:Addr):Turn P w K tg (Vn K a) [it] it (λ i h=>h.IsTupleIter it a i) where
 mem:=by simp
 obj:=λ i h st b hb=>by
  have e:b=it:=by simpa using hb
  subst e
  obtain⟨o,e,c,d⟩:=st
  exact⟨o,e,λ v z=>by rw[d]at z;cases z⟩
 keep:=λ i h h' st k=>st.at λ o e=>k it (by simp) o e
 item:=by
  intro X hP hw hK hc i pins s σ H E I hf st hg
  subst hP hw hK
  obtain⟨xs,x,hq,hx⟩:=hg
  obtain⟨au,rv,p,hz⟩:=I.tuple hq
  obtain⟨u,hu,ru⟩:=rv.get hx
  obtain⟨f0,f1,f2,f3,f4,f5⟩:=hf it (by simp)
  refine wpAny_pyNext_tuple_item st (show s.heap.IsTuple a au.toArray from p) (x:=u) (by simpa using hu) λ h' aK sb=>?_
  have I1:Inv X pins σ H {s with heap:=h'}:=I.turned (t':=s.toks) (λ b o hb e=>(sb.2 b hb).trans e) f0 f1 f3 f4 f5
  obtain⟨o,e,c,d⟩:=id aK
  exact⟨u,rfl,yw (s:={s with heap:=h'}) e c d (by decide) ⟨x,H,I1,ru,⟨rfl,λ ys hy=>by rw[I.oZ hy hq];exact hx⟩,aK,λ b hb=>(hf b hb).1⟩⟩
 done:=by
  intro X hP hw hK hc i pins s σ H E I hf st hg
  subst hP hw hK
  obtain⟨xs,hq,hx⟩:=hg
  obtain⟨au,rv,p,hz⟩:=I.tuple hq
  obtain⟨f0,f1,f2,f3,f4,f5⟩:=hf it (by simp)
  have hl:=rv.length
  exact wpAny_pyNext_tuple_end (I.ok.hd hc) st (show s.heap.IsTuple a au.toArray from p) (by simp;omega) λ h' eb=>⟨rfl,I.turned (t':=s.toks) (λ b o hb e=>eb b o hb e) f0 f1 f3 f4 f5⟩
 self:=λ _ _ _ _ _ st h=>wpAny_pyIter_tupleiter st h
theorem vC{P:Program}{w:World}{K:PySem.W.Frag}{tg:Expr}(it:Addr)(lo:Int)(n:Nat):Turn P w K tg (SE lo n) [it] it (λ i h=>IsRangeIter h it (lo+(i:Nat)*1) ((n:Int) - (i:Nat)) 1) where
 mem:=by simp
 obj:=λ i h st b hb=>by
  have e:b=it:=by simpa using hb
  subst e
  exact⟨_,st,λ v z=>by
   have z':Data.fields _=Data.cell v:=z
   cases z'⟩
 keep:=λ i h h' st k=>k it (by simp) _ st
 item:=by
  intro X hP hw hK hc i pins s σ H E I hf st hg
  subst hP hw hK
  obtain⟨f0,f1,f2,f3,f4,f5⟩:=hf it (by simp)
  have W:=Walks.range (prog:=X.prog) (w:=X.w) (I.ok.hd hc) it lo 1 n
  refine W.item i s _ _ hg st λ v h' tk hv aK kk=>?_
  obtain⟨t,rfl⟩:=hv
  have I1:Inv X pins σ H {s with heap:=h',toks:=tk}:=I.turned (λ b o hb e=>kk b o (by simpa using hb) e) f0 f1 f3 f4 f5
  refine⟨_,rfl,yw (s:={s with heap:=h',toks:=tk}) (n:="range_iterator") aK rfl rfl (by decide) ⟨.int (lo+i),H,I1,⟨t,?_⟩,⟨rfl,rfl⟩,aK,λ b hb=>(hf b hb).1⟩⟩
  rw[Int.mul_one]
 done:=by
  intro X hP hw hK hc i pins s σ H E I hf st hg
  subst hP hw hK
  obtain⟨f0,f1,f2,f3,f4,f5⟩:=hf it (by simp)
  exact wpAny_pyNext_range_end (I.ok.hd hc) st (by have:n<=i:=hg;omega) λ h' eb=>⟨rfl,I.turned (t':=s.toks) (λ b o hb e=>eb b o hb e) f0 f1 f3 f4 f5⟩
 self:=λ _ _ _ _ _ st h=>wpAny_pyIter_rangeiter st h
section
variable {X:Cx}{tg:Expr}
theorem BM{pins:List (Addr×Obj)}{σ:St}{H:Hp}{s:Shared}{R:It->Hp->Prop}{E:Value->Shared->Prop}{lo hi:Int}{t u v:Tok}{tk:Nat}(I:Inv X pins σ H s)(h1: -(2^62)<=lo)(h2:lo < 2^62)(h3: -(2^62)<=hi)(h4:hi < 2^62)
  (q:R (SE lo (hi - lo).toNat) H):wpAny (model X.prog X.w) X.A (pyIter (.ref s.heap.objs.size)) (Wj X pins σ tg R) E {s with heap:=s.heap.push {cls:=.type "range",data:=.fields #[.int lo t,.int hi u,.int 1 v]},toks:=tk}:=by
 refine wpAny_pyIter_range (IsRange.new ..) (small_one h1 h2 h3 h4) ?_
 have I1:Inv X pins σ H {s with heap:=s.heap.push {cls:=.type "range",data:=.fields #[.int lo t,.int hi u,.int 1 v]},toks:=tk}:=I.kept λ b o e=>k5 _ e
 refine⟨(s.heap.push {cls:=.type "range",data:=.fields #[.int lo t,.int hi u,.int 1 v]}).objs.size,[(s.heap.push {cls:=.type "range",data:=.fields #[.int lo t,.int hi u,.int 1 v]}).objs.size],_,_,H,rfl,
  I1.kept (t':=tk) λ b o e=>k5 _ e,vC _ lo (hi - lo).toNat,?_,λ b hb=>?_,q⟩
 ·have e1:lo+((0:Nat):Int)*1=lo:=by simp
  have e2:(((hi - lo).toNat:Nat):Int) - ((0:Nat):Int)=Builtin.Range.rangeSize lo hi 1:=by rw[rangeSize_one];split <;> omega
  show IsRangeIter _ _ (lo+((0:Nat):Int)*1) ((((hi - lo).toNat:Nat):Int) - ((0:Nat):Int)) 1
  rw[e1,e2]
  exact o8 _ rfl
 ·have e:b=(s.heap.push {cls:=.type "range",data:=.fields #[.int lo t,.int hi u,.int 1 v]}).objs.size:=by simpa using hb
  subst e
  exact I1.iS (E9 _) (I1.bO.fresh (E9 _))
def PQ(ta:TA):TI:=λ σ H R=>ta σ H λ vs H1=>∃j:Int,vs=[.int j]/\-(2^62)<=j/\j < 2^62/\R (SE 0 j.toNat) H1
theorem zA{a:Expr}{ta:TA}{p pos:Pos}(hg:Gl X "range")(hm:X.mg "range"=none)(ha:PA X [a] ta)(hs:starEach [a] X.env=[(false,eval a X.env)]:=by rfl):PI X tg (.Call (.Name "range" p) [a] [] pos) (PQ ta):=by
 intro pins s σ H R I h
 refine Call_ (fA I hg hm boot_range (e6 (cV (ha pos pins s σ H _ I h) λ us s1 ⟨vs,H1,I1,r1,q1⟩=>?_) hs rfl))
 obtain⟨j,e,q1,q2,q⟩:=q1
 subst e
 cases r1 with
 |cons r rr=>
  cases rr
  obtain⟨t,rfl⟩:=r
  exact call_range_1 (BM I1 (by omega) (by omega) q1 q2 (by simpa using q))
def S8(wi:TI)(g:TG)(tb:TS):TS:=λ D σ H=>wi σ H λ J H1=>∃W:Nat->Nat->St->Hp->Prop,(∃m,W 0 m σ H1)/\∀i m σ H,W i m σ H->
 (J.stop i H/\D.nx σ H)\/(J.go i H/\∃N:St->Hp->Prop,(∀σ' H',N σ' H'->∃m',m' < m/\W (i+1) m' σ' H')/\∀x H',J.EE i H x H'->g x σ H' λ σ2 H2=>tb {D with nx:=N,ct:=N,bk:=D.nx} σ2 H2)
def qv(fp:List Addr)(h:Heap):List (Addr×Obj):=fp.filterMap λ b=>(h.get? b).map λ o=>(b,o)
theorem dN{fp:List Addr}{h:Heap}{b:Addr}{o:Obj}(hb:b∈fp)(e:h.get? b=some o):(b,o)∈qv fp h:=mem_filterMap.mpr ⟨b,hb,by rw[e];rfl⟩
theorem zG{fp:List Addr}{h:Heap}{p:Addr×Obj}(hp:p∈qv fp h):p.1∈fp/\h.get? p.1=some p.2:=by
 obtain⟨b,hb,e⟩:=mem_filterMap.mp hp
 cases q:h.get? b with
 |none=>rw[q]at e;cases e
 |some o=>
  rw[q]at e
  have e':(b,o)=p:=B2 e
  subst e'
  exact⟨hb,q⟩
theorem Inv.pinned {pins:List (Addr×Obj)}{σ:St}{H:Hp}{s:Shared}{fp:List Addr}(I:Inv X pins σ H s)(hf:∀b∈fp,gB X pins H b)(ho:∀b∈fp,∃o,s.heap.get? b=some o/\∀v,o.data≠.cell v):Inv X (pins++qv fp s.heap) σ H s:=
 I.cL λ p hp=>(B8.mp hp).elim (λ z=>I.pin p (k9 _ z)) λ z=>by
  obtain⟨hb,e⟩:=zG z
  obtain⟨f0,f1,f2,_⟩:=hf p.1 hb
  obtain⟨o,e',d⟩:=ho p.1 hb
  rw[e]at e';cases e'
  exact⟨e,f0,f1,f2,d⟩
theorem Inv.mP {pins pl:List (Addr×Obj)}{σ:St}{H:Hp}{s:Shared}(I:Inv X (pins++pl) σ H s):Inv X pins σ H s:=I.cL λ p hp=>I.pin p (k9 _ (m7 _ hp))
theorem Ld{iter:Expr}{body:List Stmt}{wi:TI}{g:TG}{tb:TS}{pos:Pos}(hp:PassesOwn (model X.prog X.w) X.A X.env X.xe)(hc:X.calm=true)(hi:PI X tg iter wi)(hg:PG X tg g)(hb:vo X body tb)
  (hs:∀x,foldedSetIterable iter X.env x=pure x:=by intro _;rfl):PS X (.For tg iter body [] pos) (S8 wi g tb):=by
 intro pins s σ H D I h
 refine wpAny_For (cV (hi pins s σ H _ I h) λ v s1 h1=>cV h1 λ R_ s2 h2=>?_) hs
 obtain⟨it,fp,tn,J,H2,e,I2,T,OD,f2,W,⟨m0,w0⟩,turn⟩:=h2
 subst e
 have JL:∀{H':Hp},(∀b∈fp,H' b=none)->∀b∈fp,gB X pins H' b:=λ hn b hb=>⟨hn b hb,(f2 b hb).2⟩
 refine codeAny_forLoop_any (λ n s'=>∃i σ' H',Inv X pins σ' H' s'/\tn i s'.heap/\(∀b∈fp,H' b=none)/\W i n σ' H') ?_ m0 ⟨0,σ,H2,I2,OD,λ b hb=>(f2 b hb).1,w0⟩
 rintro n s3 ⟨i,σ3,H3,I3,OC,QH,w3⟩
 rcases turn i n σ3 H3 w3 with⟨stop,qn⟩|⟨go,N,hN,step⟩
 ·refine B4 hp (cV (T.done X rfl rfl rfl hc i pins s3 σ3 H3 X.xe I3 (JL QH) OC stop) λ r s4 ⟨hr,I4⟩=>?_)
  subst hr
  exact wpAny_execs_nil ⟨σ3,H3,I4,qn⟩
 ·refine B4 hp (cV (T.item X rfl rfl rfl hc i pins s3 σ3 H3 X.xe I3 (JL QH) OC go) λ r s4 ⟨u,hr,h4⟩=>?_)
  subst hr
  refine B4 hp (cV h4 λ _ s5 ⟨x,H5,I5,r5,y5,EW,U9⟩=>?_)
  have Vp:=I5.pinned (JL U9) (T.obj _ _ EW)
  refine B4 hp (cV (hg _ s5 σ3 H5 x u _ Vp r5 (step x H5 y5)) λ _ s6 ⟨σ6,H6,I6,q6⟩=>?_)
  refine B4 hp (cV (hb _ s6 σ6 H6 _ I6 q6) λ f s7 q7=>?_)
  have again:∀{σ7:St} {H7:Hp},Inv X (pins++qv fp s5.heap) σ7 H7 s7->N σ7 H7->∃m,m < n/\∃i σ' H',Inv X pins σ' H' s7/\tn i s7.heap/\(∀b∈fp,H' b=none)/\W i m σ' H':=λ{σ7 H7} I7 n7=>by
   obtain⟨m',hm,w7⟩:=hN σ7 H7 n7
   refine⟨m',hm,i+1,σ7,H7,I7.mP,T.keep _ _ _ EW λ b hb o e=>(I7.pin (b,o) (k9 _ (k9 _ (dN hb e)))).1,λ b hb=>?_,w7⟩
   obtain⟨o,e,d⟩:=T.obj _ _ EW b hb
   exact(I7.pin (b,o) (k9 _ (k9 _ (dN hb e)))).2.1
  cases f with
  |next=>obtain⟨σ7,H7,I7,n7⟩:=q7;exact again I7 n7
  |cont=>obtain⟨σ7,H7,I7,n7⟩:=q7;exact again I7 n7
  |brk=>obtain⟨σ7,H7,I7,q7⟩:=q7;exact⟨σ7,H7,I7.mP,q7⟩
  |ret v=>obtain⟨x7,σ7,H7,I7,r7,q7⟩:=q7;exact⟨x7,σ7,H7,I7.mP,r7,q7⟩
end
abbrev R2:=V->V->Hp->VK->Prop
def fu(X:Cx)(f:Value->Value->Sem Value)(r:R2):Prop:=
 ∀(pins:List (Addr×Obj)) (s:Shared) (σ:St) (H:Hp) (x y:V) (v u:Value) (Q:VK),Inv X pins σ H s->RelV x v->RelV y u->r x y H Q->
  wpAny (model X.prog X.w) X.A (f v u) (EP X pins σ Q) X.xe s
def dH(X:Cx)(f:Value)(r:List V->Hp->VK->Prop):Prop:=
 ∀(pins:List (Addr×Obj)) (s:Shared) (σ:St) (H:Hp) (xs:List V) (us:List Value) (Q:VK),Inv X pins σ H s->Vals xs us->r xs H Q->
  wpAny (model X.prog X.w) X.A (call f us) (EP X pins σ Q) X.xe s
def Ox(r:R2)(ta tb:TE):TE:=λ σ H Q=>ta σ H λ x H1=>tb σ H1 λ y H2=>r x y H2 Q
def rI(C:Int->Int->Prop)(g:Int->Int->V):R2:=λ x y H Q=>∃i j,x=.int i/\y=.int j/\C i j/\Q (g i j) H
def BN(g:Int->Int->V):R2:=λ x y H Q=>∃i j,x=.int i/\y=.int j/\Q (g i j) H
section
variable {X:Cx}{a b c:Expr}{ta tb tc:TE}{pos:Pos}
theorem NF(ha:PE X a ta)(hb:PE X b tb){pins:List (Addr×Obj)}{s:Shared}{σ:St}{H:Hp}{R:V->V->Hp->Prop}(I:Inv X pins σ H s)
  (h:ta σ H λ x H1=>tb σ H1 λ y H2=>R x y H2) {Q:Value->Shared->Prop} {f:Value->Value->Sem Value}
  (hf:∀v u s2 x y H2,Inv X pins σ H2 s2->RelV x v->RelV y u->R x y H2->wpAny (model X.prog X.w) X.A (f v u) Q X.xe s2):
  wpAny (model X.prog X.w) X.A (eval a X.env) (λ v s₁=>wpAny (model X.prog X.w) X.A (eval b X.env) (λ u s₂=>wpAny (model X.prog X.w) X.A (f v u) Q X.xe s₂) X.xe s₁) X.xe s:=by
 refine cV (ha pins s σ H _ I h) λ v s1 ⟨x,H1,I1,r1,q1⟩=>?_
 refine cV (hb pins s1 σ H1 _ I1 q1) λ u s2 ⟨y,H2,I2,r2,q2⟩=>?_
 exact hf v u s2 x y H2 I2 r1 r2 q2
theorem Pa{op:Operator}{r:R2}(ho:fu X (binaryOp op) r)(ha:PE X a ta)(hb:PE X b tb):PE X (.BinOp a op b pos) (Ox r ta tb):=by
 intro pins s σ H Q I h
 exact wpAny_BinOp (NF ha hb I h λ v u s2 x y H2 I2 rx ry q=>ho pins s2 σ H2 x y v u Q I2 rx ry q)
theorem RV{f:Value->Value->Sem Value}{C:Int->Int->Prop}{g:Int->Int->Int}
  (rule:∀(i j:Int) (t u:Tok) (s:Shared) (Q:Value->Shared->Prop) (E:Value->Shared->Prop),C i j->Q (.int (g i j) s.toks) {s with toks:=s.toks+1}->wpAny (model X.prog X.w) X.A (f (.int i t) (.int j u)) Q E s):
  fu X f (rI C λ i j=>.int (g i j)):=by
 intro pins s σ H x y v u Q I rx ry h
 obtain⟨i,j,rfl,rfl,hc,q⟩:=h
 obtain⟨t,rfl⟩:=rx
 obtain⟨t',rfl⟩:=ry
 exact rule i j t t' s _ _ hc ⟨.int (g i j),H,I.tok _,⟨_,rfl⟩,q⟩
theorem LL{f:Value->Value->Sem Value}{g:Int->Int->Int}
  (rule:∀(i j:Int) (t u:Tok) (s:Shared) (Q:Value->Shared->Prop) (E:Value->Shared->Prop),Q (.int (g i j) s.toks) {s with toks:=s.toks+1}->wpAny (model X.prog X.w) X.A (f (.int i t) (.int j u)) Q E s):
  fu X f (BN λ i j=>.int (g i j)):=by
 intro pins s σ H x y v u Q I rx ry h
 obtain⟨i,j,rfl,rfl,q⟩:=h
 obtain⟨t,rfl⟩:=rx
 obtain⟨t',rfl⟩:=ry
 exact rule i j t t' s _ _ ⟨.int (g i j),H,I.tok _,⟨_,rfl⟩,q⟩
theorem GJ{f:Value->Value->Sem Value}{g:Int->Int->Bool}
  (rule:∀(i j:Int) (t u:Tok) (s:Shared) (Q:Value->Shared->Prop) (E:Value->Shared->Prop),Q (.bool (g i j)) s->wpAny (model X.prog X.w) X.A (f (.int i t) (.int j u)) Q E s):
  fu X f (BN λ i j=>.bl (g i j)):=by
 intro pins s σ H x y v u Q I rx ry h
 obtain⟨i,j,rfl,rfl,q⟩:=h
 obtain⟨t,rfl⟩:=rx
 obtain⟨t',rfl⟩:=ry
 exact rule i j t t' s _ _ ⟨.bl (g i j),H,I,rfl,q⟩
def NS(i j:Int):Prop:=0 < j/\j < 1073741824
def Rt(i j:Int):Prop:=0<=j/\j<=1000000/\i.natAbs < 2^64
def rV(i j:Int):Prop:=(-(2^64) < i/\i < 2^64)\/(-(2^64) < j/\j < 2^64)
theorem rV.ok {i j:Int}(h:rV i j):IntMulOk i j:=by
 rcases h with⟨h1,h2⟩|⟨h1,h2⟩
 ·exact .of_left (intBits_le_64 h1 h2)
 ·exact .of_right (intBits_le_64 h1 h2)
theorem LK:fu X (binaryOp .Add) (BN λ i j=>.int (i+j)):=LL λ _ _ _ _ _ _ _ q=>add_int q
theorem Ly:fu X (binaryOp .Sub) (BN λ i j=>.int (i - j)):=LL λ _ _ _ _ _ _ _ q=>sub_int q
theorem LD:fu X (binaryOp .Mult) (rI rV λ i j=>.int (i*j)):=RV λ _ _ _ _ _ _ _ hc q=>mul_int q hc.ok
theorem GG:fu X (binaryOp .FloorDiv) (rI NS λ i j=>.int (i / j)):=RV λ i j _ _ _ _ _ hc q=>by
 have h1:(0:Int) < j:=hc.1
 have h2:j < 1073741824:=hc.2
 exact floordiv_int (by omega) (by rw[Int.fdiv_eq_ediv_of_nonneg i (by omega)];exact q) (.inl (PyProof.noPylong_small (by omega)))
theorem LF:fu X (binaryOp .Mod) (rI (λ _ j=>0 < j) λ i j=>.int (i % j)):=RV λ i j _ _ _ _ _ hc q=>by
 have h1:(0:Int) < j:=hc
 exact mod_int' (by omega) (by rw[Int.fmod_eq_emod_of_nonneg i (by omega)];exact q)
theorem LA:fu X (binaryOp .Pow) (rI Rt λ i j=>.int (i^j.toNat)):=RV λ _ _ _ _ _ _ _ hc q=>pow_int_small hc.1 hc.2.1 hc.2.2 q
theorem Lx:fu X (binaryOp .BitXor) (BN λ i j=>.int (Builtin.bitXor i j)):=LL λ _ _ _ _ _ _ _ q=>xor_int q
end
def OE:V->V->Bool
 | .bx,.bx=>true| .bx,.int _=>true| .int _,.bx=>true| .bx,.bl _=>true| .bl _,.bx=>true| .bx,.str _=>true| .str _,.bx=>true
 | .int _,.int _=>true| .bl _,.bl _=>true| .str _,.str _=>true| .Ej _,.Ej _=>true
 | .int _,.str _=>true| .str _,.int _=>true| .bl _,.str _=>true| .str _,.bl _=>true
 |_,_=>false
def WJ:R2:=λ x y H Q=>OE x y=true/\Q (.bl (decide (x=y))) H
def WC:R2:=λ x y H Q=>OE x y=true/\Q (.bl (!decide (x=y))) H
theorem yD{i j:Int}:decide (V.int i=V.int j)=(i==j):=by
 rw[A5]
 simp
theorem DT{i j:Bool}:decide (V.bl i=V.bl j)=(i==j):=by
 rw[A5]
 simp
theorem yC{i j:Str}:decide (V.str i=V.str j)=(i==j):=by
 rw[A5]
 simp
theorem yE{i j:Array UInt8}:decide (V.Ej i=V.Ej j)=(i.toList==j.toList):=by
 rw[A5]
 cases i
 cases j
 simp
section
variable {X:Cx}{a b c:Expr}{ta tb tc:TE}{pos:Pos}
theorem a_{pins:List (Addr×Obj)}{σ:St}{H:Hp}{s:Shared}{Q:VK}{k k':Bool}(I:Inv X pins σ H s)(q:Q (.bl k) H)(e:k=k'):EP X pins σ Q (.bool k') s:=by
 subst e
 exact⟨.bl k,H,I,rfl,q⟩
theorem Pk:fu X (compareOp .Eq) WJ:=by
 intro pins s σ H x y v u Q I rx ry h
 obtain⟨hs,q⟩:=h
 cases x with
 |bx=>
  cases rx
  cases y with
  |bx=>cases ry;exact PySem.EqNone.eq_none_none (a_ I q (by simp))
  |bl j=>cases ry;exact PySem.EqNone.eq_none_bool (a_ I q (by simp))
  |int j=>obtain⟨t',rfl⟩:=ry;exact PySem.EqNone.eq_none_int (a_ I q (by simp))
  |str j=>obtain⟨t',rfl⟩:=ry;exact PySem.EqNone.eq_none_str (a_ I q (by simp))
  |_=>exact absurd (show false=true from hs) p5
 |bl i=>
  cases rx
  cases y with
  |bx=>cases ry;exact PySem.EqNone.eq_bool_none (a_ I q (by simp))
  |bl j=>cases ry;exact eq_bool (a_ I q DT)
  |str j=>obtain⟨t',rfl⟩:=ry;exact PySem.EqMixed.eq_bool_str (a_ I q (by simp))
  |_=>exact absurd (show false=true from hs) p5
 |int i=>
  obtain⟨t,rfl⟩:=rx
  cases y with
  |bx=>cases ry;exact PySem.EqNone.eq_int_none (a_ I q (by simp))
  |int j=>obtain⟨t',rfl⟩:=ry;exact eq_int (a_ I q yD)
  |str j=>obtain⟨t',rfl⟩:=ry;exact PySem.EqMixed.eq_int_str (a_ I q (by simp))
  |_=>exact absurd (show false=true from hs) p5
 |str i=>
  obtain⟨t,rfl⟩:=rx
  cases y with
  |bx=>cases ry;exact PySem.EqNone.eq_str_none (a_ I q (by simp))
  |bl j=>cases ry;exact PySem.EqMixed.eq_str_bool (a_ I q (by simp))
  |int j=>obtain⟨t',rfl⟩:=ry;exact PySem.EqMixed.eq_str_int (a_ I q (by simp))
  |str j=>obtain⟨t',rfl⟩:=ry;exact eq_str (a_ I q yC)
  |_=>exact absurd (show false=true from hs) p5
 |Ej i=>
  obtain⟨t,rfl⟩:=rx
  cases y with
  |Ej j=>obtain⟨t',rfl⟩:=ry;exact PySem.W.eq_bytes (a_ I q yE)
  |_=>exact absurd (show false=true from hs) p5
 |_=>cases y <;> exact absurd (show false=true from hs) p5
theorem Pe:fu X (compareOp .NotEq) WC:=by
 intro pins s σ H x y v u Q I rx ry h
 obtain⟨hs,q⟩:=h
 cases x with
 |bx=>
  cases rx
  cases y with
  |bx=>cases ry;exact PySem.EqNone.ne_none_none (a_ I q (by simp))
  |bl j=>cases ry;exact PySem.EqNone.ne_none_bool (a_ I q (by simp))
  |int j=>obtain⟨t',rfl⟩:=ry;exact PySem.EqNone.ne_none_int (a_ I q (by simp))
  |str j=>obtain⟨t',rfl⟩:=ry;exact PySem.EqNone.ne_none_str (a_ I q (by simp))
  |_=>exact absurd (show false=true from hs) p5
 |bl i=>
  cases rx
  cases y with
  |bx=>cases ry;exact PySem.EqNone.ne_bool_none (a_ I q (by simp))
  |bl j=>cases ry;exact ne_bool (a_ I q (J7 not DT))
  |str j=>obtain⟨t',rfl⟩:=ry;exact PySem.EqMixed.ne_bool_str (a_ I q (by simp))
  |_=>exact absurd (show false=true from hs) p5
 |int i=>
  obtain⟨t,rfl⟩:=rx
  cases y with
  |bx=>cases ry;exact PySem.EqNone.ne_int_none (a_ I q (by simp))
  |int j=>obtain⟨t',rfl⟩:=ry;exact ne_int (a_ I q (J7 not yD))
  |str j=>obtain⟨t',rfl⟩:=ry;exact PySem.EqMixed.ne_int_str (a_ I q (by simp))
  |_=>exact absurd (show false=true from hs) p5
 |str i=>
  obtain⟨t,rfl⟩:=rx
  cases y with
  |bx=>cases ry;exact PySem.EqNone.ne_str_none (a_ I q (by simp))
  |bl j=>cases ry;exact PySem.EqMixed.ne_str_bool (a_ I q (by simp))
  |int j=>obtain⟨t',rfl⟩:=ry;exact PySem.EqMixed.ne_str_int (a_ I q (by simp))
  |str j=>obtain⟨t',rfl⟩:=ry;exact ne_str (a_ I q (J7 not yC))
  |_=>exact absurd (show false=true from hs) p5
 |Ej i=>
  obtain⟨t,rfl⟩:=rx
  cases y with
  |Ej j=>obtain⟨t',rfl⟩:=ry;exact PySem.W.ne_bytes (a_ I q (J7 not yE))
  |_=>exact absurd (show false=true from hs) p5
 |_=>cases y <;> exact absurd (show false=true from hs) p5
theorem Pf:fu X (compareOp .Lt) (BN λ i j=>.bl (decide (i < j))):=GJ λ _ _ _ _ _ _ _ q=>lt_int q
theorem Pg:fu X (compareOp .LtE) (BN λ i j=>.bl (decide (i<=j))):=GJ λ _ _ _ _ _ _ _ q=>le_int q
theorem Ph:fu X (compareOp .Gt) (BN λ i j=>.bl (decide (j < i))):=GJ λ _ _ _ _ _ _ _ q=>gt_int q
theorem Pj:fu X (compareOp .GtE) (BN λ i j=>.bl (decide (j<=i))):=GJ λ _ _ _ _ _ _ _ q=>ge_int q
theorem zC:fu X (compareOp .In) (λ x y H Q=>∃i j,x=.str i/\y=.str j/\Q (.bl (!(Builtin.Str.occurrences j i 0 j.length 1).isEmpty)) H):=by
 intro pins s σ H x y v u Q I rx ry h
 obtain⟨i,j,rfl,rfl,q⟩:=h
 obtain⟨t,rfl⟩:=rx
 obtain⟨t',rfl⟩:=ry
 exact in_str (a_ I q rfl)
theorem LG:fu X (compareOp .Is) (λ x y H Q=>y=.bx/\Q (.bl (decide (x=.bx))) H):=by
 intro pins s σ H x y v u Q I rx ry h
 obtain⟨rfl,q⟩:=h
 cases ry
 refine is_none_gen (a_ I q ?_)
 cases x <;> first
  |(cases rx;rfl)
  |(obtain⟨t,rfl⟩:=rx;rfl)
theorem fu.or {f:Value->Value->Sem Value}{r r':R2}(h:fu X f r)(h':fu X f r'):fu X f (λ x y H Q=>r x y H Q\/r' x y H Q):=by
 intro pins s σ H x y v u Q I rx ry q
 rcases q with q|q
 ·exact h pins s σ H x y v u Q I rx ry q
 ·exact h' pins s σ H x y v u Q I rx ry q
theorem aR(b:Expr){op:CmpOp}(h:op≠.In:=by decide)(h2:op≠.NotIn:=by decide):behindInMarks op b=false:=by
 have e1:(op==CmpOp.In)=false:=by cases op <;> first|rfl|exact absurd rfl h
 have e2:(op==CmpOp.NotIn)=false:=by cases op <;> first|rfl|exact absurd rfl h2
 cases b <;> simp[behindInMarks,e1,e2]
theorem Gy{op:CmpOp}{r:R2}(ho:fu X (compareOp op) r)(ha:PE X a ta)(hb:PE X b tb)(hm:behindInMarks op b=false):PE X (.Compare a [op] [b] pos) (Ox r ta tb):=by
 intro pins s σ H Q I h
 exact wpAny_Compare1 (NF ha hb I h λ v u s2 x y H2 I2 rx ry q=>ho pins s2 σ H2 x y v u Q I2 rx ry q) hm
def Ov(t:TE):TT:=λ σ H Q=>t σ H λ x H'=>∃k,x=.bl k/\Q k H'
theorem Gm{op:CmpOp}{r:R2}(ho:fu X (compareOp op) r)(ha:PE X a ta)(hb:PE X b tb)(hm:behindInMarks op b=false):PT X (.Compare a [op] [b] pos) (Ov (Ox r ta tb)):=by
 intro pins s σ H Q I h
 refine wpAny_isTrue_Compare1 (cV (ha pins s σ H _ I h) λ v s1 ⟨x,H1,I1,r1,q1⟩=>cV (hb pins s1 σ H1 _ I1 q1) λ u s2 ⟨y,H2,I2,r2,q2⟩=>
  cV (ho pins s2 σ H2 x y v u _ I2 r1 r2 q2) λ c s3 ⟨z,H3,I3,r3,k,e,q3⟩=>?_) hm
 subst e
 cases r3
 exact w5 ⟨H3,I3,q3⟩
theorem kh:(sizeLine:Nat) < 2^63:=by rw[G0];decide
theorem wb:fu X (binaryOp .Add) (λ x y H Q=>∃i j,x=.str i/\y=.str j/\i.length+j.length<=sizeLine/\Q (.str (i++j)) H):=by
 intro pins s σ H x y v u Q I rx ry h
 obtain⟨i,j,rfl,rfl,hz,q⟩:=h
 obtain⟨t,rfl⟩:=rx
 obtain⟨t',rfl⟩:=ry
 exact add_str (λ t' tk=>⟨.str (i++j),H,I.tok _,⟨_,rfl⟩,q⟩) hz
theorem vals1{x:V}{us:List Value}(r:Vals [x] us):∃u,us=[u]/\RelV x u:=by
 cases r with
 |cons r1 r2=>cases r2;exact⟨_,rfl,r1⟩
theorem vals2{x y:V}{us:List Value}(r:Vals [x,y] us):∃u w',us=[u,w']/\RelV x u/\RelV y w':=by
 cases r with
 |cons r1 r2=>
  cases r2 with
  |cons r3 r4=>cases r4;exact⟨_,_,rfl,r1,r3⟩
theorem Ai(hc:X.calm=true):dH X (.builtin "min") (λ xs H Q=>∃i j,xs=[.int i,.int j]/\Q (.int (if j < i then j else i)) H):=by
 intro pins s σ H xs us Q I r h
 obtain⟨i,j,rfl,q⟩:=h
 obtain⟨u,w',rfl,⟨t,rfl⟩,⟨t',rfl⟩⟩:=vals2 r
 refine min_two_ints (I.ok.hd hc) λ h' tk k=>⟨_,H,I.kept k,?_,q⟩
 by_cases hj:j < i
 ·rw[J9 hj,J9 hj];exact⟨_,rfl⟩
 ·rw[K0 hj,K0 hj];exact⟨_,rfl⟩
theorem Ak:dH X (.type "int") (λ xs H Q=>(∃i,xs=[.int i]/\Q (.int i) H)\/∃k,xs=[.bl k]/\Q (.int (if k then 1 else 0)) H):=by
 intro pins s σ H xs us Q I r h
 rcases h with⟨i,rfl,q⟩|⟨k,rfl,q⟩
 ·obtain⟨u,rfl,t,rfl⟩:=vals1 r
  exact call_int_int ⟨.int i,H,I,⟨_,rfl⟩,q⟩
 ·obtain⟨u,rfl,r1⟩:=vals1 r
  cases r1
  exact call_int_bool ⟨.int (if k then 1 else 0),H,I.tok _,⟨_,rfl⟩,q⟩
end
structure NR(h:Heap)(x dx C:Addr)(mA:Str->Option Value):Prop where
 obj:h.get? x=some (PySem.W.instObj C dx)
 ns:h.Ns1 dx mA
 ne:dx≠x
set_option tactic.hygienic true in
theorem zM{h:Heap}{dx:Addr}{mA:Str->Option Value}(n:h.Ns1 dx mA):∃od,h.get? dx=some od/\∀name,PySem.W.lookIn name od=some (mA name):=by
 obtain⟨o,es,ep,ho,hd,hk,_,hm⟩:=n
 refine⟨o,ho,λ name=>?_⟩
 have e:=hm name
 unfold nsFind findBy at e
 rw[<- Array.find?_toList]at e
 unfold PySem.W.lookIn
 rw[hd]
 dsimp only
 split
 ·rename_i y q
  rw[q]at e
  exact J7 some e
 ·rename_i q
  rw[q]at e
  have a:es.toList.any (·.refKey)=false:=by
   rw[List.any_eq_false]
   intro y hy
   obtain⟨z,t,qY⟩:=hk y (Array.mem_toList_iff.mp hy)
   simp[DictEntry.refKey,qY]
  have a':¬es.toList.any (·.refKey)=true:=by rw[a];exact p5
  rw[K0 a']
  exact J7 some e
theorem NR.look {h:Heap}{x dx C:Addr}{mA:Str->Option Value}(I:NR h x dx C mA):∃od,PySem.W.InstAt h x (PySem.W.instObj C dx) C (some od)/\∀name,PySem.W.lookIn name od=some (mA name):=
 let⟨od,ho,hl⟩:=zM I.ns
 ⟨od,⟨I.obj,rfl,rfl,ho⟩,hl⟩
theorem jN.some_of {v:V}{o:Option Value}(r:jN (some v) o):∃u,o=some u/\RelV v u:=by
 cases o with
 |none=>exact(show False from r).elim
 |some u=>exact⟨u,rfl,r⟩
section
variable {P:Program}{w:World}{H H':Hp}{h h':Heap}{a C dx:Addr}{fs X8:List (Str×V)}
theorem Hs(bO:i' P w H h)(e:H a=some (.ins C dx fs)):∃mA,NR h a dx C mA/\(∀f,jN (fs.lookup f) (mA f))/\PySem.Within mA (fs.map (·.1))/\fs.length<=1000/\H dx=some (.own a):=by
 obtain⟨d,z,ne,ob,mA,n,r,q⟩:=(show bK P w H h a (.ins C dx fs)from bO a _ e)
 exact⟨mA,⟨ob,n,ne⟩,r,q,z,d⟩
end
structure Vq(K:PySem.W.Frag)(C:Addr):Prop where
 pg:PySem.W.plainGet K C Str.empty=true
 hd:PySem.W.hasDictIn K C=true
 po:PySem.W.plainOver K C=true
 sa:PySem.W.findIn K (.ref C) "__setattr__"=some (some (.builtin "object.__setattr__"))
theorem Vq.get {K:PySem.W.Frag}{C:Addr}(c:Vq K C)(f:Str):PySem.W.plainGet K C f=true:=c.pg
section
variable {X:Cx}{pins:List (Addr×Obj)}{σ:St}{H:Hp}{s:Shared}{A:Around}{E:Value->Shared->Prop}{Q:Value->Shared->Prop}{c:Value}{b:Bool}
inductive lO(K:PySem.W.Frag)(H:Hp):V->Value->Prop where
 |bx:lO K H .bx (.type "NoneType")
 |bl (x:Bool):lO K H (.bl x) (.type "bool")
 |int (i:Int):lO K H (.int i) (.type "int")
 |str (x:Str):lO K H (.str x) (.type "str")
 |Of (x:UInt64):lO K H (.Of x) (.type "float")
 |lst {a:Addr} {xs:List V} (e:H a=some (.lst xs)):lO K H (.ref a) (.type "list")
 |nN {a:Addr} {o:Obj} {xs:List V} (e:H a=some (.nN o (.lst xs))):lO K H (.ref a) (.type "list")
 |tup {a:Addr} {xs:List V} (e:H a=some (.tup xs)):lO K H (.ref a) (.type "tuple")
 |dK {a:Addr} {kvs:List (Key×V)} (e:H a=some (.dK kvs)):lO K H (.ref a) (.type "dict")
 |dT {a:Addr} {kvs:List (List Key×V)} (e:H a=some (.dT kvs)):lO K H (.ref a) (.type "dict")
 |ins {a C dx:Addr} {fs:List (Str×V)} (e:H a=some (.ins C dx fs)) (cl:Vq K C) (ha:PySem.W.findIn K (.ref C) "__class__"=some (some (.builtin "object.__class__")))
   (hn:PySem.W.specialIn K (.builtin "object.__class__") "__get__"=some (some (.builtin "getset_descriptor.__get__"))) (PY:PySem.W.takesIn K (.builtin "object.__class__")=some true)
   (hm:PySem.W.mroIn K C (.type "object")=some true):lO K H (.ref a) (.ref C)
theorem iy{x:V}{u t:Value}(I:Inv X pins σ H s)(rx:RelV x u)(ty:lO X.K H x t)(e:PySem.W.kitOne X.K t c=some b)(h:∀tk,Q (.bool b) {s with toks:=tk}):
  wpAny (model X.prog X.w) A (call (.builtin "isinstance") [u,c]) Q E s:=by
 cases ty with
 |bx=>cases(show u=Value.none from rx);exact B6 PySem.W.kitx_none I.oE True.intro e (λ z=>nomatch z) h
 |bl y=>cases(show u=Value.bool y from rx);exact B6 PySem.W.kitx_bool I.oE True.intro e (λ z=>nomatch z) h
 |int i=>obtain⟨t,q⟩:=(show ∃t,u=Value.int i t from rx);cases q;exact B6 PySem.W.kitx_int I.oE True.intro e (λ z=>nomatch z) h
 |str y=>obtain⟨t,q⟩:=(show ∃t,u=Value.str y t from rx);cases q;exact B6 PySem.W.kitx_str I.oE True.intro e (λ z=>nomatch z) h
 |Of y=>obtain⟨t,q⟩:=(show ∃t,u=Value.float y t from rx);cases q;exact B6 PySem.W.kitx_float I.oE True.intro e (λ z=>nomatch z) h
 |@lst a xs ea=>
  cases(show u=Value.ref a from rx)
  obtain⟨_,_,n,_,h1⟩:=(show bK X.prog X.w H s.heap a (.lst xs)from I.bO a _ ea)
  exact B6 PySem.W.kitx_list I.oE ⟨_,h1,rfl⟩ e (λ z=>nomatch z) h
 |@nN a ob xs ea=>
  cases(show u=Value.ref a from rx)
  obtain⟨_,_,_,n,_,h1⟩:=(show bK X.prog X.w H s.heap a (.nN ob (.lst xs))from I.bO a _ ea)
  exact B6 PySem.W.kitx_list I.oE ⟨_,h1,rfl⟩ e (λ z=>nomatch z) h
 |@tup a xs ea=>
  cases(show u=Value.ref a from rx)
  obtain⟨_,_,_,p⟩:=(show bK X.prog X.w H s.heap a (.tup xs)from I.bO a _ ea)
  obtain⟨o,h1,h2,_⟩:=p
  exact B6 PySem.W.kitx_tuple I.oE ⟨o,h1,h2⟩ e (λ z=>nomatch z) h
 |@dK a kvs ea=>
  cases(show u=Value.ref a from rx)
  obtain⟨_,_,vs,_,p⟩:=(show bK X.prog X.w H s.heap a (.dK kvs)from I.bO a _ ea)
  obtain⟨o,es,ep,h1,h2,_⟩:=p
  exact B6 PySem.W.kitx_dict I.oE ⟨o,h1,h2.1⟩ e (λ z=>nomatch z) h
 |@dT a kvs ea=>
  cases(show u=Value.ref a from rx)
  obtain⟨_,_,xs,_,o,es,ep,h1,h2,_⟩:=(show bK X.prog X.w H s.heap a (.dT kvs)from I.bO a _ ea)
  exact B6 PySem.W.kitx_dict I.oE ⟨o,h1,h2.1⟩ e (λ z=>nomatch z) h
 |@ins a C dx fs ea cl ha hn PY hm=>
  cases(show u=Value.ref a from rx)
  obtain⟨mA,O,_⟩:=Hs I.bO ea
  obtain⟨od,J,_⟩:=O.look
  exact B6 (PySem.W.kitx_own (cl.get _) cl.hd ha hn PY hm) I.oE J e (λ z=>nomatch z) h
end
structure cJ(k:Nat)(A:Around):Prop where
 hd:A.handled=none
 dp:A.depth+2*k+5 < recursionLimit
 un:A.units+16*k+200 < cLine
theorem cJ.mono {j k:Nat}{A:Around}(r:cJ k A)(h:j<=k):cJ j A:=⟨r.hd,by have:=r.dp;omega,by have:=r.un;omega⟩
theorem cJ.deeper {k:Nat}{A:Around}(r:cJ (k+1) A)(env:Env):cJ k (A.deeper env):=
 ⟨r.hd,by have:=r.dp;show A.depth+1+2*k+5 < _;omega,by have:=r.un;show A.units+3+16*k+200 < _;omega⟩
theorem cJ.in1 {k:Nat}{A:Around}(r:cJ (k+1) A):cJ k A.in1:=
 ⟨r.hd,by have:=r.dp;show A.depth+2*k+5 < _;omega,by have:=r.un;show A.units+1+16*k+200 < _;omega⟩
theorem cJ.depth {k:Nat}{A:Around}(r:cJ k A):A.depth < recursionLimit:=by have:=r.dp;omega
theorem cJ.units {k:Nat}{A:Around}(r:cJ k A):A.units+64 < cLine:=by have:=r.un;omega
def JI:TA:=λ _ H Q=>Q [] H
def AV(ta:TE)(tr:TA):TA:=λ σ H Q=>ta σ H λ x H1=>tr σ H1 λ xs H2=>Q (x::xs) H2
section
variable {X:Cx}{e:Expr}{es:List Expr}{te:TE}{t:TA}{pos:Pos}
theorem iR:PA X [] JI:=λ _ _ _ _ H Q I h=>Calls.spliced_nil ⟨[],H,I,.nil,h⟩
theorem gq(ha:PE X e te)(hr:PA X es t)(hs:starEach (e::es) X.env=(false,eval e X.env)::starEach es X.env:=by rfl):PA X (e::es) (AV te t):=by
 intro pos pins s σ H Q I h
 rw[hs]
 show wpAny _ _ (spliced ((false,eval e X.env)::backTo pos (starEach es X.env))) _ _ s
 refine Calls.spliced_cons (cV (ha pins s σ H _ I h) λ u s1 ⟨x,H1,I1,r1,q1⟩=>?_)
 exact cV (hr pos pins s1 σ H1 _ I1 q1) λ us s2 ⟨xs,H2,I2,r2,q2⟩=>⟨x::xs,H2,I2,.cons r1 r2,q2⟩
def SU(t:TA):TE:=λ σ H Q=>t σ H λ xs H1=>xs.length<=sizeLine/\∀p,H1 p=none->Q (.ref p) (upd H1 p (.tup xs))
def SY(t:TA):TE:=λ σ H Q=>t σ H λ xs H1=>xs.length<=sizeLine/\∀p,H1 p=none->Q (.ref p) (upd H1 p (.lst xs))
theorem Lm{x1}(h:PA X es t):PE X (.Tuple es x1 pos) (SU t):=by
 intro pins s σ H Q I hq
 refine wpAny_Tuple_spliced (cV (h pos pins s σ H _ I hq) λ us s1 ⟨xs,H1,I1,r,z,q⟩=>⟨by rw[<- r.length];exact z,?_⟩)
 have hf:H1 s1.heap.objs.size=none:=I1.bO.fresh (E9 _)
 refine⟨.ref s1.heap.objs.size,upd H1 s1.heap.objs.size (.tup xs),I1.laid (t':=s1.toks) (λ b u e=>k5 _ e) (E9 _) ?_,rfl,q _ hf⟩
 exact⟨z,us,r,⟨_,o8 _ rfl,rfl,_,rfl⟩⟩
theorem Lq(h:PA X es t):PE X (.List es pos) (SY t):=by
 intro pins s σ H Q I hq
 refine wpAny_List_spliced (cV (h pos pins s σ H _ I hq) λ us s1 ⟨xs,H1,I1,r,z,q⟩=>⟨by rw[<- r.length];exact z,?_⟩)
 have hf:H1 s1.heap.objs.size=none:=I1.bO.fresh (E9 _)
 refine⟨.ref s1.heap.objs.size,upd H1 s1.heap.objs.size (.lst xs),I1.laid (t':=s1.toks) (λ b u e=>k5 _ e) (E9 _) ?_,rfl,q _ hf⟩
 exact⟨z,us,0,r,o8 _ rfl⟩
end
abbrev Sp:=List V->Hp->VK->XK->Prop
abbrev Ew:=List Env->Hp->Shared->XK->Value->Shared->Prop
structure rU(P:Program)(w:World)(K:PySem.W.Frag)(mg:Str->Option Value)(base:Heap)(A:Around)(outer:List Env)(s:Shared)(H:Hp):Prop where
 frames:A.frames=some outer
 mod:Mod K mg base
 bs:∀b o,base.get? b=some o->s.heap.get? b=some o/\H b=none
 EB:base.objs.size<=s.heap.objs.size
 lL:s.heap.FunFrames base outer
 Nc:∀b∈Ab outer,H b=none
 bO:i' P w H s.heap
 bare:AllBare s.gens
def CE(outer:List Env)(P:Program)(w:World)(H:Hp)(s:Shared)(Q:VK)(u:Value)(s':Shared):Prop:=
 ∃v H',s'.os=s.os/\AllBare s'.gens/\Un (Ab outer) [] H H' s.heap s'.heap/\i' P w H' s'.heap/\RelV v u/\Q v H'
def CR(CX:Ew)(outer:List Env)(P:Program)(w:World)(H:Hp)(s:Shared)(Q:VK)(E:XK)(r:Result)(s':Shared):Prop:=
 match r with
 | .ok (.ret u)=>CE outer P w H s Q u s'
 | .ok _=>False
 | .error e=>CX outer H s E e s'
structure bZ(P:Program)(w:World)(K:PySem.W.Frag)(mg:Str->Option Value)(base:Heap)(CX:Ew)(k:Nat)(f:Addr)(fd:FuncData)(ps:List Str)(sp:Sp):Prop where
 len:∀vs H Q E,sp vs H Q E->vs.length=ps.length
 run:∀(A:Around) (outer:List Env) (s:Shared) (H:Hp) (args:Args) (us:List Value) (vs:List V) (Q:VK) (E:XK),cJ k A->rU P w K mg base A outer s H->BindsTo s fd args (ps.zip us)->Vals vs us->sp vs H Q E->
  codeAny (model P w) A (.call (.ref f) args) (CR CX outer P w H s Q E) s
theorem rU.in1 {P:Program}{w:World}{K:PySem.W.Frag}{mg:Str->Option Value}{base:Heap}{A:Around}{outer:List Env}{s:Shared}{H:Hp}(e:rU P w K mg base A outer s H):
  rU P w K mg base A.in1 outer s H:=⟨e.frames,e.mod,e.bs,e.EB,e.lL,e.Nc,e.bO,e.bare⟩
section
variable {X:Cx}{pins:List (Addr×Obj)}{σ:St}{H:Hp}{s s':Shared}
theorem Inv.Nh (I:Inv X pins σ H s):rU X.prog X.w X.K X.mg X.base X.A X.stack s H:=
 ⟨I.ok.frames,I.ok.mod,I.bs,E8 I.ok.EB I.sz,I.stack,I.xy,I.bO,I.bare⟩
theorem Inv.after {Q:VK}{u:Value}(I:Inv X pins σ H s)(h:CE X.stack X.prog X.w H s Q u s'):EP X pins σ Q u s':=by
 obtain⟨v,H',os,bare,un,bO,r,q⟩:=h
 obtain⟨hh,g,d,t,IM⟩:=s'
 obtain rfl:IM=s.os:=os
 exact⟨v,H',I.call (h':=hh) (g':=g) (d':=d) (t':=t) (ch:=[]) un bO bare (λ b z=>absurd z (by simp)),r,q⟩
end
def Iu(sp:Sp)(DP:List V)(E:XK)(t:TA):TE:=λ σ H Q=>t σ H λ vs H1=>sp (vs++DP) H1 Q E
def Binds(K:PySem.W.Frag)(fd:FuncData)(ps:List Str)(ds:List Value):Prop:=
 ∀(s:Shared) (us:List Value),K.In s.heap->(us++ds).length=ps.length->BindsTo s fd ⟨us,[]⟩ (ps.zip (us++ds))
theorem Binds.all {K:PySem.W.Frag}{fd:FuncData}{ps:List Str}(h:∀us:List Value,us.length=ps.length->bindArgs fd ⟨us,[]⟩=pure (ps.zip us)):Binds K fd ps []:=λ s us _ hl=>by
 rw[A6]at hl ⊢
 exact .of_eq (h us hl)
def Passes(CX:Ew)(X:Cx)(E:XK):Prop:=∀(pins:List (Addr×Obj)) (σ:St) (H:Hp) (s:Shared) (e:Value) (s':Shared),Inv X pins σ H s->CX X.stack H s E e s'->X.xe e s'
section
variable {X:Cx}{CX:Ew}{k:Nat}{f C:Addr}{fd:FuncData}{ps:List Str}{sp:Sp}{DP:List V}{ds:List Value}{E:XK}{x m:Str}{p pos apos:Pos}{e o:Expr}{es:List Expr}{ta:TE}{t:TA}
theorem J'{pins:List (Addr×Obj)}{σ:St}{H:Hp}{s:Shared}{Q:VK}{us:List Value}{vs:List V}(F:bZ X.prog X.w X.K X.mg X.base CX k f fd ps sp)(hr:cJ k X.A)(hb:Binds X.K fd ps ds)(hd:Vals DP ds)(hx:Passes CX X E)
  (I:Inv X pins σ H s) (r:Vals vs us) (h:sp (vs++DP) H Q E):wpAny (model X.prog X.w) X.A (call (.ref f) us) (EP X pins σ Q) X.xe s:=by
 have r2:Vals (vs++DP) (us++ds):=r.append hd
 have hl:(us++ds).length=ps.length:=by rw[<- r2.length];exact F.len _ _ _ _ h
 refine wpAny_call (codeAny_mono (F.run X.A X.stack s H ⟨us,[]⟩ (us++ds) (vs++DP) Q E hr I.Nh (hb s us I.oE hl) r2 h) λ r s' hq=>?_)
 cases r with
 |error e=>exact hx pins σ H s e s' I hq
 |ok fl=>
  cases fl with
  |ret u=>exact I.after hq
  |next=>exact False.elim hq
  |brk=>exact False.elim hq
  |cont=>exact False.elim hq
theorem Gz(F:bZ X.prog X.w X.K X.mg X.base CX k f fd ps sp)(hr:cJ k X.A)(hg:Gl X x)(hm:X.mg x=some (.ref f))(hk:PySem.W.keepIn X.K (.ref f)=true)(hb:Binds X.K fd ps ds)(hd:Vals DP ds)(hx:Passes CX X E)
  (ha:PA X (e::es) t) (hdb:(x==("__debug__":Str))=false:=by decide) (he:starEach (e::es) X.env=(false,eval e X.env)::starEach es X.env:=by rfl) (hpl:(backTo pos (starEach es X.env)).any (·.1)=false:=by rfl):
  PE X (.Call (.Name x p) (e::es) [] pos) (Iu sp DP E t):=by
 intro pins s σ H Q I h
 refine r9 (qK I hg hm ?_ hdb)
 refine PySem.W.callWith_K (h₀:=X.base) I.ok.mod.R9 hk (cV (ha pos pins s σ H _ I h) λ us s1 ⟨vs,H1,I1,r,q⟩=>⟨I1.oE,?_⟩) he hpl
 exact J' F hr hb hd hx I1 r q
end
def PK(X:Cx)(PL:List Keyword)(t:TA):Prop:=
 ∀(pos:Pos) (pins:List (Addr×Obj)) (s:Shared) (σ:St) (H:Hp) (Q:List V->Hp->Prop),Inv X pins σ H s->t σ H Q->wpAny (model X.prog X.w) X.A (evalAll ((backToKw pos (keywordEach PL X.env)).map (·.2))) (AP X pins σ Q) X.xe s
section
variable {X:Cx}{CX:Ew}{k:Nat}{f C:Addr}{fd:FuncData}{ps ks:List Str}{sp:Sp}{E:XK}{x m:Str}{p pos apos TY:Pos}{e o:Expr}{es:List Expr}{PL:List Keyword}{te ta:TE}{t tk:TA}{nm:Option Str}
theorem Ca:PK X [] JI:=λ _ _ _ _ H Q I h=>wpAny_evalAll_nil ⟨[],H,I,.nil,h⟩
theorem xS(ha:PE X e te)(hr:PK X PL t):PK X (⟨nm,e,TY⟩::PL) (AV te t):=by
 intro pos pins s σ H Q I h
 show wpAny _ _ (evalAll ((do let v <- eval e X.env;standAt pos;pure v)::(backToKw pos (keywordEach PL X.env)).map (·.2))) _ _ s
 refine wpAny_evalAll_cons (G8 (cV (ha pins s σ H _ I h) λ u s1 ⟨x,H1,I1,r1,q1⟩=>G8 (wpAny_standAt (G9 ?_))))
 exact cV (hr pos pins s1 σ H1 _ I1 q1) λ us s2 ⟨xs,H2,I2,r2,q2⟩=>⟨x::xs,H2,I2,.cons r1 r2,q2⟩
variable {g:List Value->List Value->List Value}{gV:List V->List V->List V}
end
structure aM(N P:List Str)(sc:Scope):Prop where
 kind:sc.kind=.function
 co:sc.isCoroutine=false
 gen:sc.isGenerator=false
 nd:N.Nodup
 pre:N.take P.length=P
 par:∀x∈P,sc.names.lookup x=some .local\/sc.names.lookup x=some .cell
 L1:∀y∈sc.names,y.2≠.free
theorem pU{kindOf:Str->Option NameKind}{x:Str}:∀{binds:List (Str×Value)} {m:Str->Option Value},(∀v,(x,v)∉binds)->bindL kindOf binds m x=m x
 |[],_,_=>rfl
 |(n,v)::r,m,h=>by
  unfold bindL
  rw[pU λ w hw=>h w (m5 _ hw)]
  split
  ·have:x≠n:=by rintro rfl;exact h v o9
   simp[this]
  ·rfl
theorem pW{kindOf:Str->Option NameKind}{x:Str}:∀{binds:List (Str×Value)} {m:Str->Option Value},(∀v,(x,v)∉binds)->bindC kindOf binds m x=m x
 |[],_,_=>rfl
 |(n,v)::r,m,h=>by
  unfold bindC
  rw[pW λ w hw=>h w (m5 _ hw)]
  split
  ·rfl
  ·have:x≠n:=by rintro rfl;exact h v o9
   simp[this]
theorem pV{kindOf:Str->Option NameKind}{x:Str}{v:Value}:∀{P:List Str} {vs:List Value} {i:Nat} {m:Str->Option Value},P.Nodup->P[i]?=some x->vs[i]?=some v->kindOf x=some .local->
  bindL kindOf (P.zip vs) m x=some v
 |[],_,_,_,_,h,_,_=>by simp at h
 |_::_,[],_,_,_,_,h,_=>by simp at h
 |p::P,w::vs,0,m,nd,h1,h2,hk=>by
  simp at h1 h2;subst h1;subst h2
  show bindL kindOf ((p,w)::P.zip vs) m p=_
  unfold bindL
  rw[pU λ v hv=>(nodup_cons.mp nd).1 (of_mem_zip hv).1,J9 hk]
  simp
 |p::P,w::vs,i+1,m,nd,h1,h2,hk=>by
  show bindL kindOf ((p,w)::P.zip vs) m x=_
  unfold bindL
  exact pV (i:=i) (nodup_cons.mp nd).2 (by simpa using h1) (by simpa using h2) hk
theorem pX{kindOf:Str->Option NameKind}{x:Str}{v:Value}:∀{P:List Str} {vs:List Value} {i:Nat} {m:Str->Option Value},P.Nodup->P[i]?=some x->vs[i]?=some v->kindOf x≠some .local->
  bindC kindOf (P.zip vs) m x=some v
 |[],_,_,_,_,h,_,_=>by simp at h
 |_::_,[],_,_,_,_,h,_=>by simp at h
 |p::P,w::vs,0,m,nd,h1,h2,hk=>by
  simp at h1 h2;subst h1;subst h2
  show bindC kindOf ((p,w)::P.zip vs) m p=_
  unfold bindC
  rw[pW λ v hv=>(nodup_cons.mp nd).1 (of_mem_zip hv).1,K0 hk]
  simp
 |p::P,w::vs,i+1,m,nd,h1,h2,hk=>by
  show bindC kindOf ((p,w)::P.zip vs) m x=_
  unfold bindC
  exact pX (i:=i) (nodup_cons.mp nd).2 (by simpa using h1) (by simpa using h2) hk
def start(N:List Str)(vs:List V):St:=vs.map some++List.replicate (N.length - vs.length) none
noncomputable def uK(CX:Ew)(P:Program)(w:World)(K:PySem.W.Frag)(mg:Str->Option Value)(base:Heap)(N:List Str)(qual:Str)(scope:Scope)(f:Addr)(cd:Value)(A:Around)(outer:List Env)(s:Shared)(H:Hp)(E:XK):Cx where
 prog:=P
 w:=w
 K:=K
 mg:=mg
 base:=base
 A:=A.deeper (envOfC qual scope s.heap.objs.size f cd)
 N:=N
 s₀:=s
 H₀:=H
 env:=envOfC qual scope s.heap.objs.size f cd
 outer:=outer
 stack:=envOfC qual scope s.heap.objs.size f cd::outer
 ex:=[]
 calm:=true
 fn:=λ _=>true
 pn:=[]
 xe:=λ e s'=>wpAny (model P w) (A.deeper (envOfC qual scope s.heap.objs.size f cd)) (leaving (envOfC qual scope s.heap.objs.size f cd) e) (λ _ OF=>CX outer H s E e OF) (λ e' OF=>CX outer H s E e' OF) s'
theorem uU{sc:Scope}{n:Nat}{x:Str}(h:sc.names.lookup x=some .cell):∃c,(cellsFrom n sc.names []).lookup x=some c:=by
 have q:=PySem.W.cellsFrom_some sc.names n [] (.inl h)
 exact Option.isSome_iff_exists.mp q
theorem zU{CX:Ew}{P:Program}{w:World}{K:PySem.W.Frag}{mg:Str->Option Value}{base:Heap}{N ps:List Str}{qual:Str}{scope:Scope}{f:Addr}{cd:Value}{A:Around}{outer:List Env}{s s1:Shared}{H:Hp}{E:XK}{us:List Value}{vs:List V}
  (S:aM N ps scope) (hd:A.handled=none) (e0:rU P w K mg base A outer s H) (hl:vs.length=ps.length) (r:Vals vs us)
  (x:InCallC s s.heap.objs.size (bindL (envOfC qual scope s.heap.objs.size f cd).kindOf (ps.zip us) λ _=>none) (cellsFrom (s.heap.objs.size+1) scope.names []) (bindC (envOfC qual scope s.heap.objs.size f cd).kindOf (ps.zip us) λ _=>none) s1):
  Inv (uK CX P w K mg base N qual scope f cd A outer s H E) [] (start N vs) H s1:=by
 have hpl:ps.length<=N.length:=by have:=J7 List.length S.pre;rw[A3]at this;omega
 obtain⟨h1,tk,rfl,hk⟩:=x.done
 have Pt:∀b:Addr,b∉(uK CX P w K mg base N qual scope f cd A outer s H E).ex:=λ b z=>absurd (show b∈([]:List Addr)from z) (by simp)
 refine⟨⟨e0.mod,S.kind,rfl,rfl,E9 _,λ y z c h1 h2=>?_,λ y hy=>?_,λ y c _ h=>?_,λ _=>hd,Around.frames_deeper e0.frames,.inr ⟨rfl,rfl⟩,λ b z=>absurd z (Pt b),e0.bs,e0.EB,λ b _ _=>Pt b,λ b z=>absurd z (Pt b),e0.lL,e0.Nc⟩,
  rfl,e0.bare,Un.kept hk,⟨_,x.toInCall.ns,λ i y v h1 h2 h3=>?_⟩,λ y c h=>⟨_,x.cell y c h⟩,e0.bO.fresh (E9 _),λ y c h=>?_,λ p hp=>absurd (show p∈([]:List (Addr×Obj))from hp) (by simp),e0.bO.kept hk,?_⟩
 ·exact name_of_addr x.apart (n6 h1) (n6 h2)
 ·have hy:scope.names.lookup y=some .cell\/scope.names.lookup y=some .free:=hy
  rcases hy with hy|hy
  ·exact uU hy
  ·exact absurd rfl (S.L1 _ (n6 hy))
 ·exact Nat.le_of_lt (x.above y c (n6 h))
 ·have hi:i < vs.length:=by
   unfold start at h2
   by_cases hi:i < vs.length
   ·exact hi
   ·rw[e9 (by simpa using hi)]at h2
    rw[j5]at h2
    split at h2 <;> cases h2
  have ha:vs[i]?=some v:=by
   unfold start at h2
   rw[i0 (by simpa using hi),s9]at h2
   cases e:vs[i]? with
   |none=>rw[e]at h2;cases h2
   |some a=>rw[e]at h2;cases h2;rfl
  obtain⟨u,hu,rv⟩:=r.get ha
  have hp:ps[i]?=some y:=by
   rw[<- S.pre,getElem?_take_of_lt (by omega)];exact h1
  have Vz:ps.Nodup:=by rw[<- S.pre];exact S.nd.sublist (take_sublist _ _)
  refine⟨u,rv,?_⟩
  rcases S.par y (m6 hp)with k|k
  ·exact .inl ⟨k,pV Vz hp hu k⟩
  ·obtain⟨c,e⟩:=uU (n:=s.heap.objs.size+1) k
   refine .inr ⟨.inl k,c,e,?_⟩
   have q:=x.cell y c e
   rw[pX Vz hp hu (by show scope.names.lookup y≠_;rw[k];decide)]at q
   exact q
 ·exact e0.bO.fresh (Nat.le_of_lt (x.above y c (n6 h)))
 ·unfold start
  show _=N.length
  rw[p6,B7,l8]
  omega
theorem QJ{CX:Ew}{P:Program}{w:World}{K:PySem.W.Frag}{mg:Str->Option Value}{base:Heap}{k:Nat}{f:Addr}{name qual:Str}{params:Arguments}{body:List Stmt}{scope:Scope}{dV kV doc pm c_ ct oc:Value}{an od:Option Addr}
  {IL:Array (Option Value)} {N ps:List Str} {sp:Sp} (lk:K.lookup f=some ⟨oc,od,.func (PySem.W.fnOf name qual params body scope dV kV doc pm an c_ ct),IL⟩) (hcd:PySem.W.codeIn K c_ qual=true) (S:aM N ps scope)
  (len:∀vs H Q E,sp vs H Q E->vs.length=ps.length)
  (nL:∀(A:Around) (outer:List Env) (s:Shared) (H:Hp) (vs:List V) (Q:VK) (E:XK),cJ k (A.deeper (envOfC qual scope s.heap.objs.size f c_))->sp vs H Q E->
   ∃t,vo (uK CX P w K mg base N qual scope f c_ A outer s H E) body t/\t {nx:=λ _ H'=>Q .bx H',rt:=Q} (start N vs) H):
  bZ P w K mg base CX (k+1) f (PySem.W.fnOf name qual params body scope dV kV doc pm an c_ ct) ps sp:=by
 refine⟨len,λ A outer s H args us vs Q E hr e0 hb r Hw=>?_⟩
 have hl:=len _ _ _ _ Hw
 have KX:K.In s.heap:=e0.mod.R9.keeps λ b o e=>(e0.bs b o e).1
 have lim:s.heap.NoLimit:=e0.mod.nolimit.keeps λ b o e=>(e0.bs b o e).1
 have DB:∀y∈ps.zip us,scope.names.lookup y.1=some .local\/(scope.names.lookup y.1=some .cell/\((cellsFrom (s.heap.objs.size+1) scope.names []).lookup y.1).isSome=true):=λ⟨n,v⟩ hy=>by
  rcases S.par n (of_mem_zip hy).1 with q|q
  ·exact .inl q
  ·exact .inr ⟨q,PySem.W.cellsFrom_some _ _ _ (.inl q)⟩
 refine codeAny_call_function hr.depth (KX _ _ lk) rfl S.co S.gen rfl (PySem.W.codeRec_of KX hcd) (hb _ _ _ _ ?_)
 refine wpAny_newFunctionEnv_cells S.kind DB λ env he s1 x=>?_
 subst he
 refine⟨lim.keeps x.toInCall.keep,codeAny_func ?_⟩
 obtain⟨t,ht,hq⟩:=nL A outer s H vs Q E (hr.deeper _) Hw
 have I:Inv (uK CX P w K mg base N qual scope f c_ A outer s H E) [] (start N vs) H s1:=zU S hr.hd e0 hl r x
 refine J0 (ht [] s1 (start N vs) H _ I hq) (λ fl s' hs=>?_) λ e s' hs=>hs
 have fin:∀{σ':St} {H':Hp} {v:V} {u:Value},Inv (uK CX P w K mg base N qual scope f c_ A outer s H E) [] σ' H' s'->RelV v u->Q v H'->CE outer P w H s Q u s':=
  λ{σ' H' v u} J rv q=>⟨v,H',J.os,J.bare,J.base,J.bO,rv,q⟩
 cases fl with
 |ret u=>
  obtain⟨v,σ',H',J,rv,q⟩:=hs
  exact fin J rv q
 |next=>
  obtain⟨σ',H',J,q⟩:=hs
  exact fin (v:=V.bx) (u:=Value.none) J rfl q
 |brk=>
  obtain⟨_,_,_,q⟩:=hs
  exact False.elim q
 |cont=>
  obtain⟨_,_,_,q⟩:=hs
  exact False.elim q
section
variable {X:Cx}{x:Str}{p pos:Pos}{e:Expr}{es:List Expr}{t:TA}{id T:String}{r:List V->Hp->VK->Prop}
def Ry(r:List V->Hp->VK->Prop)(t:TA):TE:=λ σ H Q=>t σ H λ vs H1=>r vs H1 Q
theorem s_(hc:dH X (.builtin id) r)(hg:Gl X x)(hm:X.mg x=none)(hv:bootBuiltins x=some (.builtin id))(ha:PA X (e::es) t)(hn:x≠"__name__":=by decide)(hdb:(x==("__debug__":Str))=false:=by decide)
  (he:starEach (e::es) X.env=(false,eval e X.env)::starEach es X.env:=by rfl) (hpl:(backTo pos (starEach es X.env)).any (·.1)=false:=by rfl):PE X (.Call (.Name x p) (e::es) [] pos) (Ry r t):=by
 intro pins s σ H Q I h
 refine r9 (fA I hg hm hv ?_ hn hdb)
 exact PyProof.Rows.callWith_builtin1 (cV (ha pos pins s σ H _ I h) λ us s1 ⟨vs,H1,I1,r1,q1⟩=>hc pins s1 σ H1 vs us Q I1 r1 q1) he hpl
theorem pv(hc:dH X (.type T) r)(hg:Gl X x)(hm:X.mg x=none)(hv:bootBuiltins x=some (.type T))(ha:PA X (e::es) t)(hn:x≠"__name__":=by decide)(hdb:(x==("__debug__":Str))=false:=by decide)
  (he:starEach (e::es) X.env=(false,eval e X.env)::starEach es X.env:=by rfl) (hpl:(backTo pos (starEach es X.env)).any (·.1)=false:=by rfl):PE X (.Call (.Name x p) (e::es) [] pos) (Ry r t):=by
 intro pins s σ H Q I h
 refine r9 (fA I hg hm hv ?_ hn hdb)
 exact e6 (cV (ha pos pins s σ H _ I h) λ us s1 ⟨vs,H1,I1,r1,q1⟩=>hc pins s1 σ H1 vs us Q I1 r1 q1) he hpl
end
end L2
namespace HT
open PySem PyProof.Rows
def lexLt:List Int->List Int->Bool
 |[],[]=>false
 |[],_::_=>true
 |_::_,[]=>false
 |x::xs,y::ys=>if x=y then lexLt xs ys else decide (x < y)
theorem cX(x y:Int)(xs ys:List Int):lexLt (x::xs) (y::ys)=if x=y then lexLt xs ys else decide (x < y):=rfl
theorem dU:lexLt [] []=false:=rfl
theorem dw(y:Int)(ys:List Int):lexLt [] (y::ys)=true:=rfl
theorem dy(x:Int)(xs:List Int):lexLt (x::xs) []=false:=rfl
theorem DN(A:Around)(s:Shared)(a:Int)(t:Tok)(c:Int)(u:Tok):∃e,SeqAt.EqAt A s (.int a t) (.int c u) e/\(e=true↔a=c):=
 ⟨(a==c),SeqAt.EqAt.int_int a t c u,by simp⟩
theorem ng(A:Around)(s:Shared)(a:Int)(t:Tok)(c:Int)(u:Tok)(prog:Program)(w:World)(E:Value->Shared->Prop)(Q:Value->Shared->Prop)(h:Q (.bool (decide (a < c))) s):
  wpAny (model prog w) A (richCompare .Lt (.int a t) (.int c u)) Q E s:=
 (PyProof.Rows.lt_int h:wpAny (model prog w) A (compareOp .Lt (.int a t) (.int c u)) Q E s)
section
open PySem.SeqAt
open PySem.AutoSeq1 (wpAny_loadPart')
open PySem.MeetsSeq PySem.MeetsSeq2 PySem.MeetsSeq3
theorem oy(l b:Addr)(items fB:Array Value)(n n2:Nat)(dd Og:Option Addr)(sl NV:Array (Option Value))(ns ms:List Int)(hi:IntsAre items.toList ns)(hj:IntsAre fB.toList ms):
  Meets (Builtin.«tuple.__lt__» ⟨[.ref l,.ref b],[]⟩)
   (λ _ R s=>s.heap.get? l=some {cls:=.type "tuple",dict:=dd,data:=.seq items n,slots:=sl}/\s.heap.get? b=some {cls:=.type "tuple",dict:=Og,data:=.seq fB n2,slots:=NV}/\
    R (.ok (.ret (.bool (lexLt ns ms)))) s):=
 .of_wp λ prog w A R s h=>by
  obtain⟨hp,g,d,tk,os⟩:=s;obtain⟨hl,hb,h⟩:=h
  have f2:=AutoSeq1.sub_tuple_tuple
  have z1:items.size=ns.length:=by rw[<- hi.length];simp
  have z2:fB.size=ms.length:=by rw[<- hj.length];simp
  wp_walk using B0 hl,B0 hb,wpAny_forIn_list _ (λ rest b s'=>b.1=none/\s'=⟨hp,g,d,tk,os⟩/\∃(vs ws:List Value) (NX NZ:List Int),rest=vs.zip ws/\
   IntsAre vs NX/\IntsAre ws NZ/\NX.length+fB.size=NZ.length+items.size/\R (.ok (.ret (.bool (lexLt NX NZ)))) ⟨hp,g,d,tk,os⟩) _
  case turn=>
   rintro⟨y,x⟩ rest b s' ⟨pK,rfl,vs,ws,NX,NZ,hz,Ub,Sb,hlen,hR⟩
   cases Ub with
   |nil=>rw[zip_nil_left]at hz;cases hz
   |cons a t Ua=>
    cases Sb with
    |nil=>rw[zip_nil_right]at hz;cases hz
    |cons c u T'=>
     rw[zip_cons_cons]at hz
     injection hz with WY Qa
     injection WY with hy hx
     subst hy hx
     rw[cX]at hR
     simp only[y6]at hlen
     obtain⟨e,he,Qj⟩:=DN A.in1 ⟨hp,g,d,tk,os⟩ a t c u
     refine G8 (he prog w _ _ ?_)
     cases e with
     |true=>
      rw[J9 (Qj.mp rfl)]at hR
      wp_walk
      exact⟨rfl,rfl,_,_,_,_,Qa,Ua,T',by omega,hR⟩
     |false=>
      rw[K0 (λ q=>absurd (Qj.mpr q) p5)]at hR
      have Xc:=ng A.in1 ⟨hp,g,d,tk,os⟩ a t c u prog w
      wp_walk using Xc
      exact⟨_,rfl,by simpa using hR⟩
  case fin=>
   rintro⟨b1,b2⟩ s' ⟨pK,rfl,vs,ws,NX,NZ,hz,Ub,Sb,hlen,hR⟩
   simp only at pK
   subst pK
   have hv:lexLt NX NZ=decide (items.size < fB.size):=by
    cases Ub with
    |nil=>
     cases Sb with
     |nil=>
      simp only[length_nil]at hlen
      rw[dU]
      exact(A9 (by omega)).symm
     |cons c u hw=>
      simp only[length_nil,y6]at hlen
      rw[dw]
      exact(C1 (by omega)).symm
    |cons a t hv=>
     cases Sb with
     |nil=>
      simp only[length_nil,y6]at hlen
      rw[dy]
      exact(A9 (by omega)).symm
     |cons c u hw=>
      rw[zip_cons_cons]at hz
      cases hz
   rw[hv]at hR
   wp_walk
   exact⟨_,rfl,by simpa[Builtin.Tuple.tupleCompareSizes]using hR⟩
  case h=>
   exact⟨rfl,rfl,items.toList,fB.toList,ns,ms,rfl,hi,hj,by omega,h⟩
end
section
variable {prog:Program}{w:World}{A:Around}{E:Value->Shared->Prop}{s:Shared}
theorem wu{l b:Addr}{items fB:Array Value}{ns ms:List Int}{Q:Value->Shared->Prop}(hl:IsTup s.heap l items)(hb:IsTup s.heap b fB)(hi:IntsAre items.toList ns)(hj:IntsAre fB.toList ms)
  (hu:A.units < cLine) (h:Q (.bool (lexLt ns ms)) s):wpAny (model prog w) A (compareOp .Lt (.ref l) (.ref b)) Q E s:=by
 obtain⟨⟨cls,dd,data,sl⟩,ho,hc,n,hd⟩:=id hl
 obtain⟨⟨Vf,Og,data2,NV⟩,MG,Qp,n2,hd2⟩:=id hb
 simp only at hc hd Qp hd2
 subst hc hd Qp hd2
 exact richCompare_meets_room (op:=.Lt) ⟨_,ho,rfl⟩ ⟨_,MG,rfl⟩ PySem.F.slot_tuple_lt PySem.F.entry_tuple_lt (PySem.F.args_tuple_lt_2 _ _) (oy l b items fB n n2 dd Og sl NV ns ms hi hj)
  ⟨ho,MG,show Value.bool (lexLt ns ms)≠Value.notImplemented/\Q (.bool (lexLt ns ms)) s from⟨(λ x=>nomatch x),h⟩⟩ hu
theorem HZ{t b:Addr}{vs ws:List Value}{Q:Value->Shared->Prop}(ht:IsTup s.heap t vs.toArray)(hb:IsTup s.heap b ws.toArray)(hv:vs≠[])
  (h1:ws=[]->Q (.ref t) s) (h2:ws≠[]->Q (.ref s.heap.objs.size) {s with heap:=s.heap.push {cls:=.type "tuple",data:=.seq (vs++ws).toArray}})
  (hsz:vs.length+ws.length<=sizeLine):wpAny (model prog w) A (binaryOp .Add (.ref t) (.ref b)) Q E s:=by
 obtain⟨⟨cls,dd,data,sl⟩,ho,hc,n,hd⟩:=id ht
 obtain⟨⟨Vf,Og,data2,NV⟩,MG,Qp,n2,hd2⟩:=id hb
 simp only at hc hd Qp hd2
 subst hc hd Qp hd2
 have e:vs.toArray++ws.toArray=(vs++ws).toArray:=by simp
 by_cases hw:ws=[]
 ·exact concat_meets ⟨_,ho,rfl⟩ ⟨_,MG,rfl⟩ noFill_tuple_add seq_tuple_add PySem.F.slot_tuple_add PySem.F.entry_tuple_add (PySem.F.args_tuple_add_2 _ _)
   (tuple_addW1 t b vs.toArray ws.toArray n n2 dd Og sl NV (by simpa using hv) (by simp[hw])) ⟨ho,MG,h1 hw⟩
 ·refine concat_meets ⟨_,ho,rfl⟩ ⟨_,MG,rfl⟩ noFill_tuple_add seq_tuple_add PySem.F.slot_tuple_add PySem.F.entry_tuple_add (PySem.F.args_tuple_add_2 _ _)
   (tuple_addW2 t b vs.toArray ws.toArray n n2 dd Og sl NV (by simpa using hv) (by simpa using hw) (by rw[x5,x5];exact hsz)) ⟨ho,MG,?_⟩
  rw[e]
  exact h2 hw
def ck(n d:Nat):Option Int->Nat
 |none=>d
 |some v=>if v < 0 then(v+(n:Int)).toNat else min v.toNat n
theorem vL(n d:Nat)(hd:d<=n)(o:Option Int):ck n d o<=n:=by
 cases o with
 |none=>exact hd
 |some v=>
  show(if v < 0 then(v+(n:Int)).toNat else min v.toNat n)<=n
  by_cases hv:v < 0
  ·rw[J9 hv];omega
  ·rw[K0 hv];exact Nat.min_le_right _ _
theorem yM(v:Int)(n d:Nat):(if v < 0 then max (v+(n:Int)) 0 else min v (n:Int))=((ck n d (some v):Nat):Int):=by
 show(if v < 0 then max (v+(n:Int)) 0 else min v (n:Int))=(((if v < 0 then(v+(n:Int)).toNat else min v.toNat n):Nat):Int)
 by_cases hv:v < 0
 ·simp only[J9 hv];omega
 ·simp only[K0 hv];omega
theorem wZ(lo hi:Option Int)(n:Nat):Builtin.Slice.sliceAdjust lo hi 1 (n:Int)=(((ck n 0 lo:Nat):Int),((ck n n hi:Nat):Int)):=by
 have h1:¬((1:Int) < 0):=by omega
 unfold Builtin.Slice.sliceAdjust
 simp only[h1,J5]
 refine Prod.ext ?_ ?_
 ·cases lo with
  |none=>rfl
  |some v=>exact yM v n 0
 ·cases hi with
  |none=>rfl
  |some v=>exact yM v n n
theorem vV(i j:Nat):Builtin.Slice.slicePlaces (i:Int) (j:Int) 1=j - i:=by
 unfold Builtin.Slice.slicePlaces
 have h1:(1:Int) > 0:=by omega
 simp only[h1,if_true,Int.ediv_one]
 split <;> omega
theorem mV{v:Value}{o:Option Int}{Q:Option Int->Shared->Prop}(p:IsPart v o)(h:Q o s):wpAny (model prog w) A (Builtin.Slice.slicePartIndex v) Q E s:=by
 cases p with
 |none=>exact slicePart_none h
 |int i t=>exact slicePart_int h
theorem fJ{sl:Addr}{vl vu:Value}{lo hi:Option Int}{n:Nat}{Q:Int×Int×Nat->Shared->Prop}(hs:s.heap.IsSliceOf sl vl vu .none)(pl:IsPart vl lo)(pu:IsPart vu hi)
  (h:Q (((ck n 0 lo:Nat):Int),1,ck n n hi - ck n 0 lo) s):wpAny (model prog w) A (Builtin.Slice.sliceApplied (.ref sl) (pure (n:Int))) Q E s:=by
 obtain⟨os,vi,So,HE⟩:=id hs
 unfold Builtin.Slice.sliceApplied Builtin.Slice.sliceFields
 refine G8 (G8 (G6 vi HE (x:=vl) rfl (G8 (G6 vi HE (x:=vu) rfl (G8 (G6 vi HE (x:=.none) rfl (G9 ?_)))))))
 refine G8 (slicePart_none ?_)
 show wpAny _ _ (if((1:Int)==0)=true then _ else _) _ _ s
 rw[K0 (by decide)]
 refine G8 (mV pl (G8 (mV pu (G8 (G9 ?_)))))
 show wpAny _ _ (match Builtin.Slice.sliceAdjust lo hi 1 (n:Int)with|(lo,hi)=>pure (lo,(1:Int),Builtin.Slice.slicePlaces lo hi 1)) _ _ s
 rw[wZ lo hi n]
 show wpAny _ _ (pure (((ck n 0 lo:Nat):Int),(1:Int),Builtin.Slice.slicePlaces ((ck n 0 lo:Nat):Int) ((ck n n hi:Nat):Int) 1)) _ _ s
 rw[vV]
 exact G9 h
theorem Cb(xs:Array Value)(i k:Nat):((List.range k).filterMap λ(m:Nat)=>xs[((i:Int)+(m:Int)*1).toNat]?).toArray=((xs.toList.drop i).take k).toArray:=by
 have e:(λ(m:Nat)=>xs[((i:Int)+(m:Int)*1).toNat]?)=λ m=>xs[i+m]?:=by
  funext m
  have:((i:Int)+(m:Int)*1).toNat=i+m:=by omega
  rw[this]
 rw[e]
 have:=pick_run xs i k
 rw[filterMap_map]at this
 have e2:((λ x=>xs[x]?)∘λ x=>i+x)=λ m=>xs[i+m]?:=rfl
 rw[e2]at this
 rw[this]
theorem jD{t sl:Addr}{items:Array Value}{vl vu:Value}{lo hi:Option Int}{Q:Value->Shared->Prop}(ht:IsTup s.heap t items)(hs:s.heap.IsSliceOf sl vl vu .none)(pl:IsPart vl lo)(pu:IsPart vu hi)
  (hw:¬(ck items.size 0 lo=0/\ck items.size items.size hi=items.size))
  (h:Q (.ref s.heap.objs.size) {s with heap:=s.heap.push {cls:=.type "tuple",data:=.seq ((items.toList.drop (ck items.size 0 lo)).take (ck items.size items.size hi - ck items.size 0 lo)).toArray}})
  (hsz:items.size<=sizeLine):wpAny (model prog w) A (getItem (.ref t) (.ref sl)) Q E s:=by
 have yp:sizeOk (.seq ((items.toList.drop (ck items.size 0 lo)).take (ck items.size items.size hi - ck items.size 0 lo)).toArray):=by
  show((items.toList.drop (ck items.size 0 lo)).take (ck items.size items.size hi - ck items.size 0 lo)).toArray.size<=sizeLine
  rw[x5,A3,y8,o7]
  omega
 have hj:ck items.size items.size hi<=items.size:=vL _ _ (E9 _) hi
 obtain⟨os,vi,So,HE⟩:=id hs
 have UK:s.TypeIs (.ref sl) "slice":=⟨os,vi,So⟩
 unfold getItem
 try with_reducible refine C5 ?_
 first|refine G8 (G9 ?_)|skip
 refine G8 (wpAny_sequenceKey ht.typeIs (by decide) ?_)
 refine G8 (j6 (name:=Str.ofString "__getitem__") ht.typeIs a8
  (A0 a8 ht.typeIs entry_tuple_getitem ?_ (args_tuple_getitem _ _)))
 show wpAny _ _ (Builtin.Tuple.tupleItemsOf (.ref t) >>= _) _ _ s
 refine G8 (tupleItemsOf_ ht ?_)
 refine G8 (wpAny_typeOf UK ?_)
 rw[J9 (by decide)]
 refine G8 (fJ hs pl pu ?_)
 have Xl:¬((((ck items.size 0 lo:Nat):Int)==0&&(1:Int)==1&&(ck items.size items.size hi - ck items.size 0 lo)==items.size)=true):=by
  intro q
  rw[A2,A2]at q
  have q1:((ck items.size 0 lo:Nat):Int)=0:=eq_of_beq q.1.1
  have q2:ck items.size items.size hi - ck items.size 0 lo=items.size:=eq_of_beq q.2
  exact hw ⟨by omega,by omega⟩
 show wpAny _ _ (if(((ck items.size 0 lo:Nat):Int)==0&&(1:Int)==1&&(ck items.size items.size hi - ck items.size 0 lo)==items.size)=true then _ else _) _ _ s
 rw[K0 Xl,Cb]
 first
  |exact G8 (m:=Builtin.Tuple.tupleExact _) (u6 (G9 ⟨_,rfl,G9 h⟩) yp)
  |exact G8 (m:=Builtin.Tuple.tupleExact _) (u6 (G8 (G9 (G9 ⟨_,rfl,G9 h⟩))) yp)
  |exact G8 (G8 (m:=Builtin.Tuple.tupleExact _) (u6 (G9 (G9 ⟨_,rfl,G9 h⟩)) yp))
  |exact G8 (G8 (m:=Builtin.Tuple.tupleExact _) (u6 (G9 ⟨_,rfl,G9 h⟩) yp))
end
end HT
namespace L2
open PySem PySem.Spec PyProof.Rows
abbrev TO:=St->Hp->(Option Int->Hp->Prop)->Prop
def PO(X:Cx)(e:Option Expr)(t:TO):Prop:=
 ∀(pins:List (Addr×Obj)) (s:Shared) (σ:St) (H:Hp) (Q:Option Int->Hp->Prop),Inv X pins σ H s->t σ H Q->
  wpAny (model X.prog X.w) X.A (evalPart e X.env) (λ u s'=>∃o H',Inv X pins σ H' s'/\IsPart u o/\Q o H') X.xe s
def EU:TO:=λ _ H Q=>Q none H
def Ow(t:TE):TO:=λ σ H Q=>t σ H λ x H1=>∃i,x=.int i/\Q (some i) H1
theorem intsAre_of{ns:List Int}:∀{us:List Value},Vals (ns.map V.int) us->IntsAre us ns:=by
 induction ns with
 |nil=>intro us r;rw[map_nil]at r;cases r;exact .nil
 |cons n ns ih=>
  intro us r
  rw[D1]at r
  cases r with
  |cons r1 r2=>
   obtain⟨t,e⟩:=r1
   subst e
   exact .cons n t (ih r2)
section
variable {X:Cx}{e:Expr}{te:TE}{lo hi:Option Expr}{tl th:TO}{pos p2:Pos}
theorem Gs:PO X none EU:=by
 intro pins s σ H Q I h
 rw[evalPart_none]
 exact G9 ⟨none,H,I,.none,h⟩
theorem Gr(h:PE X e te):PO X (some e) (Ow te):=by
 intro pins s σ H Q I hw
 rw[evalPart_some]
 refine cV (h pins s σ H _ I hw) λ u s1 ⟨x,H1,I1,r1,q1⟩=>?_
 obtain⟨i,rfl,q⟩:=q1
 obtain⟨t,rfl⟩:=r1
 exact⟨some i,H1,I1,.int i t,q⟩
def yT(X:Cx)(r:V->Option Int->Option Int->Hp->VK->Prop):Prop:=
 ∀(pins:List (Addr×Obj)) (s:Shared) (σ:St) (H:Hp) (x:V) (v vl vu:Value) (lo hi:Option Int) (sl:Addr) (Q:VK),Inv X pins σ H s->RelV x v->s.heap.IsSliceOf sl vl vu .none->IsPart vl lo->IsPart vu hi->r x lo hi H Q->
  ∃T id,typeLookup (.type T) "__getitem__"=pure (some (.builtin id))/\s.TypeIs v T/\wpAny (model X.prog X.w) X.A (getItem v (.ref sl)) (EP X pins σ Q) X.xe s
theorem yT.or {r r':V->Option Int->Option Int->Hp->VK->Prop}(h:yT X r)(h':yT X r'):yT X (λ x lo hi H Q=>r x lo hi H Q\/r' x lo hi H Q):=by
 intro pins s σ H x v vl vu lo hi sl Q I rx hs pl pu q
 rcases q with q|q
 ·exact h pins s σ H x v vl vu lo hi sl Q I rx hs pl pu q
 ·exact h' pins s σ H x v vl vu lo hi sl Q I rx hs pl pu q
def Wv(r:V->Option Int->Option Int->Hp->VK->Prop)(te:TE)(tl th:TO):TE:=λ σ H Q=>te σ H λ x H1=>tl σ H1 λ l H2=>th σ H2 λ u H3=>r x l u H3 Q
theorem Ce{r:V->Option Int->Option Int->Hp->VK->Prop}(hr:yT X r)(he:PE X e te)(hl:PO X lo tl)(hu:PO X hi th):PE X (.Subscript e (.Slice lo hi none p2) pos) (Wv r te tl th):=by
 intro pins s σ H Q I h
 refine Subscript_ (cV (he pins s σ H _ I h) λ v s1 ⟨x,H1,I1,r1,q1⟩=>?_)
 refine wpAny_Slice (cV (hl pins s1 σ H1 _ I1 q1) λ vl s2 ⟨l,H2,I2,pl,q2⟩=>cV (hu pins s2 σ H2 _ I2 q2) λ vu s3 ⟨u,H3,I3,pu,q3⟩=>?_)
 rw[evalPart_none]
 refine G9 ?_
 have I4:Inv X pins σ H3 {s3 with heap:=s3.heap.push {cls:=.type "slice",data:=.fields #[vl,vu,.none]}}:=I3.kept (t':=s3.toks) λ b ob q=>k5 _ q
 obtain⟨T,id,hT,ht,hg⟩:=hr pins {s3 with heap:=s3.heap.push {cls:=.type "slice",data:=.fields #[vl,vu,.none]}} σ H3 x v vl vu l u s3.heap.objs.size Q I4 r1 (Heap.IsSliceOf.new ..) pl pu q3
 show wpAny (model X.prog X.w) X.A (subscriptTail e (.Slice lo hi none p2) v (.ref s3.heap.objs.size)) (EP X pins σ Q) X.xe {s3 with heap:=s3.heap.push {cls:=.type "slice",data:=.fields #[vl,vu,.none]}}
 exact tail_any (ops:=[.ref s3.heap.objs.size,v]) ht hT hg (by with_unfolding_all rfl)
def uM(xs:List V)(lo hi:Option Int):List V:=(xs.drop (HT.ck xs.length 0 lo)).take (HT.ck xs.length xs.length hi - HT.ck xs.length 0 lo)
theorem lh(xs:List V)(lo hi:Option Int):(uM xs lo hi).length<=xs.length:=by
 unfold uM
 rw[A3,y8]
 omega
def OP(K:PySem.W.Frag):V->Option Int->Option Int->Hp->VK->Prop:=λ x lo hi H Q=>∃a xs,x=.ref a/\f_ K H a xs/\
 ¬(HT.ck xs.length 0 lo=0/\HT.ck xs.length xs.length hi=xs.length)/\∀p,H p=none->Q (.ref p) (upd H p (.tup (uM xs lo hi)))
theorem JQ:yT X (OP X.K):=by
 intro pins s σ H x v vl vu lo hi sl Q I rx hs pl pu h
 obtain⟨a,xs,rfl,hx,hw,q⟩:=h
 cases rx
 obtain⟨au,r,ht,hz⟩:=I.tuple hx
 have hlen:au.toArray.size=xs.length:=by rw[x5];exact r.length.symm
 refine⟨"tuple",_,a8.lookup,ht.typeIs,?_⟩
 refine HT.jD ht hs pl pu (by rw[hlen];exact hw) ?_ (by rw[hlen];exact hz)
 rw[hlen]
 refine⟨.ref s.heap.objs.size,_,I.laid (t':=s.toks) (o:=.tup (uM xs lo hi)) (λ b ob q=>k5 _ q) (E9 _) ?_,rfl,q _ (I.bO.fresh (E9 _))⟩
 exact⟨E8 (lh xs lo hi) hz,_,(r.drop (HT.ck xs.length 0 lo)).take (HT.ck xs.length xs.length hi - HT.ck xs.length 0 lo),IsTup.new _ _⟩
def OY(K:PySem.W.Frag):R2:=λ x y H Q=>∃a b xs ys,x=.ref a/\y=.ref b/\f_ K H a xs/\f_ K H b ys/\xs≠[]/\xs.length+ys.length<=sizeLine/\
 (ys=[]->Q (.ref a) H)/\(ys≠[]->∀p,H p=none->Q (.ref p) (upd H p (.tup (xs++ys))))
theorem Vals.qD {xs:List V}{us:List Value}(r:Vals xs us):us=[]↔xs=[]:=by
 cases r with
 |nil=>simp
 |cons _ _=>simp
theorem GH:fu X (binaryOp .Add) (OY X.K):=by
 intro pins s σ H x y v u Q I rx ry h
 obtain⟨a,b,xs,ys,rfl,rfl,ha,hb,hx,hz,q1,q2⟩:=h
 cases rx
 cases ry
 obtain⟨au,r1,p1,_⟩:=I.tuple ha
 obtain⟨Mz,r2,p2,_⟩:=I.tuple hb
 refine HT.HZ p1 p2 (λ z=>hx (r1.qD.mp z)) (λ z=>⟨.ref a,H,I,rfl,q1 (r2.qD.mp z)⟩) (λ z=>?_) (by rw[<- r1.length,<- r2.length];exact hz)
 refine⟨.ref s.heap.objs.size,_,I.laid (t':=s.toks) (o:=.tup (xs++ys)) (λ b ob q=>k5 _ q) (E9 _) ?_,rfl,q2 (λ w=>z (r2.qD.mpr w)) _ (I.bO.fresh (E9 _))⟩
 exact⟨by rw[p6];exact hz,_,r1.append r2,IsTup.new _ _⟩
end
def wy(n:Nat)(i:Int):Option Nat:=if 0<=i then(if i < n then some i.toNat else none)else if -(n:Int)<=i then some (i+n).toNat else none
def iq{α:Type}(xs:List α)(i:Int):Option α:=(wy xs.length i).bind λ j=>xs[j]?
theorem yk{n:Nat}{i:Int}{j:Nat}(h:wy n i=some j):seqIndex? i n=some j/\j < n/\-(n:Int)<=i/\i < n:=by
 unfold wy at h
 by_cases h0:0<=i
 ·rw[J9 h0]at h
  by_cases h1:i < n
  ·rw[J9 h1]at h
   have e:i.toNat=j:=B2 h
   exact⟨by rw[seqIndex_of h0 h1,e],by omega,by omega,h1⟩
  ·rw[K0 h1]at h;cases h
 ·rw[K0 h0]at h
  by_cases h1: -(n:Int)<=i
  ·rw[J9 h1]at h
   have e:(i+n).toNat=j:=B2 h
   exact⟨by rw[seqIndex_neg (by omega) h1,e],by omega,h1,by omega⟩
  ·rw[K0 h1]at h;cases h
theorem rO{α:Type}{xs:List α}{i:Int}{v:α}(h:iq xs i=some v):∃j,seqIndex? i xs.length=some j/\xs[j]?=some v/\j < xs.length/\-(xs.length:Int)<=i/\i < xs.length:=by
 unfold iq at h
 cases e:wy xs.length i with
 |none=>rw[e]at h;cases h
 |some j=>
  rw[e]at h
  obtain⟨h1,h2,h3,h4⟩:=yk e
  exact⟨j,h1,h,h2,h3,h4⟩
theorem bV{α:Type}{xs:List α}{j:Nat}{v:α}(h:xs[j]?=some v):iq xs (j:Int)=some v:=by
 have hj:j < xs.length:=(i6.mp h).1
 have e:wy xs.length (j:Int)=some j:=by
  unfold wy
  rw[J9 (by omega),J9 (by omega)];simp
 unfold iq;rw[e];exact h
def rR(b:Expr):Prop:=∀o i,subscripted b false o i=operate [o,i] (getItem o i)
def xf(X:Cx)(r:R2):Prop:=
 ∀(value slice:Expr) (pins:List (Addr×Obj)) (s:Shared) (σ:St) (H:Hp) (x y:V) (v u:Value) (Q:VK),Inv X pins σ H s->RelV x v->RelV y u->r x y H Q->
  subscripted slice false v u=operate [v,u] (getItem v u)->wpAny (model X.prog X.w) X.A (subscriptTail value slice v u) (EP X pins σ Q) X.xe s
def SA(X:Cx)(id:String)(r:V->List V->Hp->VK->Prop):Prop:=
 ∀(pins:List (Addr×Obj)) (s:Shared) (σ:St) (H:Hp) (x:V) (xs:List V) (v:Value) (us:List Value) (Q:VK),Inv X pins σ H s->RelV x v->Vals xs us->r x xs H Q->
  wpAny (model X.prog X.w) X.A (call (.builtin id) (v::us)) (EP X pins σ Q) X.xe s
section
variable {X:Cx}{a b:Expr}{ta tb:TE}{pos:Pos}
theorem xf.or {r r':R2}(h:xf X r)(h':xf X r'):xf X (λ x y H Q=>r x y H Q\/r' x y H Q):=by
 intro value slice pins s σ H x y v u Q I rx ry q hs
 rcases q with q|q
 ·exact h value slice pins s σ H x y v u Q I rx ry q hs
 ·exact h' value slice pins s σ H x y v u Q I rx ry q hs
theorem Pb{r:R2}(hr:xf X r)(ha:PE X a ta)(hb:PE X b tb)(hs:rR b):PE X (.Subscript a b pos) (Ox r ta tb):=by
 intro pins s σ H Q I h
 exact Subscript_ (NF ha hb I h λ v u s2 x y H2 I2 rx ry q=>hr a b pins s2 σ H2 x y v u Q I2 rx ry q (hs _ _))
def OV(K:PySem.W.Frag):R2:=λ x y H Q=>∃p xs i v,x=.ref p/\y=.int i/\dD K H p xs/\iq xs i=some v/\Q v H
def OT(K:PySem.W.Frag):R2:=λ x y H Q=>∃p xs i v,x=.ref p/\y=.int i/\f_ K H p xs/\iq xs i=some v/\Q v H
def OU:R2:=λ x y H Q=>∃z i c,x=.str z/\y=.int i/\z.length<=sizeLine/\iq z.cps.toList i=some c/\Q (.str ⟨#[c]⟩) H
theorem Hn:xf X (OV X.K):=by
 intro value slice pins s σ H x y v u Q I rx ry h hs
 obtain⟨p,xs,i,z,rfl,rfl,hq,he,q⟩:=h
 cases rx
 obtain⟨t,rfl⟩:=ry
 obtain⟨au,r,pl,hz⟩:=I.list hq
 obtain⟨j,h1,h2,h3,h4,h5⟩:=rO he
 obtain⟨w,ew,vM⟩:=r.get h2
 have hl:=r.length
 have hn:=kh
 have fin:EP X pins σ Q w s:=⟨z,H,I,vM,q⟩
 by_cases h0:0<=i
 ·have hj:i.toNat=j:=by
   rw[seqIndex_of h0 h5]at h1
   exact B2 h1
  exact item_listR pl.isList h0 (by omega) (by rw[hj];simpa using ew) fin hs
 ·have hj:(i+(au.toArray.size:Int)).toNat=j:=by
   rw[seqIndex_neg (by omega) h4]at h1
   rw[x5,<- hl]
   exact B2 h1
  exact subscriptTail_builtinR (x:=w) pl.isList.typeIs slot_list_getitem.lookup
   (wpAny_getItem_list_neg (Q:=λ r s'=>r=w/\EP X pins σ Q r s') pl.isList (by omega) (by rw[x5] <;> omega) (by omega) (by rw[hj];simpa using ew) ⟨rfl,fin⟩) hs
theorem Mu:xf X (OT X.K):=by
 intro value slice pins s σ H x y v u Q I rx ry h hs
 obtain⟨p,xs,i,z,rfl,rfl,hq,he,q⟩:=h
 cases rx
 obtain⟨t,rfl⟩:=ry
 obtain⟨au,r,pl,hz⟩:=I.tuple hq
 obtain⟨j,h1,h2,h3,h4,h5⟩:=rO he
 obtain⟨w,ew,vM⟩:=r.get h2
 have hl:=r.length
 have hn:=kh
 have fin:EP X pins σ Q w s:=⟨z,H,I,vM,q⟩
 exact subscriptTail_builtinR (x:=w) pl.typeIs slot_tuple_getitem.lookup
  (getItem_tuple (j:=j) (Q:=λ r s'=>r=w/\EP X pins σ Q r s') pl (by omega) (by omega) (by rw[x5,<- hl];exact h1) (by simpa using ew) ⟨rfl,fin⟩) hs
theorem Mv:xf X OU:=by
 intro value slice pins s σ H x y v u Q I rx ry h hs
 obtain⟨z,i,c,rfl,rfl,hz,he,q⟩:=h
 obtain⟨t,rfl⟩:=rx
 obtain⟨t',rfl⟩:=ry
 obtain⟨j,h1,h2,h3,h4,h5⟩:=rO he
 have hl:z.cps.toList.length=z.length:=by simp[Str.length]
 rw[hl]at h1 h4 h5
 have hn:=kh
 exact tail_any (typeIs_str s z t) slot_str_getitem.lookup (getItem_str (c:=c) (by
  have e1:decide (i < -(2^63:Int))=false:=A9 (by omega)
  have e2:decide (i ≥ 2^63)=false:=A9 (by omega)
  rw[e1,e2,Bool.or_false]) (by rw[h1];simpa using h2) ⟨.str ⟨#[c]⟩,H,I.tok _,⟨_,rfl⟩,q⟩) hs
def WD(K:PySem.W.Frag):R2:=λ x y H Q=>OV K x y H Q\/OT K x y H Q\/OU x y H Q
theorem Mw:xf X (WD X.K):=Hn.or (Mu.or Mv)
theorem wt(au:List Value)(n j:Nat)(u:Value):Obj.mapSeq (·.setIfInBounds j u) {cls:=.type "list",data:=.seq au.toArray n}={cls:=.type "list",data:=.seq (au.set j u).toArray n}:=by
 simp[Obj.mapSeq]
theorem Inv.lst {pins:List (Addr×Obj)}{σ:St}{H:Hp}{s:Shared}{p:Addr}{xs:List V}(I:Inv X pins σ H s)(h:H p=some (.lst xs)):
  ∃(au:List Value) (n:Nat),Vals xs au/\s.heap.get? p=some {cls:=.type "list",data:=.seq au.toArray n}/\xs.length<=sizeLine:=by
 obtain⟨z,au,n,r,e⟩:=I.bO p _ h
 exact⟨au,n,r,e,z⟩
theorem Inv.Mi {pins:List (Addr×Obj)}{σ:St}{H:Hp}{s:Shared}{p:Addr}{xs ys:List V}{au its':List Value}{n n':Nat}{f:Obj->Obj}(I:Inv X pins σ H s)(h:H p=some (.lst xs))
  (ho:s.heap.get? p=some {cls:=.type "list",data:=.seq au.toArray n}) (hf:f {cls:=.type "list",data:=.seq au.toArray n}={cls:=.type "list",data:=.seq its'.toArray n'}) (r:Vals ys its') (hz:ys.length<=sizeLine) (t:Nat):
  Inv X pins σ (upd H p (.lst ys)) {s with heap:=s.heap.update p f,toks:=t}:=by
 have e:(s.heap.update p f).get? p=some {cls:=.type "list",data:=.seq its'.toArray n'}:=by
  rw[k8 f ho (by rw[hf] <;> rfl),hf]
 refine I.write (x:=p) (e:=p) (by rw[h];trivial) (.inl rfl) (λ b u hb q=>(k7 _ _ (J8 hb)).trans q) ⟨_,e⟩ ?_
 exact⟨hz,its',n',r,e⟩
def OR:V->V->V->Hp->(Hp->Prop)->Prop:=λ o i v H Q=>∃p xs k j,o=.ref p/\i=.int k/\H p=some (.lst xs)/\wy xs.length k=some j/\Q (upd H p (.lst (xs.set j v)))
theorem set_list:rS X OR:=by
 intro pins s σ H o i v ov iv u Q I ro ri rv h
 obtain⟨p,xs,k,j,rfl,rfl,hp,hj,q⟩:=h
 cases ro
 obtain⟨t,rfl⟩:=ri
 obtain⟨au,n,r,ho,hz⟩:=I.lst hp
 obtain⟨h1,h2,h3,h4⟩:=yk hj
 have hl:=r.length
 have hn:=kh
 have I':Inv X pins σ (upd H p (.lst (xs.set j v))) {s with heap:=s.heap.update p (Obj.mapSeq (·.setIfInBounds j u))}:=
  I.Mi hp ho (wt au n j u) (r.set rv j) (by rw[length_set];exact hz) s.toks
 by_cases h0:0<=k
 ·have hk:k.toNat=j:=by
   rw[seqIndex_of h0 h4]at h1
   exact B2 h1
  exact PySem.W.ki_setAt ho h0 (by omega) (by rw[x5,<- hl];exact h4) (by rw[hk];exact⟨_,I',q⟩)
 ·have hk:(k+(au.toArray.size:Int)).toNat=j:=by
   rw[seqIndex_neg (by omega) h3]at h1
   rw[x5,<- hl]
   exact B2 h1
  exact PySem.W.ki_setBack ho (by omega) (by rw[x5,<- hl];exact h3) (by omega) (by rw[hk];exact⟨_,I',q⟩)
theorem je(lo hi:Option Int)(n:Nat):(sliceBounds lo hi none n).1=((HT.ck n 0 lo:Nat):Int)/\(sliceBounds lo hi none n).2.1=((HT.ck n n hi:Nat):Int)/\(sliceBounds lo hi none n).2.2=1:=by
 refine⟨?_,?_,rfl⟩
 ·cases lo with
  |none=>simp[sliceBounds,HT.ck]
  |some i=>
   simp only[sliceBounds,HT.ck,Option.getD_none,show(1:Int) > 0 by decide,if_true]
   by_cases h:i < 0
   ·simp only[h,if_true] <;> omega
   ·simp only[h,J5] <;> omega
 ·cases hi with
  |none=>simp[sliceBounds,HT.ck]
  |some i=>
   simp only[sliceBounds,HT.ck,Option.getD_none,show(1:Int) > 0 by decide,if_true]
   by_cases h:i < 0
   ·simp only[h,if_true] <;> omega
   ·simp only[h,J5] <;> omega
theorem oz(au:List Value)(lo hi:Option Int):slicePick au.toArray lo hi none=((au.drop (HT.ck au.length 0 lo)).take (HT.ck au.length au.length hi - HT.ck au.length 0 lo)).toArray:=by
 obtain⟨h1,h2,h3⟩:=je lo hi au.toArray.size
 unfold slicePick
 rw[h1,h2,h3]
 simp only[sliceRange_one,pick_run,x5] <;> rfl
def OQ(K:PySem.W.Frag):V->Option Int->Option Int->Hp->VK->Prop:=λ x lo hi H Q=>∃a xs,x=.ref a/\dD K H a xs/\∀p,H p=none->Q (.ref p) (upd H p (.lst (uM xs lo hi)))
theorem Fb:yT X (OQ X.K):=by
 intro pins s σ H x v vl vu lo hi sl Q I rx hs pl pu h
 obtain⟨a,xs,rfl,hx,q⟩:=h
 cases rx
 obtain⟨au,r,ht,hz⟩:=I.list hx
 have hlen:=r.length
 refine⟨"list",_,slot_list_getitem.lookup,ht.isList.typeIs,?_⟩
 refine wpAny_getItem_list_slice ht.isList hs pl pu .none (by simp) ?_ (by rw[x5] <;> omega)
 rw[oz,<- hlen]
 refine⟨.ref s.heap.objs.size,_,I.laid (t':=s.toks) (o:=.lst (uM xs lo hi)) (λ b ob q=>k5 _ q) (E9 _) ?_,rfl,q _ (I.bO.fresh (E9 _))⟩
 exact⟨E8 (lh xs lo hi) hz,_,0,(r.drop (HT.ck xs.length 0 lo)).take (HT.ck xs.length xs.length hi - HT.ck xs.length 0 lo),o8 _ rfl⟩
def gF:V->Bool
 | .bx=>true
 | .bl _=>true
 | .int _=>true
 | .str _=>true
 |_=>false
def Ji:V->V->Bool
 | .bx,.bx=>true
 | .bl a,.bl b=>a==b
 | .bl a,.int b=>(if a then 1 else 0)==b
 | .int a,.bl b=>a==(if b then 1 else 0)
 | .int a,.int b=>a==b
 | .str a,.str b=>a==b
 |_,_=>false
theorem Ng{A:Around}{s:Shared}{y x:V}{u v:Value}(ry:RelV y u)(rx:RelV x v)(fy:gF y=true)(fx:gF x=true):SeqAt.EqAt A s u v (Ji y x):=by
 cases y with
 |bx=>
  cases ry
  cases x with
  |bx=>cases rx;exact SeqAt.EqAt.same _
  |bl b=>cases rx;exact SeqAt.EqAt.none_bool b
  |int b=>obtain⟨t,rfl⟩:=rx;exact SeqAt.EqAt.none_int b t
  |str b=>obtain⟨t,rfl⟩:=rx;exact SeqAt.EqAt.none_str b t
  |_=>exact absurd (show false=true from fx) p5
 |bl a=>
  cases ry
  cases x with
  |bx=>cases rx;exact SeqAt.EqAt.bool_none a
  |bl b=>cases rx;exact SeqAt.EqAt.bool_bool a b
  |int b=>obtain⟨t,rfl⟩:=rx;exact SeqAt.EqAt.bool_int a b t
  |str b=>obtain⟨t,rfl⟩:=rx;exact SeqAt.EqAt.bool_str a b t
  |_=>exact absurd (show false=true from fx) p5
 |int a=>
  obtain⟨t',rfl⟩:=ry
  cases x with
  |bx=>cases rx;exact SeqAt.EqAt.int_none a t'
  |bl b=>cases rx;exact SeqAt.EqAt.int_bool a t' b
  |int b=>obtain⟨t,rfl⟩:=rx;exact SeqAt.EqAt.int_int a t' b t
  |str b=>obtain⟨t,rfl⟩:=rx;exact SeqAt.EqAt.int_str a t' b t
  |_=>exact absurd (show false=true from fx) p5
 |str a=>
  obtain⟨t',rfl⟩:=ry
  cases x with
  |bx=>cases rx;exact SeqAt.EqAt.str_none a t'
  |bl b=>cases rx;exact SeqAt.EqAt.str_bool a t' b
  |int b=>obtain⟨t,rfl⟩:=rx;exact SeqAt.EqAt.str_int a t' b t
  |str b=>obtain⟨t,rfl⟩:=rx;exact SeqAt.EqAt.str_str a t' b t
  |_=>exact absurd (show false=true from fx) p5
 |_=>exact absurd (show false=true from fy) p5
def HL(x:V)(u:Value):Bool:=match u with
 | .none=>Ji .bx x
 | .bool b=>Ji (.bl b) x
 | .int i _=>Ji (.int i) x
 | .str z _=>Ji (.str z) x
 |_=>false
theorem DM{x y:V}{u:Value}(r:RelV y u)(f:gF y=true):HL x u=Ji y x:=by
 cases y with
 |bx=>cases r;rfl
 |bl b=>cases r;rfl
 |int i=>obtain⟨t,rfl⟩:=r;rfl
 |str z=>obtain⟨t,rfl⟩:=r;rfl
 |_=>exact absurd (show false=true from f) p5
theorem rP{x:V}:∀{xs:List V} {us:List Value},Vals xs us->xs.all gF=true->us.any (HL x)=xs.any λ y=>Ji y x
 |_,_,.nil,_=>rfl
 |y::xs,u::us,.cons r t,f=>by
  rw[all_cons,A2]at f
  rw[any_cons,any_cons,DM r f.1,rP t f.2]
theorem nu{A:Around}{s:Shared}{x:V}{v:Value}(rx:RelV x v)(fx:gF x=true):∀{xs:List V} {us:List Value},Vals xs us->xs.all gF=true->∀u∈us,SeqAt.EqAt A s u v (HL x u)
 |_,_,.nil,_=>λ u hu=>by cases hu
 |y::xs,u::us,.cons r t,f=>λ u' hu=>by
  rw[all_cons,A2]at f
  rcases D3.mp hu with rfl|hu
  ·rw[DM r f.1];exact Ng r rx f.1 fx
  ·exact nu rx fx t f.2 u' hu
def Dj(x:V)(xs:List V):Bool:=xs.any λ y=>Ji y x
def WH(K:PySem.W.Frag)(neg:Bool):R2:=λ x y H Q=>∃p xs,y=.ref p/\(dD K H p xs\/f_ K H p xs)/\gF x=true/\xs.all gF=true/\Q (.bl (if neg then !Dj x xs else Dj x xs)) H
theorem zD:fu X (compareOp .In) (WH X.K false):=by
 intro pins s σ H x y v u Q I rx ry h
 obtain⟨p,xs,rfl,hq,fx,fs,q⟩:=h
 cases ry
 rcases hq with hq|hq
 ·obtain⟨au,r,pl,hz⟩:=I.list hq
  refine SeqAt.in_listAt (HL x) pl.isList (λ w hw=>nu rx fx r fs w (by simpa using hw)) ⟨.bl _,H,I,rfl,?_⟩
  rw[show au.toArray.any (HL x)=au.any (HL x) by simp,rP r fs]
  exact q
 ·obtain⟨au,r,pl,hz⟩:=I.tuple hq
  refine SeqAt.in_tupleAt (HL x) pl (λ w hw=>nu rx fx r fs w (by simpa using hw)) ⟨.bl _,H,I,rfl,?_⟩
  rw[show au.toArray.any (HL x)=au.any (HL x) by simp,rP r fs]
  exact q
theorem qy:fu X (compareOp .NotIn) (λ x y H Q=>∃i j,x=.str i/\y=.str j/\Q (.bl (!(!(Builtin.Str.occurrences j i 0 j.length 1).isEmpty))) H):=by
 intro pins s σ H x y v u Q I rx ry h
 obtain⟨i,j,rfl,rfl,q⟩:=h
 obtain⟨t,rfl⟩:=rx
 obtain⟨t',rfl⟩:=ry
 exact notIn_str ⟨.bl _,H,I,rfl,q⟩
theorem rK:dH X (.builtin "len") (λ xs H Q=>∃p ys,xs=[.ref p]/\(dD X.K H p ys\/f_ X.K H p ys)/\Q (.int ys.length) H):=by
 intro pins s σ H xs us Q I r h
 obtain⟨p,ys,rfl,hq,q⟩:=h
 obtain⟨u,rfl,rx⟩:=vals1 r
 cases rx
 have hn:=kh
 rcases hq with hq|hq
 ·obtain⟨au,r',pl,hz⟩:=I.list hq
  have hlen:=r'.length
  exact Calls.call_len_list pl.isList (by simp only[x5] <;> omega) ⟨.int ys.length,H,I.tok _,⟨s.toks+1,by rw[x5,hlen]⟩,q⟩
 ·obtain⟨au,r',pl,hz⟩:=I.tuple hq
  have hlen:=r'.length
  exact len_tuple pl (by simp only[x5] <;> omega) ⟨.int ys.length,H,I.tok _,⟨s.toks+1,by rw[x5,hlen]⟩,q⟩
theorem rJ:dH X (.builtin "len") (λ xs H Q=>∃z,xs=[.str z]/\z.length<=sizeLine/\Q (.int z.length) H):=by
 intro pins s σ H xs us Q I r h
 obtain⟨z,rfl,hz,q⟩:=h
 obtain⟨u,rfl,t,rfl⟩:=vals1 r
 have hn:=kh
 exact len_str (by omega) ⟨.int z.length,H,I.tok _,⟨_,rfl⟩,q⟩
theorem dH.or {f:Value}{r r':List V->Hp->VK->Prop}(h:dH X f r)(h':dH X f r'):dH X f (λ xs H Q=>r xs H Q\/r' xs H Q):=by
 intro pins s σ H xs us Q I rs q
 rcases q with q|q
 ·exact h pins s σ H xs us Q I rs q
 ·exact h' pins s σ H xs us Q I rs q
theorem rH:dH X (.type "list") (λ xs H Q=>∃p ys,xs=[.ref p]/\(dD X.K H p ys\/f_ X.K H p ys)/\∀l,H l=none->Q (.ref l) (upd H l (.lst ys))):=by
 intro pins s σ H xs us Q I r h
 obtain⟨p,ys,rfl,hq,q⟩:=h
 obtain⟨u,rfl,rx⟩:=vals1 r
 cases rx
 have fin:∀(au:List Value),Vals ys au->ys.length<=sizeLine->∀(h':Heap) (c':Nat),(∀b o',s.heap.get? b=some o'->h'.get? b=some o')->
   h'.get? s.heap.objs.size=some {cls:=.type "list",dict:=none,data:=.seq au.toArray c',slots:=#[]}->EP X pins σ Q (.ref s.heap.objs.size) {s with heap:=h'}:=λ au r' hz h' c' kp e=>
  ⟨.ref s.heap.objs.size,_,I.laid (t':=s.toks) kp (E9 _) (show bK X.prog X.w _ h' _ (.lst ys)from⟨hz,au,c',r',e⟩),rfl,q _ (I.bO.fresh (E9 _))⟩
 rcases hq with hq|hq
 ·obtain⟨au,r',pl,hz⟩:=I.list hq
  have hlen:=r'.length
  obtain⟨o,ho,hc,n,hd⟩:=pl.isList
  exact call_list_seq p (.inl rfl) ho hc hd (λ h' c' kp e=>fin au r' hz h' c' kp e) (by simp only[x5] <;> omega)
 ·obtain⟨au,r',pl,hz⟩:=I.tuple hq
  have hlen:=r'.length
  obtain⟨o,ho,hc,n,hd⟩:=pl
  exact call_list_seq p (.inr rfl) ho hc hd (λ h' c' kp e=>fin au r' hz h' c' kp e) (by simp only[x5] <;> omega)
theorem oN:dH X (.type "tuple") (λ xs H Q=>∃p ys,xs=[.ref p]/\((dD X.K H p ys/\∀l,H l=none->Q (.ref l) (upd H l (.tup ys)))\/(f_ X.K H p ys/\Q (.ref p) H))):=by
 intro pins s σ H xs us Q I r h
 obtain⟨p,ys,rfl,h⟩:=h
 obtain⟨u,rfl,rx⟩:=vals1 r
 cases rx
 rcases h with⟨hq,q⟩|⟨hq,q⟩
 ·obtain⟨au,r',pl,hz⟩:=I.list hq
  have hlen:=r'.length
  refine call_tuple_list pl.isList (λ h' kp=>?_) (by simp only[x5] <;> omega)
  have I1:Inv X pins σ H {s with heap:=h'}:=I.kept (t':=s.toks) kp
  have I2:Inv X pins σ (upd H h'.objs.size (.tup ys)) {s with heap:=h'.push {cls:=.type "tuple",data:=.seq au.toArray}}:=
   I1.laid (t':=s.toks) (λ b o e=>k5 _ e) (E9 _) (show bK X.prog X.w _ _ _ (.tup ys)from⟨hz,au,r',IsTup.new _ _⟩)
  exact⟨.ref h'.objs.size,_,I2,rfl,q _ (I1.bO.fresh (E9 _))⟩
 ·obtain⟨au,r',pl,hz⟩:=I.tuple hq
  exact call_tuple_same pl ⟨.ref p,H,I,rfl,q⟩
def Rv(K:PySem.W.Frag)(T:String)(x:V)(H:Hp):Prop:=match x with
 | .str _=>T="str"
 | .int _=>T="int"
 | .ref p=>(T="list"/\∃xs,dD K H p xs)\/(T="tuple"/\∃o,K.lookup p=some o/\o.cls=.type "tuple"/\o.dict=none)\/
   (T="dict"/\((∃kvs,H p=some (.dK kvs))\/∃kvs,H p=some (.dT kvs)))\/(T="set"/\∃S n,H p=some (.set S n))
 |_=>False
theorem AR{pins:List (Addr×Obj)}{σ:St}{H:Hp}{s:Shared}{T:String}{x:V}{v:Value}(I:Inv X pins σ H s)(r:RelV x v)(ty:Rv X.K T x H):
  s.TypeIs v T/\∀a,v=.ref a->∃ob,s.heap.get? a=some ob/\ob.dict=none:=by
 cases x with
 |str z=>
  obtain⟨t,rfl⟩:=r
  cases(show T="str" from ty)
  exact⟨typeIs_str s z t,λ _ e=>nomatch e⟩
 |int i=>
  obtain⟨t,rfl⟩:=r
  cases(show T="int" from ty)
  exact⟨typeIs_int s i t,λ _ e=>nomatch e⟩
 |ref p=>
  cases r
  rcases ty with⟨rfl,xs,hq⟩|⟨rfl,o,hk,hc,hd⟩|⟨rfl,hk⟩|⟨rfl,S,n,hk⟩
  ·obtain⟨au,_,pl,_⟩:=I.list hq
   refine⟨pl.isList.typeIs,λ a e=>?_⟩
   cases e
   obtain⟨o,n,e,c,hd,_⟩:=pl
   exact⟨o,e,hd⟩
  ·refine⟨⟨o,I.oE p o hk,hc⟩,λ a e=>?_⟩
   cases e
   exact⟨o,I.oE _ o hk,hd⟩
  ·have z:∃o,s.heap.get? p=some o/\o.ExactDict:=by
    rcases hk with⟨kvs,hk⟩|⟨kvs,hk⟩
    ·obtain⟨_,_,_,_,o,_,_,e,ex,_⟩:=I.bO p _ hk
     exact⟨o,e,ex⟩
    ·obtain⟨_,_,_,_,o,_,_,e,ex,_⟩:=I.bO p _ hk
     exact⟨o,e,ex⟩
   obtain⟨o,e,ex⟩:=z
   refine⟨⟨o,e,ex.1⟩,λ a e2=>?_⟩
   cases e2
   exact⟨o,e,ex.2.1⟩
  ·obtain⟨o,_,_,_,e,ex,_⟩:=I.bO p _ hk
   refine⟨⟨o,e,ex.1⟩,λ a e2=>?_⟩
   cases e2
   exact⟨o,e,ex.2.1⟩
 |_=>exact False.elim ty
def S9(K:PySem.W.Frag)(T:String)(r:V->List V->Hp->VK->Prop)(to:TE):TE:=λ σ H Q=>to σ H λ x H1=>Rv K T x H1/\r x [] H1 Q
def Wx(K:PySem.W.Frag)(T:String)(r:V->List V->Hp->VK->Prop)(to:TE)(t:TA):TE:=λ σ H Q=>to σ H λ x H1=>Rv K T x H1/\t σ H1 λ xs H2=>r x xs H2 Q
variable {o e:Expr}{es:List Expr}{to:TE}{t:TA}{name:Str}{apos bJ:Pos}{T id:String}{r:V->List V->Hp->VK->Prop}
theorem Ls(pa:PlainAttrs T)(slot:Slot T name id)(hty:typeOf (.builtin id)=pure (.type "method_descriptor"))(hm:SA X id r)(ho:PE X o to)
  (hbase:attributeBase o name X.env (eval o X.env)=eval o X.env:=by rfl) (hline:(apos.endLine==bJ.line)=true:=by rfl):PE X (.Call (.Attribute o name apos) [] [] bJ) (S9 X.K T r to):=by
 intro pins s σ H Q I h
 refine wpAny_Call_method0_late hbase hline (cV (ho pins s σ H _ I h) λ v s1 ⟨x,H1,I1,r1,ty,q1⟩=>?_)
 obtain⟨h1,h2⟩:=AR I1 r1 ty
 exact⟨T,id,pa,slot,hty,h1,h2,Calls.callWith_builtin rfl (PySem.evalArgs_none (hm pins s1 σ H1 x [] v [] Q I1 r1 .nil q1))⟩
theorem IJ(pa:PlainAttrs T)(slot:Slot T name id)(hty:typeOf (.builtin id)=pure (.type "method_descriptor"))(hm:SA X id r)(ho:PE X o to)(ha:PA X (e::es) t)
  (hbase:attributeBase o name X.env (eval o X.env)=eval o X.env:=by rfl)
  (hfew:((backTo bJ (starEach (e::es) X.env)).all (λ x=>!x.1)&&(backToKw bJ (keywordEach [] X.env)).all (λ x=>x.1.isSome)
   &&decide ((e::es).length+([]:List Keyword).length+(if([]:List Keyword).isEmpty then 0 else 1) < 30))=true:=by rfl)
  (hline:(apos.endLine==bJ.line)=true:=by rfl) (hs:starEach (e::es) X.env=(false,eval e X.env)::starEach es X.env:=by rfl) (hplain:(backTo bJ (starEach es X.env)).any (·.1)=false:=by rfl):
  PE X (.Call (.Attribute o name apos) (e::es) [] bJ) (Wx X.K T r to t):=by
 intro pins s σ H Q I h
 refine wpAny_Call_method_late hbase hfew hline rfl (cV (ho pins s σ H _ I h) λ v s1 ⟨x,H1,I1,r1,ty,q1⟩=>?_)
 obtain⟨h1,h2⟩:=AR I1 r1 ty
 refine⟨T,id,pa,slot,hty,h1,h2,?_⟩
 have hA:=ha bJ pins s1 σ H1 _ I1 q1
 rw[hs]at hA ⊢
 refine Calls.callWith_builtin (by show(false||(backTo bJ (starEach es X.env)).any (·.1))=false;rw[hplain] <;> rfl) (Calls.evalArgs_plain ?_)
 exact cV hA λ us s2 ⟨vs,H2,I2,r2,q2⟩=>hm pins s2 σ H2 x vs v us Q I2 r1 r2 q2
end
def Ij(X:Cx)(id:String)(r:V->List V->Hp->VK->Prop):Prop:=
 ∀(pins:List (Addr×Obj)) (s:Shared) (σ:St) (H:Hp) (x:V) (xs:List V) (v:Value) (us:List Value) (Q:VK),Inv X pins σ H s->RelV x v->Vals xs us->r x xs H Q->
  wpAny (model X.prog X.w) X.A (call (.builtin id) (v::us)) (EP X pins σ Q) X.xe s
theorem Vals.one:∀{x:V} {us:List Value},Vals [x] us->∃u,us=[u]/\RelV x u
 |_,_,.cons r .nil=>⟨_,rfl,r⟩
theorem Vals.zero:∀{us:List Value},Vals [] us->us=[]
 |_,.nil=>rfl
theorem Vals.dropLast {xs:List V}{us:List Value}(h:Vals xs us):Vals xs.dropLast us.dropLast:=by
 induction h with
 |nil=>exact .nil
 |cons r t ih=>
  cases t with
  |nil=>exact .nil
  |cons q t'=>exact .cons r ih
theorem Vals.eraseIdx:∀{xs:List V} {us:List Value} (i:Nat),Vals xs us->Vals (xs.eraseIdx i) (us.eraseIdx i)
 |_,_,_,.nil=>.nil
 |_,_,0,.cons _ t=>t
 |_,_,i+1,.cons r t=>.cons r (Vals.eraseIdx i t)
theorem Vals.rep {xs:List V}{us:List Value}(h:Vals xs us):∀k:Nat,Vals (List.replicate k xs).flatten (List.replicate k us).flatten
 |0=>.nil
 |k+1=>by
  rw[n9,n9,u7,u7]
  exact Vals.append h (Vals.rep h k)
theorem wJ{α:Type}(l:List α):l.eraseIdx (l.length - 1)=l.dropLast:=by
 induction l with
 |nil=>rfl
 |cons a r ih=>
  cases r with
  |nil=>rfl
  |cons b r=>
   have e:(a::b::r).length - 1=((b::r).length - 1)+1:=by
    have h1:(a::b::r).length=r.length+2:=rfl
    have h2:(b::r).length=r.length+1:=rfl
    omega
   rw[e,eraseIdx_cons_succ,ih]
   all_goals rfl
theorem pF{α:Type}:∀(l:List α) (i:Nat),(l.eraseIdx i).length<=l.length
 |[],_=>E9 _
 |_::_,0=>Nat.le_succ _
 |_::r,i+1=>Nat.succ_le_succ (pF r i)
theorem foldl_rep(au:List Value):∀(k:Nat) (acc:List Value),
  List.foldl (λ x1 x2=>x1++x2) acc.toArray (List.replicate k au.toArray)=(acc++(List.replicate k au).flatten).toArray
 |0,acc=>by simp
 |k+1,acc=>by
  have e:acc.toArray++au.toArray=(acc++au).toArray:=by simp
  have e2:(acc++au)++(List.replicate k au).flatten=acc++(List.replicate (k+1) au).flatten:=by
   rw[n9,u7,u9]
  rw[<- e2,<- foldl_rep au k (acc++au),<- e,n9,foldl_cons]
section
variable {X:Cx}{pins:List (Addr×Obj)}{σ:St}{H:Hp}{s:Shared}{l b:Addr}{xs ys zs:List V}
theorem Inv.Hg {au its':List Value}{n:Nat}{f:Array Value->Array Value}{t':Nat}(I:Inv X pins σ H s)(hH:H l=some (.lst xs))
  (e:s.heap.get? l=some {cls:=.type "list",data:=.seq au.toArray n}) (hf:f au.toArray=its'.toArray) (hv:Vals ys its') (hz:ys.length<=sizeLine):
  Inv X pins σ (upd H l (.lst ys)) {s with heap:=s.heap.update l (Obj.mapSeq f),toks:=t'}:=by
 have q:=PySem.IsL.update e f
 rw[hf]at q
 refine I.write (x:=l) (e:=l) (by rw[hH];exact trivial) (.inl rfl) (λ b' u hb hu=>(k7 s.heap (Obj.mapSeq f) (J8 hb)).trans hu) ⟨_,q⟩ ?_
 exact⟨hz,its',_,hv,q⟩
theorem Inv.PJ {au:List Value}{t':Nat}(I:Inv X pins σ H s)(hv:Vals ys au)(hz:ys.length<=sizeLine):
  Inv X pins σ (upd H s.heap.objs.size (.lst ys)) {s with heap:=s.heap.push {cls:=.type "list",data:=.seq au.toArray},toks:=t'}:=
 I.laid (λ _ _ q=>k5 _ q) (E9 _) ⟨hz,au,0,hv,o8 _ rfl⟩
theorem Inv.fresh (I:Inv X pins σ H s):H s.heap.objs.size=none:=I.bO.fresh (E9 _)
theorem Inv.wx (I:Inv X pins σ H s)(hH:H l=some (.lst xs)):xs.length<=sizeLine/\∃(au:List Value) (n:Nat),Vals xs au/\xs.length=au.length/\s.heap.get? l=some {cls:=.type "list",data:=.seq au.toArray n}:=by
 obtain⟨z,au,n,r,e⟩:=I.bO l _ hH
 exact⟨z,au,n,r,r.length,e⟩
theorem Cv{n:Nat}(h:n<=sizeLine):Builtin.List.listTooLong n=false:=by
 unfold Builtin.List.listTooLong
 exact A9 (by omega)
end
section
variable {X:Cx}
def xO:V->List V->Hp->VK->Prop:=λ x vs H Q=>∃l xs y,x=.ref l/\vs=[y]/\H l=some (.lst xs)/\xs.length < sizeLine/\Q .bx (upd H l (.lst (xs++[y])))
theorem zJ:Ij X "list.append" xO:=by
 intro pins s σ H x vs v us Q I rx rv h
 obtain⟨l,xs,y,rfl,rfl,hH,hz,q⟩:=h
 cases rx
 obtain⟨u,rfl,ru⟩:=rv.one
 obtain⟨z,au,n,r,hl,e⟩:=I.wx hH
 refine H9 F.slot_list_append ⟨_,e,rfl⟩ F.entry_list_append (F.args_list_append_2 _ _) (PySem.list_append l au.toArray n u (by rw[x5];omega)) ⟨e,?_⟩
 refine⟨.bx,_,I.Hg (its':=au++[u]) hH e (by simp) (r.append (.cons ru .nil)) ?_,rfl,q⟩
 rw[p6,l6]
 omega
def Tp:V->List V->Hp->VK->Prop:=λ x vs H Q=>∃l xs y,x=.ref l/\vs=[]/\H l=some (.lst xs)/\xs[xs.length - 1]?=some y/\Q y (upd H l (.lst xs.dropLast))
theorem L7:Ij X "list.pop" Tp:=by
 intro pins s σ H x vs v us Q I rx rv h
 obtain⟨l,xs,y,rfl,rfl,hH,hy,q⟩:=h
 cases rx
 have Ud:=rv.zero
 subst Ud
 obtain⟨z,au,n,r,hl,e⟩:=I.wx hH
 obtain⟨u,hu,ru⟩:=r.get hy
 have T8:au.toArray[au.toArray.size - 1]?=some u:=by
  show au.toArray[au.length - 1]?=some u
  rw[<- l7,<- hl]
  exact hu
 refine H9 F.slot_list_pop ⟨_,e,rfl⟩ F.entry_list_pop (F.args_list_pop_1 _) (MeetsSeq.list_pop_last l au.toArray n u T8 (by rw[x5];omega)) ⟨e,?_⟩
 refine⟨y,_,I.Hg (its':=au.dropLast) hH e ?_ r.dropLast ?_,ru,q⟩
 ·show au.toArray.eraseIdxIfInBounds (au.toArray.size - 1)=au.dropLast.toArray
  rw[x5,eraseIdxIfInBounds_toArray,wJ]
 ·rw[length_dropLast]
  omega
def KI:V->List V->Hp->VK->Prop:=λ x vs H Q=>∃l xs i k y,x=.ref l/\vs=[.int i]/\H l=some (.lst xs)/\-(2^63)<=i/\i < 2^63/\seqIndex? i xs.length=some k/\xs[k]?=some y/\Q y (upd H l (.lst (xs.eraseIdx k)))
theorem CA:Ij X "list.pop" KI:=by
 intro pins s σ H x vs v us Q I rx rv h
 obtain⟨l,xs,i,k,y,rfl,rfl,hH,h1,h2,hk,hy,q⟩:=h
 cases rx
 obtain⟨u,rfl,ru⟩:=rv.one
 obtain⟨t,rfl⟩:=ru
 obtain⟨z,au,n,r,hl,e⟩:=I.wx hH
 obtain⟨w,hw,vM⟩:=r.get hy
 refine H9 F.slot_list_pop ⟨_,e,rfl⟩ F.entry_list_pop (F.args_list_pop_2 _ _)
  (MeetsSeq.list_pop_at l au.toArray n i t k w (fitsIndex_both h1 h2) (by rw[x5,<- hl];exact hk) (by rw[<- l7];exact hw) (by rw[x5];omega)) ⟨e,?_⟩
 refine⟨y,_,I.Hg (its':=au.eraseIdx k) hH e ?_ (r.eraseIdx k) ?_,vM,q⟩
 ·show au.toArray.eraseIdxIfInBounds k=(au.eraseIdx k).toArray
  rw[eraseIdxIfInBounds_toArray]
 ·have:=pF xs k
  omega
def KJ:V->List V->Hp->VK->Prop:=λ x vs H Q=>∃l xs,x=.ref l/\vs=[]/\H l=some (.lst xs)/\Q .bx (upd H l (.lst []))
theorem CB:Ij X "list.clear" KJ:=by
 intro pins s σ H x vs v us Q I rx rv h
 obtain⟨l,xs,rfl,rfl,hH,q⟩:=h
 cases rx
 have Ud:=rv.zero
 subst Ud
 obtain⟨z,au,n,r,hl,e⟩:=I.wx hH
 refine H9 F.slot_list_clear ⟨_,e,rfl⟩ F.entry_list_clear (F.args_list_clear_1 _) (AutoSeq1.list_clear_list_0 l au.toArray n (by rw[x5];omega)) ⟨e,?_⟩
 exact⟨.bx,_,I.Hg (its':=[]) (ys:=[]) hH e rfl .nil (G5 _),rfl,q⟩
def Tr:R2:=λ x y H Q=>∃l b xs zs,x=.ref l/\y=.ref b/\H l=some (.lst xs)/\H b=some (.lst zs)/\xs.length+zs.length<=sizeLine/\∀p,H p=none->Q (.ref p) (upd H p (.lst (xs++zs)))
theorem LJ:fu X (binaryOp .Add) Tr:=by
 intro pins s σ H x y v u Q I rx ry h
 obtain⟨l,b,xs,zs,rfl,rfl,hH,hB,hz,q⟩:=h
 cases rx
 cases ry
 obtain⟨z,au,n,r,hl,e⟩:=I.wx hH
 obtain⟨z2,Mz,n2,r2,MN,e2⟩:=I.wx hB
 refine PySem.P.add_list e e2 ?_ (by rw[x5,x5];omega)
 have ea:au.toArray++Mz.toArray=(au++Mz).toArray:=by simp
 rw[ea]
 exact⟨.ref _,_,I.PJ (t':=s.toks) (r.append r2) (by rw[p6];omega),rfl,q _ I.fresh⟩
def To:R2:=λ x y H Q=>∃l k xs,x=.ref l/\y=.int k/\H l=some (.lst xs)/\-(2^63)<=k/\k < 2^63/\xs.length*k.toNat<=sizeLine/\
 ∀p,H p=none->Q (.ref p) (upd H p (.lst (List.replicate k.toNat xs).flatten))
theorem len_rep{α:Type}(xs:List α)(k:Nat):(List.replicate k xs).flatten.length=k*xs.length:=by
 induction k with
 |zero=>simp
 |succ k ih=>rw[n9,u7,p6,ih,Nat.succ_mul,Nat.add_comm]
theorem Lz:fu X (binaryOp .Mult) To:=by
 intro pins s σ H x y v u Q I rx ry h
 obtain⟨l,k,xs,rfl,rfl,hH,h1,h2,hz,q⟩:=h
 cases rx
 obtain⟨t,rfl⟩:=ry
 obtain⟨z,au,n,r,hl,e⟩:=I.wx hH
 have hlen:au.toArray.size*k.toNat<=sizeLine:=by rw[x5,<- hl];exact hz
 have UG:¬au.toArray.size*k.toNat > (2^63 - 1) / 8:=by
  have:(sizeLine:Nat)<=(2^63 - 1) / 8:=by decide
  omega
 have Ql:¬(!Builtin.List.listFitsIndex k)=true:=by
  rw[fitsIndex_both h1 h2]
  exact p5
 have Qh:¬Builtin.List.listTooLong (au.toArray.size*k.toNat)=true:=by
  rw[Cv hlen]
  exact p5
 have ML:List.foldl (λ x1 x2=>x1++x2) #[] (List.replicate (if au.toArray.isEmpty=true then 0 else k.toNat) au.toArray)=(List.replicate k.toNat au).flatten.toArray:=by
  have f0:∀m:Nat,List.foldl (λ x1 x2=>x1++x2) #[] (List.replicate m au.toArray)=(List.replicate m au).flatten.toArray:=λ m=>by
   have:=foldl_rep au m []
   rw[A7]at this
   exact this
  rw[f0]
  cases au with
  |nil=>simp
  |cons a r'=>rw[K0 (by simp)]
 refine wpAny_binaryOp_repeat_ref (T:="list") (U:="int") (by decide) ⟨_,e,rfl⟩ (λ s'=>typeIs_int s' k t) noFill_list_mul F.fills_int_mul F.slot_int_rmul repeat_list F.slot_int_index.lookup
  (H9 F.slot_int_rmul (typeIs_int s k t) F.entry_int_rmul (F.args_int_rmul_2 _ _) (int___rmul___int_list k t l au.toArray n)
   ⟨e,rfl,⟨_,e,rfl⟩,H9 F.slot_list_mul ⟨_,e,rfl⟩ F.entry_list_mul (F.args_list_mul_2 _ _) (AutoListH.list___mul___list_int_3 l au.toArray n k t Ql UG Qh) ⟨e,?_⟩⟩)
 rw[ML]
 exact⟨.ref _,_,I.PJ (t':=s.toks) (r.rep k.toNat) (by rw[len_rep,Nat.mul_comm];exact hz),rfl,q _ I.fresh⟩
end
section
variable {prog:Program}{w:World}{A:Around}{E:Value->Shared->Prop}{s:Shared}
set_option maxRecDepth 100000 in
end
end L2
namespace Wn
open PySem PySem.W PySem.Calls PyProof.Rows
theorem lI{P:Params}{h:Heap}:∀(ns:List Int) (vs:List Value),WellAll P h vs (ns.map WData.int)->IntsAre vs ns:=by
 intro ns
 induction ns with
 |nil=>
  intro vs w
  rw[map_nil]at w
  cases w
  exact .nil
 |cons n ns ih=>
  intro vs w
  rw[D1]at w
  cases w with
  |cons a b=>
   cases a
   exact .cons _ _ (ih _ b)
theorem zo{l:OpenLaw}{n:Nat}(hn:l.most=some n){P:Params}{h:Heap}{args:List WData}{vals:List Value}
  (HB:l.row.toRowW.claim.pre args=true) (T_:WellAll P h vals args):
  ∃a vs ns,vals=[Value.ref a]/\args=[WData.list (ns.map WData.int)]/\h.get? a=some {cls:=.type "list",data:=.seq vs.toArray}/\IntsAre vs ns/\ns.length<=n:=by
 have W':WShape.hasAll [] args [.list .int]=true:=(pre_splitW HB).1
 have hc:l.pre.holds [] {args:=args}=true:=(pre_splitW HB).2
 obtain⟨d,r,rfl,h1,h2⟩:=hasAllW_cons W'
 obtain rfl:=hasAllW_nil h2
 obtain⟨xs,rfl,h3⟩:=hasW_list h1
 obtain⟨ns,rfl⟩:=items_int h3
 have hlen:ns.length<=n:=by
  unfold OpenLaw.pre at hc
  have h4:(WTm.not (.lt (.lit (.int (n:Int))) (.len (.arg 0)))).holds [] {args:=[.list (ns.map .int)]}=true:=by
   have h4:=(holds_andW hc).1
   rw[hn]at h4
   exact h4
  have h5:=condW_of h4 (w_not (w_lt w_lit (w_len_list (w_arg rfl))))
  rw[B7]at h5
  refine y0 λ q=>?_
  have q':(n:Int) < ((ns.length:Nat):Int):=by omega
  first
   |(rw[C1 q']at h5;exact absurd h5 (by decide))
   |(simp at h5;omega)
 cases T_ with
 |cons w1 w2=>
  cases w2
  cases w1 with
  |list ho UI=>exact⟨_,_,ns,rfl,rfl,ho,lI ns _ UI,hlen⟩
theorem zy(l:OpenLaw)(args:List WData):l.row.toRowW.claim.post args (.bool true) args=true:=
 postW_of (r:=l.row.toRowW) (X:=(true==true))
  (show WShape.has [] (.bool true) .bool=true by first|rfl|decide|simp[WShape.has,WShape.arms,WShape.armsAll])
  (show(WTm.eq .res (.lit (.bool true))).value [] {args:=args,res:=some (.bool true),after:=args}=some (.bool (true==true))from w_eq_bool (w_res rfl) w_lit) rfl
theorem u_{l:OpenLaw}{n:Nat}{q:Program}{loose:List Str}{XP:(Str->Option Value)->Heap->Prop}{YP:World->Heap->Prop}{d:DefRec}
  (hn:l.most=some n) (ui:d.params.defaults=[])
  (call:∀(w:World) (s₀ s₁:Shared) (mg mb:Str->Option Value) (fa:Addr) (o:Obj) (pm cd doc:Value) (a:Addr) (vs:List Value) (ns:List Int),
   Ground q loose [] XP w s₀ mg mb s₁.heap->YP w s₁.heap->
   s₁.heap.get? fa=some o->o.data=.func (docDef d.name d.params d.body d.scope pm cd doc)->s₁.heap.CodeRec cd d.name->mg d.name=some (.ref fa)->
   s₁.heap.get? a=some {cls:=.type "list",data:=.seq vs.toArray}->IntsAre vs ns->ns.length<=n->s₁.gens=#[]->
   codeAny (model l.prog w) callerA (.call (.ref fa) ⟨[.ref a],[]⟩) (λ r s'=>r=.ok (.ret (.bool true))/\OldK s₁.heap s'.heap/\s'.os=s₁.os/\AllBare s'.gens) s₁):
  WalkO q loose XP YP l.row.toRowW d [] (λ f vs=>PySem.call f vs):=by
 intro w s₀ s₁ mg mb G Y fa o pm cd doc dV kV ho hd hcd hD Qd hg args vals as HB Xv Zc T_ Uw
 obtain rfl:dV=.none:=Dflts.none hD ui
 obtain rfl:kV=.none:=Dflts.noKw hD
 obtain⟨a,vs,ns,rfl,rfl,Dy,hints,hlen⟩:=zo hn HB T_
 refine enter_call (codeAny_mono (call w s₀ s₁ mg mb fa o pm cd doc a vs ns G Y ho (fd_plain hd) hcd Qd Dy hints hlen hg) λ r s' hq=>?_)
 obtain⟨rfl,h2,h3,h4⟩:=hq
 exact⟨.inl ⟨.bool true,.bool true,[],rfl,λ _=>rfl,.bool true,zy l _,λ _=>⟨List.Pairwise.nil,λ _ hm=>(nomatch hm)⟩⟩,h2,h3,h4⟩
end Wn
namespace L2
open PySem PySem.Spec PyProof.Rows
theorem oW:∀{vs:List Value} {ns:List Int},IntsAre vs ns->Vals (ns.map V.int) vs
 |_,_,.nil=>.nil
 |_,_,.cons n t h=>.cons ⟨t,rfl⟩ (oW h)
def Ii(H:Hp):Prop:=∀b,H b=none\/∃o xs,H b=some (.nN o (.lst xs))
theorem CP{P:Program}{w:World}{K:PySem.W.Frag}{mg mb:Str->Option Value}{CX:Ew}{k:Nat}{fa a:Addr}{fd:FuncData}{x:Str}{sp:Sp}{s₁:Shared}{vs:List Value}{ns:List Int}
  (KX:K.In s₁.heap) (Uq:s₁.heap.Ns mainGlobals mg) (hb:s₁.heap.Ns builtinsNs mb) (XG:∀x:Str,x≠"__name__"->mb x=bootBuiltins x) (Ux:s₁.heap.NoLimit) (hg:s₁.gens=#[])
  (ha:s₁.heap.get? a=some {cls:=.type "list",data:=.seq vs.toArray}) (hi:IntsAre vs ns) (hl:ns.length<=sizeLine) (hr:cJ k callerA)
  (F:∀base:Heap,K.In base->base.Ns mainGlobals mg->bZ P w K mg base CX k fa fd [x] sp) (Qq:∀(s:Shared) (u:Value),BindsTo s fd ⟨[u],[]⟩ [(x,u)])
  (Hw:∀H:Hp,Ii H->dD K H a (ns.map V.int)->sp [.ref a] H (λ v _=>v=.bl true) λ _ _ _=>False)
  (U4:∀H e s',CX [] H s₁ (λ _ _ _=>False) e s'->False):
  codeAny (model P w) callerA (.call (.ref fa) ⟨[.ref a],[]⟩) (λ r s'=>r=.ok (.ret (.bool true))/\OldK s₁.heap s'.heap/\s'.os=s₁.os/\AllBare s'.gens) s₁:=by
 have rv:=oW hi
 have TV:=hi.length
 have core:∀H:Hp,Ii H->dD K H a (ns.map V.int)->i' P w H s₁.heap->(∀b,H b≠none->b=a)->(H a≠none->K.lookup a=none)->
   codeAny (model P w) callerA (.call (.ref fa) ⟨[.ref a],[]⟩) (λ r s'=>r=.ok (.ret (.bool true))/\OldK s₁.heap s'.heap/\s'.os=s₁.os/\AllBare s'.gens) s₁:=by
  intro H hO hS bO hA hK
  have yP:∀{b:Addr} {o:Obj},s₁.heap.get? b=some o->H b=none->(qZ s₁.heap H).get? b=some o:=λ e n=>DD e n
  have Pt:∀{b:Addr} {o:Obj} {es:Array DictEntry} {ep:Nat},s₁.heap.get? b=some o->o.data=.dict es ep->H b=none:=λ{b o es ep} e d=>by
   cases q:H b with
   |none=>rfl
   |some u=>
    have e':b=a:=hA b (by rw[q];simp)
    subst e'
    rw[ha]at e;cases e
    have d':Data.seq vs.toArray _=Data.dict es ep:=d
    cases d'
  have RW:∀{b:Addr} {m:Str->Option Value},s₁.heap.Ns b m->(qZ s₁.heap H).Ns b m:=λ{b m} ⟨o,es,ep,e,d,r⟩=>⟨o,es,ep,yP e (Pt e d),d,r⟩
  have V5:K.In (qZ s₁.heap H):=λ b o e=>yP (KX b o e) (by
   cases q:H b with
   |none=>rfl
   |some u=>
    have e':b=a:=hA b (by rw[q];simp)
    subst e'
    rw[hK (by rw[q];simp)]at e;cases e)
  have hM:Mod K mg (qZ s₁.heap H):=⟨V5,RW Uq,⟨mb,RW hb,XG⟩,let⟨mc,h1,h2⟩:=Ux;⟨mc,RW h1,h2⟩⟩
  have e0:rU P w K mg (qZ s₁.heap H) callerA [] s₁ H:=⟨rfl,hM,λ b o e=>GW e,Nat.le_of_eq (zV _ _),trivial,λ b hb=>absurd (show b∈([]:List Addr)from hb) (by simp),bO,.of_eq hg⟩
  refine codeAny_mono ((F _ V5 (RW Uq)).run callerA [] s₁ H ⟨[.ref a],[]⟩ [.ref a] [.ref a] _ _ hr e0 (Qq s₁ (.ref a)) (.cons rfl .nil) (Hw H hO hS)) λ r s' h=>?_
  cases r with
  |error e=>exact(U4 H e s' h).elim
  |ok fl=>
   cases fl with
   |next=>exact False.elim h
   |brk=>exact False.elim h
   |cont=>exact False.elim h
   |ret u=>
    obtain⟨v,H',os,bare,un,Um,r',q⟩:=h
    have q':v=.bl true:=q
    subst q'
    obtain rfl:u=Value.bool true:=r'
    refine⟨rfl,OldK.of_keep λ b o e=>?_,os,bare⟩
    cases q:H b with
    |none=>exact un.keep b o e q (by intro z;exact absurd (show b∈([]:List Addr)from z) (by simp)) (by simp)
    |some u=>
     rcases hO b with z|⟨ob,xs,z⟩
     ·rw[q]at z;cases z
     ·have z2:=un.oF b ob _ z
      obtain⟨e1,_⟩:=bO b _ z
      obtain⟨e2,_⟩:=Um b _ z2
      rw[e]at e1;cases e1
      exact e2
 cases hk:K.lookup a with
 |some o=>
  have e:=KX a o hk
  rw[ha]at e
  cases e
  refine core (λ _=>none) (λ _=>.inl rfl) (.inr ⟨_,vs.toArray,_,hk,rfl,rfl,rfl,by rw[x5,TV];exact hl,by simpa using rv⟩) (λ b u z=>by have z':(none:Option HO)=some u:=z;cases z') (λ b z=>absurd rfl z) λ z=>absurd rfl z
 |none=>
  refine core (λ b=>if b=a then some (.nN {cls:=.type "list",data:=.seq vs.toArray} (.lst (ns.map V.int)))else none) (λ b=>?_) (.inl (.inr ⟨{cls:=.type "list",data:=.seq vs.toArray},J9 rfl⟩)) (λ b u z=>?_) (λ b z=>?_) λ _=>hk
  ·by_cases hb:b=a
   ·exact .inr ⟨_,_,J9 hb⟩
   ·exact .inl (K0 hb)
  ·by_cases hb:b=a
   ·have z':=(J9 hb).symm.trans z
    cases z'
    subst hb
    exact⟨ha,by rw[B7];exact hl,vs,_,rv,ha⟩
   ·have z':=(K0 hb).symm.trans z
    cases z'
  ·by_cases hb:b=a
   ·exact hb
   ·exact absurd (K0 hb) z
theorem EK{l:PySem.W.OpenLaw}{n k:Nat}{q:Program}{loose:List Str}{XP:(Str->Option Value)->Heap->Prop}{YP:World->Heap->Prop}{d:DefRec}{K:Params->PySem.W.Frag}{CX:World->Ew}{sp:World->Sp}{x:Str}
  (hn:l.most=some n) (Xn:n<=sizeLine) (ui:d.params.defaults=[]) (hr:cJ k callerA)
  (hY:∀(w:World) (h:Heap),YP w h->(K w.params).In h)
  (F:∀(w:World) (mg:Str->Option Value) (fa:Addr) (h:Heap),(K w.params).In h->h.Ns mainGlobals mg->mg d.name=some (.ref fa)->
   ∃fd:FuncData,(∀(s:Shared) (u:Value),BindsTo s fd ⟨[u],[]⟩ [(x,u)])/\
    ∀base:Heap,(K w.params).In base->base.Ns mainGlobals mg->bZ l.prog w (K w.params) mg base (CX w) k fa fd [x] (sp w))
  (Hw:∀(w:World) (H:Hp) (a:Addr) (ns:List Int),ns.length<=n->Ii H->dD (K w.params) H a (ns.map V.int)->sp w [.ref a] H (λ v _=>v=.bl true) λ _ _ _=>False)
  (U4:∀(w:World) (H:Hp) (s:Shared) (e:Value) (s':Shared),CX w [] H s (λ _ _ _=>False) e s'->False):
  PySem.W.WalkO q loose XP YP l.row.toRowW d [] (λ f vs=>PySem.call f vs):=by
 refine Wn.u_ hn ui λ w s₀ s₁ mg mb fa o pm cd doc a vs ns G Y ho hd hcd Qd Dy hints hlen hg=>?_
 have KX:=hY w _ Y
 obtain⟨fd,hb,hF⟩:=F w mg fa _ KX G.T.g Qd
 exact CP KX G.T.g G.T.b G.T.builtins G.T.nolimit hg Dy hints (E8 hlen Xn) hr hF hb (λ H hO hS=>Hw w H a ns hlen hO hS) λ H e s'=>U4 w H s₁ e s'
def fj(s:Stmt):Arguments:=match s with
 | .FunctionDef _ a _ _ _ _ _ _ _ _=>a
 |_=>{posonlyargs:=[],args:=[],vararg:=none,kwonlyargs:=[],kw_defaults:=[],kwarg:=none,defaults:=[]}
def dA(s:Stmt):List Stmt:=match s with
 | .FunctionDef _ _ b _ _ _ _ _ _ _=>b
 |_=>[]
def ay(s:Stmt):Scope:=match s with
 | .FunctionDef _ _ _ _ _ _ sc _ _ _=>sc
 |_=>{kind:=.function,names:=[],isGenerator:=false,isCoroutine:=false}
abbrev fE:Ew:=λ _ _ _ _ _ _=>False
abbrev E0:XK:=λ _ _ _=>False
theorem Pd{X:Cx}:Passes fE X E0:=λ _ _ _ _ _ _ _ h=>h.elim
structure gM(K:PySem.W.Frag)(x qual:Str)(st:Stmt)(f:Addr)(fd:FuncData):Prop where
 ex:∃(oc:Value) (od:Option Addr) (kV doc pm:Value) (an:Option Addr) (c_ ct:Value) (IL:Array (Option Value)),
  fd=PySem.W.fnOf x qual (fj st) (dA st) (ay st) .none kV doc pm an c_ ct/\K.lookup f=some ⟨oc,od,.func fd,IL⟩/\PySem.W.codeIn K c_ qual=true
 kp:PySem.W.keepIn K (.ref f)=true
section
variable {P:Program}{w:World}{K:PySem.W.Frag}{mg:Str->Option Value}{base:Heap}
theorem gM.ok {x qual:Str}{st:Stmt}{f:Addr}{fd:FuncData}{N ps:List Str}{k:Nat}{sp:Sp}(F:gM K x qual st f fd)(S:aM N ps (ay st))(len:∀vs H Q E,sp vs H Q E->vs.length=ps.length)
  (nL:∀(c_:Value) (A:Around) (outer:List Env) (s:Shared) (H:Hp) (vs:List V) (Q:VK) (E:XK),cJ k (A.deeper (envOfC qual (ay st) s.heap.objs.size f c_))->sp vs H Q E->
   ∃t,vo (uK fE P w K mg base N qual (ay st) f c_ A outer s H E).NY (dA st) t/\t {nx:=λ _ H'=>Q .bx H',rt:=Q} (start N vs) H):bZ P w K mg base fE (k+1) f fd ps sp:=by
 obtain⟨oc,od,kV,doc,pm,an,c_,ct,IL,rfl,lk,hcd⟩:=F.ex
 refine QJ lk hcd S len λ A outer s H vs Q E hr Hw=>?_
 obtain⟨t,h,q⟩:=nL c_ A outer s H vs Q E hr Hw
 exact⟨t,h.NY,q⟩
theorem gM.binds {x qual:Str}{st:Stmt}{f:Addr}{fd:FuncData}{ps:List Str}(F:gM K x qual st f fd)
  (h:∀(kV doc pm:Value) (an:Option Addr) (c_ ct:Value) (us:List Value),us.length=ps.length->bindArgs (PySem.W.fnOf x qual (fj st) (dA st) (ay st) .none kV doc pm an c_ ct) ⟨us,[]⟩=pure (ps.zip us)):Binds K fd ps []:=by
 obtain⟨oc,od,kV,doc,pm,an,c_,ct,IL,rfl,lk,hcd⟩:=F.ex
 exact .all (h kV doc pm an c_ ct)
theorem Nb{x qual:Str}{st:Stmt}{f:Addr}{oc:Value}{od an:Option Addr}{IL:Array (Option Value)}{kV doc pm c_ ct:Value}(l:K.lookup f=some ⟨oc,od,.func (PySem.W.fnOf x qual (fj st) (dA st) (ay st) .none kV doc pm an c_ ct),IL⟩)
  (c:PySem.W.codeIn K c_ qual=true) (k:PySem.W.keepIn K (.ref f)=true):gM K x qual st f (PySem.W.fnOf x qual (fj st) (dA st) (ay st) .none kV doc pm an c_ ct):=⟨⟨oc,od,kV,doc,pm,an,c_,ct,IL,rfl,l,c⟩,k⟩
end
end L2
namespace L2
open PySem PySem.Spec PyProof.Rows
section
variable {X:Cx}{pins:List (Addr×Obj)}{σ:St}{H:Hp}{s:Shared}
theorem Inv.o_ {D:Addr}{o:HO}(I:Inv X pins σ H s)(hn:H D=none)(new:bK X.prog X.w (upd H D o) s.heap D o)
  (hL:D≠X.env.locals) (hs:X.s₀.heap.objs.size<=D) (hc:∀x c,X.env.cells.lookup x=some c->c≠D) (hp:∀p∈X.pn++pins,p.1≠D):Inv X pins σ (upd H D o) s:=by
 have ne:∀{b:Addr} {u:HO},H b=some u->b≠D:=λ e=>cw e hn
 have nb:∀(b:Addr) (ob:Obj),X.s₀.heap.get? b=some ob->b≠D:=λ b ob e=>E1 (q9 (E2 e) hs)
 refine⟨I.ok,I.os,I.bare,⟨I.base.keep,I.base.slot,λ b ob e n hx=>?_,I.base.there,λ b xs e=>?_,λ b ob u e=>?_,λ b ps e=>?_⟩,I.loc,I.cell,?_,λ x c e=>?_,λ p VN=>?_,λ b u e=>?_,I.len⟩
 ·rw[aX (nb b ob e)];exact I.base.free b ob e n hx
 ·have q:=I.base.qc b xs e;rw[aX (ne q)];exact q
 ·have q:=I.base.oF b ob u e;rw[aX (ne q)];exact q
 ·obtain⟨m,q⟩:=I.base.qe b ps e;exact⟨m,by rw[aX (ne q)];exact q⟩
 ·rw[aX (J8 hL)];exact I.free
 ·rw[aX (hc x c e)];exact I.gE x c e
 ·obtain⟨e,n,r⟩:=I.pin p VN;exact⟨e,by rw[aX (hp p VN)];exact n,r⟩
 ·by_cases hb:b=D
  ·subst hb;rw[bB]at e;cases e;exact new
  ·rw[aX hb]at e
   exact(I.bO b u e).lC (λ c v _ q=>q) (λ c q=>by rw[aX (ne q)];exact q) λ c xs q=>by rw[aX (ne q)];exact q
end
noncomputable def b_(cells:List (Str×Addr)):List (Str×NameKind)->List (Str×Addr)->List (Str×Addr)
 |[],acc=>acc
 |(n,k)::r,acc=>if(k==.free)=true then b_ cells r ((n,(cells.lookup n).getD 0)::acc)else b_ cells r acc
theorem e_{cells:List (Str×Addr)}:∀(names:List (Str×NameKind)) (acc:List (Str×Addr)),(∀n,(n,NameKind.free)∈names->∃c,cells.lookup n=some c)->
  (∀x c,acc.lookup x=some c->cells.lookup x=some c)->∀x c,(b_ cells names acc).lookup x=some c->cells.lookup x=some c
 |[],acc,_,h,x,c,e=>h x c e
 |(n,k)::r,acc,hc,h,x,c,e=>by
  unfold b_ at e
  by_cases hk:(k==NameKind.free)=true
  ·rw[J9 hk]at e
   refine e_ r _ (λ m hm=>hc m (m5 _ hm)) (λ y d q=>?_) x c e
   have ou:k=NameKind.free:=by simpa using hk
   obtain⟨c0,e0⟩:=hc n (by rw[ou];exact o9)
   rw[x9]at q
   cases hy:(y==n)with
   |true=>
    rw[hy]at q
    have yn:y=n:=by simpa using hy
    subst yn
    rw[e0]at q
    rw[e0];exact q
   |false=>rw[hy]at q;exact h y d q
  ·rw[K0 hk]at e
   exact e_ r _ (λ m hm=>hc m (m5 _ hm)) h x c e
theorem il{cells:List (Str×Addr)}{x:Str}:∀(names:List (Str×NameKind)) (acc:List (Str×Addr)),((acc.lookup x).isSome=true)->((b_ cells names acc).lookup x).isSome=true
 |[],acc,h=>h
 |(n,k)::r,acc,h=>by
  unfold b_
  split
  ·refine il r _ ?_
   rw[x9]
   cases hy:(x==n)with
   |true=>rfl
   |false=>exact h
  ·exact il r _ h
theorem iz{cells:List (Str×Addr)}{x:Str}:∀(names:List (Str×NameKind)) (acc:List (Str×Addr)),(x,NameKind.free)∈names->((b_ cells names acc).lookup x).isSome=true
 |[],acc,h=>absurd h (by simp)
 |(n,k)::r,acc,h=>by
  unfold b_
  rcases D3.mp h with e|h
  ·cases e
   rw[J9 (by decide)]
   refine il r _ ?_
   rw[x9]
   simp
  ·split
   ·exact iz r _ h
   ·exact iz r _ h
theorem fV{scope:Scope}{env:Env}(hc:∀n,(n,NameKind.free)∈scope.names->∃c,env.cells.lookup n=some c):closureFor scope env=pure (b_ env.cells scope.names []):=by
 unfold closureFor
 have all:∀(names:List (Str×NameKind)) (acc:List (Str×Addr)),(∀n,(n,NameKind.free)∈names->∃c,env.cells.lookup n=some c)->
   (forIn names acc (λ(x:Str×NameKind) (cs:List (Str×Addr))=>(match x with|(name,kind)=>if(kind==.free)=true then(do let c <- cellOf env name;pure (ForInStep.yield ((name,c)::cs)))else pure (ForInStep.yield cs):Sem (ForInStep (List (Str×Addr))))))=(pure (b_ env.cells names acc):Sem (List (Str×Addr))):=by
  intro names
  induction names with
  |nil=>intro acc _;rfl
  |cons y r ih=>
   intro acc hc
   obtain⟨n,k⟩:=y
   rw[forIn_cons]
   unfold b_
   dsimp only
   by_cases hk:(k==NameKind.free)=true
   ·rw[J9 hk,J9 hk]
    have ou:k=NameKind.free:=by simpa using hk
    obtain⟨c0,e0⟩:=hc n (by rw[ou];exact o9)
    unfold cellOf
    rw[e0]
    exact ih _ λ m hm=>hc m (m5 _ hm)
   ·rw[K0 hk,K0 hk]
    exact ih _ λ m hm=>hc m (m5 _ hm)
 have q:=all scope.names [] hc
 refine Eq.trans ?_ (J7 (λ m=>m >>= pure) q)
 rfl
theorem mY{env:Env}:∀{names:List (Str×NameKind)} {x:Str},names.lookup x=some .free->
  (names.map λ(n,k)=>if(k==NameKind.free&&env.scope.kind==.function&&env.kindOf n==some .cell)then(n,NameKind.cell)else(n,k)).lookup x=some .cell\/
  (names.map λ(n,k)=>if(k==NameKind.free&&env.scope.kind==.function&&env.kindOf n==some .cell)then(n,NameKind.cell)else(n,k)).lookup x=some .free
 |[],_,h=>by simp at h
 |(n,k)::r,x,h=>by
  have ih:=@mY env r x
  rw[D1]
  dsimp only
  cases hx:x==n with
  |true=>
   rw[x9,hx]at h
   have h':k=NameKind.free:=by simpa using h
   subst h'
   split
   ·left;rw[x9,hx]
   ·right;rw[x9,hx]
  |false=>
   rw[x9,hx]at h
   have ih:=ih h
   split
   ·rw[x9,hx];exact ih
   ·rw[x9,hx];exact ih
theorem iO{env:Env}:∀{names:List (Str×NameKind)} {x:Str} {k0:NameKind},(∀y∈names,y.2≠.cell)->
  (names.map λ(n,k)=>if(k==NameKind.free&&env.scope.kind==.function&&env.kindOf n==some .cell)then(n,NameKind.cell)else(n,k)).lookup x=some k0->(k0=.cell\/k0=.free)->(x,NameKind.free)∈names
 |[],_,_,_,h,_=>by simp at h
 |(n,k)::r,x,k0,hc,h,hk=>by
  have ih:=@iO env r x k0 λ y hy=>hc y (m5 _ hy)
  rw[D1]at h
  dsimp only at h
  cases hx:x==n with
  |true=>
   have xn:x=n:=by simpa using hx
   subst xn
   by_cases Qn:(k==NameKind.free&&env.scope.kind==.function&&env.kindOf x==some .cell)=true
   ·have:k=NameKind.free:=by
     have:=(A2 _ _).mp Qn
     have:=(A2 _ _).mp this.1
     simpa using this.1
    subst this
    exact o9
   ·rw[K0 Qn,x9,hx]at h
    have h':k=k0:=by simpa using h
    subst h'
    rcases hk with e|e
    ·exact absurd e (hc (x,k) o9)
    ·subst e;exact o9
  |false=>
   refine m5 _ (ih ?_ hk)
   split at h
   ·rw[x9,hx]at h;exact h
   ·rw[x9,hx]at h;exact h
theorem rC{prog:Program}{w:World}{A:Around}{R:Result->Shared->Prop}{s:Shared}{elt target iter:Expr}{ifs:List Expr}{scope:Scope}{pos:Pos}{it acc:Value}{env:Env}(I:Nat->Shared->Prop)
  (turn:∀n s,I n s->wpAny (model prog w) A (pyNext it) (λ r s1=>match r with
   |none=>R (.ok .next) s1
   |some v=>wpAny (model prog w) A (letOwnedTupleGo target it v) (λ _ s2=>wpAny (model prog w) A (assign target env v) (λ _ s3=>
     wpAny (model prog w) A (forIn ifs true λ c r=>if r=true then do let ok <- isTrue c env (eval c env);pure (ForInStep.yield ok)else pure (ForInStep.yield r)) (λ ok s4=>
      if ok=true then wpAny (model prog w) A (eval elt env) (λ x s5=>
       wpAny (model prog w) A (call (.builtin "list.append") [acc,x]) (λ _ s6=>∃m,m < n/\I m s6) (λ _ _=>False) s5) (λ _ _=>False) s4
      else ∃m,m < n/\I m s4) (λ _ _=>False) s3) (λ _ _=>False) s2) (λ _ _=>False) s1) (λ _ _=>False) s)
  (n:Nat) (h:I n s):
  codeAny (model prog w) A (.compLoop (.ListComp elt [⟨target,iter,ifs,0⟩] scope pos) 0 it acc env) R s:=by
 refine codeAny_loop rfl I (λ n s hI=>?_) n h
 show wpAny _ A ((compTurn (.ListComp elt [⟨target,iter,ifs,0⟩] scope pos) 0 it acc env).onRaise (λ x=>do noteFrame x env;theTreesLotGoes x)) _ _ s
 refine wpAny_noted ?_
 rw[compTurn_list]
 refine wpAny_noRaise (G8 (wpAny_standAt (G8 (J0 (turn n s hI) (λ r s1 h1=>?_) λ _ _ h'=>h'))))
 cases r with
 |none=>exact G9 h1
 |some v=>
  refine G8 (J0 h1 (λ _ s2 h2=>?_) λ _ _ h'=>h')
  refine G8 (J0 h2 (λ _ s3 h3=>G8 (J0 h3 (λ ok s4 h4=>?_) λ _ _ h'=>h')) λ _ _ h'=>h')
  cases ok with
  |false=>exact G9 ⟨rfl,h4⟩
  |true=>
   exact G8 (G8 (J0 h4 (λ x s5 h5=>G8 (J0 h5 (λ _ s6 h6=>G9 (G9 ⟨rfl,h6⟩)) λ _ _ h'=>h')) λ _ _ h'=>h'))
end L2
namespace L2
open PySem PySem.Spec PyProof.Rows
noncomputable def bG(X:Cx)(scope:Scope)(cl:List (Str×Addr))(tgs:List Str)(fr:List Nat)(C:Addr)(fp:List Addr)(s:Shared)(H:Hp):Cx:=
 {X with N:=tgs++fr.map (λ j=>X.N.getD j ""),s₀:=s,H₀:=H,env:=compEnvC scope cl C X.env,outer:=X.stack,ex:=fp,fn:=λ _=>false,pn:=[]}
def fq(n:Nat)(fr:List Nat)(σ:St):St:=List.replicate n none++fr.map (λ j=>σ.getD j none)
structure lx(X:Cx)(scope:Scope)(fr:List Nat):Prop where
 kind:scope.kind=.function
 wc:∀y∈scope.names,y.2≠.cell
 names:∀y∈scope.names,y.2=.local->scope.names.lookup y.1=some .local
 has:∀n,(n,NameKind.free)∈scope.names->X.env.kindOf n=some .cell\/X.env.kindOf n=some .free
 fr:∀j∈fr,j < X.N.length/\scope.names.lookup (X.N.getD j "")=some .free
def iY(n:Nat)(g:TG):Prop:=∀x σ H Q,g x σ H Q->g x σ H λ σ2 H2=>Q σ2 H2/\σ2.length=σ.length/\∀k,n<=k->σ2[k]?=σ[k]?
theorem rg{n i:Nat}(h:i < n):iY n (eX i):=λ x σ H Q q=>⟨q,by simp,λ k hk=>by rw[getElem?_set_ne (by omega)]⟩
def mF(n:Nat)(g:yS):Prop:=∀xs σ H Q,g xs σ H Q->g xs σ H λ σ2 H2=>Q σ2 H2/\σ2.length=σ.length/\∀k,n<=k->σ2[k]?=σ[k]?
theorem M_{n:Nat}:mF n Aa:=λ xs σ H Q q=>⟨q.1,q.2,rfl,λ _ _=>rfl⟩
def Ol(X:Cx)(ifs:List Expr)(t:TT):Prop:=
 ∀(pins:List (Addr×Obj)) (s:Shared) (σ:St) (H:Hp) (Q:Bool->Hp->Prop),Inv X pins σ H s->t σ H Q->
  wpAny (model X.prog X.w) X.A (forIn ifs true λ c r=>if r=true then do let ok <- isTrue c X.env (eval c X.env);pure (ForInStep.yield ok)else pure (ForInStep.yield r)) (TP X pins σ Q) X.xe s
def SR:TT:=λ _ H Q=>Q true H
theorem Gv{X:Cx}:Ol X [] SR:=λ _ s σ H Q I h=>wpAny_tests_nil ⟨H,I,h⟩
theorem Gu{X:Cx}{c:Expr}{t:TT}(h:PT X c t):Ol X [c] t:=λ pins s σ H Q I q=>wpAny_tests_one (h pins s σ H Q I q)
def mT(wi:TI)(g:TG)(tt:TT)(te:TE)(n:Nat)(fr:List Nat):TE:=λ σ H Q=>wi σ H λ J H1=>∃W:Nat->Nat->List V->Hp->Prop,(∃m,W 0 m [] H1)/\∀i m acc H,W i m acc H->
 acc.length<=sizeLine/\((J.stop i H/\∀p,H p=none->Q (.ref p) (upd H p (.lst acc)))\/
  (J.go i H/\∃N:List V->Hp->Prop,(∀Eo H',N Eo H'->∃m',m' < m/\W (i+1) m' Eo H')/\∀x H',J.EE i H x H'->g x (fq n fr σ) H' λ σ2 H2=>tt σ2 H2 λ b H3=>if b=true then te σ2 H3 λ y H4=>N (acc++[y]) H4 else N acc H3))
section
variable {X:Cx}{scope:Scope}{tgs:List Str}{fr:List Nat}
theorem NC{pins:List (Addr×Obj)}{σ:St}{H:Hp}{s:Shared}{fp:List Addr}{C:Addr}(B:lx X scope fr)(I:Inv X pins σ H s)(hC:s.heap.objs.size<=C)(f:∀b∈fp,gB X pins H b)(Jb:∀b∈fp,b < s.heap.objs.size):
  (bG X scope (b_ X.env.cells scope.names []) tgs fr C fp s H).Ok:=by
 have look:∀x c,(b_ X.env.cells scope.names []).lookup x=some c->X.env.cells.lookup x=some c:=
  e_ scope.names [] (λ n hn=>I.ok.has n (B.has n hn)) λ x c e=>by simp at e
 refine⟨I.ok.mod,B.kind,I.ok.glob,I.ok.blt,hC,λ x y c e1 e2=>I.ok.inj x y c (look x c e1) (look y c e2),λ x hx=>?_,λ x c h=>absurd h (by simp[bG]),I.ok.hd,I.ok.frames,.inl rfl,λ b hb=>⟨E1 (q9 (Jb b hb) hC),λ x c e=>(f b hb).2.2.2.2.1 x c (look x c e)⟩,
  I.bs,E8 I.ok.EB I.sz,λ b o e hb=>?_,λ b hb hs=>?_,I.stack,I.xy⟩
 ·have hm:(x,NameKind.free)∈scope.names:=by
   rcases hx with hx|hx
   ·exact iO B.wc hx (.inl rfl)
   ·exact iO B.wc hx (.inr rfl)
  exact Option.isSome_iff_exists.mp (iz scope.names [] hm)
 ·rcases(f b hb).2.2.2.1 with z|z
  ·exact I.ok.zH b o e z
  ·exact absurd (q9 (E2 e) (E8 I.ok.EB z)) (C9 _)
 ·rcases D3.mp (I.qf b hs)with z|z
  ·exact(f b hb).2.1 z
  ·exact(f b hb).2.2.1 z
theorem Ib{pins:List (Addr×Obj)}{σ:St}{H:Hp}{s s1:Shared}{fp:List Addr}{C:Addr}{m:Str->Option Value}(B:lx X scope fr)(I:Inv X pins σ H s)(hC:s.heap.objs.size<=C)(f:∀b∈fp,gB X pins H b)(Jb:∀b∈fp,b < s.heap.objs.size)
  (ho:s1.os=s.os) (hg:AllBare s1.gens) (hk:∀b o,s.heap.get? b=some o->s1.heap.get? b=some o) (hn:s1.heap.Ns C m):
  Inv (bG X scope (b_ X.env.cells scope.names []) tgs fr C fp s H) [] (fq tgs.length fr σ) H s1:=by
 have look:∀x c,(b_ X.env.cells scope.names []).lookup x=some c->X.env.cells.lookup x=some c:=
  e_ scope.names [] (λ n hn=>I.ok.has n (B.has n hn)) λ x c e=>by simp at e
 refine⟨NC B I hC f Jb,ho,hg,Un.kept hk,⟨m,hn,λ i x v e1 e2 e3=>?_⟩,λ x c e=>?_,I.bO.fresh hC,λ x c e=>I.gE x c (look x c e),λ p hp=>absurd hp (by simp[bG]),I.bO.kept hk,by simp[fq,bG]⟩
 ·-- a free name:au Vg value
  have e1:(tgs++fr.map (λ j=>X.N.getD j ""))[i]?=some x:=e1
  have hi:tgs.length<=i:=by
   refine y0 λ fO=>?_
   unfold fq at e2
   rw[i0 (by simpa using fO),j5,J9 fO]at e2
   cases e2
  unfold fq at e2
  rw[e9 (by simpa using hi),l8,s9]at e2
  rw[e9 hi,s9]at e1
  cases ej:fr[i - tgs.length]? with
  |none=>rw[ej]at e1;cases e1
  |some j=>
   rw[ej]at e1 e2
   have QN:X.N.getD j ""=x:=B2 e1
   have V':σ.getD j none=some v:=B2 e2
   obtain⟨hj,hl⟩:=B.fr j (m6 ej)
   have hN:X.N[j]?=some x:=by
    rw[g9,i9 hj]at QN
    rw[i9 hj]
    exact J7 some QN
   have hs:σ[j]?=some (some v):=by
    have EA:j < σ.length:=by rw[I.len];exact hj
    rw[g9,i9 EA]at V'
    rw[i9 EA]
    exact J7 some V'
   rw[QN]at hl
   obtain⟨m0,Us,Xx⟩:=I.loc
   have wD:(x,NameKind.free)∈scope.names:=n6 hl
   have kinds:=B.has x wD
   obtain⟨u,ru,lu⟩:=Xx j x v hN hs (by rcases kinds with z|z;exact .inr (.inl z);exact .inr (.inr z))
   refine⟨u,ru,.inr ⟨mY hl,?_⟩⟩
   obtain⟨c,hc⟩:=Option.isSome_iff_exists.mp (iz (cells:=X.env.cells) scope.names [] wD)
   refine⟨c,hc,?_⟩
   rcases lu with⟨kl,_⟩|⟨_,c',zX,z⟩
   ·rcases kinds with z|z <;> (rw[z]at kl;cases kl)
   ·have:c=c':=by
     have:=look x c hc
     rw[this]at zX
     exact B2 zX
    subst this
    obtain⟨o,ho,hd⟩:=z
    exact⟨o,hk _ _ ho,hd⟩
 ·obtain⟨v,o,qX,hd⟩:=I.cell x c (look x c e)
  exact⟨v,o,hk _ _ qX,hd⟩
end
end L2
namespace L2
open PySem PySem.Spec PyProof.Rows
section
variable {X:Cx}{scope:Scope}{tgs:List Str}{fr:List Nat}{tg elt iter:Expr}{ifs:List Expr}{pos:Pos}{wi:TI}{g:TG}{tt:TT}{te:TE}
theorem toF{α:Type}{M:Model}{A:Around}{E:Value->Shared->Prop}{s:Shared}{t:Sem α}{Q Q':α->Shared->Prop}(hE:∀e s,E e s->False)(h:wpAny M A t Q E s)(hQ:∀a s,Q a s->Q' a s):wpAny M A t Q' (λ _ _=>False) s:=
 J0 h hQ hE
theorem pS{pins:List (Addr×Obj)}{σ:St}{H:Hp}{s:Shared}{R:Value->Addr->Result->Shared->Prop}{E:Value->Shared->Prop}{J:It}{fp:List Addr}{it:Addr}{tn:Nat->Heap->Prop}{Qe:List V->Hp->Prop}
  (B:lx X scope fr) (hc:X.calm=true) (hE:∀e s,X.xe e s->False)
  (hg:∀cl C fp s H,PG (bG X scope cl tgs fr C fp s H) tg g) (gk:iY tgs.length g)
  (ht:∀cl C fp s H,Ol (bG X scope cl tgs fr C fp s H) ifs tt)
  (he:∀cl C fp s H,PE (bG X scope cl tgs fr C fp s H) elt te)
  (I:Inv X pins σ H s) (T:Turn X.prog X.w X.K tg J fp it tn) (st:tn 0 s.heap) (f:∀b∈fp,gB X pins H b)
  (W:Nat->Nat->List V->Hp->Prop) (m0:Nat) (w0:W 0 m0 [] H)
  (turn:∀i m acc H,W i m acc H->acc.length<=sizeLine/\((J.stop i H/\Qe acc H)\/(J.go i H/\∃N:List V->Hp->Prop,(∀Eo H',N Eo H'->∃m',m' < m/\W (i+1) m' Eo H')/\∀x H',J.EE i H x H'->g x (fq tgs.length fr σ) H' λ σ2 H2=>tt σ2 H2 λ b H3=>
   if b=true then te σ2 H3 λ y H4=>N (acc++[y]) H4 else N acc H3)))
  (fin:∀(D C:Addr) (s1:Shared) (H1:Hp) (acc:List V) (au:List Value),s.heap.objs.size<=D->s.heap.objs.size<=C->D≠C->Inv X pins σ H1 s1->H1 C=none->H1 D=none->(∃m,s1.heap.Ns C m)->
   s1.heap.PlainList D au.toArray->Vals acc au->acc.length<=sizeLine->Qe acc H1->R (.ref D) C (.ok .next) s1):
  wpAny (model X.prog X.w) X.A (newList []) (λ acc s3=>wpAny (model X.prog X.w) X.A (newFunctionEnv scope X.env.globals (b_ X.env.cells scope.names []) [] X.env.qual none .none (some X.env)) (λ Q8 s4=>
   codeAny (model X.prog X.w) X.A (.compStart (.ListComp elt [⟨tg,iter,ifs,0⟩] scope pos) 0 (.ref it) acc {Q8 with scope:=relabel scope X.env}) (R acc Q8.locals) s4) E s3) E s:=by
 have Jb:∀b∈fp,b < s.heap.objs.size:=λ b hb=>by obtain⟨o,e,_⟩:=T.obj 0 _ st b hb;exact E2 e
 have look:∀x c,(b_ X.env.cells scope.names []).lookup x=some c->X.env.cells.lookup x=some c:=
  e_ scope.names [] (λ n hn=>I.ok.has n (B.has n hn)) λ x c e=>by simp at e
 refine u6 (wpAny_newFunctionEnv B.wc (by intro y hy;simp at hy) (λ h1 MK Hx=>?_) B.kind)
 dsimp only at MK Hx ⊢
 generalize UQ:s.heap.push {cls:=.type "list",dict:=none,data:=.seq ([]:List Value).toArray}=H2 at MK Hx ⊢
 have hC:H2.objs.size=s.heap.objs.size+1:=by rw[<- UQ,C3]
 have Jf:s.heap.objs.size≠H2.objs.size:=by omega
 have QD:s.heap.objs.size<=H2.objs.size:=by omega
 have below:∀b,b < s.heap.objs.size->b≠H2.objs.size/\b≠s.heap.objs.size:=λ b hb=>⟨by omega,by omega⟩
 have old:∀b o,s.heap.get? b=some o->h1.get? b=some o:=λ b o e=>Hx.extBut b o (below b (E2 e)).1 (k5 _ (UQ▸k5 _ e))
 have UJ:h1.PlainList s.heap.objs.size #[]:=⟨_,Hx.extBut _ _ Jf (k5 _ (UQ▸o8 _ rfl))⟩
 have Vv:tn 0 h1:=T.keep _ _ _ st λ b _ o e=>old b o e
 generalize Zm:H2.objs.size=C at*
 generalize QC:s.heap.objs.size=D at*
 have XY:∀b,b < D->b < s.heap.objs.size:=λ b hb=>by rw[QC];exact hb
 have fD:=I.iS (b:=D) (H':=H) (Nat.le_of_eq QC) (I.bO.fresh (Nat.le_of_eq QC))
 have Iv:∀b,b≠X.env.locals->b∉X.fs->b∉Ab X.stack:=λ b h1 h2 hb=>(D3.mp (I.qf b hb)).elim h1 h2
 have UA:∀b∈fp,b∉Ab X.stack:=λ b hb=>Iv b (f b hb).2.1 (f b hb).2.2.1
 have YF:∀x c,(b_ X.env.cells scope.names []).lookup x=some c->c≠D:=λ x c e=>fD.2.2.2.2.1 x c (look x c e)
 have loop:∀s3:Shared,s3={s with heap:=h1,toks:=s.toks+([]:List (Str×Value)).length}->
   codeAny (model X.prog X.w) X.A (.compLoop (.ListComp elt [⟨tg,iter,ifs,0⟩] scope pos) 0 (.ref it) (.ref D) (compEnvC scope (b_ X.env.cells scope.names []) C X.env)) (R (.ref D) C) s3:=by
  rintro s3 rfl
  have Y1:Inv (bG X scope (b_ X.env.cells scope.names []) tgs fr C fp s H) [] (fq tgs.length fr σ) H {s with heap:=h1,toks:=s.toks+([]:List (Str×Value)).length}:=
   Ib B I (by rw[QC];exact QD) f (λ b hb=>XY b (Jb b hb)) rfl I.bare old MK
  refine rC (λ n s'=>∃(i:Nat) (acc:List V) (au:List Value) (H':Hp),Inv (bG X scope (b_ X.env.cells scope.names []) tgs fr C fp s H) [] (fq tgs.length fr σ) H' s'/\tn i s'.heap/\(∀b∈fp,H' b=none)/\H' D=none/\
   s'.heap.PlainList D au.toArray/\Vals acc au/\W i n acc H') ?_ m0 ⟨0,[],[],H,Y1,Vv,λ b hb=>(f b hb).1,fD.1,UJ,.nil,w0⟩
  rintro n s3 ⟨i,acc,au,H3,I3,OC,QH,XZ,⟨nl,Dy⟩,RS,w3⟩
  obtain⟨hz,h⟩:=turn i n acc H3 w3
  have Wk:Inv (bG X scope (b_ X.env.cells scope.names []) tgs fr C fp s H) [(D,{cls:=.type "list",data:=.seq au.toArray nl})] (fq tgs.length fr σ) H3 s3:=I3.cL λ p hp=>by
   have e:p=(D,{cls:=.type "list",data:=.seq au.toArray nl}):=by simpa using hp
   subst e
   exact⟨Dy,XZ,Jf,Iv D fD.2.1 fD.2.2.1,λ v e=>by cases e⟩
  have fY:∀{H':Hp},(∀b∈fp,H' b=none)->∀b∈fp,gB (bG X scope (b_ X.env.cells scope.names []) tgs fr C fp s H) [(D,{cls:=.type "list",data:=.seq au.toArray nl})] H' b:=λ hn b hb=>
   ⟨hn b hb,(below b (Jb b hb)).1,UA b hb,.inl hb,λ x c e=>(f b hb).2.2.2.2.1 x c (look x c e),λ p hp=>by
    have e:p=(D,{cls:=.type "list",data:=.seq au.toArray nl}):=by simpa[bG]using hp
    subst e
    exact J8 (below b (Jb b hb)).2⟩
  rcases h with⟨stop,q⟩|⟨go,N,hN,step⟩
  ·refine cV (T.done (bG X scope (b_ X.env.cells scope.names []) tgs fr C fp s H) rfl rfl rfl hc i _ s3 _ H3 _ Wk (fY QH) OC stop) λ r s4 ⟨hr,I4⟩=>?_
   subst hr
   have pD:=I4.pin (D,{cls:=.type "list",data:=.seq au.toArray nl}) (by simp)
   have IX:Inv X pins σ H3 s4:=I.Q9 (ch:=fp) I4.os I4.base I4.bO I4.bare λ b hb=>⟨(f b hb).2.2.2.1,(f b hb).2.1,(f b hb).2.2.2.2.1,(f b hb).2.2.2.2.2⟩
   obtain⟨m4,Xm,_⟩:=I4.loc
   exact fin D C s4 H3 acc au (E9 _) QD Jf IX I4.free pD.2.1 ⟨m4,Xm⟩ ⟨nl,pD.1⟩ RS hz q
  ·refine cV (T.item (bG X scope (b_ X.env.cells scope.names []) tgs fr C fp s H) rfl rfl rfl hc i _ s3 _ H3 _ Wk (fY QH) OC go) λ r s4 ⟨u,hr,h4⟩=>?_
   subst hr
   refine cV h4 λ _ s5 ⟨x,H5,I5,r5,y5,EW,U9⟩=>?_
   have Vp:=I5.pinned (fY U9) (T.obj _ _ EW)
   refine toF hE (hg _ _ _ _ _ _ s5 _ H5 x u _ Vp r5 (gk x _ H5 _ (step x H5 y5))) λ _ s6 ⟨σ6,H6,I6,q6,TX,k6⟩=>?_
   refine toF hE (ht _ _ _ _ _ _ s6 σ6 H6 _ I6 q6) λ ok s7 ⟨H7,I7,q7⟩=>?_
   have wk:∀{H':Hp} {s':Shared} {pl:List (Addr×Obj)},Inv (bG X scope (b_ X.env.cells scope.names []) tgs fr C fp s H) pl σ6 H' s'->Inv (bG X scope (b_ X.env.cells scope.names []) tgs fr C fp s H) pl (fq tgs.length fr σ) H' s':=λ J=>
    J.weak TX.symm λ k v e=>by
     by_cases hk:tgs.length<=k
     ·rw[k6 k hk];exact e
     ·unfold fq at e
      rw[i0 (by simpa using hk),j5,J9 (by omega)]at e
      cases e
   cases ok with
   |false=>
    simp only[p7,J5]at q7 ⊢
    obtain⟨m',hm,w7⟩:=hN _ _ q7
    have pD:=I7.pin (D,{cls:=.type "list",data:=.seq au.toArray nl}) (by simp)
    refine⟨m',hm,i+1,acc,au,H7,wk (I7.cL (pins':=[]) λ p hp=>absurd hp (by simp)),T.keep _ _ _ EW λ b hb o e=>(I7.pin (b,o) (k9 _ (k9 _ (dN hb e)))).1,λ b hb=>?_,pD.2.1,⟨nl,pD.1⟩,RS,w7⟩
    obtain⟨o,e,d⟩:=T.obj _ _ EW b hb
    exact(I7.pin (b,o) (k9 _ (k9 _ (dN hb e)))).2.1
   |true=>
    simp only[if_true]at q7 ⊢
    refine toF hE (he _ _ _ _ _ _ s7 σ6 H7 _ I7 q7) λ uy s8 ⟨y,H8,I8,r8,n8⟩=>?_
    obtain⟨m',hm,w8⟩:=hN _ _ n8
    have pD:=I8.pin (D,{cls:=.type "list",data:=.seq au.toArray nl}) (by simp)
    have hits:au.toArray.size<=sizeLine:=by
     have:=RS.length
     simp only[x5]
     omega
    refine wpAny_list_append_plain (hsz:=hits) (show s8.heap.PlainList D au.toArray from⟨nl,pD.1⟩) λ h9 Xw VG=>?_
    have I9:Inv (bG X scope (b_ X.env.cells scope.names []) tgs fr C fp s H) [] σ6 H8 {s8 with heap:=h9,toks:=s8.toks}:=
     (I8.cL (pins':=[]) λ p hp=>absurd hp (by simp)).turned (it:=D) (λ b o hb e=>VG.extBut b o hb e) pD.2.1 Jf (.inr (Nat.le_of_eq QC)) YF λ p hp=>absurd hp (by simp[bG])
    refine⟨m',hm,i+1,acc++[y],au++[uy],H8,wk I9,T.keep _ _ _ EW λ b hb o e=>VG.extBut b o (below b (Jb b hb)).2 (I8.pin (b,o) (k9 _ (k9 _ (dN hb e)))).1,λ b hb=>?_,pD.2.1,?_,RS.append (.cons r8 .nil),w8⟩
    ·obtain⟨o,e,d⟩:=T.obj _ _ EW b hb
     exact(I8.pin (b,o) (k9 _ (k9 _ (dN hb e)))).2.1
    ·have e:(au++[uy]).toArray=au.toArray.push uy:=by simp
     rw[e];exact Xw
 exact codeAny_compStart_list (loop _ rfl) (T.self _ 0 _ _ _ Vv (loop _ rfl))
theorem jo(B:lx X scope fr)(hc:X.calm=true)(hE:∀e s,X.xe e s->False)(hi:PI X tg iter wi)
  (hg:∀cl C fp s H,PG (bG X scope cl tgs fr C fp s H) tg g) (gk:iY tgs.length g)
  (ht:∀cl C fp s H,Ol (bG X scope cl tgs fr C fp s H) ifs tt)
  (he:∀cl C fp s H,PE (bG X scope cl tgs fr C fp s H) elt te)
  (hs:∀x,foldedSetIterable iter X.env x=pure x:=by intro _;rfl):PE X (.ListComp elt [⟨tg,iter,ifs,0⟩] scope pos) (mT wi g tt te tgs.length fr):=by
 intro pins s σ H Q I h
 rw[eval_ListComp]
 have UE:=fV (scope:=scope) (env:=X.env) λ n hn=>I.ok.has n (B.has n hn)
 refine wpAny_comprehension_free (use:=none) rfl hs UE B.kind B.names (J0 (hi pins s σ H _ I h) (λ xv s1 h1=>J0 h1 (λ R_ s2 h2=>?_) λ _ _ e=>e) λ _ _ e=>e)
 obtain⟨it,fp,tn,J,H2,rfl,I2,T,OD,f2,W,⟨m0,w0⟩,turn⟩:=h2
 refine pS (R:=λ acc C=>compPost (model X.prog X.w) X.A X.xe none (EP X pins σ Q) acc C) (Qe:=λ acc H=>∀p,H p=none->Q (.ref p) (upd H p (.lst acc))) B hc hE hg gk ht he I2 T OD f2 W m0 w0 turn ?_
 intro D C s1 H1 acc au hD hC Jf I1 nC nD ⟨m,hn⟩ hl rv hz q
 refine⟨m,hn,λ h' wB=>?_⟩
 have fC:=I2.iS (b:=C) (H':=H1) hC nC
 have fD:=I2.iS (b:=D) (H':=H1) hD nD
 have I3:Inv X pins σ H1 {s1 with heap:=h',toks:=s1.toks}:=I1.turned (it:=C) (λ b o hb e=>wB.extBut b o hb e) nC fC.2.1 fC.2.2.2.1 fC.2.2.2.2.1 fC.2.2.2.2.2
 obtain⟨k,e⟩:=hl.extBut wB.extBut Jf
 exact⟨.ref D,upd H1 D (.lst acc),I3.o_ nD ⟨hz,au,k,rv,e⟩ fD.2.1 (E8 I2.sz hD) fD.2.2.2.2.1 fD.2.2.2.2.2,rfl,q D nD⟩
theorem vU{i:Nat}{y:Str}{py sA:Pos}(hN:X.N.Nodup)(hiy:X.N[i]?=some y)(hy:Loc X.env.scope y)(B:lx X scope fr)(hc:X.calm=true)(hE:∀e s,X.xe e s->False)(hi:PI X tg iter wi)
  (hg:∀cl C fp s H,PG (bG X scope cl tgs fr C fp s H) tg g) (gk:iY tgs.length g)
  (ht:∀cl C fp s H,Ol (bG X scope cl tgs fr C fp s H) ifs tt)
  (he:∀cl C fp s H,PE (bG X scope cl tgs fr C fp s H) elt te)
  (hsw:swapsWith (.ListComp elt [⟨tg,iter,ifs,0⟩] scope pos) (some (.Name y py)) sA.line X.env=pure true:=by rfl)
  (hf:X.fn y=true\/X.env.scope.names.lookup y=some .local:=by first|exact .inl rfl|exact .inr rfl|assumption)
  (hs:∀x,foldedSetIterable iter X.env x=pure x:=by intro _;rfl):PS X (.Assign [.Name y py] (.ListComp elt [⟨tg,iter,ifs,0⟩] scope pos) sA) (EV (mT wi g tt te tgs.length fr) (eX i)):=by
 intro pins s σ H D0 I h
 rw[exec_Assign_Name_used _ _ _ _ hsw]
 have UE:=fV (scope:=scope) (env:=X.env) λ n hn=>I.ok.has n (B.has n hn)
 refine G8 (wpAny_standAt (G8 ?_))
 show wpAny _ X.A (do let _ <- comprehension (.ListComp elt [⟨tg,iter,ifs,0⟩] scope pos) scope X.env _ (newList []) false (eval iter X.env) (some (assign (.Name y py) X.env))) _ _ s
 refine G8 (J0 (wpAny_comprehension_free (use:=some (assign (.Name y py) X.env)) (Q:=λ _ s'=>SP X pins D0 .next s') rfl hs UE B.kind B.names
  (J0 (hi pins s σ H _ I h) (λ xv s1 h1=>J0 h1 (λ R_ s2 h2=>?_) λ _ _ e=>e) λ _ _ e=>e)) (λ _ s' hq=>G9 (G9 hq)) λ _ _ e=>e)
 obtain⟨it,fp,tn,J,H2,rfl,I2,T,OD,f2,W,⟨m0,w0⟩,turn⟩:=h2
 refine pS (R:=λ acc C=>compPost (model X.prog X.w) X.A X.xe (some (assign (.Name y py) X.env)) (λ _ s'=>SP X pins D0 .next s') acc C) (Qe:=λ acc H=>∀p,H p=none->eX i (.ref p) σ (upd H p (.lst acc)) D0.nx) B hc hE hg gk ht he I2 T OD f2 W m0 w0 turn ?_
 intro D C s1 H1 acc au hD hC Jf I1 nC nD ⟨m,hn⟩ hl rv hz q
 have fC:=I2.iS (b:=C) (H':=H1) hC nC
 have fD:=I2.iS (b:=D) (H':=H1) hD nD
 obtain⟨k,e⟩:=hl
 have I3:Inv X pins σ (upd H1 D (.lst acc)) s1:=I1.o_ nD ⟨hz,au,k,rv,e⟩ fD.2.1 (E8 I2.sz hD) fD.2.2.2.2.1 fD.2.2.2.2.2
 show wpAny _ X.A (assign (.Name y py) X.env (.ref D)) _ _ s1
 refine wpAny_assign_Name (pf I3 hN hiy hy (show RelV (.ref D) (.ref D)from rfl) (λ s2 J2 ⟨a,Xa,ha⟩=>?_) hf)
 have aC:C≠a:=by
  rcases ha with z|z
  ·rw[z];exact fC.2.1
  ·exact J8 (fC.2.2.2.2.1 _ _ z)
 refine⟨m,hn.sameBut Xa aC,λ h' wB=>?_⟩
 have WM:(upd H1 D (.lst acc)) C=none:=by rw[aX (J8 Jf)];exact nC
 have I4:Inv X pins (σ.set i (some (.ref D))) (upd H1 D (.lst acc)) {s2 with heap:=h',toks:=s2.toks}:=J2.turned (it:=C) (λ b o hb e=>wB.extBut b o hb e) WM fC.2.1 fC.2.2.2.1 fC.2.2.2.2.1 fC.2.2.2.2.2
 exact⟨_,_,I4,q D nD⟩
end
end L2
namespace L2
open PySem PySem.Spec PyProof.Rows
def oM(x:Str)(lo hi:Option Int):Str:=⟨((x.cps.toList.drop (HT.ck x.length 0 lo)).take (HT.ck x.length x.length hi - HT.ck x.length 0 lo)).toArray⟩
theorem HX(x:Str)(lo hi:Option Int):(oM x lo hi).length<=x.length:=by
 show((x.cps.toList.drop (HT.ck x.length 0 lo)).take (HT.ck x.length x.length hi - HT.ck x.length 0 lo)).toArray.size<=x.cps.size
 rw[x5,A3,y8,o7]
 omega
theorem AW(lo hi:Option Int)(n:Nat):Builtin.Str.strSliceIndices lo hi 1 n=sliceRange ((HT.ck n 0 lo:Nat):Int) ((HT.ck n n hi:Nat):Int) 1:=by
 obtain⟨h1,h2,h3⟩:=je lo hi n
 rw[<- h1,<- h2]
 rfl
theorem zm(x:Str)(lo hi:Option Int):Txt.slice x lo hi=oM x lo hi:=by
 have e:((Builtin.Str.strSliceIndices lo hi 1 x.length).filterMap (x.cps[·]?)).toArray=(oM x lo hi).cps:=by
  rw[AW,sliceRange_one,pick_run]
  rfl
 unfold Txt.slice
 split
 ·rename_i h
  have hl:(Builtin.Str.strSliceIndices lo hi 1 x.length).length=x.length:=by simpa using h
  rw[AW,sliceRange_one,B7,w9]at hl
  have b1:=HT.vL x.length 0 (G5 _) lo
  have b2:=HT.vL x.length x.length (E9 _) hi
  have hlen:x.cps.toList.length=x.length:=by simp[Str.length]
  unfold oM
  by_cases h0:x.length=0
  ·have:x.cps.toList=[]:=j7.mp (by omega)
   rw[this]
   cases x with
   |mk c=>simp at this;subst this;simp
  ·have ea:HT.ck x.length 0 lo=0:=by omega
   have eb:HT.ck x.length x.length hi=x.length:=by omega
   rw[ea,eb,drop_zero,Nat.sub_zero,j8 (by omega)]
 ·exact J7 Str.mk e
section
variable {X:Cx}
def Tn:V->Option Int->Option Int->Hp->VK->Prop:=λ x lo hi H Q=>∃z,x=.str z/\z.length<=sizeLine/\Q (.str (oM z lo hi)) H
theorem wA{h:Heap}{sl:Addr}{vl vu:Value}{lo hi:Option Int}(hs:h.IsSliceOf sl vl vu .none)(pl:IsPart vl lo)(pu:IsPart vu hi):
  ∃l u:Option (Int×Tok),h.IsSlice sl l u none/\l.map (·.1)=lo/\u.map (·.1)=hi:=by
 cases pl with
 |none=>
  cases pu with
  |none=>exact⟨none,none,hs,rfl,rfl⟩
  |int i t=>exact⟨none,some (i,t),hs,rfl,rfl⟩
 |int i t=>
  cases pu with
  |none=>exact⟨some (i,t),none,hs,rfl,rfl⟩
  |int j u=>exact⟨some (i,t),some (j,u),hs,rfl,rfl⟩
theorem JR:yT X Tn:=by
 intro pins s σ H x v vl vu lo hi sl Q I rx hs pl pu h
 obtain⟨z,rfl,hz,q⟩:=h
 obtain⟨t,rfl⟩:=rx
 obtain⟨l,u,N7,rfl,rfl⟩:=wA hs pl pu
 refine⟨"str",_,PySem.F.slot_str_getitem.lookup,typeIs_str _ _ _,wpAny_getItem_str_slice (l:=l) (u:=u) (st:=none) N7 rfl ?_⟩
 rw[<- zm]at q
 exact post_val_or_str ⟨E8 (Txt.slice_le z _ _) hz,λ t' k=>⟨.str (Txt.slice z (l.map (·.1)) (u.map (·.1))),H,I.tok k,⟨_,rfl⟩,q⟩⟩
theorem zB:fu X (compareOp .LtE) (λ x y H Q=>∃i j,x=.str i/\y=.str j/\Q (.bl (!decide (j.cps.toList < i.cps.toList))) H):=by
 intro pins s σ H x y v u Q I rx ry h
 obtain⟨i,j,rfl,rfl,q⟩:=h
 obtain⟨t,rfl⟩:=rx
 obtain⟨t',rfl⟩:=ry
 exact PySem.P.le_str ⟨.bl (!decide (j.cps.toList < i.cps.toList)),H,I,rfl,q⟩
theorem vE{ys:List Str}:∀{us:List Value},Vals (ys.map V.str) us->StrsAre us ys:=by
 induction ys with
 |nil=>intro us r;rw[map_nil]at r;cases r;exact .nil
 |cons n ns ih=>
  intro us r
  rw[D1]at r
  cases r with
  |cons r1 r2=>
   obtain⟨t,e⟩:=r1
   subst e
   exact .cons n t (ih r2)
def rJoin(K:PySem.W.Frag):V->List V->Hp->VK->Prop:=λ x vs H Q=>∃(z:Str) (p:Addr) (ys:List Str),x=.str z/\vs=[.ref p]/\dD K H p (ys.map V.str)/\(ys.map (·.length)).sum+ys.length*z.length<=16777216/\Q (.str (Txt.join z ys)) H
theorem GZ:SA X "str.join" (rJoin X.K):=by
 intro pins s σ H x xs v us Q I rx r h
 obtain⟨z,p,ys,rfl,rfl,hq,hz,q⟩:=h
 obtain⟨t,rfl⟩:=rx
 obtain⟨u,rfl,r1⟩:=Vals.one r
 cases r1
 obtain⟨au,rv,pl,_⟩:=I.list hq
 exact join_list pl.isList (by simpa using vE rv) hz λ t' k=>⟨.str (Txt.join z ys),H,I.tok k,⟨_,rfl⟩,q⟩
def OS:R2:=λ x y H Q=>∃z n,x=.str z/\y=.int n/\MulOk z n/\Q (.str (Txt.mul z n)) H
theorem wa:fu X (binaryOp .Mult) OS:=by
 intro pins s σ H x y v u Q I rx ry h
 obtain⟨z,n,rfl,rfl,bO,q⟩:=h
 obtain⟨t,rfl⟩:=rx
 obtain⟨t',rfl⟩:=ry
 exact SB.mul bO λ t' k=>⟨.str (Txt.mul z n),H,I.tok k,⟨_,rfl⟩,q⟩
theorem uX(hc:X.calm=true):dH X (.builtin "all") (λ xs H Q=>∃(p:Addr) (bs:List Bool),xs=[.ref p]/\dD X.K H p (bs.map V.bl)/\Q (.bl (bs.all id)) H):=by
 intro pins s σ H xs us Q I r h
 obtain⟨p,bs,rfl,hq,q⟩:=h
 obtain⟨u,rfl,r1⟩:=vals1 r
 cases r1
 obtain⟨au,rv,pl,hz⟩:=I.list hq
 refine call_all_walk (w6 pl.isList ?_)
 have gL:p≠s.heap.objs.size:=by
  obtain⟨o,n,e,_⟩:=pl
  exact E1 (E2 e)
 have hlen:au.length=bs.length:=by rw[<- rv.length,B7]
 refine⟨s.heap.objs.size,_,_,_,_,_,λ i=>(bs[i]?).getD false,rfl,Walks.list (A:=X.A.in1) (show X.A.in1.handled=none from I.ok.hd hc) s.heap.objs.size p gL au.toArray,⟨⟨_,o8 _ rfl,rfl,rfl⟩,pl.isList.at λ o e=>k5 _ e⟩,?_,λ h' tk hk=>?_⟩
 ·intro i v s' Q' E' hP hQ
  have Jd:au[i]?=some v:=by simpa using hP
  have hi:i < bs.length:=by rw[<- hlen];exact(i6.mp Jd).1
  have hb:(bs.map V.bl)[i]?=some (V.bl bs[i]):=by simp[hi]
  obtain⟨u,hu,ru⟩:=rv.get hb
  rw[Jd]at hu
  cases hu
  have e:v=Value.bool bs[i]:=ru
  subst e
  have:(bs[i]?).getD false=bs[i]:=by simp[hi]
  dsimp only at hQ
  rw[this]at hQ
  exact w5 hQ
 ·refine⟨.bl (bs.all id),H,I.kept (t':=tk) λ b o e=>hk b o (by simpa using E1 (E2 e)) (k5 _ e),?_,q⟩
  show Value.bool _=Value.bool _
  congr 1
  rw[x5,hlen]
  rw[A5]
  simp only[List.all_eq_true,mem_range,id]
  constructor
  ·intro h b hb
   obtain⟨i,hi,rfl⟩:=m8.mp hb
   have:=h i hi
   simpa[hi]using this
  ·intro h i hi
   simpa[hi]using h bs[i] (A4 hi)
end
def Oo(x:Str):It:=⟨λ i _=>i < x.cps.size,λ i H v H'=>H'=H/\∃c,x.cps[i]?=some c/\v=.str ⟨#[c]⟩,λ i _=>i=x.cps.size⟩
theorem sr{P:Program}{w:World}{K:PySem.W.Frag}{tg:Expr}(it:Addr)(x:Str)(t:Tok)(ty:String)(hty:["enumerate","zip","dict_itemiterator","dict_reverseitemiterator","odict_iterator","itertools.zip_longest","itertools.pairwise"].contains ty=false)
  (W:∀A':Around,A'.handled=none->Walks P w A' it [it] [it] x.cps.size (SignAt x) (λ i h=>h.IsStrIter it ty x t i))
  (self:∀(A:Around) (i:Nat) (s:Shared) (Q:Value->Shared->Prop) (E:Value->Shared->Prop),s.heap.IsStrIter it ty x t i->Q (.ref it) s->wpAny (model P w) A (pyIter (.ref it)) Q E s):
  Turn P w K tg (Oo x) [it] it (λ i h=>h.IsStrIter it ty x t i) where
 mem:=by simp
 obj:=λ i h st b hb=>by
  have e:b=it:=by simpa using hb
  subst e
  obtain⟨o,e,c,d⟩:=st
  exact⟨o,e,λ v z=>by rw[d]at z;cases z⟩
 keep:=λ i h h' st k=>by
  obtain⟨o,e,c,d⟩:=st
  exact⟨o,k it (by simp) o e,c,d⟩
 item:=by
  intro X hP hw hK hc i pins s σ H E I hf st hg
  subst hP hw hK
  obtain⟨f0,f1,f2,f3,f4,f5⟩:=hf it (by simp)
  refine(W X.A (I.ok.hd hc)).item i s _ _ hg st λ v h' tk hv aK kk=>?_
  obtain⟨c,u,hx,rfl⟩:=hv
  have I1:Inv X pins σ H {s with heap:=h',toks:=tk}:=I.turned (λ b o hb e=>kk b o (by simpa using hb) e) f0 f1 f3 f4 f5
  obtain⟨o,e,cc,d⟩:=id aK
  exact⟨_,rfl,yw (s:={s with heap:=h',toks:=tk}) e cc d hty ⟨.str ⟨#[c]⟩,H,I1,⟨u,rfl⟩,⟨rfl,c,hx,rfl⟩,aK,λ b hb=>(hf b hb).1⟩⟩
 done:=by
  intro X hP hw hK hc i pins s σ H E I hf st hg
  subst hP hw hK
  obtain⟨f0,f1,f2,f3,f4,f5⟩:=hf it (by simp)
  have hg:i=x.cps.size:=hg
  subst hg
  exact(W X.A (I.ok.hd hc)).done s _ _ st λ h' tk kk=>⟨rfl,I.turned (λ b o hb e=>kk b o (by simpa using hb) e) f0 f1 f3 f4 f5⟩
 self:=self
end L2
namespace L2
open PySem PySem.Spec PyProof.Rows
section
variable {X:Cx}
theorem xf.imp {r r':R2}(h:xf X r)(k:∀x y H Q,r' x y H Q->r x y H Q):xf X r':=λ value slice pins s σ H x y v u Q I rx ry q=>h value slice pins s σ H x y v u Q I rx ry (k x y H Q q)
theorem yT.imp {r r':V->Option Int->Option Int->Hp->VK->Prop}(h:yT X r)(k:∀x lo hi H Q,r' x lo hi H Q->r x lo hi H Q):yT X r':=
 λ pins s σ H x v vl vu lo hi sl Q I rx hs pl pu q=>h pins s σ H x v vl vu lo hi sl Q I rx hs pl pu (k x lo hi H Q q)
def YZ(K:PySem.W.Frag):R2:=λ x y H Q=>match x,y with
 | .ref p,.int i=>∃xs v,(dD K H p xs\/f_ K H p xs)/\iq xs i=some v/\Q v H
 | .str z,.int i=>z.length<=sizeLine/\∃c,iq z.cps.toList i=some c/\Q (.str ⟨#[c]⟩) H
 |_,_=>False
theorem bD:xf X (YZ X.K):=Mw.imp λ x y H Q q=>by
 cases x <;> cases y <;> first
  |exact False.elim q
  |(obtain⟨xs,v,h|h,e,q⟩:=q
    ·exact .inl ⟨_,xs,_,v,rfl,rfl,h,e,q⟩
    ·exact .inr (.inl ⟨_,xs,_,v,rfl,rfl,h,e,q⟩))
  |(obtain⟨hz,c,e,q⟩:=q
    exact .inr (.inr ⟨_,_,c,rfl,rfl,hz,e,q⟩))
def YY(K:PySem.W.Frag):V->Option Int->Option Int->Hp->VK->Prop:=λ x lo hi H Q=>match x with
 | .str z=>z.length<=sizeLine/\Q (.str (oM z lo hi)) H
 | .ref a=>OQ K (.ref a) lo hi H Q\/OP K (.ref a) lo hi H Q
 |_=>False
theorem oB:yT X (YY X.K):=(JR.or (Fb.or JQ)).imp λ x lo hi H Q q=>by
 cases x <;> first|exact False.elim q|exact .inl ⟨_,rfl,q⟩|exact .inr q
end
end L2
namespace L2
open PySem PySem.Spec PyProof.Rows
structure bF(P:Program)(w:World)(K:PySem.W.Frag)(mg:Str->Option Value)(base:Heap)(k:Nat)(x:Str)(ps:List Str)(sp:Sp):Prop where
 ex:∃(f:Addr) (fd:FuncData),bZ P w K mg base fE k f fd ps sp/\mg x=some (.ref f)/\PySem.W.keepIn K (.ref f)=true/\Binds K fd ps []
theorem bF.of {P:Program}{w:World}{K:PySem.W.Frag}{mg:Str->Option Value}{base:Heap}{k:Nat}{x qual:Str}{ps:List Str}{sp:Sp}{st:Stmt}{f:Addr}{fd:FuncData}(F:gM K x qual st f fd)(G:bZ P w K mg base fE k f fd ps sp)(hm:mg x=some (.ref f))(b:Binds K fd ps []):
  bF P w K mg base k x ps sp:=⟨f,fd,G,hm,F.kp,b⟩
def tD(sp:Sp)(t:TA):TE:=λ σ H Q=>t σ H λ vs H1=>sp vs H1 Q E0
section
variable {X:Cx}{x:Str}{p pos:Pos}{e:Expr}{es:List Expr}{t:TA}{k j:Nat}{ps:List Str}{sp:Sp}
theorem Lr(d:bF X.prog X.w X.K X.mg X.base k x ps sp)(hr:cJ k X.A)(hg:Gl X x)(ha:PA X (e::es) t)(hdb:(x==("__debug__":Str))=false:=by decide)(he:starEach (e::es) X.env=(false,eval e X.env)::starEach es X.env:=by rfl)
  (hpl:(backTo pos (starEach es X.env)).any (·.1)=false:=by rfl):PE X (.Call (.Name x p) (e::es) [] pos) (tD sp t):=by
 obtain⟨f,fd,G,hm,kp,b⟩:=d.ex
 intro pins s σ H Q I h
 have h':Iu sp [] E0 t σ H Q:=by
  show t σ H λ vs H1=>sp (vs++[]) H1 Q E0
  have e:(λ(vs:List V) (H1:Hp)=>sp (vs++[]) H1 Q E0)=λ vs H1=>sp vs H1 Q E0:=by
   funext vs H1
   rw[A6]
  rw[e]
  exact h
 exact Gz (E:=E0) G hr hg hm kp b .nil Pd ha hdb he hpl pins s σ H Q I h'
end
noncomputable def uY(X:Cx)(scope:Scope)(fr:List Nat):Bool:=
 (scope.kind==.function)&&(scope.names.all λ y=>y.2 != .cell&&(y.2 != .local||scope.names.lookup y.1==some .local)&&(y.2 != .free||X.env.kindOf y.1==some .cell||X.env.kindOf y.1==some .free))&&
 (fr.all λ j=>decide (j < X.N.length)&&scope.names.lookup (X.N.getD j "")==some .free)
theorem bw{X:Cx}{scope:Scope}{fr:List Nat}(h:uY X scope fr=true):lx X scope fr:=by
 unfold uY at h
 rw[A2,A2]at h
 obtain⟨⟨h1,h2⟩,h3⟩:=h
 rw[List.all_eq_true]at h2 h3
 refine⟨by simpa using h1,λ y hy=>?_,λ y hy hl=>?_,λ n hn=>?_,λ j hj=>?_⟩
 ·have:=h2 y hy
  simp only[A2]at this
  simpa using this.1.1
 ·have:=h2 y hy
  simp only[A2]at this
  have:=this.1.2
  rw[hl]at this
  simpa using this
 ·have:=h2 _ hn
  simp only[A2]at this
  have:=this.2
  simpa using this
 ·have:=h3 j hj
  rw[A2]at this
  exact⟨by simpa using this.1,by simpa using this.2⟩
section
variable {X:Cx}{tg:Expr}
def T4(K:PySem.W.Frag)(tl:TE):TI:=λ σ H R=>tl σ H λ x H1=>match x with
 | .str z=>R (Oo z) H1
 | .ref a=>(∃xs,dD K H1 a xs/\R (SF K a) H1)\/(∃xs,f_ K H1 a xs/\R (Vn K a) H1)
 |_=>False
theorem Lh{l:Expr}{tl:TE}(hl:PE X l tl):PI X tg l (T4 X.K tl):=by
 intro pins s σ H R I h
 have uh:PE X l (λ σ' H' Q=>Q=Q/\tl σ' H' Q):=λ pins s σ H Q I q=>hl pins s σ H Q I q.2
 refine cV (hl pins s σ H _ I h) λ v s1 ⟨x,H1,I1,r1,q1⟩=>?_
 have fp:∀b∈[s1.heap.objs.size],gB X pins H1 b:=λ b hb=>by
  have e:b=s1.heap.objs.size:=by simpa using hb
  subst e
  exact I1.iS (E9 _) (I1.bO.fresh (E9 _))
 cases x with
 |str z=>
  have q:R (Oo z) H1:=q1
  obtain⟨t,rfl⟩:=r1
  cases ha:z.cps.all (· < 128)
  ·exact wpAny_pyIter_wide ha ⟨s1.heap.objs.size,[s1.heap.objs.size],_,Oo z,H1,rfl,I1.kept (t':=s1.toks) λ b o e=>k5 _ e,sr _ z t "str_iterator" (by decide) (λ A' hA=>Walks.strWide hA _ z t) (λ _ _ _ _ _ st h=>wpAny_pyIter_striter_wide st h),⟨_,o8 _ rfl,rfl,rfl⟩,fp,q⟩
  ·exact wpAny_pyIter_ascii ha ⟨s1.heap.objs.size,[s1.heap.objs.size],_,Oo z,H1,rfl,I1.kept (t':=s1.toks) λ b o e=>k5 _ e,sr _ z t "str_ascii_iterator" (by decide) (λ A' hA=>Walks.strAscii hA _ z t) (λ _ _ _ _ _ st h=>wpAny_pyIter_striter_ascii st h),⟨_,o8 _ rfl,rfl,rfl⟩,fp,q⟩
 |ref a=>
  cases(show v=Value.ref a from r1)
  rcases q1 with⟨xs,hq,q⟩|⟨xs,hq,q⟩
  ·obtain⟨au,rv,p,hz⟩:=I1.list hq
   exact w6 p.isList ⟨s1.heap.objs.size,[s1.heap.objs.size],_,_,H1,rfl,I1.kept (t':=s1.toks) λ b o e=>k5 _ e,zg a _,⟨_,o8 _ rfl,rfl,rfl⟩,fp,q⟩
  ·obtain⟨au,rv,p,hz⟩:=I1.tuple hq
   exact wpAny_pyIter_tuple (show s1.heap.IsTuple a au.toArray from p) ⟨s1.heap.objs.size,[s1.heap.objs.size],_,_,H1,rfl,I1.kept (t':=s1.toks) λ b o e=>k5 _ e,vB a _,⟨_,o8 _ rfl,rfl,rfl⟩,fp,q⟩
 |_=>exact False.elim q1
end
end L2
namespace L2
open PySem PySem.Spec PyProof.Rows
inductive IK where
 |i (n:Int)
 |t (ks:List IK)
noncomputable instance:DecidableEq IK:=λ a b=>Classical.propDecidable (a=b)
mutual
def IK.dep:IK->Nat
 | .i _=>0
 | .t ks=>IK.jH ks+1
def IK.jH:List IK->Nat
 |[]=>0
 |k::ks=>max k.dep (IK.jH ks)
end
mutual
def Dw:IK->Int
 | .i n=>hashInt n
 | .t ks=>reduceHash (Builtin.Tuple.tupleHashOf (qT ks))
def qT:List IK->List Int
 |[]=>[]
 |k::ks=>Dw k::qT ks
end
mutual
def Ay:IK->Nat
 | .i _=>1
 | .t ks=>hX ks+1
def hX:List IK->Nat
 |[]=>0
 |k::ks=>Ay k+hX ks
end
mutual
def dz(h:Heap):IK->Value->Prop
 | .i n,v=>∃t,v=.int n t
 | .t ks,v=>∃(a:Addr) (o:Obj) (au:List Value) (n:Nat),v=.ref a/\h.get? a=some o/\o.cls=.type "tuple"/\o.data=.seq au.toArray n/\cB h ks au
def cB(h:Heap):List IK->List Value->Prop
 |[],vs=>vs=[]
 |k::ks,vs=>∃v r,vs=v::r/\dz h k v/\cB h ks r
end
mutual
def pJ:IK->PyData
 | .i n=>.int n
 | .t ks=>.tuple (hW ks)
def hW:List IK->List PyData
 |[]=>[]
 |k::ks=>pJ k::hW ks
end
theorem uf:∀ks:List IK,qT ks=ks.map Dw
 |[]=>by unfold qT;rfl
 |k::ks=>by unfold qT;rw[uf ks];rfl
theorem ue:∀(ks ls:List IK),hX (ks++ls)=hX ks+hX ls
 |[],ls=>by rw[A7];unfold hX;split <;> omega
 |k::ks,ls=>by
  rw[cons_append]
  have:=ue ks ls
  show Ay k+hX (ks++ls)=Ay k+hX ks+hX ls
  omega
theorem Du(k:IK):hX [k]=Ay k:=by show Ay k+hX []=Ay k;unfold hX;omega
theorem Dv:hX []=0:=by unfold hX;rfl
theorem jG:∀{ks:List IK} {k:IK},k∈ks->k.dep<=IK.jH ks
 |k0::ks,k,h=>by
  show k.dep<=max k0.dep (IK.jH ks)
  rcases D3.mp h with rfl|h
  ·exact Nat.le_max_left _ _
  ·exact E8 (jG h) (Nat.le_max_right _ _)
section
variable {prog:Program}{w:World}
theorem Ht:∀(n:Nat) (k:IK),k.dep<=n->∀{A:Around} {E:Value->Shared->Prop} {s:Shared} {v:Value} {Q:Int->Shared->Prop},A.units+k.dep < cLine->dz s.heap k v->Q (Dw k) {s with toks:=s.toks+Ay k}->wpAny (model prog w) A (pyHash v) Q E s:=by
 intro n
 induction n with
 |zero=>
  intro k hk A E s v Q hu hi h
  cases k with
  |i m=>
   unfold dz at hi
   obtain⟨t,rfl⟩:=hi
   unfold Dw Ay at h
   exact wpAny_pyHash_int h
  |t ks=>unfold IK.dep at hk;omega
 |succ n ih=>
  intro k hk A E s v Q hu hi h
  cases k with
  |i m=>
   unfold dz at hi
   obtain⟨t,rfl⟩:=hi
   unfold Dw Ay at h
   exact wpAny_pyHash_int h
  |t ks=>
   unfold dz at hi
   obtain⟨a,o,au,m,rfl,ho,hc,hd,hits⟩:=hi
   have jC:IK.jH ks<=n:=by unfold IK.dep at hk;omega
   have Se:A.units+(IK.jH ks+1) < cLine:=by unfold IK.dep at hu;exact hu
   have hT:s.TypeIs (.ref a) "tuple":=⟨o,ho,hc⟩
   unfold pyHash;(first|unfold pyHashByItsType|skip);(first|refine G8 (wpAny_cRoomFor_or (.inr (show A.units < cLine by omega)) ?_)|skip)
   refine G8 (wpAny_specialOf hT F.slot_tuple_hash.lookup ?_);show wpAny _ _ (if(some (Value.builtin "tuple.__hash__")==some Value.none)=true then _ else _) Q E s;rw[K0 (by rw[beq_builtin_none];exact p5)]
   refine G8 (wpAny_specialOf hT F.slot_tuple_hash.lookup ?_);show wpAny _ _ (callSpecialIfBoundUnlessNone? (.ref a) "__hash__" _ >>= _) Q E s
   refine G8 (wpAny_callSpecialIfBoundUnlessNone?_slot hT F.slot_tuple_hash (A0 F.slot_tuple_hash hT F.entry_tuple_hash ?_ (F.args_tuple_hash_1 _)));show wpAny _ _ (Builtin.Tuple.tupleItemsOf (.ref a) >>= _) _ _ s
   refine G8 (wpAny_tupleItemsOf ho hd (G8 ?_));rw[<- Array.forIn_toList]
   refine wpAny_forIn_list _ (λ rest (b:Array Int) s'=>∃done left,ks=done++left/\cB s.heap left rest/\b.toList=done.map Dw/\s'={s with toks:=s.toks+hX done}) _ ?_ ?_ _ _ ⟨[],ks,rfl,hits,rfl,by rw[Dv];rfl⟩
   ·rintro x rest b s' ⟨done,left,rfl,hl,hb,rfl⟩
    cases left with
    |nil=>unfold cB at hl;cases hl
    |cons k1 left=>
     unfold cB at hl
     obtain⟨v,r,e,h1,h2⟩:=hl
     cases e
     have hm:=jG (ks:=done++k1::left) (k:=k1) (by simp)
     refine G8 (ih k1 (by omega) (A:=A.in1) (show A.units+1+_ < cLine by omega) h1 ?_)
     have fin:∃d2 l2,done++k1::left=d2++l2/\cB s.heap l2 rest/\(b.push (Dw k1)).toList=d2.map Dw/\({s with toks:=s.toks+hX done+Ay k1}:Shared)={s with toks:=s.toks+hX d2}:=
      ⟨done++[k1],left,by simp,h2,by simp[hb],by rw[ue,Du,Nat.add_assoc]⟩
     first|exact G9 fin|exact G8 (G9 (G9 fin))
   ·rintro b s' ⟨done,left,rfl,hl,hb,rfl⟩
    cases left with
    |cons k1 left=>unfold cB at hl;obtain⟨v,r,e,_⟩:=hl;cases e
    |nil=>
     rw[A6]at h
     show wpAny _ _ (retInt (Builtin.Tuple.tupleHashOf b.toList)) _ _ _;rw[hb,<- uf];refine wpAny_ret_mkInt ?_
     show wpAny _ _ (if(decide (-(2:Int)^63<=Builtin.Tuple.tupleHashOf (qT done))&&decide (Builtin.Tuple.tupleHashOf (qT done) < 2^63))=true then _ else _) Q E _
     unfold Dw Ay reduceHash at h
     by_cases hr:(decide (-(2:Int)^63<=Builtin.Tuple.tupleHashOf (qT done))&&decide (Builtin.Tuple.tupleHashOf (qT done) < 2^63))=true
     ·rw[J9 hr]at h ⊢;exact G9 (by simpa[Nat.add_assoc]using h)
     ·rw[K0 hr]at h ⊢;exact G8 (H0 (G9 (by simpa[Nat.add_assoc]using h)))
end
end L2
namespace L2
open PySem PySem.Spec PyProof.Rows
mutual
theorem nJ{h:Heap}:∀(k:IK) {v:Value},dz h k v->∃as,Reads h v (pJ k) as
 | .i n,v,x=>by
  unfold dz at x
  obtain⟨t,rfl⟩:=x
  unfold pJ
  exact⟨_,Reads.int n t⟩
 | .t ks,v,x=>by
  unfold dz at x
  obtain⟨a,o,au,n,rfl,ho,hc,hd,q⟩:=x
  obtain⟨as,r⟩:=pI ks q
  unfold pJ
  exact⟨_,reads_tuple_at ho hc hd (by simpa using r)⟩
theorem pI{h:Heap}:∀(ks:List IK) {vs:List Value},cB h ks vs->∃as,ReadsAll h vs (hW ks) as
 |[],vs,x=>by
  unfold cB at x
  subst x
  unfold hW
  exact⟨_,ReadsAll.nil⟩
 |k::ks,vs,x=>by
  unfold cB at x
  obtain⟨v,r,rfl,h1,h2⟩:=x
  obtain⟨as,a⟩:=nJ k h1
  obtain⟨bs,b⟩:=pI ks h2
  unfold hW
  exact⟨_,ReadsAll.cons a b⟩
end
mutual
theorem qR:∀k:IK,(pJ k).canLay0=true
 | .i n=>by unfold pJ;simp[PyData.canLay0]
 | .t ks=>by unfold pJ;simp only[PyData.canLay0];exact t_ ks
theorem t_:∀ks:List IK,PyData.canLayAll0 (hW ks)=true
 |[]=>by unfold hW;simp[PyData.canLayAll0]
 |k::ks=>by unfold hW;simp only[PyData.canLayAll0];rw[qR k,t_ ks];rfl
end
mutual
theorem qS:∀k:IK,(pJ k).depth=k.dep
 | .i n=>by unfold pJ IK.dep;simp[PyData.depth]
 | .t ks=>by unfold pJ IK.dep;simp only[PyData.depth];rw[uc ks]
theorem uc:∀ks:List IK,PyData.depthAll (hW ks)=IK.jH ks
 |[]=>by unfold hW IK.jH;simp[PyData.depthAll]
 |k::ks=>by unfold hW IK.jH;simp only[PyData.depthAll];rw[qS k,uc ks]
end
mutual
theorem Dt:∀a b:IK,PyData.eqv (pJ a) (pJ b)=true↔a=b
 | .i n,.i m=>by unfold pJ;simp[PyData.eqv]
 | .i n,.t ks=>by unfold pJ;simp[PyData.eqv]
 | .t ks,.i n=>by unfold pJ;simp[PyData.eqv]
 | .t ks,.t ls=>by unfold pJ;simp only[PyData.eqv,IK.t.injEq];exact ym ks ls
theorem ym:∀as bs:List IK,PyData.eqvAll (hW as) (hW bs)=true↔as=bs
 |[],[]=>by unfold hW;simp[PyData.eqvAll]
 |[],b::bs=>by unfold hW;simp[PyData.eqvAll]
 |a::as,[]=>by unfold hW;simp[PyData.eqvAll]
 |a::as,b::bs=>by
  unfold hW
  simp only[PyData.eqvAll,A2,List.cons.injEq]
  rw[Dt a b,ym as bs]
end
mutual
theorem Dq{h:Heap}:∀(x y:IK) {v:Value},dz h x v->dz h y v->x=y
 | .i n,.i m,v,a,b=>by
  unfold dz at a b
  obtain⟨t,rfl⟩:=a
  obtain⟨u,e⟩:=b
  cases e
  rfl
 | .i n,.t ks,v,a,b=>by
  unfold dz at a b
  obtain⟨t,rfl⟩:=a
  obtain⟨_,_,_,_,e,_⟩:=b
  cases e
 | .t ks,.i n,v,a,b=>by
  unfold dz at a b
  obtain⟨t,rfl⟩:=b
  obtain⟨_,_,_,_,e,_⟩:=a
  cases e
 | .t ks,.t ls,v,a,b=>by
  unfold dz at a b
  obtain⟨a1,o1,i1,n1,rfl,g1,_,d1,q1⟩:=a
  obtain⟨a2,o2,i2,n2,e,g2,_,d2,q2⟩:=b
  cases e
  rw[g1]at g2
  cases g2
  rw[d1]at d2
  cases d2
  rw[yl ks ls q1 q2]
theorem yl{h:Heap}:∀(xs ys:List IK) {vs:List Value},cB h xs vs->cB h ys vs->xs=ys
 |[],[],vs,_,_=>rfl
 |[],y::ys,vs,a,b=>by
  unfold cB at a b
  subst a
  obtain⟨_,_,e,_⟩:=b
  cases e
 |x::xs,[],vs,a,b=>by
  unfold cB at a b
  subst b
  obtain⟨_,_,e,_⟩:=a
  cases e
 |x::xs,y::ys,vs,a,b=>by
  unfold cB at a b
  obtain⟨v,r,rfl,a1,a2⟩:=a
  obtain⟨v2,r2,e,b1,b2⟩:=b
  cases e
  rw[Dq x y a1 b1,yl xs ys a2 b2]
end
theorem MC{h:Heap}{k:IK}{v:Value}(x:dz h k v){d:Addr}{o:Obj}{es:Array DictEntry}{ep:Nat}(ho:h.get? d=some o)(hd:o.data=.dict es ep){h':Heap}(hs:Heap.SameBut d h h'):dz h' k v:=by
 have gen:∀(n:Nat) (k:IK),k.dep<=n->∀v,dz h k v->dz h' k v:=by
  intro n
  induction n with
  |zero=>
   intro k hk v x
   cases k with
   |i m=>unfold dz at x ⊢;exact x
   |t ks=>unfold IK.dep at hk;omega
  |succ n ih=>
   intro k hk v x
   cases k with
   |i m=>unfold dz at x ⊢;exact x
   |t ks=>
    unfold dz at x ⊢
    obtain⟨a,o',au,m,e,qX,hc,iC,r⟩:=x
    have gL:a≠d:=λ z=>by
     subst z
     rw[ho]at qX
     cases qX
     rw[hd]at iC
     cases iC
    refine⟨a,o',au,m,e,(hs.2 a gL).trans qX,hc,iC,?_⟩
    have jC:IK.jH ks<=n:=by unfold IK.dep at hk;omega
    have all:∀(ls:List IK) (vs:List Value),(∀l∈ls,l.dep<=n)->cB h ls vs->cB h' ls vs:=by
     intro ls
     induction ls with
     |nil=>intro vs _ y;unfold cB at y ⊢;exact y
     |cons l ls WV=>
      intro vs hl y
      unfold cB at y ⊢
      obtain⟨v,r,e,h1,h2⟩:=y
      exact⟨v,r,e,ih l (hl l (o9 ..)) v h1,WV r (λ z hz=>hl z (m5 _ hz)) h2⟩
    exact all ks au (λ l hl=>E8 (jG hl) jC) r
 exact gen k.dep k (E9 _) v x
section
variable {prog:Program}{w:World}
theorem Dp:∀(n:Nat) (k:IK),k.dep<=n->∀{A:Around} {E:Value->Shared->Prop} {s:Shared} {v:Value} {Q:Bool->Shared->Prop},dz s.heap k v->Q true s->wpAny (model prog w) A (eqIsQuiet n v) Q E s:=by
 intro n
 induction n with
 |zero=>
  intro k hk A E s v Q hi h
  cases k with
  |i m=>
   unfold dz at hi
   obtain⟨t,rfl⟩:=hi
   rw[eqIsQuiet_byValue _ rfl]
   exact G9 h
  |t ks=>unfold IK.dep at hk;omega
 |succ n ih=>
  intro k hk A E s v Q hi h
  cases k with
  |i m=>
   unfold dz at hi
   obtain⟨t,rfl⟩:=hi
   rw[eqIsQuiet_byValue _ rfl]
   exact G9 h
  |t ks=>
   unfold dz at hi
   obtain⟨a,o,au,m,rfl,ho,hc,hd,hits⟩:=hi
   have jC:IK.jH ks<=n:=by unfold IK.dep at hk;omega
   have hT:s.TypeIs (.ref a) "tuple":=⟨o,ho,hc⟩
   unfold eqIsQuiet;refine G8 (wpAny_specialOf hT F.slot_tuple_eq.lookup ?_);show wpAny _ _ (isInstance (.ref a) (.type "tuple") >>= _) _ _ s
   refine G8 (wpAny_isInstance hT isSubtype_tuple_tuple ?_);simp only[Bool.not_true,p7,J5]
   refine G8 (C2 ho hd (G8 ?_));show wpAny _ _ (forIn au.toArray _ _) _ _ s;rw[<- Array.forIn_toList]
   refine wpAny_forIn_list _ (λ rest r s'=>r.1=none/\s'=s/\∃left,(∀l∈left,l∈ks)/\cB s.heap left rest) _ ?_ ?_ _ _ ⟨rfl,rfl,ks,λ l hl=>hl,hits⟩
   ·rintro x rest r s' ⟨hr,rfl,left,P',hl⟩
    cases left with
    |nil=>unfold cB at hl;cases hl
    |cons k1 left=>
     unfold cB at hl
     obtain⟨v,r',e,h1,h2⟩:=hl
     cases e
     refine G8 (ih k1 (E8 (jG (P' k1 (o9 ..))) jC) h1 ?_);simp only[Bool.not_true,p7,J5]
     exact G9 ⟨rfl,rfl,left,λ l hl=>P' l (m5 _ hl),h2⟩
   ·rintro⟨r1,r2⟩ s' ⟨hr,rfl,_⟩
    simp only at hr
    subst hr
    exact G9 h
def jd(prog:Program)(w:World):HeapKind prog w IK where
 is:=λ h k a=>k.dep<=5/\dz h k (.ref a)
 hash:=Dw
 draws:=Ay
 room:=λ A=>A.units+8 < cLine
 inj:=λ hx hy=>Dq _ _ hx.2 hy.2
 keeps:=λ x ho hd hs=>⟨x.1,MC x.2 ho hd hs⟩
 pyHash:=λ hu hk h=>Ht 5 _ hk.1 (by have:=hk.1;omega) hk.2 h
 eqBool:=λ{A E s x y a b Q} hu hx hy h=>by
  obtain⟨as,ra⟩:=nJ x hx.2
  obtain⟨bs,rb⟩:=nJ y hy.2
  refine x6 (pJ x) (pJ y) A s _ _ _ _ ra rb (qR x) (qR y) ?_ prog w E Q ?_
  ·rw[qS,qS]
   have:=hx.1
   have:=Nat.min_le_left x.dep y.dep
   omega
  ·have e:PyData.eqv (pJ x) (pJ y)=decide (x=y):=by
    rw[A5,u4]
    exact Dt x y
   rw[e]
   exact h
 quiet:=λ hk h=>Dp 8 _ (E8 hk.1 (by decide)) hk.2 h
end
end L2
namespace L2
open PySem PySem.Spec PyProof.Rows
section
variable {κ:Type}[DecidableEq κ]
def iM(kvs:List (κ×V))(k:κ):Option V:=(kvs.find? λ kv=>decide (kv.1=k)).map (·.2)
def putK(kvs:List (κ×V))(k:κ)(v:V):List (κ×V):=
 if(kvs.any λ kv=>decide (kv.1=k))=true then kvs.map (λ kv=>if kv.1=k then(kv.1,v)else kv)else kvs++[(k,v)]
theorem mM{p:κ×V}{r:List (κ×V)}{k:κ}(e:p.1=k):iM (p::r) k=some p.2:=by simp[iM,A8,e]
theorem mN{p:κ×V}{r:List (κ×V)}{k:κ}(e:¬p.1=k):iM (p::r) k=iM r k:=by simp[iM,A8,e]
theorem mO(k:κ):∀kvs:List (κ×V),(kvs.any λ kv=>decide (kv.1=k))=(iM kvs k).isSome
 |[]=>rfl
 |p::r=>by
  rw[any_cons]
  by_cases e:p.1=k
  ·simp only[mM e,C1 e,Bool.true_or,Option.isSome_some]
  ·rw[mN e,A9 e,Bool.false_or];exact mO k r
theorem kX(kvs:List (κ×V))(k:κ)(v:V):(putK kvs k v).length<=kvs.length+1:=by
 unfold putK
 split
 ·rw[B7];omega
 ·rw[p6,y6,length_nil];omega
theorem jN.eM {o:Option V}{u:Option Value}(r:jN o u):o.isSome=u.isSome:=by
 cases o with
 |none=>cases u with
  |none=>rfl
  |some _=>exact(show False from r).elim
 |some _=>cases u with
  |none=>exact(show False from r).elim
  |some _=>rfl
theorem KV.val {kvs:List (κ×V)}{vs:List (κ×Value)}(r:KV kvs vs)(k:κ):jN (iM kvs k) (valueAt vs k):=by
 unfold KV at r
 induction r with
 |nil=>exact True.intro
 |@cons p q ps qs h t ih=>
  obtain⟨h1,h2⟩:=h
  by_cases e:p.1=k
  ·have e':q.1=k:=h1.symm.trans e
   have b:valueAt (q::qs) k=some q.2:=by simp[valueAt,A8,e']
   rw[mM e,b];exact h2
  ·have e':¬q.1=k:=λ z=>e (h1.trans z)
   have b:valueAt (q::qs) k=valueAt qs k:=by simp[valueAt,A8,e']
   rw[mN e,b];exact ih
theorem KV.any {kvs:List (κ×V)}{vs:List (κ×Value)}(r:KV kvs vs)(k:κ):(kvs.any λ kv=>decide (kv.1=k))=vs.any λ kv=>decide (kv.1=k):=by
 unfold KV at r
 induction r with
 |nil=>rfl
 |cons h t ih=>rw[any_cons,any_cons,ih,h.1]
theorem KV.Bp {kvs:List (κ×V)}{vs:List (κ×Value)}(r:KV kvs vs)(k:κ){y:V}{u:Value}(ry:RelV y u):
  KV (kvs.map λ kv=>if kv.1=k then(kv.1,y)else kv) (vs.map λ kv=>if kv.1=k then(kv.1,u)else kv):=by
 unfold KV at r ⊢
 induction r with
 |nil=>exact .nil
 |@cons p q ps qs h t ih=>
  rw[D1,D1]
  refine .cons ?_ ih
  obtain⟨h1,h2⟩:=h
  by_cases e:p.1=k
  ·rw[J9 e,J9 (h1.symm.trans e)];exact⟨h1,ry⟩
  ·rw[K0 e,K0 (λ z=>e (h1.trans z))];exact⟨h1,h2⟩
theorem KV.put {kvs:List (κ×V)}{vs:List (κ×Value)}(r:KV kvs vs)(k:κ){y:V}{u:Value}(ry:RelV y u):KV (putK kvs k y) (stored vs k u):=by
 unfold putK stored
 rw[r.any k]
 by_cases e:(vs.any λ kv=>decide (kv.1=k))=true
 ·rw[J9 e,J9 e];exact r.Bp k ry
 ·rw[K0 e,K0 e];exact Paired.snoc r ⟨rfl,ry⟩
theorem KV.length {kvs:List (κ×V)}{vs:List (κ×Value)}(r:KV kvs vs):kvs.length=vs.length:=C7 r
end
theorem tY{P:Program}{w:World}{k:Key}{u:Value}(r:RelV (kV k) u):(cx P w).is k u=true:=by
 cases k with
 |inl i=>obtain⟨t,e⟩:=(show ∃t,u=Value.int i t from r);subst e;exact kW P w i t
 |inr x=>obtain⟨t,e⟩:=(show ∃t,u=Value.str x t from r);subst e;exact tG P w x t
theorem pH{P:Program}{w:World}:∀{ks:List Key} {us:List Value},Vals (ks.map kV) us->ItemsAre (cx P w) ks us
 |[],_,r=>by rw[map_nil]at r;cases r;exact .nil
 |k::ks,_,r=>by
  rw[D1]at r
  cases r with
  |cons h t=>exact .cons (tY h) (pH t)
abbrev KT(H:Hp):List (List Key×V)->List (List Key×Addr×Value)->Prop:=Paired λ p q=>p.1=q.1/\H q.2.1=some (.tup (p.1.map kV))/\RelV p.2 q.2.2
theorem KT.val {H:Hp}{kvs:List (List Key×V)}{xs:List (List Key×Addr×Value)}(r:KT H kvs xs)(k:List Key):jN (iM kvs k) ((atKey xs k).map (·.2)):=by
 induction r with
 |nil=>exact True.intro
 |@cons p q ps qs h t ih=>
  obtain⟨h1,_,h2⟩:=h
  by_cases e:p.1=k
  ·have e':q.1=k:=h1.symm.trans e
   have b:atKey (q::qs) k=some q.2:=by simp[atKey,A8,e']
   rw[mM e,b];exact h2
  ·have e':¬q.1=k:=λ z=>e (h1.trans z)
   have b:atKey (q::qs) k=atKey qs k:=by simp[atKey,A8,e']
   rw[mN e,b];exact ih
theorem KT.Bp {H:Hp}{kvs:List (List Key×V)}{xs:List (List Key×Addr×Value)}(r:KT H kvs xs)(k:List Key){y:V}{u:Value}(ry:RelV y u):
  KT H (kvs.map λ kv=>if kv.1=k then(kv.1,y)else kv) (xs.map (putAt k u)):=by
 induction r with
 |nil=>exact .nil
 |@cons p q ps qs h t ih=>
  rw[D1,D1]
  refine .cons ?_ ih
  obtain⟨h1,h2,h3⟩:=h
  unfold putAt
  by_cases e:p.1=k
  ·rw[J9 e,J9 (h1.symm.trans e)];exact⟨h1,h2,ry⟩
  ·rw[K0 e,K0 (λ z=>e (h1.trans z))];exact⟨h1,h2,h3⟩
theorem KT.put {H:Hp}{kvs:List (List Key×V)}{xs:List (List Key×Addr×Value)}(r:KT H kvs xs)(k:List Key){b:Addr}{y:V}{u:Value}(hb:H b=some (.tup (k.map kV)))(ry:RelV y u):
  KT H (putK kvs k y) (storedH xs k b u):=by
 have e:(kvs.any λ kv=>decide (kv.1=k))=(atKey xs k).isSome:=by
  rw[mO,(r.val k).eM,x4]
 unfold putK storedH
 rw[e]
 by_cases q:(atKey xs k).isSome=true
 ·rw[J9 q,J9 q];exact r.Bp k ry
 ·rw[K0 q,K0 q];exact Paired.snoc r ⟨rfl,hb,ry⟩
theorem KT.keeps {H H':Hp}{kvs:List (List Key×V)}{xs:List (List Key×Addr×Value)}(r:KT H kvs xs)(ht:∀b ys,H b=some (.tup ys)->H' b=some (.tup ys)):KT H' kvs xs:=
 Paired.CI r λ _ _ z=>⟨z.1,ht _ _ z.2.1,z.2.2⟩
section
variable {P:Program}{w:World}{H:Hp}{h:Heap}{a:Addr}
theorem IE{u:HO}(ok:i' P w H h)(e:Rd H a u):bK P w H h a u:=e.ok ok
theorem pP{kvs:List (Key×V)}(ok:i' P w H h)(e:Rd H a (.dK kvs)):kvs.length<=sizeLine/\(a==sysModules)=false/\∃vs,KV kvs vs/\h.DictOf (cx P w) a vs:=
 show bK P w H h a (.dK kvs)from IE ok e
theorem QQ{kvs:List (Key×V)}(ok:i' P w H h)(e:H a=some (.dK kvs)):kvs.length<=sizeLine/\(a==sysModules)=false/\∃vs,KV kvs vs/\h.DictOf (cx P w) a vs:=pP ok (.inl e)
theorem nF{ks:List Key}(ok:i' P w H h)(e:H a=some (.tup (ks.map kV))):(tupleKind (cx P w)).is h ks a:=by
 obtain⟨_,au,r,o,h1,h2,n,h3⟩:=(show bK P w H h a (.tup (ks.map kV))from ok a _ e)
 exact⟨o,au.toArray,n,h1,h2,h3,by simpa using pH r⟩
theorem uB{kvs:List (List Key×V)}(ok:i' P w H h)(e:Rd H a (.dT kvs)):kvs.length<=sizeLine/\(a==sysModules)=false/\
  ∃xs,KT H kvs xs/\h.DictOfH (tupleKind (cx P w)) a xs:=by
 obtain⟨z,y,xs,r,o,es,ep,h1,h2,h3,h4,h5⟩:=(show bK P w H h a (.dT kvs)from IE ok e)
 refine⟨z,y,xs,r,o,es,ep,h1,h2,h3,h4,λ x hx=>?_,h5⟩
 have all:∀{l:List (List Key×V)} {m:List (List Key×Addr×Value)},KT H l m->∀x∈m,(tupleKind (cx P w)).is h x.1 x.2.1:=by
  intro l m q
  induction q with
  |nil=>intro x hx;exact nomatch hx
  |@cons p q ps qs hq t ih=>
   intro x hx
   rcases D3.mp hx with e|hx
   ·subst e
    exact nF ok (by rw[<- hq.1];exact hq.2.1)
   ·exact ih x hx
 exact all r x hx
theorem QP{kvs:List (List Key×V)}(ok:i' P w H h)(e:H a=some (.dT kvs)):kvs.length<=sizeLine/\(a==sysModules)=false/\
  ∃xs,KT H kvs xs/\h.DictOfH (tupleKind (cx P w)) a xs:=uB ok (.inl e)
end
def oR(H:Hp)(a:Addr)(y:V)(r:Option V):Prop:=
 (∃kvs k,Rd H a (.dK kvs)/\y=kV k/\r=iM kvs k)\/∃kvs k b,Rd H a (.dT kvs)/\y=.ref b/\H b=some (.tup (k.map kV))/\r=iM kvs k
def Eu(H:Hp)(a:Addr)(y v:V)(H':Hp):Prop:=
 (∃kvs k,H a=some (.dK kvs)/\y=kV k/\kvs.length < sizeLine/\H'=upd H a (.dK (putK kvs k v)))\/
 ∃kvs k b,H a=some (.dT kvs)/\y=.ref b/\H b=some (.tup (k.map kV))/\kvs.length < sizeLine/\H'=upd H a (.dT (putK kvs k v))
theorem oR.k {H:Hp}{a:Addr}{kvs:List (Key×V)}{k:Key}(e:H a=some (.dK kvs)):oR H a (kV k) (iM kvs k):=.inl ⟨kvs,k,.inl e,rfl,rfl⟩
theorem Eu.k {H:Hp}{a:Addr}{kvs:List (Key×V)}{k:Key}{v:V}(e:H a=some (.dK kvs))(hl:kvs.length < sizeLine):Eu H a (kV k) v (upd H a (.dK (putK kvs k v))):=.inl ⟨kvs,k,e,rfl,hl,rfl⟩
section
variable {X:Cx}{pins:List (Addr×Obj)}{σ:St}{H:Hp}{s:Shared}{a:Addr}{y v:V}{u r:Value}{o:Option V}{A:Around}{E:Value->Shared->Prop}
theorem Inv.big (I:Inv X pins σ H s):sysModules < s.heap.objs.size:=by
 have h:mainGlobals < s.heap.objs.size:=(I.mod.glob.keeps I.bk).lt
 exact Nat.lt_trans (by decide) h
theorem Ae{Q:Value->Shared->Prop}(hu:A.units+1 < cLine)(I:Inv X pins σ H s)(g:oR H a y (some v))(ry:RelV y u)(h:∀w' s',Inv X pins σ H s'->RelV v w'->Q w' s'):
  wpAny (model X.prog X.w) A (getItem (.ref a) u) Q E s:=by
 rcases g with⟨kvs,k,e,ey,l⟩|⟨kvs,k,b,e,ey,eb,l⟩
 ·subst ey
  obtain⟨z,hd,vs,rel,dd⟩:=pP I.bO e
  obtain⟨w',hw,vM⟩:=jN.some_of (v:=v) (o:=valueAt vs k) (by rw[l];exact rel.val k)
  exact wpAny_getItem_of (tY ry) dd.mapOf hw (h w' _ (I.tok _) vM)
 ·subst ey
  cases(show u=Value.ref b from ry)
  obtain⟨z,hd,xs,rel,dd⟩:=uB I.bO e
  obtain⟨w',hw,vM⟩:=jN.some_of (v:=v) (o:=(atKey xs k).map (·.2)) (by rw[l];exact rel.val k)
  obtain⟨p,hp,h_⟩:=Option.map_eq_some_iff.mp hw
  refine wpAny_getItem_heap (tupleKind_room_in1 hu) (nF I.bO eb) dd hp ?_
  rw[h_]
  exact h w' _ (I.tok _) vM
theorem Vc{Q:Value->Shared->Prop}(hu:A.units+1 < cLine)(I:Inv X pins σ H s)(g:oR H a y o)(ry:RelV y u)(h:∀s',Inv X pins σ H s'->Q (.bool o.isSome) s'):
  wpAny (model X.prog X.w) A (compareOp .In u (.ref a)) Q E s:=by
 rcases g with⟨kvs,k,e,ey,l⟩|⟨kvs,k,b,e,ey,eb,l⟩
 ·subst ey
  obtain⟨z,hd,vs,rel,dd⟩:=pP I.bO e
  refine wpAny_in_of (tY ry) hd dd.mapOf ?_
  rw[<- (rel.val k).eM,<- l]
  exact h _ (I.tok _)
 ·subst ey
  cases(show u=Value.ref b from ry)
  obtain⟨z,hd,xs,rel,dd⟩:=uB I.bO e
  refine wpAny_in_heap (tupleKind_room_in1 hu) (nF I.bO eb) hd dd ?_
  have q:=(rel.val k).eM
  rw[x4]at q
  rw[<- q,<- l]
  exact h _ (I.tok _)
theorem HR{Q:Value->Shared->Prop}(hu:A.units+1 < cLine)(I:Inv X pins σ H s)(g:oR H a y o)(ry:RelV y u)(h:∀s',Inv X pins σ H s'->Q (.bool (!o.isSome)) s'):
  wpAny (model X.prog X.w) A (compareOp .NotIn u (.ref a)) Q E s:=by
 rcases g with⟨kvs,k,e,ey,l⟩|⟨kvs,k,b,e,ey,eb,l⟩
 ·subst ey
  obtain⟨z,hd,vs,rel,dd⟩:=pP I.bO e
  refine wpAny_notIn_of (tY ry) hd dd.mapOf ?_
  rw[<- (rel.val k).eM,<- l]
  exact h _ (I.tok _)
 ·subst ey
  cases(show u=Value.ref b from ry)
  obtain⟨z,hd,xs,rel,dd⟩:=uB I.bO e
  refine wpAny_notIn_heap (tupleKind_room_in1 hu) (nF I.bO eb) hd dd ?_
  have q:=(rel.val k).eM
  rw[x4]at q
  rw[<- q,<- l]
  exact h _ (I.tok _)
theorem mD{h':Heap}{t':Nat}{ob:HO}(I:Inv X pins σ H s)(mu:Rj (H a))(hs:Heap.SameBut a s.heap h')(he:∃q,h'.get? a=some q)(new:bK X.prog X.w (upd H a ob) h' a ob):
  Inv X pins σ (upd H a ob) {s with heap:=h',toks:=t'}:=
 I.write (x:=a) (e:=a) mu (.inl rfl) (λ b q hb z=>(hs.2 b hb).trans z) he new
theorem Nj{P:Program}{w:World}{H':Hp}{h':Heap}{kvs:List (Key×V)}{vs:List (Key×Value)}(z:kvs.length<=sizeLine)(hd:(a==sysModules)=false)(rel:KV kvs vs)(dd:h'.DictOf (cx P w) a vs):
  bK P w H' h' a (.dK kvs):=⟨z,hd,vs,rel,dd⟩
theorem Ac{H':Hp}{Q:Unit->Shared->Prop}(hu:A.units+1 < cLine)(I:Inv X pins σ H s)(g:Eu H a y v H')(ry:RelV y u)(rv:RelV v r)(h:∀s',Inv X pins σ H' s'->Q () s'):
  wpAny (model X.prog X.w) A (setItem (.ref a) u r) Q E s:=by
 rcases g with⟨kvs,k,e,ey,l,eH⟩|⟨kvs,k,b,e,ey,eb,l,eH⟩
 ·subst ey eH
  obtain⟨z,hd,vs,rel,dd⟩:=QQ I.bO e
  have hz:vs.length<=sizeLine:=by rw[<- rel.length];exact z
  have hl:(putK kvs k v).length<=sizeLine:=by have:=kX kvs k v;omega
  refine wpAny_setItem_pairs (hsz:=hz) (tY ry) dd λ h' Jl hs=>h _ ?_
  have he:∃q,h'.get? a=some q:=let⟨q,_,_,hq,_⟩:=Jl;⟨q,hq⟩
  exact mD I (by rw[e];exact True.intro) hs he (Nj hl hd (rel.put k rv) Jl)
 ·subst ey eH
  cases(show u=Value.ref b from ry)
  obtain⟨z,hd,xs,rel,dd⟩:=QP I.bO e
  have hz:xs.length<=sizeLine:=by rw[<- C7 rel];exact z
  have hl:(putK kvs k v).length<=sizeLine:=by have:=kX kvs k v;omega
  refine wpAny_setItem_heap (hsz:=hz) (tupleKind_room_in1 hu) (nF I.bO eb) dd λ h' Jl hs=>h _ ?_
  obtain⟨q,es,ep,hq,h2,h3,h4,_,h5⟩:=Jl
  refine mD I (by rw[e];exact True.intro) hs ⟨q,hq⟩ ⟨hl,hd,_,(rel.put k eb rv).keeps λ c ys ec=>?_,q,es,ep,hq,h2,h3,h4,h5⟩
  rw[aX (aI ec e (λ z=>nomatch z))]
  exact ec
end
section
variable {X:Cx}{pins:List (Addr×Obj)}{σ:St}{H:Hp}{s:Shared}{a:Addr}{kvs:List (Key×V)}{k:Key}{u:Value}{A:Around}{E:Value->Shared->Prop}
theorem QV{Q:Value->Shared->Prop}(I:Inv X pins σ H s)(e:Rd H a (.dK kvs))(h:∀t s',Inv X pins σ H s'->Q (.int kvs.length t) s'):wpAny (model X.prog X.w) A (call (.builtin "len") [.ref a]) Q E s:=by
 obtain⟨z,hd,vs,rel,dd⟩:=pP I.bO e
 refine call_len_dict hd dd (by rw[<- rel.length];rw[G0]at z;omega) ?_
 rw[<- rel.length]
 exact h _ _ (I.tok _)
end
theorem uD{X:Cx}{pins:List (Addr×Obj)}{σ:St}{H:Hp}{s:Shared}{a:Addr}{y:V}{o:Option V}(I:Inv X pins σ H s)(g:oR H a y o):s.TypeIs (.ref a) "dict":=by
 rcases g with⟨kvs,k,e,_,_⟩|⟨kvs,k,b,e,_,_,_⟩
 ·obtain⟨_,_,vs,_,dd⟩:=pP I.bO e
  exact dd.typeIs
 ·obtain⟨_,_,xs,_,dd⟩:=uB I.bO e
  exact dd.typeIs
theorem DS{P:Program}{w:World}{H:Hp}(h:Heap)(hb:sysModules < h.objs.size):bK P w H (h.push {cls:=.type "dict",data:=.dict #[]}) h.objs.size (.dK []):=
 ⟨G5 _,beq_eq_false_iff_ne.mpr (J8 (E1 hb)),[],.nil,Heap.DictOf.new h⟩
def JJ:TE:=λ _ H Q=>∀p,H p=none->Q (.ref p) (upd H p (.dK []))
section
variable {X:Cx}{pos:Pos}
theorem Cf:PE X (.Dict [] [] pos) JJ:=λ pins s σ H Q I h=>
 wpAny_Dict_empty ⟨.ref s.heap.objs.size,_,I.laid (a:=s.heap.objs.size) (o:=.dK []) (t':=s.toks) (λ _ _ q=>k5 _ q) (E9 _) (DS s.heap I.big),rfl,h _ (I.bO.fresh (E9 _))⟩
end
end L2
namespace L2
open PySem PySem.Spec PyProof.Rows
mutual
def hV(K:PySem.W.Frag)(H:Hp):IK->V->Prop
 | .i n,v=>v=.int n
 | .t ks,v=>∃p xs,v=.ref p/\f_ K H p xs/\kZ K H ks xs
def kZ(K:PySem.W.Frag)(H:Hp):List IK->List V->Prop
 |[],xs=>xs=[]
 |k::ks,xs=>∃x r,xs=x::r/\hV K H k x/\kZ K H ks r
end
section
variable {X:Cx}{pins:List (Addr×Obj)}{σ:St}{H:Hp}{s:Shared}
mutual
theorem nB(I:Inv X pins σ H s):∀(k:IK) {v:V} {u:Value},hV X.K H k v->RelV v u->dz s.heap k u
 | .i n,v,u,h,r=>by
  unfold hV at h
  subst h
  unfold dz
  exact r
 | .t ks,v,u,h,r=>by
  unfold hV at h
  obtain⟨p,xs,rfl,hq,hk⟩:=h
  cases(show u=Value.ref p from r)
  obtain⟨au,rv,⟨o,ho,hc,n,hd⟩,_⟩:=I.tuple hq
  unfold dz
  exact⟨p,o,au,n,rfl,ho,hc,hd,yf I ks hk rv⟩
theorem yf(I:Inv X pins σ H s):∀(ks:List IK) {xs:List V} {us:List Value},kZ X.K H ks xs->Vals xs us->cB s.heap ks us
 |[],xs,us,h,r=>by
  unfold kZ at h
  subst h
  cases r
  unfold cB
  rfl
 |k::ks,xs,us,h,r=>by
  unfold kZ at h
  obtain⟨x,SJ,rfl,h1,h2⟩:=h
  cases r with
  |cons r1 r2=>
   unfold cB
   exact⟨_,_,rfl,nB I k h1 r1,yf I ks h2 r2⟩
end
end
abbrev fc:=IK×Addr×V
def QM(x:IK×Addr×Value):DictEntry:=⟨Dw x.1,.ref x.2.1,x.2.2⟩
abbrev yV:List fc->List (IK×Addr×Value)->Prop:=Paired λ p q=>p.1=q.1/\p.2.1=q.2.1/\RelV p.2.2 q.2.2
def Va(a:Addr)(kvs:List fc)(h:Heap):Prop:=kvs.length<=sizeLine/\(a==sysModules)=false/\∃xs,yV kvs xs/\∃o es ep,h.get? a=some o/\o.ExactDict/\o.data=.dict es ep/\es.toList=xs.map QM/\(xs.map (·.1)).Nodup
def oG(a:Addr)(kvs:List fc):HO:=.ext (Va a kvs)
theorem rm{P:Program}{w:World}{H:Hp}{h:Heap}{a:Addr}{kvs:List fc}(x:Va a kvs h):bK P w H h a (oG a kvs):=by
 obtain⟨z,y,xs,r,o,es,ep,e,c⟩:=id x
 exact⟨x,⟨o,e⟩,λ h1 h2 ⟨z,y,xs,r,o,es,ep,e,c⟩ q=>⟨z,y,xs,r,o,es,ep,q o e,c⟩⟩
noncomputable def jc (kvs:List fc)(k:IK):Option V:=(kvs.find? λ p=>decide (p.1=k)).map (·.2.2)
noncomputable def jl (kvs:List fc)(k:IK)(p:Addr)(v:V):List fc:=if(jc kvs k).isSome=true then kvs.map (λ x=>if x.1=k then(x.1,x.2.1,v)else x)else kvs++[(k,p,v)]
theorem sT(kvs:List fc)(k:IK)(p:Addr)(v:V):(jl kvs k p v).length<=kvs.length+1:=by
 unfold jl
 split
 ·simp
 ·simp
theorem yV.val {kvs:List fc}{xs:List (IK×Addr×Value)}(r:yV kvs xs)(k:IK):jN (jc kvs k) ((atKey xs k).map (·.2)):=by
 induction r with
 |nil=>exact True.intro
 |@cons p q ps qs h t ih=>
  obtain⟨h1,_,h2⟩:=h
  unfold jc atKey at ih ⊢
  by_cases e:p.1=k
  ·have e':q.1=k:=h1.symm.trans e
   simp only[A8,C1 e,C1 e',Option.map_some]
   exact h2
  ·have e':¬q.1=k:=λ z=>e (h1.trans z)
   simp only[A8,A9 e,A9 e']
   exact ih
theorem yV.Bp {kvs:List fc}{xs:List (IK×Addr×Value)}(r:yV kvs xs)(k:IK){y:V}{u:Value}(ry:RelV y u):yV (kvs.map λ x=>if x.1=k then(x.1,x.2.1,y)else x) (xs.map (putAt k u)):=by
 induction r with
 |nil=>exact .nil
 |@cons p q ps qs h t ih=>
  rw[D1,D1]
  refine .cons ?_ ih
  obtain⟨h1,h2,h3⟩:=h
  unfold putAt
  by_cases e:p.1=k
  ·rw[J9 e,J9 (h1.symm.trans e)];exact⟨h1,h2,ry⟩
  ·rw[K0 e,K0 (λ z=>e (h1.trans z))];exact⟨h1,h2,h3⟩
theorem qO{o:Option V}{u:Option Value}(r:jN o u):o.isSome=u.isSome:=r.eM
theorem yV.put {kvs:List fc}{xs:List (IK×Addr×Value)}(r:yV kvs xs)(k:IK){b:Addr}{y:V}{u:Value}(ry:RelV y u):yV (jl kvs k b y) (storedH xs k b u):=by
 have e:(jc kvs k).isSome=(atKey xs k).isSome:=by
  rw[qO (r.val k),x4]
 unfold jl storedH
 rw[e]
 by_cases q:(atKey xs k).isSome=true
 ·rw[J9 q,J9 q];exact r.Bp k ry
 ·rw[K0 q,K0 q];exact Paired.snoc r ⟨rfl,rfl,ry⟩
structure om(K:PySem.W.Frag)(H:Hp)(a:Addr)(kvs:List fc):Prop where
 at_:H a=some (oG a kvs)
 key:∀p∈kvs,p.1.dep<=5/\hV K H p.1 (.ref p.2.1)
section
variable {X:Cx}{pins:List (Addr×Obj)}{σ:St}{H:Hp}{s:Shared}{a b:Addr}{kvs:List fc}{k:IK}{A:Around}{E:Value->Shared->Prop}{v:V}{u r:Value}
theorem om.of (I:Inv X pins σ H s)(d:om X.K H a kvs):kvs.length<=sizeLine/\(a==sysModules)=false/\∃xs,yV kvs xs/\s.heap.DictOfH (jd X.prog X.w) a xs:=by
 obtain⟨⟨z,y,xs,rel,o,es,ep,h1,h2,h3,h4,h5⟩,_,_⟩:=(show bK X.prog X.w H s.heap a (oG a kvs)from I.bO a _ d.at_)
 refine⟨z,y,xs,rel,o,es,ep,h1,h2,h3,h4,?_,h5⟩
 have all:∀{l:List fc} {m:List (IK×Addr×Value)},yV l m->(∀p∈l,p.1.dep<=5/\hV X.K H p.1 (.ref p.2.1))->∀x∈m,(jd X.prog X.w).is s.heap x.1 x.2.1:=by
  intro l m q
  induction q with
  |nil=>intro _ x hx;cases hx
  |@cons p q ps qs hq t ih=>
   intro hl x hx
   rcases D3.mp hx with rfl|hx
   ·obtain⟨c1,c2⟩:=hl p (o9 ..)
    rw[hq.1,hq.2.1]at c2
    rw[hq.1]at c1
    exact⟨c1,nB I _ c2 rfl⟩
   ·exact ih (λ p hp=>hl p (m5 _ hp)) x hx
 exact all rel d.key
theorem jh(hu:A.units+64 < cLine):(jd X.prog X.w).room A.in1:=(show A.units+1+8 < cLine by omega)
theorem zk{Q:Value->Shared->Prop}(hu:A.units+64 < cLine)(I:Inv X pins σ H s)(d:om X.K H a kvs)(hk:k.dep<=5)(vk:hV X.K H k (.ref b))(g:jc kvs k=some v)(h:∀w' s',Inv X pins σ H s'->RelV v w'->Q w' s'):
  wpAny (model X.prog X.w) A (getItem (.ref a) (.ref b)) Q E s:=by
 obtain⟨z,hd,xs,rel,dd⟩:=d.of I
 obtain⟨w',hw,vM⟩:=jN.some_of (v:=v) (o:=(atKey xs k).map (·.2)) (by rw[<- g];exact rel.val k)
 obtain⟨p,hp,h_⟩:=Option.map_eq_some_iff.mp hw
 refine wpAny_getItem_heap (jh hu) ⟨hk,nB I k vk rfl⟩ dd hp ?_
 rw[h_]
 exact h w' _ (I.tok _) vM
theorem SQ{Q:Value->Shared->Prop}(hu:A.units+64 < cLine)(I:Inv X pins σ H s)(d:om X.K H a kvs)(hk:k.dep<=5)(vk:hV X.K H k (.ref b))(h:∀s',Inv X pins σ H s'->Q (.bool (jc kvs k).isSome) s'):
  wpAny (model X.prog X.w) A (compareOp .In (.ref b) (.ref a)) Q E s:=by
 obtain⟨z,hd,xs,rel,dd⟩:=d.of I
 refine wpAny_in_heap (jh hu) ⟨hk,nB I k vk rfl⟩ hd dd ?_
 have q:=qO (rel.val k)
 rw[x4]at q
 rw[<- q]
 exact h _ (I.tok _)
theorem ET{Q:Value->Shared->Prop}(hu:A.units+64 < cLine)(I:Inv X pins σ H s)(d:om X.K H a kvs)(hk:k.dep<=5)(vk:hV X.K H k (.ref b))(h:∀s',Inv X pins σ H s'->Q (.bool (!(jc kvs k).isSome)) s'):
  wpAny (model X.prog X.w) A (compareOp .NotIn (.ref b) (.ref a)) Q E s:=by
 obtain⟨z,hd,xs,rel,dd⟩:=d.of I
 refine wpAny_notIn_heap (jh hu) ⟨hk,nB I k vk rfl⟩ hd dd ?_
 have q:=qO (rel.val k)
 rw[x4]at q
 rw[<- q]
 exact h _ (I.tok _)
theorem zj{Q:Unit->Shared->Prop}(hu:A.units+64 < cLine)(I:Inv X pins σ H s)(d:om X.K H a kvs)(hk:k.dep<=5)(vk:hV X.K H k (.ref b))(hl:kvs.length < sizeLine)(rv:RelV v r)(h:∀s',Inv X pins σ (upd H a (oG a (jl kvs k b v))) s'->Q () s'):
  wpAny (model X.prog X.w) A (setItem (.ref a) (.ref b) r) Q E s:=by
 obtain⟨z,hd,xs,rel,dd⟩:=d.of I
 have hz:xs.length<=sizeLine:=by rw[<- C7 rel];exact z
 have uh:(jl kvs k b v).length<=sizeLine:=by have:=sT kvs k b v;omega
 refine wpAny_setItem_heap (hsz:=hz) (jh hu) ⟨hk,nB I k vk rfl⟩ dd λ h' Jl hs=>h _ ?_
 obtain⟨q,es,ep,hq,h2,h3,h4,_,h5⟩:=Jl
 exact mD I (by rw[d.at_];exact True.intro) hs ⟨q,hq⟩ (rm ⟨uh,hd,_,rel.put k rv,q,es,ep,hq,h2,h3,h4,h5⟩)
end
section
variable {X:Cx}{pos:Pos}
theorem yA(h:Heap)(hb:sysModules < h.objs.size):Va h.objs.size [] (h.push {cls:=.type "dict",data:=.dict #[]}):=
 ⟨G5 _,beq_eq_false_iff_ne.mpr (J8 (E1 hb)),[],.nil,_,#[],0,o8 _ rfl,⟨rfl,rfl,rfl⟩,rfl,rfl,nodup_nil⟩
def JK:TE:=λ _ H Q=>∀p,H p=none->Q (.ref p) (upd H p (oG p []))
theorem Cg:PE X (.Dict [] [] pos) JK:=λ pins s σ H Q I h=>
 wpAny_Dict_empty ⟨.ref s.heap.objs.size,_,I.laid (a:=s.heap.objs.size) (o:=oG s.heap.objs.size []) (t':=s.toks) (λ _ _ q=>k5 _ q) (E9 _) (rm (yA s.heap I.big)),rfl,h _ (I.bO.fresh (E9 _))⟩
end
section
variable {prog:Program}{w:World}
theorem KH{d:Addr}(hd:(d==sysModules)=false):MeetsIn prog w (Builtin.«dict.__len__» ⟨[.ref d],[]⟩) (λ _ R s=>∃o es ep,s.heap.get? d=some o/\o.data=.dict es ep/\R (.ok (.ret (.int es.size s.toks))) {s with toks:=s.toks+1}):=
 .of_wp λ A R s ⟨o,es,ep,ho,MT,h⟩=>by
  show wpAny _ _ (dictSize d >>= _) _ _ s;unfold dictSize;refine G8 (G8 (wpAny_dictEntries ho MT (G9 ?_)))
  show wpAny _ _ (Builtin.Dict.pendingCount d >>= _) _ _ s;refine G8 (wpAny_pendingCount_other hd (wpAny_ret_mkInt ?_));rw[Nat.add_zero];exact h
theorem uW{A:Around}{E:Value->Shared->Prop}{s:Shared}{d:Addr}{o:Obj}{es:Array DictEntry}{ep:Nat}{Q:Value->Shared->Prop}(hd:(d==sysModules)=false)(ho:s.heap.get? d=some o)(hc:o.cls=.type "dict")(MT:o.data=.dict es ep)(hz:es.size<=sizeLine)
  (h:∀t n,Q (.int es.size t) {s with toks:=n}):wpAny (model prog w) A (call (.builtin "len") [.ref d]) Q E s:=by
 have hT:s.TypeIs (.ref d) "dict":=⟨o,ho,hc⟩
 have N7:sizeLine=16777216:=by decide
 have Ql:((es.size:Nat):Int) < 2^63:=by omega
 refine Calls.call_function_entry kind_len plain_len entry_len (args_len1 _) ?_
 unfold Builtin.«len»;refine G8 (m:=oneArg "len" _) (G9 ?_)
 refine G8 (m:=callSpecial? (.ref d) (Str.ofString "__len__")) (j6 (name:=Str.ofString "__len__") hT F.slot_dict_len (call_meetsIn F.slot_dict_len hT F.entry_dict_len (F.args_dict_len_1 _) (KH hd) ⟨o,es,ep,ho,MT,?_⟩))
 show wpAny _ _ _ _ _ {s with toks:=s.toks+1};refine G8 (C5 (G9 (G8 (G7 ?_))))
 show wpAny _ _ (if((es.size:Nat):Int) < 0 then _ else _) _ _ _;rw[K0 (by omega)]
 show wpAny _ _ (if((es.size:Nat):Int) ≥ 2^63 then _ else _) _ _ _;rw[K0 (by omega)]
 exact G8 (wpAny_mkInt (G9 ⟨_,rfl,h _ _⟩))
end
section
variable {X:Cx}{pins:List (Addr×Obj)}{σ:St}{H:Hp}{s:Shared}{a:Addr}{kvs:List fc}{A:Around}{E:Value->Shared->Prop}
theorem Ou{Q:Value->Shared->Prop}(I:Inv X pins σ H s)(e:H a=some (oG a kvs))(h:∀t s',Inv X pins σ H s'->Q (.int kvs.length t) s'):wpAny (model X.prog X.w) A (call (.builtin "len") [.ref a]) Q E s:=by
 obtain⟨⟨z,y,xs,rel,o,es,ep,h1,h2,h3,h4,h5⟩,_,_⟩:=(show bK X.prog X.w H s.heap a (oG a kvs)from I.bO a _ e)
 have e1:es.size=kvs.length:=by rw[<- o7,h4,B7];exact(C7 rel).symm
 refine uW y h1 h2.1 h3 (by rw[e1];exact z) λ t n=>?_
 rw[e1]
 exact h t _ (I.tok _)
end
end L2
namespace L3
open PySem PySem.Spec L2
inductive D where
 |bx|bl (b:Bool)|int (i:Int)|str (x:Str)|ty (n:String)|ref (a:Addr)
 |tup (xs:List D)
 |fl (xs:List D)
def Jt(K:PySem.W.Frag)(H:Hp)(p:Addr)(xs:List V):Prop:=
 (∃o,H p=some (.nN o (.lst xs)))\/∃(o:Obj) (au:Array Value) (n:Nat),K.lookup p=some o/\o.cls=.type "list"/\o.dict=none/\o.data=.seq au n/\au.size<=sizeLine/\Vals xs au.toList
theorem Jt.sq {K:PySem.W.Frag}{H:Hp}{p:Addr}{xs:List V}(h:Jt K H p xs):dD K H p xs:=by
 rcases h with h|h
 ·exact .inl (.inr h)
 ·exact .inr h
mutual
def Dat(K:PySem.W.Frag)(H:Hp):D->V->Prop
 | .bx,v=>v=.bx
 | .bl b,v=>v=.bl b
 | .int i,v=>v=.int i
 | .str x,v=>v=.str x
 | .ty n,v=>v=.ty n
 | .ref a,v=>v=.ref a
 | .tup ds,v=>∃p xs,v=.ref p/\f_ K H p xs/\aE K H ds xs
 | .fl ds,v=>∃p xs,v=.ref p/\Jt K H p xs/\aE K H ds xs
def aE(K:PySem.W.Frag)(H:Hp):List D->List V->Prop
 |[],xs=>xs=[]
 |d::ds,xs=>∃x r,xs=x::r/\Dat K H d x/\aE K H ds r
end
structure av(H H':Hp):Prop where
 tup:∀b xs,H b=some (.tup xs)->H' b=some (.tup xs)
 nN:∀b o u,H b=some (.nN o u)->H' b=some (.nN o u)
theorem av.refl (H:Hp):av H H:=⟨λ _ _ h=>h,λ _ _ _ h=>h⟩
theorem av.trans {H H1 H2:Hp}(a:av H H1)(b:av H1 H2):av H H2:=⟨λ c xs h=>b.tup c xs (a.tup c xs h),λ c o u h=>b.nN c o u (a.nN c o u h)⟩
theorem av.laid {H:Hp}{p:Addr}{o:HO}(h:H p=none):av H (upd H p o):=
 ⟨λ b xs e=>by rw[aX (cw e h)];exact e,λ b ob u e=>by rw[aX (cw e h)];exact e⟩
theorem av.lst {H:Hp}{p:Addr}{xs:List V}{o:HO}(h:H p=some (.lst xs)):av H (upd H p o):=
 ⟨λ b ys e=>by rw[aX (aI e h (by intro z;cases z))];exact e,λ b ob u e=>by rw[aX (aI e h (by intro z;cases z))];exact e⟩
theorem av.mut {H:Hp}{p:Addr}{u o:HO}(h:H p=some u)(n1:∀xs,u≠.tup xs)(n2:∀ob w,u≠.nN ob w):av H (upd H p o):=
 ⟨λ b ys e=>by rw[aX (λ z=>by subst z;rw[h]at e;exact n1 ys (B2 e))];exact e,λ b ob w e=>by rw[aX (λ z=>by subst z;rw[h]at e;exact n2 ob w (B2 e))];exact e⟩
theorem sy{K:PySem.W.Frag}{H H':Hp}(t:av H H'){p:Addr}{xs:List V}(h:f_ K H p xs):f_ K H' p xs:=by
 rcases h with(h|⟨o,h⟩)|h
 ·exact .inl (.inl (t.tup _ _ h))
 ·exact .inl (.inr ⟨o,t.nN _ _ _ h⟩)
 ·exact .inr h
theorem uk{K:PySem.W.Frag}{H H':Hp}(t:av H H'){p:Addr}{xs:List V}(h:Jt K H p xs):Jt K H' p xs:=by
 rcases h with⟨o,h⟩|h
 ·exact .inl ⟨o,t.nN _ _ _ h⟩
 ·exact .inr h
mutual
theorem Dat.mono {K:PySem.W.Frag}{H H':Hp}(t:av H H'):∀(d:D) {v:V},Dat K H d v->Dat K H' d v
 | .bx,v,h=>by unfold Dat at h ⊢;exact h
 | .bl b,v,h=>by unfold Dat at h ⊢;exact h
 | .int i,v,h=>by unfold Dat at h ⊢;exact h
 | .str x,v,h=>by unfold Dat at h ⊢;exact h
 | .ty n,v,h=>by unfold Dat at h ⊢;exact h
 | .ref a,v,h=>by unfold Dat at h ⊢;exact h
 | .tup ds,v,h=>by
  unfold Dat at h ⊢
  obtain⟨p,xs,e,q,r⟩:=h
  exact⟨p,xs,e,sy t q,aE.mono t ds r⟩
 | .fl ds,v,h=>by
  unfold Dat at h ⊢
  obtain⟨p,xs,e,q,r⟩:=h
  exact⟨p,xs,e,uk t q,aE.mono t ds r⟩
theorem aE.mono {K:PySem.W.Frag}{H H':Hp}(t:av H H'):∀(ds:List D) {xs:List V},aE K H ds xs->aE K H' ds xs
 |[],xs,h=>by unfold aE at h ⊢;exact h
 |d::ds,xs,h=>by
  unfold aE at h ⊢
  obtain⟨x,r,e,a,b⟩:=h
  exact⟨x,r,e,Dat.mono t d a,aE.mono t ds b⟩
end
section
variable {K:PySem.W.Frag}{H:Hp}
theorem dW{v:V}:Dat K H .bx v↔v=.bx:=by unfold Dat;exact Iff.rfl
theorem aW{b:Bool}{v:V}:Dat K H (.bl b) v↔v=.bl b:=by unfold Dat;exact Iff.rfl
theorem ax{i:Int}{v:V}:Dat K H (.int i) v↔v=.int i:=by unfold Dat;exact Iff.rfl
theorem aN{x:Str}{v:V}:Dat K H (.str x) v↔v=.str x:=by unfold Dat;exact Iff.rfl
theorem wM{n:String}{v:V}:Dat K H (.ty n) v↔v=.ty n:=by unfold Dat;exact Iff.rfl
theorem aF{a:Addr}{v:V}:Dat K H (.ref a) v↔v=.ref a:=by unfold Dat;exact Iff.rfl
theorem aS{ds:List D}{v:V}:Dat K H (.tup ds) v↔∃p xs,v=.ref p/\f_ K H p xs/\aE K H ds xs:=by rw[Dat]
theorem iT{ds:List D}{v:V}:Dat K H (.fl ds) v↔∃p xs,v=.ref p/\Jt K H p xs/\aE K H ds xs:=by rw[Dat]
theorem aq{xs:List V}:aE K H [] xs↔xs=[]:=by unfold aE;exact Iff.rfl
theorem aj{d:D}{ds:List D}{xs:List V}:aE K H (d::ds) xs↔∃x r,xs=x::r/\Dat K H d x/\aE K H ds r:=by rw[aE]
theorem aE.length:∀{ds:List D} {xs:List V},aE K H ds xs->xs.length=ds.length
 |[],xs,h=>by rw[aq]at h;subst h;rfl
 |d::ds,xs,h=>by
  rw[aj]at h
  obtain⟨x,r,rfl,_,q⟩:=h
  rw[y6,y6,q.length]
theorem aE.get:∀{ds:List D} {xs:List V} {i:Nat} {d:D},aE K H ds xs->ds[i]?=some d->∃x,xs[i]?=some x/\Dat K H d x
 |[],xs,i,d,h,e=>by simp at e
 |d0::ds,xs,i,d,h,e=>by
  rw[aj]at h
  obtain⟨x,r,rfl,a,q⟩:=h
  cases i with
  |zero=>simp at e;subst e;exact⟨x,rfl,a⟩
  |succ i=>
   obtain⟨y,h1,h2⟩:=aE.get q (by simpa using e)
   exact⟨y,by simpa using h1,h2⟩
theorem aE.nM:∀{ds:List D} {xs:List V} {i:Nat} {x:V},aE K H ds xs->xs[i]?=some x->∃d,ds[i]?=some d/\Dat K H d x
 |[],xs,i,x,h,e=>by rw[aq]at h;subst h;simp at e
 |d0::ds,xs,i,x,h,e=>by
  rw[aj]at h
  obtain⟨y,r,rfl,a,q⟩:=h
  cases i with
  |zero=>simp at e;subst e;exact⟨d0,rfl,a⟩
  |succ i=>
   obtain⟨d,h1,h2⟩:=aE.nM q (by simpa using e)
   exact⟨d,by simpa using h1,h2⟩
theorem aE.append:∀{ds es:List D} {xs ys:List V},aE K H ds xs->aE K H es ys->aE K H (ds++es) (xs++ys)
 |[],es,xs,ys,h,q=>by rw[aq]at h;subst h;exact q
 |d::ds,es,xs,ys,h,q=>by
  rw[aj]at h
  obtain⟨x,r,rfl,a,b⟩:=h
  rw[cons_append,cons_append,aj]
  exact⟨x,_,rfl,a,b.append q⟩
theorem aE.one {d:D}{v:V}(h:Dat K H d v):aE K H [d] [v]:=by
 rw[aj]
 exact⟨v,[],rfl,h,by rw[aq]⟩
theorem aE.take:∀{ds:List D} {xs:List V} (n:Nat),aE K H ds xs->aE K H (ds.take n) (xs.take n)
 |ds,xs,0,h=>by simp[aq]
 |[],xs,n+1,h=>by rw[aq]at h;subst h;simp[aq]
 |d::ds,xs,n+1,h=>by
  rw[aj]at h
  obtain⟨x,r,rfl,a,b⟩:=h
  rw[take_succ_cons,take_succ_cons,aj]
  exact⟨x,_,rfl,a,b.take n⟩
theorem aE.drop:∀{ds:List D} {xs:List V} (n:Nat),aE K H ds xs->aE K H (ds.drop n) (xs.drop n)
 |ds,xs,0,h=>h
 |[],xs,n+1,h=>by rw[aq]at h;subst h;simp[aq]
 |d::ds,xs,n+1,h=>by
  rw[aj]at h
  obtain⟨x,r,rfl,a,b⟩:=h
  exact b.drop n
theorem aE.set {d:D}{x:V}(hd:Dat K H d x):∀{ds:List D} {xs:List V} (n:Nat),aE K H ds xs->aE K H (ds.set n d) (xs.set n x)
 |[],xs,n,h=>by rw[aq]at h;subst h;simp[aq]
 |d0::ds,xs,0,h=>by
  rw[aj]at h
  obtain⟨y,r,rfl,a,b⟩:=h
  rw[set_cons_zero,set_cons_zero,aj]
  exact⟨x,_,rfl,hd,b⟩
 |d0::ds,xs,n+1,h=>by
  rw[aj]at h
  obtain⟨y,r,rfl,a,b⟩:=h
  rw[set_cons_succ,set_cons_succ,aj]
  exact⟨y,_,rfl,a,b.set hd n⟩
theorem kx:∀(ns:List Int),aE K H (ns.map D.int) (ns.map V.int)
 |[]=>by simp[aq]
 |n::ns=>by
  rw[D1,D1,aj]
  exact⟨_,_,rfl,ax.mpr rfl,kx ns⟩
theorem uG:∀{bs:List Bool} {xs:List V},aE K H (bs.map D.bl) xs->xs=bs.map V.bl
 |[],xs,h=>by rw[map_nil,aq]at h;exact h
 |b::bs,xs,h=>by
  rw[D1,aj]at h
  obtain⟨x,r,rfl,a,q⟩:=h
  rw[aW]at a
  rw[a,uG q]
  rfl
theorem pQ:∀{ys:List Str} {xs:List V},aE K H (ys.map D.str) xs->xs=ys.map V.str
 |[],xs,h=>by rw[map_nil,aq]at h;exact h
 |b::bs,xs,h=>by
  rw[D1,aj]at h
  obtain⟨x,r,rfl,a,q⟩:=h
  rw[aN]at a
  rw[a,pQ q]
  rfl
end
def oD:Key->D
 | .inl i=>.int i
 | .inr x=>.str x
mutual
def lJ:IK->D
 | .i n=>.int n
 | .t ks=>.tup (kj ks)
def kj:List IK->List D
 |[]=>[]
 |k::ks=>lJ k::kj ks
end
mutual
theorem ky{K:PySem.W.Frag}{H:Hp}:∀(k:IK) {v:V},Dat K H (lJ k) v->hV K H k v
 | .i n,v,h=>by
  unfold lJ at h
  unfold hV
  exact ax.mp h
 | .t ks,v,h=>by
  unfold lJ at h
  obtain⟨p,xs,rfl,hq,hx⟩:=aS.mp h
  unfold hV
  exact⟨p,xs,rfl,hq,uF ks hx⟩
theorem uF{K:PySem.W.Frag}{H:Hp}:∀(ks:List IK) {xs:List V},aE K H (kj ks) xs->kZ K H ks xs
 |[],xs,h=>by
  unfold kj at h
  unfold kZ
  exact aq.mp h
 |k::ks,xs,h=>by
  unfold kj at h
  obtain⟨x,r,rfl,h1,h2⟩:=aj.mp h
  unfold kZ
  exact⟨x,r,rfl,ky k h1,uF ks h2⟩
end
mutual
theorem qU:∀{a b:IK},lJ a=lJ b->a=b
 | .i n,.i m,h=>by unfold lJ at h;cases h;rfl
 | .i n,.t ks,h=>by unfold lJ at h;cases h
 | .t ks,.i n,h=>by unfold lJ at h;cases h
 | .t ks,.t ls,h=>by unfold lJ at h;rw[ug (D.tup.inj h)]
theorem ug:∀{as bs:List IK},kj as=kj bs->as=bs
 |[],[],_=>rfl
 |[],b::bs,h=>by unfold kj at h;cases h
 |a::as,[],h=>by unfold kj at h;cases h
 |a::as,b::bs,h=>by
  unfold kj at h
  injection h with h1 h2
  rw[qU h1,ug h2]
end
theorem tX{a b:Key}(h:oD a=oD b):a=b:=by
 cases a with
 |inl i=>cases b with
  |inl j=>have e:D.int i=D.int j:=h;cases e;rfl
  |inr y=>have e:D.int i=D.str y:=h;cases e
 |inr x=>cases b with
  |inl j=>have e:D.str x=D.int j:=h;cases e
  |inr y=>have e:D.str x=D.str y:=h;cases e;rfl
theorem rp{K:PySem.W.Frag}{H:Hp}{k:Key}{v:V}(h:Dat K H (oD k) v):v=kV k:=by
 cases k with
 |inl i=>exact ax.mp h
 |inr x=>exact aN.mp h
inductive MO where
 |lst (ds:List D)
  |dG (t:Bool) (kvs:List (D×D))
abbrev Ik(K:PySem.W.Frag)(H:Hp):List (D×D)->List (Key×V)->Prop:=Paired λ p q=>p.1=oD q.1/\Dat K H p.2 q.2
abbrev xg(K:PySem.W.Frag)(H:Hp):List (D×D)->List fc->Prop:=Paired λ p q=>p.1=lJ q.1/\q.1.dep<=5/\Dat K H p.1 (.ref q.2.1)/\Dat K H p.2 q.2.2
theorem Ik.mono {K:PySem.W.Frag}{H H':Hp}(t:av H H'){kvs:List (D×D)}{xs:List (Key×V)}(h:Ik K H kvs xs):Ik K H' kvs xs:=Paired.CI h λ p q z=>⟨z.1,Dat.mono t _ z.2⟩
theorem xg.mono {K:PySem.W.Frag}{H H':Hp}(t:av H H'){kvs:List (D×D)}{xs:List fc}(h:xg K H kvs xs):xg K H' kvs xs:=Paired.CI h λ p q z=>⟨z.1,z.2.1,Dat.mono t _ z.2.2.1,Dat.mono t _ z.2.2.2⟩
abbrev Mem:=Addr->Option MO
def ai(M:Mem)(a:Addr)(o:MO):Mem:=λ b=>if b=a then some o else M b
theorem ag{M:Mem}{a:Addr}{o:MO}:ai M a o a=some o:=by unfold ai;rw[J9 rfl]
theorem ah{M:Mem}{a b:Addr}{o:MO}(h:b≠a):ai M a o b=M b:=by unfold ai;rw[K0 h]
theorem cK{M:Mem}{a:Addr}{o u:MO}:ai (ai M a o) a u=ai M a u:=by funext b;unfold ai;split <;> rfl
def xc(K:PySem.W.Frag)(H:Hp)(a:Addr):MO->Prop
 | .lst ds=>∃xs,H a=some (.lst xs)/\aE K H ds xs
 | .dG false kvs=>∃xs,H a=some (.dK xs)/\Ik K H kvs xs
 | .dG true kvs=>∃xs,H a=some (oG a xs)/\xg K H kvs xs
def RelM(K:PySem.W.Frag)(H:Hp)(M:Mem):Prop:=∀a o,M a=some o->xc K H a o
theorem xc.there {K:PySem.W.Frag}{H:Hp}{a:Addr}{o:MO}(h:xc K H a o):∃u,H a=some u:=by
 cases o with
 |lst ds=>obtain⟨xs,h,_⟩:=h;exact⟨_,h⟩
 |dG t kvs=>
  cases t with
  |false=>obtain⟨xs,h,_⟩:=h;exact⟨_,h⟩
  |true=>obtain⟨xs,h,_⟩:=h;exact⟨_,h⟩
theorem xc.mono {K:PySem.W.Frag}{H H':Hp}{a:Addr}{o:MO}(h:xc K H a o)(t:av H H')(e:H' a=H a):xc K H' a o:=by
 cases o with
 |lst ds=>obtain⟨xs,h,q⟩:=h;exact⟨xs,e.trans h,aE.mono t ds q⟩
 |dG b kvs=>
  cases b with
  |false=>obtain⟨xs,h,q⟩:=h;exact⟨xs,e.trans h,q.mono t⟩
  |true=>obtain⟨xs,h,q⟩:=h;exact⟨xs,e.trans h,q.mono t⟩
theorem RelM.free {K:PySem.W.Frag}{H:Hp}{M:Mem}(h:RelM K H M){p:Addr}(n:H p=none):M p=none:=by
 cases e:M p with
 |none=>rfl
 |some o=>obtain⟨u,q⟩:=(h p o e).there;rw[n]at q;cases q
theorem RelM.laid {K:PySem.W.Frag}{H:Hp}{M:Mem}(h:RelM K H M){p:Addr}{o:HO}(n:H p=none):RelM K (upd H p o) M:=λ a u e=>by
 obtain⟨w,q⟩:=(h a u e).there
 exact(h a u e).mono (av.laid n) (aX (cw q n))
theorem RelM.put {K:PySem.W.Frag}{H:Hp}{M:Mem}(h:RelM K H M){p:Addr}{o:HO}{u:MO}(t:av H (upd H p o))(new:xc K (upd H p o) p u):RelM K (upd H p o) (ai M p u):=λ a w e=>by
 by_cases ha:a=p
 ·subst ha;rw[ag]at e;cases e;exact new
 ·rw[ah ha]at e
  exact(h a w e).mono t (aX ha)
def lQ(M M':Mem):Prop:=∀a o,M a=some o->M' a=some o
theorem lQ.refl (M:Mem):lQ M M:=λ _ _ h=>h
theorem lQ.put {M M':Mem}{p:Addr}{o:MO}(h:lQ M M')(n:M p=none):lQ M (ai M' p o):=λ a u e=>by
 rw[ah (λ z=>by subst z;rw[n]at e;cases e)]
 exact h a u e
theorem RelM.sub {K:PySem.W.Frag}{H:Hp}{M M':Mem}(h:RelM K H M')(s:lQ M M'):RelM K H M:=λ a o e=>h a o (s a o e)
abbrev de:=List (Option D)
structure cI(K:PySem.W.Frag)(H:Hp)(δ:de)(σ:St):Prop where
 len:δ.length=σ.length
 get:∀(i:Nat) (d:D),δ[i]?=some (some d)->∃v,σ[i]?=some (some v)/\Dat K H d v
theorem cI.mono {K:PySem.W.Frag}{H H':Hp}{δ:de}{σ:St}(h:cI K H δ σ)(t:av H H'):cI K H' δ σ:=
 ⟨h.len,λ i d e=>let⟨v,q,r⟩:=h.get i d e;⟨v,q,Dat.mono t d r⟩⟩
theorem cI.set {K:PySem.W.Frag}{H:Hp}{δ:de}{σ:St}(h:cI K H δ σ){i:Nat}{d:D}{v:V}(r:Dat K H d v):cI K H (δ.set i (some d)) (σ.set i (some v)):=by
 refine⟨by rw[length_set,length_set];exact h.len,λ j e hj=>?_⟩
 by_cases ow:i=j
 ·subst ow
  have hi:i < δ.length:=by
   have:=(i6.mp hj).1
   simpa using this
  rw[getElem?_set_self hi]at hj
  cases hj
  exact⟨v,by rw[getElem?_set_self (by rw[<- h.len];exact hi)],r⟩
 ·rw[getElem?_set_ne ow]at hj
  obtain⟨u,q,w⟩:=h.get j e hj
  exact⟨u,by rw[getElem?_set_ne ow];exact q,w⟩
abbrev bL:=D->Mem->Prop
abbrev bX:=de->Mem->bL->Prop
abbrev eO:=de->Mem->(Bool->Mem->Prop)->Prop
abbrev iW:=de->Mem->(List D->Mem->Prop)->Prop
structure jP where
 nx:de->Mem->Prop
 rt:bL
 bk:de->Mem->Prop:=λ _ _=>False
 ct:de->Mem->Prop:=λ _ _=>False
abbrev jM:=jP->de->Mem->Prop
def jQ(K:PySem.W.Frag)(H:Hp)(Q2:bL)(Q:VK):Prop:=∀v H' d M',Dat K H' d v->RelM K H' M'->av H H'->Q2 d M'->Q v H'
def vg(K:PySem.W.Frag)(H:Hp)(Q2:Bool->Mem->Prop)(Q:Bool->Hp->Prop):Prop:=∀b H' M',RelM K H' M'->av H H'->Q2 b M'->Q b H'
def Rr(K:PySem.W.Frag)(H:Hp)(Q2:List D->Mem->Prop)(Q:List V->Hp->Prop):Prop:=∀vs H' ds M',aE K H' ds vs->RelM K H' M'->av H H'->Q2 ds M'->Q vs H'
def lr(K:PySem.W.Frag)(H:Hp)(N2:de->Mem->Prop)(N:St->Hp->Prop):Prop:=∀σ' H' δ' M',cI K H' δ' σ'->RelM K H' M'->av H H'->N2 δ' M'->N σ' H'
structure yW(K:PySem.W.Frag)(H:Hp)(D2:jP)(E:Ends):Prop where
 nx:lr K H D2.nx E.nx
 rt:jQ K H D2.rt E.rt
 bk:lr K H D2.bk E.bk
 ct:lr K H D2.ct E.ct
theorem jQ.mono {K:PySem.W.Frag}{H H1:Hp}{Q2:bL}{Q:VK}(c:jQ K H Q2 Q)(t:av H H1):jQ K H1 Q2 Q:=λ v H' d M' a b e q=>c v H' d M' a b (t.trans e) q
theorem vg.mono {K:PySem.W.Frag}{H H1:Hp}{Q2:Bool->Mem->Prop}{Q:Bool->Hp->Prop}(c:vg K H Q2 Q)(t:av H H1):vg K H1 Q2 Q:=λ v H' M' b e q=>c v H' M' b (t.trans e) q
theorem lr.mono {K:PySem.W.Frag}{H H1:Hp}{N2:de->Mem->Prop}{N:St->Hp->Prop}(c:lr K H N2 N)(t:av H H1):lr K H1 N2 N:=λ v H' d M' a b e q=>c v H' d M' a b (t.trans e) q
theorem yW.mono {K:PySem.W.Frag}{H H1:Hp}{D2:jP}{E:Ends}(c:yW K H D2 E)(t:av H H1):yW K H1 D2 E:=⟨c.nx.mono t,c.rt.mono t,c.bk.mono t,c.ct.mono t⟩
def up(K:PySem.W.Frag)(t:bX):TE:=λ σ H Q=>∃δ M Q2,cI K H δ σ/\RelM K H M/\t δ M Q2/\jQ K H Q2 Q
def xt(K:PySem.W.Frag)(t:eO):TT:=λ σ H Q=>∃δ M Q2,cI K H δ σ/\RelM K H M/\t δ M Q2/\vg K H Q2 Q
def Vr(K:PySem.W.Frag)(t:iW):TA:=λ σ H Q=>∃δ M Q2,cI K H δ σ/\RelM K H M/\t δ M Q2/\Rr K H Q2 Q
def SM(K:PySem.W.Frag)(t:jM):TS:=λ E σ H=>∃δ M D2,cI K H δ σ/\RelM K H M/\t D2 δ M/\yW K H D2 E
abbrev QE(X:Cx)(e:Expr)(t:bX):Prop:=PE X e (up X.K t)
abbrev QT(X:Cx)(e:Expr)(t:eO):Prop:=PT X e (xt X.K t)
abbrev QW(X:Cx)(e:Expr)(t:eO):Prop:=PW X e (xt X.K t)
abbrev QA(X:Cx)(es:List Expr)(t:iW):Prop:=PA X es (Vr X.K t)
abbrev QS(X:Cx)(st:Stmt)(t:jM):Prop:=PS X st (SM X.K t)
abbrev EC(X:Cx)(RQ:List Stmt)(t:jM):Prop:=vo X RQ (SM X.K t)
theorem bS{X:Cx}{e:Expr}{t t':TE}(h:PE X e t)(k:∀σ H Q,t' σ H Q->t σ H Q):PE X e t':=λ pins s σ H Q I q=>h pins s σ H Q I (k σ H Q q)
theorem BV{X:Cx}{e:Expr}{t t':TT}(h:PT X e t)(k:∀σ H Q,t' σ H Q->t σ H Q):PT X e t':=λ pins s σ H Q I q=>h pins s σ H Q I (k σ H Q q)
theorem IG{X:Cx}{e:Expr}{t t':TT}(h:PW X e t)(k:∀σ H Q,t' σ H Q->t σ H Q):PW X e t':=λ wh pins s σ H Q I q=>h wh pins s σ H Q I (k σ H Q q)
theorem Cj{X:Cx}{es:List Expr}{t t':TA}(h:PA X es t)(k:∀σ H Q,t' σ H Q->t σ H Q):PA X es t':=λ pos pins s σ H Q I q=>h pos pins s σ H Q I (k σ H Q q)
theorem jm{X:Cx}{st:Stmt}{t t':TS}(h:PS X st t)(k:∀E σ H,t' E σ H->t E σ H):PS X st t':=λ pins s σ H E I q=>h pins s σ H E I (k E σ H q)
theorem BX{X:Cx}{RQ:List Stmt}{t t':TS}(h:vo X RQ t)(k:∀E σ H,t' E σ H->t E σ H):vo X RQ t':=λ pins s σ H E I q=>h pins s σ H E I (k E σ H q)
end L3
namespace L3
open PySem PySem.Spec L2
abbrev fX:=D->D->Mem->bL->Prop
def NM(K:PySem.W.Frag)(r:R2)(r2:fX):Prop:=∀x y d e H M Q2 Q,Dat K H d x->Dat K H e y->RelM K H M->r2 d e M Q2->jQ K H Q2 Q->r x y H Q
def NO(K:PySem.W.Frag)(r:List V->Hp->VK->Prop)(r2:List D->Mem->bL->Prop):Prop:=∀xs ds H M Q2 Q,aE K H ds xs->RelM K H M->r2 ds M Q2->jQ K H Q2 Q->r xs H Q
def Vj(K:PySem.W.Frag)(r:V->List V->Hp->VK->Prop)(r2:D->List D->Mem->bL->Prop):Prop:=∀x xs d ds H M Q2 Q,Dat K H d x->aE K H ds xs->RelM K H M->r2 d ds M Q2->jQ K H Q2 Q->r x xs H Q
def Rg(K:PySem.W.Frag)(r:V->Option Int->Option Int->Hp->VK->Prop)(r2:D->Option Int->Option Int->Mem->bL->Prop):Prop:=∀x d lo hi H M Q2 Q,Dat K H d x->RelM K H M->r2 d lo hi M Q2->jQ K H Q2 Q->r x lo hi H Q
def fF(X:Cx)(f:Value->Value->Sem Value)(r2:fX):Prop:=∃r,fu X f r/\NM X.K r r2
def Ro(X:Cx)(r2:fX):Prop:=∃r,xf X r/\NM X.K r r2
def Rh(X:Cx)(r2:D->Option Int->Option Int->Mem->bL->Prop):Prop:=∃r,yT X r/\Rg X.K r r2
def df(X:Cx)(f:Value)(r2:List D->Mem->bL->Prop):Prop:=∃r,dH X f r/\NO X.K r r2
def Es(X:Cx)(id:String)(r2:D->List D->Mem->bL->Prop):Prop:=∃r,SA X id r/\Vj X.K r r2
section
variable {X:Cx}{a b c e:Expr}{ta tb tc:bX}{pos:Pos}
def Be(i:Nat):bX:=λ δ M Q=>match δ[i]? with
 |some (some d)=>Q d M
 |_=>False
def sC(d:D):bX:=λ _ M Q=>Q d M
theorem WK(i:Nat){x:Str}(hN:X.N[i]?=some x:=by rfl)(hv:Rf X.env.scope x:=by first|exact Or.inl rfl|exact Or.inr (Or.inl rfl)|exact Or.inr (Or.inr rfl))(hd:(x==("__debug__":Str))=false:=by decide)
  (hcd:(x==("__classdict__":Str))=false:=by decide):QE X (.Name x pos) (Be i):=bS (Ll hN hv hd hcd) λ σ H Q ⟨δ,M,Q2,hs,hm,q,k⟩=>by
 unfold Be at q
 cases e:δ[i]? with
 |none=>rw[e]at q;exact q.elim
 |some o=>
  cases o with
  |none=>rw[e]at q;exact q.elim
  |some d=>
   rw[e]at q
   obtain⟨v,h1,h2⟩:=hs.get i d e
   exact⟨v,h1,k v H d M h2 hm (av.refl H) q⟩
theorem O5{i j}:QE X (.Constant (.int i) j pos) (sC (.int i)):=bS vY λ σ H Q ⟨δ,M,Q2,hs,hm,q,k⟩=>k _ H (.int i) M (ax.mpr rfl) hm (av.refl H) q
theorem Tw{i j}:QE X (.Constant (.bool i) j pos) (sC (.bl i)):=bS Pc λ σ H Q ⟨δ,M,Q2,hs,hm,q,k⟩=>k _ H (.bl i) M (aW.mpr rfl) hm (av.refl H) q
theorem IF{i j}:QE X (.Constant (.str i) j pos) (sC (.str i)):=bS Ln λ σ H Q ⟨δ,M,Q2,hs,hm,q,k⟩=>k _ H (.str i) M (aN.mpr rfl) hm (av.refl H) q
theorem O3{j}:QE X (.Constant .none j pos) (sC .bx):=bS Lp λ σ H Q ⟨δ,M,Q2,hs,hm,q,k⟩=>k _ H .bx M (dW.mpr rfl) hm (av.refl H) q
theorem Ts{x:Str}{n:String}(hg:Gl X x)(hm:X.mg x=none)(hv:bootBuiltins x=some (.type n))(hn:x≠"__name__":=by decide)(hd:(x==("__debug__":Str))=false:=by decide):QE X (.Name x pos) (sC (.ty n)):=
 bS (GA (v:=.ty n) hg hm hv rfl hn hd) λ σ H Q ⟨δ,M,Q2,hs,hm,q,k⟩=>k _ H (.ty n) M (wM.mpr rfl) hm (av.refl H) q
def Ex(r2:fX)(ta tb:bX):bX:=λ δ M Q=>ta δ M λ d M1=>tb δ M1 λ e M2=>r2 d e M2 Q
theorem mn{K:PySem.W.Frag}{r:R2}{r2:fX}(hr:NM K r r2):∀σ H Q,up K (Ex r2 ta tb) σ H Q->Ox r (up K ta) (up K tb) σ H Q:=by
 rintro σ H Q ⟨δ,M,Q2,hs,hm,q,k⟩
 refine⟨δ,M,_,hs,hm,q,λ x H1 d M1 hd bW t1 q1=>?_⟩
 refine⟨δ,M1,_,hs.mono t1,bW,q1,λ y H2 e M2 he vj t2 q2=>?_⟩
 exact hr x y d e H2 M2 Q2 Q (Dat.mono t2 d hd) he vj q2 (k.mono (t1.trans t2))
theorem Tt{op:Operator}{r2:fX}(o:fF X (binaryOp op) r2)(ha:QE X a ta)(hb:QE X b tb):QE X (.BinOp a op b pos) (Ex r2 ta tb):=by
 obtain⟨r,ho,hr⟩:=o
 exact bS (Pa ho ha hb) (mn hr)
theorem O7{op:CmpOp}{r2:fX}(o:fF X (compareOp op) r2)(ha:QE X a ta)(hb:QE X b tb)(hm:behindInMarks op b=false):QE X (.Compare a [op] [b] pos) (Ex r2 ta tb):=by
 obtain⟨r,ho,hr⟩:=o
 exact bS (Gy ho ha hb hm) (mn hr)
def sJ(t:bX):eO:=λ δ M Q=>t δ M λ d M1=>match d with
 | .bl k=>Q k M1
 |_=>False
theorem pb{K:PySem.W.Frag}{H:Hp}{Q2:Bool->Mem->Prop}{Q:Bool->Hp->Prop}(k:vg K H Q2 Q):jQ K H (λ d M1=>match d with| .bl k=>Q2 k M1|_=>False) (λ x H'=>∃k,x=.bl k/\Q k H'):=λ v H' d M' hd hm t q=>by
 cases d with
 |bl b=>exact⟨b,aW.mp hd,k b H' M' hm t q⟩
 |_=>exact q.elim
theorem KQ{op:CmpOp}{r2:fX}(o:fF X (compareOp op) r2)(ha:QE X a ta)(hb:QE X b tb)(hm:behindInMarks op b=false):QT X (.Compare a [op] [b] pos) (sJ (Ex r2 ta tb)):=by
 obtain⟨r,ho,hr⟩:=o
 refine BV (Gm ho ha hb hm) ?_
 rintro σ H Q ⟨δ,M,Q2,hs,hm,q,k⟩
 exact mn hr σ H _ ⟨δ,M,_,hs,hm,q,pb k⟩
theorem KO(h:QE X e ta)(he:∀whole,isTrue e X.env whole=(do let v <- whole;standAt e.pos;holding [v] (truthy v)):=by intro _;rfl):QT X e (sJ ta):=by
 refine BV (K' h he) ?_
 rintro σ H Q ⟨δ,M,Q2,hs,hm,q,k⟩
 exact⟨δ,M,_,hs,hm,q,pb k⟩
variable {tA tB:eO}{rest:List Expr}
def J_(t u:eO):eO:=λ δ M Q=>t δ M λ c M1=>if c=true then u δ M1 Q else Q false M1
def Te(t u:eO):eO:=λ δ M Q=>t δ M λ c M1=>if c=true then Q true M1 else u δ M1 Q
def JU(t:eO):eO:=λ δ M Q=>t δ M λ c M1=>Q (!c) M1
theorem FU(ha:QT X a tA):QW X (.BoolOp .And [a] pos) tA:=Gk ha
theorem KL(ha:QT X a tA):QW X (.BoolOp .Or [a] pos) tA:=K9 ha
theorem KN(ha:QT X a tA)(hb:QW X (.BoolOp .And (b::rest) pos) tB):QW X (.BoolOp .And (a::b::rest) pos) (J_ tA tB):=IG (K_ ha hb) λ σ H Q ⟨δ,M,Q2,hs,hm,q,k⟩=>by
 refine⟨δ,M,_,hs,hm,q,λ c H1 M1 bW t1 q1=>?_⟩
 cases c with
 |true=>
  rw[J9 rfl]at q1 ⊢
  exact⟨δ,M1,Q2,hs.mono t1,bW,q1,k.mono t1⟩
 |false=>
  rw[K0 p5]at q1 ⊢
  exact k _ _ _ bW t1 q1
theorem OZ(ha:QT X a tA)(hb:QW X (.BoolOp .Or (b::rest) pos) tB):QW X (.BoolOp .Or (a::b::rest) pos) (Te tA tB):=IG (O_ ha hb) λ σ H Q ⟨δ,M,Q2,hs,hm,q,k⟩=>by
 refine⟨δ,M,_,hs,hm,q,λ c H1 M1 bW t1 q1=>?_⟩
 cases c with
 |true=>
  rw[J9 rfl]at q1 ⊢
  exact k _ _ _ bW t1 q1
 |false=>
  rw[K0 p5]at q1 ⊢
  exact⟨δ,M1,Q2,hs.mono t1,bW,q1,k.mono t1⟩
theorem KP(ha:QT X a tA):QT X (.UnaryOp .Not a pos) (JU tA):=BV (La ha) λ σ H Q ⟨δ,M,Q2,hs,hm,q,k⟩=>⟨δ,M,_,hs,hm,q,λ c H1 M1 bW t1 q1=>k _ _ _ bW t1 q1⟩
def Bo(ta tb:bX):bX:=λ δ M Q=>ta δ M λ d M1=>match d with
 | .bl c=>if c=true then tb δ M1 Q else Q (.bl false) M1
 |_=>False
theorem O2{op}(h:QE X a ta):QE X (.BoolOp op [a] pos) ta:=Lo h
theorem O9(ha:QE X a ta)(hb:QE X (.BoolOp .And (b::rest) pos) tb):QE X (.BoolOp .And (a::b::rest) pos) (Bo ta tb):=bS (Lu ha hb) λ σ H Q ⟨δ,M,Q2,hs,hm,q,k⟩=>by
 refine⟨δ,M,_,hs,hm,q,λ x H1 d M1 hd bW t1 q1=>?_⟩
 cases d with
 |bl c=>
  refine⟨c,aW.mp hd,?_⟩
  have q1:if c=true then tb δ M1 Q2 else Q2 (.bl false) M1:=q1
  cases c with
  |true=>
   rw[J9 rfl]at q1 ⊢
   exact⟨δ,M1,Q2,hs.mono t1,bW,q1,k.mono t1⟩
  |false=>
   rw[K0 p5]at q1 ⊢
   exact k _ _ _ _ (aW.mpr rfl) bW t1 q1
 |_=>exact q1.elim
variable {es:List Expr}{t:iW}
def JV:iW:=λ _ M Q=>Q [] M
def Bm(ta:bX)(tr:iW):iW:=λ δ M Q=>ta δ M λ d M1=>tr δ M1 λ ds M2=>Q (d::ds) M2
theorem BR:QA X [] JV:=Cj iR λ σ H Q ⟨δ,M,Q2,hs,hm,q,k⟩=>k [] H [] M (by rw[aq]) hm (av.refl H) q
theorem xQ(ha:QE X e ta)(hr:QA X es t)(hs:starEach (e::es) X.env=(false,eval e X.env)::starEach es X.env:=by rfl):QA X (e::es) (Bm ta t):=Cj (gq ha hr hs) λ σ H Q ⟨δ,M,Q2,hs,hm,q,k⟩=>by
 refine⟨δ,M,_,hs,hm,q,λ x H1 d M1 hd bW t1 q1=>?_⟩
 refine⟨δ,M1,_,hs.mono t1,bW,q1,λ xs H2 ds M2 HE vj t2 q2=>?_⟩
 exact k (x::xs) H2 (d::ds) M2 (aj.mpr ⟨x,xs,rfl,Dat.mono t2 d hd,HE⟩) vj (t1.trans t2) q2
def JS(t:iW):bX:=λ δ M Q=>t δ M λ ds M1=>ds.length<=sizeLine/\Q (.tup ds) M1
theorem gh{K:PySem.W.Frag}{H:Hp}{p:Addr}{xs:List V}{ds:List D}(hp:H p=none)(h:aE K H ds xs):Dat K (upd H p (.tup xs)) (.tup ds) (.ref p):=aS.mpr ⟨p,xs,rfl,f_.of bB,aE.mono (av.laid hp) ds h⟩
theorem O1{x1}(h:QA X es t):QE X (.Tuple es x1 pos) (JS t):=bS (Lm h) λ σ H Q ⟨δ,M,Q2,hs,hm,q,k⟩=>by
 refine⟨δ,M,_,hs,hm,q,λ xs H1 ds M1 hd bW t1 q1=>?_⟩
 refine⟨by rw[hd.length];exact q1.1,λ p hp=>?_⟩
 exact k _ _ (.tup ds) M1 (gh hp hd) (bW.laid hp) (t1.trans (av.laid hp)) q1.2
def JW(t:iW):bX:=λ δ M Q=>t δ M λ ds M1=>ds.length<=sizeLine/\∀p,M1 p=none->Q (.ref p) (ai M1 p (.lst ds))
theorem dv{K:PySem.W.Frag}{H:Hp}{M:Mem}{p:Addr}{xs:List V}{ds:List D}(hp:H p=none)(h:aE K H ds xs)(hm:RelM K H M):RelM K (upd H p (.lst xs)) (ai M p (.lst ds)):=
 hm.put (av.laid hp) ⟨xs,bB,aE.mono (av.laid hp) ds h⟩
theorem O4(h:QA X es t):QE X (.List es pos) (JW t):=bS (Lq h) λ σ H Q ⟨δ,M,Q2,hs,hm,q,k⟩=>by
 refine⟨δ,M,_,hs,hm,q,λ xs H1 ds M1 hd bW t1 q1=>?_⟩
 refine⟨by rw[hd.length];exact q1.1,λ p hp=>?_⟩
 exact k _ _ (.ref p) _ (aF.mpr rfl) (dv hp hd bW) (t1.trans (av.laid hp)) (q1.2 p (bW.free hp))
theorem Tu{r2:fX}(o:Ro X r2)(ha:QE X a ta)(hb:QE X b tb)(hs:rR b):QE X (.Subscript a b pos) (Ex r2 ta tb):=by
 obtain⟨r,ho,hr⟩:=o
 exact bS (Pb ho ha hb hs) (mn hr)
abbrev Ih:=de->Mem->(Option Int->Mem->Prop)->Prop
def Rp(K:PySem.W.Frag)(H:Hp)(Q2:Option Int->Mem->Prop)(Q:Option Int->Hp->Prop):Prop:=∀o H' M',RelM K H' M'->av H H'->Q2 o M'->Q o H'
def Wq(K:PySem.W.Frag)(t:Ih):TO:=λ σ H Q=>∃δ M Q2,cI K H δ σ/\RelM K H M/\t δ M Q2/\Rp K H Q2 Q
abbrev QO(X:Cx)(e:Option Expr)(t:Ih):Prop:=PO X e (Wq X.K t)
theorem IH{e:Option Expr}{t t':TO}(h:PO X e t)(k:∀σ H Q,t' σ H Q->t σ H Q):PO X e t':=λ pins s σ H Q I q=>h pins s σ H Q I (k σ H Q q)
def qo:Ih:=λ _ M Q=>Q none M
def Bg(t:bX):Ih:=λ δ M Q=>t δ M λ d M1=>match d with
 | .int i=>Q (some i) M1
 |_=>False
theorem F_:QO X none qo:=IH Gs λ σ H Q ⟨δ,M,Q2,hs,hm,q,k⟩=>k _ _ _ hm (av.refl H) q
theorem FZ(h:QE X e ta):QO X (some e) (Bg ta):=IH (Gr h) λ σ H Q ⟨δ,M,Q2,hs,hm,q,k⟩=>by
 refine⟨δ,M,_,hs,hm,q,λ x H1 d M1 hd bW t1 q1=>?_⟩
 cases d with
 |int i=>exact⟨i,ax.mp hd,k _ _ _ bW t1 q1⟩
 |_=>exact q1.elim
variable {lo hi:Option Expr}{tl th:Ih}{p2:Pos}
def Td(r2:D->Option Int->Option Int->Mem->bL->Prop)(te:bX)(tl th:Ih):bX:=λ δ M Q=>te δ M λ d M1=>tl δ M1 λ l M2=>th δ M2 λ u M3=>r2 d l u M3 Q
theorem Gg{r2:D->Option Int->Option Int->Mem->bL->Prop}(o:Rh X r2)(he:QE X e ta)(hl:QO X lo tl)(hu:QO X hi th):QE X (.Subscript e (.Slice lo hi none p2) pos) (Td r2 ta tl th):=by
 obtain⟨r,ho,hr⟩:=o
 refine bS (Ce ho he hl hu) ?_
 rintro σ H Q ⟨δ,M,Q2,hs,hm,q,k⟩
 refine⟨δ,M,_,hs,hm,q,λ x H1 d M1 hd bW t1 q1=>?_⟩
 refine⟨δ,M1,_,hs.mono t1,bW,q1,λ l H2 M2 vj t2 q2=>?_⟩
 refine⟨δ,M2,_,hs.mono (t1.trans t2),vj,q2,λ u H3 M3 DA t3 q3=>?_⟩
 exact hr x d l u H3 M3 Q2 Q (Dat.mono (t2.trans t3) d hd) DA q3 (k.mono (t1.trans (t2.trans t3)))
def NW(r2:List D->Mem->bL->Prop)(t:iW):bX:=λ δ M Q=>t δ M λ ds M1=>r2 ds M1 Q
variable {x:Str}{p:Pos}{id T:String}
theorem yN{K:PySem.W.Frag}{r:List V->Hp->VK->Prop}{r2:List D->Mem->bL->Prop}(hr:NO K r r2):∀σ H Q,up K (NW r2 t) σ H Q->Ry r (Vr K t) σ H Q:=by
 rintro σ H Q ⟨δ,M,Q2,hs,hm,q,k⟩
 exact⟨δ,M,_,hs,hm,q,λ xs H1 ds M1 hd bW t1 q1=>hr xs ds H1 M1 Q2 Q hd bW q1 (k.mono t1)⟩
theorem Gj{r2:List D->Mem->bL->Prop}(o:df X (.builtin id) r2)(hg:Gl X x)(hm:X.mg x=none)(hv:bootBuiltins x=some (.builtin id))(ha:QA X (e::es) t)(hn:x≠"__name__":=by decide)(hdb:(x==("__debug__":Str))=false:=by decide)
  (he:starEach (e::es) X.env=(false,eval e X.env)::starEach es X.env:=by rfl) (hpl:(backTo pos (starEach es X.env)).any (·.1)=false:=by rfl):QE X (.Call (.Name x p) (e::es) [] pos) (NW r2 t):=by
 obtain⟨r,ho,hr⟩:=o
 exact bS (s_ ho hg hm hv ha hn hdb he hpl) (yN hr)
theorem Gi{r2:List D->Mem->bL->Prop}(o:df X (.type T) r2)(hg:Gl X x)(hm:X.mg x=none)(hv:bootBuiltins x=some (.type T))(ha:QA X (e::es) t)(hn:x≠"__name__":=by decide)(hdb:(x==("__debug__":Str))=false:=by decide)
  (he:starEach (e::es) X.env=(false,eval e X.env)::starEach es X.env:=by rfl) (hpl:(backTo pos (starEach es X.env)).any (·.1)=false:=by rfl):QE X (.Call (.Name x p) (e::es) [] pos) (NW r2 t):=by
 obtain⟨r,ho,hr⟩:=o
 exact bS (pv ho hg hm hv ha hn hdb he hpl) (yN hr)
end
end L3
namespace L3
open PySem PySem.Spec L2
def Ip(T:String)(d:D)(M:Mem):Prop:=match d with
 | .str _=>T="str"
 | .ref a=>T="list"/\∃ds,M a=some (.lst ds)
 |_=>False
theorem Ip.v {K:PySem.W.Frag}{H:Hp}{M:Mem}{T:String}{d:D}{x:V}(h:Ip T d M)(r:Dat K H d x)(hm:RelM K H M):Rv K T x H:=by
 cases d with
 |str z=>cases(aN.mp r);exact h
 |ref a=>
  cases(aF.mp r)
  obtain⟨e,ds,q⟩:=h
  obtain⟨xs,hx,_⟩:=hm a _ q
  exact .inl ⟨e,xs,dD.of hx⟩
 |_=>exact h.elim
section
variable {X:Cx}{o e:Expr}{es:List Expr}{to:bX}{t:iW}{T id:String}{name:Str}{apos bJ:Pos}
def Tf(T:String)(r2:D->List D->Mem->bL->Prop)(to:bX)(t:iW):bX:=λ δ M Q=>to δ M λ d M1=>Ip T d M1/\t δ M1 λ ds M2=>r2 d ds M2 Q
def JZ(T:String)(r2:D->List D->Mem->bL->Prop)(to:bX):bX:=λ δ M Q=>to δ M λ d M1=>Ip T d M1/\r2 d [] M1 Q
theorem O8{r2:D->List D->Mem->bL->Prop}(pa:PlainAttrs T)(slot:Slot T name id)(hty:typeOf (.builtin id)=pure (.type "method_descriptor"))(hm:Es X id r2)(ho:QE X o to)
  (hbase:attributeBase o name X.env (eval o X.env)=eval o X.env:=by rfl) (hline:(apos.endLine==bJ.line)=true:=by rfl):QE X (.Call (.Attribute o name apos) [] [] bJ) (JZ T r2 to):=by
 obtain⟨r,h1,hr⟩:=hm
 refine bS (Ls pa slot hty h1 ho hbase hline) ?_
 rintro σ H Q ⟨δ,M,Q2,hs,hm,q,k⟩
 exact⟨δ,M,_,hs,hm,q,λ x H1 d M1 hd bW t1 q1=>⟨q1.1.v hd bW,hr x [] d [] H1 M1 Q2 Q hd (by rw[aq]) bW q1.2 (k.mono t1)⟩⟩
theorem Tv{r2:D->List D->Mem->bL->Prop}(pa:PlainAttrs T)(slot:Slot T name id)(hty:typeOf (.builtin id)=pure (.type "method_descriptor"))(hm:Es X id r2)(ho:QE X o to)(ha:QA X (e::es) t)
  (hbase:attributeBase o name X.env (eval o X.env)=eval o X.env:=by rfl)
  (hfew:((backTo bJ (starEach (e::es) X.env)).all (λ x=>!x.1)&&(backToKw bJ (keywordEach [] X.env)).all (λ x=>x.1.isSome)
   &&decide ((e::es).length+([]:List Keyword).length+(if([]:List Keyword).isEmpty then 0 else 1) < 30))=true:=by rfl)
  (hline:(apos.endLine==bJ.line)=true:=by rfl) (hs:starEach (e::es) X.env=(false,eval e X.env)::starEach es X.env:=by rfl) (hplain:(backTo bJ (starEach es X.env)).any (·.1)=false:=by rfl):
  QE X (.Call (.Attribute o name apos) (e::es) [] bJ) (Tf T r2 to t):=by
 obtain⟨r,h1,hr⟩:=hm
 refine bS (IJ pa slot hty h1 ho ha hbase hfew hline hs hplain) ?_
 rintro σ H Q ⟨δ,M,Q2,hs,hm,q,k⟩
 refine⟨δ,M,_,hs,hm,q,λ x H1 d M1 hd bW t1 q1=>⟨q1.1.v hd bW,δ,M1,_,hs.mono t1,bW,q1.2,λ xs H2 ds M2 HE vj t2 q2=>?_⟩⟩
 exact hr x xs d ds H2 M2 Q2 Q (Dat.mono t2 d hd) HE vj q2 (k.mono (t1.trans t2))
end
abbrev fe:=List D->Mem->bL->Prop
def cF(K:PySem.W.Frag)(sp:fe):Sp:=λ vs H Q _=>∃ds M Q2,aE K H ds vs/\RelM K H M/\sp ds M Q2/\jQ K H Q2 Q
def sD(sp:fe)(t:iW):bX:=λ δ M Q=>t δ M λ ds M1=>sp ds M1 Q
abbrev bC(P:Program)(w:World)(K:PySem.W.Frag)(mg:Str->Option Value)(base:Heap)(k:Nat)(x:Str)(ps:List Str)(sp:fe):Prop:=bF P w K mg base k x ps (cF K sp)
section
variable {X:Cx}{x:Str}{p pos:Pos}{e:Expr}{es:List Expr}{t:iW}{k j:Nat}{ps:List Str}{sp:fe}
theorem O6(d:bC X.prog X.w X.K X.mg X.base k x ps sp)(hr:cJ k X.A)(hg:Gl X x)(ha:QA X (e::es) t)(hdb:(x==("__debug__":Str))=false:=by decide)(he:starEach (e::es) X.env=(false,eval e X.env)::starEach es X.env:=by rfl)
  (hpl:(backTo pos (starEach es X.env)).any (·.1)=false:=by rfl):QE X (.Call (.Name x p) (e::es) [] pos) (sD sp t):=by
 refine bS (Lr d hr hg ha hdb he hpl) ?_
 rintro σ H Q ⟨δ,M,Q2,hs,hm,q,k⟩
 exact⟨δ,M,_,hs,hm,q,λ xs H1 ds M1 hd bW t1 q1=>⟨ds,M1,Q2,hd,bW,q1,k.mono t1⟩⟩
end
def jV(N:List Str)(ds:List D):de:=ds.map some++List.replicate (N.length - ds.length) none
theorem zl{K:PySem.W.Frag}{H:Hp}{N:List Str}{ds:List D}{vs:List V}(h:aE K H ds vs):cI K H (jV N ds) (L2.start N vs):=by
 have hl:=h.length
 refine⟨by unfold jV L2.start;simp[hl],λ i d e=>?_⟩
 unfold jV at e
 by_cases hi:i < ds.length
 ·rw[i0 (by simpa using hi),s9]at e
  cases q:ds[i]? with
  |none=>rw[q]at e;cases e
  |some d'=>
   rw[q]at e
   have e:d'=d:=by simpa using e
   subst e
   obtain⟨v,hv,r⟩:=h.get q
   refine⟨v,?_,r⟩
   unfold L2.start
   rw[i0 (by simp;omega),s9,hv]
   rfl
 ·rw[e9 (by simpa using hi),j5]at e
  split at e <;> cases e
def fin2(Q:bL):bL:=λ d M'=>∃Js,lQ Js M'/\Q d Js
theorem aA{Q:bL}{d:D}{M:Mem}(q:Q d M):fin2 Q d M:=⟨M,lQ.refl M,q⟩
section
variable {P:Program}{w:World}{K:PySem.W.Frag}{mg:Str->Option Value}{base:Heap}
theorem WL{x qual:Str}{st:Stmt}{f:Addr}{fd:FuncData}{N ps:List Str}{k:Nat}{sp:fe}(F:gM K x qual st f fd)(S:aM N ps (ay st))(len:∀ds M Q,sp ds M Q->ds.length=ps.length)
  (nL:∀(c_:Value) (A:Around) (outer:List Env) (s:Shared) (H:Hp) (E:XK) (ds:List D) (M:Mem) (Q:bL),cJ k (A.deeper (PyProof.Rows.envOfC qual (ay st) s.heap.objs.size f c_))->sp ds M Q->
   ∃t,EC (uK fE P w K mg base N qual (ay st) f c_ A outer s H E).NY (dA st) t/\t {nx:=λ _ M'=>fin2 Q .bx M',rt:=fin2 Q} (jV N ds) M):bZ P w K mg base fE (k+1) f fd ps (cF K sp):=by
 refine F.ok S (λ vs H Q E h=>?_) (λ c_ A outer s H vs Q E hr h=>?_)
 ·obtain⟨ds,M,Q2,hd,_,hs,_⟩:=h
  rw[hd.length]
  exact len ds M Q2 hs
 ·obtain⟨ds,M,Q2,hd,hm,hs,kk⟩:=h
  obtain⟨t,ht,q⟩:=nL c_ A outer s H E ds M Q2 hr hs
  refine⟨_,ht,jV N ds,M,_,zl hd,hm,q,⟨?_,?_,?_,?_⟩⟩
  ·exact λ σ' H' δ' M' _ gO t' ⟨Js,s,q⟩=>kk _ H' .bx Js (dW.mpr rfl) (gO.sub s) t' q
  ·exact λ v H' d M' iC gO t' ⟨Js,s,q⟩=>kk v H' d Js iC (gO.sub s) t' q
  ·exact λ σ' H' δ' M' _ gO t' q=>q
  ·exact λ σ' H' δ' M' _ gO t' q=>q
end
section
variable {X:Cx}{st:Stmt}{rest:List Stmt}{t u:jM}{te:bX}{e:Expr}{pos:Pos}
def Bh:jM:=λ E δ M=>E.nx δ M
def Fd(t u:jM):jM:=λ E δ M=>t {E with nx:=u E} δ M
theorem FW:EC X [] Bh:=BX Gp λ E σ H ⟨δ,M,D2,hs,hm,q,k⟩=>k.nx σ H δ M hs hm (av.refl H) q
theorem FV(h:QS X st t):EC X [st] t:=Gn h
theorem BO(h1:QS X st t)(h2:EC X rest u):EC X (st::rest) (Fd t u):=BX (BW h1 h2) λ E σ H ⟨δ,M,D2,hs,hm,q,k⟩=>by
 refine⟨δ,M,_,hs,hm,q,⟨λ σ' H' δ' M' wB gO t' q'=>?_,k.rt,k.bk,k.ct⟩⟩
 exact⟨δ',M',D2,wB,gO,q',k.mono t'⟩
def Bk(te:bX):jM:=λ E δ M=>te δ M λ _ M1=>E.nx δ M1
theorem FX(he:QE X e te)(hs:swapsWith e none pos.line X.env=pure false:=by rfl):QS X (.Expr e pos) (Bk te):=jm (Gq he hs) λ E σ H ⟨δ,M,D2,hs,hm,q,k⟩=>
 ⟨δ,M,_,hs,hm,q,λ x H1 d M1 hd bW t1 q1=>k.nx σ H1 δ M1 (hs.mono t1) bW t1 q1⟩
def JT(te:bX):jM:=λ E δ M=>te δ M E.rt
theorem KS(he:QE X e te):QS X (.Return (some e) pos) (JT te):=jm (Lc he) λ E σ H ⟨δ,M,D2,hs,hm,q,k⟩=>⟨δ,M,_,hs,hm,q,k.rt⟩
def JX(c:eO)(t u:jM):jM:=λ E δ M=>c δ M λ b M1=>if b=true then t E δ M1 else u E δ M1
theorem O0{c:Expr}{a b:List Stmt}{tc:eO}(hc:QT X c tc)(ha:EC X a t)(hb:EC X b u):QS X (.If c a b pos) (JX tc t u):=jm (O' hc ha hb) λ E σ H ⟨δ,M,D2,hs,hm,q,k⟩=>by
 refine⟨δ,M,_,hs,hm,q,λ b H1 M1 bW t1 q1=>?_⟩
 cases b with
 |true=>
  rw[J9 rfl]at q1 ⊢
  exact⟨δ,M1,D2,hs.mono t1,bW,q1,k.mono t1⟩
 |false=>
  rw[K0 p5]at q1 ⊢
  exact⟨δ,M1,D2,hs.mono t1,bW,q1,k.mono t1⟩
abbrev gA:=D->de->Mem->(de->Mem->Prop)->Prop
abbrev og:=List D->de->Mem->(de->Mem->Prop)->Prop
def JB(K:PySem.W.Frag)(t:gA):TG:=λ v σ H Q=>∃d δ M Q2,Dat K H d v/\cI K H δ σ/\RelM K H M/\t d δ M Q2/\lr K H Q2 Q
def SN(K:PySem.W.Frag)(t:og):yS:=λ vs σ H Q=>∃ds δ M Q2,aE K H ds vs/\cI K H δ σ/\RelM K H M/\t ds δ M Q2/\lr K H Q2 Q
abbrev QG(X:Cx)(tg:Expr)(t:gA):Prop:=PG X tg (JB X.K t)
abbrev Ri(X:Cx)(tg:List Expr)(t:og):Prop:=NQ X tg (SN X.K t)
theorem Cd{tg:Expr}{g g':TG}(h:PG X tg g)(k:∀v σ H Q,g' v σ H Q->g v σ H Q):PG X tg g':=λ pins s σ H v u Q I r q=>h pins s σ H v u Q I r (k v σ H Q q)
theorem Cc{tg:List Expr}{g g':yS}(h:NQ X tg g)(k:∀v σ H Q,g' v σ H Q->g v σ H Q):NQ X tg g':=λ pins s σ H v u Q I r q=>h pins s σ H v u Q I r (k v σ H Q q)
def hName(i:Nat):gA:=λ d δ M Q=>Q (δ.set i (some d)) M
theorem j_{K:PySem.W.Frag}{i:Nat}:∀v σ H Q,JB K (hName i) v σ H Q->eX i v σ H Q:=λ v σ H Q ⟨d,δ,M,Q2,hd,hs,hm,q,k⟩=>k _ H _ M (hs.set hd) hm (av.refl H) q
theorem Gf{i:Nat}{x:Str}(hN:X.N.Nodup)(hi:X.N[i]?=some x)(hx:Loc X.env.scope x)(hf:X.fn x=true\/X.env.scope.names.lookup x=some .local:=by first|exact .inl rfl|exact .inr rfl|assumption):QG X (.Name x pos) (hName i):=
 Cd (aL hN hi hx hf) j_
def wG:og:=λ ds δ M Q=>match ds with
 |[]=>Q δ M
 |_=>False
def fQ(t:gA)(u:og):og:=λ ds δ M Q=>match ds with
 |d::r=>t d δ M λ δ' M'=>u r δ' M' Q
 |_=>False
theorem Ge:Ri X [] wG:=Cc mj λ v σ H Q ⟨ds,δ,M,Q2,hd,hs,hm,q,k⟩=>by
 cases ds with
 |nil=>exact⟨aq.mp hd,k _ H _ M hs hm (av.refl H) q⟩
 |cons d r=>exact q.elim
theorem BQ{e:Expr}{es:List Expr}{t:gA}{u:og}(h1:QG X e t)(h2:Ri X es u)
  (hs:(assignEach (e::es) X.env).map (·.2)=assign e X.env::(assignEach es X.env).map (·.2):=by rfl):Ri X (e::es) (fQ t u):=Cc (eU h1 h2 hs) λ v σ H Q ⟨ds,δ,M,Q2,hd,hs,hm,q,k⟩=>by
 cases ds with
 |nil=>exact q.elim
 |cons d r=>
  obtain⟨x,xs,rfl,hx,PV⟩:=aj.mp hd
  refine⟨x,xs,rfl,d,δ,M,_,hx,hs,hm,q,λ σ' H' δ' M' wB gO t' q'=>?_⟩
  exact⟨r,δ',M',Q2,aE.mono t' r PV,wB,gO,q',k.mono t'⟩
def wF(n:Nat)(t:og):gA:=λ d δ M Q=>match d with
 | .tup ds=>ds.length=n/\t ds δ M Q
 |_=>False
theorem KZ{es:List Expr}{k:Nat}{t:og}{n:Nat}(hc:X.calm=true)(h:Ri X es t)
  (hn:(assignEach es X.env).length=n:=by rfl) (hst:(assignEach es X.env).findIdx? (·.1)=none:=by rfl):QG X (.Tuple es k pos) (wF n t):=Cd (qw hc h hn hst) λ v σ H Q ⟨d,δ,M,Q2,hd,hs,hm,q,k⟩=>by
 cases d with
 |tup ds=>
  obtain⟨p,xs,rfl,hq,hx⟩:=aS.mp hd
  exact⟨p,xs,rfl,hq,by rw[hx.length];exact q.1,ds,δ,M,Q2,hx,hs,hm,q.2,k⟩
 |_=>exact q.elim
abbrev jL:=D->D->D->Mem->(Mem->Prop)->Prop
def Rq(K:PySem.W.Frag)(H:Hp)(N2:Mem->Prop)(N:Hp->Prop):Prop:=∀H' M',RelM K H' M'->av H H'->N2 M'->N H'
def NL(K:PySem.W.Frag)(r:Ar)(r2:jL):Prop:=∀o i v d j e H M Q2 Q,Dat K H d o->Dat K H j i->Dat K H e v->RelM K H M->r2 d j e M Q2->Rq K H Q2 Q->r o i v H Q
def Er(X:Cx)(r2:jL):Prop:=∃r,rS X r/\NL X.K r r2
def hSub(to ti:bX)(t:jL):gA:=λ e δ M Q=>to δ M λ d M1=>ti δ M1 λ j M2=>t d j e M2 λ M3=>Q δ M3
theorem K1{o i:Expr}{to ti:bX}{t:jL}(ho:QE X o to)(hi:QE X i ti)(hs:Er X t)
  (ha:∀v,assign (.Subscript o i pos) X.env v=(do
   let ov <- holding [v] (eval o X.env)
   let iv <- holding [v,ov] (eval i X.env)
   standAt pos
   holding [v,ov,iv] (setItem ov iv v)
   release [v,ov,iv] []):=by intro _;rfl):QG X (.Subscript o i pos) (hSub to ti t):=by
 obtain⟨r,h1,hr⟩:=hs
 refine Cd (Li ho hi h1 ha) ?_
 rintro v σ H Q ⟨e,δ,M,Q2,hd,hs,hm,q,k⟩
 refine⟨δ,M,_,hs,hm,q,λ x H1 d M1 hx bW t1 q1=>?_⟩
 refine⟨δ,M1,_,hs.mono t1,bW,q1,λ y H2 j M2 hy vj t2 q2=>?_⟩
 exact hr x y v d j e H2 M2 _ _ (Dat.mono t2 d hx) hy (Dat.mono (t1.trans t2) e hd) vj q2 λ H3 M3 DA t3 q3=>k σ H3 δ M3 (hs.mono (t1.trans (t2.trans t3))) DA (t1.trans (t2.trans t3)) q3
def sM(te:bX)(g:gA):jM:=λ E δ M=>te δ M λ d M1=>g d δ M1 E.nx
theorem ve{K:PySem.W.Frag}{g:TG}{g2:gA}(hg:∀v σ H Q,JB K g2 v σ H Q->g v σ H Q):∀E σ H,SM K (sM te g2) E σ H->EV (up K te) g E σ H:=by
 rintro E σ H ⟨δ,M,D2,hs,hm,q,k⟩
 exact⟨δ,M,_,hs,hm,q,λ x H1 d M1 hd bW t1 q1=>hg x σ H1 _ ⟨d,δ,M1,_,hd,hs.mono t1,bW,q1,k.nx.mono t1⟩⟩
theorem KW{tg e:Expr}{g:gA}(he:QE X e te)(hg:QG X tg g)(hs:swapsWithSole [tg] e pos.line X.env=pure false:=by rfl)(hw:swappedStores [tg] e X.env=pure none:=by rfl)
  (h1:(assignEach [tg] X.env).map (·.2)=[assign tg X.env]:=by rfl):QS X (.Assign [tg] e pos) (sM te g):=jm (Lf he hg hs hw h1) (ve λ _ _ _ _ h=>h)
theorem KR{i:Nat}{x:Str}{e:Expr}{pos':Pos}(hN:X.N.Nodup)(hi:X.N[i]?=some x)(hx:Loc X.env.scope x)(he:QE X e te)(hs:swapsWith e (some (.Name x pos')) pos.line X.env=pure false:=by rfl)
  (hf:X.fn x=true\/X.env.scope.names.lookup x=some .local:=by first|exact .inl rfl|exact .inr rfl|assumption):QS X (.Assign [.Name x pos'] e pos) (sM te (hName i)):=jm (Lb hN hi hx he hs hf) (ve j_)
end
end L3
namespace L3
open PySem PySem.Spec L2
inductive Src where
 |fix (ds:List D)
 |at(a:Addr)
 |fn (f:Mem->Option (List D))
def items(s:Src)(M:Mem):Option (List D):=match s with
 | .fix ds=>some ds
 | .at a=>match M a with
  |some (.lst ds)=>some ds
  |_=>none
 | .fn f=>f M
def oQ(K:PySem.W.Frag)(H1:Hp)(J:It)(src:Src):Prop:=∀H M ds,av H1 H->RelM K H M->items src M=some ds->
 (∀i,i < ds.length->J.go i H)/\(∀i,i=ds.length->J.stop i H)/\(∀i x H',i < ds.length->J.EE i H x H'->av H H'/\RelM K H' M/\∃d,ds[i]?=some d/\Dat K H' d x)
abbrev lP:=de->Mem->(Src->Mem->Prop)->Prop
def NT(K:PySem.W.Frag)(t:lP):TI:=λ σ H R=>∃δ M R2,cI K H δ σ/\RelM K H M/\t δ M R2/\∀J H' src M',oQ K H' J src->RelM K H' M'->av H H'->R2 src M'->R J H'
abbrev QI(X:Cx)(tg iter:Expr)(t:lP):Prop:=PI X tg iter (NT X.K t)
theorem xT{X:Cx}{tg iter:Expr}{t t':TI}(h:PI X tg iter t)(k:∀σ H R,t' σ H R->t σ H R):PI X tg iter t':=λ pins s σ H R I q=>h pins s σ H R I (k σ H R q)
def jW(z:Str):List D:=z.cps.toList.map λ c=>D.str ⟨#[c]⟩
def g_(lo:Int)(n:Nat):List D:=(List.range n).map λ i=>D.int (lo+(i:Nat))
theorem aV(lo:Int)(n:Nat):(g_ lo n).length=n:=by simp[g_]
theorem nh{lo:Int}{n i:Nat}(h:i < n):(g_ lo n)[i]?=some (.int (lo+(i:Nat))):=by simp[g_,h]
theorem De{K:PySem.W.Frag}{H1:Hp}{z:Str}:oQ K H1 (Oo z) (.fix (jW z)):=λ H M ds t hm e=>by
 cases e
 have hl:(jW z).length=z.cps.size:=by simp[jW]
 refine⟨λ i hi=>by rw[hl]at hi;exact hi,λ i hi=>by rw[hl]at hi;exact hi,λ i x H' hi y=>?_⟩
 obtain⟨e,c,hc,rfl⟩:=y
 subst e
 refine⟨av.refl _,hm,.str ⟨#[c]⟩,?_,aN.mpr rfl⟩
 simp[jW,hc]
theorem Dc{K:PySem.W.Frag}{H1:Hp}{a:Addr}{xs:List V}{ds:List D}(h:f_ K H1 a xs)(hd:aE K H1 ds xs):oQ K H1 (Vn K a) (.fix ds):=λ H M es t hm e=>by
 cases e
 have hq:=sy t h
 have hx:=aE.mono t ds hd
 have hl:=hx.length
 refine⟨λ i hi=>⟨xs,xs[i]'(by omega),hq,by simp[hl,hi]⟩,λ i hi=>⟨xs,hq,by omega⟩,λ i x H' hi y=>?_⟩
 obtain⟨e,y⟩:=y
 obtain⟨d,h1,h2⟩:=hx.nM (y xs hq)
 subst e
 exact⟨av.refl _,hm,d,h1,h2⟩
theorem Df{K:PySem.W.Frag}{H1:Hp}{a:Addr}:oQ K H1 (SF K a) (.at a):=λ H M ds t hm e=>by
 have e:(match M a with|some (.lst ds)=>some ds|_=>none)=some ds:=e
 cases q:M a with
 |none=>rw[q]at e;cases e
 |some o=>
  cases o with
  |dG b kvs=>rw[q]at e;cases e
  |lst es=>
   rw[q]at e
   have e:es=ds:=B2 e
   subst e
   obtain⟨xs,hx,hd⟩:=hm a _ q
   have hq:dD K H a xs:=dD.of hx
   have hl:=hd.length
   refine⟨λ i hi=>⟨xs,xs[i]'(by omega),hq,by simp[hl,hi]⟩,λ i hi=>⟨xs,hq,by omega⟩,λ i x H' hi y=>?_⟩
   obtain⟨e,y⟩:=y
   obtain⟨d,h1,h2⟩:=hd.nM (y xs hq)
   subst e
   exact⟨av.refl _,hm,d,h1,h2⟩
theorem Ho{K:PySem.W.Frag}{H1:Hp}{a:Addr}{xs:List V}{ds:List D}(h:Jt K H1 a xs)(hd:aE K H1 ds xs):oQ K H1 (SF K a) (.fix ds):=λ H M es t hm e=>by
 cases e
 have hq:=(uk t h).sq
 have hx:=aE.mono t ds hd
 have hl:=hx.length
 refine⟨λ i hi=>⟨xs,xs[i]'(by omega),hq,by simp[hl,hi]⟩,λ i hi=>⟨xs,hq,by omega⟩,λ i x H' hi y=>?_⟩
 obtain⟨e,y⟩:=y
 obtain⟨d,h1,h2⟩:=hx.nM (y xs hq)
 subst e
 exact⟨av.refl _,hm,d,h1,h2⟩
theorem wz{K:PySem.W.Frag}{H1:Hp}{lo:Int}{n:Nat}:oQ K H1 (SE lo n) (.fix (g_ lo n)):=λ H M ds t hm e=>by
 cases e
 rw[aV]
 refine⟨λ i hi=>hi,λ i hi=>Nat.le_of_eq hi.symm,λ i x H' hi y=>?_⟩
 obtain⟨e,rfl⟩:=y
 subst e
 exact⟨av.refl _,hm,_,nh hi,ax.mpr rfl⟩
section
variable {X:Cx}{tg l:Expr}{tl:bX}{ta:iW}{a b:Expr}{p pos:Pos}
def Mt(tl:bX):lP:=λ δ M R=>tl δ M λ d M1=>match d with
 | .str z=>R (.fix (jW z)) M1
 | .tup ds=>R (.fix ds) M1
 | .fl ds=>R (.fix ds) M1
 | .ref a=>match M1 a with
  |some (.lst _)=>R (.at a) M1
  |_=>False
 |_=>False
theorem KY(hl:QE X l tl):QI X tg l (Mt tl):=xT (Lh hl) λ σ H R ⟨δ,M,R2,hs,hm,q,k⟩=>by
 refine⟨δ,M,_,hs,hm,q,λ x H1 d M1 hd bW t1 q1=>?_⟩
 cases d with
 |str z=>
  cases(aN.mp hd)
  exact k _ H1 _ M1 De bW t1 q1
 |tup ds=>
  obtain⟨p,xs,rfl,hq,hx⟩:=aS.mp hd
  exact .inr ⟨xs,hq,k _ H1 _ M1 (Dc hq hx) bW t1 q1⟩
 |fl ds=>
  obtain⟨p,xs,rfl,hq,hx⟩:=iT.mp hd
  exact .inl ⟨xs,hq.sq,k _ H1 _ M1 (Ho hq hx) bW t1 q1⟩
 |ref a=>
  cases(aF.mp hd)
  have q1:(match M1 a with|some (.lst _)=>R2 (.at a) M1|_=>False):=q1
  cases e:M1 a with
  |none=>rw[e]at q1;exact q1.elim
  |some o=>
   cases o with
   |dG b kvs=>rw[e]at q1;exact q1.elim
   |lst es=>
    rw[e]at q1
    obtain⟨xs,hx,_⟩:=bW a _ e
    exact .inl ⟨xs,dD.of hx,k _ H1 _ M1 Df bW t1 q1⟩
 |_=>exact q1.elim
def SH(j:Int):Prop:= -(2^62)<=j/\j < 2^62
theorem cj{j:Int}(h0: -1000000000<=j)(h1:j<=1000000000):SH j:=by
 constructor
 ·exact Int.le_trans (by decide) h0
 ·exact Int.lt_of_le_of_lt h1 (by decide)
def C_(ta:iW):lP:=λ δ M R=>ta δ M λ ds M1=>match ds with
 |[.int j]=>SH j/\R (.fix (g_ 0 j.toNat)) M1
 |_=>False
theorem zu(hg:Gl X "range")(hm:X.mg "range"=none)(ha:QA X [a] ta)(hs:starEach [a] X.env=[(false,eval a X.env)]:=by rfl):QI X tg (.Call (.Name "range" p) [a] [] pos) (C_ ta):=xT (zA hg hm ha hs) λ σ H R ⟨δ,M,R2,hs,hm,q,k⟩=>by
 refine⟨δ,M,_,hs,hm,q,λ xs H1 ds M1 hd bW t1 q1=>?_⟩
 cases ds with
 |nil=>exact q1.elim
 |cons d r=>
  cases r with
  |cons d2 r2=>cases d <;> exact q1.elim
  |nil=>
   cases d with
   |int j=>
    obtain⟨x,r,rfl,hx,hr⟩:=aj.mp hd
    cases(aq.mp hr)
    cases(ax.mp hx)
    obtain⟨⟨b1,b2⟩,q1⟩:=q1
    exact⟨j,rfl,b1,b2,k _ H1 _ M1 wz bW t1 q1⟩
   |_=>exact q1.elim
end
end L3
namespace L3
open PySem PySem.Spec L2
def JY(wi:lP)(g:gA)(tb:jM):jM:=λ E δ M=>wi δ M λ src M1=>∃(B:Nat) (W:Nat->de->Mem->Prop),W 0 δ M1/\∀i δ M,W i δ M->i<=B/\match items src M with
 |none=>False
 |some ds=>match ds[i]? with
  |none=>i=ds.length/\E.nx δ M
  |some d=>g d δ M λ δ2 M2=>tb {E with nx:=W (i+1),ct:=W (i+1),bk:=E.nx} δ2 M2
section
variable {X:Cx}{tg iter:Expr}{wi:lP}{g:gA}{tb:jM}{body:List Stmt}{pos:Pos}
theorem KU(hp:PassesOwn (model X.prog X.w) X.A X.env X.xe)(hc:X.calm=true)(hi:QI X tg iter wi)(hg:QG X tg g)(hb:EC X body tb)(hs:∀x,foldedSetIterable iter X.env x=pure x:=by intro _;rfl):
  QS X (.For tg iter body [] pos) (JY wi g tb):=jm (Ld hp hc hi hg hb hs) λ E σ H ⟨δ,M,D2,hs,hm,q,k⟩=>by
 refine⟨δ,M,_,hs,hm,q,λ J H1 src M1 ok bW t1 q1=>?_⟩
 obtain⟨B,W,w0,turn⟩:=q1
 refine⟨λ i m σ' H'=>m=B+1 - i/\∃δ' M',cI X.K H' δ' σ'/\RelM X.K H' M'/\av H1 H'/\W i δ' M',⟨B+1,rfl,δ,M1,hs.mono t1,bW,av.refl _,w0⟩,?_⟩
 rintro i m σ' H' ⟨rfl,δ',M',wB,gO,t',w'⟩
 obtain⟨hB,h⟩:=turn i δ' M' w'
 cases ei:items src M' with
 |none=>rw[ei]at h;exact h.elim
 |some ds=>
  rw[ei]at h
  obtain⟨go,stop,EE⟩:=ok H' M' ds t' gO ei
  cases ed:ds[i]? with
  |none=>
   simp only[ed]at h
   exact .inl ⟨stop i h.1,k.nx σ' H' δ' M' wB gO (t1.trans t') h.2⟩
  |some d=>
   simp only[ed]at h
   have Qi:i < ds.length:=(i6.mp ed).1
   refine .inr ⟨go i Qi,λ σ2 H2=>∃δ2 M2,cI X.K H2 δ2 σ2/\RelM X.K H2 M2/\av H1 H2/\W (i+1) δ2 M2,λ σ2 H2 ⟨δ2,M2,a,b,c,w2⟩=>⟨B+1 - (i+1),by omega,rfl,δ2,M2,a,b,c,w2⟩,λ x H2 y=>?_⟩
   obtain⟨t2,vj,d',e',iC⟩:=EE i x H2 Qi y
   rw[ed]at e'
   cases e'
   refine⟨d,δ',M',_,iC,wB.mono t2,vj,h,λ σ3 H3 δ3 M3 Sg DA t3 q3=>?_⟩
   refine⟨δ3,M3,_,Sg,DA,q3,⟨?_,?_,?_,?_⟩⟩
   ·exact λ σ4 H4 δ4 M4 a b c w4=>⟨δ4,M4,a,b,t'.trans (t2.trans (t3.trans c)),w4⟩
   ·exact k.rt.mono (t1.trans (t'.trans (t2.trans t3)))
   ·exact k.nx.mono (t1.trans (t'.trans (t2.trans t3)))
   ·exact λ σ4 H4 δ4 M4 a b c w4=>⟨δ4,M4,a,b,t'.trans (t2.trans (t3.trans c)),w4⟩
end
end L3
namespace L3
open PySem PySem.Spec L2
def vJ(c:eO)(tb:jM):jM:=λ E δ M=>∃W:Nat->de->Mem->Prop,(∃m,W m δ M)/\∀m δ M,W m δ M->c δ M λ b M1=>
 if b=true then ∃N:de->Mem->Prop,(∀δ' M',N δ' M'->∃m',m' < m/\W m' δ' M')/\tb {E with nx:=N,ct:=N,bk:=E.nx} δ M1 else E.nx δ M1
section
variable {X:Cx}{c:Expr}{tc:eO}{tb:jM}{body:List Stmt}{pos:Pos}
theorem BP(hp:PassesOwn (model X.prog X.w) X.A X.env X.xe)(hc:QT X c tc)(hb:EC X body tb):QS X (.While c body [] pos) (vJ tc tb):=jm (BY hp hc hb) λ E σ H ⟨δ,M,D2,hs,hm,q,k⟩=>by
 obtain⟨W,⟨m0,w0⟩,turn⟩:=q
 refine⟨λ m σ' H'=>∃δ' M',cI X.K H' δ' σ'/\RelM X.K H' M'/\av H H'/\W m δ' M',⟨m0,δ,M,hs,hm,av.refl _,w0⟩,?_⟩
 rintro m σ' H' ⟨δ',M',wB,gO,t',w'⟩
 refine⟨δ',M',_,wB,gO,turn m δ' M' w',λ b H1 M1 bW t1 q1=>?_⟩
 cases b with
 |false=>
  simp only[p7,J5]at q1
  exact k.nx σ' H1 δ' M1 (wB.mono t1) bW (t'.trans t1) q1
 |true=>
  simp only[if_true]at q1
  obtain⟨N,hN,q1⟩:=q1
  refine⟨λ σ2 H2=>∃δ2 M2,cI X.K H2 δ2 σ2/\RelM X.K H2 M2/\av H H2/\N δ2 M2,λ σ2 H2 ⟨δ2,M2,a,b,c,n2⟩=>?_,?_⟩
  ·obtain⟨m',gO,w2⟩:=hN δ2 M2 n2
   exact⟨m',gO,δ2,M2,a,b,c,w2⟩
  ·refine⟨δ',M1,_,wB.mono t1,bW,q1,⟨?_,?_,?_,?_⟩⟩
   ·exact λ σ4 H4 δ4 M4 a b c w4=>⟨δ4,M4,a,b,t'.trans (t1.trans c),w4⟩
   ·exact k.rt.mono (t'.trans t1)
   ·exact k.nx.mono (t'.trans t1)
   ·exact λ σ4 H4 δ4 M4 a b c w4=>⟨δ4,M4,a,b,t'.trans (t1.trans c),w4⟩
end
end L3
namespace L3
open PySem PySem.Spec L2
def iV(n:Nat)(fr:List Nat)(δ:de):de:=List.replicate n none++fr.map (λ j=>δ.getD j none)
theorem Ia{K:PySem.W.Frag}{H:Hp}{δ:de}{σ:L2.St}(h:cI K H δ σ)(n:Nat)(fr:List Nat):cI K H (iV n fr δ) (fq n fr σ):=by
 refine⟨by simp[iV,fq],λ i d e=>?_⟩
 unfold iV at e
 by_cases hi:i < n
 ·rw[i0 (by simpa using hi),j5,J9 hi]at e
  cases e
 ·rw[e9 (by simpa using hi),l8,s9]at e
  cases ej:fr[i - n]? with
  |none=>rw[ej]at e;cases e
  |some j=>
   rw[ej]at e
   have e:δ.getD j none=some d:=B2 e
   have hj:j < δ.length:=by
    refine y7 λ z=>?_
    rw[g9,l9 z]at e
    cases e
   have e':δ[j]?=some (some d):=by
    rw[g9,i9 hj]at e
    rw[i9 hj]
    exact J7 some e
   obtain⟨v,hv,r⟩:=h.get j d e'
   refine⟨v,?_,r⟩
   unfold fq
   rw[e9 (by simpa using hi),l8,s9,ej]
   simp[g9,hv]
def gn(wi:lP)(g:gA)(tt:eO)(te:bX)(n:Nat)(fr:List Nat):de->Mem->(List D->Mem->Prop)->Prop:=λ δ M Q=>wi δ M λ src M1=>∃(B:Nat) (W:Nat->List D->Mem->Prop),W 0 [] M1/\∀i acc M,W i acc M->i<=B/\acc.length<=sizeLine/\match items src M with
 |none=>False
 |some ds=>match ds[i]? with
  |none=>i=ds.length/\Q acc M
  |some d=>g d (iV n fr δ) M λ δ2 M2=>tt δ2 M2 λ b M3=>if b=true then te δ2 M3 λ y M4=>W (i+1) (acc++[y]) M4 else W (i+1) acc M3
theorem fU{K:PySem.W.Frag}{wi:lP}{g:gA}{tt:eO}{te:bX}{n:Nat}{fr:List Nat}{Qe:List D->Mem->Prop}{σ:L2.St}{δ:de}{H:Hp}{M:Mem}{Q:V->Hp->Prop}{gv:TG}(XB:∀v σ H Q,JB K g v σ H Q->gv v σ H Q)(hs:cI K H δ σ)(hm:RelM K H M)(q:gn wi g tt te n fr δ M Qe)
  (k:∀acc xs H' M' p,aE K H' acc xs->RelM K H' M'->av H H'->acc.length<=sizeLine->H' p=none->Qe acc M'->Q (.ref p) (upd H' p (.lst xs))):mT (NT K wi) gv (xt K tt) (up K te) n fr σ H Q:=by
 refine⟨δ,M,_,hs,hm,q,λ J H1 src M1 ok bW t1 q1=>?_⟩
 obtain⟨B,W,w0,turn⟩:=q1
 refine⟨λ i m xs H'=>m=B+1 - i/\∃acc M',aE K H' acc xs/\RelM K H' M'/\av H1 H'/\W i acc M',⟨B+1,rfl,[],M1,by rw[aq],bW,av.refl _,w0⟩,?_⟩
 rintro i m xs H' ⟨rfl,acc,M',iC,gO,t',w'⟩
 obtain⟨hB,hz,h⟩:=turn i acc M' w'
 refine⟨by rw[iC.length];exact hz,?_⟩
 cases ei:items src M' with
 |none=>rw[ei]at h;exact h.elim
 |some ds=>
  rw[ei]at h
  obtain⟨go,stop,EE⟩:=ok H' M' ds t' gO ei
  cases ed:ds[i]? with
  |none=>
   simp only[ed]at h
   exact .inl ⟨stop i h.1,λ p hp=>k acc xs H' M' p iC gO (t1.trans t') hz hp h.2⟩
  |some d=>
   simp only[ed]at h
   have Qi:i < ds.length:=(i6.mp ed).1
   refine .inr ⟨go i Qi,λ ys H2=>∃Ie M2,aE K H2 Ie ys/\RelM K H2 M2/\av H1 H2/\W (i+1) Ie M2,λ ys H2 ⟨Ie,M2,a,b,c,w2⟩=>⟨B+1 - (i+1),by omega,rfl,Ie,M2,a,b,c,w2⟩,λ x H2 y=>?_⟩
   obtain⟨t2,vj,d',e',IY⟩:=EE i x H2 Qi y
   rw[ed]at e'
   cases e'
   refine XB _ _ _ _ ⟨d,iV n fr δ,M',_,IY,Ia (hs.mono (t1.trans (t'.trans t2))) n fr,vj,h,λ σ3 H3 δ3 M3 Sg DA t3 q3=>?_⟩
   refine⟨δ3,M3,_,Sg,DA,q3,λ b H4 M4 Sj t4 q4=>?_⟩
   cases b with
   |false=>
    rw[K0 p5]at q4 ⊢
    exact⟨acc,M4,aE.mono (t2.trans (t3.trans t4)) acc iC,Sj,t'.trans (t2.trans (t3.trans t4)),q4⟩
   |true=>
    rw[J9 rfl]at q4 ⊢
    exact⟨δ3,M4,_,Sg.mono t4,Sj,q4,λ yv H5 y5 M5 WZ Xr t5 q5=>⟨acc++[y5],M5,(aE.mono (t2.trans (t3.trans (t4.trans t5))) acc iC).append (aE.one WZ),Xr,t'.trans (t2.trans (t3.trans (t4.trans t5))),q5⟩⟩
section
variable {X:Cx}{scope:Scope}{tgs:List Str}{fr:List Nat}{tg elt iter:Expr}{ifs:List Expr}{pos:Pos}{wi:lP}{g:gA}{tt:eO}{te:bX}
abbrev Sz(X:Cx)(ifs:List Expr)(t:eO):Prop:=Ol X ifs (xt X.K t)
def ql:eO:=λ _ M Q=>Q true M
theorem Ga:Sz X [] ql:=λ pins s σ H Q I h=>Gv pins s σ H Q I (by
 obtain⟨δ,M,Q2,hs,hm,q,k⟩:=h
 exact k _ _ _ hm (av.refl H) q)
theorem F'{c:Expr}{t:eO}(h:QT X c t):Sz X [c] t:=Gu h
def Sx(X:Cx)(scope:Scope)(tgs:List Str)(fr:List Nat)(tg:Expr)(g2:gA):Prop:=
 ∃g:TG,(∀cl C fp s H,PG (bG X scope cl tgs fr C fp s H) tg g)/\iY tgs.length g/\∀v σ H Q,JB X.K g2 v σ H Q->g v σ H Q
theorem ES{i:Nat}{x:Str}{ps:Pos}(h:∀cl C fp s H,PG (bG X scope cl tgs fr C fp s H) (.Name x ps) (eX i))(hi:i < tgs.length):Sx X scope tgs fr (.Name x ps) (hName i):=⟨_,h,rg hi,j_⟩
def Et(g:TG):Prop:=∀x σ H Q Q',(∀σ' H',Q σ' H'->Q' σ' H')->g x σ H Q->g x σ H Q'
def rT(g:yS):Prop:=∀xs σ H Q Q',(∀σ' H',Q σ' H'->Q' σ' H')->g xs σ H Q->g xs σ H Q'
theorem rf{i:Nat}:Et (eX i):=λ x σ H Q Q' k q=>k _ _ q
theorem DI:rT Aa:=λ xs σ H Q Q' k q=>⟨q.1,k _ _ q.2⟩
theorem HH{t:TG}{u:yS}(ht:Et t)(hu:rT u):rT (jE t u):=λ xs σ H Q Q' k ⟨v,r,e,q⟩=>⟨v,r,e,ht v σ H _ _ (λ σ' H' q'=>hu r σ' H' _ _ k q') q⟩
theorem yx{n:Nat}{t:TG}{u:yS}(h:iY n t)(k:mF n u)(ht:Et t)(hu:rT u):mF n (jE t u):=λ xs σ H Q ⟨v,r,e,q⟩=>by
 refine⟨v,r,e,ht v σ H _ _ (λ σ' H' ⟨q',l',k'⟩=>?_) (h v σ H _ q)⟩
 refine hu r σ' H' _ _ (λ σ2 H2 ⟨q2,l2,k2⟩=>⟨q2,l2.trans l',λ j hj=>(k2 j hj).trans (k' j hj)⟩) (k r σ' H' _ q')
theorem MZ{K:PySem.W.Frag}{m n:Nat}{t:yS}(h:mF m t):iY m (DL K n t):=λ x σ H Q ⟨a,xs,e,hq,hl,q⟩=>⟨a,xs,e,hq,hl,h xs σ H _ q⟩
theorem zi{K:PySem.W.Frag}{i j:Nat}:∀v σ H Q,JB K (wF 2 (fQ (hName i) (fQ (hName j) wG))) v σ H Q->DL K 2 (jE (eX i) (jE (eX j) Aa)) v σ H Q:=λ v σ H Q ⟨d,δ,M,Q2,hd,hs,hm,q,k⟩=>by
 cases d with
 |tup ds=>
  obtain⟨p,xs,rfl,hq,hx⟩:=aS.mp hd
  obtain⟨hl,q⟩:=q
  match ds,hl,hx,q with
  |[a,b],hl,hx,q=>
   obtain⟨x,r,rfl,ha,hx⟩:=aj.mp hx
   obtain⟨y,r,rfl,hb,hx⟩:=aj.mp hx
   cases(aq.mp hx)
   exact⟨p,[x,y],rfl,hq,rfl,x,[y],rfl,y,[],rfl,rfl,k _ H _ M ((hs.set ha).set hb) hm (av.refl H) q⟩
 |_=>exact q.elim
theorem ER{i j k:Nat}{x y:Str}{px py pt:Pos}(h:∀cl C fp s H,PG (bG X scope cl tgs fr C fp s H) (.Tuple [.Name x px,.Name y py] k pt) (DL X.K 2 (jE (eX i) (jE (eX j) Aa))))(hi:i < tgs.length)(hj:j < tgs.length):
  Sx X scope tgs fr (.Tuple [.Name x px,.Name y py] k pt) (wF 2 (fQ (hName i) (fQ (hName j) wG))):=
 ⟨_,h,MZ (yx (rg hi) (yx (rg hj) M_ rf DI) rf (HH rf DI)),zi⟩
def iZ(X:Cx)(scope:Scope)(tgs:List Str)(fr:List Nat)(tg iter:Expr)(ifs:List Expr)(elt:Expr)(wi:lP)(g:gA)(tt:eO)(te:bX):Prop:=
 lx X scope fr/\X.calm=true/\(∀e s,X.xe e s->False)/\QI X tg iter wi/\Sx X scope tgs fr tg g/\(∀cl C fp s H,Sz (bG X scope cl tgs fr C fp s H) ifs tt)/\(∀cl C fp s H,QE (bG X scope cl tgs fr C fp s H) elt te)
def sL(wi:lP)(g:gA)(tt:eO)(te:bX)(n:Nat)(fr:List Nat):bX:=λ δ M Q=>gn wi g tt te n fr δ M λ ds M'=>∀p,M' p=none->Q (.ref p) (ai M' p (.lst ds))
theorem K8(C:iZ X scope tgs fr tg iter ifs elt wi g tt te)(hs:∀x,foldedSetIterable iter X.env x=pure x:=by intro _;rfl):QE X (.ListComp elt [⟨tg,iter,ifs,0⟩] scope pos) (sL wi g tt te tgs.length fr):=by
 obtain⟨B,hc,hE,hi,⟨gv,hg,gk,gl⟩,ht,he⟩:=C
 refine bS (jo (tt:=xt X.K tt) (te:=up X.K te) B hc hE hi hg gk ht he hs) ?_
 rintro σ H Q ⟨δ,M,Q2,hs,hm,q,k⟩
 exact fU gl hs hm q λ acc xs H' M' p hd gO t' hz hp q'=>k _ _ (.ref p) _ (aF.mpr rfl) (dv hp hd gO) (t'.trans (av.laid hp)) (q' p (gO.free hp))
theorem vS{i:Nat}{y:Str}{py sA:Pos}(hN:X.N.Nodup)(hiy:X.N[i]?=some y)(hy:Loc X.env.scope y)(C:iZ X scope tgs fr tg iter ifs elt wi g tt te)
  (hsw:swapsWith (.ListComp elt [⟨tg,iter,ifs,0⟩] scope pos) (some (.Name y py)) sA.line X.env=pure true:=by rfl)
  (hf:X.fn y=true\/X.env.scope.names.lookup y=some .local:=by first|exact .inl rfl|exact .inr rfl|assumption)
  (hs:∀x,foldedSetIterable iter X.env x=pure x:=by intro _;rfl):QS X (.Assign [.Name y py] (.ListComp elt [⟨tg,iter,ifs,0⟩] scope pos) sA) (sM (sL wi g tt te tgs.length fr) (hName i)):=by
 obtain⟨B,hc,hE,hi,⟨gv,hg,gk,gl⟩,ht,he⟩:=C
 refine jm (vU (tt:=xt X.K tt) (te:=up X.K te) hN hiy hy B hc hE hi hg gk ht he hsw hf hs) ?_
 rintro E σ H ⟨δ,M,D2,hs,hm,q,k⟩
 exact fU gl hs hm q λ acc xs H' M' p hd gO t' hz hp q'=>k.nx _ _ _ _ (((hs.mono t').mono (av.laid hp)).set (aF.mpr rfl)) (dv hp hd gO) (t'.trans (av.laid hp)) (q' p (gO.free hp))
def zp(r3:List D->Mem->bL->Prop)(wi:lP)(g:gA)(tt:eO)(te:bX)(n:Nat)(fr:List Nat):bX:=λ δ M Q=>gn wi g tt te n fr δ M λ ds M'=>r3 ds M' Q
def lp(r2:List D->Mem->bL->Prop)(r3:List D->Mem->bL->Prop):Prop:=∀ds M p Q,M p=none->ds.length<=sizeLine->r3 ds M Q->r2 [.ref p] (ai M p (.lst ds)) (fin2 Q)
theorem uq{K:PySem.W.Frag}{H:Hp}{Q2:bL}{Q:VK}(k:jQ K H Q2 Q):jQ K H (fin2 Q2) Q:=λ v H' d M' hd hm t ⟨Js,s,q⟩=>k v H' d Js hd (hm.sub s) t q
variable {x:Str}{p:Pos}{id T:String}{bJ:Pos}
theorem sv{r:List V->Hp->VK->Prop}{r2 r3:List D->Mem->bL->Prop}{gv:TG}(gl:∀v σ H Q,JB X.K g v σ H Q->gv v σ H Q)(hr:NO X.K r r2)(h3:lp r2 r3):∀σ H Q,up X.K (zp r3 wi g tt te tgs.length fr) σ H Q->Ry r (AV (mT (NT X.K wi) gv (xt X.K tt) (up X.K te) tgs.length fr) JI) σ H Q:=by
 rintro σ H Q ⟨δ,M,Q2,hs,hm,q,k⟩
 show mT (NT X.K wi) gv (xt X.K tt) (up X.K te) tgs.length fr σ H (λ x H1=>r [x] H1 Q)
 refine fU gl hs hm q λ acc xs H' M' p hd gO t' hz hp q'=>?_
 exact hr [.ref p] [.ref p] _ _ (fin2 Q2) Q (aE.one (aF.mpr rfl)) (dv hp hd gO) (h3 acc M' p Q2 (gO.free hp) hz q') (uq (k.mono (t'.trans (av.laid hp))))
theorem K4{r2 r3:List D->Mem->bL->Prop}(o:df X (.builtin id) r2)(h3:lp r2 r3)(hg:Gl X x)(hm:X.mg x=none)(hv:bootBuiltins x=some (.builtin id))(C:iZ X scope tgs fr tg iter ifs elt wi g tt te)(hn:x≠"__name__":=by decide)(hdb:(x==("__debug__":Str))=false:=by decide)
  (hs:∀x,foldedSetIterable iter X.env x=pure x:=by intro _;rfl):QE X (.Call (.Name x p) [.ListComp elt [⟨tg,iter,ifs,0⟩] scope bJ] [] pos) (zp r3 wi g tt te tgs.length fr):=by
 obtain⟨B,hc,hE,hi,⟨gv,DE,gk,gl⟩,ht,he⟩:=C
 obtain⟨r,ho,hr⟩:=o
 exact bS (s_ ho hg hm hv (gq (jo (tt:=xt X.K tt) (te:=up X.K te) B hc hE hi DE gk ht he hs) iR) hn hdb) (sv gl hr h3)
theorem K2{r2 r3:List D->Mem->bL->Prop}(o:df X (.type T) r2)(h3:lp r2 r3)(hg:Gl X x)(hm:X.mg x=none)(hv:bootBuiltins x=some (.type T))(C:iZ X scope tgs fr tg iter ifs elt wi g tt te)(hn:x≠"__name__":=by decide)(hdb:(x==("__debug__":Str))=false:=by decide)
  (hs:∀x,foldedSetIterable iter X.env x=pure x:=by intro _;rfl):QE X (.Call (.Name x p) [.ListComp elt [⟨tg,iter,ifs,0⟩] scope bJ] [] pos) (zp r3 wi g tt te tgs.length fr):=by
 obtain⟨B,hc,hE,hi,⟨gv,DE,gk,gl⟩,ht,he⟩:=C
 obtain⟨r,ho,hr⟩:=o
 exact bS (pv ho hg hm hv (gq (jo (tt:=xt X.K tt) (te:=up X.K te) B hc hE hi DE gk ht he hs) iR) hn hdb) (sv gl hr h3)
variable {o:Expr}{to:bX}{name:Str}{apos:Pos}
def Bf(T:String)(r3:D->List D->Mem->bL->Prop)(to:bX)(wi:lP)(g:gA)(tt:eO)(te:bX)(n:Nat)(fr:List Nat):bX:=λ δ M Q=>to δ M λ d M1=>Ip T d M1/\gn wi g tt te n fr δ M1 λ ds M'=>r3 d ds M' Q
def w_(r2:D->List D->Mem->bL->Prop)(r3:D->List D->Mem->bL->Prop):Prop:=∀d ds M p Q,M p=none->ds.length<=sizeLine->r3 d ds M Q->r2 d [.ref p] (ai M p (.lst ds)) (fin2 Q)
theorem K3{r2 r3:D->List D->Mem->bL->Prop}(pa:PlainAttrs T)(slot:Slot T name id)(hty:typeOf (.builtin id)=pure (.type "method_descriptor"))(hm:Es X id r2)(h3:w_ r2 r3)(ho:QE X o to)(C:iZ X scope tgs fr tg iter ifs elt wi g tt te)
  (hs:∀x,foldedSetIterable iter X.env x=pure x:=by intro _;rfl)
  (hbase:attributeBase o name X.env (eval o X.env)=eval o X.env:=by rfl)
  (hfew:((backTo pos (starEach [.ListComp elt [⟨tg,iter,ifs,0⟩] scope bJ] X.env)).all (λ x=>!x.1)&&(backToKw pos (keywordEach [] X.env)).all (λ x=>x.1.isSome)
   &&decide (([.ListComp elt [⟨tg,iter,ifs,0⟩] scope bJ]:List Expr).length+([]:List Keyword).length+(if([]:List Keyword).isEmpty then 0 else 1) < 30))=true:=by rfl)
  (hline:(apos.endLine==pos.line)=true:=by rfl):
  QE X (.Call (.Attribute o name apos) [.ListComp elt [⟨tg,iter,ifs,0⟩] scope bJ] [] pos) (Bf T r3 to wi g tt te tgs.length fr):=by
 obtain⟨B,hc,hE,hi,⟨gv,DE,gk,gl⟩,ht,he⟩:=C
 obtain⟨r,h1,hr⟩:=hm
 refine bS (IJ pa slot hty h1 ho (gq (jo (tt:=xt X.K tt) (te:=up X.K te) B hc hE hi DE gk ht he hs) iR) hbase hfew hline) ?_
 rintro σ H Q ⟨δ,M,Q2,hs,hm,q,k⟩
 refine⟨δ,M,_,hs,hm,q,λ x H1 d M1 hd bW t1 q1=>⟨q1.1.v hd bW,?_⟩⟩
 show mT (NT X.K wi) gv (xt X.K tt) (up X.K te) tgs.length fr σ H1 (λ y H2=>r x [y] H2 Q)
 refine fU gl (hs.mono t1) bW q1.2 λ acc xs H' M' p uj gO t' hz hp q'=>?_
 exact hr x [.ref p] d [.ref p] _ _ (fin2 Q2) Q (Dat.mono (t'.trans (av.laid hp)) d hd) (aE.one (aF.mpr rfl)) (dv hp uj gO) (h3 d acc M' p Q2 (gO.free hp) hz q') (uq (k.mono (t1.trans (t'.trans (av.laid hp)))))
end
end L3
namespace L3
open PySem PySem.Spec L2
section
variable {X:Cx}
def dI(C:Int->Int->Prop)(g:Int->Int->D):fX:=λ x y M Q=>match x,y with
 | .int i,.int j=>C i j/\Q (g i j) M
 |_,_=>False
def Jr(g:Int->Int->D):fX:=λ x y M Q=>match x,y with
 | .int i,.int j=>Q (g i j) M
 |_,_=>False
theorem si{f:Value->Value->Sem Value}{C:Int->Int->Prop}{g:Int->Int->Int}(h:fu X f (rI C λ i j=>.int (g i j))):fF X f (dI C λ i j=>.int (g i j)):=⟨_,h,λ x y d e H M Q2 Q hd he hm q k=>by
 cases d <;> cases e <;> first
  |exact q.elim
  |(cases(ax.mp hd);cases(ax.mp he);exact⟨_,_,rfl,rfl,q.1,k _ H _ M (ax.mpr rfl) hm (av.refl H) q.2⟩)⟩
theorem Vw{f:Value->Value->Sem Value}{g:Int->Int->Int}(h:fu X f (BN λ i j=>.int (g i j))):fF X f (Jr λ i j=>.int (g i j)):=⟨_,h,λ x y d e H M Q2 Q hd he hm q k=>by
 cases d <;> cases e <;> first
  |exact q.elim
  |(cases(ax.mp hd);cases(ax.mp he);exact⟨_,_,rfl,rfl,k _ H _ M (ax.mpr rfl) hm (av.refl H) q⟩)⟩
theorem Tc{f:Value->Value->Sem Value}{g:Int->Int->Bool}(h:fu X f (BN λ i j=>.bl (g i j))):fF X f (Jr λ i j=>.bl (g i j)):=⟨_,h,λ x y d e H M Q2 Q hd he hm q k=>by
 cases d <;> cases e <;> first
  |exact q.elim
  |(cases(ax.mp hd);cases(ax.mp he);exact⟨_,_,rfl,rfl,k _ H _ M (aW.mpr rfl) hm (av.refl H) q⟩)⟩
theorem xV:fF X (binaryOp .Sub) (Jr λ i j=>.int (i - j)):=Vw Ly
theorem iF:fF X (binaryOp .Mod) (dI (λ _ j=>0 < j) λ i j=>.int (i % j)):=si LF
theorem qz:fF X (binaryOp .FloorDiv) (dI NS λ i j=>.int (i / j)):=si GG
theorem xW:fF X (binaryOp .Pow) (dI Rt λ i j=>.int (i^j.toNat)):=si LA
theorem IP:fF X (binaryOp .BitXor) (Jr λ i j=>.int (Builtin.bitXor i j)):=Vw Lx
theorem LY:fF X (compareOp .Lt) (Jr λ i j=>.bl (decide (i < j))):=Tc Pf
theorem tj:fF X (compareOp .Gt) (Jr λ i j=>.bl (decide (j < i))):=Tc Ph
theorem TJ:fF X (compareOp .GtE) (Jr λ i j=>.bl (decide (j<=i))):=Tc Pj
def HW:fX:=λ x y M Q=>match x,y with
 | .int i,.int j=>Q (.int (i+j)) M
 | .str i,.str j=>i.length+j.length<=sizeLine/\Q (.str (i++j)) M
 | .tup xs,.tup ys=>xs≠[]/\xs.length+ys.length<=sizeLine/\Q (.tup (xs++ys)) M
 | .ref a,.ref b=>match M a,M b with
  |some (.lst xs),some (.lst ys)=>xs.length+ys.length<=sizeLine/\∀p,M p=none->Q (.ref p) (ai M p (.lst (xs++ys)))
  |_,_=>False
 |_,_=>False
theorem Pq:fF X (binaryOp .Add) HW:=⟨_,LK.or (wb.or (LJ.or GH)),λ x y d e H M Q2 Q hd he hm q k=>by
 cases d with
 |int i=>
  cases e with
  |int j=>cases(ax.mp hd);cases(ax.mp he);exact .inl ⟨_,_,rfl,rfl,k _ H _ M (ax.mpr rfl) hm (av.refl H) q⟩
  |_=>exact q.elim
 |str i=>
  cases e with
  |str j=>cases(aN.mp hd);cases(aN.mp he);exact .inr (.inl ⟨_,_,rfl,rfl,q.1,k _ H _ M (aN.mpr rfl) hm (av.refl H) q.2⟩)
  |_=>exact q.elim
 |tup xs=>
  cases e with
  |tup ys=>
   obtain⟨p,vs,rfl,hp,hx⟩:=aS.mp hd
   obtain⟨p2,ws,rfl,h_,hy⟩:=aS.mp he
   obtain⟨gL,hlen,q⟩:=q
   refine .inr (.inr (.inr ⟨p,p2,vs,ws,rfl,rfl,hp,h_,?_,by rw[hx.length,hy.length];exact hlen,?_⟩))
   ·intro z
    have:=hx.length
    rw[z]at this
    exact gL (j7.mp this.symm)
   ·refine⟨λ hz=>?_,λ hz p3 MF=>?_⟩
    ·have W0:ys=[]:=by
      have:=hy.length
      rw[hz]at this
      exact j7.mp this.symm
     subst W0
     rw[A6]at q
     exact k _ H _ M (aS.mpr ⟨p,vs,rfl,hp,hx⟩) hm (av.refl H) q
    ·exact k _ _ _ M (gh MF (hx.append hy)) (hm.laid MF) (av.laid MF) q
  |_=>exact q.elim
 |ref a=>
  cases e with
  |ref b=>
   cases(aF.mp hd);cases(aF.mp he)
   have q:(match M a,M b with|some (.lst xs),some (.lst ys)=>xs.length+ys.length<=sizeLine/\∀p,M p=none->Q2 (.ref p) (ai M p (.lst (xs++ys)))|_,_=>False):=q
   cases ea:M a with
   |none=>rw[ea]at q;exact q.elim
   |some oa=>
    cases eb:M b with
    |none=>rw[ea,eb]at q;cases oa <;> exact q.elim
    |some ob=>
     cases oa with
     |dG b kvs=>rw[ea,eb]at q;exact q.elim
     |lst xs=>
      cases ob with
      |dG b kvs=>rw[ea,eb]at q;exact q.elim
      |lst ys=>
       rw[ea,eb]at q
       obtain⟨vs,VD,DP⟩:=hm a _ ea
       obtain⟨ws,W5,Wa⟩:=hm b _ eb
       refine .inr (.inr (.inl ⟨a,b,vs,ws,rfl,rfl,VD,W5,by rw[DP.length,Wa.length];exact q.1,λ p hp=>?_⟩))
       exact k _ _ (.ref p) _ (aF.mpr rfl) (dv hp (DP.append Wa) hm) (av.laid hp) (q.2 p (hm.free hp))
  |_=>exact q.elim
 |_=>exact q.elim⟩
def HU:fX:=λ x y M Q=>match x,y with
 | .int i,.int j=>rV i j/\Q (.int (i*j)) M
 | .str z,.int n=>MulOk z n/\Q (.str (Txt.mul z n)) M
 |_,_=>False
theorem Po:fF X (binaryOp .Mult) HU:=⟨_,LD.or wa,λ x y d e H M Q2 Q hd he hm q k=>by
 cases d <;> cases e <;> first
  |exact q.elim
  |(cases(ax.mp hd);cases(ax.mp he);exact .inl ⟨_,_,rfl,rfl,q.1,k _ H _ M (ax.mpr rfl) hm (av.refl H) q.2⟩)
  |(cases(aN.mp hd);cases(ax.mp he);exact .inr ⟨_,_,rfl,rfl,q.1,k _ H _ M (aN.mpr rfl) hm (av.refl H) q.2⟩)⟩
def Wc:fX:=λ x y M Q=>match x,y with
 | .int i,.int j=>Q (.bl (decide (i<=j))) M
 | .str i,.str j=>Q (.bl (!decide (j.cps.toList < i.cps.toList))) M
 |_,_=>False
theorem TF:fF X (compareOp .LtE) Wc:=⟨_,Pg.or zB,λ x y d e H M Q2 Q hd he hm q k=>by
 cases d <;> cases e <;> first
  |exact q.elim
  |(cases(ax.mp hd);cases(ax.mp he);exact .inl ⟨_,_,rfl,rfl,k _ H _ M (aW.mpr rfl) hm (av.refl H) q⟩)
  |(cases(aN.mp hd);cases(aN.mp he);exact .inr ⟨_,_,rfl,rfl,k _ H _ M (aW.mpr rfl) hm (av.refl H) q⟩)⟩
def nR:D->Option V
 | .bx=>some .bx
 | .bl b=>some (.bl b)
 | .int i=>some (.int i)
 | .str x=>some (.str x)
 |_=>none
theorem pN{K:PySem.W.Frag}{H:Hp}{d:D}{x v:V}(e:nR d=some v)(h:Dat K H d x):x=v:=by
 cases d with
 |bx=>cases e;exact dW.mp h
 |bl b=>cases e;exact aW.mp h
 |int i=>cases e;exact ax.mp h
 |str z=>cases e;exact aN.mp h
 |ty n=>exact absurd e (by intro z;cases z)
 |ref a=>exact absurd e (by intro z;cases z)
 |tup xs=>exact absurd e (by intro z;cases z)
 |fl xs=>exact absurd e (by intro z;cases z)
theorem nQ{d:D}{v:V}(e:nR d=some v):gF v=true:=by
 cases d with
 |bx=>cases e;rfl
 |bl b=>cases e;rfl
 |int i=>cases e;rfl
 |str z=>cases e;rfl
 |ty n=>exact absurd e (by intro z;cases z)
 |ref a=>exact absurd e (by intro z;cases z)
 |tup xs=>exact absurd e (by intro z;cases z)
 |fl xs=>exact absurd e (by intro z;cases z)
def Nv(neg:Bool):fX:=λ x y M Q=>match x,y with
 | .int i,.int j=>Q (.bl (xor neg (decide (i=j)))) M
 | .bl i,.bl j=>Q (.bl (xor neg (decide (i=j)))) M
 | .str i,.str j=>Q (.bl (xor neg (decide (i=j)))) M
 |_,_=>False
theorem TL:fF X (compareOp .Eq) (Nv false):=⟨_,Pk,λ x y d e H M Q2 Q hd he hm q k=>by
 cases d <;> cases e <;> first
  |exact q.elim
  |(cases(ax.mp hd);cases(ax.mp he);refine⟨rfl,k _ H _ M (aW.mpr rfl) hm (av.refl H) ?_⟩;have q:Q2 (.bl (xor false (decide (_=_)))) M:=q;simpa using q)
  |(cases(aW.mp hd);cases(aW.mp he);refine⟨rfl,k _ H _ M (aW.mpr rfl) hm (av.refl H) ?_⟩;have q:Q2 (.bl (xor false (decide (_=_)))) M:=q;simpa using q)
  |(cases(aN.mp hd);cases(aN.mp he);refine⟨rfl,k _ H _ M (aW.mpr rfl) hm (av.refl H) ?_⟩;have q:Q2 (.bl (xor false (decide (_=_)))) M:=q;simpa using q)⟩
theorem TC:fF X (compareOp .NotEq) (Nv true):=⟨_,Pe,λ x y d e H M Q2 Q hd he hm q k=>by
 cases d <;> cases e <;> first
  |exact q.elim
  |(cases(ax.mp hd);cases(ax.mp he);refine⟨rfl,k _ H _ M (aW.mpr rfl) hm (av.refl H) ?_⟩;have q:Q2 (.bl (xor true (decide (_=_)))) M:=q;simpa using q)
  |(cases(aW.mp hd);cases(aW.mp he);refine⟨rfl,k _ H _ M (aW.mpr rfl) hm (av.refl H) ?_⟩;have q:Q2 (.bl (xor true (decide (_=_)))) M:=q;simpa using q)
  |(cases(aN.mp hd);cases(aN.mp he);refine⟨rfl,k _ H _ M (aW.mpr rfl) hm (av.refl H) ?_⟩;have q:Q2 (.bl (xor true (decide (_=_)))) M:=q;simpa using q)⟩
def Nt(neg:Bool):fX:=λ x y M Q=>match y with
 | .bx=>match x with
  | .bx=>Q (.bl (!neg)) M
  |_=>Q (.bl neg) M
 |_=>False
theorem DV{K:PySem.W.Frag}{H:Hp}{d:D}{x:V}(h:Dat K H d x):decide (x=.bx)=match d with| .bx=>true|_=>false:=by
 cases d with
 |bx=>cases(dW.mp h);rfl
 |bl b=>cases(aW.mp h);rfl
 |int b=>cases(ax.mp h);rfl
 |str b=>cases(aN.mp h);rfl
 |ty b=>cases(wM.mp h);rfl
 |ref b=>cases(aF.mp h);rfl
 |tup b=>obtain⟨p,xs,rfl,_⟩:=aS.mp h;rfl
 |fl b=>obtain⟨p,xs,rfl,_⟩:=iT.mp h;rfl
theorem Ct:fF X (compareOp .Is) (Nt false):=⟨_,LG,λ x y d e H M Q2 Q hd he hm q k=>by
 cases e with
 |bx=>
  refine⟨dW.mp he,?_⟩
  rw[DV hd]
  refine k _ H _ M (aW.mpr rfl) hm (av.refl H) ?_
  cases d <;> exact q
 |_=>exact q.elim⟩
def iG:List D->Option (List V)
 |[]=>some []
 |d::r=>match nR d,iG r with
  |some v,some vs=>some (v::vs)
  |_,_=>none
theorem nP{K:PySem.W.Frag}{H:Hp}:∀{ds:List D} {xs vs:List V},iG ds=some vs->aE K H ds xs->xs=vs/\vs.all gF=true
 |[],xs,vs,e,h=>by cases e;exact⟨aq.mp h,rfl⟩
 |d::r,xs,vs,e,h=>by
  obtain⟨x,ys,rfl,hx,hy⟩:=aj.mp h
  unfold iG at e
  cases e1:nR d with
  |none=>rw[e1]at e;cases e
  |some v=>
   cases e2:iG r with
   |none=>rw[e1,e2]at e;cases e
   |some ws=>
    rw[e1,e2]at e
    cases e
    obtain⟨h1,h2⟩:=nP e2 hy
    exact⟨by rw[pN e1 hx,h1],by rw[all_cons,nQ e1,h2];rfl⟩
def inD(x:D)(ds:List D):Option Bool:=match nR x,iG ds with
 |some v,some vs=>some (Dj v vs)
 |_,_=>none
def Sv:fX:=λ x y M Q=>match y with
 | .str j=>match x with
  | .str i=>Q (.bl (!(Builtin.Str.occurrences j i 0 j.length 1).isEmpty)) M
  |_=>False
 | .tup ds=>match inD x ds with
  |some b=>Q (.bl b) M
  |none=>False
 | .ref a=>match M a with
  |some (.lst ds)=>match inD x ds with
   |some b=>Q (.bl b) M
   |none=>False
  |_=>False
 |_=>False
theorem Dl{K:PySem.W.Frag}{H:Hp}{x:V}{xs:List V}{d:D}{ds:List D}{b:Bool}(e:inD d ds=some b)(hd:Dat K H d x)(hx:aE K H ds xs):gF x=true/\xs.all gF=true/\Dj x xs=b:=by
 unfold inD at e
 cases e1:nR d with
 |none=>rw[e1]at e;cases e
 |some v=>
  cases e2:iG ds with
  |none=>rw[e1,e2]at e;cases e
  |some vs=>
   rw[e1,e2]at e
   have e:Dj v vs=b:=B2 e
   obtain⟨rfl,h2⟩:=nP e2 hx
   cases(pN e1 hd)
   exact⟨nQ e1,h2,e⟩
theorem TH:fF X (compareOp .In) Sv:=⟨_,zC.or zD,λ x y d e H M Q2 Q hd he hm q k=>by
 cases e with
 |str j=>
  cases(aN.mp he)
  cases d with
  |str i=>cases(aN.mp hd);exact .inl ⟨_,_,rfl,rfl,k _ H _ M (aW.mpr rfl) hm (av.refl H) q⟩
  |_=>exact q.elim
 |tup ds=>
  obtain⟨p,xs,rfl,hp,hx⟩:=aS.mp he
  have q:(match inD d ds with|some b=>Q2 (.bl b) M|none=>False):=q
  cases ei:inD d ds with
  |none=>rw[ei]at q;exact q.elim
  |some b=>
   rw[ei]at q
   obtain⟨h1,h2,h3⟩:=Dl ei hd hx
   refine .inr ⟨p,xs,rfl,.inr hp,h1,h2,?_⟩
   simp only[p7,J5]
   rw[h3]
   exact k _ H _ M (aW.mpr rfl) hm (av.refl H) q
 |ref a=>
  cases(aF.mp he)
  have q:(match M a with|some (.lst ds)=>(match inD d ds with|some b=>Q2 (.bl b) M|none=>False)|_=>False):=q
  cases ea:M a with
  |none=>rw[ea]at q;exact q.elim
  |some o=>
   cases o with
   |dG b kvs=>rw[ea]at q;exact q.elim
   |lst ds=>
    rw[ea]at q
    obtain⟨xs,hx,dx⟩:=hm a _ ea
    cases ei:inD d ds with
    |none=>simp only[ei]at q
    |some b=>
     simp only[ei]at q
     obtain⟨h1,h2,h3⟩:=Dl ei hd dx
     refine .inr ⟨a,xs,rfl,.inl (dD.of hx),h1,h2,?_⟩
     simp only[p7,J5]
     rw[h3]
     exact k _ H _ M (aW.mpr rfl) hm (av.refl H) q
 |_=>exact q.elim⟩
end
end L3
namespace L3
open PySem PySem.Spec L2
theorem Ic{K:PySem.W.Frag}{H:Hp}{ds:List D}{xs:List V}(h:aE K H ds xs){i:Int}{d:D}(e:iq ds i=some d):∃x,iq xs i=some x/\Dat K H d x:=by
 unfold iq at e ⊢
 rw[h.length]
 cases q:wy ds.length i with
 |none=>rw[q]at e;cases e
 |some j=>
  rw[q]at e
  obtain⟨x,h1,h2⟩:=h.get (i:=j) e
  exact⟨x,h1,h2⟩
section
variable {X:Cx}
def aY(M:Mem)(a:Addr):Option (List D):=match M a with
 |some (.lst ds)=>some ds
 |_=>none
theorem dO{K:PySem.W.Frag}{H:Hp}{M:Mem}{a:Addr}{ds:List D}(e:aY M a=some ds)(hm:RelM K H M):∃xs,H a=some (.lst xs)/\aE K H ds xs:=by
 unfold aY at e
 cases q:M a with
 |none=>rw[q]at e;cases e
 |some o=>
  cases o with
  |dG b kvs=>rw[q]at e;cases e
  |lst es=>
   rw[q]at e
   cases e
   exact hm a _ q
def cT(M:Mem):D->Option (List D)
 | .tup ds=>some ds
 | .fl ds=>some ds
 | .ref a=>aY M a
 |_=>none
theorem gW{K:PySem.W.Frag}{H:Hp}{M:Mem}{d:D}{v:V}{ds:List D}(e:cT M d=some ds)(hd:Dat K H d v)(hm:RelM K H M):∃p xs,v=.ref p/\(dD K H p xs\/f_ K H p xs)/\aE K H ds xs:=by
 cases d with
 |tup es=>
  cases e
  obtain⟨p,xs,rfl,h,q⟩:=aS.mp hd
  exact⟨p,xs,rfl,.inr h,q⟩
 |fl es=>
  cases e
  obtain⟨p,xs,rfl,h,q⟩:=iT.mp hd
  exact⟨p,xs,rfl,.inl h.sq,q⟩
 |ref a=>
  cases(aF.mp hd)
  obtain⟨xs,h,q⟩:=dO e hm
  exact⟨a,xs,rfl,.inl (dD.of h),q⟩
 |_=>cases e
def Nr:fX:=λ x y M Q=>match y with
 | .int i=>match x with
  | .str z=>z.length<=sizeLine/\(match iq z.cps.toList i with
   |some c=>Q (.str ⟨#[c]⟩) M
   |none=>False)
  |x=>match cT M x with
   |some ds=>(match iq ds i with
    |some d=>Q d M
    |none=>False)
   |none=>False
 |_=>False
theorem qM{x:V}{d:D}{i:Int}{H:Hp}{M:Mem}{Q2:bL}{Q:VK}{K:PySem.W.Frag}(hd:Dat K H d x)(hm:RelM K H M)(k:jQ K H Q2 Q)
  (q:match cT M d with|some ds=>(match iq ds i with|some d=>Q2 d M|none=>False)|none=>False):∃p xs v,x=.ref p/\(dD K H p xs\/f_ K H p xs)/\iq xs i=some v/\Q v H:=by
 cases e:cT M d with
 |none=>rw[e]at q;exact q.elim
 |some ds=>
  rw[e]at q
  cases ei:iq ds i with
  |none=>simp only[ei]at q
  |some d'=>
   simp only[ei]at q
   obtain⟨p,xs,rfl,h,hx⟩:=gW e hd hm
   obtain⟨v,h1,h2⟩:=Ic hx ei
   exact⟨p,xs,v,rfl,h,h1,k v H d' M h2 hm (av.refl H) q⟩
theorem bD:Ro X Nr:=⟨_,L2.bD,λ x y d e H M Q2 Q hd he hm q k=>by
 cases e with
 |int i=>
  cases(ax.mp he)
  cases d with
  |str z=>
   cases(aN.mp hd)
   obtain⟨hz,q⟩:=q
   refine⟨hz,?_⟩
   cases ei:iq z.cps.toList i with
   |none=>rw[ei]at q;exact q.elim
   |some c=>rw[ei]at q;exact⟨c,rfl,k _ H _ M (aN.mpr rfl) hm (av.refl H) q⟩
  |tup ds=>
   obtain⟨p,xs,v,rfl,h⟩:=qM (d:=.tup ds) (i:=i) hd hm k q
   exact⟨xs,v,h⟩
  |fl ds=>
   obtain⟨p,xs,v,rfl,h⟩:=qM (d:=.fl ds) (i:=i) hd hm k q
   exact⟨xs,v,h⟩
  |ref a=>
   obtain⟨p,xs,v,rfl,h⟩:=qM (d:=.ref a) (i:=i) hd hm k q
   exact⟨xs,v,h⟩
  |_=>exact q.elim
 |_=>exact q.elim⟩
def cutD(xs:List D)(lo hi:Option Int):List D:=(xs.drop (HT.ck xs.length 0 lo)).take (HT.ck xs.length xs.length hi - HT.ck xs.length 0 lo)
theorem uL{K:PySem.W.Frag}{H:Hp}{ds:List D}{xs:List V}(h:aE K H ds xs)(lo hi:Option Int):aE K H (cutD ds lo hi) (uM xs lo hi):=by
 unfold cutD uM
 rw[h.length]
 exact(h.drop _).take _
def Wb:D->Option Int->Option Int->Mem->bL->Prop:=λ x lo hi M Q=>match x with
 | .str z=>z.length<=sizeLine/\Q (.str (oM z lo hi)) M
 | .tup ds=>¬(HT.ck ds.length 0 lo=0/\HT.ck ds.length ds.length hi=ds.length)/\Q (.tup (cutD ds lo hi)) M
 | .ref a=>match aY M a with
  |some ds=>∀p,M p=none->Q (.ref p) (ai M p (.lst (cutD ds lo hi)))
  |none=>False
 |_=>False
theorem oB:Rh X Wb:=⟨_,L2.oB,λ x d lo hi H M Q2 Q hd hm q k=>by
 cases d with
 |str z=>cases(aN.mp hd);exact⟨q.1,k _ H _ M (aN.mpr rfl) hm (av.refl H) q.2⟩
 |tup ds=>
  obtain⟨p,xs,rfl,h,hx⟩:=aS.mp hd
  refine .inr ⟨p,xs,rfl,h,by rw[hx.length];exact q.1,λ p2 h_=>?_⟩
  exact k _ _ _ M (gh h_ (uL hx lo hi)) (hm.laid h_) (av.laid h_) q.2
 |ref a=>
  cases(aF.mp hd)
  have q:(match aY M a with|some ds=>∀p,M p=none->Q2 (.ref p) (ai M p (.lst (cutD ds lo hi)))|none=>False):=q
  cases e:aY M a with
  |none=>rw[e]at q;exact q.elim
  |some ds=>
   rw[e]at q
   obtain⟨xs,h,hx⟩:=dO e hm
   exact .inl ⟨a,xs,rfl,dD.of h,λ p hp=>k _ _ (.ref p) _ (aF.mpr rfl) (dv hp (uL hx lo hi) hm) (av.laid hp) (q p (hm.free hp))⟩
 |_=>exact q.elim⟩
def wU:List D->Mem->bL->Prop:=λ xs M Q=>match xs with
 |[.str z]=>z.length<=sizeLine/\Q (.int z.length) M
 |[x]=>match cT M x with
  |some ds=>Q (.int ds.length) M
  |none=>False
 |_=>False
theorem gH:df X (.builtin "len") wU:=⟨_,rJ.or rK,λ xs ds H M Q2 Q hd hm q k=>by
 cases ds with
 |nil=>exact q.elim
 |cons d r=>
  cases r with
  |cons d2 r2=>cases d <;> exact q.elim
  |nil=>
   obtain⟨x,r,rfl,hx,hr⟩:=aj.mp hd
   cases(aq.mp hr)
   have seq:(match cT M d with|some ds=>Q2 (.int ds.length) M|none=>False)->∃p ys,[x]=[V.ref p]/\(dD X.K H p ys\/f_ X.K H p ys)/\Q (.int ys.length) H:=λ q=>by
    cases e:cT M d with
    |none=>rw[e]at q;exact q.elim
    |some es=>
     rw[e]at q
     obtain⟨p,ys,rfl,h,hy⟩:=gW e hx hm
     refine⟨p,ys,rfl,h,?_⟩
     rw[hy.length]
     exact k _ H _ M (ax.mpr rfl) hm (av.refl H) q
   cases d with
   |str z=>cases(aN.mp hx);exact .inl ⟨z,rfl,q.1,k _ H _ M (ax.mpr rfl) hm (av.refl H) q.2⟩
   |tup es=>exact .inr (seq q)
   |fl es=>exact .inr (seq q)
   |ref a=>exact .inr (seq q)
   |_=>exact q.elim⟩
def dList:List D->Mem->bL->Prop:=λ xs M Q=>match xs with
 |[x]=>match cT M x with
  |some ds=>∀p,M p=none->Q (.ref p) (ai M p (.lst ds))
  |none=>False
 |_=>False
theorem Ei:df X (.type "list") dList:=⟨_,rH,λ xs ds H M Q2 Q hd hm q k=>by
 cases ds with
 |nil=>exact q.elim
 |cons d r=>
  cases r with
  |cons d2 r2=>exact q.elim
  |nil=>
   obtain⟨x,r,rfl,hx,hr⟩:=aj.mp hd
   cases(aq.mp hr)
   have q:(match cT M d with|some ds=>∀p,M p=none->Q2 (.ref p) (ai M p (.lst ds))|none=>False):=q
   cases e:cT M d with
   |none=>rw[e]at q;exact q.elim
   |some es=>
    rw[e]at q
    obtain⟨p,ys,rfl,h,hy⟩:=gW e hx hm
    exact⟨p,ys,rfl,h,λ l hl=>k _ _ (.ref l) _ (aF.mpr rfl) (dv hl hy hm) (av.laid hl) (q l (hm.free hl))⟩⟩
def rq:List D->Mem->bL->Prop:=λ xs M Q=>match xs with
 |[x]=>match cT M x with
  |some ds=>Q (.tup ds) M
  |none=>False
 |_=>False
theorem eI:df X (.type "tuple") rq:=⟨_,oN,λ xs ds H M Q2 Q hd hm q k=>by
 cases ds with
 |nil=>exact q.elim
 |cons d r=>
  cases r with
  |cons d2 r2=>exact q.elim
  |nil=>
   obtain⟨x,r,rfl,hx,hr⟩:=aj.mp hd
   cases(aq.mp hr)
   have q:(match cT M d with|some ds=>Q2 (.tup ds) M|none=>False):=q
   cases e:cT M d with
   |none=>rw[e]at q;exact q.elim
   |some es=>
    rw[e]at q
    obtain⟨p,ys,rfl,h|h,hy⟩:=gW e hx hm
    ·exact⟨p,ys,rfl,.inl ⟨h,λ l hl=>k _ _ (.tup es) M (gh hl hy) (hm.laid hl) (av.laid hl) q⟩⟩
    ·exact⟨p,ys,rfl,.inr ⟨h,k _ H (.tup es) M (aS.mpr ⟨p,ys,rfl,h,hy⟩) hm (av.refl H) q⟩⟩⟩
theorem eJ:lp rq (λ ds M Q=>Q (.tup ds) M):=λ ds M p Q hp hz q=>by
 show(match cT (ai M p (.lst ds)) (.ref p)with|some es=>fin2 Q (.tup es) (ai M p (.lst ds))|none=>False)
 have e:cT (ai M p (.lst ds)) (.ref p)=some ds:=by
  show aY (ai M p (.lst ds)) p=some ds
  unfold aY
  rw[ag]
 rw[e]
 exact⟨M,(lQ.refl M).put hp,q⟩
def lN:List D->Option (List Bool)
 |[]=>some []
 | .bl b::r=>(lN r).map (b::·)
 |_::_=>none
theorem nY:∀(bs:List Bool),lN (bs.map D.bl)=some bs
 |[]=>rfl
 |b::bs=>by rw[D1];unfold lN;rw[nY bs];rfl
theorem yO:∀{ds:List D} {bs:List Bool},lN ds=some bs->ds=bs.map D.bl
 |[],bs,e=>by cases e;rfl
 |d::r,bs,e=>by
  cases d with
  |bl b=>
   unfold lN at e
   cases q:lN r with
   |none=>rw[q]at e;cases e
   |some cs=>
    rw[q]at e
    cases e
    rw[yO q]
    rfl
  |_=>cases e
def Q5:List D->Mem->bL->Prop:=λ xs M Q=>match xs with
 |[.ref a]=>match aY M a with
  |some ds=>match lN ds with
   |some bs=>Q (.bl (bs.all id)) M
   |none=>False
  |none=>False
 |_=>False
theorem Ra(hc:X.calm=true):df X (.builtin "all") Q5:=⟨_,uX hc,λ xs ds H M Q2 Q hd hm q k=>by
 cases ds with
 |nil=>exact q.elim
 |cons d r=>
  cases r with
  |cons d2 r2=>cases d <;> exact q.elim
  |nil=>
   cases d with
   |ref a=>
    obtain⟨x,r,rfl,hx,hr⟩:=aj.mp hd
    cases(aq.mp hr)
    cases(aF.mp hx)
    have q:(match aY M a with|some ds=>(match lN ds with|some bs=>Q2 (.bl (bs.all id)) M|none=>False)|none=>False):=q
    cases e:aY M a with
    |none=>rw[e]at q;exact q.elim
    |some es=>
     rw[e]at q
     cases eb:lN es with
     |none=>simp only[eb]at q
     |some bs=>
      simp only[eb]at q
      obtain⟨ys,h,hy⟩:=dO e hm
      rw[yO eb]at hy
      exact⟨a,bs,rfl,dD.of (by rw[h,uG hy]),k _ H _ M (aW.mpr rfl) hm (av.refl H) q⟩
   |_=>exact q.elim⟩
theorem kg{M:Mem}{p:Addr}{ds:List D}:aY (ai M p (.lst ds)) p=some ds:=by unfold aY;rw[ag]
def yK:List D->Mem->bL->Prop:=λ ds M Q=>match lN ds with
 |some bs=>Q (.bl (bs.all id)) M
 |none=>False
theorem EM:lp Q5 yK:=λ ds M p Q hp hz q=>by
 show(match aY (ai M p (.lst ds)) p with|some Yr=>(match lN Yr with|some bs=>fin2 Q (.bl (bs.all id)) (ai M p (.lst ds))|none=>False)|none=>False)
 rw[kg]
 unfold yK at q
 cases eb:lN ds with
 |none=>rw[eb]at q;exact q.elim
 |some bs=>
  rw[eb]at q
  simp only[eb]
  exact⟨M,(lQ.refl M).put hp,q⟩
def mQ(M:Mem):D->Option String
 | .bx=>some "NoneType"
 | .bl _=>some "bool"
 | .int _=>some "int"
 | .str _=>some "str"
 | .tup _=>some "tuple"
 | .fl _=>some "list"
 | .ref a=>(aY M a).map λ _=>"list"
 |_=>none
def qN(n T:String):Bool:=n==T||(n=="bool"&&T=="int")
structure gJ(K:PySem.W.Frag)(T:String):Prop where
 bx:PySem.W.kitOne K (.type "NoneType") (.type T)=some (qN "NoneType" T)
 bl:PySem.W.kitOne K (.type "bool") (.type T)=some (qN "bool" T)
 int:PySem.W.kitOne K (.type "int") (.type T)=some (qN "int" T)
 str:PySem.W.kitOne K (.type "str") (.type T)=some (qN "str" T)
 tup:PySem.W.kitOne K (.type "tuple") (.type T)=some (qN "tuple" T)
 lst:PySem.W.kitOne K (.type "list") (.type T)=some (qN "list" T)
end
end L3
namespace L3
open PySem PySem.Spec L2
section
variable {X:Cx}
theorem Ef:dH X (.builtin "isinstance") (λ xs H Q=>∃(x:V) (T n:String),xs=[x,.ty T]/\gJ X.K T/\
  ((x=.bx/\n="NoneType")\/(∃b,x=.bl b/\n="bool")\/(∃i,x=.int i/\n="int")\/(∃z,x=.str z/\n="str")\/(∃p ys,x=.ref p/\f_ X.K H p ys/\n="tuple")\/(∃p ys,x=.ref p/\dD X.K H p ys/\n="list"))/\Q (.bl (qN n T)) H):=by
 intro pins s σ H xs us Q I r h
 obtain⟨x,T,n,rfl,ok,hx,q⟩:=h
 obtain⟨u,w',rfl,rx,ry⟩:=vals2 r
 have e:w'=Value.type T:=ry
 subst e
 rcases hx with⟨rfl,rfl⟩|⟨b,rfl,rfl⟩|⟨i,rfl,rfl⟩|⟨z,rfl,rfl⟩|⟨p,ys,rfl,hq,rfl⟩|⟨p,ys,rfl,hq,rfl⟩
 ·exact iy I rx .bx ok.bx λ tk=>⟨.bl _,H,I.tok tk,rfl,q⟩
 ·exact iy I rx (.bl b) ok.bl λ tk=>⟨.bl _,H,I.tok tk,rfl,q⟩
 ·exact iy I rx (.int i) ok.int λ tk=>⟨.bl _,H,I.tok tk,rfl,q⟩
 ·exact iy I rx (.str z) ok.str λ tk=>⟨.bl _,H,I.tok tk,rfl,q⟩
 ·cases(show u=Value.ref p from rx)
  obtain⟨au,_,⟨o,h1,h2,_⟩,_⟩:=I.tuple hq
  exact B6 PySem.W.kitx_tuple I.oE ⟨o,h1,h2⟩ ok.tup (λ z=>nomatch z) λ tk=>⟨.bl _,H,I.tok tk,rfl,q⟩
 ·cases(show u=Value.ref p from rx)
  obtain⟨au,_,pl,_⟩:=I.list hq
  obtain⟨o,h1,h2,_⟩:=pl.isList
  exact B6 PySem.W.kitx_list I.oE ⟨o,h1,h2⟩ ok.lst (λ z=>nomatch z) λ tk=>⟨.bl _,H,I.tok tk,rfl,q⟩
def Jp(T:String):List D->Mem->bL->Prop:=λ xs M Q=>match xs with
 |[x,.ty U]=>U=T/\(match mQ M x with
  |some n=>Q (.bl (qN n T)) M
  |none=>False)
 |_=>False
theorem gI{T:String}(ok:gJ X.K T):df X (.builtin "isinstance") (Jp T):=⟨_,Ef,λ xs ds H M Q2 Q hd hm q k=>by
 cases ds with
 |nil=>exact q.elim
 |cons d r0=>
 cases r0 with
 |nil=>exact q.elim
 |cons d2 r1=>
 cases r1 with
 |cons _ _=>cases d2 <;> exact q.elim
 |nil=>
 cases d2 with
 |ty U=>
  obtain⟨x,r,rfl,hx,hr⟩:=aj.mp hd
  obtain⟨y,r2,rfl,hy,Hz⟩:=aj.mp hr
  cases(aq.mp Hz)
  cases(wM.mp hy)
  obtain⟨rfl,q⟩:=q
  cases e:mQ M d with
  |none=>rw[e]at q;exact q.elim
  |some n=>
   rw[e]at q
   refine⟨x,U,n,rfl,ok,?_,k _ H _ M (aW.mpr rfl) hm (av.refl H) q⟩
   cases d with
   |bx=>cases e;exact .inl ⟨dW.mp hx,rfl⟩
   |bl b=>cases e;exact .inr (.inl ⟨b,aW.mp hx,rfl⟩)
   |int i=>cases e;exact .inr (.inr (.inl ⟨i,ax.mp hx,rfl⟩))
   |str z=>cases e;exact .inr (.inr (.inr (.inl ⟨z,aN.mp hx,rfl⟩)))
   |tup es=>
    cases e
    obtain⟨p,ys,rfl,h,_⟩:=aS.mp hx
    exact .inr (.inr (.inr (.inr (.inl ⟨p,ys,rfl,h,rfl⟩))))
   |fl es=>
    cases e
    obtain⟨p,ys,rfl,h,_⟩:=iT.mp hx
    exact .inr (.inr (.inr (.inr (.inr ⟨p,ys,rfl,h.sq,rfl⟩))))
   |ref a=>
    cases el:aY M a with
    |none=>
     have e:(aY M a).map (λ _=>"list")=some n:=e
     rw[el]at e;cases e
    |some es=>
     have e:(aY M a).map (λ _=>"list")=some n:=e
     rw[el]at e;cases e
     obtain⟨ys,h,_⟩:=dO el hm
     exact .inr (.inr (.inr (.inr (.inr ⟨a,ys,aF.mp hx,dD.of h,rfl⟩))))
   |ty n=>cases e
 |_=>exact q.elim⟩
def fI:List D->Option (List Str)
 |[]=>some []
 | .str z::r=>(fI r).map (z::·)
 |_::_=>none
theorem sx:∀{ds:List D} {zs:List Str},fI ds=some zs->ds=zs.map D.str
 |[],zs,e=>by cases e;rfl
 |d::r,zs,e=>by
  cases d with
  |str z=>
   unfold fI at e
   cases q:fI r with
   |none=>rw[q]at e;cases e
   |some ys=>
    rw[q]at e
    cases e
    rw[sx q]
    rfl
  |_=>cases e
theorem pe:∀(zs:List Str),fI (zs.map D.str)=some zs
 |[]=>rfl
 |b::bs=>by rw[D1];unfold fI;rw[pe bs];rfl
def nW:D->List D->Mem->bL->Prop:=λ x ds M Q=>match x with
 | .str z=>match fI ds with
  |some ys=>(ys.map (·.length)).sum+ys.length*z.length<=16777216/\Q (.str (Txt.join z ys)) M
  |none=>False
 |_=>False
def Jo:D->List D->Mem->bL->Prop:=λ x vs M Q=>match vs with
 |[.ref a]=>match aY M a with
  |some ds=>nW x ds M Q
  |none=>False
 |_=>False
theorem Mh:Es X "str.join" Jo:=⟨_,GZ,λ x xs d ds H M Q2 Q hx hd hm q k=>by
 cases ds with
 |nil=>exact q.elim
 |cons d1 r0=>
 cases r0 with
 |cons _ _=>cases d1 <;> exact q.elim
 |nil=>
 cases d1 with
 |ref a=>
  obtain⟨y,r,rfl,hy,hr⟩:=aj.mp hd
  cases(aq.mp hr)
  cases(aF.mp hy)
  have q:(match aY M a with|some ds=>nW d ds M Q2|none=>False):=q
  cases e:aY M a with
  |none=>rw[e]at q;exact q.elim
  |some es=>
   rw[e]at q
   cases d with
   |str z=>
    have q:(match fI es with|some ys=>(ys.map (·.length)).sum+ys.length*z.length<=16777216/\Q2 (.str (Txt.join z ys)) M|none=>False):=q
    cases Nf:fI es with
    |none=>rw[Nf]at q;exact q.elim
    |some ys=>
     rw[Nf]at q
     obtain⟨vs,h,hv⟩:=dO e hm
     rw[sx Nf]at hv
     exact⟨z,a,ys,aN.mp hx,rfl,dD.of (by rw[h,pQ hv]),q.1,k _ H _ M (aN.mpr rfl) hm (av.refl H) q.2⟩
   |_=>exact q.elim
 |_=>exact q.elim⟩
theorem AU:w_ Jo nW:=λ d ds M p Q hp hz q=>by
 show(match aY (ai M p (.lst ds)) p with|some es=>nW d es (ai M p (.lst ds)) (fin2 Q)|none=>False)
 rw[kg]
 cases d with
 |str z=>
  have q:(match fI ds with|some ys=>(ys.map (·.length)).sum+ys.length*z.length<=16777216/\Q (.str (Txt.join z ys)) M|none=>False):=q
  show(match fI ds with|some ys=>(ys.map (·.length)).sum+ys.length*z.length<=16777216/\fin2 Q (.str (Txt.join z ys)) (ai M p (.lst ds))|none=>False)
  cases e:fI ds with
  |none=>rw[e]at q;exact q.elim
  |some ys=>rw[e]at q;exact⟨q.1,M,(lQ.refl M).put hp,q.2⟩
 |_=>exact q.elim
def HS:jL:=λ o i v M N=>match o,i with
 | .ref a,.int k=>match aY M a with
  |some ds=>(match wy ds.length k with
   |some j=>N (ai M a (.lst (ds.set j v)))
   |none=>False)
  |none=>False
 |_,_=>False
theorem kT:Er X HS:=⟨_,set_list,λ o i v d j e H M Q2 Q hd hj he hm q k=>by
 cases d with
 |ref a=>
  cases j with
  |int n=>
   cases(aF.mp hd);cases(ax.mp hj)
   have q:(match aY M a with|some ds=>(match wy ds.length n with|some j=>Q2 (ai M a (.lst (ds.set j e)))|none=>False)|none=>False):=q
   cases el:aY M a with
   |none=>rw[el]at q;exact q.elim
   |some ds=>
    rw[el]at q
    cases ei:wy ds.length n with
    |none=>simp only[ei]at q
    |some m=>
     simp only[ei]at q
     obtain⟨xs,h,hx⟩:=dO el hm
     refine⟨a,xs,n,m,rfl,rfl,h,by rw[hx.length];exact ei,?_⟩
     exact k _ _ (hm.put (u:=.lst (ds.set m e)) (av.lst h) ⟨_,bB,aE.mono (av.lst h) _ (hx.set he m)⟩) (av.lst h) q
  |_=>exact q.elim
 |_=>exact q.elim⟩
end
end L3
namespace L3
open PySem L2
section
variable {δ:de}{M M1:Mem}{Q:bL}{ta tb tc:bX}{r r':fX}{E:jP}{t u:jM}{c c':eO}{QB:Bool->Mem->Prop}{tl:iW}{QL:List D->Mem->Prop}
theorem Kg(h:t {E with nx:=u E} δ M):Fd t u E δ M:=h
theorem Ku(h:c δ M λ b M1=>if b=true then t E δ M1 else u E δ M1):JX c t u E δ M:=h
theorem Ft(h:E.nx δ M):Bh E δ M:=h
theorem Kh(h:ta δ M E.rt):JT ta E δ M:=h
theorem KD{g:gA}(h:ta δ M λ d M1=>g d δ M1 E.nx):sM ta g E δ M:=h
theorem FJ(h:ta δ M λ _ M1=>E.nx δ M1):Bk ta E δ M:=h
theorem xJ{i:Nat}{d:D}{N:de->Mem->Prop}(h:N (δ.set i (some d)) M):hName i d δ M N:=h
theorem Kf{d:D}{N:de->Mem->Prop}{s:jL}(h:ta δ M λ o M1=>tb δ M1 λ j M2=>s o j d M2 λ M3=>N δ M3):hSub ta tb s d δ M N:=h
theorem Bu{a:Addr}{k:Int}{v:D}{ds:List D}{j:Nat}{N:Mem->Prop}(h:M a=some (.lst ds))(e:wy ds.length k=some j)(q:N (ai M a (.lst (ds.set j v)))):HS (.ref a) (.int k) v M N:=by
 show(match aY M a with|some ds=>(match wy ds.length k with|some j=>N (ai M a (.lst (ds.set j v)))|none=>False)|none=>False)
 have e1:aY M a=some ds:=by unfold aY;rw[h]
 rw[e1]
 simp only[e]
 exact q
theorem Fi(h:ta δ M λ d M1=>match d with| .bl k=>QB k M1|_=>False):sJ ta δ M QB:=h
theorem OL(h:ta δ M λ d M1=>tb δ M1 λ e M2=>r d e M2 Q):Ex r ta tb δ M Q:=h
theorem Kc{i:Nat}{d:D}(e:δ[i]?=some (some d))(h:Q d M):Be i δ M Q:=by unfold Be;rw[e];exact h
theorem Tj{d:D}(h:Q d M):sC d δ M Q:=h
theorem KG(h:c δ M λ b M1=>if b=true then c' δ M1 QB else QB false M1):J_ c c' δ M QB:=h
theorem OK(h:c δ M λ b M1=>if b=true then QB true M1 else c' δ M1 QB):Te c c' δ M QB:=h
theorem Kj(h:c δ M λ b M1=>QB (!b) M1):JU c δ M QB:=h
theorem FR(h:ta δ M λ d M1=>match d with| .bl c=>(if c=true then tb δ M1 Q else Q (.bl false) M1)|_=>False):Bo ta tb δ M Q:=h
theorem Kk(h:QL [] M):JV δ M QL:=h
theorem FK(h:ta δ M λ d M1=>tl δ M1 λ ds M2=>QL (d::ds) M2):Bm ta tl δ M QL:=h
theorem Kd(h:tl δ M λ ds M1=>ds.length<=sizeLine/\Q (.tup ds) M1):JS tl δ M Q:=h
theorem Kp(h:tl δ M λ ds M1=>ds.length<=sizeLine/\∀p,M1 p=none->Q (.ref p) (ai M1 p (.lst ds))):JW tl δ M Q:=h
theorem ON{s:List D->Mem->bL->Prop}(h:tl δ M λ ds M1=>s ds M1 Q):NW s tl δ M Q:=h
theorem Ti{sp:fe}(h:tl δ M λ ds M1=>sp ds M1 Q):sD sp tl δ M Q:=h
theorem OJ{s:D->Option Int->Option Int->Mem->bL->Prop}{l h':Ih}(h:ta δ M λ d M1=>l δ M1 λ i M2=>h' δ M2 λ j M3=>s d i j M3 Q):Td s ta l h' δ M Q:=h
theorem zr{QO:Option Int->Mem->Prop}(h:QO none M):qo δ M QO:=h
theorem Fs{QO:Option Int->Mem->Prop}(h:ta δ M λ d M1=>match d with| .int i=>QO (some i) M1|_=>False):Bg ta δ M QO:=h
theorem OO{T:String}{s:D->List D->Mem->bL->Prop}(h:ta δ M λ d M1=>Ip T d M1/\tl δ M1 λ ds M2=>s d ds M2 Q):Tf T s ta tl δ M Q:=h
theorem KC{T:String}{s:D->List D->Mem->bL->Prop}(h:ta δ M λ d M1=>Ip T d M1/\s d [] M1 Q):JZ T s ta δ M Q:=h
theorem iP(W:de->Mem->Prop)(h1:∀N:de->Mem->Prop,(∀δ' M',W δ' M'->N δ' M')->t {E with nx:=N} δ M)(h2:∀δ' M',W δ' M'->u E δ' M'):Fd t u E δ M:=h1 (u E) h2
theorem oY{M:Mem}{a:Addr}{o:MO}(h:M a=some o):ai M a o=M:=by
 funext b
 unfold ai
 split
 ·rename_i e;rw[e,h]
 ·rfl
theorem bP{a:Addr}{i:Int}{ds:List D}{d:D}(h:M a=some (.lst ds))(e:iq ds i=some d)(q:Q d M):Nr (.ref a) (.int i) M Q:=by
 show(match aY M a with|some ds=>(match iq ds i with|some d=>Q d M|none=>False)|none=>False)
 have e1:aY M a=some ds:=by unfold aY;rw[h]
 rw[e1]
 simp only[e]
 exact q
theorem jY{i:Int}{ds:List D}{d:D}(e:iq ds i=some d)(q:Q d M):Nr (.tup ds) (.int i) M Q:=by
 show(match iq ds i with|some d=>Q d M|none=>False)
 rw[e]
 exact q
theorem vP{i:Int}{z:Str}{x:Nat}(hz:z.length<=sizeLine)(e:iq z.cps.toList i=some x)(q:Q (.str ⟨#[x]⟩) M):Nr (.str z) (.int i) M Q:=by
 refine⟨hz,?_⟩
 show(match iq z.cps.toList i with|some c=>Q (.str ⟨#[c]⟩) M|none=>False)
 rw[e]
 exact q
theorem FF{C:Int->Int->Prop}{g:Int->Int->D}{i j:Int}(h:C i j)(q:Q (g i j) M):dI C g (.int i) (.int j) M Q:=⟨h,q⟩
theorem Kn{g:Int->Int->D}{i j:Int}(h:0 < j)(q:Q (g i j) M):dI (λ _ j=>0 < j) g (.int i) (.int j) M Q:=⟨h,q⟩
theorem KA{g:Int->Int->D}{i j:Int}(h:0 < j)(h2:j < 1073741824)(q:Q (g i j) M):dI NS g (.int i) (.int j) M Q:=⟨⟨h,h2⟩,q⟩
theorem wV{i j:Int}(h0: -1000000000000<=i)(h1:i<=1000000000000):rV i j:=.inl ⟨Int.lt_of_lt_of_le (by decide) h0,Int.lt_of_le_of_lt h1 (by decide)⟩
theorem Ed{i j:Int}(h0: -1000000000000<=j)(h1:j<=1000000000000):rV i j:=.inr ⟨Int.lt_of_lt_of_le (by decide) h0,Int.lt_of_le_of_lt h1 (by decide)⟩
theorem OM{g:Int->Int->D}{i j:Int}(q:Q (g i j) M):Jr g (.int i) (.int j) M Q:=q
theorem FT{a b:Addr}{xs ys:List D}(ha:M a=some (.lst xs))(hb:M b=some (.lst ys))(h:xs.length+ys.length<=sizeLine)(q:∀p,M p=none->Q (.ref p) (ai M p (.lst (xs++ys)))):HW (.ref a) (.ref b) M Q:=by
 show(match M a,M b with|some (.lst xs),some (.lst ys)=>xs.length+ys.length<=sizeLine/\∀p,M p=none->Q (.ref p) (ai M p (.lst (xs++ys)))|_,_=>False)
 rw[ha,hb]
 exact⟨h,q⟩
theorem Fw{i j:Int}(h:rV i j)(q:Q (.int (i*j)) M):HU (.int i) (.int j) M Q:=⟨h,q⟩
theorem Fv{i:Str}{j:Int}(h:MulOk i j)(q:Q (.str (Txt.mul i j)) M):HU (.str i) (.int j) M Q:=⟨h,q⟩
theorem Kq{i j:Int}(q:Q (.bl (decide (i<=j))) M):Wc (.int i) (.int j) M Q:=q
theorem Kx{i j:Int}(q:Q (.bl (decide (i=j))) M):Nv false (.int i) (.int j) M Q:=by
 show Q (.bl (xor false (decide (i=j)))) M
 simpa using q
theorem Kz{i j:Bool}(q:Q (.bl (decide (i=j))) M):Nv false (.bl i) (.bl j) M Q:=by
 show Q (.bl (xor false (decide (i=j)))) M
 simpa using q
theorem Kw{i j:Str}(q:Q (.bl (decide (i=j))) M):Nv false (.str i) (.str j) M Q:=by
 show Q (.bl (xor false (decide (i=j)))) M
 simpa using q
theorem Km{i j:Bool}(q:Q (.bl (!decide (i=j))) M):Nv true (.bl i) (.bl j) M Q:=by
 show Q (.bl (xor true (decide (i=j)))) M
 simpa using q
theorem FA{a:Addr}{ds:List D}(h:M a=some (.lst ds))(q:Q (.int ds.length) M):wU [.ref a] M Q:=by
 show(match aY M a with|some ds=>Q (.int ds.length) M|none=>False)
 have e1:aY M a=some ds:=by unfold aY;rw[h]
 rw[e1]
 exact q
theorem Fz{ds:List D}(q:Q (.int ds.length) M):wU [.tup ds] M Q:=q
theorem Ks{x:D}{ds:List D}{b:Bool}(e:inD x ds=some b)(q:Q (.bl b) M):Sv x (.tup ds) M Q:=by
 show(match inD x ds with|some b=>Q (.bl b) M|none=>False)
 rw[e]
 exact q
theorem Kt{x:D}{a:Addr}{ds:List D}{b:Bool}(h:M a=some (.lst ds))(e:inD x ds=some b)(q:Q (.bl b) M):Sv x (.ref a) M Q:=by
 show(match M a with|some (.lst ds)=>(match inD x ds with|some b=>Q (.bl b) M|none=>False)|_=>False)
 rw[h]
 simp only[e]
 exact q
theorem BA{ds:List D}(q:∀p,M p=none->Q (.ref p) (ai M p (.lst ds))):dList [.fl ds] M Q:=q
theorem bo{P:Prop}{inst:Decidable P}{A B:Prop}(h1:P->A)(h2:¬P->B):if @decide P inst=true then A else B:=by
 by_cases h:P
 ·rw[C1 h,J9 rfl];exact h1 h
 ·rw[A9 h,K0 p5];exact h2 h
theorem md{P:Prop}{inst:Decidable P}{A B:Prop}(h1:¬P->A)(h2:P->B):if(!@decide P inst)=true then A else B:=by
 by_cases h:P
 ·rw[C1 h,Bool.not_true,K0 p5];exact h2 h
 ·rw[A9 h,Bool.not_false,J9 rfl];exact h1 h
theorem FC{A B:Prop}(h:A):if true=true then A else B:=by rw[J9 rfl];exact h
theorem FD{A B:Prop}(h:B):if false=true then A else B:=by rw[K0 p5];exact h
theorem me{b:Bool}{A B:Prop}(h1:b=true->A)(h2:b=false->B):if b=true then A else B:=by
 cases b with
 |true=>rw[J9 rfl];exact h1 rfl
 |false=>rw[K0 p5];exact h2 rfl
end
end L3
namespace L3
open PySem L2
section
variable {g:gA}{tt:eO}{te:bX}{tb:jM}{δ δc:de}{M1:Mem}{Qe:List D->Mem->Prop}{E:jP}
theorem ip{ds:List D}(Pv:Nat->List D->Mem->Prop)(h0:Pv 0 [] M1)(hz:∀i acc M,i<=ds.length->Pv i acc M->acc.length<=sizeLine)
  (hs:∀i d acc M,ds[i]?=some d->Pv i acc M->g d δc M λ δ2 M2=>tt δ2 M2 λ b M3=>if b=true then te δ2 M3 λ y M4=>Pv (i+1) (acc++[y]) M4 else Pv (i+1) acc M3)
  (hd:∀acc M,Pv ds.length acc M->Qe acc M):
  ∃(B:Nat) (W:Nat->List D->Mem->Prop),W 0 [] M1/\∀i acc M,W i acc M->i<=B/\acc.length<=sizeLine/\match items (.fix ds) M with
   |none=>False
   |some ds=>match ds[i]? with
    |none=>i=ds.length/\Qe acc M
    |some d=>g d δc M λ δ2 M2=>tt δ2 M2 λ b M3=>if b=true then te δ2 M3 λ y M4=>W (i+1) (acc++[y]) M4 else W (i+1) acc M3:=by
 refine⟨ds.length,λ i acc M=>if i<=ds.length then Pv i acc M else False,by dsimp only;rw[J9 (G5 _)];exact h0,?_⟩
 intro i acc M w
 by_cases hi:i<=ds.length
 ·rw[J9 hi]at w
  refine⟨hi,hz i acc M hi w,?_⟩
  show(match ds[i]? with
    |none=>i=ds.length/\Qe acc M
    |some d=>g d δc M λ δ2 M2=>tt δ2 M2 λ b M3=>if b=true then te δ2 M3 λ y M4=>(if i+1<=ds.length then Pv (i+1) (acc++[y]) M4 else False)else(if i+1<=ds.length then Pv (i+1) acc M3 else False))
  cases e:ds[i]? with
  |none=>
   have:i=ds.length:=C0 hi (i7.mp e)
   subst this
   exact⟨rfl,hd acc M w⟩
  |some d=>
   have fO:i+1<=ds.length:=(i6.mp e).1
   simp only[J9 fO]
   exact hs i d acc M e w
 ·rw[K0 hi]at w
  exact w.elim
theorem dP{ds:List D}(Pv:Nat->de->Mem->Prop)(h0:Pv 0 δ M1)
  (hs:∀i d δ M,ds[i]?=some d->Pv i δ M->g d δ M λ δ2 M2=>tb {E with nx:=Pv (i+1),ct:=Pv (i+1),bk:=E.nx} δ2 M2)
  (hd:∀δ M,Pv ds.length δ M->E.nx δ M):
  ∃(B:Nat) (W:Nat->de->Mem->Prop),W 0 δ M1/\∀i δ M,W i δ M->i<=B/\match items (.fix ds) M with
   |none=>False
   |some ds=>match ds[i]? with
    |none=>i=ds.length/\E.nx δ M
    |some d=>g d δ M λ δ2 M2=>tb {E with nx:=W (i+1),ct:=W (i+1),bk:=E.nx} δ2 M2:=by
 refine⟨ds.length,λ i δ M=>if i<=ds.length then Pv i δ M else False,by dsimp only;rw[J9 (G5 _)];exact h0,?_⟩
 intro i δ M w
 by_cases hi:i<=ds.length
 ·rw[J9 hi]at w
  refine⟨hi,?_⟩
  show(match ds[i]? with
    |none=>i=ds.length/\E.nx δ M
    |some d=>g d δ M λ δ2 M2=>tb {E with nx:=(λ δ M=>if i+1<=ds.length then Pv (i+1) δ M else False),ct:=(λ δ M=>if i+1<=ds.length then Pv (i+1) δ M else False),bk:=E.nx} δ2 M2)
  cases e:ds[i]? with
  |none=>
   have:i=ds.length:=C0 hi (i7.mp e)
   subst this
   exact⟨rfl,hd δ M w⟩
  |some d=>
   have fO:i+1<=ds.length:=(i6.mp e).1
   simp only[J9 fO]
   exact hs i d δ M e w
 ·rw[K0 hi]at w
  exact w.elim
theorem Jh{a:Addr}{ds:List D}(Pv:Nat->de->Mem->Prop)(h0:Pv 0 δ M1)(hl:∀i δ M,i<=ds.length->Pv i δ M->M a=some (.lst ds))
  (hs:∀i d δ M,ds[i]?=some d->Pv i δ M->g d δ M λ δ2 M2=>tb {E with nx:=Pv (i+1),ct:=Pv (i+1),bk:=E.nx} δ2 M2)
  (hd:∀δ M,Pv ds.length δ M->E.nx δ M):
  ∃(B:Nat) (W:Nat->de->Mem->Prop),W 0 δ M1/\∀i δ M,W i δ M->i<=B/\match items (.at a) M with
   |none=>False
   |some ds=>match ds[i]? with
    |none=>i=ds.length/\E.nx δ M
    |some d=>g d δ M λ δ2 M2=>tb {E with nx:=W (i+1),ct:=W (i+1),bk:=E.nx} δ2 M2:=by
 refine⟨ds.length,λ i δ M=>if i<=ds.length then Pv i δ M else False,by dsimp only;rw[J9 (G5 _)];exact h0,?_⟩
 intro i δ M w
 by_cases hi:i<=ds.length
 ·rw[J9 hi]at w
  refine⟨hi,?_⟩
  have e0:items (.at a) M=some ds:=by
   show(match M a with|some (.lst ds)=>some ds|_=>none)=some ds
   rw[hl i δ M hi w]
  rw[e0]
  show(match ds[i]? with
    |none=>i=ds.length/\E.nx δ M
    |some d=>g d δ M λ δ2 M2=>tb {E with nx:=(λ δ M=>if i+1<=ds.length then Pv (i+1) δ M else False),ct:=(λ δ M=>if i+1<=ds.length then Pv (i+1) δ M else False),bk:=E.nx} δ2 M2)
  cases e:ds[i]? with
  |none=>
   have:i=ds.length:=C0 hi (i7.mp e)
   subst this
   exact⟨rfl,hd δ M w⟩
  |some d=>
   have fO:i+1<=ds.length:=(i6.mp e).1
   simp only[J9 fO]
   exact hs i d δ M e w
 ·rw[K0 hi]at w
  exact w.elim
end
section
variable {δ:de}{M:Mem}{Q:bL}{wi:lP}{g:gA}{tt:eO}{te:bX}{n:Nat}{fr:List Nat}{ta:bX}{E:jP}{tb:jM}{tl:iW}{R:Src->Mem->Prop}
theorem Ke{r3:List D->Mem->bL->Prop}(h:wi δ M λ src M1=>∃(B:Nat) (W:Nat->List D->Mem->Prop),W 0 [] M1/\∀i acc M,W i acc M->i<=B/\acc.length<=sizeLine/\match items src M with
   |none=>False
   |some ds=>match ds[i]? with
    |none=>i=ds.length/\r3 acc M Q
    |some d=>g d (iV n fr δ) M λ δ2 M2=>tt δ2 M2 λ b M3=>if b=true then te δ2 M3 λ y M4=>W (i+1) (acc++[y]) M4 else W (i+1) acc M3):zp r3 wi g tt te n fr δ M Q:=h
theorem Fh{T:String}{r3:D->List D->Mem->bL->Prop}(h:ta δ M λ d M1=>Ip T d M1/\gn wi g tt te n fr δ M1 λ ds M'=>r3 d ds M' Q):Bf T r3 ta wi g tt te n fr δ M Q:=h
theorem BH{Qe:List D->Mem->Prop}(h:wi δ M λ src M1=>∃(B:Nat) (W:Nat->List D->Mem->Prop),W 0 [] M1/\∀i acc M,W i acc M->i<=B/\acc.length<=sizeLine/\match items src M with
   |none=>False
   |some ds=>match ds[i]? with
    |none=>i=ds.length/\Qe acc M
    |some d=>g d (iV n fr δ) M λ δ2 M2=>tt δ2 M2 λ b M3=>if b=true then te δ2 M3 λ y M4=>W (i+1) (acc++[y]) M4 else W (i+1) acc M3):gn wi g tt te n fr δ M Qe:=h
theorem FL(h:gn wi g tt te n fr δ M λ ds M'=>∀p,M' p=none->Q (.ref p) (ai M' p (.lst ds))):sL wi g tt te n fr δ M Q:=h
theorem Kv(h:wi δ M λ src M1=>∃(B:Nat) (W:Nat->de->Mem->Prop),W 0 δ M1/\∀i δ M,W i δ M->i<=B/\match items src M with
   |none=>False
   |some ds=>match ds[i]? with
    |none=>i=ds.length/\E.nx δ M
    |some d=>g d δ M λ δ2 M2=>tb {E with nx:=W (i+1),ct:=W (i+1),bk:=E.nx} δ2 M2):JY wi g tb E δ M:=h
theorem Fq(h:tl δ M λ ds M1=>match ds with|[.int j]=>SH j/\R (.fix (g_ 0 j.toNat)) M1|_=>False):C_ tl δ M R:=h
theorem Kb{QB:Bool->Mem->Prop}(h:QB true M):ql δ M QB:=h
theorem vd{α:Type}{xs:List α}{d:Int}(h0:0<=d)(h1:d < xs.length):∃c,iq xs d=some c:=by
 have hl:d.toNat < xs.length:=by omega
 have e:((d.toNat:Nat):Int)=d:=by omega
 have q:iq xs ((d.toNat:Nat):Int)=some xs[d.toNat]:=bV (by simp[hl])
 rw[e]at q
 exact⟨_,q⟩
end
end L3
namespace L3
open PySem L2
def strsOf:List Expr->Option (List Str)
 |[]=>some []
 | .Constant (.str x) _ _::r=>(strsOf r).map (x::·)
 |_::_=>none
def xE(zs:List Str):iW:=λ _ M Q=>Q (zs.map D.str) M
theorem Fm{zs:List Str}{δ:de}{M:Mem}{Q:List D->Mem->Prop}(h:Q (zs.map D.str) M):xE zs δ M Q:=h
theorem xP{X:Cx}:∀{es:List Expr} {zs:List Str},strsOf es=some zs->QA X es (xE zs)
 |[],zs,h=>by cases h;exact BR
 |e::es,zs,h=>by
  cases e with
  |Constant c j pos=>
   cases c with
   |str x=>
    unfold strsOf at h
    cases q:strsOf es with
    |none=>rw[q]at h;cases h
    |some ys=>
     rw[q]at h
     cases h
     exact Cj (xQ (ta:=sC (.str x)) (t:=xE ys) IF (xP q)) λ σ H Q h=>h
   |_=>exact absurd h (by unfold strsOf;intro z;cases z)
  |_=>exact absurd h (by unfold strsOf;intro z;cases z)
end L3
namespace L4
open PySem PySem.Spec L2 L3
structure WE(X:Cx)(e:Expr)(t:bX):Prop where
 h:QE X e t
structure WT(X:Cx)(e:Expr)(t:eO):Prop where
 h:QT X e t
structure WW(X:Cx)(e:Expr)(t:eO):Prop where
 h:QW X e t
structure WA(X:Cx)(e:List Expr)(t:iW):Prop where
 h:QA X e t
structure WS(X:Cx)(e:Stmt)(t:jM):Prop where
 h:QS X e t
structure Ig(X:Cx)(e:List Stmt)(t:jM):Prop where
 h:EC X e t
structure WO(X:Cx)(e:Option Expr)(t:Ih):Prop where
 h:QO X e t
structure WG(X:Cx)(e:Expr)(t:gA):Prop where
 h:QG X e t
structure Sw(X:Cx)(e:List Expr)(t:og):Prop where
 h:Ri X e t
structure Vi(X:Cx)(e:List Expr)(t:eO):Prop where
 h:Sz X e t
structure WI(X:Cx)(tg e:Expr)(t:lP):Prop where
 h:QI X tg e t
theorem WW.pt {X:Cx}{e:Expr}{t:eO}(w:WW X e t):WT X e t:=⟨w.h.pt⟩
structure NI(X:Cx)(scope:Scope)(tgs:List Str)(fr:List Nat)(tg:Expr)(g:gA):Prop where
 h:Sx X scope tgs fr tg g
structure ft(X:Cx)(scope:Scope)(tgs:List Str)(fr:List Nat)(tg iter:Expr)(ifs:List Expr)(elt:Expr)(wi:lP)(g:gA)(tt:eO)(te:bX):Prop where
 b:lx X scope fr
 calm:X.calm=true
 xe:∀e s,X.xe e s->False
 it:WI X tg iter wi
 Wu:NI X scope tgs fr tg g
 ifs:∀cl C fp s H,Vi (bG X scope cl tgs fr C fp s H) ifs tt
 elt:∀cl C fp s H,WE (bG X scope cl tgs fr C fp s H) elt te
theorem ft.h {X:Cx}{scope:Scope}{tgs:List Str}{fr:List Nat}{tg iter:Expr}{ifs:List Expr}{elt:Expr}{wi:lP}{g:gA}{tt:eO}{te:bX}(C:ft X scope tgs fr tg iter ifs elt wi g tt te):iZ X scope tgs fr tg iter ifs elt wi g tt te:=
 ⟨C.b,C.calm,C.xe,C.it.h,C.Wu.h,λ cl D fp s H=>(C.ifs cl D fp s H).h,λ cl D fp s H=>(C.elt cl D fp s H).h⟩
section
variable {X:Cx}{a b c e:Expr}{ta tb tc:bX}{pos:Pos}
theorem ar(i:Nat){x:Str}(hN:X.N[i]?=some x:=by rfl)(hv:Rf X.env.scope x:=by first|exact Or.inl rfl|exact Or.inr (Or.inl rfl)|exact Or.inr (Or.inr rfl))(hd:(x==("__debug__":Str))=false:=by decide)(hcd:(x==("__classdict__":Str))=false:=by decide):WE X (.Name x pos) (Be i):=⟨WK (i:=i) (hN:=hN) (hv:=hv) (hd:=hd) (hcd:=hcd)⟩
theorem ao{i j}:WE X (.Constant (.int i) j pos) (sC (.int i)):=⟨O5⟩
theorem p_{i j}:WE X (.Constant (.bool i) j pos) (sC (.bl i)):=⟨Tw⟩
theorem ja{i j}:WE X (.Constant (.str i) j pos) (sC (.str i)):=⟨IF⟩
theorem sj{j}:WE X (.Constant .none j pos) (sC .bx):=⟨O3⟩
theorem ly{x:Str}{n:String}(hg:Gl X x)(hm:X.mg x=none)(hv:bootBuiltins x=some (.type n))(hn:x≠"__name__":=by decide)(hd:(x==("__debug__":Str))=false:=by decide):WE X (.Name x pos) (sC (.ty n)):=⟨Ts (hg:=hg) (hm:=hm) (hv:=hv) (hn:=hn) (hd:=hd)⟩
theorem bh{op:Operator}{r2:fX}(o:fF X (binaryOp op) r2)(ha:WE X a ta)(hb:WE X b tb):WE X (.BinOp a op b pos) (Ex r2 ta tb):=⟨Tt (o:=o) (ha:=ha.h) (hb:=hb.h)⟩
theorem jb{op:CmpOp}{r2:fX}(o:fF X (compareOp op) r2)(ha:WE X a ta)(hb:WE X b tb)(hm:behindInMarks op b=false):WE X (.Compare a [op] [b] pos) (Ex r2 ta tb):=⟨O7 (o:=o) (ha:=ha.h) (hb:=hb.h) (hm:=hm)⟩
theorem aU{op:CmpOp}{r2:fX}(o:fF X (compareOp op) r2)(ha:WE X a ta)(hb:WE X b tb)(hm:behindInMarks op b=false):WT X (.Compare a [op] [b] pos) (sJ (Ex r2 ta tb)):=⟨KQ (o:=o) (ha:=ha.h) (hb:=hb.h) (hm:=hm)⟩
theorem gQ(h:WE X e ta)(he:∀whole,isTrue e X.env whole=(do let v <- whole;standAt e.pos;holding [v] (truthy v)):=by intro _;rfl):WT X e (sJ ta):=⟨KO (h:=h.h) (he:=he)⟩
variable {tA tB:eO}{rest:List Expr}
theorem lR(ha:WT X a tA):WW X (.BoolOp .And [a] pos) tA:=⟨FU (ha:=ha.h)⟩
theorem mK(ha:WT X a tA):WW X (.BoolOp .Or [a] pos) tA:=⟨KL (ha:=ha.h)⟩
theorem pY(ha:WT X a tA)(hb:WW X (.BoolOp .And (b::rest) pos) tB):WW X (.BoolOp .And (a::b::rest) pos) (J_ tA tB):=⟨KN (ha:=ha.h) (hb:=hb.h)⟩
theorem r_(ha:WT X a tA)(hb:WW X (.BoolOp .Or (b::rest) pos) tB):WW X (.BoolOp .Or (a::b::rest) pos) (Te tA tB):=⟨OZ (ha:=ha.h) (hb:=hb.h)⟩
theorem pZ(ha:WT X a tA):WT X (.UnaryOp .Not a pos) (JU tA):=⟨KP (ha:=ha.h)⟩
theorem sg{op}(h:WE X a ta):WE X (.BoolOp op [a] pos) ta:=⟨O2 (h:=h.h)⟩
theorem w_and(ha:WE X a ta)(hb:WE X (.BoolOp .And (b::rest) pos) tb):WE X (.BoolOp .And (a::b::rest) pos) (Bo ta tb):=⟨O9 (ha:=ha.h) (hb:=hb.h)⟩
variable {es:List Expr}{t:iW}
theorem ae:WA X [] JV:=⟨BR⟩
theorem aa(ha:WE X e ta)(hr:WA X es t)(hs:starEach (e::es) X.env=(false,eval e X.env)::starEach es X.env:=by rfl):WA X (e::es) (Bm ta t):=⟨xQ (ha:=ha.h) (hr:=hr.h) (hs:=hs)⟩
theorem fG{x1}(h:WA X es t):WE X (.Tuple es x1 pos) (JS t):=⟨O1 (h:=h.h)⟩
theorem bR(h:WA X es t):WE X (.List es pos) (JW t):=⟨O4 (h:=h.h)⟩
theorem bN{r2:fX}(o:Ro X r2)(ha:WE X a ta)(hb:WE X b tb)(hs:rR b):WE X (.Subscript a b pos) (Ex r2 ta tb):=⟨Tu (o:=o) (ha:=ha.h) (hb:=hb.h) (hs:=hs)⟩
theorem gc:WO X none qo:=⟨F_⟩
theorem gb(h:WE X e ta):WO X (some e) (Bg ta):=⟨FZ (h:=h.h)⟩
variable {lo hi:Option Expr}{tl th:Ih}{p2:Pos}
theorem gg{r2:D->Option Int->Option Int->Mem->bL->Prop}(o:Rh X r2)(he:WE X e ta)(hl:WO X lo tl)(hu:WO X hi th):WE X (.Subscript e (.Slice lo hi none p2) pos) (Td r2 ta tl th):=⟨Gg (o:=o) (he:=he.h) (hl:=hl.h) (hu:=hu.h)⟩
variable {x:Str}{p:Pos}{id T:String}
theorem aP{r2:List D->Mem->bL->Prop}(o:df X (.builtin id) r2)(hg:Gl X x)(hm:X.mg x=none)(hv:bootBuiltins x=some (.builtin id))(ha:WA X (e::es) t)(hn:x≠"__name__":=by decide)(hdb:(x==("__debug__":Str))=false:=by decide)(he:starEach (e::es) X.env=(false,eval e X.env)::starEach es X.env:=by rfl)(hpl:(backTo pos (starEach es X.env)).any (·.1)=false:=by rfl):WE X (.Call (.Name x p) (e::es) [] pos) (NW r2 t):=⟨Gj (o:=o) (hg:=hg) (hm:=hm) (hv:=hv) (ha:=ha.h) (hn:=hn) (hdb:=hdb) (he:=he) (hpl:=hpl)⟩
theorem iu{r2:List D->Mem->bL->Prop}(o:df X (.type T) r2)(hg:Gl X x)(hm:X.mg x=none)(hv:bootBuiltins x=some (.type T))(ha:WA X (e::es) t)(hn:x≠"__name__":=by decide)(hdb:(x==("__debug__":Str))=false:=by decide)(he:starEach (e::es) X.env=(false,eval e X.env)::starEach es X.env:=by rfl)(hpl:(backTo pos (starEach es X.env)).any (·.1)=false:=by rfl):WE X (.Call (.Name x p) (e::es) [] pos) (NW r2 t):=⟨Gi (o:=o) (hg:=hg) (hm:=hm) (hv:=hv) (ha:=ha.h) (hn:=hn) (hdb:=hdb) (he:=he) (hpl:=hpl)⟩
end
section
variable {X:Cx}{o e:Expr}{es:List Expr}{to:bX}{t:iW}{T id:String}{name:Str}{apos bJ:Pos}
theorem Io{r2:D->List D->Mem->bL->Prop}(pa:PlainAttrs T)(slot:Slot T name id)(hty:typeOf (.builtin id)=pure (.type "method_descriptor"))(hm:Es X id r2)(ho:WE X o to)(hbase:attributeBase o name X.env (eval o X.env)=eval o X.env:=by rfl)(hline:(apos.endLine==bJ.line)=true:=by rfl):WE X (.Call (.Attribute o name apos) [] [] bJ) (JZ T r2 to):=⟨O8 (pa:=pa) (slot:=slot) (hty:=hty) (hm:=hm) (ho:=ho.h) (hbase:=hbase) (hline:=hline)⟩
theorem iL{r2:D->List D->Mem->bL->Prop}(pa:PlainAttrs T)(slot:Slot T name id)(hty:typeOf (.builtin id)=pure (.type "method_descriptor"))(hm:Es X id r2)(ho:WE X o to)(ha:WA X (e::es) t)(hbase:attributeBase o name X.env (eval o X.env)=eval o X.env:=by rfl)(hfew:((backTo bJ (starEach (e::es) X.env)).all (λ x=>!x.1)&&(backToKw bJ (keywordEach [] X.env)).all (λ x=>x.1.isSome)
   &&decide ((e::es).length+([]:List Keyword).length+(if([]:List Keyword).isEmpty then 0 else 1) < 30))=true:=by rfl) (hline:(apos.endLine==bJ.line)=true:=by rfl) (hs:starEach (e::es) X.env=(false,eval e X.env)::starEach es X.env:=by rfl) (hplain:(backTo bJ (starEach es X.env)).any (·.1)=false:=by rfl):WE X (.Call (.Attribute o name apos) (e::es) [] bJ) (Tf T r2 to t):=⟨Tv (pa:=pa) (slot:=slot) (hty:=hty) (hm:=hm) (ho:=ho.h) (ha:=ha.h) (hbase:=hbase) (hfew:=hfew) (hline:=hline) (hs:=hs) (hplain:=hplain)⟩
end
section
variable {X:Cx}{x:Str}{p pos:Pos}{e:Expr}{es:List Expr}{t:iW}{k j:Nat}{ps:List Str}{sp:fe}
theorem aD(d:bC X.prog X.w X.K X.mg X.base k x ps sp)(hr:cJ k X.A)(hg:Gl X x)(ha:WA X (e::es) t)(hdb:(x==("__debug__":Str))=false:=by decide)(he:starEach (e::es) X.env=(false,eval e X.env)::starEach es X.env:=by rfl)(hpl:(backTo pos (starEach es X.env)).any (·.1)=false:=by rfl):WE X (.Call (.Name x p) (e::es) [] pos) (sD sp t):=⟨O6 (d:=d) (hr:=hr) (hg:=hg) (ha:=ha.h) (hdb:=hdb) (he:=he) (hpl:=hpl)⟩
end
section
variable {X:Cx}{st:Stmt}{rest:List Stmt}{t u:jM}{te:bX}{e:Expr}{pos:Pos}
theorem bj:Ig X [] Bh:=⟨FW⟩
theorem ak(h:WS X st t):Ig X [st] t:=⟨FV (h:=h.h)⟩
theorem af(h1:WS X st t)(h2:Ig X rest u):Ig X (st::rest) (Fd t u):=⟨BO (h1:=h1.h) (h2:=h2.h)⟩
theorem cp(he:WE X e te)(hs:swapsWith e none pos.line X.env=pure false:=by rfl):WS X (.Expr e pos) (Bk te):=⟨FX (he:=he.h) (hs:=hs)⟩
theorem aJ(he:WE X e te):WS X (.Return (some e) pos) (JT te):=⟨KS (he:=he.h)⟩
theorem cb{c:Expr}{a b:List Stmt}{tc:eO}(hc:WT X c tc)(ha:Ig X a t)(hb:Ig X b u):WS X (.If c a b pos) (JX tc t u):=⟨O0 (hc:=hc.h) (ha:=ha.h) (hb:=hb.h)⟩
theorem bg{i:Nat}{x:Str}(hN:X.N.Nodup)(hi:X.N[i]?=some x)(hx:Loc X.env.scope x)(hf:X.fn x=true\/X.env.scope.names.lookup x=some .local:=by first|exact .inl rfl|exact .inr rfl|assumption):WG X (.Name x pos) (hName i):=⟨Gf (hN:=hN) (hi:=hi) (hx:=hx) (hf:=hf)⟩
theorem gf:Sw X [] wG:=⟨Ge⟩
theorem bM{e:Expr}{es:List Expr}{t:gA}{u:og}(h1:WG X e t)(h2:Sw X es u)(hs:(assignEach (e::es) X.env).map (·.2)=assign e X.env::(assignEach es X.env).map (·.2):=by rfl):Sw X (e::es) (fQ t u):=⟨BQ (h1:=h1.h) (h2:=h2.h) (hs:=hs)⟩
theorem iK{es:List Expr}{k:Nat}{t:og}{n:Nat}(hc:X.calm=true)(h:Sw X es t)(hn:(assignEach es X.env).length=n:=by rfl)(hst:(assignEach es X.env).findIdx? (·.1)=none:=by rfl):WG X (.Tuple es k pos) (wF n t):=⟨KZ (hc:=hc) (h:=h.h) (hn:=hn) (hst:=hst)⟩
theorem fv{o i:Expr}{to ti:bX}{t:jL}(ho:WE X o to)(hi:WE X i ti)(hs:Er X t)(ha:∀v,assign (.Subscript o i pos) X.env v=(do
   let ov <- holding [v] (eval o X.env)
   let iv <- holding [v,ov] (eval i X.env)
   standAt pos
   holding [v,ov,iv] (setItem ov iv v)
   release [v,ov,iv] []):=by intro _;rfl):WG X (.Subscript o i pos) (hSub to ti t):=⟨K1 (ho:=ho.h) (hi:=hi.h) (hs:=hs) (ha:=ha)⟩
theorem eP{tg e:Expr}{g:gA}(he:WE X e te)(hg:WG X tg g)(hs:swapsWithSole [tg] e pos.line X.env=pure false:=by rfl)(hw:swappedStores [tg] e X.env=pure none:=by rfl)(h1:(assignEach [tg] X.env).map (·.2)=[assign tg X.env]:=by rfl):WS X (.Assign [tg] e pos) (sM te g):=⟨KW (he:=he.h) (hg:=hg.h) (hs:=hs) (hw:=hw) (h1:=h1)⟩
theorem aB{i:Nat}{x:Str}{e:Expr}{pos':Pos}(hN:X.N.Nodup)(hi:X.N[i]?=some x)(hx:Loc X.env.scope x)(he:WE X e te)(hs:swapsWith e (some (.Name x pos')) pos.line X.env=pure false:=by rfl)(hf:X.fn x=true\/X.env.scope.names.lookup x=some .local:=by first|exact .inl rfl|exact .inr rfl|assumption):WS X (.Assign [.Name x pos'] e pos) (sM te (hName i)):=⟨KR (hN:=hN) (hi:=hi) (hx:=hx) (he:=he.h) (hs:=hs) (hf:=hf)⟩
end
section
variable {X:Cx}{tg l:Expr}{tl:bX}{ta:iW}{a b:Expr}{p pos:Pos}
theorem cf(hl:WE X l tl):WI X tg l (Mt tl):=⟨KY (hl:=hl.h)⟩
theorem aZ(hg:Gl X "range")(hm:X.mg "range"=none)(ha:WA X [a] ta)(hs:starEach [a] X.env=[(false,eval a X.env)]:=by rfl):WI X tg (.Call (.Name "range" p) [a] [] pos) (C_ ta):=⟨zu (hg:=hg) (hm:=hm) (ha:=ha.h) (hs:=hs)⟩
end
section
variable {X:Cx}{tg iter:Expr}{wi:lP}{g:gA}{tb:jM}{body:List Stmt}{pos:Pos}
theorem cR(hp:PassesOwn (model X.prog X.w) X.A X.env X.xe)(hc:X.calm=true)(hi:WI X tg iter wi)(hg:WG X tg g)(hb:Ig X body tb)(hs:∀x,foldedSetIterable iter X.env x=pure x:=by intro _;rfl):WS X (.For tg iter body [] pos) (JY wi g tb):=⟨KU (hp:=hp) (hc:=hc) (hi:=hi.h) (hg:=hg.h) (hb:=hb.h) (hs:=hs)⟩
end
section
variable {X:Cx}{c:Expr}{tc:eO}{tb:jM}{body:List Stmt}{pos:Pos}
theorem gR(hp:PassesOwn (model X.prog X.w) X.A X.env X.xe)(hc:WT X c tc)(hb:Ig X body tb):WS X (.While c body [] pos) (vJ tc tb):=⟨BP (hp:=hp) (hc:=hc.h) (hb:=hb.h)⟩
end
section
variable {X:Cx}{scope:Scope}{tgs:List Str}{fr:List Nat}{tg elt iter:Expr}{ifs:List Expr}{pos:Pos}{wi:lP}{g:gA}{tt:eO}{te:bX}
theorem bf:Vi X [] ql:=⟨Ga⟩
theorem lS{c:Expr}{t:eO}(h:WT X c t):Vi X [c] t:=⟨F' (h:=h.h)⟩
theorem aO{i:Nat}{x:Str}{ps:Pos}(h:∀cl C fp s H,PG (bG X scope cl tgs fr C fp s H) (.Name x ps) (eX i))(hi:i < tgs.length):NI X scope tgs fr (.Name x ps) (hName i):=⟨ES (h:=h) (hi:=hi)⟩
theorem mL{i j k:Nat}{x y:Str}{px py pt:Pos}(h:∀cl C fp s H,PG (bG X scope cl tgs fr C fp s H) (.Tuple [.Name x px,.Name y py] k pt) (DL X.K 2 (jE (eX i) (jE (eX j) Aa))))(hi:i < tgs.length)(hj:j < tgs.length):NI X scope tgs fr (.Tuple [.Name x px,.Name y py] k pt) (wF 2 (fQ (hName i) (fQ (hName j) wG))):=⟨ER (h:=h) (hi:=hi) (hj:=hj)⟩
theorem fw(C:ft X scope tgs fr tg iter ifs elt wi g tt te)(hs:∀x,foldedSetIterable iter X.env x=pure x:=by intro _;rfl):WE X (.ListComp elt [⟨tg,iter,ifs,0⟩] scope pos) (sL wi g tt te tgs.length fr):=⟨K8 (C:=C.h) (hs:=hs)⟩
theorem cG{i:Nat}{y:Str}{py sA:Pos}(hN:X.N.Nodup)(hiy:X.N[i]?=some y)(hy:Loc X.env.scope y)(C:ft X scope tgs fr tg iter ifs elt wi g tt te)(hsw:swapsWith (.ListComp elt [⟨tg,iter,ifs,0⟩] scope pos) (some (.Name y py)) sA.line X.env=pure true:=by rfl)(hf:X.fn y=true\/X.env.scope.names.lookup y=some .local:=by first|exact .inl rfl|exact .inr rfl|assumption)(hs:∀x,foldedSetIterable iter X.env x=pure x:=by intro _;rfl):WS X (.Assign [.Name y py] (.ListComp elt [⟨tg,iter,ifs,0⟩] scope pos) sA) (sM (sL wi g tt te tgs.length fr) (hName i)):=⟨vS (hN:=hN) (hiy:=hiy) (hy:=hy) (C:=C.h) (hsw:=hsw) (hf:=hf) (hs:=hs)⟩
variable {x:Str}{p:Pos}{id T:String}{bJ:Pos}
theorem vw{r2 r3:List D->Mem->bL->Prop}(o:df X (.builtin id) r2)(h3:lp r2 r3)(hg:Gl X x)(hm:X.mg x=none)(hv:bootBuiltins x=some (.builtin id))(C:ft X scope tgs fr tg iter ifs elt wi g tt te)(hn:x≠"__name__":=by decide)(hdb:(x==("__debug__":Str))=false:=by decide)(hs:∀x,foldedSetIterable iter X.env x=pure x:=by intro _;rfl):WE X (.Call (.Name x p) [.ListComp elt [⟨tg,iter,ifs,0⟩] scope bJ] [] pos) (zp r3 wi g tt te tgs.length fr):=⟨K4 (o:=o) (h3:=h3) (hg:=hg) (hm:=hm) (hv:=hv) (C:=C.h) (hn:=hn) (hdb:=hdb) (hs:=hs)⟩
theorem jU{r2 r3:List D->Mem->bL->Prop}(o:df X (.type T) r2)(h3:lp r2 r3)(hg:Gl X x)(hm:X.mg x=none)(hv:bootBuiltins x=some (.type T))(C:ft X scope tgs fr tg iter ifs elt wi g tt te)(hn:x≠"__name__":=by decide)(hdb:(x==("__debug__":Str))=false:=by decide)(hs:∀x,foldedSetIterable iter X.env x=pure x:=by intro _;rfl):WE X (.Call (.Name x p) [.ListComp elt [⟨tg,iter,ifs,0⟩] scope bJ] [] pos) (zp r3 wi g tt te tgs.length fr):=⟨K2 (o:=o) (h3:=h3) (hg:=hg) (hm:=hm) (hv:=hv) (C:=C.h) (hn:=hn) (hdb:=hdb) (hs:=hs)⟩
variable {o:Expr}{to:bX}{name:Str}{apos:Pos}
theorem Jx{r2 r3:D->List D->Mem->bL->Prop}(pa:PlainAttrs T)(slot:Slot T name id)(hty:typeOf (.builtin id)=pure (.type "method_descriptor"))(hm:Es X id r2)(h3:w_ r2 r3)(ho:WE X o to)(C:ft X scope tgs fr tg iter ifs elt wi g tt te)(hs:∀x,foldedSetIterable iter X.env x=pure x:=by intro _;rfl)(hbase:attributeBase o name X.env (eval o X.env)=eval o X.env:=by rfl)(hfew:((backTo pos (starEach [.ListComp elt [⟨tg,iter,ifs,0⟩] scope bJ] X.env)).all (λ x=>!x.1)&&(backToKw pos (keywordEach [] X.env)).all (λ x=>x.1.isSome)
   &&decide (([.ListComp elt [⟨tg,iter,ifs,0⟩] scope bJ]:List Expr).length+([]:List Keyword).length+(if([]:List Keyword).isEmpty then 0 else 1) < 30))=true:=by rfl) (hline:(apos.endLine==pos.line)=true:=by rfl):WE X (.Call (.Attribute o name apos) [.ListComp elt [⟨tg,iter,ifs,0⟩] scope bJ] [] pos) (Bf T r3 to wi g tt te tgs.length fr):=⟨K3 (pa:=pa) (slot:=slot) (hty:=hty) (hm:=hm) (h3:=h3) (ho:=ho.h) (C:=C.h) (hs:=hs) (hbase:=hbase) (hfew:=hfew) (hline:=hline)⟩
end
theorem xp{X:Cx}{es:List Expr}{zs:List Str}(h:strsOf es=some zs):WA X es (xE zs):=⟨xP h⟩
end L4
namespace L4
open PySem PySem.Spec L2 L3
section
variable {P:Program}{w:World}{K:PySem.W.Frag}{mg:Str->Option Value}{base:Heap}
theorem jS{x qual:Str}{st:Stmt}{f:Addr}{fd:FuncData}{N ps:List Str}{k:Nat}{sp:fe}(F:gM K x qual st f fd)(S:aM N ps (ay st))(len:∀ds M Q,sp ds M Q->ds.length=ps.length)
  (nL:∀(c_:Value) (A:Around) (outer:List Env) (s:Shared) (H:Hp) (E:XK) (ds:List D) (M:Mem) (Q:bL),cJ k (A.deeper (PyProof.Rows.envOfC qual (ay st) s.heap.objs.size f c_))->sp ds M Q->
   ∃t,Ig (uK fE P w K mg base N qual (ay st) f c_ A outer s H E).NY (dA st) t/\t {nx:=λ _ M'=>fin2 Q .bx M',rt:=fin2 Q} (jV N ds) M):bZ P w K mg base fE (k+1) f fd ps (cF K sp):=
 WL F S len λ c_ A outer s H E ds M Q hr h=>let⟨t,a,b⟩:=nL c_ A outer s H E ds M Q hr h;⟨t,a.h,b⟩
end
end L4
namespace L5
open PySem PySem.W PyProof.Rows
section
variable (n:Nat)(lt:Nat->Nat->Bool)
variable {n lt}
def pg(p:Array Nat)(i:Nat):Nat:=p.getD i 0
theorem jn(p:Array Nat)(i:Nat):pg p i=(p[i]?).getD 0:=by
 unfold pg
 rw[Array.getD_eq_getD_getElem?]
def Pm(n:Nat)(p:Array Nat):Prop:=p.Perm (List.toArray (List.range n))
theorem Pm.size {p:Array Nat}(h:Pm n p):p.size=n:=by
 have:=Array.Perm.size_eq h
 simpa using this
theorem Lj{p:Array Nat}{i j:Nat}(hj:j<=p.size)(k:Nat):pg (kas_rev p i j) k=if i<=k/\k < j then pg p (i+j - 1 - k)else pg p k:=by
 rw[jn]
 unfold kas_rev
 rw[getElem?_mirror_all hj k]
 split
 ·rw[jn]
 ·rw[jn]
theorem Lk{p:Array Nat}{k l:Nat}(hk:k < p.size)(hl:l<=k)(j:Nat):pg (bubble p k (k - l)) j=if j=l then pg p k else if l < j/\j<=k then pg p (j - 1)else pg p j:=by
 have e0:k - (k - l)=l:=by omega
 rw[jn,getElem?_bubble hk (k - l) (by omega) j,e0]
 by_cases h1:j=l
 ·rw[J9 h1,J9 h1,jn]
 ·rw[K0 h1,K0 h1]
  by_cases h2:l < j/\j<=k
  ·rw[J9 h2,J9 h2,jn]
  ·rw[K0 h2,K0 h2,jn]
structure Ord(lt:Nat->Nat->Bool):Prop where
 jK:∀a b,lt a b=true->lt b a=false
 tr:∀a b c,lt a b=false->lt b c=false->lt a c=false
abbrev le(lt:Nat->Nat->Bool)(a b:Nat):Prop:=lt b a=false
theorem Ord.refl (O:Ord lt)(a:Nat):le lt a a:=by
 show lt a a=false
 cases e:lt a a with
 |false=>rfl
 |true=>have:=O.jK a a e;rw[e]at this;cases this
theorem Ord.trans (O:Ord lt){a b c:Nat}(h1:le lt a b)(h2:le lt b c):le lt a c:=O.tr c b a h2 h1
def Up(lt:Nat->Nat->Bool)(p:Array Nat)(m:Nat):Prop:=∀i j,i<=j->j < m->le lt (pg p i) (pg p j)
def Ev(lt:Nat->Nat->Bool)(a b:Nat):Prop:=le lt a b/\le lt b a
theorem Ord.QK (O:Ord lt){a b c:Nat}(h:Ev lt a b)(q:Ev lt b c):Ev lt a c:=⟨O.trans h.1 q.1,O.trans q.2 h.2⟩
theorem Ev.sym {a b:Nat}(h:Ev lt a b):Ev lt b a:=⟨h.2,h.1⟩
end
end L5
namespace L5
open PySem PySem.W PyProof.Rows
noncomputable def cP:Bool->Keyed->Array Keyed->Nat->Nat->Nat->StateT SortSt Sem (Option Nat):=sortPriv% PySem.Builtin.gallop
noncomputable def bE:Nat->StateT SortSt Sem Unit:=sortPriv% PySem.Builtin.setMinGallop
noncomputable def ju:Array Keyed->Array Keyed->StateT SortSt Sem (Array Keyed):=sortPriv% PySem.Builtin.mergeLo
noncomputable def jv:Array Keyed->Array Keyed->StateT SortSt Sem (Array Keyed):=sortPriv% PySem.Builtin.mergeHi
noncomputable def NA (left:Bool)(key:Keyed)(arr:Array Keyed)(base i:Nat):StateT SortSt Sem (Option Bool):=do
 let x <- elem' arr (base+i)
 if left then lt' x key else return(<- lt' key x).map (!·)
noncomputable def Na (left:Bool)(key:Keyed)(arr:Array Keyed)(base n WQ MQ:Nat):StateT SortSt Sem (Option Nat):=do
 let mut lo:=WQ
 let mut hi:=MQ
 for _ in [0:n] do
  if lo ≥ hi then break
  let m:=lo+(hi - lo) / 2
  let some more <- NA left key arr base m|return none
  if more then lo:=m+1 else hi:=m
 return some hi
theorem wI(left:Bool)(key:Keyed)(arr:Array Keyed)(base n hint:Nat):cP left key arr base n hint=(do
 let mut my:=0
 let mut Aw:=1
 let mut lo:=0
 let mut hi:=0
 let some right <- NA left key arr base hint|return none
 if right then
  let nv:=n - hint
  for _ in [0:n] do
   if Aw ≥ nv then break
   let some more <- NA left key arr base (hint+Aw)|return none
   if !more then break
   my:=Aw
   Aw:=2*Aw+1
  lo:=hint+my+1
  hi:=hint+min Aw nv
 else
  let nv:=hint+1
  for _ in [0:n] do
   if Aw ≥ nv then break
   let some found <- NA left key arr base (hint - Aw)|return none
   if found then break
   my:=Aw
   Aw:=2*Aw+1
  lo:=hint+1 - min Aw nv
  hi:=hint - my
 Na left key arr base n lo hi):=rfl
section
variable {prog:Program}{w:World}{A:Around}{E:Value->Shared->Prop}{s:Shared}
abbrev kU{σ β:Type}(Dn I:β->σ->Prop)(r:ForInStep β)(st:σ):Prop:=match r with
 | .done c=>Dn c st
 | .yield c=>I c st
theorem ic{σ β:Type}{M:Model}{a b:Nat}{f:Nat->β->StateT σ Sem (ForInStep β)}(I:Nat->β->σ->Prop)(Dn:β->σ->Prop){Q:β->σ->Prop}
  (step:∀i c st,a<=i->i < b->I i c st->wpS M A E s (f i c) (kU Dn (I (i+1))) st)
  (fin:∀c st,I (max a b) c st->Dn c st) (k:∀c st,Dn c st->Q c st) {c:β} {st:σ} (h:I a c st):wpS M A E s (forIn [a:b] c f) Q st:=wpS_mono (wpS_forRange I (λ i c st h1 h2 h3=>wpS_mono (step i c st h1 h2 h3) λ r aK h=>by cases r <;> exact h) fin h) k
abbrev G2:=Option (Option Nat)×Nat×Nat
theorem yy{left:Bool}{key:Keyed}{arr:Array Keyed}{base n:Nat}{st:SortSt}{Q:Option Nat->SortSt->Prop}(B:Nat->Bool)(hb:∀i,i < n->∀Q:Option Bool->SortSt->Prop,Q (some (B i)) st->wpS (model prog w) A E s (NA left key arr base i) Q st)
  (mono:∀i j,i<=j->j < n->B j=true->B i=true)
  (hQ:∀k,k<=n->(∀i,i < k->B i=true)->(∀i,k<=i->i < n->B i=false)->Q (some k) st) (lo hi:Nat) (h1:lo<=hi) (h2:hi<=n) (h3:∀i,i < lo->B i=true) (h4:∀i,hi<=i->i < n->B i=false):wpS (model prog w) A E s (Na left key arr base n lo hi) Q st:=by
 unfold Na
 dsimp only
 refine J4 (ic (λ k (c:G2) aK=>aK=st/\c.1=none/\c.2.1<=c.2.2/\c.2.2<=n/\c.2.2 - c.2.1+k<=n/\(∀i,i < c.2.1->B i=true)/\(∀i,c.2.2<=i->i < n->B i=false)) (λ(c:G2) aK=>aK=st/\c.1=none/\c.2.2<=n/\(∀i,i < c.2.2->B i=true)/\(∀i,c.2.2<=i->i < n->B i=false)) ?_ ?_ ?_ ⟨rfl,rfl,h1,h2,by dsimp only;omega,h3,h4⟩)
 ·rintro k ⟨r,a,b⟩ aK _ hk ⟨rfl,rfl,c1,c2,c3,c4,c5⟩
  dsimp only at c1 c2 c3 c4 c5 ⊢
  by_cases AA:a ≥ b
  ·rw[J9 AA]
   have:a=b:=by omega
   subst this
   exact J6 ⟨rfl,rfl,c2,c4,c5⟩
  ·rw[K0 AA]
   refine J4 (hb _ (by omega) _ ?_)
   dsimp only
   cases e:B (a+(b - a) / 2)with
   |true=>
    rw[J9 rfl]
    exact J6 ⟨rfl,rfl,by dsimp only;omega,c2,by dsimp only;omega,λ i hi=>mono i _ (by dsimp only at hi;omega) (by omega) e,c5⟩
   |false=>
    rw[K0 (by decide)]
    refine J6 ⟨rfl,rfl,by dsimp only;omega,by dsimp only;omega,by dsimp only;omega,c4,λ i hi hn=>?_⟩
    dsimp only at hi
    cases e2:B i with
    |false=>rfl
    |true=>rw[mono _ i hi hn e2]at e;cases e
 ·rintro⟨r,a,b⟩ aK ⟨rfl,rfl,c1,c2,c3,c4,c5⟩
  dsimp only at c1 c2 c3 c4 c5 ⊢
  have:a=b:=by omega
  subst this
  exact⟨rfl,rfl,c2,c4,c5⟩
 ·rintro⟨r,a,b⟩ aK ⟨rfl,rfl,c2,c4,c5⟩
  exact J6 (hQ b c2 c4 c5)
theorem z_{left:Bool}{key:Keyed}{arr:Array Keyed}{base n hint:Nat}{st:SortSt}{Q:Option Nat->SortSt->Prop}(B:Nat->Bool)(hb:∀i,i < n->∀Q:Option Bool->SortSt->Prop,Q (some (B i)) st->wpS (model prog w) A E s (NA left key arr base i) Q st)
  (mono:∀i j,i<=j->j < n->B j=true->B i=true) (hh:hint < n)
  (hQ:∀k,k<=n->(∀i,i < k->B i=true)->(∀i,k<=i->i < n->B i=false)->Q (some k) st):wpS (model prog w) A E s (cP left key arr base n hint) Q st:=by
 rw[wI]
 dsimp only
 refine J4 (hb hint hh _ ?_)
 dsimp only
 have Rc:∀i j,i<=j->j < n->B i=false->B j=false:=λ i j ow hj e=>by
  cases e2:B j with
  |false=>rfl
  |true=>rw[mono i j ow hj e2]at e;cases e
 cases e0:B hint with
 |true=>
  rw[J9 rfl]
  refine J4 (ic (λ k (c:G2) aK=>aK=st/\c.1=none/\c.2.1 < c.2.2/\k+1<=c.2.2/\hint+c.2.1 < n/\B (hint+c.2.1)=true) (λ(c:G2) aK=>aK=st/\c.1=none/\c.2.1 < c.2.2/\hint+c.2.1 < n/\B (hint+c.2.1)=true/\(c.2.2 ≥ n - hint\/B (hint+c.2.2)=false)) ?_ ?_ ?_ ⟨rfl,rfl,by decide,by decide,hh,e0⟩)
  ·rintro k ⟨r,a,b⟩ aK _ hk ⟨rfl,rfl,c1,c2,c3,c4⟩
   dsimp only at c1 c2 c3 c4 ⊢
   by_cases AA:b ≥ n - hint
   ·rw[J9 AA]
    exact J6 ⟨rfl,rfl,c1,c3,c4,.inl AA⟩
   ·rw[K0 AA]
    refine J4 (hb _ (by omega) _ ?_)
    dsimp only
    cases e:B (hint+b)with
    |true=>
     rw[K0 (by decide)]
     exact J6 ⟨rfl,rfl,by dsimp only;omega,by dsimp only;omega,by dsimp only;omega,e⟩
    |false=>
     rw[J9 (by decide)]
     exact J6 ⟨rfl,rfl,c1,c3,c4,.inr e⟩
  ·rintro⟨r,a,b⟩ aK ⟨rfl,rfl,c1,c2,c3,c4⟩
   dsimp only at c1 c2 c3 c4 ⊢
   exact⟨rfl,rfl,c1,c3,c4,.inl (by omega)⟩
  ·rintro⟨r,a,b⟩ aK ⟨rfl,rfl,c1,c3,c4,c5⟩
   dsimp only at c1 c3 c4 c5 ⊢
   refine yy B hb mono hQ (hint+a+1) (hint+min b (n - hint)) (by omega) (by omega) (λ i hi=>mono i _ (by omega) c3 c4) λ i hi hn=>?_
   rcases c5 with c5|c5
   ·omega
   ·by_cases z:b<=n - hint
    ·rw[Nat.min_eq_left z]at hi
     exact Rc _ i hi hn c5
    ·omega
 |false=>
  rw[K0 (by decide)]
  refine J4 (ic (λ k (c:G2) aK=>aK=st/\c.1=none/\c.2.1 < c.2.2/\k+1<=c.2.2/\c.2.1<=hint/\B (hint - c.2.1)=false) (λ(c:G2) aK=>aK=st/\c.1=none/\c.2.1 < c.2.2/\c.2.1<=hint/\B (hint - c.2.1)=false/\(c.2.2 ≥ hint+1\/B (hint - c.2.2)=true)) ?_ ?_ ?_ ⟨rfl,rfl,by decide,by decide,G5 _,e0⟩)
  ·rintro k ⟨r,a,b⟩ aK _ hk ⟨rfl,rfl,c1,c2,c3,c4⟩
   dsimp only at c1 c2 c3 c4 ⊢
   by_cases AA:b ≥ hint+1
   ·rw[J9 AA]
    exact J6 ⟨rfl,rfl,c1,c3,c4,.inl AA⟩
   ·rw[K0 AA]
    refine J4 (hb _ (by omega) _ ?_)
    dsimp only
    cases e:B (hint - b)with
    |true=>
     rw[J9 rfl]
     exact J6 ⟨rfl,rfl,c1,c3,c4,.inr e⟩
    |false=>
     rw[K0 (by decide)]
     exact J6 ⟨rfl,rfl,by dsimp only;omega,by dsimp only;omega,by dsimp only;omega,e⟩
  ·rintro⟨r,a,b⟩ aK ⟨rfl,rfl,c1,c2,c3,c4⟩
   dsimp only at c1 c2 c3 c4 ⊢
   exact⟨rfl,rfl,c1,c3,c4,.inl (by omega)⟩
  ·rintro⟨r,a,b⟩ aK ⟨rfl,rfl,c1,c3,c4,c5⟩
   dsimp only at c1 c3 c4 c5 ⊢
   refine yy B hb mono hQ (hint+1 - min b (hint+1)) (hint - a) (by omega) (by omega) (λ i hi=>?_) λ i hi hn=>Rc _ i hi hn c4
   rcases c5 with c5|c5
   ·omega
   ·by_cases z:b<=hint+1
    ·rw[Nat.min_eq_left z]at hi
     exact mono i _ (by omega) (by omega) c5
    ·omega
end
end L5
namespace L5
open PySem PySem.W PyProof.Rows
noncomputable def ma (it:Nat->Keyed)(l:List Nat):Array Keyed:=(l.map it).toArray
section
variable {it:Nat->Keyed}
theorem dr(l:List Nat):(ma it l).size=l.length:=by simp[ma]
theorem du(l r:List Nat):ma it l++ma it r=ma it (l++r):=by simp[ma]
theorem eF(l:List Nat)(x:Nat):(ma it l).push (it x)=ma it (l++[x]):=by simp[ma]
theorem CJ(x:Nat):(#[it x]:Array Keyed)=ma it [x]:=rfl
theorem ke(l:List Nat)(i j:Nat):(ma it l).extract i j=ma it ((l.drop i).take (j - i)):=by
 simp[ma,extract_eq_take_drop]
theorem jw(l:List Nat)(i:Nat):(ma it l).extract i l.length=ma it (l.drop i):=by
 rw[ke,j8 (by simp)]
theorem mq(l:List Nat)(i k:Nat):(ma it l).extract i (i+k)=ma it ((l.drop i).take k):=by
 rw[ke,Nat.add_sub_cancel_left]
theorem Mf(l:List Nat){i:Nat}(h:i < l.length):(ma it l)[i]?=some (it (l.getD i 0)):=by
 simp[ma,h]
end
section
variable {prog:Program}{w:World}{A:Around}{E:Value->Shared->Prop}{s:Shared}{κ:SortKind}{it:Nat->Keyed}{n:Nat}{lt:Nat->Nat->Bool}
noncomputable def mG (prog:Program)(w:World)(A:Around)(s:Shared)(κ:SortKind)(it:Nat->Keyed)(n:Nat)(lt:Nat->Nat->Bool):Prop:=∀i j (C:Bool->Shared->Prop),i < n->j < n->C (lt i j) s->wpAny (model prog w) A (keyLt' κ (it i).1 (it j).1) C (λ _ _=>False) s
theorem tR(h:mG prog w A s κ it n lt){st:SortSt}{i j:Nat}(hk:kindOf st=κ)(hi:i < n)(hj:j < n){Q:Option Bool->SortSt->Prop}(q:Q (some (lt i j)) st):wpS (model prog w) A E s (lt' (it i) (it j)) Q st:=by
 rw[lt'_eq]
 refine J4 (wpS_get ?_)
 rw[hk]
 refine J4 (wpS_lift (C6 (J0 (h i j (λ c s'=>s'=s/\c=lt i j) hi hj ⟨rfl,rfl⟩) (λ c s' hc=>?_) λ _ _ hF=>hF.elim)))
 obtain⟨rfl,rfl⟩:=hc
 exact⟨rfl,J6 q⟩
theorem bu{l:List Nat}{i:Nat}{st:SortSt}{Q:Keyed->SortSt->Prop}(h:i < l.length)(q:Q (it (l.getD i 0)) st):wpS (model prog w) A E s (elem' (ma it l) i) Q st:=by
 rw[elem'_eq,Mf l h]
 exact J6 q
noncomputable def bd (lt:Nat->Nat->Bool)(left:Bool)(k x:Nat):Bool:=if left then lt x k else !lt k x
noncomputable def rX (n:Nat)(l:List Nat):Prop:=∀i,i < l.length->l.getD i 0 < n
theorem fR(h:mG prog w A s κ it n lt)(O:Ord lt){st:SortSt}(hk:kindOf st=κ){left:Bool}{l:List Nat}(hl:rX n l){k base m hint:Nat}(MP:k < n)(hm:base+m<=l.length)(hh:hint < m)(up:∀i j,base<=i->i<=j->j < base+m->le lt (l.getD i 0) (l.getD j 0)){Q:Option Nat->SortSt->Prop}
  (q:∀r,r<=m->(∀i,i < r->bd lt left k (l.getD (base+i) 0)=true)->(∀i,r<=i->i < m->bd lt left k (l.getD (base+i) 0)=false)->Q (some r) st):wpS (model prog w) A E s (cP left (it k) (ma it l) base m hint) Q st:=by
 refine z_ (λ i=>bd lt left k (l.getD (base+i) 0)) (λ i hi Q q=>?_) (λ i j ow hj e=>?_) hh q
 ·unfold NA
  refine J4 (bu (by omega) ?_)
  unfold bd at q
  cases left with
  |true=>
   rw[J9 rfl]at q ⊢
   exact tR h hk (hl _ (by omega)) MP q
  |false=>
   rw[K0 (by decide)]at q ⊢
   exact J4 (tR h hk MP (hl _ (by omega)) (J6 q))
 ·have u:=up (base+i) (base+j) (by omega) (by omega) (by omega)
  unfold bd at e ⊢
  cases left with
  |true=>
   rw[J9 rfl]at e ⊢
   cases e2:lt (l.getD (base+i) 0) k with
   |true=>rfl
   |false=>rw[O.tr _ _ _ u e2]at e;cases e
  |false=>
   rw[K0 (by decide)]at e ⊢
   have e1:lt k (l.getD (base+j) 0)=false:=by simpa using e
   rw[O.tr _ _ _ e1 u]
   rfl
end
abbrev S6:=Option (Array Keyed)×Array Keyed×Nat×Nat×Nat×Nat
abbrev S7:=Option (Array Keyed)×Array Keyed×Nat×Nat×Nat×Nat×Nat
noncomputable def Py (a b out:Array Keyed)(ia ib mg ac bc:Nat):StateT SortSt Sem (ForInStep S7):=do
 let x <- elem' a ia
 let out:=out.push x
 let ia:=ia+1
 if ia+1==a.size then pure (.done (some (out++b.extract ib b.size++a.extract ia a.size),out,ia,ib,mg,ac,bc))
 else if ac < 7&&bc < 7 then pure (.done (none,out,ia,ib,mg,ac,bc))else pure (.yield (none,out,ia,ib,mg,ac,bc))
noncomputable def Pz (a b out:Array Keyed)(ia ib mg ac bc:Nat):StateT SortSt Sem (ForInStep S7):=do
 let x <- elem' b ib
 let out:=out.push x
 let ib:=ib+1
 if ib==b.size then pure (.done (some (out++a.extract ia a.size++b.extract ib b.size),out,ia,ib,mg,ac,bc))
 else do
  let y <- elem' a ia
  match <- cP true y b ib (b.size - ib) 0 with
  |some k=>
   if k > 0 then
    if ib+k==b.size then pure (.done (some (out++b.extract ib (ib+k)++a.extract ia a.size++b.extract (ib+k) b.size),out++b.extract ib (ib+k),ia,ib+k,mg,ac,k))
    else Py a b (out++b.extract ib (ib+k)) ia (ib+k) mg ac k
   else Py a b out ia ib mg ac k
  |_=>pure (.done (some (out++a.extract ia a.size++b.extract ib b.size),out,ia,ib,mg,ac,bc))
noncomputable def N5 (a b out:Array Keyed)(ia ib mg ac bc:Nat):StateT SortSt Sem (ForInStep S7):=do
 bE mg
 let x <- elem' b ib
 match <- cP false x a ia (a.size - ia) 0 with
 |some k=>
  if k > 0 then
   if ia+k+1==a.size then pure (.done (some (out++a.extract ia (ia+k)++b.extract ib b.size++a.extract (ia+k) a.size),out++a.extract ia (ia+k),ia+k,ib,mg,k,bc))
   else if ia+k==a.size then pure (.done (some (out++a.extract ia (ia+k)++a.extract (ia+k) a.size++b.extract ib b.size),out++a.extract ia (ia+k),ia+k,ib,mg,k,bc))
   else Pz a b (out++a.extract ia (ia+k)) (ia+k) ib mg k bc
  else Pz a b out ia ib mg k bc
 |_=>pure (.done (some (out++a.extract ia a.size++b.extract ib b.size),out,ia,ib,mg,ac,bc))
noncomputable def RY (a b:Array Keyed)(mg:Nat)(c:S6):StateT SortSt Sem (ForInStep S6):=do
 let x <- elem' b c.2.2.2.1
 let y <- elem' a c.2.2.1
 match <- lt' x y with
 |some Ek=>
  if Ek then do
   let x <- elem' b c.2.2.2.1
   if c.2.2.2.1+1==b.size then pure (.done (some (c.2.1.push x++a.extract c.2.2.1 a.size++b.extract (c.2.2.2.1+1) b.size),c.2.1.push x,c.2.2.1,c.2.2.2.1+1,0,c.2.2.2.2.2+1))
   else if c.2.2.2.2.2+1 ≥ mg then pure (.done (none,c.2.1.push x,c.2.2.1,c.2.2.2.1+1,0,c.2.2.2.2.2+1))
   else pure (.yield (none,c.2.1.push x,c.2.2.1,c.2.2.2.1+1,0,c.2.2.2.2.2+1))
  else do
   let x <- elem' a c.2.2.1
   if c.2.2.1+1+1==a.size then pure (.done (some (c.2.1.push x++b.extract c.2.2.2.1 b.size++a.extract (c.2.2.1+1) a.size),c.2.1.push x,c.2.2.1+1,c.2.2.2.1,c.2.2.2.2.1+1,0))
   else if c.2.2.2.2.1+1 ≥ mg then pure (.done (none,c.2.1.push x,c.2.2.1+1,c.2.2.2.1,c.2.2.2.2.1+1,0))
   else pure (.yield (none,c.2.1.push x,c.2.2.1+1,c.2.2.2.1,c.2.2.2.2.1+1,0))
 |_=>pure (.done (some (c.2.1++a.extract c.2.2.1 a.size++b.extract c.2.2.2.1 b.size),c.2.1,c.2.2.1,c.2.2.2.1,c.2.2.2.2.1,c.2.2.2.2.2))
abbrev S5:=Option (Array Keyed)×Array Keyed×Nat×Nat×Nat
noncomputable def RZ (a b:Array Keyed)(c:S5):StateT SortSt Sem (ForInStep S5):=do
 let d <- forIn [0:a.size+b.size] ((none,c.2.1,c.2.2.1,c.2.2.2.1,0,0):S6) λ _ d=>RY a b c.2.2.2.2 d
 match d.1 with
 |some r=>pure (.done (some r,d.2.1,d.2.2.1,d.2.2.2.1,c.2.2.2.2))
 |none=>do
  liftM (rule "list.sort.gallop")
  let e <- forIn [0:a.size+b.size] ((none,d.2.1,d.2.2.1,d.2.2.2.1,c.2.2.2.2+1,d.2.2.2.2.1,d.2.2.2.2.2):S7) λ _ e=>
   if e.2.2.2.2.1 > 1 then N5 a b e.2.1 e.2.2.1 e.2.2.2.1 (e.2.2.2.2.1 - 1) e.2.2.2.2.2.1 e.2.2.2.2.2.2 else N5 a b e.2.1 e.2.2.1 e.2.2.2.1 e.2.2.2.2.1 e.2.2.2.2.2.1 e.2.2.2.2.2.2
  match e.1 with
  |some r=>pure (.done (some r,e.2.1,e.2.2.1,e.2.2.2.1,e.2.2.2.2.1))
  |none=>do
   bE (e.2.2.2.2.1+1)
   pure (.yield (none,e.2.1,e.2.2.1,e.2.2.2.1,e.2.2.2.2.1+1))
theorem fW{α β:Type}{m m':StateT SortSt Sem α}{f f':α->StateT SortSt Sem β}(h:m=m')(k:∀x,f x=f' x):(m >>= f)=m' >>= f':=by subst h;exact J1 k
theorem ko{β:Type}{r:Std.Legacy.Range}{c:β}{f g:Nat->β->StateT SortSt Sem (ForInStep β)}(h:∀x c,f x c=g x c):forIn r c f=forIn r c g:=by rw[show f=g from funext λ x=>funext λ c=>h x c]
theorem tI(a b:Array Keyed):ju a b=(do
 rule "list.sort.merge-lo"
 let total:=a.size+b.size
 let done (out:Array Keyed) (ia ib:Nat):=out++a.extract ia a.size++b.extract ib b.size
 let mB (out:Array Keyed) (ia ib:Nat):=out++b.extract ib b.size++a.extract ia a.size
 let mut out:Array Keyed:=#[<- elem' b 0]
 let mut ia:=0
 let mut ib:=1
 if ib==b.size then return done out ia ib
 if ia+1==a.size then return mB out ia ib
 let mut minGallop:=gallopOf (<- get)
 for _ in [0:total] do
  let mut dR:=0
  let mut dQ:=0
  for _ in [0:total] do
   let some Ek <- lt' (<- elem' b ib) (<- elem' a ia)|return done out ia ib
   if Ek then
    out:=out.push (<- elem' b ib);ib:=ib+1;dQ:=dQ+1;dR:=0
    if ib==b.size then return done out ia ib
    if dQ ≥ minGallop then break
   else
    out:=out.push (<- elem' a ia);ia:=ia+1;dR:=dR+1;dQ:=0
    if ia+1==a.size then return mB out ia ib
    if dR ≥ minGallop then break
  rule "list.sort.gallop"
  minGallop:=minGallop+1
  for _ in [0:total] do
   if minGallop > 1 then minGallop:=minGallop - 1
   bE minGallop
   let some k <- cP false (<- elem' b ib) a ia (a.size - ia) 0|return done out ia ib
   dR:=k
   if k > 0 then
    out:=out++a.extract ia (ia+k);ia:=ia+k
    if ia+1==a.size then return mB out ia ib
    if ia==a.size then return done out ia ib
   out:=out.push (<- elem' b ib);ib:=ib+1
   if ib==b.size then return done out ia ib
   let some k <- cP true (<- elem' a ia) b ib (b.size - ib) 0|return done out ia ib
   dQ:=k
   if k > 0 then
    out:=out++b.extract ib (ib+k);ib:=ib+k
    if ib==b.size then return done out ia ib
   out:=out.push (<- elem' a ia);ia:=ia+1
   if ia+1==a.size then return mB out ia ib
   if dR < 7&&dQ < 7 then break
  minGallop:=minGallop+1
  bE minGallop
 unsupported "internal:list.sort.merge-bound"):=rfl
theorem tJ(a b:Array Keyed):ju a b=(do
 liftM (rule "list.sort.merge-lo")
 let x <- elem' b 0
 if 1==b.size then pure (#[x]++a.extract 0 a.size++b.extract 1 b.size)
 else if 0+1==a.size then pure (#[x]++b.extract 1 b.size++a.extract 0 a.size)
 else do
  let st <- get
  let c <- forIn [0:a.size+b.size] ((none,#[x],0,1,gallopOf st):S5) λ _ c=>RZ a b c
  match c.1 with
  |some r=>pure r
  |none=>unsupported "internal:list.sort.merge-bound"):=by
 rw[tI]
 dsimp only
 refine J1 λ _=>J1 λ x=>J3 rfl (λ _=>rfl) λ _=>J3 rfl (λ _=>rfl) λ _=>J1 λ st=>?_
 refine fW (ko λ _ c=>?_) λ c=>?_
 ·unfold RZ
  refine fW (ko λ _ d=>?_) λ d=>?_
  ·unfold RY
   refine J1 λ _=>J1 λ _=>J1 λ z=>?_
   cases z <;> rfl
  ·obtain⟨r,d⟩:=d
   cases r with
   |some r=>rfl
   |none=>
    refine J1 λ _=>?_
    refine fW (ko λ _ e=>?_) λ e=>?_
    ·unfold N5 Pz Py
     refine J3 rfl (λ _=>?_) λ _=>?_
     ·refine J1 λ _=>J1 λ _=>J1 λ z=>?_
      cases z with
      |none=>rfl
      |some k=>
       refine J3 rfl (λ _=>J3 rfl (λ _=>rfl) λ _=>J3 rfl (λ _=>rfl) λ _=>?_) λ _=>?_
       ·refine J1 λ _=>J3 rfl (λ _=>rfl) λ _=>J1 λ _=>J1 λ z=>?_
        cases z <;> rfl
       ·refine J1 λ _=>J3 rfl (λ _=>rfl) λ _=>J1 λ _=>J1 λ z=>?_
        cases z <;> rfl
     ·refine J1 λ _=>J1 λ _=>J1 λ z=>?_
      cases z with
      |none=>rfl
      |some k=>
       refine J3 rfl (λ _=>J3 rfl (λ _=>rfl) λ _=>J3 rfl (λ _=>rfl) λ _=>?_) λ _=>?_
       ·refine J1 λ _=>J3 rfl (λ _=>rfl) λ _=>J1 λ _=>J1 λ z=>?_
        cases z <;> rfl
       ·refine J1 λ _=>J3 rfl (λ _=>rfl) λ _=>J1 λ _=>J1 λ z=>?_
        cases z <;> rfl
    ·obtain⟨r,e⟩:=e
     cases r <;> rfl
 ·obtain⟨r,c⟩:=c;cases r <;> rfl
end L5
namespace L5
open PySem PySem.W PyProof.Rows
section
variable {lt:Nat->Nat->Bool}{la lb:List Nat}
noncomputable def kH (it:Nat->Keyed)(lt:Nat->Nat->Bool)(la lb:List Nat)(r:Array Keyed):Prop:=∃l:List Nat,r=ma it l/\l.Perm (la++lb)/\l.Pairwise (le lt)
structure MI(lt:Nat->Nat->Bool)(la lb lo:List Nat)(ia ib:Nat):Prop where
 perm:(lo++la.drop ia++lb.drop ib).Perm (la++lb)
 up:lo.Pairwise (le lt)
 xa:∀x∈lo,∀y∈la.drop ia,le lt x y
 xb:∀x∈lo,∀y∈lb.drop ib,le lt x y
theorem gx(l:List Nat)(i k:Nat):l.drop i=(l.drop i).take k++l.drop (i+k):=by
 rw[<- drop_drop,take_append_drop]
theorem MI.as {lo:List Nat}{ia ib:Nat}(h:MI lt la lb lo ia ib)(ua:la.Pairwise (le lt))(k:Nat)(c:∀x∈(la.drop ia).take k,∀y∈lb.drop ib,le lt x y):MI lt la lb (lo++(la.drop ia).take k) (ia+k) ib:=by
 have e:=gx la ia k
 have ud:=List.Pairwise.drop (i:=ia) ua
 rw[e]at ud
 obtain⟨u1,u2,u3⟩:=m3.mp ud
 refine⟨?_,m3.mpr ⟨h.up,u1,λ x hx y hy=>h.xa x hx y (mem_of_mem_take hy)⟩,λ x hx y hy=>?_,λ x hx y hy=>?_⟩
 ·have p:=h.perm
  rw[e]at p
  simpa[u9]using p
 ·rcases B8.mp hx with hx|hx
  ·exact h.xa x hx y (by rw[e];exact k9 _ hy)
  ·exact u3 x hx y hy
 ·rcases B8.mp hx with hx|hx
  ·exact h.xb x hx y hy
  ·exact c x hx y hy
theorem MI.bs {lo:List Nat}{ia ib:Nat}(h:MI lt la lb lo ia ib)(ub:lb.Pairwise (le lt))(k:Nat)(c:∀x∈(lb.drop ib).take k,∀y∈la.drop ia,le lt x y):MI lt la lb (lo++(lb.drop ib).take k) ia (ib+k):=by
 have e:=gx lb ib k
 have ud:=List.Pairwise.drop (i:=ib) ub
 rw[e]at ud
 obtain⟨u1,u2,u3⟩:=m3.mp ud
 refine⟨?_,m3.mpr ⟨h.up,u1,λ x hx y hy=>h.xb x hx y (mem_of_mem_take hy)⟩,λ x hx y hy=>?_,λ x hx y hy=>?_⟩
 ·have p:=h.perm
  rw[e]at p
  refine List.Perm.trans ?_ p
  simp only[u9]
  refine List.Perm.append_left lo ?_
  rw[<- u9,<- u9]
  exact List.Perm.append_right _ perm_append_comm
 ·rcases B8.mp hx with hx|hx
  ·exact h.xa x hx y hy
  ·exact c x hx y hy
 ·rcases B8.mp hx with hx|hx
  ·exact h.xb x hx y (by rw[e];exact k9 _ hy)
  ·exact u3 x hx y hy
theorem MI.fin {it:Nat->Keyed}{lo:List Nat}{ia ib:Nat}(h:MI lt la lb lo ia ib)(ua:la.Pairwise (le lt))(ub:lb.Pairwise (le lt))(e:la.drop ia=[]\/lb.drop ib=[]):kH it lt la lb (ma it (lo++la.drop ia++lb.drop ib)):=by
 refine⟨_,rfl,h.perm,?_⟩
 rcases e with e|e
 ·rw[e,A6]
  exact m3.mpr ⟨h.up,List.Pairwise.drop ub,h.xb⟩
 ·rw[e,A6]
  exact m3.mpr ⟨h.up,List.Pairwise.drop ua,h.xa⟩
theorem drop_one(l:List Nat){i:Nat}(h:i < l.length):(l.drop i).take 1=[l.getD i 0]:=by
 rw[i5 h,take_succ_cons,take_zero]
 simp[h]
theorem pO(l:List Nat){i:Nat}(h:i+1=l.length):l.drop i=[l.getD i 0]:=by
 rw[i5 (by omega),k3 (by omega)]
 simp[show i < l.length by omega]
theorem cN{l:List Nat}{i x:Nat}(h:x∈l.drop i):∃j,i<=j/\j < l.length/\x=l.getD j 0:=by
 obtain⟨j,hj,rfl⟩:=m8.mp h
 rw[y8]at hj
 exact⟨i+j,by omega,by omega,by simp[show i+j < l.length by omega]⟩
theorem dq{l:List Nat}{i k x:Nat}(h:x∈(l.drop i).take k):∃j,i<=j/\j < i+k/\j < l.length/\x=l.getD j 0:=by
 obtain⟨j,hj,rfl⟩:=m8.mp h
 rw[A3,y8]at hj
 exact⟨i+j,by omega,by omega,by omega,by simp[show i+j < l.length by omega]⟩
theorem dJ{l:List Nat}(O:Ord lt)(u:l.Pairwise (le lt)){i j:Nat}(ow:i<=j)(hj:j < l.length):le lt (l.getD i 0) (l.getD j 0):=by
 rcases Nat.lt_or_ge i j with z|z
 ·have:=pairwise_iff_getElem.mp u i j (by omega) hj z
  simpa[hj,show i < l.length by omega]using this
 ·have:i=j:=by omega
  subst this
  exact O.refl _
theorem MI.last {it:Nat->Keyed}{lo:List Nat}{ia ib:Nat}(h:MI lt la lb lo ia ib)(ub:lb.Pairwise (le lt))(e:ia+1=la.length)(hl:∀y∈lb,le lt y (la.getD (la.length - 1) 0)):kH it lt la lb (ma it (lo++lb.drop ib++la.drop ia)):=by
 refine⟨_,rfl,List.Perm.trans ?_ h.perm,?_⟩
 ·simp only[u9]
  exact List.Perm.append_left lo perm_append_comm
 ·refine m3.mpr ⟨m3.mpr ⟨h.up,List.Pairwise.drop ub,h.xb⟩,?_,λ x hx y hy=>?_⟩
  ·rw[pO la e]
   exact pairwise_singleton _ _
  ·rcases B8.mp hx with hx|hx
   ·exact h.xa x hx y hy
   ·rw[pO la e]at hy
    cases(r6.mp hy)
    have:=hl x (mem_of_mem_drop hx)
    rw[<- e]at this
    exact this
end
section
variable {prog:Program}{w:World}{A:Around}{E:Value->Shared->Prop}{s:Shared}{κ:SortKind}{it:Nat->Keyed}{n:Nat}{lt:Nat->Nat->Bool}
structure Aq(n:Nat)(lt:Nat->Nat->Bool)(la lb:List Nat):Prop where
 O:Ord lt
 ba:rX n la
 bb:rX n lb
 ua:la.Pairwise (le lt)
 ub:lb.Pairwise (le lt)
 last:∀y∈lb,le lt y (la.getD (la.length - 1) 0)
 first:∀y∈la,le lt (lb.getD 0 0) y
variable {la lb:List Nat}
noncomputable def gN (st:SortSt)(g:Nat):SortSt:=SortSt.mk' (kindOf st) (arrOf st) (pendingOf st) g (failedOf st)
theorem xA(st:SortSt)(g h:Nat):gN (gN st g) h=gN st h:=rfl
theorem lY{st:SortSt}{g:Nat}{Q:Unit->SortSt->Prop}(q:Q () (gN st g)):wpS (model prog w) A E s (bE g) Q st:=wpS_modify q
structure oj(lt:Nat->Nat->Bool)(la lb lo:List Nat)(ia ib:Nat):Prop extends MI lt la lb lo ia ib where
 a1:ia+1 < la.length
 b1:ib < lb.length
noncomputable def D7 (it:Nat->Keyed)(lt:Nat->Nat->Bool)(la lb:List Nat)(st:SortSt)(m:Nat)(c:S7)(aK:SortSt):Prop:=(∃g,aK=gN st g)/\((∃r,c.1=some r/\kH it lt la lb r)\/(c.1=none/\∃lo,c.2.1=ma it lo/\oj lt la lb lo c.2.2.1 c.2.2.2.1/\m < c.2.2.1+c.2.2.2.1))
noncomputable def R7 (it:Nat->Keyed)(lt:Nat->Nat->Bool)(la lb:List Nat)(st:SortSt)(m:Nat)(r:ForInStep S7)(aK:SortSt):Prop:=match r with
 | .done c=>D7 it lt la lb st m c aK
 | .yield c=>c.1=none/\D7 it lt la lb st m c aK
theorem CC(T:Aq n lt la lb){st:SortSt}{lo:List Nat}{ia ib mg ac bc m:Nat}(L:oj lt la lb lo ia ib)(c:∀y∈lb.drop ib,le lt (la.getD ia 0) y)(hm:m<=ia+ib){g:Nat}:wpS (model prog w) A E s (Py (ma it la) (ma it lb) (ma it lo) ia ib mg ac bc) (R7 it lt la lb st m) (gN st g):=by
 unfold Py
 have a1:=L.a1
 refine J4 (bu (by omega) ?_)
 dsimp only
 simp only[eF,dr,jw,mq,du]
 have e:=drop_one la (show ia < la.length by omega)
 have M:=L.toMI.as T.ua 1 (λ x hx y hy=>by rw[e]at hx;cases(r6.mp hx);exact c y hy)
 rw[e]at M
 by_cases z:ia+1+1=la.length
 ·rw[J9 (by simp[z])]
  exact J6 ⟨⟨g,rfl⟩,.inl ⟨_,rfl,M.last T.ub z T.last⟩⟩
 ·rw[K0 (by simp[z])]
  split
  ·exact J6 ⟨⟨g,rfl⟩,.inr ⟨rfl,_,rfl,⟨M,by dsimp only;omega,L.b1⟩,by dsimp only;omega⟩⟩
  ·exact J6 ⟨rfl,⟨g,rfl⟩,.inr ⟨rfl,_,rfl,⟨M,by dsimp only;omega,L.b1⟩,by dsimp only;omega⟩⟩
theorem CD(h:mG prog w A s κ it n lt)(T:Aq n lt la lb){st:SortSt}(hk:kindOf st=κ){lo:List Nat}{ia ib mg ac bc m:Nat}(L:oj lt la lb lo ia ib)(c:∀y∈la.drop ia,le lt (lb.getD ib 0) y)(hm:m<=ia+ib){g:Nat}:wpS (model prog w) A E s (Pz (ma it la) (ma it lb) (ma it lo) ia ib mg ac bc) (R7 it lt la lb st m) (gN st g):=by
 unfold Pz
 have a1:=L.a1
 have b1:=L.b1
 refine J4 (bu b1 ?_)
 dsimp only
 simp only[eF,dr,jw,mq,du]
 have e:=drop_one lb b1
 have M:=L.toMI.bs T.ub 1 (λ x hx y hy=>by rw[e]at hx;cases(r6.mp hx);exact c y hy)
 rw[e]at M
 by_cases z:ib+1=lb.length
 ·rw[J9 (by simp[z])]
  exact J6 ⟨⟨g,rfl⟩,.inl ⟨_,rfl,M.fin T.ua T.ub (.inr (k3 (by omega)))⟩⟩
 ·rw[K0 (by simp[z])]
  refine J4 (bu (by omega) (J4 (fR (base:=ib+1) (m:=lb.length - (ib+1)) (hint:=0) (st:=gN st g) h T.O hk T.bb (T.ba ia (by omega)) (by omega) (by omega) (λ i j _ ow hj=>dJ T.O T.ub ow (by omega)) λ r hr t1 t2=>?_)))
  have rest:∀y∈lb.drop (ib+1+r),le lt (la.getD ia 0) y:=λ y hy=>by
   obtain⟨j,j1,j2,rfl⟩:=cN hy
   have:=t2 (j - (ib+1)) (by omega) (by omega)
   rw[show ib+1+(j - (ib+1))=j by omega]at this
   simpa[bd]using this
  dsimp only
  by_cases z0:r > 0
  ·rw[J9 z0]
   have M2:=M.bs T.ub r (λ x hx y hy=>by
    obtain⟨j,j1,j2,j3,rfl⟩:=dq hx
    obtain⟨j',i1,i2,rfl⟩:=cN hy
    have q:=t1 (j - (ib+1)) (by omega)
    rw[show ib+1+(j - (ib+1))=j by omega]at q
    have q:lt (lb.getD j 0) (la.getD ia 0)=true:=by simpa[bd]using q
    have u:=dJ T.O T.ua i1 i2
    exact T.O.tr _ _ _ u (T.O.jK _ _ q))
   by_cases z1:ib+1+r=lb.length
   ·rw[J9 (by simp[z1])]
    exact J6 ⟨⟨g,rfl⟩,.inl ⟨_,rfl,M2.fin T.ua T.ub (.inr (k3 (by omega)))⟩⟩
   ·rw[K0 (by simp[z1])]
    exact CC T ⟨M2,a1,by omega⟩ rest (by omega)
  ·rw[K0 z0]
   have:r=0:=by omega
   subst this
   exact CC T ⟨M,a1,by omega⟩ rest (by omega)
theorem L_(h:mG prog w A s κ it n lt)(T:Aq n lt la lb){st:SortSt}(hk:kindOf st=κ){lo:List Nat}{ia ib mg ac bc m:Nat}(L:oj lt la lb lo ia ib)(hm:m<=ia+ib){g:Nat}:wpS (model prog w) A E s (N5 (ma it la) (ma it lb) (ma it lo) ia ib mg ac bc) (R7 it lt la lb st m) (gN st g):=by
 unfold N5
 have a1:=L.a1
 have b1:=L.b1
 refine J4 (lY ?_)
 rw[xA]
 simp only[eF,dr,jw,mq,du]
 refine J4 (bu b1 (J4 (fR (base:=ia) (m:=la.length - ia) (hint:=0) (st:=gN st mg) h T.O hk T.ba (T.bb _ b1) (by omega) (by omega) (λ i j _ ow hj=>dJ T.O T.ua ow (by omega)) λ r hr t1 t2=>?_)))
 have rest:∀y∈la.drop (ia+r),le lt (lb.getD ib 0) y:=λ y hy=>by
  obtain⟨j,j1,j2,rfl⟩:=cN hy
  have:=t2 (j - ia) (by omega) (by omega)
  rw[show ia+(j - ia)=j by omega]at this
  have this:lt (lb.getD ib 0) (la.getD j 0)=true:=by simpa[bd]using this
  exact T.O.jK _ _ this
 dsimp only
 by_cases z0:r > 0
 ·rw[J9 z0]
  have M2:=L.toMI.as T.ua r (λ x hx y hy=>by
   obtain⟨j,j1,j2,j3,rfl⟩:=dq hx
   obtain⟨j',i1,i2,rfl⟩:=cN hy
   have q:=t1 (j - ia) (by omega)
   rw[show ia+(j - ia)=j by omega]at q
   have q:lt (lb.getD ib 0) (la.getD j 0)=false:=by simpa[bd]using q
   exact T.O.tr _ _ _ (dJ T.O T.ub i1 i2) q)
  by_cases z1:ia+r+1=la.length
  ·rw[J9 (by simp[z1])]
   exact J6 ⟨⟨mg,rfl⟩,.inl ⟨_,rfl,M2.last T.ub z1 T.last⟩⟩
  ·rw[K0 (by simp[z1])]
   by_cases z2:ia+r=la.length
   ·rw[J9 (by simp[z2])]
    exact J6 ⟨⟨mg,rfl⟩,.inl ⟨_,rfl,M2.fin T.ua T.ub (.inl (k3 (by omega)))⟩⟩
   ·rw[K0 (by simp[z2])]
    exact CD h T hk ⟨M2,by omega,b1⟩ rest (by omega)
 ·rw[K0 z0]
  have:r=0:=by omega
  subst this
  exact CD h T hk L rest (by omega)
noncomputable def D6 (it:Nat->Keyed)(lt:Nat->Nat->Bool)(la lb:List Nat)(m:Nat)(c:S6):Prop:=(∃r,c.1=some r/\kH it lt la lb r)\/(c.1=none/\∃lo,c.2.1=ma it lo/\oj lt la lb lo c.2.2.1 c.2.2.2.1/\m<=c.2.2.1+c.2.2.2.1)
theorem L8(h:mG prog w A s κ it n lt)(T:Aq n lt la lb){st:SortSt}(hk:kindOf st=κ){lo:List Nat}{ia ib mg ac bc m:Nat}(L:oj lt la lb lo ia ib)(hm:m<=ia+ib):wpS (model prog w) A E s (RY (ma it la) (ma it lb) mg (none,ma it lo,ia,ib,ac,bc)) (λ r aK=>aK=st/\match r with| .done c=>D6 it lt la lb m c| .yield c=>c.1=none/\D6 it lt la lb (m+1) c) st:=by
 unfold RY
 have a1:=L.a1
 have b1:=L.b1
 dsimp only
 simp only[dr,jw,mq]
 refine J4 (bu b1 (J4 (bu (by omega) (J4 (tR h hk (T.bb _ b1) (T.ba _ (by omega)) ?_)))))
 dsimp only
 cases e:lt (lb.getD ib 0) (la.getD ia 0)with
 |true=>
  rw[J9 rfl]
  have e1:=drop_one lb b1
  have M:=L.toMI.bs T.ub 1 (λ x hx y hy=>by
   rw[e1]at hx
   cases(r6.mp hx)
   obtain⟨j',i1,i2,rfl⟩:=cN hy
   exact T.O.tr _ _ _ (dJ T.O T.ua i1 i2) (T.O.jK _ _ e))
  rw[e1]at M
  refine J4 (bu b1 ?_)
  simp only[eF,du]
  by_cases z:ib+1=lb.length
  ·rw[J9 (by simp[z])]
   exact J6 ⟨rfl,.inl ⟨_,rfl,M.fin T.ua T.ub (.inr (k3 (by omega)))⟩⟩
  ·rw[K0 (by simp[z])]
   split
   ·exact J6 ⟨rfl,.inr ⟨rfl,_,rfl,⟨M,by dsimp only;omega,by dsimp only;omega⟩,by dsimp only;omega⟩⟩
   ·exact J6 ⟨rfl,rfl,.inr ⟨rfl,_,rfl,⟨M,by dsimp only;omega,by dsimp only;omega⟩,by dsimp only;omega⟩⟩
 |false=>
  rw[K0 (by decide)]
  have e1:=drop_one la (show ia < la.length by omega)
  have M:=L.toMI.as T.ua 1 (λ x hx y hy=>by
   rw[e1]at hx
   cases(r6.mp hx)
   obtain⟨j',i1,i2,rfl⟩:=cN hy
   exact T.O.tr _ _ _ (dJ T.O T.ub i1 i2) e)
  rw[e1]at M
  refine J4 (bu (by omega) ?_)
  simp only[eF,du]
  by_cases z:ia+1+1=la.length
  ·rw[J9 (by simp[z])]
   exact J6 ⟨rfl,.inl ⟨_,rfl,M.last T.ub z T.last⟩⟩
  ·rw[K0 (by simp[z])]
   split
   ·exact J6 ⟨rfl,.inr ⟨rfl,_,rfl,⟨M,by dsimp only;omega,by dsimp only;omega⟩,by dsimp only;omega⟩⟩
   ·exact J6 ⟨rfl,rfl,.inr ⟨rfl,_,rfl,⟨M,by dsimp only;omega,by dsimp only;omega⟩,by dsimp only;omega⟩⟩
noncomputable def D5 (it:Nat->Keyed)(lt:Nat->Nat->Bool)(la lb:List Nat)(st:SortSt)(m:Nat)(c:S5)(aK:SortSt):Prop:=(∃g,aK=gN st g)/\((∃r,c.1=some r/\kH it lt la lb r)\/(c.1=none/\∃lo,c.2.1=ma it lo/\oj lt la lb lo c.2.2.1 c.2.2.2.1/\m<=c.2.2.1+c.2.2.2.1))
theorem L9(h:mG prog w A s κ it n lt)(T:Aq n lt la lb){st:SortSt}(hk:kindOf st=κ){lo:List Nat}{ia ib mg m:Nat}(L:oj lt la lb lo ia ib)(hm:m<=ia+ib){g:Nat}:wpS (model prog w) A E s (RZ (ma it la) (ma it lb) (none,ma it lo,ia,ib,mg)) (λ r aK=>match r with| .done c=>D5 it lt la lb st (m+1) c aK/\c.1≠none| .yield c=>c.1=none/\D5 it lt la lb st (m+1) c aK) (gN st g):=by
 unfold RZ
 dsimp only
 simp only[dr]
 refine J4 (ic (λ k (c:S6) aK=>aK=gN st g/\c.1=none/\∃lo,c.2.1=ma it lo/\oj lt la lb lo c.2.2.1 c.2.2.2.1/\k<=c.2.2.1+c.2.2.2.1/\m<=c.2.2.1+c.2.2.2.1) (λ c aK=>aK=gN st g/\D6 it lt la lb m c) ?_ ?_ ?_ ⟨rfl,rfl,lo,rfl,L,G5 _,hm⟩)
 ·rintro k ⟨r,o,i,j,ac,bc⟩ aK _ ou ⟨rfl,rfl,Hh,rfl,L',h1,h2⟩
  dsimp only at L' h1 h2 ⊢
  refine wpS_mono (L8 h T (st:=gN st g) hk (m:=max k m) L' (by omega)) ?_
  rintro(c|c) aK ⟨rfl,d⟩
  ·refine⟨rfl,?_⟩
   rcases d with d|⟨d1,jT,d2,d3,d4⟩
   ·exact .inl d
   ·exact .inr ⟨d1,jT,d2,d3,by omega⟩
  ·obtain⟨d0,d⟩:=d
   rcases d with⟨r,d,_⟩|⟨d1,jT,d2,d3,d4⟩
   ·rw[d0]at d
    cases d
   ·exact⟨rfl,d0,jT,d2,d3,by omega,by omega⟩
 ·rintro⟨r,o,i,j,ac,bc⟩ aK ⟨rfl,rfl,Hh,rfl,L',h1,h2⟩
  have:=L'.a1
  have:=L'.b1
  dsimp only at*
  omega
 ·rintro⟨r,o,i,j,ac,bc⟩ aK ⟨rfl,d⟩
  rcases d with⟨r,e,f⟩|⟨d1,jT,d2,L2,d4⟩
  ·cases e
   exact J6 ⟨⟨⟨g,rfl⟩,.inl ⟨r,rfl,f⟩⟩,by simp⟩
  ·cases d1
   cases d2
   dsimp only at L2 d4 ⊢
   refine J4 (wpS_lift (H0 ⟨rfl,?_⟩))
   refine J4 (ic (λ k (c:S7) aK=>(∃g,aK=gN st g)/\c.1=none/\∃lo,c.2.1=ma it lo/\oj lt la lb lo c.2.2.1 c.2.2.2.1/\k<=c.2.2.1+c.2.2.2.1/\m<=c.2.2.1+c.2.2.2.1/\(0 < k->m < c.2.2.1+c.2.2.2.1)) (λ c aK=>D7 it lt la lb st m c aK) ?_ ?_ ?_ ⟨⟨g,rfl⟩,rfl,jT,rfl,L2,G5 _,d4,λ z=>absurd z (by decide)⟩)
   ·rintro k ⟨r,o,i,j,PF,ac,bc⟩ aK _ ou ⟨⟨g2,rfl⟩,rfl,Hh,rfl,L',h1,h2,h3⟩
    dsimp only at L' h1 h2 h3 ⊢
    have step:∀PD,wpS (model prog w) A E s (N5 (ma it la) (ma it lb) (ma it Hh) i j PD ac bc) (kU (λ c aK=>D7 it lt la lb st m c aK) λ c' aK=>(∃g,aK=gN st g)/\c'.1=none/\∃lo,c'.2.1=ma it lo/\oj lt la lb lo c'.2.2.1 c'.2.2.2.1/\k+1<=c'.2.2.1+c'.2.2.2.1/\m<=c'.2.2.1+c'.2.2.2.1/\(0 < k+1->m < c'.2.2.1+c'.2.2.2.1)) (gN st g2):=λ PD=>by
     refine wpS_mono (L_ h T (st:=st) hk (m:=max k m) L' (by omega)) ?_
     rintro(c|c) aK d
     ·obtain⟨d0,d⟩:=d
      refine⟨d0,?_⟩
      rcases d with d|⟨d1,jT,d2,d3,d4⟩
      ·exact .inl d
      ·exact .inr ⟨d1,jT,d2,d3,by omega⟩
     ·obtain⟨dn,d0,d⟩:=d
      rcases d with⟨r,d,_⟩|⟨d1,jT,d2,d3,d4⟩
      ·rw[dn]at d
       cases d
      ·exact⟨d0,dn,jT,d2,d3,by omega,by omega,λ _=>by omega⟩
    split
    ·exact step _
    ·exact step _
   ·rintro⟨r,o,i,j,PF,ac,bc⟩ aK ⟨⟨g2,rfl⟩,rfl,Hh,rfl,L',h1,h2,h3⟩
    have:=L'.a1
    have:=L'.b1
    dsimp only at*
    omega
   ·rintro⟨r,o,i,j,PF,ac,bc⟩ aK ⟨⟨g2,rfl⟩,d⟩
    rcases d with⟨r,e,f⟩|⟨d1,TU,d2,L3,d4⟩
    ·cases e
     exact J6 ⟨⟨⟨g2,rfl⟩,.inl ⟨r,rfl,f⟩⟩,by simp⟩
    ·cases d1
     cases d2
     dsimp only at L3 d4 ⊢
     exact J4 (lY (J6 ⟨rfl,⟨_,rfl⟩,.inr ⟨rfl,TU,rfl,L3,by dsimp only;omega⟩⟩))
theorem wg(h:mG prog w A s κ it n lt)(T:Aq n lt la lb){st:SortSt}(hk:kindOf st=κ)(h1:1<=la.length)(h2:1<=lb.length){Q:Array Keyed->SortSt->Prop}(q:∀g r,kH it lt la lb r->Q r (gN st g)):wpS (model prog w) A E s (ju (ma it la) (ma it lb)) Q st:=by
 rw[tJ]
 refine J4 (wpS_lift (H0 ⟨rfl,?_⟩))
 refine J4 (bu (by omega) ?_)
 have e0:st=gN st (gallopOf st):=by cases st;rfl
 have M0:MI lt la lb [] 0 0:=⟨by simp,List.Pairwise.nil,λ x hx=>(by cases hx),λ x hx=>(by cases hx)⟩
 have e1:=drop_one lb (show 0 < lb.length by omega)
 have M:=M0.bs T.ub 1 (λ x hx y hy=>by
  rw[e1]at hx
  cases(r6.mp hx)
  exact T.first y (by simpa using hy))
 rw[e1,A7,Nat.zero_add]at M
 simp only[CJ,dr,jw,du]
 by_cases z:1=lb.length
 ·rw[J9 (by simp[<- z])]
  refine J6 ?_
  rw[e0]
  exact q _ _ (M.fin T.ua T.ub (.inr (k3 (by omega))))
 ·rw[K0 (by simp;omega)]
  by_cases z2:0+1=la.length
  ·rw[J9 (by simp[<- z2])]
   refine J6 ?_
   rw[e0]
   exact q _ _ (M.last T.ub z2 T.last)
  ·rw[K0 (by simp;omega)]
   refine J4 (wpS_get ?_)
   refine J4 (ic (λ k (c:S5) aK=>c.1=none/\D5 it lt la lb st k c aK) (λ c aK=>D5 it lt la lb st 0 c aK/\c.1≠none) ?_ ?_ ?_ ⟨rfl,⟨_,e0⟩,.inr ⟨rfl,_,rfl,⟨M,by dsimp only;omega,by dsimp only;omega⟩,G5 _⟩⟩)
   ·rintro k ⟨r,o,i,j,mg⟩ aK _ ou ⟨rfl,⟨g,rfl⟩,d⟩
    rcases d with⟨r,d,_⟩|⟨d1,jT,d2,d3,d4⟩
    ·cases d
    ·cases d2
     dsimp only at d3 d4 ⊢
     refine wpS_mono (L9 h T (st:=st) hk d3 d4) ?_
     rintro(c|c) aK d
     ·obtain⟨⟨g1,d⟩,dn⟩:=d
      refine⟨⟨g1,?_⟩,dn⟩
      rcases d with d|⟨d1,jT,d2,d3,d4⟩
      ·exact .inl d
      ·exact .inr ⟨d1,jT,d2,d3,by omega⟩
     ·exact d
   ·rintro⟨r,o,i,j,mg⟩ aK ⟨rfl,⟨g,rfl⟩,d⟩
    rcases d with⟨r,d,_⟩|⟨d1,jT,d2,d3,d4⟩
    ·cases d
    ·have:=d3.a1
     have:=d3.b1
     dsimp only at*
     omega
   ·rintro⟨r,o,i,j,mg⟩ aK ⟨⟨⟨g,rfl⟩,d⟩,dn⟩
    rcases d with⟨r,d,f⟩|⟨d1,jT,d2,d3,d4⟩
    ·cases d
     exact J6 (q _ _ f)
    ·exact absurd d1 dn
end
end L5
namespace L5
open PySem PySem.W PyProof.Rows
theorem tK(a b:Array Keyed):jv a b=(do
 rule "list.sort.merge-hi"
 let total:=a.size+b.size
 let done (out:Array Keyed) (na nb:Nat):=a.extract 0 na++b.extract 0 nb++out.reverse
 let jF (out:Array Keyed) (na nb:Nat):=b.extract 0 nb++a.extract 0 na++out.reverse
 let mut na:=a.size - 1
 let mut nb:=b.size
 let mut out:Array Keyed:=#[<- elem' a na]
 if na==0 then return done out na nb
 if nb==1 then return jF out na nb
 let mut minGallop:=gallopOf (<- get)
 for _ in [0:total] do
  let mut dR:=0
  let mut dQ:=0
  for _ in [0:total] do
   let some Ep <- lt' (<- elem' b (nb - 1)) (<- elem' a (na - 1))|return done out na nb
   if Ep then
    na:=na - 1;out:=out.push (<- elem' a na);dR:=dR+1;dQ:=0
    if na==0 then return done out na nb
    if dR ≥ minGallop then break
   else
    nb:=nb - 1;out:=out.push (<- elem' b nb);dQ:=dQ+1;dR:=0
    if nb==1 then return jF out na nb
    if dQ ≥ minGallop then break
  rule "list.sort.gallop"
  minGallop:=minGallop+1
  for _ in [0:total] do
   if minGallop > 1 then minGallop:=minGallop - 1
   bE minGallop
   let some at_ <- cP false (<- elem' b (nb - 1)) a 0 na (na - 1)|return done out na nb
   let k:=na - at_
   dR:=k
   if k > 0 then
    out:=out++(a.extract at_ na).reverse;na:=at_
    if na==0 then return done out na nb
   nb:=nb - 1;out:=out.push (<- elem' b nb)
   if nb==1 then return jF out na nb
   let some at_ <- cP true (<- elem' a (na - 1)) b 0 nb (nb - 1)|return done out na nb
   let k:=nb - at_
   dQ:=k
   if k > 0 then
    out:=out++(b.extract at_ nb).reverse;nb:=at_
    if nb==1 then return jF out na nb
    if nb==0 then return done out na nb
   na:=na - 1;out:=out.push (<- elem' a na)
   if na==0 then return done out na nb
   if dR < 7&&dQ < 7 then break
  minGallop:=minGallop+1
  bE minGallop
 unsupported "internal:list.sort.merge-bound"):=rfl
abbrev H7:=Option (Array Keyed)×Nat×Nat×Array Keyed×Nat×Nat×Nat
abbrev H6:=Option (Array Keyed)×Nat×Nat×Array Keyed×Nat×Nat
abbrev H5:=Option (Array Keyed)×Nat×Nat×Array Keyed×Nat
noncomputable def PB (a b:Array Keyed)(na nb:Nat)(out:Array Keyed)(mg ac bc:Nat):StateT SortSt Sem (ForInStep H7):=do
 let x <- elem' a (na - 1)
 if na - 1==0 then pure (.done (some (a.extract 0 (na - 1)++b.extract 0 nb++(out.push x).reverse),na - 1,nb,out.push x,mg,ac,bc))
 else if ac < 7&&bc < 7 then pure (.done (none,na - 1,nb,out.push x,mg,ac,bc))else pure (.yield (none,na - 1,nb,out.push x,mg,ac,bc))
noncomputable def PC (a b:Array Keyed)(na nb:Nat)(out:Array Keyed)(mg ac bc:Nat):StateT SortSt Sem (ForInStep H7):=do
 let x <- elem' b (nb - 1)
 if nb - 1==1 then pure (.done (some (b.extract 0 (nb - 1)++a.extract 0 na++(out.push x).reverse),na,nb - 1,out.push x,mg,ac,bc))
 else do
  let y <- elem' a (na - 1)
  match <- cP true y b 0 (nb - 1) (nb - 1 - 1)with
  |some t=>
   if nb - 1 - t > 0 then
    if t==1 then pure (.done (some (b.extract 0 t++a.extract 0 na++(out.push x++(b.extract t (nb - 1)).reverse).reverse),na,t,out.push x++(b.extract t (nb - 1)).reverse,mg,ac,nb - 1 - t))
    else if t==0 then pure (.done (some (a.extract 0 na++b.extract 0 t++(out.push x++(b.extract t (nb - 1)).reverse).reverse),na,t,out.push x++(b.extract t (nb - 1)).reverse,mg,ac,nb - 1 - t))
    else PB a b na t (out.push x++(b.extract t (nb - 1)).reverse) mg ac (nb - 1 - t)
   else PB a b na (nb - 1) (out.push x) mg ac (nb - 1 - t)
  |_=>pure (.done (some (a.extract 0 na++b.extract 0 (nb - 1)++(out.push x).reverse),na,nb - 1,out.push x,mg,ac,bc))
noncomputable def N6 (a b:Array Keyed)(na nb:Nat)(out:Array Keyed)(mg ac bc:Nat):StateT SortSt Sem (ForInStep H7):=do
 bE mg
 let x <- elem' b (nb - 1)
 match <- cP false x a 0 na (na - 1)with
 |some t=>
  if na - t > 0 then
   if t==0 then pure (.done (some (a.extract 0 t++b.extract 0 nb++(out++(a.extract t na).reverse).reverse),t,nb,out++(a.extract t na).reverse,mg,na - t,bc))
   else PC a b t nb (out++(a.extract t na).reverse) mg (na - t) bc
  else PC a b na nb out mg (na - t) bc
 |_=>pure (.done (some (a.extract 0 na++b.extract 0 nb++out.reverse),na,nb,out,mg,ac,bc))
noncomputable def R5 (a b:Array Keyed)(mg:Nat)(c:H6):StateT SortSt Sem (ForInStep H6):=do
 let x <- elem' b (c.2.2.1 - 1)
 let y <- elem' a (c.2.1 - 1)
 match <- lt' x y with
 |some Ep=>
  if Ep then do
   let x <- elem' a (c.2.1 - 1)
   if c.2.1 - 1==0 then pure (.done (some (a.extract 0 (c.2.1 - 1)++b.extract 0 c.2.2.1++(c.2.2.2.1.push x).reverse),c.2.1 - 1,c.2.2.1,c.2.2.2.1.push x,c.2.2.2.2.1+1,0))
   else if c.2.2.2.2.1+1 ≥ mg then pure (.done (none,c.2.1 - 1,c.2.2.1,c.2.2.2.1.push x,c.2.2.2.2.1+1,0))
   else pure (.yield (none,c.2.1 - 1,c.2.2.1,c.2.2.2.1.push x,c.2.2.2.2.1+1,0))
  else do
   let x <- elem' b (c.2.2.1 - 1)
   if c.2.2.1 - 1==1 then pure (.done (some (b.extract 0 (c.2.2.1 - 1)++a.extract 0 c.2.1++(c.2.2.2.1.push x).reverse),c.2.1,c.2.2.1 - 1,c.2.2.2.1.push x,0,c.2.2.2.2.2+1))
   else if c.2.2.2.2.2+1 ≥ mg then pure (.done (none,c.2.1,c.2.2.1 - 1,c.2.2.2.1.push x,0,c.2.2.2.2.2+1))
   else pure (.yield (none,c.2.1,c.2.2.1 - 1,c.2.2.2.1.push x,0,c.2.2.2.2.2+1))
 |_=>pure (.done (some (a.extract 0 c.2.1++b.extract 0 c.2.2.1++c.2.2.2.1.reverse),c.2.1,c.2.2.1,c.2.2.2.1,c.2.2.2.2.1,c.2.2.2.2.2))
noncomputable def R6 (a b:Array Keyed)(c:H5):StateT SortSt Sem (ForInStep H5):=do
 let d <- forIn [0:a.size+b.size] ((none,c.2.1,c.2.2.1,c.2.2.2.1,0,0):H6) λ _ d=>R5 a b c.2.2.2.2 d
 match d.1 with
 |some r=>pure (.done (some r,d.2.1,d.2.2.1,d.2.2.2.1,c.2.2.2.2))
 |none=>do
  liftM (rule "list.sort.gallop")
  let e <- forIn [0:a.size+b.size] ((none,d.2.1,d.2.2.1,d.2.2.2.1,c.2.2.2.2+1,d.2.2.2.2.1,d.2.2.2.2.2):H7) λ _ e=>
   if e.2.2.2.2.1 > 1 then N6 a b e.2.1 e.2.2.1 e.2.2.2.1 (e.2.2.2.2.1 - 1) e.2.2.2.2.2.1 e.2.2.2.2.2.2 else N6 a b e.2.1 e.2.2.1 e.2.2.2.1 e.2.2.2.2.1 e.2.2.2.2.2.1 e.2.2.2.2.2.2
  match e.1 with
  |some r=>pure (.done (some r,e.2.1,e.2.2.1,e.2.2.2.1,e.2.2.2.2.1))
  |none=>do
   bE (e.2.2.2.2.1+1)
   pure (.yield (none,e.2.1,e.2.2.1,e.2.2.2.1,e.2.2.2.2.1+1))
theorem tL(a b:Array Keyed):jv a b=(do
 liftM (rule "list.sort.merge-hi")
 let x <- elem' a (a.size - 1)
 if a.size - 1==0 then pure (a.extract 0 (a.size - 1)++b.extract 0 b.size++(#[x]:Array Keyed).reverse)
 else if b.size==1 then pure (b.extract 0 b.size++a.extract 0 (a.size - 1)++(#[x]:Array Keyed).reverse)
 else do
  let st <- get
  let c <- forIn [0:a.size+b.size] ((none,a.size - 1,b.size,#[x],gallopOf st):H5) λ _ c=>R6 a b c
  match c.1 with
  |some r=>pure r
  |none=>unsupported "internal:list.sort.merge-bound"):=by
 rw[tK]
 dsimp only
 refine J1 λ _=>J1 λ x=>J3 rfl (λ _=>rfl) λ _=>J3 rfl (λ _=>rfl) λ _=>J1 λ st=>?_
 refine fW (ko λ _ c=>?_) λ c=>?_
 ·unfold R6
  refine fW (ko λ _ d=>?_) λ d=>?_
  ·unfold R5
   refine J1 λ _=>J1 λ _=>J1 λ z=>?_
   cases z <;> rfl
  ·obtain⟨r,d⟩:=d
   cases r with
   |some r=>rfl
   |none=>
    refine J1 λ _=>?_
    refine fW (ko λ _ e=>?_) λ e=>?_
    ·unfold N6 PC PB
     refine J3 rfl (λ _=>?_) λ _=>?_
     ·refine J1 λ _=>J1 λ _=>J1 λ z=>?_
      cases z with
      |none=>rfl
      |some k=>
       refine J3 rfl (λ _=>J3 rfl (λ _=>rfl) λ _=>?_) λ _=>?_
       ·refine J1 λ _=>J3 rfl (λ _=>rfl) λ _=>J1 λ _=>J1 λ z=>?_
        cases z <;> rfl
       ·refine J1 λ _=>J3 rfl (λ _=>rfl) λ _=>J1 λ _=>J1 λ z=>?_
        cases z <;> rfl
     ·refine J1 λ _=>J1 λ _=>J1 λ z=>?_
      cases z with
      |none=>rfl
      |some k=>
       refine J3 rfl (λ _=>J3 rfl (λ _=>rfl) λ _=>?_) λ _=>?_
       ·refine J1 λ _=>J3 rfl (λ _=>rfl) λ _=>J1 λ _=>J1 λ z=>?_
        cases z <;> rfl
       ·refine J1 λ _=>J3 rfl (λ _=>rfl) λ _=>J1 λ _=>J1 λ z=>?_
        cases z <;> rfl
    ·obtain⟨r,e⟩:=e
     cases r <;> rfl
 ·obtain⟨r,c⟩:=c;cases r <;> rfl
end L5
namespace L5
open PySem PySem.W PyProof.Rows
theorem hG{it:Nat->Keyed}(l:List Nat):(ma it l).reverse=ma it l.reverse:=by simp[ma]
theorem jy{it:Nat->Keyed}(l:List Nat)(k:Nat):(ma it l).extract 0 k=ma it (l.take k):=by rw[ke,drop_zero,Nat.sub_zero]
section
variable {lt:Nat->Nat->Bool}{la lb:List Nat}
structure MH(lt:Nat->Nat->Bool)(la lb lo:List Nat)(na nb:Nat):Prop where
 perm:(la.take na++lb.take nb++lo.reverse).Perm (la++lb)
 up:lo.reverse.Pairwise (le lt)
 xa:∀x∈la.take na,∀y∈lo,le lt x y
 xb:∀x∈lb.take nb,∀y∈lo,le lt x y
theorem mS(l:List Nat){t k:Nat}(h:t<=k):l.take k=l.take t++(l.drop t).take (k - t):=by
 rw[show k=t+(k - t) by omega,take_add,Nat.add_sub_cancel_left]
theorem MH.as {lo:List Nat}{na nb t:Nat}(h:MH lt la lb lo na nb)(ua:la.Pairwise (le lt))(ht:t<=na)(c:∀x∈(la.drop t).take (na - t),∀y∈lb.take nb,le lt y x):MH lt la lb (lo++((la.drop t).take (na - t)).reverse) t nb:=by
 have e:=mS la ht
 have ud:=List.Pairwise.take (i:=na) ua
 rw[e]at ud
 obtain⟨u1,u2,u3⟩:=m3.mp ud
 have er:(lo++((la.drop t).take (na - t)).reverse).reverse=(la.drop t).take (na - t)++lo.reverse:=by simp
 refine⟨?_,?_,λ x hx y hy=>?_,λ x hx y hy=>?_⟩
 ·have p:=h.perm
  rw[e]at p
  rw[er]
  refine List.Perm.trans ?_ p
  simp only[u9]
  refine List.Perm.append_left _ ?_
  rw[<- u9,<- u9]
  exact List.Perm.append_right _ perm_append_comm
 ·rw[er]
  exact m3.mpr ⟨u2,h.up,λ x hx y hy=>h.xa x (by rw[e];exact k9 _ hx) y (y9.mp hy)⟩
 ·rcases B8.mp hy with hy|hy
  ·exact h.xa x (by rw[e];exact m7 _ hx) y hy
  ·exact u3 x hx y (y9.mp hy)
 ·rcases B8.mp hy with hy|hy
  ·exact h.xb x hx y hy
  ·exact c y (y9.mp hy) x hx
theorem MH.bs {lo:List Nat}{na nb t:Nat}(h:MH lt la lb lo na nb)(ub:lb.Pairwise (le lt))(ht:t<=nb)(c:∀x∈(lb.drop t).take (nb - t),∀y∈la.take na,le lt y x):MH lt la lb (lo++((lb.drop t).take (nb - t)).reverse) na t:=by
 have e:=mS lb ht
 have ud:=List.Pairwise.take (i:=nb) ub
 rw[e]at ud
 obtain⟨u1,u2,u3⟩:=m3.mp ud
 have er:(lo++((lb.drop t).take (nb - t)).reverse).reverse=(lb.drop t).take (nb - t)++lo.reverse:=by simp
 refine⟨?_,?_,λ x hx y hy=>?_,λ x hx y hy=>?_⟩
 ·have p:=h.perm
  rw[e]at p
  rw[er]
  simpa[u9]using p
 ·rw[er]
  exact m3.mpr ⟨u2,h.up,λ x hx y hy=>h.xb x (by rw[e];exact k9 _ hx) y (y9.mp hy)⟩
 ·rcases B8.mp hy with hy|hy
  ·exact h.xa x hx y hy
  ·exact c y (y9.mp hy) x hx
 ·rcases B8.mp hy with hy|hy
  ·exact h.xb x (by rw[e];exact m7 _ hx) y hy
  ·exact u3 x hx y (y9.mp hy)
theorem MH.fin {it:Nat->Keyed}{lo:List Nat}{na nb:Nat}(h:MH lt la lb lo na nb)(ua:la.Pairwise (le lt))(ub:lb.Pairwise (le lt))(e:na=0\/nb=0):kH it lt la lb (ma it (la.take na++lb.take nb++lo.reverse)):=by
 refine⟨_,rfl,h.perm,?_⟩
 rcases e with rfl|rfl
 ·rw[take_zero,A7]
  exact m3.mpr ⟨List.Pairwise.take ub,h.up,λ x hx y hy=>h.xb x hx y (y9.mp hy)⟩
 ·rw[take_zero,A6]
  exact m3.mpr ⟨List.Pairwise.take ua,h.up,λ x hx y hy=>h.xa x hx y (y9.mp hy)⟩
theorem MH.first {it:Nat->Keyed}{lo:List Nat}{na nb:Nat}(h:MH lt la lb lo na nb)(ua:la.Pairwise (le lt))(e:nb=1)(hl:1<=lb.length)(hf:∀y∈la,le lt (lb.getD 0 0) y):kH it lt la lb (ma it (lb.take nb++la.take na++lo.reverse)):=by
 refine⟨_,rfl,List.Perm.trans ?_ h.perm,?_⟩
 ·exact List.Perm.append_right _ perm_append_comm
 ·subst e
  have e1:lb.take 1=[lb.getD 0 0]:=drop_one lb (i:=0) (by omega)
  refine m3.mpr ⟨m3.mpr ⟨by rw[e1];exact pairwise_singleton _ _,List.Pairwise.take ua,λ x hx y hy=>?_⟩,h.up,λ x hx y hy=>?_⟩
  ·rw[e1]at hx
   cases(r6.mp hx)
   exact hf y (mem_of_mem_take hy)
  ·rcases B8.mp hx with hx|hx
   ·exact h.xb x hx y (y9.mp hy)
   ·exact h.xa x hx y (y9.mp hy)
theorem cM{l:List Nat}{k x:Nat}(h:x∈l.take k):∃j,j < k/\j < l.length/\x=l.getD j 0:=by
 obtain⟨j,hj,rfl⟩:=m8.mp h
 rw[A3]at hj
 exact⟨j,by omega,by omega,by simp[show j < l.length by omega]⟩
theorem fH(l:List Nat){k:Nat}(h:0 < k)(h2:k<=l.length):(l.drop (k - 1)).take (k - (k - 1))=[l.getD (k - 1) 0]:=by
 rw[show k - (k - 1)=1 by omega]
 exact drop_one l (by omega)
end
section
variable {prog:Program}{w:World}{A:Around}{E:Value->Shared->Prop}{s:Shared}{κ:SortKind}{it:Nat->Keyed}{n:Nat}{lt:Nat->Nat->Bool}{la lb:List Nat}
structure ir(lt:Nat->Nat->Bool)(la lb lo:List Nat)(na nb:Nat):Prop extends MH lt la lb lo na nb where
 a1:0 < na
 b1:1 < nb
 a2:na<=la.length
 b2:nb<=lb.length
noncomputable def E7 (it:Nat->Keyed)(lt:Nat->Nat->Bool)(la lb:List Nat)(st:SortSt)(m:Nat)(c:H7)(aK:SortSt):Prop:=(∃g,aK=gN st g)/\((∃r,c.1=some r/\kH it lt la lb r)\/(c.1=none/\∃lo,c.2.2.2.1=ma it lo/\ir lt la lb lo c.2.1 c.2.2.1/\c.2.1+c.2.2.1 < m))
theorem CF(T:Aq n lt la lb){st:SortSt}{lo:List Nat}{na nb mg ac bc m:Nat}(L:ir lt la lb lo na nb)(c:∀y∈lb.take nb,le lt y (la.getD (na - 1) 0))(hm:na+nb<=m){g:Nat}:wpS (model prog w) A E s (PB (ma it la) (ma it lb) na nb (ma it lo) mg ac bc) (kU (E7 it lt la lb st m) λ c aK=>c.1=none/\E7 it lt la lb st m c aK) (gN st g):=by
 unfold PB
 have a1:=L.a1
 have a2:=L.a2
 refine J4 (bu (by omega) ?_)
 simp only[eF,hG,jy,du]
 have e:=fH la a1 a2
 have M:=L.toMH.as T.ua (t:=na - 1) (by omega) (λ x hx y hy=>by rw[e]at hx;cases(r6.mp hx);exact c y hy)
 rw[e,j9]at M
 by_cases z:na - 1=0
 ·rw[J9 (by simp[z])]
  exact J6 ⟨⟨g,rfl⟩,.inl ⟨_,rfl,M.fin T.ua T.ub (.inl z)⟩⟩
 ·rw[K0 (by simp[z])]
  split
  ·exact J6 ⟨⟨g,rfl⟩,.inr ⟨rfl,_,rfl,⟨M,by dsimp only;omega,L.b1,by dsimp only;omega,L.b2⟩,by dsimp only;omega⟩⟩
  ·exact J6 ⟨rfl,⟨g,rfl⟩,.inr ⟨rfl,_,rfl,⟨M,by dsimp only;omega,L.b1,by dsimp only;omega,L.b2⟩,by dsimp only;omega⟩⟩
theorem CG(h:mG prog w A s κ it n lt)(T:Aq n lt la lb){st:SortSt}(hk:kindOf st=κ){lo:List Nat}{na nb mg ac bc m:Nat}(L:ir lt la lb lo na nb)(c:∀y∈la.take na,le lt y (lb.getD (nb - 1) 0))(hm:na+nb<=m){g:Nat}:wpS (model prog w) A E s (PC (ma it la) (ma it lb) na nb (ma it lo) mg ac bc) (kU (E7 it lt la lb st m) λ c aK=>c.1=none/\E7 it lt la lb st m c aK) (gN st g):=by
 unfold PC
 have a1:=L.a1
 have a2:=L.a2
 have b1:=L.b1
 have b2:=L.b2
 refine J4 (bu (by omega) ?_)
 simp only[eF,hG,jy]
 have e:=fH lb (show 0 < nb by omega) b2
 have M:=L.toMH.bs T.ub (t:=nb - 1) (by omega) (λ x hx y hy=>by rw[e]at hx;cases(r6.mp hx);exact c y hy)
 rw[e,j9]at M
 by_cases z:nb - 1=1
 ·rw[J9 (by simp[z]),du,du]
  exact J6 ⟨⟨g,rfl⟩,.inl ⟨_,rfl,M.first T.ua z (by omega) T.first⟩⟩
 ·rw[K0 (by simp[z])]
  refine J4 (bu (by omega) (J4 (fR (base:=0) (m:=nb - 1) (hint:=nb - 1 - 1) (st:=gN st g) h T.O hk T.bb (T.ba (na - 1) (by omega)) (by omega) (by omega) (λ i j _ ow hj=>dJ T.O T.ub ow (by omega)) λ r hr t1 t2=>?_)))
  have rest:∀y∈lb.take r,le lt y (la.getD (na - 1) 0):=λ y hy=>by
   obtain⟨j,j1,j2,rfl⟩:=cM hy
   have:=t1 j j1
   rw[Nat.zero_add]at this
   have this:lt (lb.getD j 0) (la.getD (na - 1) 0)=true:=by simpa[bd]using this
   exact T.O.jK _ _ this
  dsimp only
  by_cases z0:nb - 1 - r > 0
  ·rw[J9 z0];simp only[ke,hG,du]
   have M2:=M.bs T.ub (t:=r) (by omega) (λ x hx y hy=>by
    obtain⟨j,j1,j2,j3,rfl⟩:=dq hx
    obtain⟨j',i1,i2,rfl⟩:=cM hy
    have q:=t2 j (by omega) (by omega)
    rw[Nat.zero_add]at q
    have q:lt (lb.getD j 0) (la.getD (na - 1) 0)=false:=by simpa[bd]using q
    exact T.O.tr _ _ _ q (dJ T.O T.ua (show j'<=na - 1 by omega) (by omega)))
   by_cases z1:r=1
   ·rw[J9 (by simp[z1])]
    exact J6 ⟨⟨g,rfl⟩,.inl ⟨_,rfl,M2.first T.ua z1 (by omega) T.first⟩⟩
   ·rw[K0 (by simp[z1])]
    by_cases z2:r=0
    ·rw[J9 (by simp[z2])]
     exact J6 ⟨⟨g,rfl⟩,.inl ⟨_,rfl,M2.fin T.ua T.ub (.inr z2)⟩⟩
    ·rw[K0 (by simp[z2])]
     exact CF T ⟨M2,a1,by omega,a2,by omega⟩ rest (by omega)
  ·rw[K0 z0]
   have:r=nb - 1:=by omega
   subst this
   exact CF T ⟨M,a1,by omega,a2,by omega⟩ rest (by omega)
theorem Md(h:mG prog w A s κ it n lt)(T:Aq n lt la lb){st:SortSt}(hk:kindOf st=κ){lo:List Nat}{na nb mg ac bc m:Nat}(L:ir lt la lb lo na nb)(hm:na+nb<=m){g:Nat}:wpS (model prog w) A E s (N6 (ma it la) (ma it lb) na nb (ma it lo) mg ac bc) (kU (E7 it lt la lb st m) λ c aK=>c.1=none/\E7 it lt la lb st m c aK) (gN st g):=by
 unfold N6
 have a1:=L.a1
 have a2:=L.a2
 have b1:=L.b1
 have b2:=L.b2
 refine J4 (lY ?_)
 rw[xA]
 simp only[hG,jy]
 refine J4 (bu (by omega) (J4 (fR (base:=0) (m:=na) (hint:=na - 1) (st:=gN st mg) h T.O hk T.ba (T.bb (nb - 1) (by omega)) (by omega) (by omega) (λ i j _ ow hj=>dJ T.O T.ua ow (by omega)) λ r hr t1 t2=>?_)))
 have rest:∀y∈la.take r,le lt y (lb.getD (nb - 1) 0):=λ y hy=>by
  obtain⟨j,j1,j2,rfl⟩:=cM hy
  have:=t1 j j1
  rw[Nat.zero_add]at this
  simpa[bd]using this
 dsimp only
 by_cases z0:na - r > 0
 ·rw[J9 z0];simp only[ke,hG,du]
  have M2:=L.toMH.as T.ua (t:=r) (by omega) (λ x hx y hy=>by
   obtain⟨j,j1,j2,j3,rfl⟩:=dq hx
   obtain⟨j',i1,i2,rfl⟩:=cM hy
   have q:=t2 j (by omega) (by omega)
   rw[Nat.zero_add]at q
   have q:lt (lb.getD (nb - 1) 0) (la.getD j 0)=true:=by simpa[bd]using q
   exact T.O.tr _ _ _ (T.O.jK _ _ q) (dJ T.O T.ub (show j'<=nb - 1 by omega) (by omega)))
  by_cases z1:r=0
  ·rw[J9 (by simp[z1])]
   exact J6 ⟨⟨mg,rfl⟩,.inl ⟨_,rfl,M2.fin T.ua T.ub (.inl z1)⟩⟩
  ·rw[K0 (by simp[z1])]
   exact CG h T hk ⟨M2,by omega,b1,by omega,b2⟩ rest (by omega)
 ·rw[K0 z0]
  have:r=na:=by omega
  subst this
  exact CG h T hk L rest (by omega)
end
end L5
namespace L5
open PySem PySem.W PyProof.Rows
section
variable {prog:Program}{w:World}{A:Around}{E:Value->Shared->Prop}{s:Shared}{κ:SortKind}{it:Nat->Keyed}{n:Nat}{lt:Nat->Nat->Bool}{la lb:List Nat}
noncomputable def E6 (it:Nat->Keyed)(lt:Nat->Nat->Bool)(la lb:List Nat)(m:Nat)(c:H6):Prop:=(∃r,c.1=some r/\kH it lt la lb r)\/(c.1=none/\∃lo,c.2.2.2.1=ma it lo/\ir lt la lb lo c.2.1 c.2.2.1/\c.2.1+c.2.2.1 < m)
theorem Mb(h:mG prog w A s κ it n lt)(T:Aq n lt la lb){st:SortSt}(hk:kindOf st=κ){lo:List Nat}{na nb mg ac bc m:Nat}(L:ir lt la lb lo na nb)(hm:na+nb<=m):wpS (model prog w) A E s (R5 (ma it la) (ma it lb) mg (none,na,nb,ma it lo,ac,bc)) (kU (λ c aK=>aK=st/\E6 it lt la lb m c) λ c aK=>aK=st/\c.1=none/\E6 it lt la lb m c) st:=by
 unfold R5
 have a1:=L.a1
 have a2:=L.a2
 have b1:=L.b1
 have b2:=L.b2
 dsimp only
 simp only[jy]
 refine J4 (bu (by omega) (J4 (bu (by omega) (J4 (tR h hk (T.bb _ (by omega)) (T.ba _ (by omega)) ?_)))))
 dsimp only
 cases e:lt (lb.getD (nb - 1) 0) (la.getD (na - 1) 0)with
 |true=>
  rw[J9 rfl]
  have e1:=fH la a1 a2
  have M:=L.toMH.as T.ua (t:=na - 1) (by omega) (λ x hx y hy=>by
   rw[e1]at hx
   cases(r6.mp hx)
   obtain⟨j',i1,i2,rfl⟩:=cM hy
   exact T.O.tr _ _ _ (T.O.jK _ _ e) (dJ T.O T.ub (show j'<=nb - 1 by omega) (by omega)))
  rw[e1,j9]at M
  refine J4 (bu (by omega) ?_)
  simp only[eF,hG,du]
  by_cases z:na - 1=0
  ·rw[J9 (by simp[z])]
   exact J6 ⟨rfl,.inl ⟨_,rfl,M.fin T.ua T.ub (.inl z)⟩⟩
  ·rw[K0 (by simp[z])]
   split
   ·exact J6 ⟨rfl,.inr ⟨rfl,_,rfl,⟨M,by dsimp only;omega,b1,by dsimp only;omega,b2⟩,by dsimp only;omega⟩⟩
   ·exact J6 ⟨rfl,rfl,.inr ⟨rfl,_,rfl,⟨M,by dsimp only;omega,b1,by dsimp only;omega,b2⟩,by dsimp only;omega⟩⟩
 |false=>
  rw[K0 (by decide)]
  have e1:=fH lb (show 0 < nb by omega) b2
  have M:=L.toMH.bs T.ub (t:=nb - 1) (by omega) (λ x hx y hy=>by
   rw[e1]at hx
   cases(r6.mp hx)
   obtain⟨j',i1,i2,rfl⟩:=cM hy
   exact T.O.tr _ _ _ e (dJ T.O T.ua (show j'<=na - 1 by omega) (by omega)))
  rw[e1,j9]at M
  refine J4 (bu (by omega) ?_)
  simp only[eF,hG,du]
  by_cases z:nb - 1=1
  ·rw[J9 (by simp[z])]
   exact J6 ⟨rfl,.inl ⟨_,rfl,M.first T.ua z (by omega) T.first⟩⟩
  ·rw[K0 (by simp[z])]
   split
   ·exact J6 ⟨rfl,.inr ⟨rfl,_,rfl,⟨M,a1,by dsimp only;omega,a2,by dsimp only;omega⟩,by dsimp only;omega⟩⟩
   ·exact J6 ⟨rfl,rfl,.inr ⟨rfl,_,rfl,⟨M,a1,by dsimp only;omega,a2,by dsimp only;omega⟩,by dsimp only;omega⟩⟩
noncomputable def E5 (it:Nat->Keyed)(lt:Nat->Nat->Bool)(la lb:List Nat)(st:SortSt)(m:Nat)(c:H5)(aK:SortSt):Prop:=(∃g,aK=gN st g)/\((∃r,c.1=some r/\kH it lt la lb r)\/(c.1=none/\∃lo,c.2.2.2.1=ma it lo/\ir lt la lb lo c.2.1 c.2.2.1/\c.2.1+c.2.2.1+m<=la.length+lb.length))
theorem Mc(h:mG prog w A s κ it n lt)(T:Aq n lt la lb){st:SortSt}(hk:kindOf st=κ){lo:List Nat}{na nb mg m:Nat}(L:ir lt la lb lo na nb)(hm:na+nb+m<=la.length+lb.length){g:Nat}:wpS (model prog w) A E s (R6 (ma it la) (ma it lb) (none,na,nb,ma it lo,mg)) (kU (λ c aK=>E5 it lt la lb st (m+1) c aK/\c.1≠none) λ c aK=>c.1=none/\E5 it lt la lb st (m+1) c aK) (gN st g):=by
 unfold R6
 dsimp only
 simp only[dr]
 refine J4 (ic (λ k (c:H6) aK=>aK=gN st g/\c.1=none/\∃lo,c.2.2.2.1=ma it lo/\ir lt la lb lo c.2.1 c.2.2.1/\c.2.1+c.2.2.1+k<=la.length+lb.length/\c.2.1+c.2.2.1+m<=la.length+lb.length) (λ c aK=>aK=gN st g/\E6 it lt la lb (la.length+lb.length+1 - m) c) ?_ ?_ ?_ ⟨rfl,rfl,lo,rfl,L,by dsimp only;omega,hm⟩)
 ·rintro k ⟨r,i,j,o,ac,bc⟩ aK _ ou ⟨rfl,rfl,Hh,rfl,L',h1,h2⟩
  dsimp only at L' h1 h2 ⊢
  refine wpS_mono (Mb h T (st:=gN st g) hk (m:=i+j) L' (E9 _)) ?_
  rintro(c|c) aK ⟨rfl,d⟩
  ·refine⟨rfl,?_⟩
   rcases d with d|⟨d1,jT,d2,d3,d4⟩
   ·exact .inl d
   ·exact .inr ⟨d1,jT,d2,d3,by omega⟩
  ·obtain⟨d0,d⟩:=d
   rcases d with⟨r,d,_⟩|⟨d1,jT,d2,d3,d4⟩
   ·rw[d0]at d
    cases d
   ·exact⟨rfl,d0,jT,d2,d3,by omega,by omega⟩
 ·rintro⟨r,i,j,o,ac,bc⟩ aK ⟨rfl,rfl,Hh,rfl,L',h1,h2⟩
  have:=L'.a1
  have:=L'.b1
  dsimp only at*
  omega
 ·rintro⟨r,i,j,o,ac,bc⟩ aK ⟨rfl,d⟩
  rcases d with⟨r,e,f⟩|⟨d1,jT,d2,L2,d4⟩
  ·cases e
   exact J6 ⟨⟨⟨g,rfl⟩,.inl ⟨r,rfl,f⟩⟩,by simp⟩
  ·cases d1
   cases d2
   dsimp only at L2 d4 ⊢
   refine J4 (wpS_lift (H0 ⟨rfl,?_⟩))
   refine J4 (ic (λ k (c:H7) aK=>(∃g,aK=gN st g)/\c.1=none/\∃lo,c.2.2.2.1=ma it lo/\ir lt la lb lo c.2.1 c.2.2.1/\c.2.1+c.2.2.1+k<=la.length+lb.length/\c.2.1+c.2.2.1+m<=la.length+lb.length/\(0 < k->c.2.1+c.2.2.1+m < la.length+lb.length)) (λ c aK=>E7 it lt la lb st (la.length+lb.length - m) c aK) ?_ ?_ ?_ ⟨⟨g,rfl⟩,rfl,jT,rfl,L2,by have:=L2.a2;have:=L2.b2;dsimp only;omega,by have:=L2.a1;dsimp only;omega,λ z=>absurd z (by decide)⟩)
   ·rintro k ⟨r,i,j,o,PF,ac,bc⟩ aK _ ou ⟨⟨g2,rfl⟩,rfl,Hh,rfl,L',h1,h2,h3⟩
    dsimp only at L' h1 h2 h3 ⊢
    have step:∀PD,wpS (model prog w) A E s (N6 (ma it la) (ma it lb) i j (ma it Hh) PD ac bc) (kU (λ c aK=>E7 it lt la lb st (la.length+lb.length - m) c aK) λ c' aK=>(∃g,aK=gN st g)/\c'.1=none/\∃lo,c'.2.2.2.1=ma it lo/\ir lt la lb lo c'.2.1 c'.2.2.1/\c'.2.1+c'.2.2.1+(k+1)<=la.length+lb.length/\c'.2.1+c'.2.2.1+m<=la.length+lb.length/\(0 < k+1->c'.2.1+c'.2.2.1+m < la.length+lb.length)) (gN st g2):=λ PD=>by
     refine wpS_mono (Md h T (st:=st) hk (m:=i+j) L' (E9 _)) ?_
     rintro(c|c) aK d
     ·obtain⟨d0,d⟩:=d
      refine⟨d0,?_⟩
      rcases d with d|⟨d1,jT,d2,d3,d4⟩
      ·exact .inl d
      ·exact .inr ⟨d1,jT,d2,d3,by omega⟩
     ·obtain⟨dn,d0,d⟩:=d
      rcases d with⟨r,d,_⟩|⟨d1,jT,d2,d3,d4⟩
      ·rw[dn]at d
       cases d
      ·exact⟨d0,dn,jT,d2,d3,by omega,by omega,λ _=>by omega⟩
    split
    ·exact step _
    ·exact step _
   ·rintro⟨r,i,j,o,PF,ac,bc⟩ aK ⟨⟨g2,rfl⟩,rfl,Hh,rfl,L',h1,h2,h3⟩
    have:=L'.a1
    have:=L'.b1
    dsimp only at*
    omega
   ·rintro⟨r,i,j,o,PF,ac,bc⟩ aK ⟨⟨g2,rfl⟩,d⟩
    rcases d with⟨r,e,f⟩|⟨d1,TU,d2,L3,d4⟩
    ·cases e
     exact J6 ⟨⟨⟨g2,rfl⟩,.inl ⟨r,rfl,f⟩⟩,by simp⟩
    ·cases d1
     cases d2
     dsimp only at L3 d4 ⊢
     exact J4 (lY (J6 ⟨rfl,⟨_,rfl⟩,.inr ⟨rfl,TU,rfl,L3,by dsimp only;omega⟩⟩))
theorem wj(h:mG prog w A s κ it n lt)(T:Aq n lt la lb){st:SortSt}(hk:kindOf st=κ)(h1:1<=la.length)(h2:1<=lb.length){Q:Array Keyed->SortSt->Prop}(q:∀g r,kH it lt la lb r->Q r (gN st g)):wpS (model prog w) A E s (jv (ma it la) (ma it lb)) Q st:=by
 rw[tL]
 refine J4 (wpS_lift (H0 ⟨rfl,?_⟩))
 simp only[dr]
 refine J4 (bu (by omega) ?_)
 have e0:st=gN st (gallopOf st):=by cases st;rfl
 have M0:MH lt la lb [] la.length lb.length:=⟨by simp,List.Pairwise.nil,λ x _ y hy=>(by cases hy),λ x _ y hy=>(by cases hy)⟩
 have e1:=fH la (show 0 < la.length by omega) (E9 _)
 have M:=M0.as T.ua (t:=la.length - 1) (by omega) (λ x hx y hy=>by
  rw[e1]at hx
  cases(r6.mp hx)
  exact T.last y (by simpa using hy))
 rw[e1,j9,A7]at M
 simp only[CJ,jy,hG,du]
 by_cases z:la.length - 1=0
 ·rw[J9 (by simp[z])]
  refine J6 ?_
  rw[e0]
  exact q _ _ (M.fin T.ua T.ub (.inl z))
 ·rw[K0 (by simp[z])]
  by_cases z2:lb.length=1
  ·rw[J9 (by simp[z2])]
   refine J6 ?_
   rw[e0]
   exact q _ _ (M.first T.ua z2 (by omega) T.first)
  ·rw[K0 (by simp[z2])]
   refine J4 (wpS_get ?_)
   refine J4 (ic (λ k (c:H5) aK=>c.1=none/\E5 it lt la lb st k c aK) (λ c aK=>E5 it lt la lb st 0 c aK/\c.1≠none) ?_ ?_ ?_ ⟨rfl,⟨_,e0⟩,.inr ⟨rfl,_,rfl,⟨M,by dsimp only;omega,by dsimp only;omega,by dsimp only;omega,E9 _⟩,by dsimp only;omega⟩⟩)
   ·rintro k ⟨r,i,j,o,mg⟩ aK _ ou ⟨rfl,⟨g,rfl⟩,d⟩
    rcases d with⟨r,d,_⟩|⟨d1,jT,d2,d3,d4⟩
    ·cases d
    ·cases d2
     dsimp only at d3 d4 ⊢
     refine wpS_mono (Mc h T (st:=st) hk d3 d4) ?_
     rintro(c|c) aK d
     ·obtain⟨⟨g1,d⟩,dn⟩:=d
      refine⟨⟨g1,?_⟩,dn⟩
      rcases d with d|⟨d1,jT,d2,d3,d4⟩
      ·exact .inl d
      ·exact absurd d1 dn
     ·exact d
   ·rintro⟨r,i,j,o,mg⟩ aK ⟨rfl,⟨g,rfl⟩,d⟩
    rcases d with⟨r,d,_⟩|⟨d1,jT,d2,d3,d4⟩
    ·cases d
    ·have:=d3.a1
     have:=d3.b1
     dsimp only at*
     omega
   ·rintro⟨r,i,j,o,mg⟩ aK ⟨⟨⟨g,rfl⟩,d⟩,dn⟩
    rcases d with⟨r,d,f⟩|⟨d1,jT,d2,d3,d4⟩
    ·cases d
     exact J6 (q _ _ f)
    ·exact absurd d1 dn
end
end L5
namespace L5
open PySem PySem.W PyProof.Rows
theorem tM(i:Nat):mergeAt' i=(do
 let s <- get
 let(some (sa,na,power),some (sb,nb,_)):=((pendingOf s)[i]?,(pendingOf s)[i+1]?)|unsupported "internal:list.sort.pending"
 set (setPending s (((pendingOf s).setIfInBounds i (sa,na+nb,power)).eraseIdxIfInBounds (i+1)))
 let some k <- cP false (<- elem' (arrOf s) sb) (arrOf s) sa na 0|return false
 let(sa,na):=(sa+k,na - k)
 if na==0 then return true
 let some nb <- cP true (<- elem' (arrOf s) (sa+na - 1)) (arrOf s) sb nb (nb - 1)|return false
 if nb==0 then return true
 let x:=(arrOf s).extract sa sb
 let y:=(arrOf s).extract sb (sb+nb)
 let merged <- if na<=nb then ju x y else jv x y
 modify λ s=>setArr s (merged.toList.zipIdx.foldl (λ a (p,j)=>a.setIfInBounds (sa+j) p) (arrOf s))
 return(failedOf (<- get)).isNone):=rfl
section
variable {lt:Nat->Nat->Bool}
noncomputable def oP (lt:Nat->Nat->Bool)(l:List Nat)(a b:Nat):Prop:=∀i j,a<=i->i<=j->j < b->le lt (l.getD i 0) (l.getD j 0)
theorem sf{α:Type}:∀(m:List α) (b:Nat) (arr:Array α) (k:Nat),(m.zipIdx k).foldl (λ a (p:α×Nat)=>a.setIfInBounds (b+p.2) p.1) arr=(arr.toList.take (b+k)++m++arr.toList.drop (b+k+m.length)).toArray\/arr.size < b+k+m.length
 |[],b,arr,k=>.inl (by simp)
 |x::m,b,arr,k=>by
  rcases Nat.lt_or_ge arr.size (b+k+(x::m).length)with z|z
  ·exact .inr z
  ·left
   rw[y6]at z
   rw[zipIdx_cons,foldl_cons]
   have hs:(arr.setIfInBounds (b+k) x).size=arr.size:=by simp
   rcases sf m b (arr.setIfInBounds (b+k) x) (k+1)with e|e
   ·rw[e]
    congr 1
    have hl:b+k < arr.toList.length:=by rw[o7];omega
    have e1:(arr.setIfInBounds (b+k) x).toList=arr.toList.take (b+k)++x::arr.toList.drop (b+k+1):=by
     rw[Array.toList_setIfInBounds,set_eq_take_append_cons_drop,J9 hl]
    rw[e1]
    have hlen:(arr.toList.take (b+k)).length=b+k:=by rw[A3];omega
    have t1:(arr.toList.take (b+k)++x::arr.toList.drop (b+k+1)).take (b+(k+1))=arr.toList.take (b+k)++[x]:=by
     rw[take_append,hlen,show b+(k+1) - (b+k)=1 by omega]
     have:(arr.toList.take (b+k)).take (b+(k+1))=arr.toList.take (b+k):=j8 (by rw[hlen];omega)
     rw[this]
     rfl
    have t2:(arr.toList.take (b+k)++x::arr.toList.drop (b+k+1)).drop (b+(k+1)+m.length)=arr.toList.drop (b+k+(m.length+1)):=by
     rw[drop_append,hlen,show b+(k+1)+m.length - (b+k)=m.length+1 by omega]
     have:(arr.toList.take (b+k)).drop (b+(k+1)+m.length)=[]:=k3 (by rw[hlen];omega)
     rw[this,A7,drop_succ_cons,drop_drop,show b+k+1+m.length=b+k+(m.length+1) by omega]
    rw[t1,t2,y6,u9 (arr.toList.take (b+k)) [x] m]
    rfl
   ·rw[hs]at e
    omega
end
end L5
namespace L5
open PySem PySem.W PyProof.Rows
theorem EJ{σ:Type}{M:Model}{A:Around}{E:Value->Shared->Prop}{s:Shared}{x:σ}{Q:PUnit->σ->Prop}{st:σ}(h:Q ⟨⟩ x):wpS M A E s (set x:StateT σ Sem PUnit) Q st:=by
 unfold wpS;rw[StateT.run_set];exact G9 ⟨rfl,h⟩
noncomputable def dY (κ:SortKind)(it:Nat->Keyed)(l:List Nat)(pd:Array (Nat×Nat×Nat))(g:Nat):SortSt:=SortSt.mk' κ (ma it l) pd g none
section
variable {prog:Program}{w:World}{A:Around}{E:Value->Shared->Prop}{s:Shared}{κ:SortKind}{it:Nat->Keyed}{n:Nat}{lt:Nat->Nat->Bool}{l:List Nat}
theorem jf(l:List Nat){b k i:Nat}(h:i < k)(h2:b+i < l.length):((l.drop b).take k).getD i 0=l.getD (b+i) 0:=by
 rw[g9,g9,getElem?_take_of_lt h,getElem?_drop]
theorem l_(l:List Nat){b k:Nat}(h:b+k<=l.length):((l.drop b).take k).length=k:=by
 rw[A3,y8];omega
theorem Bd{b k:Nat}(h:b+k<=l.length)(u:oP lt l b (b+k)):((l.drop b).take k).Pairwise (le lt):=by
 rw[pairwise_iff_getElem]
 intro i j hi hj ow
 rw[l_ l h]at hi hj
 have e:∀(q:Nat) (hq:q < ((l.drop b).take k).length),((l.drop b).take k)[q]=l.getD (b+q) 0:=λ q hq=>by
  have h3:q < k:=by rw[l_ l h]at hq;exact hq
  rw[<- jf l h3 (by omega),g9,i9 hq]
  rfl
 rw[e,e]
 exact u _ _ (by omega) (by omega) (by omega)
theorem lZ{b k x:Nat}(h:x∈(l.drop b).take k):∃j,b<=j/\j < b+k/\j < l.length/\x=l.getD j 0:=dq h
theorem qu(l m:List Nat){c i:Nat}(h:c+m.length<=l.length):(l.take c++m++l.drop (c+m.length)).getD i 0=if i < c then l.getD i 0 else if i < c+m.length then m.getD (i - c) 0 else l.getD i 0:=by
 have hc:(l.take c).length=c:=by rw[A3];omega
 simp only[g9]
 by_cases h1:i < c
 ·rw[J9 h1,u9,i0 (by omega),getElem?_take_of_lt h1]
 ·rw[K0 h1,u9,e9 (by omega),hc]
  by_cases h2:i < c+m.length
  ·rw[J9 h2,i0 (by omega)]
  ·rw[K0 h2,e9 (by omega),getElem?_drop,show c+m.length+(i - c - m.length)=i by omega]
theorem Me{c:Nat}{m:List Nat}(h:c+m.length<=l.length):(ma it m).toList.zipIdx.foldl (λ a (p:Keyed×Nat)=>a.setIfInBounds (c+p.2) p.1) (ma it l)=ma it (l.take c++m++l.drop (c+m.length)):=by
 rcases sf (ma it m).toList c (ma it l) 0 with e|e
 ·rw[e]
  simp[ma,map_take,map_drop]
 ·have z:(ma it m).toList.length=m.length:=by rw[o7,dr]
  rw[dr,z]at e
  omega
structure Mg(lt:Nat->Nat->Bool)(l l':List Nat)(a b:Nat):Prop where
 perm:l'.Perm l
 out:∀i,i < a\/b<=i->l'.getD i 0=l.getD i 0
 up:oP lt l' a b
theorem wm(h:mG prog w A s κ it n lt)(O:Ord lt)(hb:rX n l){pd:Array (Nat×Nat×Nat)}{g i sa na nb pw pw2:Nat}(p1:pd[i]?=some (sa,na,pw))(p2:pd[i+1]?=some (sa+na,nb,pw2))(n1:1<=na)(n2:1<=nb)(hz:sa+na+nb<=l.length)(u1:oP lt l sa (sa+na))(u2:oP lt l (sa+na) (sa+na+nb)){Q:Bool->SortSt->Prop}
  (q:∀l' g',Mg lt l l' sa (sa+na+nb)->Q true (dY κ it l' ((pd.setIfInBounds i (sa,na+nb,pw)).eraseIdxIfInBounds (i+1)) g')):wpS (model prog w) A E s (mergeAt' i) Q (dY κ it l pd g):=by
 rw[tM]
 refine J4 (wpS_get ?_)
 have e1:(pendingOf (dY κ it l pd g))[i]?=some (sa,na,pw):=p1
 have e2:(pendingOf (dY κ it l pd g))[i+1]?=some (sa+na,nb,pw2):=p2
 have ea:arrOf (dY κ it l pd g)=ma it l:=rfl
 simp only[e1,e2,ea]
 refine J4 (EJ ?_)
 show wpS _ _ _ _ _ _ (dY κ it l ((pd.setIfInBounds i (sa,na+nb,pw)).eraseIdxIfInBounds (i+1)) g)
 generalize(pd.setIfInBounds i (sa,na+nb,pw)).eraseIdxIfInBounds (i+1)=vZ at*
 refine J4 (bu (by omega) (J4 (fR (base:=sa) (m:=na) (hint:=0) (st:=dY κ it l vZ g) h O rfl hb (hb _ (by omega)) (by omega) (by omega) u1 λ k hk t1 t2=>?_)))
 dsimp only
 have f1:∀j,sa<=j->j < sa+k->le lt (l.getD j 0) (l.getD (sa+na) 0):=λ j j1 j2=>by
  have:=t1 (j - sa) (by omega)
  rw[show sa+(j - sa)=j by omega]at this
  simpa[bd]using this
 have f2:∀j,sa+k<=j->j < sa+na->lt (l.getD (sa+na) 0) (l.getD j 0)=true:=λ j j1 j2=>by
  have:=t2 (j - sa) (by omega) (by omega)
  rw[show sa+(j - sa)=j by omega]at this
  simpa[bd]using this
 by_cases z:na - k=0
 ·rw[J9 (by simp[z])]
  refine J6 (q l g ⟨List.Perm.refl _,λ _ _=>rfl,λ x y h1 h2 h3=>?_⟩)
  rcases Nat.lt_or_ge y (sa+na)with c|c
  ·exact u1 x y h1 h2 c
  ·rcases Nat.lt_or_ge x (sa+na)with d|d
   ·exact O.tr _ _ _ (u2 (sa+na) y (by omega) c h3) (f1 x h1 (by omega))
   ·exact u2 x y d h2 h3
 ·rw[K0 (by simp[z])]
  have ek:sa+k+(na - k) - 1=sa+na - 1:=by omega
  rw[ek]
  refine J4 (bu (by omega) (J4 (fR (base:=sa+na) (m:=nb) (hint:=nb - 1) (st:=dY κ it l vZ g) h O rfl hb (hb _ (by omega)) (by omega) (by omega) u2 λ r hr t3 t4=>?_)))
  dsimp only
  have f3:∀j,sa+na<=j->j < sa+na+r->lt (l.getD j 0) (l.getD (sa+na - 1) 0)=true:=λ j j1 j2=>by
   have:=t3 (j - (sa+na)) (by omega)
   rw[show sa+na+(j - (sa+na))=j by omega]at this
   simpa[bd]using this
  have f4:∀j,sa+na+r<=j->j < sa+na+nb->le lt (l.getD (sa+na - 1) 0) (l.getD j 0):=λ j j1 j2=>by
   have:=t4 (j - (sa+na)) (by omega) (by omega)
   rw[show sa+na+(j - (sa+na))=j by omega]at this
   simpa[bd]using this
  by_cases z2:r=0
  ·rw[J9 (by simp[z2])]
   refine J6 (q l g ⟨List.Perm.refl _,λ _ _=>rfl,λ x y h1 h2 h3=>?_⟩)
   rcases Nat.lt_or_ge y (sa+na)with c|c
   ·exact u1 x y h1 h2 c
   ·rcases Nat.lt_or_ge x (sa+na)with d|d
    ·exact O.tr _ _ _ (f4 y (by omega) h3) (u1 x (sa+na - 1) h1 (by omega) (by omega))
    ·exact u2 x y d h2 h3
  ·rw[K0 (by simp[z2])]
   simp only[ke]
   rw[show sa+na - (sa+k)=na - k by omega,show sa+na+r - (sa+na)=r by omega]
   have lA:=l_ l (b:=sa+k) (k:=na - k) (by omega)
   have lB:=l_ l (b:=sa+na) (k:=r) (by omega)
   have T:Aq n lt ((l.drop (sa+k)).take (na - k)) ((l.drop (sa+na)).take r):=by
    refine⟨O,λ i hi=>?_,λ i hi=>?_,Bd (by omega) λ x y h1 h2 h3=>u1 x y (by omega) h2 (by omega),Bd (by omega) λ x y h1 h2 h3=>u2 x y h1 h2 (by omega),λ y hy=>?_,λ y hy=>?_⟩
    ·rw[lA]at hi
     rw[jf l hi (by omega)]
     exact hb _ (by omega)
    ·rw[lB]at hi
     rw[jf l hi (by omega)]
     exact hb _ (by omega)
    ·obtain⟨j,j1,j2,j3,rfl⟩:=lZ hy
     rw[lA,jf l (by omega) (by omega),show sa+k+(na - k - 1)=sa+na - 1 by omega]
     exact O.jK _ _ (f3 j j1 j2)
    ·obtain⟨j,j1,j2,j3,rfl⟩:=lZ hy
     rw[jf l (by omega) (by omega),Nat.add_zero]
     exact O.jK _ _ (f2 j j1 (by omega))
   have tail:∀(x:Array Keyed) g',kH it lt ((l.drop (sa+k)).take (na - k)) ((l.drop (sa+na)).take r) x->wpS (model prog w) A E s (do
     modify λ s=>setArr s (x.toList.zipIdx.foldl (λ a (p,j)=>a.setIfInBounds (sa+k+j) p) (arrOf s))
     return(failedOf (<- get)).isNone) Q (dY κ it l vZ g'):=?tl
   ·split
    ·exact J4 (wg h T rfl (by omega) (by omega) λ g' x f=>tail x g' f)
    ·exact J4 (wj h T rfl (by omega) (by omega) λ g' x f=>tail x g' f)
   rintro x g' ⟨m,rfl,pm,um⟩
   have lm:m.length=na - k+r:=by rw[pm.length_eq,p6,lA,lB]
   refine J4 (wpS_modify (J4 (wpS_get (J6 ?_))))
   show Q true (SortSt.mk' κ ((ma it m).toList.zipIdx.foldl (λ a (p:Keyed×Nat)=>a.setIfInBounds (sa+k+p.2) p.1) (ma it l)) vZ g' none)
   rw[Me (by omega)]
   have gm:∀i,i < m.length->∃j,((sa+k<=j/\j < sa+na)\/(sa+na<=j/\j < sa+na+r))/\m.getD i 0=l.getD j 0:=λ i hi=>by
    have hm:m.getD i 0∈m:=by
     rw[g9,i9 hi]
     exact A4 hi
    rcases B8.mp (pm.mem_iff.mp hm)with z|z
    ·obtain⟨j,j1,j2,j3,e⟩:=lZ z
     exact⟨j,.inl ⟨j1,by omega⟩,e⟩
    ·obtain⟨j,j1,j2,j3,e⟩:=lZ z
     exact⟨j,.inr ⟨j1,by omega⟩,e⟩
   refine q _ g' ⟨?_,λ i hi=>?_,λ x y h1 h2 h3=>?_⟩
   ·have s1:=take_append_drop (sa+k) l
    have s2:=gx l (sa+k) (na - k)
    have s3:=gx l (sa+na) r
    rw[show sa+k+(na - k)=sa+na by omega]at s2
    have e:l=l.take (sa+k)++(((l.drop (sa+k)).take (na - k)++(l.drop (sa+na)).take r)++l.drop (sa+na+r)):=by
     rw[u9 ((l.drop (sa+k)).take (na - k)),<- s3,<- s2,s1]
    rw[lm,show sa+k+(na - k+r)=sa+na+r by omega,u9]
    refine List.Perm.trans ?_ (List.Perm.of_eq e.symm)
    exact List.Perm.append_left _ (List.Perm.append_right _ pm)
   ·rw[qu l m (by omega)]
    rw[lm]
    by_cases c1:i < sa+k
    ·rw[J9 c1]
    ·rw[K0 c1,K0 (by omega)]
   ·rw[qu l m (by omega),qu l m (by omega),lm]
    by_cases c1:y < sa+k
    ·rw[J9 c1,J9 (by omega)]
     exact u1 x y h1 h2 (by omega)
    ·rw[K0 c1]
     by_cases c2:y < sa+k+(na - k+r)
     ·rw[J9 c2]
      by_cases d1:x < sa+k
      ·rw[J9 d1]
       obtain⟨j,hj,e⟩:=gm (y - (sa+k)) (by omega)
       rw[e]
       rcases hj with hj|hj
       ·exact u1 x j h1 (by omega) hj.2
       ·exact O.tr _ _ _ (u2 (sa+na) j (by omega) hj.1 (by omega)) (f1 x h1 d1)
      ·rw[K0 d1,J9 (by omega)]
       exact dJ O um (by omega) (by omega)
     ·rw[K0 c2]
      by_cases d1:x < sa+k
      ·rw[J9 d1]
       exact O.tr _ _ _ (u2 (sa+na) y (by omega) (by omega) h3) (f1 x h1 d1)
      ·rw[K0 d1]
       by_cases d2:x < sa+k+(na - k+r)
       ·rw[J9 d2]
        obtain⟨j,hj,e⟩:=gm (x - (sa+k)) (by omega)
        rw[e]
        rcases hj with hj|hj
        ·exact O.tr _ _ _ (f4 y (by omega) h3) (u1 j (sa+na - 1) (by omega) (by omega) (by omega))
        ·exact u2 j y hj.1 (by omega) h3
       ·rw[K0 d2]
        exact u2 x y (by omega) h2 h3
end
end L5
namespace L5
open PySem PySem.W PyProof.Rows
section
variable {it:Nat->Keyed}{lt:Nat->Nat->Bool}
noncomputable def lF (l:List Nat)(i j:Nat):List Nat:=(kas_rev l.toArray i j).toList
noncomputable def An (l:List Nat)(k t:Nat):List Nat:=(bubble l.toArray k (k - t)).toList
theorem eD(p:Array Nat)(i:Nat):p.toList.getD i 0=pg p i:=by
 rw[jn,g9,l7]
theorem eS(l:List Nat){i j:Nat}(hj:j<=l.length)(k:Nat):(lF l i j).getD k 0=if i<=k/\k < j then l.getD (i+j - 1 - k) 0 else l.getD k 0:=by
 unfold lF
 rw[eD,Lj (by simpa using hj),<- eD,<- eD]
theorem nX(l:List Nat){k t:Nat}(hk:k < l.length)(ht:t<=k)(j:Nat):(An l k t).getD j 0=if j=t then l.getD k 0 else if t < j/\j<=k then l.getD (j - 1) 0 else l.getD j 0:=by
 unfold An
 rw[eD,Lk (by simpa using hk) ht,<- eD,<- eD,<- eD]
theorem fK(l:List Nat)(i j:Nat):(lF l i j).Perm l:=by
 have:=Array.Perm.toList (mirror_perm l.toArray i j ((j - i) / 2))
 simpa[lF,kas_rev]using this
theorem Am(l:List Nat)(k t:Nat):(An l k t).Perm l:=by
 have:=Array.Perm.toList (bubble_perm l.toArray k (k - t))
 simpa[An]using this
theorem kf(l:List Nat):ma it l=l.toArray.map it:=by simp[ma]
theorem rX.perm {n:Nat}{l l':List Nat}(h:rX n l)(p:l'.Perm l):rX n l':=λ i hi=>by
 have hm:l'.getD i 0∈l':=by
  rw[g9,i9 hi]
  exact A4 hi
 obtain⟨j,hj,e⟩:=m8.mp (p.mem_iff.mp hm)
 have:=h j hj
 rw[g9,i9 hj]at this
 rw[<- e]
 exact this
variable {prog:Program}{w:World}{A:Around}{E:Value->Shared->Prop}{s:Shared}{κ:SortKind}{n:Nat}{l:List Nat}{pd:Array (Nat×Nat×Nat)}{g:Nat}
theorem qp{i j:Nat}{Q:Unit->SortSt->Prop}(q:Q () (dY κ it (lF l i j) pd g)):wpS (model prog w) A E s (reverseSlice' i j) Q (dY κ it l pd g):=by
 rw[reverseSlice'_eq]
 refine wpS_modify ?_
 have e:mirror (ma it l) i j ((j - i) / 2)=ma it (lF l i j):=by
  rw[kf,kf]
  have:=kas_swaps_map it (λ k=>i+k) (λ k=>j - 1 - k) (List.range ((j - i) / 2)) l.toArray
  exact this
 show Q () (SortSt.mk' κ (mirror (ma it l) i j ((j - i) / 2)) pd g none)
 rw[e]
 exact q
theorem NB{k t:Nat}{Q:Unit->SortSt->Prop}(q:Q () (dY κ it (An l k t) pd g)):wpS (model prog w) A E s (moveDown' k t) Q (dY κ it l pd g):=by
 rw[moveDown'_eq]
 refine wpS_modify ?_
 have e:bubble (ma it l) k (k - t)=ma it (An l k t):=by
  rw[kf,kf]
  have:=kas_swaps_map it (λ i=>k - i) (λ i=>k - i - 1) (List.range (k - t)) l.toArray
  exact this
 show Q () (SortSt.mk' κ (bubble (ma it l) k (k - t)) pd g none)
 rw[e]
 exact q
theorem ix(h:mG prog w A s κ it n lt)(hb:rX n l){i j:Nat}(hi:i < l.length)(hj:j < l.length){Q:Option Bool->SortSt->Prop}(q:Q (some (lt (l.getD i 0) (l.getD j 0))) (dY κ it l pd g)):wpS (model prog w) A E s (ltAt' i j) Q (dY κ it l pd g):=by
 rw[ltAt'_eq]
 refine J4 (wpS_get ?_)
 show wpS _ _ _ _ (do let x <- elem' (ma it l) i;let y <- elem' (ma it l) j;lt' x y) Q _
 exact J4 (bu hi (J4 (bu hj (tR h rfl (hb _ hi) (hb _ hj) q))))
end
end L5
namespace L5
open PySem PySem.W PyProof.Rows
section
variable {it:Nat->Keyed}{lt:Nat->Nat->Bool}{prog:Program}{w:World}{A:Around}{E:Value->Shared->Prop}{s:Shared}{κ:SortKind}{n:Nat}{l:List Nat}{pd:Array (Nat×Nat×Nat)}{g:Nat}
theorem ND(h:mG prog w A s κ it n lt)(O:Ord lt)(hb:rX n l){lo m ok:Nat}(hm:lo+m<=l.length)(bO:ok<=m)(h1:1<=m)(u:oP lt l lo (lo+ok)){Q:Bool->SortSt->Prop}(q:∀l',Mg lt l l' lo (lo+m)->Q true (dY κ it l' pd g)):wpS (model prog w) A E s (binarySort' lo m ok) Q (dY κ it l pd g):=by
 rw[binarySort'_eq]
 refine J4 (ic (λ k (c:Option Bool×Unit) aK=>c.1=none/\∃l',Mg lt l l' lo (lo+k)/\aK=dY κ it l' pd g) (λ c aK=>c.1=none/\∃l',Mg lt l l' lo (lo+m)/\aK=dY κ it l' pd g) ?_ ?_ ?_ ⟨rfl,l,⟨List.Perm.refl _,λ _ _=>rfl,λ x y a b c=>?_⟩,rfl⟩)
 ·rintro k ⟨c,⟨⟩⟩ aK Zl N_ ⟨rfl,l',M,rfl⟩
  have pK:=hb.perm M.perm
  have uh:=M.perm.length_eq
  dsimp only
  refine J4 (ic (λ j (c:Option Bool×Nat×Nat) aK=>aK=dY κ it l' pd g/\c.1=none/\c.2.1<=c.2.2/\c.2.2<=k/\c.2.2 - c.2.1+j<=k/\(∀i,i < c.2.1->le lt (l'.getD (lo+i) 0) (l'.getD (lo+k) 0))/\(∀i,c.2.2<=i->i < k->lt (l'.getD (lo+k) 0) (l'.getD (lo+i) 0)=true))
   (λ c aK=>aK=dY κ it l' pd g/\c.1=none/\c.2.1<=k/\(∀i,i < c.2.1->le lt (l'.getD (lo+i) 0) (l'.getD (lo+k) 0))/\(∀i,c.2.1<=i->i < k->lt (l'.getD (lo+k) 0) (l'.getD (lo+i) 0)=true)) ?_ ?_ ?_ ⟨rfl,rfl,G5 _,E9 _,by dsimp only;omega,λ i hi=>(by dsimp only at hi;omega),λ i hi XA=>(by dsimp only at hi;omega)⟩)
  ·rintro j ⟨r,a,b⟩ aK _ hj ⟨rfl,rfl,c1,c2,c3,c4,c5⟩
   dsimp only at c1 c2 c3 c4 c5 ⊢
   by_cases z:a ≥ b
   ·rw[J9 z]
    have:a=b:=by omega
    subst this
    exact J6 ⟨rfl,rfl,c2,c4,c5⟩
   ·rw[K0 z]
    refine J4 (ix h pK (by omega) (by omega) ?_)
    dsimp only
    cases e:lt (l'.getD (lo+k) 0) (l'.getD (lo+(a+b) / 2) 0)with
    |true=>
     rw[J9 rfl]
     refine J6 ⟨rfl,rfl,by dsimp only;omega,by dsimp only;omega,by dsimp only;omega,c4,λ i hi XA=>?_⟩
     dsimp only at hi
     cases e2:lt (l'.getD (lo+k) 0) (l'.getD (lo+i) 0)with
     |true=>rfl
     |false=>
      have:=O.tr _ _ _ e2 (M.up (lo+(a+b) / 2) (lo+i) (by omega) (by omega) (by omega))
      rw[this]at e
      cases e
    |false=>
     rw[K0 (by decide)]
     refine J6 ⟨rfl,rfl,by dsimp only;omega,c2,by dsimp only;omega,λ i hi=>?_,c5⟩
     dsimp only at hi
     exact O.tr _ _ _ e (M.up (lo+i) (lo+(a+b) / 2) (by omega) (by omega) (by omega))
  ·rintro⟨r,a,b⟩ aK ⟨rfl,rfl,c1,c2,c3,c4,c5⟩
   dsimp only at c1 c2 c3 c4 c5 ⊢
   have:a=b:=by omega
   subst this
   exact⟨rfl,rfl,c2,c4,c5⟩
  ·rintro⟨r,a,b⟩ aK ⟨rfl,rfl,c2,c4,c5⟩
   dsimp only at c2 c4 c5 ⊢
   refine J4 (NB (J6 ⟨rfl,_,⟨(Am _ _ _).trans M.perm,λ i hi=>?_,λ x y x1 x2 x3=>?_⟩,rfl⟩))
   ·rw[nX l' (by omega) (by omega),K0 (by omega),K0 (by omega)]
    exact M.out i (by omega)
   ·rw[nX l' (by omega) (by omega),nX l' (by omega) (by omega)]
    by_cases y1:y=lo+a
    ·rw[J9 y1]
     by_cases y2:x=lo+a
     ·rw[J9 y2]
      exact O.refl _
     ·rw[K0 y2,K0 (by omega)]
      have:=c4 (x - lo) (by omega)
      rw[show lo+(x - lo)=x by omega]at this
      exact this
    ·rw[K0 y1]
     by_cases y2:lo+a < y/\y<=lo+k
     ·rw[J9 y2]
      by_cases y3:x=lo+a
      ·rw[J9 y3]
       have:=c5 (y - 1 - lo) (by omega) (by omega)
       rw[show lo+(y - 1 - lo)=y - 1 by omega]at this
       exact O.jK _ _ this
      ·rw[K0 y3]
       by_cases y4:lo+a < x/\x<=lo+k
       ·rw[J9 y4]
        exact M.up _ _ (by omega) (by omega) (by omega)
       ·rw[K0 y4]
        exact M.up _ _ (by omega) (by omega) (by omega)
     ·rw[K0 y2,K0 (by omega),K0 (by omega)]
      exact M.up _ _ x1 x2 (by omega)
 ·rintro⟨c,⟨⟩⟩ aK ⟨rfl,l',M,rfl⟩
  rw[show max (max ok 1) m=m by omega]at M
  exact⟨rfl,l',M,rfl⟩
 ·rintro⟨c,⟨⟩⟩ aK ⟨rfl,l',M,rfl⟩
  exact J6 (q l' M)
 ·by_cases z:ok=0
  ·subst z
   have:x=y:=by omega
   subst this
   exact O.refl _
  ·exact u x y a b (by omega)
end
end L5
namespace L5
open PySem PySem.W PyProof.Rows
noncomputable def En (lo a bI:Nat):StateT SortSt Sem AscSt:=
 forIn [a:bI] ((none,a):AscSt) λ _ c=>do
  match <- ltAt' (lo+c.2) (lo+c.2 - 1)with
  |some qh=>if qh=true then pure (ForInStep.done (none,c.2))else pure (ForInStep.yield (none,c.2+1))
  |_=>pure (ForInStep.done (some none,c.2))
noncomputable def NU (lo n bI:Nat):StateT SortSt Sem (Option Nat):=do
 reverseSlice' lo (lo+n)
 let c <- En lo n bI
 match c.1 with
 |some r=>pure r
 |none=>pure (some c.2)
noncomputable def HP (lo n bI:Nat):StateT SortSt Sem DescSt:=
 forIn [n:bI] ((none,n,0):DescSt) λ _ c=>do
  match <- ltAt' (lo+c.2.1) (lo+c.2.1 - 1)with
  |some qh=>
   if qh=true then
    if c.2.2 > 0 then do
     reverseSlice' (lo+c.2.1 - (c.2.2+1)) (lo+c.2.1)
     pure (ForInStep.yield (none,c.2.1+1,0))
    else pure (ForInStep.yield (none,c.2.1+1,0))
   else do
    match <- ltAt' (lo+c.2.1 - 1) (lo+c.2.1)with
    |some Ml=>
     if Ml=true then pure (ForInStep.done (none,c.2.1,c.2.2))
     else pure (ForInStep.yield (none,c.2.1+1,c.2.2+1))
    |_=>pure (ForInStep.done (some none,c.2.1,c.2.2))
  |_=>pure (ForInStep.done (some none,c.2.1,c.2.2))
noncomputable def Ni (lo n bI:Nat):StateT SortSt Sem (Option Nat):=do
 liftM (rule "list.sort.descending-run")
 let c <- HP lo (n+1) bI
 match c.1 with
 |some r=>pure r
 |none=>
  if c.2.2 > 0 then do
   reverseSlice' (lo+c.2.1 - (c.2.2+1)) (lo+c.2.1)
   NU lo c.2.1 bI
  else NU lo c.2.1 bI
theorem Ah(lo bI:Nat):countRun' lo bI=(do
  let c <- En lo 1 bI
  match c.1 with
  |some r=>pure r
  |none=>
   if(c.2==bI)=true then pure (some c.2)
   else if c.2 > 1 then do
    match <- ltAt' lo (lo+c.2 - 1)with
    |some OG=>if OG=true then pure (some c.2)else do
      reverseSlice' lo (lo+c.2)
      Ni lo c.2 bI
    |_=>pure none
   else Ni lo c.2 bI):=by
 have dp:∀m,Ni lo m bI=(do
   liftM (rule "list.sort.descending-run")
   let c <- HP lo (m+1) bI
   match c.1 with
   |some r=>pure r
   |none=>
    if c.2.2 > 0 then do
     reverseSlice' (lo+c.2.1 - (c.2.2+1)) (lo+c.2.1)
     NU lo c.2.1 bI
    else NU lo c.2.1 bI):=λ m=>rfl
 rw[countRun'_eq]
 dsimp only
 refine fW (ko λ _ c=>J1 λ z=>by cases z <;> rfl) λ c=>?_
 obtain⟨r,m⟩:=c
 cases r with
 |some r=>rfl
 |none=>
  have jp:∀(X:StateT SortSt Sem (Option Nat)),X=Ni lo m bI->X=Ni lo m bI:=λ _ h=>h
  have body:∀{P:StateT SortSt Sem (Option Nat)},P=P:=rfl
  refine J3 rfl (λ _=>rfl) λ _=>J3 rfl (λ _=>?_) λ _=>?_
  ·refine J1 λ z=>?_
   cases z with
   |none=>rfl
   |some OG=>
    refine J3 rfl (λ _=>rfl) λ _=>J1 λ _=>?_
    rw[dp]
    refine J1 λ _=>fW (ko λ _ c=>J1 λ z=>?_) λ c=>?_
    ·cases z with
     |none=>rfl
     |some b=>
      refine J3 rfl (λ _=>rfl) λ _=>J1 λ z=>by cases z <;> rfl
    ·obtain⟨r,x,y⟩:=c
     cases r with
     |some r=>rfl
     |none=>
      refine J3 rfl (λ _=>J1 λ _=>J1 λ _=>fW (ko λ _ c=>J1 λ z=>by cases z <;> rfl) λ c=>?_) λ _=>J1 λ _=>fW (ko λ _ c=>J1 λ z=>by cases z <;> rfl) λ c=>?_
      ·obtain⟨r,x⟩:=c;cases r <;> rfl
      ·obtain⟨r,x⟩:=c;cases r <;> rfl
  ·rw[dp]
   refine J1 λ _=>fW (ko λ _ c=>J1 λ z=>?_) λ c=>?_
   ·cases z with
    |none=>rfl
    |some b=>
     refine J3 rfl (λ _=>rfl) λ _=>J1 λ z=>by cases z <;> rfl
   ·obtain⟨r,x,y⟩:=c
    cases r with
    |some r=>rfl
    |none=>
     refine J3 rfl (λ _=>J1 λ _=>J1 λ _=>fW (ko λ _ c=>J1 λ z=>by cases z <;> rfl) λ c=>?_) λ _=>J1 λ _=>fW (ko λ _ c=>J1 λ z=>by cases z <;> rfl) λ c=>?_
     ·obtain⟨r,x⟩:=c;cases r <;> rfl
     ·obtain⟨r,x⟩:=c;cases r <;> rfl
end L5
namespace L5
open PySem PySem.W PyProof.Rows
section
variable {it:Nat->Keyed}{lt:Nat->Nat->Bool}{prog:Program}{w:World}{A:Around}{E:Value->Shared->Prop}{s:Shared}{κ:SortKind}{n:Nat}{l:List Nat}{pd:Array (Nat×Nat×Nat)}{g:Nat}
theorem oP.next (O:Ord lt){lo m:Nat}(u:oP lt l lo (lo+m))(hm:1<=m)(q:le lt (l.getD (lo+m - 1) 0) (l.getD (lo+m) 0)):oP lt l lo (lo+(m+1)):=λ i j a b c=>by
 by_cases e:j=lo+m
 ·subst e
  by_cases e2:i=lo+m
  ·subst e2;exact O.refl _
  ·exact O.trans (u i (lo+m - 1) a (by omega) (by omega)) q
 ·exact u i j a b (by omega)
noncomputable def Ju (lt:Nat->Nat->Bool)(l:List Nat)(a b:Nat):Prop:=∀i j,a<=i->i<=j->j < b->le lt (l.getD j 0) (l.getD i 0)
theorem Ju.next (O:Ord lt){lo m:Nat}(u:Ju lt l lo (lo+m))(hm:1<=m)(q:le lt (l.getD (lo+m) 0) (l.getD (lo+m - 1) 0)):Ju lt l lo (lo+(m+1)):=λ i j a b c=>by
 by_cases e:j=lo+m
 ·subst e
  by_cases e2:i=lo+m
  ·subst e2;exact O.refl _
  ·exact O.trans q (u i (lo+m - 1) a (by omega) (by omega))
 ·exact u i j a b (by omega)
theorem NG(h:mG prog w A s κ it n lt)(O:Ord lt)(hb:rX n l){lo a bI:Nat}(hz:lo+bI<=l.length)(h1:1<=a)(ha:a<=bI)(u:oP lt l lo (lo+a)){Q:AscSt->SortSt->Prop}(q:∀m,a<=m->m<=bI->oP lt l lo (lo+m)->Q (none,m) (dY κ it l pd g)):wpS (model prog w) A E s (En lo a bI) Q (dY κ it l pd g):=by
 unfold En
 refine ic (λ i (c:AscSt) aK=>aK=dY κ it l pd g/\c.1=none/\c.2=i/\oP lt l lo (lo+c.2)) (λ c aK=>aK=dY κ it l pd g/\c.1=none/\a<=c.2/\c.2<=bI/\oP lt l lo (lo+c.2)) ?_ ?_ ?_ ⟨rfl,rfl,rfl,u⟩
 ·rintro i ⟨r,m⟩ aK i1 i2 ⟨rfl,rfl,e,u'⟩
  dsimp only at e u' ⊢
  subst e
  refine J4 (ix h hb (by omega) (by omega) ?_)
  dsimp only
  cases e:lt (l.getD (lo+m) 0) (l.getD (lo+m - 1) 0)with
  |true=>
   rw[J9 rfl]
   exact J6 ⟨rfl,rfl,i1,by dsimp only;omega,u'⟩
  |false=>
   rw[K0 (by decide)]
   exact J6 ⟨rfl,rfl,rfl,u'.next O (by omega) e⟩
 ·rintro⟨r,m⟩ aK ⟨rfl,rfl,e,u'⟩
  dsimp only at e u'
  exact⟨rfl,rfl,by dsimp only;omega,by dsimp only;omega,u'⟩
 ·rintro⟨r,m⟩ aK ⟨rfl,rfl,m1,m2,u'⟩
  exact q m m1 m2 u'
structure Ds(lt:Nat->Nat->Bool)(l l':List Nat)(lo m q:Nat):Prop where
 perm:l'.Perm l
 out:∀i,i < lo\/lo+m<=i->l'.getD i 0=l.getD i 0
 dn:Ju lt l' lo (lo+m)
 ev:∀k,lo+m - (q+1)<=k->k < lo+m->Ev lt (l'.getD k 0) (l'.getD (lo+m - 1) 0)
 q1:q+1<=m
theorem Ds.turn (O:Ord lt){l':List Nat}{lo m q:Nat}(D:Ds lt l l' lo m q)(hz:lo+m<=l'.length):(lF l' (lo+m - (q+1)) (lo+m)).Perm l/\(∀i,i < lo\/lo+m<=i->(lF l' (lo+m - (q+1)) (lo+m)).getD i 0=l.getD i 0)/\Ju lt (lF l' (lo+m - (q+1)) (lo+m)) lo (lo+m)/\∀k,Ev lt ((lF l' (lo+m - (q+1)) (lo+m)).getD k 0) (l'.getD k 0):=by
 have q1:=D.q1
 have ev:∀k,Ev lt ((lF l' (lo+m - (q+1)) (lo+m)).getD k 0) (l'.getD k 0):=λ k=>by
  rw[eS l' hz]
  split
  case isTrue z=>exact O.QK (D.ev _ (by omega) (by omega)) (D.ev k z.1 z.2).sym
  case isFalse z=>exact⟨O.refl _,O.refl _⟩
 refine⟨(fK _ _ _).trans D.perm,λ i hi=>?_,λ i j a b c=>O.trans (ev j).1 (O.trans (D.dn i j a b c) (ev i).2),ev⟩
 rw[eS l' hz,K0 (by omega)]
 exact D.out i hi
theorem Nl(h:mG prog w A s κ it n lt)(O:Ord lt)(hb:rX n l){lo a bI:Nat}(hz:lo+bI<=l.length)(ha:a<=bI){l0:List Nat}(D:Ds lt l l0 lo a 0){Q:DescSt->SortSt->Prop}(k:∀m q l',m<=bI->Ds lt l l' lo m q->Q (none,m,q) (dY κ it l' pd g)):wpS (model prog w) A E s (HP lo a bI) Q (dY κ it l0 pd g):=by
 unfold HP
 refine ic (λ i (c:DescSt) aK=>c.1=none/\c.2.1=i/\∃l',aK=dY κ it l' pd g/\Ds lt l l' lo c.2.1 c.2.2) (λ c aK=>c.1=none/\c.2.1<=bI/\∃l',aK=dY κ it l' pd g/\Ds lt l l' lo c.2.1 c.2.2) ?_ ?_ ?_ ⟨rfl,rfl,l0,rfl,D⟩
 ·rintro i ⟨r,m,q⟩ aK i1 i2 ⟨rfl,e,l',rfl,D'⟩
  dsimp only at e D' ⊢
  subst e
  have hl:=D'.perm.length_eq
  have pK:=hb.perm D'.perm
  have q1:=D'.q1
  refine J4 (ix h pK (by omega) (by omega) ?_)
  dsimp only
  cases e:lt (l'.getD (lo+m) 0) (l'.getD (lo+m - 1) 0)with
  |true=>
   rw[J9 rfl]
   split
   ·obtain⟨t1,t2,t3,t4⟩:=D'.turn O (by omega)
    refine J4 (qp (J6 ⟨rfl,rfl,_,rfl,⟨t1,λ i hi=>t2 i (by dsimp only at hi;omega),t3.next O (by omega) ?_,λ k k1 k2=>?_,by dsimp only;omega⟩⟩))
    ·rw[eS l' (k:=lo+m) (by omega),K0 (by omega)]
     exact O.trans (O.jK _ _ e) (t4 (lo+m - 1)).2
    ·dsimp only at k1 k2 ⊢
     have:k=lo+m:=by omega
     subst this
     exact⟨O.refl _,O.refl _⟩
   ·refine J6 ⟨rfl,rfl,_,rfl,⟨D'.perm,λ i hi=>D'.out i (by dsimp only at hi;omega),D'.dn.next O (by omega) (O.jK _ _ e),λ k k1 k2=>?_,by dsimp only;omega⟩⟩
    dsimp only at k1 k2 ⊢
    have:k=lo+m:=by omega
    subst this
    exact⟨O.refl _,O.refl _⟩
  |false=>
   rw[K0 (by decide)]
   refine J4 (ix h pK (by omega) (by omega) ?_)
   dsimp only
   cases e2:lt (l'.getD (lo+m - 1) 0) (l'.getD (lo+m) 0)with
   |true=>
    rw[J9 rfl]
    exact J6 ⟨rfl,by dsimp only;omega,_,rfl,D'⟩
   |false=>
    rw[K0 (by decide)]
    refine J6 ⟨rfl,rfl,_,rfl,⟨D'.perm,λ i hi=>D'.out i (by dsimp only at hi;omega),D'.dn.next O (by omega) e2,λ k k1 k2=>?_,by dsimp only;omega⟩⟩
    dsimp only at k1 k2 ⊢
    have hE:Ev lt (l'.getD (lo+m - 1) 0) (l'.getD (lo+m) 0):=⟨e,e2⟩
    rw[show lo+(m+1) - 1=lo+m by omega]
    by_cases z:k=lo+m
    ·subst z
     exact⟨O.refl _,O.refl _⟩
    ·exact O.QK (D'.ev k (by omega) (by omega)) hE
 ·rintro⟨r,m,q⟩ aK ⟨rfl,e,l',rfl,D'⟩
  dsimp only at e D'
  exact⟨rfl,by dsimp only;omega,l',rfl,D'⟩
 ·rintro⟨r,m,q⟩ aK ⟨rfl,e,l',rfl,D'⟩
  exact k m q l' e D'
theorem Iq(h:mG prog w A s κ it n lt)(O:Ord lt)(hb:rX n l){lo m bI:Nat}(hz:lo+bI<=l.length)(h1:1<=m)(hm:m<=bI){l':List Nat}(pm:l'.Perm l)(out:∀i,i < lo\/lo+m<=i->l'.getD i 0=l.getD i 0)(dn:Ju lt l' lo (lo+m)){Q:Option Nat->SortSt->Prop}(q:∀k l',1<=k->k<=bI->Mg lt l l' lo (lo+k)->Q (some k) (dY κ it l' pd g)):wpS (model prog w) A E s (NU lo m bI) Q (dY κ it l' pd g):=by
 unfold NU
 have hl:=pm.length_eq
 have MN:=(fK l' lo (lo+m)).length_eq
 refine J4 (qp (J4 (NG h O (hb.perm ((fK _ _ _).trans pm)) (by omega) h1 hm (λ i j a b c=>?_) λ k k1 k2 u=>?_)))
 ·rw[eS l' (by omega),eS l' (by omega),J9 ⟨a,by omega⟩,J9 ⟨by omega,c⟩]
  exact dn _ _ (by omega) (by omega) (by omega)
 ·refine J6 (q k _ (by omega) k2 ⟨(fK _ _ _).trans pm,λ i hi=>?_,u⟩)
  rw[eS l' (by omega),K0 (by omega)]
  exact out i (by omega)
end
end L5
namespace L5
open PySem PySem.W PyProof.Rows
section
variable {it:Nat->Keyed}{lt:Nat->Nat->Bool}{prog:Program}{w:World}{A:Around}{E:Value->Shared->Prop}{s:Shared}{κ:SortKind}{n:Nat}{l:List Nat}{pd:Array (Nat×Nat×Nat)}{g:Nat}
theorem Jk(h:mG prog w A s κ it n lt)(O:Ord lt)(hb:rX n l){lo m bI:Nat}(hz:lo+bI<=l.length)(hm:m+1<=bI){l0:List Nat}(D:Ds lt l l0 lo (m+1) 0){Q:Option Nat->SortSt->Prop}(q:∀k l',1<=k->k<=bI->Mg lt l l' lo (lo+k)->Q (some k) (dY κ it l' pd g)):wpS (model prog w) A E s (Ni lo m bI) Q (dY κ it l0 pd g):=by
 unfold Ni
 refine J4 (wpS_lift (H0 ⟨rfl,J4 (Nl h O hb hz hm D λ x y l' x1 D'=>?_)⟩))
 have q1:=D'.q1
 have hl:=D'.perm.length_eq
 dsimp only
 split
 ·obtain⟨t1,t2,t3,t4⟩:=D'.turn O (by omega)
  exact J4 (qp (Iq h O hb hz (by omega) x1 t1 t2 t3 q))
 ·exact Iq h O hb hz (by omega) x1 D'.perm D'.out D'.dn q
theorem Ea(h:mG prog w A s κ it n lt)(O:Ord lt)(hb:rX n l){lo bI:Nat}(hz:lo+bI<=l.length)(h1:1<=bI){Q:Option Nat->SortSt->Prop}(q:∀k l',1<=k->k<=bI->Mg lt l l' lo (lo+k)->Q (some k) (dY κ it l' pd g)):wpS (model prog w) A E s (countRun' lo bI) Q (dY κ it l pd g):=by
 rw[Ah]
 refine J4 ?_
 unfold En
 refine ic (λ i (c:AscSt) aK=>aK=dY κ it l pd g/\c.1=none/\c.2=i/\oP lt l lo (lo+c.2)) (λ c aK=>aK=dY κ it l pd g/\c.1=none/\1<=c.2/\c.2<=bI/\oP lt l lo (lo+c.2)/\(c.2 < bI->lt (l.getD (lo+c.2) 0) (l.getD (lo+c.2 - 1) 0)=true)) ?_ ?_ ?_ ⟨rfl,rfl,rfl,λ i j a b c=>?_⟩
 ·rintro i ⟨r,m⟩ aK i1 i2 ⟨rfl,rfl,e,u'⟩
  dsimp only at e u' ⊢
  subst e
  refine J4 (ix h hb (by omega) (by omega) ?_)
  dsimp only
  cases e:lt (l.getD (lo+m) 0) (l.getD (lo+m - 1) 0)with
  |true=>
   rw[J9 rfl]
   exact J6 ⟨rfl,rfl,i1,by dsimp only;omega,u',λ _=>e⟩
  |false=>
   rw[K0 (by decide)]
   exact J6 ⟨rfl,rfl,rfl,u'.next O (by omega) e⟩
 ·rintro⟨r,m⟩ aK ⟨rfl,rfl,e,u'⟩
  dsimp only at e u'
  exact⟨rfl,rfl,by dsimp only;omega,by dsimp only;omega,u',λ z=>by dsimp only at z;omega⟩
 ·rintro⟨r,m⟩ aK ⟨rfl,rfl,m1,m2,u',e⟩
  dsimp only at m1 m2 u' e ⊢
  by_cases z:m=bI
  ·rw[J9 (by simp[z])]
   exact J6 (q m l m1 m2 ⟨List.Perm.refl _,λ _ _=>rfl,u'⟩)
  ·rw[K0 (by simp[z])]
   have e:=e (by omega)
   by_cases z2:m > 1
   ·rw[J9 z2]
    refine J4 (ix h hb (by omega) (by omega) ?_)
    dsimp only
    cases e3:lt (l.getD lo 0) (l.getD (lo+m - 1) 0)with
    |true=>
     rw[J9 rfl]
     exact J6 (q m l m1 m2 ⟨List.Perm.refl _,λ _ _=>rfl,u'⟩)
    |false=>
     rw[K0 (by decide)]
     have al:∀i,lo<=i->i < lo+m->Ev lt (l.getD i 0) (l.getD (lo+m - 1) 0):=λ i a b=>⟨u' i (lo+m - 1) a (by omega) (by omega),O.trans e3 (u' lo i (E9 _) a b)⟩
     have gv:∀i,(lF l lo (lo+m)).getD i 0=if lo<=i/\i < lo+m then l.getD (lo+(lo+m) - 1 - i) 0 else l.getD i 0:=eS l (by omega)
     refine J4 (qp (Jk h O hb hz (by omega) ⟨fK _ _ _,λ i hi=>?_,?_,λ k k1 k2=>?_,by omega⟩ q))
     ·rw[gv,K0 (by omega)]
     ·refine Ju.next O (λ i j a b c=>?_) m1 ?_
      ·rw[gv,gv,J9 ⟨by omega,c⟩,J9 ⟨a,by omega⟩]
       exact u' _ _ (by omega) (by omega) (by omega)
      ·rw[gv,gv,K0 (by omega),J9 ⟨by omega,by omega⟩]
       exact O.trans (O.jK _ _ e) (al _ (by omega) (by omega)).2
     ·have:k=lo+m:=by omega
      subst this
      exact⟨O.refl _,O.refl _⟩
   ·rw[K0 z2]
    have:m=1:=by omega
    subst this
    refine Jk h O hb hz (by omega) ⟨List.Perm.refl _,λ _ _=>rfl,Ju.next O (λ i j a b c=>?_) m1 (O.jK _ _ e),λ k k1 k2=>?_,by omega⟩ q
    ·have:i=j:=by omega
     subst this
     exact O.refl _
    ·have:k=lo+1:=by omega
     subst this
     exact⟨O.refl _,O.refl _⟩
 ·dsimp only at c
  have:i=j:=by omega
  subst this
  exact O.refl _
end
end L5
namespace L5
open PySem PySem.W PyProof.Rows
abbrev Rn:=Nat×Nat×Nat
noncomputable def Runs (lt:Nat->Nat->Bool)(l:List Nat):List Rn->Nat->Nat->Prop
 |[],a,b=>a=b
 |(s,k,_)::r,a,b=>s=a/\1<=k/\oP lt l a (a+k)/\Runs lt l r (a+k) b
section
variable {lt:Nat->Nat->Bool}{l l':List Nat}
theorem Runs.le:∀{r:List Rn} {a b:Nat},Runs lt l r a b->a+r.length<=b
 |[],a,b,h=>by cases(show a=b from h);simp
 |(s,k,p)::r,a,b,h=>by
  obtain⟨_,h1,_,h2⟩:=h
  have:=Runs.le h2
  rw[y6]
  omega
theorem Runs.split:∀{r t:List Rn} {a b:Nat},Runs lt l (r++t) a b->∃c,Runs lt l r a c/\Runs lt l t c b
 |[],t,a,b,h=>⟨a,rfl,h⟩
 |(s,k,p)::r,t,a,b,h=>by
  obtain⟨h0,h1,h2,h3⟩:=h
  obtain⟨c,c1,c2⟩:=Runs.split h3
  exact⟨c,⟨h0,h1,h2,c1⟩,c2⟩
theorem Runs.app:∀{r t:List Rn} {a b c:Nat},Runs lt l r a c->Runs lt l t c b->Runs lt l (r++t) a b
 |[],t,a,b,c,h,g=>by cases(show a=c from h);exact g
 |(s,k,p)::r,t,a,b,c,h,g=>by
  obtain⟨h0,h1,h2,h3⟩:=h
  exact⟨h0,h1,h2,Runs.app h3 g⟩
theorem Runs.same:∀{r:List Rn} {a b:Nat},Runs lt l r a b->(∀i,a<=i->i < b->l'.getD i 0=l.getD i 0)->Runs lt l' r a b
 |[],a,b,h,e=>h
 |(s,k,p)::r,a,b,h,e=>by
  obtain⟨h0,h1,h2,h3⟩:=h
  have:=h3.le
  refine⟨h0,h1,λ i j x y z=>?_,Runs.same h3 λ i x y=>e i (by omega) y⟩
  rw[e i x (by omega),e j (by omega) (by omega)]
  exact h2 i j x y z
theorem Runs.merge {L R:List Rn}{a b sa na pw sb nb p2:Nat}(h:Runs lt l (L++(sa,na,pw)::(sb,nb,p2)::R) a b):sb=sa+na/\1<=na/\1<=nb/\sa+na+nb<=b/\oP lt l sa (sa+na)/\oP lt l (sa+na) (sa+na+nb)/\∀l',Mg lt l l' sa (sa+na+nb)->Runs lt l' (L++(sa,na+nb,pw)::R) a b:=by
 obtain⟨c,c1,rfl,c3,c4,rfl,c6,c7,c8⟩:=Runs.split h
 have:=c8.le
 have:=c1.le
 refine⟨rfl,c3,c6,by omega,c4,c7,λ l' M=>(c1.same λ i x y=>M.out i (by omega)).app ⟨rfl,by omega,by rw[<- Nat.add_assoc];exact M.up,?_⟩⟩
 rw[<- Nat.add_assoc]
 exact c8.same λ i x y=>M.out i (by omega)
theorem sY{L R:List Rn}{x y z:Rn}:((L++x::y::R).toArray.setIfInBounds L.length z).eraseIdxIfInBounds (L.length+1)=(L++z::R).toArray:=by
 apply Array.toList_inj.mp
 simp[set_append,eraseIdx_append,Array.eraseIdxIfInBounds]
 intro h
 omega
theorem vW{r:List Rn}{i:Nat}(h:i+1 < r.length):∃L R x y,r=L++x::y::R/\L.length=i:=by
 refine⟨r.take i,r.drop (i+2),r[i],r[i+1],?_,by rw[A3];omega⟩
 rw[<- i5 (by omega),<- i5 (by omega),take_append_drop]
end
end L5
namespace L5
open PySem PySem.W PyProof.Rows
theorem Runs.pow {lt:Nat->Nat->Bool}{l:List Nat}{f:Rn->Rn}(hf:∀x,(f x).1=x.1/\(f x).2.1=x.2.1):∀{r:List Rn} {i a b:Nat},Runs lt l r a b->Runs lt l (r.modify i f) a b
 |[],i,a,b,h=>by rw[modify_nil];exact h
 |(s,k,p)::r,0,a,b,h=>by
  rw[modify_zero_cons]
  obtain⟨e1,e2⟩:=hf (s,k,p)
  revert e1 e2
  generalize f (s,k,p)=y
  obtain⟨s',k',p'⟩:=y
  rintro rfl rfl
  exact h
 |(s,k,p)::r,i+1,a,b,h=>by
  rw[modify_succ_cons]
  obtain⟨h0,h1,h2,h3⟩:=h
  exact⟨h0,h1,h2,Runs.pow hf h3⟩
section
variable {it:Nat->Keyed}{lt:Nat->Nat->Bool}{prog:Program}{w:World}{A:Around}{E:Value->Shared->Prop}{s:Shared}{κ:SortKind}{n:Nat}{l:List Nat}{pd:Array Rn}{g:Nat}
theorem tH(h:mG prog w A s κ it n lt)(O:Ord lt)(hb:rX n l){i b:Nat}(hi:i+1 < pd.size)(R:Runs lt l pd.toList 0 b)(hz:b<=l.length){Q:Bool->SortSt->Prop}(q:∀l' (vZ:Array Rn) g',l'.Perm l->(∀j,b<=j->l'.getD j 0=l.getD j 0)->Runs lt l' vZ.toList 0 b->vZ.size+1=pd.size->Q true (dY κ it l' vZ g')):wpS (model prog w) A E s (mergeAt' i) Q (dY κ it l pd g):=by
 obtain⟨L,T,⟨sa,na,pw⟩,⟨sb,nb,p2⟩,e,el⟩:=vW (r:=pd.toList) (i:=i) (by simpa using hi)
 have ep:pd=(L++(sa,na,pw)::(sb,nb,p2)::T).toArray:=by rw[<- e]
 subst ep
 subst el
 obtain⟨rfl,n1,n2,VB,u1,u2,k⟩:=Runs.merge R
 refine wm h O hb (sa:=sa) (na:=na) (nb:=nb) (pw:=pw) (pw2:=p2) ?_ ?_ n1 n2 (by omega) u1 u2 λ l' g' M=>q l' _ g' M.perm (λ j hj=>M.out j (.inr (by omega))) ?_ ?_
 ·simp
 ·simp[e9]
 ·rw[sY];exact k l' M
 ·rw[sY];simp;omega
theorem PN{β:Type}{lo k mr z:Nat}{K:Nat->StateT SortSt Sem β}{T:StateT SortSt Sem β}{d:β}{l2:List Nat}(h:mG prog w A s κ it n lt)(O:Ord lt)(hb:rX n l)(hz:z=l.length)(Uw:lo < z)(k1:1<=k)(k2:k<=z - lo)(M:Mg lt l l2 lo (lo+k)){Q:β->SortSt->Prop}
  (q:∀m l3,1<=m->m<=z - lo->Mg lt l l3 lo (lo+m)->wpS (model prog w) A E s (K m) Q (dY κ it l3 pd g))
  (hT:T=(do
   liftM (rule "list.sort.binary-insertion")
   let b <- binarySort' lo (min (z - lo) mr) k
   if(!b)=true then pure d else K (min (z - lo) mr))):wpS (model prog w) A E s (if k < mr then T else K k) Q (dY κ it l2 pd g):=by
 subst hT
 subst hz
 have e:=M.perm.length_eq
 by_cases fO:k < mr
 ·rw[J9 fO]
  refine J4 (wpS_lift (H0 ⟨rfl,?_⟩))
  refine J4 (ND h O (hb.perm M.perm) (by omega) (by omega) (by omega) M.up λ l3 M3=>?_)
  rw[K0 (by decide)]
  refine q _ _ (by omega) (by omega) ⟨M3.perm.trans M.perm,λ i hi=>(M3.out i hi).trans (M.out i (by omega)),M3.up⟩
 ·rw[K0 fO]
  exact q _ _ k1 k2 M
theorem Q7{β:Type}{lo mr z:Nat}{F:Option Nat->StateT SortSt Sem β}{T K:Nat->StateT SortSt Sem β}{d:β}(h:mG prog w A s κ it n lt)(O:Ord lt)(hb:rX n l)(hz:z=l.length)(Uw:lo < z){Q:β->SortSt->Prop}(hF:∀k,F (some k)=if k < mr then T k else K k)
  (hT:∀k,T k=(do
   liftM (rule "list.sort.binary-insertion")
   let b <- binarySort' lo (min (z - lo) mr) k
   if(!b)=true then pure d else K (min (z - lo) mr)))
  (q:∀m l3,1<=m->m<=z - lo->Mg lt l l3 lo (lo+m)->wpS (model prog w) A E s (K m) Q (dY κ it l3 pd g)):wpS (model prog w) A E s (countRun' lo (z - lo) >>= F) Q (dY κ it l pd g):=by
 refine J4 (Ea h O hb (by omega) (by omega) λ k l2 k1 k2 M=>?_)
 rw[hF]
 exact PN h O hb hz Uw k1 k2 M q (hT k)
noncomputable def St (κ:SortKind)(it:Nat->Keyed)(lt:Nat->Nat->Bool)(l:List Nat)(b:Nat)(X:List Nat->Array Rn->Prop)(st:SortSt):Prop:=∃l' pd g,st=dY κ it l' pd g/\l'.Perm l/\Runs lt l' pd.toList 0 b/\X l' pd
theorem EZ(h:mG prog w A s κ it n lt)(O:Ord lt)(hb:rX n l){Q:Unit->SortSt->Prop}(q:∀l' vZ g',l'.Perm l->oP lt l' 0 l.length->Q () (dY κ it l' vZ g')):wpS (model prog w) A E s sortRuns' Q (dY κ it l #[] g):=by
 rw[sortRuns'_eq]
 refine J4 (wpS_get ?_)
 dsimp only
 have es:(arrOf (dY κ it l #[] g)).size=l.length:=dr l
 simp only[es]
 generalize minRun' l.length l.length 0=mr
 refine J4 (ic (λ i (c:Option Unit×Nat) aK=>c.1=none/\i<=c.2/\c.2<=l.length/\St κ it lt l c.2 (λ _ _=>True) aK) (λ c aK=>c.1=none/\St κ it lt l l.length (λ _ _=>True) aK) ?_ ?_ ?_ ⟨rfl,E9 _,G5 _,l,#[],g,rfl,.refl _,rfl,trivial⟩)
 ·rintro i ⟨r,lo⟩ aK _ _ ⟨rfl,i1,i2,l1,pd,g1,rfl,pm,R,_⟩
  dsimp only at i1 i2 R ⊢
  have e1:=pm.length_eq
  by_cases z:lo ≥ l.length
  ·rw[J9 z]
   have:lo=l.length:=by omega
   subst this
   exact J6 ⟨rfl,l1,pd,g1,rfl,pm,R,trivial⟩
  ·rw[K0 z]
   refine' Q7 h O (hb.perm pm) e1.symm (by omega) ?hF ?hT (λ m l3 m1 m2 M3=>?_)
   case hF=>exact λ k=>rfl
   case hT=>exact λ k=>rfl
   have Vx:=M3.perm.trans pm
   have R3:Runs lt l3 pd.toList 0 lo:=R.same λ j _ hj=>M3.out j (.inl hj)
   have fin:∀l4 (jq:Array Rn) g4,l4.Perm l->Runs lt l4 jq.toList 0 lo->oP lt l4 lo (lo+m)->St κ it lt l (lo+m) (λ _ _=>True) (dY κ it l4 (jq.push (lo,m,0)) g4):=λ l4 jq g4 a1 a2 a3=>⟨l4,_,g4,rfl,a1,by rw[Array.toList_push];exact a2.app ⟨rfl,m1,a3,rfl⟩,trivial⟩
   refine J4 (wpS_get ?_)
   have ep:pendingOf (dY κ it l3 pd g1)=pd:=rfl
   rw[ep]
   cases eb:pd.back? with
   |none=>
    dsimp only
    exact J4 (wpS_modify (J6 ⟨rfl,by dsimp only;omega,by dsimp only;omega,fin l3 pd g1 Vx R3 M3.up⟩))
   |some x=>
    obtain⟨s1,n1,p1⟩:=x
    dsimp only
    refine J4 (ic (λ i (c:Option Unit×Unit) aK=>c.1=none/\St κ it lt l lo (λ l' _=>oP lt l' lo (lo+m)) aK) (λ c aK=>c.1=none/\St κ it lt l lo (λ l' _=>oP lt l' lo (lo+m)) aK) ?_ (λ _ _ x=>x) ?_ ⟨rfl,l3,pd,g1,rfl,Vx,R3,M3.up⟩)
    ·rintro j ⟨r,u⟩ aK _ _ ⟨rfl,l4,jq,g4,rfl,a1,a2,a3⟩
     refine J4 (wpS_get ?_)
     have ep:pendingOf (dY κ it l4 jq g4)=jq:=rfl
     rw[ep]
     by_cases z2:jq.size > 1
     ·rw[J9 z2,i4 (show jq.size - 2 < jq.size by omega)]
      generalize jq[jq.size - 2]'(by omega)=y
      obtain⟨y1,y2,y3⟩:=y
      dsimp only
      split
      ·exact J6 ⟨rfl,l4,jq,g4,rfl,a1,a2,a3⟩
      ·refine J4 (tH h O (hb.perm a1) (by omega) a2 (by rw[a1.length_eq];omega) λ l5 TB g5 b1 b2 b3 _=>?_)
       rw[K0 (by decide)]
       refine J6 ⟨rfl,l5,TB,g5,rfl,b1.trans a1,b3,λ x y x1 x2 x3=>?_⟩
       rw[b2 x x1,b2 y (by omega)]
       exact a3 x y x1 x2 x3
     ·rw[K0 z2]
      dsimp only
      exact J6 ⟨rfl,l4,jq,g4,rfl,a1,a2,a3⟩
    ·rintro⟨r,u⟩ aK ⟨rfl,l4,jq,g4,rfl,a1,a2,a3⟩
     dsimp only
     refine J4 (wpS_modify (J4 (wpS_modify (J6 ⟨rfl,by dsimp only;omega,by dsimp only;omega,fin l4 _ g4 a1 ?_ a3⟩))))
     show Runs lt l4 (jq.modify (jq.size - 1) _).toList 0 lo
     rw[Array.toList_modify]
     refine Runs.pow ?_ a2
     exact λ x=>⟨rfl,rfl⟩
 ·rintro⟨r,lo⟩ aK ⟨rfl,i1,i2,l1,pd,g1,rfl,pm,R,_⟩
  dsimp only at i1 i2 R
  have:lo=l.length:=by omega
  subst this
  exact⟨rfl,l1,pd,g1,rfl,pm,R,trivial⟩
 ·rintro⟨r,lo⟩ aK ⟨rfl,l1,pd,g1,rfl,pm,R,_⟩
  try dsimp only
  refine J4 (ic (λ i (c:Option Unit×Unit) aK=>c.1=none/\St κ it lt l l.length (λ _ vZ=>vZ.size+i<=l.length) aK) (λ c aK=>c.1=none/\St κ it lt l l.length (λ _ vZ=>vZ.size<=1) aK) ?_ ?_ ?_ ⟨rfl,l1,pd,g1,rfl,pm,R,by have:=R.le;rw[o7]at this;omega⟩)
  ·rintro j ⟨r,u⟩ aK _ _ ⟨rfl,l4,jq,g4,rfl,a1,a2,a3⟩
   try dsimp only at a3
   refine J4 (wpS_get ?_)
   have ep:pendingOf (dY κ it l4 jq g4)=jq:=rfl
   rw[ep]
   by_cases z2:jq.size<=1
   ·rw[J9 z2]
    exact J6 ⟨rfl,l4,jq,g4,rfl,a1,a2,z2⟩
   ·rw[K0 z2]
    try dsimp only
    have:∀c:Bool,(if c=true then jq.size - 2 - 1 else jq.size - 2)+1 < jq.size:=λ c=>by split <;> omega
    refine J4 (tH h O (hb.perm a1) (this _) a2 (by rw[a1.length_eq];omega) λ l5 TB g5 b1 b2 b3 b4=>?_)
    rw[K0 (by decide)]
    exact J6 ⟨rfl,l5,TB,g5,rfl,b1.trans a1,b3,by dsimp only;omega⟩
  ·rintro⟨r,u⟩ aK ⟨rfl,l4,jq,g4,rfl,a1,a2,a3⟩
   try dsimp only at a3
   exact⟨rfl,l4,jq,g4,rfl,a1,a2,by dsimp only;omega⟩
  ·rintro⟨r,u⟩ aK ⟨rfl,l4,jq,g4,rfl,a1,a2,a3⟩
   try dsimp only
   refine J6 (q l4 jq g4 a1 λ i j _ ij hj=>?_)
   obtain⟨r⟩:=jq
   dsimp only at a2 a3
   match r,a2,a3 with
   |[],a2,_=>
    have:0=l.length:=a2
    omega
   |[(s1,k1,p1)],a2,_=>
    obtain⟨_,_,c3,c4⟩:=a2
    have c4:0+k1=l.length:=c4
    exact c3 i j (by omega) ij (by omega)
end
end L5
namespace L5
open PySem PySem.W PyProof.Rows
section
variable {prog:Program}{w:World}{A:Around}{E:Value->Shared->Prop}{s:Shared}
theorem CV{ks vs:List Value}{κ:SortKind}{lt:Nat->Nat->Bool}(O:Ord lt)(hl:ks.length=vs.length)(hc:∀i j C,i < vs.length->j < vs.length->C (lt i j) s->wpAny (model prog w) A (keyLt' κ (ks.getD i Value.none) (ks.getD j Value.none)) C (λ _ _=>False) s):
  wpAny (model prog w) A ((sortRuns').run (SortSt.mk' κ ((List.toArray ks).zip vs.toArray) #[] 7 none)) (λ r s'=>s'=s/\∃p:Array Nat,p.size=vs.length/\arrOf r.2=p.map (kas_item ((List.toArray ks).zip vs.toArray))/\failedOf r.2=none/\Pm vs.length p/\Up lt p vs.length) E s:=by
 have Yp:SortSt.mk' κ ((List.toArray ks).zip vs.toArray) #[] 7 none=dY κ (kas_item ((List.toArray ks).zip vs.toArray)) (List.range vs.length) #[] 7:=by
  have e:=kas_range ((List.toArray ks).zip vs.toArray)
  rw[show((List.toArray ks).zip vs.toArray).size=vs.length by simp[hl]]at e
  unfold dY
  rw[kf,e]
 rw[Yp]
 refine EZ (E:=E) (l:=List.range vs.length) (n:=vs.length) (lt:=lt) (Q:=λ _ st=>∃p:Array Nat,p.size=vs.length/\arrOf st=p.map (kas_item ((List.toArray ks).zip vs.toArray))/\failedOf st=none/\Pm vs.length p/\Up lt p vs.length) (λ i j C hi hj hC=>?_) O (λ i hi=>?_) λ l' vZ g' pm up=>?_
 ·rw[kat_item hl,kat_item hl]
  exact hc i j C hi hj hC
 ·rw[w9]at hi
  rw[g9,n5 hi]
  exact hi
 ·rw[w9]at up
  refine⟨l'.toArray,by rw[x5,pm.length_eq,w9],kf l',rfl,?_,λ i j ow hj=>?_⟩
  ·exact Array.perm_iff_toList_perm.mpr pm
  ·rw[<- eD,<- eD]
   exact up i j (G5 _) ow hj
end
end L5
namespace L5
open PySem
def dS(T:String)(h:Heap)(j l:Addr)(i:Nat):Prop:=∃o,h.get? j=some o/\o.cls=.type T/\o.data=.fields #[.ref l,.int i 0]
theorem dS.keep {T:String}{h h':Heap}{j l:Addr}{i:Nat}(x:dS T h j l i)(k:∀o,h.get? j=some o->h'.get? j=some o):dS T h' j l i:=let⟨o,a,r⟩:=x;⟨o,k o a,r⟩
structure NK(T:String)(Sq:Heap->Addr->Array Value->Prop):Prop where
 keep:∀{h h':Heap} {l:Addr} {vs:Array Value},Sq h l vs->(∀o,h.get? l=some o->h'.get? l=some o)->Sq h' l vs
 start:∀{prog:Program} {w:World} {A:Around} {E:Value->Shared->Prop} {s:Shared} {l:Addr} {vs:Array Value} {Q:Value->Shared->Prop},Sq s.heap l vs->
  Q (.ref s.heap.objs.size) {s with heap:=s.heap.push {cls:=.type T,data:=.fields #[.ref l,.int 0 0]}}->wpAny (model prog w) A (pyIter (.ref l)) Q E s
 item:∀{prog:Program} {w:World} {A:Around} {E:Value->Shared->Prop} {s:Shared} {j l:Addr} {i:Nat} {vs:Array Value} {x:Value} {Q:Value->Shared->Prop},dS T s.heap j l i->Sq s.heap l vs->vs[i]?=some x->
  (∀h',dS T h' j l (i+1)->Heap.SameBut j s.heap h'->Q x {s with heap:=h'})->wpAny (model prog w) A (Builtin.SmallTypes.nextOf (.ref j)) Q E s
 stop:∀{prog:Program} {w:World} {A:Around} {E:Value->Shared->Prop} {s:Shared} {j l:Addr} {i:Nat} {vs:Array Value} {Q:Value->Shared->Prop},A.handled=none->dS T s.heap j l i->Sq s.heap l vs->vs[i]?=none->
  (∀h' e,Heap.ExtBut j s.heap h'->(∃o,h'.get? e=some o/\o.cls=.type "StopIteration")->E (.ref e) {s with heap:=h'})->wpAny (model prog w) A (Builtin.SmallTypes.nextOf (.ref j)) Q E s
theorem GY:NK "list_iterator" Heap.IsList where
 keep:=λ x k=>x.at k
 start:=λ x q=>w6 x q
 item:=λ a b c d=>wpAny_nextOf_list_item a b c d
 stop:=λ a b c d e=>wpAny_nextOf_list_end a b c d e
section
variable {prog:Program}{w:World}{A:Around}{E:Value->Shared->Prop}{s:Shared}
theorem LZ{j q:Addr}{i:Nat}{vs:Array Value}{x:Value}{Q:Value->Shared->Prop}(ji:s.heap.IsTupleIter j q i)(jt:s.heap.IsTuple q vs)(jx:vs[i]?=some x)
  (k:∀h',h'.IsTupleIter j q (i+1)->Heap.SameBut j s.heap h'->Q x {s with heap:=h'}):wpAny (model prog w) A (Builtin.SmallTypes.nextOf (.ref j)) Q E s:=by
 obtain⟨ob,hb,kc,kd⟩:=id ji
 obtain⟨ot,ht,_,nt,dt⟩:=jt
 unfold Builtin.SmallTypes.nextOf
 refine G8 (j6 (name:=Str.ofString "__next__") ji.typeIs e7 (A0 e7 ji.typeIs F.entry_tuple_iterator_next ?_ (F.args_tuple_iterator_next_1 _)))
 refine G8 (m:=field (.ref j) 0) (G6 hb kd (x:=.ref q) rfl ?_)
 show wpAny _ _ (if(Value.ref q==Value.none)=true then _ else _) _ _ s
 rw[K0 (show(Value.ref q==Value.none)≠true from p5)]
 refine G8 (m:=field (.ref j) 1) (G6 hb kd (x:=.int i 0) rfl ?_)
 refine G8 (m:=seqItems? (.ref q)) (C2 ht dt ?_)
 simp only[u5,jx]
 refine G8 (wpAny_setField hb kd (by simp) (G9 ⟨x,rfl,G9 (k _ ?_ (n0 ..))⟩))
 refine⟨_,k8 _ hb (Obj.isFreed_of_fields (Obj.data_mapFields kd _)),(Obj.cls_mapFields ..).trans kc,?_⟩
 rw[Obj.data_mapFields kd];simp[rawInt]
theorem JM{j q:Addr}{i:Nat}{vs:Array Value}{Q:Value->Shared->Prop}(hA:A.handled=none)(ji:s.heap.IsTupleIter j q i)(jt:s.heap.IsTuple q vs)(jx:vs[i]?=none)
  (k:∀h' e,Heap.ExtBut j s.heap h'->(∃o,h'.get? e=some o/\o.cls=.type "StopIteration")->E (.ref e) {s with heap:=h'}):wpAny (model prog w) A (Builtin.SmallTypes.nextOf (.ref j)) Q E s:=by
 obtain⟨ob,hb,kc,kd⟩:=id ji
 obtain⟨ot,ht,_,nt,dt⟩:=jt
 unfold Builtin.SmallTypes.nextOf
 refine G8 (j6 (name:=Str.ofString "__next__") ji.typeIs e7 (A0 e7 ji.typeIs F.entry_tuple_iterator_next ?_ (F.args_tuple_iterator_next_1 _)))
 refine G8 (m:=field (.ref j) 0) (G6 hb kd (x:=.ref q) rfl ?_)
 show wpAny _ _ (if(Value.ref q==Value.none)=true then _ else _) _ _ s
 rw[K0 (show(Value.ref q==Value.none)≠true from p5)]
 refine G8 (m:=field (.ref j) 1) (G6 hb kd (x:=.int i 0) rfl ?_)
 refine G8 (m:=seqItems? (.ref q)) (C2 ht dt ?_)
 simp only[u5,jx]
 refine G8 (H0 (G8 (wpAny_setField hb kd (by simp) ?_)))
 refine G8 (m:=newExc (.type "StopIteration") []) ?_
 simp only[newExc,newTuple]
 refine G8 (u6 (G8 (m:=firstArgMember _ _) (wpAny_of_eq (a:=Value.none) (by first|rfl|(simp only[firstArgMember];rfl)) (u6 ?_ (by size_fits)))) (by size_fits))
 simp only[raiseNew]
 refine G8 (wpAny_handled ?_)
 have hB:A.in1.handled=none:=hA
 rw[hB]
 exact G8 (G9 (wpAny_throw (k _ _ (((n0 ..).extBut.push _).push _) ⟨_,o8 _ rfl,rfl⟩)))
end
theorem tx:NK "tuple_iterator" Heap.IsTuple where
 keep:=λ x k=>let⟨o,a,r⟩:=x;⟨o,k o a,r⟩
 start:=λ x q=>wpAny_pyIter_tuple x q
 item:=λ a b c d=>LZ a b c d
 stop:=λ a b c d e=>JM a b c d e
structure Za(z u v a b l m:Addr):Prop where
 uz:u≠z
 vz:v≠z
 az:a≠z
 bz:b≠z
 uv:u≠v
 ua:u≠a
 ub:u≠b
 va:v≠a
 vb:v≠b
 ab:a≠b
 lz:l≠z
 lv:l≠v
 la:l≠a
 lb:l≠b
 mz:m≠z
 mv:m≠v
 ma:m≠a
 mb:m≠b
section
variable {prog:Program}{w:World}{A:Around}{E:Value->Shared->Prop}{s:Shared}{T1 T2:String}{S1 S2:Heap->Addr->Array Value->Prop}
theorem yY{z u v a b l m:Addr}{i:Nat}{xs ys:Array Value}{x y c d:Value}{Q:Value->Shared->Prop}(k1:NK T1 S1)(k2:NK T2 S2)(D:Za z u v a b l m)
  (hz:IsZip s.heap z u v .none) (hu:IsPair s.heap u (.ref a) (.ref b)) (hv:IsPair s.heap v c d) (ha:dS T1 s.heap a l i) (hb:dS T2 s.heap b m i) (hl:S1 s.heap l xs) (hm:S2 s.heap m ys) (hx:xs[i]?=some x) (hy:ys[i]?=some y)
  (k:∀h',IsZip h' z u v (rawInt s.heap.objs.size)->IsPair h' v x y->dS T1 h' a l (i+1)->dS T2 h' b m (i+1)->IsPair h' s.heap.objs.size x y->h'.objs.size=s.heap.objs.size+1->
   (∀f o,f≠z->f≠v->f≠a->f≠b->s.heap.get? f=some o->h'.get? f=some o)->Q (.ref s.heap.objs.size) {s with heap:=h'}):
  wpAny (model prog w) A (Builtin.«zip.__next__» ⟨[.ref z],[]⟩) (λ fin s'=>∃v,fin=.done (.ret v)/\Q v s') E s:=by
 refine G8 (m:=field (.ref z) 2) (G6 hz rfl (x:=.bool false) rfl ?_)
 refine G8 (m:=field (.ref z) 3) (G6 hz rfl (x:=.ref u) rfl ?_)
 refine G8 (C2 hu rfl ?_)
 refine G8 (m:=Builtin.SmallTypes.ownedTupleIsFree (.ref z)) ?_
 unfold Builtin.SmallTypes.ownedTupleIsFree
 refine G8 (m:=field (.ref z) 0) (G6 hz rfl (x:=.none) rfl (G9 ?_))
 simp only[if_true]
 refine G8 (H0 (G8 (G6 hz rfl (x:=.ref v) rfl (G8 (p9 hz (by simp) λ g1 z1 s1=>?_)))))
 have z1:IsZip g1 z u v .ellipsis:=z1
 refine G8 ?_
 simp only[zipIdx_cons,zipIdx_nil,forIn_cons,forIn_nil]
 refine G8 (G8 (wpAny_onRaise (G8 (m:=Builtin.SmallTypes.nextOf (.ref a)) (k1.item (ha.keep λ o e=>s1.extBut _ _ D.az e) (k1.keep hl λ o e=>s1.extBut _ _ D.lz e) hx λ g2 a2 s2=>G9 ?_))))
 have v2:IsPair g2 v c d:=s2.extBut _ _ D.va (s1.extBut _ _ D.vz hv)
 refine G8 (C2 v2 rfl (G8 (wpAny_updateSeq_pair v2 λ g3 v3 s3=>G8 (G7 (G9 ?_)))))
 have v3:IsPair g3 v x d:=v3
 have nG:∀f o,f≠z->f≠v->f≠a->s.heap.get? f=some o->g3.get? f=some o:=λ f o n1 n2 n3 e=>s3.extBut _ _ n2 (s2.extBut _ _ n3 (s1.extBut _ _ n1 e))
 refine G8 (G8 (wpAny_onRaise (G8 (m:=Builtin.SmallTypes.nextOf (.ref b)) (k2.item (hb.keep λ o e=>nG _ _ D.bz D.vb.symm D.ab.symm e) (k2.keep hm λ o e=>nG _ _ D.mz D.mv D.ma e) hy λ g4 b4 s4=>G9 ?_))))
 have v4:IsPair g4 v x d:=s4.extBut _ _ D.vb v3
 refine G8 (C2 v4 rfl (G8 (wpAny_updateSeq_pair v4 λ g5 v5 s5=>G8 (G7 (G9 (G9 ?_))))))
 have v5:IsPair g5 v x y:=v5
 refine G8 (C2 v5 rfl (G8 (wpAny_newTuple ?_)))
 have ez:g5.objs.size=s.heap.objs.size:=by rw[s5.1,s4.1,s3.1,s2.1,s1.1]
 have PM:∀f o,f≠z->f≠v->f≠a->f≠b->s.heap.get? f=some o->g5.get? f=some o:=λ f o n1 n2 n3 n4 e=>s5.extBut _ _ n2 (s4.extBut _ _ n4 (nG f o n1 n2 n3 e))
 have z5:IsZip g5 z u v .ellipsis:=s5.extBut _ _ D.vz.symm (s4.extBut _ _ D.bz.symm (s3.extBut _ _ D.vz.symm (s2.extBut _ _ D.az.symm z1)))
 have a5:dS T1 g5 a l (i+1):=a2.keep λ o e=>s5.extBut _ _ D.va.symm (s4.extBut _ _ D.ab (s3.extBut _ _ D.va.symm e))
 have b5:dS T2 g5 b m (i+1):=b4.keep λ o e=>s5.extBut _ _ D.vb.symm e
 have R8:z < g5.objs.size:=E2 z5
 refine G8 (m:=Builtin.SmallTypes.ownedTupleHandOut (.ref z) (.ref g5.objs.size)) ?_
 unfold Builtin.SmallTypes.ownedTupleHandOut
 have z6:IsZip (g5.push {cls:=.type "tuple",data:=.seq #[x,y]}) z u v .ellipsis:=k5 _ z5
 refine G8 (p9 z6 (by simp) λ g7 z7 s7=>p9 (show IsZip g7 z u v (rawInt g5.objs.size)from z7) (by simp) λ g8 z8 s8=>?_)
 have z8:IsZip g8 z u v (rawInt g5.objs.size):=z8
 have go:∀f o,f≠z->g5.get? f=some o->g8.get? f=some o:=λ f o n1 e=>s8.extBut _ _ n1 (s7.extBut _ _ n1 (k5 _ e))
 have t8:IsPair g8 g5.objs.size x y:=s8.extBut _ _ (Nat.ne_of_gt R8) (s7.extBut _ _ (Nat.ne_of_gt R8) (o8 _ rfl))
 have e8:g8.objs.size=g5.objs.size+1:=by rw[s8.1,s7.1,C3]
 rw[ez]at z8 t8 e8
 refine G9 ⟨_,rfl,?_⟩
 show Q (.ref g5.objs.size) _
 rw[ez]
 exact k g8 z8 (go _ _ D.vz v5) (a5.keep λ o e=>go _ o D.az e) (b5.keep λ o e=>go _ o D.bz e) t8 e8 λ f o n1 n2 n3 n4 e=>go f o n1 (PM f o n1 n2 n3 n4 e)
theorem AD{z u v a b l m:Addr}{i:Nat}{xs ys:Array Value}{c d:Value}{Q:Fin->Shared->Prop}(hA:A.handled=none)(k1:NK T1 S1)(k2:NK T2 S2)(D:Za z u v a b l m)
  (hz:IsZip s.heap z u v .none) (hu:IsPair s.heap u (.ref a) (.ref b)) (hv:IsPair s.heap v c d) (ha:dS T1 s.heap a l i) (hb:dS T2 s.heap b m i) (hl:S1 s.heap l xs) (hm:S2 s.heap m ys) (he:xs[i]?=none\/ys[i]?=none)
  (k:∀h' e,(∀f o,f≠z->f≠v->f≠a->f≠b->s.heap.get? f=some o->h'.get? f=some o)->(∃o,h'.get? e=some o/\o.cls=.type "StopIteration")->E (.ref e) {s with heap:=h'}):
  wpAny (model prog w) A (Builtin.«zip.__next__» ⟨[.ref z],[]⟩) Q E s:=by
 refine G8 (m:=field (.ref z) 2) (G6 hz rfl (x:=.bool false) rfl ?_)
 refine G8 (m:=field (.ref z) 3) (G6 hz rfl (x:=.ref u) rfl ?_)
 refine G8 (C2 hu rfl ?_)
 refine G8 (m:=Builtin.SmallTypes.ownedTupleIsFree (.ref z)) ?_
 unfold Builtin.SmallTypes.ownedTupleIsFree
 refine G8 (m:=field (.ref z) 0) (G6 hz rfl (x:=.none) rfl (G9 ?_))
 simp only[if_true]
 refine G8 (H0 (G8 (G6 hz rfl (x:=.ref v) rfl (G8 (p9 hz (by simp) λ g1 z1 s1=>?_)))))
 have z1:IsZip g1 z u v .ellipsis:=z1
 refine G8 ?_
 simp only[zipIdx_cons,zipIdx_nil,forIn_cons,forIn_nil]
 have V2:=ha.keep (h':=g1) λ o e=>s1.extBut _ _ D.az e
 have Sl:=k1.keep (h':=g1) hl λ o e=>s1.extBut _ _ D.lz e
 refine G8 (G8 (wpAny_onRaise ?_))
 cases hx:xs[i]? with
 |none=>
  refine G8 (m:=Builtin.SmallTypes.nextOf (.ref a)) (k1.stop hA V2 Sl hx λ g2 e s2 oe=>?_)
  obtain⟨ob,HD,MS⟩:=oe
  have z2:IsZip g2 z u v .ellipsis:=s2 _ _ D.az.symm z1
  have ne:e≠z:=λ q=>by subst q;rw[z2]at HD;cases HD;simp at MS
  exact p9 z2 (by simp) λ g3 _ s3=>k g3 e (λ f o n1 _ n3 _ q=>s3.extBut _ _ n1 (s2 _ _ n3 (s1.extBut _ _ n1 q))) ⟨ob,s3.extBut _ _ ne HD,MS⟩
 |some x=>
  have hy:ys[i]?=none:=by rcases he with q|q;rw[hx]at q;cases q;exact q
  refine G8 (m:=Builtin.SmallTypes.nextOf (.ref a)) (k1.item V2 Sl hx λ g2 a2 s2=>G9 ?_)
  have v2:IsPair g2 v c d:=s2.extBut _ _ D.va (s1.extBut _ _ D.vz hv)
  refine G8 (C2 v2 rfl (G8 (wpAny_updateSeq_pair v2 λ g3 v3 s3=>G8 (G7 (G9 ?_)))))
  have nG:∀f o,f≠z->f≠v->f≠a->s.heap.get? f=some o->g3.get? f=some o:=λ f o n1 n2 n3 e=>s3.extBut _ _ n2 (s2.extBut _ _ n3 (s1.extBut _ _ n1 e))
  refine G8 (G8 (wpAny_onRaise (G8 (m:=Builtin.SmallTypes.nextOf (.ref b)) (k2.stop hA (hb.keep λ o e=>nG _ _ D.bz D.vb.symm D.ab.symm e) (k2.keep hm λ o e=>nG _ _ D.mz D.mv D.ma e) hy λ g4 e s4 oe=>?_))))
  obtain⟨ob,HD,MS⟩:=oe
  have z4:IsZip g4 z u v .ellipsis:=s4 _ _ D.bz.symm (s3.extBut _ _ D.vz.symm (s2.extBut _ _ D.az.symm z1))
  have ne:e≠z:=λ q=>by subst q;rw[z4]at HD;cases HD;simp at MS
  exact p9 z4 (by simp) λ g5 _ s5=>k g5 e (λ f o n1 n2 n3 n4 q=>s5.extBut _ _ n1 (s4 _ _ n4 (nG f o n1 n2 n3 q))) ⟨ob,s5.extBut _ _ ne HD,MS⟩
theorem Cy{z u v a b l m:Addr}{i:Nat}{xs ys:Array Value}{x y c d:Value}{Q:Option Value->Shared->Prop}(k1:NK T1 S1)(k2:NK T2 S2)(D:Za z u v a b l m)
  (hz:IsZip s.heap z u v .none) (hu:IsPair s.heap u (.ref a) (.ref b)) (hv:IsPair s.heap v c d) (ha:dS T1 s.heap a l i) (hb:dS T2 s.heap b m i) (hl:S1 s.heap l xs) (hm:S2 s.heap m ys) (hx:xs[i]?=some x) (hy:ys[i]?=some y)
  (k:∀h',IsZip h' z u v (rawInt s.heap.objs.size)->IsPair h' v x y->dS T1 h' a l (i+1)->dS T2 h' b m (i+1)->IsPair h' s.heap.objs.size x y->h'.objs.size=s.heap.objs.size+1->
   (∀f o,f≠z->f≠v->f≠a->f≠b->s.heap.get? f=some o->h'.get? f=some o)->Q (some (.ref s.heap.objs.size)) {s with heap:=h'}):wpAny (model prog w) A (pyNext (.ref z)) Q E s:=by
 have ty:s.TypeIs (.ref z) "zip":=⟨_,hz,rfl⟩
 unfold pyNext
 refine G8 (C6 (j6 (name:=Str.ofString "__next__") ty F.slot_zip_next (A0 F.slot_zip_next ty F.entry_zip_next ?_ (F.args_zip_next_1 _))))
 exact yY k1 k2 D hz hu hv ha hb hl hm hx hy λ h' a1 a2 a3 a4 a5 a6 a7=>G9 (k h' a1 a2 a3 a4 a5 a6 a7)
theorem CQ{z u v a b l m:Addr}{i:Nat}{xs ys:Array Value}{c d:Value}{Q:Option Value->Shared->Prop}(hA:A.handled=none)(k1:NK T1 S1)(k2:NK T2 S2)(D:Za z u v a b l m)
  (hz:IsZip s.heap z u v .none) (hu:IsPair s.heap u (.ref a) (.ref b)) (hv:IsPair s.heap v c d) (ha:dS T1 s.heap a l i) (hb:dS T2 s.heap b m i) (hl:S1 s.heap l xs) (hm:S2 s.heap m ys) (he:xs[i]?=none\/ys[i]?=none)
  (k:∀h',(∀f o,f≠z->f≠v->f≠a->f≠b->s.heap.get? f=some o->h'.get? f=some o)->Q none {s with heap:=h'}):wpAny (model prog w) A (pyNext (.ref z)) Q E s:=by
 have ty:s.TypeIs (.ref z) "zip":=⟨_,hz,rfl⟩
 unfold pyNext
 refine G8 (C6 (j6 (name:=Str.ofString "__next__") ty F.slot_zip_next (A0 F.slot_zip_next ty F.entry_zip_next ?_ (F.args_zip_next_1 _))))
 refine AD hA k1 k2 D hz hu hv ha hb hl hm he λ h' e q oe=>?_
 obtain⟨ob,HD,MS⟩:=oe
 exact G8 (wpAny_isInstance (T:="StopIteration") (b:=true) ⟨ob,HD,MS⟩ isSubtype_stop (G9 (k _ q)))
end
abbrev xh(T:String)(h:Heap)(l:Addr):Heap:=h.push {cls:=.type T,data:=.fields #[.ref l,.int 0 0]}
abbrev Ot(T1 T2:String)(h:Heap)(l m:Addr):Heap:=(xh T2 (xh T1 h l) m).push {cls:=.type "tuple",data:=.seq #[.ref h.objs.size,.ref (xh T1 h l).objs.size]}
abbrev Oq(T1 T2:String)(h:Heap)(l m:Addr):Heap:=(Ot T1 T2 h l m).push {cls:=.type "tuple",data:=.seq #[.none,.none]}
abbrev Jw(T1 T2:String)(h:Heap)(l m:Addr):Heap:=(Oq T1 T2 h l m).push {cls:=.type "zip",data:=.fields #[.none,.bool false,.bool false,.ref (xh T2 (xh T1 h l) m).objs.size,.ref (Ot T1 T2 h l m).objs.size]}
theorem yX{T1 T2:String}{S1 S2:Heap->Addr->Array Value->Prop}(k1:NK T1 S1)(k2:NK T2 S2)(l m:Addr)(xs ys:Array Value):
  Meets (Builtin.«zip.__new__» ⟨[.type "zip",.ref l,.ref m],[]⟩) (λ _ R s=>S1 s.heap l xs/\S2 s.heap m ys/\R (.ok (.ret (.ref (Oq T1 T2 s.heap l m).objs.size))) {s with heap:=Jw T1 T2 s.heap l m}):=
 .of_wp λ prog w A R s h=>by
  obtain⟨hp,g,d,tk,os⟩:=s
  obtain⟨a1,a2,h⟩:=h
  have sz:=sub_zip
  have b1:S1 (Shared.heap ⟨hp,g,d,tk,os⟩) l xs:=a1
  have b2:S2 (Shared.heap ⟨hp.push {cls:=.type T1,data:=.fields #[.ref l,.int 0 0]},g,d,tk,os⟩) m ys:=k2.keep a2 λ o e=>k5 _ e
  wp_walk using k1.start b1,k2.start b2
  exact⟨_,rfl,h⟩
theorem Ma{prog:Program}{w:World}{A:Around}{E:Value->Shared->Prop}{s:Shared}{T1 T2:String}{S1 S2:Heap->Addr->Array Value->Prop}(k1:NK T1 S1)(k2:NK T2 S2){l m:Addr}{xs ys:Array Value}{Q:Value->Shared->Prop}(a1:S1 s.heap l xs)(a2:S2 s.heap m ys)
  (k:∀h',IsZip h' (s.heap.objs.size+4) (s.heap.objs.size+2) (s.heap.objs.size+3) .none->IsPair h' (s.heap.objs.size+2) (.ref s.heap.objs.size) (.ref (s.heap.objs.size+1))->IsPair h' (s.heap.objs.size+3) .none .none->
   dS T1 h' s.heap.objs.size l 0->dS T2 h' (s.heap.objs.size+1) m 0->h'.objs.size=s.heap.objs.size+5->(∀f o,s.heap.get? f=some o->h'.get? f=some o)->Q (.ref (s.heap.objs.size+4)) {s with heap:=h'}):
  wpAny (model prog w) A (call (.type "zip") [.ref l,.ref m]) Q E s:=by
 refine callType_new F.called_zip (by decide) (F.typeCall_zip_2 _ _) (F.newCall_zip_2 _ _) (λ ob=>F.args_object_init_3 ob _ _) F.entry_zip_new (yX k1 k2 l m xs ys) ⟨a1,a2,?_⟩
 have e1:(xh T1 s.heap l).objs.size=s.heap.objs.size+1:=C3 ..
 have e2:(xh T2 (xh T1 s.heap l) m).objs.size=s.heap.objs.size+2:=by rw[C3,e1]
 have e3:(Ot T1 T2 s.heap l m).objs.size=s.heap.objs.size+3:=by rw[C3,e2]
 have e4:(Oq T1 T2 s.heap l m).objs.size=s.heap.objs.size+4:=by rw[C3,e3]
 have e5:(Jw T1 T2 s.heap l m).objs.size=s.heap.objs.size+5:=by rw[C3,e4]
 have up1:∀f o,(Oq T1 T2 s.heap l m).get? f=some o->(Jw T1 T2 s.heap l m).get? f=some o:=λ f o e=>k5 _ e
 have Vu:∀f o,(Ot T1 T2 s.heap l m).get? f=some o->(Jw T1 T2 s.heap l m).get? f=some o:=λ f o e=>up1 f o (k5 _ e)
 have Vt:∀f o,(xh T2 (xh T1 s.heap l) m).get? f=some o->(Jw T1 T2 s.heap l m).get? f=some o:=λ f o e=>Vu f o (k5 _ e)
 have Vs:∀f o,(xh T1 s.heap l).get? f=some o->(Jw T1 T2 s.heap l m).get? f=some o:=λ f o e=>Vt f o (k5 _ e)
 have g5:(Jw T1 T2 s.heap l m).get? (Oq T1 T2 s.heap l m).objs.size=some _:=o8 _ rfl
 have g4:=up1 _ _ (o8 (Ot T1 T2 s.heap l m) rfl)
 have g3:=Vu _ _ (o8 (xh T2 (xh T1 s.heap l) m) rfl)
 have g2:=Vt _ _ (o8 (xh T1 s.heap l) rfl)
 have g1:=Vs _ _ (o8 (s.heap) rfl)
 show _/\_
 rw[e2,e3,e4]at g5
 rw[e1,e2]at g3
 rw[e3]at g4
 rw[e1]at g2
 rw[e4]
 exact⟨⟨_,g5,rfl⟩,k _ g5 g3 g4 ⟨_,g1,rfl,rfl⟩ ⟨_,g2,rfl,rfl⟩ e5 λ f o x=>Vs f o (k5 _ x)⟩
end L5
namespace L2
open PySem PySem.Spec PyProof.Rows
open HT (lexLt cX dU dw dy ng)
open PySem.SeqAt PySem.MeetsSeq PySem.MeetsSeq2 PySem.MeetsSeq3 PySem.SeqRoads2
open PySem.AutoSeq1 (wpAny_loadPart')
theorem mC{vs:List Value}{ns:List Int}(h:IntsAre vs ns){i:Nat}(hi:i < ns.length):∃t,vs[i]?=some (.int ns[i] t):=by
 induction h generalizing i with
 |nil=>simp at hi
 |cons n t h ih=>
  cases i with
  |zero=>exact⟨t,rfl⟩
  |succ i=>obtain⟨t',e⟩:=ih (i:=i) (by simpa using hi);exact⟨t',by simpa using e⟩
theorem He(l b:Addr)(xs ys:Array Value)(n k:Nat)(dd ee:Option Addr)(sl tl:Array (Option Value))(ns ms:List Int)(hi:IntsAre xs.toList ns)(hj:IntsAre ys.toList ms)(f:Nat):
  ∀i:Nat,ns.length - i=f->Meets (Builtin.«list.__eq__.loop» ⟨[.ref l,.ref b,rawInt i,rawInt 0],[]⟩)
   (λ A R s=>s.heap.get? l=some {cls:=.type "list",dict:=dd,data:=.seq xs n,slots:=sl}/\s.heap.get? b=some {cls:=.type "list",dict:=ee,data:=.seq ys k,slots:=tl}/\i<=ns.length/\i<=ms.length/\
    R (.ok (.ret (.bool (lexLt (ns.drop i) (ms.drop i))))) s):=by
 have z1:xs.size=ns.length:=by rw[<- hi.length];simp
 have z2:ys.size=ms.length:=by rw[<- hj.length];simp
 induction f with
 |zero=>
  intro i hf prog w A R s h
  obtain⟨hp,g,d,tk,os⟩:=s
  obtain⟨hl,hb,i1,i2,h⟩:=h
  wp_walk using B0 hl,B0 hb
  have e1:xs[((i:Nat):Int).toNat]?=none:=by simp;omega
  have d1:ns.drop i=[]:=by simp;omega
  rw[d1]at h
  rw[e1]
  have fin:R (.ok (.ret (.bool (decide (xs.size < ys.size))))) ⟨hp,g,d,tk,os⟩:=by
   have q:lexLt [] (ms.drop i)=decide (xs.size < ys.size):=by
    cases e:ms.drop i with
    |nil=>
     have:ms.length<=i:=by simpa using e
     rw[dU];exact(A9 (by omega)).symm
    |cons c r=>
     have:i < ms.length:=by
      refine y7 λ z=>?_
      rw[k3 z]at e
      cases e
     rw[dw];exact(C1 (by omega)).symm
   rw[<- q];exact h
  wp_walk using B0 hl,B0 hb
  exact fin
 |succ f ih=>
  intro i hf prog w A R s h
  obtain⟨hp,g,d,tk,os⟩:=s
  obtain⟨hl,hb,i1,i2,h⟩:=h
  have a1:i < ns.length:=by omega
  obtain⟨t,e1⟩:=mC hi a1
  have e1:xs[((i:Nat):Int).toNat]?=some (.int ns[i] t):=by simpa using e1
  by_cases a2:i < ms.length
  ·obtain⟨u,e2⟩:=mC hj a2
   have e2:ys[((i:Nat):Int).toNat]?=some (.int ms[i] u):=by simpa using e2
   rw[i5 a1,i5 a2,cX]at h
   wp_walk using B0 hl,B0 hb
   rw[e1,e2]
   refine G8 (EqAt.int_int ns[i] t ms[i] u prog w _ _ ?_)
   have cc:((i:Int)+1)=((i+1:Nat):Int):=by push_cast;rfl
   by_cases q:ns[i]=ms[i]
   ·rw[J9 q]at h
    have qb:(ns[i]==ms[i])=true:=by simp[q]
    rw[qb]
    wp_walk
    rw[cc]
    exact⟨D4 plain_eq_loop _,B5 entry_eq_loop (by rw[m9 plain_eq_loop _];exact ih (i+1) (by omega) prog w A R _ ⟨hl,hb,by omega,by omega,h⟩)⟩
   ·rw[K0 q]at h
    have qb:(ns[i]==ms[i])=false:=by simp[q]
    rw[qb]
    have rl:=ng A.in1 ⟨hp,g,d,tk,os⟩ ns[i] t ms[i] u prog w
    wp_walk using B0 hl,B0 hb
    rw[e1,e2]
    wp_walk using rl
    exact h
  ·have e2:ys[((i:Nat):Int).toNat]?=none:=by simp;omega
   have d2:ms.drop i=[]:=by simp;omega
   rw[i5 a1,d2,dy]at h
   wp_walk using B0 hl,B0 hb
   rw[e1,e2]
   wp_walk using B0 hl,B0 hb
   have q:decide (xs.size < ys.size)=false:=A9 (by omega)
   show R (.ok (.ret (.bool (decide (xs.size < ys.size))))) _
   rw[q]
   exact h
theorem tV(l b:Addr)(xs ys:Array Value)(n k:Nat)(dd ee:Option Addr)(sl tl:Array (Option Value))(ns ms:List Int)(hi:IntsAre xs.toList ns)(hj:IntsAre ys.toList ms):
  Meets (Builtin.«list.__lt__» ⟨[.ref l,.ref b],[]⟩) (λ A R s=>s.heap.get? l=some {cls:=.type "list",dict:=dd,data:=.seq xs n,slots:=sl}/\s.heap.get? b=some {cls:=.type "list",dict:=ee,data:=.seq ys k,slots:=tl}/\
    R (.ok (.ret (.bool (lexLt ns ms)))) s):=by
 intro prog w A R s h
 obtain⟨hp,g,d,tk,os⟩:=s
 obtain⟨hl,hb,h⟩:=h
 have f3:=AutoSeq1.sub_list_list
 wp_walk using B0 hl,B0 hb
 exact⟨D4 plain_eq_loop _,B5 entry_eq_loop (by rw[m9 plain_eq_loop _];exact He l b xs ys n k dd ee sl tl ns ms hi hj _ 0 rfl prog w A R _ ⟨hl,hb,G5 _,G5 _,h⟩)⟩
theorem CK{prog:Program}{w:World}{A:Around}{E:Value->Shared->Prop}{s:Shared}{l b:Addr}{xs ys:Array Value}{ns ms:List Int}{Q:Value->Shared->Prop}(hl:s.heap.IsList l xs)(hb:s.heap.IsList b ys)(hi:IntsAre xs.toList ns)(hj:IntsAre ys.toList ms)
  (hu:A.units < cLine) (h:Q (.bool (lexLt ns ms)) s):wpAny (model prog w) A (compareOp .Lt (.ref l) (.ref b)) Q E s:=by
 obtain⟨⟨c1,dd,da,sl⟩,o1,k1,n,d1⟩:=id hl
 obtain⟨⟨c2,ee,db,tl⟩,o2,k2,m,d2⟩:=id hb
 simp only at k1 d1 k2 d2
 subst k1 d1 k2 d2
 exact richCompare_meets_room (op:=.Lt) ⟨_,o1,rfl⟩ ⟨_,o2,rfl⟩ PySem.F.slot_list_lt PySem.F.entry_list_lt (PySem.F.args_list_lt_2 _ _) (tV l b xs ys n m dd ee sl tl ns ms hi hj)
  ⟨o1,o2,show Value.bool (lexLt ns ms)≠Value.notImplemented/\Q (.bool (lexLt ns ms)) s from⟨(λ x=>nomatch x),h⟩⟩ hu
end L2
namespace L2
open PySem PySem.Spec PyProof.Rows L5
def Sq(b:Bool)(K:PySem.W.Frag)(H:Hp)(a:Addr)(xs:List V):Prop:=match b with
 |true=>f_ K H a xs
 |false=>dD K H a xs
def Rw(b:Bool):String:=match b with
 |true=>"tuple_iterator"
 |false=>"list_iterator"
def wC(b:Bool):Heap->Addr->Array Value->Prop:=match b with
 |true=>Heap.IsTuple
 |false=>Heap.IsList
theorem js:∀b,NK (Rw b) (wC b)
 |true=>tx
 |false=>GY
section
variable {X:Cx}{pins:List (Addr×Obj)}{σ:St}{H:Hp}{s:Shared}{a v:Addr}{xs ys:List V}
theorem eQ(I:Inv X pins σ H s):∀{b:Bool},Sq b X.K H a xs->∃au:List Value,Vals xs au/\wC b s.heap a au.toArray
 |true,h=>let⟨au,r,p,_⟩:=I.tuple h;⟨au,r,p⟩
 |false,h=>let⟨au,r,p,_⟩:=I.list h;⟨au,r,p.isList⟩
theorem vF(I:Inv X pins σ H s):∀{b:Bool},Sq b X.K H a xs->Sq b X.K H a ys->xs=ys
 |true,h,q=>I.oZ h q
 |false,h,q=>I.tU h q
theorem xH{u:HO}(h:Rd H a u):∃o,H a=some o:=by
 rcases h with h|⟨o,h⟩
 ·exact⟨_,h⟩
 ·exact⟨_,h⟩
theorem AX:∀{b:Bool} {K:PySem.W.Frag},Sq b K H a xs->(∃o,H a=some o)\/∃o,K.lookup a=some o
 |true,K,h=>by
  rcases h with h|⟨o,au,n,hk,_⟩
  ·exact .inl (xH h)
  ·exact .inr ⟨o,hk⟩
 |false,K,h=>by
  rcases h with h|⟨o,au,n,hk,_⟩
  ·exact .inl (xH h)
  ·exact .inr ⟨o,hk⟩
theorem gT(I:Inv X pins σ H s)(f:gB X pins H v){b:Bool}(h:Sq b X.K H a xs):a≠v:=λ e=>by
 subst e
 rcases AX h with⟨o,q⟩|⟨o,q⟩
 ·rw[f.1]at q;cases q
 ·have q:=I.ok.mod.R9 a o q
  rcases f.2.2.2.1 with z|z
  ·exact I.ok.zH a o q z
  ·exact absurd (q9 (E2 q) (E8 I.ok.EB z)) (C9 _)
theorem iE{t':Nat}{ch:List Addr}{h':Heap}(I:Inv X pins σ H s)(k:∀b o,b∉ch->s.heap.get? b=some o->h'.get? b=some o)(hf:∀b∈ch,gB X pins H b):Inv X pins σ H {s with heap:=h',toks:=t'}:=by
 have Pu:∀b u,H b=some u->b∉ch:=λ b u e z=>by rw[(hf b z).1]at e;cases e
 refine I.step (g':=s.gens) (d':=s.drawn) (ch:=ch) (λ b hb=>?_) (λ b o _ _ hc e _=>k b o hc e) (λ b o _ _ hc e _=>⟨o.slots,k b o hc e⟩) (λ _ _ _ _ n=>n)
  (λ b o hc e=>⟨o,k b o hc e⟩) (λ _ _ e=>e) (λ _ _ _ e=>e) (λ b ps e=>⟨#[],by rw[e];simp⟩) (λ m hm=>?_) (λ b u e=>?_) I.bare
 ·obtain⟨f0,f1,f2,f3,f4,f5⟩:=hf b hb
  exact⟨f3,f1,f4,f5⟩
 ·obtain⟨o,es,ep,ho,r⟩:=hm
  exact⟨o,es,ep,k _ o (λ z=>(hf _ z).2.1 rfl) ho,r⟩
 ·refine(I.bO b u e).lC (λ c v hc q=>k c v ?_ q) (λ _ q=>q) λ _ _ q=>q
  rcases hc with z|z
  ·rw[z];exact Pu b u e
  ·exact Pu c _ z
end
def SD(K:PySem.W.Frag)(b1 b2:Bool)(l m:Addr):It:=
 ⟨λ i H=>∃xs ys x y,Sq b1 K H l xs/\Sq b2 K H m ys/\xs[i]?=some x/\ys[i]?=some y,
  λ i H v H'=>∃(p:Addr) (x y:V),H p=none/\v=.ref p/\H'=upd H p (.tup [x,y])/\(∀xs,Sq b1 K H l xs->xs[i]?=some x)/\∀ys,Sq b2 K H m ys->ys[i]?=some y,
  λ i H=>∃xs ys,Sq b1 K H l xs/\Sq b2 K H m ys/\(xs.length<=i\/ys.length<=i)⟩
structure Zb(z u v a b:Addr):Prop where
 uz:u≠z
 vz:v≠z
 az:a≠z
 bz:b≠z
 uv:u≠v
 ua:u≠a
 ub:u≠b
 va:v≠a
 vb:v≠b
 ab:a≠b
def Ws(b1 b2:Bool)(z u v a b l m:Addr)(i:Nat)(h:Heap):Prop:=IsZip h z u v .none/\IsPair h u (.ref a) (.ref b)/\(∃c d,IsPair h v c d)/\dS (Rw b1) h a l i/\dS (Rw b2) h b m i
theorem Il{X:Cx}{pins:List (Addr×Obj)}{σ:St}{H:Hp}{s:Shared}{b1 b2:Bool}{z u v a b l m:Addr}{xs ys:List V}(I:Inv X pins σ H s)(B:Zb z u v a b)(hf:∀c∈[z,u,v,a,b],gB X pins H c)(hl:Sq b1 X.K H l xs)(hm:Sq b2 X.K H m ys):Za z u v a b l m:=
 ⟨B.uz,B.vz,B.az,B.bz,B.uv,B.ua,B.ub,B.va,B.vb,B.ab,gT I (hf z (by simp)) hl,gT I (hf v (by simp)) hl,gT I (hf a (by simp)) hl,gT I (hf b (by simp)) hl,
  gT I (hf z (by simp)) hm,gT I (hf v (by simp)) hm,gT I (hf a (by simp)) hm,gT I (hf b (by simp)) hm⟩
theorem AS{P:Program}{w:World}{K:PySem.W.Frag}{es:List Expr}{k0}{pos:Pos}(b1 b2:Bool){z u v a b:Addr}(B:Zb z u v a b)(l m:Addr):Turn P w K (.Tuple es k0 pos) (SD K b1 b2 l m) [z,u,v,a,b] z (Ws b1 b2 z u v a b l m) where
 mem:=by simp
 obj:=λ i h st c hc=>by
  obtain⟨hz,hu,⟨x,y,hv⟩,⟨oa,ha,_,da⟩,⟨ob,hb,_,db⟩⟩:=st
  rcases D3.mp hc with rfl|hc
  ·exact⟨_,hz,λ v z=>by cases z⟩
  rcases D3.mp hc with rfl|hc
  ·exact⟨_,hu,λ v z=>by cases z⟩
  rcases D3.mp hc with rfl|hc
  ·exact⟨_,hv,λ v z=>by cases z⟩
  rcases D3.mp hc with rfl|hc
  ·exact⟨_,ha,λ v z=>by rw[da]at z;cases z⟩
  rcases D3.mp hc with rfl|hc
  ·exact⟨_,hb,λ v z=>by rw[db]at z;cases z⟩
  ·cases hc
 keep:=λ i h h' st q=>by
  obtain⟨hz,hu,⟨x,y,hv⟩,ha,hb⟩:=st
  exact⟨q z (by simp) _ hz,q u (by simp) _ hu,⟨x,y,q v (by simp) _ hv⟩,ha.keep λ o e=>q a (by simp) o e,hb.keep λ o e=>q b (by simp) o e⟩
 item:=by
  intro X hP hw hK hc i pins s σ H E I hf st hg
  subst hP hw hK
  obtain⟨xs,ys,x,y,hl,hm,hx,hy⟩:=hg
  obtain⟨hz,hu,⟨c,d,hv⟩,ha,hb⟩:=st
  obtain⟨MA,r1,p1⟩:=eQ I hl
  obtain⟨R',r2,p2⟩:=eQ I hm
  obtain⟨u1,e1,q1⟩:=r1.get hx
  obtain⟨u2,e2,q2⟩:=r2.get hy
  have D:=Il I B hf hl hm
  refine Cy (js b1) (js b2) D hz hu hv ha hb p1 p2 (x:=u1) (y:=u2) (by simpa using e1) (by simpa using e2) λ g g1 g2 g3 g4 g5 g6 g7=>?_
  have hn:H s.heap.objs.size=none:=I.bO.fresh (E9 _)
  have zW:∀c∈[z,v,a,b],gB X pins H c:=λ c hc=>hf c (by simp at hc ⊢;rcases hc with rfl|rfl|rfl|rfl <;> simp)
  have I1:Inv X pins σ H {s with heap:=g}:=iE (t':=s.toks) I (λ c o hc e=>g7 c o (λ z=>hc (by simp[z])) (λ z=>hc (by simp[z])) (λ z=>hc (by simp[z])) (λ z=>hc (by simp[z])) e) zW
  refine⟨_,rfl,wpAny_letOwnedTupleGo_zip (s:={s with heap:=g}) g1 λ g' z' sb=>?_⟩
  have I2:Inv X pins σ H {s with heap:=g'}:=iE (s:={s with heap:=g}) (t':=s.toks) (ch:=[z]) I1 (λ c o hc e=>sb.extBut _ _ (λ z=>hc (by simp[z])) e) (λ c hc=>zW c (by simp at hc ⊢;exact .inl hc))
  have fo:=I.iS (H':=H) (E9 s.heap.objs.size) hn
  have R8:z < s.heap.objs.size:=E2 hz
  have t5:IsPair g' s.heap.objs.size u1 u2:=sb.extBut _ _ (Nat.ne_of_gt R8) g5
  have I3:Inv X pins σ (upd H s.heap.objs.size (.tup [x,y])) {s with heap:=g'}:=Inv.o_ I2 hn ⟨show 2<=sizeLine by decide,[u1,u2],.cons q1 (.cons q2 .nil),⟨_,t5,rfl,_,rfl⟩⟩ fo.2.1 (E8 I.sz (E9 _)) fo.2.2.2.2.1 fo.2.2.2.2.2
  refine⟨.ref s.heap.objs.size,_,I3,rfl,⟨s.heap.objs.size,x,y,hn,rfl,rfl,λ SJ h'=>by rw[vF I h' hl];exact hx,λ Y5 h'=>by rw[vF I h' hm];exact hy⟩,?_,λ c hc=>?_⟩
  ·exact⟨z',sb.extBut _ _ B.uz (g7 _ _ B.uz B.uv B.ua B.ub hu),⟨_,_,sb.extBut _ _ B.vz g2⟩,g3.keep λ o e=>sb.extBut _ _ B.az e,g4.keep λ o e=>sb.extBut _ _ B.bz e⟩
  ·have fO:∀c∈[z,u,v,a,b],c < s.heap.objs.size:=λ c hc=>by
    obtain⟨_,qa,_⟩:=ha
    obtain⟨_,qb,_⟩:=hb
    simp at hc
    rcases hc with rfl|rfl|rfl|rfl|rfl
    ·exact E2 hz
    ·exact E2 hu
    ·exact E2 hv
    ·exact E2 qa
    ·exact E2 qb
   rw[aX (E1 (fO c hc))]
   exact(hf c hc).1
 done:=by
  intro X hP hw hK hc i pins s σ H E I hf st hg
  subst hP hw hK
  obtain⟨xs,ys,hl,hm,he⟩:=hg
  obtain⟨hz,hu,⟨c,d,hv⟩,ha,hb⟩:=st
  obtain⟨MA,r1,p1⟩:=eQ I hl
  obtain⟨R',r2,p2⟩:=eQ I hm
  have D:=Il I B hf hl hm
  have l1:=r1.length
  have l2:=r2.length
  refine CQ (I.ok.hd hc) (js b1) (js b2) D hz hu hv ha hb p1 p2 ?_ λ g g7=>⟨rfl,iE (t':=s.toks) (ch:=[z,v,a,b]) I (λ c o hc e=>g7 c o (λ z=>hc (by simp[z])) (λ z=>hc (by simp[z])) (λ z=>hc (by simp[z])) (λ z=>hc (by simp[z])) e) λ c hc=>hf c (by simp at hc ⊢;rcases hc with rfl|rfl|rfl|rfl <;> simp)⟩
  rcases he with q|q
  ·exact .inl (by simp;omega)
  ·exact .inr (by simp;omega)
 self:=λ _ _ _ _ _ st h=>wpAny_pyIter_zip st.1 h
section
variable {X:Cx}{es:List Expr}{k0:_}{mR:Pos}{a b:Expr}{ta:TA}{p pos:Pos}
def T3(K:PySem.W.Frag)(ta:TA):TI:=λ σ H R=>ta σ H λ vs H1=>∃(b1 b2:Bool) (l m:Addr),vs=[.ref l,.ref m]/\(∃xs,Sq b1 K H1 l xs)/\(∃ys,Sq b2 K H1 m ys)/\R (SD K b1 b2 l m) H1
theorem Lg(hg:Gl X "zip")(hm:X.mg "zip"=none)(ha:PA X [a,b] ta)(hs:starEach [a,b] X.env=[(false,eval a X.env),(false,eval b X.env)]:=by rfl)(hZ:starEach [b] X.env=[(false,eval b X.env)]:=by rfl):
  PI X (.Tuple es k0 mR) (.Call (.Name "zip" p) [a,b] [] pos) (T3 X.K ta):=by
 intro pins s σ H R I h
 refine Call_ (fA I hg hm boot_zip (e6 (cV (ha pos pins s σ H _ I h) λ us s1 ⟨vs,H1,I1,r1,q1⟩=>?_) (by rw[hs,hZ]) (by rw[hZ];rfl)))
 obtain⟨b1,b2,l,m,e,⟨xs,hl⟩,⟨ys,hm⟩,q⟩:=q1
 subst e
 obtain⟨u1,u2,rfl,r,r'⟩:=vals2 r1
 cases(show u1=Value.ref l from r)
 cases(show u2=Value.ref m from r')
 obtain⟨MA,r1,p1⟩:=eQ I1 hl
 obtain⟨R',r2,p2⟩:=eQ I1 hm
 refine Ma (js b1) (js b2) p1 p2 λ g g1 g2 g3 g4 g5 g6 g7=>wpAny_pyIter_zip (s:={s1 with heap:=g}) g1 ?_
 have I2:Inv X pins σ H1 {s1 with heap:=g}:=I1.kept (t':=s1.toks) g7
 have fr:∀c,s1.heap.objs.size<=c->gB X pins H1 c:=λ c hc=>I1.iS hc (I1.bO.fresh hc)
 refine⟨_,[s1.heap.objs.size+4,s1.heap.objs.size+2,s1.heap.objs.size+3,s1.heap.objs.size,s1.heap.objs.size+1],_,_,H1,rfl,I2,AS b1 b2 ⟨?_,?_,?_,?_,?_,?_,?_,?_,?_,?_⟩ l m,⟨g1,g2,⟨_,_,g3⟩,g4,g5⟩,λ c hc=>fr c ?_,q⟩
 any_goals (show(_:Nat)≠_;omega)
 simp at hc
 rcases hc with rfl|rfl|rfl|rfl|rfl <;> omega
end
end L2
namespace L3
open PySem PySem.Spec L2 L5
def iH(ds es:List D):List D:=(ds.zip es).map λ p=>D.tup [p.1,p.2]
theorem AE(ds es:List D):(iH ds es).length=min ds.length es.length:=by simp[iH]
end L3
namespace L5
open PySem PySem.W PySem.Calls PyProof.Rows
section
variable {prog:Program}{w:World}{A:Around}{E:Value->Shared->Prop}{s:Shared}
def Out{α:Type}(lt:Nat->Nat->Bool)(vs:List α)(d:α)(out:List α):Prop:=∃p:Array Nat,Pm vs.length p/\Up lt p vs.length/\out=p.toList.map λ i=>vs.getD i d
theorem GB{α:Type}{lt:Nat->Nat->Bool}(O:Ord lt){vs:List α}(d:α)(h:vs.length < 2):Out lt vs d vs:=by
 refine⟨List.toArray (List.range vs.length),Array.Perm.refl _,λ i j ow hj=>?_,?_⟩
 ·have:i=j:=by omega
  subst this
  exact O.refl _
 ·match vs,h with
  |[],_=>rfl
  |[v],_=>rfl
theorem yg{a kS:Addr}{e e1:Nat}{ks out:List Value}{st:SortSt}{P:PySem.Fin->Shared->Prop}(hk:s.heap.get? kS=some (seqObj "list" (List.toArray ks) e))(ha:s.heap.get? a=some (seqObj "list" #[] e1))(gL:a≠kS)(Zk:ks.length < 1000000)(Zg:out.length < 1000000)
  (ho:(arrOf st).map (·.2)=List.toArray out) (hf:failedOf st=none)
  (h:∀h' c,h'.get? a=some (seqObj "list" (List.toArray out) c)->(∀b o,b≠a->b≠kS->s.heap.get? b=some o->h'.get? b=some o)->P (.done (.ret .none)) {s with heap:=h'}):wpAny (model prog w) A (ksk_tail a false e1 (.ref kS) st) P E s:=by
 unfold ksk_tail
 try dsimp only
 rw[ho]
 have s1:=n0 s.heap kS (Obj.mapSeq λ _=>(#[]:Array Value))
 have a1:(s.heap.update kS (Obj.mapSeq λ _=>(#[]:Array Value))).get? a=some (seqObj "list" #[] e1):=(s1.2 a gL).trans ha
 have s2:=n0 (s.heap.update kS (Obj.mapSeq λ _=>(#[]:Array Value))) a (Obj.mapSeq λ _=>List.toArray out)
 refine G8 (listUpdate_at hk rfl (G8 (G7 (G8 (seqEpoch_at a1 rfl (G8 (listUpdate_at a1 rfl ?_ (G5 _) ?_)))))) (by rw[x5,G0];omega) (G5 _))
 ·rw[hf]
  simp only[bne_self_eq_false,p7,J5]
  exact G9 (h _ _ (get?_update_seq a1 λ _=>List.toArray out) λ b o b1 b2 q=>(s2.2 b b1).trans ((s1.2 b b2).trans q))
 ·simp only[p7,J5]
  rw[x5,G0];omega
theorem CS{a kS:Addr}{e e1:Nat}{ks vs:List Value}{κ:SortKind}{lt:Nat->Nat->Bool}{P:PySem.Fin->Shared->Prop}(O:Ord lt)(hl:ks.length=vs.length)(yu:vs.length < 1000000)(hk:s.heap.get? kS=some (seqObj "list" (List.toArray ks) e))(ha:s.heap.get? a=some (seqObj "list" #[] e1))(gL:a≠kS)
  (DB:2<=vs.length->∀C:SortKind->Shared->Prop,C κ s->wpAny (model prog w) A (keyKind' (List.toArray ks)) C E s)
  (hc:2<=vs.length->∀i j C,i < vs.length->j < vs.length->C (lt i j) s->wpAny (model prog w) A (keyLt' κ (ks.getD i Value.none) (ks.getD j Value.none)) C (λ _ _=>False) s)
  (h:∀out h' c,Out lt vs Value.none out->h'.get? a=some (seqObj "list" (List.toArray out) c)->(∀b o,b≠a->b≠kS->s.heap.get? b=some o->h'.get? b=some o)->P (.done (.ret .none)) {s with heap:=h'}):
  wpAny (model prog w) A (ksk_end a false vs.toArray e1 (.ref kS) (List.toArray ks)) P E s:=by
 unfold ksk_end
 try dsimp only
 simp only[p7,J5]
 by_cases h2:vs.length < 2
 ·have z2:vs.toArray.size < 2:=by rw[x5];exact h2
  rw[J9 z2,J9 z2]
  refine G8 (G9 (G8 ?_))
  rw[StateT.run_pure]
  refine G9 ?_
  refine yg hk ha gL (by omega) yu (st:=SortSt.mk' general' ((List.toArray ks).zip vs.toArray) #[] 7 none) ?_ rfl λ h' c a1 a2=>h vs h' c (GB O _ h2) a1 a2
  show((List.toArray ks).zip vs.toArray).map (·.2)=_
  apply Array.toList_inj.mp
  simp
  exact map_snd_zip (by omega)
 ·have z2:¬vs.toArray.size < 2:=by rw[x5];exact h2
  rw[K0 z2,K0 z2]
  refine G8 (DB (by omega) _ ?_)
  refine G8 (J0 (CV O hl (hc (by omega))) ?_ λ _ _ x=>x)
  rintro⟨⟨⟩,aK⟩ s' ⟨rfl,p,hp,XH,hf,p1,p2⟩
  try dsimp only
  refine yg hk ha gL (by omega) ?_ (kat_snds hl XH) hf λ h' c a1 a2=>h _ h' c ⟨p,p1,p2,rfl⟩ a1 a2
  rw[B7,o7,hp]
  exact yu
theorem yi{kS q:Addr}{body:Value->PUnit->Sem (ForInStep PUnit)}{J:List Value->Nat->Shared->Prop}{vs:List Value}
  (hb:∀x ks e (s:Shared),J ks e s->vs[ks.length]?=some x->wpAny (model prog w) A (body x ⟨⟩) (λ r s'=>r=.yield ⟨⟩/\∃k c,J (ks++[k]) c s') E s):∀(r ks:List Value) (e:Nat) (s:Shared),vs.drop ks.length=r->ks.length<=vs.length->J ks e s->
   wpAny (model prog w) A (forIn r PUnit.unit body) (λ _ s'=>∃ks e,ks.length=vs.length/\J ks e s') E s
 |[],ks,e,s,hr,hl,h=>by
  rw[forIn_nil]
  exact G9 ⟨ks,e,C0 hl (by simpa using hr),h⟩
 |x::r,ks,e,s,hr,hl,h=>by
  rw[forIn_cons]
  have fO:ks.length < vs.length:=by
   refine y7 λ z=>?_
   rw[k3 z]at hr
   cases hr
  rw[i5 fO]at hr
  injection hr with e1 e2
  refine G8 (J0 (hb x ks e s h (by rw[i9 fO,e1])) (λ y s' hy=>?_) λ _ _ z=>z)
  obtain⟨rfl,k,c,h2⟩:=hy
  exact yi (kS:=kS) (q:=q) hb r (ks++[k]) c s' (by rw[p6,l6];exact e2) (by rw[p6,l6];omega) h2
theorem yh{a kS q:Addr}{e1:Nat}{vs:List Value}{P:PySem.Fin->Shared->Prop}{J:List Value->Nat->Shared->Prop}(yu:vs.length < 1000000)(hJ:∀ks e s,J ks e s->s.heap.get? kS=some (seqObj "list" (List.toArray ks) e)/\ks.length<=vs.length)
  (Qo:∀x ks e (s:Shared),J ks e s->vs[ks.length]?=some x->wpAny (model prog w) A (call (.ref q) [x]) (λ k s'=>s'.heap.get? kS=some (seqObj "list" (List.toArray ks) e)/\∀h' c,h'.get? kS=some (seqObj "list" (List.toArray (ks++[k])) c)->Heap.SameBut kS s'.heap h'->J (ks++[k]) c {s' with heap:=h'}) (λ _ _=>False) s)
  (h0:J [] 0 s) (MR:∀ks e s,J ks e s->ks.length=vs.length->wpAny (model prog w) A (ksk_end a false vs.toArray e1 (.ref kS) (List.toArray ks)) P E s):wpAny (model prog w) A (ksk_rest a (.ref q) false vs.toArray e1 (.ref kS)) P E s:=by
 unfold ksk_rest
 refine G8 (H0 ?_)
 first
  |rw[List.forIn_toArray]
  |(rw[<- Array.forIn_toList];simp only[List.toList_toArray])
  |rw[<- Array.forIn_toList]
 refine G8 (J0 (yi (kS:=kS) (q:=q) (J:=J) (vs:=vs) (λ x ks e s' hj hx=>?_) vs [] 0 s rfl (G5 _) h0) (λ _ s' hd=>?_) λ _ _ x=>x)
 ·refine G8 (C6 (J0 (Qo x ks e s' hj hx) (λ k OF hk=>?_) λ _ _ hF=>hF.elim))
  obtain⟨k1,k2⟩:=hk
  have hz:=(hJ ks e s' hj).2
  have s1:=n0 OF.heap kS (Obj.mapSeq (·.push k))
  have ea:(List.toArray ks).push k=List.toArray (ks++[k]):=by simp
  try dsimp only
  refine G8 (listUpdate_at k1 rfl (G9 ⟨rfl,k,_,k2 _ _ (by rw[<- ea];exact get?_update_seq k1 (·.push k)) s1⟩) (by rw[x5,G0];omega) (E8 (Nat.le_of_eq (Array.size_push ..)) (by rw[x5,G0];omega)))
 ·obtain⟨ks,e,hl,hj⟩:=hd
  try dsimp only
  exact G8 (listItems_at (hJ ks e s' hj).1 rfl (MR ks e s' hj hl))
theorem sortedK{l q:Addr}{vs:List Value}{Q:Value->Shared->Prop}(hl:s.heap.IsList l vs.toArray)(yu:vs.length < 1000000)
  (h:∀h' e1,h'.get? (s.heap.objs.size+1)=some (seqObj "list" #[] e1)->h'.get? (s.heap.objs.size+3)=some (seqObj "list" #[] 0)->(∀b o,s.heap.get? b=some o->h'.get? b=some o)->
   wpAny (model prog w) A.in1.in1 (ksk_rest (s.heap.objs.size+1) (.ref q) false vs.toArray e1 (.ref (s.heap.objs.size+3))) (λ f s'=>f=.done (.ret .none)/\Q (.ref (s.heap.objs.size+1)) s') E {s with heap:=h'}):
  wpAny (model prog w) A (call (.builtin "sorted") [.ref l] [(Str.ofString "key",.ref q)]) Q E s:=by
 refine call_function_entry_kw kind_sorted plain_sorted entry_sorted (ksk_s1 _ _) ?_
 unfold Builtin.«sorted»
 refine G8 (m:=checkCount "sorted" 1 1 _) (G9 (G8 (collect_list hl (G8 (wpAny_newList ?_ (by rw[G0];omega))) (by rw[G0];omega))))
 have e1:((s.heap.push (seqObj "list" #[] 0)).update s.heap.objs.size (Obj.mapSeq (·++vs.toArray))).objs.size=s.heap.objs.size+1:=by rw[Heap.size_update,size_push']
 have g1:(((s.heap.push (seqObj "list" #[] 0)).update s.heap.objs.size (Obj.mapSeq (·++vs.toArray))).push (seqObj "list" vs.toArray 0)).get? (s.heap.objs.size+1)=some (seqObj "list" vs.toArray 0):=by rw[<- e1];exact o8 _ rfl
 have k1:∀b o,s.heap.get? b=some o->(((s.heap.push (seqObj "list" #[] 0)).update s.heap.objs.size (Obj.mapSeq (·++vs.toArray))).push (seqObj "list" vs.toArray 0)).get? b=some o:=λ b o q=>by
  have hb:b < s.heap.objs.size:=E2 q
  exact k5 _ (by rw[Heap.get?_update_ne _ _ _ _ (E1 hb)];exact k5 _ q)
 show wpAny _ _ _ _ _ {s with heap:=((s.heap.push (seqObj "list" #[] 0)).update s.heap.objs.size (Obj.mapSeq (·++vs.toArray))).push (seqObj "list" vs.toArray 0)}
 rw[e1]
 refine G8 (C5 (wpAny_call_entry_kw slot_list_sort ⟨_,g1,rfl⟩ entry_list_sort ?body (ksk_l1 _ _)))
 case body=>
  show wpAny (model prog w) A.in1.in1 (Builtin.«list.sort» ⟨[.ref (s.heap.objs.size+1)],[(Str.ofString "key",.ref q)]⟩) _ _ _
  rw[ksk_t1]
  unfold ksk_tree
  generalize hH:((s.heap.push (seqObj "list" #[] 0)).update s.heap.objs.size (Obj.mapSeq (·++vs.toArray))).push (seqObj "list" vs.toArray 0)=H at*
  have eH:H.objs.size=s.heap.objs.size+2:=by rw[<- hH,size_push',e1]
  obtain⟨c1,o1⟩:∃c1,(H.update (s.heap.objs.size+1) (Obj.mapSeq λ _=>(#[]:Array Value))).get? (s.heap.objs.size+1)=some (seqObj "list" #[] c1):=⟨_,get?_update_seq g1 λ _=>#[]⟩
  refine G8 (listItems_at g1 rfl (G8 (listUpdate_at g1 rfl (G8 (seqEpoch_at o1 rfl (G8 (wpAny_newTuple (G8 (wpAny_newList (C5 ?_) (G5 _))) (by show vs.length<=_;rw[G0];omega))))) (by rw[x5,G0];omega) (G5 _))))
  have e2:(H.update (s.heap.objs.size+1) (Obj.mapSeq λ _=>(#[]:Array Value))).objs.size=s.heap.objs.size+2:=by rw[Heap.size_update,eH]
  have e3:((H.update (s.heap.objs.size+1) (Obj.mapSeq λ _=>(#[]:Array Value))).push (seqObj "tuple" vs.toArray 0)).objs.size=s.heap.objs.size+3:=by rw[size_push',e2]
  have g3:(((H.update (s.heap.objs.size+1) (Obj.mapSeq λ _=>(#[]:Array Value))).push (seqObj "tuple" vs.toArray 0)).push (seqObj "list" #[] 0)).get? (s.heap.objs.size+3)=some (seqObj "list" #[] 0):=by rw[<- e3];exact o8 _ rfl
  show wpAny (model prog w) A.in1.in1 (ksk_rest (s.heap.objs.size+1) (.ref q) false vs.toArray c1 (.ref ((H.update (s.heap.objs.size+1) (Obj.mapSeq λ _=>(#[]:Array Value))).push (seqObj "tuple" vs.toArray 0)).objs.size)) _ _ {s with heap:=((H.update (s.heap.objs.size+1) (Obj.mapSeq λ _=>(#[]:Array Value))).push (seqObj "tuple" vs.toArray 0)).push (seqObj "list" #[] 0)}
  rw[e3]
  refine J0 (h _ c1 (k5 _ (k5 _ o1)) g3 λ b o x=>k5 _ (k5 _ (by
   have hb:b < s.heap.objs.size:=E2 x
   rw[Heap.get?_update_ne _ _ _ _ (E1 (Nat.lt_succ_of_lt hb))];exact k1 b o x))) (λ f s' hf=>?_) λ _ _ x=>x
  obtain⟨rfl,hq⟩:=hf
  exact⟨_,rfl,G9 ⟨_,rfl,hq⟩⟩
end
end L5
namespace L2
open PySem PySem.Spec PyProof.Rows L5 PySem.W
open HT (lexLt cX dU dw dy)
theorem eT{h:Heap}:∀{vs:List Value} {ns:List Int},IntsAre vs ns->ReadsAll h vs (ns.map PyData.int) []
 |_,_,.nil=>ReadsAll.nil
 |_,_,.cons n t r=>ReadsAll.cons (Reads.int n t) (eT r)
abbrev Ky:=Int×List Int
def klt(a b:Ky):Bool:=if a.1=b.1 then lexLt a.2 b.2 else decide (a.1 < b.1)
theorem yd:∀a:List Int,lexLt a a=false
 |[]=>rfl
 |x::a=>by rw[cX,J9 rfl];exact yd a
theorem tW:∀a b:List Int,lexLt a b=true->lexLt b a=false
 |[],[],h=>by cases h
 |[],_::_,_=>rfl
 |_::_,[],h=>by cases h
 |x::a,y::b,h=>by
  rw[cX]at h ⊢
  by_cases e:x=y
  ·rw[J9 e]at h
   rw[J9 e.symm]
   exact tW a b h
  ·rw[K0 e]at h
   rw[K0 (J8 e)]
   have:=of_decide_eq_true h
   exact A9 (by omega)
theorem CM:∀a b c:List Int,lexLt a b=false->lexLt b c=false->lexLt a c=false
 |_,_::_,[],_,_=>by rename_i a _ _ _ _;cases a <;> rfl
 |[],[],c,_,h=>h
 |_::_,[],[],_,_=>rfl
 |_::_,[],_::_,_,h=>by cases h
 |[],_::_,_::_,h,_=>by cases h
 |x::a,y::b,z::c,h,g=>by
  rw[cX]at h g ⊢
  by_cases e:x=y
  ·rw[J9 e]at h
   subst e
   by_cases e2:x=z
   ·rw[J9 e2]at g ⊢
    exact CM a b c h g
   ·rw[K0 e2]at g ⊢
    exact g
  ·rw[K0 e]at h
   have h:=of_decide_eq_false h
   by_cases e2:y=z
   ·subst e2
    rw[K0 e]
    exact A9 h
   ·rw[K0 e2]at g
    have g:=of_decide_eq_false g
    have:x≠z:=by omega
    rw[K0 this]
    exact A9 (by omega)
theorem CT(a b:Ky)(h:klt a b=true):klt b a=false:=by
 unfold klt at h ⊢
 by_cases e:a.1=b.1
 ·rw[J9 e]at h
  rw[J9 e.symm]
  exact tW _ _ h
 ·rw[K0 e]at h
  rw[K0 (J8 e)]
  have:=of_decide_eq_true h
  exact A9 (by omega)
theorem Mn(a b c:Ky)(h:klt a b=false)(g:klt b c=false):klt a c=false:=by
 unfold klt at h g ⊢
 by_cases e:a.1=b.1
 ·rw[J9 e]at h
  by_cases e2:b.1=c.1
  ·rw[J9 e2]at g
   rw[J9 (e.trans e2)]
   exact CM _ _ _ h g
  ·rw[K0 e2]at g
   rw[K0 (by rw[e];exact e2),e]
   exact g
 ·rw[K0 e]at h
  have h:=of_decide_eq_false h
  by_cases e2:b.1=c.1
  ·rw[K0 (by rw[<- e2];exact e),<- e2]
   exact A9 h
  ·rw[K0 e2]at g
   have g:=of_decide_eq_false g
   have:a.1≠c.1:=by omega
   rw[K0 this]
   exact A9 (by omega)
theorem yj(key:Nat->Ky):Ord λ i j=>klt (key i) (key j):=⟨λ a b h=>CT _ _ h,λ a b c h g=>Mn _ _ _ h g⟩
def jO(K:PySem.W.Frag)(b:Bool)(H:Hp)(k:V)(c:Ky):Prop:=∃t m,k=.ref t/\f_ K H t [.int c.1,.ref m]/\Sq b K H m (c.2.map V.int)
section
variable {X:Cx}{pins:List (Addr×Obj)}{σ:St}{H:Hp}{s:Shared}
theorem qL(I:Inv X pins σ H s){b:Bool}{k:V}{c:Ky}{u:Value}(h:jO X.K b H k c)(r:RelV k u):∃(t m:Addr) (o:Obj) (tk:Tok) (n:Nat) (au:List Value),u=.ref t/\s.heap.get? t=some o/\o.cls=.type "tuple"/\o.data=.seq #[.int c.1 tk,.ref m] n/\wC b s.heap m au.toArray/\IntsAre au c.2:=by
 obtain⟨t,m,rfl,h1,h2⟩:=h
 cases(show u=Value.ref t from r)
 obtain⟨au,r1,⟨o,ho,hc,n,hd⟩,_⟩:=I.tuple h1
 obtain⟨u1,u2,rfl,⟨tk,rfl⟩,q2⟩:=vals2 r1
 cases(show u2=Value.ref m from q2)
 obtain⟨R',r2,p2⟩:=eQ I h2
 exact⟨t,m,o,tk,n,R',rfl,ho,hc,hd,p2,intsAre_of r2⟩
theorem HK{A:Around}{b:Bool}{m m':Addr}{xs ys:List Value}{ns ms:List Int}(h1:wC b s.heap m xs.toArray)(h2:wC b s.heap m' ys.toArray)(i1:IntsAre xs ns)(i2:IntsAre ys ms)(hu:A.units+1 < cLine):SeqAt.EqAt A s (.ref m) (.ref m') (decide (ns=ms)):=by
 have dp:∀l:List Int,PyData.depthAll (l.map PyData.int)=0:=λ l=>ke_depthAll l
 cases b with
 |true=>
  obtain⟨o,ho,hc,n,hd⟩:=h1
  obtain⟨o',qX,zX,n',iC⟩:=h2
  have q:=x6 (.tuple (ns.map .int)) (.tuple (ms.map .int)) A s (.ref m) (.ref m') _ _ (reads_tuple_at ho hc hd (eT i1)) (reads_tuple_at qX zX iC (eT i2)) (by simp[PyData.canLay0,ke_canLayAll0]) (by simp[PyData.canLay0,ke_canLayAll0]) (by simp[PyData.depth,dp];omega)
  rw[show PyData.eqv (.tuple (ns.map .int)) (.tuple (ms.map .int))=decide (ns=ms) by simp only[PyData.eqv];exact ked_eqvAll ns ms]at q
  exact q
 |false=>
  obtain⟨o,ho,hc,n,hd⟩:=h1
  obtain⟨o',qX,zX,n',iC⟩:=h2
  have q:=x6 (.list (ns.map .int)) (.list (ms.map .int)) A s (.ref m) (.ref m') _ _ (reads_list_at ho hc hd (eT i1)) (reads_list_at qX zX iC (eT i2)) (by simp[PyData.canLay0,ke_canLayAll0]) (by simp[PyData.canLay0,ke_canLayAll0]) (by simp[PyData.depth,dp];omega)
  rw[show PyData.eqv (.list (ns.map .int)) (.list (ms.map .int))=decide (ns=ms) by simp only[PyData.eqv];exact ked_eqvAll ns ms]at q
  exact q
theorem Hf{prog:Program}{w:World}{A:Around}{E:Value->Shared->Prop}{b:Bool}{m m':Addr}{xs ys:List Value}{ns ms:List Int}{Q:Value->Shared->Prop}(h1:wC b s.heap m xs.toArray)(h2:wC b s.heap m' ys.toArray)(i1:IntsAre xs ns)(i2:IntsAre ys ms)(hu:A.units < cLine)
  (h:Q (.bool (lexLt ns ms)) s):wpAny (model prog w) A (compareOp .Lt (.ref m) (.ref m')) Q E s:=by
 cases b with
 |true=>exact HT.wu (show IsTup s.heap m xs.toArray from h1) (show IsTup s.heap m' ys.toArray from h2) i1 i2 hu h
 |false=>exact CK h1 h2 i1 i2 hu h
theorem CU{A:Around}(I:Inv X pins σ H s)(hu:A.units+1 < cLine){b:Bool}{k k':V}{c c':Ky}{u u':Value}(h:jO X.K b H k c)(h':jO X.K b H k' c')(r:RelV k u)(r':RelV k' u'){C:Bool->Shared->Prop}(hC:C (klt c c') s):
  wpAny (model X.prog X.w) A (keyLt' (tuples' true) u u') C (λ _ _=>False) s:=by
 obtain⟨t,m,o,tk,n,au,rfl,ho,_,hd,hm,hi⟩:=qL I h r
 obtain⟨t',m',o',Ir,n',its',rfl,qX,_,iC,gO,I_⟩:=qL I h' r'
 refine kat_lt ho hd qX iC (kat_cons (SeqAt.EqAt.int_int c.1 tk c'.1 Ir X.prog X.w _ _ ?_))
 unfold klt at hC
 by_cases e:c.1=c'.1
 ·rw[J9 e]at hC
  rw[show(c.1==c'.1)=true by simp[e]]
  refine kat_yes (kat_cons (HK hm gO hi I_ hu X.prog X.w _ _ ?_))
  by_cases e2:c.2=c'.2
  ·rw[C1 e2]
   rw[e2,yd]at hC
   exact kat_yes (kat_nil hC)
  ·rw[A9 e2]
   exact kat_no (kat_one _ _ (Hf hm gO hi I_ (by omega) hC))
 ·rw[K0 e]at hC
  rw[show(c.1==c'.1)=false by simp[e]]
  exact kat_no (oneLt_int hC)
theorem nE(I:Inv X pins σ H s){b:Bool}:∀{kvs:List V} {ks:List Value} {key:Nat->Ky},Vals kvs ks->(∀i k,kvs[i]?=some k->jO X.K b H k (key i))->∃fs,KatTups s.heap ks fs/\fs.length=ks.length/\∀v∈fs,∃i t,v=Value.int i t
 |_,_,_,.nil,_=>⟨[],KatTups.nil,rfl,λ v hv=>by cases hv⟩
 |_,_,key,.cons (a:=k) r rr,h=>by
  obtain⟨fs,h1,h2,h3⟩:=nE I rr (key:=λ i=>key (i+1)) λ i k hk=>h (i+1) k (by simpa using hk)
  obtain⟨t,m,o,tk,n,au,rfl,ho,hc,hd,_,_⟩:=qL I (h 0 _ rfl) r
  refine⟨.int (key 0).1 tk::fs,KatTups.cons ho hc hd rfl h1,by simp[h2],λ v hv=>?_⟩
  rcases D3.mp hv with rfl|hv
  ·exact⟨_,_,rfl⟩
  ·exact h3 v hv
theorem sk{ys:List V}{au:List Value}(r:Vals ys au)(p:List Nat):Vals (p.map λ i=>ys.getD i V.bx) (p.map λ i=>au.getD i Value.none):=by
 induction p with
 |nil=>exact .nil
 |cons i p ih=>
  refine .cons ?_ ih
  show RelV (ys.getD i V.bx) (au.getD i Value.none)
  cases e:ys[i]? with
  |none=>
   have e2:=r.none_of e
   rw[g9,g9,e,e2]
   rfl
  |some y=>
   obtain⟨u,hu,ru⟩:=r.get e
   rw[g9,g9,e,hu]
   exact ru
variable {k:Nat}{q:Addr}{fd:FuncData}{ps:List Str}{sp:Sp}
theorem rG(F:bZ X.prog X.w X.K X.mg X.base fE k q fd ps sp)(hb:Binds X.K fd ps [])(hr:cJ (k+2) X.A){l:Addr}{ys:List V}{Q:VK}{b:Bool}(I:Inv X pins σ H s)(hl:dD X.K H l ys)(yu:ys.length < 1000000)(R:List V->Hp->Prop)(key:Nat->Ky)(h0:R [] H)
  (hc:∀kvs H v,R kvs H->ys[kvs.length]?=some v->sp [v] H (λ k H'=>R (kvs++[k]) H') E0)
  (hk:∀kvs H,R kvs H->kvs.length=ys.length->(∀i k,kvs[i]?=some k->jO X.K b H k (key i))/\∀p out,H p=none->Out (λ i j=>klt (key i) (key j)) ys V.bx out->Q (.ref p) (upd H p (.lst out))):
  wpAny (model X.prog X.w) X.A (call (.builtin "sorted") [.ref l] [(Str.ofString "key",.ref q)]) (EP X pins σ Q) X.xe s:=by
 obtain⟨au,rv,pl,hz⟩:=I.list hl
 have hlen:=rv.length
 have hu:=hr.units
 have room:cJ k X.A.in1.in1:=(hr.in1 (k:=k+1)).in1
 refine sortedK pl.isList (by omega) λ g e1 gD gK gk=>?_
 have f1:=I.iS (H':=λ _=>none) (b:=s.heap.objs.size+1) (by omega) rfl
 have f3:=I.iS (H':=λ _=>none) (b:=s.heap.objs.size+3) (by omega) rfl
 have gL:s.heap.objs.size+1≠s.heap.objs.size+3:=by omega
 refine yh (J:=λ ks e s'=>∃kvs H',Inv X ((s.heap.objs.size+3,seqObj "list" (List.toArray ks) e)::(s.heap.objs.size+1,seqObj "list" #[] e1)::pins) σ H' s'/\Vals kvs ks/\R kvs H'/\ks.length<=au.length) (by omega) ?_ ?_ ?_ ?_
 ·rintro ks e s' ⟨kvs,H',I',rk,hR,uh⟩
  exact⟨(I'.pin _ (k9 _ (.head _))).1,uh⟩
 ·rintro x ks e s' ⟨kvs,H',I',rk,hR,uh⟩ hx
  have lk:=rk.length
  obtain⟨y,hy,ry⟩:∃y,ys[kvs.length]?=some y/\RelV y x:=by
   have hi:kvs.length < ys.length:=by
    have:=(i6.mp hx).1
    omega
   obtain⟨u,Hu,ru⟩:=rv.get (i9 hi)
   rw[lk,hx]at Hu
   cases Hu
   exact⟨_,i9 hi,ru⟩
  have call:=hc kvs H' y hR hy
  have r1:Vals [y] [x]:=.cons ry .nil
  have HA:([x]++([]:List Value)).length=ps.length:=by
   have:=F.len _ _ _ _ call
   simpa using this
  have en:rU X.prog X.w X.K X.mg X.base X.A.in1.in1 X.stack s' H':=I'.Nh.in1.in1
  have bt:=hb s' [x] I'.oE HA
  rw[A6]at bt
  refine wpAny_call (codeAny_mono (F.run X.A.in1.in1 X.stack s' H' ⟨[x],[]⟩ [x] [y] _ E0 room en bt r1 call) λ r s2 hq=>?_)
  cases r with
  |error e=>exact hq
  |ok fl=>
   cases fl with
   |ret u=>
    obtain⟨kv,H2,I2,ru,MY⟩:=I'.after hq
    have pk:=I2.pin _ (k9 _ (o9 ..))
    refine⟨pk.1,λ h' c Uz sb=>⟨kvs++[kv],H2,?_,rk.append (.cons ru .nil),MY,?_⟩⟩
    ·have I3:Inv X ((s.heap.objs.size+1,seqObj "list" #[] e1)::pins) σ H2 s2:=I2.cL λ p hp=>I2.pin p (k9 _ (.tail _ hp))
     have pd:=I2.pin _ (k9 _ (List.Mem.tail _ (o9 ..)))
     have fk:gB X ((s.heap.objs.size+1,seqObj "list" #[] e1)::pins) H2 (s.heap.objs.size+3):=⟨pk.2.1,f3.2.1,f3.2.2.1,f3.2.2.2.1,f3.2.2.2.2.1,λ p hp=>by
      rcases B8.mp hp with z|z
      ·exact f3.2.2.2.2.2 p (m7 _ z)
      ·rcases D3.mp z with rfl|z
       ·exact gL
       ·exact f3.2.2.2.2.2 p (k9 _ z)⟩
     have I4:Inv X ((s.heap.objs.size+1,seqObj "list" #[] e1)::pins) σ H2 {s2 with heap:=h'}:=iE (t':=s2.toks) (ch:=[s.heap.objs.size+3]) I3 (λ b o hb e=>(sb.2 b (λ z=>hb (by simp[z]))).trans e) λ b pK=>by
      have:b=s.heap.objs.size+3:=by simpa using pK
      subst this
      exact fk
     refine I4.cL λ p hp=>?_
     rcases D3.mp hp with rfl|z
     ·exact⟨Uz,pk.2.1,f3.2.1,f3.2.2.1,λ v z=>by cases z⟩
     ·exact I4.pin p (k9 _ z)
    ·have:=(i6.mp hx).1
     rw[p6,l6]
     omega
   |next=>exact hq.elim
   |brk=>exact hq.elim
   |cont=>exact hq.elim
 ·have I5:Inv X pins σ H {s with heap:=g}:=I.kept (t':=s.toks) gk
  have hn:∀b,s.heap.objs.size<=b->H b=none:=λ b hb=>I.bO.fresh hb
  refine⟨[],H,I5.cL λ p hp=>?_,.nil,h0,G5 _⟩
  rcases D3.mp hp with rfl|z
  ·exact⟨gK,hn _ (by omega),f3.2.1,f3.2.2.1,λ v z=>by cases z⟩
  ·rcases D3.mp z with rfl|z
   ·exact⟨gD,hn _ (by omega),f1.2.1,f1.2.2.1,λ v z=>by cases z⟩
   ·exact I5.pin p (k9 _ z)
 ·rintro ks e s' ⟨kvs,H',I',rk,hR,_⟩ uh
  have lk:=rk.length
  obtain⟨qY,hQ⟩:=hk kvs H' hR (by omega)
  have pk:=I'.pin _ (k9 _ (o9 ..))
  have pd:=I'.pin _ (k9 _ (List.Mem.tail _ (o9 ..)))
  have Se:X.A.in1.in1.units+1 < cLine:=by have:=room.units;omega
  refine CS (κ:=tuples' true) (yj key) uh (by omega) pk.1 pd.1 gL (λ h2 C hC=>?_) (λ h2 i j C hi hj hC=>?_) λ out h' c ho hD DC=>⟨rfl,?_⟩
  ·obtain⟨fs,t1,t2,t3⟩:=nE I' rk qY
   refine kat_kind (T:=.type "int") t1 (by omega) (λ v hv=>?_) rfl hC
   obtain⟨i,t,rfl⟩:=t3 v hv
   exact(show Looks _ s'.heap (pure (Value.type "int")) _ from .now)
  ·have gi:∀i,i < au.length->∃k u,kvs[i]?=some k/\ks.getD i Value.none=u/\RelV k u:=λ i hi=>by
    have I_:i < kvs.length:=by omega
    obtain⟨u,e,r⟩:=rk.get (i9 I_)
    exact⟨_,u,i9 I_,by rw[g9,e];rfl,r⟩
   obtain⟨k1,u1,a1,a2,a3⟩:=gi i hi
   obtain⟨k2,u2,b1,b2,b3⟩:=gi j hj
   rw[a2,b2]
   exact CU I' Se (qY i k1 a1) (qY j k2 b1) a3 b3 hC
  ·obtain⟨p,p1,p2,p3⟩:=ho
   subst p3
   have I6:Inv X pins σ H' s':=I'.cL λ p hp=>I'.pin p (k9 _ (.tail _ (.tail _ hp)))
   have I7:Inv X pins σ H' {s' with heap:=h'}:=iE (t':=s'.toks) (ch:=[s.heap.objs.size+1,s.heap.objs.size+3]) I6 (λ b o hb e=>DC b o (λ z=>hb (by simp[z])) (λ z=>hb (by simp[z])) e) λ b pK=>by
    simp at pK
    rcases pK with rfl|rfl
    ·exact⟨pd.2.1,f1.2⟩
    ·exact⟨pk.2.1,f3.2⟩
   have Tg:Vals (p.toList.map λ i=>ys.getD i V.bx) (p.toList.map λ i=>au.getD i Value.none):=sk rv _
   have PU:(p.toList.map λ i=>ys.getD i V.bx).length<=sizeLine:=by
    rw[B7,o7,p1.size,G0]
    omega
   refine⟨.ref (s.heap.objs.size+1),_,Inv.o_ (D:=s.heap.objs.size+1) (o:=.lst (p.toList.map λ i=>ys.getD i V.bx)) I7 pd.2.1 (show _/\∃(au:List Value) (n:Nat),Vals _ au/\_ from⟨PU,_,c,Tg,hD⟩) f1.2.1 (E8 I.sz (by omega)) f1.2.2.2.2.1 f1.2.2.2.2.2,rfl,hQ _ _ pd.2.1 ⟨p,by rw[hlen];exact p1,by rw[hlen];exact p2,rfl⟩⟩
end
end L2
namespace L5
open PySem
theorem EO:fillsNumberSlot (.type "tuple") "mul"=pure false:=fillsNumberSlot_seq (id:="tuple.__mul__") (r:=some (.builtin "tuple.__rmul__")) F.slot_tuple_mul.lookup (by decide+kernel) F.slot_tuple_rmul.lookup (by decide+kernel)
theorem JC:seqRepeat? (.type "tuple")=pure (some (.builtin "tuple.__mul__")):=by
 unfold seqRepeat?
 rw[seqSlot_of (T:="tuple") (name:="__mul__") (id:="tuple.__mul__") F.slot_tuple_mul.lookup (by decide+kernel),seqSlot_of (T:="tuple") (name:="__rmul__") (id:="tuple.__rmul__") F.slot_tuple_rmul.lookup (by decide+kernel)]
 rfl
theorem JE(a:Int)(t:Tok)(l:Addr)(au:Array Value)(n:Nat)(dd:Option Addr)(sl:Array (Option Value)):Meets (Builtin.«int.__rmul__» ⟨[.int a t,.ref l],[]⟩) (λ _ R s=>s.heap.get? l=some {cls:=.type "tuple",dict:=dd,data:=.seq au n,slots:=sl}/\R (.ok (.ret Value.notImplemented)) s):=
 .of_wp λ prog w A R s h=>by
  obtain⟨hp,g,d,tk,os⟩:=s
  obtain⟨hl,h⟩:=h
  wp_walk
  exact⟨_,rfl,h⟩
theorem JD(l:Addr)(au:Array Value)(n:Nat)(dd:Option Addr)(sl:Array (Option Value))(u:Tok):Meets (Builtin.«tuple.__mul__» ⟨[.ref l,.int 1 u],[]⟩) (λ _ R s=>s.heap.get? l=some {cls:=.type "tuple",dict:=dd,data:=.seq au n,slots:=sl}/\R (.ok (.ret (.ref l))) s):=
 .of_wp λ prog w A R s h=>by
  obtain⟨hp,g,d,tk,os⟩:=s
  obtain⟨hl,h⟩:=h
  wp_walk
  exact⟨_,rfl,h⟩
theorem EN(l:Addr)(au:Array Value)(n:Nat)(dd:Option Addr)(sl:Array (Option Value))(x:Int)(u:Tok)(hx:x≠1)(h1: -(2^63)<=x)(h2:x < 2^63)(hi:au.isEmpty=false)(hz:au.size*x.toNat<=sizeLine):
  Meets (Builtin.«tuple.__mul__» ⟨[.ref l,.int x u],[]⟩) (λ _ R s=>s.heap.get? l=some {cls:=.type "tuple",dict:=dd,data:=.seq au n,slots:=sl}/\
   R (.ok (.ret (.ref s.heap.objs.size))) {s with heap:=s.heap.push {cls:=.type "tuple",data:=.seq ((List.replicate x.toNat au).foldl (·++·) #[])}}):=
 .of_wp λ prog w A R s h=>by
  obtain⟨hp,g,d,tk,os⟩:=s
  obtain⟨hl,h⟩:=h
  wp_walk
  rw[K0 (by simp;omega)]
  wp_walk
  by_cases W3:x<=0
  ·rw[J9 (by simp[W3])]
   wp_walk
   have e:x.toNat=0:=by omega
   rw[e]at h
   exact⟨_,rfl,h⟩
  ·rw[K0 (by simp[hi];omega)]
   have ez:((au.size:Int)*x)=((au.size*x.toNat:Nat):Int):=by
    rw[Int.natCast_mul,Int.toNat_of_nonneg (by omega)]
   have PU:=hz
   rw[G0]at PU
   rw[K0 (by rw[ez];omega)]
   wp_walk
   rw[K0 (by unfold Builtin.Tuple.tupleTooMany;rw[ez,u4,G0];omega)]
   have hsz:(List.foldl (λ x1 x2=>x1++x2) #[] (List.replicate x.toNat au)).size<=sizeLine:=by
    have f0:∀(m:Nat) (acc:Array Value),(List.foldl (λ x1 x2=>x1++x2) acc (List.replicate m au)).size=acc.size+m*au.size:=by
     intro m
     induction m with
     |zero=>intro acc;simp
     |succ m ih=>intro acc;rw[n9,foldl_cons,ih,Array.size_append,Nat.succ_mul];omega
    rw[f0,Nat.mul_comm]
    simpa using hz
   wp_walk
   exact⟨_,rfl,h⟩
end L5
namespace L2
open PySem PySem.Spec PyProof.Rows L5
section
variable {X:Cx}
theorem xw(ns:List Int):∀n,n<=ns.length->preSum (λ i=>ns.getD i 0) n=(ns.take n).sum
 |0,_=>by simp[preSum]
 |n+1,h=>by
  have hn:n < ns.length:=by omega
  rw[preSum,xw ns n (by omega),take_succ_eq_append_getElem hn,sum_append]
  simp[g9,hn]
theorem oO(hc:X.calm=true):dH X (.builtin "sum") (λ xs H Q=>∃(b:Bool) (p:Addr) (ns:List Int),xs=[.ref p]/\Sq b X.K H p (ns.map V.int)/\Q (.int ns.sum) H):=by
 intro pins s σ H xs us Q I r h
 obtain⟨b,p,ns,rfl,hq,q⟩:=h
 obtain⟨u,rfl,r1⟩:=vals1 r
 cases r1
 obtain⟨au,rv,pl⟩:=eQ I hq
 have hi:IntsAre au ns:=intsAre_of rv
 have hlen:au.length=ns.length:=by rw[<- rv.length,B7]
 have hA:X.A.in1.handled=none:=I.ok.hd hc
 have hv:∀i v,au.toArray[i]?=some v->∃t,v=Value.int (ns.getD i 0) t:=λ i v e=>by
  have e:au[i]?=some v:=by simpa using e
  have h1:i < ns.length:=by rw[<- hlen];exact(i6.mp e).1
  obtain⟨t,e2⟩:=mC hi h1
  rw[e]at e2
  cases e2
  exact⟨t,by simp[g9,h1]⟩
 have ht:preSum (λ i=>ns.getD i 0) au.toArray.size=ns.sum:=by
  rw[x5,hlen,xw ns _ (E9 _),z9]
 cases b with
 |false=>
  have pl:s.heap.IsList p au.toArray:=pl
  have gL:p≠s.heap.objs.size:=by
   obtain⟨o,e,_⟩:=pl
   exact E1 (E2 e)
  refine call_sum_walkG (w6 pl ⟨s.heap.objs.size,_,_,_,_,_,λ i=>ns.getD i 0,rfl,Walks.list hA s.heap.objs.size p gL au.toArray,⟨⟨_,o8 _ rfl,rfl,rfl⟩,pl.at λ o e=>k5 _ e⟩,?_,hv,λ h' tk t' hk=>?_⟩)
  ·intro b hb
   have:s.heap.objs.size < (s.heap.push {cls:=.type "list_iterator",data:=.fields #[.ref p,.int 0 0]}).objs.size:=by rw[C3];omega
   obtain⟨o,e,_⟩:=pl
   have h2:=E2 e
   simp at hb
   rcases hb with rfl|rfl
   ·exact this
   ·exact Nat.lt_trans h2 this
  ·rw[ht]
   exact⟨.int ns.sum,H,I.kept (t':=tk) λ b o e=>hk b o (by simpa using E1 (E2 e)) (k5 _ e),⟨_,rfl⟩,q⟩
 |true=>
  have pl:s.heap.IsTuple p au.toArray:=pl
  have gL:p≠s.heap.objs.size:=by
   obtain⟨o,e,_⟩:=pl
   exact E1 (E2 e)
  refine call_sum_walkG (wpAny_pyIter_tuple pl ⟨s.heap.objs.size,_,_,_,_,_,λ i=>ns.getD i 0,rfl,Walks.tuple hA s.heap.objs.size p gL au.toArray,⟨⟨_,o8 _ rfl,rfl,rfl⟩,tx.keep pl λ o e=>k5 _ e⟩,?_,hv,λ h' tk t' hk=>?_⟩)
  ·intro b hb
   have:s.heap.objs.size < (s.heap.push {cls:=.type "tuple_iterator",data:=.fields #[.ref p,.int 0 0]}).objs.size:=by rw[C3];omega
   obtain⟨o,e,_⟩:=pl
   have h2:=E2 e
   simp at hb
   rcases hb with rfl|rfl
   ·exact this
   ·exact Nat.lt_trans h2 this
  ·rw[ht]
   exact⟨.int ns.sum,H,I.kept (t':=tk) λ b o e=>hk b o (by simpa using E1 (E2 e)) (k5 _ e),⟨_,rfl⟩,q⟩
theorem GD:fu X (binaryOp .Mult) (λ x y H Q=>∃l k xs,x=.ref l/\y=.int k/\f_ X.K H l xs/\xs≠[]/\-(2^63)<=k/\k < 2^63/\xs.length*k.toNat<=sizeLine/\(k=1->Q (.ref l) H)/\(k≠1->∀p,H p=none->Q (.ref p) (upd H p (.tup (List.replicate k.toNat xs).flatten)))):=by
 intro pins s σ H x y v u Q I rx ry h
 obtain⟨l,k,xs,rfl,rfl,hH,gL,h1,h2,hz,q1,q2⟩:=h
 cases rx
 obtain⟨t,rfl⟩:=ry
 obtain⟨au,r,⟨⟨c,dd,da,sl⟩,e,hc,n,hd⟩,_⟩:=I.tuple hH
 have hl:=r.length
 cases(show c=.type "tuple" from hc)
 cases(show da=.seq au.toArray n from hd)
 refine wpAny_binaryOp_repeat_ref (T:="tuple") (U:="int") (by decide) ⟨_,e,rfl⟩ (λ s'=>typeIs_int s' k t) EO F.fills_int_mul F.slot_int_rmul JC F.slot_int_index.lookup
  (H9 F.slot_int_rmul (typeIs_int s k t) F.entry_int_rmul (F.args_int_rmul_2 _ _) (JE k t l au.toArray n dd sl) ⟨e,rfl,⟨_,e,rfl⟩,?_⟩)
 by_cases hk:k=1
 ·subst hk
  exact H9 F.slot_tuple_mul ⟨_,e,rfl⟩ F.entry_tuple_mul (F.args_tuple_mul_2 _ _) (JD l au.toArray n dd sl t) ⟨e,.ref l,H,I,rfl,q1 rfl⟩
 ·refine H9 F.slot_tuple_mul ⟨_,e,rfl⟩ F.entry_tuple_mul (F.args_tuple_mul_2 _ _) (EN l au.toArray n dd sl k t hk h1 h2 ?_ (by rw[x5,<- hl];exact hz)) ⟨e,?_⟩
  ·cases au with
   |nil=>cases r;exact absurd rfl gL
   |cons a b=>rfl
  ·have ML:List.foldl (λ x1 x2=>x1++x2) #[] (List.replicate k.toNat au.toArray)=(List.replicate k.toNat au).flatten.toArray:=by
    have:=foldl_rep au k.toNat []
    rw[A7]at this
    exact this
   rw[ML]
   have fr:=I.fresh
   refine⟨.ref s.heap.objs.size,_,I.laid (t':=s.toks) (o:=.tup (List.replicate k.toNat xs).flatten) (λ b o e=>k5 _ e) (E9 _) ⟨?_,_,r.rep k.toNat,⟨_,o8 _ rfl,rfl,_,rfl⟩⟩,rfl,q2 hk _ fr⟩
   rw[len_rep,Nat.mul_comm]
   exact hz
end
end L2
namespace L3
open PySem PySem.Spec L2 L5 PyProof.Rows
mutual
def toP:D->PyData
 | .bx=>.none
 | .bl b=>.bool b
 | .int i=>.int i
 | .str x=>.str x
 | .ty _=>.none
 | .ref _=>.none
 | .tup ds=>.tuple (toPs ds)
 | .fl ds=>.list (toPs ds)
def toPs:List D->List PyData
 |[]=>[]
 |d::ds=>toP d::toPs ds
end
mutual
def nr:D->Bool
 | .bx=>true
 | .bl _=>true
 | .int _=>true
 | .str _=>true
 | .ty _=>false
 | .ref _=>false
 | .tup ds=>pA ds
 | .fl ds=>pA ds
def pA:List D->Bool
 |[]=>true
 |d::ds=>nr d&&pA ds
end
section
variable {X:Cx}{pins:List (Addr×Obj)}{σ:L2.St}{H:Hp}{s:Shared}
mutual
theorem RT(I:Inv X pins σ H s):∀(d:D) {x:V} {u:Value},nr d=true->Dat X.K H d x->RelV x u->∃as,Reads s.heap u (toP d) as
 | .bx,x,u,_,h,r=>by cases(dW.mp h);cases r;unfold toP;exact⟨_,Reads.none⟩
 | .bl b,x,u,_,h,r=>by cases(aW.mp h);cases r;unfold toP;exact⟨_,Reads.bool b⟩
 | .int i,x,u,_,h,r=>by cases(ax.mp h);obtain⟨t,rfl⟩:=r;unfold toP;exact⟨_,Reads.int i t⟩
 | .str z,x,u,_,h,r=>by cases(aN.mp h);obtain⟨t,rfl⟩:=r;unfold toP;exact⟨_,Reads.str z t⟩
 | .ty _,x,u,n,h,r=>by unfold nr at n;cases n
 | .ref _,x,u,n,h,r=>by unfold nr at n;cases n
 | .tup ds,x,u,n,h,r=>by
  unfold nr at n
  obtain⟨p,xs,rfl,hq,hd⟩:=aS.mp h
  cases(show u=Value.ref p from r)
  obtain⟨au,rv,⟨o,ho,hc,m,uj⟩,_⟩:=I.tuple hq
  obtain⟨as,ra⟩:=vQ I ds n hd rv
  unfold toP
  exact⟨_,reads_tuple_at ho hc uj ra⟩
 | .fl ds,x,u,n,h,r=>by
  unfold nr at n
  obtain⟨p,xs,rfl,hq,hd⟩:=iT.mp h
  cases(show u=Value.ref p from r)
  obtain⟨au,rv,pl,_⟩:=I.list hq.sq
  obtain⟨o,ho,hc,m,uj⟩:=pl.isList
  obtain⟨as,ra⟩:=vQ I ds n hd rv
  unfold toP
  exact⟨_,reads_list_at ho hc uj ra⟩
theorem vQ(I:Inv X pins σ H s):∀(ds:List D) {xs:List V} {us:List Value},pA ds=true->aE X.K H ds xs->Vals xs us->∃as,ReadsAll s.heap us (toPs ds) as
 |[],xs,us,_,h,r=>by cases(aq.mp h);cases r;unfold toPs;exact⟨_,ReadsAll.nil⟩
 |d::ds,xs,us,n,h,r=>by
  unfold pA at n
  rw[A2]at n
  obtain⟨x,SJ,rfl,h1,h2⟩:=aj.mp h
  cases r with
  |cons r1 r2=>
   obtain⟨as,a⟩:=RT I d n.1 h1 r1
   obtain⟨bs,b⟩:=vQ I ds n.2 h2 r2
   unfold toPs
   exact⟨_,ReadsAll.cons a b⟩
end
end
def NP(K:PySem.W.Frag)(H:Hp)(x:V)(a:PyData):Prop:=(∃d,nr d=true/\Dat K H d x/\toP d=a)\/∃p ds xs,x=.ref p/\dD K H p xs/\aE K H ds xs/\pA ds=true/\a=.list (toPs ds)
def sS(M:Mem)(d:D):Option PyData:=match d with
 | .ref a=>match M a with
  |some (.lst ds)=>if pA ds=true then some (.list (toPs ds))else none
  |_=>none
 |d=>if nr d=true then some (toP d)else none
theorem jk{K:PySem.W.Frag}{H:Hp}{M:Mem}{d:D}{x:V}{a:PyData}(e:sS M d=some a)(h:Dat K H d x)(hm:RelM K H M):NP K H x a:=by
 cases d with
 |ref p=>
  cases(aF.mp h)
  unfold sS at e
  cases q:M p with
  |none=>simp[q]at e
  |some o=>
   cases o with
   |dG b kvs=>simp[q]at e
   |lst ds=>
    simp only[q]at e
    by_cases n:pA ds=true
    ·rw[J9 n]at e
     cases e
     obtain⟨xs,hx,hd⟩:=hm p _ q
     exact .inr ⟨p,ds,xs,rfl,dD.of hx,hd,n,rfl⟩
    ·rw[K0 n]at e
     cases e
 |bx=>exact .inl ⟨_,rfl,h,by simpa[sS,nr]using e⟩
 |bl _=>exact .inl ⟨_,rfl,h,by simpa[sS,nr]using e⟩
 |int _=>exact .inl ⟨_,rfl,h,by simpa[sS,nr]using e⟩
 |str _=>exact .inl ⟨_,rfl,h,by simpa[sS,nr]using e⟩
 |ty _=>simp[sS,nr]at e
 |tup ds=>
  by_cases n:pA ds=true
  ·exact .inl ⟨.tup ds,by unfold nr;exact n,h,by simpa[sS,nr,n]using e⟩
  ·simp[sS,nr,n]at e
 |fl ds=>
  by_cases n:pA ds=true
  ·exact .inl ⟨.fl ds,by unfold nr;exact n,h,by simpa[sS,nr,n]using e⟩
  ·simp[sS,nr,n]at e
section
variable {X:Cx}
theorem eK{pins:List (Addr×Obj)}{σ:L2.St}{H:Hp}{s:Shared}(I:Inv X pins σ H s){x:V}{u:Value}{a:PyData}(h:NP X.K H x a)(r:RelV x u):∃as,Reads s.heap u a as:=by
 rcases h with⟨d,n,hd,rfl⟩|⟨p,ds,xs,rfl,hq,hd,n,rfl⟩
 ·exact RT I d n hd r
 ·cases(show u=Value.ref p from r)
  obtain⟨au,rv,pl,_⟩:=I.list hq
  obtain⟨o,ho,hc,m,uj⟩:=pl.isList
  obtain⟨as,ra⟩:=vQ I ds n hd rv
  exact⟨_,reads_list_at ho hc uj ra⟩
def Ve(neg:Bool):fX:=λ x y M Q=>∃a b,sS M x=some a/\sS M y=some b/\SeqAt.shaped a=true/\SeqAt.shaped b=true/\Q (.bl (if neg then !PyData.eqv a b else PyData.eqv a b)) M
theorem LI(hu:X.A.units+64 < cLine):fu X (compareOp .Eq) (λ x y H Q=>∃a b,NP X.K H x a/\NP X.K H y b/\SeqAt.shaped a=true/\SeqAt.shaped b=true/\Q (.bl (PyData.eqv a b)) H):=by
 intro pins s σ H x y v u Q I rx ry h
 obtain⟨a,b,ha,hb,sa,sb,q⟩:=h
 obtain⟨as,ra⟩:=eK I ha rx
 obtain⟨bs,rb⟩:=eK I hb ry
 exact eq_dataH ra rb sa sb hu ⟨.bl (PyData.eqv a b),H,I,rfl,q⟩
theorem LB(hu:X.A.units+64 < cLine):fu X (compareOp .NotEq) (λ x y H Q=>∃a b,NP X.K H x a/\NP X.K H y b/\SeqAt.shaped a=true/\SeqAt.shaped b=true/\Q (.bl (!PyData.eqv a b)) H):=by
 intro pins s σ H x y v u Q I rx ry h
 obtain⟨a,b,ha,hb,sa,sb,q⟩:=h
 obtain⟨as,ra⟩:=eK I ha rx
 obtain⟨bs,rb⟩:=eK I hb ry
 exact ne_dataH ra rb sa sb hu ⟨.bl (!PyData.eqv a b),H,I,rfl,q⟩
theorem fF.or {f:Value->Value->Sem Value}{r r':fX}(h:fF X f r)(h':fF X f r'):fF X f (λ x y M Q=>r x y M Q\/r' x y M Q):=by
 obtain⟨a,h1,h2⟩:=h
 obtain⟨b,g1,g2⟩:=h'
 refine⟨_,h1.or g1,λ x y d e H M Q2 Q hd he hm q k=>?_⟩
 rcases q with q|q
 ·exact .inl (h2 x y d e H M Q2 Q hd he hm q k)
 ·exact .inr (g2 x y d e H M Q2 Q hd he hm q k)
def uI(neg:Bool):fX:=λ x y M Q=>Nv neg x y M Q\/Ve neg x y M Q
theorem d_(hu:X.A.units+64 < cLine):fF X (compareOp .Eq) (uI false):=TL.or ⟨_,LI hu,λ x y d e H M Q2 Q hd he hm q k=>by
 obtain⟨a,b,ha,hb,sa,sb,q⟩:=q
 exact⟨a,b,jk ha hd hm,jk hb he hm,sa,sb,k _ H _ M (aW.mpr rfl) hm (av.refl H) q⟩⟩
theorem xX(hu:X.A.units+64 < cLine):fF X (compareOp .NotEq) (uI true):=TC.or ⟨_,LB hu,λ x y d e H M Q2 Q hd he hm q k=>by
 obtain⟨a,b,ha,hb,sa,sb,q⟩:=q
 exact⟨a,b,jk ha hd hm,jk hb he hm,sa,sb,k _ H _ M (aW.mpr rfl) hm (av.refl H) q⟩⟩
def DZ:D->List D->Mem->bL->Prop:=λ x vs M Q=>∃p ds y,x=.ref p/\vs=[y]/\M p=some (.lst ds)/\pA ds=true/\nr y=true/\PyData.canLayAll0 (toPs ds)=true/\(toP y).canLay0=true/\(toP y).depth < 60/\Q (.int (ds.countP λ d=>PyData.eqv (toP d) (toP y):Nat)) M
theorem uN{A:Around}{s:Shared}{v:Value}{y:PyData}{bs:List Addr}(ry:Reads s.heap v y bs)(cy:y.canLay0=true)(hu:A.units+y.depth < cLine):∀{ds:List D} {us:List Value} {as:List Addr},ReadsAll s.heap us (toPs ds) as->PyData.canLayAll0 (toPs ds)=true->
  ∃e:Value->Bool,(∀u∈us,SeqAt.EqAt A s u v (e u))/\us.countP e=ds.countP λ d=>PyData.eqv (toP d) y:=by
 intro ds us as ra cl
 refine⟨λ u=>PyData.eqv (SeqAt.readOf s.heap u) y,λ u Hu=>?_,?_⟩
 ·obtain⟨d,YG,rd,cd,_⟩:=SeqAt.readsAll_mem _ _ _ cl ra u Hu
  have e:=SeqAt.readOf_eq cd rd
  dsimp only
  rw[e]
  exact x6 d y A s u v _ _ rd ry cd cy (by omega)
 ·have e:=SeqAt.readsAll_map _ _ _ cl ra
  have f:∀(us:List Value) (ds:List D),us.map (SeqAt.readOf s.heap)=toPs ds->us.countP (λ u=>PyData.eqv (SeqAt.readOf s.heap u) y)=ds.countP λ d=>PyData.eqv (toP d) y:=by
   intro us
   induction us with
   |nil=>
    intro ds q
    cases ds with
    |nil=>rfl
    |cons d r=>unfold toPs at q;cases q
   |cons u us ih=>
    intro ds q
    cases ds with
    |nil=>unfold toPs at q;cases q
    |cons d r=>
     unfold toPs at q
     rw[D1]at q
     injection q with q1 q2
     rw[x8,x8,ih r q2,q1]
  exact f us ds e
theorem Hc(hu:X.A.units+64 < cLine):Es X "list.count" DZ:=⟨λ x vs H Q=>∃p ds xs d y,x=.ref p/\vs=[y]/\dD X.K H p xs/\aE X.K H ds xs/\Dat X.K H d y/\pA ds=true/\nr d=true/\PyData.canLayAll0 (toPs ds)=true/\(toP d).canLay0=true/\(toP d).depth < 60/\Q (.int (ds.countP λ e=>PyData.eqv (toP e) (toP d):Nat)) H,by
  intro pins s σ H x xs v us Q I rx rv h
  obtain⟨p,ds,zs,d,y,rfl,rfl,hq,hd,hy,n1,n2,c1,c2,dp,q⟩:=h
  cases(show v=Value.ref p from rx)
  obtain⟨u,rfl,ru⟩:=rv.one
  obtain⟨au,rz,pl,_⟩:=I.list hq
  obtain⟨as,ra⟩:=vQ I ds n1 hd rz
  obtain⟨bs,rb⟩:=RT I d n2 hy ru
  obtain⟨e,e1,e2⟩:=uN (A:=X.A.in1) rb c2 (by show X.A.units+1+_ < _;omega) ra c1
  obtain⟨⟨c,dd,da,sl⟩,ho,hc,n,uj⟩:=pl.isList
  cases(show c=.type "list" from hc)
  cases(show da=.seq au.toArray n from uj)
  refine H9 PySem.F.slot_list_count ⟨_,ho,rfl⟩ PySem.F.entry_list_count (PySem.F.args_list_count_2 _ _) (SeqAt.list_countAt p au.toArray n dd sl u e) ⟨ho,λ y hy=>e1 y (by simpa using hy),?_⟩
  rw[show au.toArray.toList=au from rfl,e2]
  exact⟨.int _,H,I.tok _,⟨_,rfl⟩,q⟩,λ x xs d ds H M Q2 Q hx hd hm q k=>by
  obtain⟨p,es,y,rfl,rfl,hM,n1,n2,c1,c2,dp,q⟩:=q
  cases(aF.mp hx)
  obtain⟨v,r,rfl,hv,hr⟩:=aj.mp hd
  cases(aq.mp hr)
  obtain⟨zs,hz,iC⟩:=hm p _ hM
  exact⟨p,es,zs,y,v,rfl,rfl,dD.of hz,iC,hv,n1,n2,c1,c2,dp,k _ H _ M (ax.mpr rfl) hm (av.refl H) q⟩⟩
def yJ:D->List D->Mem->bL->Prop:=λ x vs M Q=>∃p ds y,x=.ref p/\vs=[y]/\M p=some (.lst ds)/\ds.length < sizeLine/\Q .bx (ai M p (.lst (ds++[y])))
theorem bT:Es X "list.append" yJ:=⟨xO,zJ,λ x xs d ds H M Q2 Q hx hd hm q k=>by
 obtain⟨p,es,y,rfl,rfl,hM,hz,q⟩:=q
 cases(aF.mp hx)
 obtain⟨v,r,rfl,hv,hr⟩:=aj.mp hd
 cases(aq.mp hr)
 obtain⟨zs,h1,h2⟩:=hm p _ hM
 have t:=av.lst (o:=.lst (zs++[v])) h1
 refine⟨p,zs,v,rfl,rfl,h1,by rw[h2.length];exact hz,k _ _ .bx _ (dW.mpr rfl) (hm.put (u:=.lst (es++[y])) t ⟨_,bB,?_⟩) t q⟩
 exact(aE.mono t es h2).append (aE.one (Dat.mono t y hv))⟩
theorem cY{K:PySem.W.Frag}{H:Hp}:∀{ns:List Int} {xs:List V},aE K H (ns.map D.int) xs->xs=ns.map V.int
 |[],xs,h=>by rw[map_nil,aq]at h;exact h
 |b::bs,xs,h=>by
  rw[D1,aj]at h
  obtain⟨x,r,rfl,a,q⟩:=h
  rw[ax]at a
  rw[a,cY q]
  rfl
def Np:List D->Mem->bL->Prop:=λ xs M Q=>∃(x:D) (ds:List D) (ns:List Int),xs=[x]/\cT M x=some ds/\ds=ns.map D.int/\Q (.int ns.sum) M
theorem Eg(hc:X.calm=true):df X (.builtin "sum") Np:=⟨_,oO hc,λ xs ds H M Q2 Q hd hm q k=>by
 obtain⟨x,es,ns,rfl,e,rfl,q⟩:=q
 obtain⟨v,r,rfl,hv,hr⟩:=aj.mp hd
 cases(aq.mp hr)
 obtain⟨p,ys,rfl,h,hy⟩:=gW e hv hm
 rw[cY hy]at h
 rcases h with h|h
 ·exact⟨false,p,ns,rfl,h,k _ H _ M (ax.mpr rfl) hm (av.refl H) q⟩
 ·exact⟨true,p,ns,rfl,h,k _ H _ M (ax.mpr rfl) hm (av.refl H) q⟩⟩
def Q1:List D->Mem->bL->Prop:=λ xs M Q=>∃i j,xs=[.int i,.int j]/\Q (.int (if j < i then j else i)) M
theorem Eh(hc:X.calm=true):df X (.builtin "min") Q1:=⟨_,Ai hc,λ xs ds H M Q2 Q hd hm q k=>by
 obtain⟨i,j,rfl,q⟩:=q
 obtain⟨v,r,rfl,hv,hr⟩:=aj.mp hd
 obtain⟨v2,r2,rfl,W7,Hz⟩:=aj.mp hr
 cases(aq.mp Hz)
 cases(ax.mp hv)
 cases(ax.mp W7)
 exact⟨i,j,rfl,k _ H _ M (ax.mpr rfl) hm (av.refl H) q⟩⟩
def Q0:fX:=λ x y M Q=>∃ds k,x=.tup ds/\y=.int k/\ds≠[]/\-(2^63)<=k/\k < 2^63/\ds.length*k.toNat<=sizeLine/\Q (.tup (List.replicate k.toNat ds).flatten) M
theorem nS{K:PySem.W.Frag}{H:Hp}{ds:List D}{xs:List V}(h:aE K H ds xs):∀k:Nat,aE K H (List.replicate k ds).flatten (List.replicate k xs).flatten
 |0=>by simp[aq]
 |k+1=>by rw[n9,n9,u7,u7];exact h.append (nS h k)
def yI:fX:=λ x y M Q=>HU x y M Q\/Q0 x y M Q
theorem LX:fF X (binaryOp .Mult) yI:=Po.or ⟨_,GD,λ x y d e H M Q2 Q hd he hm q k=>by
 obtain⟨ds,n,rfl,rfl,gL,h1,h2,hz,q⟩:=q
 obtain⟨p,xs,rfl,hq,hx⟩:=aS.mp hd
 cases(ax.mp he)
 refine⟨p,n,xs,rfl,rfl,hq,λ z=>?_,h1,h2,by rw[hx.length];exact hz,λ e1=>?_,λ _ l hl=>?_⟩
 ·have:=hx.length
  rw[z]at this
  exact gL (j7.mp this.symm)
 ·subst e1
  rw[show(1:Int).toNat=1 from rfl,show(List.replicate 1 ds).flatten=ds by simp]at q
  exact k _ H _ M (aS.mpr ⟨p,xs,rfl,hq,hx⟩) hm (av.refl H) q
 ·exact k _ _ (.tup _) M (gh hl (nS hx _)) (hm.laid hl) (av.laid hl) q⟩
end
end L3
namespace L2
open PySem PySem.Spec PyProof.Rows L5
section
variable {X:Cx}{e:Expr}{te:TE}{p pos fp kp:Pos}{f:Str}{k:Nat}{ps:List Str}{sp:Sp}
def vR(K:PySem.W.Frag)(sp:Sp)(x:V)(H:Hp)(Q:VK):Prop:=∃(l:Addr) (ys:List V) (b:Bool) (R:List V->Hp->Prop) (key:Nat->Ky),x=.ref l/\dD K H l ys/\ys.length < 1000000/\R [] H/\
 (∀kvs H v,R kvs H->ys[kvs.length]?=some v->sp [v] H (λ k H'=>R (kvs++[k]) H') E0)/\
 ∀kvs H,R kvs H->kvs.length=ys.length->(∀i k,kvs[i]?=some k->jO K b H k (key i))/\∀p out,H p=none->Out (λ i j=>klt (key i) (key j)) ys V.bx out->Q (.ref p) (upd H p (.lst out))
theorem vX(d:bF X.prog X.w X.K X.mg X.base k f ps sp)(hr:cJ (k+2) X.A)(hg:Gl X "sorted")(hm:X.mg "sorted"=none)(DF:Gl X f)(he:PE X e te)(ui:(f==("__debug__":Str))=false:=by decide)
  (hs:starEach [e] X.env=[(false,eval e X.env)]:=by rfl) (km:backTo pos (starEach [e] X.env)=(false,eval e X.env)::backTo pos (starEach [] X.env):=by rfl) (hZ:(backTo pos (starEach [e] X.env)).any (·.1)=false:=by rfl):PE X (.Call (.Name "sorted" p) [e] [⟨some "key",.Name f fp,kp⟩] pos) (λ σ H Q=>te σ H λ x H1=>vR X.K sp x H1 Q):=by
 intro pins s σ H Q I h
 obtain⟨q,fd,G,Ut,kp,bd⟩:=d.ex
 refine r9 (fA I hg hm PyProof.Rows.boot_sorted ?_ (by decide) (by decide))
 refine PyProof.Rows.callWith_kw (cV ((gq he iR (by rw[hs];rfl)) pos pins s σ H (λ vs H1=>match vs with|[x]=>vR X.K sp x H1 Q|_=>False) I h) λ us s1 ⟨vs,H1,I1,r1,q1⟩=>?_) km hZ
 cases vs with
 |nil=>exact q1.elim
 |cons x vs=>
  cases vs with
  |cons _ _=>exact q1.elim
  |nil=>
  have q1:vR X.K sp x H1 Q:=q1
  refine cV ((xS (Gx (v:=.ref q) DF Ut rfl ui) Ca) pos pins s1 σ H1 (λ vs H2=>vs=[.ref q]/\H2=H1) I1 ⟨rfl,rfl⟩) λ ws s2 ⟨zs,H2,I2,rz,e2,e3⟩=>?_
  subst e2 e3
  obtain⟨u,rfl,ru⟩:=vals1 r1
  obtain⟨v,rfl,rv⟩:=vals1 rz
  obtain⟨l,ys,b,R,key,rfl,hl,yu,h0,hc,hk⟩:=q1
  cases(show u=Value.ref l from ru)
  cases(show v=Value.ref q from rv)
  exact rG G bd hr I2 hl yu R key h0 hc hk
end
end L2
namespace L3
open PySem PySem.Spec L2 L5
def Au(b:Bool)(M:Mem)(k:D)(c:Ky):Prop:=match b with
 |true=>k=.tup [.int c.1,.tup (c.2.map D.int)]
 |false=>∃m,k=.tup [.int c.1,.ref m]/\M m=some (.lst (c.2.map D.int))
theorem Au.v {K:PySem.W.Frag}{H:Hp}{M:Mem}{b:Bool}{k:D}{c:Ky}{v:V}(h:Au b M k c)(r:Dat K H k v)(hm:RelM K H M):jO K b H v c:=by
 cases b with
 |true=>
  cases(show k=_ from h)
  obtain⟨p,xs,rfl,hq,hd⟩:=aS.mp r
  obtain⟨x1,r1,rfl,h1,hd⟩:=aj.mp hd
  obtain⟨x2,r2,rfl,h2,hd⟩:=aj.mp hd
  cases(aq.mp hd)
  cases(ax.mp h1)
  obtain⟨p2,ys,rfl,vh,hd2⟩:=aS.mp h2
  rw[cY hd2]at vh
  exact⟨p,p2,rfl,hq,vh⟩
 |false=>
  obtain⟨m,rfl,hM⟩:=h
  obtain⟨p,xs,rfl,hq,hd⟩:=aS.mp r
  obtain⟨x1,r1,rfl,h1,hd⟩:=aj.mp hd
  obtain⟨x2,r2,rfl,h2,hd⟩:=aj.mp hd
  cases(aq.mp hd)
  cases(ax.mp h1)
  cases(aF.mp h2)
  obtain⟨ys,hy,hd2⟩:=hm m _ hM
  rw[cY hd2]at hy
  exact⟨p,m,rfl,hq,dD.of hy⟩
theorem kr{K:PySem.W.Frag}{H:Hp}{ds:List D}{xs:List V}(h:aE K H ds xs):∀p:List Nat,aE K H (p.map λ i=>ds.getD i D.bx) (p.map λ i=>xs.getD i V.bx)
 |[]=>by simp[aq]
 |i::p=>by
  rw[D1,D1,aj]
  refine⟨_,_,rfl,?_,kr h p⟩
  cases e:ds[i]? with
  |none=>
   have e2:xs[i]?=none:=by
    have:=h.length
    have:=i7.mp e
    exact l9 (by omega)
   rw[g9,g9,e,e2]
   exact dW.mpr rfl
  |some d=>
   obtain⟨x,e2,hx⟩:=h.get e
   rw[g9,g9,e,e2]
   exact hx
def wR(sp:fe)(d:D)(M:Mem)(Q:bL):Prop:=∃(l:Addr) (es:List D) (b:Bool) (R:List D->Mem->Prop) (key:Nat->Ky),d=.ref l/\M l=some (.lst es)/\es.length < 1000000/\R [] M/\
 (∀dC M e,R dC M->es[dC.length]?=some e->sp [e] M (λ k M'=>R (dC++[k]) M'))/\
 ∀dC M,R dC M->dC.length=es.length->(∀i k,dC[i]?=some k->Au b M k (key i))/\∀p out,M p=none->Out (λ i j=>klt (key i) (key j)) es D.bx out->Q (.ref p) (ai M p (.lst out))
def vK(sp:fe)(te:bX):bX:=λ δ M Q=>te δ M λ d M1=>wR sp d M1 Q
section
variable {X:Cx}{e:Expr}{te:bX}{p pos fp kp:Pos}{f:Str}{k:Nat}{ps:List Str}{sp:fe}
theorem zw(d:bC X.prog X.w X.K X.mg X.base k f ps sp)(hr:cJ (k+2) X.A)(hg:Gl X "sorted")(hm:X.mg "sorted"=none)(DF:Gl X f)(he:QE X e te)(ui:(f==("__debug__":Str))=false:=by decide)
  (hs:starEach [e] X.env=[(false,eval e X.env)]:=by rfl) (km:backTo pos (starEach [e] X.env)=(false,eval e X.env)::backTo pos (starEach [] X.env):=by rfl) (hZ:(backTo pos (starEach [e] X.env)).any (·.1)=false:=by rfl):QE X (.Call (.Name "sorted" p) [e] [⟨some "key",.Name f fp,kp⟩] pos) (vK sp te):=by
 refine bS (vX d hr hg hm DF he ui hs km hZ) ?_
 rintro σ H Q ⟨δ,M,Q2,hs,hm,q,k⟩
 refine⟨δ,M,_,hs,hm,q,λ x H1 d M1 hd bW t1 q1=>?_⟩
 obtain⟨l,es,b,R,key,rfl,hM,yu,h0,hc,hk⟩:=q1
 cases(aF.mp hd)
 obtain⟨ys,hy,Oa⟩:=bW l _ hM
 have hlen:=Oa.length
 refine⟨l,ys,b,λ kvs H'=>∃dC M',aE X.K H' dC kvs/\RelM X.K H' M'/\av H1 H'/\R dC M',key,rfl,dD.of hy,by omega,⟨[],M1,by rw[aq],bW,av.refl _,h0⟩,?_,?_⟩
 ·rintro kvs H2 v ⟨dC,M2,h1,h2,t2,hR⟩ hv
  have MN:=h1.length
  obtain⟨e,e1,e2⟩:=(aE.mono t2 es Oa).nM hv
  refine⟨[e],M2,_,aE.one e2,h2,hc dC M2 e hR (by rw[<- MN];exact e1),λ w H3 d3 M3 HF DA t3 q3=>?_⟩
  exact⟨dC++[d3],M3,(aE.mono t3 dC h1).append (aE.one HF),DA,t2.trans t3,q3⟩
 ·rintro kvs H2 ⟨dC,M2,h1,h2,t2,hR⟩ hl
  have MN:=h1.length
  obtain⟨a1,a2⟩:=hk dC M2 hR (by omega)
  refine⟨λ i w hw=>?_,λ p out hp ho=>?_⟩
  ·obtain⟨d3,e3,HF⟩:=h1.nM hw
   exact(a1 i d3 e3).v HF h2
  ·obtain⟨π,p1,p2,rfl⟩:=ho
   rw[hlen]at p1 p2
   refine k _ _ (.ref p) _ (aF.mpr rfl) (dv hp (kr (aE.mono t2 es Oa) π.toList) h2) (t1.trans (t2.trans (av.laid hp))) (a2 p _ (h2.free hp) ⟨π,p1,p2,rfl⟩)
end
theorem Fn{sp:fe}{te:bX}{δ:de}{M:Mem}{Q:bL}(h:te δ M λ d M1=>wR sp d M1 Q):vK sp te δ M Q:=h
end L3
namespace L4
open PySem PySem.Spec L2 L3 L5
section
variable {X:Cx}{e:Expr}{te:bX}{p pos fp kp:Pos}{f:Str}{k:Nat}{ps:List Str}{sp:fe}
theorem zf(d:bC X.prog X.w X.K X.mg X.base k f ps sp)(hr:cJ (k+2) X.A)(hg:Gl X "sorted")(hm:X.mg "sorted"=none)(DF:Gl X f)(he:WE X e te)(ui:(f==("__debug__":Str))=false:=by decide)
  (hs:starEach [e] X.env=[(false,eval e X.env)]:=by rfl) (km:backTo pos (starEach [e] X.env)=(false,eval e X.env)::backTo pos (starEach [] X.env):=by rfl) (hZ:(backTo pos (starEach [e] X.env)).any (·.1)=false:=by rfl):WE X (.Call (.Name "sorted" p) [e] [⟨some "key",.Name f fp,kp⟩] pos) (vK sp te):=⟨zw d hr hg hm DF he.h ui hs km hZ⟩
end
end L4
namespace L3
open PySem PySem.Spec L2 L5
section
variable {M:Mem}{Q:bL}
theorem FH{i j:Int}(q:Q (.bl (decide (i=j))) M):uI false (.int i) (.int j) M Q:=.inl (Kx q)
theorem FI{i j:Bool}(q:Q (.bl (decide (i=j))) M):uI false (.bl i) (.bl j) M Q:=.inl (Kz q)
theorem FG{i j:Str}(q:Q (.bl (decide (i=j))) M):uI false (.str i) (.str j) M Q:=.inl (Kw q)
theorem Fu{i j:Bool}(q:Q (.bl (!decide (i=j))) M):uI true (.bl i) (.bl j) M Q:=.inl (Km q)
theorem By{i j:Int}(h:rV i j)(q:Q (.int (i*j)) M):yI (.int i) (.int j) M Q:=.inl (Fw h q)
theorem Bx{i:Str}{j:Int}(h:MulOk i j)(q:Q (.str (Txt.mul i j)) M):yI (.str i) (.int j) M Q:=.inl (Fv h q)
theorem Ko{i j:Int}(q:Q (.int (if j < i then j else i)) M):Q1 [.int i,.int j] M Q:=⟨i,j,rfl,q⟩
theorem Fj{ns:List Int}(q:Q (.int ns.sum) M):Np [.tup (ns.map D.int)] M Q:=⟨_,_,ns,rfl,rfl,rfl,q⟩
theorem cW{p:Addr}{ds:List D}{y:D}(h:M p=some (.lst ds))(hz:ds.length < sizeLine)(q:Q .bx (ai M p (.lst (ds++[y])))):yJ (.ref p) [y] M Q:=⟨p,ds,y,rfl,rfl,h,hz,q⟩
abbrev row(ns:List Int):D:=.tup (ns.map D.int)
theorem toPs_ints:∀ns:List Int,toPs (ns.map D.int)=ns.map PyData.int
 |[]=>rfl
 |n::ns=>by rw[D1];unfold toPs;rw[toPs_ints ns];unfold toP;rfl
theorem toP_row(ns:List Int):toP (row ns)=.tuple (ns.map PyData.int):=by unfold row toP;rw[toPs_ints]
theorem jr:∀ns:List Int,pA (ns.map D.int)=true
 |[]=>rfl
 |n::ns=>by rw[D1];unfold pA;rw[jr ns];rfl
theorem L0(ns:List Int):nr (row ns)=true:=by unfold row nr;exact jr ns
theorem HJ(ns ms:List Int):PyData.eqv (toP (row ns)) (toP (row ms))=decide (ns=ms):=by
 rw[toP_row,toP_row]
 simp only[PyData.eqv]
 exact PySem.W.ked_eqvAll ns ms
theorem Hl(ns:List Int):(toP (row ns)).canLay0=true:=by rw[toP_row];simp[PyData.canLay0,PySem.W.ke_canLayAll0]
theorem HQ(ns:List Int):(toP (row ns)).depth=1:=by rw[toP_row];simp[PyData.depth,PySem.W.ke_depthAll]
theorem nq:∀rs:List (List Int),pA (rs.map row)=true
 |[]=>rfl
 |r::rs=>by rw[D1];unfold pA;rw[L0,nq rs];rfl
theorem kY:∀rs:List (List Int),PyData.canLayAll0 (toPs (rs.map row))=true
 |[]=>rfl
 |r::rs=>by rw[D1];unfold toPs;rw[PyData.canLayAll0,Hl,kY rs];rfl
theorem k_:∀rs:List (List Int),PyData.depthAll (toPs (rs.map row))<=1
 |[]=>by simp[toPs,PyData.depthAll]
 |r::rs=>by
  rw[D1];unfold toPs;rw[PyData.depthAll,HQ]
  have:=k_ rs
  omega
theorem kR(rs:List (List Int)):SeqAt.shaped (.list (toPs (rs.map row)))=true:=by
 unfold SeqAt.shaped
 rw[show(PyData.list (toPs (rs.map row))).canLay0=true by simpa[PyData.canLay0]using kY rs,Bool.true_and]
 refine C1 ?_
 have:=k_ rs
 simp only[PyData.depth]
 omega
theorem uw:∀rs qs:List (List Int),PyData.eqvAll (toPs (rs.map row)) (toPs (qs.map row))=decide (rs=qs)
 |[],[]=>rfl
 |[],q::qs=>by rw[D1];simp[toPs,PyData.eqvAll]
 |r::rs,[]=>by rw[D1];simp[toPs,PyData.eqvAll]
 |r::rs,q::qs=>by
  rw[D1,D1]
  unfold toPs
  rw[PyData.eqvAll,HJ,uw rs qs]
  by_cases h:r=q <;> by_cases h':rs=qs <;> simp[h,h']
theorem xI(neg:Bool){a b:Addr}{rs qs:List (List Int)}(ha:M a=some (.lst (rs.map row)))(hb:M b=some (.lst (qs.map row)))(q:Q (.bl (if neg then !decide (rs=qs)else decide (rs=qs))) M):uI neg (.ref a) (.ref b) M Q:=by
 refine .inr ⟨_,_,?_,?_,kR rs,kR qs,?_⟩
 ·unfold sS;simp only[ha];rw[J9 (nq rs)]
 ·unfold sS;simp only[hb];rw[J9 (nq qs)]
 ·rw[show PyData.eqv (.list (toPs (rs.map row))) (.list (toPs (qs.map row)))=decide (rs=qs) by simp only[PyData.eqv];exact uw rs qs]
  exact q
theorem Fg{i j:Nat}{a b:D}{δ:de}{N:de->Mem->Prop}(h:N ((δ.set i (some a)).set j (some b)) M):wF 2 (fQ (hName i) (fQ (hName j) wG)) (.tup [a,b]) δ M N:=⟨rfl,h⟩
theorem BC{A B:Prop}(h:B):if(!true)=true then A else B:=by rw[Bool.not_true,K0 p5];exact h
theorem BD{A B:Prop}(h:A):if(!false)=true then A else B:=by rw[Bool.not_false,J9 rfl];exact h
theorem gY{c:eO}{tb:jM}{E:jP}{δ:de}(h:∃W:Nat->de->Mem->Prop,(∃m,W m δ M)/\∀m δ M,W m δ M->c δ M λ b M1=>
  if b=true then ∃N:de->Mem->Prop,(∀δ' M',N δ' M'->∃m',m' < m/\W m' δ' M')/\tb {E with nx:=N,ct:=N,bk:=E.nx} δ M1 else E.nx δ M1):vJ c tb E δ M:=h
theorem jJ{g:gA}{tt:eO}{te:bX}{δc:de}{M1:Mem}{Qe:List D->Mem->Prop}{a:Addr}{ds:List D}(Pv:Nat->List D->Mem->Prop)(h0:Pv 0 [] M1)(hl:∀i acc M,i<=ds.length->Pv i acc M->M a=some (.lst ds))(hz:∀i acc M,i<=ds.length->Pv i acc M->acc.length<=sizeLine)
  (hs:∀i d acc M,ds[i]?=some d->Pv i acc M->g d δc M λ δ2 M2=>tt δ2 M2 λ b M3=>if b=true then te δ2 M3 λ y M4=>Pv (i+1) (acc++[y]) M4 else Pv (i+1) acc M3)
  (hd:∀acc M,Pv ds.length acc M->Qe acc M):
  ∃(B:Nat) (W:Nat->List D->Mem->Prop),W 0 [] M1/\∀i acc M,W i acc M->i<=B/\acc.length<=sizeLine/\match items (.at a) M with
   |none=>False
   |some ds=>match ds[i]? with
    |none=>i=ds.length/\Qe acc M
    |some d=>g d δc M λ δ2 M2=>tt δ2 M2 λ b M3=>if b=true then te δ2 M3 λ y M4=>W (i+1) (acc++[y]) M4 else W (i+1) acc M3:=by
 refine⟨ds.length,λ i acc M=>if i<=ds.length then Pv i acc M else False,by dsimp only;rw[J9 (G5 _)];exact h0,?_⟩
 intro i acc M w
 by_cases hi:i<=ds.length
 ·rw[J9 hi]at w
  refine⟨hi,hz i acc M hi w,?_⟩
  have e0:items (.at a) M=some ds:=by
   show(match M a with|some (.lst ds)=>some ds|_=>none)=some ds
   rw[hl i acc M hi w]
  rw[e0]
  show(match ds[i]? with
    |none=>i=ds.length/\Qe acc M
    |some d=>g d δc M λ δ2 M2=>tt δ2 M2 λ b M3=>if b=true then te δ2 M3 λ y M4=>(if i+1<=ds.length then Pv (i+1) (acc++[y]) M4 else False)else(if i+1<=ds.length then Pv (i+1) acc M3 else False))
  cases e:ds[i]? with
  |none=>
   have:i=ds.length:=C0 hi (i7.mp e)
   subst this
   exact⟨rfl,hd acc M w⟩
  |some d=>
   have fO:i+1<=ds.length:=(i6.mp e).1
   simp only[J9 fO]
   exact hs i d acc M e w
 ·rw[K0 hi]at w
  exact w.elim
theorem zt{a:Addr}{ns:List Int}{i:Int}(ha:M a=some (.lst (ns.map D.int)))(q:Q (.int (ns.count i:Nat)) M):DZ (.ref a) [.int i] M Q:=by
 refine⟨a,_,_,rfl,rfl,ha,jr ns,rfl,by rw[toPs_ints];exact PySem.W.ke_canLayAll0 ns,by simp[toP,PyData.canLay0],by simp[toP,PyData.depth],?_⟩
 have e:(ns.map D.int).countP (λ d=>PyData.eqv (toP d) (toP (.int i)))=ns.count i:=by
  rw[countP_map,count_eq_countP]
  refine countP_congr λ x _=>?_
  show PyData.eqv (toP (.int x)) (toP (.int i))=true↔_
  simp[toP,PyData.eqv]
 rw[e]
 exact q
end
end L3
namespace L5
open PySem
theorem qJ:typeLookup (.type "list") "keys"=pure none:=by rw[typeLookup_type,builtinLookup_eq_fast];kernel_rfl
theorem GX{prog:Program}{w:World}{A:Around}{E:Value->Shared->Prop}{s:Shared}{a:Addr}{xs:Array Value}{k:Nat}{sl:Array (Option Value)}{Q:Option Value->Shared->Prop}(hx:s.heap.get? a=some {cls:=.type "list",dict:=none,data:=.seq xs k,slots:=sl})(hA:A.handled=none)
  (h:∀h' tk,(∀b o,s.heap.get? b=some o->h'.get? b=some o)->Q none {s with heap:=h',toks:=tk}):wpAny (model prog w) A (getAttr? (.ref a) "keys") Q E s:=by
 obtain⟨hp,g,d,tk,os⟩:=s
 have ty:∀Ir,(⟨hp,g,d,Ir,os⟩:Shared).TypeIs (.ref a) "list":=λ _=>⟨_,hx,rfl⟩
 have f1:=sub_AttributeError
 have f3:=F.slot_list_getattribute.lookup
 have f4:=F.slot_list_getattribute.bind (.ref a)
 have f5:=am_list_getattr_none
 unfold getAttr? getAttrBy? getAttrBy
 repeat(any_goals (first|assumption|exact ty _|((with_reducible show wpAny _ _ (call (Value.builtin "list.__getattribute__") _ _) _ _ _);refine H9 F.slot_list_getattribute (ty _) am_entry_list_getattribute (F.args_list_getattribute_2 _ _) (meets_getattribute_miss_list a xs k sl _ _ qJ (by decide+kernel) (by decide+kernel)) ⟨hx,hA,λ h' Ir e IY=>?_⟩)|wp_step))
 obtain⟨t',u',he⟩:=IY.there
 show wpAny _ _ (getattributeRaised _ _ _ _ _ _ _) _ _ _
 unfold getattributeRaised
 repeat(any_goals (first|assumption|wp_step))
 exact h _ _ IY.keeps
end L5
namespace L5
open PySem
theorem uA:entryFor table "dict.update.loop"=some Builtin.«dict.update.loop»:=entryFor_of_tree (by kernel_rfl)
theorem mh:plainId "dict.update.loop"=true:=by decide+kernel
section
variable {prog:Program}{w:World}{A:Around}{R:Result->Shared->Prop}
abbrev TK(prog:Program)(w:World):HeapKind prog w (List L2.Key):=tupleKind (L2.cx prog w)
abbrev Ent:=List L2.Key×Addr×Value
theorem vD{h:Heap}{k:List L2.Key}{a:Addr}(x:(TK prog w).is h k a):∃o,h.get? a=some o/\o.cls=.type "tuple":=let⟨o,au,n,h1,h2,h3,h4⟩:=x;⟨o,h1,h2⟩
theorem qd{h h':Heap}{k:List L2.Key}{a:Addr}(x:(TK prog w).is h k a)(q:∀o,h.get? a=some o->h'.get? a=some o):(TK prog w).is h' k a:=let⟨o,au,n,h1,h2,h3,h4⟩:=x;⟨o,au,n,q o h1,h2,h3,h4⟩
structure kG(prog:Program)(w:World)(h:Heap)(u:Value)(p:Ent):Prop where
 ex:∃t,u=.ref t/\h.IsTuple t #[.ref p.2.1,p.2.2]
 key:(TK prog w).is h p.1 p.2.1
def n_(h h':Heap):Prop:=∀b o,o.cls=.type "tuple"->h.get? b=some o->h'.get? b=some o
theorem kG.lC {h h':Heap}{u:Value}{p:Ent}(x:kG prog w h u p)(q:n_ h h'):kG prog w h' u p:=by
 obtain⟨⟨t,rfl,o,ho,hc,n,hd⟩,key⟩:=x
 obtain⟨oa,h1,h2⟩:=vD key
 exact⟨⟨t,rfl,o,q t o hc ho,hc,n,hd⟩,qd key λ o' e=>by rw[h1]at e;cases e;exact q _ _ h2 h1⟩
def putAll(xs:List Ent)(ps:List Ent):List Ent:=ps.foldl (λ xs p=>storedH xs p.1 p.2.1 p.2.2) xs
theorem kM(xs:List Ent)(p:Ent):(storedH xs p.1 p.2.1 p.2.2).length<=xs.length+1:=by
 unfold storedH
 split
 ·simp
 ·simp
theorem v_(hu:A.in1.units < cLine)(hA:A.handled=none)(d it l:Addr)(UC:d≠it)(Xt:l≠it)(Xu:l≠d)(au:List Value)(ps:List Ent)(hlen:au.length=ps.length)(Qg:ps.length<=1000):
  ∀(k i:Nat) (s:Shared) (xs:List Ent),ps.length - i=k->i<=ps.length->xs.length<=i->s.heap.IsListIter it l i->s.heap.IsList l au.toArray->s.heap.DictOfH (TK prog w) d xs->
   (∀(j:Nat) (u:Value) (p:Ent),au[j]?=some u->ps[j]?=some p->kG prog w s.heap u p)->
   (∀h' tk,(∀b o,b≠d->b≠it->s.heap.get? b=some o->h'.get? b=some o)->h'.DictOfH (TK prog w) d (putAll xs (ps.drop i))->R (.ok (.ret .none)) {s with heap:=h',toks:=tk})->
   codeAny (model prog w) A (.builtin "dict.update.loop" ⟨[.ref d,.ref it,rawInt i,.none],[]⟩) R s:=by
 intro k
 induction k with
 |zero=>
  intro i s xs hk hi PV hit hl hd hp hR
  have e:i=ps.length:=by omega
  subst e
  refine B5 uA ?_
  rw[m9 mh _]
  refine G8 (m:=pyNext (.ref it)) (wpAny_pyNext_list_end (show A.in1.handled=none from hA) hit hl (by simp;omega) λ h' eb=>?_)
  refine G8 (m:=Builtin.Dict.addKeywords d []) (G9 (G9 ?_))
  refine hR h' s.toks (λ b o _ n2 q=>eb b o n2 q) ?_
  rw[drop_length]
  obtain⟨o,es,ep,ho,r1,r2,r3,r4,r5⟩:=hd
  refine⟨o,es,ep,eb d o UC ho,r1,r2,r3,λ x hx=>?_,r5⟩
  obtain⟨oa,h1,h2⟩:=vD (r4 x hx)
  refine qd (r4 x hx) λ o' e=>eb _ _ (λ z=>?_) e
  rw[z]at h1
  obtain⟨oi,g1,g2,_⟩:=hit
  rw[g1]at h1
  cases h1
  rw[g2]at h2
  exact absurd h2 (by decide)
 |succ k ih=>
  intro i s xs hk hi PV hit hl hd hp hR
  have fO:i < ps.length:=by omega
  have e1:au[i]?=some au[i]:=i9 (by omega)
  have e2:ps[i]?=some ps[i]:=i9 fO
  refine B5 uA ?_
  rw[m9 mh _]
  refine G8 (m:=pyNext (.ref it)) (wpAny_pyNext_list_item hit hl (x:=au[i]) (by simpa using e1) λ g1 WR s1=>?_)
  have SO:n_ s.heap g1:=λ b o hc e=>s1.extBut _ _ (λ z=>by
   rw[z]at e
   obtain⟨oi,q1,q2,_⟩:=hit
   rw[q1]at e
   cases e
   rw[hc]at q2
   exact absurd q2 (by decide)) e
  obtain⟨⟨t,et,⟨ct,dt,da,st⟩,ho,hc,n,uj⟩,key⟩:=(hp i _ _ e1 e2).lC SO
  cases(show ct=.type "tuple" from hc)
  cases(show da=_ from uj)
  have Sl:g1.IsList l au.toArray:=hl.at λ o e=>s1.extBut _ _ Xt e
  have VY:g1.DictOfH (TK prog w) d xs:=by
   obtain⟨o,es,ep,ho,r1,r2,r3,r4,r5⟩:=hd
   refine⟨o,es,ep,s1.extBut _ _ UC ho,r1,r2,r3,λ x hx=>?_,r5⟩
   obtain⟨oa,h1,h2⟩:=vD (r4 x hx)
   exact qd (r4 x hx) λ o' e=>by rw[h1]at e;cases e;exact SO _ _ h2 h1
  rw[et]
  refine G8 (C5 (G8 (C4 ?_)))
  unfold Builtin.Dict.pairItems
  refine G8 (wpAny_typeOf (T:="tuple") ⟨_,ho,rfl⟩ ?_)
  rw[J9 (by decide)]
  refine G8 (C2 ho rfl (G9 ?_))
  show wpAny _ A.in1 (holding [Value.ref ps[i].2.1,ps[i].2.2] (dictSet d (.ref ps[i].2.1) ps[i].2.2)) _ _ _
  refine C5 (wpAny_dictSet_heap (s:={s with heap:=g1}) (knd:=TK prog w) hu key VY (λ g2 d2 s2=>?_) (E8 (show xs.length<=1000 by omega) (by decide)))
  refine G9 ⟨D4 mh _,?_⟩
  have od:∃o,g1.get? d=some o/\o.cls=.type "dict":=by
   obtain⟨o,es,ep,ho,r1,_⟩:=VY
   exact⟨o,ho,r1.1⟩
  have Wr:n_ g1 g2:=λ b o hc e=>s2.extBut _ _ (λ z=>by
   rw[z]at e
   obtain⟨oi,q1,q2⟩:=od
   rw[q1]at e
   cases e
   rw[hc]at q2
   exact absurd q2 (by decide)) e
  have XF:((i:Int)+1)=((i+1:Nat):Int):=by push_cast;rfl
  show codeAny (model prog w) A (.builtin "dict.update.loop" ⟨[.ref d,.ref it,rawInt ((i:Int)+1),.none],[]⟩) R _
  rw[XF]
  refine ih (i+1) _ (storedH xs ps[i].1 ps[i].2.1 ps[i].2.2) (by omega) fO ?_ (WR.at λ o e=>s2.extBut _ _ (J8 UC) e) (Sl.at λ o e=>s2.extBut _ _ Xu e) d2 (λ j u p h1 h2=>((hp j u p h1 h2).lC SO).lC Wr) λ h' tk ou iC=>?_
  ·have:=kM xs ps[i]
   omega
  ·refine hR h' tk (λ b o n1 n2 e=>ou b o n1 n2 (s2.extBut _ _ n1 (s1.extBut _ _ n2 e))) ?_
   rw[i5 fO]
   exact iC
end
end L5
namespace L5
open PySem PySem.W PySem.Calls PyProof.Rows
section
variable {prog:Program}{w:World}{A:Around}{E:Value->Shared->Prop}{s:Shared}
theorem G'{l:Addr}{au:List Value}{ps:List Ent}{Q:Value->Shared->Prop}(hu:A.units+2 < cLine)(hA:A.handled=none)(hl:s.heap.IsList l au.toArray)(hpl:∃o,s.heap.get? l=some o/\o.dict=none)(hlen:au.length=ps.length)(Qg:ps.length<=1000)
  (hp:∀(j:Nat) (u:Value) (p:Ent),au[j]?=some u->ps[j]?=some p->kG prog w s.heap u p)
  (h:∀h' tk,(∀b o,s.heap.get? b=some o->h'.get? b=some o)->h'.DictOfH (TK prog w) s.heap.objs.size (putAll [] ps)->s.heap.objs.size < h'.objs.size->Q (.ref s.heap.objs.size) {s with heap:=h',toks:=tk}):
  wpAny (model prog w) A (call (.type "dict") [.ref l]) Q E s:=by
 refine callType_codes (Q₁:=λ obj s₁=>obj=.ref s.heap.objs.size/\s₁={s with heap:=s.heap.push {cls:=.type "dict",data:=.dict #[]}}) F.kt_called_dict (F.kt_typeCall_dict_1 _) F.entry_dict_init (kt_code_dict_new _ ⟨rfl,rfl⟩) ?_
 rintro obj s1 ⟨rfl,rfl⟩
 have new:(s.heap.push {cls:=.type "dict",data:=.dict #[]}).DictOfH (TK prog w) s.heap.objs.size []:=Heap.DictOfH.new s.heap
 refine⟨new.typeIs,F.args_dict_init_2 _ _,?_⟩
 unfold Builtin.«dict.__init__»
 refine G8 ?_
 unfold Builtin.Dict.selfAndRest
 refine G8 (wpAny_notOrdered_dict new.typeIs ?_)
 refine G9 (a:=(s.heap.objs.size,[Value.ref l])) ?_
 obtain⟨ob,VP,XD⟩:=hpl
 obtain⟨⟨c,dd,da,sl⟩,ho,hc,n,uj⟩:=id hl
 rw[ho]at VP
 cases VP
 cases(show c=.type "list" from hc)
 cases(show da=.seq au.toArray n from uj)
 cases(show dd=none from XD)
 have MJ:(s.heap.push {cls:=.type "dict",data:=.dict #[]}).get? l=some {cls:=.type "list",dict:=none,data:=.seq au.toArray n,slots:=sl}:=k5 _ ho
 show wpAny _ _ (Builtin.Dict.updateFrom "dict.__init__" s.heap.objs.size (.ref l) [] .none) _ _ _
 unfold Builtin.Dict.updateFrom
 refine G8 (wpAny_typeOf (T:="list") ⟨_,MJ,rfl⟩ ?_)
 rw[J9 (by decide)]
 refine G8 (GX (s:={s with heap:=s.heap.push {cls:=.type "dict",data:=.dict #[]}}) MJ (show A.in1.handled=none from hA) λ g tk gk=>?_)
 rw[J9 (by rfl)]
 have k0:∀b o,s.heap.get? b=some o->g.get? b=some o:=λ b o e=>gk b o (k5 _ e)
 have VS:g.IsList l au.toArray:=hl.at λ o e=>k0 l o e
 have dg:g.DictOfH (TK prog w) s.heap.objs.size []:=by
  obtain⟨o,es,ep,h1,r⟩:=new
  exact⟨o,es,ep,gk _ _ h1,r.1,r.2.1,r.2.2.1,λ x hx=>absurd hx (by simp),r.2.2.2.2⟩
 have Vb:s.heap.objs.size < g.objs.size:=by obtain⟨o,es,ep,h1,_⟩:=dg;exact E2 h1
 refine G8 (H0 (G8 (w6 (s:={s with heap:=g,toks:=tk}) VS ?_)))
 refine G9 ⟨D4 mh _,?_⟩
 have up:∀b o,g.get? b=some o->(g.push {cls:=.type "list_iterator",data:=.fields #[.ref l,.int 0 0]}).get? b=some o:=λ b o e=>k5 _ e
 have gL:l≠s.heap.objs.size:=E1 (E2 ho)
 have fO:l < g.objs.size:=Nat.lt_trans (E2 ho) Vb
 refine v_ (prog:=prog) (w:=w) (A:=A.in1) (by show A.units+1+1 < cLine;omega) (show A.in1.handled=none from hA) s.heap.objs.size g.objs.size l (E1 Vb) (E1 fO) gL au ps hlen Qg _ 0 {s with heap:=g.push {cls:=.type "list_iterator",data:=.fields #[.ref l,.int 0 0]},toks:=tk} [] rfl (G5 _) (E9 _) ⟨_,o8 _ rfl,rfl,rfl⟩ (VS.at λ o e=>up l o e) ?_ ?_ ?_
 ·obtain⟨o,es,ep,h1,r⟩:=dg
  exact⟨o,es,ep,up _ _ h1,r.1,r.2.1,r.2.2.1,λ x hx=>absurd hx (by simp),r.2.2.2.2⟩
 ·intro j u p e1 e2
  exact(hp j u p e1 e2).lC λ b o _ e=>up b o (k0 b o e)
 ·intro h' Ir ou iC
  have Uv:s.heap.objs.size < h'.objs.size:=by obtain⟨o,es,ep,h1,_⟩:=iC;exact E2 h1
  refine⟨rfl,h h' Ir (λ b o e=>ou b o (E1 (E2 e)) (E1 (Nat.lt_trans (E2 e) Vb)) (up b o (k0 b o e))) iC Uv⟩
end
end L5
namespace L5
open PySem PySem.W PySem.Calls PyProof.Rows
def Raw(g:Heap)(d:Addr)(es:Array DictEntry)(ep:Nat):Prop:=∃b,g.get? d=some b/\b.ExactDict/\b.data=.dict es ep
theorem Raw.to {g g':Heap}{d:Addr}{es:Array DictEntry}{ep:Nat}(x:Raw g d es ep)(q:∀b,g.get? d=some b->g'.get? d=some b):Raw g' d es ep:=let⟨b,h1,h2⟩:=x;⟨b,q b h1,h2⟩
theorem Raw.ty {s:Shared}{d:Addr}{es:Array DictEntry}{ep:Nat}(x:Raw s.heap d es ep):s.TypeIs (.ref d) "dict":=let⟨b,h1,h2,_⟩:=x;⟨b,h1,h2.1⟩
theorem Raw.lt {g:Heap}{d:Addr}{es:Array DictEntry}{ep:Nat}(x:Raw g d es ep):d < g.objs.size:=let⟨b,h1,_⟩:=x;E2 h1
section
variable {prog:Program}{w:World}{A:Around}{E:Value->Shared->Prop}{s:Shared}
theorem BL{d:Addr}{es:Array DictEntry}{ep:Nat}{Q:Value->Shared->Prop}(nd:(d==sysModules)=false)(x:Raw s.heap d es ep)
  (fin:Q (.ref s.heap.objs.size) {s with heap:=s.heap.push {cls:=.type "dict_keyiterator",data:=.fields #[.ref d,.int 0 0,.int es.size 0,.int ep 0]}}):wpAny (model prog w) A (pyIter (.ref d)) Q E s:=by
 obtain⟨b,hb,xb,db⟩:=id x
 refine wpAny_pyIter_slot x.ty F.slot_dict_iter (A0 F.slot_dict_iter x.ty F.entry_dict_iter ?_ (F.args_dict_iter_1 _))
 unfold Builtin.«dict.__iter__»
 refine G8 ?_
 unfold Builtin.Dict.dictSlotNone
 refine G8 (wpAny_notOrdered_dict x.ty ?_)
 refine G9 (a:=Value.ref d) ?_
 show wpAny (model prog w) _ (Builtin.Dict.showsAll d >>= _) _ _ s
 unfold Builtin.Dict.showsAll
 rw[K0 (by simp[nd])]
 refine G8 (G9 (G8 (wpAny_dictEntries hb db (G8 (wpAny_dictEpoch hb db ?_)))))
 refine G8 (u6 (G9 ⟨_,rfl,"dict_keyiterator",_,⟨_,o8 _ rfl,rfl⟩,c9.lookup,?_⟩))
 simpa[rawInt]using fin
theorem sR{it d:Addr}{i n ep:Nat}{es:Array DictEntry}{Q:Option Value->Shared->Prop}(ki:s.heap.IsKeyIter it d i n ep)(x:Raw s.heap d es ep)(en:n=es.size)
  (hi:∀e:DictEntry,es[i]?=some e->∀g,g.IsKeyIter it d (i+1) n ep->Heap.SameBut it s.heap g->Q (some e.key) {s with heap:=g})
  (hn:A.handled=none) (he:es[i]?=none->∀g,Heap.ExtBut it s.heap g->Q none {s with heap:=g}):wpAny (model prog w) A (pyNext (.ref it)) Q E s:=by
 subst en
 obtain⟨oi,gi,ci,di⟩:=id ki
 obtain⟨b,hb,xb,db⟩:=id x
 unfold pyNext
 refine G8 (C6 (j6 (name:=Str.ofString "__next__") ki.typeIs c9
  (A0 c9 ki.typeIs F.entry_dict_keyiterator_next ?_ (F.args_dict_keyiterator_next_1 _))))
 refine G8 (G9 (G8 (G8 ?_)))
 first|refine G8 (a9 ki.typeIs (G9 ?_))|refine G8 (wpAny_typeNameOf_keyiter ki.typeIs (G9 ?_))
 refine G8 (wpAny_fieldsOf gi di ?_)
 have own:Builtin.Dict_items.ownsTuple "dict_keyiterator"=false:=rfl
 simp only[own,J5,p7]
 show wpAny (model prog w) _ (if(Value.ref d==Value.none)=true then _ else _) _ _ s
 rw[K0 (by exact p5)]
 refine G8 (G9 (G8 (wpAny_dictEntries hb db ?_)))
 rw[K0 (by simp)]
 refine G8 (G9 (G8 (wpAny_dictEpoch hb db ?_)))
 rw[K0 (by simp)]
 refine G9 ?_
 have nn:¬((i:Int) < 0):=by omega
 by_cases lt:i < es.size
 ·simp only[nn,J5,u5,i4 lt]
  refine G8 ?_
  first|refine G8 (a9 ki.typeIs (G9 ?_))|refine G8 (wpAny_typeNameOf_keyiter ki.typeIs (G9 ?_))
  refine G8 (wpAny_isOneOf_keyiter ki.typeIs ?_)
  show wpAny (model prog w) _ (setField (.ref it) 1 (rawInt ((i:Int)+1)) >>= _) _ _ s
  refine G8 (wpAny_setField gi di (by simp) ?_)
  have k2:(s.heap.update it (Obj.mapFields (·.setIfInBounds 1 (rawInt ((i:Int)+1))))).IsKeyIter it d (i+1) es.size ep:=
   ⟨_,k8 _ gi (Obj.isFreed_of_fields (Obj.data_mapFields di _)),(Obj.cls_mapFields ..).trans ci,by rw[Obj.data_mapFields di];simp[rawInt]⟩
  refine G8 (C5 (G8 (wpAny_isOneOf_keyiter (s:={s with heap:=s.heap.update it (Obj.mapFields (·.setIfInBounds 1 (rawInt ((i:Int)+1))))}) k2.typeIs ?_)))
  show wpAny (model prog w) _ (pure es[i].key) _ _ _
  exact G9 (G9 ⟨_,rfl,G9 (hi _ (i4 lt) _ k2 (n0 ..))⟩)
 ·have ge:es.size<=i:=y0 lt
  simp only[nn,J5,u5,k4 ge]
  refine G8 ?_
  first|refine G8 (a9 ki.typeIs (G9 ?_))|refine G8 (wpAny_typeNameOf_keyiter ki.typeIs (G9 ?_))
  show wpAny (model prog w) _ (setField (.ref it) 0 .none >>= _) _ _ s
  refine G8 (wpAny_setField gi di (by simp) ?_)
  show wpAny (model prog w) _ (newExc (.type "StopIteration") [] >>= _) _ _ _
  refine G8 ?_
  simp only[newTuple,newExc]
  refine G8 (u6 ?_ (by size_fits))
  refine G8 (m:=firstArgMember _ _) (wpAny_of_eq (a:=Value.none) (by first|rfl|(simp only[firstArgMember];rfl)) (u6 ?_ (by size_fits)))
  simp only[raiseNew]
  refine G8 (wpAny_handled ?_)
  rw[show A.in1.handled=none from hn]
  refine G8 (G9 (wpAny_throw ?_))
  refine G8 (wpAny_isInstance (b:=true) (T:="StopIteration") ⟨_,o8 _ rfl,rfl⟩ isSubtype_stop ?_)
  exact G9 (he (k4 ge) _ (((n0 ..).extBut.push _).push _))
theorem BK(hn:A.handled=none)(I d:Addr)(ne:d≠I)(es:Array DictEntry)(ep:Nat):
  Walks prog w A I [I,d] [I] es.size (λ i v=>∃e,es[i]?=some e/\v=e.key) (λ i g=>g.IsKeyIter I d i es.size ep/\Raw g d es ep) where
 sub:=λ b m=>by simp at m;simp[m]
 frame:=λ _ _ _ st k=>⟨st.1.at λ o e=>k I (by simp) o e,st.2.to λ o e=>k d (by simp) o e⟩
 item:=λ i s Q E lt st fin=>sR st.1 st.2 rfl (λ e ee g k2 sb=>fin e.key g s.toks ⟨e,ee,rfl⟩ ⟨k2,st.2.to λ o q=>sb.extBut d o ne q⟩ λ b o m q=>sb.extBut b o (λ z=>m (by simp[z])) q) hn λ e=>absurd e (by rw[i4 lt];exact λ z=>nomatch z)
 done:=λ s Q E st fin=>sR st.1 st.2 rfl (λ e ee=>absurd ee (by rw[k4 (E9 _)];exact λ z=>nomatch z)) hn λ _ g sb=>fin g s.toks λ b o m q=>sb b o (λ z=>m (by simp[z])) q
 self:=λ _ _ _ _ st fin=>wpAny_pyIter_keyiter st.1 fin
theorem xN{d:Addr}{es:Array DictEntry}{ep:Nat}(nd:(d==sysModules)=false):KdlSrc prog w "dict" d d es.size (λ i v=>∃e,es[i]?=some e/\v=e.key) (λ g=>Raw g d es ep) where
 type:=λ _ x=>x.ty
 there:=λ _ x=>⟨x.lt,x.lt⟩
 keep:=λ _ _ x k=>x.to λ o e=>k d (.inl rfl) o e
 notList:=by decide
 notTuple:=by decide
 hint:=λ _ _ _ _ x q=>kdl_hint_dict x.ty q
 iter:=λ _ _ hn x=>⟨_,_,(λ _ _ q=>BL nd x q),BK hn _ d (E1 x.lt) es ep,⟨⟨_,o8 _ rfl,rfl,rfl⟩,x.to λ o e=>k5 _ e⟩⟩
theorem pq{es:Array DictEntry}{acc:Array Value}(it:ItemsOf (λ i v=>∃e,es[i]?=some e/\v=e.key) acc es.size):acc.toList=es.toList.map (·.key):=by
 apply ext_getElem?
 intro i
 by_cases lt:i < acc.size
 ·have le:i < es.size:=by rw[<- it.1];exact lt
  obtain⟨e,e1,e2⟩:=it.2 i acc[i] (i4 lt)
  rw[l7,i4 lt,s9,l7,e1,e2]
  rfl
 ·have le:¬i < es.size:=by rw[<- it.1];exact lt
  rw[l7,k4 (y0 lt),s9,l7,k4 (y0 le)]
  rfl
theorem uP{d:Addr}{es:Array DictEntry}{ep:Nat}{R:List Value->Shared->Prop}(nd:(d==sysModules)=false)(hn:A.handled=none)(x:Raw s.heap d es ep)(hz:es.size<=sizeLine)
  (h:∀g tk,(∀b o,s.heap.get? b=some o->g.get? b=some o)->R (es.toList.map (·.key)) {s with heap:=g,toks:=tk}):wpAny (model prog w) A (collect (.ref d)) R E s:=by
 refine kdu_collect (xN nd) hn x hz λ g tk acc k it=>?_
 have e:=pq it
 rw[e]
 exact h g tk k
end
end L5
namespace L5
open PySem PySem.W PySem.Calls PyProof.Rows
section
variable {prog:Program}{w:World}{A:Around}{E:Value->Shared->Prop}{s:Shared}
theorem EY{d q:Addr}{es:Array DictEntry}{ep:Nat}{Q:Value->Shared->Prop}(nd:(d==sysModules)=false)(hn:A.handled=none)(x:Raw s.heap d es ep)(yu:es.size < 64)
  (h:∀(Dd kS:Addr) (g0 g:Heap) (tk e1:Nat),(∀b o,s.heap.get? b=some o->g0.get? b=some o)->Dd≠kS->g0.objs.size<=Dd->g0.objs.size<=kS->g.get? Dd=some (seqObj "list" #[] e1)->g.get? kS=some (seqObj "list" #[] 0)->(∀b o,s.heap.get? b=some o->g.get? b=some o)->
   wpAny (model prog w) A.in1.in1 (ksk_rest Dd (.ref q) false (es.toList.map (·.key)).toArray e1 (.ref kS)) (λ f s'=>f=.done (.ret .none)/\Q (.ref Dd) s') E {s with heap:=g,toks:=tk}):
  wpAny (model prog w) A (call (.builtin "sorted") [.ref d] [(Str.ofString "key",.ref q)]) Q E s:=by
 refine call_function_entry_kw kind_sorted plain_sorted entry_sorted (ksk_s1 _ _) ?_
 unfold Builtin.«sorted»
 have hlen:(es.toList.map (·.key)).length=es.size:=by simp
 refine G8 (m:=checkCount "sorted" 1 1 _) (G9 (G8 (uP nd (show A.in1.handled=none from hn) x (by rw[G0];omega) λ g tk gk=>G8 (wpAny_newList ?_ (by rw[hlen,G0];omega)))))
 generalize VD:es.toList.map (·.key)=vs at*
 have Ur:g.objs.size≠g.objs.size+2:=by omega
 have g1:(g.push (seqObj "list" vs.toArray 0)).get? g.objs.size=some (seqObj "list" vs.toArray 0):=o8 _ rfl
 refine G8 (C5 (wpAny_call_entry_kw slot_list_sort ⟨_,g1,rfl⟩ entry_list_sort ?body (ksk_l1 _ _)))
 case body=>
  show wpAny (model prog w) A.in1.in1 (Builtin.«list.sort» ⟨[.ref g.objs.size],[(Str.ofString "key",.ref q)]⟩) _ _ _
  rw[ksk_t1]
  unfold ksk_tree
  generalize hH:g.push (seqObj "list" vs.toArray 0)=H at*
  have eH:H.objs.size=g.objs.size+1:=by rw[<- hH,size_push']
  obtain⟨c1,o1⟩:∃c1,(H.update g.objs.size (Obj.mapSeq λ _=>(#[]:Array Value))).get? g.objs.size=some (seqObj "list" #[] c1):=⟨_,get?_update_seq g1 λ _=>#[]⟩
  refine G8 (listItems_at g1 rfl (G8 (listUpdate_at g1 rfl (G8 (seqEpoch_at o1 rfl (G8 (wpAny_newTuple (G8 (wpAny_newList (C5 ?_) (G5 _))) (by show vs.length<=_;rw[G0];omega))))) (by rw[x5,G0];omega) (G5 _))))
  have e2:(H.update g.objs.size (Obj.mapSeq λ _=>(#[]:Array Value))).objs.size=g.objs.size+1:=by rw[Heap.size_update,eH]
  have e3:((H.update g.objs.size (Obj.mapSeq λ _=>(#[]:Array Value))).push (seqObj "tuple" vs.toArray 0)).objs.size=g.objs.size+2:=by rw[size_push',e2]
  have g3:(((H.update g.objs.size (Obj.mapSeq λ _=>(#[]:Array Value))).push (seqObj "tuple" vs.toArray 0)).push (seqObj "list" #[] 0)).get? (g.objs.size+2)=some (seqObj "list" #[] 0):=by rw[<- e3];exact o8 _ rfl
  show wpAny (model prog w) A.in1.in1 (ksk_rest g.objs.size (.ref q) false vs.toArray c1 (.ref ((H.update g.objs.size (Obj.mapSeq λ _=>(#[]:Array Value))).push (seqObj "tuple" vs.toArray 0)).objs.size)) _ _ {s with heap:=((H.update g.objs.size (Obj.mapSeq λ _=>(#[]:Array Value))).push (seqObj "tuple" vs.toArray 0)).push (seqObj "list" #[] 0),toks:=tk}
  rw[e3]
  refine J0 (h g.objs.size (g.objs.size+2) g _ tk c1 gk Ur (E9 _) (Nat.le_add_right _ _) (k5 _ (k5 _ o1)) g3 λ b o y=>k5 _ (k5 _ (by
   have hb:b < g.objs.size:=E2 (gk b o y)
   rw[Heap.get?_update_ne _ _ _ _ (E1 hb),<- hH];exact k5 _ (gk b o y)))) (λ f s' hf=>?_) λ _ _ z=>z
  obtain⟨rfl,hq⟩:=hf
  exact⟨_,rfl,G9 ⟨_,rfl,hq⟩⟩
end
end L5
namespace L2
open PySem PySem.Spec PyProof.Rows L5 PySem.W
section
variable {X:Cx}{pins:List (Addr×Obj)}{σ:St}{H:Hp}{s:Shared}
variable {k:Nat}{q:Addr}{fd:FuncData}{ps:List Str}{sp:Sp}
def Goes(X:Cx)(q l:Addr)(au:List Value)(s:Shared):Prop:=∀(Q:Value->Shared->Prop),
 (∀(Dd kS:Addr) (g0 g:Heap) (tk e1:Nat),(∀b o,s.heap.get? b=some o->g0.get? b=some o)->Dd≠kS->g0.objs.size<=Dd->g0.objs.size<=kS->g.get? Dd=some (seqObj "list" #[] e1)->g.get? kS=some (seqObj "list" #[] 0)->(∀b o,s.heap.get? b=some o->g.get? b=some o)->
  wpAny (model X.prog X.w) X.A.in1.in1 (ksk_rest Dd (.ref q) false au.toArray e1 (.ref kS)) (λ f s'=>f=.done (.ret .none)/\Q (.ref Dd) s') X.xe {s with heap:=g,toks:=tk})->
 wpAny (model X.prog X.w) X.A (call (.builtin "sorted") [.ref l] [(Str.ofString "key",.ref q)]) Q X.xe s
theorem wX(F:bZ X.prog X.w X.K X.mg X.base fE k q fd ps sp)(hb:Binds X.K fd ps [])(hr:cJ (k+2) X.A){l:Addr}{ys:List V}{Q:VK}{b:Bool}(I:Inv X pins σ H s){au:List Value}(rv:Vals ys au)(go:Goes X q l au s)(yu:ys.length < 64)(R:List V->Hp->Prop)(key:Nat->Ky)(h0:R [] H)
  (hc:∀kvs H v,R kvs H->ys[kvs.length]?=some v->sp [v] H (λ k H'=>R (kvs++[k]) H') E0)
  (hk:∀kvs H,R kvs H->kvs.length=ys.length->(∀i k,kvs[i]?=some k->jO X.K b H k (key i))/\∀p out,H p=none->Out (λ i j=>klt (key i) (key j)) ys V.bx out->Q (.ref p) (upd H p (.lst out))):
  wpAny (model X.prog X.w) X.A (call (.builtin "sorted") [.ref l] [(Str.ofString "key",.ref q)]) (EP X pins σ Q) X.xe s:=by
 have hlen:=rv.length
 have hu:=hr.units
 have room:cJ k X.A.in1.in1:=(hr.in1 (k:=k+1)).in1
 refine go _ λ Dd kS g0 g tk e1 X7 gL lD lK gD gK gk=>?_
 have I0:Inv X pins σ H {s with heap:=g0,toks:=tk}:=I.kept (t':=tk) X7
 have f1:=I0.iS (H':=λ _=>none) (b:=Dd) lD rfl
 have f3:=I0.iS (H':=λ _=>none) (b:=kS) lK rfl
 refine yh (J:=λ ks e s'=>∃kvs H',Inv X ((kS,seqObj "list" (List.toArray ks) e)::(Dd,seqObj "list" #[] e1)::pins) σ H' s'/\Vals kvs ks/\R kvs H'/\ks.length<=au.length) (by omega) ?_ ?_ ?_ ?_
 ·rintro ks e s' ⟨kvs,H',I',rk,hR,uh⟩
  exact⟨(I'.pin _ (k9 _ (.head _))).1,uh⟩
 ·rintro x ks e s' ⟨kvs,H',I',rk,hR,uh⟩ hx
  have lk:=rk.length
  obtain⟨y,hy,ry⟩:∃y,ys[kvs.length]?=some y/\RelV y x:=by
   have hi:kvs.length < ys.length:=by
    have:=(i6.mp hx).1
    omega
   obtain⟨u,Hu,ru⟩:=rv.get (i9 hi)
   rw[lk,hx]at Hu
   cases Hu
   exact⟨_,i9 hi,ru⟩
  have call:=hc kvs H' y hR hy
  have r1:Vals [y] [x]:=.cons ry .nil
  have HA:([x]++([]:List Value)).length=ps.length:=by
   have:=F.len _ _ _ _ call
   simpa using this
  have en:rU X.prog X.w X.K X.mg X.base X.A.in1.in1 X.stack s' H':=I'.Nh.in1.in1
  have bt:=hb s' [x] I'.oE HA
  rw[A6]at bt
  refine wpAny_call (codeAny_mono (F.run X.A.in1.in1 X.stack s' H' ⟨[x],[]⟩ [x] [y] _ E0 room en bt r1 call) λ r s2 hq=>?_)
  cases r with
  |error e=>exact hq
  |ok fl=>
   cases fl with
   |ret u=>
    obtain⟨kv,H2,I2,ru,MY⟩:=I'.after hq
    have pk:=I2.pin _ (k9 _ (o9 ..))
    refine⟨pk.1,λ h' c Uz sb=>⟨kvs++[kv],H2,?_,rk.append (.cons ru .nil),MY,?_⟩⟩
    ·have I3:Inv X ((Dd,seqObj "list" #[] e1)::pins) σ H2 s2:=I2.cL λ p hp=>I2.pin p (k9 _ (.tail _ hp))
     have pd:=I2.pin _ (k9 _ (List.Mem.tail _ (o9 ..)))
     have fk:gB X ((Dd,seqObj "list" #[] e1)::pins) H2 (kS):=⟨pk.2.1,f3.2.1,f3.2.2.1,f3.2.2.2.1,f3.2.2.2.2.1,λ p hp=>by
      rcases B8.mp hp with z|z
      ·exact f3.2.2.2.2.2 p (m7 _ z)
      ·rcases D3.mp z with rfl|z
       ·exact gL
       ·exact f3.2.2.2.2.2 p (k9 _ z)⟩
     have I4:Inv X ((Dd,seqObj "list" #[] e1)::pins) σ H2 {s2 with heap:=h'}:=iE (t':=s2.toks) (ch:=[kS]) I3 (λ b o hb e=>(sb.2 b (λ z=>hb (by simp[z]))).trans e) λ b pK=>by
      have:b=kS:=by simpa using pK
      subst this
      exact fk
     refine I4.cL λ p hp=>?_
     rcases D3.mp hp with rfl|z
     ·exact⟨Uz,pk.2.1,f3.2.1,f3.2.2.1,λ v z=>by cases z⟩
     ·exact I4.pin p (k9 _ z)
    ·have:=(i6.mp hx).1
     rw[p6,l6]
     omega
   |next=>exact hq.elim
   |brk=>exact hq.elim
   |cont=>exact hq.elim
 ·have I5:Inv X pins σ H {s with heap:=g,toks:=tk}:=I.kept (t':=tk) gk
  have hn:∀b,g0.objs.size<=b->H b=none:=λ b hb=>I0.bO.fresh hb
  refine⟨[],H,I5.cL λ p hp=>?_,.nil,h0,G5 _⟩
  rcases D3.mp hp with rfl|z
  ·exact⟨gK,hn _ lK,f3.2.1,f3.2.2.1,λ v z=>by cases z⟩
  ·rcases D3.mp z with rfl|z
   ·exact⟨gD,hn _ lD,f1.2.1,f1.2.2.1,λ v z=>by cases z⟩
   ·exact I5.pin p (k9 _ z)
 ·rintro ks e s' ⟨kvs,H',I',rk,hR,_⟩ uh
  have lk:=rk.length
  obtain⟨qY,hQ⟩:=hk kvs H' hR (by omega)
  have pk:=I'.pin _ (k9 _ (o9 ..))
  have pd:=I'.pin _ (k9 _ (List.Mem.tail _ (o9 ..)))
  have Se:X.A.in1.in1.units+1 < cLine:=by have:=room.units;omega
  refine CS (κ:=tuples' true) (yj key) uh (by omega) pk.1 pd.1 gL (λ h2 C hC=>?_) (λ h2 i j C hi hj hC=>?_) λ out h' c ho hD DC=>⟨rfl,?_⟩
  ·obtain⟨fs,t1,t2,t3⟩:=nE I' rk qY
   refine kat_kind (T:=.type "int") t1 (by omega) (λ v hv=>?_) rfl hC
   obtain⟨i,t,rfl⟩:=t3 v hv
   exact(show Looks _ s'.heap (pure (Value.type "int")) _ from .now)
  ·have gi:∀i,i < au.length->∃k u,kvs[i]?=some k/\ks.getD i Value.none=u/\RelV k u:=λ i hi=>by
    have I_:i < kvs.length:=by omega
    obtain⟨u,e,r⟩:=rk.get (i9 I_)
    exact⟨_,u,i9 I_,by rw[g9,e];rfl,r⟩
   obtain⟨k1,u1,a1,a2,a3⟩:=gi i hi
   obtain⟨k2,u2,b1,b2,b3⟩:=gi j hj
   rw[a2,b2]
   exact CU I' Se (qY i k1 a1) (qY j k2 b1) a3 b3 hC
  ·obtain⟨p,p1,p2,p3⟩:=ho
   subst p3
   have I6:Inv X pins σ H' s':=I'.cL λ p hp=>I'.pin p (k9 _ (.tail _ (.tail _ hp)))
   have I7:Inv X pins σ H' {s' with heap:=h'}:=iE (t':=s'.toks) (ch:=[Dd,kS]) I6 (λ b o hb e=>DC b o (λ z=>hb (by simp[z])) (λ z=>hb (by simp[z])) e) λ b pK=>by
    simp at pK
    rcases pK with rfl|rfl
    ·exact⟨pd.2.1,f1.2⟩
    ·exact⟨pk.2.1,f3.2⟩
   have Tg:Vals (p.toList.map λ i=>ys.getD i V.bx) (p.toList.map λ i=>au.getD i Value.none):=sk rv _
   have PU:(p.toList.map λ i=>ys.getD i V.bx).length<=sizeLine:=by
    rw[B7,o7,p1.size,G0]
    omega
   refine⟨.ref (Dd),_,Inv.o_ (D:=Dd) (o:=.lst (p.toList.map λ i=>ys.getD i V.bx)) I7 pd.2.1 (show _/\∃(au:List Value) (n:Nat),Vals _ au/\_ from⟨PU,_,c,Tg,hD⟩) f1.2.1 (E8 I0.sz lD) f1.2.2.2.2.1 f1.2.2.2.2.2,rfl,hQ _ _ pd.2.1 ⟨p,by rw[hlen];exact p1,by rw[hlen];exact p2,rfl⟩⟩
end
end L2
namespace L5
open PySem
section
variable {α β γ:Type}[DecidableEq α][DecidableEq γ]
def jA(acc:List (α×β))(p:α×β):List (α×β):=if p.1∈acc.map (·.1)then acc else acc++[p]
def eY(ps:List (α×β)):List (α×β):=ps.foldl jA []
def jB(acc:List γ)(r:γ):List γ:=if r∈acc then acc else acc++[r]
def once(rs:List γ):List γ:=rs.foldl jB []
theorem zK{acc:List (α×β)}{p q:α×β}(h:q∈jA acc p):q∈acc\/q=p:=by
 unfold jA at h
 split at h
 ·exact .inl h
 ·simpa using h
theorem tP:∀(ps acc:List (α×β)) (q:α×β),q∈ps.foldl jA acc->q∈acc\/q∈ps
 |[],_,_,h=>.inl h
 |p::ps,acc,q,h=>by
  rcases tP ps _ q h with h|h
  ·rcases zK h with h|h
   ·exact .inl h
   ·exact .inr (by simp[h])
  ·exact .inr (by simp[h])
theorem wo{ps:List (α×β)}{q:α×β}(h:q∈eY ps):q∈ps:=by
 rcases tP ps [] q h with h|h
 ·cases h
 ·exact h
theorem pM(F:γ->α)(inj:∀a b,F a=F b->a=b):∀(ps acc:List (α×β)) (rs ac:List γ),acc.map (·.1)=ac.map F->ps.map (·.1)=rs.map F->(ps.foldl jA acc).map (·.1)=(rs.foldl jB ac).map F
 |[],_,[],_,h,_=>h
 |[],_,_::_,_,_,e=>by simp at e
 |_::_,_,[],_,_,e=>by simp at e
 |p::ps,acc,r::rs,ac,h,e=>by
  simp only[D1,List.cons.injEq]at e
  refine pM F inj ps _ rs _ ?_ e.2
  have iff:p.1∈acc.map (·.1)↔r∈ac:=by
   rw[h,e.1,E3]
   constructor
   ·rintro⟨a,ha,hb⟩
    rw[<- inj _ _ hb]
    exact ha
   ·exact λ ha=>⟨r,ha,rfl⟩
  unfold jA jB
  by_cases m:r∈ac
  ·rw[J9 m,J9 (iff.mpr m)]
   exact h
  ·rw[K0 m,K0 (λ z=>m (iff.mp z))]
   simp[h,e.1]
theorem uo(F:γ->α)(inj:∀a b,F a=F b->a=b){ps:List (α×β)}{rs:List γ}(e:ps.map (·.1)=rs.map F):(eY ps).map (·.1)=(once rs).map F:=pM F inj ps [] rs [] rfl e
theorem pC:∀(rs acc:List γ) (q:γ),q∈rs.foldl jB acc->q∈acc\/q∈rs
 |[],_,_,h=>.inl h
 |p::ps,acc,q,h=>by
  rcases pC ps _ q h with h|h
  ·unfold jB at h
   split at h
   ·exact .inl h
   ·rcases B8.mp h with h|h
    ·exact .inl h
    ·exact .inr (by simp at h;simp[h])
  ·exact .inr (by simp[h])
theorem tN{rs:List γ}{q:γ}(h:q∈once rs):q∈rs:=by
 rcases pC rs [] q h with h|h
 ·cases h
 ·exact h
theorem pE:∀(rs acc:List γ),(rs.foldl jB acc).length<=acc.length+rs.length
 |[],_=>by simp
 |p::ps,acc=>by
  have h:=pE ps (jB acc p)
  have h2:(jB acc p).length<=acc.length+1:=by
   unfold jB
   split <;> simp
  simp only[foldl_cons,y6]
  omega
theorem CO(rs:List γ):(once rs).length<=rs.length:=by
 have:=pE rs []
 simpa[once]using this
end
def ka(x:Ent):List L2.Key×Addr:=(x.1,x.2.1)
theorem Ms(k:List L2.Key)(v:Value)(x:Ent):ka (putAt k v x)=ka x:=by
 unfold putAt ka
 split <;> rfl
theorem El(xs:List Ent)(k:List L2.Key):(atKey xs k).isSome=true↔k∈(xs.map ka).map (·.1):=by
 unfold atKey
 rw[x4,find?_isSome]
 constructor
 ·rintro⟨x,hx,e⟩
  refine E3.mpr ⟨ka x,E3.mpr ⟨x,hx,rfl⟩,of_decide_eq_true e⟩
 ·intro h
  obtain⟨p,hp,e⟩:=E3.mp h
  obtain⟨x,hx,rfl⟩:=E3.mp hp
  exact⟨x,hx,C1 e⟩
theorem zQ(xs:List Ent)(p:Ent):(storedH xs p.1 p.2.1 p.2.2).map ka=jA (xs.map ka) (ka p):=by
 unfold storedH jA
 by_cases h:(atKey xs p.1).isSome=true
 ·rw[J9 h,J9 (show(ka p).1∈_ from(El xs p.1).mp h),E4]
  exact map_congr_left λ x _=>Ms _ _ x
 ·rw[K0 h,K0 (show ¬(ka p).1∈(xs.map ka).map (·.1)from λ z=>h ((El xs p.1).mpr z)),B9]
  rfl
theorem CW:∀(ps xs:List Ent),(putAll xs ps).map ka=(ps.map ka).foldl jA (xs.map ka)
 |[],_=>rfl
 |p::ps,xs=>by
  show(putAll (storedH xs p.1 p.2.1 p.2.2) ps).map ka=_
  rw[CW ps,zQ]
  rfl
theorem ye:∀(ps xs:List Ent),(putAll xs ps).length<=xs.length+ps.length
 |[],_=>by simp[putAll]
 |p::ps,xs=>by
  have h:=ye ps (storedH xs p.1 p.2.1 p.2.2)
  have h2:=kM xs p
  have e:putAll xs (p::ps)=putAll (storedH xs p.1 p.2.1 p.2.2) ps:=rfl
  rw[e,y6]
  omega
end L5
namespace L2
open PySem PySem.Spec PyProof.Rows L5 PySem.W
def iX(K:PySem.W.Frag)(H:Hp):List V->List (List Key×Addr)->Prop
 |[],[]=>True
 |y::ys,p::ps=>(∃(t:Addr) (v:V) (r:List Int),y=.ref t/\f_ K H t [.ref p.2,v]/\p.1=r.map Sum.inl/\f_ K H p.2 (r.map V.int))/\iX K H ys ps
 |_,_=>False
theorem iX.row {K:PySem.W.Frag}{H:Hp}:∀{ys:List V} {ps:List (List Key×Addr)},iX K H ys ps->∀p∈ps,∃r:List Int,p.1=r.map Sum.inl/\f_ K H p.2 (r.map V.int)
 |[],[],_,_,m=>by cases m
 |[],_::_,h,_,_=>h.elim
 |_::_,[],h,_,_=>h.elim
 |y::ys,q::ps,⟨⟨t,v,r,_,_,h1,h2⟩,h⟩,p,m=>by
  rcases D3.mp m with rfl|m
  ·exact⟨r,h1,h2⟩
  ·exact iX.row h p m
section
variable {X:Cx}{pins:List (Addr×Obj)}{σ:St}{H:Hp}{s:Shared}
theorem nH{prog:Program}{w:World}:∀{au:List Value} {r:List Int},Vals (r.map V.int) au->ItemsAre (cx prog w) (r.map Sum.inl) au
 |au,[],h=>by cases h;exact .nil
 |au,i::r,h=>by
  cases h with
  |cons h1 h2=>
   obtain⟨t,rfl⟩:=h1
   exact .cons (kW prog w i t) (nH h2)
theorem ni(I:Inv X pins σ H s):∀{ys:List V} {kp:List (List Key×Addr)} {au:List Value},iX X.K H ys kp->Vals ys au->∃ps:List Ent,ps.map ka=kp/\au.length=ps.length/\∀(j:Nat) (u:Value) (p:Ent),au[j]?=some u->ps[j]?=some p->kG X.prog X.w s.heap u p
 |[],[],_,_,.nil=>⟨[],rfl,rfl,λ j u p h=>by simp at h⟩
 |[],_::_,_,h,_=>h.elim
 |_::_,[],_,h,_=>h.elim
 |y::ys,q::kp,_,h0,.cons (b:=u0) e0 er=>by
  obtain⟨⟨t,v,r,rfl,h1,h2,h3⟩,h⟩:=h0
  obtain⟨ps,p1,p2,p3⟩:=ni I h er
  cases(show u0=Value.ref t from e0)
  obtain⟨i2,r2,⟨o,ho,hc,n,hd⟩,_⟩:=I.tuple h1
  obtain⟨u1,u2,rfl,q1,q2⟩:=vals2 r2
  cases(show u1=Value.ref q.2 from q1)
  obtain⟨i3,r3,⟨o3,Xk,XE,n3,HF⟩,_⟩:=I.tuple h3
  refine⟨(q.1,q.2,u2)::ps,by simp[ka,p1],by simp[p2],λ j u p e1 e2=>?_⟩
  cases j with
  |zero=>
   simp at e1 e2
   subst e1 e2
   refine⟨⟨t,rfl,o,ho,hc,n,hd⟩,o3,i3.toArray,n3,Xk,XE,HF,?_⟩
   rw[h2]
   exact nH r3
  |succ j=>exact p3 j u p (by simpa using e1) (by simpa using e2)
end
section
variable {X:Cx}{e:Expr}{te:TE}{p p2 pos eB fp kp:Pos}{f:Str}{k:Nat}{ps:List Str}{sp:Sp}
def qt(K:PySem.W.Frag)(sp:Sp)(x:V)(H:Hp)(Q:VK):Prop:=∃(l:Addr) (ys zs:List V) (kp:List (List Key×Addr)) (b:Bool) (R:List V->Hp->Prop) (key:Nat->Ky),x=.ref l/\dD K H l ys/\ys.length < 64/\iX K H ys kp/\zs=(eY kp).map (λ p=>V.ref p.2)/\R [] H/\
 (∀kvs H v,R kvs H->zs[kvs.length]?=some v->sp [v] H (λ k H'=>R (kvs++[k]) H') E0)/\
 ∀kvs H,R kvs H->kvs.length=zs.length->(∀i k,kvs[i]?=some k->jO K b H k (key i))/\∀p out,H p=none->Out (λ i j=>klt (key i) (key j)) zs V.bx out->Q (.ref p) (upd H p (.lst out))
theorem oV:∀as:List Addr,Vals (as.map V.ref) (as.map Value.ref)
 |[]=>.nil
 |a::as=>.cons rfl (oV as)
theorem sZ(d:bF X.prog X.w X.K X.mg X.base k f ps sp)(hr:cJ (k+2) X.A)(hg:Gl X "sorted")(hm:X.mg "sorted"=none)(Qk:Gl X "dict")(Qf:X.mg "dict"=none)(DF:Gl X f)(he:PE X e te)(ui:(f==("__debug__":Str))=false:=by decide)
  (hs:starEach [.Call (.Name "dict" p2) [e] [] eB] X.env=[(false,eval (.Call (.Name "dict" p2) [e] [] eB) X.env)]:=by rfl) (km:backTo pos (starEach [.Call (.Name "dict" p2) [e] [] eB] X.env)=(false,eval (.Call (.Name "dict" p2) [e] [] eB) X.env)::backTo pos (starEach [] X.env):=by rfl) (hZ:(backTo pos (starEach [.Call (.Name "dict" p2) [e] [] eB] X.env)).any (·.1)=false:=by rfl)
  (ht:starEach [e] X.env=[(false,eval e X.env)]:=by rfl) (P_:starEach [e] X.env=(false,eval e X.env)::starEach [] X.env:=by rfl) (P0:(backTo eB (starEach [] X.env)).any (·.1)=false:=by rfl):
  PE X (.Call (.Name "sorted" p) [.Call (.Name "dict" p2) [e] [] eB] [⟨some "key",.Name f fp,kp⟩] pos) (λ σ H Q=>te σ H λ x H1=>qt X.K sp x H1 Q):=by
 intro pins s σ H Q I h
 obtain⟨q,fd,G,Ut,kq,bd⟩:=d.ex
 refine r9 (fA I hg hm PyProof.Rows.boot_sorted ?_ (by decide) (by decide))
 refine PyProof.Rows.callWith_kw ?_ km hZ
 rw[hs]
 show wpAny _ _ (spliced ((false,eval (.Call (.Name "dict" p2) [e] [] eB) X.env)::[])) _ _ s
 refine Calls.spliced_cons (r9 (fA I Qk Qf PyProof.Rows.boot_dict ?_ (by decide) (by decide)))
 refine e6 (cV ((gq he iR (by rw[ht];rfl)) eB pins s σ H (λ vs H1=>match vs with|[x]=>qt X.K sp x H1 Q|_=>False) I h) λ us s1 ⟨vs,H1,I1,r1,q1⟩=>?_) P_ P0
 cases vs with
 |nil=>exact q1.elim
 |cons x vs=>
  cases vs with
  |cons _ _=>exact q1.elim
  |nil=>
  have q1:qt X.K sp x H1 Q:=q1
  obtain⟨u,rfl,ru⟩:=vals1 r1
  obtain⟨l,ys,zs,Ey,b,R,key,rfl,hl,yu,hp,rfl,h0,hc,hk⟩:=q1
  cases(show u=Value.ref l from ru)
  obtain⟨au,rv,pl,hz⟩:=I1.list hl
  have hlen:=rv.length
  obtain⟨es,e1,e2,e3⟩:=ni I1 hp rv
  have hu:=hr.un
  have ol:∃o,s1.heap.get? l=some o/\o.dict=none:=by
   obtain⟨o,n,a1,a2,a3,a4⟩:=pl
   exact⟨o,a1,a3⟩
  have two:(s1.heap.objs.size==sysModules)=false:=by
   obtain⟨o,n,a1,a2,a3,a4⟩:=pl
   obtain⟨m,⟨o',b1,b2,b3,b4,_⟩,_⟩:=I1.loc
   have ne:l≠X.env.locals:=λ z=>by
    rw[z,b3]at a1
    cases a1
    rw[a4]at b4
    cases b4
   have l1:l < s1.heap.objs.size:=E2 a1
   have l2:X.env.locals < s1.heap.objs.size:=E2 b3
   refine beq_eq_false_iff_ne.mpr λ z=>?_
   have z:s1.heap.objs.size=1:=z
   have:∀a b:Nat,a≠b->a < 1->b < 1->False:=λ a b _ _ _=>by omega
   exact this l X.env.locals ne (z▸l1) (z▸l2)
  refine G' (by omega) hr.hd pl.isList ol e2 (by omega) e3 λ g tk gk gd gz=>?_
  have I2:Inv X pins σ H1 {s1 with heap:=g,toks:=tk}:=I1.kept (t':=tk) gk
  refine Calls.spliced_nil ?_
  show wpAny _ _ (evalAll ((do let v <- eval (.Name f fp) X.env;standAt pos;pure v)::[])) _ _ _
  refine wpAny_evalAll_cons (G8 (qK I2 DF Ut (G8 (wpAny_standAt (G9 (wpAny_evalAll_nil ?_)))) ui))
  obtain⟨o,QR,ep,o1,o2,o3,o4,o5,o6⟩:=gd
  have ek:(putAll [] es).map ka=eY Ey:=by
   rw[CW,e1]
   rfl
  have ev:QR.toList.map (·.key)=((eY Ey).map (·.2)).map Value.ref:=by
   rw[o4,<- ek,E4,E4,E4]
   rfl
  have hsz:QR.size < 64:=by
   have a:=ye es []
   have b:QR.toList.length=(putAll [] es).length:=by rw[o4,B7]
   rw[o7]at b
   simp at a
   omega
  have ez:(eY Ey).map (λ p=>V.ref p.2)=((eY Ey).map (·.2)).map V.ref:=by
   rw[E4]
   rfl
  have lz:((eY Ey).map (λ p=>V.ref p.2)).length < 64:=by
   have b:(eY Ey).length=QR.size:=by
    have:=J7 List.length ev
    simpa using this.symm
   rw[B7,b]
   exact hsz
  have go:Goes X q s1.heap.objs.size (((eY Ey).map (·.2)).map Value.ref) {s1 with heap:=g,toks:=tk}:=by
   intro Q' hQ
   refine EY (s:={s1 with heap:=g,toks:=tk}) two hr.hd (⟨o,o1,o2,o3⟩:Raw g _ QR ep) hsz λ Dd kS g0 g' Ir QN a1 a2 a3 a4 a5 a6 a7=>?_
   rw[ev]
   exact hQ Dd kS g0 g' Ir QN a1 a2 a3 a4 a5 a6 a7
  exact wX G bd hr I2 (by rw[ez];exact oV _) go lz R key h0 hc hk
end
end L2
namespace L3
open PySem PySem.Spec L2 L5
def zq(r:List Int):D:=.tup (r.map D.int)
def pairD(r:List Int):D:=.tup [zq r,.bl true]
theorem qP:∀a b:List Int,(a.map Sum.inl:List Key)=b.map Sum.inl->a=b
 |[],[],_=>rfl
 |[],_::_,h=>by cases h
 |_::_,[],h=>by cases h
 |x::a,y::b,h=>by
  simp only[D1,List.cons.injEq,Sum.inl.injEq]at h
  rw[h.1,qP a b h.2]
section
variable {K:PySem.W.Frag}{H:Hp}
theorem td:∀{rows:List (List Int)} {ys:List V},aE K H (rows.map pairD) ys->∃kp,iX K H ys kp/\kp.map (·.1)=rows.map λ r=>(r.map Sum.inl:List Key)
 |[],ys,h=>by
  cases(aq.mp h)
  exact⟨[],trivial,rfl⟩
 |r::rows,ys,h=>by
  obtain⟨y,ys,rfl,h1,h2⟩:=aj.mp h
  obtain⟨kp,a1,a2⟩:=td h2
  obtain⟨t,xs,rfl,hq,hd⟩:=aS.mp h1
  obtain⟨x1,r1,rfl,b1,hd⟩:=aj.mp hd
  obtain⟨x2,r2,rfl,b2,hd⟩:=aj.mp hd
  cases(aq.mp hd)
  obtain⟨m,zs,rfl,vh,hd2⟩:=aS.mp b1
  rw[cY hd2]at vh
  exact⟨((r.map Sum.inl:List Key),m)::kp,⟨⟨t,x2,r,rfl,hq,rfl,vh⟩,a1⟩,by simp[a2]⟩
theorem lg:∀{fs:List (List Key×Addr)} {rs:List (List Int)},(∀p∈fs,∃r:List Int,p.1=r.map Sum.inl/\f_ K H p.2 (r.map V.int))->fs.map (·.1)=rs.map (λ r=>(r.map Sum.inl:List Key))->aE K H (rs.map zq) (fs.map λ p=>V.ref p.2)
 |[],[],_,_=>by simp[aq]
 |[],_::_,_,h=>by cases h
 |_::_,[],_,h=>by cases h
 |p::fs,r::rs,h,e=>by
  simp only[D1,List.cons.injEq]at e
  obtain⟨r',e1,e2⟩:=h p (by simp)
  have er:r'=r:=qP _ _ (e1.symm.trans e.1)
  subst er
  rw[D1,D1,aj]
  refine⟨_,_,rfl,aS.mpr ⟨p.2,_,rfl,e2,kx r'⟩,lg (λ q m=>h q (by simp[m])) e.2⟩
end
def rA(sp:fe)(d:D)(M:Mem)(Q:bL):Prop:=∃(l:Addr) (rows:List (List Int)) (b:Bool) (R:List D->Mem->Prop) (key:Nat->Ky),d=.ref l/\M l=some (.lst (rows.map pairD))/\rows.length < 64/\R [] M/\
 (∀dC M e,R dC M->((once rows).map zq)[dC.length]?=some e->sp [e] M (λ k M'=>R (dC++[k]) M'))/\
 ∀dC M,R dC M->dC.length=(once rows).length->(∀i k,dC[i]?=some k->Au b M k (key i))/\∀p out,M p=none->Out (λ i j=>klt (key i) (key j)) ((once rows).map zq) D.bx out->Q (.ref p) (ai M p (.lst out))
def qm(sp:fe)(te:bX):bX:=λ δ M Q=>te δ M λ d M1=>rA sp d M1 Q
section
variable {X:Cx}{e:Expr}{te:bX}{p p2 pos eB fp kp:Pos}{f:Str}{k:Nat}{ps:List Str}{sp:fe}
theorem vT(d:bC X.prog X.w X.K X.mg X.base k f ps sp)(hr:cJ (k+2) X.A)(hg:Gl X "sorted")(hm:X.mg "sorted"=none)(Qk:Gl X "dict")(Qf:X.mg "dict"=none)(DF:Gl X f)(he:QE X e te)(ui:(f==("__debug__":Str))=false:=by decide)
  (hs:starEach [.Call (.Name "dict" p2) [e] [] eB] X.env=[(false,eval (.Call (.Name "dict" p2) [e] [] eB) X.env)]:=by rfl) (km:backTo pos (starEach [.Call (.Name "dict" p2) [e] [] eB] X.env)=(false,eval (.Call (.Name "dict" p2) [e] [] eB) X.env)::backTo pos (starEach [] X.env):=by rfl) (hZ:(backTo pos (starEach [.Call (.Name "dict" p2) [e] [] eB] X.env)).any (·.1)=false:=by rfl)
  (ht:starEach [e] X.env=[(false,eval e X.env)]:=by rfl) (P_:starEach [e] X.env=(false,eval e X.env)::starEach [] X.env:=by rfl) (P0:(backTo eB (starEach [] X.env)).any (·.1)=false:=by rfl):
  QE X (.Call (.Name "sorted" p) [.Call (.Name "dict" p2) [e] [] eB] [⟨some "key",.Name f fp,kp⟩] pos) (qm sp te):=by
 refine bS (sZ d hr hg hm Qk Qf DF he ui hs km hZ ht P_ P0) ?_
 rintro σ H Q ⟨δ,M,Q2,hs,hm,q,k⟩
 refine⟨δ,M,_,hs,hm,q,λ x H1 d M1 hd bW t1 q1=>?_⟩
 obtain⟨l,rows,b,R,key,rfl,hM,yu,h0,hc,hk⟩:=q1
 cases(aF.mp hd)
 obtain⟨ys,hy,Oa⟩:=bW l _ hM
 have hlen:=Oa.length
 rw[B7]at hlen
 obtain⟨Ey,p1,p2⟩:=td Oa
 have hd2:aE X.K H1 ((once rows).map zq) ((eY Ey).map λ p=>V.ref p.2):=lg (λ p m=>p1.row p (wo m)) (uo _ qP p2)
 have VR:=hd2.length
 rw[B7 (f:=zq)]at VR
 refine⟨l,ys,_,Ey,b,λ kvs H'=>∃dC M',aE X.K H' dC kvs/\RelM X.K H' M'/\av H1 H'/\R dC M',key,rfl,dD.of hy,by omega,p1,rfl,⟨[],M1,by rw[aq],bW,av.refl _,h0⟩,?_,?_⟩
 ·rintro kvs H2 v ⟨dC,M2,h1,h2,t2,hR⟩ hv
  have MN:=h1.length
  obtain⟨e,e1,e2⟩:=(aE.mono t2 _ hd2).nM hv
  refine⟨[e],M2,_,aE.one e2,h2,hc dC M2 e hR (by rw[<- MN];exact e1),λ w H3 d3 M3 HF DA t3 q3=>?_⟩
  exact⟨dC++[d3],M3,(aE.mono t3 dC h1).append (aE.one HF),DA,t2.trans t3,q3⟩
 ·rintro kvs H2 ⟨dC,M2,h1,h2,t2,hR⟩ hl
  have MN:=h1.length
  obtain⟨a1,a2⟩:=hk dC M2 hR (by omega)
  refine⟨λ i w hw=>?_,λ p out hp ho=>?_⟩
  ·obtain⟨d3,e3,HF⟩:=h1.nM hw
   exact(a1 i d3 e3).v HF h2
  ·obtain⟨π,p1,p2,rfl⟩:=ho
   rw[VR]at p1 p2
   refine k _ _ (.ref p) _ (aF.mpr rfl) (dv hp (kr (aE.mono t2 _ hd2) π.toList) h2) (t1.trans (t2.trans (av.laid hp))) (a2 p _ (h2.free hp) ⟨π,by rw[B7];exact p1,by rw[B7];exact p2,rfl⟩)
end
theorem Bt{sp:fe}{te:bX}{δ:de}{M:Mem}{Q:bL}(h:te δ M λ d M1=>rA sp d M1 Q):qm sp te δ M Q:=h
end L3
namespace L4
open PySem PySem.Spec L2 L3 L5
section
variable {X:Cx}{e:Expr}{te:bX}{p p2 pos eB fp kp:Pos}{f:Str}{k:Nat}{ps:List Str}{sp:fe}
theorem vA(d:bC X.prog X.w X.K X.mg X.base k f ps sp)(hr:cJ (k+2) X.A)(hg:Gl X "sorted")(hm:X.mg "sorted"=none)(Qk:Gl X "dict")(Qf:X.mg "dict"=none)(DF:Gl X f)(he:WE X e te)(ui:(f==("__debug__":Str))=false:=by decide)
  (hs:starEach [.Call (.Name "dict" p2) [e] [] eB] X.env=[(false,eval (.Call (.Name "dict" p2) [e] [] eB) X.env)]:=by rfl) (km:backTo pos (starEach [.Call (.Name "dict" p2) [e] [] eB] X.env)=(false,eval (.Call (.Name "dict" p2) [e] [] eB) X.env)::backTo pos (starEach [] X.env):=by rfl) (hZ:(backTo pos (starEach [.Call (.Name "dict" p2) [e] [] eB] X.env)).any (·.1)=false:=by rfl)
  (ht:starEach [e] X.env=[(false,eval e X.env)]:=by rfl) (P_:starEach [e] X.env=(false,eval e X.env)::starEach [] X.env:=by rfl) (P0:(backTo eB (starEach [] X.env)).any (·.1)=false:=by rfl):
  WE X (.Call (.Name "sorted" p) [.Call (.Name "dict" p2) [e] [] eB] [⟨some "key",.Name f fp,kp⟩] pos) (qm sp te):=⟨vT d hr hg hm Qk Qf DF he.h ui hs km hZ ht P_ P0⟩
end
end L4
namespace L5
open PySem
open AutoSeq1 (wpAny_loadPart')
abbrev Su(T:String)(h:Heap)(l:Addr):Heap:=h.push {cls:=.type T,data:=.fields #[.ref l,.int 0 0]}
abbrev U'(T:String)(h:Heap)(l:Addr):Heap:=(Su T h l).push {cls:=.type "enumerate",data:=.fields #[.none,.bool false,.ref h.objs.size,rawInt 0,.none,.none]}
set_option tactic.hygienic true in
theorem wK{T:String}{S:Heap->Addr->Array Value->Prop}(k:NK T S)(l:Addr)(vs:Array Value):
  Meets (Builtin.«enumerate.__new__» ⟨[.type "enumerate",.ref l],[]⟩) (λ _ R s=>S s.heap l vs/\R (.ok (.ret (.ref (Su T s.heap l).objs.size))) {s with heap:=U' T s.heap l}):=
 .of_wp λ prog w A R s h=>by
  obtain⟨hp,g,d,tk,os⟩:=s
  obtain⟨a1,h⟩:=h
  have se:=sub_enumerate
  have aT:S (Shared.heap ⟨hp,g,d,tk,os⟩) l vs:=a1
  wp_walk using k.start aT
  refine wpAny_stack_any λ st=>G9 ?_
  split
  ·rename_i c _ _ _ _ _
   cases(c==Value.type "enumerate")
   all_goals
    wp_walk using k.start aT
    exact⟨_,rfl,h⟩
  ·wp_walk using k.start aT
   exact⟨_,rfl,h⟩
theorem G_{prog:Program}{w:World}{A:Around}{E:Value->Shared->Prop}{s:Shared}{T:String}{S:Heap->Addr->Array Value->Prop}(kk:NK T S){l:Addr}{vs:Array Value}{Q:Value->Shared->Prop}(a1:S s.heap l vs)
  (k:∀h',IsEnum h' (s.heap.objs.size+1) s.heap.objs.size 0 .none->dS T h' s.heap.objs.size l 0->(∀f o,s.heap.get? f=some o->h'.get? f=some o)->Q (.ref (s.heap.objs.size+1)) {s with heap:=h'}):
  wpAny (model prog w) A (call (.type "enumerate") [.ref l]) Q E s:=by
 refine callType_new F.called_enumerate (by decide) (F.typeCall_enumerate_1 _) (F.newCall_enumerate_1 _) (λ ob=>F.args_object_init_2 ob _) F.entry_enumerate_new (wK kk l vs) ⟨a1,?_⟩
 have e1:(Su T s.heap l).objs.size=s.heap.objs.size+1:=C3 ..
 have g2:(U' T s.heap l).get? (Su T s.heap l).objs.size=some _:=o8 _ rfl
 have g1:(U' T s.heap l).get? s.heap.objs.size=some _:=k5 _ (o8 s.heap rfl)
 rw[e1]at g2
 show _/\_
 rw[e1]
 exact⟨⟨_,g2,rfl⟩,k _ g2 ⟨_,g1,rfl,rfl⟩ λ f o x=>k5 _ (k5 _ x)⟩
theorem Cw{T:String}{S:Heap->Addr->Array Value->Prop}(k:NK T S){prog:Program}{w:World}{A:Around}(hA:A.handled=none)(j l:Addr)(ne:l≠j)(vs:Array Value):
  Draws prog w A j [j,l] vs.size (λ i v=>vs[i]?=some v) (λ i h=>dS T h j l i/\S h l vs) where
 live:=λ _ _ st=>let⟨⟨o,ho,_⟩,_⟩:=st;⟨o,ho⟩
 frame:=λ _ _ _ st q=>let⟨⟨o,ho,r⟩,su⟩:=st;⟨⟨o,q j (by simp) o ho,r⟩,k.keep su λ o e=>q l (by simp) o e⟩
 item:=λ i s Q E hi st kk=>k.item st.1 st.2 (i4 hi) λ h' a b=>kk _ h' s.toks (i4 hi) ⟨a,k.keep st.2 λ o e=>b.extBut _ _ ne e⟩ b
 done:=λ s Q E st kk=>k.stop hA st.1 st.2 (k4 (E9 _)) kk
end L5
namespace L2
open PySem PySem.Spec PyProof.Rows L5
def SG(K:PySem.W.Frag)(b:Bool)(l:Addr):It:=
 ⟨λ i H=>∃xs x,Sq b K H l xs/\xs[i]?=some x,
  λ i H v H'=>∃(p:Addr) (x:V),H p=none/\v=.ref p/\H'=upd H p (.tup [.int i,x])/\∀xs,Sq b K H l xs->xs[i]?=some x,
  λ i H=>∃xs,Sq b K H l xs/\xs.length<=i⟩
def Wt(b:Bool)(e j l:Addr)(i:Nat)(h:Heap):Prop:=(∃old,IsEnum h e j i old)/\dS (Rw b) h j l i
theorem zh{P:Program}{w:World}{K:PySem.W.Frag}{es:List Expr}{k0}{pos:Pos}{e j:Addr}(b:Bool)(B:e≠j)(l:Addr):Turn P w K (.Tuple es k0 pos) (SG K b l) [e,j] e (Wt b e j l) where
 mem:=by simp
 obj:=λ i h st c hc=>by
  obtain⟨⟨old,he⟩,⟨oa,ha,_,da⟩⟩:=st
  rcases D3.mp hc with rfl|hc
  ·exact⟨_,he,λ v z=>by cases z⟩
  rcases D3.mp hc with rfl|hc
  ·exact⟨_,ha,λ v z=>by rw[da]at z;cases z⟩
  ·cases hc
 keep:=λ i h h' st q=>by
  obtain⟨⟨old,he⟩,⟨oa,ha,r⟩⟩:=st
  exact⟨⟨old,q e (by simp) _ he⟩,⟨oa,q j (by simp) _ ha,r⟩⟩
 item:=by
  intro X hP hw hK hc i pins s σ H E I hf st hg
  subst hP hw hK
  obtain⟨xs,x,hl,hx⟩:=hg
  obtain⟨⟨old,he⟩,hj⟩:=st
  obtain⟨MA,r1,p1⟩:=eQ I hl
  obtain⟨u1,e1,q1⟩:=r1.get hx
  have lj:l≠j:=gT I (hf j (by simp)) hl
  have le:l≠e:=gT I (hf e (by simp)) hl
  have hi:i < MA.toArray.size:=by
   have:=(i6.mp e1).1
   simpa using this
  refine wpAny_pyNext_enum_itemD (Cw (js b) (A:=X.A.in1) (I.ok.hd hc) j l lj MA.toArray) he ⟨hj,p1⟩ hi B (by simp;exact⟨B,J8 le⟩) λ y g tk g1 g2 g3 g4 g5 g6=>?_
  have ey:y=u1:=by
   rw[getElem?_toArray,e1]at g1
   cases g1
   rfl
  subst ey
  have hn:H s.heap.objs.size=none:=I.bO.fresh (E9 _)
  have I1:Inv X pins σ H {s with heap:=g,toks:=tk+1}:=iE (t':=tk+1) I (ch:=[e,j]) (λ c o hc e=>g6 c o (λ z=>hc (by simp[z])) (λ z=>hc (by simp[z])) e) hf
  refine⟨_,rfl,wpAny_letOwnedTupleGo_enum (s:={s with heap:=g,toks:=tk+1}) g2 λ g' e' sb=>?_⟩
  have I2:Inv X pins σ H {s with heap:=g',toks:=tk+1}:=iE (s:={s with heap:=g,toks:=tk+1}) (t':=tk+1) (ch:=[e]) I1 (λ c o hc q=>sb.extBut _ _ (λ z=>hc (by simp[z])) q) (λ c hc=>hf c (by simp at hc ⊢;exact .inl hc))
  have fo:=I.iS (H':=H) (E9 s.heap.objs.size) hn
  have VA:e < s.heap.objs.size:=E2 he
  have WN:j < s.heap.objs.size:=let⟨_,q,_⟩:=hj;E2 q
  have t5:=sb.extBut _ _ (Nat.ne_of_gt VA) g4
  have I3:Inv X pins σ (upd H s.heap.objs.size (.tup [.int i,x])) {s with heap:=g',toks:=tk+1}:=Inv.o_ I2 hn ⟨show 2<=sizeLine by decide,[.int i tk,y],.cons ⟨tk,rfl⟩ (.cons q1 .nil),⟨_,t5,rfl,_,rfl⟩⟩ fo.2.1 (E8 I.sz (E9 _)) fo.2.2.2.2.1 fo.2.2.2.2.2
  refine⟨.ref s.heap.objs.size,_,I3,rfl,⟨s.heap.objs.size,x,hn,rfl,rfl,λ SJ h'=>by rw[vF I h' hl];exact hx⟩,⟨⟨_,by simpa using e'⟩,?_⟩,λ c hc=>?_⟩
  ·obtain⟨o,ho,r⟩:=g3.1
   exact⟨o,sb.extBut _ _ (J8 B) ho,r⟩
  ·have fO:c < s.heap.objs.size:=by
    simp at hc
    rcases hc with rfl|rfl
    ·exact VA
    ·exact WN
   rw[aX (E1 fO)]
   exact(hf c hc).1
 done:=by
  intro X hP hw hK hc i pins s σ H E I hf st hg
  subst hP hw hK
  obtain⟨xs,hl,hx⟩:=hg
  obtain⟨⟨old,he⟩,hj⟩:=st
  obtain⟨MA,r1,p1⟩:=eQ I hl
  have l1:=r1.length
  have lj:l≠j:=gT I (hf j (by simp)) hl
  have hT:s.TypeIs (.ref e) "enumerate":=⟨_,he,rfl⟩
  unfold pyNext
  refine G8 (C6 (j6 (name:=Str.ofString "__next__") hT F.slot_enumerate_next (A0 F.slot_enumerate_next hT F.entry_enumerate_next ?_ (F.args_enumerate_next_1 _))))
  refine G8 (m:=field (.ref e) 2) (G6 he rfl (x:=.ref j) rfl ?_)
  refine G8 ((js b).stop (A:=X.A.in1) (I.ok.hd hc) hj p1 (k4 (by simp;omega)) λ g c g1 g2=>?_)
  obtain⟨o,ho,zX⟩:=g2
  refine G8 (wpAny_isInstance (T:="StopIteration") (b:=true) ⟨o,ho,zX⟩ isSubtype_stop (G9 ⟨rfl,?_⟩))
  exact iE (t':=s.toks) (ch:=[j]) I (λ b o hb q=>g1 b o (λ z=>hb (by simp[z])) q) λ b hb=>hf b (by simp at hb ⊢;exact .inr hb)
 self:=λ _ _ _ _ _ st h=>wpAny_pyIter_enum st.1.choose_spec h
section
variable {X:Cx}{es:List Expr}{k0:_}{mR:Pos}{a:Expr}{ta:TA}{p pos:Pos}
def PR(K:PySem.W.Frag)(ta:TA):TI:=λ σ H R=>ta σ H λ vs H1=>∃(b:Bool) (l:Addr),vs=[.ref l]/\(∃xs,Sq b K H1 l xs)/\R (SG K b l) H1
theorem Gw(hg:Gl X "enumerate")(hm:X.mg "enumerate"=none)(ha:PA X [a] ta)(hs:starEach [a] X.env=[(false,eval a X.env)]:=by rfl)(hZ:starEach [] X.env=[]:=by rfl):
  PI X (.Tuple es k0 mR) (.Call (.Name "enumerate" p) [a] [] pos) (PR X.K ta):=by
 intro pins s σ H R I h
 refine Call_ (fA I hg hm boot_enumerate (e6 (cV (ha pos pins s σ H _ I h) λ us s1 ⟨vs,H1,I1,r1,q1⟩=>?_) (by rw[hs,hZ]) (by rw[hZ];rfl)))
 obtain⟨b,l,e,⟨xs,hl⟩,q⟩:=q1
 subst e
 obtain⟨u1,rfl,r⟩:=vals1 r1
 cases(show u1=Value.ref l from r)
 obtain⟨MA,r1,p1⟩:=eQ I1 hl
 refine G_ (js b) p1 λ g g1 g2 g7=>wpAny_pyIter_enum (s:={s1 with heap:=g}) g1 ?_
 have I2:Inv X pins σ H1 {s1 with heap:=g}:=I1.kept (t':=s1.toks) g7
 have fr:∀c,s1.heap.objs.size<=c->gB X pins H1 c:=λ c hc=>I1.iS hc (I1.bO.fresh hc)
 have ne:s1.heap.objs.size+1≠s1.heap.objs.size:=by omega
 refine⟨_,[s1.heap.objs.size+1,s1.heap.objs.size],_,_,H1,rfl,I2,zh b ne l,⟨⟨_,g1⟩,g2⟩,λ c hc=>fr c ?_,q⟩
 simp at hc
 rcases hc with rfl|rfl <;> omega
end
end L2
namespace L3
open PySem PySem.Spec L2 L5
def eZ(ds:List D):List D:=(List.range ds.length).map λ(i:Nat)=>D.tup [.int (i:Int),ds.getD i D.bx]
theorem fS(ds:List D):(eZ ds).length=ds.length:=by simp[eZ]
def kindB:D->Bool
 | .tup _=>true
 |_=>false
theorem gj{K:PySem.W.Frag}{H:Hp}{M:Mem}{d:D}{ds:List D}{x:V}(e:cT M d=some ds)(h:Dat K H d x)(hm:RelM K H M):∃p xs,x=.ref p/\Sq (kindB d) K H p xs/\aE K H ds xs:=by
 cases d with
 |tup es=>
  cases(show some es=some ds from e)
  obtain⟨p,xs,rfl,h1,h2⟩:=aS.mp h
  exact⟨p,xs,rfl,h1,h2⟩
 |fl es=>
  cases(show some es=some ds from e)
  obtain⟨p,xs,rfl,h1,h2⟩:=iT.mp h
  exact⟨p,xs,rfl,h1.sq,h2⟩
 |ref a=>
  cases(aF.mp h)
  obtain⟨xs,h1,h2⟩:=dO (show aY M a=some ds from e) hm
  exact⟨a,xs,rfl,dD.of h1,h2⟩
 |_=>cases e
def ux(x:D)(M:Mem):Option (List D):=(cT M x).map eZ
theorem zS{K:PySem.W.Frag}{H1:Hp}{a:Addr}{x:D}(hx:Dat K H1 x (.ref a)):oQ K H1 (SG K (kindB x) a) (.fn (ux x)):=λ H M fs t hm e=>by
 have e:(cT M x).map eZ=some fs:=e
 cases e1:cT M x with
 |none=>rw[e1]at e;cases e
 |some ds=>
  rw[e1]at e
  cases e
  obtain⟨p,xs,e3,q1,x1⟩:=gj e1 (Dat.mono t x hx) hm
  cases e3
  have l1:=x1.length
  rw[fS]
  refine⟨λ i hi=>⟨xs,xs[i]'(by omega),q1,by simp⟩,λ i hi=>⟨xs,q1,by omega⟩,λ i v H' hi y=>?_⟩
  obtain⟨p,v,hp,rfl,rfl,hx⟩:=y
  obtain⟨d,d1,d2⟩:=x1.nM (hx xs q1)
  refine⟨av.laid hp,hm.laid hp,.tup [.int i,d],?_,gh hp (aj.mpr ⟨.int i,[v],rfl,ax.mpr rfl,aE.one d2⟩)⟩
  obtain⟨z1,w1⟩:=i6.mp d1
  simp[eZ,z1,w1]
def C'(ta:iW):lP:=λ δ M R=>ta δ M λ ds M1=>match ds with
 |[.tup xs]=>R (.fix (eZ xs)) M1
 |[x]=>(∃zs,cT M1 x=some zs)/\R (.fn (ux x)) M1
 |_=>False
section
variable {X:Cx}{es:List Expr}{k0:_}{mR:Pos}{a:Expr}{ta:iW}{p pos:Pos}
theorem Gd(hg:Gl X "enumerate")(hm:X.mg "enumerate"=none)(ha:QA X [a] ta)(hs:starEach [a] X.env=[(false,eval a X.env)]:=by rfl)(hZ:starEach [] X.env=[]:=by rfl):
  QI X (.Tuple es k0 mR) (.Call (.Name "enumerate" p) [a] [] pos) (C' ta):=xT (Gw hg hm ha hs hZ) λ σ H R ⟨δ,M,R2,hs,hm,q,k⟩=>by
 refine⟨δ,M,_,hs,hm,q,λ xs H1 ds M1 hd bW t1 q1=>?_⟩
 have go:∀x,ds=[x]->(∃zs,cT M1 x=some zs)->(∀J,oQ X.K H1 J (.fn (ux x))->R J H1)->∃(b:Bool) (l:Addr),xs=[.ref l]/\(∃xs,Sq b X.K H1 l xs)/\R (SG X.K b l) H1:=by
  rintro x rfl ⟨zs,hz⟩ hR
  obtain⟨vx,r,rfl,hx,hr⟩:=aj.mp hd
  cases(aq.mp hr)
  obtain⟨p,vs,rfl,q1,_⟩:=gj hz hx bW
  exact⟨_,p,rfl,⟨vs,q1⟩,hR _ (zS hx)⟩
 match ds,q1 with
 |[x],q1=>
  by_cases ht:∃xs,x=.tup xs
  ·obtain⟨xs,rfl⟩:=ht
   exact go _ rfl ⟨_,rfl⟩ λ J hJ=>k J H1 (.fix (eZ xs)) M1 (λ H M ds t hm e=>hJ H M ds t hm e) bW t1 q1
  ·have q2:(∃zs,cT M1 x=some zs)/\R2 (.fn (ux x)) M1:=by
    cases x <;> first|exact q1|exact absurd ⟨_,rfl⟩ ht
   exact go x rfl q2.1 λ J hJ=>k J H1 _ M1 hJ bW t1 q2.2
 |[],q1=>exact q1.elim
 |x::y::r,q1=>cases x <;> exact q1.elim
end
end L3
namespace L4
open PySem PySem.Spec L2 L3 L5
section
variable {X:Cx}{es:List Expr}{k0:_}{mR:Pos}{a:Expr}{ta:iW}{p pos:Pos}
theorem lT(hg:Gl X "enumerate")(hm:X.mg "enumerate"=none)(ha:WA X [a] ta)(hs:starEach [a] X.env=[(false,eval a X.env)]:=by rfl)(hZ:starEach [] X.env=[]:=by rfl):
  WI X (.Tuple es k0 mR) (.Call (.Name "enumerate" p) [a] [] pos) (C' ta):=⟨Gd hg hm ha.h hs hZ⟩
end
end L4
namespace L2
open PySem PySem.Spec PyProof.Rows
section
variable {X:Cx}
theorem GI:fu X (binaryOp .Add) (λ x y H Q=>∃a b ys,x=.ref a/\y=.ref b/\f_ X.K H a []/\f_ X.K H b ys/\Q (.ref b) H):=by
 intro pins s σ H x y v u Q I rx ry h
 obtain⟨a,b,ys,rfl,rfl,ha,hb,q⟩:=h
 cases rx
 cases ry
 obtain⟨i1,r1,p1,_⟩:=I.tuple ha
 obtain⟨i2,r2,p2,_⟩:=I.tuple hb
 cases r1
 obtain⟨⟨c1,d1,a1,l1⟩,o1,k1,n1,e1⟩:=id p1
 obtain⟨⟨c2,d2,a2,l2⟩,o2,k2,n2,e2⟩:=id p2
 cases(show c1=.type "tuple" from k1)
 cases(show a1=_ from e1)
 cases(show c2=.type "tuple" from k2)
 cases(show a2=_ from e2)
 exact concat_meets ⟨_,o1,rfl⟩ ⟨_,o2,rfl⟩ noFill_tuple_add seq_tuple_add PySem.F.slot_tuple_add PySem.F.entry_tuple_add (PySem.F.args_tuple_add_2 _ _) (tuple_addW0 a b #[] i2.toArray n1 n2 d1 d2 l1 l2 rfl) ⟨o1,o2,⟨.ref b,H,I,rfl,q⟩⟩
end
end L2
namespace L3
open PySem PySem.Spec L2
section
variable {X:Cx}
def uJ:fX:=λ x y M Q=>HW x y M Q\/∃ys,x=.tup []/\y=.tup ys/\Q (.tup ys) M
theorem bp:fF X (binaryOp .Add) uJ:=by
 obtain⟨r,h1,h2⟩:=(Pq:fF X (binaryOp .Add) HW)
 refine⟨_,h1.or GI,λ x y d e H M Q2 Q hd he hm q k=>?_⟩
 rcases q with q|⟨ys,rfl,rfl,q⟩
 ·exact .inl (h2 x y d e H M Q2 Q hd he hm q k)
 ·obtain⟨p,vs,rfl,hp,hx⟩:=aS.mp hd
  obtain⟨p2,ws,rfl,h_,hy⟩:=aS.mp he
  cases(aq.mp hx)
  exact .inr ⟨p,p2,ws,rfl,rfl,hp,h_,k _ H _ M (aS.mpr ⟨p2,ws,rfl,h_,hy⟩) hm (av.refl H) q⟩
end
section
variable {M:Mem}{Q:bL}
theorem BJ{i j:Int}(q:Q (.int (i+j)) M):uJ (.int i) (.int j) M Q:=.inl q
theorem sQ{i j:Str}(h:i.length+j.length<=sizeLine)(q:Q (.str (i++j)) M):uJ (.str i) (.str j) M Q:=.inl ⟨h,q⟩
theorem nc{a b:Addr}{xs ys:List D}(ha:M a=some (.lst xs))(hb:M b=some (.lst ys))(h:xs.length+ys.length<=sizeLine)(q:∀p,M p=none->Q (.ref p) (ai M p (.lst (xs++ys)))):uJ (.ref a) (.ref b) M Q:=.inl (FT ha hb h q)
theorem sP{xs ys:List D}(h:xs.length+ys.length<=sizeLine)(q:Q (.tup (xs++ys)) M):uJ (.tup xs) (.tup ys) M Q:=by
 cases xs with
 |nil=>exact .inr ⟨ys,rfl,rfl,q⟩
 |cons x xs=>exact .inl ⟨by simp,h,q⟩
end
end L3
namespace L3
open PySem L2
section
variable {g:gA}{tt:eO}{te:bX}{δ δc:de}{M1:Mem}{Qe:List D->Mem->Prop}
theorem Tb{n:Nat}(h:n<=10000):n<=sizeLine:=E8 h (by decide)
theorem rD{α β:Type}{xs:List α}{enc:α->D}(wL:β->D)(I:List β->Mem->Prop)(hn:xs.length<=10000)(h0:I [] M1)
  (hs:∀(i:Nat) (x:α) (ys:List β) (M:Mem) (N:D->Mem->Prop),xs[i]?=some x->ys.length=i->I ys M->(∀b M',I (ys++[b]) M'->N (wL b) M')->g (enc x) δc M λ δ2 M2=>te δ2 M2 N)
  (hd:∀ys M,ys.length=xs.length->I ys M->Qe (ys.map wL) M):
  ∃(B:Nat) (W:Nat->List D->Mem->Prop),W 0 [] M1/\∀i acc M,W i acc M->i<=B/\acc.length<=sizeLine/\match items (.fix (xs.map enc)) M with
   |none=>False
   |some ds=>match ds[i]? with
    |none=>i=ds.length/\Qe acc M
    |some d=>g d δc M λ δ2 M2=>ql δ2 M2 λ b M3=>if b=true then te δ2 M3 λ y M4=>W (i+1) (acc++[y]) M4 else W (i+1) acc M3:=by
 refine ip (λ i acc M=>∃ys:List β,acc=ys.map wL/\ys.length=i/\I ys M) ⟨[],rfl,rfl,h0⟩ (λ i acc M hi h=>?_) (λ i d acc M hd h=>?_) (λ acc M h=>?_)
 ·obtain⟨ys,rfl,h1,_⟩:=h
  rw[B7]at hi ⊢
  exact Tb (by omega)
 ·obtain⟨ys,rfl,h1,h2⟩:=h
  rw[s9]at hd
  cases e:xs[i]? with
  |none=>rw[e]at hd;cases hd
  |some x=>
   rw[e]at hd
   cases hd
   refine hs i x ys M _ e h1 h2 λ b M' hb=>⟨ys++[b],by rw[B9];rfl,by simp[h1],hb⟩
 ·obtain⟨ys,rfl,h1,h2⟩:=h
  rw[B7]at h1
  exact hd ys M h1 h2
theorem uT{α β:Type}{a:Addr}{xs:List α}(enc:α->D)(wL:β->D)(I:List β->Mem->Prop)(hn:xs.length<=10000)(h0:I [] M1)(hl:∀ys M,I ys M->M a=some (.lst (xs.map enc)))
  (hs:∀(i:Nat) (x:α) (ys:List β) (M:Mem) (N:D->Mem->Prop),xs[i]?=some x->ys.length=i->I ys M->(∀b M',I (ys++[b]) M'->N (wL b) M')->g (enc x) δc M λ δ2 M2=>te δ2 M2 N)
  (hd:∀ys M,ys.length=xs.length->I ys M->Qe (ys.map wL) M):
  ∃(B:Nat) (W:Nat->List D->Mem->Prop),W 0 [] M1/\∀i acc M,W i acc M->i<=B/\acc.length<=sizeLine/\match items (.at a) M with
   |none=>False
   |some ds=>match ds[i]? with
    |none=>i=ds.length/\Qe acc M
    |some d=>g d δc M λ δ2 M2=>ql δ2 M2 λ b M3=>if b=true then te δ2 M3 λ y M4=>W (i+1) (acc++[y]) M4 else W (i+1) acc M3:=by
 refine jJ (ds:=xs.map enc) (λ i acc M=>∃ys:List β,acc=ys.map wL/\ys.length=i/\I ys M) ⟨[],rfl,rfl,h0⟩ (λ i acc M hi h=>?_) (λ i acc M hi h=>?_) (λ i d acc M hd h=>?_) (λ acc M h=>?_)
 ·obtain⟨ys,rfl,h1,h2⟩:=h
  exact hl ys M h2
 ·obtain⟨ys,rfl,h1,_⟩:=h
  rw[B7]at hi ⊢
  exact Tb (by omega)
 ·obtain⟨ys,rfl,h1,h2⟩:=h
  rw[s9]at hd
  cases e:xs[i]? with
  |none=>rw[e]at hd;cases hd
  |some x=>
   rw[e]at hd
   cases hd
   refine hs i x ys M _ e h1 h2 λ b M' hb=>⟨ys++[b],by rw[B9];rfl,by simp[h1],hb⟩
 ·obtain⟨ys,rfl,h1,h2⟩:=h
  rw[B7]at h1
  exact hd ys M h1 h2
theorem take_one{α:Type}{l:List α}{i:Nat}{a:α}(h:l[i]?=some a):l.take (i+1)=l.take i++[a]:=by
 rw[take_add_one,h]
 rfl
theorem dX{α:Type}{xs:List α}{enc:α->D}(out:α->D)(hn:xs.length<=10000)
  (hs:∀(i:Nat) (x:α) (N:D->Mem->Prop),xs[i]?=some x->N (out x) M1->g (enc x) δc M1 λ δ2 M2=>te δ2 M2 N)
  (hd:Qe (xs.map out) M1):
  ∃(B:Nat) (W:Nat->List D->Mem->Prop),W 0 [] M1/\∀i acc M,W i acc M->i<=B/\acc.length<=sizeLine/\match items (.fix (xs.map enc)) M with
   |none=>False
   |some ds=>match ds[i]? with
    |none=>i=ds.length/\Qe acc M
    |some d=>g d δc M λ δ2 M2=>ql δ2 M2 λ b M3=>if b=true then te δ2 M3 λ y M4=>W (i+1) (acc++[y]) M4 else W (i+1) acc M3:=by
 refine rD (β:=α) out (λ ys M=>M=M1/\ys=xs.take ys.length) hn ⟨rfl,rfl⟩ (λ i x ys M N hx hy h k=>?_) (λ ys M hy h=>?_)
 ·obtain⟨rfl,h⟩:=h
  refine hs i x N hx (k x M ⟨rfl,?_⟩)
  rw[p6,l6,take_one (a:=x) (by rw[hy];exact hx),<- h]
 ·obtain⟨rfl,h⟩:=h
  rw[hy,z9]at h
  rw[h]
  exact hd
abbrev Tx(p:Int×Int):D:=.tup [.int p.1,.int p.2]
theorem zip_map(as bs:List Int):iH (as.map D.int) (bs.map D.int)=(as.zip bs).map Tx:=by
 unfold iH Tx
 rw[List.zip_map,E4]
 rfl
theorem Ny{as bs:List Int}(out:Int×Int->D)(hn:as.length<=10000)
  (hs:∀(i:Nat) (x:Int×Int) (N:D->Mem->Prop),(as.zip bs)[i]?=some x->N (out x) M1->g (Tx x) δc M1 λ δ2 M2=>te δ2 M2 N)
  (hd:Qe ((as.zip bs).map out) M1):
  ∃(B:Nat) (W:Nat->List D->Mem->Prop),W 0 [] M1/\∀i acc M,W i acc M->i<=B/\acc.length<=sizeLine/\match items (.fix (iH (as.map D.int) (bs.map D.int))) M with
   |none=>False
   |some ds=>match ds[i]? with
    |none=>i=ds.length/\Qe acc M
    |some d=>g d δc M λ δ2 M2=>ql δ2 M2 λ b M3=>if b=true then te δ2 M3 λ y M4=>W (i+1) (acc++[y]) M4 else W (i+1) acc M3:=by
 rw[zip_map]
 exact dX out (by rw[length_zip];omega) hs hd
theorem pT{α:Type}{a:Addr}{xs:List α}(enc out:α->D)(hn:xs.length<=10000)(hl:M1 a=some (.lst (xs.map enc)))
  (hs:∀(i:Nat) (x:α) (N:D->Mem->Prop),xs[i]?=some x->N (out x) M1->g (enc x) δc M1 λ δ2 M2=>te δ2 M2 N)
  (hd:Qe (xs.map out) M1):
  ∃(B:Nat) (W:Nat->List D->Mem->Prop),W 0 [] M1/\∀i acc M,W i acc M->i<=B/\acc.length<=sizeLine/\match items (.at a) M with
   |none=>False
   |some ds=>match ds[i]? with
    |none=>i=ds.length/\Qe acc M
    |some d=>g d δc M λ δ2 M2=>ql δ2 M2 λ b M3=>if b=true then te δ2 M3 λ y M4=>W (i+1) (acc++[y]) M4 else W (i+1) acc M3:=by
 refine uT (β:=α) enc out (λ ys M=>M=M1/\ys=xs.take ys.length) hn ⟨rfl,rfl⟩ (λ ys M h=>by rw[h.1];exact hl) (λ i x ys M N hx hy h k=>?_) (λ ys M hy h=>?_)
 ·obtain⟨rfl,h⟩:=h
  refine hs i x N hx (k x M ⟨rfl,?_⟩)
  rw[p6,l6,take_one (a:=x) (by rw[hy];exact hx),<- h]
 ·obtain⟨rfl,h⟩:=h
  rw[hy,z9]at h
  rw[h]
  exact hd
end
abbrev ID(i:Nat):D:=.int ((0:Int)+(i:Nat))
theorem Ka(i:Nat):ID i=.int (i:Int):=by show D.int (0+(i:Int))=_;rw[D8]
theorem DO{α:Type}(xs:List α)(enc:α->D):eZ (xs.map enc)=xs.zipIdx.map λ p=>D.tup [.int (p.2:Int),enc p.1]:=by
 refine ext_getElem? λ i=>?_
 unfold eZ
 rw[s9,s9,getElem?_zipIdx,B7]
 by_cases h:i < xs.length
 ·rw[n5 h,i9 h]
  simp[h]
 ·rw[l9 (by simpa using h),l9 (by simpa using h)]
  rfl
def NH(R:Src->Mem->Prop)(d:D)(M1:Mem):Prop:=match d with
 | .str z=>R (.fix (jW z)) M1
 | .tup ds=>R (.fix ds) M1
 | .fl ds=>R (.fix ds) M1
 | .ref a=>(match M1 a with
  |some (.lst _)=>R (.at a) M1
  |_=>False)
 |_=>False
theorem FO{ta:bX}{δ:de}{M:Mem}{R:Src->Mem->Prop}(h:ta δ M (NH R)):Mt ta δ M R:=h
theorem FP{ds:List D}{M:Mem}{R:Src->Mem->Prop}(h:R (.fix ds) M):NH R (.tup ds) M:=h
theorem FQ{a:Addr}{ds:List D}{M:Mem}{R:Src->Mem->Prop}(hM:M a=some (.lst ds))(h:R (.at a) M):NH R (.ref a) M:=by
 show(match M a with|some (.lst _)=>R (.at a) M|_=>False)
 rw[hM]
 exact h
end L3
namespace KK
open PySem L3 L4 L5
open L2 hiding bD oB
def Jg(c:Addr)(p b sd ct:Int):List D:=[.ref c,.int p,.int b,.int sd,.int ct]
structure Flow(M:Mem)(f c:Addr):Prop where
 ex:∃(ns:List Int) (p b sd ct:Int),M f=some (.lst (Jg c p b sd ct))/\M c=some (.lst (ns.map D.int))/\c≠f/\0<=p/\0<=b/\0<=sd/\sd < 2147483647
def eR:fe:=λ ds M Q=>∃(f c:Addr) (n:Int),ds=[.ref f,.int n]/\Flow M f c/\0 < n/\n < 1073741824/\∀(d:Int) (o:MO),0<=d->d < n->Flow (ai M f o) f c->Q (.int d) (ai M f o)
structure Fl(f c:Addr)(M M':Mem):Prop where
 aH:Flow M' f c
 mv:∀b o,b≠f->M b=some o->M' b=some o
theorem Fl.trans {f c:Addr}{M M1 M2:Mem}(a:Fl f c M M1)(b:Fl f c M1 M2):Fl f c M M2:=⟨b.aH,λ c o h e=>b.mv c o h (a.mv c o h e)⟩
theorem Fl.pick {f c:Addr}{M:Mem}{o:MO}(h:Flow (ai M f o) f c):Fl f c M (ai M f o):=⟨h,λ b o' hb e=>by rw[ah hb];exact e⟩
theorem Flow.there {M:Mem}{f c:Addr}(h:Flow M f c):∃o,M f=some o:=by obtain⟨ns,p,b,sd,ct,h,_⟩:=h;exact⟨_,h⟩
theorem Flow.JF {M:Mem}{f c:Addr}(h:Flow M f c):∃o,M c=some o:=by obtain⟨ns,p,b,sd,ct,_,h,_⟩:=h;exact⟨_,h⟩
theorem Flow.put {M:Mem}{f c q:Addr}{o:MO}(h:Flow M f c)(n:M q=none):Flow (ai M q o) f c:=by
 obtain⟨ns,p,b,sd,ct,h1,h2,h3⟩:=h
 exact⟨ns,p,b,sd,ct,by rw[ah (λ z=>by rw[z,n]at h1;cases h1)];exact h1,by rw[ah (λ z=>by rw[z,n]at h2;cases h2)];exact h2,h3⟩
theorem Fl.put {M:Mem}{f c q:Addr}{o:MO}(h:Flow M f c)(n:M q=none):Fl f c M (ai M q o):=⟨h.put n,λ b o' hb e=>by rw[ah (λ z=>by rw[z,n]at e;cases e)];exact e⟩
theorem Flow.ne {M:Mem}{f c q:Addr}(h:Flow M f c)(n:M q=none):q≠f/\q≠c:=by
 constructor
 ·intro z
  subst z
  obtain⟨o,e⟩:=h.there
  rw[n]at e
  cases e
 ·intro z
  subst z
  obtain⟨o,e⟩:=h.JF
  rw[n]at e
  cases e
theorem Fl.own {M M':Mem}{f c q:Addr}{o:MO}(h:Fl f c M M')(h0:Flow M f c)(n:M q=none):Fl f c M (ai M' q o):=by
 obtain⟨n1,n2⟩:=h0.ne n
 obtain⟨ns,p,b,sd,ct,h1,h2,h3⟩:=h.aH
 refine⟨⟨ns,p,b,sd,ct,by rw[ah (J8 n1)];exact h1,by rw[ah (J8 n2)];exact h2,h3⟩,λ b o' hb e=>?_⟩
 rw[ah (λ z=>by rw[z,n]at e;cases e)]
 exact h.mv b o' hb e
def IA(B:Nat):fe:=λ ds M Q=>∃f c,ds=[.ref f]/\Flow M f c/\∀(z:Str) (M':Mem),z.length<=B->Fl f c M M'->Q (.str z) M'
theorem small{n:Nat}(h:n<=10000):n<=sizeLine:=E8 h (by decide)
theorem len_app(x y:Str):(x++y).length=x.length+y.length:=by
 show(x.cps++y.cps).size=x.cps.size+y.cps.size
 simp
theorem vc{zs:List Str}{d:Int}(h0:0<=d)(h1:d < zs.length):∃z,z∈zs/\iq (zs.map D.str) d=some (.str z):=by
 have hl:d.toNat < zs.length:=by omega
 have e:((d.toNat:Nat):Int)=d:=by omega
 have q:iq (zs.map D.str) ((d.toNat:Nat):Int)=some (.str zs[d.toNat]):=bV (by simp[hl])
 rw[e]at q
 exact⟨_,A4 hl,q⟩
def Bb:fe:=λ ds M Q=>∃ns:List Int,ds=[.fl (ns.map D.int)]/\∀f c M',Flow M' f c->Q (.ref f) M'
theorem bQ{lo:Int}{n i:Nat}{d:D}(h:(g_ lo n)[i]?=some d):i < n/\d=.int (lo+(i:Nat)):=by
 have hi:i < n:=by have:=(i6.mp h).1;rwa [aV]at this
 rw[nh hi]at h
 exact⟨hi,(B2 h).symm⟩
theorem CY:∀zs:List Str,(Txt.join (Str.ofString "") zs).length=(zs.map (·.length)).sum:=by
 intro zs
 show(Builtin.Str.glued (Str.ofString "") zs).length=_
 rw[StrLaws.glued_eq_join,show Str.ofString ""=⟨#[]⟩ by decide+kernel]
 induction zs with
 |nil=>rfl
 |cons z zs ih=>rw[PyProof.Rows.join_nil_cons,len_app,ih,D1,sum_cons]
def vf(acc:List D)(i:Nat):Prop:=∃zs:List Str,acc=zs.map D.str/\(zs.map (·.length)).sum<=i/\zs.length=i
theorem vf.nil:vf [] 0:=⟨[],rfl,E9 _,rfl⟩
theorem vf.snoc {acc:List D}{i:Nat}(h:vf acc i){z:Str}(hz:z.length<=1):vf (acc++[.str z]) (i+1):=by
 obtain⟨zs,rfl,h1,h2⟩:=h
 refine⟨zs++[z],by simp,?_,by simp[h2]⟩
 rw[B9,sum_append]
 simp only[D1,map_nil,sum_cons,sum_nil]
 omega
theorem Hm{acc:List D}{n:Nat}(h:vf acc n)(hn:n<=1000){M:Mem}{Q:bL}(q:∀z:Str,z.length<=n->Q (.str z) M):nW (.str (Str.ofString "")) acc M Q:=by
 obtain⟨zs,rfl,h1,h2⟩:=h
 show(match fI (zs.map D.str)with|some ys=>(ys.map (·.length)).sum+ys.length*(Str.ofString "").length<=16777216/\Q (.str (Txt.join (Str.ofString "") ys)) M|none=>False)
 rw[pe]
 refine⟨?_,q _ ?_⟩
 ·have e:(Str.ofString "").length=0:=by decide+kernel
  rw[e]
  omega
 ·rw[CY];exact h1
def plus(as bs:List Int):List Int:=List.zipWith (·+·) as bs
theorem take_snoc{α:Type}{l:List α}{i:Nat}{a:α}(h:l[i]?=some a):l.take (i+1)=l.take i++[a]:=by
 rw[take_add_one,h]
 rfl
def less(as:List Int)(i:Nat):List Int:=as.take i++[as.getD i 0 - 1]++as.drop (i+1)
theorem fN{as:List Int}{i:Nat}(h:i < as.length):(less as i).length=as.length:=by
 unfold less
 simp only[p6,A3,l6,y8]
 omega
def Ax(as:List Int):L2.Ky:=(as.sum,as.map λ a=>0 - a)
def sG:fe:=λ ds M Q=>∃as:List Int,ds=[row as]/\as.length<=1000/\Q (.tup [.int as.sum,row (as.map λ a=>0 - a)]) M
def lX:fe:=λ ds M Q=>∃(x:D) (rs:List (List Int)),ds=[x]/\(x=.tup (rs.map row)\/∃l,x=.ref l/\M l=some (.lst (rs.map row)))/\rs.length < 64/\(∀r∈rs,r.length<=1000)/\∀out:List (List Int),(∀r∈out,r∈rs)->out.length<=rs.length->Q (.tup (out.map row)) M
theorem eu{ns:List Int}{i:Nat}(h:i < ns.length):iq (ns.map D.int) (i:Int)=some (.int (ns.getD i 0)):=by
 refine bV ?_
 simp[g9,h]
theorem jX{p:Addr}{ds:List D}{M:Mem}{Q:bL}(h:M p=some (.lst ds))(q:Q (.tup ds) M):rq [.ref p] M Q:=by
 show(match aY M p with|some ds=>Q (.tup ds) M|none=>False)
 unfold aY
 rw[h]
 exact q
theorem Lv{rs:List (List Int)}{lt:Nat->Nat->Bool}{outD:List D}(h:Out lt (rs.map row) D.bx outD):∃out:List (List Int),outD=out.map row/\(∀r∈out,r∈rs)/\out.length=rs.length:=by
 obtain⟨p,p1,p2,rfl⟩:=h
 rw[B7]at p1 p2
 have wD:∀i∈p.toList,i < rs.length:=λ i hi=>by
  have:=(Array.Perm.mem_iff p1 (a:=i)).mp (by simpa using hi)
  simpa using this
 refine⟨p.toList.map λ i=>rs.getD i [],?_,λ r hr=>?_,?_⟩
 ·rw[E4]
  refine map_congr_left λ i hi=>?_
  have:=wD i hi
  simp[g9,this]
 ·obtain⟨i,hi,rfl⟩:=E3.mp hr
  have:=wD i hi
  rw[g9,i9 this]
  exact A4 this
 ·rw[B7,o7,p1.size]
theorem back{M M1:Mem}{v:D}{Q:bL}(h:∀b o,M b=some o->M1 b=some o)(q:Q v M):fin2 Q v M1:=⟨M,λ a o e=>h a o e,q⟩
theorem oC{M M':Mem}(h:∀b o,M b=some o->M' b=some o){q:Addr}(n:M' q=none)(x:MO):∀b o,M b=some o->ai M' q x b=some o:=λ b o e=>by
 rw[ah (λ z=>by rw[<- z,h b o e]at n;cases n)]
 exact h b o e
theorem Em{ns:List Int}{d:Int}(h0:0<=d)(h1:d < ns.length):∃x,x∈ns/\iq (ns.map D.int) d=some (.int x):=by
 have hl:d.toNat < ns.length:=by omega
 have e:((d.toNat:Nat):Int)=d:=by omega
 have q:iq (ns.map D.int) ((d.toNat:Nat):Int)=some (.int ns[d.toNat]):=bV (by simp[hl])
 rw[e]at q
 exact⟨_,A4 hl,q⟩
theorem My{n:Nat}{d:Int}(h0:0<=d)(h1:d < n):wy n d=some d.toNat:=by
 unfold wy
 rw[J9 h0,J9 h1]
abbrev aG:=Str×List (List Int)
def eN:aG:=(Str.ofString "",[])
def eW(h:aG):D:=.tup [.str h.1,.tup (h.2.map row)]
def cC(g:List aG):D:=.tup (g.map eW)
structure fZ(n i:Nat)(r:List Int):Prop where
 len:r.length=n
 pos:∀x∈r,0<=x
 sum:r.sum<=4
 low:∀j,i<=j->r.getD j 0=0
structure cQ(n:Nat)(g:List aG):Prop where
 len:g.length=n
 ur:n<=12
 opts:∀i,i < n->(g.getD i eN).2.length<=63/\∀r∈(g.getD i eN).2,fZ n i r
def iU(ns:List Int)(n:Nat):List Int:=(List.range n).map λ(h:Nat)=>((ns.count (h:Int):Nat):Int)
theorem uS(ns:List Int)(n:Nat):(iU ns n).length=n:=by simp[iU]
theorem uR{ns:List Int}{n:Nat}:∀x∈iU ns n,0<=x:=λ x hx=>by
 obtain⟨h,_,rfl⟩:=E3.mp hx
 omega
theorem uQ(ns:List Int):∀n:Nat,(iU ns n).sum=(ns.countP λ x=>decide (0<=x/\x < (n:Int)):Nat)
 |0=>by
  have:ns.countP (λ x=>decide (0<=x/\x < ((0:Nat):Int)))=0:=countP_eq_zero.mpr λ x _=>by simp
  rw[this]
  rfl
 |n+1=>by
  have ih:=uQ ns n
  unfold iU at ih ⊢
  rw[range_succ,B9,sum_append,ih]
  simp only[D1,map_nil,sum_cons,sum_nil]
  have:ns.countP (λ x=>decide (0<=x/\x < ((n+1:Nat):Int)))=ns.countP (λ x=>decide (0<=x/\x < (n:Int)))+ns.count (n:Int):=by
   clear ih
   induction ns with
   |nil=>rfl
   |cons y ys ih=>
    rw[x8,x8,count_cons,ih]
    generalize List.countP _ ys=A
    generalize List.count _ ys=B
    by_cases h1:0<=y/\y < (n:Int)
    ·have h2:0<=y/\y < ((n+1:Nat):Int):=by omega
     have h3:¬(y=(n:Int)):=by omega
     rw[J9 (C1 h2),J9 (C1 h1),K0 (by simpa using h3)]
     omega
    ·by_cases h3:y=(n:Int)
     ·rw[J9 (C1 (by omega)),K0 (by simpa using h1),J9 (by simpa using h3)]
      omega
     ·rw[K0 (by simp only[u4];omega),K0 (by simpa using h1),K0 (by simpa using h3)]
      omega
  rw[this]
  omega
theorem Ec{ns:List Int}{n:Nat}:(iU ns n).sum<=ns.length:=by
 rw[uQ]
 have:=countP_le_length (p:=λ x=>decide (0<=x/\x < (n:Int))) (l:=ns)
 omega
theorem Eb{ns:List Int}{n i:Nat}(h:∀x∈ns,x < (i:Int))(j:Nat)(hj:i<=j):(iU ns n).getD j 0=0:=by
 unfold iU
 rw[g9,s9]
 by_cases hn:j < n
 ·rw[n5 hn]
  have:ns.count (j:Int)=0:=count_eq_zero.mpr λ z=>by have:=h _ z;omega
  simp[this]
 ·rw[l9 (by simpa using hn)]
  rfl
def gU:fe:=λ ds M Q=>∃(a:Addr) (ns:List Int) (n:Nat),ds=[.ref a,.int n]/\M a=some (.lst (ns.map D.int))/\n<=1000/\Q (row (iU ns n)) M
def AY:fe:=λ ds M Q=>∃(f c:Addr) (n:Nat) (m:Int),ds=[.ref f,.int n,.int m]/\Flow M f c/\n<=1000/\0<=m/\m<=1000/\∀(ns:List Int) (M':Mem),(ns.length:Int)<=m->(∀x∈ns,0<=x/\x < (n:Int))->Fl f c M M'->Q (row (iU ns n)) M'
def xB:fe:=λ ds M Q=>∃(f c:Addr) (n:Nat),ds=[.ref f,.int n]/\Flow M f c/\n<=1000/\∀(ms:List Int) (M':Mem),ms.length=n->(∀x∈ms,0<=x/\x<=10^30)->Fl f c M M'->Q (row ms) M'
theorem nO:∀zs:List Str,iG (zs.map D.str)=some (zs.map V.str)
 |[]=>rfl
 |z::zs=>by
  rw[D1]
  show(match nR (D.str z),iG (zs.map D.str)with|some v,some vs=>some (v::vs)|_,_=>none)=_
  rw[nO zs]
  rfl
theorem tZ(z:Str):∀zs:List Str,Dj (.str z) (zs.map V.str)=zs.contains z
 |[]=>rfl
 |y::ys=>by
  have ih:=tZ z ys
  unfold Dj at ih ⊢
  rw[D1,any_cons,ih,contains_cons]
  congr 1
  show(y==z)=(z==y)
  rw[A5,beq_iff_eq,beq_iff_eq]
  exact eq_comm
theorem Dk(z:Str)(zs:List Str):inD (.str z) (zs.map D.str)=some (zs.contains z):=by
 unfold inD
 rw[nO]
 show some (Dj (.str z) (zs.map V.str))=_
 rw[tZ]
theorem wd(c:Nat):MulOk ⟨#[c]⟩ 1:=⟨by decide,λ _ h=>(by have z:true=false:=h;cases z),λ _ h=>(by have z:true=false:=h;cases z)⟩
def uZ:List Nat:=(Str.ofString "zyxwvutsrqponmlkjihgfedcba").cps.toList
def rE(j:Nat):Str:=Txt.mul ⟨#[uZ.getD j 0]⟩ 1
theorem wW:((List.range 26).map rE).Nodup:=by decide+kernel
theorem tu:∀{l zs:List Str},l.Nodup->(∀x∈l,x∈zs)->l.length<=zs.length
 |[],zs,_,_=>G5 _
 |a::l,zs,hn,hs=>by
  rw[nodup_cons]at hn
  have ha:a∈zs:=hs a (o9 ..)
  have h1:=tu (l:=l) (zs:=zs.erase a) hn.2 λ x hx=>(mem_erase_of_ne (λ z=>hn.1 (by rw[<- z];exact hx))).mpr (hs x (m5 _ hx))
  rw[length_erase_of_mem ha]at h1
  have:=length_pos_of_mem ha
  rw[y6]
  omega
theorem Ee{zs:List Str}{sp:Nat}(X2:sp<=26)(h:∀j,j < sp->rE j∈zs):sp<=zs.length:=by
 have e:((List.range sp).map rE).Nodup:=by
  refine List.Sublist.nodup (List.Sublist.map rE ?_) wW
  have:List.range sp=(List.range 26).take sp:=by rw[take_range,Nat.min_eq_left X2]
  rw[this]
  exact take_sublist _ _
 have:=tu e (zs:=zs) λ x hx=>by
  obtain⟨j,hj,rfl⟩:=E3.mp hx
  exact h j (by simpa using hj)
 simpa using this
def lV:fe:=λ ds M Q=>∃(f c:Addr) (n:Nat),ds=[.ref f,.int n]/\Flow M f c/\n<=12/\∀(p:Addr) (zs:List Str) (M':Mem),zs.length=n->M p=none->M' p=some (.lst (zs.map D.str))->Fl f c M M'->Q (.ref p) M'
theorem bA{T:String}{d:D}{M:Mem}{Q:bL}{n:String}{b:Bool}(e:mQ M d=some n)(hb:qN n T=b)(q:Q (.bl b) M):Jp T [d,.ty T] M Q:=⟨rfl,by rw[e];subst hb;exact q⟩
theorem iw{d:D}{M:Mem}{Q:bL}(h:mQ M d≠some "NoneType")(q:Q (.bl false) M):Nt false d .bx M Q:=by
 cases d with
 |bx=>exact absurd rfl h
 |_=>exact q
theorem mE{ds:List D}{i:Nat}(h:i < ds.length):iq ds (0+(i:Int))=some ds[i]:=by
 rw[D8]
 refine bV ?_
 simp[h]
theorem rQ:∀n:Nat,((List.replicate n true).all id)=true
 |0=>rfl
 |n+1=>by rw[n9,all_cons,rQ n];rfl
def TR(as:List Int)(h:Nat)(o:List Int)(k:Nat):D:=.tup [.int (h:Int),.int (k:Int),row (plus (less as h) o)]
def tE(as:List Int)(h:Nat)(os:List (List Int))(i:Nat):List D:=(List.range i).map λ k=>TR as h (os.getD k []) k
def opt(as:List Int)(h:Nat)(l:List D):List D:=if 0 < as.getD h 0 then l else[]
def kb(g:List aG)(as:List Int):Nat->List D
 |0=>[]
 |i+1=>kb g as i++opt as i (tE as i (g.getD i eN).2 (g.getD i eN).2.length)
theorem qG(as:List Int)(h:Nat)(os:List (List Int))(i:Nat):(tE as h os i).length=i:=by simp[tE]
theorem Cz(as:List Int)(h:Nat)(os:List (List Int))(i:Nat):tE as h os (i+1)=tE as h os i++[TR as h (os.getD i []) i]:=by
 unfold tE
 rw[range_succ,B9]
 rfl
theorem cQ.at {n:Nat}{g:List aG}(G:cQ n g){i:Nat}(hi:i < n):(g.getD i eN).2.length<=63/\∀r∈(g.getD i eN).2,r.length=n:=⟨(G.opts i hi).1,λ r hr=>((G.opts i hi).2 r hr).len⟩
theorem qE{n:Nat}{g:List aG}(G:cQ n g)(as:List Int):∀i,i<=n->(kb g as i).length<=i*63
 |0,_=>by simp[kb]
 |i+1,h=>by
  have h1:=qE G as i (by omega)
  have h2:=(G.at (i:=i) (by omega)).1
  show(kb g as i++opt as i _).length<=_
  rw[p6]
  have h3:(opt as i (tE as i (g.getD i eN).2 (g.getD i eN).2.length)).length<=63:=by
   unfold opt
   split
   ·rw[qG];exact h2
   ·simp
  omega
theorem rj{ds:List D}{i:Nat}{d:D}(h:(eZ ds)[i]?=some d):i < ds.length/\d=.tup [.int (i:Int),ds.getD i D.bx]:=by
 have hi:i < ds.length:=by have:=(i6.mp h).1;rwa [fS]at this
 refine⟨hi,?_⟩
 unfold eZ at h
 rw[s9,n5 hi]at h
 exact(B2 h).symm
theorem zZ{g:List aG}{i:Nat}(h:i < g.length):(g.map eW).getD i D.bx=eW (g.getD i eN):=by
 simp[g9,h]
theorem DJ{os:List (List Int)}{i:Nat}(h:i < os.length):(os.map row).getD i D.bx=row (os.getD i []):=by
 simp[g9,h]
theorem getD_mem{os:List (List Int)}{i:Nat}(h:i < os.length):os.getD i []∈os:=by
 rw[g9,i9 h]
 exact A4 _
def Ext(M M':Mem):Prop:=∀b o,M b=some o->M' b=some o
theorem Ext.own {M M':Mem}(h:Ext M M'){q:Addr}{x:MO}(n:M q=none):Ext M (ai M' q x):=λ b o e=>by
 rw[ah (λ z=>by rw[z,n]at e;cases e)]
 exact h b o e
def lW:fe:=λ ds M Q=>∃(n:Nat) (g:List aG) (as:List Int),ds=[cC g,row as]/\cQ n g/\as.length=n/\∀(p:Addr) (M':Mem),M p=none->M' p=some (.lst (kb g as n))->Ext M M'->Q (.ref p) M'
theorem BZ(as bs:List Int):(as.zip bs).map (λ p=>D.int (p.1+p.2))=(plus as bs).map D.int:=by
 unfold plus
 rw[List.zip,map_zipWith,map_zipWith]
theorem ny{as:List Int}{h:Nat}(hh:h < as.length):less as h=as.set h (as.getD h 0 - 1):=by
 unfold less
 rw[set_eq_take_append_cons_drop,J9 hh]
 simp
theorem zz{as o:List Int}{h:Nat}(hh:h < as.length)(hl:o.length=as.length):(plus as o).set h ((plus as o).getD h 0 - 1)=plus (less as h) o:=by
 refine ext_getElem? λ i=>?_
 rw[ny hh]
 unfold plus
 rw[getElem?_set,length_zipWith]
 have ho:h < o.length:=by omega
 by_cases e:h=i
 ·subst e
  rw[J9 rfl,J9 (by omega),getElem?_zipWith,getElem?_set,J9 rfl,J9 hh,i9 ho]
  simp[g9,getElem?_zipWith,hh,ho]
  omega
 ·rw[K0 e,getElem?_zipWith,getElem?_zipWith,getElem?_set,K0 e]
theorem qr{g:List aG}{M:Mem}{Q:bL}(q:Q (.int (g.length:Nat)) M):wU [cC g] M Q:=by
 show Q (.int ((g.map eW).length:Nat)) M
 rw[B7]
 exact q
end KK
namespace HT
open PySem PySem.Spec PyProof.Rows
section
variable {prog:Program}{w:World}{A:Around}{E:Value->Shared->Prop}{s:Shared}
theorem iD{t sl:Addr}{items:Array Value}{vl vu:Value}{lo hi:Option Int}{Q:Value->Shared->Prop}(ht:IsTup s.heap t items)(hs:s.heap.IsSliceOf sl vl vu .none)(pl:IsPart vl lo)(pu:IsPart vu hi)
  (hw:ck items.size 0 lo=0/\ck items.size items.size hi=items.size) (h:Q (.ref t) s):wpAny (model prog w) A (getItem (.ref t) (.ref sl)) Q E s:=by
 obtain⟨os,vi,So,HE⟩:=id hs
 have UK:s.TypeIs (.ref sl) "slice":=⟨os,vi,So⟩
 unfold getItem
 try with_reducible refine C5 ?_
 first|refine G8 (G9 ?_)|skip
 refine G8 (wpAny_sequenceKey ht.typeIs (by decide) ?_)
 refine G8 (j6 (name:=Str.ofString "__getitem__") ht.typeIs a8
  (A0 a8 ht.typeIs entry_tuple_getitem ?_ (args_tuple_getitem _ _)))
 show wpAny _ _ (Builtin.Tuple.tupleItemsOf (.ref t) >>= _) _ _ s
 refine G8 (tupleItemsOf_ ht ?_)
 refine G8 (wpAny_typeOf UK ?_)
 rw[J9 (by decide)]
 refine G8 (fJ hs pl pu ?_)
 have T6:(((ck items.size 0 lo:Nat):Int)==0&&(1:Int)==1&&(ck items.size items.size hi - ck items.size 0 lo)==items.size)=true:=by
  rw[hw.1,hw.2]
  simp
 show wpAny _ _ (if(((ck items.size 0 lo:Nat):Int)==0&&(1:Int)==1&&(ck items.size items.size hi - ck items.size 0 lo)==items.size)=true then _ else _) _ _ s
 rw[J9 T6]
 unfold Builtin.Tuple.tupleIsExact
 refine G8 (G8 (wpAny_typeOf ht.typeIs (G9 ?_)))
 rw[J9 (by decide)]
 exact G8 (H0 (G9 ⟨_,rfl,G9 h⟩))
end
end HT
namespace L2
open PySem PySem.Spec PyProof.Rows
section
variable {X:Cx}
theorem E_:yT X (λ x lo hi H Q=>∃a xs,x=.ref a/\f_ X.K H a xs/\(HT.ck xs.length 0 lo=0/\HT.ck xs.length xs.length hi=xs.length)/\Q (.ref a) H):=by
 intro pins s σ H x v vl vu lo hi sl Q I rx hs pl pu h
 obtain⟨a,xs,rfl,hx,hw,q⟩:=h
 cases rx
 obtain⟨au,r,ht,hz⟩:=I.tuple hx
 have hlen:au.toArray.size=xs.length:=by rw[x5];exact r.length.symm
 exact⟨"tuple",_,a8.lookup,ht.typeIs,HT.iD ht hs pl pu (by rw[hlen];exact hw) ⟨.ref a,H,I,rfl,q⟩⟩
end
end L2
namespace L3
open PySem PySem.Spec L2
section
variable {X:Cx}
def Af:D->Option Int->Option Int->Mem->bL->Prop:=λ x lo hi M Q=>match x with
 | .str z=>z.length<=sizeLine/\Q (.str (oM z lo hi)) M
 | .tup ds=>Q (.tup (cutD ds lo hi)) M
 | .ref a=>match aY M a with
  |some ds=>∀p,M p=none->Q (.ref p) (ai M p (.lst (cutD ds lo hi)))
  |none=>False
 |_=>False
theorem mX:Rh X Af:=by
 obtain⟨r,h1,h2⟩:=(oB:Rh X Wb)
 refine⟨_,h1.or E_,λ x d lo hi H M Q2 Q hd hm q k=>?_⟩
 cases d with
 |tup ds=>
  by_cases hw:HT.ck ds.length 0 lo=0/\HT.ck ds.length ds.length hi=ds.length
  ·have q:Q2 (.tup (cutD ds lo hi)) M:=q
   have e:cutD ds lo hi=ds:=by unfold cutD;rw[hw.1,hw.2];simp
   rw[e]at q
   obtain⟨p,xs,rfl,h,hx⟩:=aS.mp hd
   exact .inr ⟨p,xs,rfl,h,by rw[hx.length];exact hw,k _ H _ M (aS.mpr ⟨p,xs,rfl,h,hx⟩) hm (av.refl H) q⟩
  ·exact .inl (h2 x (.tup ds) lo hi H M Q2 Q hd hm ⟨hw,q⟩ k)
 |str z=>exact .inl (h2 x (.str z) lo hi H M Q2 Q hd hm q k)
 |ref a=>exact .inl (h2 x (.ref a) lo hi H M Q2 Q hd hm q k)
 |_=>exact q.elim
end
section
variable {M:Mem}{Q:bL}
theorem yL{ds:List D}{i:Int}(h0:0<=i):cutD ds none (some i)=ds.take i.toNat:=by
 unfold cutD
 have e:HT.ck ds.length ds.length (some i)=min i.toNat ds.length:=by
  show(if i < 0 then(i+(ds.length:Int)).toNat else min i.toNat ds.length)=_
  rw[K0 (by omega)]
 rw[e]
 show(ds.drop 0).take (min i.toNat ds.length - 0)=_
 rw[drop_zero,Nat.sub_zero,take_eq_take_iff]
 omega
theorem Ag{ds:List D}{i:Int}(h0:0<=i):cutD ds (some i) none=ds.drop i.toNat:=by
 unfold cutD
 have e:HT.ck ds.length 0 (some i)=min i.toNat ds.length:=by
  show(if i < 0 then(i+(ds.length:Int)).toNat else min i.toNat ds.length)=_
  rw[K0 (by omega)]
 rw[e]
 show(ds.drop (min i.toNat ds.length)).take (ds.length - min i.toNat ds.length)=_
 rw[j8 (by rw[y8];omega)]
 by_cases h:i.toNat<=ds.length
 ·rw[Nat.min_eq_left h]
 ·rw[Nat.min_eq_right (by omega),drop_length,drop_of_length_le (by omega)]
theorem mZ{ds:List D}{i:Int}(h0:0<=i)(q:Q (.tup (ds.take i.toNat)) M):Af (.tup ds) none (some i) M Q:=by
 show Q (.tup (cutD ds none (some i))) M
 rw[yL h0]
 exact q
theorem vN{ds:List D}{i:Int}(h0:0<=i)(q:Q (.tup (ds.drop i.toNat)) M):Af (.tup ds) (some i) none M Q:=by
 show Q (.tup (cutD ds (some i) none)) M
 rw[Ag h0]
 exact q
theorem Fo{z:Str}{lo hi:Option Int}(h:z.length<=sizeLine)(q:Q (.str (oM z lo hi)) M):Af (.str z) lo hi M Q:=⟨h,q⟩
theorem Fp{a:Addr}{ds:List D}{lo hi:Option Int}(h:M a=some (.lst ds))(q:∀p,M p=none->Q (.ref p) (ai M p (.lst (cutD ds lo hi)))):Af (.ref a) lo hi M Q:=by
 show(match aY M a with|some ds=>∀p,M p=none->Q (.ref p) (ai M p (.lst (cutD ds lo hi)))|none=>False)
 unfold aY
 rw[h]
 exact q
theorem ph{a:Addr}{ds:List D}{i:Int}(h:M a=some (.lst ds))(h0:0<=i)(q:∀p,M p=none->Q (.ref p) (ai M p (.lst (ds.take i.toNat)))):Af (.ref a) none (some i) M Q:=by
 refine Fp h ?_
 rw[yL h0]
 exact q
end
end L3
namespace L3
open PySem PySem.Spec L2 L5
section
variable {g:gA}{tt:eO}{te:bX}{tb:jM}{δ δc:de}{M1:Mem}{Qe:List D->Mem->Prop}{E:jP}
theorem Nd{src:Src}{ds:List D}(Pv:Nat->de->Mem->Prop)(h0:Pv 0 δ M1)(hl:∀i δ M,i<=ds.length->Pv i δ M->items src M=some ds)
  (hs:∀i d δ M,ds[i]?=some d->Pv i δ M->g d δ M λ δ2 M2=>tb {E with nx:=Pv (i+1),ct:=Pv (i+1),bk:=E.nx} δ2 M2)
  (hd:∀δ M,Pv ds.length δ M->E.nx δ M):
  ∃(B:Nat) (W:Nat->de->Mem->Prop),W 0 δ M1/\∀i δ M,W i δ M->i<=B/\match items src M with
   |none=>False
   |some ds=>match ds[i]? with
    |none=>i=ds.length/\E.nx δ M
    |some d=>g d δ M λ δ2 M2=>tb {E with nx:=W (i+1),ct:=W (i+1),bk:=E.nx} δ2 M2:=by
 refine⟨ds.length,λ i δ M=>if i<=ds.length then Pv i δ M else False,by dsimp only;rw[J9 (G5 _)];exact h0,?_⟩
 intro i δ M w
 by_cases hi:i<=ds.length
 ·rw[J9 hi]at w
  refine⟨hi,?_⟩
  rw[hl i δ M hi w]
  show(match ds[i]? with
    |none=>i=ds.length/\E.nx δ M
    |some d=>g d δ M λ δ2 M2=>tb {E with nx:=(λ δ M=>if i+1<=ds.length then Pv (i+1) δ M else False),ct:=(λ δ M=>if i+1<=ds.length then Pv (i+1) δ M else False),bk:=E.nx} δ2 M2)
  cases e:ds[i]? with
  |none=>
   have:i=ds.length:=C0 hi (i7.mp e)
   subst this
   exact⟨rfl,hd δ M w⟩
  |some d=>
   have fO:i+1<=ds.length:=(i6.mp e).1
   simp only[J9 fO]
   exact hs i d δ M e w
 ·rw[K0 hi]at w
  exact w.elim
end
def iA(x y:D)(M:Mem):Option (List D):=match cT M x,cT M y with
 |some xs,some ys=>some (iH xs ys)
 |_,_=>none
def CZ(ta:iW):lP:=λ δ M R=>ta δ M λ ds M1=>match ds with
 |[.tup xs,.tup ys]=>R (.fix (iH xs ys)) M1
 |[x,y]=>(∃zs,iA x y M1=some zs)/\R (.fn (iA x y)) M1
 |_=>False
theorem oS{x y:D}{M:Mem}{zs:List D}(h:iA x y M=some zs):∃xs ys,cT M x=some xs/\cT M y=some ys/\zs=iH xs ys:=by
 unfold iA at h
 cases e1:cT M x with
 |none=>rw[e1]at h;cases h
 |some xs=>
  cases e2:cT M y with
  |none=>rw[e1,e2]at h;cases h
  |some ys=>rw[e1,e2]at h;cases h;exact⟨xs,ys,rfl,rfl,rfl⟩
theorem zR{K:PySem.W.Frag}{H1:Hp}{a b:Addr}{x y:D}(hx:Dat K H1 x (.ref a))(hy:Dat K H1 y (.ref b)):oQ K H1 (SD K (kindB x) (kindB y) a b) (.fn (iA x y)):=λ H M zs t hm e=>by
 obtain⟨ds,es,e1,e2,rfl⟩:=oS (show iA x y M=some zs from e)
 obtain⟨p,xs,e3,q1,x1⟩:=gj e1 (Dat.mono t x hx) hm
 cases e3
 obtain⟨p,ys,e3,q2,x2⟩:=gj e2 (Dat.mono t y hy) hm
 cases e3
 have l1:=x1.length
 have l2:=x2.length
 rw[AE]
 refine⟨λ i hi=>⟨xs,ys,xs[i]'(by omega),ys[i]'(by omega),q1,q2,by simp,by simp⟩,λ i hi=>⟨xs,ys,q1,q2,by omega⟩,λ i v H' hi z=>?_⟩
 obtain⟨p,vx,vy,hp,rfl,rfl,IY,T8⟩:=z
 obtain⟨d,d1,d2⟩:=x1.nM (IY xs q1)
 obtain⟨e,e1,e2⟩:=x2.nM (T8 ys q2)
 refine⟨av.laid hp,hm.laid hp,.tup [d,e],?_,gh hp (aj.mpr ⟨vx,[vy],rfl,d2,aE.one e2⟩)⟩
 obtain⟨z1,w1⟩:=i6.mp d1
 obtain⟨z2,w2⟩:=i6.mp e1
 simp[iH,hi,w1,w2,z1,z2]
section
variable {X:Cx}{es:List Expr}{k0:_}{mR:Pos}{a b:Expr}{ta:iW}{p pos:Pos}
theorem Gb(hg:Gl X "zip")(hm:X.mg "zip"=none)(ha:QA X [a,b] ta)(hs:starEach [a,b] X.env=[(false,eval a X.env),(false,eval b X.env)]:=by rfl)(hZ:starEach [b] X.env=[(false,eval b X.env)]:=by rfl):
  QI X (.Tuple es k0 mR) (.Call (.Name "zip" p) [a,b] [] pos) (CZ ta):=xT (Lg hg hm ha hs hZ) λ σ H R ⟨δ,M,R2,hs,hm,q,k⟩=>by
 refine⟨δ,M,_,hs,hm,q,λ xs H1 ds M1 hd bW t1 q1=>?_⟩
 have go:∀x y,ds=[x,y]->(∃zs,iA x y M1=some zs)->(∀J,oQ X.K H1 J (.fn (iA x y))->R J H1)->∃(b1 b2:Bool) (l m:Addr),xs=[.ref l,.ref m]/\(∃xs,Sq b1 X.K H1 l xs)/\(∃ys,Sq b2 X.K H1 m ys)/\R (SD X.K b1 b2 l m) H1:=by
  rintro x y rfl ⟨zs,hz⟩ hR
  obtain⟨vx,r,rfl,hx,hr⟩:=aj.mp hd
  obtain⟨vy,r,rfl,hy,hr⟩:=aj.mp hr
  cases(aq.mp hr)
  obtain⟨xs,ys,e1,e2,_⟩:=oS hz
  obtain⟨p,vs,rfl,q1,_⟩:=gj e1 hx bW
  obtain⟨p2,ws,rfl,q2,_⟩:=gj e2 hy bW
  exact⟨_,_,p,p2,rfl,⟨vs,q1⟩,⟨ws,q2⟩,hR _ (zR hx hy)⟩
 match ds,q1 with
 |[x,y],q1=>
  by_cases ht:∃xs ys,x=.tup xs/\y=.tup ys
  ·obtain⟨xs,ys,rfl,rfl⟩:=ht
   refine go _ _ rfl ⟨_,rfl⟩ λ J hJ=>k J H1 (.fix (iH xs ys)) M1 (λ H M ds t hm e=>hJ H M ds t hm e) bW t1 q1
  ·have q2:(∃zs,iA x y M1=some zs)/\R2 (.fn (iA x y)) M1:=by
    cases x <;> first|exact q1|(cases y <;> first|exact q1|exact absurd ⟨_,_,rfl,rfl⟩ ht)
   exact go x y rfl q2.1 λ J hJ=>k J H1 _ M1 hJ bW t1 q2.2
 |[],q1=>exact q1.elim
 |[x],q1=>cases x <;> exact q1.elim
 |x::y::z::r,q1=>cases x <;> first|exact q1.elim|(cases y <;> exact q1.elim)
end
end L3
namespace L4
open PySem PySem.Spec L2 L3 L5
section
variable {X:Cx}{es:List Expr}{k0:_}{mR:Pos}{a b:Expr}{ta:iW}{p pos:Pos}
theorem xo(hg:Gl X "zip")(hm:X.mg "zip"=none)(ha:WA X [a,b] ta)(hs:starEach [a,b] X.env=[(false,eval a X.env),(false,eval b X.env)]:=by rfl)(hZ:starEach [b] X.env=[(false,eval b X.env)]:=by rfl):
  WI X (.Tuple es k0 mR) (.Call (.Name "zip" p) [a,b] [] pos) (CZ ta):=⟨Gb hg hm ha.h hs hZ⟩
end
end L4
namespace L3
open PySem PySem.Spec L2 L5 PyProof.Rows
section
variable {X:Cx}
theorem pB{A:Around}{s:Shared}{v:Value}{y:PyData}{bs:List Addr}(ry:Reads s.heap v y bs)(cy:y.canLay0=true)(hu:A.units+y.depth < cLine):∀{ds:List D} {us:List Value} {as:List Addr},ReadsAll s.heap us (toPs ds) as->PyData.canLayAll0 (toPs ds)=true->
  ∃e:Value->Bool,(∀u∈us,SeqAt.EqAt A s u v (e u))/\us.map e=ds.map λ d=>PyData.eqv (toP d) y:=by
 intro ds us as ra cl
 refine⟨λ u=>PyData.eqv (SeqAt.readOf s.heap u) y,λ u Hu=>?_,?_⟩
 ·obtain⟨d,YG,rd,cd,_⟩:=SeqAt.readsAll_mem _ _ _ cl ra u Hu
  have e:=SeqAt.readOf_eq cd rd
  dsimp only
  rw[e]
  exact x6 d y A s u v _ _ rd ry cd cy (by omega)
 ·have e:=SeqAt.readsAll_map _ _ _ cl ra
  have f:∀(us:List Value) (ds:List D),us.map (SeqAt.readOf s.heap)=toPs ds->us.map (λ u=>PyData.eqv (SeqAt.readOf s.heap u) y)=ds.map λ d=>PyData.eqv (toP d) y:=by
   intro us
   induction us with
   |nil=>
    intro ds q
    cases ds with
    |nil=>rfl
    |cons d r=>unfold toPs at q;cases q
   |cons u us ih=>
    intro ds q
    cases ds with
    |nil=>unfold toPs at q;cases q
    |cons d r=>
     unfold toPs at q
     rw[D1]at q
     injection q with q1 q2
     rw[D1,D1,ih r q2,q1]
  exact f us ds e
structure Vo(K:PySem.W.Frag)(H:Hp)(b:Bool)(p:Addr)(xs:List V)(ds:List D)(x:V)(d:D):Prop where
 sq:Sq b K H p xs
 QU:aE K H ds xs
 dat:Dat K H d x
 ns:pA ds=true
 n:nr d=true
 Hk:PyData.canLayAll0 (toPs ds)=true
 lay:(toP d).canLay0=true
 dep:(toP d).depth < 62
theorem any_map{α:Type}(us:List α)(e:α->Bool)(bs:List Bool)(h:us.map e=bs):us.any e=bs.any id:=by
 rw[<- h,List.any_map]
 rfl
theorem LH(neg:Bool)(hu:X.A.units+64 < cLine):fu X (compareOp (if neg then .NotIn else .In)) (λ x y H Q=>∃(b:Bool) (p:Addr) (xs:List V) (ds:List D) (d:D),y=.ref p/\Vo X.K H b p xs ds x d/\Q (.bl (if neg then !ds.any (λ e=>PyData.eqv (toP e) (toP d))else ds.any λ e=>PyData.eqv (toP e) (toP d))) H):=by
 intro pins s σ H x y v u Q I rx ry h
 obtain⟨b,p,xs,ds,d,rfl,ok,q⟩:=h
 cases ry
 obtain⟨bs,rb⟩:=RT I d ok.n ok.dat rx
 have hd:=ok.dep
 cases b with
 |false=>
  obtain⟨au,r,pl,hz⟩:=I.list ok.sq
  obtain⟨as,ra⟩:=vQ I ds ok.ns ok.QU r
  obtain⟨e,e1,e2⟩:=pB (A:=X.A.in1) rb ok.lay (by show X.A.units+1+_ < _;omega) ra ok.Hk
  have e3:au.toArray.any e=ds.any λ e=>PyData.eqv (toP e) (toP d):=by
   rw[show au.toArray.any e=au.any e by simp,any_map _ _ _ e2,List.any_map]
   rfl
  cases neg with
  |false=>exact SeqAt.in_listAt e pl.isList (λ w hw=>e1 w (by simpa using hw)) ⟨.bl _,H,I,rfl,by rw[e3];exact q⟩
  |true=>exact SeqAt.notIn_listAt e pl.isList (λ w hw=>e1 w (by simpa using hw)) ⟨.bl _,H,I,rfl,by rw[e3];exact q⟩
 |true=>
  obtain⟨au,r,pl,hz⟩:=I.tuple ok.sq
  obtain⟨as,ra⟩:=vQ I ds ok.ns ok.QU r
  obtain⟨e,e1,e2⟩:=pB (A:=X.A.in1) rb ok.lay (by show X.A.units+1+_ < _;omega) ra ok.Hk
  have e3:au.toArray.any e=ds.any λ e=>PyData.eqv (toP e) (toP d):=by
   rw[show au.toArray.any e=au.any e by simp,any_map _ _ _ e2,List.any_map]
   rfl
  cases neg with
  |false=>exact SeqAt.in_tupleAt e pl (λ w hw=>e1 w (by simpa using hw)) ⟨.bl _,H,I,rfl,by rw[e3];exact q⟩
  |true=>exact SeqAt.notIn_tupleAt e pl (λ w hw=>e1 w (by simpa using hw)) ⟨.bl _,H,I,rfl,by rw[e3];exact q⟩
end
end L3
namespace L3
open PySem PySem.Spec L2 L5 PyProof.Rows
section
variable {X:Cx}
def Jm:List D->Mem->bL->Prop:=λ ds M Q=>∃ns:List Int,ds=ns.map D.int/\Q (.int ns.sum) M
theorem xu:lp Np Jm:=λ ds M p Q hp hz q=>by
 obtain⟨ns,rfl,q⟩:=q
 exact⟨.ref p,_,ns,rfl,kg,rfl,M,(lQ.refl M).put hp,q⟩
def Jq:List D->Mem->bL->Prop:=λ xs M Q=>(∃b,xs=[.bl b]/\Q (.int (if b then 1 else 0)) M)\/∃i,xs=[.int i]/\Q (.int i) M
theorem Nz:df X (.type "int") Jq:=⟨_,Ak,λ xs ds H M Q2 Q hd hm q k=>by
 rcases q with⟨b,rfl,q⟩|⟨b,rfl,q⟩
 ·obtain⟨v,r,rfl,hv,hr⟩:=aj.mp hd
  cases(aq.mp hr)
  cases(aW.mp hv)
  exact .inr ⟨b,rfl,k _ H _ M (ax.mpr rfl) hm (av.refl H) q⟩
 ·obtain⟨v,r,rfl,hv,hr⟩:=aj.mp hd
  cases(aq.mp hr)
  cases(ax.mp hv)
  exact .inl ⟨b,rfl,k _ H _ M (ax.mpr rfl) hm (av.refl H) q⟩⟩
def QX:fX:=λ x y M Q=>∃l k ds,x=.ref l/\y=.int k/\M l=some (.lst ds)/\-(2^63)<=k/\k < 2^63/\ds.length*k.toNat<=sizeLine/\∀p,M p=none->Q (.ref p) (ai M p (.lst (List.replicate k.toNat ds).flatten))
def yH:fX:=λ x y M Q=>yI x y M Q\/QX x y M Q
theorem gu:fF X (binaryOp .Mult) yH:=LX.or ⟨_,Lz,λ x y d e H M Q2 Q hd he hm q k=>by
 obtain⟨l,n,ds,rfl,rfl,hM,h1,h2,hz,q⟩:=q
 cases(aF.mp hd)
 cases(ax.mp he)
 obtain⟨xs,hx,Sn⟩:=hm l _ hM
 exact⟨l,n,xs,rfl,rfl,hx,h1,h2,by rw[Sn.length];exact hz,λ p hp=>k _ _ (.ref p) _ (aF.mpr rfl) (dv hp (nS Sn n.toNat) hm) (av.laid hp) (q p (hm.free hp))⟩⟩
structure Y0(M:Mem)(x y:D)(ds:List D):Prop where
 sq:cT M y=some ds
 ns:pA ds=true
 n:nr x=true
 Hk:PyData.canLayAll0 (toPs ds)=true
 lay:(toP x).canLay0=true
 dep:(toP x).depth < 62
def Nu(neg:Bool):fX:=λ x y M Q=>∃ds,Y0 M x y ds/\Q (.bl (if neg then !ds.any (λ e=>PyData.eqv (toP e) (toP x))else ds.any λ e=>PyData.eqv (toP e) (toP x))) M
theorem IQ(neg:Bool)(hu:X.A.units+64 < cLine):fF X (compareOp (if neg then .NotIn else .In)) (Nu neg):=⟨_,LH neg hu,λ x y d e H M Q2 Q hd he hm q k=>by
 obtain⟨ds,ok,q⟩:=q
 obtain⟨p,xs,rfl,q1,x1⟩:=gj ok.sq he hm
 exact⟨_,p,xs,ds,d,rfl,⟨q1,x1,hd,ok.ns,ok.n,ok.Hk,ok.lay,ok.dep⟩,k _ H _ M (aW.mpr rfl) hm (av.refl H) q⟩⟩
def HV:fX:=λ x y M Q=>Sv x y M Q\/Nu false x y M Q
theorem tf(hu:X.A.units+64 < cLine):fF X (compareOp .In) HV:=TH.or (IQ false hu)
def yF:fX:=λ x y M Q=>∃i j,x=.str i/\y=.str j/\Q (.bl (!(!(Builtin.Str.occurrences j i 0 j.length 1).isEmpty))) M
theorem Cr:fF X (compareOp .NotIn) yF:=⟨_,qy,λ x y d e H M Q2 Q hd he hm q k=>by
 obtain⟨i,j,rfl,rfl,q⟩:=q
 cases(aN.mp hd)
 cases(aN.mp he)
 exact⟨i,j,rfl,rfl,k _ H _ M (aW.mpr rfl) hm (av.refl H) q⟩⟩
def rB:fX:=λ x y M Q=>yF x y M Q\/Nu true x y M Q
theorem Cs(hu:X.A.units+64 < cLine):fF X (compareOp .NotIn) rB:=Cr.or (IQ true hu)
def QY:D->List D->Mem->bL->Prop:=λ x vs M Q=>(∃p ds y,x=.ref p/\vs=[]/\M p=some (.lst ds)/\ds[ds.length - 1]?=some y/\Q y (ai M p (.lst ds.dropLast)))\/
 ∃p ds i k y,x=.ref p/\vs=[.int i]/\M p=some (.lst ds)/\-(2^63)<=i/\i < 2^63/\seqIndex? i ds.length=some k/\ds[k]?=some y/\Q y (ai M p (.lst (ds.eraseIdx k)))
theorem aE.eraseIdx {K:PySem.W.Frag}{H:Hp}:∀{ds:List D} {xs:List V} (n:Nat),aE K H ds xs->aE K H (ds.eraseIdx n) (xs.eraseIdx n)
 |[],xs,n,h=>by rw[aq]at h;subst h;simp[aq]
 |d::ds,xs,0,h=>by
  obtain⟨x,r,rfl,a,b⟩:=aj.mp h
  exact b
 |d::ds,xs,n+1,h=>by
  obtain⟨x,r,rfl,a,b⟩:=aj.mp h
  rw[eraseIdx_cons_succ,eraseIdx_cons_succ,aj]
  exact⟨x,_,rfl,a,b.eraseIdx n⟩
theorem aE.dropLast {K:PySem.W.Frag}{H:Hp}{ds:List D}{xs:List V}(h:aE K H ds xs):aE K H ds.dropLast xs.dropLast:=by
 rw[dropLast_eq_take,dropLast_eq_take,h.length]
 exact h.take _
theorem Ij.or {id:String}{r r':V->List V->Hp->VK->Prop}(h:Ij X id r)(h':Ij X id r'):Ij X id (λ x vs H Q=>r x vs H Q\/r' x vs H Q):=by
 intro pins s σ H x xs v us Q I a b q
 rcases q with q|q
 ·exact h pins s σ H x xs v us Q I a b q
 ·exact h' pins s σ H x xs v us Q I a b q
theorem PH:Es X "list.pop" QY:=⟨_,Ij.or L7 CA,λ x xs d ds H M Q2 Q hx hd hm q k=>by
 rcases q with⟨p,es,y,rfl,rfl,hM,hy,q⟩|⟨p,es,i,j,y,rfl,rfl,hM,h1,h2,hs,hy,q⟩
 ·cases(aF.mp hx)
  cases(aq.mp hd)
  obtain⟨zs,h1,h2⟩:=hm p _ hM
  obtain⟨v,hv,Uc⟩:=h2.get hy
  have t:=av.lst (o:=.lst zs.dropLast) h1
  exact .inl ⟨p,zs,v,rfl,rfl,h1,by rw[h2.length];exact hv,k _ _ y _ (Dat.mono t y Uc) (hm.put (u:=.lst es.dropLast) t ⟨_,bB,aE.mono t _ h2.dropLast⟩) t q⟩
 ·cases(aF.mp hx)
  obtain⟨v0,r,rfl,W8,hr⟩:=aj.mp hd
  cases(aq.mp hr)
  cases(ax.mp W8)
  obtain⟨zs,g1,g2⟩:=hm p _ hM
  obtain⟨v,hv,Uc⟩:=g2.get hy
  have t:=av.lst (o:=.lst (zs.eraseIdx j)) g1
  exact .inr ⟨p,zs,i,j,v,rfl,rfl,g1,h1,h2,by rw[g2.length];exact hs,hv,k _ _ y _ (Dat.mono t y Uc) (hm.put (u:=.lst (es.eraseIdx j)) t ⟨_,bB,aE.mono t _ (g2.eraseIdx j)⟩) t q⟩⟩
def D_:D->List D->Mem->bL->Prop:=λ x vs M Q=>∃p ds,x=.ref p/\vs=[]/\M p=some (.lst ds)/\Q .bx (ai M p (.lst []))
theorem Hd:Es X "list.clear" D_:=⟨_,CB,λ x xs d ds H M Q2 Q hx hd hm q k=>by
 obtain⟨p,es,rfl,rfl,hM,q⟩:=q
 cases(aF.mp hx)
 cases(aq.mp hd)
 obtain⟨zs,h1,h2⟩:=hm p _ hM
 have t:=av.lst (o:=.lst []) h1
 exact⟨p,zs,rfl,rfl,h1,k _ _ .bx _ (dW.mpr rfl) (hm.put (u:=.lst []) t ⟨_,bB,by rw[aq]⟩) t q⟩⟩
end
section
variable {M:Mem}{Q:bL}
theorem Ff{i j l:Nat}{a b c:D}{δ:de}{N:de->Mem->Prop}(h:N (((δ.set i (some a)).set j (some b)).set l (some c)) M):wF 3 (fQ (hName i) (fQ (hName j) (fQ (hName l) wG))) (.tup [a,b,c]) δ M N:=⟨rfl,h⟩
theorem xG{ns:List Int}(q:Q (.int ns.sum) M):Jm (ns.map D.int) M Q:=⟨ns,rfl,q⟩
theorem BE{b:Bool}(q:Q (.int (if b then 1 else 0)) M):Jq [.bl b] M Q:=.inl ⟨b,rfl,q⟩
theorem gZ{i j:Int}(h:rV i j)(q:Q (.int (i*j)) M):yH (.int i) (.int j) M Q:=.inl (By h q)
theorem Bw{i:Str}{j:Int}(h:MulOk i j)(q:Q (.str (Txt.mul i j)) M):yH (.str i) (.int j) M Q:=.inl (Bx h q)
theorem sN{p:Addr}{d:D}{k:Int}(hM:M p=some (.lst [d]))(h0:0<=k)(h1:k<=10000)(q:∀p,M p=none->Q (.ref p) (ai M p (.lst (List.replicate k.toNat d)))):yH (.ref p) (.int k) M Q:=by
 refine .inr ⟨p,k,[d],rfl,rfl,hM,Int.le_trans (by decide) h0,Int.lt_of_le_of_lt h1 (by decide),?_,?_⟩
 ·have:[d].length*k.toNat<=10000:=by simp;omega
  exact Tb this
 ·have e:(List.replicate k.toNat [d]).flatten=List.replicate k.toNat d:=by
   generalize k.toNat=n
   induction n with
   |zero=>rfl
   |succ n ih=>rw[n9,u7,ih,n9];rfl
  rw[e]
  exact q
theorem FE{x:D}{ds:List D}{b:Bool}(e:inD x ds=some b)(q:Q (.bl b) M):HV x (.tup ds) M Q:=.inl (Ks e q)
theorem mf{x:D}{a:Addr}{ds:List D}{b:Bool}(h:M a=some (.lst ds))(e:inD x ds=some b)(q:Q (.bl b) M):HV x (.ref a) M Q:=.inl (Kt h e q)
theorem mW{a:Addr}{ds:List D}(h:M a=some (.lst ds)):cT M (.ref a)=some ds:=by
 show aY M a=some ds
 unfold aY
 rw[h]
theorem Ki{p:Addr}{ds:List D}{y:D}(hM:M p=some (.lst (ds++[y])))(q:Q y (ai M p (.lst ds))):QY (.ref p) [] M Q:=by
 refine .inl ⟨p,ds++[y],y,rfl,rfl,hM,by simp,?_⟩
 rw[dropLast_concat]
 exact q
theorem BI{p:Addr}{ds:List D}(hM:M p=some (.lst ds))(q:Q .bx (ai M p (.lst []))):D_ (.ref p) [] M Q:=⟨p,ds,rfl,rfl,hM,q⟩
end
end L3
namespace L5
open PySem PyProof.Rows
abbrev Nk(d:Value):List (Str×Value):=[(Str.ofString "default",d)]
theorem Ap(a d:Value):argsOk "max" ⟨[a],Nk d⟩:=by unfold argsOk;kernel_rfl
section
variable {prog:Program}{w:World}{A:Around}{R:Result->Shared->Prop}{I:Addr}{fp wr:List Addr}{n:Nat}{P:Nat->Value->Prop}{St:Nat->Heap->Prop}{d:Value}
theorem qB:(toString "max"++toString ".loop":String)="max.loop":=by decide
abbrev rM(xs:Array Value)(c:Nat):Obj:={cls:=.type "list",dict:=none,data:=.seq xs c,slots:=#[]}
theorem CH(W:Walks prog w A.in1 I fp wr n P St){S:Addr}(Oc:S∉wr){s:Shared}{vb:Value}{c:Nat}(hst:St n s.heap)(hS:s.heap.get? S=some (rM #[vb,vb] c))
  (hR:∀h' tk,(∀b o,b∉wr->b≠S->s.heap.get? b=some o->h'.get? b=some o)->R (.ok (.ret vb)) {s with heap:=h',toks:=tk}):
  codeAny (model prog w) A (.builtin "max.loop" ⟨[.ref I,.none,.ref S],Nk d⟩) R s:=by
 refine B5 F.entry_max_loop ?_;rw[m9 A1 _]
 show wpAny _ A.in1 (seqItems? (.ref S) >>= _) _ _ s;refine G8 (C2 hS rfl ?_)
 show wpAny _ A.in1 (tryCatch (pyNext (.ref I)) _ >>= _) _ _ s;refine G8 (C4 (W.done s _ _ hst λ h' tk hk=>?_))
 have Jc:=hk S _ Oc hS;show wpAny _ A.in1 (updateSeq S (λ _=>#[]) >>= _) _ _ _;refine G8 (wpAny_updateSeq Jc rfl (G8 (G7 (G9 ?_))))
 exact hR _ tk λ b o Az HG e=>(k7 _ _ (J8 HG)).trans (hk b o Az e)
theorem zL(W:Walks prog w A.in1 I fp wr n P St)(bt:Nat->Nat->Bool)(MU:CmpOf prog w A.in1 .Gt P bt)(S:Addr)(Od:S∉fp):
  ∀(k j:Nat) (s:Shared) (vb:Value) (c:Nat),n - (j+1)=k->j+1<=n->St (j+1) s.heap->P (argBest bt j) vb->s.heap.get? S=some (rM #[vb,vb] c)->
  (∀v h' tk,P (argBest bt (n - 1)) v->(∀b o,b∉wr->b≠S->s.heap.get? b=some o->h'.get? b=some o)->R (.ok (.ret v)) {s with heap:=h',toks:=tk})->
  codeAny (model prog w) A (.builtin "max.loop" ⟨[.ref I,.none,.ref S],Nk d⟩) R s:=by
 have Oc:S∉wr:=λ h=>Od (W.sub _ h)
 intro k
 induction k with
 |zero=>
  intro j s vb c hk hj hst Sr hS hR
  have e:j+1=n:=by omega
  exact CH W Oc (e▸hst) hS λ h' tk q=>hR vb h' tk (by rw[<- e];exact Sr) q
 |succ k ih=>
  intro j s vb c hk hj hst Sr hS hR
  have fO:j+1 < n:=by omega
  refine B5 F.entry_max_loop ?_;rw[m9 A1 _]
  show wpAny _ A.in1 (seqItems? (.ref S) >>= _) _ _ s;refine G8 (C2 hS rfl ?_)
  show wpAny _ A.in1 (tryCatch (pyNext (.ref I)) _ >>= _) _ _ s;refine G8 (C4 (W.item (j+1) s _ _ fO hst λ v h' tk hP Hv ou=>?_))
  have Jc:=ou S _ Oc hS;show wpAny _ A.in1 (tryCatch (holding [v,v] (richCompare .Gt v vb >>= _)) _ >>= _) _ _ _
  refine G8 (C4 (C5 (G8 (MU (j+1) (argBest bt j) v vb _ _ _ hP Sr (G8 (C5 (w5 (G8 (G7 (G9 ?_))))))))));cases hb:bt (j+1) (argBest bt j)with
  |true=>
   simp only[if_true];refine G8 (wpAny_updateSeq Jc rfl (G8 (G7 ?_)));rw[qB]
   refine G9 ⟨D4 A1 _,ih (j+1) _ v _ (by omega) fO (W.frame _ _ _ Hv λ b UH o e=>(k7 _ _ (λ h:S=b=>Od (by rw[h];exact UH))).trans e) (by simp only[argBest,hb,if_true];exact hP) (k8 _ Jc rfl) λ v' h2 t2 Jd N_=>?_⟩
   exact hR v' h2 t2 Jd λ b o Az HG e=>N_ b o Az HG ((k7 _ _ (J8 HG)).trans (ou b o Az e))
  |false=>
   simp only[p7,J5];refine G8 (G7 ?_);rw[qB]
   exact G9 ⟨D4 A1 _,ih (j+1) _ vb c (by omega) fO Hv (by simp only[argBest,hb,p7,J5];exact Sr) Jc λ v' h2 t2 Jd N_=>hR v' h2 t2 Jd λ b o Az HG e=>N_ b o Az HG (ou b o Az e)⟩
theorem wq(W:Walks prog w A.in1 I fp wr n P St)(bt:Nat->Nat->Bool)(MU:CmpOf prog w A.in1 .Gt P bt)(S:Addr)(Od:S∉fp){s:Shared}{c:Nat}(hst:St 0 s.heap)(hS:s.heap.get? S=some (rM #[] c))
  (h0:n=0->∀h' tk,(∀b o,b∉wr->b≠S->s.heap.get? b=some o->h'.get? b=some o)->R (.ok (.ret d)) {s with heap:=h',toks:=tk})
  (hR:0 < n->∀v h' tk,P (argBest bt (n - 1)) v->(∀b o,b∉wr->b≠S->s.heap.get? b=some o->h'.get? b=some o)->R (.ok (.ret v)) {s with heap:=h',toks:=tk}):
  codeAny (model prog w) A (.builtin "max.loop" ⟨[.ref I,.none,.ref S],Nk d⟩) R s:=by
 have Oc:S∉wr:=λ h=>Od (W.sub _ h)
 refine B5 F.entry_max_loop ?_;rw[m9 A1 _]
 show wpAny _ A.in1 (seqItems? (.ref S) >>= _) _ _ s;refine G8 (C2 hS rfl ?_)
 show wpAny _ A.in1 (tryCatch (pyNext (.ref I)) _ >>= _) _ _ s;by_cases hn:0 < n
 ·refine G8 (C4 (W.item 0 s _ _ hn hst λ v h' tk hP Hv ou=>?_))
  have Jc:=ou S _ Oc hS;show wpAny _ A.in1 (updateSeq S (λ _=>#[v,v]) >>= _) _ _ _;refine G8 (wpAny_updateSeq Jc rfl ?_);rw[qB]
  refine G9 ⟨D4 A1 _,zL W bt MU S Od _ 0 _ v _ rfl hn (W.frame _ _ _ Hv λ b UH o e=>(k7 _ _ (λ h:S=b=>Od (by rw[h];exact UH))).trans e) hP (k8 _ Jc rfl) λ v' h2 t2 Jd N_=>?_⟩
  exact hR hn v' h2 t2 Jd λ b o Az HG e=>N_ b o Az HG ((k7 _ _ (J8 HG)).trans (ou b o Az e))
 ·have e:n=0:=by omega
  refine G8 (C4 (W.done s _ _ (e▸hst) λ h' tk hk=>?_))
  exact G8 (H0 (G9 (h0 e h' tk λ b o Az _ q=>hk b o Az q)))
end
end L5
namespace L5
open PySem PyProof.Rows
theorem Ao(d:Value):Builtin.Builtins.bindParams "max" ["key","default"] 0 ⟨[],Nk d⟩=pure [none,some d]:=by kernel_rfl
section
variable {prog:Program}{w:World}{A:Around}{E:Value->Shared->Prop}{s:Shared}
theorem rF{id:String}{b:Builtin}{args:List Value}{kw:List (Str×Value)}{Q:Value->Shared->Prop}(hk:builtinKind id=none)(hp:plainId id=true)(hb:entryFor table id=some b)(ha:argsOk id ⟨args,kw⟩)
  (hc:wpAny (model prog w) A.in1 (b ⟨args,kw⟩) (λ fin s'=>match fin with
   | .done f=>(match(Except.ok f:Result)with| .ok (.ret v)=>Q v s'| .ok _=>False| .error e=>E e s')
   | .again c'=>c'.quiet=true/\codeAny (model prog w) A c' (λ r s'=>match r with| .ok (.ret v)=>Q v s'| .ok _=>False| .error e=>E e s') s') E s):wpAny (model prog w) A (call (.builtin id) args kw) Q E s:=by
 refine wpAny_call (codeAny_call_builtin hp hb ?_);simp only[checkBuiltinCall,hk];cases Ug:Manifest.signature? id with
 |none=>exact G9 hc
 |some sig=>have XI:Bind.checkArgs id sig ⟨args,kw⟩=pure ():=by{simpa only[argsOk,Ug]using ha};simp only[XI];exact G9 hc
theorem Aj(hA:A.in1.handled=none){l:Addr}{au:List Value}{ns:List Int}{d:Value}{Q:Value->Shared->Prop}(hl:s.heap.IsList l au.toArray)(hi:IntsAre au ns)
  (h0:ns=[]->∀h' tk,(∀b o,s.heap.get? b=some o->h'.get? b=some o)->Q d {s with heap:=h',toks:=tk})
  (hR:∀m t h' tk,m∈ns->(∀x∈ns,x<=m)->(∀b o,s.heap.get? b=some o->h'.get? b=some o)->Q (.int m t) {s with heap:=h',toks:=tk}):
  wpAny (model prog w) A (call (.builtin "max") [.ref l] (Nk d)) Q E s:=by
 have fO:l < s.heap.objs.size:=by obtain⟨o,e,_⟩:=hl;exact E2 e
 have gL:l≠s.heap.objs.size:=E1 fO
 have hlen:au.length=ns.length:=hi.length
 refine rF F.kind_max F.plain_max F.entry_max (Ap _ _) ?_
 show wpAny _ A.in1 (Builtin.Builtins.bindParams "max" ["key","default"] 0 ⟨[],Nk d⟩ >>= _) _ _ s
 refine G8 (wpAny_of_eq (Ao d) (G8 (G9 ?_)))
 refine G8 (w6 hl (G8 (u6 ?_)))
 rw[qB]
 have PX:∀i v,au.toArray[i]?=some v->∃t,v=Value.int (ns.getD i 0) t:=λ i v e=>by
  have e:au[i]?=some v:=by simpa using e
  have h1:i < ns.length:=by rw[<- hlen];exact(i6.mp e).1
  obtain⟨t,e2⟩:=L2.mC hi h1
  rw[e]at e2
  cases e2
  exact⟨t,by simp[g9,h1]⟩
 have sz:(s.heap.push {cls:=.type "list_iterator",data:=.fields #[.ref l,.int 0 0]}).objs.size=s.heap.objs.size+1:=C3 ..
 have W:=Walks.list (prog:=prog) (w:=w) hA s.heap.objs.size l gL au.toArray
 refine G9 ⟨D4 A1 _,wq (d:=d) W (λ i j=>decide (ns.getD i 0 > ns.getD j 0)) (CmpOf.ints_gt _ PX) _ ?_ ?_ (o8 _ rfl) ?_ ?_⟩
 ·show(s.heap.push {cls:=.type "list_iterator",data:=.fields #[.ref l,.int 0 0]}).objs.size∉_
  rw[sz]
  simp only[D3,not_mem_nil,or_false,not_or]
  exact⟨Nat.succ_ne_self _,Nat.ne_of_gt (Nat.lt_succ_of_lt fO)⟩
 ·refine W.frame _ _ _ ⟨⟨_,o8 _ rfl,rfl,rfl⟩,hl.at λ o e=>k5 _ e⟩ λ b _ o e=>k5 _ e
 ·intro hn h' tk hk
  have e:ns=[]:=j7.mp (by rw[<- hlen];simpa using hn)
  refine h0 e h' tk λ b o q=>hk b o ?_ ?_ (k5 _ (k5 _ q))
  ·simpa using E1 (E2 q)
  ·have:=E2 q
   show b≠(s.heap.push _).objs.size
   rw[sz]
   exact E1 (Nat.lt_succ_of_lt (E2 q))
 ·intro hn v h' tk hP hk
  have hn:0 < au.length:=by simpa using hn
  obtain⟨b1,b2⟩:=argBest_gt (λ i=>ns.getD i 0) (au.length - 1)
  obtain⟨t,rfl⟩:=PX _ _ hP
  have hm:argBest (λ i j=>decide (ns.getD i 0 > ns.getD j 0)) (au.toArray.size - 1) < ns.length:=by simp only[x5];omega
  refine hR _ t h' tk ?_ ?_ λ b o q=>hk b o ?_ ?_ (k5 _ (k5 _ q))
  ·rw[g9,i9 hm]
   exact A4 _
  ·intro x hx
   obtain⟨j,hj,rfl⟩:=m8.mp hx
   have:=b2 j (by omega)
   simp only[x5]
   simpa[g9,hj]using this
  ·simpa using E1 (E2 q)
  ·have:=E2 q
   show b≠(s.heap.push _).objs.size
   rw[sz]
   exact E1 (Nat.lt_succ_of_lt (E2 q))
end
end L5
namespace L2
open PySem PySem.Spec PyProof.Rows L5
def fL(d:Int):List Int->Int
 |[]=>d
 |n::ns=>ns.foldl max n
theorem foldl_max:∀(ns:List Int) (n:Int),n<=ns.foldl max n/\(∀x∈ns,x<=ns.foldl max n)/\(ns.foldl max n=n\/ns.foldl max n∈ns)
 |[],n=>⟨Int.le_refl _,(λ x h=>by cases h),.inl rfl⟩
 |m::ns,n=>by
  obtain⟨h1,h2,h3⟩:=foldl_max ns (max n m)
  rw[foldl_cons]
  refine⟨by omega,λ x hx=>?_,?_⟩
  ·rcases D3.mp hx with rfl|hx
   ·omega
   ·exact h2 x hx
  ·rcases h3 with h3|h3
   ·by_cases e:n<=m
    ·exact .inr (by rw[h3];simp[Int.max_eq_right e])
    ·exact .inl (by rw[h3];omega)
   ·exact .inr (m5 _ h3)
theorem Hb{d:Int}{ns:List Int}{m:Int}(h1:m∈ns)(h2:∀x∈ns,x<=m):fL d ns=m:=by
 cases ns with
 |nil=>cases h1
 |cons n ns=>
  obtain⟨g1,g2,g3⟩:=foldl_max ns n
  show ns.foldl max n=m
  refine Int.le_antisymm ?_ ?_
  ·rcases g3 with g3|g3
   ·rw[g3];exact h2 n (o9 ..)
   ·exact h2 _ (m5 _ g3)
  ·rcases D3.mp h1 with rfl|h1
   ·exact g1
   ·exact g2 m h1
section
variable {X:Cx}{e c:Expr}{te tc:TE}{p pos kp:Pos}
theorem xU(hc:X.calm=true)(hg:Gl X "max")(hm:X.mg "max"=none)(he:PE X e te)(hd:PE X c tc)
  (hs:starEach [e] X.env=[(false,eval e X.env)]:=by rfl) (km:backTo pos (starEach [e] X.env)=(false,eval e X.env)::backTo pos (starEach [] X.env):=by rfl) (hZ:(backTo pos (starEach [e] X.env)).any (·.1)=false:=by rfl):PE X (.Call (.Name "max" p) [e] [⟨some "default",c,kp⟩] pos) (λ σ H Q=>te σ H λ x H1=>tc σ H1 λ y H2=>∃(l:Addr) (ns:List Int) (d:Int),x=.ref l/\y=.int d/\dD X.K H2 l (ns.map V.int)/\Q (.int (fL d ns)) H2):=by
 intro pins s σ H Q I h
 refine r9 (fA I hg hm PyProof.Rows.boot_max ?_ (by decide) (by decide))
 refine PyProof.Rows.callWith_kw (cV ((gq he iR (by rw[hs];rfl)) pos pins s σ H (λ vs H1=>match vs with|[x]=>tc σ H1 (λ y H2=>∃(l:Addr) (ns:List Int) (d:Int),x=.ref l/\y=.int d/\dD X.K H2 l (ns.map V.int)/\Q (.int (fL d ns)) H2)|_=>False) I h) λ us s1 ⟨vs,H1,I1,r1,q1⟩=>?_) km hZ
 cases vs with
 |nil=>exact q1.elim
 |cons x vs=>
  cases vs with
  |cons _ _=>exact q1.elim
  |nil=>
  refine cV ((xS hd Ca) pos pins s1 σ H1 (λ vs H2=>match vs with|[y]=>∃(l:Addr) (ns:List Int) (d:Int),x=.ref l/\y=.int d/\dD X.K H2 l (ns.map V.int)/\Q (.int (fL d ns)) H2|_=>False) I1 q1) λ ws s2 ⟨zs,H2,I2,rz,e2⟩=>?_
  cases zs with
  |nil=>exact e2.elim
  |cons y zs=>
   cases zs with
   |cons _ _=>exact e2.elim
   |nil=>
   obtain⟨l,ns,d,rfl,rfl,hl,q⟩:=e2
   obtain⟨u,rfl,ru⟩:=vals1 r1
   obtain⟨v,rfl,t,rfl⟩:=vals1 rz
   cases(show u=Value.ref l from ru)
   obtain⟨au,rv,pl,hz⟩:=I2.list hl
   refine Aj (I2.ok.hd hc) pl.isList (intsAre_of rv) (λ e h' tk hk=>?_) (λ m t h' tk m1 m2 hk=>?_)
   ·subst e
    exact⟨.int d,H2,I2.kept (t':=tk) hk,⟨_,rfl⟩,q⟩
   ·rw[Hb m1 m2]at q
    exact⟨.int m,H2,I2.kept (t':=tk) hk,⟨_,rfl⟩,q⟩
end
end L2
namespace L3
open PySem PySem.Spec L2 L5 PyProof.Rows
def Bj(k:Int)(wi:lP)(g:gA)(tt:eO)(te:bX)(n:Nat)(fr:List Nat):bX:=λ δ M Q=>gn wi g tt te n fr δ M λ ds M'=>∃ns:List Int,ds=ns.map D.int/\Q (.int (fL k ns)) M'
def DW(k:Int)(d:D)(M:Mem)(Q:bL):Prop:=∃(l:Addr) (ns:List Int),d=.ref l/\M l=some (.lst (ns.map D.int))/\Q (.int (fL k ns)) M
def Bi(k:Int)(te:bX):bX:=λ δ M Q=>te δ M λ d M1=>DW k d M1 Q
section
variable {X:Cx}{scope:Scope}{tgs:List Str}{fr:List Nat}{tg elt iter e:Expr}{ifs:List Expr}{p pos kp bJ Di:Pos}{wi:lP}{g:gA}{tt:eO}{te:bX}{k:Int}{j:_}
theorem K6(hc:X.calm=true)(hg:Gl X "max")(hm:X.mg "max"=none)(C:iZ X scope tgs fr tg iter ifs elt wi g tt te)
  (hs:∀x,foldedSetIterable iter X.env x=pure x:=by intro _;rfl)
  (Hy:starEach [.ListComp elt [⟨tg,iter,ifs,0⟩] scope bJ] X.env=[(false,eval (.ListComp elt [⟨tg,iter,ifs,0⟩] scope bJ) X.env)]:=by rfl) (km:backTo pos (starEach [.ListComp elt [⟨tg,iter,ifs,0⟩] scope bJ] X.env)=(false,eval (.ListComp elt [⟨tg,iter,ifs,0⟩] scope bJ) X.env)::backTo pos (starEach [] X.env):=by rfl)
  (hZ:(backTo pos (starEach [.ListComp elt [⟨tg,iter,ifs,0⟩] scope bJ] X.env)).any (·.1)=false:=by rfl):
  QE X (.Call (.Name "max" p) [.ListComp elt [⟨tg,iter,ifs,0⟩] scope bJ] [⟨some "default",.Constant (.int k) j Di,kp⟩] pos) (Bj k wi g tt te tgs.length fr):=by
 obtain⟨B,zX,hE,hi,⟨gv,DE,gk,gl⟩,ht,he⟩:=C
 refine bS (xU hc hg hm (jo (tt:=xt X.K tt) (te:=up X.K te) B zX hE hi DE gk ht he hs) vY Hy km hZ) ?_
 rintro σ H Q ⟨δ,M,Q2,hs,hm,q,kk⟩
 show mT (NT X.K wi) gv (xt X.K tt) (up X.K te) tgs.length fr σ H _
 refine fU gl hs hm q λ acc xs H' M' p uj gO t' hz hp q'=>?_
 obtain⟨ns,rfl,q'⟩:=q'
 rw[cY uj]
 exact⟨p,ns,k,rfl,rfl,dD.of bB,kk _ _ (.int _) M' (ax.mpr rfl) (gO.laid hp) (t'.trans (av.laid hp)) q'⟩
theorem K5(hc:X.calm=true)(hg:Gl X "max")(hm:X.mg "max"=none)(he:QE X e te)
  (hs:starEach [e] X.env=[(false,eval e X.env)]:=by rfl) (km:backTo pos (starEach [e] X.env)=(false,eval e X.env)::backTo pos (starEach [] X.env):=by rfl) (hZ:(backTo pos (starEach [e] X.env)).any (·.1)=false:=by rfl):
  QE X (.Call (.Name "max" p) [e] [⟨some "default",.Constant (.int k) j Di,kp⟩] pos) (Bi k te):=by
 refine bS (xU hc hg hm he vY hs km hZ) ?_
 rintro σ H Q ⟨δ,M,Q2,hs,hm,q,kk⟩
 refine⟨δ,M,_,hs,hm,q,λ x H1 d M1 hd bW t1 q1=>?_⟩
 obtain⟨l,ns,rfl,hM,q1⟩:=q1
 cases(aF.mp hd)
 obtain⟨ys,hy,hd2⟩:=bW l _ hM
 rw[cY hd2]at hy
 exact⟨l,ns,k,rfl,rfl,dD.of hy,kk _ _ (.int _) M1 (ax.mpr rfl) bW t1 q1⟩
end
section
variable {δ:de}{M:Mem}{Q:bL}{wi:lP}{g:gA}{tt:eO}{te:bX}{n:Nat}{fr:List Nat}{k:Int}
theorem Fy(h:gn wi g tt te n fr δ M λ ds M'=>∃ns:List Int,ds=ns.map D.int/\Q (.int (fL k ns)) M'):Bj k wi g tt te n fr δ M Q:=h
theorem Fx(h:te δ M λ d M1=>DW k d M1 Q):Bi k te δ M Q:=h
theorem Bz{l:Addr}{ns:List Int}(hM:M l=some (.lst (ns.map D.int)))(q:Q (.int (fL k ns)) M):DW k (.ref l) M Q:=⟨l,ns,rfl,hM,q⟩
end
end L3
namespace L4
open PySem PySem.Spec L2 L3 L5
section
variable {X:Cx}{scope:Scope}{tgs:List Str}{fr:List Nat}{tg elt iter e:Expr}{ifs:List Expr}{p pos kp bJ Di:Pos}{wi:lP}{g:gA}{tt:eO}{te:bX}{k:Int}{j:_}
theorem Jz(hc:X.calm=true)(hg:Gl X "max")(hm:X.mg "max"=none)(C:ft X scope tgs fr tg iter ifs elt wi g tt te)
  (hs:∀x,foldedSetIterable iter X.env x=pure x:=by intro _;rfl)
  (Hy:starEach [.ListComp elt [⟨tg,iter,ifs,0⟩] scope bJ] X.env=[(false,eval (.ListComp elt [⟨tg,iter,ifs,0⟩] scope bJ) X.env)]:=by rfl) (km:backTo pos (starEach [.ListComp elt [⟨tg,iter,ifs,0⟩] scope bJ] X.env)=(false,eval (.ListComp elt [⟨tg,iter,ifs,0⟩] scope bJ) X.env)::backTo pos (starEach [] X.env):=by rfl)
  (hZ:(backTo pos (starEach [.ListComp elt [⟨tg,iter,ifs,0⟩] scope bJ] X.env)).any (·.1)=false:=by rfl):
  WE X (.Call (.Name "max" p) [.ListComp elt [⟨tg,iter,ifs,0⟩] scope bJ] [⟨some "default",.Constant (.int k) j Di,kp⟩] pos) (Bj k wi g tt te tgs.length fr):=⟨K6 hc hg hm C.h hs Hy km hZ⟩
theorem Jy(hc:X.calm=true)(hg:Gl X "max")(hm:X.mg "max"=none)(he:WE X e te)
  (hs:starEach [e] X.env=[(false,eval e X.env)]:=by rfl) (km:backTo pos (starEach [e] X.env)=(false,eval e X.env)::backTo pos (starEach [] X.env):=by rfl) (hZ:(backTo pos (starEach [e] X.env)).any (·.1)=false:=by rfl):
  WE X (.Call (.Name "max" p) [e] [⟨some "default",.Constant (.int k) j Di,kp⟩] pos) (Bi k te):=⟨K5 hc hg hm he.h hs km hZ⟩
end
end L4
namespace L3
open PySem PySem.Spec L2 L5 PyProof.Rows
def Bn(i:Nat)(te:bX):jM:=λ E δ M=>∃a,δ[i]?=some (some (.int a))/\te δ M λ d M1=>∃b,d=.int b/\E.nx (δ.set i (some (.int (a+b)))) M1
section
variable {X:Cx}{pos:Pos}{te:bX}
theorem FY{i:Nat}{x:Str}{e:Expr}{pos':Pos}(hN:X.N.Nodup)(hi:X.N[i]?=some x)(hx:Loc X.env.scope x)(he:QE X e te)(hf:X.fn x=true\/X.env.scope.names.lookup x=some .local:=by first|exact .inl rfl|exact .inr rfl|assumption):
  QS X (.AugAssign (.Name x pos') .Add e pos) (Bn i te):=jm (Le hN hi hx he MB hf) λ E σ H ⟨δ,M,D2,hs,hm,⟨a,ea,q⟩,k⟩=>by
 obtain⟨v,ev,hv⟩:=hs.get i _ ea
 cases(ax.mp hv)
 refine⟨_,ev,δ,M,_,hs,hm,q,λ y H1 d M1 hd bW t1 q1=>?_⟩
 obtain⟨b,rfl,q1⟩:=q1
 cases(ax.mp hd)
 exact⟨_,_,rfl,rfl,k.nx _ _ _ _ ((hs.mono t1).set (ax.mpr rfl)) bW t1 q1⟩
end
theorem FN{i:Nat}{te:bX}{E:jP}{δ:de}{M:Mem}{a:Int}(ea:δ[i]?=some (some (.int a)))(h:te δ M λ d M1=>∃b,d=.int b/\E.nx (δ.set i (some (.int (a+b)))) M1):Bn i te E δ M:=⟨a,ea,h⟩
def Jj(R:Src->Mem->Prop)(ds:List D)(M1:Mem):Prop:=match ds with
 |[.tup xs]=>R (.fix (eZ xs)) M1
 |[x]=>(∃zs,cT M1 x=some zs)/\R (.fn (ux x)) M1
 |_=>False
theorem BF{ta:iW}{δ:de}{M:Mem}{R:Src->Mem->Prop}(h:ta δ M (Jj R)):C' ta δ M R:=h
theorem BG{xs:List D}{M:Mem}{R:Src->Mem->Prop}(h:R (.fix (eZ xs)) M):Jj R [.tup xs] M:=h
def Jv(R:Src->Mem->Prop)(ds:List D)(M1:Mem):Prop:=match ds with
 |[.tup xs,.tup ys]=>R (.fix (iH xs ys)) M1
 |[x,y]=>(∃zs,iA x y M1=some zs)/\R (.fn (iA x y)) M1
 |_=>False
theorem Fe{ta:iW}{δ:de}{M:Mem}{R:Src->Mem->Prop}(h:ta δ M (Jv R)):CZ ta δ M R:=h
theorem Bq{xs ys:List D}{M:Mem}{R:Src->Mem->Prop}(h:R (.fix (iH xs ys)) M):Jv R [.tup xs,.tup ys] M:=h
theorem Br{xs ys:List D}{a:Addr}{M:Mem}{R:Src->Mem->Prop}(hM:M a=some (.lst ys))(h:R (.fn (iA (.tup xs) (.ref a))) M):Jv R [.tup xs,.ref a] M:=⟨⟨iH xs ys,by unfold iA;rw[mW hM];rfl⟩,h⟩
section
variable {g:gA}{tt:eO}{te:bX}{δ δc:de}{M1:Mem}{Qe:List D->Mem->Prop}
abbrev V_{α:Type}(enc:α->D)(p:α×Nat):D:=.tup [.int (p.2:Int),enc p.1]
theorem HY{α:Type}{xs:List α}{enc:α->D}(out:α×Nat->D)(hn:xs.length<=10000)
  (hs:∀(i:Nat) (x:α) (N:D->Mem->Prop),xs[i]?=some x->N (out (x,i)) M1->g (V_ enc (x,i)) δc M1 λ δ2 M2=>te δ2 M2 N)
  (hd:Qe (xs.zipIdx.map out) M1):
  ∃(B:Nat) (W:Nat->List D->Mem->Prop),W 0 [] M1/\∀i acc M,W i acc M->i<=B/\acc.length<=sizeLine/\match items (.fix (eZ (xs.map enc))) M with
   |none=>False
   |some ds=>match ds[i]? with
    |none=>i=ds.length/\Qe acc M
    |some d=>g d δc M λ δ2 M2=>ql δ2 M2 λ b M3=>if b=true then te δ2 M3 λ y M4=>W (i+1) (acc++[y]) M4 else W (i+1) acc M3:=by
 rw[DO]
 refine dX (xs:=xs.zipIdx) (enc:=V_ enc) out (by rw[length_zipIdx];exact hn) (λ i x N hx hN=>?_) hd
 rw[getElem?_zipIdx]at hx
 cases e:xs[i]? with
 |none=>rw[e]at hx;cases hx
 |some y=>
  rw[e]at hx
  have:(y,0+i)=x:=B2 hx
  rw[Nat.zero_add]at this
  subst this
  exact hs i y N e hN
end
end L3
namespace L4
open PySem PySem.Spec L2 L3 L5
section
variable {X:Cx}{pos:Pos}{te:bX}
theorem EI{i:Nat}{x:Str}{e:Expr}{pos':Pos}(hN:X.N.Nodup)(hi:X.N[i]?=some x)(hx:Loc X.env.scope x)(he:WE X e te)(hf:X.fn x=true\/X.env.scope.names.lookup x=some .local:=by first|exact .inl rfl|exact .inr rfl|assumption):
  WS X (.AugAssign (.Name x pos') .Add e pos) (Bn i te):=⟨FY hN hi hx he.h hf⟩
end
end L4
namespace L2
open PySem PySem.Spec PyProof.Rows
section
variable {X:Cx}
def Tq(K:PySem.W.Frag)(x y:V)(H:Hp)(Q:Bool->Prop):Prop:=(∃a o,y=.ref a/\oR H a x o/\Q o.isSome)\/∃a b kvs k,y=.ref a/\x=.ref b/\om K H a kvs/\k.dep<=5/\hV K H k (.ref b)/\Q (jc kvs k).isSome
theorem GF(neg:Bool)(hu:X.A.units+64 < cLine):fu X (compareOp (if neg then .NotIn else .In)) (λ x y H Q=>Tq X.K x y H λ b=>Q (.bl (if neg then !b else b)) H):=by
 intro pins s σ H x y v u Q I rx ry h
 rcases h with⟨a,o,rfl,g,q⟩|⟨a,b,kvs,k,rfl,rfl,d,hk,vk,q⟩
 ·cases(show u=Value.ref a from ry)
  cases neg with
  |false=>exact Vc (by omega) I g rx λ s3 I3=>⟨.bl o.isSome,H,I3,rfl,q⟩
  |true=>exact HR (by omega) I g rx λ s3 I3=>⟨.bl (!o.isSome),H,I3,rfl,q⟩
 ·cases(show u=Value.ref a from ry)
  cases(show v=Value.ref b from rx)
  cases neg with
  |false=>exact SQ hu I d hk vk λ s3 I3=>⟨.bl (jc kvs k).isSome,H,I3,rfl,q⟩
  |true=>exact ET hu I d hk vk λ s3 I3=>⟨.bl (!(jc kvs k).isSome),H,I3,rfl,q⟩
def OX(K:PySem.W.Frag)(x y:V)(H:Hp)(Q:VK):Prop:=(∃a v,x=.ref a/\oR H a y (some v)/\Q v H)\/∃a b kvs k v,x=.ref a/\y=.ref b/\om K H a kvs/\k.dep<=5/\hV K H k (.ref b)/\jc kvs k=some v/\Q v H
theorem Mx(hu:X.A.units+64 < cLine):xf X (λ x y H Q=>OX X.K x y H Q):=by
 intro value slice pins s σ H x y v u Q I rx ry h hs
 rcases h with⟨a,w,rfl,g,q⟩|⟨a,b,kvs,k,w,rfl,rfl,d,hk,vk,g,q⟩
 ·cases(show v=Value.ref a from rx)
  refine tail_any (ops:=[.ref a,u]) (uD I g) PySem.F.slot_dict_getitem.lookup ?_ hs
  exact Ae (by omega) I g ry λ w' s3 I3 vM=>⟨w,H,I3,vM,q⟩
 ·cases(show v=Value.ref a from rx)
  cases(show u=Value.ref b from ry)
  obtain⟨_,_,xs,_,dd⟩:=d.of I
  refine tail_any (ops:=[.ref a,.ref b]) dd.typeIs PySem.F.slot_dict_getitem.lookup ?_ hs
  exact zk hu I d hk vk g λ w' s3 I3 vM=>⟨w,H,I3,vM,q⟩
def OW(K:PySem.W.Frag):Ar:=λ o i v H Q=>(∃a H',o=.ref a/\Eu H a i v H'/\Q H')\/∃a b kvs k,o=.ref a/\i=.ref b/\om K H a kvs/\k.dep<=5/\hV K H k (.ref b)/\kvs.length < sizeLine/\Q (upd H a (oG a (jl kvs k b v)))
theorem Fc(hu:X.A.units+64 < cLine):rS X (OW X.K):=by
 intro pins s σ H o i v ov iv u Q I ro ri rv h
 rcases h with⟨a,H',rfl,g,q⟩|⟨a,b,kvs,k,rfl,rfl,d,hk,vk,hl,q⟩
 ·cases(show ov=Value.ref a from ro)
  exact Ac (by omega) I g ri rv λ s3 I3=>⟨H',I3,q⟩
 ·cases(show ov=Value.ref a from ro)
  cases(show iv=Value.ref b from ri)
  exact zj hu I d hk vk hl rv λ s3 I3=>⟨_,I3,q⟩
theorem wY:dH X (.builtin "len") (λ xs H Q=>∃a,xs=[.ref a]/\((∃kvs,H a=some (.dK kvs)/\Q (.int kvs.length) H)\/∃kvs,H a=some (oG a kvs)/\Q (.int kvs.length) H)):=by
 intro pins s σ H xs us Q I r h
 obtain⟨a,rfl,h⟩:=h
 obtain⟨u,rfl,ru⟩:=vals1 r
 cases(show u=Value.ref a from ru)
 rcases h with⟨kvs,e,q⟩|⟨kvs,e,q⟩
 ·exact QV I (.inl e) λ t s' I'=>⟨.int kvs.length,H,I',⟨t,rfl⟩,q⟩
 ·exact Ou I e λ t s' I'=>⟨.int kvs.length,H,I',⟨t,rfl⟩,q⟩
end
end L2
namespace L3
open PySem PySem.Spec L2 L5 PyProof.Rows
noncomputable instance Ys:DecidableEq D:=λ a b=>Classical.propDecidable (a=b)
noncomputable def fh (kvs:List (D×D))(k:D):Option D:=(kvs.find? λ p=>decide (p.1=k)).map (·.2)
noncomputable def putD (kvs:List (D×D))(k v:D):List (D×D):=if(fh kvs k).isSome=true then kvs.map (λ p=>if p.1=k then(p.1,v)else p)else kvs++[(k,v)]
def lq(t:Bool)(x:D):Prop:=match t with
 |false=>∃k:Key,x=oD k
 |true=>∃ks:List IK,x=lJ (.t ks)/\(IK.t ks).dep<=5
def Av(K:PySem.W.Frag)(H:Hp):Option D->Option V->Prop
 |none,none=>True
 |some d,some v=>Dat K H d v
 |_,_=>False
section
variable {K:PySem.W.Frag}{H:Hp}
theorem Ik.look {kvs:List (D×D)}{xs:List (Key×V)}(h:Ik K H kvs xs)(k:Key):Av K H (fh kvs (oD k)) (iM xs k):=by
 induction h with
 |nil=>exact True.intro
 |@cons p q ps qs oo t ih=>
  obtain⟨h1,h2⟩:=oo
  unfold fh iM at ih ⊢
  by_cases e:q.1=k
  ·have e':p.1=oD k:=by rw[h1,e]
   simp only[A8,C1 e,C1 e',Option.map_some]
   exact h2
  ·have e':¬p.1=oD k:=λ z=>e (tX (h1.symm.trans z))
   simp only[A8,A9 e,A9 e']
   exact ih
theorem xg.look {kvs:List (D×D)}{xs:List fc}(h:xg K H kvs xs)(k:IK):Av K H (fh kvs (lJ k)) (jc xs k):=by
 induction h with
 |nil=>exact True.intro
 |@cons p q ps qs oo t ih=>
  obtain⟨h1,_,_,h2⟩:=oo
  unfold fh jc at ih ⊢
  by_cases e:q.1=k
  ·have e':p.1=lJ k:=by rw[h1,e]
   simp only[A8,C1 e,C1 e',Option.map_some]
   exact h2
  ·have e':¬p.1=lJ k:=λ z=>e (qU (h1.symm.trans z))
   simp only[A8,A9 e,A9 e']
   exact ih
theorem Av.isSome {o:Option D}{u:Option V}(h:Av K H o u):o.isSome=u.isSome:=by
 cases o with
 |none=>cases u with
  |none=>rfl
  |some _=>exact(show False from h).elim
 |some _=>cases u with
  |none=>exact(show False from h).elim
  |some _=>rfl
theorem Av.some_of {d:D}{u:Option V}(h:Av K H (some d) u):∃v,u=some v/\Dat K H d v:=by
 cases u with
 |none=>exact(show False from h).elim
 |some v=>exact⟨v,rfl,h⟩
theorem xg.keys {a:Addr}{kvs:List (D×D)}{xs:List fc}(h:xg K H kvs xs)(e:H a=some (oG a xs)):om K H a xs:=by
 refine⟨e,?_⟩
 clear e
 induction h with
 |nil=>intro p hp;cases hp
 |@cons p q ps qs oo t ih=>
  intro x hx
  rcases D3.mp hx with rfl|hx
  ·obtain⟨h1,h2,h3,_⟩:=oo
   rw[h1]at h3
   exact⟨h2,ky _ h3⟩
  ·exact ih x hx
theorem BU(xs:List (Key×V))(k:Key)(v:V):putK xs k v=if(iM xs k).isSome=true then xs.map (λ kv=>if kv.1=k then(kv.1,v)else kv)else xs++[(k,v)]:=by
 unfold putK
 rw[mO]
theorem Ik.put {kvs:List (D×D)}{xs:List (Key×V)}(h:Ik K H kvs xs)(k:Key){d:D}{v:V}(hd:Dat K H d v):Ik K H (putD kvs (oD k) d) (putK xs k v):=by
 rw[BU]
 unfold putD
 rw[(h.look k).isSome]
 by_cases e:(iM xs k).isSome=true
 ·rw[J9 e,J9 e]
  clear e
  induction h with
  |nil=>exact .nil
  |@cons p q ps qs oo t ih=>
   rw[D1,D1]
   refine .cons ?_ ih
   obtain⟨h1,h2⟩:=oo
   by_cases e:q.1=k
   ·rw[J9 e,J9 (by rw[h1,e])];exact⟨h1,hd⟩
   ·rw[K0 e,K0 (λ z=>e (tX (h1.symm.trans z)))];exact⟨h1,h2⟩
 ·rw[K0 e,K0 e]
  exact Paired.snoc h ⟨rfl,hd⟩
theorem xg.put {kvs:List (D×D)}{xs:List fc}(h:xg K H kvs xs)(k:IK){b:Addr}{d:D}{v:V}(hk:k.dep<=5)(hb:Dat K H (lJ k) (.ref b))(hd:Dat K H d v):xg K H (putD kvs (lJ k) d) (jl xs k b v):=by
 unfold putD jl
 rw[(h.look k).isSome]
 by_cases e:(jc xs k).isSome=true
 ·rw[J9 e,J9 e]
  clear e
  induction h with
  |nil=>exact .nil
  |@cons p q ps qs oo t ih=>
   rw[D1,D1]
   refine .cons ?_ ih
   obtain⟨h1,h2,h3,h4⟩:=oo
   by_cases e:q.1=k
   ·rw[J9 e,J9 (by rw[h1,e])];exact⟨h1,h2,h3,hd⟩
   ·rw[K0 e,K0 (λ z=>e (qU (h1.symm.trans z)))];exact⟨h1,h2,h3,h4⟩
 ·rw[K0 e,K0 e]
  exact Paired.snoc h ⟨rfl,hk,hb,hd⟩
end
section
variable {X:Cx}
def Nw(neg:Bool):fX:=λ x y M Q=>∃a t kvs,y=.ref a/\M a=some (.dG t kvs)/\lq t x/\Q (.bl (if neg then !(fh kvs x).isSome else(fh kvs x).isSome)) M
theorem lU{K:PySem.W.Frag}{H:Hp}{ks:List IK}{v:V}(h:Dat K H (lJ (.t ks)) v):∃b,v=.ref b:=by
 unfold lJ at h
 obtain⟨p,xs,rfl,_⟩:=aS.mp h
 exact⟨p,rfl⟩
theorem Cu(neg:Bool)(hu:X.A.units+64 < cLine):fF X (compareOp (if neg then .NotIn else .In)) (Nw neg):=⟨_,GF neg hu,λ x y d e H M Q2 Q hd he hm q k=>by
 obtain⟨a,t,kvs,rfl,hM,ok,q⟩:=q
 cases(aF.mp he)
 have hr:=hm a _ hM
 cases t with
 |false=>
  obtain⟨xs,hx,rel⟩:=hr
  obtain⟨kk,rfl⟩:=ok
  rw[rp hd]
  refine .inl ⟨a,_,rfl,oR.k hx,k _ H _ M (aW.mpr rfl) hm (av.refl H) ?_⟩
  rw[<- (rel.look kk).isSome]
  exact q
 |true=>
  obtain⟨xs,hx,rel⟩:=hr
  obtain⟨ks,rfl,jC⟩:=ok
  obtain⟨b,rfl⟩:=lU hd
  refine .inr ⟨a,b,xs,_,rfl,rfl,rel.keys hx,jC,ky _ hd,k _ H _ M (aW.mpr rfl) hm (av.refl H) ?_⟩
  rw[<- (rel.look _).isSome]
  exact q⟩
def Vd:fX:=λ x y M Q=>HV x y M Q\/Nw false x y M Q
theorem Pp(hu:X.A.units+64 < cLine):fF X (compareOp .In) Vd:=(tf hu).or (Cu false hu)
def yG:fX:=λ x y M Q=>rB x y M Q\/Nw true x y M Q
theorem nk(hu:X.A.units+64 < cLine):fF X (compareOp .NotIn) yG:=(Cs hu).or (Cu true hu)
def Q4:fX:=λ x y M Q=>∃a t kvs d,x=.ref a/\M a=some (.dG t kvs)/\lq t y/\fh kvs y=some d/\Q d M
def Nq:fX:=λ x y M Q=>Nr x y M Q\/Q4 x y M Q
theorem AQ(hu:X.A.units+64 < cLine):Ro X Nq:=by
 obtain⟨r,h1,h2⟩:=(L3.bD:Ro X Nr)
 refine⟨_,h1.or (Mx hu),λ x y d e H M Q2 Q hd he hm q k=>?_⟩
 rcases q with q|⟨a,t,kvs,w,rfl,hM,ok,hl,q⟩
 ·exact .inl (h2 x y d e H M Q2 Q hd he hm q k)
 ·cases(aF.mp hd)
  have hr:=hm a _ hM
  cases t with
  |false=>
   obtain⟨xs,hx,rel⟩:=hr
   obtain⟨kk,rfl⟩:=ok
   have hv:=rel.look kk
   rw[hl]at hv
   obtain⟨v,e1,e2⟩:=hv.some_of
   rw[rp he]
   exact .inr (.inl ⟨a,v,rfl,by rw[<- e1];exact oR.k hx,k _ H _ M e2 hm (av.refl H) q⟩)
  |true=>
   obtain⟨xs,hx,rel⟩:=hr
   obtain⟨ks,rfl,jC⟩:=ok
   have hv:=rel.look (.t ks)
   rw[hl]at hv
   obtain⟨v,e1,e2⟩:=hv.some_of
   obtain⟨b,rfl⟩:=lU he
   exact .inr (.inr ⟨a,b,xs,_,v,rfl,rfl,rel.keys hx,jC,ky _ he,e1,k _ H _ M e2 hm (av.refl H) q⟩)
def Q3:jL:=λ o i v M N=>∃a t kvs,o=.ref a/\M a=some (.dG t kvs)/\lq t i/\kvs.length < sizeLine/\N (ai M a (.dG t (putD kvs i v)))
def Jn:jL:=λ o i v M N=>HS o i v M N\/Q3 o i v M N
theorem rS.or {t u:Ar}(h:rS X t)(g:rS X u):rS X (λ o i v H Q=>t o i v H Q\/u o i v H Q):=by
 intro pins s σ H o i v ov iv uu Q I ro ri rv q
 rcases q with q|q
 ·exact h pins s σ H o i v ov iv uu Q I ro ri rv q
 ·exact g pins s σ H o i v ov iv uu Q I ro ri rv q
theorem vI(hu:X.A.units+64 < cLine):Er X Jn:=by
 obtain⟨r,h1,h2⟩:=(kT:Er X HS)
 refine⟨_,rS.or h1 (Fc hu),λ o i v d j e H M Q2 Q hd hj he hm q k=>?_⟩
 rcases q with q|⟨a,t,kvs,rfl,hM,ok,hl,q⟩
 ·exact .inl (h2 o i v d j e H M Q2 Q hd hj he hm q k)
 ·cases(aF.mp hd)
  have hr:=hm a _ hM
  cases t with
  |false=>
   obtain⟨xs,hx,rel⟩:=hr
   obtain⟨kk,rfl⟩:=ok
   rw[rp hj]
   have t:=av.mut (o:=.dK (putK xs kk v)) hx (λ _ z=>by cases z) (λ _ _ z=>by cases z)
   refine .inr (.inl ⟨a,_,rfl,Eu.k hx (by rw[<- C7 rel];exact hl),k _ _ (hm.put (u:=.dG false (putD kvs (oD kk) e)) t ⟨_,bB,(rel.put kk he).mono t⟩) t q⟩)
  |true=>
   obtain⟨xs,hx,rel⟩:=hr
   obtain⟨ks,rfl,jC⟩:=ok
   obtain⟨b,rfl⟩:=lU hj
   have t:=av.mut (o:=oG a (jl xs (.t ks) b v)) hx (λ _ z=>by cases z) (λ _ _ z=>by cases z)
   refine .inr (.inr ⟨a,b,xs,_,rfl,rfl,rel.keys hx,jC,ky _ hj,by rw[<- C7 rel];exact hl,k _ _ (hm.put (u:=.dG true (putD kvs (lJ (.t ks)) e)) t ⟨_,bB,(rel.put (.t ks) jC hj he).mono t⟩) t q⟩)
def DY:List D->Mem->bL->Prop:=λ xs M Q=>wU xs M Q\/∃a t kvs,xs=[.ref a]/\M a=some (.dG t kvs)/\Q (.int (kvs.length:Nat)) M
theorem rL:df X (.builtin "len") DY:=by
 obtain⟨r,h1,h2⟩:=(L3.gH:df X (.builtin "len") wU)
 refine⟨_,h1.or wY,λ xs ds H M Q2 Q hd hm q k=>?_⟩
 rcases q with q|⟨a,t,kvs,rfl,hM,q⟩
 ·exact .inl (h2 xs ds H M Q2 Q hd hm q k)
 ·obtain⟨x,r,rfl,hx,hr⟩:=aj.mp hd
  cases(aq.mp hr)
  cases(aF.mp hx)
  have hr:=hm a _ hM
  cases t with
  |false=>
   obtain⟨xs,hx,rel⟩:=hr
   exact .inr ⟨a,rfl,.inl ⟨xs,hx,by rw[<- C7 rel];exact k _ H _ M (ax.mpr rfl) hm (av.refl H) q⟩⟩
  |true=>
   obtain⟨xs,hx,rel⟩:=hr
   exact .inr ⟨a,rfl,.inr ⟨xs,hx,by rw[<- C7 rel];exact k _ H _ M (ax.mpr rfl) hm (av.refl H) q⟩⟩
def IC(t:Bool):bX:=λ _ M Q=>∀p,M p=none->Q (.ref p) (ai M p (.dG t []))
theorem K7(t:Bool){pos:Pos}:QE X (.Dict [] [] pos) (IC t):=by
 cases t with
 |false=>
  refine bS Cf λ σ H Q ⟨δ,M,Q2,hs,hm,q,k⟩ p hp=>?_
  exact k _ _ (.ref p) _ (aF.mpr rfl) (hm.put (u:=.dG false []) (av.laid hp) ⟨[],bB,.nil⟩) (av.laid hp) (q p (hm.free hp))
 |true=>
  refine bS Cg λ σ H Q ⟨δ,M,Q2,hs,hm,q,k⟩ p hp=>?_
  exact k _ _ (.ref p) _ (aF.mpr rfl) (hm.put (u:=.dG true []) (av.laid hp) ⟨[],bB,.nil⟩) (av.laid hp) (q p (hm.free hp))
end
end L3
namespace L4
open PySem PySem.Spec L2 L3 L5
theorem JA{X:Cx}(t:Bool){pos:Pos}:WE X (.Dict [] [] pos) (IC t):=⟨K7 t⟩
end L4
namespace L2
open PySem PySem.Spec PySem.W PyProof.Rows L5
section
variable {X:Cx}
theorem yV.vals {kvs:List fc}{xs:List (IK×Addr×Value)}(r:yV kvs xs):Vals (kvs.map λ p=>V.ref p.2.1) ((xs.map QM).map (·.key)):=by
 induction r with
 |nil=>exact .nil
 |@cons p q ps qs h t ih=>
  refine .cons ?_ ih
  show Value.ref q.2.1=Value.ref p.2.1
  rw[h.2.1]
theorem uV(hh:X.A.handled=none):dH X (.type "list") (λ xs H Q=>∃a kvs,xs=[.ref a]/\H a=some (oG a kvs)/\∀l,H l=none->Q (.ref l) (upd H l (.lst (kvs.map λ p=>V.ref p.2.1)))):=by
 intro pins s σ H xs us Q I r h
 obtain⟨a,kvs,rfl,e,q⟩:=h
 obtain⟨u,rfl,rx⟩:=vals1 r
 cases(show u=Value.ref a from rx)
 obtain⟨⟨z,y,xs,rel,o,es,ep,h1,h2,h3,h4,h5⟩,_,_⟩:=(show bK X.prog X.w H s.heap a (oG a kvs)from I.bO a _ e)
 have e1:es.size=kvs.length:=by rw[<- o7,h4,B7];exact(C7 rel).symm
 refine kdl_call (xN y) hh (⟨o,h1,h2,h3⟩:Raw s.heap a es ep) (by rw[e1];exact z) λ h' tk acc c' kp hD it=>?_
 have ea:=pq it
 rw[h4]at ea
 exact⟨.ref s.heap.objs.size,_,I.laid (t':=tk) kp (E9 _) (show bK X.prog X.w _ h' _ (.lst _)from⟨by rw[B7];exact z,acc.toList,c',by rw[ea];exact rel.vals,by rw[Array.toArray_toList];exact hD⟩),rfl,q _ (I.bO.fresh (E9 _))⟩
theorem Ci{k v:Expr}{tk tv:TE}{pos:Pos}(hu:X.A.units+64 < cLine)(hk:PE X k tk)(hv:PE X v tv):PE X (.Dict [some k] [v] pos) (λ σ H Q=>∀p,H p=none->tk σ (upd H p (oG p [])) λ x H1=>tv σ H1 λ y H2=>∃b ik,x=.ref b/\H2 p=some (oG p [])/\ik.dep<=5/\hV X.K H2 ik (.ref b)/\Q (.ref p) (upd H2 p (oG p (jl [] ik b y)))):=by
 intro pins s σ H Q I h
 refine wpAny_Dict_any rfl rfl (by simp) (by simp) ?_
 have I0:=I.laid (a:=s.heap.objs.size) (o:=oG s.heap.objs.size []) (t':=s.toks) (λ _ _ q=>k5 _ q) (E9 _) (rm (yA s.heap I.big))
 refine pairTrees_cons_walk (cV (hk pins _ σ _ _ I0 (h _ (I.bO.fresh (E9 _)))) λ kv s1 ⟨x,H1,I1,r1,q1⟩=>cV (hv pins s1 σ H1 _ I1 q1) λ vv s2 ⟨y,H2,I2,r2,q2⟩=>pairTrees_nil_walk ?_)
 obtain⟨b,ik,rfl,hp,hd,vk,q⟩:=q2
 cases(show kv=Value.ref b from r1)
 generalize s.heap.objs.size=p at*
 obtain⟨z,nm,xs,rel,dd⟩:=om.of I2 (kvs:=[]) ⟨hp,λ _ z=>by cases z⟩
 cases rel
 have uh:(jl [] ik b y).length<=sizeLine:=by have:=sT [] ik b y;exact E8 this (by decide)
 unfold storeAll
 rw[forIn_cons]
 refine G8 (G8 (wpAny_dictSet_heap (knd:=jd X.prog X.w) (hsz:=G5 _) (show X.A.units+8 < cLine by omega) ⟨hd,nB I2 ik vk rfl⟩ dd λ h' Jl hs=>G9 ?_))
 dsimp only
 rw[forIn_nil]
 obtain⟨q',es,ep,hq,h2,h3,h4,_,h5⟩:=Jl
 exact G9 ⟨.ref p,_,mD I2 (by rw[hp];exact True.intro) hs ⟨q',hq⟩ (rm ⟨uh,nm,_,yV.put .nil ik r2,q',es,ep,hq,h2,h3,h4,h5⟩),rfl,q⟩
end
end L2
namespace L3
open PySem PySem.Spec L2 L5 PyProof.Rows
section
variable {X:Cx}
theorem xg.ks {K:PySem.W.Frag}{H:Hp}{kvs:List (D×D)}{xs:List fc}(h:xg K H kvs xs):aE K H (kvs.map (·.1)) (xs.map λ p=>V.ref p.2.1):=by
 induction h with
 |nil=>exact aq.mpr rfl
 |@cons p q ps qs oo t ih=>exact aj.mpr ⟨_,_,rfl,oo.2.2.1,ih⟩
def DX:List D->Mem->bL->Prop:=λ xs M Q=>dList xs M Q\/∃a kvs,xs=[.ref a]/\M a=some (.dG true kvs)/\∀p,M p=none->Q (.ref p) (ai M p (.lst (kvs.map (·.1))))
theorem H_(hh:X.A.handled=none):df X (.type "list") DX:=by
 obtain⟨r,h1,h2⟩:=(L3.Ei:df X (.type "list") dList)
 refine⟨_,h1.or (uV hh),λ xs ds H M Q2 Q hd hm q k=>?_⟩
 rcases q with q|⟨a,kvs,rfl,hM,q⟩
 ·exact .inl (h2 xs ds H M Q2 Q hd hm q k)
 ·obtain⟨x,r,rfl,hx,hr⟩:=aj.mp hd
  cases(aq.mp hr)
  cases(aF.mp hx)
  obtain⟨xs,hx,rel⟩:=hm a _ hM
  exact .inr ⟨a,xs,rfl,hx,λ l hl=>k _ _ (.ref l) _ (aF.mpr rfl) (hm.put (u:=.lst _) (av.laid hl) ⟨_,bB,aE.mono (av.laid hl) _ rel.ks⟩) (av.laid hl) (q l (hm.free hl))⟩
def Bl(tk tv:bX):bX:=λ δ M Q=>∀p,M p=none->tk δ (ai M p (.dG true [])) λ x M1=>tv δ M1 λ y M2=>M2 p=some (.dG true [])/\lq true x/\Q (.ref p) (ai M2 p (.dG true [(x,y)]))
theorem Gh{k v:Expr}{tk tv:bX}{pos:Pos}(hu:X.A.units+64 < cLine)(hk:QE X k tk)(hv:QE X v tv):QE X (.Dict [some k] [v] pos) (Bl tk tv):=by
 refine bS (Ci hu hk hv) ?_
 rintro σ H Q ⟨δ,M,Q2,hs,hm,q,k⟩ p hp
 have t0:av H (upd H p (oG p [])):=av.laid hp
 refine⟨δ,ai M p (.dG true []),_,hs.mono t0,hm.put (u:=.dG true []) t0 ⟨[],bB,.nil⟩,q p (hm.free hp),λ x H1 d M1 hd bW t1 q1=>?_⟩
 refine⟨δ,M1,_,(hs.mono t0).mono t1,bW,q1,λ y H2 e M2 he vj t2 q2=>?_⟩
 obtain⟨h_,⟨ks,rfl,jC⟩,q2⟩:=q2
 have hd2:=Dat.mono t2 _ hd
 obtain⟨b,rfl⟩:=lU hd2
 obtain⟨xs,hx,rel⟩:=vj p _ h_
 cases rel
 have t:=av.mut (o:=oG p (jl [] (.t ks) b y)) hx (λ _ z=>by cases z) (λ _ _ z=>by cases z)
 exact⟨b,.t ks,rfl,hx,jC,ky _ hd2,k _ _ _ _ (aF.mpr rfl) (vj.put (u:=.dG true [(lJ (.t ks),e)]) t ⟨_,bB,((xg.put (kvs:=[]) .nil (.t ks) jC hd2 he):xg X.K H2 [(lJ (.t ks),e)] (jl [] (.t ks) b y)).mono t⟩) ((t0.trans t1).trans (t2.trans t)) q2⟩
end
section
variable {Q:bL}{M:Mem}{a:Addr}{kvs:List (D×D)}{x y v d:D}{t:Bool}{N:Mem->Prop}{xs:List D}
theorem pj(h:M a=some (.dG t kvs))(hk:lq t x)(q:Q (.bl (!(fh kvs x).isSome)) M):yG x (.ref a) M Q:=.inr ⟨a,t,kvs,rfl,h,hk,q⟩
theorem xM(h:Nr x y M Q):Nq x y M Q:=.inl h
theorem Kr(h:M a=some (.dG t kvs))(hk:lq t x)(e:fh kvs x=some d)(q:Q d M):Nq (.ref a) x M Q:=.inr ⟨a,t,kvs,d,rfl,h,hk,e,q⟩
theorem qq(h:M a=some (.dG t kvs))(hk:lq t x)(hl:kvs.length < sizeLine)(q:N (ai M a (.dG t (putD kvs x v)))):Jn (.ref a) x v M N:=.inr ⟨a,t,kvs,rfl,h,hk,hl,q⟩
theorem xK(h:M a=some (.dG t kvs))(q:Q (.int (kvs.length:Nat)) M):DY [.ref a] M Q:=.inr ⟨a,t,kvs,rfl,h,q⟩
theorem sO(h:wU xs M Q):DY xs M Q:=.inl h
theorem BB(h:M a=some (.dG true kvs))(q:∀p,M p=none->Q (.ref p) (ai M p (.lst (kvs.map (·.1))))):DX [.ref a] M Q:=.inr ⟨a,kvs,rfl,h,q⟩
end
end L3
namespace L4
open PySem PySem.Spec L2 L3 L5
theorem EL{X:Cx}{k v:Expr}{tk tv:bX}{pos:Pos}(hu:X.A.units+64 < cLine)(hk:WE X k tk)(hv:WE X v tv):WE X (.Dict [some k] [v] pos) (Bl tk tv):=⟨Gh hu hk.h hv.h⟩
end L4
namespace L3
open PySem PySem.Spec L2 L5 PyProof.Rows
inductive Oj(K:PySem.W.Frag)(H:Hp):List V->List PyData->Prop
 |nil:Oj K H [] []
 |cons {x:V} {a:PyData} {xs:List V} {as:List PyData}:NP K H x a->Oj K H xs as->Oj K H (x::xs) (a::as)
theorem lay_ints:∀hs:List Int,PyData.canLayAll0 (hs.map PyData.int)=true
 |[]=>by simp[PyData.canLayAll0]
 |h::hs=>by rw[D1,PyData.canLayAll0,lay_ints hs];simp[PyData.canLay0]
theorem uE:∀hs:List Int,PyData.depthAll (hs.map PyData.int)=0
 |[]=>by simp[PyData.depthAll]
 |h::hs=>by rw[D1,PyData.depthAll,uE hs];simp[PyData.depth]
section
variable {X:Cx}
theorem zx{pins:List (Addr×Obj)}{σ:L2.St}{H:Hp}{s:Shared}(I:Inv X pins σ H s){xs:List V}{as:List PyData}(h:Oj X.K H xs as):∀{us:List Value},Vals xs us->∃rs,ReadsAll s.heap us as rs:=by
 induction h with
 |nil=>
  intro us r
  cases r
  exact⟨_,ReadsAll.nil⟩
 |cons h1 h2 ih=>
  intro us r
  cases r with
  |cons r1 r2=>
   obtain⟨a,ra⟩:=eK I h1 r1
   obtain⟨b,rb⟩:=ih r2
   exact⟨_,ReadsAll.cons ra rb⟩
theorem LC(hu:X.A.units+64 < cLine):fu X (compareOp .NotEq) (λ x y H Q=>∃p b xs as,x=.ref p/\y=.ref b/\dD X.K H p xs/\dD X.K H b []/\Oj X.K H xs as/\SeqAt.shaped (.list as)=true/\Q (.bl (!as.isEmpty)) H):=by
 intro pins s σ H x y v u Q I rx ry h
 obtain⟨p,b,xs,as,rfl,rfl,hp,hb,hy,sh,q⟩:=h
 cases(show v=Value.ref p from rx)
 obtain⟨au,rv,pl,_⟩:=I.list hp
 obtain⟨o,ho,hc,m,uj⟩:=pl.isList
 obtain⟨rs,ra⟩:=zx I hy rv
 obtain⟨Zt,rb⟩:=eK I (x:=.ref b) (a:=.list []) (.inr ⟨b,[],[],rfl,hb,aq.mpr rfl,rfl,rfl⟩) ry
 have e:PyData.eqv (.list as) (.list [])=as.isEmpty:=by cases as <;> simp[PyData.eqv,PyData.eqvAll]
 rw[<- e]at q
 exact ne_dataH (reads_list_at ho hc uj ra) rb sh (by decide) hu ⟨.bl (!PyData.eqv (.list as) (.list [])),H,I,rfl,q⟩
def QZ:fX:=λ x y M Q=>∃(a b:Addr) (qs:List Addr),x=.ref a/\y=.ref b/\M a=some (.lst (qs.map D.ref))/\M b=some (.lst [])/\(∀q∈qs,∃hs:List Int,M q=some (.lst (hs.map D.int)))/\Q (.bl (!qs.isEmpty)) M
theorem BS{K:PySem.W.Frag}{H:Hp}{M:Mem}(hm:RelM K H M):∀{qs:List Addr} {xs:List V},aE K H (qs.map D.ref) xs->(∀q∈qs,∃hs:List Int,M q=some (.lst (hs.map D.int)))->∃as,Oj K H xs as/\as.isEmpty=qs.isEmpty/\PyData.canLayAll0 as=true/\PyData.depthAll as<=2
 |[],xs,h,_=>by
  cases(aq.mp h)
  exact⟨[],.nil,rfl,by simp[PyData.canLayAll0],by simp[PyData.depthAll]⟩
 |q::qs,xs,h,k=>by
  obtain⟨x,r,rfl,hx,hr⟩:=aj.mp h
  obtain⟨as,h1,_,h3,h4⟩:=BS hm hr λ q hq=>k q (m5 _ hq)
  obtain⟨hs,hq⟩:=k q (o9 ..)
  have e:sS M (.ref q)=some (.list (hs.map PyData.int)):=by
   unfold sS
   simp only[hq]
   rw[J9 (jr hs),toPs_ints]
  refine⟨_::as,.cons (jk e hx hm) h1,rfl,?_,?_⟩
  ·rw[PyData.canLayAll0,h3]
   simp[PyData.canLay0,lay_ints]
  ·rw[PyData.depthAll]
   simp only[PyData.depth,uE]
   omega
theorem Pn(hu:X.A.units+64 < cLine):fF X (compareOp .NotEq) QZ:=⟨_,LC hu,λ x y d e H M Q2 Q hd he hm q k=>by
 obtain⟨a,b,qs,rfl,rfl,hM,hb,hq,q⟩:=q
 cases(aF.mp hd)
 cases(aF.mp he)
 obtain⟨xs,hx,Sn⟩:=hm a _ hM
 obtain⟨ys,hy,XC⟩:=hm b _ hb
 cases(aq.mp XC)
 obtain⟨as,h1,h2,h3,h4⟩:=BS hm Sn hq
 refine⟨a,b,xs,as,rfl,rfl,.inl (.inl hx),.inl (.inl hy),h1,?_,?_⟩
 ·unfold SeqAt.shaped
  rw[A2,u4]
  exact⟨by simp only[PyData.canLay0];exact h3,by simp only[PyData.depth];omega⟩
 ·rw[h2]
  exact k _ H _ M (aW.mpr rfl) hm (av.refl H) q⟩
end
theorem Kl{M:Mem}{Q:bL}{a b:Addr}{qs:List Addr}(ha:M a=some (.lst (qs.map D.ref)))(hb:M b=some (.lst []))(hq:∀q∈qs,∃hs:List Int,M q=some (.lst (hs.map D.int)))(q:Q (.bl (!qs.isEmpty)) M):QZ (.ref a) (.ref b) M Q:=⟨a,b,qs,rfl,rfl,ha,hb,hq,q⟩
end L3
namespace KK
open PySem L3 L4 L5
open L2 hiding bD oB
abbrev Row:=List Int
inductive vn(nx:Row->List Row)(a:Row):Row->Prop
 |base:vn nx a a
 |step {b c:Row}:vn nx a b->c∈nx b->vn nx a c
theorem vn.closed {nx:Row->List Row}{a b:Row}{U:Row->Prop}(h:vn nx a b)(h0:U a)(hc:∀b c,U b->c∈nx b->U c):U b:=by
 induction h with
 |base=>exact h0
 |step _ m ih=>exact hc _ _ ih m
theorem xF{a b:Row}(h:row a=row b):a=b:=by
 have h:a.map D.int=b.map D.int:=by injection h
 exact(List.map_inj_right (λ x y e=>by injection e)).mp h
theorem Dm:∀r:Row,kj (r.map IK.i)=r.map D.int
 |[]=>by unfold kj;rfl
 |x::r=>by
  rw[D1,D1]
  show lJ (IK.i x)::kj (r.map IK.i)=_
  rw[Dm r]
  unfold lJ
  rfl
theorem Dr:∀r:Row,IK.jH (r.map IK.i)=0
 |[]=>by unfold IK.jH;rfl
 |x::r=>by
  rw[D1]
  show max (IK.dep (IK.i x)) (IK.jH (r.map IK.i))=0
  rw[Dr r]
  unfold IK.dep
  rfl
theorem gw(r:Row):lq true (row r):=by
 refine⟨r.map IK.i,?_,?_⟩
 ·unfold lJ row
  rw[Dm]
 ·unfold IK.dep
  rw[Dr]
  decide
def i_(kvs:List (Row×D)):List (D×D):=kvs.map λ p=>(row p.1,p.2)
theorem tT(kvs:List (Row×D))(x:Row):fh (i_ kvs) (row x)=(kvs.find? λ p=>p.1==x).map (·.2):=by
 unfold fh i_
 rw[find?_map,Option.map_map]
 have e:((λ p:D×D=>decide (p.1=row x))∘λ p:Row×D=>(row p.1,p.2))=λ p:Row×D=>p.1==x:=by
  funext p
  show decide (row p.1=row x)=(p.1==x)
  rw[A5,u4,beq_iff_eq]
  exact⟨xF,λ h=>by rw[h]⟩
 rw[e]
 rfl
theorem mw(kvs:List (Row×D))(x:Row):(fh (i_ kvs) (row x)).isSome=decide (x∈kvs.map (·.1)):=by
 rw[tT,x4,A5,u4,find?_isSome,E3]
 constructor
 ·rintro⟨p,h1,h2⟩
  exact⟨p,h1,by simpa using h2⟩
 ·rintro⟨p,h1,h2⟩
  exact⟨p,h1,by simpa using h2⟩
theorem xR{kvs:List (Row×D)}{x:Row}(v:D)(h:x∉kvs.map (·.1)):putD (i_ kvs) (row x) v=i_ (kvs++[(x,v)]):=by
 unfold putD
 rw[mw,K0 (by simpa using h)]
 simp[i_]
theorem jI(kvs:List (Row×D)):(i_ kvs).length=kvs.length:=by simp[i_]
theorem DU(kvs:List (Row×D)):(i_ kvs).map (·.1)=(kvs.map (·.1)).map row:=by simp[i_]
def yes(rs:List Row):List (Row×D):=rs.map λ r=>(r,.bl true)
theorem mI(rs:List Row):(yes rs).map (·.1)=rs:=by simp[yes,Function.comp_def]
theorem AF(rs:List Row)(x:Row):yes rs++[(x,.bl true)]=yes (rs++[x]):=by simp[yes]
def tm(g:List aG)(as:Row):Nat->List Row
 |0=>[]
 |i+1=>tm g as i++if 0 < as.getD i 0 then(g.getD i eN).2.map λ o=>plus (less as i) o else[]
theorem eE(g:List aG)(as:Row):∀i,(tm g as i).length=(kb g as i).length
 |0=>rfl
 |i+1=>by
  show(tm g as i++_).length=(kb g as i++_).length
  rw[p6,p6,eE g as i]
  unfold opt
  split
  ·rw[qG,B7]
  ·rfl
theorem qF(g:List aG)(as:Row):∀(i j:Nat) (d:D),(kb g as i)[j]?=some d->∃(h k:Int) (b:Row),d=.tup [.int h,.int k,row b]/\(tm g as i)[j]?=some b
 |0,j,d,e=>by simp[kb]at e
 |i+1,j,d,e=>by
  have e:(kb g as i++opt as i (tE as i (g.getD i eN).2 (g.getD i eN).2.length))[j]?=some d:=e
  show ∃h k b,_/\(tm g as i++if 0 < as.getD i 0 then(g.getD i eN).2.map (λ o=>plus (less as i) o)else[])[j]?=some b
  by_cases hj:j < (kb g as i).length
  ·rw[i0 hj]at e
   obtain⟨h,k,b,e1,e2⟩:=qF g as i j d e
   exact⟨h,k,b,e1,by rw[i0 (by rw[eE];exact hj)];exact e2⟩
  ·rw[e9 (by omega)]at e
   rw[e9 (by rw[eE];omega),eE]
   generalize j - (kb g as i).length=m at*
   unfold opt at e
   split at e
   ·rename_i hp
    rw[J9 hp]
    unfold tE at e
    rw[s9]at e
    by_cases hm:m < (g.getD i eN).2.length
    ·rw[n5 hm]at e
     refine⟨(i:Int),(m:Int),plus (less as i) ((g.getD i eN).2.getD m []),(B2 e).symm,?_⟩
     generalize(g.getD i eN).2=os at*
     rw[s9,g9,i9 hm]
     rfl
    ·rw[l9 (by simpa using hm)]at e
     cases e
   ·simp at e
theorem sU{as bs:Row}{n:Nat}(h:as.length=n)(g:bs.length=n):(plus as bs).length=n:=by
 unfold plus
 rw[length_zipWith,h,g,Nat.min_self]
theorem xY{n:Nat}{g:List aG}(G:cQ n g){as:Row}(ha:as.length=n):∀i,i<=n->∀r∈tm g as i,r.length=n
 |0,_,r,hr=>by cases hr
 |i+1,hi,r,hr=>by
  rcases B8.mp hr with q|q
  ·exact xY G ha i (by omega) r q
  ·split at q
   ·obtain⟨o,ho,rfl⟩:=E3.mp q
    exact sU (by rw[fN (by omega),ha]) ((G.at (by omega)).2 o ho)
   ·cases q
theorem xZ{g:List aG}{as:Row}:∀i,tm g as i≠[]->∃h,h < i/\0 < as.getD h 0
 |0,h=>absurd rfl h
 |i+1,h=>by
  by_cases e:0 < as.getD i 0
  ·exact⟨i,by omega,e⟩
  ·have:tm g as (i+1)=tm g as i:=by
    show tm g as i++_=_
    rw[K0 e,A6]
   rw[this]at h
   obtain⟨j,h1,h2⟩:=xZ i h
   exact⟨j,by omega,h2⟩
theorem x_{n:Nat}{g:List aG}(G:cQ n g)(as:Row):(tm g as n).length<=756:=by
 rw[eE]
 have:=qE G as n (E9 _)
 have:=G.ur
 omega
def SI(a b:Row):Prop:=klt (Ax b) (Ax a)=false
theorem Ck{rs:List Row}{outD:List D}(h:Out (λ i j=>klt (Ax (rs.getD i [])) (Ax (rs.getD j []))) (rs.map row) D.bx outD):∃out:List Row,outD=out.map row/\out.Perm rs/\out.Pairwise SI:=by
 obtain⟨p,p1,p2,rfl⟩:=h
 rw[B7]at p1 p2
 have wD:∀i∈p.toList,i < rs.length:=λ i hi=>by
  have:=(Array.Perm.mem_iff p1 (a:=i)).mp (by simpa using hi)
  simpa using this
 refine⟨p.toList.map λ i=>rs.getD i [],?_,?_,?_⟩
 ·rw[E4]
  refine map_congr_left λ i hi=>?_
  have:=wD i hi
  simp[g9,this]
 ·have q:p.toList.Perm (List.range rs.length):=by
   have:=Array.perm_iff_toList_perm.mp p1
   simpa using this
  have q2:=q.map λ i=>rs.getD i []
  have e:(List.range rs.length).map (λ i=>rs.getD i [])=rs:=by
   apply ext_getElem?
   intro i
   by_cases hi:i < rs.length
   ·simp[hi,g9]
   ·simp[hi]
  rw[e]at q2
  exact q2
 ·rw[pairwise_map,pairwise_iff_getElem]
  intro i j hi hj ow
  have hz:=p1.size
  have EA:j < rs.length:=by rw[<- hz];simpa using hj
  have:=p2 i j (Nat.le_of_lt ow) EA
  have g:∀k (hk:k < p.toList.length),pg p k=p.toList[k]:=λ k hk=>by
   rw[jn]
   have ou:k < p.size:=by simpa using hk
   simp[ou]
  rw[g i hi,g j hj]at this
  exact this
structure NJ(n:Nat)(U:Row->Prop)(l:List Row):Prop where
 mem:∀r,r∈l↔U r
 nd:l.Nodup
 up:l.Pairwise SI
 len:∀r∈l,r.length=n
theorem NJ.of {n:Nat}{U:Row->Prop}{l m:List Row}(hm:∀r,r∈l↔U r)(nd:l.Nodup)(hl:∀r∈l,r.length=n)(p:m.Perm l)(up:m.Pairwise SI):NJ n U m:=
 ⟨λ r=>p.mem_iff.trans (hm r),p.nodup_iff.mpr nd,up,λ r hr=>hl r (p.mem_iff.mp hr)⟩
end KK
namespace KK
open PySem L3 L4 L5
open L2 hiding bD oB
theorem Ext.free {M M':Mem}(h:Ext M M'){p:Addr}(hp:M' p=none):M p=none:=by
 cases e:M p with
 |none=>rfl
 |some o=>rw[h p o e]at hp;cases hp
theorem Ext.trans {M M1 M2:Mem}(h:Ext M M1)(g:Ext M1 M2):Ext M M2:=λ b o e=>g b o (h b o e)
theorem Ext.new {M M':Mem}(h:Ext M M'){p:Addr}(hp:M' p=none)(x:MO):Ext M (ai M' p x):=oC h hp x
theorem aI{M:Mem}{p q:Addr}{x:MO}(h:M p=some x)(g:M q=none):p≠q:=λ z=>by subst z;rw[h]at g;cases g
theorem Bv{M:Mem}{Q:bL}{a b:Addr}{rs:List Row}(ha:M a=some (.lst (rs.map row)))(hb:M b=some (.lst []))(q0:rs=[]->Q (.bl false) M)(q1:∀ws x,rs=ws++[x]->Q (.bl true) M):uI true (.ref a) (.ref b) M Q:=by
 refine xI true ha (qs:=[]) hb ?_
 rcases eq_nil_or_concat rs with rfl|⟨ws,x,rfl⟩
 ·exact q0 rfl
 ·rw[concat_eq_append]at*
  rw[J9 rfl,A9 (by simp)]
  exact q1 ws x rfl
structure Al(nx:Row->List Row)(as:Row)(rs ls:List Row):Prop where
 nd:rs.Nodup
 ru:∀r∈rs,vn nx as r
 lu:∀r∈ls,r∈rs
 st:as∈rs
 cl:∀b∈rs,b∈ls\/∀c∈nx b,c∈rs
 ll:ls.length<=rs.length
 on:rs=[as]\/nx as≠[]
section
variable {nx:Row->List Row}{as x:Row}{rs ls nw:List Row}
theorem Al.next (h:Al nx as rs (ls++[x]))(nd:(rs++nw).Nodup)(h1:∀c∈nx x,c∈rs++nw)(h2:∀c∈nw,c∈nx x):Al nx as (rs++nw) (ls++nw):=by
 have xr:=h.lu x (by simp)
 refine⟨nd,λ r hr=>?_,λ r hr=>?_,m7 _ h.st,λ b hb=>?_,by have:=h.ll;simp only[p6,l6]at*;omega,?_⟩
 ·rcases B8.mp hr with q|q
  ·exact h.ru r q
  ·exact .step (h.ru x xr) (h2 r q)
 ·rcases B8.mp hr with q|q
  ·exact m7 _ (h.lu r (m7 _ q))
  ·exact k9 _ q
 ·rcases B8.mp hb with q|q
  ·rcases h.cl b q with z|z
   ·rcases B8.mp z with z|z
    ·exact .inl (m7 _ z)
    ·rw[r6.mp z];exact .inr h1
   ·exact .inr λ c hc=>m7 _ (z c hc)
  ·exact .inl (k9 _ q)
 ·rcases h.on with z|z
  ·cases nw with
   |nil=>exact .inl (by rw[A6];exact z)
   |cons c nw=>
    refine .inr λ e=>?_
    have:=h2 c (o9 ..)
    rw[z]at xr
    rw[r6.mp xr,e]at this
    cases this
  ·exact .inr z
theorem Al.done (h:Al nx as rs [])(r:Row):r∈rs↔vn nx as r:=by
 refine⟨h.ru r,λ q=>q.closed h.st λ b c hb hc=>?_⟩
 rcases h.cl b hb with z|z
 ·cases z
 ·exact z c hc
theorem Al.start (nx:Row->List Row)(as:Row):Al nx as [as] [as]:=⟨by simp,λ r hr=>by rw[r6.mp hr];exact .base,λ r h=>h,by simp,λ b hb=>.inl hb,E9 _,.inl rfl⟩
end
theorem Bs{M:Mem}{Q:bL}{q:Addr}{rs:List Row}(hM:M q=some (.lst (rs.map row)))(hl:rs.length < 1000000)(hz:∀r∈rs,r.length<=1000)(k:∀(p:Addr) (out:List Row),M p=none->out.Perm rs->out.Pairwise SI->Q (.ref p) (ai M p (.lst (out.map row)))):wR sG (.ref q) M Q:=by
 refine⟨q,rs.map row,true,λ dC M'=>M'=M/\dC.length<=rs.length/\∀i k,dC[i]?=some k->Au true M' k (Ax (rs.getD i [])),λ i=>Ax (rs.getD i []),rfl,hM,by rw[B7];exact hl,⟨rfl,G5 _,λ i k e=>by simp at e⟩,?_,?_⟩
 ·rintro dC M' e ⟨rfl,h2,h3⟩ he
  rw[s9]at he
  cases er:rs[dC.length]? with
  |none=>rw[er]at he;cases he
  |some r=>
   rw[er]at he
   cases he
   have fO:dC.length < rs.length:=(i6.mp er).1
   refine⟨r,rfl,hz r (m6 er),rfl,?_,λ i k e=>?_⟩
   ·rw[p6,l6];omega
   ·by_cases hi:i < dC.length
    ·rw[i0 hi]at e
     exact h3 i k e
    ·rw[e9 (by omega)]at e
     have MQ:i - dC.length=0:=by
      have:=(i6.mp e).1
      simp at this
      omega
     rw[MQ]at e
     have e:D.tup [.int r.sum,row (r.map λ a=>0 - a)]=k:=by simpa using e
     have Uy:i=dC.length:=by omega
     subst Uy
     show k=.tup [.int (Ax (rs.getD dC.length [])).1,.tup ((Ax (rs.getD dC.length [])).2.map D.int)]
     rw[<- e,g9,er]
     rfl
 ·rintro dC M' ⟨rfl,h2,h3⟩ hl
  refine⟨h3,λ p2 outD h_ ho=>?_⟩
  obtain⟨out,rfl,o1,o2⟩:=Ck ho
  exact k p2 out h_ o1 o2
end KK
namespace KK
open PySem L3 L4 L5
open L2 hiding bD oB
def cS(a:Addr)(i:Nat)(M:Mem)(qs:List Addr):Prop:=∀q∈qs,q≠a/\∃hs:List Int,M q=some (.lst (hs.map D.int))/\hs.length<=4/\∀x∈hs,0<=x/\x < (i:Int)
section
variable {a c p q:Addr}{i:Nat}{M M':Mem}{qs:List Addr}{o:MO}
theorem cS.nil:cS a i M []:=λ q h=>by cases h
theorem cS.keep (h:cS a i M qs)(k:∀b o,b≠a->M b=some o->M' b=some o):cS a i M' qs:=λ q hq=>by
 obtain⟨h1,hs,h2,h3⟩:=h q hq
 exact⟨h1,hs,k q _ h1 h2,h3⟩
theorem cS.new (h:cS a i M qs)(hp:M p=none):cS a i (ai M p o) qs:=h.keep λ b u _ e=>by rw[ah (aI e hp)];exact e
theorem cS.ne (h:cS a i M qs)(hp:M p=some (.lst (qs.map D.ref))):∀q∈qs,q≠p:=λ q hq z=>by
 subst z
 obtain⟨_,hs,h2,_⟩:=h q hq
 rw[hp]at h2
 have e:qs.map D.ref=hs.map D.int:=by injection h2 with e;injection e
 have:D.ref q∈qs.map D.ref:=E3.mpr ⟨q,hq,rfl⟩
 rw[e]at this
 obtain⟨x,_,e2⟩:=E3.mp this
 cases e2
theorem cS.put (h:cS a i M qs)(hp:M p=some (.lst (qs.map D.ref))):cS a i (ai M p o) qs:=λ q hq=>by
 obtain⟨h1,hs,h2,h3⟩:=h q hq
 exact⟨h1,hs,by rw[ah (h.ne hp q hq)];exact h2,h3⟩
theorem cS.add (h:cS a i M qs)(Ez:q≠a){hs:List Int}(hq:M q=some (.lst (hs.map D.int)))(hl:hs.length<=4)(hx:∀x∈hs,0<=x/\x < (i:Int)):cS a i M (qs++[q]):=λ b hb=>by
 rcases B8.mp hb with z|z
 ·exact h b z
 ·rw[r6.mp z]
  exact⟨Ez,hs,hq,hl,hx⟩
theorem cS.take (h:cS a i M qs)(n:Nat):cS a i M (qs.take n):=λ b hb=>h b (mem_of_mem_take hb)
end
theorem nj{hs:List Int}{n i:Nat}(hl:hs.length<=4)(hx:∀x∈hs,0<=x/\x < (i:Int)):fZ n i (iU hs n):=by
 refine⟨uS _ _,uR,?_,Eb λ x h=>(hx x h).2⟩
 have:=Ec (ns:=hs) (n:=n)
 omega
theorem fZ.mono {n i j:Nat}{r:Row}(h:fZ n i r)(ow:i<=j):fZ n j r:=⟨h.len,h.pos,h.sum,λ k hk=>h.low k (by omega)⟩
end KK
namespace KK
open PySem L3 L4 L5
open L2 hiding bD oB
theorem OI{α:Type}{ds:List α}{X:Prop}(h:ds.length<=16)(q:X):ds.length<=sizeLine/\X:=⟨E8 h (by decide),q⟩
theorem m_{M:Mem}{Q:bL}(q:Q (.bl true) M):Nt false .bx .bx M Q:=q
theorem yz{P:Program}{w:World}{K:PySem.W.Frag}{mg:Str->Option Value}{base:Heap}{k:Nat}{f:Addr}{fd:FuncData}{ps:List Str}{sp:fe}(h:∀ds M Q,¬sp ds M Q):bZ P w K mg base fE k f fd ps (cF K sp):=
 ⟨λ _ _ _ _ ⟨ds,M,Q,_,_,q,_⟩=>absurd q (h ds M Q),λ _ _ _ _ _ _ _ _ _ _ _ _ _ ⟨ds,M,Q,_,_,q,_⟩=>absurd q (h ds M Q)⟩
def Vm:D->Prop
 | .bx=>True| .bl _=>True| .int _=>True| .str _=>True|_=>False
def As(M:Mem):Nat->D->D->Prop
 |0,_,_=>False
 |k+1,x,y=>(x=y/\Vm x)\/(∃ds es,x=.tup ds/\y=.tup es/\ds.length=es.length/\ds.length<=10000/\∀(i:Nat) (d e:D),ds[i]?=some d->es[i]?=some e->As M k d e)\/
  ∃p q ds es,x=.ref p/\y=.ref q/\M p=some (.lst ds)/\M q=some (.lst es)/\ds.length=es.length/\ds.length<=10000/\∀(i:Nat) (d e:D),ds[i]?=some d->es[i]?=some e->As M k d e
theorem same_int(M:Mem)(k:Nat)(i:Int):As M (k+1) (.int i) (.int i):=.inl ⟨rfl,True.intro⟩
theorem sI{M:Mem}{k:Nat}{p q:Addr}{ds:List D}(hp:M p=some (.lst ds))(hq:M q=some (.lst ds))(hl:ds.length<=10000)(h:∀d∈ds,As M k d d):As M (k+1) (.ref p) (.ref q):=
 .inr (.inr ⟨p,q,ds,ds,rfl,rfl,hp,hq,rfl,hl,λ i d e hd he=>by
  rw[hd]at he
  cases he
  exact h d (m6 hd)⟩)
def xD(k:Nat):fe:=λ ds M Q=>∃x y,ds=[x,y]/\As M k x y/\Q (.bl true) M
theorem EX:∀ds M Q,¬xD 0 ds M Q:=λ ds M Q ⟨_,_,_,h,_⟩=>h
theorem nz{as:Row}{h:Nat}(hp:∀x∈as,0<=x)(h0:0 < as.getD h 0):∀x∈less as h,0<=x:=λ x hx=>by
 unfold less at hx
 rcases B8.mp hx with z|z
 ·rcases B8.mp z with z|z
  ·exact hp x (mem_of_mem_take z)
  ·rw[r6.mp z];omega
 ·exact hp x (mem_of_mem_drop z)
end KK
namespace KK
open PySem L3 L4 L5
open L2 hiding bD oB
def Rk(vs:List Int)(m:Nat):Prop:=(m:Int)∉vs/\∀j:Nat,j < m->(j:Int)∈vs
theorem Rk.uniq {vs:List Int}{m k:Nat}(h:Rk vs m)(g:Rk vs k):m=k:=by
 rcases Nat.lt_trichotomy m k with e|e|e
 ·exact absurd (g.2 m e) h.1
 ·exact e
 ·exact absurd (h.2 k e) g.1
theorem we{vs:List Int}{m:Nat}(h:∀j:Nat,j < m->(j:Int)∈vs):m<=vs.length:=by
 have nd:((List.range m).map λ j:Nat=>(j:Int)).Nodup:=pairwise_map.mpr (List.Pairwise.imp (λ{a b} AA e=>AA (by omega)) nodup_range)
 have:=List.Nodup.length_le_of_subset nd (l₂:=vs) λ x hx=>by
  obtain⟨j,hj,rfl⟩:=E3.mp hx
  exact h j (mem_range.mp hj)
 simpa using this
def Ha(vs:List Int):Nat->Nat->Nat
 |0,j=>j
 |f+1,j=>if(j:Int)∈vs then Ha vs f (j+1)else j
theorem x'{vs:List Int}:∀f j:Nat,vs.length < f+j->(∀i:Nat,i < j->(i:Int)∈vs)->Rk vs (Ha vs f j)
 |0,j,h,q=>absurd (we q) (by omega)
 |f+1,j,h,q=>by
  unfold Ha
  split
  ·rename_i hj
   refine x' f (j+1) (by omega) λ i hi=>?_
   by_cases e:i < j
   ·exact q i e
   ·have:i=j:=by omega
    subst this
    exact hj
  ·rename_i hj
   exact⟨hj,q⟩
def IU(vs:List Int):Nat:=Ha vs (vs.length+1) 0
theorem qH(vs:List Int):Rk vs (IU vs):=x' _ 0 (by omega) λ i h=>absurd h (by omega)
def xd:List Int->List Nat->Nat
 |c::cs,v::vs=>(if c % 2=1 then v else 0)^^^xd cs vs
 |_,_=>0
def oT(a:Nat)(p:Int×Nat):Nat:=if p.1 % 2=1 then a^^^p.2 else a
theorem xl:∀(cs:List Int) (vs:List Nat) (a:Nat),(cs.zip vs).foldl oT a=a^^^xd cs vs
 |[],vs,a=>by simp[xd]
 |c::cs,[],a=>by simp[xd]
 |c::cs,v::vs,a=>by
  rw[zip_cons_cons,foldl_cons,xl cs vs,xd]
  unfold oT
  by_cases h:c % 2=1
  ·rw[J9 h,J9 h,C8]
  ·rw[K0 h,K0 h,Nat.zero_xor]
theorem Im(cs:List Int)(vs:List Nat):(cs.zip vs).foldl oT 0=xd cs vs:=by rw[xl,Nat.zero_xor]
theorem mJ(cs:List Int):xd cs []=0:=by cases cs <;> rfl
theorem xj:∀(cs:List Int) (vs:List Nat),xd (cs.take vs.length) vs=xd cs vs
 |[],vs=>by simp[xd]
 |c::cs,[]=>by simp[xd]
 |c::cs,v::vs=>by rw[y6,take_succ_cons,xd,xd,xj cs vs]
theorem kI:∀{cs:List Int} {vs:List Nat} (ws:List Nat),(∀j,vs.length<=j->cs.getD j 0=0)->xd cs (vs++ws)=xd cs vs
 |[],vs,ws,_=>by simp[xd]
 |c::cs,[],ws,h=>by
  rw[mJ,A7]
  have all:∀(l:List Int) (m:List Nat),(∀j,l.getD j 0=0)->xd l m=0:=λ l=>by
   induction l with
   |nil=>intro m _;simp[xd]
   |cons x l ih=>
    intro m h
    cases m with
    |nil=>exact mJ _
    |cons y m=>
     rw[xd,ih m λ j=>by simpa using h (j+1)]
     have:x=0:=by simpa using h 0
     rw[this,K0 (by decide)]
     rfl
  exact all _ _ λ j=>h j (G5 _)
 |c::cs,v::vs,ws,h=>by
  rw[cons_append,xd,xd,kI ws λ j hj=>by simpa using h (j+1) (by simpa using hj)]
theorem SK(a b c d:Nat):a^^^b^^^(c^^^d)=a^^^c^^^(b^^^d):=by
 rw[C8,C8,<- C8 b c d,<- C8 c b d,Nat.xor_comm b c]
theorem xk:∀{as bs:List Int} (vs:List Nat),as.length=bs.length->xd (plus as bs) vs=xd as vs^^^xd bs vs
 |[],[],vs,_=>by simp[xd,plus]
 |a::as,b::bs,[],_=>by rw[mJ,mJ,mJ];rfl
 |a::as,b::bs,v::vs,h=>by
  have ih:=xk (as:=as) (bs:=bs) vs (by simpa using h)
  unfold plus at ih ⊢
  rw[zipWith_cons_cons,xd,xd,xd,ih,SK]
  congr 1
  have ha:=Int.emod_two_eq a
  have hb:=Int.emod_two_eq b
  rcases ha with ha|ha <;> rcases hb with hb|hb
  ·rw[K0 (by omega),K0 (by omega),K0 (by omega)];rfl
  ·rw[J9 (by omega),K0 (by omega),J9 (by omega),Nat.zero_xor]
  ·rw[J9 (by omega),J9 (by omega),K0 (by omega),Nat.xor_zero]
  ·rw[K0 (by omega),J9 (by omega),J9 (by omega),D9]
 |a::as,[],vs,h=>by simp at h
 |[],b::bs,vs,h=>by simp at h
theorem AH:∀{as:List Int} {vs:List Nat} {h:Nat},h < as.length->h < vs.length->xd (as.set h (as.getD h 0 - 1)) vs=xd as vs^^^vs.getD h 0
 |a::as,v::vs,0,_,_=>by
  rw[set_cons_zero,xd,xd]
  simp only[getD_cons_zero]
  rw[C8,Nat.xor_comm (xd as vs) v,<- C8]
  congr 1
  rcases Int.emod_two_eq a with ha|ha
  ·rw[J9 (by omega),K0 (by omega),Nat.zero_xor]
  ·rw[K0 (by omega),J9 (by omega),D9]
 |a::as,v::vs,h+1,h1,h2=>by
  rw[set_cons_succ,xd,xd]
  have:=AH (as:=as) (vs:=vs) (h:=h) (by simpa using h1) (by simpa using h2)
  simp only[getD_cons_succ]
  rw[this,C8]
 |[],vs,h,h1,_=>by simp at h1
 |a::as,[],h,_,h2=>by simp at h2
theorem AI:∀{as:List Int} {vs:List Nat} {b:Nat},(xd as vs).testBit b=true->∃h,h < as.length/\h < vs.length/\as.getD h 0 % 2=1/\(vs.getD h 0).testBit b=true
 |[],vs,b,h=>by simp[xd]at h
 |a::as,[],b,h=>by simp[xd]at h
 |a::as,v::vs,b,h=>by
  rw[xd,Nat.testBit_xor]at h
  by_cases e:((if a % 2=1 then v else 0).testBit b)=true
  ·by_cases ha:a % 2=1
   ·rw[J9 ha]at e
    exact⟨0,by simp,by simp,by simpa using ha,by simpa using e⟩
   ·rw[K0 ha]at e
    simp at e
  ·rw[Bool.not_eq_true]at e
   rw[e,Bool.false_xor]at h
   obtain⟨i,h1,h2,h3,h4⟩:=AI h
   exact⟨i+1,by simpa using h1,by simpa using h2,by simpa using h3,by simpa using h4⟩
theorem AG{x y b:Nat}(hx:x < 2^(b+1))(hb:x.testBit b=true)(hy:y.testBit b=true):y^^^x < y:=by
 refine y7 λ h=>?_
 have hd:(y^^^x) / 2^(b+1)=y / 2^(b+1):=by rw[Nat.xor_div_two_pow,Nat.div_eq_of_lt hx,Nat.xor_zero]
 have hm:(y^^^x) % 2^(b+1) < y % 2^(b+1):=by
  have h1:((y^^^x) % 2^(b+1)) < 2^b:=by
   refine Nat.lt_pow_two_of_testBit _ λ i hi=>?_
   rw[Nat.testBit_mod_two_pow,Nat.testBit_xor]
   by_cases e:i < b+1
   ·have:i=b:=by omega
    subst this
    rw[hb,hy]
    simp
   ·simp[e]
  have h2:2^b<=y % 2^(b+1):=by
   refine Nat.ge_two_pow_of_testBit ?_
   rw[Nat.testBit_mod_two_pow,hy]
   simp
  omega
 have e1:=Nat.div_add_mod (y^^^x) (2^(b+1))
 have e2:=Nat.div_add_mod y (2^(b+1))
 rw[hd]at e1
 omega
theorem EF{a b:Nat}:a^^^b=0↔a=b:=by
 constructor
 ·intro h
  have:a^^^b^^^b=b:=by rw[h,Nat.zero_xor]
  rwa [C8,D9,Nat.xor_zero]at this
 ·rintro rfl
  exact D9 _
theorem EG(a:Nat):∀b:Nat,(a^^^b)+2*(a&&& b)=a+b:=by
 induction a using Nat.strongRecOn with
 |ind a ih=>
  intro b
  by_cases h:a=0
  ·subst h
   simp
  ·have h1:=ih (a / 2) (by omega) (b / 2)
   rw[<- Nat.xor_div_two,<- Nat.and_div_two]at h1
   have x1:(a^^^b) % 2=1↔¬(a % 2=1↔b % 2=1):=Nat.xor_mod_two_eq_one
   have x2:(a&&& b) % 2=1↔a % 2=1/\b % 2=1:=Nat.and_mod_two_eq_one
   omega
theorem nZ(a b:Nat):Builtin.bitXor (a:Int) (b:Int)=((a^^^b:Nat):Int):=by
 rw[PyProof.Rows.bitXor_and,PyProof.Rows.bitAnd_pp (by omega) (by omega)]
 have:=EG a b
 simp only[u5]
 omega
def cA(g:List aG):Nat->List Nat
 |0=>[]
 |i+1=>cA g i++[IU ((g.getD i eN).2.map λ o=>(xd o (cA g i):Int))]
theorem fg(g:List aG):∀i,(cA g i).length=i
 |0=>rfl
 |i+1=>by show(cA g i++[_]).length=_;rw[p6,fg g i];rfl
theorem qC(g:List aG)(i:Nat):∀k,∃cs,cA g (i+k)=cA g i++cs
 |0=>⟨[],by simp⟩
 |k+1=>by
  obtain⟨cs,e⟩:=qC g i k
  refine⟨cs++[IU ((g.getD (i+k) eN).2.map λ o=>(xd o (cA g (i+k)):Int))],?_⟩
  show cA g (i+k)++[_]=_
  rw[<- u9,<- e]
  rfl
theorem IT{g:List aG}{n i:Nat}(h:i < n):(cA g n).getD i 0=IU ((g.getD i eN).2.map λ o=>(xd o (cA g i):Int)):=by
 obtain⟨cs,e⟩:=qC g (i+1) (n - (i+1))
 rw[show i+1+(n - (i+1))=n by omega]at e
 rw[e]
 show(cA g i++[_]++cs).getD i 0=_
 rw[u9,g9,e9 (by rw[fg];exact E9 _),fg]
 simp
theorem L6{g:List aG}{n i:Nat}{o:List Int}(h:i<=n)(ho:fZ n i o):xd o (cA g n)=xd o (cA g i):=by
 obtain⟨cs,e⟩:=qC g i (n - i)
 rw[show i+(n - i)=n by omega]at e
 rw[e]
 exact kI cs λ j hj=>ho.low j (by rw[fg]at hj;exact hj)
theorem vO{M:Mem}{Q:bL}{a:Addr}{bs:List Bool}(h:M a=some (.lst (bs.map D.bl)))(q:Q (.bl (!bs.any id)) M):rB (.bl true) (.ref a) M Q:=by
 have h1:∀bs:List Bool,pA (bs.map D.bl)=true:=λ bs=>by
  induction bs with
  |nil=>rfl
  |cons b bs ih=>rw[D1];unfold pA;rw[ih];rfl
 have h2:∀bs:List Bool,PyData.canLayAll0 (toPs (bs.map D.bl))=true:=λ bs=>by
  induction bs with
  |nil=>simp[toPs,PyData.canLayAll0]
  |cons b bs ih=>rw[D1];unfold toPs;rw[PyData.canLayAll0,ih];simp[toP,PyData.canLay0]
 refine .inr ⟨bs.map D.bl,⟨mW h,h1 bs,rfl,h2 bs,by simp[toP,PyData.canLay0],by simp[toP,PyData.depth]⟩,?_⟩
 have e:((bs.map D.bl).any λ e=>PyData.eqv (toP e) (toP (.bl true)))=bs.any id:=by
  rw[List.any_map]
  congr 1
  funext b
  cases b <;> simp[toP,PyData.eqv]
 rw[J9 rfl,e]
 exact q
end KK
namespace KK
open PySem L3 L4 L5
open L2 hiding bD oB
local macro_rules|`(tactic|walk_at "mem")=>`(tactic|first|assumption|exact ag|(rw[ah (by assumption)];assumption)|(rw[ah (by assumption),ah (by assumption)];assumption)|(rw[ah (by assumption)];exact ag))
local macro_rules|`(tactic|walk_at "rd1")=>`(tactic|first|(with_reducible first|refine Kg ?_|refine Ku ?_|refine Ft ?_|refine Kh ?_|refine KD ?_|refine FJ ?_|refine xJ ?_|refine Kf ?_|refine Fi ?_|refine OL ?_)|((with_reducible refine' Kc ?k1 ?_);(case k1=>rfl))|(with_reducible first|refine Tj ?_|refine KG ?_|refine OK ?_|refine Kj ?_|refine FR ?_|refine Kk ?_|refine FK ?_|refine Kd ?_|refine Kp ?_|refine Ke ?_|refine Fh ?_|refine FL ?_|refine BH ?_|refine Kv ?_|refine Fq ?_|refine FO ?_|refine FP ?_)|((with_reducible refine' FQ ?k1 ?_);(case k1=>walk_at "mem"))|(with_reducible first|refine Kb ?_|refine Fm ?_|refine ON ?_|refine Ti ?_|refine OJ ?_|refine zr ?_|refine Fs ?_|refine OO ?_|refine KC ?_)|((with_reducible refine Kn ?k1 ?_);(case k1=>first|assumption|decide))|((with_reducible refine KA ?k1 ?k2 ?_);(case k1=>first|assumption|decide);(case k2=>first|assumption|decide|omega))|((with_reducible refine gZ ?k1 ?_);(case k1=>exact Ed (by decide) (by decide)))|(with_reducible first|refine Fe ?_|refine Bq ?_)|((with_reducible refine' Br ?k1 ?_);(case k1=>walk_at "mem"))|(with_reducible first|refine Ff ?_|refine BE ?_|refine Fy ?_|refine Fx ?_)|((with_reducible refine' FN ?k1 ?_);(case k1=>rfl))|((with_reducible refine' Bz ?k1 ?_);(case k1=>walk_at "mem"))|(with_reducible first|refine OM ?_|refine BJ ?_|refine BF ?_|refine BG ?_|refine Bt ?_|refine Kq ?_|refine FH ?_|refine FI ?_|refine FG ?_|refine Fu ?_|refine Fg ?_|refine Fn ?_|refine Ko ?_|refine Fz ?_)|((with_reducible refine' bP ?k1 ?k2 ?_);(case k1=>walk_at "mem");(case k2=>rfl))|((with_reducible refine' jY ?k2 ?_);(case k2=>rfl))|((with_reducible refine' FA ?k1 ?_);(case k1=>walk_at "mem"))|((with_reducible refine' Bu ?k1 ?k2 ?_);(case k1=>walk_at "mem");(case k2=>rfl))|(with_reducible first|refine BC ?_|refine BD ?_|refine FC ?_|refine FD ?_))
local macro_rules|`(tactic|walk_at "rd")=>`(tactic|repeat(walk_at "rd1"))
local macro_rules|`(tactic|walk_at "rx")=>`(tactic|repeat(first|walk_at "rd1"|((with_reducible refine' OI ?k1 ?_);(case k1=>exact Nat.le_of_ble_eq_true rfl))))
def top(i:Nat):Stmt:=PySem.Challenge.pw_lastloser_k40_numbers_left_out.main.body.getD i (.Pass ⟨0,0,0,0⟩)
structure jR(K:PySem.W.Frag)(mg:Str->Option Value):Prop where
 all:mg "all"=none
 bool:mg "bool"=none
 dict:mg "dict"=none
 enumerate:mg "enumerate"=none
 int:mg "int"=none
 isinstance:mg "isinstance"=none
 len:mg "len"=none
 list:mg "list"=none
 max:mg "max"=none
 min:mg "min"=none
 range:mg "range"=none
 sorted:mg "sorted"=none
 str:mg "str"=none
 sum:mg "sum"=none
 tuple:mg "tuple"=none
 zip:mg "zip"=none
 qV:gJ K "bool"
 IW:gJ K "int"
 Dx:gJ K "list"
 IV:gJ K "str"
 yo:gJ K "tuple"
def sF:fe:=λ ds M Q=>∃ns:List Int,ds=[.fl (ns.map D.int)]/\∀M',Q (.bl true) M'
section
variable {P:Program}{w:World}{K:PySem.W.Frag}{mg:Str->Option Value}{base:Heap}
theorem gX:aM ["_law_flow_here","_law_many","_law_cell","_law_digit"] ["_law_flow_here","_law_many"] (ay (top 7)):=⟨rfl,rfl,rfl,by decide+kernel,rfl,by decide+kernel,by decide+kernel⟩
theorem GL{f:Addr}{fd:FuncData}(F:gM K "_law_pick" "_law_pick" (top 7) f fd)(T:jR K mg):bZ P w K mg base fE 1 f fd ["_law_flow_here","_law_many"] (cF K eR):=by
 refine jS F gX (λ ds M Q h=>?_) (λ c_ A outer s H E ds M Q hr h=>?_)
 ·obtain⟨a,c,n,rfl,_⟩:=h
  rfl
 ·obtain⟨a,c,n,rfl,⟨ns,p,b,sd,ct,hf,hc,gL,hp,hb,Hy,km⟩,Us,Zi,k⟩:=h
  refine⟨_,(af (cb (pY (aU (d_ hr.units) (bN bD (ar 0) ao (λ _ _=>rfl)) ao (aR _)) (lR (aU LY (bN bD (ar 0) ao (λ _ _=>rfl)) (aP gH (by rfl) T.len (by decide+kernel) (aa (bN bD (ar 0) ao (λ _ _=>rfl)) ae)) (aR _)))).pt
 (af (aB (i:=2) gX.nd rfl (Or.inl rfl) (bN bD (bN bD (ar 0) ao (λ _ _=>rfl)) (bN bD (ar 0) ao (λ _ _=>rfl)) (λ _ _=>rfl)))
 (af (eP (bh bp (bN bD (ar 0) ao (λ _ _=>rfl)) ao) (fv (ar 0) ao kT))
 (ak (cb (aU TJ (ar 2) (bh xW ao ao) (aR _))
 (ak (eP (ar 2) (fv (ar 0) ao kT)))
 (ak (eP (bh iF (bh bp (bh bp (bh gu (bN bD (ar 0) ao (λ _ _=>rfl)) ao) (bh iF (ar 2) ao)) ao) ao) (fv (ar 0) ao kT)))))))
 bj)
 (af (cb (aU tj (bN bD (ar 0) ao (λ _ _=>rfl)) ao (aR _))
 (af (aB (i:=3) gX.nd rfl (Or.inl rfl) (bh iF (bN bD (ar 0) ao (λ _ _=>rfl)) (ar 1)))
 (af (eP (bh qz (bN bD (ar 0) ao (λ _ _=>rfl)) (ar 1)) (fv (ar 0) ao kT))
 (ak (aJ (ar 3)))))
 bj)
 (af (eP (bh bp (bN bD (ar 0) ao (λ _ _=>rfl)) ao) (fv (ar 0) ao kT))
 (af (eP (bh iF (bh bp (bh bp (bh gu (bN bD (ar 0) ao (λ _ _=>rfl)) ao) ao) (bN bD (ar 0) ao (λ _ _=>rfl))) ao) (fv (ar 0) ao kT))
 (ak (aJ (bh iF (bh qz (bh iF (bh gu (bh bp (bh iF (bN bD (ar 0) ao (λ _ _=>rfl)) ao) ao) (bh bp (bh qz (bN bD (ar 0) ao (λ _ _=>rfl)) ao) ao)) ao) ao) (ar 1)))))))),?_⟩
  refine iP (λ δ' M'=>∃(p b sd ct:Int) (v:Option D),δ'=[some (.ref a),some (.int n),v,none]/\M'=ai M a (.lst (Jg c p b sd ct))/\0<=p/\0<=b/\0<=sd/\sd < 2147483647) (λ N hN=>?_) ?_
  ·walk_at "rd"
   refine bo (λ MX=>?_) (λ MX=>?_)
   ·walk_at "rd"
    refine bo (λ hpl=>?_) (λ hpl=>?_)
    ·obtain⟨x,hx⟩:∃x:Int,iq (ns.map D.int) p=some (.int x):=by
      have hl:p.toNat < ns.length:=by rw[B7]at hpl;omega
      refine⟨ns[p.toNat],?_⟩
      have e:((p.toNat:Nat):Int)=p:=by omega
      have q:iq (ns.map D.int) ((p.toNat:Nat):Int)=some (.int ns[p.toNat]):=bV (by simp[hl])
      rw[e]at q
      exact q
     walk_at "rd"
     refine bP hc hx ?_
     walk_at "rd"
     refine FF ⟨by decide,by decide,by decide⟩ ?_
     walk_at "rd"
     refine bo (λ MV=>?_) (λ MV=>?_)
     ·walk_at "rd"
      rw[cK]
      refine hN _ _ ⟨p+1,x,sd,ct,_,rfl,rfl,by omega,?_,Hy,km⟩
      have MV:(10:Int)^(18:Int).toNat<=x:=MV
      have e:(10:Int)^(18:Int).toNat=1000000000000000000:=by decide
      omega
     ·walk_at "rd"
      rw[cK]
      refine hN _ _ ⟨p+1,b,_,ct,_,rfl,rfl,by omega,hb,B1 _ (by decide),p8 _ (by decide)⟩
    ·walk_at "rd"
     exact hN _ _ ⟨p,b,sd,ct,none,rfl,(oY hf).symm,hp,hb,Hy,km⟩
   ·walk_at "rd"
    exact hN _ _ ⟨p,b,sd,ct,none,rfl,(oY hf).symm,hp,hb,Hy,km⟩
  ·rintro δ' M' ⟨p,b,sd,ct,v,rfl,rfl,hp,hb,Hy,km⟩
   walk_at "rd"
   refine bo (λ MX=>?_) (λ MX=>?_)
   ·walk_at "rd"
    rw[cK]
    refine aA (k _ _ (B1 _ (by omega)) (p8 _ Us) ⟨ns,p,_,sd,ct,ag,by rw[ah gL];exact hc,gL,hp,Int.ediv_nonneg hb (by omega),Hy,km⟩)
   ·walk_at "rd"
    refine gZ (wV ?_ ?_) ?_
    ·have:=B1 ((sd*48271+12820163+(ct+1)) % 2147483647) (show(65521:Int)≠0 by decide)
     omega
    ·have:=p8 ((sd*48271+12820163+(ct+1)) % 2147483647) (show(0:Int) < 65521 by decide)
     omega
    walk_at "rd"
    rw[cK,cK]
    exact aA (k _ _ (B1 _ (by omega)) (p8 _ Us) ⟨ns,p,b,_,_,ag,by rw[ah gL];exact hc,gL,hp,hb,B1 _ (by decide),p8 _ (by decide)⟩)
theorem sH:aM ["_law_script"] ["_law_script"] (ay (top 6)):=⟨rfl,rfl,rfl,by decide+kernel,rfl,by decide+kernel,by decide+kernel⟩
theorem GV{f:Addr}{fd:FuncData}(F:gM K "_law_flow" "_law_flow" (top 6) f fd)(T:jR K mg):bZ P w K mg base fE 1 f fd ["_law_script"] (cF K Bb):=by
 refine jS F sH (λ ds M Q h=>?_) (λ c_ A outer s H E ds M Q hr h=>?_)
 ·obtain⟨a,rfl,_⟩:=h
  rfl
 ·obtain⟨ns,rfl,k⟩:=h
  refine⟨_,(ak (aJ (bR (aa (iu Ei (by rfl) T.list (by decide+kernel) (aa (ar 0) ae)) (aa ao (aa ao (aa ao (aa ao ae)))))))),?_⟩
  walk_at "rd"
  refine BA λ c hc=>?_
  walk_at "rd"
  refine⟨small (by show 5<=10000;decide),λ fl VX=>?_⟩
  have gL:c≠fl:=λ z=>by subst z;rw[ag]at VX;cases VX
  exact aA (k fl c _ ⟨ns,0,0,1,0,ag,by rw[ah gL];exact ag,gL,by decide,by decide,by decide,by decide⟩)
end
section
variable {P:Program}{w:World}{K:PySem.W.Frag}{mg:Str->Option Value}{base:Heap}
theorem cZ:aM ["_law_flow_here","_law_letters","_law_near","_law_name_here"] ["_law_flow_here"] (ay (top 9)):=⟨rfl,rfl,rfl,by decide+kernel,rfl,by decide+kernel,by decide+kernel⟩
theorem GO{f:Addr}{fd:FuncData}(F:gM K "_law_name" "_law_name" (top 9) f fd)(T:jR K mg)(aw:bC P w K mg base 1 "_law_pick" ["_law_flow_here","_law_many"] eR):bZ P w K mg base fE 2 f fd ["_law_flow_here"] (cF K (IA 6)):=by
 refine jS F cZ (λ ds M Q h=>?_) (λ c_ A outer s H E ds M Q hr h=>?_)
 ·obtain⟨a,cc,rfl,_⟩:=h
  rfl
 ·obtain⟨a,cc,rfl,hF,k⟩:=h
  refine⟨_,(af (aB (i:=1) cZ.nd rfl (Or.inr rfl) ja)
 (af (aB (i:=2) cZ.nd rfl (Or.inl rfl) (bR (xp (zs:=[Str.ofString "rows",Str.ofString "tow",Str.ofString "takes",Str.ofString "nones",Str.ofString "ones",Str.ofString "twos",Str.ofString "ass",Str.ofString "heaps",Str.ofString "on",Str.ofString "t",Str.ofString "ro",Str.ofString "a"]) (by kernel_rfl))))
 (af (aB (i:=3) cZ.nd rfl (Or.inl rfl) (Jx PySem.F.plainAttrs_str PySem.F.slot_str_join PySem.F.type_str_join Mh AU ja (tgs:=["_law_k"]) (fr:=[1,0]) ⟨bw (by kernel_rfl),rfl,(λ _ _ h=>h),(aZ rfl T.range (aa (bh bp ao (aD aw (hr.mono (by decide)) (by rfl) (aa (ar 0) (aa ao ae)))) ae)),(aO (λ _ _ _ _ _=>(aL (i:=0) (show(["_law_k","_law_letters","_law_flow_here"]:List Str).Nodup by decide+kernel) rfl (Or.inl rfl))) (by decide)),(λ _ _ _ _ _=>bf),(λ _ _ _ _ _=>(bN bD (ar 1) (aD aw (hr.mono (by decide)) (by rfl) (aa (ar 2) (aa ao ae))) (λ _ _=>rfl)))⟩))
 (af (cb (aU (d_ hr.units) (aD aw (hr.mono (by decide)) (by rfl) (aa (ar 0) (aa ao ae))) ao (aR _))
 (ak (aB (i:=3) cZ.nd rfl (Or.inl rfl) (bN bD (ar 2) (aD aw (hr.mono (by decide)) (by rfl) (aa (ar 0) (aa ao ae))) (λ _ _=>rfl))))
 bj)
 (af (cb (aU (tf hr.units) (ar 3) (fG (xp (zs:=[Str.ofString "row",Str.ofString "to",Str.ofString "take",Str.ofString "none",Str.ofString "one",Str.ofString "two",Str.ofString "as",Str.ofString "heap"]) (by kernel_rfl))) rfl)
 (ak (aB (i:=3) cZ.nd rfl (Or.inl rfl) (bh bp (gg mX (ar 3) gc (gb ao)) ja)))
 bj)
 (ak (aJ (bh bp (ar 3) (bN bD (bR (aa ja (aa ja (aa (bN bD ja (aD aw (hr.mono (by decide)) (by rfl) (aa (ar 0) (aa ao ae))) (λ _ _=>rfl)) ae)))) (aD aw (hr.mono (by decide)) (by rfl) (aa (ar 0) (aa ao ae))) (λ _ _=>rfl)))))))))),?_⟩
  walk_at "rd"
  refine⟨by decide,λ q hq=>?_⟩
  have Ez:q≠a:=λ z=>by obtain⟨o,e⟩:=hF.there;rw[<- z,hq]at e;cases e
  have F0:Fl a cc M (ai M q (.lst ([Str.ofString "rows",Str.ofString "tow",Str.ofString "takes",Str.ofString "nones",Str.ofString "ones",Str.ofString "twos",Str.ofString "ass",Str.ofString "heaps",Str.ofString "on",Str.ofString "t",Str.ofString "ro",Str.ofString "a"].map D.str))):=Fl.put hF hq
  have q_:(ai M q (.lst ([Str.ofString "rows",Str.ofString "tow",Str.ofString "takes",Str.ofString "nones",Str.ofString "ones",Str.ofString "twos",Str.ofString "ass",Str.ofString "heaps",Str.ofString "on",Str.ofString "t",Str.ofString "ro",Str.ofString "a"].map D.str))) q=some (.lst ([Str.ofString "rows",Str.ofString "tow",Str.ofString "takes",Str.ofString "nones",Str.ofString "ones",Str.ofString "twos",Str.ofString "ass",Str.ofString "heaps",Str.ofString "on",Str.ofString "t",Str.ofString "ro",Str.ofString "a"].map D.str)):=ag
  generalize ai M q (.lst ([Str.ofString "rows",Str.ofString "tow",Str.ofString "takes",Str.ofString "nones",Str.ofString "ones",Str.ofString "twos",Str.ofString "ass",Str.ofString "heaps",Str.ofString "on",Str.ofString "t",Str.ofString "ro",Str.ofString "a"].map D.str))=M1 at F0 q_ ⊢
  walk_at "rd"
  refine⟨rfl,?_⟩
  walk_at "rd"
  refine⟨a,cc,5,rfl,F0.aH,by decide,by decide,λ m o h0 h1 vm=>?_⟩
  have F1:Fl a cc M1 _:=Fl.pick vm
  walk_at "rd"
  refine⟨cj (by omega) (by omega),?_⟩
  refine ip (λ i acc M'=>vf acc i/\Fl a cc M1 M') ⟨vf.nil,F1⟩ (λ i acc M' hi h=>?_) (λ i d' acc M' hd h=>?_) (λ acc M' h=>?_)
  ·obtain⟨⟨zs,rfl,_,h2⟩,_⟩:=h
   rw[aV]at hi
   rw[B7]
   exact small (by omega)
  ·walk_at "rd"
   refine⟨a,cc,26,rfl,h.2.aH,by decide,by decide,λ d2 o2 h2 h3 AB=>?_⟩
   obtain⟨c,hc⟩:=vd (xs:=(Str.ofString "abcdefghijklmnopqrstuvwxyz").cps.toList) h2 (by
    have e:(Str.ofString "abcdefghijklmnopqrstuvwxyz").cps.toList.length=26:=by decide+kernel
    rw[e];exact h3)
   refine vP (by decide+kernel) hc ?_
   exact⟨h.1.snoc (by show 1<=1;decide),h.2.trans (Fl.pick AB)⟩
  ·obtain⟨U7,QF⟩:=h
   rw[aV]at U7
   refine Hm U7 (by omega) λ z hz=>?_
   have Sa:z.length<=5:=by omega
   have F2:=F0.trans QF
   have q_:=QF.mv q _ Ez q_
   clear hz U7 QF
   with_reducible refine xJ ?_
   with_reducible refine iP (λ δ' M2=>∃z:Str,δ'=[some (.ref a),some (.str (Str.ofString "abcdefghijklmnopqrstuvwxyz")),some (.ref q),some (.str z)]/\z.length<=5/\Fl a cc M M2) (λ N hN=>?_) ?_
   ·walk_at "rd"
    refine⟨a,cc,6,rfl,F2.aH,by decide,by decide,λ d3 o3 h4 h5 yt=>?_⟩
    walk_at "rd"
    refine bo (λ _=>?_) (λ _=>?_)
    ·walk_at "rd"
     refine⟨a,cc,12,rfl,yt,by decide,by decide,λ d4 o4 h6 h7 Ss=>?_⟩
     obtain⟨y,hy,T7⟩:=vc (zs:=[Str.ofString "rows",Str.ofString "tow",Str.ofString "takes",Str.ofString "nones",Str.ofString "ones",Str.ofString "twos",Str.ofString "ass",Str.ofString "heaps",Str.ofString "on",Str.ofString "t",Str.ofString "ro",Str.ofString "a"]) h6 (by show d4 < 12;exact h7)
     have T5:y.length<=5:=by
      have all:∀y∈[Str.ofString "rows",Str.ofString "tow",Str.ofString "takes",Str.ofString "nones",Str.ofString "ones",Str.ofString "twos",Str.ofString "ass",Str.ofString "heaps",Str.ofString "on",Str.ofString "t",Str.ofString "ro",Str.ofString "a"],y.length<=5:=by decide+kernel
      exact all y hy
     refine bP (by rw[ah Ez,ah Ez];exact q_) T7 ?_
     walk_at "rd"
     exact hN _ _ ⟨y,rfl,T5,(F2.trans (Fl.pick yt)).trans (Fl.pick Ss)⟩
    ·walk_at "rd"
     exact hN _ _ ⟨z,rfl,Sa,F2.trans (Fl.pick yt)⟩
   ·rintro δ' M2 ⟨z,rfl,Sa,F2⟩
    with_reducible refine iP (λ δ' M3=>∃z:Str,δ'=[some (.ref a),some (.str (Str.ofString "abcdefghijklmnopqrstuvwxyz")),some (.ref q),some (.str z)]/\z.length<=5/\Fl a cc M M3) (λ N hN=>?_) ?_
    ·walk_at "rd"
     refine⟨by decide,?_⟩
     refine FE rfl ?_
     refine me (λ _=>?_) (λ _=>?_)
     ·walk_at "rd"
      refine Fo (small (by omega)) ?_
      walk_at "rd"
      have c1:=HX z none (some 4)
      have e:(Str.ofString "q").length=1:=by decide+kernel
      have c2:(oM z none (some 4)).length<=4:=by
       show((z.cps.toList.drop 0).take (HT.ck z.length z.length (some 4) - 0)).toArray.size<=4
       rw[x5,A3]
       have:HT.ck z.length z.length (some 4)<=4:=by
        show(if(4:Int) < 0 then((4:Int)+(z.length:Int)).toNat else min (4:Int).toNat z.length)<=4
        rw[K0 (by decide)]
        exact Nat.min_le_left _ _
       omega
      refine sQ (small (by omega)) ?_
      walk_at "rd"
      exact hN _ _ ⟨_,rfl,by rw[len_app];omega,F2⟩
     ·walk_at "rd"
      exact hN _ _ ⟨z,rfl,Sa,F2⟩
    ·rintro δ' M3 ⟨z,rfl,Sa,F3⟩
     walk_at "rd"
     refine⟨a,cc,9,rfl,F3.aH,by decide,by decide,λ d5 o5 h8 h9 wH=>?_⟩
     obtain⟨c,hc⟩:=vd (xs:=(Str.ofString "123456789").cps.toList) h8 (by
      have e:(Str.ofString "123456789").cps.toList.length=9:=by decide+kernel
      rw[e];exact h9)
     refine vP (by decide+kernel) hc ?_
     walk_at "rd"
     refine⟨small (by show 3<=10000;decide),λ q2 vh=>?_⟩
     have F5:=F3.trans (Fl.pick wH)
     have Uk:q2≠a:=λ z=>by
      subst z
      obtain⟨o,e⟩:=wH.there
      rw[vh]at e
      cases e
     walk_at "rd"
     refine⟨a,cc,3,rfl,wH.put vh,by decide,by decide,λ d6 o6 X5 X4 Qw=>?_⟩
     obtain⟨y,hy,T7⟩:=vc (zs:=[Str.ofString "",Str.ofString "",⟨#[c]⟩]) X5 (by show d6 < 3;exact X4)
     have T5:y.length<=1:=by
      have e:(Str.ofString "").length=0:=by decide+kernel
      simp only[D3,not_mem_nil,or_false]at hy
      rcases hy with rfl|rfl|rfl
      ·omega
      ·omega
      ·show 1<=1;decide
     refine bP (by rw[ah Uk];exact ag) T7 ?_
     refine sQ (small (by omega)) ?_
     exact aA (k _ _ (by rw[len_app];omega) ((F5.trans (Fl.put wH vh)).trans (Fl.pick Qw)))
end
section
variable {P:Program}{w:World}{K:PySem.W.Frag}{mg:Str->Option Value}{base:Heap}
theorem vH:aM ["_law_counts_here"] ["_law_counts_here"] (ay (top 11)):=⟨rfl,rfl,rfl,by decide+kernel,rfl,by decide+kernel,by decide+kernel⟩
theorem LS{f:Addr}{fd:FuncData}(F:gM K "_law_key" "_law_key" (top 11) f fd)(T:jR K mg):bZ P w K mg base fE 1 f fd ["_law_counts_here"] (cF K sG):=by
 refine jS F vH (λ ds M Q h=>?_) (λ c_ A outer s H E ds M Q hr h=>?_)
 ·obtain⟨a,rfl,_⟩:=h
  rfl
 ·obtain⟨as,rfl,hz,k⟩:=h
  refine⟨_,(ak (aJ (fG (aa (aP (Eg rfl) (by rfl) T.sum (by decide+kernel) (aa (ar 0) ae)) (aa (jU eI eJ (by rfl) T.tuple (by decide+kernel) (tgs:=["_law_n"]) (fr:=[]) ⟨bw (by kernel_rfl),rfl,(λ _ _ h=>h),(cf (ar 0)),(aO (λ _ _ _ _ _=>(aL (i:=0) (show(["_law_n"]:List Str).Nodup by decide+kernel) rfl (Or.inl rfl))) (by decide)),(λ _ _ _ _ _=>bf),(λ _ _ _ _ _=>(bh xV ao (ar 0)))⟩) ae))))),?_⟩
  walk_at "rd"
  refine Fj ?_
  walk_at "rd"
  refine ip (λ i acc M'=>M'=M/\acc=((as.map λ a=>0 - a).take i).map D.int) ⟨rfl,by simp⟩ (λ i acc M' hi h=>?_) (λ i d acc M' hd h=>?_) (λ acc M' h=>?_)
  ·obtain⟨_,rfl⟩:=h
   rw[B7,A3]
   rw[B7]at hi
   exact small (by omega)
  ·obtain⟨rfl,rfl⟩:=h
   rw[s9]at hd
   cases e:as[i]? with
   |none=>rw[e]at hd;cases hd
   |some a=>
    rw[e]at hd
    cases hd
    walk_at "rd"
    refine⟨rfl,?_⟩
    rw[take_snoc (a:=0 - a) (by simp[e]),B9]
    rfl
  ·obtain⟨rfl,rfl⟩:=h
   walk_at "rd"
   refine⟨by show 2<=sizeLine;decide,aA ?_⟩
   have e:(as.map λ a=>0 - a).take (as.map D.int).length=as.map λ a=>0 - a:=by rw[B7];exact j8 (by simp)
   rw[e]
   exact k
end
section
variable {P:Program}{w:World}{K:PySem.W.Frag}{mg:Str->Option Value}{base:Heap}
theorem lE:aM ["_law_sums"] ["_law_sums"] (ay (top 13)):=⟨rfl,rfl,rfl,by decide+kernel,rfl,by decide+kernel,by decide+kernel⟩
theorem Co{f:Addr}{fd:FuncData}(F:gM K "_law_in_order" "_law_in_order" (top 13) f fd)(T:jR K mg)(kB:bC P w K mg base 1 "_law_key" ["_law_counts_here"] sG):bZ P w K mg base fE 4 f fd ["_law_sums"] (cF K lX):=by
 refine jS F lE (λ ds M Q h=>?_) (λ c_ A outer s H E ds M Q hr h=>?_)
 ·obtain⟨a,rs,rfl,_⟩:=h
  rfl
 ·obtain⟨x,rs,rfl,hx,yu,hz,k⟩:=h
  refine⟨_,(ak (aJ (iu eI (by rfl) T.tuple (by decide+kernel) (aa (vA kB (hr.mono (by decide)) (by rfl) T.sorted (by rfl) T.dict (by rfl) (fw (tgs:=["_law_counts_here"]) (fr:=[]) ⟨bw (by kernel_rfl),rfl,(λ _ _ h=>h),(cf (ar 0)),(aO (λ _ _ _ _ _=>(aL (i:=0) (show(["_law_counts_here"]:List Str).Nodup by decide+kernel) rfl (Or.inl rfl))) (by decide)),(λ _ _ _ _ _=>bf),(λ _ _ _ _ _=>(fG (aa (ar 0) (aa p_ ae))))⟩)) ae)))),?_⟩
  have go:∀(N:bL),(∀(p:Addr) (out:List (List Int)) (M':Mem),(∀b o,M b=some o->M' b=some o)->M' p=some (.lst (out.map row))->(∀r∈out,r∈rs)->out.length<=rs.length->N (.ref p) M')->∀p,M p=none->rA sG (.ref p) (ai M p (.lst (rs.map pairD))) N:=by
   intro N hN p hp
   have h0:=oC (λ b o e=>e) hp (.lst (rs.map pairD))
   refine⟨p,rs,true,λ dC M'=>M'=ai M p (.lst (rs.map pairD))/\dC.length<=(once rs).length/\∀i k,dC[i]?=some k->Au true M' k (Ax ((once rs).getD i [])),λ i=>Ax ((once rs).getD i []),rfl,ag,yu,⟨rfl,G5 _,λ i k e=>by simp at e⟩,?_,?_⟩
   ·rintro dC M' e ⟨rfl,h2,h3⟩ he
    rw[s9]at he
    cases er:(once rs)[dC.length]? with
    |none=>rw[er]at he;cases he
    |some r=>
     rw[er]at he
     cases he
     have fO:dC.length < (once rs).length:=(i6.mp er).1
     refine⟨r,rfl,hz r (tN (m6 er)),rfl,?_,λ i k e=>?_⟩
     ·rw[p6,l6];omega
     ·by_cases hi:i < dC.length
      ·rw[i0 hi]at e
       exact h3 i k e
      ·rw[e9 (by omega)]at e
       have MQ:i - dC.length=0:=by
        have:=(i6.mp e).1
        simp at this
        omega
       rw[MQ]at e
       have e:D.tup [.int r.sum,row (r.map λ a=>0 - a)]=k:=by simpa using e
       have Uy:i=dC.length:=by omega
       subst Uy
       show k=.tup [.int (Ax ((once rs).getD dC.length [])).1,.tup ((Ax ((once rs).getD dC.length [])).2.map D.int)]
       rw[<- e,g9,er]
       rfl
   ·rintro dC M' ⟨rfl,h2,h3⟩ hl
    refine⟨h3,λ p2 outD h_ ho=>?_⟩
    obtain⟨out,rfl,o1,o2⟩:=Lv (rs:=once rs) ho
    exact hN p2 out _ (oC h0 h_ _) ag (λ r hr=>tN (o1 r hr)) (by rw[o2];exact CO rs)
  have fin:∀(p:Addr) (out:List (List Int)) (M':Mem),(∀b o,M b=some o->M' b=some o)->M' p=some (.lst (out.map row))->(∀r∈out,r∈rs)->out.length<=rs.length->rq [.ref p] M' (fin2 Q):=λ p out M' h1 h2 h3 h4=>jX h2 (back h1 (k out h3 h4))
  rcases hx with rfl|⟨l,rfl,hl⟩
  ·walk_at "rd"
   refine ip (λ i acc M'=>M'=M/\acc=(rs.take i).map pairD) ⟨rfl,by simp⟩ (λ i acc M' hi h=>?_) (λ i d acc M' hd h=>?_) (λ acc M' h=>?_)
   ·obtain⟨_,rfl⟩:=h
    rw[B7,A3]
    exact small (by omega)
   ·obtain⟨rfl,rfl⟩:=h
    rw[s9]at hd
    cases e:rs[i]? with
    |none=>rw[e]at hd;cases hd
    |some r=>
     rw[e]at hd
     cases hd
     walk_at "rd"
     refine⟨by show 2<=sizeLine;decide,rfl,?_⟩
     rw[take_snoc e,B9]
     rfl
   ·obtain⟨rfl,rfl⟩:=h
    rw[B7,z9]
    intro p hp
    exact go _ fin p hp
  ·walk_at "rd"
   refine jJ (ds:=rs.map row) (λ i acc M'=>M'=M/\acc=(rs.take i).map pairD) ⟨rfl,by simp⟩ (λ i acc M' hi h=>?_) (λ i acc M' hi h=>?_) (λ i d acc M' hd h=>?_) (λ acc M' h=>?_)
   ·obtain⟨rfl,_⟩:=h
    exact hl
   ·obtain⟨_,rfl⟩:=h
    rw[B7,A3]
    exact small (by omega)
   ·obtain⟨rfl,rfl⟩:=h
    rw[s9]at hd
    cases e:rs[i]? with
    |none=>rw[e]at hd;cases hd
    |some r=>
     rw[e]at hd
     cases hd
     walk_at "rd"
     refine⟨by show 2<=sizeLine;decide,rfl,?_⟩
     rw[take_snoc e,B9]
     rfl
   ·obtain⟨rfl,rfl⟩:=h
    rw[B7,z9]
    intro p hp
    exact go _ fin p hp
end
section
variable {P:Program}{w:World}{K:PySem.W.Frag}{mg:Str->Option Value}{base:Heap}
theorem oA:aM ["_law_heaps","_law_many"] ["_law_heaps","_law_many"] (ay (top 12)):=⟨rfl,rfl,rfl,by decide+kernel,rfl,by decide+kernel,by decide+kernel⟩
theorem zF{f:Addr}{fd:FuncData}(F:gM K "_law_counts" "_law_counts" (top 12) f fd)(T:jR K mg):bZ P w K mg base fE 1 f fd ["_law_heaps","_law_many"] (cF K gU):=by
 refine jS F oA (λ ds M Q h=>?_) (λ c_ A outer s H E ds M Q hr h=>?_)
 ·obtain⟨a,b,c,rfl,_⟩:=h
  rfl
 ·obtain⟨a,ns,n,rfl,hM,hz,k⟩:=h
  refine⟨_,(ak (aJ (jU eI eJ (by rfl) T.tuple (by decide+kernel) (tgs:=["_law_h"]) (fr:=[0]) ⟨bw (by kernel_rfl),rfl,(λ _ _ h=>h),(aZ rfl T.range (aa (ar 1) ae)),(aO (λ _ _ _ _ _=>(aL (i:=0) (show(["_law_h","_law_heaps"]:List Str).Nodup by decide+kernel) rfl (Or.inl rfl))) (by decide)),(λ _ _ _ _ _=>bf),(λ _ _ _ _ _=>(iL j4 PySem.F.slot_list_count PySem.F.type_list_count (Hc hr.units) (ar 1) (aa (ar 0) ae)))⟩))),?_⟩
  walk_at "rd"
  refine⟨cj (by omega) (by omega),?_⟩
  rw[u5]
  refine dX (xs:=List.range n) (enc:=ID) (λ h=>D.int ((ns.count (h:Int):Nat):Int)) (by simp;omega) (λ i x N hx hN=>?_) ?_
  ·walk_at "rd"
   refine⟨⟨rfl,_,hM⟩,?_⟩
   walk_at "rd"
   refine zt hM ?_
   rw[D8]
   exact hN
  ·refine aA ?_
   unfold row iU at k
   rw[E4]at k
   exact k
end
section
variable {P:Program}{w:World}{K:PySem.W.Frag}{mg:Str->Option Value}{base:Heap}
theorem gC:aM ["_law_flow_here","_law_many","_law_most","_law_heaps"] ["_law_flow_here","_law_many","_law_most"] (ay (top 19)):=⟨rfl,rfl,rfl,by decide+kernel,rfl,by decide+kernel,by decide+kernel⟩
theorem GK{f:Addr}{fd:FuncData}(F:gM K "_law_some_sum" "_law_some_sum" (top 19) f fd)(T:jR K mg)(aw:bC P w K mg base 1 "_law_pick" ["_law_flow_here","_law_many"] eR)(cz:bC P w K mg base 1 "_law_counts" ["_law_heaps","_law_many"] gU):bZ P w K mg base fE 2 f fd ["_law_flow_here","_law_many","_law_most"] (cF K AY):=by
 refine jS F gC (λ ds M Q h=>?_) (λ c_ A outer s H E ds M Q hr h=>?_)
 ·obtain⟨a,cc,b,c,rfl,_⟩:=h
  rfl
 ·obtain⟨a,cc,n,m,rfl,hF,hz,m0,m1,k⟩:=h
  refine⟨_,(af (cG (i:=3) gC.nd rfl (Or.inl rfl) (tgs:=["_law_k"]) (fr:=[0,1]) ⟨bw (by kernel_rfl),rfl,(λ _ _ h=>h),(aZ rfl T.range (aa (bh gu (aP (Eh rfl) (by rfl) T.min (by decide+kernel) (aa (ar 1) (aa ao ae))) (aD aw (hr.mono (by decide)) (by rfl) (aa (ar 0) (aa (bh bp (ar 2) ao) ae)))) ae)),(aO (λ _ _ _ _ _=>(aL (i:=0) (show(["_law_k","_law_flow_here","_law_many"]:List Str).Nodup by decide+kernel) rfl (Or.inl rfl))) (by decide)),(λ _ _ _ _ _=>bf),(λ _ _ _ _ _=>(aD aw (hr.mono (by decide)) (by rfl) (aa (ar 1) (aa (ar 2) ae))))⟩)
 (ak (aJ (aD cz (hr.mono (by decide)) (by rfl) (aa (ar 3) (aa (ar 1) ae)))))),?_⟩
  walk_at "rd"
  refine⟨a,cc,m+1,rfl,hF,by omega,by omega,λ d o h0 h1 vm=>?_⟩
  have MM:(if(1:Int) < (n:Int)then(1:Int)else(n:Int))=if 1<=n then 1 else 0:=by
   split <;> split <;> omega
  rw[MM]
  refine gZ (wV (by split <;> omega) (by split <;> omega)) ?_
  have hle:(if 1<=n then(1:Int)else 0)*d<=m/\0<=(if 1<=n then(1:Int)else 0)*d/\(n=0->(if 1<=n then(1:Int)else 0)*d=0):=by
   split
   ·rw[Int.one_mul];exact⟨by omega,h0,λ z=>by omega⟩
   ·rw[Int.zero_mul];exact⟨by omega,by omega,λ _=>rfl⟩
  generalize(if 1<=n then(1:Int)else 0)*d=c at hle ⊢
  obtain⟨c1,c0,cn⟩:=hle
  refine⟨cj (by omega) (by omega),?_⟩
  have F1:Fl a cc M _:=Fl.pick vm
  refine rD (xs:=List.range c.toNat) (enc:=ID) D.int (λ ns M'=>Fl a cc M M'/\∀x∈ns,0<=x/\x < (n:Int)) (by simp;omega) ⟨F1,λ x h=>by cases h⟩ (λ i x ys M' N hx hy h hN=>?_) (λ ns M' hl h=>?_)
  ·obtain⟨F2,h2⟩:=h
   have hi:=(i6.mp hx).1
   rw[w9]at hi
   have hn:n≠0:=λ z=>by have:=cn z;omega
   walk_at "rd"
   refine⟨a,cc,n,rfl,F2.aH,by omega,by omega,λ d2 o2 QF h3 AB=>hN _ _ ⟨F2.trans (Fl.pick AB),λ x hx=>?_⟩⟩
   rcases B8.mp hx with q|q
   ·exact h2 x q
   ·have:x=d2:=by simpa using q
    omega
  ·obtain⟨F2,h2⟩:=h
   rw[w9]at hl
   intro p hp
   walk_at "rd"
   refine⟨p,ns,n,rfl,ag,hz,aA (k ns _ (by omega) h2 (F2.trans (Fl.put F2.aH hp)))⟩
end
section
variable {P:Program}{w:World}{K:PySem.W.Frag}{mg:Str->Option Value}{base:Heap}
theorem cq:aM ["_law_flow_here","_law_many","_law_names_here","_law_k","_law_name_here","_law_spare"] ["_law_flow_here","_law_many"] (ay (top 10)):=⟨rfl,rfl,rfl,by decide+kernel,rfl,by decide+kernel,by decide+kernel⟩
theorem Cm{f:Addr}{fd:FuncData}(F:gM K "_law_names" "_law_names" (top 10) f fd)(T:jR K mg)(wN:bC P w K mg base 2 "_law_name" ["_law_flow_here"] (IA 6)):bZ P w K mg base fE 3 f fd ["_law_flow_here","_law_many"] (cF K lV):=by
 refine jS F cq (λ ds M Q h=>?_) (λ c_ A outer s H E ds M Q hr h=>?_)
 ·obtain⟨a,cc,b,rfl,_⟩:=h
  rfl
 ·obtain⟨a,cc,n,rfl,hF,hz,k⟩:=h
  refine⟨_,(af (aB (i:=2) cq.nd rfl (Or.inl rfl) (bR ae))
 (af (cR B3 rfl (aZ rfl T.range (aa (ar 1) ae)) (bg (i:=3) cq.nd rfl (Or.inl rfl))
 (af (aB (i:=4) cq.nd rfl (Or.inl rfl) (aD wN (hr.mono (by decide)) (by rfl) (aa (ar 0) ae)))
 (af (aB (i:=5) cq.nd rfl (Or.inl rfl) ao)
 (af (gR B3 (aU (tf hr.units) (ar 4) (ar 2) rfl)
 (af (aB (i:=4) cq.nd rfl (Or.inl rfl) (bh gu (bN bD ja (bh iF (ar 5) ao) (λ _ _=>rfl)) (bh bp ao (bh qz (ar 5) ao))))
 (ak (aB (i:=5) cq.nd rfl (Or.inl rfl) (bh bp (ar 5) ao)))))
 (ak (cp (iL j4 i8 j0 bT (ar 2) (aa (ar 4) ae))))))))
 (ak (aJ (ar 2))))),?_⟩
  walk_at "rd"
  refine⟨by decide,λ p hp=>?_⟩
  have oq:=(hF.ne hp).1
  walk_at "rd"
  refine⟨cj (by omega) (by omega),?_⟩
  rw[u5]
  refine dP (λ i δ M'=>∃(v1 v2 v3:Option D) (zs:List Str),δ=[some (.ref a),some (.int n),some (.ref p),v1,v2,v3]/\zs.length=i/\M' p=some (.lst (zs.map D.str))/\Fl a cc M M') ⟨none,none,none,[],rfl,rfl,ag,Fl.put hF hp⟩ (λ i d δ M' hd h=>?_) (λ δ M' h=>?_)
  ·obtain⟨v1,v2,v3,zs,rfl,h2,h3,F1⟩:=h
   obtain⟨hi,rfl⟩:=bQ hd
   walk_at "rd"
   refine⟨a,cc,rfl,F1.aH,λ z M1 Y7 F2=>?_⟩
   have F3:=F1.trans F2
   have h3:=F2.mv p _ oq h3
   walk_at "rd"
   refine gY ⟨λ m δ M'=>M'=M1/\∃(z:Str) (sp:Nat),δ=[some (.ref a),some (.int n),some (.ref p),some (.int (0+(i:Nat))),some (.str z),some (.int sp)]/\m=zs.length+2 - sp/\sp<=zs.length+1/\(0 < sp->z=rE (sp - 1))/\∀j,j+1 < sp->rE j∈zs,⟨_,rfl,z,0,rfl,rfl,G5 _,λ q=>absurd q (by omega),λ j q=>absurd q (by omega)⟩,?_⟩
   rintro m δ M' ⟨rfl,z,sp,rfl,rfl,Hw,WX,VB⟩
   walk_at "rd"
   refine mf h3 (Dk z zs) ?_
   refine me (λ fP=>?_) (λ fP=>?_)
   ·have fP:z∈zs:=by simpa using fP
    have all:∀j,j < sp->rE j∈zs:=λ j hj=>by
     by_cases e:j+1 < sp
     ·exact VB j e
     ·have:j=sp - 1:=by omega
      rw[this,<- WX (by omega)]
      exact fP
    have N7:sp<=zs.length:=Ee (by omega) all
    refine⟨λ δ' M2=>M2=M'/\δ'=[some (.ref a),some (.int n),some (.ref p),some (.int (0+(i:Nat))),some (.str (rE sp)),some (.int ((sp+1:Nat):Int))],?_,?_⟩
    ·rintro δ' M2 ⟨rfl,rfl⟩
     exact⟨zs.length+2 - (sp+1),by omega,rfl,rE sp,sp+1,rfl,rfl,by omega,λ _=>rfl,λ j hj=>all j (by omega)⟩
    ·walk_at "rd"
     have em:(sp:Int) % 26=(sp:Int):=Int.emod_eq_of_lt (by omega) (by omega)
     have ed:(sp:Int) / 26=0:=Int.ediv_eq_zero_of_lt (by omega) (by omega)
     have bl:uZ.length=26:=by decide+kernel
     have hc:iq (Str.ofString "zyxwvutsrqponmlkjihgfedcba").cps.toList ((sp:Int) % 26)=some (uZ.getD sp 0):=by
      rw[em]
      refine bV ?_
      show uZ[sp]?=_
      rw[g9]
      have:sp < uZ.length:=by omega
      simp[this]
     refine vP (by decide+kernel) hc ?_
     walk_at "rd"
     rw[ed]
     refine Bw (wd _) ?_
     walk_at "rd"
     exact⟨rfl,rfl⟩
   ·walk_at "rd"
    refine⟨⟨rfl,_,h3⟩,?_⟩
    walk_at "rd"
    refine cW h3 (by rw[B7];exact q8 (show zs.length<=12 by omega) (by decide)) ?_
    walk_at "rd"
    exact⟨_,_,_,zs++[z],rfl,by simp[h2],by rw[ag,B9];rfl,F3.own hF hp⟩
  ·obtain⟨v1,v2,v3,zs,rfl,h2,h3,F1⟩:=h
   rw[aV]at h2
   walk_at "rd"
   exact aA (k p zs _ h2 hp h3 F1)
end
section
variable {P:Program}{w:World}{K:PySem.W.Frag}{mg:Str->Option Value}{base:Heap}
theorem qk:aM ["_law_found","_law_due"] ["_law_found","_law_due"] (ay (top 8)):=⟨rfl,rfl,rfl,by decide+kernel,rfl,by decide+kernel,by decide+kernel⟩
theorem LW{f:Addr}{fd:FuncData}(F:gM K "_law_alike" "_law_alike" (top 8) f fd)(T:jR K mg)(Uu:mg "_law_alike"=some (.ref f))(MX:Binds K fd ["_law_found","_law_due"] []):∀k,bZ P w K mg base fE (k+1) f fd ["_law_found","_law_due"] (cF K (xD k)):=by
 intro k
 induction k with
 |zero=>exact yz EX
 |succ k ih=>
 have cm:=bF.of F ih Uu MX
 rw[show k+1+1=k+1+1 by omega]
 clear ih
 refine jS F qk (λ ds M Q h=>?_) (λ c_ A outer s H E ds M Q hr h=>?_)
 ·obtain⟨x,y,rfl,_⟩:=h
  rfl
 ·obtain⟨x,y,rfl,hs,k⟩:=h
  refine⟨_,(af (cb (aU Ct (ar 1) sj (aR _))
 (ak (aJ (jb Ct (ar 0) sj (aR _))))
 bj)
 (af (cb (r_ (gQ (aP (gI T.qV) (by rfl) T.isinstance (by decide+kernel) (aa (ar 1) (aa (ly (n:="bool") (by rfl) T.bool (by decide+kernel)) ae)))) (mK (gQ (aP (gI T.qV) (by rfl) T.isinstance (by decide+kernel) (aa (ar 0) (aa (ly (n:="bool") (by rfl) T.bool (by decide+kernel)) ae)))))).pt
 (ak (aJ (w_and (aP (gI T.qV) (by rfl) T.isinstance (by decide+kernel) (aa (ar 1) (aa (ly (n:="bool") (by rfl) T.bool (by decide+kernel)) ae))) (w_and (aP (gI T.qV) (by rfl) T.isinstance (by decide+kernel) (aa (ar 0) (aa (ly (n:="bool") (by rfl) T.bool (by decide+kernel)) ae))) (sg (jb (d_ hr.units) (ar 0) (ar 1) (aR _)))))))
 bj)
 (af (cb (gQ (aP (gI T.IW) (by rfl) T.isinstance (by decide+kernel) (aa (ar 1) (aa (ly (n:="int") (by rfl) T.int (by decide+kernel)) ae))))
 (ak (aJ (w_and (aP (gI T.IW) (by rfl) T.isinstance (by decide+kernel) (aa (ar 0) (aa (ly (n:="int") (by rfl) T.int (by decide+kernel)) ae))) (sg (jb (d_ hr.units) (ar 0) (ar 1) (aR _))))))
 bj)
 (af (cb (gQ (aP (gI T.IV) (by rfl) T.isinstance (by decide+kernel) (aa (ar 1) (aa (ly (n:="str") (by rfl) T.str (by decide+kernel)) ae))))
 (ak (aJ (w_and (aP (gI T.IV) (by rfl) T.isinstance (by decide+kernel) (aa (ar 0) (aa (ly (n:="str") (by rfl) T.str (by decide+kernel)) ae))) (sg (jb (d_ hr.units) (ar 0) (ar 1) (aR _))))))
 bj)
 (af (cb (r_ (aU (xX hr.units) (aP (gI T.yo) (by rfl) T.isinstance (by decide+kernel) (aa (ar 1) (aa (ly (n:="tuple") (by rfl) T.tuple (by decide+kernel)) ae))) (aP (gI T.yo) (by rfl) T.isinstance (by decide+kernel) (aa (ar 0) (aa (ly (n:="tuple") (by rfl) T.tuple (by decide+kernel)) ae))) (aR _)) (mK (aU (xX hr.units) (aP (gI T.Dx) (by rfl) T.isinstance (by decide+kernel) (aa (ar 1) (aa (ly (n:="list") (by rfl) T.list (by decide+kernel)) ae))) (aP (gI T.Dx) (by rfl) T.isinstance (by decide+kernel) (aa (ar 0) (aa (ly (n:="list") (by rfl) T.list (by decide+kernel)) ae))) (aR _)))).pt
 (ak (aJ p_))
 bj)
 (ak (aJ (w_and (jb (d_ hr.units) (aP gH (by rfl) T.len (by decide+kernel) (aa (ar 0) ae)) (aP gH (by rfl) T.len (by decide+kernel) (aa (ar 1) ae)) (aR _)) (sg (vw (Ra rfl) EM (by rfl) T.all (by decide+kernel) (tgs:=["_law_k"]) (fr:=[0,1]) ⟨bw (by kernel_rfl),rfl,(λ _ _ h=>h),(aZ rfl T.range (aa (aP gH (by rfl) T.len (by decide+kernel) (aa (ar 1) ae)) ae)),(aO (λ _ _ _ _ _=>(aL (i:=0) (show(["_law_k","_law_found","_law_due"]:List Str).Nodup by decide+kernel) rfl (Or.inl rfl))) (by decide)),(λ _ _ _ _ _=>bf),(λ _ _ _ _ _=>(aD cm (hr.mono (by omega)) (by rfl) (aa (bN bD (ar 1) (ar 0) (λ _ _=>rfl)) (aa (bN bD (ar 2) (ar 0) (λ _ _=>rfl)) ae))))⟩)))))))))),?_⟩
  rcases hs with⟨rfl,hx⟩|⟨ds,es,rfl,rfl,hl,hz,hs⟩|⟨p,q,ds,es,rfl,rfl,hp,hq,hl,hz,hs⟩
  ·cases x with
   |bx=>
    walk_at "rx"
    refine m_ ?_
    walk_at "rx"
    refine m_ ?_
    walk_at "rx"
    exact aA k
   |bl b=>
    walk_at "rx"
    refine iw (by simp[mQ]) ?_
    walk_at "rx"
    refine bA (n:="bool") rfl (b:=true) (by decide) ?_
    walk_at "rx"
    refine bA (n:="bool") rfl (b:=true) (by decide) ?_
    walk_at "rx"
    refine bA (n:="bool") rfl (b:=true) (by decide) ?_
    walk_at "rx"
    rw[C1 (rfl:b=b)]
    exact aA k
   |int i=>
    walk_at "rx"
    refine iw (by simp[mQ]) ?_
    walk_at "rx"
    refine bA (n:="int") rfl (b:=false) (by decide) ?_
    walk_at "rx"
    refine bA (n:="int") rfl (b:=false) (by decide) ?_
    walk_at "rx"
    refine bA (n:="int") rfl (b:=true) (by decide) ?_
    walk_at "rx"
    refine bA (n:="int") rfl (b:=true) (by decide) ?_
    walk_at "rx"
    rw[C1 (rfl:i=i)]
    exact aA k
   |str z=>
    walk_at "rx"
    refine iw (by simp[mQ]) ?_
    walk_at "rx"
    refine bA (n:="str") rfl (b:=false) (by decide) ?_
    walk_at "rx"
    refine bA (n:="str") rfl (b:=false) (by decide) ?_
    walk_at "rx"
    refine bA (n:="str") rfl (b:=false) (by decide) ?_
    walk_at "rx"
    refine bA (n:="str") rfl (b:=true) (by decide) ?_
    walk_at "rx"
    refine bA (n:="str") rfl (b:=true) (by decide) ?_
    walk_at "rx"
    rw[C1 (rfl:z=z)]
    exact aA k
   |_=>cases hx
  ·walk_at "rx"
   refine iw (by simp[mQ]) ?_
   walk_at "rx"
   refine bA (n:="tuple") rfl (b:=false) (by decide) ?_
   walk_at "rx"
   refine bA (n:="tuple") rfl (b:=false) (by decide) ?_
   walk_at "rx"
   refine bA (n:="tuple") rfl (b:=false) (by decide) ?_
   walk_at "rx"
   refine bA (n:="tuple") rfl (b:=false) (by decide) ?_
   walk_at "rx"
   refine bA (n:="tuple") rfl (b:=true) (by decide) ?_
   walk_at "rx"
   refine bA (n:="tuple") rfl (b:=true) (by decide) ?_
   walk_at "rx"
   refine md (λ h=>absurd rfl h) (λ _=>?_)
   walk_at "rx"
   refine bA (n:="tuple") rfl (b:=false) (by decide) ?_
   walk_at "rx"
   refine bA (n:="tuple") rfl (b:=false) (by decide) ?_
   walk_at "rx"
   refine md (λ h=>absurd rfl h) (λ _=>?_)
   walk_at "rx"
   rw[hl]
   refine bo (λ _=>?_) (λ hl=>absurd rfl hl)
   walk_at "rx"
   refine⟨cj (by omega) (by omega),?_⟩
   rw[u5]
   refine ip (λ i acc M'=>M'=M/\acc=(List.replicate i true).map D.bl) ⟨rfl,rfl⟩ (λ i acc M' hi h=>?_) (λ i d acc M' hd h=>?_) (λ acc M' h=>?_)
   ·obtain⟨_,rfl⟩:=h
    rw[aV]at hi
    simp only[B7,l8]
    exact small (by omega)
   ·obtain⟨rfl,rfl⟩:=h
    obtain⟨hi,rfl⟩:=bQ hd
    walk_at "rx"
    refine jY (mE (by omega)) ?_
    walk_at "rx"
    refine jY (mE hi) ?_
    refine⟨_,_,rfl,hs i _ _ (i9 (by omega)) (i9 hi),rfl,?_⟩
    rw[replicate_succ',B9]
    rfl
   ·obtain⟨rfl,rfl⟩:=h
    unfold yK
    rw[nY]
    show fin2 Q (.bl ((List.replicate _ true).all id)) _
    rw[rQ]
    exact aA k
  ·have tp:mQ M (.ref p)=some "list":=by show(aY M p).map (λ _=>"list")=_;unfold aY;rw[hp];rfl
   have tq:mQ M (.ref q)=some "list":=by show(aY M q).map (λ _=>"list")=_;unfold aY;rw[hq];rfl
   walk_at "rx"
   refine iw (by rw[tq];simp) ?_
   walk_at "rx"
   refine bA tq (b:=false) (by decide) ?_
   walk_at "rx"
   refine bA tp (b:=false) (by decide) ?_
   walk_at "rx"
   refine bA tq (b:=false) (by decide) ?_
   walk_at "rx"
   refine bA tq (b:=false) (by decide) ?_
   walk_at "rx"
   refine bA tq (b:=false) (by decide) ?_
   walk_at "rx"
   refine bA tp (b:=false) (by decide) ?_
   walk_at "rx"
   refine md (λ h=>absurd rfl h) (λ _=>?_)
   walk_at "rx"
   refine bA tq (b:=true) (by decide) ?_
   walk_at "rx"
   refine bA tp (b:=true) (by decide) ?_
   walk_at "rx"
   refine md (λ h=>absurd rfl h) (λ _=>?_)
   walk_at "rx"
   rw[hl]
   refine bo (λ _=>?_) (λ hl=>absurd rfl hl)
   walk_at "rx"
   refine⟨cj (by omega) (by omega),?_⟩
   rw[u5]
   refine ip (λ i acc M'=>M'=M/\acc=(List.replicate i true).map D.bl) ⟨rfl,rfl⟩ (λ i acc M' hi h=>?_) (λ i d acc M' hd h=>?_) (λ acc M' h=>?_)
   ·obtain⟨_,rfl⟩:=h
    rw[aV]at hi
    simp only[B7,l8]
    exact small (by omega)
   ·obtain⟨rfl,rfl⟩:=h
    obtain⟨hi,rfl⟩:=bQ hd
    walk_at "rx"
    refine bP hp (mE (by omega)) ?_
    walk_at "rx"
    refine bP hq (mE hi) ?_
    refine⟨_,_,rfl,hs i _ _ (i9 (by omega)) (i9 hi),rfl,?_⟩
    rw[replicate_succ',B9]
    rfl
   ·obtain⟨rfl,rfl⟩:=h
    unfold yK
    rw[nY]
    show fin2 Q (.bl ((List.replicate _ true).all id)) _
    rw[rQ]
    exact aA k
end
def dF(g:List aG)(n:Nat):Row->List Row:=λ b=>tm g b n
section
variable {P:Program}{w:World}{K:PySem.W.Frag}{mg:Str->Option Value}{base:Heap}
theorem cu:aM ["_law_game_here","_law_counts_here","_law_found","_law_h","_law_heap","_law_k","_law_more","_law_later"] ["_law_game_here","_law_counts_here"] (ay (top 17)):=⟨rfl,rfl,rfl,by decide+kernel,rfl,by decide+kernel,by decide+kernel⟩
theorem zE{f:Addr}{fd:FuncData}(F:gM K "_law_moves" "_law_moves" (top 17) f fd)(T:jR K mg):bZ P w K mg base fE 2 f fd ["_law_game_here","_law_counts_here"] (cF K lW):=by
 refine jS F cu (λ ds M Q h=>?_) (λ c_ A outer s H E ds M Q hr h=>?_)
 ·obtain⟨n,g,as,rfl,_⟩:=h
  rfl
 ·obtain⟨n,g,as,rfl,G,ha,k⟩:=h
  have hfew:=G.ur
  refine⟨_,(af (aB (i:=2) cu.nd rfl (Or.inl rfl) (bR ae))
 (af (cR B3 rfl (lT rfl T.enumerate (aa (ar 0) ae)) (iK (n:=2) rfl (bM (bg (i:=3) cu.nd rfl (Or.inl rfl)) (bM (bg (i:=4) cu.nd rfl (Or.inl rfl)) gf)))
 (ak (cR B3 rfl (lT rfl T.enumerate (aa (bN bD (ar 4) ao (λ _ _=>rfl)) ae)) (iK (n:=2) rfl (bM (bg (i:=5) cu.nd rfl (Or.inl rfl)) (bM (bg (i:=6) cu.nd rfl (Or.inl rfl)) gf)))
 (ak (cb (aU tj (bN bD (ar 1) (ar 3) (λ _ _=>rfl)) ao (aR _))
 (af (cG (i:=7) cu.nd rfl (Or.inl rfl) (tgs:=["_law_a","_law_b"]) (fr:=[]) ⟨bw (by kernel_rfl),rfl,(λ _ _ h=>h),(xo rfl T.zip (aa (ar 1) (aa (ar 6) ae))),(mL (λ _ _ _ _ _=>(qw rfl (eU (aL (i:=0) (show(["_law_a","_law_b"]:List Str).Nodup by decide+kernel) rfl (Or.inl rfl)) (eU (aL (i:=1) (show(["_law_a","_law_b"]:List Str).Nodup by decide+kernel) rfl (Or.inl rfl)) mj)))) (by decide) (by decide)),(λ _ _ _ _ _=>bf),(λ _ _ _ _ _=>(bh bp (ar 0) (ar 1)))⟩)
 (af (eP (bh xV (bN bD (ar 7) (ar 3) (λ _ _=>rfl)) ao) (fv (ar 7) (ar 3) kT))
 (ak (cp (iL j4 i8 j0 bT (ar 2) (aa (fG (aa (ar 3) (aa (ar 5) (aa (iu eI (by rfl) T.tuple (by decide+kernel) (aa (ar 7) ae)) ae)))) ae))))))
 bj)))))
 (ak (aJ (ar 2))))),?_⟩
  walk_at "rd"
  refine⟨by decide,λ p hp=>?_⟩
  walk_at "rd"
  refine dP (λ i δ M'=>∃(v1 v2 v3 v4 v5:Option D),δ=[some (cC g),some (row as),some (.ref p),v1,v2,v3,v4,v5]/\M' p=some (.lst (kb g as i))/\Ext M M') ⟨none,none,none,none,none,rfl,ag,oC (λ b o e=>e) hp _⟩ (λ i d δ M' hd h=>?_) (λ δ M' h=>?_)
  ·obtain⟨v1,v2,v3,v4,v5,rfl,h3,hM⟩:=h
   obtain⟨hi,rfl⟩:=rj hd
   rw[B7]at hi
   rw[zZ hi]
   have fP:i < n:=by rw[<- G.len];exact hi
   obtain⟨ho,qW⟩:=G.at fP
   generalize vi:g.getD i eN=hp at*
   obtain⟨nm,os⟩:=hp
   have ho:os.length<=63:=ho
   have qW:∀r∈os,r.length=n:=qW
   have ml:=qE G as i (by omega)
   have step:kb g as (i+1)=kb g as i++opt as i (tE as i os os.length):=by
    show kb g as i++opt as i (tE as i (g.getD i eN).2 (g.getD i eN).2.length)=_
    rw[vi]
   walk_at "rd"
   refine dP (λ j δ M'=>∃(v3 v4 v5:Option D),δ=[some (cC g),some (row as),some (.ref p),some (.int (i:Int)),some (eW (nm,os)),v3,v4,v5]/\M' p=some (.lst (kb g as i++opt as i (tE as i os j)))/\Ext M M') ⟨_,_,_,rfl,?_,hM⟩ (λ j d δ M1 hd h=>?_) (λ δ M1 h=>?_)
   ·have:opt as i (tE as i os 0)=[]:=by unfold opt tE;split <;> rfl
    rw[this,A6]
    exact h3
   ·obtain⟨v3,v4,v5,rfl,h3,hM⟩:=h
    obtain⟨hj,rfl⟩:=rj hd
    rw[B7]at hj
    rw[DJ hj]
    have hl:=qW _ (getD_mem hj)
    walk_at "rd"
    refine jY (eu (by omega)) ?_
    walk_at "rd"
    refine bo (λ nK=>?_) (λ nK=>?_)
    ·have eo:opt as i (tE as i os (j+1))=opt as i (tE as i os j)++[TR as i (os.getD j []) j]:=by
      unfold opt
      rw[J9 nK,J9 nK,Cz]
     have Yq:(opt as i (tE as i os j)).length=j:=by
      unfold opt
      rw[J9 nK,qG]
     walk_at "rd"
     generalize os.getD j []=o at*
     refine Ny (as:=as) (bs:=o) (λ p=>D.int (p.1+p.2)) (by omega) (λ _ x N hx hN=>?_) ?_
     ·walk_at "rd"
      exact hN
     rw[BZ]
     intro q hq
     have hpl:(plus as o).length=n:=by unfold plus;rw[length_zipWith];omega
     have oo:p≠q:=λ z=>by subst z;rw[h3]at hq;cases hq
     walk_at "rd"
     refine bP ag (eu (by omega)) ?_
     walk_at "rd"
     refine Bu ag (by rw[B7];exact My (by omega) (by omega)) ?_
     rw[cK]
     walk_at "rd"
     refine⟨⟨rfl,_,by rw[ah oo];exact h3⟩,?_⟩
     walk_at "rd"
     refine jX ag ?_
     walk_at "rd"
     refine⟨by show 3<=sizeLine;decide,?_⟩
     walk_at "rd"
     refine cW (by rw[ah oo];exact h3) (by rw[p6,Yq];exact q8 (show _<=10000 by omega) (by decide)) ?_
     walk_at "rd"
     refine⟨_,_,_,rfl,?_,Ext.own (oC hM hq _) hp⟩
     rw[ag,eo,u5]
     have e:((plus as o).map D.int).set i (.int ((plus as o).getD i 0 - 1))=(plus (less as i) o).map D.int:=by
      rw[<- zz (by omega) (by omega),map_set]
     rw[e,u9]
     rfl
    ·walk_at "rd"
     refine⟨_,_,_,rfl,?_,hM⟩
     have eo:∀l,opt as i l=[]:=λ l=>K0 nK
     rw[eo]at h3 ⊢
     exact h3
   ·obtain⟨v3,v4,v5,rfl,h3,hM⟩:=h
    rw[fS,B7]at h3
    walk_at "rd"
    exact⟨_,_,_,_,_,rfl,by rw[step];exact h3,hM⟩
  ·obtain⟨v1,v2,v3,v4,v5,rfl,h3,hM⟩:=h
   rw[fS,B7,G.len]at h3
   walk_at "rd"
   exact aA (k p M' hp h3 hM)
end
def dot(as bs:List Int):Int:=(List.zipWith (·*·) as bs).sum
def lG(aQ:List (List (List Int))):Nat->List Int
 |0=>[]
 |i+1=>lG aQ i++[fL 0 ((aQ.getD i []).map λ o=>1+dot o (lG aQ i))]
theorem mi(aQ:List (List (List Int))):∀i,(lG aQ i).length=i
 |0=>rfl
 |i+1=>by show(lG aQ i++[_]).length=_;rw[p6,mi aQ i];rfl
structure oh(aQ:List (List (List Int))):Prop where
 ur:aQ.length<=12
 opts:∀i,i < aQ.length->(aQ.getD i []).length<=63/\∀o∈aQ.getD i [],(∀x∈o,0<=x)/\o.sum<=4/\o.length<=1000
def eC(g:List aG):List (List (List Int)):=g.map (·.2)
theorem pz(g:List aG)(i:Nat):(eC g).getD i []=(g.getD i eN).2:=by
 unfold eC
 rw[g9,g9,s9]
 cases g[i]? <;> rfl
theorem cQ.Lw {n:Nat}{g:List aG}(G:cQ n g):oh (eC g):=by
 have hl:(eC g).length=n:=by unfold eC;rw[B7];exact G.len
 refine⟨by rw[hl];exact G.ur,λ i hi=>?_⟩
 rw[pz]
 rw[hl]at hi
 exact⟨(G.opts i hi).1,λ o ho=>⟨((G.opts i hi).2 o ho).pos,((G.opts i hi).2 o ho).sum,by rw[((G.opts i hi).2 o ho).len];have:=G.ur;omega⟩⟩
def cv(g:List aG)(i:Nat):List Int:=lG (eC g) i
theorem gp(g:List aG)(i:Nat):(cv g i).length=i:=mi _ i
theorem sW(g:List aG)(i:Nat):cv g (i+1)=cv g i++[fL 0 ((g.getD i eN).2.map λ o=>1+dot o (cv g i))]:=by
 show lG (eC g) i++[fL 0 (((eC g).getD i []).map λ o=>1+dot o (lG (eC g) i))]=_
 rw[pz]
 rfl
theorem ya{b:Int}:∀{ns:List Int},0<=b->(∀x∈ns,x<=b)->fL 0 ns<=b:=λ{ns} hb h=>by
 cases ns with
 |nil=>exact hb
 |cons n ns=>
  rcases(foldl_max ns n).2.2 with e|e
  ·show ns.foldl max n<=b
   rw[e];exact h n (o9 ..)
  ·exact h _ (m5 _ e)
theorem yb{ns:List Int}{x:Int}(h:x∈ns):x<=fL 0 ns:=by
 cases ns with
 |nil=>cases h
 |cons n ns=>
  show x<=ns.foldl max n
  rcases D3.mp h with rfl|h
  ·exact(foldl_max ns x).1
  ·exact(foldl_max ns n).2.1 x h
theorem tQ{ns:List Int}(h:∀x∈ns,0<=x):0<=fL 0 ns:=by
 cases ns with
 |nil=>exact Int.le_refl _
 |cons n ns=>exact Int.le_trans (h n (o9 ..)) (yb (o9 ..))
theorem gy(as:List Int):dot as []=0:=by unfold dot;rw[zipWith_nil_right];rfl
theorem cD(a b:Int)(as bs:List Int):dot (a::as) (b::bs)=a*b+dot as bs:=by unfold dot;rw[zipWith_cons_cons,sum_cons]
theorem rn:∀{as bs:List Int},(∀x∈as,0<=x)->(∀x∈bs,0<=x)->0<=dot as bs
 |[],bs,_,_=>by unfold dot;simp
 |a::as,[],_,_=>by rw[gy];exact Int.le_refl _
 |a::as,b::bs,h,q=>by
  rw[cD]
  have:=rn (as:=as) (bs:=bs) (λ x hx=>h x (m5 _ hx)) (λ x hx=>q x (m5 _ hx))
  have:=Int.mul_nonneg (h a (o9 ..)) (q b (o9 ..))
  omega
theorem DQ{B:Int}(hB:0<=B):∀{as bs:List Int},(∀x∈as,0<=x)->(∀x∈bs,x<=B)->dot as bs<=as.sum*B
 |[],bs,_,_=>by unfold dot;simp
 |a::as,[],h,_=>by
  rw[gy]
  refine Int.mul_nonneg ?_ hB
  have:∀l:List Int,(∀x∈l,0<=x)->0<=l.sum:=λ l=>by
   induction l with
   |nil=>intro _;simp
   |cons x l ih=>intro h;rw[sum_cons];have:=ih λ y hy=>h y (m5 _ hy);have:=h x (o9 ..);omega
  exact this _ h
 |a::as,b::bs,h,q=>by
  rw[cD,sum_cons,Int.add_mul]
  have h1:=DQ hB (as:=as) (bs:=bs) (λ x hx=>h x (m5 _ hx)) (λ x hx=>q x (m5 _ hx))
  have h2:=Int.mul_le_mul_of_nonneg_left (q b (o9 ..)) (h a (o9 ..))
  omega
theorem II{aQ:List (List (List Int))}(G:oh aQ):∀i,i<=aQ.length->∀x∈lG aQ i,0<=x/\x<=5^i
 |0,_,x,hx=>by cases hx
 |i+1,hi,x,hx=>by
  have ih:=II G i (by omega)
  have Zf:(0:Int) < 5^i:=Int.pow_pos (by decide)
  have e5:(5:Int)^(i+1)=5*5^i:=by rw[Int.pow_succ,Int.mul_comm]
  have hx:x∈lG aQ i++[fL 0 ((aQ.getD i []).map λ o=>1+dot o (lG aQ i))]:=hx
  rcases B8.mp hx with q|q
  ·have:=ih x q
   omega
  ·have e:x=fL 0 ((aQ.getD i []).map λ o=>1+dot o (lG aQ i)):=by simpa using q
   have ho:=(G.opts i (by omega)).2
   subst e
   constructor
   ·refine tQ λ y hy=>?_
    obtain⟨o,MJ,rfl⟩:=E3.mp hy
    have:=rn (ho o MJ).1 λ z hz=>(ih z hz).1
    omega
   ·refine ya (by omega) λ y hy=>?_
    obtain⟨o,MJ,rfl⟩:=E3.mp hy
    have h1:=DQ (B:=5^i) (by omega) (ho o MJ).1 λ z hz=>(ih z hz).2
    have h2:=(ho o MJ).2.1
    have h3:o.sum*5^i<=4*5^i:=Int.mul_le_mul_of_nonneg_right h2 (by omega)
    omega
theorem Tz{i:Nat}(h:i<=12):(5:Int)^i<=1000000000:=by
 have:∀j:Fin 13,(5:Int)^(j:Nat)<=1000000000:=by decide
 exact this ⟨i,by omega⟩
theorem sX{aQ:List (List (List Int))}(G:oh aQ){i:Nat}(hi:i<=aQ.length):∀x∈lG aQ i,0<=x/\x<=1000000000:=λ x hx=>by
 have h:=II G i hi x hx
 have:=Tz (i:=i) (by have:=G.ur;omega)
 omega
theorem sV{n:Nat}{g:List aG}(G:cQ n g){i:Nat}(hi:i<=n):∀x∈cv g i,0<=x/\x<=1000000000:=sX G.Lw (by unfold eC;rw[B7,G.len];exact hi)
def rW(g:List aG)(n:Nat)(as:List Int):Int:=dot as (cv g n)
theorem gG:∀{as bs:List Int} (i:Nat),bs.length=i->(∀j,i<=j->as.getD j 0=0)->∀cs:List Int,dot as (bs++cs)=dot as bs
 |[],bs,i,_,_,cs=>by unfold dot;simp
 |a::as,[],i,hl,hz,cs=>by
  rw[gy,A7]
  have hi:i=0:=by simpa using hl.symm
  subst hi
  have all:∀(l m:List Int),(∀j,l.getD j 0=0)->dot l m=0:=λ l=>by
   induction l with
   |nil=>intro m _;unfold dot;simp
   |cons x l ih=>
    intro m h
    cases m with
    |nil=>exact gy _
    |cons y m=>
     rw[cD,ih m λ j=>by simpa using h (j+1)]
     have:x=0:=by simpa using h 0
     rw[this];simp
  exact all _ _ λ j=>hz j (G5 _)
 |a::as,b::bs,i,hl,hz,cs=>by
  rw[cons_append,cD,cD]
  have hl:bs.length+1=i:=by simpa using hl
  rw[gG (bs.length) rfl (λ j hj=>by simpa using hz (j+1) (by omega)) cs]
theorem iQ(aQ:List (List (List Int)))(i:Nat):∀k,∃cs,lG aQ (i+k)=lG aQ i++cs
 |0=>⟨[],by simp⟩
 |k+1=>by
  obtain⟨cs,e⟩:=iQ aQ i k
  refine⟨cs++[fL 0 ((aQ.getD (i+k) []).map λ o=>1+dot o (lG aQ (i+k)))],?_⟩
  show lG aQ (i+k)++[_]=_
  rw[<- u9,<- e]
  rfl
theorem B'{g:List aG}{n i:Nat}(h:i < n):(cv g n).getD i 0=fL 0 ((g.getD i eN).2.map λ o=>1+dot o (cv g i)):=by
 obtain⟨cs,e⟩:=iQ (eC g) (i+1) (n - (i+1))
 have e:cv g n=cv g (i+1)++cs:=by
  unfold cv
  rw[<- e]
  congr 1
  omega
 rw[e,sW,u9,g9,e9 (by rw[gp];exact E9 _),gp]
 simp
theorem HN{g:List aG}{n i:Nat}{o:List Int}(h:i<=n)(ho:fZ n i o):dot o (cv g n)=dot o (cv g i):=by
 obtain⟨cs,e⟩:=iQ (eC g) i (n - i)
 have e:cv g n=cv g i++cs:=by
  unfold cv
  rw[<- e]
  congr 1
  omega
 rw[e]
 exact gG i (gp g i) ho.low cs
theorem uC:∀{as bs ps:List Int},as.length=bs.length->dot (plus as bs) ps=dot as ps+dot bs ps
 |[],[],ps,_=>by unfold dot plus;simp
 |a::as,b::bs,[],_=>by rw[gy,gy,gy];rfl
 |a::as,b::bs,p::ps,h=>by
  have:=uC (as:=as) (bs:=bs) (ps:=ps) (by simpa using h)
  unfold plus at this ⊢
  rw[zipWith_cons_cons,cD,cD,cD,this,Int.add_mul]
  omega
 |a::as,[],ps,h=>by simp at h
 |[],b::bs,ps,h=>by simp at h
theorem yB:∀{as ps:List Int} {h:Nat},h < as.length->h < ps.length->dot (as.set h (as.getD h 0 - 1)) ps=dot as ps - ps.getD h 0
 |a::as,p::ps,0,_,_=>by
  rw[set_cons_zero,cD,cD]
  simp only[getD_cons_zero]
  rw[Int.sub_mul,Int.one_mul]
  omega
 |a::as,p::ps,h+1,h1,h2=>by
  rw[set_cons_succ,cD,cD]
  have:=yB (as:=as) (ps:=ps) (h:=h) (by simpa using h1) (by simpa using h2)
  simp only[getD_cons_succ]
  rw[this]
  omega
 |[],ps,h,h1,_=>by simp at h1
 |a::as,[],h,_,h2=>by simp at h2
def fi(as:List Int)(h:Nat)(o:List Int):List Int:=plus (less as h) o
def Px(as:List Int)(h:Nat)(os:List (List Int)):List (List Int):=if 0 < as.getD h 0 then os.map (fi as h)else[]
def zI(g:List aG)(as:List Int):Nat->List (List Int)
 |0=>[]
 |i+1=>zI g as i++Px as i (g.getD i eN).2
theorem zN{n:Nat}{g:List aG}(G:cQ n g){as:List Int}(ha:as.length=n){h:Nat}(hh:h < n){o:List Int}(ho:o∈(g.getD h eN).2):
  rW g n (fi as h o)+1=rW g n as - (cv g n).getD h 0+(1+dot o (cv g h)):=by
 have hr:=(G.opts h hh).2 o ho
 unfold rW fi
 rw[uC (by rw[fN (by omega),hr.len,ha]),ny (by omega),yB (by omega) (by rw[gp];exact hh),HN (by omega) hr]
 omega
theorem tO{g:List aG}{as:List Int}{l:List Int}:∀{i:Nat},l∈zI g as i↔∃h o,h < i/\0 < as.getD h 0/\o∈(g.getD h eN).2/\l=fi as h o
 |0=>by simp[zI]
 |i+1=>by
  show l∈zI g as i++Px as i (g.getD i eN).2↔_
  rw[B8,tO]
  constructor
  ·rintro(⟨h,o,h1,h2,h3,h4⟩|q)
   ·exact⟨h,o,by omega,h2,h3,h4⟩
   ·unfold Px at q
    split at q
    ·rename_i hp
     obtain⟨o,ho,rfl⟩:=E3.mp q
     exact⟨i,o,by omega,hp,ho,rfl⟩
    ·cases q
  ·rintro⟨h,o,h1,h2,h3,h4⟩
   by_cases e:h < i
   ·exact .inl ⟨h,o,e,h2,h3,h4⟩
   ·have:h=i:=by omega
    subst this
    refine .inr ?_
    unfold Px
    rw[J9 h2]
    exact E3.mpr ⟨o,h3,h4.symm⟩
theorem DK{as:List Int}(hp:∀x∈as,0<=x)(j:Nat):0<=as.getD j 0:=by
 rw[g9]
 cases e:as[j]? with
 |none=>exact Int.le_refl _
 |some x=>exact hp x (m6 e)
theorem IS(g:List aG)(as:Row):∀i,tm g as i=zI g as i
 |0=>rfl
 |i+1=>by
  show tm g as i++_=zI g as i++Px as i _
  rw[IS g as i]
  rfl
theorem qI{g:List aG}{n:Nat}{as l:Row}:l∈dF g n as↔∃h o,h < n/\0 < as.getD h 0/\o∈(g.getD h eN).2/\l=fi as h o:=by
 unfold dF
 rw[IS]
 exact tO
structure kC(n:Nat)(as:Row):Prop where
 len:as.length=n
 pos:∀x∈as,0<=x
theorem B_{as bs:Row}(ha:∀x∈as,0<=x)(hb:∀x∈bs,0<=x):∀x∈plus as bs,0<=x:=λ x hx=>by
 unfold plus at hx
 rw[<- map_uncurry_zip_eq_zipWith]at hx
 obtain⟨p,hp,rfl⟩:=E3.mp hx
 have h1:=ha _ (of_mem_zip hp).1
 have h2:=hb _ (of_mem_zip hp).2
 show 0<=p.1+p.2
 omega
theorem jZ{n:Nat}{g:List aG}(G:cQ n g){as c:Row}(ha:kC n as)(hc:c∈dF g n as):kC n c:=by
 obtain⟨h,o,hh,h0,ho,rfl⟩:=qI.mp hc
 have hr:=(G.opts h hh).2 o ho
 have h1:h < as.length:=by rw[ha.len];exact hh
 exact⟨sU (by rw[fN h1,ha.len]) hr.len,B_ (nz ha.pos h0) hr.pos⟩
theorem jz{n:Nat}{g:List aG}(G:cQ n g){as:Row}(ha:kC n as):0<=rW g n as:=rn ha.pos λ x hx=>(sV G (E9 _) x hx).1
theorem qA{n:Nat}{g:List aG}(G:cQ n g){as c:Row}(ha:kC n as)(hc:c∈dF g n as):rW g n c < rW g n as:=by
 obtain⟨h,o,hh,h0,ho,rfl⟩:=qI.mp hc
 have e:=zN G ha.len hh ho
 have hpl:=B' (g:=g) (n:=n) hh
 have:=yb (ns:=(g.getD h eN).2.map λ o=>1+dot o (cv g h)) (E3.mpr ⟨o,ho,rfl⟩)
 omega
def eV(nx:Row->List Row)(w:Bool):Nat->Row->Bool
 |0,_=>false
 |f+1,r=>if nx r=[]then w else !((nx r).any (eV nx w f))
theorem tS{n:Nat}{g:List aG}(G:cQ n g)(w:Bool):∀(f f':Nat) (r:Row),kC n r->rW g n r < (f:Int)->rW g n r < (f':Int)->eV (dF g n) w f r=eV (dF g n) w f' r
 |0,_,r,hr,h,_=>absurd (jz G hr) (by omega)
 |_,0,r,hr,_,h=>absurd (jz G hr) (by omega)
 |f+1,f'+1,r,hr,h,h'=>by
  show(if dF g n r=[]then w else !((dF g n r).any (eV (dF g n) w f)))=if dF g n r=[]then w else !((dF g n r).any (eV (dF g n) w f'))
  have e:∀c∈dF g n r,eV (dF g n) w f c=eV (dF g n) w f' c:=λ c hc=>by
   have:=qA G hr hc
   exact tS G w f f' c (jZ G hr hc) (by omega) (by omega)
  have e2:(dF g n r).any (eV (dF g n) w f)=(dF g n r).any (eV (dF g n) w f'):=by
   rw[A5,List.any_eq_true,List.any_eq_true]
   exact⟨λ⟨c,h1,h2⟩=>⟨c,h1,by rw[<- e c h1];exact h2⟩,λ⟨c,h1,h2⟩=>⟨c,h1,by rw[e c h1];exact h2⟩⟩
  rw[e2]
def fM(g:List aG)(n:Nat)(w:Bool)(r:Row):Bool:=eV (dF g n) w ((rW g n r).toNat+1) r
theorem yc{n:Nat}{g:List aG}(G:cQ n g)(w:Bool){r:Row}(hr:kC n r):fM g n w r=if dF g n r=[]then w else !((dF g n r).any (fM g n w)):=by
 unfold fM
 show(if dF g n r=[]then w else !((dF g n r).any (eV (dF g n) w (rW g n r).toNat)))=_
 have e2:(dF g n r).any (eV (dF g n) w (rW g n r).toNat)=(dF g n r).any λ c=>eV (dF g n) w ((rW g n c).toNat+1) c:=by
  have e:∀c∈dF g n r,eV (dF g n) w (rW g n r).toNat c=eV (dF g n) w ((rW g n c).toNat+1) c:=λ c hc=>by
   have h1:=qA G hr hc
   have h2:=jz G (jZ G hr hc)
   exact tS G w _ _ c (jZ G hr hc) (by omega) (by omega)
  rw[A5,List.any_eq_true,List.any_eq_true]
  exact⟨λ⟨c,h1,h2⟩=>⟨c,h1,by rw[<- e c h1];exact h2⟩,λ⟨c,h1,h2⟩=>⟨c,h1,by rw[e c h1];exact h2⟩⟩
 rw[e2]
theorem oX{n:Nat}{g:List aG}(G:cQ n g){as:Row}(ha:as.length=n){h:Nat}(hh:h < n){o:Row}(ho:o∈(g.getD h eN).2):
  xd (fi as h o) (cA g n)=xd as (cA g n)^^^(cA g n).getD h 0^^^xd o (cA g h):=by
 have hr:=(G.opts h hh).2 o ho
 unfold fi
 rw[xk _ (by rw[fN (by omega),hr.len,ha]),ny (by omega),AH (by omega) (by rw[fg];exact hh),L6 (by omega) hr]
theorem sm{n:Nat}{g:List aG}(G:cQ n g){as c:Row}(ha:as.length=n)(hc:c∈dF g n as):xd c (cA g n)≠xd as (cA g n):=by
 obtain⟨h,o,hh,h0,ho,rfl⟩:=qI.mp hc
 rw[oX G ha hh ho]
 intro e
 have e2:(cA g n).getD h 0=xd o (cA g h):=by
  rw[<- EF]
  have:=J7 (λ z=>xd as (cA g n)^^^z) e
  simp only[D9]at this
  rwa [C8,<- C8,D9,Nat.zero_xor]at this
 have hm:=qH ((g.getD h eN).2.map λ o=>(xd o (cA g h):Int))
 rw[<- IT hh,e2]at hm
 exact hm.1 (E3.mpr ⟨o,ho,rfl⟩)
theorem xq{n:Nat}{g:List aG}(G:cQ n g){as:Row}(ha:kC n as)(h0:xd as (cA g n)≠0):∃c∈dF g n as,xd c (cA g n)=0:=by
 obtain⟨h,h1,h2,h3,h4⟩:=AI (Nat.testBit_log2 h0)
 have fO:=AG (Nat.lt_log2_self (n:=xd as (cA g n))) (Nat.testBit_log2 h0) h4
 have hh:h < n:=by rw[<- ha.len];exact h1
 have hm:=qH ((g.getD h eN).2.map λ o=>(xd o (cA g h):Int))
 rw[<- IT hh]at hm
 obtain⟨o,ho,e⟩:=E3.mp (hm.2 _ fO)
 have e:xd o (cA g h)=(cA g n).getD h 0^^^xd as (cA g n):=by omega
 have hp:=DK ha.pos h
 refine⟨fi as h o,qI.mpr ⟨h,o,hh,by omega,ho,rfl⟩,?_⟩
 rw[oX G ha.len hh ho,e,Nat.xor_comm ((cA g n).getD h 0),Nat.xor_comm (xd as (cA g n)),D9]
theorem DH{n:Nat}{g:List aG}(G:cQ n g):∀(f:Nat) (as:Row),kC n as->rW g n as < (f:Int)->fM g n true as=decide (xd as (cA g n)=0)
 |0,as,ha,h=>absurd (jz G ha) (by omega)
 |f+1,as,ha,h=>by
  rw[yc G true ha]
  have ih:∀c∈dF g n as,fM g n true c=decide (xd c (cA g n)=0):=λ c hc=>DH G f c (jZ G ha hc) (by have:=qA G ha hc;omega)
  by_cases e:dF g n as=[]
  ·rw[J9 e]
   refine(C1 ?_).symm
   refine Classical.byContradiction λ z=>?_
   obtain⟨c,hc,_⟩:=xq G ha z
   rw[e]at hc
   cases hc
  ·rw[K0 e]
   by_cases z:xd as (cA g n)=0
   ·rw[C1 z,Bool.not_eq_true',List.any_eq_false]
    intro c hc
    rw[ih c hc,u4]
    have:=sm G ha.len hc
    rw[z]at this
    exact this
   ·rw[A9 z,Bool.not_eq_false',List.any_eq_true]
    obtain⟨c,hc,e⟩:=xq G ha z
    exact⟨c,hc,by rw[ih c hc];exact C1 e⟩
theorem zY{n:Nat}{g:List aG}(G:cQ n g){as:Row}(ha:kC n as):fM g n true as=decide (xd as (cA g n)=0):=DH G ((rW g n as).toNat+1) as ha (by have:=jz G ha;omega)
abbrev nI(v:Nat):Int:=v
abbrev nd(v:Nat):D:=.int (v:Int)
def qg:fe:=λ ds M Q=>∃(p:Addr) (vs:List Nat),ds=[.ref p]/\M p=some (.lst (vs.map nd))/\vs.length<=1000/\Q (.int (IU (vs.map nI))) M
theorem qQ(z:Nat)(zs:List Nat):inD (.int z) (zs.map nd)=some (decide ((z:Int)∈zs.map nI)):=by
 have h1:∀zs:List Nat,iG (zs.map nd)=some (zs.map λ v=>V.int (nI v)):=λ zs=>by
  induction zs with
  |nil=>rfl
  |cons y zs ih=>rw[D1,D1];unfold iG;rw[ih];rfl
 have h2:Dj (.int z) (zs.map λ v=>V.int (nI v))=decide ((z:Int)∈zs.map nI):=by
  induction zs with
  |nil=>rfl
  |cons y zs ih=>
   unfold Dj at ih ⊢
   rw[D1,any_cons,ih,D1]
   show(decide ((y:Int)=z)||_)=_
   rw[A5,Bool.or_eq_true,u4,u4,u4,D3]
   exact⟨λ h=>h.elim (λ e=>.inl e.symm) .inr,λ h=>h.elim (λ e=>.inl e.symm) .inr⟩
 unfold inD
 rw[h1]
 show some (Dj (.int z) _)=_
 rw[h2]
def RU(p:Int×Nat):D:=.tup [.int p.1,.int p.2]
theorem ED{p:Addr}{vs:List Nat}{as:List Int}{M:Mem}(h:M p=some (.lst (vs.map nd))):iA (row as) (.ref p) M=some ((as.zip vs).map RU):=by
 unfold iA
 rw[mW h]
 show some (iH (as.map D.int) (vs.map nd))=_
 unfold iH RU
 rw[List.zip_map,E4]
 rfl
def JN:fe:=λ ds M Q=>∃(p:Addr) (vs:List Nat) (as:Row),ds=[.ref p,row as]/\M p=some (.lst (vs.map nd))/\as.length<=1000/\Q (.int (xd as vs)) M
def sE:fe:=λ ds M Q=>∃(n:Nat) (g:List aG),ds=[cC g]/\cQ n g/\∀(p:Addr) (M':Mem),M p=none->M' p=some (.lst ((cA g n).map nd))->Ext M M'->Q (.ref p) M'
def Iy:fe:=λ ds M Q=>∃(n:Nat) (g:List aG) (as:Row),ds=[cC g,row as]/\cQ n g/\as.length<=1000/\∀(M':Mem),Ext M M'->Q (.int (xd as (cA g n))) M'
def vG:fe:=λ ds M Q=>∃(p:Addr) (vs:List Nat) (as:Row),ds=[.ref p,row as]/\M p=some (.lst (vs.map nd))/\as.length<=vs.length/\as.length<=1000/\Q (.int (xd as vs)) M
theorem pL{cs:List Int}{vs:List Nat}{i:Nat}{x:Int×Nat}(h:(cs.zip vs)[i]?=some x):((cs.zip vs).take (i+1)).foldl oT 0=oT (((cs.zip vs).take i).foldl oT 0) x:=by
 rw[take_one h,foldl_append]
 rfl
theorem HM{as:Row}{vs:List Nat}(hl:as.length<=vs.length){i:Nat}{d:D}(h:(eZ (as.map D.int))[i]?=some d):∃x:Int×Nat,(as.zip vs)[i]?=some x/\d=.tup [.int (i:Int),.int x.1]/\vs[i]?=some x.2:=by
 obtain⟨hi,rfl⟩:=rj h
 rw[B7]at hi
 refine⟨(as[i],vs[i]'(by omega)),?_,?_,?_⟩
 ·rw[i9 (by rw[length_zip];omega)]
  simp
 ·simp[g9,hi]
 ·rw[i9]
section
variable {P:Program}{w:World}{K:PySem.W.Frag}{mg:Str->Option Value}{base:Heap}
theorem dj:aM ["taken","number"] ["taken"] (ay (top 1)):=⟨rfl,rfl,rfl,by decide+kernel,rfl,by decide+kernel,by decide+kernel⟩
theorem GS{f:Addr}{fd:FuncData}(F:gM K "least_left_out" "least_left_out" (top 1) f fd)(T:jR K mg):bZ P w K mg base fE 1 f fd ["taken"] (cF K qg):=by
 refine jS F dj (λ ds M Q h=>?_) (λ c_ A outer s H E ds M Q hr h=>?_)
 ·obtain⟨p,vs,rfl,_⟩:=h
  rfl
 ·obtain⟨p,vs,rfl,hM,hl,k⟩:=h
  refine⟨_,(af (aB (i:=1) dj.nd rfl (Or.inl rfl) ao)
 (af (gR B3 (aU (tf hr.units) (ar 1) (ar 0) rfl)
 (ak (EI (i:=1) dj.nd rfl (Or.inl rfl) ao)))
 (ak (aJ (ar 1))))),?_⟩
  walk_at "rx"
  refine gY ⟨λ m δ M'=>M'=M/\∃j:Nat,δ=[some (.ref p),some (.int j)]/\m=vs.length+1 - j/\∀i:Nat,i < j->(i:Int)∈vs.map nI,⟨_,rfl,0,rfl,rfl,λ i h=>absurd h (by omega)⟩,?_⟩
  rintro m δ M' ⟨rfl,j,rfl,rfl,hj⟩
  walk_at "rx"
  refine mf hM (qQ j vs) ?_
  refine me (λ fP=>?_) (λ fP=>?_)
  ·have fP:(j:Int)∈vs.map nI:=by simpa using fP
   have EA:∀i:Nat,i < j+1->(i:Int)∈vs.map nI:=λ i hi=>by
    by_cases e:i < j
    ·exact hj i e
    ·have:i=j:=by omega
     subst this
     exact fP
   have hle:=we EA
   rw[B7]at hle
   refine⟨λ δ' M2=>M2=M'/\δ'=[some (.ref p),some (.int ((j+1:Nat):Int))],?_,?_⟩
   ·rintro δ' M2 ⟨rfl,rfl⟩
    exact⟨vs.length+1 - (j+1),by omega,rfl,j+1,rfl,rfl,EA⟩
   ·walk_at "rx"
    exact⟨1,rfl,rfl,rfl⟩
  ·have fP:(j:Int)∉vs.map nI:=by simpa using fP
   walk_at "rx"
   rw[(qH _).uniq ⟨fP,hj⟩]at k
   exact aA k
theorem dh:aM ["by_heap","counts","number","many","heap_number"] ["by_heap","counts"] (ay (top 2)):=⟨rfl,rfl,rfl,by decide+kernel,rfl,by decide+kernel,by decide+kernel⟩
theorem Pl{f:Addr}{fd:FuncData}(F:gM K "number_by" "number_by" (top 2) f fd)(T:jR K mg):bZ P w K mg base fE 1 f fd ["by_heap","counts"] (cF K JN):=by
 refine jS F dh (λ ds M Q h=>?_) (λ c_ A outer s H E ds M Q hr h=>?_)
 ·obtain⟨p,vs,as,rfl,_⟩:=h
  rfl
 ·obtain⟨p,vs,as,rfl,hM,hl,k⟩:=h
  refine⟨_,(af (aB (i:=2) dh.nd rfl (Or.inl rfl) ao)
 (af (cR B3 rfl (xo rfl T.zip (aa (ar 1) (aa (ar 0) ae))) (iK (n:=2) rfl (bM (bg (i:=3) dh.nd rfl (Or.inl rfl)) (bM (bg (i:=4) dh.nd rfl (Or.inl rfl)) gf)))
 (ak (cb (aU (d_ hr.units) (bh iF (ar 3) ao) ao (aR _))
 (ak (aB (i:=2) dh.nd rfl (Or.inl rfl) (bh IP (ar 2) (ar 4))))
 bj)))
 (ak (aJ (ar 2))))),?_⟩
  walk_at "rx"
  refine Nd (ds:=(as.zip vs).map RU) (λ i δ M'=>M'=M/\∃v3 v4:Option D,δ=[some (.ref p),some (row as),some (.int (((as.zip vs).take i).foldl oT 0:Nat)),v3,v4]) ⟨rfl,none,none,rfl⟩ (λ i δ M' hi h=>?_) (λ i d δ M' hd h=>?_) (λ δ M' h=>?_)
  ·obtain⟨rfl,_⟩:=h
   exact ED hM
  ·obtain⟨rfl,v3,v4,rfl⟩:=h
   rw[s9]at hd
   cases e:(as.zip vs)[i]? with
   |none=>rw[e]at hd;cases hd
   |some x=>
    rw[e]at hd
    cases hd
    unfold RU
    have st:=pL e
    walk_at "rx"
    refine bo (λ ho=>?_) (λ ho=>?_)
    ·have st:((as.zip vs).take (i+1)).foldl oT 0=((as.zip vs).take i).foldl oT 0^^^x.2:=by rw[st];unfold oT;rw[J9 ho]
     walk_at "rx"
     refine⟨rfl,some (.int x.1),some (.int x.2),?_⟩
     rw[st,<- nZ]
     rfl
    ·have st:((as.zip vs).take (i+1)).foldl oT 0=((as.zip vs).take i).foldl oT 0:=by rw[st];unfold oT;rw[K0 ho]
     walk_at "rx"
     refine⟨rfl,some (.int x.1),some (.int x.2),?_⟩
     rw[st]
     rfl
  ·obtain⟨rfl,v3,v4,rfl⟩:=h
   rw[B7,z9,Im]
   walk_at "rx"
   exact aA k
theorem iN:aM ["game","told","heap"] ["game"] (ay (top 3)):=⟨rfl,rfl,rfl,by decide+kernel,rfl,by decide+kernel,by decide+kernel⟩
theorem LO{f:Addr}{fd:FuncData}(F:gM K "numbers" "numbers" (top 3) f fd)(T:jR K mg)(kz:bC P w K mg base 1 "least_left_out" ["taken"] qg)(ie:bC P w K mg base 1 "number_by" ["by_heap","counts"] JN):bZ P w K mg base fE 2 f fd ["game"] (cF K sE):=by
 refine jS F iN (λ ds M Q h=>?_) (λ c_ A outer s H E ds M Q hr h=>?_)
 ·obtain⟨n,g,rfl,_⟩:=h
  rfl
 ·obtain⟨n,g,rfl,G,k⟩:=h
  have hfew:=G.ur
  refine⟨_,(af (aB (i:=1) iN.nd rfl (Or.inr rfl) (bR ae))
 (af (cR B3 rfl (cf (ar 0)) (bg (i:=2) iN.nd rfl (Or.inl rfl))
 (ak (cp (iL j4 i8 j0 bT (ar 1) (aa (aD kz (hr.mono (by decide)) (by rfl) (aa (fw (tgs:=["option"]) (fr:=[1]) ⟨bw (by kernel_rfl),rfl,(λ _ _ h=>h),(cf (bN bD (ar 2) ao (λ _ _=>rfl))),(aO (λ _ _ _ _ _=>(aL (i:=0) (show(["option","told"]:List Str).Nodup by decide+kernel) rfl (Or.inl rfl))) (by decide)),(λ _ _ _ _ _=>bf),(λ _ _ _ _ _=>(aD ie (hr.mono (by decide)) (by rfl) (aa (ar 1) (aa (ar 0) ae))))⟩) ae)) ae)))))
 (ak (aJ (ar 1))))),?_⟩
  walk_at "rx"
  intro p hp
  unfold cC
  walk_at "rx"
  refine dP (λ i δ M'=>∃(v1:Option D),δ=[some (cC g),some (.ref p),v1]/\M' p=some (.lst ((cA g i).map nd))/\Ext M M') ⟨none,rfl,ag,oC (λ b o e=>e) hp _⟩ (λ i d δ M' hd h=>?_) (λ δ M' h=>?_)
  ·obtain⟨v1,rfl,h3,hE⟩:=h
   rw[s9]at hd
   have hi:i < g.length:=by
    refine y7 λ z=>?_
    rw[l9 z]at hd
    cases hd
   have iC:d=eW (g.getD i eN):=by
    rw[i9 hi]at hd
    rw[g9,i9 hi]
    exact(B2 hd).symm
   subst iC
   have fP:i < n:=by rw[<- G.len];exact hi
   obtain⟨ho,qW⟩:=G.at fP
   have step:cA g (i+1)=cA g i++[IU ((g.getD i eN).2.map λ o=>(xd o (cA g i):Int))]:=rfl
   generalize g.getD i eN=hp at*
   obtain⟨nm,os⟩:=hp
   have ho:os.length<=63:=ho
   have qW:∀r∈os,r.length=n:=qW
   walk_at "rx"
   refine⟨⟨rfl,_,h3⟩,?_⟩
   walk_at "rx"
   refine dX (xs:=os) (enc:=row) (λ o=>nd (xd o (cA g i))) (by omega) (λ j o N ho hN=>?_) ?_
   ·walk_at "rx"
    exact⟨p,cA g i,o,rfl,h3,by rw[qW o (m6 ho)];omega,hN⟩
   ·intro q hq
    have oo:=aI h3 hq
    walk_at "rx"
    refine⟨q,os.map λ o=>xd o (cA g i),rfl,by rw[ag,E4];rfl,by rw[B7];omega,?_⟩
    rw[E4]
    walk_at "rx"
    refine cW (by rw[ah oo];exact h3) (by rw[B7,fg];exact q8 (show i<=1000 by omega) (by decide)) ?_
    walk_at "rx"
    refine⟨_,rfl,?_,(hE.new hq _).own hp⟩
    rw[ag,step,B9]
    rfl
  ·obtain⟨v1,rfl,h3,hE⟩:=h
   rw[B7,G.len]at h3
   walk_at "rx"
   exact aA (k p _ hp h3 hE)
theorem qi:aM ["game","counts"] ["game","counts"] (ay (top 4)):=⟨rfl,rfl,rfl,by decide+kernel,rfl,by decide+kernel,by decide+kernel⟩
theorem LN{f:Addr}{fd:FuncData}(F:gM K "number_of" "number_of" (top 4) f fd)(T:jR K mg)(fT:bC P w K mg base 2 "numbers" ["game"] sE)(ie:bC P w K mg base 1 "number_by" ["by_heap","counts"] JN):bZ P w K mg base fE 3 f fd ["game","counts"] (cF K Iy):=by
 refine jS F qi (λ ds M Q h=>?_) (λ c_ A outer s H E ds M Q hr h=>?_)
 ·obtain⟨n,g,as,rfl,_⟩:=h
  rfl
 ·obtain⟨n,g,as,rfl,G,hl,k⟩:=h
  refine⟨_,(ak (aJ (aD ie (hr.mono (by decide)) (by rfl) (aa (aD fT (hr.mono (by decide)) (by rfl) (aa (ar 0) ae)) (aa (ar 1) ae))))),?_⟩
  walk_at "rx"
  refine⟨n,g,rfl,G,λ p M1 hp hM hE=>?_⟩
  walk_at "rx"
  exact⟨p,_,as,rfl,hM,hl,aA (k _ hE)⟩
theorem eA:aM ["_law_values","_law_found"] ["_law_values"] (ay (top 21)):=⟨rfl,rfl,rfl,by decide+kernel,rfl,by decide+kernel,by decide+kernel⟩
theorem Cn{f:Addr}{fd:FuncData}(F:gM K "_law_left_out" "_law_left_out" (top 21) f fd)(T:jR K mg):bZ P w K mg base fE 1 f fd ["_law_values"] (cF K qg):=by
 refine jS F eA (λ ds M Q h=>?_) (λ c_ A outer s H E ds M Q hr h=>?_)
 ·obtain⟨p,vs,rfl,_⟩:=h
  rfl
 ·obtain⟨p,vs,rfl,hM,hl,k⟩:=h
  refine⟨_,(af (aB (i:=1) eA.nd rfl (Or.inl rfl) ao)
 (af (gR B3 (aU (tf hr.units) (ar 1) (ar 0) rfl)
 (ak (aB (i:=1) eA.nd rfl (Or.inl rfl) (bh bp (ar 1) ao))))
 (ak (aJ (ar 1))))),?_⟩
  walk_at "rx"
  refine gY ⟨λ m δ M'=>M'=M/\∃j:Nat,δ=[some (.ref p),some (.int j)]/\m=vs.length+1 - j/\∀i:Nat,i < j->(i:Int)∈vs.map nI,⟨_,rfl,0,rfl,rfl,λ i h=>absurd h (by omega)⟩,?_⟩
  rintro m δ M' ⟨rfl,j,rfl,rfl,hj⟩
  walk_at "rx"
  refine mf hM (qQ j vs) ?_
  refine me (λ fP=>?_) (λ fP=>?_)
  ·have fP:(j:Int)∈vs.map nI:=by simpa using fP
   have EA:∀i:Nat,i < j+1->(i:Int)∈vs.map nI:=λ i hi=>by
    by_cases e:i < j
    ·exact hj i e
    ·have:i=j:=by omega
     subst this
     exact fP
   have hle:=we EA
   rw[B7]at hle
   refine⟨λ δ' M2=>M2=M'/\δ'=[some (.ref p),some (.int ((j+1:Nat):Int))],?_,?_⟩
   ·rintro δ' M2 ⟨rfl,rfl⟩
    exact⟨vs.length+1 - (j+1),by omega,rfl,j+1,rfl,rfl,EA⟩
   ·walk_at "rx"
    exact⟨rfl,rfl⟩
  ·have fP:(j:Int)∉vs.map nI:=by simpa using fP
   walk_at "rx"
   rw[(qH _).uniq ⟨fP,hj⟩]at k
   exact aA k
theorem cU:aM ["_law_values","_law_counts_here","_law_found","_law_h","_law_n"] ["_law_values","_law_counts_here"] (ay (top 22)):=⟨rfl,rfl,rfl,by decide+kernel,rfl,by decide+kernel,by decide+kernel⟩
theorem GP{f:Addr}{fd:FuncData}(F:gM K "_law_number" "_law_number" (top 22) f fd)(T:jR K mg):bZ P w K mg base fE 1 f fd ["_law_values","_law_counts_here"] (cF K vG):=by
 refine jS F cU (λ ds M Q h=>?_) (λ c_ A outer s H E ds M Q hr h=>?_)
 ·obtain⟨p,vs,as,rfl,_⟩:=h
  rfl
 ·obtain⟨p,vs,as,rfl,hM,hv,hl,k⟩:=h
  refine⟨_,(af (aB (i:=2) cU.nd rfl (Or.inl rfl) ao)
 (af (cR B3 rfl (lT rfl T.enumerate (aa (ar 1) ae)) (iK (n:=2) rfl (bM (bg (i:=3) cU.nd rfl (Or.inl rfl)) (bM (bg (i:=4) cU.nd rfl (Or.inl rfl)) gf)))
 (ak (cb (aU (d_ hr.units) (bh iF (ar 4) ao) ao (aR _))
 (ak (aB (i:=2) cU.nd rfl (Or.inl rfl) (bh IP (ar 2) (bN bD (ar 0) (ar 3) (λ _ _=>rfl)))))
 bj)))
 (ak (aJ (ar 2))))),?_⟩
  unfold row
  walk_at "rx"
  refine dP (λ i δ M'=>M'=M/\∃v3 v4:Option D,δ=[some (.ref p),some (row as),some (.int (((as.zip vs).take i).foldl oT 0:Nat)),v3,v4]) ⟨rfl,none,none,rfl⟩ (λ i d δ M' hd h=>?_) (λ δ M' h=>?_)
  ·obtain⟨rfl,v3,v4,rfl⟩:=h
   obtain⟨x,e,rfl,e2⟩:=HM hv hd
   have st:=pL e
   walk_at "rx"
   refine bo (λ ho=>?_) (λ ho=>?_)
   ·have st:((as.zip vs).take (i+1)).foldl oT 0=((as.zip vs).take i).foldl oT 0^^^x.2:=by rw[st];unfold oT;rw[J9 ho]
    walk_at "rx"
    refine bP hM (d:=nd x.2) (bV (by rw[s9,e2];rfl)) ?_
    walk_at "rx"
    refine⟨rfl,some (.int (i:Int)),some (.int x.1),?_⟩
    rw[st,<- nZ]
    rfl
   ·have st:((as.zip vs).take (i+1)).foldl oT 0=((as.zip vs).take i).foldl oT 0:=by rw[st];unfold oT;rw[K0 ho]
    walk_at "rx"
    refine⟨rfl,some (.int (i:Int)),some (.int x.1),?_⟩
    rw[st]
    rfl
  ·obtain⟨rfl,v3,v4,rfl⟩:=h
   rw[fS,B7,j8 (by rw[length_zip];omega),Im]
   walk_at "rx"
   exact aA k
theorem dk:aM ["_law_game_here","_law_values","_law_name_here","_law_options_here"] ["_law_game_here"] (ay (top 23)):=⟨rfl,rfl,rfl,by decide+kernel,rfl,by decide+kernel,by decide+kernel⟩
theorem GQ{f:Addr}{fd:FuncData}(F:gM K "_law_numbers" "_law_numbers" (top 23) f fd)(T:jR K mg)(nV:bC P w K mg base 1 "_law_left_out" ["_law_values"] qg)(eG:bC P w K mg base 1 "_law_number" ["_law_values","_law_counts_here"] vG):bZ P w K mg base fE 2 f fd ["_law_game_here"] (cF K sE):=by
 refine jS F dk (λ ds M Q h=>?_) (λ c_ A outer s H E ds M Q hr h=>?_)
 ·obtain⟨n,g,rfl,_⟩:=h
  rfl
 ·obtain⟨n,g,rfl,G,k⟩:=h
  have hfew:=G.ur
  refine⟨_,(af (aB (i:=1) dk.nd rfl (Or.inr rfl) (bR ae))
 (af (cR B3 rfl (cf (ar 0)) (iK (n:=2) rfl (bM (bg (i:=2) dk.nd rfl (Or.inl rfl)) (bM (bg (i:=3) dk.nd rfl (Or.inl rfl)) gf)))
 (ak (cp (iL j4 i8 j0 bT (ar 1) (aa (aD nV (hr.mono (by decide)) (by rfl) (aa (fw (tgs:=["_law_counts_here"]) (fr:=[1]) ⟨bw (by kernel_rfl),rfl,(λ _ _ h=>h),(cf (ar 3)),(aO (λ _ _ _ _ _=>(aL (i:=0) (show(["_law_counts_here","_law_values"]:List Str).Nodup by decide+kernel) rfl (Or.inl rfl))) (by decide)),(λ _ _ _ _ _=>bf),(λ _ _ _ _ _=>(aD eG (hr.mono (by decide)) (by rfl) (aa (ar 1) (aa (gg mX (ar 0) gc (gb (aP gH (by rfl) T.len (by decide+kernel) (aa (ar 1) ae)))) ae))))⟩) ae)) ae)))))
 (ak (aJ (ar 1))))),?_⟩
  walk_at "rx"
  intro p hp
  unfold cC
  walk_at "rx"
  refine dP (λ i δ M'=>∃(v1 v2:Option D),δ=[some (cC g),some (.ref p),v1,v2]/\M' p=some (.lst ((cA g i).map nd))/\Ext M M') ⟨none,none,rfl,ag,oC (λ b o e=>e) hp _⟩ (λ i d δ M' hd h=>?_) (λ δ M' h=>?_)
  ·obtain⟨v1,v2,rfl,h3,hE⟩:=h
   rw[s9]at hd
   have hi:i < g.length:=by
    refine y7 λ z=>?_
    rw[l9 z]at hd
    cases hd
   have iC:d=eW (g.getD i eN):=by
    rw[i9 hi]at hd
    rw[g9,i9 hi]
    exact(B2 hd).symm
   subst iC
   have fP:i < n:=by rw[<- G.len];exact hi
   obtain⟨ho,qW⟩:=G.at fP
   have step:cA g (i+1)=cA g i++[IU ((g.getD i eN).2.map λ o=>(xd o (cA g i):Int))]:=rfl
   generalize g.getD i eN=hp at*
   obtain⟨nm,os⟩:=hp
   have ho:os.length<=63:=ho
   have qW:∀r∈os,r.length=n:=qW
   unfold eW
   walk_at "rx"
   refine⟨⟨rfl,_,h3⟩,?_⟩
   walk_at "rx"
   refine dX (xs:=os) (enc:=row) (λ o=>nd (xd o (cA g i))) (by omega) (λ j o N ho hN=>?_) ?_
   ·walk_at "rx"
    refine mZ (by omega) ?_
    have hz:=qW o (m6 ho)
    have e:D.tup ((o.map D.int).take (((cA g i).map nd).length:Int).toNat)=row (o.take (cA g i).length):=by
     rw[B7,u5]
     unfold row
     rw[map_take]
    rw[e]
    refine⟨p,cA g i,o.take (cA g i).length,rfl,h3,by rw[A3];omega,by rw[A3];omega,?_⟩
    rw[xj]
    exact hN
   ·intro q hq
    have oo:=aI h3 hq
    walk_at "rx"
    refine⟨q,os.map λ o=>xd o (cA g i),rfl,by rw[ag,E4];rfl,by rw[B7];omega,?_⟩
    rw[E4]
    walk_at "rx"
    refine cW (by rw[ah oo];exact h3) (by rw[B7,fg];exact q8 (show i<=1000 by omega) (by decide)) ?_
    walk_at "rx"
    refine⟨_,_,rfl,?_,(hE.new hq _).own hp⟩
    rw[ag,step,B9]
    rfl
  ·obtain⟨v1,v2,rfl,h3,hE⟩:=h
   rw[B7,G.len]at h3
   walk_at "rx"
   exact aA (k p _ hp h3 hE)
end
structure yU(g:List aG)(n:Nat)(w:Bool)(U:List Row)(kvs:List (Row×D)):Prop where
 nd:(kvs.map (·.1)).Nodup
 ku:∀p∈kvs,p.1∈U/\p.2=.bl (fM g n w p.1)
theorem yU.ur {g:List aG}{n:Nat}{w:Bool}{U:List Row}{kvs:List (Row×D)}(h:yU g n w U kvs):kvs.length<=U.length:=by
 have:=List.Nodup.length_le_of_subset h.nd (l₂:=U) λ r hr=>by
  obtain⟨p,hp,rfl⟩:=E3.mp hr
  exact(h.ku p hp).1
 simpa using this
theorem yU.nil {g:List aG}{n:Nat}{w:Bool}{U:List Row}:yU g n w U []:=⟨nodup_nil,λ p h=>by cases h⟩
theorem yU.look {g:List aG}{n:Nat}{w:Bool}{U:List Row}{kvs:List (Row×D)}(h:yU g n w U kvs){as:Row}(ha:as∈kvs.map (·.1)):fh (i_ kvs) (row as)=some (.bl (fM g n w as)):=by
 rw[tT]
 obtain⟨p,hp,rfl⟩:=E3.mp ha
 cases e:kvs.find? λ q=>q.1==p.1 with
 |none=>
  have:=find?_eq_none.mp e p hp
  simp at this
 |some q=>
  have h1:q.1=p.1:=by simpa using find?_some e
  have h2:=(h.ku q (mem_of_find?_eq_some e)).2
  rw[h1]at h2
  rw[Option.map_some,h2]
theorem yU.put {g:List aG}{n:Nat}{w:Bool}{U:List Row}{kvs:List (Row×D)}(h:yU g n w U kvs){as:Row}(ha:as∈U):∃fb,putD (i_ kvs) (row as) (.bl (fM g n w as))=i_ fb/\yU g n w U fb/\as∈fb.map (·.1):=by
 by_cases fP:as∈kvs.map (·.1)
 ·refine⟨kvs,?_,h,fP⟩
  unfold putD
  rw[mw,J9 (by simpa using fP)]
  unfold i_
  rw[E4]
  refine map_congr_left λ p hp=>?_
  show(if row p.1=row as then(row p.1,_)else(row p.1,p.2))=_
  split
  ·rename_i e
   rw[(h.ku p hp).2,xF e]
  ·rfl
 ·refine⟨kvs++[(as,.bl (fM g n w as))],xR _ fP,⟨?_,λ p hp=>?_⟩,by simp⟩
  ·rw[B9]
   exact nodup_append.mpr ⟨h.nd,by simp,λ a ha b hb z=>fP (by simp at hb;rw[<- hb,<- z];exact ha)⟩
  ·rcases B8.mp hp with q|q
   ·exact h.ku p q
   ·rw[r6.mp q];exact⟨ha,rfl⟩
theorem uO{α:Type}{p q:α->Bool}:∀{l:List α},(∀x∈l,p x=true->q x=true)->(∃x∈l,q x=true/\p x=false)->l.countP p < l.countP q
 |[],_,h=>by obtain⟨x,hx,_⟩:=h;cases hx
 |y::l,h,hx=>by
  have hle:l.countP p<=l.countP q:=countP_mono_left λ x hx h1=>h x (m5 _ hx) h1
  by_cases e:∃x∈l,q x=true/\p x=false
  ·have:=uO (λ x hx=>h x (m5 _ hx)) e
   have hy:=h y (o9 ..)
   rw[x8,x8]
   by_cases hp:p y=true
   ·rw[J9 hp,J9 (hy hp)];omega
   ·rw[K0 hp];split <;> omega
  ·obtain⟨x,hx,h1,h2⟩:=hx
   rcases D3.mp hx with rfl|hx
   ·rw[x8,x8,J9 h1,K0 (by rw[h2];decide)];omega
   ·exact absurd ⟨x,hx,h1,h2⟩ e
def rk(g:List aG)(n:Nat)(U:List Row)(as:Row):Nat:=U.countP λ u=>decide (rW g n u < rW g n as)
theorem OH{n:Nat}{g:List aG}(G:cQ n g){U:List Row}{as c:Row}(ha:kC n as)(hc:c∈dF g n as)(hU:c∈U):rk g n U c < rk g n U as:=by
 have h:=qA G ha hc
 refine uO (λ x _ hx=>?_) ⟨c,hU,?_,?_⟩
 ·have:=of_decide_eq_true hx
  exact C1 (by omega)
 ·exact C1 h
 ·exact A9 (by omega)
def iB:Str:=Str.ofString "wins"
def JP(k:Nat):fe:=λ ds M Q=>∃(n:Nat) (g:List aG) (as:Row) (z:Str) (kn:Addr) (U:List Row) (kvs:List (Row×D)),ds=[cC g,row as,.str z,.ref kn]/\cQ n g/\as∈U/\(∀b∈U,kC n b)/\(∀b∈U,∀c∈dF g n b,c∈U)/\U.length<=5000/\rk g n U as < k/\M kn=some (.dG true (i_ kvs))/\yU g n (decide (z=iB)) U kvs/\∀(fb:List (Row×D)) (M':Mem),M' kn=some (.dG true (i_ fb))->yU g n (decide (z=iB)) U fb->(∀b o,b≠kn->M b=some o->M' b=some o)->Q (.bl (fM g n (decide (z=iB)) as)) M'
theorem JO:∀ds M Q,¬JP 0 ds M Q:=λ ds M Q ⟨_,_,_,_,_,_,_,_,_,_,_,_,_,h,_⟩=>absurd h (Nat.not_lt_zero _)
section
variable {P:Program}{w:World}{K:PySem.W.Frag}{mg:Str->Option Value}{base:Heap}
theorem jg:aM ["_law_game_here","_law_counts_here","_law_last","_law_known","_law_later"] ["_law_game_here","_law_counts_here","_law_last","_law_known"] (ay (top 18)):=⟨rfl,rfl,rfl,by decide+kernel,rfl,by decide+kernel,by decide+kernel⟩
theorem LQ{f:Addr}{fd:FuncData}(F:gM K "_law_loses" "_law_loses" (top 18) f fd)(T:jR K mg)(eg:bC P w K mg base 2 "_law_moves" ["_law_game_here","_law_counts_here"] lW)(Uu:mg "_law_loses"=some (.ref f))(MX:Binds K fd ["_law_game_here","_law_counts_here","_law_last","_law_known"] []):∀k,bZ P w K mg base fE (k+3) f fd ["_law_game_here","_law_counts_here","_law_last","_law_known"] (cF K (JP k)):=by
 intro k
 induction k with
 |zero=>exact yz JO
 |succ k ih=>
 have ig:=bF.of F ih Uu MX
 rw[show k+1+3=k+3+1 by omega]
 clear ih
 refine jS F jg (λ ds M Q h=>?_) (λ c_ A outer s H E ds M Q hr h=>?_)
 ·obtain⟨n,g,as,z,kn,U,kvs,rfl,_⟩:=h
  rfl
 ·obtain⟨n,g,as,z,kn,U,kvs,rfl,G,hU,V3,V4,XJ,hk,Qv,hK,kQ⟩:=h
  have ha:=V3 as hU
  have hfew:=x_ G as
  have Zj:=hK.ur
  refine⟨_,(af (cb (aU (nk hr.units) (ar 1) (ar 3) rfl)
 (af (cG (i:=4) jg.nd rfl (Or.inl rfl) (tgs:=["_law_move"]) (fr:=[]) ⟨bw (by kernel_rfl),rfl,(λ _ _ h=>h),(cf (aD eg (hr.mono (by omega)) (by rfl) (aa (ar 0) (aa (ar 1) ae)))),(aO (λ _ _ _ _ _=>(aL (i:=0) (show(["_law_move"]:List Str).Nodup by decide+kernel) rfl (Or.inl rfl))) (by decide)),(λ _ _ _ _ _=>bf),(λ _ _ _ _ _=>(bN (AQ hr.units) (ar 0) ao (λ _ _=>rfl)))⟩)
 (ak (cb (aU (d_ hr.units) (ar 4) (bR ae) (aR _))
 (ak (eP (jb (d_ hr.units) (ar 2) ja (aR _)) (fv (ar 3) (ar 1) (vI hr.units))))
 (ak (eP (jb (nk hr.units) p_ (fw (tgs:=["_law_one"]) (fr:=[0,2,3]) ⟨bw (by kernel_rfl),rfl,(λ _ _ h=>h),(cf (ar 4)),(aO (λ _ _ _ _ _=>(aL (i:=0) (show(["_law_one","_law_game_here","_law_last","_law_known"]:List Str).Nodup by decide+kernel) rfl (Or.inl rfl))) (by decide)),(λ _ _ _ _ _=>bf),(λ _ _ _ _ _=>(aD ig (hr.mono (by omega)) (by rfl) (aa (ar 1) (aa (ar 0) (aa (ar 2) (aa (ar 3) ae))))))⟩) rfl) (fv (ar 3) (ar 1) (vI hr.units)))))))
 bj)
 (ak (aJ (bN (AQ hr.units) (ar 3) (ar 1) (λ _ _=>rfl))))),?_⟩
  with_reducible refine iP (λ δ' M'=>∃(v4:Option D) (fb:List (Row×D)),δ'=[some (cC g),some (row as),some (.str z),some (.ref kn),v4]/\M' kn=some (.dG true (i_ fb))/\yU g n (decide (z=iB)) U fb/\as∈fb.map (·.1)/\(∀b o,b≠kn->M b=some o->M' b=some o)) (λ N hN=>?_) ?_
  ·walk_at "rx"
   refine pj Qv (gw as) ?_
   rw[mw]
   by_cases fP:as∈kvs.map (·.1)
   ·rw[C1 fP]
    walk_at "rx"
    exact hN _ _ ⟨none,kvs,rfl,Qv,hK,fP,λ b o _ h=>h⟩
   ·rw[A9 fP]
    walk_at "rx"
    refine⟨n,g,as,rfl,G,ha.len,λ q M1 hq q_ hE=>?_⟩
    have Qu:=hE _ _ Qv
    walk_at "rx"
    refine jJ (ds:=kb g as n) (λ i acc M'=>M'=M1/\acc=((dF g n as).take i).map row) ⟨rfl,rfl⟩ (λ i acc M' hi h=>?_) (λ i acc M' hi h=>?_) (λ i d acc M' hd h=>?_) (λ acc M' h=>?_)
    ·obtain⟨rfl,_⟩:=h
     exact q_
    ·obtain⟨rfl,rfl⟩:=h
     rw[B7,A3]
     rw[<- eE]at hi
     exact small (by omega)
    ·obtain⟨rfl,rfl⟩:=h
     obtain⟨a1,a2,b,rfl,hb⟩:=qF g as n i d hd
     walk_at "rx"
     refine xM ?_
     walk_at "rx"
     refine⟨rfl,?_⟩
     rw[take_one (show(dF g n as)[i]?=some b from hb),B9]
     rfl
    ·obtain⟨rfl,rfl⟩:=h
     rw[<- eE]
     rw[show(dF g n as).take (tm g as n).length=dF g n as from z9]
     have hfew:(dF g n as).length<=756:=hfew
     have Sk:=yc G (decide (z=iB)) ha
     have VQ:∀c∈dF g n as,c∈U:=λ c hc=>V4 as hU c hc
     have Xb:∀c∈dF g n as,rk g n U c < rk g n U as:=λ c hc=>OH G ha hc (VQ c hc)
     generalize dF g n as=nx at*
     intro t ht
     have PY:=aI Qu ht
     have F1:∀b o,b≠kn->M b=some o->ai M' t (.lst (nx.map row)) b=some o:=λ b o _ h=>by
      have:=hE _ _ h
      rw[ah (aI this ht)]
      exact this
     have Qt:ai M' t (.lst (nx.map row)) kn=some (.dG true (i_ kvs)):=by rw[ah PY];exact Qu
     have DG:ai M' t (.lst (nx.map row)) t=some (.lst (nx.map row)):=ag
     have Y':M t=none:=hE.free ht
     generalize ai M' t (.lst (nx.map row))=M2 at*
     walk_at "rx"
     intro e he
     have F2:∀b o,b≠kn->M b=some o->ai M2 e (.lst []) b=some o:=λ b o hb h=>by
      have:=F1 b o hb h
      rw[ah (aI this he)]
      exact this
     refine xI false (rs:=nx) (qs:=[]) (by rw[ah (aI DG he)];exact DG) ag ?_
     have Qs:ai M2 e (.lst []) kn=some (.dG true (i_ kvs)):=by rw[ah (aI Qt he)];exact Qt
     have UL:ai M2 e (.lst []) t=some (.lst (nx.map row)):=by rw[ah (aI DG he)];exact DG
     generalize ai M2 e (.lst [])=M3 at*
     by_cases HC:nx=[]
     ·rw[K0 (by decide),C1 HC]
      walk_at "rx"
      rw[J9 HC]at Sk
      obtain⟨fb,p1,p2,p3⟩:=hK.put hU
      refine qq Qs (gw as) (by rw[jI];exact q8 (show kvs.length<=5000 by omega) (by decide)) ?_
      have e1:D.bl (decide (z=Str.ofString "wins"))=.bl (fM g n (decide (z=iB)) as):=by rw[Sk];rfl
      rw[e1,p1]
      walk_at "rx"
      exact hN _ _ ⟨_,fb,rfl,ag,p2,p3,λ b o hb h=>by rw[ah hb];exact F2 b o hb h⟩
     ·rw[K0 (by decide),A9 HC]
      rw[K0 HC]at Sk
      walk_at "rx"
      refine jJ (ds:=nx.map row) (λ i acc M'=>acc=((nx.take i).map λ c=>D.bl (fM g n (decide (z=iB)) c))/\M' t=some (.lst (nx.map row))/\(∃fb,M' kn=some (.dG true (i_ fb))/\yU g n (decide (z=iB)) U fb)/\∀b o,b≠kn->M b=some o->M' b=some o) ⟨rfl,UL,⟨kvs,Qs,hK⟩,F2⟩ (λ i acc M' hi h=>h.2.1) (λ i acc M' hi h=>?_) (λ i d acc M' hd h=>?_) (λ acc M' h=>?_)
      ·obtain⟨rfl,_⟩:=h
       rw[B7,A3]
       exact small (by omega)
      ·obtain⟨rfl,h1,⟨fb,h2,h3⟩,h4⟩:=h
       rw[s9]at hd
       cases ec:nx[i]? with
       |none=>rw[ec]at hd;cases hd
       |some c=>
        rw[ec]at hd
        cases hd
        have VZ:=m6 ec
        walk_at "rx"
        refine⟨n,g,c,z,kn,U,fb,rfl,G,VQ c VZ,V3,V4,XJ,by have:=Xb c VZ;omega,h2,h3,λ Mm M5 g1 g2 g3=>⟨?_,g3 _ _ PY.symm h1,⟨Mm,g1,g2⟩,λ b o hb h=>g3 b o hb (h4 b o hb h)⟩⟩
        rw[take_one ec,B9]
        rfl
      ·obtain⟨rfl,h1,⟨fb,h2,h3⟩,h4⟩:=h
       rw[B7,z9]
       intro r hr
       have UP:ai M' r (.lst (nx.map λ c=>D.bl (fM g n (decide (z=iB)) c))) kn=some (.dG true (i_ fb)):=by rw[ah (aI h2 hr)];exact h2
       have F5:∀b o,b≠kn->M b=some o->ai M' r (.lst (nx.map λ c=>D.bl (fM g n (decide (z=iB)) c))) b=some o:=λ b o hb h=>by
        have:=h4 b o hb h
        rw[ah (aI this hr)]
        exact this
       refine .inl (vO (bs:=nx.map (fM g n (decide (z=iB)))) (by rw[ag,E4];rfl) ?_)
       ·rw[List.any_map,show(id∘fM g n (decide (z=iB)))=fM g n (decide (z=iB))from rfl,<- Sk]
        generalize ai M' r (.lst (nx.map λ c=>D.bl (fM g n (decide (z=iB)) c)))=M6 at*
        walk_at "rx"
        obtain⟨Mm,p1,p2,p3⟩:=h3.put hU
        have:=h3.ur
        refine qq UP (gw as) (by rw[jI];exact q8 (show fb.length<=5000 by omega) (by decide)) ?_
        rw[p1]
        walk_at "rx"
        exact hN _ _ ⟨_,Mm,rfl,ag,p2,p3,λ b o hb h=>by rw[ah hb];exact F5 b o hb h⟩
  ·rintro δ' M' ⟨v4,fb,rfl,h1,h2,h3,h4⟩
   walk_at "rx"
   refine Kr h1 (gw as) (h2.look h3) ?_
   walk_at "rx"
   exact aA (kQ fb M' h1 h2 h4)
end
section
variable {P:Program}{w:World}{K:PySem.W.Frag}{mg:Str->Option Value}{base:Heap}
theorem cg:aM ["_law_flow_here","_law_many","_law_found","_law_h","_law_form","_law_much"] ["_law_flow_here","_law_many"] (ay (top 20)):=⟨rfl,rfl,rfl,by decide+kernel,rfl,by decide+kernel,by decide+kernel⟩
theorem Cp{f:Addr}{fd:FuncData}(F:gM K "_law_great_sum" "_law_great_sum" (top 20) f fd)(T:jR K mg)(aw:bC P w K mg base 1 "_law_pick" ["_law_flow_here","_law_many"] eR):bZ P w K mg base fE 2 f fd ["_law_flow_here","_law_many"] (cF K xB):=by
 refine jS F cg (λ ds M Q h=>?_) (λ c_ A outer s H E ds M Q hr h=>?_)
 ·obtain⟨a,cc,b,rfl,_⟩:=h
  rfl
 ·obtain⟨a,cc,n,rfl,hF,hz,k⟩:=h
  refine⟨_,(af (aB (i:=2) cg.nd rfl (Or.inl rfl) (bR ae))
 (af (cR B3 rfl (aZ rfl T.range (aa (ar 1) ae)) (bg (i:=3) cg.nd rfl (Or.inl rfl))
 (af (aB (i:=4) cg.nd rfl (Or.inl rfl) (aD aw (hr.mono (by decide)) (by rfl) (aa (ar 0) (aa ao ae))))
 (af (aB (i:=5) cg.nd rfl (Or.inl rfl) (bh xV (bh xW ao ao) (aD aw (hr.mono (by decide)) (by rfl) (aa (ar 0) (aa (bh xW ao ao) ae)))))
 (ak (cp (iL j4 i8 j0 bT (ar 2) (aa (bN bD (bR (aa ao (aa ao (aa (aD aw (hr.mono (by decide)) (by rfl) (aa (ar 0) (aa ao ae))) (aa (aD aw (hr.mono (by decide)) (by rfl) (aa (ar 0) (aa (bh xW ao ao) ae))) (aa (ar 5) ae)))))) (ar 4) (λ _ _=>rfl)) ae)))))))
 (ak (aJ (iu eI (by rfl) T.tuple (by decide+kernel) (aa (ar 2) ae)))))),?_⟩
  walk_at "rx"
  intro p hp
  have oq:=(hF.ne hp).1
  walk_at "rx"
  refine⟨cj (by omega) (by omega),?_⟩
  rw[u5]
  have t6:(10:Int)^(6:Int).toNat=1000000:=by decide
  have Wy:(10:Int)^(30:Int).toNat=1000000000000000000000000000000:=by decide
  have Ta:(10:Int)^30=1000000000000000000000000000000:=by decide
  refine dP (λ i δ M'=>∃(v1 v2 v3:Option D) (ms:List Int),δ=[some (.ref a),some (.int n),some (.ref p),v1,v2,v3]/\(ms.length=i/\∀x∈ms,0<=x/\x<=10^30)/\M' p=some (.lst (ms.map D.int))/\Fl a cc M M') ⟨none,none,none,[],rfl,⟨rfl,λ x h=>by cases h⟩,ag,Fl.put hF hp⟩ (λ i d δ M' hd h=>?_) (λ δ M' h=>?_)
  ·obtain⟨v1,v2,v3,ms,rfl,⟨h2,Si⟩,h3,F1⟩:=h
   obtain⟨hi,rfl⟩:=bQ hd
   walk_at "rx"
   refine⟨a,cc,5,rfl,F1.aH,by decide,by decide,λ d1 o1 a0 a1 vm=>?_⟩
   have F2:=F1.trans (Fl.pick vm)
   have h3:=(Fl.pick vm).mv _ _ oq h3
   generalize ai M' a o1=M1 at*
   walk_at "rx"
   refine FF ⟨by decide,by decide,by decide⟩ ?_
   walk_at "rx"
   refine FF ⟨by decide,by decide,by decide⟩ ?_
   walk_at "rx"
   refine⟨a,cc,_,rfl,F2.aH,by decide,by decide,λ d4 o4 e0 e1 Ss=>?_⟩
   have F3:=F2.trans (Fl.pick Ss)
   have h3:=(Fl.pick Ss).mv _ _ oq h3
   generalize ai M1 a o4=M2 at*
   rw[t6]at e1
   rw[Wy]
   walk_at "rx"
   refine⟨⟨rfl,_,h3⟩,?_⟩
   walk_at "rx"
   refine⟨a,cc,6,rfl,F3.aH,by decide,by decide,λ d2 o2 b0 b1 AB=>?_⟩
   have F4:=F3.trans (Fl.pick AB)
   have h3:=(Fl.pick AB).mv _ _ oq h3
   generalize ai M2 a o2=M3 at*
   walk_at "rx"
   refine FF ⟨by decide,by decide,by decide⟩ ?_
   walk_at "rx"
   refine⟨a,cc,_,rfl,F4.aH,by decide,by decide,λ d3 o3 c0 c1 yt=>?_⟩
   have F5:=F4.trans (Fl.pick yt)
   have h3:=(Fl.pick yt).mv _ _ oq h3
   generalize ai M3 a o3=M4 at*
   rw[t6]at c1
   walk_at "rx"
   intro q hq
   have Xd:=aI h3 hq
   walk_at "rx"
   obtain⟨x,MD,hx⟩:=Em (ns:=[0,1,d2,d3,1000000000000000000000000000000 - d4]) a0 (by show d1 < 5;exact a1)
   refine bP ag hx ?_
   walk_at "rx"
   refine cW (by rw[ah Xd];exact h3) (by rw[B7];exact q8 (show ms.length<=1000 by omega) (by decide)) ?_
   walk_at "rx"
   refine⟨_,_,_,ms++[x],rfl,⟨by simp[h2],λ y hy=>?_⟩,by rw[ag,B9];rfl,(F5.trans (Fl.put F5.aH hq)).own hF hp⟩
   rcases B8.mp hy with q|q
   ·exact Si y q
   ·have e:y=x:=by simpa using q
    subst e
    rw[Ta]
    simp only[D3,not_mem_nil,or_false]at MD
    rcases MD with rfl|rfl|rfl|rfl|rfl <;> omega
  ·obtain⟨v1,v2,v3,ms,rfl,⟨h2,Si⟩,h3,F1⟩:=h
   rw[aV]at h2
   walk_at "rx"
   refine jX h3 ?_
   exact aA (k ms _ h2 Si F1)
end
theorem vn.len {n:Nat}{g:List aG}(G:cQ n g){as r:Row}(ha:as.length=n)(h:vn (dF g n) as r):r.length=n:=h.closed ha λ b c hb hc=>xY G hb n (E9 _) c hc
def Bc:fe:=λ ds M Q=>∃(n:Nat) (g:List aG) (as:Row) (m:Nat),ds=[cC g,row as,.int m]/\cQ n g/\as.length=n/\m<=400/\1<=m/\(∀M',Ext M M'->(∃h,h < n/\0 < as.getD h 0)->Q .bx M')/\∀(p:Addr) (l:List Row) (M':Mem),M p=none->M' p=some (.lst (l.map row))->Ext M M'->NJ n (vn (dF g n) as) l->l.length<=m->Q (.ref p) M'
def Rm(n:Nat)(g:List aG)(as:Row)(m u w:Nat)(M:Mem)(mm:Nat)(δ:de)(M':Mem):Prop:=∃(v5 v6 v7:Option D) (rs ls:List Row),δ=[some (cC g),some (row as),some (.int m),some (.ref u),some (.ref w),v5,v6,v7]/\M' u=some (.dG true (i_ (yes rs)))/\M' w=some (.lst (ls.map row))/\Ext M M'/\Al (dF g n) as rs ls/\rs.length<=1156/\mm=2*(1157 - rs.length)+ls.length
section
variable {P:Program}{w:World}{K:PySem.W.Frag}{mg:Str->Option Value}{base:Heap}
theorem dM:aM ["_law_game_here","_law_counts_here","_law_most","_law_met","_law_line","_law_h","_law_k","_law_later"] ["_law_game_here","_law_counts_here","_law_most"] (ay (top 25)):=⟨rfl,rfl,rfl,by decide+kernel,rfl,by decide+kernel,by decide+kernel⟩
theorem LV{f:Addr}{fd:FuncData}(F:gM K "_law_all" "_law_all" (top 25) f fd)(T:jR K mg)(eg:bC P w K mg base 2 "_law_moves" ["_law_game_here","_law_counts_here"] lW)(kB:bC P w K mg base 1 "_law_key" ["_law_counts_here"] sG):bZ P w K mg base fE 5 f fd ["_law_game_here","_law_counts_here","_law_most"] (cF K Bc):=by
 refine jS F dM (λ ds M Q h=>?_) (λ c_ A outer s H E ds M Q hr h=>?_)
 ·obtain⟨n,g,as,m,rfl,_⟩:=h
  rfl
 ·obtain⟨n,g,as,m,rfl,G,ha,hm,bW,kN,kL⟩:=h
  have hfew:=G.ur
  refine⟨_,(af (aB (i:=3) dM.nd rfl (Or.inl rfl) (EL hr.units (ar 1) p_))
 (af (aB (i:=4) dM.nd rfl (Or.inl rfl) (bR (aa (ar 1) ae)))
 (af (gR B3 (pY (aU (xX hr.units) (ar 4) (bR ae) (aR _)) (lR (aU TF (aP rL (by rfl) T.len (by decide+kernel) (aa (ar 3) ae)) (ar 2) (aR _)))).pt
 (ak (cR B3 rfl (cf (aD eg (hr.mono (by decide)) (by rfl) (aa (ar 0) (aa (Io j4 PySem.F.slot_list_pop PySem.F.type_list_pop PH (ar 4)) ae)))) (iK (n:=3) rfl (bM (bg (i:=5) dM.nd rfl (Or.inl rfl)) (bM (bg (i:=6) dM.nd rfl (Or.inl rfl)) (bM (bg (i:=7) dM.nd rfl (Or.inl rfl)) gf))))
 (ak (cb (aU (nk hr.units) (ar 7) (ar 3) rfl)
 (af (eP p_ (fv (ar 3) (ar 7) (vI hr.units)))
 (ak (cp (iL j4 i8 j0 bT (ar 4) (aa (ar 7) ae)))))
 bj)))))
 (af (cb (aU tj (aP rL (by rfl) T.len (by decide+kernel) (aa (ar 3) ae)) (ar 2) (aR _))
 (ak (aJ sj))
 bj)
 (ak (aJ (zf kB (hr.mono (by decide)) (by rfl) T.sorted (by rfl) (iu (H_ hr.hd) (by rfl) T.list (by decide+kernel) (aa (ar 3) ae))))))))),?_⟩
  walk_at "rd"
  intro u hu
  walk_at "rd"
  refine⟨ag,gw as,?_⟩
  rw[cK]
  have e1:Ext M (ai M u (.dG true [(row as,.bl true)])):=oC (λ b o e=>e) hu _
  have h1:ai M u (.dG true [(row as,.bl true)]) u=some (.dG true (i_ (yes [as]))):=ag
  generalize ai M u (.dG true [(row as,.bl true)])=M1 at*
  walk_at "rd"
  refine⟨by show 1<=sizeLine;decide,λ w hw=>?_⟩
  have Sd:=aI h1 hw
  have VC:=e1.free hw
  walk_at "rd1"
  with_reducible refine iP (λ δ' M'=>∃(v5 v6 v7:Option D) (rs ls:List Row),δ'=[some (cC g),some (row as),some (.int m),some (.ref u),some (.ref w),v5,v6,v7]/\M' u=some (.dG true (i_ (yes rs)))/\Ext M M'/\Al (dF g n) as rs ls/\(ls=[]\/m < rs.length)) (λ N hN=>?_) ?_
  ·refine gY ⟨Rm n g as m u w M,⟨_,none,none,none,[as],[as],rfl,by rw[ah Sd];exact h1,ag,e1.new hw _,Al.start _ _,by show 1<=1156;decide,rfl⟩,?_⟩
   rintro mm δ M' ⟨v5,v6,v7,rs,ls,rfl,h1,h2,h3,h4,h5,rfl⟩
   walk_at "rd"
   refine⟨by decide,λ t ht=>?_⟩
   have W9:=aI h1 ht
   have W4:=aI h2 ht
   have h3:=h3.new ht (.lst [])
   have h1:ai M' t (.lst []) u=some (.dG true (i_ (yes rs))):=by rw[ah W9];exact h1
   have h2:ai M' t (.lst []) w=some (.lst (ls.map row)):=by rw[ah W4];exact h2
   refine Bv h2 ag (λ e=>?_) (λ CL x e=>?_)
   ·subst e
    walk_at "rd"
    exact hN _ _ ⟨_,_,_,rs,[],rfl,h1,h3,h4,.inl rfl⟩
   ·subst e
    generalize ai M' t (.lst [])=M1 at*
    walk_at "rd"
    refine xK h1 ?_
    rw[jI,yes,B7]
    walk_at "rd"
    refine bo (λ hle=>?_) (λ hle=>?_)
    ·have W2:=vn.len G ha (h4.ru x (h4.lu x (by simp)))
     have ur:=x_ G x
     refine⟨λ δ' M2=>∃m',m' < 2*(1157 - rs.length)+(CL++[x]).length/\Rm n g as m u w M m' δ' M2,λ _ _ h=>h,?_⟩
     walk_at "rd"
     refine⟨⟨rfl,_,h2⟩,?_⟩
     walk_at "rd"
     refine Ki (ds:=CL.map row) (y:=row x) (by rw[h2,B9];rfl) ?_
     have h3:=h3.own VC (x:=.lst (CL.map row))
     have h1:ai M1 w (.lst (CL.map row)) u=some (.dG true (i_ (yes rs))):=by rw[ah Sd];exact h1
     have h2:ai M1 w (.lst (CL.map row)) w=some (.lst (CL.map row)):=ag
     generalize ai M1 w (.lst (CL.map row))=M2 at*
     walk_at "rd"
     refine⟨n,g,x,rfl,G,W2,λ q M3 hq q_ hE=>?_⟩
     have W_:=aI h1 hq
     have W6:=aI h2 hq
     have Zd:=h3.free hq
     walk_at "rd"
     refine Jh (ds:=kb g x n) (λ i δ M'=>∃(v5 v6 v7:Option D) (nw:List Row),δ=[some (cC g),some (row as),some (.int m),some (.ref u),some (.ref w),v5,v6,v7]/\M' u=some (.dG true (i_ (yes (rs++nw))))/\M' w=some (.lst ((CL++nw).map row))/\M' q=some (.lst (kb g x n))/\Ext M M'/\nw.length<=i/\(rs++nw).Nodup/\(∀c∈(tm g x n).take i,c∈rs++nw)/\(∀c∈nw,c∈tm g x n)) ⟨_,_,_,[],rfl,by rw[A6];exact hE _ _ h1,by rw[A6];exact hE _ _ h2,q_,h3.trans hE,E9 _,by rw[A6];exact h4.nd,λ c hc=>by simp at hc,λ c hc=>by cases hc⟩ (λ i δ M' hi h=>?_) (λ i d δ M' hd h=>?_) (λ δ M' h=>?_)
     ·obtain⟨_,_,_,nw,rfl,_,_,h,_⟩:=h
      exact h
     ·obtain⟨v5,v6,v7,nw,rfl,g1,g2,g3,g4,g5,g6,g7,g8⟩:=h
      have hi:=(i6.mp hd).1
      obtain⟨a1,a2,b,rfl,hb⟩:=qF g x n i d hd
      rw[<- eE]at hi
      have tk:=take_snoc hb
      have VT:=h4.ll
      rw[p6,l6]at VT
      walk_at "rd"
      refine pj g1 (gw b) ?_
      rw[mw,mI]
      by_cases fP:b∈rs++nw
      ·rw[C1 fP]
       walk_at "rd"
       refine⟨_,_,_,nw,rfl,g1,g2,g3,g4,by omega,g6,λ c hc=>?_,g8⟩
       rw[tk]at hc
       rcases B8.mp hc with z|z
       ·exact g7 c z
       ·rw[r6.mp z];exact fP
      ·rw[A9 fP]
       walk_at "rd"
       refine qq g1 (gw b) (by rw[jI,yes,B7,p6];exact q8 (show _<=5000 by omega) (by decide)) ?_
       rw[xR (.bl true) (by rw[mI];exact fP),AF]
       have g2:ai M' u (.dG true (i_ (yes (rs++nw++[b])))) w=some (.lst ((CL++nw).map row)):=by rw[ah (J8 Sd)];exact g2
       walk_at "rd"
       refine⟨⟨rfl,_,g2⟩,?_⟩
       walk_at "rd"
       refine cW g2 (by rw[B7,p6];exact q8 (show _<=5000 by omega) (by decide)) ?_
       walk_at "rd"
       refine⟨_,_,_,nw++[b],rfl,by rw[ah Sd,ag,u9],by rw[ag,<- u9,B9 (l₁:=CL++nw)];rfl,by rw[ah (J8 W6),ah (J8 W_)];exact g3,(g4.own hu).own VC,by rw[p6,l6];omega,?_,λ c hc=>?_,λ c hc=>?_⟩
       ·rw[<- u9]
        exact nodup_append.mpr ⟨g6,by simp,λ a ha b' pK z=>fP (by rw[<- r6.mp pK,<- z];exact ha)⟩
       ·rw[<- u9]
        rw[tk]at hc
        rcases B8.mp hc with z|z
        ·exact m7 _ (g7 c z)
        ·exact k9 _ z
       ·rcases B8.mp hc with z|z
        ·exact g8 c z
        ·rw[r6.mp z];exact m6 hb
     ·obtain⟨v5,v6,v7,nw,rfl,g1,g2,g3,g4,g5,g6,g7,g8⟩:=h
      rw[<- eE]at g5 g7
      rw[z9]at g7
      walk_at "rd"
      refine⟨_,?_,_,_,_,rs++nw,CL++nw,rfl,g1,g2,g4,h4.next g6 g7 g8,by rw[p6];omega,rfl⟩
      simp only[p6,l6]
      omega
    ·exact hN _ _ ⟨_,_,_,rs,_,rfl,h1,h3,h4,.inr (by omega)⟩
  ·rintro δ' M' ⟨v5,v6,v7,rs,ls,rfl,h1,h3,h4,MR⟩
   walk_at "rd"
   refine xK h1 ?_
   rw[jI,yes,B7]
   walk_at "rd"
   refine bo (λ DE=>?_) (λ DE=>?_)
   ·walk_at "rd"
    refine aA (kN M' h3 ?_)
    rcases h4.on with e|e
    ·rw[e]at DE
     simp at DE
     omega
    ·exact xZ n e
   ·have Xs:ls=[]:=MR.elim id λ z=>by omega
    subst Xs
    walk_at "rd"
    refine BB h1 λ q hq=>?_
    have h3:=h3.new hq (.lst ((i_ (yes rs)).map (·.1)))
    have hl:∀r∈rs,r.length=n:=λ r hr=>vn.len G ha (h4.ru r hr)
    walk_at "rd"
    refine Bs (rs:=rs) (by rw[ag,DU,mI]) (by omega) (λ r hr=>by rw[hl r hr];omega) λ p out hp o1 o2=>?_
    walk_at "rd"
    exact aA (kL p out _ (h3.free hp) ag (h3.new hp _) (NJ.of h4.done h4.nd hl o1 o2) (by rw[o1.length_eq];omega))
end
def dE(os:List (List Int)):D:=.tup (os.map row)
def A_:fe:=λ ds M Q=>∃(q:Addr) (aQ:List (List (List Int))),ds=[.ref q]/\M q=some (.lst (aQ.map dE))/\oh aQ/\∀(p:Addr) (M':Mem),M p=none->M' p=some (.lst ((lG aQ aQ.length).map D.int))->Ext M M'->Q (.ref p) M'
theorem DR(o ps:List Int):((o.take ps.length).zipIdx).map (λ p=>D.int (p.1*ps.getD p.2 0))=(List.zipWith (·*·) o ps).map D.int:=by
 refine ext_getElem? λ i=>?_
 rw[s9,s9,getElem?_zipIdx,getElem?_zipWith,getElem?_take]
 by_cases hi:i < ps.length
 ·rw[J9 hi,i9 hi]
  cases o[i]? with
  |none=>rfl
  |some x=>simp[g9,hi]
 ·rw[K0 hi,l9 (show ps.length<=i by omega)]
  cases o[i]? <;> rfl
section
variable {P:Program}{w:World}{K:PySem.W.Frag}{mg:Str->Option Value}{base:Heap}
theorem dm:aM ["_law_options_here","_law_found","_law_sums","_law_lasting"] ["_law_options_here"] (ay (top 14)):=⟨rfl,rfl,rfl,by decide+kernel,rfl,by decide+kernel,by decide+kernel⟩
theorem GR{f:Addr}{fd:FuncData}(F:gM K "_law_lengths" "_law_lengths" (top 14) f fd)(T:jR K mg):bZ P w K mg base fE 1 f fd ["_law_options_here"] (cF K A_):=by
 refine jS F dm (λ ds M Q h=>?_) (λ c_ A outer s H E ds M Q hr h=>?_)
 ·obtain⟨q,aQ,rfl,_⟩:=h
  rfl
 ·obtain⟨q,aQ,rfl,hq,G,k⟩:=h
  have hfew:=G.ur
  refine⟨_,(af (aB (i:=1) dm.nd rfl (Or.inr rfl) (bR ae))
 (af (cR B3 rfl (cf (ar 0)) (bg (i:=2) dm.nd rfl (Or.inl rfl))
 (af (cG (i:=3) dm.nd rfl (Or.inl rfl) (tgs:=["_law_counts_here"]) (fr:=[1]) ⟨bw (by kernel_rfl),rfl,(λ _ _ h=>h),(cf (ar 2)),(aO (λ _ _ _ _ _=>(aL (i:=0) (show(["_law_counts_here","_law_found"]:List Str).Nodup by decide+kernel) rfl (Or.inl rfl))) (by decide)),(λ _ _ _ _ _=>bf),(λ _ _ _ _ _=>(vw (Eg rfl) xu (by rfl) T.sum (by decide+kernel) (tgs:=["_law_h","_law_n"]) (fr:=[1]) ⟨bw (by kernel_rfl),rfl,(λ _ _ h=>h),(lT rfl T.enumerate (aa (gg mX (ar 0) gc (gb (aP gH (by rfl) T.len (by decide+kernel) (aa (ar 1) ae)))) ae)),(mL (λ _ _ _ _ _=>(qw rfl (eU (aL (i:=0) (show(["_law_h","_law_n","_law_found"]:List Str).Nodup by decide+kernel) rfl (Or.inl rfl)) (eU (aL (i:=1) (show(["_law_h","_law_n","_law_found"]:List Str).Nodup by decide+kernel) rfl (Or.inl rfl)) mj)))) (by decide) (by decide)),(λ _ _ _ _ _=>bf),(λ _ _ _ _ _=>(bh gu (ar 1) (bN bD (ar 2) (ar 0) (λ _ _=>rfl))))⟩))⟩)
 (ak (cp (iL j4 i8 j0 bT (ar 1) (aa (Jz rfl (by rfl) T.max (tgs:=["_law_play"]) (fr:=[]) ⟨bw (by kernel_rfl),rfl,(λ _ _ h=>h),(cf (ar 3)),(aO (λ _ _ _ _ _=>(aL (i:=0) (show(["_law_play"]:List Str).Nodup by decide+kernel) rfl (Or.inl rfl))) (by decide)),(λ _ _ _ _ _=>bf),(λ _ _ _ _ _=>(bh bp (ar 0) ao))⟩) ae))))))
 (ak (aJ (ar 1))))),?_⟩
  walk_at "rd"
  refine⟨by decide,λ p hp=>?_⟩
  have oo:q≠p:=λ z=>by subst z;rw[hq]at hp;cases hp
  have e0:Ext M (ai M p (.lst [])):=oC (λ b o e=>e) hp _
  have Ze:=e0 _ _ hq
  walk_at "rd"
  refine Jh (ds:=aQ.map dE) (λ i δ M'=>∃(v1 v2:Option D),δ=[some (.ref q),some (.ref p),v1,v2]/\M' p=some (.lst ((lG aQ i).map D.int))/\Ext M M') ⟨none,none,rfl,ag,e0⟩ (λ i δ M' hi h=>?_) (λ i d δ M' hd h=>?_) (λ δ M' h=>?_)
  ·obtain⟨v1,v2,rfl,h3,hM⟩:=h
   exact hM _ _ hq
  ·obtain⟨v1,v2,rfl,h3,hM⟩:=h
   rw[s9]at hd
   have hi:i < aQ.length:=by
    refine y7 λ z=>?_
    rw[l9 z]at hd
    cases hd
   have iC:d=dE (aQ.getD i []):=by
    rw[i9 hi]at hd
    rw[g9,i9 hi]
    exact(B2 hd).symm
   subst iC
   obtain⟨ho,qW⟩:=G.opts i hi
   have HA:=sX G (i:=i) (by omega)
   have hpl:=mi aQ i
   have step:lG aQ (i+1)=lG aQ i++[fL 0 ((aQ.getD i []).map λ o=>1+dot o (lG aQ i))]:=rfl
   generalize aQ.getD i []=os at*
   generalize lG aQ i=ps at*
   unfold dE
   walk_at "rd"
   refine dX (xs:=os) (enc:=row) (λ o=>D.int (dot o ps)) (by omega) (λ j o N ho hN=>?_) ?_
   ·have IZ:=(qW o (m6 ho)).2.2
    walk_at "rd"
    refine mZ (by omega) ?_
    rw[u5,B7,<- map_take]
    walk_at "rd"
    refine HY (xs:=o.take ps.length) (enc:=D.int) (λ p=>D.int (p.1*ps.getD p.2 0)) (by rw[A3];omega) (λ l x N2 hx XO=>?_) ?_
    ·have hl:=(i6.mp hx).1
     rw[A3]at hl
     walk_at "rd"
     refine bP h3 (eu (i:=l) (by omega)) ?_
     have hb:=HA (ps.getD l 0) (by rw[g9,i9 (by omega)];exact A4 _)
     exact gZ (Ed (by omega) (by omega)) XO
    ·rw[DR]
     exact xG hN
   ·intro r hr
    have XU:=oC hM hr (.lst (os.map λ o=>D.int (dot o ps)))
    have Xg:p≠r:=λ z=>by subst z;rw[h3]at hr;cases hr
    have U6:ai M' r (.lst (os.map λ o=>D.int (dot o ps))) p=some (.lst (ps.map D.int)):=by rw[ah Xg];exact h3
    walk_at "rd"
    refine⟨⟨rfl,_,U6⟩,?_⟩
    walk_at "rd"
    refine pT (xs:=os) (λ o=>D.int (dot o ps)) (λ o=>D.int (1+dot o ps)) (by omega) ag (λ j o N _ hN=>?_) ?_
    ·walk_at "rd"
     rw[Int.add_comm]
     exact hN
    ·refine⟨os.map λ o=>1+dot o ps,by rw[E4];rfl,?_⟩
     walk_at "rd"
     refine cW U6 (by rw[B7,hpl];exact q8 (show i<=1000 by omega) (by decide)) ?_
     walk_at "rd"
     refine⟨_,_,rfl,?_,Ext.own XU hp⟩
     rw[ag,step,B9]
     rfl
  ·obtain⟨v1,v2,rfl,h3,hM⟩:=h
   rw[B7]at h3
   walk_at "rd"
   exact aA (k p M' hp h3 hM)
end
def AZ:fe:=λ ds M Q=>∃(a c o:Addr) (aQ:List (List Row)) (n:Nat) (dp:Int),ds=[.ref a,.ref o,.int n,.int dp]/\Flow M a c/\o≠a/\M o=some (.lst (aQ.map dE))/\aQ.length<=n/\n<=12/\(∀i os,aQ[i]?=some os->os.length<=20/\∀r∈os,fZ n i r)/\∀(os:List Row) (M':Mem),os.length<=20->(∀r∈os,fZ n aQ.length r)->Fl a c M M'->Q (dE os) M'
theorem GC{aQ:List (List Row)}{n:Nat}(hl:aQ.length<=n)(hn:n<=12)(h:∀i os,aQ[i]?=some os->os.length<=20/\∀r∈os,fZ n i r):oh aQ:=by
 refine⟨by omega,λ i hi=>?_⟩
 obtain⟨h1,h2⟩:=h i _ (i9 hi)
 have e:aQ.getD i []=aQ[i]:=by rw[g9,i9 hi];rfl
 rw[e]
 exact⟨by omega,λ o ho=>⟨(h2 o ho).pos,(h2 o ho).sum,by rw[(h2 o ho).len];omega⟩⟩
theorem Ext.fl {M M':Mem}{f c:Addr}(h:Ext M M')(F:Flow M f c):Fl f c M M':=by
 obtain⟨ns,p,b,sd,ct,h1,h2,h3⟩:=F.ex
 exact⟨⟨ns,p,b,sd,ct,h _ _ h1,h _ _ h2,h3⟩,λ b o _ e=>h b o e⟩
section
variable {P:Program}{w:World}{K:PySem.W.Frag}{mg:Str->Option Value}{base:Heap}
theorem bq:aM ["_law_flow_here","_law_ahead","_law_many","_law_deep","_law_at","_law_form","_law_rows","_law_lasting","_law_sums","_law_k"] ["_law_flow_here","_law_ahead","_law_many","_law_deep"] (ay (top 15)):=⟨rfl,rfl,rfl,by decide+kernel,rfl,by decide+kernel,by decide+kernel⟩
theorem GN{f:Addr}{fd:FuncData}(F:gM K "_law_options" "_law_options" (top 15) f fd)(T:jR K mg)(aw:bC P w K mg base 1 "_law_pick" ["_law_flow_here","_law_many"] eR)(oJ:bC P w K mg base 1 "_law_lengths" ["_law_options_here"] A_)(cz:bC P w K mg base 1 "_law_counts" ["_law_heaps","_law_many"] gU)(cH:bC P w K mg base 4 "_law_in_order" ["_law_sums"] lX):bZ P w K mg base fE 5 f fd ["_law_flow_here","_law_ahead","_law_many","_law_deep"] (cF K AZ):=by
 refine jS F bq (λ ds M Q h=>?_) (λ c_ A outer s H E ds M Q hr h=>?_)
 ·obtain⟨a,cc,o,aQ,n,dp,rfl,_⟩:=h
  rfl
 ·obtain⟨a,cc,o,aQ,n,dp,rfl,hF,Dz,Oe,hl,hn,vi,k⟩:=h
  refine⟨_,(af (aB (i:=4) bq.nd rfl (Or.inr rfl) (aP gH (by rfl) T.len (by decide+kernel) (aa (ar 1) ae)))
 (af (aB (i:=5) bq.nd rfl (Or.inl rfl) (aD aw (hr.mono (by decide)) (by rfl) (aa (ar 0) (aa ao ae))))
 (af (aB (i:=6) bq.nd rfl (Or.inl rfl) (bR ae))
 (af (cb (aU (d_ hr.units) (ar 5) ao (aR _))
 (ak (aJ (fG ae)))
 bj)
 (af (cb (pY (aU (d_ hr.units) (ar 5) ao (aR _)) (lR (aU tj (ar 4) ao (aR _)))).pt
 (ak (aJ (bN bD (ar 1) (aD aw (hr.mono (by decide)) (by rfl) (aa (ar 0) (aa (ar 4) ae))) (λ _ _=>rfl))))
 bj)
 (af (cb (aU LY (ar 5) ao (aR _))
 (af (aB (i:=6) bq.nd rfl (Or.inl rfl) (bh bp (bR (aa (bR ae) ae)) (fw (tgs:=["_law_h"]) (fr:=[]) ⟨bw (by kernel_rfl),rfl,(λ _ _ h=>h),(aZ rfl T.range (aa (ar 4) ae)),(aO (λ _ _ _ _ _=>(aL (i:=0) (show(["_law_h"]:List Str).Nodup by decide+kernel) rfl (Or.inl rfl))) (by decide)),(λ _ _ _ _ _=>bf),(λ _ _ _ _ _=>(bR (aa (ar 0) ae)))⟩)))
 (ak (aB (i:=6) bq.nd rfl (Or.inl rfl) (gg mX (ar 6) gc (gb (bh bp ao (aD aw (hr.mono (by decide)) (by rfl) (aa (ar 0) (aa (bh bp (ar 4) ao) ae)))))))))
 (ak (cR B3 rfl (aZ rfl T.range (aa (bh bp ao (aD aw (hr.mono (by decide)) (by rfl) (aa (ar 0) (aa ao ae)))) ae)) (bg (i:=9) bq.nd rfl (Or.inl rfl))
 (ak (cp (iL j4 i8 j0 bT (ar 6) (aa (fw (tgs:=["_law_j"]) (fr:=[0,4]) ⟨bw (by kernel_rfl),rfl,(λ _ _ h=>h),(aZ rfl T.range (aa (bh gu (aP (Eh rfl) (by rfl) T.min (by decide+kernel) (aa (ar 4) (aa ao ae))) (aD aw (hr.mono (by decide)) (by rfl) (aa (ar 0) (aa ao ae)))) ae)),(aO (λ _ _ _ _ _=>(aL (i:=0) (show(["_law_j","_law_flow_here","_law_at"]:List Str).Nodup by decide+kernel) rfl (Or.inl rfl))) (by decide)),(λ _ _ _ _ _=>bf),(λ _ _ _ _ _=>(aD aw (hr.mono (by decide)) (by rfl) (aa (ar 1) (aa (ar 2) ae))))⟩) ae)))))))
 (af (aB (i:=7) bq.nd rfl (Or.inr rfl) (aD oJ (hr.mono (by decide)) (by rfl) (aa (ar 1) ae)))
 (af (cG (i:=8) bq.nd rfl (Or.inl rfl) (tgs:=["_law_row"]) (fr:=[2,3,7]) ⟨bw (by kernel_rfl),rfl,(λ _ _ h=>h),(cf (ar 6)),(aO (λ _ _ _ _ _=>(aL (i:=0) (show(["_law_row","_law_many","_law_deep","_law_lasting"]:List Str).Nodup by decide+kernel) rfl (Or.inl rfl))) (by decide)),(λ _ _ _ _ _=>(lS (aU LY (vw (Eg rfl) xu (by rfl) T.sum (by decide+kernel) (tgs:=["_law_h"]) (fr:=[3]) ⟨bw (by kernel_rfl),rfl,(λ _ _ h=>h),(cf (ar 0)),(aO (λ _ _ _ _ _=>(aL (i:=0) (show(["_law_h","_law_lasting"]:List Str).Nodup by decide+kernel) rfl (Or.inl rfl))) (by decide)),(λ _ _ _ _ _=>bf),(λ _ _ _ _ _=>(bN bD (ar 1) (ar 0) (λ _ _=>rfl)))⟩) (ar 2) (aR _)))),(λ _ _ _ _ _=>(aD cz (hr.mono (by decide)) (by rfl) (aa (ar 0) (aa (ar 1) ae))))⟩)
 (ak (aJ (aD cH (hr.mono (by decide)) (by rfl) (aa (ar 8) ae)))))))))))),?_⟩
  walk_at "rd"
  rw[B7]
  refine⟨a,cc,8,rfl,hF,by decide,by decide,λ d1 o1 d0 d8 vm=>?_⟩
  have F1:Fl a cc M _:=Fl.pick vm
  generalize ai M a o1=M1 at*
  walk_at "rd"
  refine⟨by decide,λ p hp=>?_⟩
  have F2:=F1.trans (Fl.put (o:=.lst []) F1.aH hp)
  have oq:=(F1.aH.ne hp).1
  have Xi:M p=none:=by
   cases z:M p with
   |none=>rfl
   |some u=>rw[F1.mv p u oq z]at hp;cases hp
  have cO:ai M1 p (.lst []) p=some (.lst (([]:List Addr).map D.ref)):=ag
  generalize ai M1 p (.lst [])=M2 at*
  walk_at "rd"
  refine bo (λ e=>?_) (λ e=>?_)
  ·walk_at "rd"
   exact⟨G5 _,aA (k [] _ (by decide) (λ r h=>by cases h) F2)⟩
  ·walk_at "rd1"
   with_reducible refine iP (λ δ' M'=>δ'=[some (.ref a),some (.ref o),some (.int n),some (.int dp),some (.int (aQ.length:Nat)),some (.int d1),some (.ref p),none,none,none]/\M'=M2) (λ N hN=>?_) ?_
   ·walk_at "rd"
    refine bo (λ e1=>?_) (λ e1=>?_)
    ·walk_at "rd"
     refine bo (λ e2=>?_) (λ e2=>?_)
     ·walk_at "rd"
      refine⟨a,cc,aQ.length,rfl,F2.aH,by omega,by omega,λ d2 o2 Oh Q6 yt=>?_⟩
      have F3:=F2.trans (Fl.pick yt)
      obtain⟨j,rfl⟩:∃j:Nat,d2=(j:Int):=⟨d2.toNat,by omega⟩
      have hj:j < aQ.length:=by omega
      obtain⟨g1,g2⟩:=vi j _ (i9 hj)
      refine bP (F3.mv o _ Dz Oe) (bV (by rw[s9,i9 hj];rfl)) ?_
      walk_at "rd"
      exact aA (k _ _ g1 (λ r hr=>(g2 r hr).mono (by omega)) F3)
     ·walk_at "rd"
      exact hN _ _ ⟨rfl,rfl⟩
    ·walk_at "rd"
     exact hN _ _ ⟨rfl,rfl⟩
   ·rintro δ' M' ⟨rfl,rfl⟩
    with_reducible refine iP (λ δ' M'=>∃(v6:Addr) (qs:List Addr) (v9:Option D),δ'=[some (.ref a),some (.ref o),some (.int n),some (.int dp),some (.int (aQ.length:Nat)),some (.int d1),some (.ref v6),none,none,v9]/\M' v6=some (.lst (qs.map D.ref))/\qs.length<=20/\cS a aQ.length M' qs/\Fl a cc M M') (λ N hN=>?_) ?_
    ·walk_at "rd"
     refine bo (λ e1=>?_) (λ e1=>?_)
     ·walk_at "rd"
      refine⟨G5 _,λ p0 eN=>?_⟩
      have X6:=(F2.aH.ne eN).1
      have F3:=F2.trans (Fl.put (o:=.lst []) F2.aH eN)
      have g0:ai M' p0 (.lst []) p0=some (.lst (([]:List Int).map D.int)):=ag
      generalize ai M' p0 (.lst [])=M3 at*
      walk_at "rd"
      refine⟨by show 1<=sizeLine;decide,λ p1 N8=>?_⟩
      have F4:=F3.trans (Fl.put (o:=.lst [.ref p0]) F3.aH N8)
      have Zp:=(F3.aH.ne N8).1
      have g1:ai M3 p1 (.lst [.ref p0]) p1=some (.lst [.ref p0]):=ag
      have g0:ai M3 p1 (.lst [.ref p0]) p0=some (.lst (([]:List Int).map D.int)):=by rw[ah (aI g0 N8)];exact g0
      generalize ai M3 p1 (.lst [.ref p0])=M4 at*
      walk_at "rd"
      refine⟨cj (by omega) (by omega),?_⟩
      rw[u5]
      refine rD (xs:=List.range aQ.length) (enc:=ID) D.ref (λ qs M'=>Fl a cc M M'/\cS a aQ.length M' (p0::qs)/\M' p1=some (.lst [.ref p0])) (by simp;omega) ⟨F4,cS.add cS.nil X6 g0 (by decide) (λ x h=>by cases h),g1⟩ (λ i x ys M' N hx hy h hN=>?_) (λ qs M' hl h=>?_)
      ·obtain⟨G1,G2,G3⟩:=h
       have hi:=(i6.mp hx).1
       have ME:x=i:=by rw[n5 (by simpa using hi)]at hx;exact(B2 hx).symm
       subst ME
       rw[w9]at hi
       walk_at "rd"
       refine⟨by show 1<=sizeLine;decide,λ q hq=>hN q _ ⟨G1.trans (Fl.put G1.aH hq),?_,by rw[ah (aI G3 hq)];exact G3⟩⟩
       refine cS.add (qs:=p0::ys) (G2.new hq) (G1.aH.ne hq).1 (hs:=[(x:Int)]) ?_ (by show 1<=4;decide) λ y hy=>?_
       ·rw[ag,Ka]
        rfl
       ·rw[r6.mp hy]
        omega
      ·obtain⟨G1,G2,G3⟩:=h
       rw[w9]at hl
       intro p2 h_
       have G1:=G1.trans (Fl.put (o:=.lst (qs.map D.ref)) G1.aH h_)
       have G2:=G2.new h_ (o:=.lst (qs.map D.ref))
       have G3:ai M' p2 (.lst (qs.map D.ref)) p1=some (.lst [.ref p0]):=by rw[ah (aI G3 h_)];exact G3
       walk_at "rd"
       refine nc G3 ag (by rw[B7,l6];exact small (by omega)) λ p3 MF=>?_
       generalize ai M' p2 (.lst (qs.map D.ref))=M5 at*
       have Wl:=G1.trans (Fl.put (o:=.lst ([.ref p0]++qs.map D.ref)) G1.aH MF)
       have G2:=G2.new MF (o:=.lst ([.ref p0]++qs.map D.ref))
       have G4:ai M5 p3 (.lst ([.ref p0]++qs.map D.ref)) p3=some (.lst ((p0::qs).map D.ref)):=ag
       have X0:=(G1.aH.ne MF).1
       generalize ai M5 p3 (.lst ([.ref p0]++qs.map D.ref))=M6 at*
       walk_at "rd"
       refine⟨a,cc,aQ.length+1,rfl,Wl.aH,by omega,by omega,λ d2 o2 Oh Q6 yt=>?_⟩
       have G1:=Wl.trans (Fl.pick yt)
       have G2:=G2.keep (Fl.pick yt).mv
       have G4:=(Fl.pick yt).mv _ _ X0 G4
       generalize ai M6 a o2=M7 at*
       walk_at "rd"
       refine ph G4 (by omega) λ p4 VM=>?_
       walk_at "rd"
       exact hN _ _ ⟨p4,(p0::qs).take (1+d2).toNat,none,rfl,by rw[ag,map_take],by rw[A3,y6];omega,(G2.take _).new VM,G1.trans (Fl.put G1.aH VM)⟩
     ·walk_at "rd"
      refine⟨a,cc,4,rfl,F2.aH,by decide,by decide,λ d2 o2 Oh Wd yt=>?_⟩
      have F3:=F2.trans (Fl.pick yt)
      have UO:ai M' a o2 p=some (.lst (([]:List Addr).map D.ref)):=by rw[ah oq];exact cO
      generalize ai M' a o2=M3 at*
      walk_at "rd"
      refine⟨cj (by omega) (by omega),?_⟩
      refine dP (λ j δ M'=>∃(v9:Option D) (qs:List Addr),δ=[some (.ref a),some (.ref o),some (.int n),some (.int dp),some (.int (aQ.length:Nat)),some (.int d1),some (.ref p),none,none,v9]/\M' p=some (.lst (qs.map D.ref))/\qs.length=j/\cS a aQ.length M' qs/\Fl a cc M M') ⟨none,[],rfl,UO,rfl,cS.nil,F3⟩ (λ j d δ M' hd h=>?_) (λ δ M' h=>?_)
      ·obtain⟨v9,qs,rfl,h3,VJ,hR,F4⟩:=h
       obtain⟨hj,rfl⟩:=bQ hd
       walk_at "rd"
       refine⟨⟨rfl,_,h3⟩,?_⟩
       walk_at "rd"
       refine⟨a,cc,3,rfl,F4.aH,by decide,by decide,λ d o h0 h1 wH=>?_⟩
       have F5:=F4.trans (Fl.pick wH)
       have hR:=hR.keep (Fl.pick wH).mv
       have h3:=(Fl.pick wH).mv _ _ oq h3
       generalize ai M' a o=M5 at*
       have MM:(if(1:Int) < (aQ.length:Int)then(1:Int)else(aQ.length:Int))=if 1<=aQ.length then 1 else 0:=by
        split <;> split <;> omega
       rw[MM]
       refine gZ (wV (by split <;> omega) (by split <;> omega)) ?_
       have hle:(if 1<=aQ.length then(1:Int)else 0)*d<=2/\0<=(if 1<=aQ.length then(1:Int)else 0)*d/\(aQ.length=0->(if 1<=aQ.length then(1:Int)else 0)*d=0):=by
        split
        ·rw[Int.one_mul];exact⟨by omega,h0,λ z=>by omega⟩
        ·rw[Int.zero_mul];exact⟨by omega,by omega,λ _=>rfl⟩
       generalize(if 1<=aQ.length then(1:Int)else 0)*d=c2 at hle ⊢
       obtain⟨c1,c0,cn⟩:=hle
       refine⟨cj (by omega) (by omega),?_⟩
       refine rD (xs:=List.range c2.toNat) (enc:=ID) D.int (λ ns M'=>Fl a cc M M'/\M' p=some (.lst (qs.map D.ref))/\cS a aQ.length M' qs/\∀x∈ns,0<=x/\x < (aQ.length:Int)) (by simp;omega) ⟨F5,h3,hR,λ x h=>by cases h⟩ (λ jj x ys M' N hx hy h hN=>?_) (λ ns M' hl h=>?_)
       ·obtain⟨F2,h3,hR,h2⟩:=h
        have hi:=(i6.mp hx).1
        rw[w9]at hi
        have hn:aQ.length≠0:=λ z=>by have:=cn z;omega
        walk_at "rd"
        refine⟨a,cc,aQ.length,rfl,F2.aH,by omega,by omega,λ d2 o2 QF U6 AB=>hN _ _ ⟨F2.trans (Fl.pick AB),(Fl.pick AB).mv _ _ oq h3,hR.keep (Fl.pick AB).mv,λ x hx=>?_⟩⟩
        rcases B8.mp hx with q|q
        ·exact h2 x q
        ·have:x=d2:=by simpa using q
         omega
       ·obtain⟨F2,h3,hR,h2⟩:=h
        rw[w9]at hl
        intro p2 h_
        have VL:=aI h3 h_
        have X1:=(F2.aH.ne h_).1
        have hR:=hR.new h_ (o:=.lst (ns.map D.int))
        have F3:=F2.trans (Fl.put (o:=.lst (ns.map D.int)) F2.aH h_)
        have h3:ai M' p2 (.lst (ns.map D.int)) p=some (.lst (qs.map D.ref)):=by rw[ah VL];exact h3
        have h4:ai M' p2 (.lst (ns.map D.int)) p2=some (.lst (ns.map D.int)):=ag
        generalize ai M' p2 (.lst (ns.map D.int))=M8 at*
        walk_at "rd"
        refine cW h3 (by rw[B7];exact q8 (show qs.length<=12 by omega) (by decide)) ?_
        walk_at "rd"
        refine⟨_,qs++[p2],rfl,by rw[ag,B9];rfl,by rw[p6,l6];omega,(hR.put h3).add X1 (by rw[ah (J8 VL)];exact h4) (by omega) h2,?_⟩
        exact Fl.own F3 hF Xi
      ·obtain⟨v9,qs,rfl,h3,VJ,hR,F4⟩:=h
       rw[aV]at VJ
       exact hN _ _ ⟨p,qs,v9,rfl,h3,by omega,hR,F4⟩
    ·rintro δ' M' ⟨p,qs,v9,rfl,cO,Uj,hR,F3⟩
     walk_at "rd"
     refine⟨o,aQ,rfl,F3.mv o _ Dz Oe,GC hl hn vi,λ l M4 VT XT hE=>?_⟩
     have F4:=F3.trans (hE.fl F3.aH)
     have hR:=hR.keep (M':=M4) λ b u _ e=>hE b u e
     have cO:=hE _ _ cO
     walk_at "rd"
     refine jJ (ds:=qs.map D.ref) (λ i acc M'=>M'=M4/\∃os:List Row,acc=os.map row/\os.length<=i/\∀r∈os,fZ n aQ.length r) ⟨rfl,[],rfl,E9 _,λ r h=>by cases h⟩ (λ i acc M' hi h=>?_) (λ i acc M' hi h=>?_) (λ i d acc M' hd h=>?_) (λ acc M' h=>?_)
     ·obtain⟨rfl,_⟩:=h
      exact cO
     ·obtain⟨rfl,os,rfl,o1,_⟩:=h
      rw[B7]at hi ⊢
      exact small (by omega)
     ·obtain⟨rfl,os,rfl,o1,o2⟩:=h
      rw[s9]at hd
      cases e:qs[i]? with
      |none=>rw[e]at hd;cases hd
      |some q=>
       rw[e]at hd
       cases hd
       obtain⟨Ez,hs,q_,hh,hx⟩:=hR q (m6 e)
       walk_at "rd"
       refine pT (xs:=hs) D.int (λ x=>D.int ((lG aQ aQ.length).getD x.toNat 0)) (by omega) q_ (λ j x N IY hN=>?_) ?_
       ·have Y8:=hx x (m6 IY)
        obtain⟨m,rfl⟩:∃m:Nat,x=(m:Int):=⟨x.toNat,by omega⟩
        walk_at "rd"
        refine bP XT (eu (by rw[mi];omega)) ?_
        rw[u5]at hN
        exact hN
       ·rw[show(hs.map λ x=>D.int ((lG aQ aQ.length).getD x.toNat 0))=(hs.map λ x=>(lG aQ aQ.length).getD x.toNat 0).map D.int by rw[E4];rfl]
        refine xG ?_
        walk_at "rd"
        refine bo (λ _=>?_) (λ _=>?_)
        ·walk_at "rd"
         refine⟨q,hs,n,rfl,q_,by omega,rfl,os++[iU hs n],by rw[B9];rfl,by rw[p6,l6];omega,λ r hr=>?_⟩
         rcases B8.mp hr with z|z
         ·exact o2 r z
         ·rw[r6.mp z];exact nj hh hx
        ·exact⟨rfl,os,rfl,by omega,o2⟩
     ·obtain⟨rfl,os,rfl,o1,o2⟩:=h
      rw[B7]at o1
      intro p2 h_
      walk_at "rd"
      refine⟨_,os,rfl,.inr ⟨p2,rfl,ag⟩,by omega,λ r hr=>by rw[(o2 r hr).len];omega,λ out ho IZ=>?_⟩
      exact aA (k out _ (by omega) (λ r hr=>o2 r (ho r hr)) (F4.trans (Fl.put F4.aH h_)))
end
def Ba:fe:=λ ds M Q=>∃(a c:Addr) (m:Nat) (dp:Int),ds=[.ref a,.int m,.int dp]/\Flow M a c/\1<=m/\m<=12/\∀(n:Nat) (g:List aG) (M':Mem),n<=12->cQ n g->Fl a c M M'->Q (cC g) M'
theorem rh{n:Nat}{zs:List Str}{aQ:List (List Row)}(hn:n<=12)(hz:zs.length=n)(ho:aQ.length=n)(h:∀i os,aQ[i]?=some os->os.length<=20/\∀r∈os,fZ n i r):cQ n (zs.zip aQ):=by
 refine⟨by rw[length_zip];omega,hn,λ i hi=>?_⟩
 have e:(zs.zip aQ).getD i eN=(zs[i]'(by omega),aQ[i]'(by omega)):=by
  rw[g9,i9 (by rw[length_zip];omega)]
  simp
 rw[e]
 have:=h i _ (i9 (by omega))
 exact⟨by have:=this.1;show(aQ[i]'_).length<=63;omega,this.2⟩
theorem mH{zs:List Str}{aQ:List (List Row)}{n:Nat}(hz:zs.length=n)(ho:aQ.length=n):(List.range n).map (λ i=>eW (zs.getD i (Str.ofString ""),aQ.getD i []))=(zs.zip aQ).map eW:=by
 refine ext_getElem? λ i=>?_
 by_cases hi:i < n
 ·rw[s9,s9,n5 hi,i9 (by rw[length_zip];omega)]
  simp[g9,hz,ho,hi]
 ·rw[l9 (by simpa using hi),l9 (by rw[B7,length_zip];omega)]
theorem qx{aQ:List (List Row)}{os:List Row}{n:Nat}(h:∀i os,aQ[i]?=some os->os.length<=20/\∀r∈os,fZ n i r)(h1:os.length<=20)(h2:∀r∈os,fZ n aQ.length r):∀i IM,(aQ++[os])[i]?=some IM->IM.length<=20/\∀r∈IM,fZ n i r:=λ i IM e=>by
 by_cases fO:i < aQ.length
 ·rw[i0 fO]at e
  exact h i IM e
 ·rw[e9 (by omega)]at e
  have MQ:i - aQ.length=0:=by
   have:=(i6.mp e).1
   simp at this
   omega
  rw[MQ]at e
  have e:os=IM:=by simpa using e
  subst e
  have:i=aQ.length:=by omega
  subst this
  exact⟨h1,h2⟩
section
variable {P:Program}{w:World}{K:PySem.W.Frag}{mg:Str->Option Value}{base:Heap}
theorem dZ:aM ["_law_flow_here","_law_most","_law_deep","_law_many","_law_names_here","_law_options_here","_law_h"] ["_law_flow_here","_law_most","_law_deep"] (ay (top 16)):=⟨rfl,rfl,rfl,by decide+kernel,rfl,by decide+kernel,by decide+kernel⟩
theorem GU{f:Addr}{fd:FuncData}(F:gM K "_law_game" "_law_game" (top 16) f fd)(T:jR K mg)(aw:bC P w K mg base 1 "_law_pick" ["_law_flow_here","_law_many"] eR)(ef:bC P w K mg base 3 "_law_names" ["_law_flow_here","_law_many"] lV)(oH:bC P w K mg base 5 "_law_options" ["_law_flow_here","_law_ahead","_law_many","_law_deep"] AZ):bZ P w K mg base fE 6 f fd ["_law_flow_here","_law_most","_law_deep"] (cF K Ba):=by
 refine jS F dZ (λ ds M Q h=>?_) (λ c_ A outer s H E ds M Q hr h=>?_)
 ·obtain⟨a,cc,m,dp,rfl,_⟩:=h
  rfl
 ·obtain⟨a,cc,m,dp,rfl,hF,bW,hm,k⟩:=h
  refine⟨_,(af (aB (i:=3) dZ.nd rfl (Or.inl rfl) (bh bp ao (aD aw (hr.mono (by decide)) (by rfl) (aa (ar 0) (aa (ar 1) ae)))))
 (af (aB (i:=4) dZ.nd rfl (Or.inr rfl) (aD ef (hr.mono (by decide)) (by rfl) (aa (ar 0) (aa (ar 3) ae))))
 (af (aB (i:=5) dZ.nd rfl (Or.inr rfl) (bR ae))
 (af (cR B3 rfl (aZ rfl T.range (aa (ar 3) ae)) (bg (i:=6) dZ.nd rfl (Or.inl rfl))
 (ak (cp (iL j4 i8 j0 bT (ar 5) (aa (aD oH (hr.mono (by decide)) (by rfl) (aa (ar 0) (aa (ar 5) (aa (ar 3) (aa (ar 2) ae))))) ae)))))
 (ak (aJ (jU eI eJ (by rfl) T.tuple (by decide+kernel) (tgs:=["_law_h"]) (fr:=[4,5]) ⟨bw (by kernel_rfl),rfl,(λ _ _ h=>h),(aZ rfl T.range (aa (ar 3) ae)),(aO (λ _ _ _ _ _=>(aL (i:=0) (show(["_law_h","_law_names_here","_law_options_here"]:List Str).Nodup by decide+kernel) rfl (Or.inl rfl))) (by decide)),(λ _ _ _ _ _=>bf),(λ _ _ _ _ _=>(fG (aa (bN bD (ar 1) (ar 0) (λ _ _=>rfl)) (aa (bN bD (ar 2) (ar 0) (λ _ _=>rfl)) ae))))⟩))))))),?_⟩
  walk_at "rd"
  refine⟨a,cc,m,rfl,hF,by omega,by omega,λ d o h0 h1 vm=>?_⟩
  have F1:Fl a cc M _:=Fl.pick vm
  generalize ai M a o=M1 at*
  obtain⟨n,en⟩:∃n:Nat,1+d=(n:Int):=⟨(1+d).toNat,by omega⟩
  walk_at "rd"
  rw[en]
  refine⟨a,cc,n,rfl,F1.aH,by omega,λ p zs M2 hz hp cO F2=>?_⟩
  have F3:=F1.trans F2
  have oq:=(F1.aH.ne hp).1
  walk_at "rd"
  refine⟨by decide,λ o yq=>?_⟩
  have Dz:=(F3.aH.ne yq).1
  have F4:=F3.trans (Fl.put (o:=.lst []) F3.aH yq)
  have Qc:=aI cO yq
  have cO:ai M2 o (.lst []) p=some (.lst (zs.map D.str)):=by rw[ah Qc];exact cO
  have Oe:ai M2 o (.lst []) o=some (.lst (([]:List (List Row)).map dE)):=ag
  have N9:M o=none:=by
   cases z:M o with
   |none=>rfl
   |some u=>rw[F3.mv o u Dz z]at yq;cases yq
  generalize ai M2 o (.lst [])=M3 at*
  walk_at "rd"
  refine⟨cj (by omega) (by omega),?_⟩
  rw[u5]
  refine dP (λ j δ M'=>∃(v6:Option D) (aQ:List (List Row)),δ=[some (.ref a),some (.int m),some (.int dp),some (.int n),some (.ref p),some (.ref o),v6]/\M' p=some (.lst (zs.map D.str))/\M' o=some (.lst (aQ.map dE))/\aQ.length=j/\(∀i os,aQ[i]?=some os->os.length<=20/\∀r∈os,fZ n i r)/\Fl a cc M M') ⟨none,[],rfl,cO,Oe,rfl,λ i os h=>by simp at h,F4⟩ (λ j d δ M' hd h=>?_) (λ δ M' h=>?_)
  ·obtain⟨v6,aQ,rfl,h1,h2,h3,h4,h5⟩:=h
   obtain⟨hj,rfl⟩:=bQ hd
   walk_at "rd"
   refine⟨⟨rfl,_,h2⟩,?_⟩
   walk_at "rd"
   refine⟨a,cc,o,aQ,n,dp,rfl,h5.aH,Dz,h2,by omega,by omega,h4,λ os M5 g1 g2 g3=>?_⟩
   have h2:=g3.mv _ _ Dz h2
   have h1:=g3.mv _ _ oq h1
   walk_at "rd"
   refine cW h2 (by rw[B7];exact q8 (show aQ.length<=12 by omega) (by decide)) ?_
   walk_at "rd"
   refine⟨_,aQ++[os],rfl,by rw[ah Qc];exact h1,by rw[ag,B9];rfl,by rw[p6,l6,h3],qx h4 g1 g2,Fl.own (h5.trans g3) hF N9⟩
  ·obtain⟨v6,aQ,rfl,h1,h2,h3,h4,h5⟩:=h
   rw[aV]at h3
   walk_at "rd"
   refine⟨cj (by omega) (by omega),?_⟩
   rw[u5]
   refine dX (xs:=List.range n) (enc:=ID) (λ i=>eW (zs.getD i (Str.ofString ""),aQ.getD i [])) (by simp;omega) (λ i x N hx hN=>?_) ?_
   ·have hi:=(i6.mp hx).1
    have ME:x=i:=by rw[n5 (by simpa using hi)]at hx;exact(B2 hx).symm
    subst ME
    rw[w9]at hi
    walk_at "rd"
    refine bP h1 (d:=.str (zs.getD x (Str.ofString ""))) (by rw[D8];exact bV (by rw[s9,i9 (by omega),g9,i9 (by omega)];rfl)) ?_
    walk_at "rd"
    refine bP h2 (d:=dE (aQ.getD x [])) (by rw[D8];exact bV (by rw[s9,i9 (by omega),g9,i9 (by omega)];rfl)) ?_
    walk_at "rd"
    exact⟨by show 2<=sizeLine;decide,hN⟩
   ·rw[mH hz h3]
    walk_at "rd"
    exact aA (k n _ _ (by omega) (rh (by omega) hz h3 h4) h5)
end
def Iz:fe:=λ ds M Q=>∃(a c:Addr) (m:Nat),ds=[.ref a,.int m]/\Flow M a c/\1<=m/\m<=12/\∀(n:Nat) (g:List aG) (s:Addr) (M':Mem),n<=12->cQ n g->Fl a c M M'->Q (.tup [cC g,.ref s]) M'
structure Nm(a c p s o:Addr)(zs:List Str)(kJ:List Int)(aQ:List (List Row))(M M':Mem):Prop where
 fl:Fl a c M M'
 np:M' p=some (.lst (zs.map D.str))
 sz:M' s=some (.lst (kJ.map D.int))
 op:M' o=some (.lst (aQ.map dE))
structure Nn(a p s o:Addr)(M:Mem):Prop where
 pa:p≠a
 sa:s≠a
 oa:o≠a
 ps:p≠s
 po:p≠o
 so:s≠o
 ms:M s=none
 mo:M o=none
section
variable {a c p s o q r:Addr}{zs:List Str}{kJ:List Int}{aQ:List (List Row)}{M M' M2:Mem}{x:MO}
theorem Nm.on (h:Nm a c p s o zs kJ aQ M M')(k:Nn a p s o M)(g:Fl a c M' M2):Nm a c p s o zs kJ aQ M M2:=⟨h.fl.trans g,g.mv _ _ k.pa h.np,g.mv _ _ k.sa h.sz,g.mv _ _ k.oa h.op⟩
theorem Nm.new (h:Nm a c p s o zs kJ aQ M M')(k:Nn a p s o M)(hq:M' q=none):Nm a c p s o zs kJ aQ M (ai M' q x):=h.on k (Fl.put h.fl.aH hq)
theorem Nm.free (h:Nm a c p s o zs kJ aQ M M')(hq:M' q=none):q≠a/\p≠q/\s≠q/\o≠q/\M q=none:=by
 have qa:=(h.fl.aH.ne hq).1
 refine⟨qa,aI h.np hq,aI h.sz hq,aI h.op hq,?_⟩
 cases z:M q with
 |none=>rfl
 |some u=>rw[h.fl.mv q u qa z]at hq;cases hq
theorem Nm.own (h:Nm a c p s o zs kJ aQ M M')(hF:Flow M a c)(hr:r≠a/\p≠r/\s≠r/\o≠r/\M r=none):Nm a c p s o zs kJ aQ M (ai M' r x):=
 ⟨Fl.own h.fl hF hr.2.2.2.2,by rw[ah hr.2.1];exact h.np,by rw[ah hr.2.2.1];exact h.sz,by rw[ah hr.2.2.2.1];exact h.op⟩
end
section
variable {P:Program}{w:World}{K:PySem.W.Frag}{mg:Str->Option Value}{base:Heap}
theorem bY:aM ["_law_flow_here","_law_most","_law_many","_law_names_here","_law_sizes","_law_options_here","_law_h","_law_size","_law_rows","_law_one","_law_some"] ["_law_flow_here","_law_most"] (ay (top 24)):=⟨rfl,rfl,rfl,by decide+kernel,rfl,by decide+kernel,by decide+kernel⟩
theorem LP{f:Addr}{fd:FuncData}(F:gM K "_law_nim" "_law_nim" (top 24) f fd)(T:jR K mg)(aw:bC P w K mg base 1 "_law_pick" ["_law_flow_here","_law_many"] eR)(ef:bC P w K mg base 3 "_law_names" ["_law_flow_here","_law_many"] lV)(cz:bC P w K mg base 1 "_law_counts" ["_law_heaps","_law_many"] gU)(cH:bC P w K mg base 4 "_law_in_order" ["_law_sums"] lX):bZ P w K mg base fE 5 f fd ["_law_flow_here","_law_most"] (cF K Iz):=by
 refine jS F bY (λ ds M Q h=>?_) (λ c_ A outer s H E ds M Q hr h=>?_)
 ·obtain⟨a,cc,m,rfl,_⟩:=h
  rfl
 ·obtain⟨a,cc,m,rfl,hF,bW,hm,k⟩:=h
  refine⟨_,(af (aB (i:=2) bY.nd rfl (Or.inr rfl) (bh bp ao (aD aw (hr.mono (by decide)) (by rfl) (aa (ar 0) (aa (ar 1) ae)))))
 (af (aB (i:=3) bY.nd rfl (Or.inr rfl) (aD ef (hr.mono (by decide)) (by rfl) (aa (ar 0) (aa (ar 2) ae))))
 (af (aB (i:=4) bY.nd rfl (Or.inr rfl) (bR ae))
 (af (aB (i:=5) bY.nd rfl (Or.inr rfl) (bR ae))
 (af (cR B3 rfl (aZ rfl T.range (aa (ar 2) ae)) (bg (i:=6) bY.nd rfl (Or.inl rfl))
 (af (aB (i:=7) bY.nd rfl (Or.inl rfl) (aP (Eh rfl) (by rfl) T.min (by decide+kernel) (aa ao (aa (aD aw (hr.mono (by decide)) (by rfl) (aa (ar 0) (aa (bh bp ao (Jy rfl (by rfl) T.max (ar 4))) ae))) ae))))
 (af (aB (i:=8) bY.nd rfl (Or.inl rfl) (bh gu (bR (aa (bR ae) ae)) (iu Nz (by rfl) T.int (by decide+kernel) (aa (jb tj (ar 7) ao (aR _)) ae))))
 (af (cR B3 rfl (aZ rfl T.range (aa (ar 7) ae)) (bg (i:=9) bY.nd rfl (Or.inr rfl))
 (af (cG (i:=10) bY.nd rfl (Or.inl rfl) (tgs:=["_law_g"]) (fr:=[9,4]) ⟨bw (by kernel_rfl),rfl,(λ _ _ h=>h),(aZ rfl T.range (aa (ar 6) ae)),(aO (λ _ _ _ _ _=>(aL (i:=0) (show(["_law_g","_law_one","_law_sizes"]:List Str).Nodup by decide+kernel) rfl (Or.inl rfl))) (by decide)),(λ _ _ _ _ _=>(lS (aU (d_ hr.units) (bN bD (ar 2) (ar 0) (λ _ _=>rfl)) (ar 1) (aR _)))),(λ _ _ _ _ _=>(bR (aa (ar 0) ae)))⟩)
 (ak (cb (pY (aU (Pn hr.units) (ar 10) (bR ae) (aR _)) (lR (r_ (aU tj (ar 9) ao (aR _)) (mK (aU (d_ hr.units) (aD aw (hr.mono (by decide)) (by rfl) (aa (ar 0) (aa ao ae))) ao (aR _)))).pt)).pt
 (ak (cp (iL j4 i8 j0 bT (ar 8) (aa (bN bD (ar 10) (aD aw (hr.mono (by decide)) (by rfl) (aa (ar 0) (aa (aP gH (by rfl) T.len (by decide+kernel) (aa (ar 10) ae)) ae))) (λ _ _=>rfl)) ae))))
 bj))))
 (af (cp (iL j4 i8 j0 bT (ar 4) (aa (ar 7) ae)))
 (ak (cp (iL j4 i8 j0 bT (ar 5) (aa (aD cH (hr.mono (by decide)) (by rfl) (aa (fw (tgs:=["_law_row"]) (fr:=[2]) ⟨bw (by kernel_rfl),rfl,(λ _ _ h=>h),(cf (ar 8)),(aO (λ _ _ _ _ _=>(aL (i:=0) (show(["_law_row","_law_many"]:List Str).Nodup by decide+kernel) rfl (Or.inl rfl))) (by decide)),(λ _ _ _ _ _=>bf),(λ _ _ _ _ _=>(aD cz (hr.mono (by decide)) (by rfl) (aa (ar 0) (aa (ar 1) ae))))⟩) ae)) ae)))))))))
 (ak (aJ (fG (aa (jU eI eJ (by rfl) T.tuple (by decide+kernel) (tgs:=["_law_h"]) (fr:=[3,5]) ⟨bw (by kernel_rfl),rfl,(λ _ _ h=>h),(aZ rfl T.range (aa (ar 2) ae)),(aO (λ _ _ _ _ _=>(aL (i:=0) (show(["_law_h","_law_names_here","_law_options_here"]:List Str).Nodup by decide+kernel) rfl (Or.inl rfl))) (by decide)),(λ _ _ _ _ _=>bf),(λ _ _ _ _ _=>(fG (aa (bN bD (ar 1) (ar 0) (λ _ _=>rfl)) (aa (bN bD (ar 2) (ar 0) (λ _ _=>rfl)) ae))))⟩) (aa (ar 4) ae)))))))))),?_⟩
  walk_at "rd"
  refine⟨a,cc,m,rfl,hF,by omega,by omega,λ d o h0 h1 vm=>?_⟩
  have F1:Fl a cc M _:=Fl.pick vm
  generalize ai M a o=M1 at*
  obtain⟨n,en⟩:∃n:Nat,1+d=(n:Int):=⟨(1+d).toNat,by omega⟩
  walk_at "rd"
  rw[en]
  refine⟨a,cc,n,rfl,F1.aH,by omega,λ p zs M2 hz hp cO F2=>?_⟩
  have F3:=F1.trans F2
  have oq:=(F1.aH.ne hp).1
  walk_at "rd"
  refine⟨by decide,λ s hs=>?_⟩
  have VE:=(F3.aH.ne hs).1
  have F4:=F3.trans (Fl.put (o:=.lst []) F3.aH hs)
  have VF:M s=none:=by
   cases z:M s with
   |none=>rfl
   |some u=>rw[F3.mv s u VE z]at hs;cases hs
  have HA:=aI cO hs
  have cO:ai M2 s (.lst []) p=some (.lst (zs.map D.str)):=by rw[ah HA];exact cO
  have UM:ai M2 s (.lst []) s=some (.lst (([]:List Int).map D.int)):=ag
  generalize ai M2 s (.lst [])=M3 at*
  walk_at "rd"
  refine⟨by decide,λ o ho=>?_⟩
  have Dz:=(F4.aH.ne ho).1
  have N9:M o=none:=by
   cases z:M o with
   |none=>rfl
   |some u=>rw[F4.mv o u Dz z]at ho;cases ho
  have yq:=aI cO ho
  have Sf:=aI UM ho
  have NN:Nn a p s o M:=⟨oq,VE,Dz,HA,yq,Sf,VF,N9⟩
  have N0:Nm a cc p s o zs [] [] M (ai M3 o (.lst [])):=⟨F4.trans (Fl.put F4.aH ho),by rw[ah yq];exact cO,by rw[ah Sf];exact UM,ag⟩
  generalize ai M3 o (.lst [])=M4 at*
  walk_at "rd"
  refine⟨cj (by omega) (by omega),?_⟩
  rw[u5]
  refine dP (λ j δ M'=>∃(v6 v7 v8 v9 v10:Option D) (kJ:List Int) (aQ:List (List Row)),δ=[some (.ref a),some (.int m),some (.int n),some (.ref p),some (.ref s),some (.ref o),v6,v7,v8,v9,v10]/\Nm a cc p s o zs kJ aQ M M'/\kJ.length=j/\(∀x∈kJ,0<=x/\x<=4)/\aQ.length=j/\(∀i os,aQ[i]?=some os->os.length<=20/\∀r∈os,fZ n i r)) ⟨none,none,none,none,none,[],[],rfl,N0,rfl,(λ x h=>by cases h),rfl,(λ i os h=>by simp at h)⟩ (λ j d δ M' hd h=>?_) (λ δ M' h=>?_)
  ·obtain⟨v6,v7,v8,v9,v10,kJ,aQ,rfl,N1,N7,hsz,IZ,vi⟩:=h
   obtain⟨hj,rfl⟩:=bQ hd
   have Xq:=ya (b:=4) (by decide) λ x hx=>(hsz x hx).2
   have Xp:=tQ λ x hx=>(hsz x hx).1
   have UM:=N1.sz
   walk_at "rd"
   generalize fL 0 kJ=mx at*
   refine⟨a,cc,2+mx,rfl,N1.fl.aH,by omega,by omega,λ d1 o1 Wf We wH=>?_⟩
   have N1:=N1.on NN (Fl.pick wH)
   generalize ai M' a o1=M5 at*
   walk_at "rd"
   have Ue:0<=(if d1 < 4 then d1 else 4)/\(if d1 < 4 then d1 else 4)<=4:=by split <;> omega
   generalize(if d1 < 4 then d1 else 4)=z at*
   refine⟨by decide,λ p0 eN=>?_⟩
   have f0:=N1.free eN
   have N1:=N1.new NN eN (x:=.lst [])
   have g0:ai M5 p0 (.lst []) p0=some (.lst (([]:List Int).map D.int)):=ag
   generalize ai M5 p0 (.lst [])=M6 at*
   walk_at "rd"
   refine⟨by show 1<=sizeLine;decide,λ p1 N8=>?_⟩
   have g1:=aI g0 N8
   have N1:=N1.new NN N8 (x:=.lst [.ref p0])
   have g0:ai M6 p1 (.lst [.ref p0]) p0=some (.lst (([]:List Int).map D.int)):=by rw[ah g1];exact g0
   have g1:ai M6 p1 (.lst [.ref p0]) p1=some (.lst [.ref p0]):=ag
   generalize ai M6 p1 (.lst [.ref p0])=M7 at*
   walk_at "rd"
   have ht:(0:Int)<=(if decide (0 < z)=true then 1 else 0)/\(if decide (0 < z)=true then(1:Int)else 0)<=1:=by split <;> omega
   generalize(if decide (0 < z)=true then(1:Int)else 0)=t at*
   refine sN g1 (by omega) (by omega) λ r hr=>?_
   have fr:=N1.free hr
   have N1:=N1.new NN hr (x:=.lst (List.replicate t.toNat (.ref p0)))
   have gr:ai M7 r (.lst (List.replicate t.toNat (.ref p0))) r=some (.lst ((List.replicate t.toNat p0).map D.ref)):=by rw[ag,map_replicate]
   have R0:cS a j (ai M7 r (.lst (List.replicate t.toNat (.ref p0)))) (List.replicate t.toNat p0):=λ q hq=>by
    rw[eq_of_mem_replicate hq]
    exact⟨f0.1,[],by rw[ah (aI g0 hr)];exact g0,by decide,λ x h=>by cases h⟩
   have f1:∀q∈List.replicate t.toNat p0,q≠s:=λ q hq=>by rw[eq_of_mem_replicate hq];exact J8 f0.2.2.1
   have l0:(List.replicate t.toNat p0).length<=1:=by rw[l8];omega
   generalize List.replicate t.toNat p0=qs at*
   generalize ai M7 r (.lst (List.replicate t.toNat (.ref p0)))=M8 at*
   walk_at "rd"
   refine⟨cj (by omega) (by omega),?_⟩
   refine dP (λ i δ M'=>∃(v9 v10:Option D) (qs:List Addr),δ=[some (.ref a),some (.int m),some (.int n),some (.ref p),some (.ref s),some (.ref o),some (.int (0+(j:Nat))),some (.int z),some (.ref r),v9,v10]/\Nm a cc p s o zs kJ aQ M M'/\M' r=some (.lst (qs.map D.ref))/\cS a j M' qs/\(∀q∈qs,q≠s)/\qs.length<=1+i) ⟨v9,v10,qs,rfl,N1,gr,R0,f1,l0⟩ (λ i d δ M' hd h=>?_) (λ δ M' h=>?_)
   ·obtain⟨v9,v10,qs,rfl,N1,gr,R1,f1,l1⟩:=h
    obtain⟨hi,rfl⟩:=bQ hd
    walk_at "rd"
    refine⟨cj (by omega) (by omega),?_⟩
    rw[show(0+(j:Int)).toNat=j by omega]
    refine ip (λ i acc M'=>∃gs:List Addr,acc=gs.map D.ref/\Nm a cc p s o zs kJ aQ M M'/\M' r=some (.lst (qs.map D.ref))/\cS a j M' qs/\cS a j M' gs/\(∀q∈gs,q≠r/\q≠s)/\gs.length<=i) ⟨[],rfl,N1,gr,R1,cS.nil,(λ q h=>by cases h),E9 _⟩ (λ i acc M' hi h=>?_) (λ y d acc M' hd h=>?_) (λ acc M' h=>?_)
    ·obtain⟨gs,rfl,N2,g2,R2,S2,N',l2⟩:=h
     rw[aV]at hi
     rw[B7]
     exact small (by omega)
    ·obtain⟨gs,rfl,N2,g2,R2,S2,N',l2⟩:=h
     obtain⟨hg,rfl⟩:=bQ hd
     walk_at "rd"
     refine bP N2.sz (d:=.int (kJ.getD y 0)) (by rw[D8];exact eu (by omega)) ?_
     walk_at "rd"
     refine bo (λ _=>?_) (λ _=>?_)
     ·walk_at "rd"
      refine⟨by show 1<=sizeLine;decide,λ q hq=>⟨gs++[q],by rw[B9];rfl,N2.new NN hq,by rw[ah (aI g2 hq)];exact g2,R2.new hq,(S2.new hq).add (N2.free hq).1 (hs:=[(y:Int)]) ?_ (by show 1<=4;decide) (λ x hx=>?_),λ x hx=>?_,by rw[p6,l6];omega⟩⟩
      ·rw[ag,D8]
       rfl
      ·rw[r6.mp hx]
       omega
      ·rcases B8.mp hx with e|e
       ·exact N' x e
       ·rw[r6.mp e]
        exact⟨J8 (aI g2 hq),J8 (N2.free hq).2.2.1⟩
     ·exact⟨gs,rfl,N2,g2,R2,S2,N',by omega⟩
    ·obtain⟨gs,rfl,N2,g2,R2,S2,N',l2⟩:=h
     rw[aV]at l2
     intro t ht
     have PZ:=(N2.free ht).1
     have N3:=N2.new NN ht (x:=.lst (gs.map D.ref))
     have g3:ai M' t (.lst (gs.map D.ref)) r=some (.lst (qs.map D.ref)):=by rw[ah (aI g2 ht)];exact g2
     have R3:=R2.new ht (o:=.lst (gs.map D.ref))
     have S3:=S2.new ht (o:=.lst (gs.map D.ref))
     have gt:ai M' t (.lst (gs.map D.ref)) t=some (.lst (gs.map D.ref)):=ag
     generalize ai M' t (.lst (gs.map D.ref))=M8 at*
     walk_at "rd"
     refine⟨by decide,λ u hu=>?_⟩
     have N4:=N3.new NN hu (x:=.lst [])
     have g4:ai M8 u (.lst []) r=some (.lst (qs.map D.ref)):=by rw[ah (aI g3 hu)];exact g3
     have R4:=R3.new hu (o:=.lst [])
     have S4:=S3.new hu (o:=.lst [])
     have gt:ai M8 u (.lst []) t=some (.lst (gs.map D.ref)):=by rw[ah (aI gt hu)];exact gt
     refine Kl gt ag (λ q hq=>let⟨_,hs,h,_⟩:=S4 q hq;⟨hs,h⟩) ?_
     generalize ai M8 u (.lst [])=M9 at*
     cases gs with
     |nil=>
      walk_at "rd"
      exact⟨_,_,qs,rfl,N4,g4,R4,f1,by omega⟩
     |cons q0 gs=>
      walk_at "rd"
      refine bo (λ _=>?_) (λ _=>?_)
      ·walk_at "rd"
       refine⟨⟨rfl,_,g4⟩,?_⟩
       walk_at "rd"
       rw[B7]
       refine⟨a,cc,((q0::gs).length:Nat),rfl,N4.fl.aH,by rw[y6];omega,by omega,λ d2 o2 Oh Q6 Qw=>?_⟩
       have P6:=Fl.pick Qw
       have N4:=N4.on NN P6
       have R4:=R4.keep P6.mv
       have S4:=S4.keep P6.mv
       have g4:=P6.mv _ _ fr.1 g4
       have gt:=P6.mv _ _ PZ gt
       generalize ai M9 a o2=Om at*
       obtain⟨y,rfl⟩:∃y:Nat,d2=(y:Int):=⟨d2.toNat,by omega⟩
       have hy:y < (q0::gs).length:=by omega
       have hm:(q0::gs)[y]∈q0::gs:=A4 hy
       obtain⟨qa,hs,hq,hh,hx⟩:=S4 _ hm
       have Qb:=N' _ hm
       refine bP gt (d:=.ref (q0::gs)[y]) (bV (by rw[s9,i9 hy];rfl)) ?_
       generalize(q0::gs)[y]=q at*
       walk_at "rd"
       refine cW g4 (by rw[B7];exact q8 (show qs.length<=100 by omega) (by decide)) ?_
       walk_at "rd"
       exact⟨_,_,qs++[q],rfl,N4.own hF fr,by rw[ag,B9];rfl,(R4.put g4).add qa (by rw[ah Qb.1];exact hq) hh hx,(λ x hx=>(B8.mp hx).elim (f1 x) λ e=>by rw[r6.mp e];exact Qb.2),by rw[p6,l6];omega⟩
      ·walk_at "rd"
       refine⟨a,cc,2,rfl,N4.fl.aH,by decide,by decide,λ d3 o3 Zs Zr XW=>?_⟩
       have P7:=Fl.pick XW
       have N4:=N4.on NN P7
       have R4:=R4.keep P7.mv
       have S4:=S4.keep P7.mv
       have g4:=P7.mv _ _ fr.1 g4
       have gt:=P7.mv _ _ PZ gt
       generalize ai M9 a o3=M9 at*
       walk_at "rd"
       refine bo (λ _=>?_) (λ _=>?_)
       ·walk_at "rd"
        refine⟨⟨rfl,_,g4⟩,?_⟩
        walk_at "rd"
        rw[B7]
        refine⟨a,cc,((q0::gs).length:Nat),rfl,N4.fl.aH,by rw[y6];omega,by omega,λ d2 o2 Oh Q6 Qw=>?_⟩
        have P6:=Fl.pick Qw
        have N4:=N4.on NN P6
        have R4:=R4.keep P6.mv
        have S4:=S4.keep P6.mv
        have g4:=P6.mv _ _ fr.1 g4
        have gt:=P6.mv _ _ PZ gt
        generalize ai M9 a o2=Om at*
        obtain⟨y,rfl⟩:∃y:Nat,d2=(y:Int):=⟨d2.toNat,by omega⟩
        have hy:y < (q0::gs).length:=by omega
        have hm:(q0::gs)[y]∈q0::gs:=A4 hy
        obtain⟨qa,hs,hq,hh,hx⟩:=S4 _ hm
        have Qb:=N' _ hm
        refine bP gt (d:=.ref (q0::gs)[y]) (bV (by rw[s9,i9 hy];rfl)) ?_
        generalize(q0::gs)[y]=q at*
        walk_at "rd"
        refine cW g4 (by rw[B7];exact q8 (show qs.length<=100 by omega) (by decide)) ?_
        walk_at "rd"
        exact⟨_,_,qs++[q],rfl,N4.own hF fr,by rw[ag,B9];rfl,(R4.put g4).add qa (by rw[ah Qb.1];exact hq) hh hx,(λ x hx=>(B8.mp hx).elim (f1 x) λ e=>by rw[r6.mp e];exact Qb.2),by rw[p6,l6];omega⟩
       ·walk_at "rd"
        exact⟨_,_,qs,rfl,N4,g4,R4,f1,by omega⟩
   ·obtain⟨v9,v10,qs,rfl,N1,gr,R1,f1,l1⟩:=h
    rw[aV]at l1
    walk_at "rd"
    refine⟨⟨rfl,_,N1.sz⟩,?_⟩
    walk_at "rd"
    refine cW N1.sz (by rw[B7];exact q8 (show kJ.length<=100 by omega) (by decide)) ?_
    have N2:Nm a cc p s o zs (kJ++[z]) aQ M (ai M' s (.lst (kJ.map D.int++[.int z]))):=⟨Fl.own N1.fl hF VF,by rw[ah HA];exact N1.np,by rw[ag,B9];rfl,by rw[ah (J8 Sf)];exact N1.op⟩
    have R2:cS a j (ai M' s (.lst (kJ.map D.int++[.int z]))) qs:=λ q hq=>by
     obtain⟨qa,hs,h,h2⟩:=R1 q hq
     exact⟨qa,hs,by rw[ah (f1 q hq)];exact h,h2⟩
    have gr:ai M' s (.lst (kJ.map D.int++[.int z])) r=some (.lst (qs.map D.ref)):=by rw[ah (J8 fr.2.2.1)];exact gr
    generalize ai M' s (.lst (kJ.map D.int++[.int z]))=M9 at*
    walk_at "rd"
    refine⟨⟨rfl,_,N2.op⟩,?_⟩
    walk_at "rd"
    refine jJ (ds:=qs.map D.ref) (λ i acc M'=>M'=M9/\∃os:List Row,acc=os.map row/\os.length<=i/\∀r∈os,fZ n j r) ⟨rfl,[],rfl,E9 _,λ r h=>by cases h⟩ (λ i acc M' hi h=>?_) (λ i acc M' hi h=>?_) (λ i d acc M' hd h=>?_) (λ acc M' h=>?_)
    ·obtain⟨rfl,_⟩:=h
     exact gr
    ·obtain⟨rfl,os,rfl,o1,_⟩:=h
     rw[B7]at hi ⊢
     exact small (by omega)
    ·obtain⟨rfl,os,rfl,o1,o2⟩:=h
     rw[s9]at hd
     cases e:qs[i]? with
     |none=>rw[e]at hd;cases hd
     |some q=>
      rw[e]at hd
      cases hd
      obtain⟨Ez,hs,q_,hh,hx⟩:=R2 q (m6 e)
      walk_at "rd"
      refine⟨q,hs,n,rfl,q_,by omega,rfl,os++[iU hs n],by rw[B9];rfl,by rw[p6,l6];omega,λ r hr=>?_⟩
      rcases B8.mp hr with z|z
      ·exact o2 r z
      ·rw[r6.mp z];exact nj hh hx
    ·obtain⟨rfl,os,rfl,o1,o2⟩:=h
     rw[B7]at o1
     intro p2 h_
     have N3:=N2.new NN h_ (x:=.lst (os.map row))
     walk_at "rd"
     refine⟨_,os,rfl,.inr ⟨p2,rfl,ag⟩,by omega,λ r hr=>by rw[(o2 r hr).len];omega,λ out ho Ul=>?_⟩
     generalize ai M' p2 (.lst (os.map row))=Vl at*
     walk_at "rd"
     refine cW N3.op (by rw[B7];exact q8 (show aQ.length<=100 by omega) (by decide)) ?_
     walk_at "rd"
     refine⟨_,_,_,_,_,kJ++[z],aQ++[out],rfl,⟨Fl.own N3.fl hF N9,by rw[ah yq];exact N3.np,by rw[ah Sf];exact N3.sz,by rw[ag,B9];rfl⟩,by rw[p6,l6,N7],λ x hx=>?_,by rw[p6,l6,IZ],qx vi (by omega) λ r hr=>by rw[IZ];exact o2 r (ho r hr)⟩
     rcases B8.mp hx with e|e
     ·exact hsz x e
     ·rw[r6.mp e];exact Ue
  ·obtain⟨v6,v7,v8,v9,v10,kJ,aQ,rfl,N1,N7,hsz,IZ,vi⟩:=h
   rw[aV]at IZ
   walk_at "rd"
   refine⟨cj (by omega) (by omega),?_⟩
   rw[u5]
   refine dX (xs:=List.range n) (enc:=ID) (λ i=>eW (zs.getD i (Str.ofString ""),aQ.getD i [])) (by simp;omega) (λ i x N hx hN=>?_) ?_
   ·have hi:=(i6.mp hx).1
    have ME:x=i:=by rw[n5 (by simpa using hi)]at hx;exact(B2 hx).symm
    subst ME
    rw[w9]at hi
    walk_at "rd"
    refine bP N1.np (d:=.str (zs.getD x (Str.ofString ""))) (by rw[D8];exact bV (by rw[s9,i9 (by omega),g9,i9 (by omega)];rfl)) ?_
    walk_at "rd"
    refine bP N1.op (d:=dE (aQ.getD x [])) (by rw[D8];exact bV (by rw[s9,i9 (by omega),g9,i9 (by omega)];rfl)) ?_
    walk_at "rd"
    exact⟨by show 2<=sizeLine;decide,hN⟩
   ·rw[mH hz IZ]
    walk_at "rd"
    exact⟨by show 2<=sizeLine;decide,aA (k n _ _ _ (by omega) (rh (by omega) hz IZ vi) N1.fl)⟩
end
def Iw:fe:=λ ds M Q=>∃(a c:Addr) (n:Nat) (g:List aG) (m most:Nat),ds=[.ref a,cC g,.int m,.int most]/\Flow M a c/\cQ n g/\m<=4/\1<=most/\most<=400/\∀(as:Row) (p:Addr) (l:List Row) (M':Mem),as.length=n->p≠a->M' p=some (.lst (l.map row))->NJ n (vn (dF g n) as) l->l.length<=most->(∀x∈as,0<=x)->Fl a c M M'->Q (.tup [row as,.ref p]) M'
theorem CN{as:Row}{h:Nat}(hh:h < as.length):(less as h).sum=as.sum - 1:=by
 have e:as.take h++[as.getD h 0]++as.drop (h+1)=as:=by
  rw[g9,i9 hh,u9]
  show as.take h++as[h]::as.drop (h+1)=as
  rw[<- i5 hh,take_append_drop]
 have e2:as.sum=(as.take h++[as.getD h 0]++as.drop (h+1)).sum:=by rw[e]
 rw[e2]
 unfold less
 simp only[sum_append,sum_cons,sum_nil]
 omega
theorem xx:∀{as:Row},(∀x∈as,0<=x)->0<=as.sum
 |[],_=>Int.le_refl _
 |a::as,h=>by
  rw[sum_cons]
  have:=xx λ x hx=>h x (m5 _ hx)
  have:=h a (o9 ..)
  omega
def Ru(a c:Addr)(n:Nat)(g:List aG)(m most:Nat)(M:Mem)(mm:Nat)(δ:de)(M':Mem):Prop:=∃(as:Row) (fd:D) (v6 v7:Option D),δ=[some (.ref a),some (cC g),some (.int m),some (.int most),some (row as),some fd,v6,v7]/\as.length=n/\(∀x∈as,0<=x)/\Fl a c M M'/\mm=as.sum.toNat/\((fd=.bx/\∃h,h < n/\0 < as.getD h 0)\/∃p l,fd=.ref p/\p≠a/\M' p=some (.lst (l.map row))/\NJ n (vn (dF g n) as) l/\l.length<=most)
section
variable {P:Program}{w:World}{K:PySem.W.Frag}{mg:Str->Option Value}{base:Heap}
theorem bH:aM ["_law_flow_here","_law_game_here","_law_many","_law_most","_law_counts_here","_law_found","_law_there","_law_h"] ["_law_flow_here","_law_game_here","_law_many","_law_most"] (ay (top 26)):=⟨rfl,rfl,rfl,by decide+kernel,rfl,by decide+kernel,by decide+kernel⟩
theorem LM{f:Addr}{fd:FuncData}(F:gM K "_law_walkable" "_law_walkable" (top 26) f fd)(T:jR K mg)(aw:bC P w K mg base 1 "_law_pick" ["_law_flow_here","_law_many"] eR)(nU:bC P w K mg base 2 "_law_some_sum" ["_law_flow_here","_law_many","_law_most"] AY)(pR:bC P w K mg base 5 "_law_all" ["_law_game_here","_law_counts_here","_law_most"] Bc):bZ P w K mg base fE 6 f fd ["_law_flow_here","_law_game_here","_law_many","_law_most"] (cF K Iw):=by
 refine jS F bH (λ ds M Q h=>?_) (λ c_ A outer s H E ds M Q hr h=>?_)
 ·obtain⟨a,cc,n,g,m,most,rfl,_⟩:=h
  rfl
 ·obtain⟨a,cc,n,g,m,most,rfl,hF,G,hm,bW,Sj,k⟩:=h
  have hfew:=G.ur
  refine⟨_,(af (aB (i:=4) bH.nd rfl (Or.inr rfl) (aD nU (hr.mono (by decide)) (by rfl) (aa (ar 0) (aa (aP gH (by rfl) T.len (by decide+kernel) (aa (ar 1) ae)) (aa (ar 2) ae)))))
 (af (aB (i:=5) bH.nd rfl (Or.inl rfl) (aD pR (hr.mono (by decide)) (by rfl) (aa (ar 1) (aa (ar 4) (aa (ar 3) ae)))))
 (af (gR B3 (aU Ct (ar 5) sj (aR _))
 (af (cG (i:=6) bH.nd rfl (Or.inl rfl) (tgs:=["_law_h"]) (fr:=[4]) ⟨bw (by kernel_rfl),rfl,(λ _ _ h=>h),(aZ rfl T.range (aa (aP gH (by rfl) T.len (by decide+kernel) (aa (ar 4) ae)) ae)),(aO (λ _ _ _ _ _=>(aL (i:=0) (show(["_law_h","_law_counts_here"]:List Str).Nodup by decide+kernel) rfl (Or.inl rfl))) (by decide)),(λ _ _ _ _ _=>(lS (aU tj (bN bD (ar 1) (ar 0) (λ _ _=>rfl)) ao (aR _)))),(λ _ _ _ _ _=>(ar 0))⟩)
 (af (aB (i:=7) bH.nd rfl (Or.inl rfl) (bN bD (ar 6) (aD aw (hr.mono (by decide)) (by rfl) (aa (ar 0) (aa (aP gH (by rfl) T.len (by decide+kernel) (aa (ar 6) ae)) ae))) (λ _ _=>rfl)))
 (af (aB (i:=4) bH.nd rfl (Or.inr rfl) (bh bp (bh bp (gg mX (ar 4) gc (gb (ar 7))) (fG (aa (bh xV (bN bD (ar 4) (ar 7) (λ _ _=>rfl)) ao) ae))) (gg mX (ar 4) (gb (bh bp (ar 7) ao)) gc)))
 (ak (aB (i:=5) bH.nd rfl (Or.inl rfl) (aD pR (hr.mono (by decide)) (by rfl) (aa (ar 1) (aa (ar 4) (aa (ar 3) ae))))))))))
 (ak (aJ (fG (aa (ar 4) (aa (ar 5) ae)))))))),?_⟩
  walk_at "rd"
  refine qr ?_
  rw[G.len]
  walk_at "rd"
  refine⟨a,cc,n,m,rfl,hF,by omega,by omega,by omega,λ ns M1 Uq hx F1=>?_⟩
  walk_at "rd"
  have el:=uS ns n
  have fin:∀(M1:Mem) (as:Row) (N:bL),Fl a cc M M1->as.length=n->(∀fd M2,Fl a cc M M2->((fd=.bx/\∃h,h < n/\0 < as.getD h 0)\/∃p l,fd=.ref p/\p≠a/\M2 p=some (.lst (l.map row))/\NJ n (vn (dF g n) as) l/\l.length<=most)->N fd M2)->Bc [cC g,row as,.int most] M1 N:=λ M1 as N F1 ha hN=>
   ⟨n,g,as,most,rfl,G,ha,Sj,bW,λ M2 hE h=>hN _ _ (F1.trans (hE.fl F1.aH)) (.inl ⟨rfl,h⟩),λ p l M2 hp hM hE hS hl=>hN _ _ (F1.trans (hE.fl F1.aH)) (.inr ⟨p,l,rfl,(F1.aH.ne hp).1,hM,hS,hl⟩)⟩
  refine fin _ _ _ F1 el λ fd M2 F2 Qm=>?_
  walk_at "rd"
  refine gY ⟨Ru a cc n g m most M,⟨_,_,fd,none,none,rfl,el,uR,F2,rfl,Qm⟩,?_⟩
  rintro mm δ M' ⟨as,fd,v6,v7,rfl,ha,nK,F3,rfl,Qm⟩
  walk_at "rd"
  rcases Qm with⟨rfl,hh⟩|⟨p,l,rfl,oq,cO,hS,hl⟩
  ·refine m_ ?_
   walk_at "rd"
   refine⟨λ δ' M2=>∃m',m' < as.sum.toNat/\Ru a cc n g m most M m' δ' M2,λ _ _ h=>h,?_⟩
   walk_at "rd"
   rw[B7,ha]
   refine⟨cj (by omega) (by omega),?_⟩
   rw[u5]
   refine ip (λ i acc M2=>M2=M'/\∃hs:List Int,acc=hs.map D.int/\hs.length<=i/\(∀x∈hs,∃h:Nat,x=(h:Int)/\h < n/\0 < as.getD h 0)/\(∀h:Nat,h < i->0 < as.getD h 0->(h:Int)∈hs)) ⟨rfl,[],rfl,E9 _,(λ x h=>by cases h),(λ h q=>absurd q (by omega))⟩ (λ i acc M2 hi h=>?_) (λ i d acc M2 hd h=>?_) (λ acc M2 h=>?_)
   ·obtain⟨rfl,hs,rfl,l1,_⟩:=h
    rw[aV]at hi
    rw[B7]
    exact small (by omega)
   ·obtain⟨rfl,hs,rfl,l1,l2,l3⟩:=h
    obtain⟨hi,rfl⟩:=bQ hd
    walk_at "rd"
    refine jY (d:=.int (as.getD i 0)) (by rw[D8];exact eu (by omega)) ?_
    walk_at "rd"
    refine bo (λ hp=>?_) (λ hp=>?_)
    ·walk_at "rd"
     refine⟨rfl,hs++[(i:Int)],by rw[B9,D8];rfl,by rw[p6,l6];omega,λ x hx=>?_,λ h hh h2=>?_⟩
     ·rcases B8.mp hx with e|e
      ·exact l2 x e
      ·exact⟨i,r6.mp e,hi,hp⟩
     ·by_cases e:h < i
      ·exact m7 _ (l3 h e h2)
      ·have:h=i:=by omega
       subst this
       exact k9 _ (by simp)
    ·refine⟨rfl,hs,rfl,by omega,l2,λ h hh h2=>?_⟩
     by_cases e:h < i
     ·exact l3 h e h2
     ·have:h=i:=by omega
      subst this
      exact absurd h2 hp
   ·obtain⟨rfl,hs,rfl,l1,l2,l3⟩:=h
    rw[aV]at l1 l3
    intro t ht
    have PZ:=(F3.aH.ne ht).1
    have F4:=F3.trans (Fl.put (o:=.lst (hs.map D.int)) F3.aH ht)
    have gL:0 < hs.length:=by
     obtain⟨h,h1,h2⟩:=hh
     exact length_pos_of_mem (l3 h h1 h2)
    have gt:ai M2 t (.lst (hs.map D.int)) t=some (.lst (hs.map D.int)):=ag
    generalize ai M2 t (.lst (hs.map D.int))=M5 at*
    walk_at "rd"
    rw[B7]
    refine⟨a,cc,(hs.length:Nat),rfl,F4.aH,by omega,by omega,λ d o d0 d1 wH=>?_⟩
    have F5:=F4.trans (Fl.pick wH)
    have gt:=(Fl.pick wH).mv _ _ PZ gt
    generalize ai M5 a o=M6 at*
    obtain⟨y,rfl⟩:∃y:Nat,d=(y:Int):=⟨d.toNat,by omega⟩
    obtain⟨h,eh,hn,hp⟩:=l2 (hs.getD y 0) (by rw[g9,i9 (by omega)];exact A4 _)
    refine bP gt (eu (by omega)) ?_
    rw[eh]
    walk_at "rd"
    refine mZ (by omega) ?_
    walk_at "rd"
    refine jY (eu (by omega)) ?_
    walk_at "rd"
    refine⟨by show 1<=sizeLine;decide,?_⟩
    walk_at "rd"
    refine sP (by simp only[A3,B7,l6];exact small (by omega)) ?_
    walk_at "rd"
    refine vN (by omega) ?_
    refine sP (by simp only[p6,A3,y8,B7,l6];exact small (by omega)) ?_
    have e:D.tup ((as.map D.int).take (h:Int).toNat++[D.int (as.getD h 0 - 1)]++(as.map D.int).drop ((h:Int)+1).toNat)=row (less as h):=by
     rw[u5,show((h:Int)+1).toNat=h+1 by omega]
     unfold row less
     simp[map_take,map_drop]
    rw[e]
    walk_at "rd"
    refine fin _ _ _ F5 (by rw[fN (by omega),ha]) λ fd M7 F7 Qm=>?_
    walk_at "rd"
    refine⟨_,?_,_,fd,_,_,rfl,by rw[fN (by omega),ha],nz nK hp,F7,rfl,Qm⟩
    have s1:=CN (as:=as) (h:=h) (by omega)
    have s2:=xx (nz nK hp)
    omega
  ·refine iw (by simp[mQ,cO]) ?_
   walk_at "rd"
   exact⟨by show 2<=sizeLine;decide,aA (k as p l _ ha oq cO hS hl nK F3)⟩
end
def IB:fe:=λ ds M Q=>∃(a c:Addr) (m:Nat),ds=[.ref a,.int m]/\Flow M a c/\1<=m/\m<=5/\∀(n:Nat) (g:List aG) (M':Mem),cQ n g->Fl a c M M'->Q (cC g) M'
theorem Fl.free {f c:Addr}{M M':Mem}(h:Fl f c M M'){p:Addr}(hp:M' p=none):M p=none:=by
 cases z:M p with
 |none=>rfl
 |some u=>rw[h.mv p u (h.aH.ne hp).1 z]at hp;cases hp
def Oi(a:Addr)(i t:Nat)(M:Mem)(qs:List Addr):Prop:=∀q∈qs,q≠a/\∃hs:List Int,M q=some (.lst (hs.map D.int))/\hs.length<=t/\∀x∈hs,0<=x/\x < (i:Int)
theorem Oi.ext {a:Addr}{i t:Nat}{M M':Mem}{qs:List Addr}(h:Oi a i t M qs)(e:Ext M M'):Oi a i t M' qs:=λ q hq=>by
 obtain⟨h1,hs,h2,h3⟩:=h q hq
 exact⟨h1,hs,e _ _ h2,h3⟩
section
variable {P:Program}{w:World}{K:PySem.W.Frag}{mg:Str->Option Value}{base:Heap}
theorem br:aM ["_law_flow_here","_law_most","_law_many","_law_names_here","_law_options_here","_law_h","_law_rows","_law_g","_law_kept"] ["_law_flow_here","_law_most"] (ay (top 27)):=⟨rfl,rfl,rfl,by decide+kernel,rfl,by decide+kernel,by decide+kernel⟩
theorem LU{f:Addr}{fd:FuncData}(F:gM K "_law_doubles" "_law_doubles" (top 27) f fd)(T:jR K mg)(aw:bC P w K mg base 1 "_law_pick" ["_law_flow_here","_law_many"] eR)(ef:bC P w K mg base 3 "_law_names" ["_law_flow_here","_law_many"] lV)(cz:bC P w K mg base 1 "_law_counts" ["_law_heaps","_law_many"] gU)(cH:bC P w K mg base 4 "_law_in_order" ["_law_sums"] lX):bZ P w K mg base fE 5 f fd ["_law_flow_here","_law_most"] (cF K IB):=by
 refine jS F br (λ ds M Q h=>?_) (λ c_ A outer s H E ds M Q hr h=>?_)
 ·obtain⟨a,cc,m,rfl,_⟩:=h
  rfl
 ·obtain⟨a,cc,m,rfl,hF,bW,hm,k⟩:=h
  refine⟨_,(af (aB (i:=2) br.nd rfl (Or.inr rfl) (bh bp ao (aD aw (hr.mono (by decide)) (by rfl) (aa (ar 0) (aa (ar 1) ae)))))
 (af (aB (i:=3) br.nd rfl (Or.inr rfl) (aD ef (hr.mono (by decide)) (by rfl) (aa (ar 0) (aa (ar 2) ae))))
 (af (aB (i:=4) br.nd rfl (Or.inr rfl) (bR ae))
 (af (cR B3 rfl (aZ rfl T.range (aa (ar 2) ae)) (bg (i:=5) br.nd rfl (Or.inl rfl))
 (af (aB (i:=6) br.nd rfl (Or.inl rfl) (bR (aa (bR ae) ae)))
 (af (cR B3 rfl (aZ rfl T.range (aa (ar 5) ae)) (bg (i:=7) br.nd rfl (Or.inr rfl))
 (ak (aB (i:=6) br.nd rfl (Or.inl rfl) (bh bp (ar 6) (fw (tgs:=["_law_row"]) (fr:=[7]) ⟨bw (by kernel_rfl),rfl,(λ _ _ h=>h),(cf (ar 6)),(aO (λ _ _ _ _ _=>(aL (i:=0) (show(["_law_row","_law_g"]:List Str).Nodup by decide+kernel) rfl (Or.inl rfl))) (by decide)),(λ _ _ _ _ _=>bf),(λ _ _ _ _ _=>(bh bp (ar 0) (bR (aa (ar 1) ae))))⟩)))))
 (af (cG (i:=8) br.nd rfl (Or.inl rfl) (tgs:=["_law_row"]) (fr:=[0]) ⟨bw (by kernel_rfl),rfl,(λ _ _ h=>h),(cf (ar 6)),(aO (λ _ _ _ _ _=>(aL (i:=0) (show(["_law_row","_law_flow_here"]:List Str).Nodup by decide+kernel) rfl (Or.inl rfl))) (by decide)),(λ _ _ _ _ _=>(lS (aU tj (aD aw (hr.mono (by decide)) (by rfl) (aa (ar 1) (aa ao ae))) ao (aR _)))),(λ _ _ _ _ _=>(ar 0))⟩)
 (ak (cp (iL j4 i8 j0 bT (ar 4) (aa (aD cH (hr.mono (by decide)) (by rfl) (aa (fw (tgs:=["_law_row"]) (fr:=[2]) ⟨bw (by kernel_rfl),rfl,(λ _ _ h=>h),(cf (ar 8)),(aO (λ _ _ _ _ _=>(aL (i:=0) (show(["_law_row","_law_many"]:List Str).Nodup by decide+kernel) rfl (Or.inl rfl))) (by decide)),(λ _ _ _ _ _=>bf),(λ _ _ _ _ _=>(aD cz (hr.mono (by decide)) (by rfl) (aa (ar 0) (aa (ar 1) ae))))⟩) ae)) ae))))))))
 (ak (aJ (jU eI eJ (by rfl) T.tuple (by decide+kernel) (tgs:=["_law_h"]) (fr:=[3,4]) ⟨bw (by kernel_rfl),rfl,(λ _ _ h=>h),(aZ rfl T.range (aa (ar 2) ae)),(aO (λ _ _ _ _ _=>(aL (i:=0) (show(["_law_h","_law_names_here","_law_options_here"]:List Str).Nodup by decide+kernel) rfl (Or.inl rfl))) (by decide)),(λ _ _ _ _ _=>bf),(λ _ _ _ _ _=>(fG (aa (bN bD (ar 1) (ar 0) (λ _ _=>rfl)) (aa (bN bD (ar 2) (ar 0) (λ _ _=>rfl)) ae))))⟩))))))),?_⟩
  walk_at "rx"
  refine⟨a,cc,m,rfl,hF,by omega,by omega,λ d o h0 h1 vm=>?_⟩
  have F1:Fl a cc M _:=Fl.pick vm
  generalize ai M a o=M1 at*
  obtain⟨n,en⟩:∃n:Nat,1+d=(n:Int):=⟨(1+d).toNat,by omega⟩
  walk_at "rx"
  rw[en]
  refine⟨a,cc,n,rfl,F1.aH,by omega,λ p zs M2 hz hp cO F2=>?_⟩
  have F3:=F1.trans F2
  have oq:=(F1.aH.ne hp).1
  walk_at "rx"
  intro o yq
  have Dz:=(F3.aH.ne yq).1
  have F4:=F3.trans (Fl.put (o:=.lst []) F3.aH yq)
  have Qc:=aI cO yq
  have cO:ai M2 o (.lst []) p=some (.lst (zs.map D.str)):=by rw[ah Qc];exact cO
  have Oe:ai M2 o (.lst []) o=some (.lst (([]:List (List Row)).map dE)):=ag
  have N9:M o=none:=F3.free yq
  generalize ai M2 o (.lst [])=M3 at*
  walk_at "rx"
  refine⟨cj (by omega) (by omega),?_⟩
  rw[u5]
  refine dP (λ j δ M'=>∃(v5 v6 v7 v8:Option D) (aQ:List (List Row)),δ=[some (.ref a),some (.int m),some (.int n),some (.ref p),some (.ref o),v5,v6,v7,v8]/\M' p=some (.lst (zs.map D.str))/\M' o=some (.lst (aQ.map dE))/\aQ.length=j/\(∀i os,aQ[i]?=some os->os.length<=20/\∀r∈os,fZ n i r)/\Fl a cc M M') ⟨none,none,none,none,[],rfl,cO,Oe,rfl,λ i os h=>by simp at h,F4⟩ (λ j d δ M' hd h=>?_) (λ δ M' h=>?_)
  ·obtain⟨v5,v6,v7,v8,aQ,rfl,h1,h2,h3,h4,h5⟩:=h
   obtain⟨hj,rfl⟩:=bQ hd
   walk_at "rx"
   intro r0 Sh
   have Ui:=(h5.aH.ne Sh).1
   have F5:=h5.trans (Fl.put (o:=.lst []) h5.aH Sh)
   have g0:ai M' r0 (.lst []) r0=some (.lst (([]:List Int).map D.int)):=ag
   have h1:ai M' r0 (.lst []) p=some (.lst (zs.map D.str)):=by rw[ah (aI h1 Sh)];exact h1
   have h2:ai M' r0 (.lst []) o=some (.lst (aQ.map dE)):=by rw[ah (aI h2 Sh)];exact h2
   generalize ai M' r0 (.lst [])=M5 at*
   walk_at "rx"
   intro r1 qW
   have Uh:=(F5.aH.ne qW).1
   have F6:=F5.trans (Fl.put (o:=.lst [.ref r0]) F5.aH qW)
   have g1:ai M5 r1 (.lst [.ref r0]) r1=some (.lst ([r0].map D.ref)):=ag
   have g0:ai M5 r1 (.lst [.ref r0]) r0=some (.lst (([]:List Int).map D.int)):=by rw[ah (aI g0 qW)];exact g0
   have h1:ai M5 r1 (.lst [.ref r0]) p=some (.lst (zs.map D.str)):=by rw[ah (aI h1 qW)];exact h1
   have h2:ai M5 r1 (.lst [.ref r0]) o=some (.lst (aQ.map dE)):=by rw[ah (aI h2 qW)];exact h2
   generalize ai M5 r1 (.lst [.ref r0])=M6 at*
   walk_at "rx"
   show SH (0+(j:Int))/\_
   rw[D8]
   refine⟨cj (by omega) (by omega),?_⟩
   rw[u5]
   refine dP (λ t δ M'=>∃(r:Addr) (v7:Option D) (qs:List Addr),δ=[some (.ref a),some (.int m),some (.int n),some (.ref p),some (.ref o),some (.int (j:Nat)),some (.ref r),v7,v8]/\Ext M6 M'/\M' r=some (.lst (qs.map D.ref))/\r≠a/\qs.length<=2^t/\Oi a j t M' qs) ⟨r1,v7,[r0],by rw[D8]at*;rfl,λ b o e=>e,g1,Uh,E9 _,λ q hq=>?_⟩ (λ t d δ M' hd h=>?_) (λ δ M' h=>?_)
   ·rw[r6.mp hq]
    exact⟨Ui,[],g0,E9 _,λ x hx=>by cases hx⟩
   ·obtain⟨r,v7,qs,rfl,hE,hr,VH,Uj,hR⟩:=h
    obtain⟨ht,rfl⟩:=bQ hd
    have X3:(2:Nat)^t<=16:=E8 (Nat.pow_le_pow_right (by decide) (show t<=4 by omega)) (by decide)
    walk_at "rx"
    refine uT (xs:=qs) D.ref D.ref (λ ys M2=>Ext M' M2/\Oi a j (t+1) M2 ys) (by omega) ⟨λ b o e=>e,λ q h=>by cases h⟩ (λ ys M2 h=>h.1 _ _ hr) (λ i x ys M2 N hx hy h hN=>?_) (λ ys M2 T5 h=>?_)
    ·obtain⟨Je,MY⟩:=h
     obtain⟨Y_,hs,MD,Y9,PV⟩:=hR x (m6 hx)
     have MD:=Je _ _ MD
     walk_at "rx"
     intro q hq
     have U0:=Je.new hq (.lst [.int (0+(t:Int))])
     have T9:ai M2 q (.lst [.int (0+(t:Int))]) x=some (.lst (hs.map D.int)):=by rw[ah (aI MD hq)];exact MD
     have XN:=MY.ext (Ext.new (λ b o e=>e) hq (.lst [.int (0+(t:Int))]))
     refine nc T9 ag (by rw[B7,l6];exact small (by omega)) λ q2 vh=>hN q2 _ ⟨U0.new vh _,λ y hy=>?_⟩
     rcases B8.mp hy with z|z
     ·exact(XN.ext (Ext.new (λ b o e=>e) vh _)) y z
     ·rw[r6.mp z]
      have fl:Flow M2 a cc:=(((F6.trans (hE.fl F6.aH)).trans (Je.fl (F6.trans (hE.fl F6.aH)).aH))).aH
      refine⟨((fl.put hq).ne vh).1,hs++[(t:Int)],by rw[ag,B9,D8];rfl,by rw[p6,l6];omega,λ v hv=>?_⟩
      rcases B8.mp hv with w|w
      ·exact PV v w
      ·rw[r6.mp w];omega
    ·obtain⟨Je,MY⟩:=h
     intro q hq
     have X9:Flow M2 a cc:=(((F6.trans (hE.fl F6.aH)).trans (Je.fl (F6.trans (hE.fl F6.aH)).aH))).aH
     have Hz:=Je _ _ hr
     walk_at "rx"
     refine nc (by rw[ah (aI Hz hq)];exact Hz) ag (by rw[B7,B7];exact small (by omega)) λ q2 vh=>?_
     walk_at "rx"
     have e2:Ext M2 (ai (ai M2 q (.lst (ys.map D.ref))) q2 (.lst (qs.map D.ref++ys.map D.ref))):=(Ext.new (λ b o e=>e) hq _).new vh _
     refine⟨q2,_,qs++ys,rfl,(hE.trans Je).trans e2,by rw[ag,B9],((X9.put hq).ne vh).1,by rw[p6,Nat.pow_succ];omega,λ y hy=>?_⟩
     rcases B8.mp hy with z|z
     ·obtain⟨z1,hs,z2,z3,z4⟩:=hR.ext (Je.trans e2) y z
      exact⟨z1,hs,z2,by omega,z4⟩
     ·exact MY.ext e2 y z
   ·obtain⟨r,v7,qs,rfl,hE,hr,VH,Uj,hR⟩:=h
    rw[aV]at Uj hR
    have X3:(2:Nat)^j<=16:=E8 (Nat.pow_le_pow_right (by decide) (show j<=4 by omega)) (by decide)
    have F7:=F6.trans (hE.fl F6.aH)
    have h1:=hE _ _ h1
    have h2:=hE _ _ h2
    walk_at "rx"
    refine jJ (ds:=qs.map D.ref) (λ i acc M2=>∃ks:List Addr,acc=ks.map D.ref/\ks.length<=i/\(∀q∈ks,q∈qs)/\Fl a cc M' M2) ⟨[],rfl,E9 _,(λ q h=>by cases h),⟨F7.aH,λ b o _ e=>e⟩⟩ (λ i acc M2 hi h=>?_) (λ i acc M2 hi h=>?_) (λ i d acc M2 hd h=>?_) (λ acc M2 h=>?_)
    ·obtain⟨ks,_,_,_,F8⟩:=h
     exact F8.mv _ _ VH hr
    ·obtain⟨ks,rfl,hk,_⟩:=h
     rw[B7]at hi ⊢
     exact small (by omega)
    ·obtain⟨ks,rfl,VV,Sm,F8⟩:=h
     rw[s9]at hd
     cases e:qs[i]? with
     |none=>rw[e]at hd;cases hd
     |some q=>
      rw[e]at hd
      cases hd
      walk_at "rx"
      refine⟨a,cc,12,rfl,F8.aH,by decide,by decide,λ d1 o1 _ _ UR=>?_⟩
      have F9:=F8.trans (Fl.pick UR)
      walk_at "rx"
      refine bo (λ _=>?_) (λ _=>?_)
      ·walk_at "rx"
       refine⟨ks++[q],by rw[B9];rfl,by rw[p6,l6];omega,λ y hy=>?_,F9⟩
       rcases B8.mp hy with z|z
       ·exact Sm y z
       ·rw[r6.mp z];exact m6 e
      ·exact⟨ks,rfl,by omega,Sm,F9⟩
    ·obtain⟨ks,rfl,VV,Sm,F8⟩:=h
     rw[B7]at VV
     have h1:=F8.mv _ _ oq h1
     have h2:=F8.mv _ _ Dz h2
     have hR:Oi a j j M2 ks:=λ q hq=>by
      obtain⟨z1,hs,z2,z3⟩:=hR q (Sm q hq)
      exact⟨z1,hs,F8.mv _ _ z1 z2,z3⟩
     have F9:=F7.trans F8
     intro v hv
     have Wm:=F9.trans (Fl.put (o:=.lst (ks.map D.ref)) F9.aH hv)
     have hR:=hR.ext (Ext.new (λ b o e=>e) hv (.lst (ks.map D.ref)))
     have h1:ai M2 v (.lst (ks.map D.ref)) p=some (.lst (zs.map D.str)):=by rw[ah (aI h1 hv)];exact h1
     have h2:ai M2 v (.lst (ks.map D.ref)) o=some (.lst (aQ.map dE)):=by rw[ah (aI h2 hv)];exact h2
     have gv:ai M2 v (.lst (ks.map D.ref)) v=some (.lst (ks.map D.ref)):=ag
     generalize ai M2 v (.lst (ks.map D.ref))=M9 at*
     walk_at "rx"
     refine⟨⟨rfl,_,h2⟩,?_⟩
     walk_at "rx"
     refine jJ (ds:=ks.map D.ref) (λ i acc M'=>M'=M9/\∃os:List Row,acc=os.map row/\os.length<=i/\∀r∈os,fZ n j r) ⟨rfl,[],rfl,E9 _,λ r h=>by cases h⟩ (λ i acc M' hi h=>?_) (λ i acc M' hi h=>?_) (λ i d acc M' hd h=>?_) (λ acc M' h=>?_)
     ·obtain⟨rfl,_⟩:=h
      exact gv
     ·obtain⟨rfl,os,rfl,o1,_⟩:=h
      rw[B7]at hi ⊢
      exact small (by omega)
     ·obtain⟨rfl,os,rfl,o1,o2⟩:=h
      rw[s9]at hd
      cases e:ks[i]? with
      |none=>rw[e]at hd;cases hd
      |some q=>
       rw[e]at hd
       cases hd
       obtain⟨Ez,hs,q_,hh,hx⟩:=hR q (m6 e)
       walk_at "rx"
       refine⟨q,hs,n,rfl,q_,by omega,rfl,os++[iU hs n],by rw[B9];rfl,by rw[p6,l6];omega,λ r hr=>?_⟩
       rcases B8.mp hr with z|z
       ·exact o2 r z
       ·rw[r6.mp z];exact nj (by omega) hx
     ·obtain⟨rfl,os,rfl,o1,o2⟩:=h
      rw[B7]at o1
      intro p2 h_
      have h1:ai M' p2 (.lst (os.map row)) p=some (.lst (zs.map D.str)):=by rw[ah (aI h1 h_)];exact h1
      have h2:ai M' p2 (.lst (os.map row)) o=some (.lst (aQ.map dE)):=by rw[ah (aI h2 h_)];exact h2
      have Y4:=Wm.trans (Fl.put (o:=.lst (os.map row)) Wm.aH h_)
      walk_at "rx"
      refine⟨_,os,rfl,.inr ⟨p2,rfl,ag⟩,by omega,λ r hr=>by rw[(o2 r hr).len];omega,λ out ho Ul=>?_⟩
      generalize ai M' p2 (.lst (os.map row))=Vl at*
      walk_at "rx"
      refine cW h2 (by rw[B7];exact q8 (show aQ.length<=100 by omega) (by decide)) ?_
      walk_at "rx"
      refine⟨_,_,_,_,aQ++[out],rfl,by rw[ah Qc];exact h1,by rw[ag,B9];rfl,by rw[p6,l6,h3],qx h4 (by omega) λ r hr=>by rw[h3];exact o2 r (ho r hr),Fl.own Y4 hF N9⟩
  ·obtain⟨v5,v6,v7,v8,aQ,rfl,h1,h2,h3,h4,h5⟩:=h
   rw[aV]at h3
   walk_at "rx"
   refine⟨cj (by omega) (by omega),?_⟩
   rw[u5]
   refine dX (xs:=List.range n) (enc:=ID) (λ i=>eW (zs.getD i (Str.ofString ""),aQ.getD i [])) (by simp;omega) (λ i x N hx hN=>?_) ?_
   ·have hi:=(i6.mp hx).1
    have ME:x=i:=by rw[n5 (by simpa using hi)]at hx;exact(B2 hx).symm
    subst ME
    rw[w9]at hi
    walk_at "rx"
    refine bP h1 (d:=.str (zs.getD x (Str.ofString ""))) (by rw[D8];exact bV (by rw[s9,i9 (by omega),g9,i9 (by omega)];rfl)) ?_
    walk_at "rx"
    refine bP h2 (d:=dE (aQ.getD x [])) (by rw[D8];exact bV (by rw[s9,i9 (by omega),g9,i9 (by omega)];rfl)) ?_
    walk_at "rx"
    exact hN
   ·rw[mH hz h3]
    walk_at "rx"
    exact aA (k n _ _ (rh (by omega) hz h3 h4) h5)
end
def xC:fe:=λ ds M Q=>∃(a c:Addr),ds=[.ref a]/\Flow M a c/\∀(n:Nat) (g:List aG) (M':Mem),cQ n g->Fl a c M M'->Q (cC g) M'
section
variable {P:Program}{w:World}{K:PySem.W.Frag}{mg:Str->Option Value}{base:Heap}
theorem qj:aM ["_law_flow_here"] ["_law_flow_here"] (ay (top 28)):=⟨rfl,rfl,rfl,by decide+kernel,rfl,by decide+kernel,by decide+kernel⟩
theorem Cq{f:Addr}{fd:FuncData}(F:gM K "_law_drawn" "_law_drawn" (top 28) f fd)(T:jR K mg)(aw:bC P w K mg base 1 "_law_pick" ["_law_flow_here","_law_many"] eR)(oK:bC P w K mg base 5 "_law_doubles" ["_law_flow_here","_law_most"] IB)(Ad:bC P w K mg base 5 "_law_nim" ["_law_flow_here","_law_most"] Iz)(wO:bC P w K mg base 6 "_law_game" ["_law_flow_here","_law_most","_law_deep"] Ba):bZ P w K mg base fE 7 f fd ["_law_flow_here"] (cF K xC):=by
 refine jS F qj (λ ds M Q h=>?_) (λ c_ A outer s H E ds M Q hr h=>?_)
 ·obtain⟨a,cc,rfl,_⟩:=h
  rfl
 ·obtain⟨a,cc,rfl,hF,k⟩:=h
  refine⟨_,(af (cb (aU (d_ hr.units) (aD aw (hr.mono (by decide)) (by rfl) (aa (ar 0) (aa ao ae))) ao (aR _))
 (ak (aJ (aD oK (hr.mono (by decide)) (by rfl) (aa (ar 0) (aa ao ae)))))
 bj)
 (af (cb (aU (d_ hr.units) (aD aw (hr.mono (by decide)) (by rfl) (aa (ar 0) (aa ao ae))) ao (aR _))
 (ak (aJ (bN bD (aD Ad (hr.mono (by decide)) (by rfl) (aa (ar 0) (aa ao ae))) ao (λ _ _=>rfl))))
 bj)
 (ak (aJ (aD wO (hr.mono (by decide)) (by rfl) (aa (ar 0) (aa ao (aa ao ae)))))))),?_⟩
  walk_at "rx"
  refine⟨a,cc,3,rfl,hF,by decide,by decide,λ d1 o1 _ _ vm=>?_⟩
  have F1:Fl a cc M _:=Fl.pick vm
  generalize ai M a o1=M1 at*
  walk_at "rx"
  refine bo (λ _=>?_) (λ _=>?_)
  ·walk_at "rx"
   refine⟨a,cc,5,rfl,F1.aH,by decide,by decide,λ n g M2 G F2=>?_⟩
   walk_at "rx"
   exact aA (k n g _ G (F1.trans F2))
  ·walk_at "rx"
   refine⟨a,cc,4,rfl,F1.aH,by decide,by decide,λ d2 o2 _ _ AB=>?_⟩
   have F2:=F1.trans (Fl.pick AB)
   generalize ai M1 a o2=M2 at*
   walk_at "rx"
   refine bo (λ _=>?_) (λ _=>?_)
   ·walk_at "rx"
    refine⟨a,cc,6,rfl,F2.aH,by decide,by decide,λ n g s M3 hn G F3=>?_⟩
    walk_at "rx"
    exact aA (k n g _ G (F2.trans F3))
   ·walk_at "rx"
    refine⟨a,cc,6,6,rfl,F2.aH,by decide,by decide,λ n g M3 hn G F3=>?_⟩
    walk_at "rx"
    exact aA (k n g _ G (F2.trans F3))
end
theorem yR(g:List aG)(i:Nat):((g.map λ h:aG=>((h.1,[]):aG)).getD i eN).2=[]:=by
 rw[g9,s9]
 cases g[i]? <;> rfl
theorem yQ{n:Nat}{g:List aG}(G:cQ n g):cQ n (g.map λ h=>(h.1,[])):=by
 refine⟨by rw[B7];exact G.len,G.ur,λ i hi=>?_⟩
 rw[yR]
 exact⟨G5 _,λ r h=>by cases h⟩
theorem Rb(g:List aG):D.tup (g.map λ h=>D.tup [.str h.1,.tup []])=cC (g.map λ h=>(h.1,[])):=by
 unfold cC
 rw[E4]
 rfl
theorem rN(g:List aG):∀i,cA (g.map λ h=>(h.1,[])) i=List.replicate i 0
 |0=>rfl
 |i+1=>by
  show cA _ i++[IU _]=_
  rw[rN g i,yR,replicate_succ']
  rfl
theorem xi:∀(as:Row) (n:Nat),xd as (List.replicate n 0)=0
 |[],n=>by simp[xd]
 |a::as,0=>by simp[xd]
 |a::as,n+1=>by rw[n9,xd,xi as n];split <;> rfl
section
variable {P:Program}{w:World}{K:PySem.W.Frag}{mg:Str->Option Value}{base:Heap}
theorem fz:aM ["_law_script","_law_flow_here","_law_game_here","_law_due","_law_found","_law_told","_law_bare","_law_great","_law_counts_here","_law_sums"] ["_law_script"] (ay (top 29)):=⟨rfl,rfl,rfl,by decide+kernel,rfl,by decide+kernel,by decide+kernel⟩
theorem LR{f:Addr}{fd:FuncData}(F:gM K "law" "law" (top 29) f fd)(T:jR K mg)(wQ:bC P w K mg base 1 "_law_flow" ["_law_script"] Bb)(aw:bC P w K mg base 1 "_law_pick" ["_law_flow_here","_law_many"] eR)(uH:bC P w K mg base 7 "_law_drawn" ["_law_flow_here"] xC)(oI:bC P w K mg base 2 "_law_numbers" ["_law_game_here"] sE)(fT:bC P w K mg base 2 "numbers" ["game"] sE)(cm:bC P w K mg base 4 "_law_alike" ["_law_found","_law_due"] (xD 3))(nT:bC P w K mg base 6 "_law_walkable" ["_law_flow_here","_law_game_here","_law_many","_law_most"] Iw)(fm:bC P w K mg base 3 "number_of" ["game","counts"] Iy)(eG:bC P w K mg base 1 "_law_number" ["_law_values","_law_counts_here"] vG)(ig:bC P w K mg base 304 "_law_loses" ["_law_game_here","_law_counts_here","_law_last","_law_known"] (JP 301))(eg:bC P w K mg base 2 "_law_moves" ["_law_game_here","_law_counts_here"] lW)(lM:bC P w K mg base 2 "_law_great_sum" ["_law_flow_here","_law_many"] xB):bZ P w K mg base fE 305 f fd ["_law_script"] (cF K sF):=by
 refine jS F fz (λ ds M Q h=>?_) (λ c_ A outer s H E ds M Q hr h=>?_)
 ·obtain⟨a,rfl,_⟩:=h
  rfl
 ·obtain⟨ns,rfl,k⟩:=h
  refine⟨_,(af (aB (i:=1) fz.nd rfl (Or.inl rfl) (aD wQ (hr.mono (by decide)) (by rfl) (aa (ar 0) ae)))
 (af (aB (i:=2) fz.nd rfl (Or.inr rfl) (aD uH (hr.mono (by decide)) (by rfl) (aa (ar 1) ae)))
 (af (aB (i:=3) fz.nd rfl (Or.inl rfl) (aD oI (hr.mono (by decide)) (by rfl) (aa (ar 2) ae)))
 (af (aB (i:=4) fz.nd rfl (Or.inl rfl) (aD fT (hr.mono (by decide)) (by rfl) (aa (ar 2) ae)))
 (af (cb (pZ (gQ (aD cm (hr.mono (by decide)) (by rfl) (aa (ar 4) (aa (ar 3) ae)))))
 (ak (aJ p_))
 bj)
 (af (cp (Io j4 PySem.F.slot_list_clear PySem.F.type_list_clear Hd (ar 4)))
 (af (cp (iL j4 i8 j0 bT (ar 4) (aa sj ae)))
 (af (eP (aD nT (hr.mono (by decide)) (by rfl) (aa (ar 1) (aa (ar 2) (aa ao (aa ao ae))))) (iK (n:=2) rfl (bM (bg (i:=8) fz.nd rfl (Or.inl rfl)) (bM (bg (i:=9) fz.nd rfl (Or.inl rfl)) gf))))
 (af (aB (i:=5) fz.nd rfl (Or.inl rfl) (aD fm (hr.mono (by decide)) (by rfl) (aa (ar 2) (aa (ar 8) ae))))
 (af (cb (r_ (pZ (gQ (aD cm (hr.mono (by decide)) (by rfl) (aa (ar 5) (aa (aD eG (hr.mono (by decide)) (by rfl) (aa (ar 3) (aa (ar 8) ae))) ae))))) (mK (aU (xX hr.units) (jb (d_ hr.units) (ar 5) ao (aR _)) (aD ig (hr.mono (by decide)) (by rfl) (aa (ar 2) (aa (ar 8) (aa ja (aa (JA true) ae))))) (aR _)))).pt
 (ak (aJ p_))
 bj)
 (af (cb (aU (Pp hr.units) (ar 5) (fw (tgs:=["_law_move"]) (fr:=[2]) ⟨bw (by kernel_rfl),rfl,(λ _ _ h=>h),(cf (gg mX (aD eg (hr.mono (by decide)) (by rfl) (aa (ar 2) (aa (ar 8) ae))) gc (gb ao))),(aO (λ _ _ _ _ _=>(aL (i:=0) (show(["_law_move","_law_game_here"]:List Str).Nodup by decide+kernel) rfl (Or.inl rfl))) (by decide)),(λ _ _ _ _ _=>bf),(λ _ _ _ _ _=>(aD fm (hr.mono (by decide)) (by rfl) (aa (ar 1) (aa (bN (AQ hr.units) (ar 0) ao (λ _ _=>rfl)) ae))))⟩) rfl)
 (ak (aJ p_))
 bj)
 (af (aB (i:=6) fz.nd rfl (Or.inl rfl) (jU eI eJ (by rfl) T.tuple (by decide+kernel) (tgs:=["_law_name_here","_law_options_here"]) (fr:=[]) ⟨bw (by kernel_rfl),rfl,(λ _ _ h=>h),(cf (ar 2)),(mL (λ _ _ _ _ _=>(qw rfl (eU (aL (i:=0) (show(["_law_name_here","_law_options_here"]:List Str).Nodup by decide+kernel) rfl (Or.inl rfl)) (eU (aL (i:=1) (show(["_law_name_here","_law_options_here"]:List Str).Nodup by decide+kernel) rfl (Or.inl rfl)) mj)))) (by decide) (by decide)),(λ _ _ _ _ _=>bf),(λ _ _ _ _ _=>(fG (aa (ar 0) (aa (fG ae) ae))))⟩))
 (af (cb (r_ (pZ (gQ (aD cm (hr.mono (by decide)) (by rfl) (aa (aD fT (hr.mono (by decide)) (by rfl) (aa (ar 6) ae)) (aa (bh gu (bR (aa ao ae)) (aP rL (by rfl) T.len (by decide+kernel) (aa (ar 2) ae))) ae))))) (mK (pZ (gQ (aD cm (hr.mono (by decide)) (by rfl) (aa (aD fm (hr.mono (by decide)) (by rfl) (aa (ar 6) (aa (ar 8) ae))) (aa ao ae))))))).pt
 (ak (aJ p_))
 bj)
 (af (aB (i:=7) fz.nd rfl (Or.inl rfl) (aD lM (hr.mono (by decide)) (by rfl) (aa (ar 1) (aa (aP rL (by rfl) T.len (by decide+kernel) (aa (ar 2) ae)) ae))))
 (ak (aJ (w_and (aD cm (hr.mono (by decide)) (by rfl) (aa (aD fm (hr.mono (by decide)) (by rfl) (aa (ar 2) (aa (ar 7) ae))) (aa (aD eG (hr.mono (by decide)) (by rfl) (aa (ar 3) (aa (ar 7) ae))) ae))) (sg (aD cm (hr.mono (by decide)) (by rfl) (aa (aD fT (hr.mono (by decide)) (by rfl) (aa (ar 2) ae)) (aa (ar 3) ae))))))))))))))))))))),?_⟩
  walk_at "rx"
  refine⟨ns,rfl,λ a cc M0 XX=>?_⟩
  walk_at "rx"
  refine⟨a,cc,rfl,XX,λ n g M2 G F2=>?_⟩
  have hfew:=G.ur
  have Zh:=fg g n
  have Wh:∀(M1:Mem) (p q:Addr) (N:bL),M1 p=some (.lst ((cA g n).map nd))->M1 q=some (.lst ((cA g n).map nd))->N (.bl true) M1->xD 3 [.ref p,.ref q] M1 N:=λ M1 p q N h1 h2 hN=>
   ⟨_,_,rfl,sI h1 h2 (by rw[B7];omega) λ d hd=>by
    obtain⟨r,hr,rfl⟩:=E3.mp hd
    exact same_int _ 1 _,hN⟩
  walk_at "rx"
  refine⟨n,g,rfl,G,λ p M3 hp cO U0=>?_⟩
  have F3:=F2.trans (U0.fl F2.aH)
  have oq:=(F2.aH.ne hp).1
  walk_at "rx"
  refine⟨n,g,rfl,G,λ q M4 hq q_ V7=>?_⟩
  have oo:=aI cO hq
  have cO:=V7 _ _ cO
  have Ez:=(F3.aH.ne hq).1
  have Xe:=(F3.aH.ne hq).2
  have F4:=F3.trans (V7.fl F3.aH)
  walk_at "rx"
  refine Wh _ _ _ _ q_ cO ?_
  walk_at "rx"
  refine⟨⟨rfl,_,q_⟩,?_⟩
  refine BI q_ ?_
  have cO:ai M4 q (.lst []) p=some (.lst ((cA g n).map nd)):=by rw[ah oo];exact cO
  walk_at "rx"
  refine⟨⟨rfl,_,ag⟩,?_⟩
  walk_at "rx"
  refine cW ag (by show 0 < sizeLine;decide) ?_
  have cO:ai (ai M4 q (.lst [])) q (.lst ([]++[D.bx])) p=some (.lst ((cA g n).map nd)):=by rw[ah oo];exact cO
  have wH:Flow (ai (ai M4 q (.lst [])) q (.lst ([]++[D.bx]))) a cc:=by
   obtain⟨ns,pp,b,sd,ct,e1,e2,e3⟩:=F4.aH
   exact⟨ns,pp,b,sd,ct,by rw[cK,ah (J8 Ez)];exact e1,by rw[cK,ah (J8 Xe)];exact e2,e3⟩
  generalize ai (ai M4 q (.lst [])) q (.lst ([]++[D.bx]))=M5 at*
  walk_at "rx"
  refine⟨a,cc,n,g,3,300,rfl,wH,G,by decide,by decide,by decide,λ as p2 l M6 ha Xh XS hS hl nK F6=>?_⟩
  have cO:=F6.mv _ _ oq cO
  have hs:kC n as:=⟨ha,nK⟩
  have XM:∀r,vn (dF g n) as r->kC n r:=λ r h=>h.closed hs λ b c hb hc=>jZ G hb hc
  walk_at "rx"
  refine⟨n,g,as,rfl,G,by omega,λ M7 V6=>?_⟩
  have cO:=V6 _ _ cO
  walk_at "rx"
  refine⟨p,cA g n,as,rfl,cO,by omega,by omega,?_⟩
  refine⟨_,_,rfl,same_int _ 2 _,?_⟩
  walk_at "rx"
  intro kn MP
  have VU:=aI cO MP
  have F7:=F6.trans (V6.fl F6.aH)
  have Xz:=(F7.aH.ne MP).1
  have Xy:=(F7.aH.ne MP).2
  have cO:ai M7 kn (.dG true []) p=some (.lst ((cA g n).map nd)):=by rw[ah VU];exact cO
  have F8:=F7.trans (Fl.put (o:=.dG true []) F7.aH MP)
  have Qv:ai M7 kn (.dG true []) kn=some (.dG true (i_ [])):=ag
  generalize ai M7 kn (.dG true [])=M8 at*
  walk_at "rx"
  refine⟨n,g,as,_,kn,l,[],rfl,G,(hS.mem as).mpr .base,λ b hb=>XM b ((hS.mem b).mp hb),λ b hb c hc=>(hS.mem c).mpr (.step ((hS.mem b).mp hb) hc),by omega,q8 (E8 (countP_le_length ..) hl) (by decide),Qv,yU.nil,λ kvs M9 Zo Zn U5=>?_⟩
  have cO:=U5 _ _ VU cO
  have UR:Flow M9 a cc:=by
   obtain⟨ns,pp,b,sd,ct,e1,e2,e3⟩:=F8.aH
   exact⟨ns,pp,b,sd,ct,U5 _ _ Xz.symm e1,U5 _ _ Xy.symm e2,e3⟩
  have eL:fM g n (decide ((Str.ofString "wins")=iB)) as=decide ((xd as (cA g n):Int)=0):=by
   rw[show decide ((Str.ofString "wins")=iB)=true from C1 rfl,zY G hs,A5,u4,u4]
   omega
  rw[eL]
  walk_at "rx"
  rw[C1 (rfl:decide ((xd as (cA g n):Int)=0)=decide ((xd as (cA g n):Int)=0)),Bool.not_true]
  walk_at "rx"
  refine⟨n,g,as,rfl,G,ha,λ r Om hr XR Qz=>?_⟩
  have cO:=Qz _ _ cO
  have UZ:=(Qz.fl UR).aH
  walk_at "rx"
  refine ph XR (by decide) λ r2 Hz=>?_
  have cO:ai Om r2 (.lst ((kb g as n).take (12:Int).toNat)) p=some (.lst ((cA g n).map nd)):=by rw[ah (aI cO Hz)];exact cO
  have UY:Flow (ai Om r2 (.lst ((kb g as n).take (12:Int).toNat))) a cc:=UZ.put Hz
  have UN:ai Om r2 (.lst ((kb g as n).take (12:Int).toNat)) r2=some (.lst ((kb g as n).take (12:Int).toNat)):=ag
  generalize ai Om r2 (.lst ((kb g as n).take (12:Int).toNat))=Vl at*
  walk_at "rx"
  refine jJ (ds:=(kb g as n).take (12:Int).toNat) (λ i acc M'=>Ext Vl M'/\∃cs:List Row,acc=cs.map (λ c=>nd (xd c (cA g n)))/\cs.length<=i/\∀c∈cs,c∈dF g n as) ⟨λ b o e=>e,[],rfl,E9 _,λ c h=>by cases h⟩ (λ i acc M' hi h=>h.1 _ _ UN) (λ i acc M' hi h=>?_) (λ i d acc M' hd h=>?_) (λ acc M' h=>?_)
  ·obtain⟨_,cs,rfl,h1,_⟩:=h
   have:(12:Int).toNat=12:=rfl
   rw[A3,this]at hi
   rw[B7]
   exact small (by omega)
  ·obtain⟨hE,cs,rfl,h1,h2⟩:=h
   have hd:(kb g as n)[i]?=some d:=by
    rw[getElem?_take]at hd
    split at hd
    ·exact hd
    ·cases hd
   obtain⟨a1,a2,b,rfl,hb⟩:=qF g as n i d hd
   have V1:b∈dF g n as:=m6 hb
   walk_at "rx"
   refine xM ?_
   walk_at "rx"
   refine⟨n,g,b,rfl,G,by rw[(jZ G hs V1).len];omega,λ ZA U3=>⟨hE.trans U3,cs++[b],by rw[B9];rfl,by rw[p6,l6];omega,λ c hc=>?_⟩⟩
   rcases B8.mp hc with z|z
   ·exact h2 c z
   ·rw[r6.mp z];exact V1
  ·obtain⟨hE,cs,rfl,h1,h2⟩:=h
   have cO:=hE _ _ cO
   have UX:=(hE.fl UY).aH
   intro r3 VI
   have cO:ai M' r3 (.lst (cs.map λ c=>nd (xd c (cA g n)))) p=some (.lst ((cA g n).map nd)):=by rw[ah (aI cO VI)];exact cO
   have UW:Flow (ai M' r3 (.lst (cs.map λ c=>nd (xd c (cA g n))))) a cc:=UX.put VI
   refine .inl (mf (a:=r3) (ds:=(cs.map λ c=>xd c (cA g n)).map nd) (by rw[ag,E4];rfl) (qQ _ _) ?_)
   rw[A9 (by
    intro z
    rw[E4]at z
    obtain⟨c,hc,e⟩:=E3.mp z
    have e:((xd c (cA g n):Nat):Int)=xd as (cA g n):=e
    exact sm G ha (h2 c hc) (by omega))]
   generalize ai M' r3 (.lst (cs.map λ c=>nd (xd c (cA g n))))=Zz at*
   walk_at "rx"
   refine dX (xs:=g) (enc:=eW) (λ h=>.tup [.str h.1,.tup []]) (by rw[G.len];omega) (λ i x N hx hN=>?_) ?_
   ·unfold eW
    walk_at "rx"
    exact hN
   ·rw[Rb]
    walk_at "rx"
    refine⟨n,_,rfl,yQ G,λ t Rl ht DG Qy=>?_⟩
    rw[rN]at DG
    have cO:=Qy _ _ cO
    have UU:=(Qy.fl UW).aH
    walk_at "rx"
    intro u hu
    have cO:ai Rl u (.lst [.int 0]) p=some (.lst ((cA g n).map nd)):=by rw[ah (aI cO hu)];exact cO
    have DG:ai Rl u (.lst [.int 0]) t=some (.lst ((List.replicate n 0).map nd)):=by rw[ah (aI DG hu)];exact DG
    have UT:Flow (ai Rl u (.lst [.int 0])) a cc:=UU.put hu
    have XQ:ai Rl u (.lst [.int 0]) u=some (.lst [.int 0]):=ag
    generalize ai Rl u (.lst [.int 0])=Vk at*
    walk_at "rx"
    refine sO (qr ?_)
    rw[G.len]
    walk_at "rx"
    refine sN XQ (by omega) (by omega) λ v hv=>?_
    have cO:ai Vk v (.lst (List.replicate (n:Int).toNat (.int 0))) p=some (.lst ((cA g n).map nd)):=by rw[ah (aI cO hv)];exact cO
    have US:Flow (ai Vk v (.lst (List.replicate (n:Int).toNat (.int 0)))) a cc:=UT.put hv
    walk_at "rx"
    refine⟨_,_,rfl,sI (ds:=(List.replicate n 0).map nd) (by rw[ah (aI DG hv)];exact DG) (by rw[ag,u5,map_replicate];rfl) (by rw[B7,l8];omega) λ d hd=>?_,?_⟩
    ·obtain⟨x,_,rfl⟩:=E3.mp hd
     exact same_int _ 1 _
    ·generalize ai Vk v (.lst (List.replicate (n:Int).toNat (.int 0)))=Zy at*
     walk_at "rx"
     refine⟨n,_,as,rfl,yQ G,by omega,λ Zx Qx=>?_⟩
     rw[rN,xi]
     have cO:=Qx _ _ cO
     have Y3:=(Qx.fl US).aH
     walk_at "rx"
     refine⟨_,_,rfl,same_int _ 2 _,?_⟩
     walk_at "rx"
     refine sO (qr ?_)
     rw[G.len]
     walk_at "rx"
     refine⟨a,cc,n,rfl,Y3,by omega,λ ms Zw Si Xq Y2=>?_⟩
     have cO:=Y2.mv _ _ oq cO
     walk_at "rx"
     refine⟨n,g,ms,rfl,G,by omega,λ Zv U2=>?_⟩
     have cO:=U2 _ _ cO
     walk_at "rx"
     refine⟨p,cA g n,ms,rfl,cO,by omega,by omega,?_⟩
     refine⟨_,_,rfl,same_int _ 2 _,?_⟩
     walk_at "rx"
     refine⟨n,g,rfl,G,λ Y6 Zu Xf Qr U1=>?_⟩
     walk_at "rx"
     refine Wh _ _ _ _ Qr (U1 _ _ cO) ?_
     walk_at "rx"
     exact aA (k _)
end
theorem Dh(K:PySem.W.Frag):gJ K "bool":=⟨by kernel_rfl,by kernel_rfl,by kernel_rfl,by kernel_rfl,by kernel_rfl,by kernel_rfl⟩
theorem Hr(K:PySem.W.Frag):gJ K "int":=⟨by kernel_rfl,by kernel_rfl,by kernel_rfl,by kernel_rfl,by kernel_rfl,by kernel_rfl⟩
theorem Dg(K:PySem.W.Frag):gJ K "list":=⟨by kernel_rfl,by kernel_rfl,by kernel_rfl,by kernel_rfl,by kernel_rfl,by kernel_rfl⟩
theorem Hq(K:PySem.W.Frag):gJ K "str":=⟨by kernel_rfl,by kernel_rfl,by kernel_rfl,by kernel_rfl,by kernel_rfl,by kernel_rfl⟩
theorem zT(K:PySem.W.Frag):gJ K "tuple":=⟨by kernel_rfl,by kernel_rfl,by kernel_rfl,by kernel_rfl,by kernel_rfl,by kernel_rfl⟩
theorem Mk{K:PySem.W.Frag}{H:Hp}{a:Addr}{ns:List Int}(hO:Ii H)(hS:dD K H a (ns.map V.int)):cF K sF [.ref a] H (λ v _=>v=.bl true) λ _ _ _=>False:=by
 have UA:Jt K H a (ns.map V.int):=by
  rcases hS with(h|⟨o,h⟩)|h
  ·rcases hO a with z|⟨o,xs,z⟩
   ·rw[z]at h;cases h
   ·rw[z]at h;cases h
  ·exact .inl ⟨o,h⟩
  ·exact .inr h
 refine⟨[.fl (ns.map D.int)],λ _=>none,λ d _=>d=.bl true,aE.one (iT.mpr ⟨a,_,rfl,UA,kx ns⟩),λ a o e=>(by cases e),⟨ns,rfl,λ _=>rfl⟩,λ v H' d M' hd hm t e=>?_⟩
 subst e
 exact aW.mp hd
theorem Hi{A:Type}{P:List A->Prop}{n:Nat}(h:∀a t,t.length=n->P (a::t)):∀us:List A,us.length=n+1->P us
 |[],e=>nomatch e
 |a::t,e=>h a t (Nat.succ.inj e)
theorem nA{A:Type}{P:List A->Prop}(h:∀a,P [a]):∀us:List A,us.length=1->P us:=Hi λ a t e=>by rw[eq_nil_of_length_eq_zero e];exact h a
theorem lH{A:Type}{P:List A->Prop}(h:∀a b,P [a,b]):∀us:List A,us.length=2->P us:=Hi λ a=>nA (P:=λ t=>P (a::t)) (h a)
theorem Hj{A:Type}{P:List A->Prop}(h:∀a b c,P [a,b,c]):∀us:List A,us.length=3->P us:=Hi λ a=>lH (P:=λ t=>P (a::t)) (h a)
theorem Mj{A:Type}{P:List A->Prop}(h:∀a b c d,P [a,b,c,d]):∀us:List A,us.length=4->P us:=Hi λ a=>Hj (P:=λ t=>P (a::t)) (h a)
structure dB(K:PySem.W.Frag)(mg:Str->Option Value)(x:Str)(i:Nat)(f:Addr)(d:FuncData):Prop where
 m:mg x=some (.ref f)
 F:gM K x x (top i) f d
theorem all_mk{l:PySem.W.OpenLaw}{w:World}{K:PySem.W.Frag}{mg:Str->Option Value}{f0 f1 f2 f3 f4 f5 f6 f7 f8 f9 Yo Yn Ym Yl Yk Yj Yi Yh Yg Yf Ye Yd Yc Yb Ya X' X_ V8:Addr}{d0 d1 d2 d3 d4 d5 d6 d7 d8 d9 Wf We YE YD YC YB YA Yz Yy Yx Oh Q6 Yw Yv Wd Yu Yt:FuncData}{kV dc pm cd ct:Value}{an:Option Addr}
  (T:jR K mg)
  (t0:dB K mg "least_left_out" 1 f0 d0)
  (t1:dB K mg "number_by" 2 f1 d1)
  (t2:dB K mg "numbers" 3 f2 d2)
  (t3:dB K mg "number_of" 4 f3 d3)
  (t4:dB K mg "_law_flow" 6 f4 d4)
  (t5:dB K mg "_law_pick" 7 f5 d5)
  (t6:dB K mg "_law_alike" 8 f6 d6)
  (t7:dB K mg "_law_name" 9 f7 d7)
  (t8:dB K mg "_law_names" 10 f8 d8)
  (t9:dB K mg "_law_key" 11 f9 d9)
  (RP:dB K mg "_law_counts" 12 Yo Wf)
  (RO:dB K mg "_law_in_order" 13 Yn We)
  (RN:dB K mg "_law_lengths" 14 Ym YE)
  (RM:dB K mg "_law_options" 15 Yl YD)
  (RL:dB K mg "_law_game" 16 Yk YC)
  (RK:dB K mg "_law_moves" 17 Yj YB)
  (OB:dB K mg "_law_loses" 18 Yi YA)
  (RJ:dB K mg "_law_some_sum" 19 Yh Yz)
  (RI:dB K mg "_law_great_sum" 20 Yg Yy)
  (RH:dB K mg "_law_left_out" 21 Yf Yx)
  (RG:dB K mg "_law_number" 22 Ye Oh)
  (RF:dB K mg "_law_numbers" 23 Yd Q6)
  (RE:dB K mg "_law_nim" 24 Yc Yw)
  (RD:dB K mg "_law_all" 25 Yb Yv)
  (RC:dB K mg "_law_walkable" 26 Ya Wd)
  (RB:dB K mg "_law_doubles" 27 X' Yu)
  (RA:dB K mg "_law_drawn" 28 X_ Yt)
  (Wz:dB K mg "law" 29 V8 (PySem.W.fnOf "law" "law" (fj (top 29)) (dA (top 29)) (ay (top 29)) .none kV dc pm an cd ct)):
  ∃fd:FuncData,(∀(s:Shared) (v:Value),BindsTo s fd ⟨[v],[]⟩ [("_law_script",v)])/\∀base:Heap,K.In base->base.Ns mainGlobals mg->bZ l.prog w K mg base fE 305 V8 fd ["_law_script"] (cF K sF):=by
 refine⟨PySem.W.fnOf "law" "law" (fj (top 29)) (dA (top 29)) (ay (top 29)) .none kV dc pm an cd ct,λ s v=>.of_eq rfl,λ base _ _=>?_⟩
 have b0:=t0.F.binds (ps:=["taken"]) λ _ _ _ _ _ _=>nA λ _=>rfl
 have b1:=t1.F.binds (ps:=["by_heap","counts"]) λ _ _ _ _ _ _=>lH λ _ _=>rfl
 have b2:=t2.F.binds (ps:=["game"]) λ _ _ _ _ _ _=>nA λ _=>rfl
 have b3:=t3.F.binds (ps:=["game","counts"]) λ _ _ _ _ _ _=>lH λ _ _=>rfl
 have b4:=t4.F.binds (ps:=["_law_script"]) λ _ _ _ _ _ _=>nA λ _=>rfl
 have b5:=t5.F.binds (ps:=["_law_flow_here","_law_many"]) λ _ _ _ _ _ _=>lH λ _ _=>rfl
 have b6:=t6.F.binds (ps:=["_law_found","_law_due"]) λ _ _ _ _ _ _=>lH λ _ _=>rfl
 have b7:=t7.F.binds (ps:=["_law_flow_here"]) λ _ _ _ _ _ _=>nA λ _=>rfl
 have b8:=t8.F.binds (ps:=["_law_flow_here","_law_many"]) λ _ _ _ _ _ _=>lH λ _ _=>rfl
 have b9:=t9.F.binds (ps:=["_law_counts_here"]) λ _ _ _ _ _ _=>nA λ _=>rfl
 have YX:=RP.F.binds (ps:=["_law_heaps","_law_many"]) λ _ _ _ _ _ _=>lH λ _ _=>rfl
 have YW:=RO.F.binds (ps:=["_law_sums"]) λ _ _ _ _ _ _=>nA λ _=>rfl
 have YV:=RN.F.binds (ps:=["_law_options_here"]) λ _ _ _ _ _ _=>nA λ _=>rfl
 have YU:=RM.F.binds (ps:=["_law_flow_here","_law_ahead","_law_many","_law_deep"]) λ _ _ _ _ _ _=>Mj λ _ _ _ _=>rfl
 have YT:=RL.F.binds (ps:=["_law_flow_here","_law_most","_law_deep"]) λ _ _ _ _ _ _=>Hj λ _ _ _=>rfl
 have YS:=RK.F.binds (ps:=["_law_game_here","_law_counts_here"]) λ _ _ _ _ _ _=>lH λ _ _=>rfl
 have Wg:=OB.F.binds (ps:=["_law_game_here","_law_counts_here","_law_last","_law_known"]) λ _ _ _ _ _ _=>Mj λ _ _ _ _=>rfl
 have YR:=RJ.F.binds (ps:=["_law_flow_here","_law_many","_law_most"]) λ _ _ _ _ _ _=>Hj λ _ _ _=>rfl
 have YQ:=RI.F.binds (ps:=["_law_flow_here","_law_many"]) λ _ _ _ _ _ _=>lH λ _ _=>rfl
 have YO:=RH.F.binds (ps:=["_law_values"]) λ _ _ _ _ _ _=>nA λ _=>rfl
 have YN:=RG.F.binds (ps:=["_law_values","_law_counts_here"]) λ _ _ _ _ _ _=>lH λ _ _=>rfl
 have YM:=RF.F.binds (ps:=["_law_game_here"]) λ _ _ _ _ _ _=>nA λ _=>rfl
 have YL:=RE.F.binds (ps:=["_law_flow_here","_law_most"]) λ _ _ _ _ _ _=>lH λ _ _=>rfl
 have YK:=RD.F.binds (ps:=["_law_game_here","_law_counts_here","_law_most"]) λ _ _ _ _ _ _=>Hj λ _ _ _=>rfl
 have YJ:=RC.F.binds (ps:=["_law_flow_here","_law_game_here","_law_many","_law_most"]) λ _ _ _ _ _ _=>Mj λ _ _ _ _=>rfl
 have YI:=RB.F.binds (ps:=["_law_flow_here","_law_most"]) λ _ _ _ _ _ _=>lH λ _ _=>rfl
 have YH:=RA.F.binds (ps:=["_law_flow_here"]) λ _ _ _ _ _ _=>nA λ _=>rfl
 have cE:=bF.of t5.F (GL t5.F T (P:=l.prog) (w:=w) (base:=base)) t5.m b5
 have ze:=bF.of t4.F (GV t4.F T (P:=l.prog) (w:=w) (base:=base)) t4.m b4
 have y':=bF.of t7.F (GO t7.F T cE (P:=l.prog) (w:=w) (base:=base)) t7.m b7
 have rZ:=bF.of t9.F (LS t9.F T (P:=l.prog) (w:=w) (base:=base)) t9.m b9
 have iJ:=bF.of RO.F (Co RO.F T rZ (P:=l.prog) (w:=w) (base:=base)) RO.m YW
 have ff:=bF.of RP.F (zF RP.F T (P:=l.prog) (w:=w) (base:=base)) RP.m YX
 have yZ:=bF.of RJ.F (GK RJ.F T cE ff (P:=l.prog) (w:=w) (base:=base)) RJ.m YR
 have iI:=bF.of t8.F (Cm t8.F T y' (P:=l.prog) (w:=w) (base:=base)) t8.m b8
 have AO:=bF.of t6.F (LW t6.F T t6.m b6 (P:=l.prog) (w:=w) (base:=base) 3) t6.m b6
 have gP:=bF.of RK.F (zE RK.F T (P:=l.prog) (w:=w) (base:=base)) RK.m YS
 have zc:=bF.of t0.F (GS t0.F T (P:=l.prog) (w:=w) (base:=base)) t0.m b0
 have xm:=bF.of t1.F (Pl t1.F T (P:=l.prog) (w:=w) (base:=base)) t1.m b1
 have rY:=bF.of t2.F (LO t2.F T zc xm (P:=l.prog) (w:=w) (base:=base)) t2.m b2
 have AK:=bF.of t3.F (LN t3.F T rY xm (P:=l.prog) (w:=w) (base:=base)) t3.m b3
 have vp:=bF.of RH.F (Cn RH.F T (P:=l.prog) (w:=w) (base:=base)) RH.m YO
 have oU:=bF.of RG.F (GP RG.F T (P:=l.prog) (w:=w) (base:=base)) RG.m YN
 have za:=bF.of RF.F (GQ RF.F T vp oU (P:=l.prog) (w:=w) (base:=base)) RF.m YM
 have EH:=bF.of OB.F (LQ OB.F T gP OB.m Wg (P:=l.prog) (w:=w) (base:=base) 301) OB.m Wg
 have vq:=bF.of RI.F (Cp RI.F T cE (P:=l.prog) (w:=w) (base:=base)) RI.m YQ
 have AN:=bF.of RD.F (LV RD.F T gP rZ (P:=l.prog) (w:=w) (base:=base)) RD.m YK
 have zb:=bF.of RN.F (GR RN.F T (P:=l.prog) (w:=w) (base:=base)) RN.m YV
 have y_:=bF.of RM.F (GN RM.F T cE zb ff iJ (P:=l.prog) (w:=w) (base:=base)) RM.m YU
 have zd:=bF.of RL.F (GU RL.F T cE iI y_ (P:=l.prog) (w:=w) (base:=base)) RL.m YT
 have AL:=bF.of RE.F (LP RE.F T cE iI ff iJ (P:=l.prog) (w:=w) (base:=base)) RE.m YL
 have AJ:=bF.of RC.F (LM RC.F T cE yZ AN (P:=l.prog) (w:=w) (base:=base)) RC.m YJ
 have AM:=bF.of RB.F (LU RB.F T cE iI ff iJ (P:=l.prog) (w:=w) (base:=base)) RB.m YI
 have vt:=bF.of RA.F (Cq RA.F T cE AM AL zd (P:=l.prog) (w:=w) (base:=base)) RA.m YH
 exact LR Wz.F T ze cE vt za rY AO AJ AK oU EH gP vq
theorem walk{l:PySem.W.OpenLaw}{q:Program}{loose:List Str}{XP:(Str->Option Value)->Heap->Prop}{YP:World->Heap->Prop}{d:DefRec}{K:Params->PySem.W.Frag}(hn:l.most=some 63)(ui:d.params.defaults=[])
  (hY:∀(w:World) (h:Heap),YP w h->(K w.params).In h)
  (F:∀(w:World) (mg:Str->Option Value) (fa:Addr) (h:Heap),(K w.params).In h->h.Ns mainGlobals mg->mg d.name=some (.ref fa)->
   ∃fd:FuncData,(∀(s:Shared) (u:Value),BindsTo s fd ⟨[u],[]⟩ [("_law_script",u)])/\∀base:Heap,(K w.params).In base->base.Ns mainGlobals mg->bZ l.prog w (K w.params) mg base fE 305 fa fd ["_law_script"] (cF (K w.params) sF)):
  PySem.W.WalkO q loose XP YP l.row.toRowW d [] (λ f vs=>PySem.call f vs):=
 L2.EK (n:=63) (k:=305) (x:="_law_script") (CX:=λ _=>fE) (sp:=λ w=>cF (K w.params) sF) hn (by decide) ui ⟨rfl,by decide,by decide⟩ hY F (λ _ _ a ns hl hO hS=>Mk hO hS) λ _ _ _ _ _ z=>z
end KK
open PySem PySem.W PyProof.Rows
def PySem.W.Fast.tw13566849033582613146:Program:=PySem.Challenge.pw_lastloser_k40_numbers_left_out
theorem PySem.W.Fast.te13566849033582613146 : PySem.Challenge.pw_lastloser_k40_numbers_left_out = PySem.W.Fast.tw13566849033582613146 := rfl
namespace KK
open L2
noncomputable def kE (P:Params)(x:Str)(t:Nat)(v:Value):DictEntry:={hash:=PyData.keyHash P x,key:=.str x t,val:=v}
noncomputable def kO (x:Str)(t l n r s u:Nat)(v w:Value):Obj:={cls:=.type "code",data:=.fields #[.str x t,.str x (t+1),.str "/claim/cut.py" (t+2),.int l 0,.int n 0,.int 0 0,.int 0 0,.int 3 0,.ref r,.bool true,.int 181 0,.ref (r+1),.none,v,w,.ref s,.int u 0,.int l 0,.str "/claim/cut.py" (u+1)]}
noncomputable def kF (x:Str)(i:Nat)(m:Str×Nat)(c:Nat):Obj:={cls:=.type "function",data:=.func (PySem.W.fnOf x x (fj (top i)) (dA (top i)) (ay (top i)) .none .none .none (.str m.1 m.2) none (.ref c) .none)}
noncomputable def kP (x:Str)(a i:Nat)(m:Str×Nat)(t l n u q:Nat):List (Nat×Obj):=[(a,if q=0 then kO x t l n (a - 3) (a - 1) u .none .none else kO x t l n (a - 5) (a - 1) u (.ref (a - 3)) (.ref (a - 2))),(a+1,kF x i m a)]
noncomputable def m0:Str×Nat:=("lastloser.numbers",187)
noncomputable def m1:Str×Nat:=("law_lastloser_k40_numbers_left_out",222)
noncomputable def kD (P:Params):Obj:={cls:=.type "dict",data:=.dict #[kE P "__name__" 165 (.str "law_lastloser_k40_numbers_left_out" 222),kE P "__doc__" 166 .none,kE P "__package__" 167 .none,kE P "__loader__" 168 (.builtin "__main__.__loader__#opaque"),kE P "__spec__" 169 .none,kE P "__annotations__" 170 (.ref 6),kE P "__builtins__" 171 (.ref 4),kE P "__file__" 173 (.str "/claim/cut.py" 172),kE P "__cached__" 174 .none,kE P "least_left_out" 196 (.ref 21),kE P "number_by" 207 (.ref 28),kE P "numbers" 213 (.ref 33),kE P "number_of" 221 (.ref 40),kE P "_law_flow" 230 (.ref 47),kE P "_law_pick" 240 (.ref 54),kE P "_law_alike" 246 (.ref 59),kE P "_law_name" 252 (.ref 64),kE P "_law_names" 264 (.ref 71),kE P "_law_key" 270 (.ref 76),kE P "_law_counts" 276 (.ref 81),kE P "_law_in_order" 282 (.ref 86),kE P "_law_lengths" 288 (.ref 91),kE P "_law_options" 294 (.ref 96),kE P "_law_game" 300 (.ref 101),kE P "_law_moves" 306 (.ref 106),kE P "_law_loses" 312 (.ref 111),kE P "_law_some_sum" 318 (.ref 116),kE P "_law_great_sum" 330 (.ref 123),kE P "_law_left_out" 338 (.ref 130),kE P "_law_number" 349 (.ref 137),kE P "_law_numbers" 355 (.ref 142),kE P "_law_nim" 361 (.ref 147),kE P "_law_all" 375 (.ref 154),kE P "_law_walkable" 381 (.ref 159),kE P "_law_doubles" 387 (.ref 164),kE P "_law_drawn" 394 (.ref 171),kE P "law" 400 (.ref 176)] 37}
noncomputable def kK (P:Params):PySem.W.Frag:=(3,kD P)::[kP "least_left_out" 20 1 m0 189 2 1 194 1,kP "number_by" 27 2 m0 197 7 2 205 1,kP "numbers" 32 3 m0 208 13 1 211 0,kP "number_of" 39 4 m0 214 18 2 219 1,kP "_law_flow" 46 6 m1 224 21 1 228 1,kP "_law_pick" 53 7 m1 231 23 2 238 1,kP "_law_alike" 58 8 m1 241 38 2 244 0,kP "_law_name" 63 9 m1 247 50 1 250 0,kP "_law_names" 70 10 m1 253 59 2 262 1,kP "_law_key" 75 11 m1 265 69 1 268 0,kP "_law_counts" 80 12 m1 271 71 2 274 0,kP "_law_in_order" 85 13 m1 277 73 1 280 0,kP "_law_lengths" 90 14 m1 283 75 1 286 0,kP "_law_options" 95 15 m1 289 81 4 292 0,kP "_law_game" 100 16 m1 295 98 3 298 0,kP "_law_moves" 105 17 m1 301 105 2 304 0,kP "_law_loses" 110 18 m1 307 114 4 310 0,kP "_law_some_sum" 115 19 m1 313 122 3 316 0,kP "_law_great_sum" 122 20 m1 319 125 2 328 1,kP "_law_left_out" 129 21 m1 331 132 1 336 1,kP "_law_number" 136 22 m1 339 137 2 347 1,kP "_law_numbers" 141 23 m1 350 143 1 353 0,kP "_law_nim" 146 24 m1 356 148 2 359 0,kP "_law_all" 153 25 m1 362 163 3 373 1,kP "_law_walkable" 158 26 m1 376 174 4 379 0,kP "_law_doubles" 163 27 m1 382 183 2 385 0,kP "_law_drawn" 170 28 m1 388 194 1 392 1,kP "law" 175 29 m1 395 200 1 398 0].flatten
noncomputable def kA:List Addr:=[3,20,21,27,28,32,33,39,40,46,47,53,54,58,59,63,64,70,71,75,76,80,81,85,86,90,91,95,96,100,101,105,106,110,111,115,116,122,123,129,130,136,137,141,142,146,147,153,154,158,159,163,164,170,171,175,176]
theorem tF{K:PySem.W.Frag}{h:Heap}{mg:Str->Option Value}{x:Str}{i:Nat}(X:K.In h)(G:h.Ns mainGlobals mg)(m:Str×Nat)(c:Nat)(a:PySem.W.nsIn K mainGlobals x=some (some (.ref (c+1))):=by kernel_rfl)(l:K.lookup (c+1)=some (kF x i m c):=by kernel_rfl)(e:PySem.W.codeIn K (.ref c) x=true:=by kernel_rfl):dB K mg x i (c+1) (PySem.W.fnOf x x (fj (top i)) (dA (top i)) (ay (top i)) .none .none .none (.str m.1 m.2) none (.ref c) .none):=
 ⟨PySem.W.mg_of X G a,Nb (st:=top i) l e (by unfold PySem.W.keepIn;dsimp only;rw[l];rfl)⟩
theorem kn{K:PySem.W.Frag}{h:Heap}{mg:Str->Option Value}{x:Str}(X:K.In h)(G:h.Ns mainGlobals mg)(e:PySem.W.nsIn K mainGlobals x=some none:=by kernel_rfl):mg x=none:=PySem.W.mg_none_of X G e
def pg:Program:={PySem.Challenge.pw_lastloser_k40_numbers_left_out with main:={PySem.Challenge.pw_lastloser_k40_numbers_left_out.main with body:=[top 0,top 1,top 2,top 3,top 4,top 5,top 6,top 7,top 8,top 9,top 10,top 11,top 12,top 13,top 14,top 15,top 16,top 17,top 18,top 19,top 20,top 21,top 22,top 23,top 24,top 25,top 26,top 27,top 28,top 29]}}
def lw:PySem.W.OpenLaw:={PySem.Challenge.rw_lastloser_k40_numbers_left_out with prog:=pg}
end KK
set_option maxRecDepth 100000 in
set_option maxHeartbeats 0 in
theorem KK.pre:KK.lw.Holds:=by
 w_on;o_law;o_head (PySem.W.kHook KK.kK KK.kA (λ _=>by kernel_rfl));(case hw=>w_witness2)
 refine KK.walk (l:=KK.lw) rfl rfl (λ w h Y=>PySem.W.kIn_of Y) ?F
 case F=>
  intro w mg fa h KX G Qd
  have hm:mg "law"=some (.ref fa):=Qd
  have e:=hm.symm.trans (PySem.W.mg_of KX G (v:=.ref (175+1)) (by kernel_rfl))
  cases e
  exact KK.all_mk ⟨KK.kn KX G,KK.kn KX G,KK.kn KX G,KK.kn KX G,KK.kn KX G,KK.kn KX G,KK.kn KX G,KK.kn KX G,KK.kn KX G,KK.kn KX G,KK.kn KX G,KK.kn KX G,KK.kn KX G,KK.kn KX G,KK.kn KX G,KK.kn KX G,KK.Dh _,KK.Hr _,KK.Dg _,KK.Hq _,KK.zT _⟩ (KK.tF KX G KK.m0 20) (KK.tF KX G KK.m0 27) (KK.tF KX G KK.m0 32) (KK.tF KX G KK.m0 39) (KK.tF KX G KK.m1 46) (KK.tF KX G KK.m1 53) (KK.tF KX G KK.m1 58) (KK.tF KX G KK.m1 63) (KK.tF KX G KK.m1 70) (KK.tF KX G KK.m1 75) (KK.tF KX G KK.m1 80) (KK.tF KX G KK.m1 85) (KK.tF KX G KK.m1 90) (KK.tF KX G KK.m1 95) (KK.tF KX G KK.m1 100) (KK.tF KX G KK.m1 105) (KK.tF KX G KK.m1 110) (KK.tF KX G KK.m1 115) (KK.tF KX G KK.m1 122) (KK.tF KX G KK.m1 129) (KK.tF KX G KK.m1 136) (KK.tF KX G KK.m1 141) (KK.tF KX G KK.m1 146) (KK.tF KX G KK.m1 153) (KK.tF KX G KK.m1 158) (KK.tF KX G KK.m1 163) (KK.tF KX G KK.m1 170) (KK.tF KX G KK.m1 175)
theorem PySem.Challenge.cw_lastloser_k40_numbers_left_out_holds : PySem.Challenge.rw_lastloser_k40_numbers_left_out.Holds :=
 KK.pre
